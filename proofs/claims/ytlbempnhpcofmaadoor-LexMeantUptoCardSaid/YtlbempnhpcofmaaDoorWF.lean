/- LexMeant. -/
import Derived.Test.YtlbempnhpcofmaaDoorPM
import Derived.Test.YtlbempnhpcofmaaDoorBC
set_option linter.unusedVariables false
namespace Go.Proofs.YtlbempnhpcofmaaDoor
open Go.RowKit

theorem unqR_size (r acc : List UInt8) (n : Nat) (x : List UInt8 × Nat) (h : unqR r acc n = some x) : x.1.length + (n + 1) ≤ acc.length + x.2 := by
  match r with
  | [] => rw [unqR_nil] at h; cases h
  | c :: r =>
    by_cases h1 : c.toNat = 34
    · rw [unqR_end _ _ _ _ h1] at h; simp only [Option.some.injEq] at h; subst h; simp
    · by_cases h2 : c.toNat = 92
      · match r with
        | [] => rw [unqR_esc0 _ _ _ h2] at h; cases h
        | d :: r =>
          rw [unqR_esc1 _ _ _ _ _ h2] at h
          by_cases hq : qb d = true
          · rw [if_pos hq] at h
            have := unqR_size r (acc ++ [d]) _ x h
            simp only [List.length_append, List.length_cons, List.length_nil] at this; omega
          · rw [if_neg hq] at h; cases h
      · rw [unqR_one _ _ _ _ h1 h2] at h
        by_cases hq : qb c = true
        · rw [if_pos hq] at h
          have := unqR_size r (acc ++ [c]) _ x h
          simp only [List.length_append, List.length_cons, List.length_nil] at this; omega
        · rw [if_neg hq] at h; cases h
termination_by r.length
theorem unq_size (l : List UInt8) (x : List UInt8 × Nat) (h : unq l = some x) : x.1.length + 2 ≤ x.2 := by
  cases l with
  | nil => cases h
  | cons c r =>
    unfold unq at h
    simp only at h
    split at h
    · have := unqR_size r [] 1 x h
      simp only [List.length_nil] at this; omega
    · cases h
theorem prm_size (l : List UInt8) (x : (List UInt8 × List UInt8) × Nat) (h : prm l = some x) : x.1.1.length + x.1.2.length + 1 ≤ x.2 ∧ x.2 ≤ l.length := by
  have h0 := prm_len l x h
  refine ⟨?_, h0.2.1⟩
  have hle := tok_le l
  unfold prm at h
  split at h
  · cases h
  · split at h
    · simp only [Option.some.injEq] at h
      subst h
      simp only [List.length_map, List.length_take, List.length_drop]; omega
    · cases hu : unq (l.drop (tok l + 1)) with
      | none => rw [hu] at h; cases h
      | some y =>
        rw [hu] at h
        simp only [Option.some.injEq] at h
        subst h
        have := unq_size _ y hu
        simp only [List.length_map, List.length_take]; omega
theorem prsF_size : ∀ (f : Nat) (l : List UInt8) (ps : PL), prsF f l = some ps → psz ps ≤ 7 * l.length
  | 0, l, ps, h => by simp only [prsF, Option.some.injEq] at h; subst h; simp [psz]
  | f + 1, l, ps, h => by
    have k1 := skip_len l
    have k2 := skip_len (skip l).tail
    rw [tail_len] at k2
    simp only [prsF] at h
    split at h
    · simp only [Option.some.injEq] at h; subst h; simp [psz]
    · split at h
      · cases h
      · split at h
        · have := prsF_size f _ ps h; omega
        · cases hp : prm (skip (skip l).tail) with
          | none => rw [hp] at h; cases h
          | some x =>
            rw [hp] at h
            simp only at h
            have hx := prm_size _ x hp
            cases hr : prsF f ((skip (skip l).tail).drop x.2) with
            | none => rw [hr] at h; cases h
            | some m =>
              rw [hr] at h
              simp only [Option.map_some, Option.some.injEq] at h
              subst h
              have := prsF_size f _ m hr
              rw [List.length_drop] at this
              simp only [psz]; omega
theorem media_size (l : List UInt8) (x : List UInt8 × List UInt8 × PL) (h : media l = some x) : x.1.length + x.2.1.length + psz x.2.2 ≤ 9 * l.length := by
  have htl := trim_len l
  unfold media at h
  split at h
  · cases h
  · split at h
    · cases h
    · cases hp : prs (((trim l).drop (tok (trim l) + 1)).drop (tok ((trim l).drop (tok (trim l) + 1)))) with
      | none => rw [hp] at h; cases h
      | some ps =>
        rw [hp] at h
        simp only [Option.map_some, Option.some.injEq] at h
        subst h
        have := prsF_size _ _ ps hp
        have := tok_le (trim l)
        simp only [List.length_drop, List.length_map, List.length_take] at *
        omega
theorem psz_get (ps : PL) (j : Nat) (hj : j < ps.length) : ps[j].1.length + ps[j].2.length ≤ psz ps := by have := psz_take ps j hj; omega
theorem psz_len (ps : PL) : ps.length ≤ psz ps := by
  induction ps with
  | nil => simp [psz]
  | cons p r ih => simp only [psz, List.length_cons]; omega
theorem textM_len (ty sub : List UInt8) (ps : PL) : (textM ty sub ps).length ≤ ty.length + sub.length + psz ps + 1 := by
  unfold textM
  have := textP_len ps
  split
  · simp only [List.length_append, List.length_cons, List.length_nil]; omega
  · simp
theorem text_small (T S : ByteArray) (ps : PL) (av : Option Addr) (an ac : Nat) (w : World) (han : ps.length = an) (hav : SrcA w av ac (ps.map mk2)) (hs : T.size + S.size + psz ps ≤ 1073741824) :
    Calls Tryd.prog 29 #[.agg #[.string T, .string S, .slice av an ac]] w fun e w' => e = .returned (.string (mk (textM T.data.toList S.data.toList ps))) ∧ Below w.heap.size w w' :=
  text_any T S ps av an ac w han hav hs (fun j hj => by have := psz_get ps j hj; omega) (by have := psz_len ps; omega)

set_option maxHeartbeats 32000000 in
set_option maxRecDepth 100000 in
theorem lexMeant_any (X T S : ByteArray) (ps : PL) (av : Option Addr) (an ac : Nat) (w : World) (hx : X.size ≤ 2097152) (han : ps.length = an) (hav : SrcA w av ac (ps.map mk2)) (hs : T.size + S.size + psz ps ≤ 16777216) :
    Calls Tryd.prog 9 #[.string X, .agg #[.string T, .string S, .slice av an ac]] w fun e w' => e = .returned (.bool true) ∧ Below w.heap.size w w' := by
  have H0 := Lib.hid fun wx => shown_any wx
  have hm := fun wx => media_any X wx (by omega)
  have hpl := psz_len ps
  obtain ⟨t, ht⟩ : ∃ t, t = mk (textM T.data.toList S.data.toList ps) := ⟨_, rfl⟩
  have HT : Hid (∀ wx, SrcA wx av ac (ps.map mk2) → Calls Tryd.prog 29 #[.agg #[.string T, .string S, .slice av an ac]] wx fun e w' => e = .returned (.string t) ∧ Below wx.heap.size wx w') := Lib.hid fun wx h => by
    rw [ht]; exact text_small T S ps av an ac wx han h (by omega)
  have htl := textM_len T.data.toList S.data.toList ps
  rw [len_data, len_data] at htl
  have hts : t.size = (textM T.data.toList S.data.toList ps).length := by rw [ht]; exact size_mk _
  have htd : t.data.toList = textM T.data.toList S.data.toList ps := by rw [ht]; exact mk_list _
  have hcase : t = ⟨#[]⟩ ∨ (0 < t.size ∧ ∀ wx, Calls Tryd.prog 27 #[.string (((⟨#[9]⟩ : ByteArray) ++ t) ++ (⟨#[32]⟩ : ByteArray))] wx fun e w' => Below wx.heap.size wx w' ∧ ∃ v, e = .returned (.tuple #[.agg #[.string T, .string S, v], .int .i64 0]) ∧ OwnA w' wx.heap.size v (ps.map mk2)) := by
    by_cases hte : textM T.data.toList S.data.toList ps = []
    · left; rw [ht, hte]; rfl
    · right
      refine ⟨by rw [hts]; cases hh : textM T.data.toList S.data.toList ps; exact absurd hh hte; simp, fun wx => ?_⟩
      have hmt := media_text _ _ ps (textM_ne _ _ ps hte) [9] [32] (.inr rfl) (.inr rfl)
      have hh := media_any (((⟨#[9]⟩ : ByteArray) ++ t) ++ (⟨#[32]⟩ : ByteArray)) wx (by
        have e1 : (⟨#[9]⟩ : ByteArray).size = 1 := rfl
        have e2 : (⟨#[32]⟩ : ByteArray).size = 1 := rfl
        rw [app_size2, app_size2, e1, e2]; omega)
      rw [app_list2, app_list2, htd, show (⟨#[9]⟩ : ByteArray).data.toList = [9] from rfl, show (⟨#[32]⟩ : ByteArray).data.toList = [32] from rfl, hmt] at hh
      exact hh
  have HCASE := Lib.hid hcase
  have HAV := Lib.hid hav
  have hn1 : ¬ 9223372036854775807 < 1 + t.size := by omega
  have hn2 : ¬ 9223372036854775807 < 1 + t.size + 1 := by omega
  have HLEN : Hid ((ps.map mk2).length = an) := Lib.hid (by rw [List.length_map]; exact han)
  have hanb : an ≤ 16777216 := by omega
  clear hcase hav ht htl hts htd
  cases hR : media X.data.toList with
  | none =>
    rw [hR] at hm
    have HM : Hid (∀ wx, Calls Tryd.prog 27 #[.string X] wx fun e w' => Below wx.heap.size wx w' ∧ e = .returned (.tuple #[.agg #[.string ⟨#[]⟩, .string ⟨#[]⟩, .slice none 0 0], .int .i64 6])) := Lib.hid hm
    clear hm hR
    go_enter Tryd.func9, Tryd.ntmps9
    go_wp2_with fail
    refine (H0.out _).mono ?_; rintro e w1 ⟨rfl, hb⟩
    have B1 := Lib.hid hb
    clear hb
    go_wp2_with fail
    refine (HM.out _).mono ?_; rintro e w2 ⟨hb, rfl⟩
    have hb2 := B1.out.trans (hb.mono B1.out.size)
    have f0 := (res_cells w w2 _ _ hb2 0).1.1
    have f1 := (res_cells w w2 _ _ hb2 1).1.1
    have f2 := (res_cells w w2 _ _ hb2 2).1.1
    have hz : w.heap.size < w2.heap.size := by have := hb2.size; simp at this; omega
    have BK : Hid (Below (w.alloc (.cells #[.string T, .string S, .slice av an ac] 35)).heap.size (w.alloc (.cells #[.string T, .string S, .slice av an ac] 35)) (w2.alloc (.cells #[.string ⟨#[]⟩, .string ⟨#[]⟩, .slice none 0 0] 35))) := Lib.hid (hb2.alloc hb2.size _)
    have BW : Hid (Below w.heap.size w (w2.alloc (.cells #[.string ⟨#[]⟩, .string ⟨#[]⟩, .slice none 0 0] 35))) := Lib.hid (((Below.refl _ _).alloc (Nat.le_refl _) _).trans (BK.out.mono (by simp)))
    clear hb hb2
    go_wp2_with fail
    refine (HT.out _ (HAV.out.below (Nat.le_refl _) BW.out)).mono ?_; rintro e w6 ⟨rfl, hb⟩
    have hb6 := BK.out.trans (hb.mono BK.out.size)
    have k0 := (res_cells w w6 _ _ hb6 0).1.1
    have k1 := (res_cells w w6 _ _ hb6 1).1.1
    have k2 := (res_cells w w6 _ _ hb6 2).1.1
    have hz6 : w.heap.size < w6.heap.size := by have := hb6.size; simp at this; omega
    have B6 := Lib.hid hb6
    have BW6 : Hid (Below w.heap.size w w6) := Lib.hid (((Below.refl _ _).alloc (Nat.le_refl _) _).trans (hb6.mono (by simp)))
    clear hb hb6 f0 f1 f2
    rcases HCASE.out with he | ⟨hpos, h2⟩
    · subst he
      go_wp2
      go_ret
      exact ⟨rfl, BW6.out⟩
    · obtain ⟨g1, g2, _⟩ := nonempty_beq hpos
      have HM2 := Lib.hid h2
      clear h2
      go_wp2_with fail
      refine (HM2.out _).mono ?_; rintro e w7 ⟨hb, v2, rfl, hown⟩
      have hb7 := B6.out.trans (hb.mono B6.out.size)
      have m0 := (res_cells w w7 _ _ hb7 0).1.1
      have m1 := (res_cells w w7 _ _ hb7 1).1.1
      have m2 := (res_cells w w7 _ _ hb7 2).1.1
      have hz7 : w.heap.size < w7.heap.size := by have := hb7.size; simp at this; omega
      have BW7 : Hid (Below w.heap.size w w7) := Lib.hid (((Below.refl _ _).alloc (Nat.le_refl _) _).trans (hb7.mono (by simp)))
      obtain ⟨a2, c2, hv2, hsrc2, _⟩ := ownA_src hown
      rw [HLEN.out] at hv2
      subst hv2
      have HSE : Hid (∀ o, Calls Tryd.prog 28 #[.agg #[.string T, .string S, .slice a2 an c2], .agg #[.string T, .string S, .slice av an ac]] (w7.alloc o) fun e w' => e = .returned (.bool true) ∧ Below (w7.alloc o).heap.size (w7.alloc o) w') := Lib.hid fun o =>
        sameMedia_eq T S a2 av an c2 ac (ps.map mk2) (w7.alloc o) HLEN.out (hsrc2.below (Nat.le_refl _) ((Below.refl _ _).alloc (Nat.le_refl _) _)) (HAV.out.below (Nat.le_refl _) (BW7.out.alloc BW7.out.size _)) (by omega)
      clear hb hb7 hown hsrc2 k0 k1 k2
      go_wp2_with fail
      refine (HSE.out _).mono ?_; rintro e w8 ⟨rfl, hb⟩
      have B8 : Hid (Below w.heap.size w w8) := Lib.hid ((BW7.out.alloc BW7.out.size _).trans (hb.mono (by have := BW7.out.size; simp; omega)))
      clear hb
      go_wp2
      go_ret
      exact ⟨rfl, B8.out⟩
  | some x =>
    obtain ⟨ty, sub, qs⟩ := x
    have hsz := media_size _ _ hR
    have htx := media_textual _ _ hR
    rw [len_data] at hsz
    simp only at hsz
    rw [hR] at hm
    have HM : Hid (∀ wx, Calls Tryd.prog 27 #[.string X] wx fun e w' => Below wx.heap.size wx w' ∧ ∃ v, e = .returned (.tuple #[.agg #[.string (mk ty), .string (mk sub), v], .int .i64 0]) ∧ OwnA w' wx.heap.size v (qs.map mk2)) := Lib.hid hm
    have hql := psz_len qs
    obtain ⟨qn, hqn⟩ : ∃ qn, qs.length = qn := ⟨_, rfl⟩
    have HQN : Hid ((qs.map mk2).length = qn) := Lib.hid (by rw [List.length_map]; exact hqn)
    have hqb : qn ≤ 35184372088832 := by omega
    obtain ⟨u, hu⟩ : ∃ u, u = mk (textM ty sub qs) := ⟨_, rfl⟩
    obtain ⟨A, hA⟩ : ∃ A, A = mk ty := ⟨_, rfl⟩
    obtain ⟨B, hB⟩ : ∃ B, B = mk sub := ⟨_, rfl⟩
    have hAs : A.size = ty.length := by rw [hA]; exact size_mk _
    have hBs : B.size = sub.length := by rw [hB]; exact size_mk _
    have HX1 : Hid (∀ a1 c1 wx, SrcA wx a1 c1 (qs.map mk2) → Calls Tryd.prog 29 #[.agg #[.string A, .string B, .slice a1 qn c1]] wx fun e w' => e = .returned (.string u) ∧ Below wx.heap.size wx w') := Lib.hid fun a1 c1 wx h => by
      have := text_small A B qs a1 qn c1 wx hqn h (by omega)
      rw [hA, hB, mk_list, mk_list, ← hu] at this
      rw [hA, hB]; exact this
    have HM2' : Hid (∀ wx, Calls Tryd.prog 27 #[.string u] wx fun e w' => Below wx.heap.size wx w' ∧ ∃ v, e = .returned (.tuple #[.agg #[.string A, .string B, v], .int .i64 0]) ∧ OwnA w' wx.heap.size v (qs.map mk2)) := Lib.hid fun wx => by
      have hus : u.size = (textM ty sub qs).length := by rw [hu]; exact size_mk _
      have hul := textM_len ty sub qs
      have hmt := media_text ty sub qs htx [] [] (.inl rfl) (.inl rfl)
      rw [List.nil_append, List.append_nil] at hmt
      have hh := media_any u wx (by omega)
      rw [show u.data.toList = textM ty sub qs by rw [hu]; exact mk_list _, hmt] at hh
      rw [hA, hB]; exact hh
    rw [← hA, ← hB] at HM
    clear hm hR hsz htx hql hqn hu hA hB hAs hBs
    go_enter Tryd.func9, Tryd.ntmps9
    go_wp2_with fail
    refine (H0.out _).mono ?_; rintro e w1 ⟨rfl, hb⟩
    have B1 := Lib.hid hb
    clear hb
    go_wp2_with fail
    refine (HM.out _).mono ?_; rintro e w2 ⟨hb, v1, rfl, hown⟩
    obtain ⟨a1, c1, hv1, hsrc, _⟩ := ownA_src hown
    rw [HQN.out] at hv1
    subst hv1
    have B2 := Lib.hid (B1.out.trans (hb.mono B1.out.size))
    have HS2 := Lib.hid hsrc
    clear hb hown hsrc
    go_wp2_with fail
    refine (HX1.out _ _ _ (HS2.out.below (Nat.le_refl _) ((Below.refl _ _).alloc (Nat.le_refl _) _))).mono ?_; rintro e w3 ⟨rfl, hb⟩
    have B3 := Lib.hid hb
    clear hb
    go_wp2_with fail
    refine (HM2'.out _).mono ?_; rintro e w4 ⟨hb, v4, rfl, hown⟩
    obtain ⟨a4, c4, hv4, hsrc4, _⟩ := ownA_src hown
    rw [HQN.out] at hv4
    subst hv4
    have hb4 := B3.out.trans (hb.mono B3.out.size)
    have a0 := (res_cells w2 w4 _ _ hb4 0).1.1
    have a1' := (res_cells w2 w4 _ _ hb4 1).1.1
    have a2' := (res_cells w2 w4 _ _ hb4 2).1.1
    have hzA : w2.heap.size < w4.heap.size := by have := hb4.size; simp at this; omega
    have hb24 : Below w2.heap.size w2 w4 := ((Below.refl _ _).alloc (Nat.le_refl _) _).trans (hb4.mono (by simp))
    have B4 := Lib.hid (B2.out.trans (hb24.mono B2.out.size))
    have HSE' : Hid (∀ o, Calls Tryd.prog 28 #[.agg #[.string A, .string B, .slice a1 qn c1], .agg #[.string A, .string B, .slice a4 qn c4]] (w4.alloc o) fun e w' => e = .returned (.bool true) ∧ Below (w4.alloc o).heap.size (w4.alloc o) w') := Lib.hid fun o =>
      sameMedia_eq A B a1 a4 qn c1 c4 (qs.map mk2) (w4.alloc o) HQN.out (HS2.out.below (Nat.le_refl _) (hb24.alloc hb24.size _)) (hsrc4.below (Nat.le_refl _) ((Below.refl _ _).alloc (Nat.le_refl _) _)) hqb
    clear hb hown hsrc4 hb4 hb24
    go_wp2_with fail
    refine (HSE'.out _).mono ?_; rintro e w5 ⟨rfl, hb⟩
    have hb5 := (B4.out.alloc B4.out.size _).trans (hb.mono (by have := B4.out.size; simp at this ⊢; omega))
    have f0 := (res_cells w w5 _ _ hb5 0).1.1
    have f1 := (res_cells w w5 _ _ hb5 1).1.1
    have f2 := (res_cells w w5 _ _ hb5 2).1.1
    have BK := Lib.hid hb5
    have BW : Hid (Below w.heap.size w w5) := Lib.hid (((Below.refl _ _).alloc (Nat.le_refl _) _).trans (hb5.mono (by simp)))
    clear hb hb5 a0 a1' a2' hzA
    go_wp2_with fail
    refine (HT.out _ (HAV.out.below (Nat.le_refl _) BW.out)).mono ?_; rintro e w6 ⟨rfl, hb⟩
    have hb6 := BK.out.trans (hb.mono BK.out.size)
    have k0 := (res_cells w w6 _ _ hb6 0).1.1
    have k1 := (res_cells w w6 _ _ hb6 1).1.1
    have k2 := (res_cells w w6 _ _ hb6 2).1.1
    have hz6 : w.heap.size < w6.heap.size := by have := hb6.size; simp at this; omega
    have B6 := Lib.hid hb6
    have BW6 : Hid (Below w.heap.size w w6) := Lib.hid (((Below.refl _ _).alloc (Nat.le_refl _) _).trans (hb6.mono (by simp)))
    clear hb hb6 f0 f1 f2
    rcases HCASE.out with he | ⟨hpos, h2⟩
    · subst he
      go_wp2
      go_ret
      exact ⟨rfl, BW6.out⟩
    · obtain ⟨g1, g2, _⟩ := nonempty_beq hpos
      have HM2 := Lib.hid h2
      clear h2
      go_wp2_with fail
      refine (HM2.out _).mono ?_; rintro e w7 ⟨hb, v2, rfl, hown⟩
      have hb7 := B6.out.trans (hb.mono B6.out.size)
      have m0 := (res_cells w w7 _ _ hb7 0).1.1
      have m1 := (res_cells w w7 _ _ hb7 1).1.1
      have m2 := (res_cells w w7 _ _ hb7 2).1.1
      have hz7 : w.heap.size < w7.heap.size := by have := hb7.size; simp at this; omega
      have BW7 : Hid (Below w.heap.size w w7) := Lib.hid (((Below.refl _ _).alloc (Nat.le_refl _) _).trans (hb7.mono (by simp)))
      obtain ⟨a2, c2, hv2, hsrc2, _⟩ := ownA_src hown
      rw [HLEN.out] at hv2
      subst hv2
      have HSE : Hid (∀ o, Calls Tryd.prog 28 #[.agg #[.string T, .string S, .slice a2 an c2], .agg #[.string T, .string S, .slice av an ac]] (w7.alloc o) fun e w' => e = .returned (.bool true) ∧ Below (w7.alloc o).heap.size (w7.alloc o) w') := Lib.hid fun o =>
        sameMedia_eq T S a2 av an c2 ac (ps.map mk2) (w7.alloc o) HLEN.out (hsrc2.below (Nat.le_refl _) ((Below.refl _ _).alloc (Nat.le_refl _) _)) (HAV.out.below (Nat.le_refl _) (BW7.out.alloc BW7.out.size _)) (by omega)
      clear hb hb7 hown hsrc2 k0 k1 k2
      go_wp2_with fail
      refine (HSE.out _).mono ?_; rintro e w8 ⟨rfl, hb⟩
      have B8 : Hid (Below w.heap.size w w8) := Lib.hid ((BW7.out.alloc BW7.out.size _).trans (hb.mono (by have := BW7.out.size; simp; omega)))
      clear hb
      go_wp2
      go_ret
      exact ⟨rfl, B8.out⟩
end Go.Proofs.YtlbempnhpcofmaaDoor
