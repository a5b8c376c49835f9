/- Harden: what kind a response is: the document's answer. -/
import Derived.Test.YthkgaaibhjkngaaDoorHF
import Derived.Test.YthkgaaibhjkngaaDoorBH
import Derived.IntWalk
set_option linter.unusedVariables false
namespace Go.Proofs.YthkgaaibhjkngaaDoor
open Go.RowKit

theorem sfx_raw (B : ByteArray) : (decide (4 ≤ B.size) && ((B.extract (B.size - 4) B.size).toList == [43, 120, 109, 108])) = sfx B.toList := by
  have h := Lib.hasSuffix_raw B ⟨#[43, 120, 109, 108]⟩
  rw [show (⟨#[43, 120, 109, 108]⟩ : ByteArray).toList = [43, 120, 109, 108] by rw [toList_data']] at h
  rw [toList_data' B]
  exact h
theorem any_no (L : List ByteArray) (h : ∀ j (hj : j < L.length), notIde L[j] = false) : L.any notIde = false := by
  rw [List.any_eq_false]; intro x hx; obtain ⟨j, hj, rfl⟩ := List.getElem_of_mem hx; rw [h j hj]; simp
theorem any_yes (L : List ByteArray) (k : Nat) (hk : k < L.length) (h : notIde L[k] = true) : L.any notIde = true := by
  rw [List.any_eq_true]; exact ⟨_, List.getElem_mem hk, h⟩

set_option maxHeartbeats 16000000 in
set_option maxRecDepth 100000 in
theorem rKind_any (l : AL) (st : Int) (rs : ByteArray) (a : Option Addr) (n c : Nat) (w : World) (hn : l.length = n) (hs : SrcA w a c l) (hz : asz l ≤ 1073741824) :
    Calls Tryd.prog 25 #[.agg #[.int .i64 st, .string rs, .slice a n c]] w (KindSays (kindF l) w) := by
  have hall := fun wx (hb : Below w.heap.size w wx) => rAll_any l ⟨#[99, 111, 110, 116, 101, 110, 116, 45, 116, 121, 112, 101]⟩ a n c wx hn (hs.below (Nat.le_refl _) hb) hz (by decide)
  have henc := fun wx (hb : Below w.heap.size w wx) => rMembers_any l ⟨#[99, 111, 110, 116, 101, 110, 116, 45, 101, 110, 99, 111, 100, 105, 110, 103]⟩ a n c wx hn (hs.below (Nat.le_refl _) hb) hz (by decide)
  have hbz := allF_bsz l ⟨#[99, 111, 110, 116, 101, 110, 116, 45, 116, 121, 112, 101]⟩
  have hbz2 := allF_bsz l ⟨#[99, 111, 110, 116, 101, 110, 116, 45, 101, 110, 99, 111, 100, 105, 110, 103]⟩
  have hF : encF l = match memF (allF l ⟨#[99, 111, 110, 116, 101, 110, 116, 45, 101, 110, 99, 111, 100, 105, 110, 103]⟩) with | none => true | some ms => (ms.map mk).any notIde := rfl
  obtain ⟨R, hR⟩ : ∃ R, R = kindF l := ⟨_, rfl⟩
  rw [← hR]
  unfold kindF at hR
  generalize allF l ⟨#[99, 111, 110, 116, 101, 110, 116, 45, 101, 110, 99, 111, 100, 105, 110, 103]⟩ = vs at henc hbz2 hF
  generalize allF l ⟨#[99, 111, 110, 116, 101, 110, 116, 45, 116, 121, 112, 101]⟩ = ts at hall hbz hR
  have HALL := Lib.hid hall
  have HBA : Hid (Below w.heap.size w (w.alloc (.cells #[.int .i64 st, .string rs, .slice a n c] 39))) := Lib.hid ((Below.refl _ _).alloc (Nat.le_refl _) _)
  clear hall hs hn
  cases ts with
  | nil =>
    have HV : Hid (R = (false, ⟨#[]⟩, 0)) := Lib.hid hR
    clear hR henc hbz2 hF
    go_enter Tryd.func25, Tryd.ntmps25
    go_wp2_with fail
    refine (HALL.out _ HBA.out).mono ?_; rintro e w1 ⟨hb, v, rfl, hown⟩
    obtain ⟨a1, c1, rfl, hsrc⟩ := ownS_src hown
    have HB1 := Lib.hid (HBA.out.trans (hb.mono HBA.out.size))
    clear hb hown hsrc
    go_wp2
    exact bodyPost_ret (v := .tuple #[.bool false, .string ⟨#[]⟩, .int .i64 0]) (by simp [results, Tryd.results25, go_sem]) rfl (kindSays HV.out HB1.out)
  | cons t r =>
    have htz : t.size ≤ 1073741824 := by simp only [bsz] at hbz; omega
    have hrl : r.length ≤ 1073741824 := by have := bsz_len r; simp only [bsz] at hbz; omega
    have hmed := fun wx => rmedia_any t wx htz
    replace hR : R = kindM l r (media t.data.toList) := hR
    have hms := fun x (h : media t.data.toList = some x) => media_sub t.data.toList x h
    rw [len_data] at hms
    generalize media t.data.toList = M at hmed hR hms
    have HT : Hid (∀ (a : Option Addr) c wx, SrcS wx a c (t :: r) → ∃ b o, a = some ⟨b, o, none⟩ ∧ b < wx.heap.size ∧ wx.cell? ⟨b, o, none⟩ = some (.string t)) := Lib.hid fun a c wx h => h.at_ 0 (by simp)
    obtain ⟨N1, hN1⟩ : ∃ N1, (t :: r).length = N1 := ⟨_, rfl⟩
    have HN1 := Lib.hid hN1
    have hn1 : N1 = r.length + 1 := by rw [← hN1]; rfl
    have hr1 : r ≠ [] ↔ 1 < N1 := by rw [hn1]; cases r <;> simp
    have hn0 : 0 < N1 := by omega
    have hnb : N1 ≤ 1073741825 := by omega
    have hsb : ∀ x, M = some x → x.2.1.length ≤ 1073741824 := fun x h => Nat.le_trans (hms x h) htz
    clear hbz htz hrl hN1 hn1 hms
    unfold kindM at hR
    by_cases hone : 1 < N1
    · have HV : Hid (R = (false, ⟨#[]⟩, 6)) := Lib.hid (by rw [hR, if_pos (hr1.2 hone)])
      clear hR hr1 hmed hsb henc hbz2 hF
      go_enter Tryd.func25, Tryd.ntmps25
      go_wp2_with fail
      refine (HALL.out _ HBA.out).mono ?_; rintro e w1 ⟨hb, v, rfl, hown⟩
      obtain ⟨a1, c1, hv, hsrc⟩ := ownS_src hown
      rw [HN1.out] at hv
      subst hv
      obtain ⟨b0, o0, rfl, hb0, d1⟩ := HT.out _ _ _ hsrc
      have p2 := (res_cells w w1 _ _ hb 2).1.1
      have HB1 := Lib.hid (HBA.out.trans (hb.mono HBA.out.size))
      have hz1 : w.heap.size < w1.heap.size := by have := hb.size; simp at this; omega
      clear hb hown hsrc
      go_wp2
      exact bodyPost_ret (v := .tuple #[.bool false, .string ⟨#[]⟩, .int .i64 6]) (by simp [results, Tryd.results25, go_sem]) rfl (kindSays HV.out HB1.out)
    · have hN : N1 = 1 := by omega
      subst hN
      have hr0 : r = [] := by
        cases r with
        | nil => rfl
        | cons u v => exact absurd (hr1.1 (by simp)) hone
      rw [if_neg (by simp [hr0])] at hR
      clear hr1 hone hn0 hnb hr0
      cases M with
      | none =>
        have HV : Hid (R = (false, ⟨#[]⟩, 6)) := Lib.hid hR
        have HM : Hid (∀ wx, Calls Tryd.prog 59 #[.string t] wx fun e w' => Below wx.heap.size wx w' ∧ e = .returned (.tuple #[.agg #[.string ⟨#[]⟩, .string ⟨#[]⟩, .slice none 0 0], .int .i64 6])) := Lib.hid hmed
        clear hR hmed hsb henc hbz2 hF
        go_enter Tryd.func25, Tryd.ntmps25
        go_wp2_with fail
        refine (HALL.out _ HBA.out).mono ?_; rintro e w1 ⟨hb, v, rfl, hown⟩
        obtain ⟨a1, c1, hv, hsrc⟩ := ownS_src hown
        rw [HN1.out] at hv
        subst hv
        obtain ⟨b0, o0, rfl, hb0, d1⟩ := HT.out _ _ _ hsrc
        have p2 := (res_cells w w1 _ _ hb 2).1.1
        have HB1 := Lib.hid (HBA.out.trans (hb.mono HBA.out.size))
        have hz1 : w.heap.size < w1.heap.size := by have := hb.size; simp at this; omega
        clear hb hown hsrc
        go_wp2_with fail
        refine (HM.out _).mono ?_; rintro e w2 ⟨hb, rfl⟩
        have HB2 := Lib.hid (HB1.out.trans (hb.mono HB1.out.size))
        clear hb
        go_wp2
        exact bodyPost_ret (v := .tuple #[.bool false, .string ⟨#[]⟩, .int .i64 6]) (by simp [results, Tryd.results25, go_sem]) rfl (kindSays HV.out (HB2.out.alloc HB2.out.size _))
      | some x =>
        obtain ⟨ty, sub, ps⟩ := x
        obtain ⟨A, hA⟩ : ∃ A, A = mk ty := ⟨_, rfl⟩
        obtain ⟨B, hB⟩ : ∃ B, B = mk sub := ⟨_, rfl⟩
        have hAl : A.toList = ty := by rw [hA, mk_toList]
        have hBl : B.toList = sub := by rw [hB, mk_toList]
        obtain ⟨P, hP⟩ : ∃ P, P = ps.map mk2 := ⟨_, rfl⟩
        obtain ⟨np, hnp⟩ : ∃ np, P.length = np := ⟨_, rfl⟩
        have HNP := Lib.hid hnp
        clear hnp
        have hmed2 : ∀ wx, Calls Tryd.prog 59 #[.string t] wx fun e w' => Below wx.heap.size wx w' ∧ ∃ v, e = .returned (.tuple #[.agg #[.string A, .string B, v], .int .i64 0]) ∧ OwnA w' wx.heap.size v P := by rw [hA, hB, hP]; exact hmed
        have HM := Lib.hid hmed2
        have hBs : B.size ≤ 1073741824 := by have := hsb _ rfl; rw [hB]; simp only [mk, size_mk]; simp only at this; omega
        simp only [← hP, ← hAl, ← hBl] at hR
        have hraw := sfx_raw B
        clear hmed hmed2 hA hB hAl hBl hP hsb
        cases hx : (B.toList == [120, 109, 108]) with
        | true =>
          have HV : Hid (R = (false, ⟨#[]⟩, 6)) := Lib.hid (by rw [hR, if_pos (.inl hx)])
          clear hR henc hbz2 hF hraw
          go_enter Tryd.func25, Tryd.ntmps25
          go_wp2_with fail
          refine (HALL.out _ HBA.out).mono ?_; rintro e w1 ⟨hb, v, rfl, hown⟩
          obtain ⟨a1, c1, hv, hsrc⟩ := ownS_src hown
          rw [HN1.out] at hv
          subst hv
          obtain ⟨b0, o0, rfl, hb0, d1⟩ := HT.out _ _ _ hsrc
          have p2 := (res_cells w w1 _ _ hb 2).1.1
          have HB1 := Lib.hid (HBA.out.trans (hb.mono HBA.out.size))
          have hz1 : w.heap.size < w1.heap.size := by have := hb.size; simp at this; omega
          clear hb hown hsrc
          go_wp2_with fail
          refine (HM.out _).mono ?_; rintro e w2 ⟨hb, v, rfl, hown⟩
          obtain ⟨a2, c2, hv2, hsrc2, hfar⟩ := ownA_src hown
          clear hfar
          rw [HNP.out] at hv2
          subst hv2
          have hlA := ownA_len hown
          have q2 := (hb.cell (p := ⟨w.heap.size, 2, none⟩) hz1).trans p2
          have hz2 : w.heap.size < w2.heap.size := Nat.lt_of_lt_of_le hz1 hb.size
          have HB2 := Lib.hid (HB1.out.trans (hb.mono HB1.out.size))
          have HS2 := Lib.hid hsrc2
          have HLA := Lib.hid hlA
          have HBE : Hid (Below w.heap.size w (w2.alloc (.cells #[.string A, .string B, .slice a2 np c2] 99))) := Lib.hid (HB2.out.alloc HB2.out.size _)
          clear hb hown hsrc2 p2 hlA
          go_wp2
          exact bodyPost_ret (v := .tuple #[.bool false, .string ⟨#[]⟩, .int .i64 6]) (by simp [results, Tryd.results25, go_sem]) rfl (kindSays HV.out HBE.out)
        | false =>
          cases hy : sfx B.toList with
          | true =>
            have HV : Hid (R = (false, ⟨#[]⟩, 6)) := Lib.hid (by rw [hR, if_pos (.inr hy)])
            rw [hy, Bool.and_eq_true, decide_eq_true_eq] at hraw
            obtain ⟨h4, hext⟩ := hraw
            have j1 : IntKind.i64.wrap ((B.size : Int) - 4) = ((B.size - 4 : Nat) : Int) := by rw [IntWalk.i64_in _ (by omega)]; omega
            clear hR hy henc hbz2 hF
            go_enter Tryd.func25, Tryd.ntmps25
            go_wp2_with fail
            refine (HALL.out _ HBA.out).mono ?_; rintro e w1 ⟨hb, v, rfl, hown⟩
            obtain ⟨a1, c1, hv, hsrc⟩ := ownS_src hown
            rw [HN1.out] at hv
            subst hv
            obtain ⟨b0, o0, rfl, hb0, d1⟩ := HT.out _ _ _ hsrc
            have p2 := (res_cells w w1 _ _ hb 2).1.1
            have HB1 := Lib.hid (HBA.out.trans (hb.mono HBA.out.size))
            have hz1 : w.heap.size < w1.heap.size := by have := hb.size; simp at this; omega
            clear hb hown hsrc
            go_wp2_with fail
            refine (HM.out _).mono ?_; rintro e w2 ⟨hb, v, rfl, hown⟩
            obtain ⟨a2, c2, hv2, hsrc2, hfar⟩ := ownA_src hown
            clear hfar
            rw [HNP.out] at hv2
            subst hv2
            have hlA := ownA_len hown
            have q2 := (hb.cell (p := ⟨w.heap.size, 2, none⟩) hz1).trans p2
            have hz2 : w.heap.size < w2.heap.size := Nat.lt_of_lt_of_le hz1 hb.size
            have HB2 := Lib.hid (HB1.out.trans (hb.mono HB1.out.size))
            have HS2 := Lib.hid hsrc2
            have HLA := Lib.hid hlA
            have HBE : Hid (Below w.heap.size w (w2.alloc (.cells #[.string A, .string B, .slice a2 np c2] 99))) := Lib.hid (HB2.out.alloc HB2.out.size _)
            clear hb hown hsrc2 p2 hlA
            go_wp2
            exact bodyPost_ret (v := .tuple #[.bool false, .string ⟨#[]⟩, .int .i64 6]) (by simp [results, Tryd.results25, go_sem]) rfl (kindSays HV.out HBE.out)
          | false =>
            rw [if_neg (by rw [hx, hy]; simp)] at hR
            rw [hy, Bool.and_eq_false_iff, decide_eq_false_iff_not] at hraw
            clear hy
            have j1 : 4 ≤ B.size → IntKind.i64.wrap ((B.size : Int) - 4) = ((B.size - 4 : Nat) : Int) := fun h => by rw [IntWalk.i64_in _ (by omega)]; omega
            have hraw2 : (B.size < 4) ∨ (4 ≤ B.size ∧ ((B.extract (B.size - 4) B.size).toList == [43, 120, 109, 108]) = false) := by
              by_cases h4 : 4 ≤ B.size
              · right; exact ⟨h4, hraw.resolve_left (fun h => h h4)⟩
              · left; omega
            clear hraw
            cases ht : (A.toList == [116, 101, 120, 116]) with
            | false =>
              have HV : Hid (R = (false, ⟨#[]⟩, 0)) := Lib.hid (by rw [hR, if_neg (by rw [ht]; simp)])
              clear hR henc hbz2 hF
              rcases hraw2 with h4 | ⟨h4, hext⟩
              · clear j1
                go_enter Tryd.func25, Tryd.ntmps25
                go_wp2_with fail
                refine (HALL.out _ HBA.out).mono ?_; rintro e w1 ⟨hb, v, rfl, hown⟩
                obtain ⟨a1, c1, hv, hsrc⟩ := ownS_src hown
                rw [HN1.out] at hv
                subst hv
                obtain ⟨b0, o0, rfl, hb0, d1⟩ := HT.out _ _ _ hsrc
                have p2 := (res_cells w w1 _ _ hb 2).1.1
                have HB1 := Lib.hid (HBA.out.trans (hb.mono HBA.out.size))
                have hz1 : w.heap.size < w1.heap.size := by have := hb.size; simp at this; omega
                clear hb hown hsrc
                go_wp2_with fail
                refine (HM.out _).mono ?_; rintro e w2 ⟨hb, v, rfl, hown⟩
                obtain ⟨a2, c2, hv2, hsrc2, hfar⟩ := ownA_src hown
                clear hfar
                rw [HNP.out] at hv2
                subst hv2
                have hlA := ownA_len hown
                have q2 := (hb.cell (p := ⟨w.heap.size, 2, none⟩) hz1).trans p2
                have hz2 : w.heap.size < w2.heap.size := Nat.lt_of_lt_of_le hz1 hb.size
                have HB2 := Lib.hid (HB1.out.trans (hb.mono HB1.out.size))
                have HS2 := Lib.hid hsrc2
                have HLA := Lib.hid hlA
                have HBE : Hid (Below w.heap.size w (w2.alloc (.cells #[.string A, .string B, .slice a2 np c2] 99))) := Lib.hid (HB2.out.alloc HB2.out.size _)
                clear hb hown hsrc2 p2 hlA
                go_wp2
                exact bodyPost_ret (v := .tuple #[.bool false, .string ⟨#[]⟩, .int .i64 0]) (by simp [results, Tryd.results25, go_sem]) rfl (kindSays HV.out HBE.out)
              · have j1 := j1 h4
                go_enter Tryd.func25, Tryd.ntmps25
                go_wp2_with fail
                refine (HALL.out _ HBA.out).mono ?_; rintro e w1 ⟨hb, v, rfl, hown⟩
                obtain ⟨a1, c1, hv, hsrc⟩ := ownS_src hown
                rw [HN1.out] at hv
                subst hv
                obtain ⟨b0, o0, rfl, hb0, d1⟩ := HT.out _ _ _ hsrc
                have p2 := (res_cells w w1 _ _ hb 2).1.1
                have HB1 := Lib.hid (HBA.out.trans (hb.mono HBA.out.size))
                have hz1 : w.heap.size < w1.heap.size := by have := hb.size; simp at this; omega
                clear hb hown hsrc
                go_wp2_with fail
                refine (HM.out _).mono ?_; rintro e w2 ⟨hb, v, rfl, hown⟩
                obtain ⟨a2, c2, hv2, hsrc2, hfar⟩ := ownA_src hown
                clear hfar
                rw [HNP.out] at hv2
                subst hv2
                have hlA := ownA_len hown
                have q2 := (hb.cell (p := ⟨w.heap.size, 2, none⟩) hz1).trans p2
                have hz2 : w.heap.size < w2.heap.size := Nat.lt_of_lt_of_le hz1 hb.size
                have HB2 := Lib.hid (HB1.out.trans (hb.mono HB1.out.size))
                have HS2 := Lib.hid hsrc2
                have HLA := Lib.hid hlA
                have HBE : Hid (Below w.heap.size w (w2.alloc (.cells #[.string A, .string B, .slice a2 np c2] 99))) := Lib.hid (HB2.out.alloc HB2.out.size _)
                clear hb hown hsrc2 p2 hlA
                go_wp2
                exact bodyPost_ret (v := .tuple #[.bool false, .string ⟨#[]⟩, .int .i64 0]) (by simp [results, Tryd.results25, go_sem]) rfl (kindSays HV.out HBE.out)
            | true =>
              cases hh : (B.toList == [104, 116, 109, 108]) with
              | false =>
                have HV : Hid (R = (false, ⟨#[]⟩, 0)) := Lib.hid (by rw [hR, if_neg (by rw [hh]; simp)])
                clear hR henc hbz2 hF
                rcases hraw2 with h4 | ⟨h4, hext⟩
                · clear j1
                  go_enter Tryd.func25, Tryd.ntmps25
                  go_wp2_with fail
                  refine (HALL.out _ HBA.out).mono ?_; rintro e w1 ⟨hb, v, rfl, hown⟩
                  obtain ⟨a1, c1, hv, hsrc⟩ := ownS_src hown
                  rw [HN1.out] at hv
                  subst hv
                  obtain ⟨b0, o0, rfl, hb0, d1⟩ := HT.out _ _ _ hsrc
                  have p2 := (res_cells w w1 _ _ hb 2).1.1
                  have HB1 := Lib.hid (HBA.out.trans (hb.mono HBA.out.size))
                  have hz1 : w.heap.size < w1.heap.size := by have := hb.size; simp at this; omega
                  clear hb hown hsrc
                  go_wp2_with fail
                  refine (HM.out _).mono ?_; rintro e w2 ⟨hb, v, rfl, hown⟩
                  obtain ⟨a2, c2, hv2, hsrc2, hfar⟩ := ownA_src hown
                  clear hfar
                  rw [HNP.out] at hv2
                  subst hv2
                  have hlA := ownA_len hown
                  have q2 := (hb.cell (p := ⟨w.heap.size, 2, none⟩) hz1).trans p2
                  have hz2 : w.heap.size < w2.heap.size := Nat.lt_of_lt_of_le hz1 hb.size
                  have HB2 := Lib.hid (HB1.out.trans (hb.mono HB1.out.size))
                  have HS2 := Lib.hid hsrc2
                  have HLA := Lib.hid hlA
                  have HBE : Hid (Below w.heap.size w (w2.alloc (.cells #[.string A, .string B, .slice a2 np c2] 99))) := Lib.hid (HB2.out.alloc HB2.out.size _)
                  clear hb hown hsrc2 p2 hlA
                  go_wp2
                  exact bodyPost_ret (v := .tuple #[.bool false, .string ⟨#[]⟩, .int .i64 0]) (by simp [results, Tryd.results25, go_sem]) rfl (kindSays HV.out HBE.out)
                · have j1 := j1 h4
                  go_enter Tryd.func25, Tryd.ntmps25
                  go_wp2_with fail
                  refine (HALL.out _ HBA.out).mono ?_; rintro e w1 ⟨hb, v, rfl, hown⟩
                  obtain ⟨a1, c1, hv, hsrc⟩ := ownS_src hown
                  rw [HN1.out] at hv
                  subst hv
                  obtain ⟨b0, o0, rfl, hb0, d1⟩ := HT.out _ _ _ hsrc
                  have p2 := (res_cells w w1 _ _ hb 2).1.1
                  have HB1 := Lib.hid (HBA.out.trans (hb.mono HBA.out.size))
                  have hz1 : w.heap.size < w1.heap.size := by have := hb.size; simp at this; omega
                  clear hb hown hsrc
                  go_wp2_with fail
                  refine (HM.out _).mono ?_; rintro e w2 ⟨hb, v, rfl, hown⟩
                  obtain ⟨a2, c2, hv2, hsrc2, hfar⟩ := ownA_src hown
                  clear hfar
                  rw [HNP.out] at hv2
                  subst hv2
                  have hlA := ownA_len hown
                  have q2 := (hb.cell (p := ⟨w.heap.size, 2, none⟩) hz1).trans p2
                  have hz2 : w.heap.size < w2.heap.size := Nat.lt_of_lt_of_le hz1 hb.size
                  have HB2 := Lib.hid (HB1.out.trans (hb.mono HB1.out.size))
                  have HS2 := Lib.hid hsrc2
                  have HLA := Lib.hid hlA
                  have HBE : Hid (Below w.heap.size w (w2.alloc (.cells #[.string A, .string B, .slice a2 np c2] 99))) := Lib.hid (HB2.out.alloc HB2.out.size _)
                  clear hb hown hsrc2 p2 hlA
                  go_wp2
                  exact bodyPost_ret (v := .tuple #[.bool false, .string ⟨#[]⟩, .int .i64 0]) (by simp [results, Tryd.results25, go_sem]) rfl (kindSays HV.out HBE.out)
              | true =>
                rw [if_pos ⟨ht, hh⟩] at hR
                cases hq : memF vs with
                | none =>
                  rw [hq] at henc hF
                  have HV : Hid (R = (false, ⟨#[]⟩, 25)) := Lib.hid (by rw [hR, if_pos hF])
                  have HENC : Hid (∀ wx, Below w.heap.size w wx → Calls Tryd.prog 60 #[.slice a n c, .string ⟨#[99, 111, 110, 116, 101, 110, 116, 45, 101, 110, 99, 111, 100, 105, 110, 103]⟩] wx fun e w' => Below wx.heap.size wx w' ∧ e = .returned (.tuple #[.slice none 0 0, .int .i64 5])) := Lib.hid henc
                  clear hR hF henc hbz2 hq
                  rcases hraw2 with h4 | ⟨h4, hext⟩
                  · clear j1
                    go_enter Tryd.func25, Tryd.ntmps25
                    go_wp2_with fail
                    refine (HALL.out _ HBA.out).mono ?_; rintro e w1 ⟨hb, v, rfl, hown⟩
                    obtain ⟨a1, c1, hv, hsrc⟩ := ownS_src hown
                    rw [HN1.out] at hv
                    subst hv
                    obtain ⟨b0, o0, rfl, hb0, d1⟩ := HT.out _ _ _ hsrc
                    have p2 := (res_cells w w1 _ _ hb 2).1.1
                    have HB1 := Lib.hid (HBA.out.trans (hb.mono HBA.out.size))
                    have hz1 : w.heap.size < w1.heap.size := by have := hb.size; simp at this; omega
                    clear hb hown hsrc
                    go_wp2_with fail
                    refine (HM.out _).mono ?_; rintro e w2 ⟨hb, v, rfl, hown⟩
                    obtain ⟨a2, c2, hv2, hsrc2, hfar⟩ := ownA_src hown
                    clear hfar
                    rw [HNP.out] at hv2
                    subst hv2
                    have hlA := ownA_len hown
                    have q2 := (hb.cell (p := ⟨w.heap.size, 2, none⟩) hz1).trans p2
                    have hz2 : w.heap.size < w2.heap.size := Nat.lt_of_lt_of_le hz1 hb.size
                    have HB2 := Lib.hid (HB1.out.trans (hb.mono HB1.out.size))
                    have HS2 := Lib.hid hsrc2
                    have HLA := Lib.hid hlA
                    have HBE : Hid (Below w.heap.size w (w2.alloc (.cells #[.string A, .string B, .slice a2 np c2] 99))) := Lib.hid (HB2.out.alloc HB2.out.size _)
                    clear hb hown hsrc2 p2 hlA
                    go_wp2_with fail
                    refine (HENC.out _ HBE.out).mono ?_; rintro e w3 ⟨hb, rfl⟩
                    have HB3 := Lib.hid (HBE.out.trans (hb.mono HBE.out.size))
                    clear hb
                    go_wp2
                    exact bodyPost_ret (v := .tuple #[.bool false, .string ⟨#[]⟩, .int .i64 25]) (by simp [results, Tryd.results25, go_sem]) rfl (kindSays HV.out HB3.out)
                  · have j1 := j1 h4
                    go_enter Tryd.func25, Tryd.ntmps25
                    go_wp2_with fail
                    refine (HALL.out _ HBA.out).mono ?_; rintro e w1 ⟨hb, v, rfl, hown⟩
                    obtain ⟨a1, c1, hv, hsrc⟩ := ownS_src hown
                    rw [HN1.out] at hv
                    subst hv
                    obtain ⟨b0, o0, rfl, hb0, d1⟩ := HT.out _ _ _ hsrc
                    have p2 := (res_cells w w1 _ _ hb 2).1.1
                    have HB1 := Lib.hid (HBA.out.trans (hb.mono HBA.out.size))
                    have hz1 : w.heap.size < w1.heap.size := by have := hb.size; simp at this; omega
                    clear hb hown hsrc
                    go_wp2_with fail
                    refine (HM.out _).mono ?_; rintro e w2 ⟨hb, v, rfl, hown⟩
                    obtain ⟨a2, c2, hv2, hsrc2, hfar⟩ := ownA_src hown
                    clear hfar
                    rw [HNP.out] at hv2
                    subst hv2
                    have hlA := ownA_len hown
                    have q2 := (hb.cell (p := ⟨w.heap.size, 2, none⟩) hz1).trans p2
                    have hz2 : w.heap.size < w2.heap.size := Nat.lt_of_lt_of_le hz1 hb.size
                    have HB2 := Lib.hid (HB1.out.trans (hb.mono HB1.out.size))
                    have HS2 := Lib.hid hsrc2
                    have HLA := Lib.hid hlA
                    have HBE : Hid (Below w.heap.size w (w2.alloc (.cells #[.string A, .string B, .slice a2 np c2] 99))) := Lib.hid (HB2.out.alloc HB2.out.size _)
                    clear hb hown hsrc2 p2 hlA
                    go_wp2_with fail
                    refine (HENC.out _ HBE.out).mono ?_; rintro e w3 ⟨hb, rfl⟩
                    have HB3 := Lib.hid (HBE.out.trans (hb.mono HBE.out.size))
                    clear hb
                    go_wp2
                    exact bodyPost_ret (v := .tuple #[.bool false, .string ⟨#[]⟩, .int .i64 25]) (by simp [results, Tryd.results25, go_sem]) rfl (kindSays HV.out HB3.out)
                | some ms =>
                  have hml := memF_msz vs ms hq
                  rw [← bsz_mk] at hml
                  rw [hq] at henc hF
                  have henc2 : ∀ wx, Below w.heap.size w wx → Calls Tryd.prog 60 #[.slice a n c, .string ⟨#[99, 111, 110, 116, 101, 110, 116, 45, 101, 110, 99, 111, 100, 105, 110, 103]⟩] wx fun e w' => Below wx.heap.size wx w' ∧ ∃ v, e = .returned (.tuple #[v, .int .i64 0]) ∧ OwnS w' wx.heap.size v (ms.map mk) := henc
                  replace hF : encF l = (ms.map mk).any notIde := hF
                  generalize ms.map mk = L at henc2 hF hml
                  have HENC := Lib.hid henc2
                  obtain ⟨nl, hnl⟩ : ∃ nl, L.length = nl := ⟨_, rfl⟩
                  have HNL := Lib.hid hnl
                  have hnlb : nl ≤ 1073741824 := by have := bsz_len L; omega
                  have HSM : Hid (∀ k (hk : k < L.length) wx, Calls Tryd.prog 61 #[.string L[k], .string ⟨#[105, 100, 101, 110, 116, 105, 116, 121]⟩] wx fun e w' => e = .returned (.bool (!notIde L[k])) ∧ Below wx.heap.size wx w') := Lib.hid fun k hk wx => by
                    have h := rSame_any L[k] ⟨#[105, 100, 101, 110, 116, 105, 116, 121]⟩ wx (by have := bsz_at L k hk; omega) (by decide)
                    have e : (!notIde L[k]) = decide (L[k].data.toList.map lwr = (⟨#[105, 100, 101, 110, 116, 105, 116, 121]⟩ : ByteArray).data.toList.map lwr) := by unfold notIde; rw [Bool.not_not]; rfl
                    rw [e]; exact h
                  have HYES : Hid (∀ k (hk : k < L.length), notIde L[k] = true → R = (false, ⟨#[]⟩, 25)) := Lib.hid fun k hk h => by rw [hR, if_pos (by rw [hF]; exact any_yes L k hk h)]
                  have HNO : Hid ((∀ j (hj : j < L.length), notIde L[j] = false) → R = (true, chs P, 0)) := Lib.hid fun h => by rw [hR, if_neg (by rw [hF, any_no L h]; simp)]
                  clear hR hF henc henc2 hbz2 hq hml hnl
                  rcases hraw2 with h4 | ⟨h4, hext⟩
                  · clear j1
                    go_enter Tryd.func25, Tryd.ntmps25
                    go_wp2_with fail
                    refine (HALL.out _ HBA.out).mono ?_; rintro e w1 ⟨hb, v, rfl, hown⟩
                    obtain ⟨a1, c1, hv, hsrc⟩ := ownS_src hown
                    rw [HN1.out] at hv
                    subst hv
                    obtain ⟨b0, o0, rfl, hb0, d1⟩ := HT.out _ _ _ hsrc
                    have p2 := (res_cells w w1 _ _ hb 2).1.1
                    have HB1 := Lib.hid (HBA.out.trans (hb.mono HBA.out.size))
                    have hz1 : w.heap.size < w1.heap.size := by have := hb.size; simp at this; omega
                    clear hb hown hsrc
                    go_wp2_with fail
                    refine (HM.out _).mono ?_; rintro e w2 ⟨hb, v, rfl, hown⟩
                    obtain ⟨a2, c2, hv2, hsrc2, hfar⟩ := ownA_src hown
                    clear hfar
                    rw [HNP.out] at hv2
                    subst hv2
                    have hlA := ownA_len hown
                    have q2 := (hb.cell (p := ⟨w.heap.size, 2, none⟩) hz1).trans p2
                    have hz2 : w.heap.size < w2.heap.size := Nat.lt_of_lt_of_le hz1 hb.size
                    have HB2 := Lib.hid (HB1.out.trans (hb.mono HB1.out.size))
                    have HS2 := Lib.hid hsrc2
                    have HLA := Lib.hid hlA
                    have HBE : Hid (Below w.heap.size w (w2.alloc (.cells #[.string A, .string B, .slice a2 np c2] 99))) := Lib.hid (HB2.out.alloc HB2.out.size _)
                    clear hb hown hsrc2 p2 hlA
                    go_wp2_with fail
                    refine (HENC.out _ HBE.out).mono ?_; rintro e w3 ⟨hb, v, rfl, hown⟩
                    obtain ⟨a3, c3, hv, hsrc⟩ := ownS_src hown
                    rw [HNL.out] at hv
                    subst hv
                    have HB3 := Lib.hid (HBE.out.trans (hb.mono HBE.out.size))
                    have r0 : w3.cell? ⟨w2.heap.size, 0, none⟩ = some (.string A) := (res_cells w2 w3 _ _ hb 0).1.1
                    have r1 : w3.cell? ⟨w2.heap.size, 1, none⟩ = some (.string B) := (res_cells w2 w3 _ _ hb 1).1.1
                    have r2 : w3.cell? ⟨w2.heap.size, 2, none⟩ = some (.slice a2 np c2) := (res_cells w2 w3 _ _ hb 2).1.1
                    have hz3 : w2.heap.size < w3.heap.size := by have := hb.size; simp at this; omega
                    have HS3 := Lib.hid ((HS2.out.below (Nat.le_refl _) ((Below.refl _ _).alloc (Nat.le_refl _) _)).below (Nat.le_refl _) hb)
                    have HL3 := Lib.hid hsrc
                    clear hb hown hsrc
                    go_wp2_with fail
                    go_loopw [9] (fun i wr => ∃ k : Nat, k ≤ nl ∧ i = .int .i64 k ∧ (∀ j (hj : j < L.length), j < k → notIde L[j] = false) ∧ Below w3.heap.size w3 wr) (fun i _ => nl - (intOf i).toNat)
                    case atStart => exact ⟨0, by omega, rfl, fun j _ h => by omega, Below.refl _ _⟩
                    case round =>
                      obtain ⟨k, hk, rfl, hall, hb⟩ := hrel
                      have HB := Lib.hid hb
                      by_cases hlt : k < nl
                      · have hkl : k < L.length := by rw [HNL.out]; exact hlt
                        obtain ⟨b4, o4, rfl, hb4, d4⟩ := srcS_at HL3.out k hkl hb
                        have hsm := HSM.out k hkl
                        have hyes := HYES.out k hkl
                        have hnx : notIde L[k] = false → ∀ j (hj : j < L.length), j < k + 1 → notIde L[j] = false := fun hf j hj h => by
                          by_cases e : j = k
                          · subst e; exact hf
                          · exact hall j hj (by omega)
                        generalize L[k] = Nm at d4 hsm hnx hyes
                        have HSQ := Lib.hid hsm
                        have HX := Lib.hid hnx
                        have HY := Lib.hid hyes
                        clear hsm hnx hyes hall hb hkl
                        cases q : notIde Nm with
                        | true =>
                          rw [q] at HSQ
                          have HV := Lib.hid (HY.out q)
                          clear q HY HX
                          go_wp2_with fail
                          refine (HSQ.out _).mono ?_; rintro e w4 ⟨rfl, hb⟩
                          have HB4 := Lib.hid (HB3.out.trans ((HB.out.trans (hb.mono HB.out.size)).mono HB3.out.size))
                          clear hb
                          go_wp2
                          exact bodyPost_ret (v := .tuple #[.bool false, .string ⟨#[]⟩, .int .i64 25]) (by simp [results, Tryd.results25, go_sem]) rfl (kindSays HV.out HB4.out)
                        | false =>
                          rw [q] at HSQ
                          have HX2 := Lib.hid (HX.out q)
                          clear q HY HX
                          go_wp2_with fail
                          refine (HSQ.out _).mono ?_; rintro e w4 ⟨rfl, hb⟩
                          have HB4 := Lib.hid (HB.out.trans (hb.mono HB.out.size))
                          clear hb
                          go_wp2
                          go_roundw
                          case rel => exact ⟨k + 1, by omega, by go_num, HX2.out, HB4.out⟩
                          case measure => simp [intOf]; omega
                      · have hkn : k = nl := by omega
                        have HV2 := Lib.hid (HNO.out (fun j hj => hall j hj (by have := HNL.out; omega)))
                        have s0 := (hb.cell (p := ⟨w2.heap.size, 0, none⟩) hz3).trans r0
                        have s1 := (hb.cell (p := ⟨w2.heap.size, 1, none⟩) hz3).trans r1
                        have s2 := (hb.cell (p := ⟨w2.heap.size, 2, none⟩) hz3).trans r2
                        have hz4 : w2.heap.size < wr.heap.size := Nat.lt_of_lt_of_le hz3 hb.size
                        clear hb hall
                        obtain ⟨D, hD⟩ : ∃ D, D = w2.heap.size := ⟨_, rfl⟩
                        rw [← hD] at s0 s1 s2 hz4 r0 r1 r2 hz3 ⊢
                        clear hD
                        go_wp2_with fail
                        go_loopw [11] (fun i wy => ∃ k : Nat, k ≤ np ∧ i = .int .i64 k ∧ (∀ j (hj : j < P.length), j < k → (P[j].1.toList == [99, 104, 97, 114, 115, 101, 116]) = false) ∧ Below w3.heap.size w3 wy) (fun i _ => np - (intOf i).toNat)
                        case atStart => exact ⟨0, by omega, rfl, fun j _ h => by omega, HB.out⟩
                        case round =>
                          obtain ⟨k2, hk2, rfl, hall, hb⟩ := hrel
                          have HBY := Lib.hid hb
                          have t0 : wr.cell? ⟨D, 0, none⟩ = some (.string A) := (hb.cell (p := ⟨D, 0, none⟩) hz3).trans r0
                          have t1 : wr.cell? ⟨D, 1, none⟩ = some (.string B) := (hb.cell (p := ⟨D, 1, none⟩) hz3).trans r1
                          have t2 : wr.cell? ⟨D, 2, none⟩ = some (.slice a2 np c2) := (hb.cell (p := ⟨D, 2, none⟩) hz3).trans r2
                          by_cases hlt2 : k2 < np
                          · have hltP : k2 < P.length := by rw [HNP.out]; exact hlt2
                            obtain ⟨b5, o5, rfl, hb5, d5, d6⟩ := srcA_at HS3.out k2 hltP hb
                            have hlaP : np ≤ 9223372036854775807 := by rw [← HNP.out]; exact HLA.out
                            have hin : (P[k2].1.toList == [99, 104, 97, 114, 115, 101, 116]) = true → chs P = P[k2].2 := fun ht => chs_at P k2 hltP (fun j hj => hall j (by omega) hj) ht
                            have hnx : (P[k2].1.toList == [99, 104, 97, 114, 115, 101, 116]) = false → ∀ j (hj : j < P.length), j < k2 + 1 → (P[j].1.toList == [99, 104, 97, 114, 115, 101, 116]) = false := fun hf j hj h => by
                              by_cases e : j = k2
                              · subst e; exact hf
                              · exact hall j hj (by omega)
                            generalize P[k2] = p at d5 d6 hin hnx
                            clear hltP
                            obtain ⟨Nm, Vl⟩ := p
                            simp only at d5 d6 hin hnx
                            have HI := Lib.hid hin
                            have HX := Lib.hid hnx
                            clear hin hnx hall hb
                            cases q : (Nm.toList == [99, 104, 97, 114, 115, 101, 116]) with
                            | true =>
                              have HV := Lib.hid (HV2.out.trans (by rw [HI.out q] : ((true, chs P, 0) : KR) = (true, Vl, 0)))
                              clear HX HI
                              go_wp2
                              go_quiet (fail)
                              go_wp2
                              exact bodyPost_ret (v := .tuple #[.bool true, .string Vl, .int .i64 0]) (by simp [results, Tryd.results25, go_sem]) rfl (kindSays HV.out (HB3.out.trans ((HBY.out.trans (below_drewN _ _)).mono HB3.out.size)))
                            | false =>
                              have HX2 := Lib.hid (HX.out q)
                              clear HX HI
                              go_wp2
                              go_roundw
                              case rel => exact ⟨k2 + 1, by omega, by go_num, HX2.out, HBY.out⟩
                              case measure => simp [intOf]; omega
                          · have hkn2 : k2 = np := by omega
                            have HV := Lib.hid (HV2.out.trans (by rw [chs_none P (fun j hj => hall j hj (by have := HNP.out; omega))] : ((true, chs P, 0) : KR) = (true, ⟨#[]⟩, 0)))
                            clear hb hall
                            go_wp2
                            exact bodyPost_ret (v := .tuple #[.bool true, .string ⟨#[]⟩, .int .i64 0]) (by simp [results, Tryd.results25, go_sem]) rfl (kindSays HV.out (HB3.out.trans (HBY.out.mono HB3.out.size)))
                  · have j1 := j1 h4
                    go_enter Tryd.func25, Tryd.ntmps25
                    go_wp2_with fail
                    refine (HALL.out _ HBA.out).mono ?_; rintro e w1 ⟨hb, v, rfl, hown⟩
                    obtain ⟨a1, c1, hv, hsrc⟩ := ownS_src hown
                    rw [HN1.out] at hv
                    subst hv
                    obtain ⟨b0, o0, rfl, hb0, d1⟩ := HT.out _ _ _ hsrc
                    have p2 := (res_cells w w1 _ _ hb 2).1.1
                    have HB1 := Lib.hid (HBA.out.trans (hb.mono HBA.out.size))
                    have hz1 : w.heap.size < w1.heap.size := by have := hb.size; simp at this; omega
                    clear hb hown hsrc
                    go_wp2_with fail
                    refine (HM.out _).mono ?_; rintro e w2 ⟨hb, v, rfl, hown⟩
                    obtain ⟨a2, c2, hv2, hsrc2, hfar⟩ := ownA_src hown
                    clear hfar
                    rw [HNP.out] at hv2
                    subst hv2
                    have hlA := ownA_len hown
                    have q2 := (hb.cell (p := ⟨w.heap.size, 2, none⟩) hz1).trans p2
                    have hz2 : w.heap.size < w2.heap.size := Nat.lt_of_lt_of_le hz1 hb.size
                    have HB2 := Lib.hid (HB1.out.trans (hb.mono HB1.out.size))
                    have HS2 := Lib.hid hsrc2
                    have HLA := Lib.hid hlA
                    have HBE : Hid (Below w.heap.size w (w2.alloc (.cells #[.string A, .string B, .slice a2 np c2] 99))) := Lib.hid (HB2.out.alloc HB2.out.size _)
                    clear hb hown hsrc2 p2 hlA
                    go_wp2_with fail
                    refine (HENC.out _ HBE.out).mono ?_; rintro e w3 ⟨hb, v, rfl, hown⟩
                    obtain ⟨a3, c3, hv, hsrc⟩ := ownS_src hown
                    rw [HNL.out] at hv
                    subst hv
                    have HB3 := Lib.hid (HBE.out.trans (hb.mono HBE.out.size))
                    have r0 : w3.cell? ⟨w2.heap.size, 0, none⟩ = some (.string A) := (res_cells w2 w3 _ _ hb 0).1.1
                    have r1 : w3.cell? ⟨w2.heap.size, 1, none⟩ = some (.string B) := (res_cells w2 w3 _ _ hb 1).1.1
                    have r2 : w3.cell? ⟨w2.heap.size, 2, none⟩ = some (.slice a2 np c2) := (res_cells w2 w3 _ _ hb 2).1.1
                    have hz3 : w2.heap.size < w3.heap.size := by have := hb.size; simp at this; omega
                    have HS3 := Lib.hid ((HS2.out.below (Nat.le_refl _) ((Below.refl _ _).alloc (Nat.le_refl _) _)).below (Nat.le_refl _) hb)
                    have HL3 := Lib.hid hsrc
                    clear hb hown hsrc
                    go_wp2_with fail
                    go_loopw [9] (fun i wr => ∃ k : Nat, k ≤ nl ∧ i = .int .i64 k ∧ (∀ j (hj : j < L.length), j < k → notIde L[j] = false) ∧ Below w3.heap.size w3 wr) (fun i _ => nl - (intOf i).toNat)
                    case atStart => exact ⟨0, by omega, rfl, fun j _ h => by omega, Below.refl _ _⟩
                    case round =>
                      obtain ⟨k, hk, rfl, hall, hb⟩ := hrel
                      have HB := Lib.hid hb
                      by_cases hlt : k < nl
                      · have hkl : k < L.length := by rw [HNL.out]; exact hlt
                        obtain ⟨b4, o4, rfl, hb4, d4⟩ := srcS_at HL3.out k hkl hb
                        have hsm := HSM.out k hkl
                        have hyes := HYES.out k hkl
                        have hnx : notIde L[k] = false → ∀ j (hj : j < L.length), j < k + 1 → notIde L[j] = false := fun hf j hj h => by
                          by_cases e : j = k
                          · subst e; exact hf
                          · exact hall j hj (by omega)
                        generalize L[k] = Nm at d4 hsm hnx hyes
                        have HSQ := Lib.hid hsm
                        have HX := Lib.hid hnx
                        have HY := Lib.hid hyes
                        clear hsm hnx hyes hall hb hkl
                        cases q : notIde Nm with
                        | true =>
                          rw [q] at HSQ
                          have HV := Lib.hid (HY.out q)
                          clear q HY HX
                          go_wp2_with fail
                          refine (HSQ.out _).mono ?_; rintro e w4 ⟨rfl, hb⟩
                          have HB4 := Lib.hid (HB3.out.trans ((HB.out.trans (hb.mono HB.out.size)).mono HB3.out.size))
                          clear hb
                          go_wp2
                          exact bodyPost_ret (v := .tuple #[.bool false, .string ⟨#[]⟩, .int .i64 25]) (by simp [results, Tryd.results25, go_sem]) rfl (kindSays HV.out HB4.out)
                        | false =>
                          rw [q] at HSQ
                          have HX2 := Lib.hid (HX.out q)
                          clear q HY HX
                          go_wp2_with fail
                          refine (HSQ.out _).mono ?_; rintro e w4 ⟨rfl, hb⟩
                          have HB4 := Lib.hid (HB.out.trans (hb.mono HB.out.size))
                          clear hb
                          go_wp2
                          go_roundw
                          case rel => exact ⟨k + 1, by omega, by go_num, HX2.out, HB4.out⟩
                          case measure => simp [intOf]; omega
                      · have hkn : k = nl := by omega
                        have HV2 := Lib.hid (HNO.out (fun j hj => hall j hj (by have := HNL.out; omega)))
                        have s0 := (hb.cell (p := ⟨w2.heap.size, 0, none⟩) hz3).trans r0
                        have s1 := (hb.cell (p := ⟨w2.heap.size, 1, none⟩) hz3).trans r1
                        have s2 := (hb.cell (p := ⟨w2.heap.size, 2, none⟩) hz3).trans r2
                        have hz4 : w2.heap.size < wr.heap.size := Nat.lt_of_lt_of_le hz3 hb.size
                        clear hb hall
                        obtain ⟨D, hD⟩ : ∃ D, D = w2.heap.size := ⟨_, rfl⟩
                        rw [← hD] at s0 s1 s2 hz4 r0 r1 r2 hz3 ⊢
                        clear hD
                        go_wp2_with fail
                        go_loopw [11] (fun i wy => ∃ k : Nat, k ≤ np ∧ i = .int .i64 k ∧ (∀ j (hj : j < P.length), j < k → (P[j].1.toList == [99, 104, 97, 114, 115, 101, 116]) = false) ∧ Below w3.heap.size w3 wy) (fun i _ => np - (intOf i).toNat)
                        case atStart => exact ⟨0, by omega, rfl, fun j _ h => by omega, HB.out⟩
                        case round =>
                          obtain ⟨k2, hk2, rfl, hall, hb⟩ := hrel
                          have HBY := Lib.hid hb
                          have t0 : wr.cell? ⟨D, 0, none⟩ = some (.string A) := (hb.cell (p := ⟨D, 0, none⟩) hz3).trans r0
                          have t1 : wr.cell? ⟨D, 1, none⟩ = some (.string B) := (hb.cell (p := ⟨D, 1, none⟩) hz3).trans r1
                          have t2 : wr.cell? ⟨D, 2, none⟩ = some (.slice a2 np c2) := (hb.cell (p := ⟨D, 2, none⟩) hz3).trans r2
                          by_cases hlt2 : k2 < np
                          · have hltP : k2 < P.length := by rw [HNP.out]; exact hlt2
                            obtain ⟨b5, o5, rfl, hb5, d5, d6⟩ := srcA_at HS3.out k2 hltP hb
                            have hlaP : np ≤ 9223372036854775807 := by rw [← HNP.out]; exact HLA.out
                            have hin : (P[k2].1.toList == [99, 104, 97, 114, 115, 101, 116]) = true → chs P = P[k2].2 := fun ht => chs_at P k2 hltP (fun j hj => hall j (by omega) hj) ht
                            have hnx : (P[k2].1.toList == [99, 104, 97, 114, 115, 101, 116]) = false → ∀ j (hj : j < P.length), j < k2 + 1 → (P[j].1.toList == [99, 104, 97, 114, 115, 101, 116]) = false := fun hf j hj h => by
                              by_cases e : j = k2
                              · subst e; exact hf
                              · exact hall j hj (by omega)
                            generalize P[k2] = p at d5 d6 hin hnx
                            clear hltP
                            obtain ⟨Nm, Vl⟩ := p
                            simp only at d5 d6 hin hnx
                            have HI := Lib.hid hin
                            have HX := Lib.hid hnx
                            clear hin hnx hall hb
                            cases q : (Nm.toList == [99, 104, 97, 114, 115, 101, 116]) with
                            | true =>
                              have HV := Lib.hid (HV2.out.trans (by rw [HI.out q] : ((true, chs P, 0) : KR) = (true, Vl, 0)))
                              clear HX HI
                              go_wp2
                              go_quiet (fail)
                              go_wp2
                              exact bodyPost_ret (v := .tuple #[.bool true, .string Vl, .int .i64 0]) (by simp [results, Tryd.results25, go_sem]) rfl (kindSays HV.out (HB3.out.trans ((HBY.out.trans (below_drewN _ _)).mono HB3.out.size)))
                            | false =>
                              have HX2 := Lib.hid (HX.out q)
                              clear HX HI
                              go_wp2
                              go_roundw
                              case rel => exact ⟨k2 + 1, by omega, by go_num, HX2.out, HBY.out⟩
                              case measure => simp [intOf]; omega
                          · have hkn2 : k2 = np := by omega
                            have HV := Lib.hid (HV2.out.trans (by rw [chs_none P (fun j hj => hall j hj (by have := HNP.out; omega))] : ((true, chs P, 0) : KR) = (true, ⟨#[]⟩, 0)))
                            clear hb hall
                            go_wp2
                            exact bodyPost_ret (v := .tuple #[.bool true, .string ⟨#[]⟩, .int .i64 0]) (by simp [results, Tryd.results25, go_sem]) rfl (kindSays HV.out (HB3.out.trans (HBY.out.mono HB3.out.size)))
end Go.Proofs.YthkgaaibhjkngaaDoor
