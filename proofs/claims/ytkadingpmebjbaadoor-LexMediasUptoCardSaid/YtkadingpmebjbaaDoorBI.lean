/- LexMedias. -/
import Derived.Test.YtkadingpmebjbaaDoorPM
import Derived.Test.YtkadingpmebjbaaDoorBC
import Derived.Test.YtkadingpmebjbaaDoorBH
import Derived.Test.YtkadingpmebjbaaDoorT
import Derived.Deep.RegionHeld3
set_option linter.unusedVariables false
namespace Go.Proofs.YtkadingpmebjbaaDoor
open Go.RowKit

theorem unqR_size (r acc : List UInt8) (n : Nat) (x : List UInt8 × Nat) (h : unqR r acc n = some x) : x.1.length + (n + 1) ≤ acc.length + x.2 := by
  match r with
  | [] => rw [unqR_nil] at h; cases h
  | c :: r =>
    by_cases h1 : c.toNat = 34
    · rw [unqR_end _ _ _ _ h1] at h; simp only [Option.some.injEq] at h; subst h; simp
    · by_cases h2 : c.toNat = 92
      · match r with
        | [] => rw [unqR_esc0 _ _ _ h2] at h; cases h
        | d :: r =>
          rw [unqR_esc1 _ _ _ _ _ h2] at h
          by_cases hq : qb d = true
          · rw [if_pos hq] at h
            have := unqR_size r (acc ++ [d]) _ x h
            simp only [List.length_append, List.length_cons, List.length_nil] at this; omega
          · rw [if_neg hq] at h; cases h
      · rw [unqR_one _ _ _ _ h1 h2] at h
        by_cases hq : qb c = true
        · rw [if_pos hq] at h
          have := unqR_size r (acc ++ [c]) _ x h
          simp only [List.length_append, List.length_cons, List.length_nil] at this; omega
        · rw [if_neg hq] at h; cases h
termination_by r.length
theorem unq_size (l : List UInt8) (x : List UInt8 × Nat) (h : unq l = some x) : x.1.length + 2 ≤ x.2 := by
  cases l with
  | nil => cases h
  | cons c r =>
    unfold unq at h
    simp only at h
    split at h
    · have := unqR_size r [] 1 x h
      simp only [List.length_nil] at this; omega
    · cases h
theorem prm_size (l : List UInt8) (x : (List UInt8 × List UInt8) × Nat) (h : prm l = some x) : x.1.1.length + x.1.2.length + 1 ≤ x.2 ∧ x.2 ≤ l.length := by
  have h0 := prm_len l x h
  refine ⟨?_, h0.2.1⟩
  have hle := tok_le l
  unfold prm at h
  split at h
  · cases h
  · split at h
    · simp only [Option.some.injEq] at h
      subst h
      simp only [List.length_map, List.length_take, List.length_drop]; omega
    · cases hu : unq (l.drop (tok l + 1)) with
      | none => rw [hu] at h; cases h
      | some y =>
        rw [hu] at h
        simp only [Option.some.injEq] at h
        subst h
        have := unq_size _ y hu
        simp only [List.length_map, List.length_take]; omega
theorem prsF_size : ∀ (f : Nat) (l : List UInt8) (ps : PL), prsF f l = some ps → psz ps ≤ 7 * l.length
  | 0, l, ps, h => by simp only [prsF, Option.some.injEq] at h; subst h; simp [psz]
  | f + 1, l, ps, h => by
    have k1 := skip_len l
    have k2 := skip_len (skip l).tail
    rw [tail_len] at k2
    simp only [prsF] at h
    split at h
    · simp only [Option.some.injEq] at h; subst h; simp [psz]
    · split at h
      · cases h
      · split at h
        · have := prsF_size f _ ps h; omega
        · cases hp : prm (skip (skip l).tail) with
          | none => rw [hp] at h; cases h
          | some x =>
            rw [hp] at h
            simp only at h
            have hx := prm_size _ x hp
            cases hr : prsF f ((skip (skip l).tail).drop x.2) with
            | none => rw [hr] at h; cases h
            | some m =>
              rw [hr] at h
              simp only [Option.map_some, Option.some.injEq] at h
              subst h
              have := prsF_size f _ m hr
              rw [List.length_drop] at this
              simp only [psz]; omega
theorem media_size (l : List UInt8) (x : List UInt8 × List UInt8 × PL) (h : media l = some x) : x.1.length + x.2.1.length + psz x.2.2 ≤ 9 * l.length := by
  have htl := trim_len l
  unfold media at h
  split at h
  · cases h
  · split at h
    · cases h
    · cases hp : prs (((trim l).drop (tok (trim l) + 1)).drop (tok ((trim l).drop (tok (trim l) + 1)))) with
      | none => rw [hp] at h; cases h
      | some ps =>
        rw [hp] at h
        simp only [Option.map_some, Option.some.injEq] at h
        subst h
        have := prsF_size _ _ ps hp
        have := tok_le (trim l)
        simp only [List.length_drop, List.length_map, List.length_take] at *
        omega
theorem psz_get (ps : PL) (j : Nat) (hj : j < ps.length) : ps[j].1.length + ps[j].2.length ≤ psz ps := by have := psz_take ps j hj; omega
theorem textM_len (ty sub : List UInt8) (ps : PL) : (textM ty sub ps).length ≤ ty.length + sub.length + psz ps + 1 := by
  unfold textM
  have := textP_len ps
  split
  · simp only [List.length_append, List.length_cons, List.length_nil]; omega
  · simp
theorem text_small (T S : ByteArray) (ps : PL) (av : Option Addr) (an ac : Nat) (w : World) (han : ps.length = an) (hav : SrcA w av ac (ps.map mk2)) (hs : T.size + S.size + psz ps ≤ 1073741824) :
    Calls Tryd.prog 16 #[.agg #[.string T, .string S, .slice av an ac]] w fun e w' => e = .returned (.string (mk (textM T.data.toList S.data.toList ps))) ∧ Below w.heap.size w w' :=
  text_any T S ps av an ac w han hav hs (fun j hj => by have := psz_get ps j hj; omega) (by have := psz_len ps; omega)


/-- pairs that may be written -/
def SlotsA (w : World) (a : Option Addr) (base n : Nat) : Prop := ∀ j, j < n → ∃ g, a = some ⟨g, 0, none⟩ ∧ base ≤ g ∧ g < w.heap.size ∧ (∃ u, w.cell? ⟨g, j * 2, none⟩ = some u) ∧ (∃ u, w.cell? ⟨g, j * 2 + 1, none⟩ = some u) ∧ ∀ k, w.frozen? ⟨g, k, none⟩ = false
theorem ownA_slots {w : World} {base n c : Nat} {a : Option Addr} {l : AL} (h : OwnA w base (.slice a n c) l) : SlotsA w a base n := by
  obtain ⟨a2, c2, hv, hs, _⟩ := ownA_src h
  injection hv with e1 e2 e3
  subst e1 e2 e3
  rcases h.2 with ⟨h1, h0⟩ | ⟨g, cap, cur, h1, hb, hg, h2, h3, h4⟩
  · intro j hj; omega
  · injection h1 with e1 e2 e3
    subst e1 e3
    intro j hj
    obtain ⟨b, o, he, hlt, k1, k2⟩ := hs.at_ j hj
    simp only [Option.some.injEq, Addr.mk.injEq] at he
    obtain ⟨rfl, rfl, _⟩ := he
    rw [Nat.zero_add] at k1 k2
    exact ⟨g, rfl, hb, hlt, ⟨_, k1⟩, ⟨_, k2⟩, fun k => Lib.frozen_of_heap hg _⟩
theorem cell_set_any {w : World} {p q : Addr} (x : Value) (h : ∃ u, w.cell? q = some u) : ∃ u, (w.setCell p x).cell? q = some u := by
  obtain ⟨u, hu⟩ := h
  by_cases e : q = p
  · subst e; exact ⟨_, World.cell?_setCell_same _ _ _ hu⟩
  · exact ⟨_, (World.cell?_setCell_other _ _ _ _ (Ne.symm e)).trans hu⟩
theorem SlotsA.set {w : World} {a : Option Addr} {base n : Nat} (h : SlotsA w a base n) (q : Addr) (u : Value) : SlotsA (w.setCell q u) a base n := fun j hj => by
  obtain ⟨g, h1, h2, h3, h4, h5, h6⟩ := h j hj
  exact ⟨g, h1, h2, by simpa [World.setCell] using h3, cell_set_any u h4, cell_set_any u h5, fun k => by rw [World.frozen?_setCell]; exact h6 k⟩
theorem SlotsA.below {w w' : World} {a : Option Addr} {base n B : Nat} (h : SlotsA w a base n) (hB : w.heap.size ≤ B) (hb : Below B w w') : SlotsA w' a base n := fun j hj => by
  obtain ⟨g, h1, h2, h3, ⟨u4, h4⟩, ⟨u5, h5⟩, h6⟩ := h j hj
  have hg : g < B := by omega
  exact ⟨g, h1, h2, Nat.lt_of_lt_of_le h3 hb.size, ⟨u4, (hb.cell (p := ⟨g, j * 2, none⟩) hg).trans h4⟩, ⟨u5, (hb.cell (p := ⟨g, j * 2 + 1, none⟩) hg).trans h5⟩, fun k => (hb.frozen (p := ⟨g, k, none⟩) hg).trans (h6 k)⟩

def MediaGives (f : FuncId) (X A B : ByteArray) (qs : PL) (qn : Nat) (E : Int) : Prop := ∀ wx, Calls Tryd.prog f #[.string X] wx fun e w' => Below wx.heap.size wx w' ∧ ∃ a c, e = .returned (.tuple #[.agg #[.string A, .string B, .slice a qn c], .int .i64 E]) ∧ SrcA w' a c (qs.map mk2) ∧ SlotsA w' a wx.heap.size qn
theorem media_gives (X : ByteArray) (hx : X.size ≤ 2097152) : ∃ (A B : ByteArray) (qs : PL) (qn : Nat) (E : Int), (E = 0 ∨ E = 6) ∧ qs.length = qn ∧ A.size + B.size + psz qs ≤ 9 * X.size ∧ MediaGives 14 X A B qs qn E ∧ MediaGives 13 X A B qs qn E := by
  have key : ∀ (f : FuncId), (∀ wx, Calls Tryd.prog f #[.string X] wx (MediaSays (media X.data.toList) wx)) → ∀ A B qs qn E,
      (∀ w e w', MediaSays (media X.data.toList) w e w' → Below w.heap.size w w' ∧ ∃ v, e = .returned (.tuple #[.agg #[.string A, .string B, v], .int .i64 E]) ∧ OwnA w' w.heap.size v (qs.map mk2)) → qs.length = qn → MediaGives f X A B qs qn E := by
    intro f h A B qs qn E hk hq wx
    refine (h wx).mono fun e w' hh => ?_
    obtain ⟨hb, v, he, ho⟩ := hk wx e w' hh
    obtain ⟨a, c, hv, hs, _⟩ := ownA_src ho
    rw [List.length_map, hq] at hv
    subst hv
    exact ⟨hb, a, c, he, hs, ownA_slots ho⟩
  have h1 := fun wx => media_any X wx (by omega)
  have h2 := fun wx => rmedia_any X wx (by omega)
  have hR : ∀ R, R = media X.data.toList → ∃ (A B : ByteArray) (qs : PL) (E : Int), (E = 0 ∨ E = 6) ∧ A.size + B.size + psz qs ≤ 9 * X.size ∧ ∀ w e w', MediaSays R w e w' → Below w.heap.size w w' ∧ ∃ v, e = .returned (.tuple #[.agg #[.string A, .string B, v], .int .i64 E]) ∧ OwnA w' w.heap.size v (qs.map mk2) := by
    intro R hR
    cases R with
    | none => exact ⟨⟨#[]⟩, ⟨#[]⟩, [], 6, .inr rfl, by have : (⟨#[]⟩ : ByteArray).size = 0 := rfl; simp [psz, this], fun w e w' h => ⟨h.1, _, h.2, World.ownsRow_nil _ _ _ _⟩⟩
    | some x =>
      have := media_size _ _ hR.symm
      rw [len_data] at this
      refine ⟨mk x.1, mk x.2.1, x.2.2, 0, .inl rfl, by rw [show (mk x.1).size = x.1.length from size_mk _, show (mk x.2.1).size = x.2.1.length from size_mk _]; exact this, fun w e w' h => ⟨h.1, h.2⟩⟩
  obtain ⟨A, B, qs, E, hE, hsz, hk⟩ := hR _ rfl
  exact ⟨A, B, qs, _, E, hE, rfl, hsz, key _ h1 A B qs _ E hk rfl, key _ h2 A B qs _ E hk rfl⟩

set_option maxHeartbeats 32000000 in
set_option maxRecDepth 100000 in
theorem lexMedias_any (X T S : ByteArray) (ps : PL) (av : Option Addr) (an ac : Nat) (w : World) (hx : X.size ≤ 2097152) (han : ps.length = an) (hav : SrcA w av ac (ps.map mk2)) (hs : T.size + S.size + psz ps ≤ 16777216) :
    Calls Tryd.prog 3 #[.string X, .agg #[.string T, .string S, .slice av an ac]] w fun e w' => e = .returned (.bool true) ∧ Below w.heap.size w w' := by
  have H0 := Lib.hid fun wx => shown_any wx
  obtain ⟨A, B, qs, qn, E, hE, hqn, hsz, hm, hr⟩ := media_gives X hx
  have HM := Lib.hid hm
  have HR := Lib.hid hr
  have hql := psz_len qs
  have hqb : qn ≤ 35184372088832 := by omega
  have HQN : Hid ((qs.map mk2).length = qn) := Lib.hid (by rw [List.length_map]; exact hqn)
  have HAV := Lib.hid hav
  obtain ⟨tm, htm⟩ : ∃ tm, tm = mk (textM T.data.toList S.data.toList ps) := ⟨_, rfl⟩
  have HT1 : Hid (∀ wx, Below w.heap.size w wx → Calls Tryd.prog 16 #[.agg #[.string T, .string S, .slice av an ac]] wx fun e w' => e = .returned (.string tm) ∧ Below wx.heap.size wx w') := Lib.hid fun wx h => by
    rw [htm]; exact text_small T S ps av an ac wx han (hav.below (Nat.le_refl _) h) (by omega)
  have HT2 : Hid (∀ wx, Below w.heap.size w wx → Calls Tryd.prog 17 #[.agg #[.string T, .string S, .slice av an ac]] wx fun e w' => e = .returned (.string tm) ∧ Below wx.heap.size wx w') := Lib.hid fun wx h => by
    rw [htm]; exact rText_any T S ps av an ac wx han (hav.below (Nat.le_refl _) h) (by omega)
  obtain ⟨tw, htw⟩ : ∃ tw, tw = mk (textM A.data.toList B.data.toList qs) := ⟨_, rfl⟩
  have HT3 : Hid (∀ a c wx, SrcA wx a c (qs.map mk2) → Calls Tryd.prog 16 #[.agg #[.string A, .string B, .slice a qn c]] wx fun e w' => e = .returned (.string tw) ∧ Below wx.heap.size wx w') := Lib.hid fun a c wx h => by
    rw [htw]; exact text_small A B qs a qn c wx hqn h (by omega)
  have HT4 : Hid (∀ a c wx, SrcA wx a c (qs.map mk2) → Calls Tryd.prog 17 #[.agg #[.string A, .string B, .slice a qn c]] wx fun e w' => e = .returned (.string tw) ∧ Below wx.heap.size wx w') := Lib.hid fun a c wx h => by
    rw [htw]; exact rText_any A B qs a qn c wx hqn h (by omega)
  have HBM := Lib.hid (BoxAt.new w (.string T) (.string S) (.slice av an ac) 24)
  have HBW : Hid (Below w.heap.size w (w.alloc (.cells #[.string T, .string S, .slice av an ac] 24))) := Lib.hid ((Below.refl _ _).alloc (Nat.le_refl _) _)
  clear hm hr hav htm htw han hql hs
  go_enter Tryd.func3, Tryd.ntmps3
  go_wp2_with fail
  refine (H0.out _).mono ?_; rintro e w1 ⟨rfl, hb⟩
  have HBM1 := Lib.hid (HBM.out.keep HBM.out.lt hb)
  have HBW1 := Lib.hid (HBW.out.trans (hb.mono HBW.out.size))
  clear hb HBM HBW
  go_wp2_with fail
  refine (HR.out _).mono ?_; rintro e w2 ⟨hb, a0, c0, rfl, hs0, _⟩
  obtain ⟨w3, hw3⟩ : ∃ w3, w3 = w2.alloc (.cells #[.string A, .string B, .slice a0 qn c0] 24) := ⟨_, rfl⟩
  have hb3 : Below w2.heap.size w2 w3 := by rw [hw3]; exact (Below.refl _ _).alloc (Nat.le_refl _) _
  have hz2 : w.heap.size < w2.heap.size := (HBM1.out.keep HBM1.out.lt hb).lt
  have HBM3 := Lib.hid ((HBM1.out.keep HBM1.out.lt hb).keep hz2 hb3)
  have HBX3 : Hid (BoxAt w3 w2.heap.size (.string A) (.string B) (.slice a0 qn c0)) := Lib.hid (by rw [hw3]; exact BoxAt.new _ _ _ _ _)
  have HBW3 := Lib.hid ((HBW1.out.trans (hb.mono HBW1.out.size)).trans (hb3.mono (HBW1.out.trans (hb.mono HBW1.out.size)).size))
  have HS3 := Lib.hid (hs0.below (Nat.le_refl _) hb3)
  clear hb hs0 hb3 HBM1 HBW1
  go_wp2_with fail
  rw [← hw3]
  clear hw3
  go_loopw [8] (fun i wr => ∃ k : Nat, k ≤ 2 ∧ i = .int .i64 k ∧ Below w3.heap.size w3 wr) (fun i _ => 2 - (intOf i).toNat)
  case atStart => exact ⟨0, by omega, rfl, Below.refl _ _⟩
  case round =>
    obtain ⟨k, hk, rfl, hb⟩ := hrel
    obtain ⟨wo, hwo⟩ : ∃ wo, wo = wr := ⟨_, rfl⟩
    subst hwo
    have HB := Lib.hid hb
    have hXr := HBX3.out.keep HBX3.out.lt hb
    have HXR := Lib.hid hXr
    have HSR := Lib.hid (HS3.out.below (Nat.le_refl _) hb)
    clear hXr hb
    by_cases hlt : k < 2
    · go_wp2_with fail
      refine (HM.out _).mono ?_; rintro e w4 ⟨hb, a1, c1, rfl, hs1, hsl⟩
      have hX4 := HXR.out.keep HXR.out.lt hb
      obtain ⟨w5, hw5⟩ : ∃ w5, w5 = w4.alloc (.cells #[.string A, .string B, .slice a1 qn c1] 24) := ⟨_, rfl⟩
      have hb5 : Below w4.heap.size w4 w5 := by rw [hw5]; exact (Below.refl _ _).alloc (Nat.le_refl _) _
      have hX5 : BoxAt w5 w4.heap.size (.string A) (.string B) (.slice a1 qn c1) := by rw [hw5]; exact BoxAt.new _ _ _ _ _
      have HSA := Lib.hid (sameMedia_eq A B a1 a0 qn c1 c0 (qs.map mk2) w5 HQN.out (hs1.below (Nat.le_refl _) hb5) ((HSR.out.below (Nat.le_refl _) hb).below (Nat.le_refl _) hb5) hqb)
      have HX5 := Lib.hid hX5
      have HSL := Lib.hid (hsl.below (Nat.le_refl _) hb5)
      have HBR5 := Lib.hid (hb.trans (hb5.mono hb.size))
      have HZ4 := Lib.hid hb.size
      have HLT0 : Hid (∀ j, j < qn → ∀ g, a1 = some ⟨g, 0, none⟩ → g < w4.heap.size) := Lib.hid fun j hj g hg => by
        obtain ⟨g', h1, _, h3, _⟩ := hsl j hj
        rw [hg] at h1
        simp only [Option.some.injEq, Addr.mk.injEq] at h1
        omega
      obtain ⟨l4, q0, q1, q2, _⟩ := hX4
      obtain ⟨l5, p0, p1, p2, _⟩ := hX5
      subst hw5
      clear hb hs1 hsl hb5
      have HLT : Hid (∀ j, j < qn → ∀ g, a1 = some ⟨g, 0, none⟩ → g < w4.heap.size) := HLT0
      go_wp2_with fail
      refine (HSA.out).mono ?_; rintro e w6 ⟨rfl, hb⟩
      have hX6 := HX5.out.keep HX5.out.lt hb
      have HSL6 := Lib.hid (HSL.out.below (Nat.le_refl _) hb)
      have HBR6 := Lib.hid (HBR5.out.trans (hb.mono HBR5.out.size))
      have HX6 := Lib.hid hX6
      clear hb l4 q0 q1 q2 l5 p0 p1 p2 hX6
      have hE2 : E = 0 ∨ E = 6 := hE
      rcases hE2 with rfl | rfl
      all_goals (
        go_wp2_with fail
        go_loopw [12] (fun i wi => ∃ j : Nat, j ≤ qn ∧ i = .int .i64 j ∧ Below wo.heap.size wo wi ∧ BoxAt wi w4.heap.size (.string A) (.string B) (.slice a1 qn c1) ∧ SlotsA wi a1 wo.heap.size qn) (fun i _ => qn - (intOf i).toNat)
        case atStart => exact ⟨0, by omega, rfl, HBR6.out, HX6.out, HSL6.out⟩
        case round =>
          obtain ⟨j, hj, rfl, hb, hbx, hsl⟩ := hrel
          have HBI := Lib.hid hb
          have HXI := Lib.hid hbx
          have HSI := Lib.hid hsl
          obtain ⟨lI, _, _, i2, _⟩ := hbx
          clear hb
          by_cases hlt2 : j < qn
          · obtain ⟨g, rfl, hg, hgl, ⟨u, hu⟩, ⟨u', hu'⟩, hf⟩ := hsl j hlt2
            have hgx := HLT.out j hlt2 g rfl
            have hne : g ≠ w4.heap.size := by omega
            have hf0 := hf (j * 2)
            have hf1 := hf (j * 2 + 1)
            have HN1 : Hid (∀ x y : Value, BoxAt ((wr.setCell ⟨g, j * 2, none⟩ x).setCell ⟨g, j * 2 + 1, none⟩ y) w4.heap.size (.string A) (.string B) (.slice (some ⟨g, 0, none⟩) qn c1)) := Lib.hid fun x y => (HXI.out.set_ne (p := ⟨g, j * 2, none⟩) hne x).set_ne (p := ⟨g, j * 2 + 1, none⟩) hne y
            have HN2 : Hid (∀ x y : Value, Below wo.heap.size wo ((wr.setCell ⟨g, j * 2, none⟩ x).setCell ⟨g, j * 2 + 1, none⟩ y)) := Lib.hid fun x y => (HBI.out.setCell (p := ⟨g, j * 2, none⟩) hg x).setCell (p := ⟨g, j * 2 + 1, none⟩) hg y
            clear hf hsl
            go_wp2
            go_roundw
            case rel => exact ⟨j + 1, by omega, by go_num, HN2.out _ _, HN1.out _ _, (HSI.out.set _ _).set _ _⟩
            case measure => simp [intOf]; omega
          · clear hsl
            go_wp2
            go_roundw
            case rel => exact ⟨k + 1, by omega, by go_num, HB.out.trans (HBI.out.mono HB.out.size)⟩
            case measure => simp [intOf]; omega)
    · have hM := HBM3.out.keep HBM3.out.lt HB.out
      have hX := HXR.out
      have K0 : Hid (Below wo.heap.size wo wo ∧ wo.cell? ⟨w.heap.size, 0, none⟩ = some (.string T) ∧ wo.cell? ⟨w.heap.size, 1, none⟩ = some (.string S) ∧ wo.cell? ⟨w.heap.size, 2, none⟩ = some (.slice av an ac) ∧ wo.cell? ⟨w2.heap.size, 0, none⟩ = some (.string A) ∧ wo.cell? ⟨w2.heap.size, 1, none⟩ = some (.string B) ∧ wo.cell? ⟨w2.heap.size, 2, none⟩ = some (.slice a0 qn c0)) := Lib.hid ⟨Below.refl _ _, hM.c0, hM.c1, hM.c2, hX.c0, hX.c1, hX.c2⟩
      have KT : Hid (∀ wx wy, (Below wo.heap.size wo wx ∧ wx.cell? ⟨w.heap.size, 0, none⟩ = some (.string T) ∧ wx.cell? ⟨w.heap.size, 1, none⟩ = some (.string S) ∧ wx.cell? ⟨w.heap.size, 2, none⟩ = some (.slice av an ac) ∧ wx.cell? ⟨w2.heap.size, 0, none⟩ = some (.string A) ∧ wx.cell? ⟨w2.heap.size, 1, none⟩ = some (.string B) ∧ wx.cell? ⟨w2.heap.size, 2, none⟩ = some (.slice a0 qn c0)) → Below wx.heap.size wx wy → (Below wo.heap.size wo wy ∧ wy.cell? ⟨w.heap.size, 0, none⟩ = some (.string T) ∧ wy.cell? ⟨w.heap.size, 1, none⟩ = some (.string S) ∧ wy.cell? ⟨w.heap.size, 2, none⟩ = some (.slice av an ac) ∧ wy.cell? ⟨w2.heap.size, 0, none⟩ = some (.string A) ∧ wy.cell? ⟨w2.heap.size, 1, none⟩ = some (.string B) ∧ wy.cell? ⟨w2.heap.size, 2, none⟩ = some (.slice a0 qn c0))) := Lib.hid fun wx wy hS hb => by
        have hl := Nat.lt_of_lt_of_le hM.lt hS.1.size
        have hl2 := Nat.lt_of_lt_of_le hX.lt hS.1.size
        exact ⟨hS.1.trans (hb.mono hS.1.size), (hb.cell (p := ⟨w.heap.size, 0, none⟩) hl).trans hS.2.1, (hb.cell (p := ⟨w.heap.size, 1, none⟩) hl).trans hS.2.2.1, (hb.cell (p := ⟨w.heap.size, 2, none⟩) hl).trans hS.2.2.2.1,
          (hb.cell (p := ⟨w2.heap.size, 0, none⟩) hl2).trans hS.2.2.2.2.1, (hb.cell (p := ⟨w2.heap.size, 1, none⟩) hl2).trans hS.2.2.2.2.2.1, (hb.cell (p := ⟨w2.heap.size, 2, none⟩) hl2).trans hS.2.2.2.2.2.2⟩
      have HBO : Hid (Below w.heap.size w wo) := Lib.hid (HBW3.out.trans (HB.out.mono HBW3.out.size))
      have KE : Hid (∀ wx, (Below wo.heap.size wo wx ∧ wx.cell? ⟨w.heap.size, 0, none⟩ = some (.string T) ∧ wx.cell? ⟨w.heap.size, 1, none⟩ = some (.string S) ∧ wx.cell? ⟨w.heap.size, 2, none⟩ = some (.slice av an ac) ∧ wx.cell? ⟨w2.heap.size, 0, none⟩ = some (.string A) ∧ wx.cell? ⟨w2.heap.size, 1, none⟩ = some (.string B) ∧ wx.cell? ⟨w2.heap.size, 2, none⟩ = some (.slice a0 qn c0)) → Below w.heap.size w wx) := Lib.hid fun wx hS => HBO.out.trans (hS.1.mono HBO.out.size)
      have T1 : Hid (∀ wx, (Below wo.heap.size wo wx ∧ wx.cell? ⟨w.heap.size, 0, none⟩ = some (.string T) ∧ wx.cell? ⟨w.heap.size, 1, none⟩ = some (.string S) ∧ wx.cell? ⟨w.heap.size, 2, none⟩ = some (.slice av an ac) ∧ wx.cell? ⟨w2.heap.size, 0, none⟩ = some (.string A) ∧ wx.cell? ⟨w2.heap.size, 1, none⟩ = some (.string B) ∧ wx.cell? ⟨w2.heap.size, 2, none⟩ = some (.slice a0 qn c0)) → Calls Tryd.prog 16 #[.agg #[.string T, .string S, .slice av an ac]] wx fun e w' => e = .returned (.string tm) ∧ Below wx.heap.size wx w') := Lib.hid fun wx hS => HT1.out wx (KE.out wx hS)
      have T2 : Hid (∀ wx, (Below wo.heap.size wo wx ∧ wx.cell? ⟨w.heap.size, 0, none⟩ = some (.string T) ∧ wx.cell? ⟨w.heap.size, 1, none⟩ = some (.string S) ∧ wx.cell? ⟨w.heap.size, 2, none⟩ = some (.slice av an ac) ∧ wx.cell? ⟨w2.heap.size, 0, none⟩ = some (.string A) ∧ wx.cell? ⟨w2.heap.size, 1, none⟩ = some (.string B) ∧ wx.cell? ⟨w2.heap.size, 2, none⟩ = some (.slice a0 qn c0)) → Calls Tryd.prog 17 #[.agg #[.string T, .string S, .slice av an ac]] wx fun e w' => e = .returned (.string tm) ∧ Below wx.heap.size wx w') := Lib.hid fun wx hS => HT2.out wx (KE.out wx hS)
      have T3 : Hid (∀ wx, (Below wo.heap.size wo wx ∧ wx.cell? ⟨w.heap.size, 0, none⟩ = some (.string T) ∧ wx.cell? ⟨w.heap.size, 1, none⟩ = some (.string S) ∧ wx.cell? ⟨w.heap.size, 2, none⟩ = some (.slice av an ac) ∧ wx.cell? ⟨w2.heap.size, 0, none⟩ = some (.string A) ∧ wx.cell? ⟨w2.heap.size, 1, none⟩ = some (.string B) ∧ wx.cell? ⟨w2.heap.size, 2, none⟩ = some (.slice a0 qn c0)) → Calls Tryd.prog 16 #[.agg #[.string A, .string B, .slice a0 qn c0]] wx fun e w' => e = .returned (.string tw) ∧ Below wx.heap.size wx w') := Lib.hid fun wx hS => HT3.out a0 c0 wx (HSR.out.below (Nat.le_refl _) hS.1)
      have T4 : Hid (∀ wx, (Below wo.heap.size wo wx ∧ wx.cell? ⟨w.heap.size, 0, none⟩ = some (.string T) ∧ wx.cell? ⟨w.heap.size, 1, none⟩ = some (.string S) ∧ wx.cell? ⟨w.heap.size, 2, none⟩ = some (.slice av an ac) ∧ wx.cell? ⟨w2.heap.size, 0, none⟩ = some (.string A) ∧ wx.cell? ⟨w2.heap.size, 1, none⟩ = some (.string B) ∧ wx.cell? ⟨w2.heap.size, 2, none⟩ = some (.slice a0 qn c0)) → Calls Tryd.prog 17 #[.agg #[.string A, .string B, .slice a0 qn c0]] wx fun e w' => e = .returned (.string tw) ∧ Below wx.heap.size wx w') := Lib.hid fun wx hS => HT4.out a0 c0 wx (HSR.out.below (Nat.le_refl _) hS.1)
      have hgk : ¬ k < 2 := hlt
      clear hM hX HBM3 HBX3 HBW3 HB HXR HSR HS3 HT1 HT2 HT3 HT4 HM HR HQN HAV HBO hE
      go_wp2_with fail
      go_region_held3 (fun w' => Below wo.heap.size wo w' ∧ w'.cell? ⟨w.heap.size, 0, none⟩ = some (.string T) ∧ w'.cell? ⟨w.heap.size, 1, none⟩ = some (.string S) ∧ w'.cell? ⟨w.heap.size, 2, none⟩ = some (.slice av an ac) ∧ w'.cell? ⟨w2.heap.size, 0, none⟩ = some (.string A) ∧ w'.cell? ⟨w2.heap.size, 1, none⟩ = some (.string B) ∧ w'.cell? ⟨w2.heap.size, 2, none⟩ = some (.slice a0 qn c0)) (first | exact KT.out _ _ K0.out (Below.refl _ _).drew | exact KT.out _ _ (by assumption) hb)
        (first
          | (go_at_call_of 16 (Value.agg #[Value.string T, Value.string S, Value.slice av an ac]); refine (T1.out _ (by assumption)).mono ?_; rintro e w' ⟨rfl, hb⟩)
          | (go_at_call_of 17 (Value.agg #[Value.string T, Value.string S, Value.slice av an ac]); refine (T2.out _ (by assumption)).mono ?_; rintro e w' ⟨rfl, hb⟩)
          | (go_at_call_of 16 (Value.agg #[Value.string A, Value.string B, Value.slice a0 qn c0]); refine (T3.out _ (by assumption)).mono ?_; rintro e w' ⟨rfl, hb⟩)
          | (go_at_call_of 17 (Value.agg #[Value.string A, Value.string B, Value.slice a0 qn c0]); refine (T4.out _ (by assumption)).mono ?_; rintro e w' ⟨rfl, hb⟩))
      have hHS := KT.out _ _ (by assumption) (Below.refl _ _)
      have HS9 := Lib.hid (KE.out _ hHS)
      clear hHS
      go_wp2
      go_ret
      exact ⟨rfl, HS9.out⟩
end Go.Proofs.YtkadingpmebjbaaDoor
