/- All references replaced; a text as it must be written: the program's. -/
import Derived.Test.YtpepoccoljmmjaaRH
set_option linter.unusedVariables false
namespace Go.Proofs.Ytpepoccoljmmjaa
open Go.RowKit Go.Shelf

theorem IsB.below {B b : Nat} {l : Bs} {W W' : World} (h : IsB B b l W) (hb : Below W.heap.size W W') : IsB B b l W' := by
  have key : ∀ p, AtB B b p l W → AtB B b p l W' := fun p h => by
    have hlt := h.lt
    obtain ⟨hB, v, hv, hown, hne⟩ := h
    exact ⟨hB, v, (hb.block b hlt).trans hv, hown.kept (row := none) ⟨hb.os, hb.tape, hb.output, hb.size, fun k hk _ => hb.block k hk⟩ (Classical.em _), hne⟩
  exact h.elim (fun x => .inl (key _ x)) (fun x => .inr (key _ x))
theorem indexByte_is (c : UInt8) : ∀ l : Bs, (Lib.indexByte l c = -1 ∧ ∀ x ∈ l, x ≠ c) ∨ ∃ k, k < l.length ∧ Lib.indexByte l c = (k : Nat) ∧ l.drop k = c :: l.drop (k + 1) ∧ ∀ x ∈ l.take k, x ≠ c
  | [] => .inl ⟨rfl, by simp⟩
  | a :: l => by
    unfold Lib.indexByte
    by_cases h : a = c
    · subst h
      exact .inr ⟨0, by simp, by simp, rfl, fun x hx => by simp at hx⟩
    · have hb : (a == c) = false := by simp [h]
      rw [hb]
      rcases indexByte_is c l with ⟨h1, h2⟩ | ⟨k, h1, h2, h3, h4⟩
      · rw [h1]
        exact .inl ⟨rfl, fun x hx => by rcases List.mem_cons.1 hx with rfl | hx; (· exact h); exact h2 x hx⟩
      · rw [h2]
        refine .inr ⟨k + 1, by simpa using h1, ?_, h3, fun x hx => ?_⟩
        · have : ((k : Int) == -1) = false := by rw [beq_eq_false_iff_ne]; omega
          rw [this]; simp
        · rw [List.take_succ_cons] at hx
          rcases List.mem_cons.1 hx with rfl | hx
          · exact h
          · exact h4 x hx
theorem idx_any (X : ByteArray) (w : World) : Calls Try.prog 42 #[.string X, .int .u8 38] w fun e w' => e = .returned (.int .i64 (Lib.indexByte X.data.toList 38)) ∧ w = w' := by
  refine (Any.strings_IndexByte Try.lays137 X 38 w).mono ?_; rintro e w' ⟨rfl, rfl⟩; exact ⟨rfl, rfl⟩

theorem tkN_le (r : Bs) : (tkN r).2 ≤ r.length + 2 := by
  unfold tkN
  split
  · simp
  · rename_i h
    have hn : (ndig r).length ≤ (r.drop (nbg r)).length := (digs_len _ _).1
    rw [List.length_drop] at hn
    have h0 : (ndig r).length ≠ 0 := fun e => h (List.length_eq_zero_iff.1 e)
    simp only
    split
    · rename_i hs
      have : nbg r + (ndig r).length < r.length := by
        refine Nat.lt_of_not_le fun hge => ?_
        rw [List.drop_eq_nil_of_le hge] at hs; simp at hs
      omega
    · omega
theorem tk_le (q : Bool) (l : Bs) : (tk q l).2 ≤ l.length := by
  unfold tk
  split
  · rename_i r
    split
    · rename_i h
      have hr : 1 ≤ r.length := by cases r; simp at h; simp
      have := tkN_le (r.drop 1)
      rw [List.length_drop] at this
      simp only [List.length_cons]; omega
    · split
      · simp
      · have := (fnd_le r).1
        simp only [List.length_cons]; omega
  · simp
def strLen : Value → Nat | .string s => s.size | _ => 0

set_option maxRecDepth 10000 in
set_option maxHeartbeats 4000000 in
theorem all_any (X : ByteArray) (q : Bool) (w : World) (hs : X.size ≤ 140737488355328) (htot : (alls q X.data.toList).length ≤ 140737488355328) :
    Calls Try.prog 21 #[.string X, .bool q] w fun e w' => e = .returned (.string (bs (alls q X.data.toList))) ∧ Below w.heap.size w w' := by
  have hI0 : IsB w.heap.size w.heap.size [] (w.alloc (.cells #[.pointer none, .slice none 0 0] 57)) := Lib.IsBuilderF.of (Lib.fresh_isBuilder 57 5 w)
  have hb0 : Below w.heap.size w (w.alloc (.cells #[.pointer none, .slice none 0 0] 57)) := (Below.refl _ _).alloc (Nat.le_refl _) _
  have HI0 := Lib.hid hI0
  have HB0 := Lib.hid hb0
  obtain ⟨E, hE⟩ : ∃ E, E = alls q X.data.toList := ⟨_, rfl⟩
  rw [← hE] at htot ⊢
  have HE := Lib.hid hE
  have HT := Lib.hid htot
  clear hI0 hb0 hE htot
  go_enter Try.func21, Try.ntmps21
  go_wp2_with fail
  go_loopw [0] (fun s wr => ∃ (Y : ByteArray) (acc : Bs), s = .string Y ∧ Y.size ≤ X.size ∧ acc ++ alls q Y.data.toList = E ∧ IsB w.heap.size w.heap.size acc wr ∧ Below w.heap.size w wr) (fun s _ => strLen s)
  case atStart => exact ⟨X, [], rfl, Nat.le_refl _, HE.out.symm, HI0.out, HB0.out⟩
  case round =>
    obtain ⟨Y, acc, rfl, hY, hacc, hI, hb⟩ := hrel
    have hlen : acc.length + (alls q Y.data.toList).length = E.length := by rw [← hacc, List.length_append]
    have htot := HT.out
    have hyl := len_data Y
    rcases indexByte_is 38 Y.data.toList with ⟨h1, h2⟩ | ⟨k, h1, h2, h3, h4⟩
    · have hidx := idx_any Y wr
      rw [h1] at hidx
      rw [alls_none q _ h2] at hacc hlen
      have hws := ws_any _ _ acc Y wr hI (by omega) hb.size
      rw [hacc] at hws
      have HX := Lib.hid hidx
      have HW := Lib.hid hws
      have HB := Lib.hid hb
      clear hidx hws hb hI hacc hlen htot hyl h1 h2
      go_wp2_with fail
      refine HX.out.mono ?_; rintro e w1 ⟨rfl, rfl⟩
      go_wp2_with fail
      refine HW.out.mono ?_; rintro e w2 ⟨rfl, hI2, hb2⟩
      have hs2 := str_any w.heap.size w.heap.size E w2 hI2 (Nat.le_trans HB.out.size hb2.size)
      have HS := Lib.hid hs2
      have HB2 := Lib.hid (HB.out.trans hb2)
      clear hI2 hb2 hs2
      go_wp2_with fail
      refine HS.out.mono ?_; rintro e w3 ⟨rfl, hb3⟩
      have HB3 := Lib.hid (HB2.out.trans hb3)
      clear hb3
      go_wp2
      go_ret
      exact ⟨rfl, HB3.out⟩
    · have hidx := idx_any Y wr
      rw [h2] at hidx
      have hsplit : alls q Y.data.toList = Y.data.toList.take k ++ alls q (Y.data.toList.drop k) := by
        conv => lhs; rw [← List.take_append_drop k Y.data.toList]
        exact alls_pre q _ _ h4
      rw [hsplit] at hacc hlen
      rw [List.length_append, List.length_take] at hlen
      have hkY : k < Y.size := by omega
      have he1 : (Y.extract 0 k).data.toList = Y.data.toList.take k := by rw [ext_list _ _ _ (by omega), List.drop_zero]
      have hz1 : (Y.extract 0 k).size = k := by rw [ext_size _ _ _ (by omega)]; omega
      have hws := ws_any _ _ acc (Y.extract 0 k) wr hI (by rw [hz1]; omega) hb.size
      rw [he1] at hws
      obtain ⟨Z, hZ⟩ : ∃ Z, Z = Y.extract k Y.size := ⟨_, rfl⟩
      have hZl : Z.data.toList = Y.data.toList.drop k := by rw [hZ, ext_drop]
      have hZs : Z.size = Y.size - k := by rw [hZ, ext_size _ _ _ (Nat.le_refl _)]
      have htk := fun wx => take_any Z q wx (by omega)
      have hle := tk_le q Z.data.toList
      rw [len_data] at hle
      have hZne : Z.data.toList ≠ [] := by rw [hZl, h3]; simp
      rw [← hZl] at hacc hlen
      obtain ⟨c, n, hcn⟩ : ∃ c n, tk q Z.data.toList = (c, n) := ⟨_, _, rfl⟩
      rw [hcn] at htk hle
      simp only at htk hle
      -- what is written, and what is left
      obtain ⟨c', n', hc', hn1, hn2, hst⟩ : ∃ (c' : Bs) (n' : Nat), (if n = 0 then (([38] : Bs), 1) else (c, n)) = (c', n') ∧ 1 ≤ n' ∧ n' ≤ Z.size ∧ alls q Z.data.toList = c' ++ alls q (Z.data.toList.drop n') := by
        by_cases h0 : n = 0
        · refine ⟨[38], 1, by rw [if_pos h0], Nat.le_refl _, by omega, ?_⟩
          have hz : Z.data.toList = 38 :: Z.data.toList.drop 1 := by rw [hZl, h3, List.drop_succ_cons, List.drop_zero]
          conv => lhs; rw [hz]
          unfold alls
          rw [rep_miss (by rw [← hz, hcn]; exact h0)]; rfl
        · refine ⟨c, n, by rw [if_neg h0], by omega, hle, ?_⟩
          have := rep_hit (f := tk q) hZne (by rw [hcn]; exact h0)
          rw [hcn] at this; exact this
      rw [hst] at hacc hlen
      rw [List.length_append] at hlen
      have hzn : (Z.extract n' Z.size).data.toList = Z.data.toList.drop n' := ext_drop _ _
      have hzs : (Z.extract n' Z.size).size = Z.size - n' := ext_size _ _ _ (Nat.le_refl _)
      have hws2 : ∀ w2, IsB w.heap.size w.heap.size (acc ++ Y.data.toList.take k) w2 → w.heap.size ≤ w2.heap.size → Calls Try.prog 43 #[.pointer (some ⟨w.heap.size, 0, none⟩), .string (bs c')] w2 fun e w' => e = .returned (.tuple #[.int .i64 (bs c').size, .nilIface]) ∧ IsB w.heap.size w.heap.size ((acc ++ Y.data.toList.take k) ++ c') w' ∧ Below w.heap.size w2 w' := fun w2 hI2 hs2 => by
        have := ws_any _ _ (acc ++ Y.data.toList.take k) (bs c') w2 hI2 (by rw [show (bs c').size = c'.length from size_mk c', List.length_append, List.length_take]; omega) hs2
        rwa [show (bs c').data.toList = c' from data_mk c'] at this
      have hrel : (acc ++ Y.data.toList.take k ++ c') ++ alls q (Z.extract n' Z.size).data.toList = E := by rw [hzn, ← hacc]; simp
      have hYn : Z.size - n' < Y.size := by omega
      obtain ⟨U, hU⟩ : ∃ U, U = Z.extract n' Z.size := ⟨_, rfl⟩
      rw [← hU] at hrel hzs
      generalize acc ++ Y.data.toList.take k = acc2 at hws hws2 hrel
      have hZZ : ∀ x, x = Y.extract k Y.size → x = Z := fun x h => h.trans hZ.symm
      have HX := Lib.hid hidx
      have HW := Lib.hid hws
      have HT2 := Lib.hid htk
      have HW2 := Lib.hid hws2
      have HR := Lib.hid hrel
      have HB := Lib.hid hb
      have HU := Lib.hid hU
      have HZ := Lib.hid hZ
      clear hidx hws hb hI hacc hlen htot hyl h1 h2 h3 h4 hsplit he1 hz1 hZl hZne hcn htk hst hzn hws2 hrel hU hle hZZ hZ
      have HUs : Hid (U.size < Y.size) := Lib.hid (by omega)
      have HUY : Hid (U.size ≤ X.size) := Lib.hid (by omega)
      clear hzs hYn hZs
      by_cases h0 : n = 0
      · subst h0
        rw [if_pos rfl] at hc'
        cases hc'
        go_wp2_with fail
        refine HX.out.mono ?_; rintro e w1 ⟨rfl, rfl⟩
        go_wp2_with fail
        refine HW.out.mono ?_; rintro e w2 ⟨rfl, hI2, hb2⟩
        have HI2 := Lib.hid hI2
        have HB2 := Lib.hid (HB.out.trans hb2)
        clear hI2 hb2
        go_wp2_with fail
        rw [← HZ.out]
        refine (HT2.out _).mono ?_; rintro e w3 ⟨rfl, hb3⟩
        have HI3 := Lib.hid (HI2.out.below hb3)
        have HB3 := Lib.hid (HB2.out.trans (hb3.mono HB2.out.size))
        clear hb3
        go_wp2_with fail
        refine (HW2.out _ HI3.out HB3.out.size).mono ?_; rintro e w4 ⟨rfl, hI4, hb4⟩
        have HI4 := Lib.hid hI4
        have HB4 := Lib.hid (HB3.out.trans hb4)
        clear hI4 hb4
        go_wp2
        rw [← HU.out]
        go_roundw
        case rel => exact ⟨U, _, rfl, HUY.out, HR.out, HI4.out, HB4.out⟩
        case measure => exact HUs.out
      · rw [if_neg h0] at hc'
        cases hc'
        have g0 : ((n : Int) == 0) = false := by simp; omega
        clear h0
        go_wp2_with fail
        refine HX.out.mono ?_; rintro e w1 ⟨rfl, rfl⟩
        go_wp2_with fail
        refine HW.out.mono ?_; rintro e w2 ⟨rfl, hI2, hb2⟩
        have HI2 := Lib.hid hI2
        have HB2 := Lib.hid (HB.out.trans hb2)
        clear hI2 hb2
        go_wp2_with fail
        rw [← HZ.out]
        refine (HT2.out _).mono ?_; rintro e w3 ⟨rfl, hb3⟩
        have HI3 := Lib.hid (HI2.out.below hb3)
        have HB3 := Lib.hid (HB2.out.trans (hb3.mono HB2.out.size))
        clear hb3
        go_wp2_with fail
        refine (HW2.out _ HI3.out HB3.out.size).mono ?_; rintro e w4 ⟨rfl, hI4, hb4⟩
        have HI4 := Lib.hid hI4
        have HB4 := Lib.hid (HB3.out.trans hb4)
        clear hI4 hb4
        go_wp2
        rw [← HU.out]
        go_roundw
        case rel => exact ⟨U, _, rfl, HUY.out, HR.out, HI4.out, HB4.out⟩
        case measure => exact HUs.out
end Go.Proofs.Ytpepoccoljmmjaa
