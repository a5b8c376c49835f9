/- Quoted strings: the program's. -/
import Derived.Test.YtkadingpmebjbaaDoorM
set_option linter.unusedVariables false
namespace Go.Proofs.YtkadingpmebjbaaDoor
open Go.RowKit

theorem qb_yes {c : UInt8} (h : c.toNat = 9 ∨ (32 ≤ c.toNat ∧ c.toNat ≠ 127)) : qb c = true := by
  unfold qb; simp only [Bool.or_eq_true, Bool.and_eq_true, decide_eq_true_eq, Bool.not_eq_true', decide_eq_false_iff_not]; omega
theorem qb_no {c : UInt8} (h : ¬ (c.toNat = 9 ∨ (32 ≤ c.toNat ∧ c.toNat ≠ 127))) : qb c = false := by
  cases hq : qb c
  · rfl
  · unfold qb at hq; simp only [Bool.or_eq_true, Bool.and_eq_true, decide_eq_true_eq, Bool.not_eq_true', decide_eq_false_iff_not] at hq; omega
set_option maxHeartbeats 1000000 in
theorem quotable_any (c : UInt8) (w : World) :
    Calls Tryd.prog 75 #[.int .u8 c.toNat] w fun e w' => e = .returned (.bool (qb c)) ∧ w = w' := by
  obtain ⟨x, hx⟩ : ∃ x : Int, x = (c.toNat : Int) := ⟨_, rfl⟩
  rw [← hx]
  have hcase : x = 9 ∨ (x ≠ 9 ∧ 32 ≤ x ∧ x ≠ 127) ∨ x = 127 ∨ (x ≠ 9 ∧ x < 32) := by omega
  rcases hcase with h | ⟨h1, h2, h3⟩ | h | ⟨h1, h2⟩
  · have HV := Lib.hid (qb_yes (c := c) (by omega))
    clear hx
    subst h
    go_enter Tryd.func75, Tryd.ntmps75
    go_wp2
    go_ret
    exact ⟨ret_bool HV.out.symm, rfl⟩
  · have HV := Lib.hid (qb_yes (c := c) (by omega))
    have e1 : (x == 9) = false := by simp [h1]
    have e2 : (x == 127) = false := by simp [h3]
    have e3 : (x != 127) = true := by simp [h3]
    clear hx h1 h3
    go_enter Tryd.func75, Tryd.ntmps75
    go_wp2
    go_ret
    exact ⟨ret_bool HV.out.symm, rfl⟩
  · have HV := Lib.hid (qb_no (c := c) (by omega))
    clear hx
    subst h
    go_enter Tryd.func75, Tryd.ntmps75
    go_wp2
    go_ret
    exact ⟨ret_bool HV.out.symm, rfl⟩
  · have HV := Lib.hid (qb_no (c := c) (by omega))
    have e1 : (x == 9) = false := by simp [h1]
    clear hx h1
    go_enter Tryd.func75, Tryd.ntmps75
    go_wp2
    go_ret
    exact ⟨ret_bool HV.out.symm, rfl⟩

theorem all_getD (l : List UInt8) : (∀ j, j < l.length → qb (l.getD j 0) = true) → l.all qb = true := fun h => by
  rw [List.all_eq_true]
  intro c hc
  obtain ⟨j, hj, rfl⟩ := List.getElem_of_mem hc
  rw [← getD_at' hj]; exact h j hj
theorem all_not (l : List UInt8) (j : Nat) (hj : j < l.length) (h : qb (l.getD j 0) = false) : l.all qb = false := by
  rw [getD_at' hj] at h
  cases ha : l.all qb
  · rfl
  · rw [List.all_eq_true] at ha; rw [ha _ (List.getElem_mem hj)] at h; cases h
set_option maxHeartbeats 2000000 in
theorem allQ_any (X : ByteArray) (w : World) (hs : X.size ≤ 9223372036854775807) :
    Calls Tryd.prog 53 #[.string X] w fun e w' => e = .returned (.bool (X.data.toList.all qb)) ∧ w = w' := by
  have hll := len_data X
  have hc : ∀ k (h : k < X.size) wx, Calls Tryd.prog 75 #[.int .u8 X[k].toNat] wx fun e w' => e = .returned (.bool (qb (X.data.toList.getD k 0))) ∧ wx = w' := fun k h wx => by
    rw [byte_getD X k h]; exact quotable_any _ wx
  have hy := all_getD X.data.toList
  have hn := all_not X.data.toList
  rw [hll] at hy hn
  generalize X.data.toList.all qb = r at hy hn ⊢
  obtain ⟨tc, htc⟩ : ∃ tc : Nat → Bool, tc = fun k => qb (X.data.toList.getD k 0) := ⟨_, rfl⟩
  have hc2 : ∀ k (h : k < X.size) wx, Calls Tryd.prog 75 #[.int .u8 X[k].toNat] wx fun e w' => e = .returned (.bool (tc k)) ∧ wx = w' := by rw [htc]; exact hc
  have hy2 : (∀ j, j < X.size → tc j = true) → r = true := by rw [htc]; exact hy
  have hn2 : ∀ j, j < X.size → tc j = false → r = false := by rw [htc]; exact hn
  have HC := Lib.hid hc2
  have HY := Lib.hid hy2
  have HN := Lib.hid hn2
  clear hc hy hn hll htc hc2 hy2 hn2
  go_enter Tryd.func53, Tryd.ntmps53
  go_wp2_with fail
  go_loop [3] (fun i => ∃ k : Nat, k ≤ X.size ∧ i = .int .i64 k ∧ ∀ j, j < k → tc j = true) (fun i => X.size - (intOf i).toNat)
  case atStart => exact ⟨0, by omega, rfl, fun j h => by omega⟩
  case round =>
    obtain ⟨k, hk, rfl, hall⟩ := hrel
    have HA := Lib.hid hall
    clear hall
    by_cases hlt : k < X.size
    · have hc := HC.out k hlt
      cases hb : tc k with
      | true =>
        rw [hb] at hc
        have H := Lib.hid hc
        have HNX : Hid (∀ j, j < k + 1 → tc j = true) := Lib.hid fun j h => by
          by_cases e : j = k
          · subst e; exact hb
          · exact HA.out j (by omega)
        clear hc hb
        go_wp2_with fail
        refine (H.out _).mono ?_; rintro e w1 ⟨rfl, rfl⟩
        go_wp2
        go_round
        case rel => exact ⟨k + 1, by omega, by go_num, HNX.out⟩
        case measure => simp [intOf]; omega
      | false =>
        rw [hb] at hc
        have H := Lib.hid hc
        have HV := Lib.hid (HN.out k hlt hb)
        clear hc hb
        go_wp2_with fail
        refine (H.out _).mono ?_; rintro e w1 ⟨rfl, rfl⟩
        go_wp2
        go_ret
        exact ⟨ret_bool HV.out.symm, rfl⟩
    · have HV := Lib.hid (HY.out (fun j h => HA.out j (by omega)))
      go_wp2
      go_ret
      exact ⟨ret_bool HV.out.symm, rfl⟩

theorem made_lit (w : World) (base : Nat) (l : List UInt8) (h : base ≤ w.heap.size) (hl : l.length ≤ 1000) : OwnB (w.alloc (.cells (Lib.byteCells l).toArray 5)) base (.slice (some ⟨w.heap.size, 0, none⟩) l.length l.length) l := by
  refine ⟨by simp [Lib.byteCells], .inr ⟨w.heap.size, l.length, (Lib.byteCells l).toArray, rfl, h, by show (w.heap.push _)[w.heap.size]? = _; simp, Nat.le_refl _, by unfold maxLen; omega, by simp [Lib.byteCells], ?_⟩⟩
  rw [Nat.mul_one, List.take_of_length_le (by simp [Lib.byteCells])]

/-- what is quoted so far -/
def quoTo (l : List UInt8) (k : Nat) : List UInt8 := 34 :: (l.take k).flatMap esc
theorem quoTo_step (l : List UInt8) (k : Nat) (hk : k < l.length) : quoTo l (k + 1) = quoTo l k ++ esc (l.getD k 0) := by
  unfold quoTo
  rw [List.take_succ_eq_append_getElem hk, List.flatMap_append, getD_at' hk]; simp
theorem esc_two {c : UInt8} (h : c.toNat = 34 ∨ c.toNat = 92) : esc c = [92] ++ [c] := by unfold esc; rw [if_pos h]; rfl
theorem esc_one {c : UInt8} (h : ¬ (c.toNat = 34 ∨ c.toNat = 92)) : esc c = [c] := by unfold esc; rw [if_neg h]
theorem quoTo_len (l : List UInt8) (k : Nat) : (quoTo l k).length ≤ 1 + 2 * k := by
  unfold quoTo
  induction k with
  | zero => simp
  | succ k ih =>
    by_cases hk : k < l.length
    · rw [List.take_succ_eq_append_getElem hk, List.flatMap_append]
      have : (esc l[k]).length ≤ 2 := by unfold esc; split <;> simp
      simp only [List.length_cons, List.length_append, List.flatMap_cons, List.flatMap_nil, List.append_nil] at ih ⊢
      omega
    · rw [List.take_of_length_le (by omega)] at ih ⊢; omega
theorem quote_len (l : List UInt8) : (quote l).length ≤ 2 + 2 * l.length := by
  unfold quote
  split
  · have := quoTo_len l l.length
    unfold quoTo at this
    rw [List.take_length] at this
    simp only [List.length_cons, List.length_append, List.length_nil] at this ⊢
    omega
  · simp

set_option maxHeartbeats 8000000 in
set_option maxRecDepth 100000 in
theorem quote_any (X : ByteArray) (w : World) (hs : X.size ≤ 35184372088832) :
    Calls Tryd.prog 54 #[.string X] w fun e w' => e = .returned (.string ⟨(quote X.data.toList).toArray⟩) ∧ Below w.heap.size w w' := by
  have hll := len_data X
  obtain ⟨l, hl⟩ : ∃ l, X.data.toList = l := ⟨_, rfl⟩
  have hat : ∀ k (h : k < X.size), X[k] = l.getD k 0 := fun k h => by rw [← hl]; exact byte_getD X k h
  have hal := fun wx => allQ_any X wx (by omega)
  rw [hl] at hll hal ⊢
  cases hq : l.all qb with
  | false =>
    rw [hq] at hal
    have HV : Hid ((⟨(quote l).toArray⟩ : ByteArray) = ⟨#[]⟩) := Lib.hid (by unfold quote; rw [hq]; rfl)
    have HA := Lib.hid hal
    clear hal hq hat hl hll
    go_enter Tryd.func54, Tryd.ntmps54
    go_wp2_with fail
    refine (HA.out _).mono ?_; rintro e w1 ⟨rfl, rfl⟩
    go_wp2
    go_ret
    exact ⟨ret_str HV.out.symm, Below.refl _ _⟩
  | true =>
    rw [hq] at hal
    have HV : Hid (quote l = quoTo l X.size ++ [34]) := Lib.hid (by unfold quote quoTo; rw [if_pos hq, ← hll, List.take_length]; rfl)
    have HA := Lib.hid hal
    have HAT := Lib.hid hat
    have HLL := Lib.hid hll
    have hml := made_lit w w.heap.size [34] (Nat.le_refl _) (by simp)
    have HML : Hid (OwnB (w.alloc (.cells #[.int .u8 34] 5)) w.heap.size (.slice (some ⟨w.heap.size, 0, none⟩) 1 1) (quoTo l 0)) := Lib.hid (by unfold quoTo; simpa [Lib.byteCells] using hml)
    obtain ⟨Q, hQ⟩ : ∃ Q : ByteArray, Q = ⟨(quote l).toArray⟩ := ⟨_, rfl⟩
    rw [← hQ]
    have HQ := Lib.hid hQ
    clear hal hq hat hl hll hml hQ
    go_enter Tryd.func54, Tryd.ntmps54
    go_wp2_with fail
    refine (HA.out _).mono ?_; rintro e w1 ⟨rfl, rfl⟩
    go_wp2_with fail
    go_loopw [3, 4] (fun v i wr => ∃ k : Nat, k ≤ X.size ∧ i = .int .i64 k ∧ OwnB wr w.heap.size v (quoTo l k) ∧ Below w.heap.size w wr) (fun _ i _ => X.size - (intOf i).toNat)
    case atStart => exact ⟨0, by omega, rfl, HML.out, (Below.refl _ _).alloc (Nat.le_refl _) _⟩
    case round =>
      obtain ⟨k, hk, rfl, hown, hb⟩ := hrel
      have hbd := quoTo_len l k
      by_cases hlt : k < X.size
      · have hx := HAT.out k hlt
        have hstep := quoTo_step l k (by rw [HLL.out]; exact hlt)
        obtain ⟨c, hc⟩ : ∃ c, c = X[k] := ⟨_, rfl⟩
        rw [← hx, ← hc] at hstep
        have hcn : c.toNat = X[k].toNat := by rw [hc]
        have hsr : ∀ wx : World, Src (wx.alloc (.cells #[.int .u8 X[k].toNat] 5)) (some ⟨wx.heap.size, 0, none⟩) 1 [c] := fun wx => by rw [← hcn]; exact lit_src [c] wx (by simp)
        have hsq : ∀ wx : World, Src (wx.alloc (.cells #[.int .u8 92] 5)) (some ⟨wx.heap.size, 0, none⟩) 1 [92] := fun wx => lit_src [92] wx (by simp)
        have HST := Lib.hid hstep
        have HSR := Lib.hid hsr
        have HSQ := Lib.hid hsq
        have HC := Lib.hid hc
        have HB := Lib.hid hb
        by_cases h2 : c.toNat = 34 ∨ c.toNat = 92
        · have HE := Lib.hid (esc_two h2)
          have hO : OwnB (wr.alloc (.cells #[.int .u8 92] 5)) w.heap.size _ (quoTo l k) := World.ownsRow.alloc hown _
          have hZ : w.heap.size ≤ (wr.alloc (.cells #[.int .u8 92] 5)).heap.size := by have := hb.size; simp; omega
          have HO := Lib.hid hO
          have HZ := Lib.hid hZ
          have h34 : (c.toNat : Int) = 34 ∨ (((c.toNat : Int) == 34) = false ∧ (c.toNat : Int) = 92) := by
            rcases h2 with h | h
            · left; omega
            · right; exact ⟨by simp; omega, by omega⟩
          rw [hc] at h34
          clear hx hstep hsr hsq hc hcn hb hown hO hZ h2
          rcases h34 with e | ⟨e0, e⟩
          all_goals
            go_wp2_with (at_builtin; refine app_bytes rfl _ _ rfl w.heap.size _ (quoTo l k) rfl HO.out _ 1 1 [92] rfl rfl (HSQ.out _) ?n2 HZ.out ?_)
            case n2 => simp only [List.length_cons, List.length_nil]; omega
            intro v3 w3 hown3 hb3 _
            have HB3 : Hid (Below w.heap.size w w3) := Lib.hid ((HB.out.alloc HB.out.size _).trans hb3.out)
            have HO3 : Hid (OwnB (w3.alloc (.cells #[.int .u8 X[k].toNat] 5)) w.heap.size v3 (quoTo l k ++ [92])) := Lib.hid (World.ownsRow.alloc hown3 _)
            have HZ3 : Hid (w.heap.size ≤ (w3.alloc (.cells #[.int .u8 X[k].toNat] 5)).heap.size) := Lib.hid (by have := HB3.out.size; simp; omega)
            clear hown3 hb3
            clear e
            go_wp2_with (at_builtin; refine app_bytes rfl _ _ rfl w.heap.size _ (quoTo l k ++ [92]) rfl HO3.out _ 1 1 [c] rfl rfl (HSR.out _) ?n4 HZ3.out ?_)
            case n4 => simp only [List.length_cons, List.length_nil, List.length_append]; omega
            intro v4 w4 hown4 hb4 _
            have HO4 : Hid (OwnB w4 w.heap.size v4 (quoTo l (k + 1))) := Lib.hid (by rw [HST.out, HE.out]; simpa [List.append_assoc] using hown4)
            have HB4 : Hid (Below w.heap.size w w4) := Lib.hid ((HB3.out.alloc HB3.out.size _).trans hb4.out)
            clear hown4 hb4
            go_wp2
            go_roundw
            case rel => exact ⟨k + 1, by omega, by go_num, HO4.out, HB4.out⟩
            case measure => simp [intOf]; omega
        · have HE := Lib.hid (esc_one h2)
          have hO : OwnB (wr.alloc (.cells #[.int .u8 X[k].toNat] 5)) w.heap.size _ (quoTo l k) := World.ownsRow.alloc hown _
          have hZ : w.heap.size ≤ (wr.alloc (.cells #[.int .u8 X[k].toNat] 5)).heap.size := by have := hb.size; simp; omega
          have HO := Lib.hid hO
          have HZ := Lib.hid hZ
          have e1 : ((X[k].toNat : Int) == 34) = false := by rw [← hc]; simp; omega
          have e2 : ((X[k].toNat : Int) == 92) = false := by rw [← hc]; simp; omega
          clear hx hstep hsr hsq hc hcn hb hown hO hZ h2
          go_wp2_with (at_builtin; refine app_bytes rfl _ _ rfl w.heap.size _ (quoTo l k) rfl HO.out _ 1 1 [c] rfl rfl (HSR.out _) ?n2 HZ.out ?_)
          case n2 => simp only [List.length_cons, List.length_nil]; omega
          intro v4 w4 hown4 hb4 _
          have HO4 : Hid (OwnB w4 w.heap.size v4 (quoTo l (k + 1))) := Lib.hid (by rw [HST.out, HE.out]; exact hown4)
          have HB4 : Hid (Below w.heap.size w w4) := Lib.hid ((HB.out.alloc HB.out.size _).trans hb4.out)
          clear hown4 hb4 e1 e2
          go_wp2
          go_roundw
          case rel => exact ⟨k + 1, by omega, by go_num, HO4.out, HB4.out⟩
          case measure => simp [intOf]; omega
      · have hk2 : k = X.size := by omega
        have hsr : ∀ wx : World, Src (wx.alloc (.cells #[.int .u8 34] 5)) (some ⟨wx.heap.size, 0, none⟩) 1 [34] := fun wx => lit_src [34] wx (by simp)
        have hO : OwnB (wr.alloc (.cells #[.int .u8 34] 5)) w.heap.size _ (quoTo l k) := World.ownsRow.alloc hown _
        have hZ : w.heap.size ≤ (wr.alloc (.cells #[.int .u8 34] 5)).heap.size := by have := hb.size; simp; omega
        have HV2 : Hid (quoTo l k ++ [34] = quote l) := Lib.hid (by rw [hk2]; exact HV.out.symm)
        have HO := Lib.hid hO
        have HZ := Lib.hid hZ
        have HSR := Lib.hid hsr
        have HB := Lib.hid hb
        clear hsr hO hZ hown hb hk2
        go_wp2_with (at_builtin; refine app_bytes rfl _ _ rfl w.heap.size _ (quoTo l k) rfl HO.out _ 1 1 [34] rfl rfl (HSR.out _) ?n2 HZ.out ?_)
        case n2 => simp only [List.length_cons, List.length_nil]; omega
        intro v4 w4 hown4 hb4 _
        have hown5 : OwnB w4 w.heap.size v4 (quote l) := by rw [← HV2.out]; exact hown4
        obtain ⟨a5, c5, rfl, _, hs5⟩ := own_src hown5
        have hlen : (quoTo l k ++ [34]).length = (quote l).length := by rw [HV2.out]
        have hcv := conv_src w4 a5 c5 (quote l) hs5
        rw [← HQ.out] at hcv
        have HB4 : Hid (Below w.heap.size w w4) := Lib.hid ((HB.out.alloc HB.out.size _).trans hb4.out)
        clear hown4 hown5 hb4 hlen hs5
        go_wp2
        go_ret
        exact ⟨rfl, HB4.out⟩
end Go.Proofs.YtkadingpmebjbaaDoor
