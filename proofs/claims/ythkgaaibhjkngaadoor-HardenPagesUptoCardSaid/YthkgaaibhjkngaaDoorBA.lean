/- How many bytes of a token, how many blanks: the document's answer. -/
import Derived.Test.YthkgaaibhjkngaaDoorX
set_option linter.unusedVariables false
namespace Go.Proofs.YthkgaaibhjkngaaDoor
open Go.RowKit

/-- how many bytes at the beginning are such -/
def cnt (p : UInt8 → Bool) (l : List UInt8) : Nat := (l.takeWhile p).length
theorem cnt_le (p : UInt8 → Bool) (l : List UInt8) : cnt p l ≤ l.length := (List.takeWhile_sublist p).length_le
theorem cnt_cons (p : UInt8 → Bool) (c : UInt8) (r : List UInt8) : cnt p (c :: r) = if p c = true then cnt p r + 1 else 0 := by
  unfold cnt; rw [List.takeWhile_cons]; split <;> simp
theorem cnt_at (p : UInt8 → Bool) (l : List UInt8) (k : Nat) (hk : k ≤ l.length) (h : ∀ j (hj : j < l.length), j < k → p l[j] = true) (h2 : ∀ hj : k < l.length, p l[k] = false) : cnt p l = k := by
  induction l generalizing k with
  | nil => simp at hk; subst hk; rfl
  | cons c r ih =>
    rw [cnt_cons]
    cases k with
    | zero => have := h2 (by simp); simp at this; simp [this]
    | succ k =>
      have h0 := h 0 (by simp) (by omega)
      simp only [List.getElem_cons_zero] at h0
      rw [if_pos h0, ih k (by simpa using hk) (fun j hj hlt => by have := h (j + 1) (by simpa using hj) (by omega); simpa using this) (fun hj => by have := h2 (by simpa using hj); simpa using this)]
theorem cnt_getD (p : UInt8 → Bool) (l : List UInt8) (k : Nat) (hk : k ≤ l.length) (h : ∀ j, j < k → p (l.getD j 0) = true) (h2 : k < l.length → p (l.getD k 0) = false) : cnt p l = k :=
  cnt_at p l k hk (fun j hj hlt => by rw [← getD_at' hj]; exact h j hlt) (fun hj => by rw [← getD_at' hj]; exact h2 hj)
theorem cnt_drop (p : UInt8 → Bool) (l : List UInt8) : l.drop (cnt p l) = l.dropWhile p := by
  induction l with
  | nil => rfl
  | cons c r ih =>
    rw [cnt_cons, List.dropWhile_cons]
    cases h : p c with
    | true => simp only [if_true, List.drop_succ_cons]; exact ih
    | false => simp
theorem cnt_tok (l : List UInt8) : cnt tch l = tok l := rfl
def nsk (l : List UInt8) : Nat := cnt (blanks.contains ·) l
theorem nsk_drop (l : List UInt8) : l.drop (nsk l) = skip l := cnt_drop _ l
theorem nsk_le (l : List UInt8) : nsk l ≤ l.length := cnt_le _ l

set_option maxHeartbeats 4000000 in
theorem word_any (X : ByteArray) (w : World) (hs : X.size ≤ 9223372036854775807) :
    Calls Tryd.prog 95 #[.string X] w fun e w' => e = .returned (.int .i64 (tok X.data.toList : Nat)) ∧ w = w' := by
  have hll := len_data X
  have hc : ∀ k (h : k < X.size) wx, Calls Tryd.prog 119 #[.int .u8 X[k].toNat] wx fun e w' => e = .returned (.bool (tch (X.data.toList.getD k 0))) ∧ wx = w' := fun k h wx => by
    rw [byte_getD X k h]; exact tchar_any _ wx
  have ht : ∀ k, k ≤ X.data.toList.length → (∀ j, j < k → tch (X.data.toList.getD j 0) = true) → (k < X.data.toList.length → tch (X.data.toList.getD k 0) = false) → tok X.data.toList = k := fun k hk h h2 => cnt_getD _ X.data.toList k hk h h2
  rw [hll] at ht
  generalize tok X.data.toList = r at ht ⊢
  obtain ⟨tc, htc⟩ : ∃ tc : Nat → Bool, tc = fun k => tch (X.data.toList.getD k 0) := ⟨_, rfl⟩
  have hc2 : ∀ k (h : k < X.size) wx, Calls Tryd.prog 119 #[.int .u8 X[k].toNat] wx fun e w' => e = .returned (.bool (tc k)) ∧ wx = w' := by rw [htc]; exact hc
  have ht2 : ∀ k, k ≤ X.size → (∀ j, j < k → tc j = true) → (k < X.size → tc k = false) → r = k := by rw [htc]; exact ht
  have HC := Lib.hid hc2
  have HT := Lib.hid ht2
  clear hc ht hll htc hc2 ht2
  go_enter Tryd.func95, Tryd.ntmps95
  go_wp2_with fail
  go_loop [3] (fun i => ∃ k : Nat, k ≤ X.size ∧ i = .int .i64 k ∧ ∀ j, j < k → tc j = true) (fun i => X.size - (intOf i).toNat)
  case atStart => exact ⟨0, by omega, rfl, fun j h => by omega⟩
  case round =>
    obtain ⟨k, hk, rfl, hall⟩ := hrel
    have HA := Lib.hid hall
    clear hall
    by_cases hlt : k < X.size
    · have hc := HC.out k hlt
      cases hb : tc k with
      | true =>
        rw [hb] at hc
        have H := Lib.hid hc
        have HN : Hid (∀ j, j < k + 1 → tc j = true) := Lib.hid fun j h => by
          by_cases e : j = k
          · subst e; exact hb
          · exact HA.out j (by omega)
        clear hc hb
        go_wp2_with fail
        refine (H.out _).mono ?_; rintro e w1 ⟨rfl, rfl⟩
        go_wp2
        go_round
        case rel => exact ⟨k + 1, by omega, by go_num, HN.out⟩
        case measure => simp [intOf]; omega
      | false =>
        rw [hb] at hc
        have H := Lib.hid hc
        have HV := Lib.hid (HT.out k hk HA.out (fun _ => hb))
        clear hc hb
        go_wp2_with fail
        refine (H.out _).mono ?_; rintro e w1 ⟨rfl, rfl⟩
        go_wp2
        go_ret
        exact ⟨ret_int (by rw [HV.out]), rfl⟩
    · have HV := Lib.hid (HT.out k hk HA.out (fun h => absurd h hlt))
      go_wp2
      go_ret
      exact ⟨ret_int (by rw [HV.out]), rfl⟩

set_option maxHeartbeats 4000000 in
theorem rskip_any (X : ByteArray) (w : World) (hs : X.size ≤ 9223372036854775807) :
    Calls Tryd.prog 97 #[.string X] w fun e w' => e = .returned (.int .i64 (nsk X.data.toList : Nat)) ∧ w = w' := by
  have hll := len_data X
  have hc : ∀ k (h : k < X.size) wx, Calls Tryd.prog 118 #[.int .u8 X[k].toNat] wx fun e w' => e = .returned (.bool (blanks.contains (X.data.toList.getD k 0))) ∧ wx = w' := fun k h wx => by
    rw [byte_getD X k h]; exact blank_any _ wx
  have ht : ∀ k, k ≤ X.data.toList.length → (∀ j, j < k → blanks.contains (X.data.toList.getD j 0) = true) → (k < X.data.toList.length → blanks.contains (X.data.toList.getD k 0) = false) → nsk X.data.toList = k := fun k hk h h2 => cnt_getD _ X.data.toList k hk h h2
  rw [hll] at ht
  generalize nsk X.data.toList = r at ht ⊢
  obtain ⟨tc, htc⟩ : ∃ tc : Nat → Bool, tc = fun k => blanks.contains (X.data.toList.getD k 0) := ⟨_, rfl⟩
  have hc2 : ∀ k (h : k < X.size) wx, Calls Tryd.prog 118 #[.int .u8 X[k].toNat] wx fun e w' => e = .returned (.bool (tc k)) ∧ wx = w' := by rw [htc]; exact hc
  have ht2 : ∀ k, k ≤ X.size → (∀ j, j < k → tc j = true) → (k < X.size → tc k = false) → r = k := by rw [htc]; exact ht
  have HC := Lib.hid hc2
  have HT := Lib.hid ht2
  clear hc ht hll htc hc2 ht2
  go_enter Tryd.func97, Tryd.ntmps97
  go_wp2_with fail
  go_loop [3] (fun i => ∃ k : Nat, k ≤ X.size ∧ i = .int .i64 k ∧ ∀ j, j < k → tc j = true) (fun i => X.size - (intOf i).toNat)
  case atStart => exact ⟨0, by omega, rfl, fun j h => by omega⟩
  case round =>
    obtain ⟨k, hk, rfl, hall⟩ := hrel
    have HA := Lib.hid hall
    clear hall
    by_cases hlt : k < X.size
    · have hc := HC.out k hlt
      cases hb : tc k with
      | true =>
        rw [hb] at hc
        have H := Lib.hid hc
        have HN : Hid (∀ j, j < k + 1 → tc j = true) := Lib.hid fun j h => by
          by_cases e : j = k
          · subst e; exact hb
          · exact HA.out j (by omega)
        clear hc hb
        go_wp2_with fail
        refine (H.out _).mono ?_; rintro e w1 ⟨rfl, rfl⟩
        go_wp2
        go_round
        case rel => exact ⟨k + 1, by omega, by go_num, HN.out⟩
        case measure => simp [intOf]; omega
      | false =>
        rw [hb] at hc
        have H := Lib.hid hc
        have HV := Lib.hid (HT.out k hk HA.out (fun _ => hb))
        clear hc hb
        go_wp2_with fail
        refine (H.out _).mono ?_; rintro e w1 ⟨rfl, rfl⟩
        go_wp2
        go_ret
        exact ⟨ret_int (by rw [HV.out]), rfl⟩
    · have HV := Lib.hid (HT.out k hk HA.out (fun h => absurd h hlt))
      go_wp2
      go_ret
      exact ⟨ret_int (by rw [HV.out]), rfl⟩

end Go.Proofs.YthkgaaibhjkngaaDoor
