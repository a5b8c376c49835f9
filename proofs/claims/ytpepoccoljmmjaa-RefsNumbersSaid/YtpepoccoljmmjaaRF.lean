/- A name's beginning, a number's digits: the program's. -/
import Derived.Test.YtpepoccoljmmjaaRE
set_option linter.unusedVariables false
namespace Go.Proofs.Ytpepoccoljmmjaa
open Go.RowKit Go.Shelf

theorem cat_list (A B : ByteArray) : (A ++ B).data.toList = A.data.toList ++ B.data.toList := by simp [ByteArray.data_append]
theorem cat_size (A B : ByteArray) : (A ++ B).size = A.size + B.size := by simp [ByteArray.size_append]
/-- the library's variable holds some number -/
def MaxLen (w : World) : Prop := ∃ m : Int, w.cell? ⟨0, 0, none⟩ = some (.int .i64 m)
theorem cell_lt {w : World} {b o : Nat} {v : Value} (h : w.cell? ⟨b, o, none⟩ = some v) : b < w.heap.size := by
  refine Nat.lt_of_not_le fun hge => ?_
  have : w.heap[b]? = none := Array.getElem?_eq_none hge
  simp [World.cell?, this] at h
theorem MaxLen.below {w w' : World} (h : MaxLen w) (hb : Below w.heap.size w w') : MaxLen w' := by
  obtain ⟨m, hm⟩ := h
  exact ⟨m, (hb.cell (p := ⟨0, 0, none⟩) (cell_lt hm)).trans hm⟩
theorem contains_any (X Y : ByteArray) (w : World) (hs : X.size < 4294967281) (hm : MaxLen w) :
    Calls Try.prog 56 #[.string X, .string Y] w fun e w' => e = .returned (.bool (Lib.contains X.data.toList Y.data.toList)) ∧ w = w' := by
  obtain ⟨m, hm⟩ := hm
  refine (Any.strings_Contains { Try.laysM144 with } X Y m w hs hm).mono ?_
  rintro e w' ⟨rfl, rfl⟩; exact ⟨rfl, rfl⟩

set_option maxRecDepth 100000 in
set_option maxHeartbeats 4000000 in
theorem nameBegins_any (X : ByteArray) (w : World) (hs : X.size ≤ 4611686018427387904) (hm : MaxLen w) :
    Calls Try.prog 41 #[.string X] w fun e w' => e = .returned (.bool (moreN X.data.toList)) ∧ w = w' := by
  rw [← nmBeg_is]
  have hll := len_data X
  have hc : ∀ k (h : k < X.size) wx, Calls Try.prog 54 #[.int .u8 X[k].toNat] wx fun e w' => e = .returned (.bool (isLet (X.data.toList.getD k 0))) ∧ wx = w' := fun k h wx => by
    rw [byte_getD X k h]; exact letter_any _ wx
  obtain ⟨tc, htc⟩ : ∃ tc : Nat → Bool, tc = fun k => isLet (X.data.toList.getD k 0) := ⟨_, rfl⟩
  have hc2 : ∀ k (h : k < X.size) wx, Calls Try.prog 54 #[.int .u8 X[k].toNat] wx fun e w' => e = .returned (.bool (tc k)) ∧ wx = w' := by rw [htc]; exact hc
  obtain ⟨r, hr⟩ : ∃ r, r = nmBeg X.data.toList := ⟨_, rfl⟩
  rw [← hr]
  have hno : ∀ k, k < X.size → tc k = false → r = false := fun k hk h => by
    rw [hr]; unfold nmBeg
    have : X.data.toList.all isLet = false := by
      rw [List.all_eq_false]
      refine ⟨X.data.toList[k]'(by omega), List.getElem_mem _, ?_⟩
      rw [htc] at h; simp only [getD_at' (show k < X.data.toList.length by omega)] at h
      rw [h]; simp
    rw [this]; rfl
  have hyes : (∀ k, k < X.size → tc k = true) → r = Lib.contains namesL (32 :: X.data.toList) := fun h => by
    rw [hr]; unfold nmBeg
    have : X.data.toList.all isLet = true := by
      rw [List.all_eq_true]
      intro c hc
      obtain ⟨k, hk, rfl⟩ := List.getElem_of_mem hc
      have := h k (by omega)
      rw [htc] at this; simp only [getD_at' hk] at this
      exact this
    rw [this]; rfl
  have hcat : ((⟨#[32]⟩ : ByteArray) ++ X).data.toList = 32 :: X.data.toList := by rw [cat_list]; rfl
  rw [← hcat] at hyes
  have hz : ((⟨#[32]⟩ : ByteArray) ++ X).size = 1 + X.size := cat_size _ _
  have hcon : ∀ Y : ByteArray, Y.size < 4294967281 → Calls Try.prog 56 #[.string Y, .string ((⟨#[32]⟩ : ByteArray) ++ X)] w fun e w' => e = .returned (.bool (Lib.contains Y.data.toList ((⟨#[32]⟩ : ByteArray) ++ X).data.toList)) ∧ w = w' := fun Y hY => contains_any Y _ w hY hm
  have HC := Lib.hid hc2
  have HNO := Lib.hid hno
  have HYES := Lib.hid hyes
  have HCON := Lib.hid hcon
  clear hc hll htc hc2 hr hno hyes hcon hcat hm
  go_enter Try.func41, Try.ntmps41
  go_wp2_with fail
  go_loop [3] (fun i => ∃ k : Nat, k ≤ X.size ∧ i = .int .i64 k ∧ ∀ j, j < k → tc j = true) (fun i => X.size - (intOf i).toNat)
  case atStart => exact ⟨0, by omega, rfl, fun j h => by omega⟩
  case round =>
    obtain ⟨k, hk, rfl, hall⟩ := hrel
    have HA := Lib.hid hall
    clear hall
    by_cases hlt : k < X.size
    · have hc := HC.out k hlt
      cases hb : tc k with
      | true =>
        rw [hb] at hc
        have H := Lib.hid hc
        have HN : Hid (∀ j, j < k + 1 → tc j = true) := Lib.hid fun j h => by
          by_cases e : j = k
          · subst e; exact hb
          · exact HA.out j (by omega)
        clear hc hb
        go_wp2_with fail
        refine (H.out _).mono ?_; rintro e w1 ⟨rfl, rfl⟩
        go_wp2
        go_round
        case rel => exact ⟨k + 1, by omega, by go_num, HN.out⟩
        case measure => simp [intOf]; omega
      | false =>
        rw [hb] at hc
        have H := Lib.hid hc
        have HV := Lib.hid (HNO.out k hlt hb)
        clear hc hb
        go_wp2_with fail
        refine (H.out _).mono ?_; rintro e w1 ⟨rfl, rfl⟩
        go_wp2
        go_ret
        exact ⟨ret_bool (by rw [HV.out]), rfl⟩
    · have HV := Lib.hid (HYES.out fun j hj => HA.out j (by omega))
      go_wp2_with fail
      refine (HCON.out _ (by decide +kernel)).mono ?_; rintro e w1 ⟨rfl, rfl⟩
      go_wp2
      go_ret
      exact ⟨ret_bool (by rw [HV.out]; congr 1), rfl⟩
end Go.Proofs.Ytpepoccoljmmjaa
