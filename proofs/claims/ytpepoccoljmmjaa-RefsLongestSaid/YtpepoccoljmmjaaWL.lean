/- No longer name stands there: the walk. -/
import Derived.Test.YtpepoccoljmmjaaRK
set_option linter.unusedVariables false
namespace Go.Proofs.Ytpepoccoljmmjaa
open Go.RowKit Go.Shelf

theorem fnd_take {l : Bs} {k : Nat} (h1 : (fnd l).2 ≤ k) (h2 : k ≤ l.length) : fnd (l.take k) = fnd l := by
  have htt : ∀ m, (l.take k).take m = l.take (min m k) := fun m => List.take_take
  have hkl : (l.take k).length = k := by rw [List.length_take]; omega
  rcases fnd_is l with ⟨h, hno⟩ | ⟨n, h0, hn1, hn2, hn3, h, hno⟩
  · rw [h]
    apply fnd_none
    intro m h3 h4
    rw [htt, Nat.min_eq_left (by omega)]
    exact hno m h3 (by omega)
  · rw [h] at h1 ⊢
    simp only at h1
    have e : (l.take k).take n = l.take n := by rw [htt, Nat.min_eq_left h1]
    rw [← e]
    refine fnd_some h0 (by omega) (by rw [e]; exact hn3) fun m h3 h4 => ?_
    rw [htt, Nat.min_eq_left (by omega)]
    exact hno m h3 (by omega)

set_option maxRecDepth 10000 in
set_option maxHeartbeats 4000000 in
theorem longest_walk (X : ByteArray) (w : World) (hm : MaxLen w) (hs : X.size ≤ 140737488355328) :
    Calls Try.prog 10 #[.string X] w fun e w' => e = .returned (.bool true) ∧ Below w.heap.size w w' := by
  have hsh := shown_any w hm
  have hll := len_data X
  have hf : ∀ wx, Calls Try.prog 13 #[.string X] wx fun e w' => e = .returned (.tuple #[.string (bs (fnd X.data.toList).1), .int .i64 ((fnd X.data.toList).2 : Nat)]) ∧ wx = w' := fun wx => find_any X wx (by omega)
  have hft : ∀ k, (fnd X.data.toList).2 ≤ k → k ≤ X.size → ∀ wx, Calls Try.prog 13 #[.string (X.extract 0 k)] wx fun e w' => e = .returned (.tuple #[.string (bs (fnd X.data.toList).1), .int .i64 ((fnd X.data.toList).2 : Nat)]) ∧ wx = w' := fun k h1 h2 wx => by
    have := find_any (X.extract 0 k) wx (by rw [ext_size _ _ _ h2]; omega)
    rwa [ext_list _ _ _ h2, List.drop_zero, fnd_take h1 (by omega)] at this
  obtain ⟨hle, _, hz⟩ := fnd_le X.data.toList
  rw [hll] at hle
  obtain ⟨T, hT⟩ : ∃ T, T = bs (fnd X.data.toList).1 := ⟨_, rfl⟩
  have hTe : (fnd X.data.toList).2 = 0 ↔ T.toList = [] := by
    rw [hT, toList_data', show (bs (fnd X.data.toList).1).data.toList = _ from data_mk _]; exact hz
  rw [← hT] at hf hft
  obtain ⟨n, hn⟩ : ∃ n, n = (fnd X.data.toList).2 := ⟨_, rfl⟩
  rw [← hn] at hf hft hle hTe
  have HSH := Lib.hid hsh
  have HF := Lib.hid hf
  have HFT := Lib.hid hft
  clear hsh hf hft hll hz hT hn hm
  have hfin : Hid (∀ wr : World, Below w.heap.size w wr → True) := Lib.hid fun _ _ => trivial
  by_cases h0 : n = 0
  · have hte := hTe.1 h0
    have htl : T.toList.isEmpty = true := by rw [hte]; rfl
    subst h0
    have h00 : X.extract 0 0 = ByteArray.empty := by simp
    have HE := Lib.hid (HFT.out 0 (by omega) (by omega))
    rw [h00] at HE
    clear hTe h00
    go_enter Try.func10, Try.ntmps10
    go_wp2_with fail
    refine HSH.out.mono ?_; rintro e w1 ⟨rfl, hb⟩
    have HB := Lib.hid hb
    clear hb
    go_wp2_with fail
    refine (HF.out _).mono ?_; rintro e w2 ⟨rfl, rfl⟩
    go_wp2_with fail
    refine (HE.out _).mono ?_; rintro e w2 ⟨rfl, rfl⟩
    go_wp2_with fail
    go_loop [8] (fun i => ∃ k : Nat, 1 ≤ k ∧ k ≤ X.size + 1 ∧ k ≤ 40 ∧ i = .int .i64 k) (fun i => X.size + 1 - (intOf i).toNat)
    case atStart => exact ⟨1, by omega, by omega, by omega, rfl⟩
    case round =>
      obtain ⟨k, hk1, hk2, hk3, rfl⟩ := hrel
      by_cases hlt : k ≤ X.size
      · by_cases h40 : k < 40
        · go_wp2_with fail
          refine (HFT.out _ (by omega) hlt _).mono ?_; rintro e w2 ⟨rfl, rfl⟩
          go_wp2
          go_round
          case rel => exact ⟨k + 1, by omega, by omega, by omega, by go_num⟩
          case measure => simp [intOf]; omega
        · go_wp2
          go_ret
          exact ⟨rfl, HB.out⟩
      · go_wp2
        go_ret
        exact ⟨rfl, HB.out⟩
  · have hte : ¬ T.toList = [] := fun h => h0 (hTe.2 h)
    have htl : T.toList.isEmpty = false := by simpa using hte
    have g0 : ((n : Int) == 0) = false := by rw [beq_eq_false_iff_ne]; omega
    have gb : (T.toList == []) = false := by simpa using hte
    clear hTe h0
    go_enter Try.func10, Try.ntmps10
    go_wp2_with fail
    refine HSH.out.mono ?_; rintro e w1 ⟨rfl, hb⟩
    have HB := Lib.hid hb
    clear hb
    go_wp2_with fail
    refine (HF.out _).mono ?_; rintro e w2 ⟨rfl, rfl⟩
    go_wp2_with fail
    refine (HFT.out _ (by omega) (by omega) _).mono ?_; rintro e w2 ⟨rfl, rfl⟩
    go_wp2_with fail
    go_loop [8] (fun i => ∃ k : Nat, n + 1 ≤ k ∧ k ≤ X.size + 1 ∧ k ≤ n + 40 ∧ i = .int .i64 k) (fun i => X.size + 1 - (intOf i).toNat)
    case atStart => exact ⟨n + 1, by omega, by omega, by omega, by go_num⟩
    case round =>
      obtain ⟨k, hk1, hk2, hk3, rfl⟩ := hrel
      by_cases hlt : k ≤ X.size
      · by_cases h40 : k < n + 40
        · go_wp2_with fail
          refine (HFT.out _ (by omega) hlt _).mono ?_; rintro e w2 ⟨rfl, rfl⟩
          go_wp2
          go_round
          case rel => exact ⟨k + 1, by omega, by omega, by omega, by go_num⟩
          case measure => simp [intOf]; omega
        · go_wp2
          go_ret
          exact ⟨rfl, HB.out⟩
      · go_wp2
        go_ret
        exact ⟨rfl, HB.out⟩
end Go.Proofs.Ytpepoccoljmmjaa
