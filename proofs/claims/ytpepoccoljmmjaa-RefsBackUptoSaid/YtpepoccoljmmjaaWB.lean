/- What is written is read as it was: the walk. -/
import Derived.Test.YtpepoccoljmmjaaRK
import Derived.Test.YtpepoccoljmmjaaRL
set_option linter.unusedVariables false
namespace Go.Proofs.Ytpepoccoljmmjaa
open Go.RowKit Go.Shelf

set_option maxRecDepth 10000 in
set_option maxHeartbeats 4000000 in
theorem back_walk (X : ByteArray) (q o : Bool) (w : World) (hm : MaxLen w) (hs : X.size ≤ 1048576) :
    Calls Try.prog 6 #[.string X, .bool q, .bool o] w fun e w' => e = .returned (.bool true) ∧ Below w.heap.size w w' := by
  have hsh := shown_any w hm
  have hll := len_data X
  have hel := esc_len q X.data.toList
  rw [hll] at hel
  have he := fun wx => escape_any X q wx (by omega) (by omega)
  obtain ⟨T, hT⟩ : ∃ T, T = bs (esc q X.data.toList) := ⟨_, rfl⟩
  have hTl : T.data.toList = esc q X.data.toList := by rw [hT]; exact data_mk _
  have hTs : T.size = (esc q X.data.toList).length := by rw [← len_data, hTl]
  have hXb : bs X.data.toList = X := mk_data X
  have hall : ∀ o wx, Calls Try.prog 21 #[.string T, .bool o] wx fun e w' => e = .returned (.string X) ∧ Below wx.heap.size wx w' := fun o wx => by
    have hb := esc_back q o _ X.data.toList (Nat.le_refl _)
    have := all_any T o wx (by omega) (by rw [hTl, hb, hll]; omega)
    rwa [hTl, hb, hXb] at this
  have hcl : ∀ k (hk : k < T.size), (T[k].toNat : Int) ≠ 60 ∧ (T[k].toNat : Int) ≠ 62 ∧ (q = true → (T[k].toNat : Int) ≠ 34) := fun k hk => by
    have := esc_clean q _ X.data.toList (Nat.le_refl _) T[k] (by rw [← hTl, byte_at T k hk]; exact List.getElem_mem _)
    exact ⟨fun e => this.1 (UInt8.toNat_inj.1 (by simpa using (by omega : T[k].toNat = 60))), fun e => this.2.1 (UInt8.toNat_inj.1 (by simpa using (by omega : T[k].toNat = 62))), fun h e => this.2.2 h (UInt8.toNat_inj.1 (by simpa using (by omega : T[k].toNat = 34)))⟩
  rw [← hT] at he
  rw [← hTs] at hel
  have HSH := Lib.hid hsh
  have HE := Lib.hid he
  have HA := Lib.hid hall
  have HC := Lib.hid hcl
  clear hsh he hall hcl hT hTl hTs hXb hll hm
  go_enter Try.func6, Try.ntmps6
  go_wp2_with fail
  refine HSH.out.mono ?_; rintro e w1 ⟨rfl, hb⟩
  have HB := Lib.hid hb
  clear hb
  go_wp2_with fail
  refine (HE.out _).mono ?_; rintro e w2 ⟨rfl, hb⟩
  have HB2 := Lib.hid (HB.out.trans (hb.mono HB.out.size))
  clear hb
  go_wp2_with fail
  go_loop [9] (fun i => ∃ k : Nat, k ≤ T.size ∧ i = .int .i64 k) (fun i => T.size - (intOf i).toNat)
  case atStart => exact ⟨0, by omega, rfl⟩
  case round =>
    obtain ⟨k, hk, rfl⟩ := hrel
    by_cases hlt : k < T.size
    · obtain ⟨c1, c2, c3⟩ := HC.out k hlt
      have g1 : ((T[k].toNat : Int) == 60) = false := by rw [beq_eq_false_iff_ne]; exact c1
      have g2 : ((T[k].toNat : Int) == 62) = false := by rw [beq_eq_false_iff_ne]; exact c2
      clear c1 c2
      cases q
      · clear c3
        by_cases h34 : (T[k].toNat : Int) = 34
        · have g3 : ((T[k].toNat : Int) == 34) = true := by simp [h34]
          clear h34
          go_wp2
          go_round
          case rel => exact ⟨k + 1, by omega, by go_num⟩
          case measure => simp [intOf]; omega
        · have g3 : ((T[k].toNat : Int) == 34) = false := by rw [beq_eq_false_iff_ne]; exact h34
          clear h34
          go_wp2
          go_round
          case rel => exact ⟨k + 1, by omega, by go_num⟩
          case measure => simp [intOf]; omega
      · have g3 : ((T[k].toNat : Int) == 34) = false := by rw [beq_eq_false_iff_ne]; exact c3 rfl
        clear c3
        go_wp2
        go_round
        case rel => exact ⟨k + 1, by omega, by go_num⟩
        case measure => simp [intOf]; omega
    · have g6 : (T.size : Int) ≤ 6 * (X.size : Int) := by omega
      go_wp2_with fail
      refine (HA.out _ _).mono ?_; rintro e w3 ⟨rfl, hb⟩
      have HB3 := Lib.hid (HB2.out.trans (hb.mono HB2.out.size))
      clear hb
      go_wp2_with fail
      refine (HA.out _ _).mono ?_; rintro e w4 ⟨rfl, hb⟩
      have HB4 := Lib.hid (HB3.out.trans (hb.mono HB3.out.size))
      clear hb
      go_wp2
      go_ret
      exact ⟨rfl, HB4.out⟩
end Go.Proofs.Ytpepoccoljmmjaa
