/- num's read: what it does to any bytes. -/
import Derived.Test.YthkgaaibhjkngaaGreatDoorDA
import Derived.Lib.Strings
namespace Go.Proofs.YthkgaaibhjkngaaGreatDoor.Num
open Go.RowKit

theorem ret_two {a b c d : Int} (h : (a, b) = (c, d)) : Ending.returned (.tuple #[.int .i64 a, .int .i64 b]) = .returned (.tuple #[.int .i64 c, .int .i64 d]) := by
  cases h; rfl

theorem meant_nil (base : Int) : meant base [] = (0, 2) := by unfold meant; rw [if_pos (.inl rfl)]
theorem meant_bad_at (base : Int) (s : ByteArray) (k : Nat) (hk : k < s.size) (h : dg s[k].toNat < 0 ∨ base ≤ dg s[k].toNat) : meant base s.data.toList = (0, 2) := by
  unfold meant
  rw [if_pos]
  right
  intro hg
  have := hg s[k] (by rw [ByteArray.getElem_eq_getElem_data]; exact Array.mem_toList_iff.2 (Array.getElem_mem _))
  omega

theorem meant_end (base : Int) (l : List UInt8) (n : Int) (ov : Bool) (hl : l ≠ []) (h : Inv base l n ov) : meant base l = if ov = true then (0, 3) else (n, 0) := by
  obtain ⟨hg, _, _, _, ho, he⟩ := h
  unfold meant
  rw [if_neg (by simp [hl, hg])]
  cases ov
  · rw [if_neg (by simpa using ho.symm), ← he rfl]; simp
  · rw [if_pos (by simpa using ho.symm)]; simp

theorem nonempty_bool {s : ByteArray} (h : s.data.toList ≠ []) : s.toList.isEmpty = false := by
  rw [Lib.toList_data]; simpa using h
theorem empty_bool {s : ByteArray} (h : s.data.toList = []) : s.toList.isEmpty = true := by
  rw [Lib.toList_data]; simpa using h

set_option maxHeartbeats 1000000 in
theorem read10 (s : ByteArray) (w : World) (hs : s.size ≤ maxLen) :
    Calls Tryz.prog 128 #[.string s, .int .i64 10] w fun e w' => e = .returned (.tuple #[.int .i64 (meant 10 s.data.toList).1, .int .i64 (meant 10 s.data.toList).2]) ∧ w = w' := by
  unfold maxLen at hs
  by_cases h0 : s.data.toList = []
  · have he := empty_bool h0
    have hm := meant_nil 10
    rw [← h0] at hm
    have HM := Lib.hid hm
    clear hm h0
    go_enter Tryz.func128, Tryz.ntmps128
    go_wp2
    go_ret2
    exact ⟨ret_two (by rw [HM.out]), rfl⟩
  · have he := nonempty_bool h0
    have H0 := Lib.hid h0
    clear h0
    go_enter Tryz.func128, Tryz.ntmps128
    go_wp2
    go_loop [6, 7, 8] (fun n ov i => ∃ (k : Nat) (m : Int) (b : Bool), k ≤ s.size ∧ i = .int .i64 k ∧ n = .int .i64 m ∧ ov = .bool b ∧ Inv 10 (s.data.toList.take k) m b) (fun _ _ i => s.size - (intOf i).toNat)
    case atStart => exact ⟨0, 0, false, Nat.zero_le _, rfl, rfl, rfl, Inv.start _⟩
    case round =>
      obtain ⟨k, m, b, hk, rfl, rfl, rfl, hI⟩ := hrel
      by_cases hlt : k < s.size
      · have hts := take_snoc s k hlt
        obtain ⟨d, hd⟩ : ∃ d, d = dg (s[k].toNat : Int) := ⟨_, rfl⟩
        have hdb := dg_bd (s[k].toNat : Int)
        rw [← hd] at hdb
        have hc : (s[k].toNat : Int) ≤ 255 := by have := s[k].toNat_lt; omega
        have hdig : ∀ w, Calls Tryz.prog 143 #[.int .u8 s[k].toNat] w fun e w' => e = .returned (.int .i64 d) ∧ w = w' := fun w => by
          rw [hd]; exact digit_any _ _ (by omega) hc
        have hm0 := hI.2.1
        have hm1 : m ≤ 9223372036854775807 := hI.2.2.1
        have hbad := meant_bad_at 10 s k hlt
        rw [← hd] at hbad
        have hov : Inv 10 (s.data.toList.take k) m true → 0 ≤ d → d < 10 → Inv 10 (s.data.toList.take (k + 1)) m true := by
          intro h h0 h1; rw [hts]; exact h.over (by omega) s[k] (by rw [← hd]; exact h0) (by rw [← hd]; exact h1)
        have hovs : Inv 10 (s.data.toList.take k) m false → 0 ≤ d → d < 10 → (9223372036854775807 - d) / 10 < m → Inv 10 (s.data.toList.take (k + 1)) m true := by
          intro h h0 h1 h2; rw [hts]; exact h.overs s[k] (by rw [← hd]; exact h0) (by rw [← hd]; exact h1) (by rw [← hd]; exact (over_iff10 m d).1 h2)
        have hmore : Inv 10 (s.data.toList.take k) m false → 0 ≤ d → d < 10 → ¬ (9223372036854775807 - d) / 10 < m → Inv 10 (s.data.toList.take (k + 1)) (m * 10 + d) false := by
          intro h h0 h1 h2; rw [hts]; have := h.more (by omega) s[k] (by rw [← hd]; exact h0) (by rw [← hd]; exact h1) (by rw [← hd]; exact fun h => h2 ((over_iff10 m d).2 h)); rw [← hd] at this; exact this
        have HI := Lib.hid hI
        have HD := Lib.hid hdig
        have HB := Lib.hid hbad
        have H1 := Lib.hid hov
        have H2 := Lib.hid hovs
        have H3 := Lib.hid hmore
        clear hI hdig hbad hov hovs hmore hts hd
        by_cases hneg : d < 0
        · have hc2 : d < 10 := by omega
          go_wp2_with (go_at_call 143; refine (HD.out _).mono ?_; rintro e w' ⟨rfl, rfl⟩)
          go_ret2
          exact ⟨ret_two (by rw [HB.out (.inl hneg)]), rfl⟩
        by_cases hbig : 10 ≤ d
        · go_wp2_with (go_at_call 143; refine (HD.out _).mono ?_; rintro e w' ⟨rfl, rfl⟩)
          go_ret2
          exact ⟨ret_two (by rw [HB.out (.inr hbig)]), rfl⟩
        cases b
        · by_cases hq : (9223372036854775807 - d) / 10 < m
          · have hqB : decide ((9223372036854775807 - d) / 10 < m) = true := by simpa using hq
            go_wp2_with (go_at_call 143; refine (HD.out _).mono ?_; rintro e w' ⟨rfl, rfl⟩)
            go_round
            case rel => exact ⟨k + 1, m, true, by omega, by go_num, rfl, rfl, H2.out HI.out (by omega) (by omega) (by omega)⟩
            case measure => simp [intOf]; omega
          · have hqB : decide ((9223372036854775807 - d) / 10 < m) = false := by simpa using hq
            have hq1 : m * 10 ≤ 9223372036854775807 := by omega
            have hq2 : m * 10 + d ≤ 9223372036854775807 := by omega
            have hq0 : 0 ≤ m * 10 := by omega
            go_wp2_with (go_at_call 143; refine (HD.out _).mono ?_; rintro e w' ⟨rfl, rfl⟩)
            go_round
            case rel => exact ⟨k + 1, m * 10 + d, false, by omega, by go_num, rfl, rfl, H3.out HI.out (by omega) (by omega) (by omega)⟩
            case measure => simp [intOf]; omega
        · go_wp2_with (go_at_call 143; refine (HD.out _).mono ?_; rintro e w' ⟨rfl, rfl⟩)
          go_round
          case rel => exact ⟨k + 1, m, true, by omega, by go_num, rfl, rfl, H1.out HI.out (by omega) (by omega)⟩
          case measure => simp [intOf]; omega
      · have hkk : s.data.toList.take k = s.data.toList := List.take_of_length_le (by simp; have : s.data.size = s.size := rfl; omega)
        rw [hkk] at hI
        have hend := meant_end 10 _ m b H0.out hI
        have HE := Lib.hid hend
        clear hI hend hkk
        cases b
        · go_wp2
          go_ret2
          exact ⟨ret_two (by rw [HE.out]; rfl), rfl⟩
        · go_wp2
          go_ret2
          exact ⟨ret_two (by rw [HE.out]; rfl), rfl⟩

end Go.Proofs.YthkgaaibhjkngaaGreatDoor.Num
