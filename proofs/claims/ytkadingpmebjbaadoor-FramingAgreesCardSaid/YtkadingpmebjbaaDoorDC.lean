/- The document's answer for digits: what it does to any bytes. -/
import Derived.Test.YtkadingpmebjbaaDoorDB
namespace Go.Proofs.YtkadingpmebjbaaDoor.Num
open Go.RowKit

theorem fold_ge (base : Int) (hb : 1 ≤ base) (r : List UInt8) : ∀ a : Int, 0 ≤ a → (∀ c ∈ r, 0 ≤ dg c.toNat) → a ≤ r.foldl (fun n c => n * base + dg c.toNat) a := by
  induction r with
  | nil => intro a _ _; simp
  | cons c r ih =>
    intro a ha h
    have h1 := h c (by simp)
    have hm : a ≤ a * base := by
      have := Int.mul_le_mul_of_nonneg_left hb ha
      rwa [Int.mul_one] at this
    have := ih (a * base + dg c.toNat) (by omega) (fun x hx => h x (by simp [hx]))
    simp only [List.foldl_cons]
    omega
theorem val_nonneg (base : Int) (hb : 1 ≤ base) (l : List UInt8) (h : good base l) : 0 ≤ val base l := fold_ge base hb l 0 (by omega) (fun c hc => (h c hc).1)
theorem val_take_le (base : Int) (hb : 1 ≤ base) (l : List UInt8) (h : good base l) (k : Nat) : val base (l.take k) ≤ val base l := by
  have e : val base l = (l.drop k).foldl (fun n c => n * base + dg c.toNat) (val base (l.take k)) := by
    unfold val
    rw [← List.foldl_append, List.take_append_drop]
  rw [e]
  exact fold_ge base hb _ _ (val_nonneg base hb _ (fun c hc => h c (List.mem_of_mem_take hc))) (fun c hc => (h c (List.mem_of_mem_drop hc)).1)
theorem meant_over (base : Int) (hb : 1 ≤ base) (l : List UInt8) (hl : l ≠ []) (h : good base l) (k : Nat) (ho : most < val base (l.take k)) : meant base l = (0, 3) := by
  unfold meant
  have := val_take_le base hb l h k
  rw [if_neg (by simp [hl, h]), if_pos (by omega)]
theorem meant_ok (base : Int) (l : List UInt8) (hl : l ≠ []) (h : good base l) (ho : val base l ≤ most) : meant base l = (val base l, 0) := by
  unfold meant
  rw [if_neg (by simp [hl, h]), if_neg (by omega)]

set_option maxHeartbeats 1000000 in
theorem ref10 (s : ByteArray) (w : World) (hs : s.size ≤ maxLen) :
    Calls Tryd.prog 101 #[.string s, .int .i64 10] w fun e w' => e = .returned (.tuple #[.int .i64 (meant 10 s.data.toList).1, .int .i64 (meant 10 s.data.toList).2]) ∧ w = w' := by
  unfold maxLen at hs
  by_cases h0 : s.data.toList = []
  · have he := empty_bool h0
    have hm := meant_nil 10
    rw [← h0] at hm
    have HM := Lib.hid hm
    clear hm h0
    go_enter Tryd.func101, Tryd.ntmps101
    go_wp2
    go_ret2
    exact ⟨ret_two (by rw [HM.out]), rfl⟩
  · have he := nonempty_bool h0
    have H0 := Lib.hid h0
    clear h0
    go_enter Tryd.func101, Tryd.ntmps101
    go_wp2
    go_loop [6] (fun i => ∃ (k : Nat), k ≤ s.size ∧ i = .int .i64 k ∧ good 10 (s.data.toList.take k)) (fun i => s.size - (intOf i).toNat)
    case atStart => exact ⟨0, Nat.zero_le _, rfl, fun c hc => by simp at hc⟩
    case round =>
      obtain ⟨k, hk, rfl, hI⟩ := hrel
      by_cases hlt : k < s.size
      · have hts := take_snoc s k hlt
        have hr := dgr_of (s[k].toNat : Int)
        obtain ⟨d, hd⟩ : ∃ d, d = dgr (s[k].toNat : Int) := ⟨_, rfl⟩
        have hdb := dgr_bd (s[k].toNat : Int)
        have hdg := dg_bd (s[k].toNat : Int)
        rw [← hd] at hdb hr
        have hc : (s[k].toNat : Int) ≤ 255 := by have := s[k].toNat_lt; omega
        have hdig : ∀ w, Calls Tryd.prog 111 #[.int .u8 s[k].toNat] w fun e w' => e = .returned (.int .i64 d) ∧ w = w' := fun w => by
          rw [hd]; exact refdigit_any _ _ (by omega) hc
        have hbad : 10 ≤ d → meant 10 s.data.toList = (0, 2) := fun h => meant_bad_at 10 s k hlt (by omega)
        have hmore : ¬ 10 ≤ d → good 10 (s.data.toList.take (k + 1)) := by
          intro h; rw [hts]; exact (good_snoc ..).2 ⟨hI, by omega, by omega⟩
        have HD := Lib.hid hdig
        have HB := Lib.hid hbad
        have H3 := Lib.hid hmore
        clear hI hdig hbad hmore hts hd hr hdg
        by_cases hbig : 10 ≤ d
        · go_wp2_with (go_at_call 111; refine (HD.out _).mono ?_; rintro e w' ⟨rfl, rfl⟩)
          go_ret2
          exact ⟨ret_two (by rw [HB.out hbig]), rfl⟩
        · go_wp2_with (go_at_call 111; refine (HD.out _).mono ?_; rintro e w' ⟨rfl, rfl⟩)
          go_round
          case rel => exact ⟨k + 1, by omega, by go_num, H3.out (by omega)⟩
          case measure => simp [intOf]; omega
      · have hkk : s.data.toList.take k = s.data.toList := List.take_of_length_le (by simp; have : s.data.size = s.size := rfl; omega)
        rw [hkk] at hI
        have HG := Lib.hid hI
        clear hI hkk
        go_wp2
        go_loop [7, 8] (fun n i => ∃ (k : Nat) (m : Int), k ≤ s.size ∧ i = .int .i64 k ∧ n = .int .i64 m ∧ m = val 10 (s.data.toList.take k) ∧ 0 ≤ m ∧ m ≤ most) (fun _ i => s.size - (intOf i).toNat)
        case atStart => exact ⟨0, 0, Nat.zero_le _, rfl, rfl, by simp [val], by omega, by unfold most; omega⟩
        case round =>
          clear hk hlt
          obtain ⟨j, m, hk, rfl, rfl, hv, hm0, hm1⟩ := hrel
          by_cases hlt : j < s.size
          · have hts := take_snoc s j hlt
            have hr := dgr_of (s[j].toNat : Int)
            obtain ⟨d, hd⟩ : ∃ d, d = dgr (s[j].toNat : Int) := ⟨_, rfl⟩
            rw [← hd] at hr
            have hg := HG.out s[j] (by rw [ByteArray.getElem_eq_getElem_data]; exact Array.mem_toList_iff.2 (Array.getElem_mem _))
            have hd0 : 0 ≤ d := by omega
            have hd1 : d < 10 := by omega
            have hde : d = dg (s[j].toNat : Int) := by omega
            have hc : (s[j].toNat : Int) ≤ 255 := by have := s[j].toNat_lt; omega
            have hdig : ∀ w, Calls Tryd.prog 111 #[.int .u8 s[j].toNat] w fun e w' => e = .returned (.int .i64 d) ∧ w = w' := fun w => by
              rw [hd]; exact refdigit_any _ _ (by omega) hc
            have hv1 : val 10 (s.data.toList.take (j + 1)) = m * 10 + d := by rw [hts, val_snoc, ← hv, ← hde]
            have hbad : (9223372036854775807 - d) / 10 < m → meant 10 s.data.toList = (0, 3) := fun h =>
              meant_over 10 (by omega) _ H0.out HG.out (j + 1) (by rw [hv1]; exact (over_iff10 m d).1 h)
            have hle : ¬ (9223372036854775807 - d) / 10 < m → m * 10 + d ≤ most := fun h => by
              have := (over_iff10 m d).2
              omega
            have hm1' : m ≤ 9223372036854775807 := hm1
            have HD := Lib.hid hdig
            have HB := Lib.hid hbad
            have HV := Lib.hid hv1
            have HL := Lib.hid hle
            clear hdig hbad hts hd hr hde hg hv hv1 hm1 hle
            by_cases hq : (9223372036854775807 - d) / 10 < m
            · have hqB : decide ((9223372036854775807 - d) / 10 < m) = true := by simpa using hq
              go_wp2_with (go_at_call 111; refine (HD.out _).mono ?_; rintro e w' ⟨rfl, rfl⟩)
              go_ret2
              exact ⟨ret_two (by rw [HB.out (by omega)]), rfl⟩
            · have hqB : decide ((9223372036854775807 - d) / 10 < m) = false := by simpa using hq
              have hq1 : m * 10 ≤ 9223372036854775807 := by omega
              have hq2 : m * 10 + d ≤ 9223372036854775807 := by omega
              have hq0 : 0 ≤ m * 10 := by omega
              go_wp2_with (go_at_call 111; refine (HD.out _).mono ?_; rintro e w' ⟨rfl, rfl⟩)
              go_round
              case rel => exact ⟨j + 1, m * 10 + d, by omega, by go_num, rfl, HV.out.symm, by omega, HL.out (by omega)⟩
              case measure => simp [intOf]; omega
          · have hkk : s.data.toList.take j = s.data.toList := List.take_of_length_le (by simp; have : s.data.size = s.size := rfl; omega)
            rw [hkk] at hv
            have hend := meant_ok 10 _ H0.out HG.out (by rw [← hv]; exact hm1)
            rw [← hv] at hend
            have HE := Lib.hid hend
            clear hv hend hkk
            go_wp2
            go_ret2
            exact ⟨ret_two (by rw [HE.out]), rfl⟩

end Go.Proofs.YtkadingpmebjbaaDoor.Num
