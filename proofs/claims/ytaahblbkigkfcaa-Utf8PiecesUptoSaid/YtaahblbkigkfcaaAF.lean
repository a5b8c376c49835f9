/- Where the bytes stand that begin a character and are not whole. -/
import Derived.Test.YtaahblbkigkfcaaAE
import Derived.Test.YtaahblbkigkfcaaD
set_option linter.unusedVariables false
namespace Go.Proofs.Ytaahblbkigkfcaa
open Go.RowKit

theorem nxt {l : List UInt8} {j : Nat} (h : ∀ k, l.length - 3 ≤ k → k < j → cutAt l k = false) (hj : cutAt l j = false) : ∀ k, l.length - 3 ≤ k → k < j + 1 → cutAt l k = false := fun k h1 h2 => by
  rcases Nat.lt_or_ge k j with g | g
  · exact h k h1 g
  · obtain rfl : k = j := by omega
    exact hj

set_option maxHeartbeats 4000000 in
theorem tail_any (l : List UInt8) (b o c : Nat) (w : World) (hr : Row w b o l) (hc : l.length ≤ c) (hbig : c ≤ 9223372036854775807) :
    Calls Try.prog 35 #[.slice (some ⟨b, o, none⟩) l.length c] w fun e w' => e = .returned (.int .i64 (tl l)) ∧ w = w' := by
  have HR := Lib.hid hr
  obtain ⟨T, hT⟩ : ∃ T, T = tl l := ⟨_, rfl⟩
  rw [← hT]
  have HT := Lib.hid hT
  clear hr hT
  go_enter Try.func35, Try.ntmps35
  go_wp2
  go_loop [3] (fun i => ∃ j : Nat, j ≤ l.length ∧ l.length - 3 ≤ j ∧ i = .int .i64 j ∧ ∀ k, l.length - 3 ≤ k → k < j → cutAt l k = false) (fun i => l.length - (intOf i).toNat)
  case atStart => exact ⟨l.length - 3, by omega, by omega, congrArg (Value.int .i64) (by omega), fun k h1 h2 => by omega⟩
  case round =>
    obtain ⟨j, hj, hj3, rfl, hno⟩ := hrel
    by_cases hlt : j < l.length
    · have hne : l.drop j ≠ [] := by intro h; have := List.drop_eq_nil_iff.1 h; omega
      have hcell := HR.out j hlt
      obtain ⟨o2, hsf, ho2⟩ := sl_from b o l.length c j (by omega) hc
      have hrow2 := HR.out.from (lo := j) (o' := o2) ho2
      have hpc : Calls Try.prog 31 #[.slice (some ⟨b, o2, none⟩) (l.length - j) (c - j)] w fun e w' => e = .returned (.tuple #[.int .i64 (pc (l.drop j)).1, .bool (pc (l.drop j)).2]) ∧ w = w' := by
        have := piece_any (l.drop j) b o2 (c - j) w hne hrow2 (by simp only [List.length_drop]; omega)
        rw [List.length_drop] at this
        exact this
      have hbg := begins_any l[j].toNat (by have := l[j].toNat_lt; omega) w
      have hhd : (l.drop j).headD 0 = l[j] := by rw [List.drop_eq_getElem_cons hlt]; rfl
      have hcut : cutAt l j = (!(pc (l.drop j)).2 && decide (0 < (beg l[j].toNat).1) && decide (j + (pc (l.drop j)).1 = l.length)) := by unfold cutAt; rw [hhd]
      have hpb := pc_bd _ hne
      rw [List.length_drop] at hpb
      have hb4 := beg_le l[j].toNat
      generalize l[j].toNat = x at hcell hbg hcut hb4
      generalize (beg x).1 = bw at hbg hcut hb4
      generalize (beg x).2.1 = p1 at hbg
      generalize (beg x).2.2 = p2 at hbg
      generalize (pc (l.drop j)).1 = n at hpc hcut hpb
      generalize (pc (l.drop j)).2 = ok at hpc hcut
      have HC := Lib.hid hcut
      have HN := Lib.hid hno
      have HP := Lib.hid hpc
      have HBG := Lib.hid hbg
      clear hcut hno hpc hbg hhd hrow2 ho2 hne
      cases ok
      · by_cases g1 : 0 < bw
        · have g1i : (0 : Int) < bw := by omega
          by_cases g2 : j + n = l.length
          · have g2i : (((j : Int) + (n : Int)) == (l.length : Int)) = true := by simp; omega
            have HF : Hid (T = j) := Lib.hid (by rw [HT.out]; exact tl_at hlt hj3 (by rw [HC.out, decide_eq_true g1, decide_eq_true g2]; rfl) HN.out)
            clear HC
            go_wp2_with fail
            refine HP.out.mono ?_; rintro e w1 ⟨rfl, rfl⟩
            go_wp2_with fail
            refine HBG.out.mono ?_; rintro e w2 ⟨rfl, rfl⟩
            go_wp2
            go_ret
            have HK : (j : Int) = T := by rw [HF.out]
            exact ⟨ret_int HK, rfl⟩
          · have g2i : (((j : Int) + (n : Int)) == (l.length : Int)) = false := by simp; omega
            have HF : Hid (∀ k, l.length - 3 ≤ k → k < j + 1 → cutAt l k = false) := Lib.hid (nxt HN.out (by rw [HC.out]; rw [decide_eq_false g2, Bool.and_false]))
            clear HC
            go_wp2_with fail
            refine HP.out.mono ?_; rintro e w1 ⟨rfl, rfl⟩
            go_wp2_with fail
            refine HBG.out.mono ?_; rintro e w2 ⟨rfl, rfl⟩
            go_wp2
            go_round
            case rel => exact ⟨j + 1, by omega, by omega, by go_num, HF.out⟩
            case measure => simp [intOf]; omega
        · have g1i : ¬ ((0 : Int) < bw) := by omega
          have HF : Hid (∀ k, l.length - 3 ≤ k → k < j + 1 → cutAt l k = false) := Lib.hid (nxt HN.out (by rw [HC.out]; rw [decide_eq_false g1]; rfl))
          clear HC
          go_wp2_with fail
          refine HP.out.mono ?_; rintro e w1 ⟨rfl, rfl⟩
          go_wp2_with fail
          refine HBG.out.mono ?_; rintro e w2 ⟨rfl, rfl⟩
          go_wp2
          go_round
          case rel => exact ⟨j + 1, by omega, by omega, by go_num, HF.out⟩
          case measure => simp [intOf]; omega
      · skip
        have HF : Hid (∀ k, l.length - 3 ≤ k → k < j + 1 → cutAt l k = false) := Lib.hid (nxt HN.out (by rw [HC.out]; rfl))
        clear HC
        go_wp2_with fail
        refine HP.out.mono ?_; rintro e w1 ⟨rfl, rfl⟩
        go_wp2_with fail
        refine HBG.out.mono ?_; rintro e w2 ⟨rfl, rfl⟩
        go_wp2
        go_round
        case rel => exact ⟨j + 1, by omega, by omega, by go_num, HF.out⟩
        case measure => simp [intOf]; omega
    · have HF : Hid (T = l.length) := Lib.hid (by rw [HT.out]; exact tl_end (fun k h1 h2 => hno k h1 (by omega)))
      clear hno
      go_wp2
      go_ret
      have HK : (l.length : Int) = T := by rw [HF.out]
      exact ⟨ret_int HK, rfl⟩
theorem tail_nil (a : Option Addr) (c : Nat) (w : World) : Calls Try.prog 35 #[.slice a 0 c] w fun e w' => e = .returned (.int .i64 0) ∧ w = w' := by
  go_enter Try.func35, Try.ntmps35
  go_wp2
  go_loop [3] (fun i => i = .int .i64 0) (fun i => 0)
  case atStart => exact congrArg (Value.int .i64) (by omega)
  case round =>
    obtain rfl := hrel
    go_wp2
    go_ret
    exact ⟨rfl, rfl⟩
end Go.Proofs.Ytaahblbkigkfcaa
