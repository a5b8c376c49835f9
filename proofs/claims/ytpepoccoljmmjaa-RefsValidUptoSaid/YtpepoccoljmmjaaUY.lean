/- The document's characters of a row of bytes, and its first fault. -/
import Derived.Test.YtpepoccoljmmjaaUU
set_option linter.unusedVariables false
namespace Go.Proofs.Ytpepoccoljmmjaa
open Go.RowKit

theorem ret_iib {a b c d : Int} {p q : Bool} (h : a = b) (h2 : c = d) (h3 : p = q) : Ending.returned (.tuple #[.int .i64 a, .int .i64 c, .bool p]) = .returned (.tuple #[.int .i64 b, .int .i64 d, .bool q]) := by rw [h, h2, h3]

set_option maxHeartbeats 8000000 in
theorem rpiece_any (l : List UInt8) (b o c : Nat) (w : World) (hr : Row w b o l) (hc : l.length ≤ c) (hlen : l.length ≤ 134217728) (i : Nat) (hi : i < l.length) :
    Calls Try.prog 48 #[.slice (some ⟨b, o, none⟩) l.length c, .int .i64 i] w fun e w' => e = .returned (.tuple #[.int .i64 (rd (l.drop i)).1, .int .i64 (rd (l.drop i)).2.1, .bool (rd (l.drop i)).2.2]) ∧ w = w' := by
  have hb : ∀ k : Nat, 1 ≤ k → k ≤ 4 → Calls Try.prog 59 #[.slice (some ⟨b, o, none⟩) l.length c, .int .i64 i, .int .i64 k] w fun e w' => e = .returned (.tuple #[.bool (bgn (l.drop i) k).1, .int .i64 (bgn (l.drop i) k).2.1, .int .i64 (bgn (l.drop i) k).2.2]) ∧ w = w' := fun k h1 h2 => rbegins_any l b o c w hr hc hlen i k hi h1 h2
  have hne : l.drop i ≠ [] := by intro h; have := List.drop_eq_nil_iff.1 h; omega
  have hpe := pcR_eq (l.drop i) hne
  generalize l.drop i = t at hb hpe
  generalize rd t = P at hpe
  have HB := Lib.hid hb
  have HP := Lib.hid hpe
  clear hb hpe hne hr hc hlen hi
  go_enter Try.func48, Try.ntmps48
  go_wp2_with fail
  go_loop [7, 8] (fun m k => ∃ (kk f mm : Nat), 1 ≤ kk ∧ kk + f = 5 ∧ m = .int .i64 mm ∧ k = .int .i64 kk ∧ pcR t f kk mm = P) (fun _ k => 5 - (intOf k).toNat)
  case atStart => exact ⟨1, 4, 1, by omega, by omega, rfl, rfl, HP.out⟩
  case round =>
    obtain ⟨k, f, m, hk1, hkf, rfl, rfl, hpr⟩ := hrel
    by_cases hlt : k ≤ 4
    · obtain ⟨f, rfl⟩ : ∃ g, f = g + 1 := ⟨f - 1, by omega⟩
      have hb := HB.out k hk1 hlt
      simp only [pcR] at hpr
      generalize (bgn t k).1 = ok at hb hpr
      generalize (bgn t k).2.1 = n at hb hpr
      generalize (bgn t k).2.2 = v at hb hpr
      have HQ := Lib.hid hb
      clear hb
      cases ok
      · have HR : Hid (pcR t f (k + 1) m = P) := Lib.hid (by simpa using hpr)
        clear hpr
        go_wp2_with fail
        refine HQ.out.mono ?_; rintro e w2 ⟨rfl, rfl⟩
        go_wp2
        go_round
        case rel => first | exact ⟨k + 1, f, m, by omega, by omega, rfl, by go_num, HR.out⟩ | exact ⟨_, _, _, _, _, ⟨k + 1, by omega, f, by omega, m, rfl, rfl, HR.out⟩, rfl, rfl, rfl, rfl, by go_num⟩
        case measure => simp [intOf]; omega
      · by_cases hn : n = k
        · have HR : Hid (P = (k, v, true)) := Lib.hid (by rw [← hpr, if_pos ⟨rfl, hn⟩])
          have e1 : ((n : Int) == (k : Int)) = true := by simp [hn]
          clear hpr hn
          go_wp2_with fail
          refine HQ.out.mono ?_; rintro e w2 ⟨rfl, rfl⟩
          go_wp2
          go_ret3
          exact ⟨ret_iib (by rw [HR.out]) (by rw [HR.out]) (by rw [HR.out]), rfl⟩
        · have HR : Hid (pcR t f (k + 1) k = P) := Lib.hid (by rw [if_neg (by simp [hn])] at hpr; simpa using hpr)
          have e1 : ((n : Int) == (k : Int)) = false := by rw [beq_eq_false_iff_ne]; omega
          clear hpr hn
          go_wp2_with fail
          refine HQ.out.mono ?_; rintro e w2 ⟨rfl, rfl⟩
          go_wp2
          go_round
          case rel => first | exact ⟨k + 1, f, k, by omega, by omega, rfl, by go_num, HR.out⟩ | exact ⟨_, _, _, _, _, ⟨k + 1, by omega, f, by omega, k, rfl, rfl, HR.out⟩, rfl, rfl, rfl, rfl, by go_num⟩
          case measure => simp [intOf]; omega
    · have hf : f = 0 := by omega
      subst hf
      have HR : Hid (P = (m, 65533, false)) := Lib.hid (by rw [← hpr]; rfl)
      clear hpr
      go_wp2
      go_ret3
      exact ⟨ret_iib (by rw [HR.out]) (by rw [HR.out] <;> rfl) (by rw [HR.out]), rfl⟩

end Go.Proofs.Ytpepoccoljmmjaa
