/- The document's pieces of a row of bytes. -/
import Derived.Test.YtpepoccoljmmjaaKN
import Derived.Test.YtpepoccoljmmjaaT
set_option linter.unusedVariables false
namespace Go.Proofs.Ytpepoccoljmmjaa
open Go.RowKit

set_option maxHeartbeats 2000000 in
theorem size_any (x : Nat) (hx : x ≤ 255) (w : World) : Calls Try.prog 65 #[.int .u8 x] w fun e w' => e = .returned (.tuple #[.int .i64 (sz x).1, .int .i64 (sz x).2]) ∧ w = w' := by
  obtain ⟨y, hy⟩ : ∃ y : Int, y = (x : Int) := ⟨_, rfl⟩
  have hy0 : 0 ≤ y := by omega
  have hy1 : y ≤ 255 := by omega
  rw [← hy]
  by_cases h1 : x < 128
  · have e : sz x = (1, x) := by unfold sz; rw [if_pos h1]
    have HE : Hid (((sz x).1 : Int) = 1 ∧ ((sz x).2 : Int) = y) := Lib.hid (by rw [e]; simp [hy])
    have g : y < 128 := by omega
    clear e h1 hy hx
    go_enter Try.func65, Try.ntmps65
    go_wp2
    go_ret2
    exact ⟨ret_ii HE.out.1.symm HE.out.2.symm, rfl⟩
  have g1 : 128 ≤ y := by omega
  by_cases h2 : 192 ≤ x ∧ x < 224
  · have e := sz2 h2.1 h2.2
    have HE : Hid (((sz x).1 : Int) = 2 ∧ ((sz x).2 : Int) = y - 192) := Lib.hid (by rw [e]; simp; omega)
    have g2 : 192 ≤ y := by omega
    have g3 : y < 224 := by omega
    clear e h1 h2 hy hx
    go_enter Try.func65, Try.ntmps65
    go_wp2
    go_ret2
    exact ⟨ret_ii HE.out.1.symm HE.out.2.symm, rfl⟩
  by_cases h3 : 224 ≤ x ∧ x < 240
  · have e := sz3 h3.1 h3.2
    have HE : Hid (((sz x).1 : Int) = 3 ∧ ((sz x).2 : Int) = y - 224) := Lib.hid (by rw [e]; simp; omega)
    have g2 : 224 ≤ y := by omega
    have g3 : y < 240 := by omega
    clear e h1 h2 h3 hy hx
    go_enter Try.func65, Try.ntmps65
    go_wp2
    go_ret2
    exact ⟨ret_ii HE.out.1.symm HE.out.2.symm, rfl⟩
  by_cases h4 : 240 ≤ x ∧ x < 248
  · have e := sz4 h4.1 h4.2
    have HE : Hid (((sz x).1 : Int) = 4 ∧ ((sz x).2 : Int) = y - 240) := Lib.hid (by rw [e]; simp; omega)
    have g2 : 240 ≤ y := by omega
    have g3 : y < 248 := by omega
    clear e h1 h2 h3 h4 hy hx
    go_enter Try.func65, Try.ntmps65
    go_wp2
    go_ret2
    exact ⟨ret_ii HE.out.1.symm HE.out.2.symm, rfl⟩
  have e : sz x = (0, 0) := sz0 (by omega)
  have HE : Hid (((sz x).1 : Int) = 0 ∧ ((sz x).2 : Int) = 0) := Lib.hid (by rw [e]; simp)
  by_cases h5 : x < 192
  · have g2 : y < 192 := by omega
    clear e h1 h2 h3 h4 h5 hy hx
    go_enter Try.func65, Try.ntmps65
    go_wp2
    go_ret2
    exact ⟨ret_ii HE.out.1.symm HE.out.2.symm, rfl⟩
  · have g2 : 248 ≤ y := by omega
    clear e h1 h2 h3 h4 h5 hy hx g1
    go_enter Try.func65, Try.ntmps65
    go_wp2
    go_ret2
    exact ⟨ret_ii HE.out.1.symm HE.out.2.symm, rfl⟩

theorem least_any (n : Nat) (hn : n = 1 ∨ n = 2 ∨ n = 3 ∨ n = 4) (w : World) : Calls Try.prog 66 #[.int .i64 n] w fun e w' => e = .returned (.int .i64 (lst n)) ∧ w = w' := by
  rcases hn with rfl | rfl | rfl | rfl
  all_goals
    go_enter Try.func66, Try.ntmps66
    go_wp2
    go_ret
    exact ⟨rfl, rfl⟩

theorem sz_vals (x : Nat) : (sz x).1 = 0 ∨ (sz x).1 = 1 ∨ (sz x).1 = 2 ∨ (sz x).1 = 3 ∨ (sz x).1 = 4 := by
  unfold sz
  repeat' split
  all_goals simp

theorem sz_small (x : Nat) (h : x ≤ 255) : (sz x).2 ≤ 127 := by
  unfold sz
  repeat' split
  all_goals simp only; omega

theorem ret_bii {p q : Bool} {a b c d : Int} (h0 : p = q) (h : a = b) (h2 : c = d) : Ending.returned (.tuple #[.bool p, .int .i64 a, .int .i64 c]) = .returned (.tuple #[.bool q, .int .i64 b, .int .i64 d]) := by rw [h0, h, h2]

/-- how large a character can be behind so many bytes -/
def cap_ (j : Nat) : Nat := if j ≤ 1 then 128 else if j = 2 then 8192 else if j = 3 then 524288 else 33554432

theorem cap_step (j v x : Nat) (hj : 1 ≤ j) (hj3 : j ≤ 3) (hv : v + 1 ≤ cap_ j) (hx : x ≤ 63) : v * 64 + x + 1 ≤ cap_ (j + 1) := by
  have : j = 1 ∨ j = 2 ∨ j = 3 := by omega
  rcases this with rfl | rfl | rfl <;> simp only [cap_] at hv ⊢ <;> simp at hv ⊢ <;> omega

theorem cap_le (j : Nat) : cap_ j ≤ 33554432 := by
  unfold cap_
  repeat' split
  all_goals omega

theorem accF_step (t : List UInt8) (f j v : Nat) (h : 128 ≤ (t.getD j 0).toNat ∧ (t.getD j 0).toNat ≤ 191) : accF t (f + 1) j v = accF t f (j + 1) (v * 64 + ((t.getD j 0).toNat - 128)) := by simp only [accF]; rw [if_pos h]

theorem accF_stop (t : List UInt8) (f j v : Nat) (h : ¬ (128 ≤ (t.getD j 0).toNat ∧ (t.getD j 0).toNat ≤ 191)) : accF t (f + 1) j v = none := by simp only [accF]; rw [if_neg h]

theorem bgn_eq (t : List UInt8) (k n v0 : Nat) (hs : sz (t.headD 0).toNat = (n, v0)) (hk : ¬ (n = 0 ∨ n < k ∨ t.length < k)) : bgn t k = (match accF t (k - 1) 1 v0 with | none => (false, 0, 0) | some v => (some_ n (ext (n - k) v v).1 (ext (n - k) v v).2, n, v)) := by
  unfold bgn; rw [hs]; simp only; rw [if_neg hk]; cases accF t (k - 1) 1 v0 <;> rfl

theorem some_val (n LO HI : Nat) : some_ n LO HI = decide (max LO (lst n) ≤ min HI 1114111 ∧ ¬ (55296 ≤ max LO (lst n) ∧ min HI 1114111 ≤ 57343)) := rfl

set_option maxRecDepth 100000 in
set_option maxHeartbeats 16000000 in
theorem rbegins_any (l : List UInt8) (b o c : Nat) (w : World) (hr : Row w b o l) (hc : l.length ≤ c) (hlen : l.length ≤ 134217728) (i k : Nat) (hi : i < l.length) (hk1 : 1 ≤ k) (hk4 : k ≤ 4) :
    Calls Try.prog 59 #[.slice (some ⟨b, o, none⟩) l.length c, .int .i64 i, .int .i64 k] w fun e w' => e = .returned (.tuple #[.bool (bgn (l.drop i) k).1, .int .i64 (bgn (l.drop i) k).2.1, .int .i64 (bgn (l.drop i) k).2.2]) ∧ w = w' := by
  obtain ⟨R, hR⟩ : ∃ R, R = bgn (l.drop i) k := ⟨_, rfl⟩
  rw [← hR]
  obtain ⟨t, ht⟩ : ∃ t, t = l.drop i := ⟨_, rfl⟩
  have htl : t.length = l.length - i := by rw [ht, List.length_drop]
  have hcell : ∀ j, j < t.length → w.cell? ⟨b, o + (i + j), none⟩ = some (.int .u8 (t.getD j 0).toNat) := fun j hj => by
    rw [hr (i + j) (by omega)]
    rw [List.getD_eq_getElem?_getD, List.getElem?_eq_getElem hj]
    simp [ht]
  rw [← ht] at hR
  have hh : t.headD 0 = t.getD 0 0 := by cases t <;> rfl
  obtain ⟨n, v0, hs⟩ : ∃ n v0, sz (t.headD 0).toNat = (n, v0) := ⟨_, _, rfl⟩
  have hx := (t.getD 0 0).toNat_lt
  have hsz : ∀ w, Calls Try.prog 65 #[.int .u8 (t.getD 0 0).toNat] w fun e w' => e = .returned (.tuple #[.int .i64 n, .int .i64 v0]) ∧ w = w' := fun w => by
    have := size_any (t.getD 0 0).toNat (by omega) w
    rw [← hh, hs] at this
    rw [← hh]; exact this
  have hnv := sz_vals (t.headD 0).toNat
  have hvv := sz_small (t.headD 0).toNat (by rw [hh]; omega)
  rw [hs] at hnv hvv
  simp only at hnv hvv
  have hc0 := hcell 0 (by omega)
  rw [Nat.add_zero] at hc0
  generalize (t.getD 0 0).toNat = x0 at hc0 hsz
  by_cases h1 : n = 0 ∨ n < k ∨ t.length < k
  · have HR : Hid (R = (false, 0, 0)) := Lib.hid (by rw [hR]; exact bgn_no _ _ (by rw [hs]; exact h1))
    have HZ := Lib.hid hsz
    have g1 : (n : Int) = 0 ∨ ((n : Int) ≠ 0 ∧ (n : Int) < k) ∨ ((n : Int) ≠ 0 ∧ (k : Int) ≤ n ∧ (l.length : Int) < i + k) := by omega
    clear hR ht htl hcell hh hs hx hsz hnv hvv h1 hr
    rcases g1 with g1 | ⟨g1, g2⟩ | ⟨g1, g2, g3⟩
    · have e1 : ((n : Int) == 0) = true := by simp [g1]
      clear g1
      go_enter Try.func59, Try.ntmps59
      go_wp2_with fail
      refine (HZ.out _).mono ?_; rintro e w2 ⟨rfl, rfl⟩
      go_wp2
      go_ret3
      exact ⟨ret_bii (by rw [HR.out]) (by rw [HR.out] <;> rfl) (by rw [HR.out] <;> rfl), rfl⟩
    · have e1 : ((n : Int) == 0) = false := beq_eq_false_iff_ne.2 g1
      clear g1
      go_enter Try.func59, Try.ntmps59
      go_wp2_with fail
      refine (HZ.out _).mono ?_; rintro e w2 ⟨rfl, rfl⟩
      go_wp2
      go_ret3
      exact ⟨ret_bii (by rw [HR.out]) (by rw [HR.out] <;> rfl) (by rw [HR.out] <;> rfl), rfl⟩
    · have e1 : ((n : Int) == 0) = false := beq_eq_false_iff_ne.2 g1
      clear g1
      go_enter Try.func59, Try.ntmps59
      go_wp2_with fail
      refine (HZ.out _).mono ?_; rintro e w2 ⟨rfl, rfl⟩
      go_wp2
      go_ret3
      exact ⟨ret_bii (by rw [HR.out]) (by rw [HR.out] <;> rfl) (by rw [HR.out] <;> rfl), rfl⟩
  · have hbe := bgn_eq t k n v0 hs h1
    rw [← hR] at hbe
    have hn0 : n ≠ 0 := by omega
    have e1 : ((n : Int) == 0) = false := by rw [beq_eq_false_iff_ne]; omega
    have g2 : (k : Int) ≤ n := by omega
    have g3 : (i : Int) + k ≤ l.length := by omega
    have hkt : k ≤ t.length := by omega
    have hkl : i + k ≤ l.length := by omega
    have hn4 : n ≤ 4 := by omega
    have hkn : k ≤ n := by omega
    have HZ := Lib.hid hsz
    have HC := Lib.hid hcell
    have HBE := Lib.hid hbe
    have HNV : Hid (n = 1 ∨ n = 2 ∨ n = 3 ∨ n = 4) := Lib.hid (by omega)
    clear hR ht htl hcell hh hs hx hsz hnv h1 hr hbe
    go_enter Try.func59, Try.ntmps59
    go_wp2_with fail
    refine (HZ.out _).mono ?_; rintro e w2 ⟨rfl, rfl⟩
    go_wp2_with fail
    go_loop [10, 11] (fun v j => ∃ (jj : Nat), 1 ≤ jj ∧ jj ≤ k ∧ ∃ vv : Nat, v = .int .i64 vv ∧ j = .int .i64 jj ∧ accF t (k - jj) jj vv = accF t (k - 1) 1 v0 ∧ vv + 1 ≤ cap_ jj) (fun _ j => k - (intOf j).toNat)
    case atStart => exact ⟨1, by omega, by omega, v0, rfl, rfl, rfl, by simp only [cap_]; simp; omega⟩
    case round =>
      obtain ⟨j, hj1, hjk, v, rfl, rfl, hacc, hcap⟩ := hrel
      have hcl := cap_le j
      by_cases hlt : j < k
      · have hcj := HC.out j (by omega)
        obtain ⟨f, hf⟩ : ∃ f, k - j = f + 1 := ⟨k - j - 1, by omega⟩
        rw [hf] at hacc
        have hst := accF_step t f j v
        have hsp := accF_stop t f j v
        have hxj := (t.getD j 0).toNat_lt
        generalize (t.getD j 0).toNat = x at hcj hst hsp hxj
        have hjk1 : f = k - (j + 1) := by omega
        have hx0 : 0 ≤ (x : Int) := by omega
        have hcs := fun (hx : x - 128 ≤ 63) => cap_step j v (x - 128) hj1 (by omega) hcap hx
        have hij : 0 ≤ (i : Int) + j := by omega
        have hij2 : (i : Int) + j < l.length := by omega
        obtain ⟨xi, hxi⟩ : ∃ xi : Int, xi = (x : Int) := ⟨_, rfl⟩
        rw [← hxi] at hcj hx0
        have hadr : o + (i + j) = o + i + j := by omega
        by_cases g4 : x < 128
        · have HR : Hid (R = (false, 0, 0)) := Lib.hid (by rw [HBE.out, ← hacc, hsp (by omega)])
          have k4 : xi < 128 := by omega
          clear hacc hst hsp hcs hf hjk1 g4 hxj hxi hadr
          go_wp2
          go_ret3
          exact ⟨ret_bii (by rw [HR.out]) (by rw [HR.out] <;> rfl) (by rw [HR.out] <;> rfl), rfl⟩
        by_cases g5 : 191 < x
        · have HR : Hid (R = (false, 0, 0)) := Lib.hid (by rw [HBE.out, ← hacc, hsp (by omega)])
          have k4 : 128 ≤ xi := by omega
          have k5 : 191 < xi := by omega
          clear hacc hst hsp hcs hf hjk1 g4 g5 hxj hxi hadr
          go_wp2
          go_ret3
          exact ⟨ret_bii (by rw [HR.out]) (by rw [HR.out] <;> rfl) (by rw [HR.out] <;> rfl), rfl⟩
        · have HA : Hid (accF t (k - (j + 1)) (j + 1) (v * 64 + (x - 128)) = accF t (k - 1) 1 v0) := Lib.hid (by rw [← hacc, hst (by omega), hjk1])
          have HCp := Lib.hid (hcs (by omega))
          have HV : Hid ((v : Int) * 64 + xi - 128 = ((v * 64 + (x - 128) : Nat) : Int)) := Lib.hid (by omega)
          have k4 : 128 ≤ xi := by omega
          have k5 : xi ≤ 191 := by omega
          have k6 : (v : Int) ≤ 33554432 := by omega
          clear hacc hst hsp hcs hf hjk1 g4 g5 hxj hxi hadr hcap
          go_wp2
          go_round
          case rel => exact ⟨_, _, _, _, _, ⟨j + 1, by omega, by omega, v * 64 + (x - 128), rfl, rfl, HA.out, HCp.out⟩, rfl, rfl, rfl, by rw [HV.out], by go_num⟩
          case measure => simp [intOf]; omega
      · have hjk2 : j = k := by omega
        rw [show k - j = 0 by omega] at hacc
        simp only [accF] at hacc
        obtain ⟨LO, HI, he⟩ : ∃ LO HI, ext (n - k) v v = (LO, HI) := ⟨_, _, rfl⟩
        have hR2 : R = (some_ n LO HI, n, v) := by rw [HBE.out, ← hacc]; simp only [he]
        rw [hjk2] at hcap
        have HR2 := Lib.hid hR2
        have HE := Lib.hid he
        have HCA := Lib.hid hcap
        clear hacc he hR2 hjk2 hcap hc0
        go_wp2_with fail
        go_loop [12, 13, 14] (fun lo hi j => ∃ (jj : Nat), k ≤ jj ∧ jj ≤ n ∧ ∃ a b : Nat, lo = .int .i64 a ∧ hi = .int .i64 b ∧ j = .int .i64 jj ∧ ext (n - jj) a b = (LO, HI) ∧ a ≤ b ∧ b + 1 ≤ cap_ jj) (fun _ _ j => n - (intOf j).toNat)
        case atStart => exact ⟨k, by omega, by omega, v, v, rfl, rfl, rfl, HE.out, by omega, HCA.out⟩
        case round =>
          obtain ⟨jj, hq1, hq2, a, b', rfl, rfl, rfl, hext, hab, hcp⟩ := hrel
          have hcl2 := cap_le jj
          by_cases hlt2 : jj < n
          · obtain ⟨f, hf⟩ : ∃ f, n - jj = f + 1 := ⟨n - jj - 1, by omega⟩
            rw [hf] at hext
            simp only [ext] at hext
            have hfe : f = n - (jj + 1) := by omega
            rw [hfe] at hext
            have hst := cap_step jj b' 63 (by omega) (by omega) hcp (by omega)
            have HX := Lib.hid hext
            have HS := Lib.hid hst
            have q1 : (a : Int) ≤ 33554432 := by omega
            have q2 : (b' : Int) ≤ 33554432 := by omega
            have hv1 : Hid ((a : Int) * 64 = ((a * 64 : Nat) : Int)) := Lib.hid (by omega)
            have hv2 : Hid ((b' : Int) * 64 + 63 = ((b' * 64 + 63 : Nat) : Int)) := Lib.hid (by omega)
            have hv3 : Hid (a * 64 ≤ b' * 64 + 63) := Lib.hid (by omega)
            clear hext hst hfe hf hcp hab
            go_wp2
            go_round
            case rel => exact ⟨jj + 1, by omega, by omega, a * 64, b' * 64 + 63, by rw [hv1.out], by rw [hv2.out], by go_num, HX.out, hv3.out, HS.out⟩
            case measure => simp [intOf]; omega
          · have hjn : jj = n := by omega
            rw [show n - jj = 0 by omega] at hext
            simp only [ext, Prod.mk.injEq] at hext
            obtain ⟨rfl, rfl⟩ := hext
            have hL := least_any n HNV.out
            have hLb : lst n ≤ 65536 := by unfold lst; repeat' split
                                           all_goals omega
            obtain ⟨L, hLe⟩ : ∃ L, L = lst n := ⟨_, rfl⟩
            have hsv : R.1 = decide (max a L ≤ min b' 1114111 ∧ ¬ (55296 ≤ max a L ∧ min b' 1114111 ≤ 57343)) := by rw [HR2.out, hLe, some_val]
            rw [← hLe] at hL hLb
            have HL := Lib.hid hL
            have HSV := Lib.hid hsv
            have hge : (n : Int) ≤ (jj : Int) := by omega
            clear hL hsv hLe hcp hlt2 hjn
            go_wp2_with fail
            refine (HL.out _).mono ?_; rintro e w2 ⟨rfl, rfl⟩
            by_cases t1 : (a : Int) ≤ b' ∧ (a : Int) ≤ 1114111 ∧ (L : Int) ≤ b'
            · obtain ⟨t4, t5, t6⟩ := t1
              have t7 : (L : Int) ≤ 1114111 := by omega
              by_cases t2 : (55296 : Int) ≤ a ∨ (55296 : Int) ≤ L
              · by_cases t3 : (b' : Int) ≤ 57343
                · skip
                  have HRa : Hid (R.1 = false) := Lib.hid (by rw [HSV.out]; first | exact decide_eq_true (by omega) | exact decide_eq_false (by omega))
                  go_wp2
                  go_ret3
                  exact ⟨ret_bii (by rw [HRa.out] <;> first | rfl | (simp; done) | (simp; omega)) (by rw [HR2.out]) (by rw [HR2.out]), rfl⟩
                · skip
                  have HRa : Hid (R.1 = true) := Lib.hid (by rw [HSV.out]; first | exact decide_eq_true (by omega) | exact decide_eq_false (by omega))
                  go_wp2
                  go_ret3
                  exact ⟨ret_bii (by rw [HRa.out] <;> first | rfl | (simp; done) | (simp; omega)) (by rw [HR2.out]) (by rw [HR2.out]), rfl⟩
              · skip
                have HRa : Hid (R.1 = true) := Lib.hid (by rw [HSV.out]; first | exact decide_eq_true (by omega) | exact decide_eq_false (by omega))
                go_wp2
                go_ret3
                exact ⟨ret_bii (by rw [HRa.out] <;> first | rfl | (simp; done) | (simp; omega)) (by rw [HR2.out]) (by rw [HR2.out]), rfl⟩
            · skip
              have HRa : Hid (R.1 = false) := Lib.hid (by rw [HSV.out]; first | exact decide_eq_true (by omega) | exact decide_eq_false (by omega))
              go_wp2
              go_ret3
              exact ⟨ret_bii (by rw [HRa.out] <;> first | rfl | (simp; done) | (simp; omega)) (by rw [HR2.out]) (by rw [HR2.out]), rfl⟩

end Go.Proofs.Ytpepoccoljmmjaa
