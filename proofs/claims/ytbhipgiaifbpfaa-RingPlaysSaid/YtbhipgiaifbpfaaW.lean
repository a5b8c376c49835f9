/- RingPlays. -/
import Derived.Test.YtbhipgiaifbpfaaV
namespace Go.Proofs.Ytbhipgiaifbpfaa
open Go.RowKit

theorem newr_any (z : Int) (w : World) : Calls Try.prog 6 #[.int .i64 z] w fun e w' => Below w.heap.size w w' ∧
    ((isRight z = false ∧ e = .returned (.pointer none)) ∨ (isRight z = true ∧ ∃ S D most, z = (most : Nat) ∧ e = .returned (.pointer (some ⟨S, 0, none⟩)) ∧ Ring w' S D most 0 0 (List.replicate most 0) ∧ w.heap.size ≤ S ∧ w.heap.size ≤ D)) := by
  by_cases h : 1 ≤ z ∧ z ≤ 4096
  · obtain ⟨h1, h2⟩ := h
    obtain ⟨m, rfl⟩ : ∃ m : Nat, z = m := ⟨z.toNat, by omega⟩
    refine (new_any w m (by omega) (by omega)).mono ?_
    rintro e w' ⟨S, D, rfl, q1, q2, q3, q4, _⟩
    exact ⟨q2, .inr ⟨by simp [isRight]; omega, S, D, m, rfl, rfl, q1, q3, q4⟩⟩
  · refine (new_none w z (by omega)).mono ?_
    rintro e w' ⟨rfl, rfl⟩
    exact ⟨Below.refl _ _, .inl ⟨by simp only [isRight, Bool.and_eq_false_iff, decide_eq_false_iff_not]; omega, rfl⟩⟩
theorem isRight_le {z : Int} (h : isRight z = true) : 1 ≤ z ∧ z ≤ 4096 := by simpa [isRight] using h
theorem len_q (w : World) (S D most first n : Nat) (d : List UInt8) (h : Ring w S D most first n d) (k : Nat) :
    Calls Try.prog 9 #[.pointer (some ⟨S, 0, none⟩)] (w.drewN k) fun e w' => e = .returned (.int .i64 n) ∧ w' = w.drewN k :=
  (len_any (w.drewN k) S D most first n d (h.same (Same.drewN w k))).mono fun e w' ⟨h1, h2⟩ => ⟨h1, h2.symm⟩
theorem room_q (w : World) (S D most first n : Nat) (d : List UInt8) (h : Ring w S D most first n d) (k : Nat) :
    Calls Try.prog 10 #[.pointer (some ⟨S, 0, none⟩)] (w.drewN k) fun e w' => e = .returned (.int .i64 (most - n)) ∧ ∃ m, w' = (w.drewN k).drewN m :=
  room_any (w.drewN k) S D most first n d (h.same (Same.drewN w k))
theorem outN_all {n : Nat} (h : n ≤ 4096) : outN n 5000 = n := by unfold outN; rw [if_neg (by omega), if_pos (by omega)]
theorem refR_at {w : World} {C most B : Nat} (h : w.heap[C]? = some (.cells #[.int .i64 most, .slice none 0 0] 30 (0, 0))) (h1 : C < B) (h2 : B ≤ w.heap.size) : RefR w C most B (.slice none 0 0) [] := ⟨h, World.ownsRow_nil _ _ _ _, h1, h2⟩

set_option maxHeartbeats 16000000 in
set_option maxRecDepth 10000 in
theorem ringPlays_walk (z1 z2 : Int) (ad : Option Addr) (n c : Nat) (ops : List OpD) (w : World) (hn : ops.length = n) (hs : SrcO w ad ops) (hz1 : -9223372036854775808 ≤ z1 ∧ z1 ≤ 9223372036854775807) :
    Calls Try.prog 3 #[.int .i64 z1, .int .i64 z2, .slice ad n c] w fun e w' => e = .returned (.bool true) ∧ Below w.heap.size w w' := by
  have HS := Lib.hid hs
  have HN := Lib.hid hn
  have HR1 := Lib.hid (right_any z1)
  have HR2 := Lib.hid (right_any z2)
  clear hs hn
  go_enter Try.func3, Try.ntmps3
  go_wp2_with fail
  refine (shown_any _).mono ?_
  rintro e w1 ⟨rfl, hb⟩
  have HB1 := Lib.hid hb
  clear hb
  go_wp2_with fail
  refine (newr_any z1 _).mono ?_
  rintro e w2 ⟨hb, hc1⟩
  have HB2 := Lib.hid (HB1.out.trans (hb.mono HB1.out.size))
  have HC1 := Lib.hid hb.size
  clear hb
  rcases hc1 with ⟨r1, rfl⟩ | ⟨r1, S1, D1, m1, rfl, rfl, hring1, hS1, hD1⟩
  · rw [r1] at HR1
    go_wp2_with fail
    refine (newr_any z2 _).mono ?_
    rintro e w3 ⟨hb, hc2⟩
    have HB3 := Lib.hid (HB2.out.trans (hb.mono HB2.out.size))
    clear hb
    rcases hc2 with ⟨r2, rfl⟩ | ⟨r2, S2, D2, m2, rfl, rfl, hring2, hS2, hD2⟩
    all_goals (
      rw [r2] at HR2
      go_wp2_with fail
      refine (HR1.out _).mono ?_; rintro e w4 ⟨rfl, rfl⟩
      go_wp2_with fail
      refine (HR2.out _).mono ?_; rintro e w4 ⟨rfl, rfl⟩
      go_wp2_with fail
      refine (HR1.out _).mono ?_; rintro e w4 ⟨rfl, rfl⟩
      go_wp2_with fail
      refine (HR2.out _).mono ?_; rintro e w4 ⟨rfl, rfl⟩
      go_wp2
      go_ret
      exact ⟨rfl, HB3.out⟩)
  rw [r1] at HR1
  have HG1 := Lib.hid hring1
  clear hring1
  go_wp2_with fail
  refine (newr_any z2 _).mono ?_
  rintro e w3 ⟨hb, hc2⟩
  have HB3 := Lib.hid (HB2.out.trans (hb.mono HB2.out.size))
  have HG1' := Lib.hid (HG1.out.below hb)
  have hS1l := HG1.out.S_lt
  have hD1l := HG1.out.D_lt
  have hz23 := hb.size
  clear hb HG1
  rcases hc2 with ⟨r2, rfl⟩ | ⟨r2, S2, D2, m2, rfl, rfl, hring2, hS2, hD2⟩
  · rw [r2] at HR2
    go_wp2_with fail
    refine (HR1.out _).mono ?_; rintro e w4 ⟨rfl, rfl⟩
    go_wp2_with fail
    refine (HR2.out _).mono ?_; rintro e w4 ⟨rfl, rfl⟩
    go_wp2_with fail
    refine (HR1.out _).mono ?_; rintro e w4 ⟨rfl, rfl⟩
    go_wp2_with fail
    refine (HR2.out _).mono ?_; rintro e w4 ⟨rfl, rfl⟩
    go_wp2
    go_ret
    exact ⟨rfl, HB3.out⟩
  rw [r2] at HR2
  have hS2l := hring2.S_lt
  have hD2l := hring2.D_lt
  have hwz := HB1.out.size
  have hwz2 := HC1.out
  have hm1 := (HG1'.out).top
  have hm2 := hring2.top
  obtain ⟨w5, hw5⟩ : ∃ w5, w5 = (w3.alloc (.cells #[.int .i64 m1, .slice none 0 0] 30)).alloc (.cells #[.int .i64 m2, .slice none 0 0] 30) := ⟨_, rfl⟩
  have hb35 : Below w3.heap.size w3 w5 := by rw [hw5]; exact ((Below.refl _ _).alloc (Nat.le_refl _) _).alloc (by simp) _
  have h5s : w5.heap.size = w3.heap.size + 2 := by rw [hw5]; simp
  obtain ⟨C1, hC1⟩ : ∃ C1, C1 = w3.heap.size := ⟨_, rfl⟩
  obtain ⟨C2, hC2⟩ : ∃ C2, C2 = w3.heap.size + 1 := ⟨_, rfl⟩
  obtain ⟨B, hB⟩ : ∃ B, B = w3.heap.size + 2 := ⟨_, rfl⟩
  have e1 : w5.heap[C1]? = some (.cells #[.int .i64 m1, .slice none 0 0] 30 (0, 0)) := by
    rw [hw5, Below.heap_alloc _ _ _ (by rw [hC1]; simp), hC1]; exact heap_alloc_last _ _
  have e2 : w5.heap[C2]? = some (.cells #[.int .i64 m2, .slice none 0 0] 30 (0, 0)) := by
    rw [hw5, hC2]; have := heap_alloc_last (w3.alloc (.cells #[.int .i64 m1, .slice none 0 0] 30)) (.cells #[.int .i64 m2, .slice none 0 0] 30); simpa using this
  have hBoth1 : Both w5 S1 D1 C1 m1 B [] := ⟨⟨0, 0, _, HG1'.out.below hb35, rfl, rfl⟩, ⟨_, refR_at e1 (by omega) (by omega)⟩, by omega, by omega, by omega, by omega⟩
  have hBoth2 : Both w5 S2 D2 C2 m2 B [] := ⟨⟨0, 0, _, hring2.below hb35, rfl, rfl⟩, ⟨_, refR_at e2 (by omega) (by omega)⟩, by omega, by omega, by omega, by omega⟩
  have HX1 := Lib.hid hBoth1
  have HX2 := Lib.hid hBoth2
  have HB5 := Lib.hid (HB3.out.trans (hb35.mono HB3.out.size))
  have HW5 := Lib.hid hw5
  have HCC : Hid (C1 = w3.heap.size ∧ C2 = w3.heap.size + 1 ∧ B = w3.heap.size + 2) := Lib.hid ⟨hC1, hC2, hB⟩
  clear hBoth1 hBoth2 hb35 e1 e2 hw5 h5s HG1' hring2 HB1 HB2 HB3 HC1
  go_wp2_with fail
  refine (HR1.out _).mono ?_; rintro e w4 ⟨rfl, rfl⟩
  go_wp2_with fail
  refine (HR2.out _).mono ?_; rintro e w4 ⟨rfl, rfl⟩
  go_wp2_with fail
  rw [← HW5.out, ← HCC.out.1]
  have hC12 : C1 + 1 = C2 := by omega
  rw [hC12]
  have hs12 : S1 < S2 ∧ S1 < D2 ∧ D1 < S2 ∧ D1 < D2 ∧ S1 < C1 ∧ D1 < C1 ∧ S2 < C1 ∧ D2 < C1 ∧ C1 < C2 ∧ C2 < B ∧ w.heap.size ≤ S1 ∧ w.heap.size ≤ D1 := by omega
  obtain ⟨t1, t2, t3, t4, t5, t6, t7, t8, t9, t10, t11, t12⟩ := hs12
  clear HW5 hC12 hC1 hC2 hB HCC hS1 hD1 hS2 hD2 hS1l hD1l hS2l hD2l hwz hwz2 hz23
  go_loopw [12] (fun i wr => ∃ k : Nat, k ≤ n ∧ i = .int .i64 k ∧ (∃ O1, Both wr S1 D1 C1 m1 B O1) ∧ (∃ O2, Both wr S2 D2 C2 m2 B O2) ∧ Below w.heap.size w wr) (fun i _ => n - (intOf i).toNat)
  case atStart => exact ⟨0, by omega, rfl, ⟨_, HX1.out⟩, ⟨_, HX2.out⟩, HB5.out⟩
  clear HX1 HX2 HB5
  case round =>
    obtain ⟨k, hk, rfl, ⟨O1, hb1⟩, ⟨O2, hb2⟩, hbl⟩ := hrel
    have HQ1 := Lib.hid hb1
    have HQ2 := Lib.hid hb2
    have HBL := Lib.hid hbl
    by_cases hlt : k < n ∧ k < 300
    · obtain ⟨hkn, hk3⟩ := hlt
      have hkl : k < ops.length := by rw [HN.out]; exact hkn
      have hall := (HS.out.below hbl).at_ k hkl
      have hall0 := HS.out.at_ k hkl
      obtain ⟨op, hop⟩ : ∃ op, op = ops[k] := ⟨_, rfl⟩
      rw [← hop] at hall hall0
      obtain ⟨oz, os, oN, oa, on, oc, ol⟩ := op
      obtain ⟨bk, o, had, hbk, q0, q1, q2, q3, hrd, hcap, hcb, hbl1, hsp⟩ := hall
      have hsp2 : ∀ x, oa = some x → 0 < ol.length → x.block < w.heap.size := by
        obtain ⟨_, _, _, _, _, _, _, _, _, _, _, _, h⟩ := hall0
        exact h
      clear hall0
      subst had
      simp only at q0 q1 q2 q3 hrd hcap hcb hbl1 hsp hsp2
      clear hop hkl
      have HST1 : Hid (∀ O, Both wr S1 D1 C1 m1 B O → Calls Try.prog 8 #[.pointer (some ⟨S1, 0, none⟩), .pointer (some ⟨C1, 0, none⟩), opV oz oN os oa on oc] wr (StepSays wr S1 D1 C1 m1 B)) := Lib.hid fun O h =>
        step_any wr S1 D1 C1 m1 B O h _ _ _ _ _ _ _ hrd hcap hcb hbl1 fun x hx h0 => by have := hsp2 x hx h0; exact ⟨hsp x hx h0, by omega, by omega, by omega⟩
      have HST2 : Hid (∀ O, Both wr S2 D2 C2 m2 B O → Calls Try.prog 8 #[.pointer (some ⟨S2, 0, none⟩), .pointer (some ⟨C2, 0, none⟩), opV oz oN os oa on oc] wr (StepSays wr S2 D2 C2 m2 B)) := Lib.hid fun O h =>
        step_any wr S2 D2 C2 m2 B O h _ _ _ _ _ _ _ hrd hcap hcb hbl1 fun x hx h0 => by have := hsp2 x hx h0; exact ⟨hsp x hx h0, by omega, by omega, by omega⟩
      unfold opV at HST1 HST2
      clear hrd hcap hcb hbl1 hsp hsp2 hb1 hb2 hbl
      cases os with
      | false =>
        go_wp2_with fail
        refine (HST1.out _ HQ1.out).mono ?_
        rintro e w9 ⟨rfl, ⟨P1, hP1⟩, hkp⟩
        have hP2 := HQ2.out.kept (most := 0) hkp (by omega) (by omega) (by omega) (by omega) (by omega) (by omega) (by omega) (by omega) (by omega) (by omega) (by omega) (by omega)
        have hB9 := HBL.out.trans (hkp.below HBL.out.size (by omega) (by omega) (by omega))
        obtain ⟨⟨f1, nn1, d1, hr1, hq1, hn1⟩, ⟨v1, hf1⟩, _⟩ := id hP1
        obtain ⟨⟨f2, nn2, d2, hr2, hq2, hn2⟩, ⟨v2, hf2⟩, _⟩ := id hP2
        have hc1 := hr1.cnt
        have hc2 := hr2.cnt
        obtain ⟨ra1, rc1, hv1, _, _⟩ := own_form hf1.own
        obtain ⟨ra2, rc2, hv2, _, _⟩ := own_form hf2.own
        rw [← hn1] at hv1
        rw [← hn2] at hv2
        have x1 := hf1.c1
        have x2 := hf2.c1
        rw [hv1] at x1
        rw [hv2] at x2
        have lC1 := Nat.lt_of_lt_of_le hf1.cb hf1.bb
        have lC2 := Nat.lt_of_lt_of_le hf2.cb hf2.bb
        have HL1 := Lib.hid (len_q w9 S1 D1 m1 f1 nn1 d1 hr1)
        have HL2 := Lib.hid (len_q w9 S2 D2 m2 f2 nn2 d2 hr2)
        have HM1 := Lib.hid (room_q w9 S1 D1 m1 f1 nn1 d1 hr1)
        have HM2 := Lib.hid (room_q w9 S2 D2 m2 f2 nn2 d2 hr2)
        have HP1 := Lib.hid hP1
        have HP2 := Lib.hid hP2
        have HB9 := Lib.hid hB9
        have y1 : IntKind.i64.wrap ((m1 : Int) - (nn1 : Int)) = (m1 : Int) - (nn1 : Int) := IntWalk.i64_in _ (by omega)
        have y2 : IntKind.i64.wrap ((m2 : Int) - (nn2 : Int)) = (m2 : Int) - (nn2 : Int) := IntWalk.i64_in _ (by omega)
        clear hP1 hP2 hkp hB9 hr1 hr2 hq1 hq2 hn1 hn2 hf1 hf2 hv1 hv2 HST1 HST2 HQ1 HQ2 q0 q1 q2 q3
        go_wp2_with fail
        go_quiet (first
          | (go_at_call_of 9 (Value.pointer (some ⟨S1, 0, none⟩)); refine Calls.quiet_of_same (HL1.out _))
          | (go_at_call_of 9 (Value.pointer (some ⟨S2, 0, none⟩)); refine Calls.quiet_of_same (HL2.out _))
          | (go_at_call_of 10 (Value.pointer (some ⟨S1, 0, none⟩)); refine Calls.quiet_of (HM1.out _))
          | (go_at_call_of 10 (Value.pointer (some ⟨S2, 0, none⟩)); refine Calls.quiet_of (HM2.out _)))
        go_wp2
        go_roundw
        case rel => exact ⟨k + 1, by omega, by go_num, ⟨_, HP1.out.below ⟨rfl, rfl, rfl, Nat.le_refl _, fun _ _ => rfl⟩⟩, ⟨_, HP2.out.below ⟨rfl, rfl, rfl, Nat.le_refl _, fun _ _ => rfl⟩⟩, HB9.out.trans ⟨rfl, rfl, rfl, Nat.le_refl _, fun _ _ => rfl⟩⟩
        case measure => simp [intOf]; omega
      | true =>
        go_wp2_with fail
        refine (HST2.out _ HQ2.out).mono ?_
        rintro e w9 ⟨rfl, ⟨P2, hP2⟩, hkp⟩
        have hP1 := HQ1.out.kept (most := 0) hkp (by omega) (by omega) (by omega) (by omega) (by omega) (by omega) (by omega) (by omega) (by omega) (by omega) (by omega) (by omega)
        have hB9 := HBL.out.trans (hkp.below HBL.out.size (by omega) (by omega) (by omega))
        obtain ⟨⟨f1, nn1, d1, hr1, hq1, hn1⟩, ⟨v1, hf1⟩, _⟩ := id hP1
        obtain ⟨⟨f2, nn2, d2, hr2, hq2, hn2⟩, ⟨v2, hf2⟩, _⟩ := id hP2
        have hc1 := hr1.cnt
        have hc2 := hr2.cnt
        obtain ⟨ra1, rc1, hv1, _, _⟩ := own_form hf1.own
        obtain ⟨ra2, rc2, hv2, _, _⟩ := own_form hf2.own
        rw [← hn1] at hv1
        rw [← hn2] at hv2
        have x1 := hf1.c1
        have x2 := hf2.c1
        rw [hv1] at x1
        rw [hv2] at x2
        have lC1 := Nat.lt_of_lt_of_le hf1.cb hf1.bb
        have lC2 := Nat.lt_of_lt_of_le hf2.cb hf2.bb
        have HL1 := Lib.hid (len_q w9 S1 D1 m1 f1 nn1 d1 hr1)
        have HL2 := Lib.hid (len_q w9 S2 D2 m2 f2 nn2 d2 hr2)
        have HM1 := Lib.hid (room_q w9 S1 D1 m1 f1 nn1 d1 hr1)
        have HM2 := Lib.hid (room_q w9 S2 D2 m2 f2 nn2 d2 hr2)
        have HP1 := Lib.hid hP1
        have HP2 := Lib.hid hP2
        have HB9 := Lib.hid hB9
        have y1 : IntKind.i64.wrap ((m1 : Int) - (nn1 : Int)) = (m1 : Int) - (nn1 : Int) := IntWalk.i64_in _ (by omega)
        have y2 : IntKind.i64.wrap ((m2 : Int) - (nn2 : Int)) = (m2 : Int) - (nn2 : Int) := IntWalk.i64_in _ (by omega)
        clear hP1 hP2 hkp hB9 hr1 hr2 hq1 hq2 hn1 hn2 hf1 hf2 hv1 hv2 HST1 HST2 HQ1 HQ2 q0 q1 q2 q3
        go_wp2_with fail
        go_quiet (first
          | (go_at_call_of 9 (Value.pointer (some ⟨S1, 0, none⟩)); refine Calls.quiet_of_same (HL1.out _))
          | (go_at_call_of 9 (Value.pointer (some ⟨S2, 0, none⟩)); refine Calls.quiet_of_same (HL2.out _))
          | (go_at_call_of 10 (Value.pointer (some ⟨S1, 0, none⟩)); refine Calls.quiet_of (HM1.out _))
          | (go_at_call_of 10 (Value.pointer (some ⟨S2, 0, none⟩)); refine Calls.quiet_of (HM2.out _)))
        go_wp2
        go_roundw
        case rel => exact ⟨k + 1, by omega, by go_num, ⟨_, HP1.out.below ⟨rfl, rfl, rfl, Nat.le_refl _, fun _ _ => rfl⟩⟩, ⟨_, HP2.out.below ⟨rfl, rfl, rfl, Nat.le_refl _, fun _ _ => rfl⟩⟩, HB9.out.trans ⟨rfl, rfl, rfl, Nat.le_refl _, fun _ _ => rfl⟩⟩
        case measure => simp [intOf]; omega
    · obtain ⟨v1, hV1⟩ := hb1.named
      obtain ⟨v2, hV2⟩ := hb2.named
      have hO1 := hb1.len
      have hO2 := hb2.len
      obtain ⟨ra1, rc1, hv1, _, _⟩ := own_form hV1.ref.own
      obtain ⟨ra2, rc2, hv2, _, _⟩ := own_form hV2.ref.own
      obtain ⟨n1, hn1⟩ : ∃ n1, n1 = O1.length := ⟨_, rfl⟩
      obtain ⟨n2, hn2⟩ : ∃ n2, n2 = O2.length := ⟨_, rfl⟩
      obtain ⟨st1, hst1⟩ : ∃ st1 : ByteArray, st1 = ⟨O1.toArray⟩ := ⟨_, rfl⟩
      obtain ⟨st2, hst2⟩ : ∃ st2 : ByteArray, st2 = ⟨O2.toArray⟩ := ⟨_, rfl⟩
      have hu1 : outN O1.length 5000 = O1.length := outN_all (by omega)
      have hu2 : outN O2.length 5000 = O2.length := outN_all (by omega)
      have KV : ∀ wx, RefR wx C1 m1 B v1 O1 → RefR wx C2 m2 B v2 O2 → (wx.cell? ⟨C1, 1, none⟩ = some (.slice ra1 n1 rc1) ∧ wx.cell? ⟨C2, 1, none⟩ = some (.slice ra2 n2 rc2) ∧ (convert 28 9 (.slice ra1 n1 rc1)).run Try.prog wx = .ok (.string st1) wx ∧ (convert 28 9 (.slice ra2 n2 rc2)).run Try.prog wx = .ok (.string st2) wx) := fun wx g1 g2 => by
        have y1 := g1.c1
        have y2 := g2.c1
        have z1 := conv_own wx B v1 O1 g1.own
        have z2 := conv_own wx B v2 O2 g2.own
        rw [hv1, ← hn1] at y1 z1
        rw [hv2, ← hn2] at y2 z2
        exact ⟨y1, y2, by rw [hst1]; exact z1, by rw [hst2]; exact z2⟩
      have KS : Hid (∀ wx, Same wr wx → (wx.cell? ⟨C1, 1, none⟩ = some (.slice ra1 n1 rc1) ∧ wx.cell? ⟨C2, 1, none⟩ = some (.slice ra2 n2 rc2) ∧ (convert 28 9 (.slice ra1 n1 rc1)).run Try.prog wx = .ok (.string st1) wx ∧ (convert 28 9 (.slice ra2 n2 rc2)).run Try.prog wx = .ok (.string st2) wx)) := Lib.hid fun wx hs =>
        KV wx (hV1.ref.keeps (S := S1) (D := D1) (Keeps.of_same hs) (by omega) (by omega) (by omega) (by omega)) (hV2.ref.keeps (S := S1) (D := D1) (Keeps.of_same hs) (by omega) (by omega) (by omega) (by omega))
      have hsm : Same wr wr.drew := ⟨rfl, rfl, rfl, rfl⟩
      have hbd : Below wr.heap.size wr wr.drew := ⟨rfl, rfl, rfl, Nat.le_refl _, fun _ _ => rfl⟩
      have HT := take_any wr.drew S1 D1 C1 m1 B O1 (hb1.below hbd) 5000
      have HT : Hid (Calls Try.prog 11 #[.pointer (some ⟨S1, 0, none⟩), .int .i64 5000] wr.drew fun e w' => ∃ ua uc, e = .returned (.slice ua n1 uc) ∧ (convert 28 9 (.slice ua n1 uc)).run Try.prog w' = .ok (.string st1) w' ∧ Keeps S1 D1 wr.drew w') := Lib.hid (HT.mono fun e w' ⟨u, he, ho, _, hk6⟩ => by
        rw [hu1, List.take_length] at ho
        obtain ⟨ua, uc, rfl⟩ := own_slice ho
        rw [hn1, hst1]
        exact ⟨ua, uc, he, conv_own w' _ _ O1 ho, hk6⟩)
      have K6 : Hid (∀ w6, Keeps S1 D1 wr.drew w6 → (w6.cell? ⟨C1, 1, none⟩ = some (.slice ra1 n1 rc1) ∧ w6.cell? ⟨C2, 1, none⟩ = some (.slice ra2 n2 rc2) ∧ (convert 28 9 (.slice ra1 n1 rc1)).run Try.prog w6 = .ok (.string st1) w6 ∧ (convert 28 9 (.slice ra2 n2 rc2)).run Try.prog w6 = .ok (.string st2) w6) ∧ BothV w6 S2 D2 C2 m2 B v2 O2 ∧ RefR w6 C1 m1 B v1 O1 ∧ Below w.heap.size w w6) := Lib.hid fun w6 hk6 => by
        have hk6' : Keeps S1 D1 wr w6 := (Keeps.of_same hsm).trans hk6
        have g1 := hV1.ref.keeps hk6' (by omega) (by omega) (by omega) (by omega)
        have g2 := hV2.ref.keeps hk6' (by omega) (by omega) (by omega) (by omega)
        obtain ⟨f, nn, d, hr, hq⟩ := hV2.ring
        exact ⟨KV w6 g1 g2, ⟨⟨f, nn, d, hr.keeps hk6' (by omega) (by omega) (by omega) (by omega), hq⟩, g2, hV2.sb, hV2.db, hV2.sc, hV2.dc⟩, g1, HBL.out.trans (hk6'.below HBL.out.size (by omega) (by omega))⟩
      have HPK : Hid (∀ wx, BothV wx S2 D2 C2 m2 B v2 O2 → RefR wx C1 m1 B v1 O1 → Below w.heap.size w wx → Calls Try.prog 12 #[.pointer (some ⟨S2, 0, none⟩), .int .i64 5000] wx fun e w' => ∃ ua uc, e = .returned (.slice ua n2 uc) ∧ (convert 28 9 (.slice ua n2 uc)).run Try.prog w' = .ok (.string st2) w' ∧ (w'.cell? ⟨C1, 1, none⟩ = some (.slice ra1 n1 rc1) ∧ w'.cell? ⟨C2, 1, none⟩ = some (.slice ra2 n2 rc2) ∧ (convert 28 9 (.slice ra1 n1 rc1)).run Try.prog w' = .ok (.string st1) w' ∧ (convert 28 9 (.slice ra2 n2 rc2)).run Try.prog w' = .ok (.string st2) w') ∧ Below w.heap.size w w') := Lib.hid fun wx g2 g1 gb =>
        (peek_any wx S2 D2 C2 m2 B O2 g2.both 5000).mono fun e w' ⟨u, he, ho, hb7⟩ => by
          rw [hu2, List.take_length] at ho
          obtain ⟨ua, uc, rfl⟩ := own_slice ho
          rw [hn2, hst2]
          rw [← hst2, ← hn2]
          refine ⟨ua, uc, by rw [hn2]; exact he, ?_, KV w' (g1.below hb7) (g2.ref.below hb7), gb.trans (hb7.mono gb.size)⟩
          rw [hst2, hn2]
          exact conv_own w' _ _ O2 ho
      have lC1 := Nat.lt_of_lt_of_le hV1.ref.cb hV1.ref.bb
      have lC2 := Nat.lt_of_lt_of_le hV2.ref.cb hV2.ref.bb
      have hcases : (¬ k < n) ∨ (k < n ∧ ¬ k < 300) := by omega
      clear KV hV1 hV2 hb1 hb2 hv1 hv2 hn1 hn2 hst1 hst2 hu1 hu2 hsm hbd hlt hbl HQ1 HQ2
      rcases hcases with hge | ⟨hge, hge2⟩
      · go_wp2_with fail
        refine wp_region_noPanic ?_
        refine wp_region_held_drew (S := fun w' => (w'.cell? ⟨C1, 1, none⟩ = some (.slice ra1 n1 rc1) ∧ w'.cell? ⟨C2, 1, none⟩ = some (.slice ra2 n2 rc2) ∧ (convert 28 9 (.slice ra1 n1 rc1)).run Try.prog w' = .ok (.string st1) w' ∧ (convert 28 9 (.slice ra2 n2 rc2)).run Try.prog w' = .ok (.string st2) w')) (by kernel_rfl) ?hS0a (fun hHeld => ?restSa)
        case hS0a => exact KS.out _ ⟨rfl, rfl, rfl, rfl⟩
        refine wpAnyH_take (i := 0) (oi := { dst := some 138, op := Go.Op.move (Go.Operand.tmp 8), type := 24, pos := _, after := #[], guard := none }) (v := ?v0a) rfl (by kernel_rfl) (by kernel_rfl) (by kernel_rfl) (fun _ _ _ h => h) (Or.inl ⟨by rfl, ?hy0a⟩) (by assumption) ?rest0a
        case hy0a => ((intro w' hSw; (try dsimp only at hSw); go_simp) <;> with_reducible rfl)
        (try simp only [Act.put, List.setIfInBounds_toArray, List.set_cons_zero, List.set_cons_succ])
        refine wpAnyH_take (i := 3) (oi := { dst := some 141, op := Go.Op.move (Go.Operand.tmp 10), type := 27, pos := _, after := #[], guard := none }) (v := ?v3a) rfl (by kernel_rfl) (by kernel_rfl) (by kernel_rfl) (fun _ _ _ h => h) (Or.inl ⟨by rfl, ?hy3a⟩) (by assumption) ?rest3a
        case hy3a => ((intro w' hSw; (try dsimp only at hSw); go_simp) <;> with_reducible rfl)
        (try simp only [Act.put, List.setIfInBounds_toArray, List.set_cons_zero, List.set_cons_succ])
        refine wpAnyH_take (i := 4) (oi := { dst := some 142, op := Go.Op.nilCheck (Go.Operand.tmp 141), type := 0, pos := _, after := #[{ on := 3, ground := Go.Ground.data }], guard := none }) (v := ?v4a) rfl (by kernel_rfl) (by kernel_rfl) (by kernel_rfl) (fun _ _ _ h => h) (Or.inl ⟨by rfl, ?hy4a⟩) (by assumption) ?rest4a
        case hy4a => ((intro w' hSw; (try dsimp only at hSw); go_simp) <;> with_reducible rfl)
        (try simp only [Act.put, List.setIfInBounds_toArray, List.set_cons_zero, List.set_cons_succ])
        refine wpAnyH_take (i := 5) (oi := { dst := some 143, op := Go.Op.fieldAddr 30 (Go.Operand.tmp 142) 1, type := 0, pos := _, after := #[{ on := 4, ground := Go.Ground.data }], guard := none }) (v := ?v5a) rfl (by kernel_rfl) (by kernel_rfl) (by kernel_rfl) (fun _ _ _ h => h) (Or.inl ⟨by rfl, ?hy5a⟩) (by assumption) ?rest5a
        case hy5a => ((intro w' hSw; (try dsimp only at hSw); go_simp) <;> with_reducible rfl)
        (try simp only [Act.put, List.setIfInBounds_toArray, List.set_cons_zero, List.set_cons_succ])
        refine wpAnyH_take (i := 6) (oi := { dst := some 144, op := Go.Op.load 28 (Go.Operand.tmp 143), type := 28, pos := _, after := #[{ on := 5, ground := Go.Ground.data }], guard := none }) (v := ?v6a) rfl (by kernel_rfl) (by kernel_rfl) (by kernel_rfl) (fun _ _ _ h => h) (Or.inl ⟨by rfl, ?hy6a⟩) (by assumption) ?rest6a
        case hy6a => ((intro w' hSw; (try dsimp only at hSw); go_simp) <;> with_reducible rfl)
        (try simp only [Act.put, List.setIfInBounds_toArray, List.set_cons_zero, List.set_cons_succ])
        refine wpAnyH_take (i := 7) (oi := { dst := some 145, op := Go.Op.convert 28 9 (Go.Operand.tmp 144), type := 9, pos := _, after := #[{ on := 6, ground := Go.Ground.data }], guard := none }) (v := ?v7a) rfl (by kernel_rfl) (by kernel_rfl) (by kernel_rfl) (fun _ _ _ h => h) (Or.inl ⟨by rfl, ?hy7a⟩) (by assumption) ?rest7a
        case hy7a => ((intro w' hSw; (try dsimp only at hSw); go_simp) <;> with_reducible rfl)
        (try simp only [Act.put, List.setIfInBounds_toArray, List.set_cons_zero, List.set_cons_succ])
        refine wpAnyH_ready (rs := [1]) (by kernel_rfl) (by simp) ?_
        refine AllReadyH.cons (o := { dst := some 139, op := Go.Op.call { callee := Go.Callee.value (Go.Operand.func 11), args := #[Go.Operand.tmp 138, Go.Operand.const (Go.Value.int Go.IntKind.i64 5000)], argTypes := #[24, 3] }, type := 28, pos := _, after := #[{ on := 0, ground := Go.Ground.data }], guard := none }) rfl (fun K hK => ?_) AllReadyH.nil
        go_simp
        refine HT.out.mono ?_; rintro e w6 ⟨ua1, uc1, rfl, cu1, hkk⟩; have hk6 := K6.out w6 hkk; clear hkk
        (try go_wp2_with fail)
        refine hK.out _ _ ?kp1a (fun hHeld => ?rest1a)
        case kp1a => exact hk6.1
        clear hK K
        (try simp only [Act.put, List.setIfInBounds_toArray, List.set_cons_zero, List.set_cons_succ])
        refine wpAnyH_ready (rs := [2]) (by kernel_rfl) (by simp) ?_
        refine AllReadyH.cons (o := { dst := some 140, op := Go.Op.convert 28 9 (Go.Operand.tmp 139), type := 9, pos := _, after := #[{ on := 1, ground := Go.Ground.data }], guard := none }) rfl (fun K hK => ?_) AllReadyH.nil
        go_simp
        refine hK.out _ _ ?kp2a (fun hHeld => ?rest2a)
        case kp2a => exact hk6.1
        clear hK K
        (try simp only [Act.put, List.setIfInBounds_toArray, List.set_cons_zero, List.set_cons_succ])
        refine wpAnyH_take (i := 8) (oi := { dst := some 146, op := Go.Op.binOp Go.BinOp.eql 9 (Go.Operand.tmp 140) (Go.Operand.tmp 145) 9, type := 4, pos := _, after := #[{ on := 2, ground := Go.Ground.data }, { on := 7, ground := Go.Ground.data }], guard := none }) (v := ?v8a) rfl (by kernel_rfl) (by kernel_rfl) (by kernel_rfl) (fun _ _ _ h => h) (Or.inl ⟨by rfl, ?hy8a⟩) (by assumption) ?rest8a
        case hy8a => ((intro w' hSw; (try dsimp only at hSw); go_simp) <;> with_reducible rfl)
        (try simp only [Act.put, List.setIfInBounds_toArray, List.set_cons_zero, List.set_cons_succ])
        refine wpAnyH_take (i := 9) (oi := { dst := some 147, op := Go.Op.move (Go.Operand.tmp 146), type := 4, pos := _, after := #[{ on := 8, ground := Go.Ground.data }, { on := 1, ground := Go.Ground.chain }], guard := none }) (v := ?v9a) rfl (by kernel_rfl) (by kernel_rfl) (by kernel_rfl) (fun _ _ _ h => h) (Or.inl ⟨by rfl, ?hy9a⟩) (by assumption) ?rest9a
        case hy9a => ((intro w' hSw; (try dsimp only at hSw); go_simp) <;> with_reducible rfl)
        (try simp only [Act.put, List.setIfInBounds_toArray, List.set_cons_zero, List.set_cons_succ])
        refine wpAnyH_take (i := 10) (oi := { dst := some 148, op := Go.Op.move (Go.Operand.tmp 9), type := 24, pos := _, after := #[{ on := 9, ground := Go.Ground.guard }], guard := some (9, true) }) (v := ?v10a) rfl (by kernel_rfl) (by kernel_rfl) (by kernel_rfl) (fun _ _ _ h => h) (Or.inl ⟨by rfl, ?hy10a⟩) (by assumption) ?rest10a
        case hy10a => ((intro w' hSw; (try dsimp only at hSw); go_simp) <;> with_reducible rfl)
        (try simp only [Act.put, List.setIfInBounds_toArray, List.set_cons_zero, List.set_cons_succ])
        refine wpAnyH_take (i := 13) (oi := { dst := some 151, op := Go.Op.move (Go.Operand.tmp 11), type := 27, pos := _, after := #[{ on := 9, ground := Go.Ground.guard }], guard := some (9, true) }) (v := ?v13a) rfl (by kernel_rfl) (by kernel_rfl) (by kernel_rfl) (fun _ _ _ h => h) (Or.inl ⟨by rfl, ?hy13a⟩) (by assumption) ?rest13a
        case hy13a => ((intro w' hSw; (try dsimp only at hSw); go_simp) <;> with_reducible rfl)
        (try simp only [Act.put, List.setIfInBounds_toArray, List.set_cons_zero, List.set_cons_succ])
        refine wpAnyH_take (i := 14) (oi := { dst := some 152, op := Go.Op.nilCheck (Go.Operand.tmp 151), type := 0, pos := _, after := #[{ on := 13, ground := Go.Ground.data }, { on := 9, ground := Go.Ground.guard }], guard := some (9, true) }) (v := ?v14a) rfl (by kernel_rfl) (by kernel_rfl) (by kernel_rfl) (fun _ _ _ h => h) (Or.inl ⟨by rfl, ?hy14a⟩) (by assumption) ?rest14a
        case hy14a => ((intro w' hSw; (try dsimp only at hSw); go_simp) <;> with_reducible rfl)
        (try simp only [Act.put, List.setIfInBounds_toArray, List.set_cons_zero, List.set_cons_succ])
        refine wpAnyH_take (i := 15) (oi := { dst := some 153, op := Go.Op.fieldAddr 30 (Go.Operand.tmp 152) 1, type := 0, pos := _, after := #[{ on := 14, ground := Go.Ground.data }, { on := 9, ground := Go.Ground.guard }], guard := some (9, true) }) (v := ?v15a) rfl (by kernel_rfl) (by kernel_rfl) (by kernel_rfl) (fun _ _ _ h => h) (Or.inl ⟨by rfl, ?hy15a⟩) (by assumption) ?rest15a
        case hy15a => ((intro w' hSw; (try dsimp only at hSw); go_simp) <;> with_reducible rfl)
        (try simp only [Act.put, List.setIfInBounds_toArray, List.set_cons_zero, List.set_cons_succ])
        refine wpAnyH_take (i := 16) (oi := { dst := some 154, op := Go.Op.load 28 (Go.Operand.tmp 153), type := 28, pos := _, after := #[{ on := 15, ground := Go.Ground.data }, { on := 9, ground := Go.Ground.guard }], guard := some (9, true) }) (v := ?v16a) rfl (by kernel_rfl) (by kernel_rfl) (by kernel_rfl) (fun _ _ _ h => h) (Or.inl ⟨by rfl, ?hy16a⟩) (by assumption) ?rest16a
        case hy16a => ((intro w' hSw; (try dsimp only at hSw); go_simp) <;> with_reducible rfl)
        (try simp only [Act.put, List.setIfInBounds_toArray, List.set_cons_zero, List.set_cons_succ])
        refine wpAnyH_take (i := 17) (oi := { dst := some 155, op := Go.Op.convert 28 9 (Go.Operand.tmp 154), type := 9, pos := _, after := #[{ on := 16, ground := Go.Ground.data }, { on := 9, ground := Go.Ground.guard }], guard := some (9, true) }) (v := ?v17a) rfl (by kernel_rfl) (by kernel_rfl) (by kernel_rfl) (fun _ _ _ h => h) (Or.inl ⟨by rfl, ?hy17a⟩) (by assumption) ?rest17a
        case hy17a => ((intro w' hSw; (try dsimp only at hSw); go_simp) <;> with_reducible rfl)
        (try simp only [Act.put, List.setIfInBounds_toArray, List.set_cons_zero, List.set_cons_succ])
        refine wpAnyH_ready (rs := [11]) (by kernel_rfl) (by simp) ?_
        refine AllReadyH.cons (o := { dst := some 149, op := Go.Op.call { callee := Go.Callee.value (Go.Operand.func 12), args := #[Go.Operand.tmp 148, Go.Operand.const (Go.Value.int Go.IntKind.i64 5000)], argTypes := #[24, 3] }, type := 28, pos := _, after := #[{ on := 10, ground := Go.Ground.data }, { on := 9, ground := Go.Ground.chain }, { on := 9, ground := Go.Ground.guard }], guard := some (9, true) }) rfl (fun K hK => ?_) AllReadyH.nil
        go_simp
        refine (HPK.out _ hk6.2.1 hk6.2.2.1 hk6.2.2.2).mono ?_; rintro e w7 ⟨ua2, uc2, rfl, hj⟩; have cu2 := hj.1
        (try go_wp2_with fail)
        refine hK.out _ _ ?kp11a (fun hHeld => ?rest11a)
        case kp11a => exact hj.2.1
        clear hK K
        (try simp only [Act.put, List.setIfInBounds_toArray, List.set_cons_zero, List.set_cons_succ])
        refine wpAnyH_ready (rs := [12]) (by kernel_rfl) (by simp) ?_
        refine AllReadyH.cons (o := { dst := some 150, op := Go.Op.convert 28 9 (Go.Operand.tmp 149), type := 9, pos := _, after := #[{ on := 11, ground := Go.Ground.data }, { on := 9, ground := Go.Ground.guard }], guard := some (9, true) }) rfl (fun K hK => ?_) AllReadyH.nil
        go_simp
        refine hK.out _ _ ?kp12a (fun hHeld => ?rest12a)
        case kp12a => exact hj.2.1
        clear hK K
        (try simp only [Act.put, List.setIfInBounds_toArray, List.set_cons_zero, List.set_cons_succ])
        refine wpAnyH_take (i := 18) (oi := { dst := some 156, op := Go.Op.binOp Go.BinOp.eql 9 (Go.Operand.tmp 150) (Go.Operand.tmp 155) 9, type := 4, pos := _, after := #[{ on := 12, ground := Go.Ground.data }, { on := 17, ground := Go.Ground.data }, { on := 9, ground := Go.Ground.guard }], guard := some (9, true) }) (v := ?v18a) rfl (by kernel_rfl) (by kernel_rfl) (by kernel_rfl) (fun _ _ _ h => h) (Or.inl ⟨by rfl, ?hy18a⟩) (by assumption) ?rest18a
        case hy18a => ((intro w' hSw; (try dsimp only at hSw); go_simp) <;> with_reducible rfl)
        (try simp only [Act.put, List.setIfInBounds_toArray, List.set_cons_zero, List.set_cons_succ])
        refine wpAnyH_take (i := 19) (oi := { dst := some 157, op := Go.Op.pick (Go.Operand.tmp 147) (Go.Operand.tmp 156) (Go.Operand.const (Go.Value.bool false)), type := 4, pos := _, after := #[{ on := 9, ground := Go.Ground.data }, { on := 18, ground := Go.Ground.data }], guard := none }) (v := ?v19a) rfl (by kernel_rfl) (by kernel_rfl) (by kernel_rfl) (fun _ _ _ h => h) (Or.inl ⟨by rfl, ?hy19a⟩) (by assumption) ?rest19a
        case hy19a => ((intro w' hSw; (try dsimp only at hSw); go_simp) <;> with_reducible rfl)
        (try simp only [Act.put, List.setIfInBounds_toArray, List.set_cons_zero, List.set_cons_succ])
        refine wpAnyH_take (i := 20) (oi := { dst := some 6, op := Go.Op.assign (Go.Operand.tmp 157), type := 4, pos := _, after := #[{ on := 19, ground := Go.Ground.data }, { on := 11, ground := Go.Ground.chain }, { on := 0, ground := Go.Ground.phase }, { on := 1, ground := Go.Ground.phase }, { on := 2, ground := Go.Ground.phase }, { on := 3, ground := Go.Ground.phase }, { on := 4, ground := Go.Ground.phase }, { on := 5, ground := Go.Ground.phase }, { on := 6, ground := Go.Ground.phase }, { on := 7, ground := Go.Ground.phase }, { on := 8, ground := Go.Ground.phase }, { on := 9, ground := Go.Ground.phase }, { on := 10, ground := Go.Ground.phase }, { on := 11, ground := Go.Ground.phase }, { on := 12, ground := Go.Ground.phase }, { on := 13, ground := Go.Ground.phase }, { on := 14, ground := Go.Ground.phase }, { on := 15, ground := Go.Ground.phase }, { on := 16, ground := Go.Ground.phase }, { on := 17, ground := Go.Ground.phase }, { on := 18, ground := Go.Ground.phase }, { on := 19, ground := Go.Ground.phase }], guard := none }) (v := ?v20a) rfl (by kernel_rfl) (by kernel_rfl) (by kernel_rfl) (fun _ _ _ h => h) (Or.inl ⟨by rfl, ?hy20a⟩) (by assumption) ?rest20a
        case hy20a => ((intro w' hSw; (try dsimp only at hSw); go_simp) <;> with_reducible rfl)
        (try simp only [Act.put, List.setIfInBounds_toArray, List.set_cons_zero, List.set_cons_succ])
        refine wpAnyH_done (by kernel_rfl) ?_ _
        refine NoPanic.normal ?_
        have HBF := Lib.hid hj.2.2
        clear hj hk6
        go_wp2
        go_ret
        exact ⟨rfl, HBF.out⟩
      · go_wp2_with fail
        refine wp_region_noPanic ?_
        refine wp_region_held_drew (S := fun w' => (w'.cell? ⟨C1, 1, none⟩ = some (.slice ra1 n1 rc1) ∧ w'.cell? ⟨C2, 1, none⟩ = some (.slice ra2 n2 rc2) ∧ (convert 28 9 (.slice ra1 n1 rc1)).run Try.prog w' = .ok (.string st1) w' ∧ (convert 28 9 (.slice ra2 n2 rc2)).run Try.prog w' = .ok (.string st2) w')) (by kernel_rfl) ?hS0b (fun hHeld => ?restSb)
        case hS0b => exact KS.out _ ⟨rfl, rfl, rfl, rfl⟩
        refine wpAnyH_take (i := 0) (oi := { dst := some 138, op := Go.Op.move (Go.Operand.tmp 8), type := 24, pos := _, after := #[], guard := none }) (v := ?v0b) rfl (by kernel_rfl) (by kernel_rfl) (by kernel_rfl) (fun _ _ _ h => h) (Or.inl ⟨by rfl, ?hy0b⟩) (by assumption) ?rest0b
        case hy0b => ((intro w' hSw; (try dsimp only at hSw); go_simp) <;> with_reducible rfl)
        (try simp only [Act.put, List.setIfInBounds_toArray, List.set_cons_zero, List.set_cons_succ])
        refine wpAnyH_take (i := 3) (oi := { dst := some 141, op := Go.Op.move (Go.Operand.tmp 10), type := 27, pos := _, after := #[], guard := none }) (v := ?v3b) rfl (by kernel_rfl) (by kernel_rfl) (by kernel_rfl) (fun _ _ _ h => h) (Or.inl ⟨by rfl, ?hy3b⟩) (by assumption) ?rest3b
        case hy3b => ((intro w' hSw; (try dsimp only at hSw); go_simp) <;> with_reducible rfl)
        (try simp only [Act.put, List.setIfInBounds_toArray, List.set_cons_zero, List.set_cons_succ])
        refine wpAnyH_take (i := 4) (oi := { dst := some 142, op := Go.Op.nilCheck (Go.Operand.tmp 141), type := 0, pos := _, after := #[{ on := 3, ground := Go.Ground.data }], guard := none }) (v := ?v4b) rfl (by kernel_rfl) (by kernel_rfl) (by kernel_rfl) (fun _ _ _ h => h) (Or.inl ⟨by rfl, ?hy4b⟩) (by assumption) ?rest4b
        case hy4b => ((intro w' hSw; (try dsimp only at hSw); go_simp) <;> with_reducible rfl)
        (try simp only [Act.put, List.setIfInBounds_toArray, List.set_cons_zero, List.set_cons_succ])
        refine wpAnyH_take (i := 5) (oi := { dst := some 143, op := Go.Op.fieldAddr 30 (Go.Operand.tmp 142) 1, type := 0, pos := _, after := #[{ on := 4, ground := Go.Ground.data }], guard := none }) (v := ?v5b) rfl (by kernel_rfl) (by kernel_rfl) (by kernel_rfl) (fun _ _ _ h => h) (Or.inl ⟨by rfl, ?hy5b⟩) (by assumption) ?rest5b
        case hy5b => ((intro w' hSw; (try dsimp only at hSw); go_simp) <;> with_reducible rfl)
        (try simp only [Act.put, List.setIfInBounds_toArray, List.set_cons_zero, List.set_cons_succ])
        refine wpAnyH_take (i := 6) (oi := { dst := some 144, op := Go.Op.load 28 (Go.Operand.tmp 143), type := 28, pos := _, after := #[{ on := 5, ground := Go.Ground.data }], guard := none }) (v := ?v6b) rfl (by kernel_rfl) (by kernel_rfl) (by kernel_rfl) (fun _ _ _ h => h) (Or.inl ⟨by rfl, ?hy6b⟩) (by assumption) ?rest6b
        case hy6b => ((intro w' hSw; (try dsimp only at hSw); go_simp) <;> with_reducible rfl)
        (try simp only [Act.put, List.setIfInBounds_toArray, List.set_cons_zero, List.set_cons_succ])
        refine wpAnyH_take (i := 7) (oi := { dst := some 145, op := Go.Op.convert 28 9 (Go.Operand.tmp 144), type := 9, pos := _, after := #[{ on := 6, ground := Go.Ground.data }], guard := none }) (v := ?v7b) rfl (by kernel_rfl) (by kernel_rfl) (by kernel_rfl) (fun _ _ _ h => h) (Or.inl ⟨by rfl, ?hy7b⟩) (by assumption) ?rest7b
        case hy7b => ((intro w' hSw; (try dsimp only at hSw); go_simp) <;> with_reducible rfl)
        (try simp only [Act.put, List.setIfInBounds_toArray, List.set_cons_zero, List.set_cons_succ])
        refine wpAnyH_ready (rs := [1]) (by kernel_rfl) (by simp) ?_
        refine AllReadyH.cons (o := { dst := some 139, op := Go.Op.call { callee := Go.Callee.value (Go.Operand.func 11), args := #[Go.Operand.tmp 138, Go.Operand.const (Go.Value.int Go.IntKind.i64 5000)], argTypes := #[24, 3] }, type := 28, pos := _, after := #[{ on := 0, ground := Go.Ground.data }], guard := none }) rfl (fun K hK => ?_) AllReadyH.nil
        go_simp
        refine HT.out.mono ?_; rintro e w6 ⟨ua1, uc1, rfl, cu1, hkk⟩; have hk6 := K6.out w6 hkk; clear hkk
        (try go_wp2_with fail)
        refine hK.out _ _ ?kp1b (fun hHeld => ?rest1b)
        case kp1b => exact hk6.1
        clear hK K
        (try simp only [Act.put, List.setIfInBounds_toArray, List.set_cons_zero, List.set_cons_succ])
        refine wpAnyH_ready (rs := [2]) (by kernel_rfl) (by simp) ?_
        refine AllReadyH.cons (o := { dst := some 140, op := Go.Op.convert 28 9 (Go.Operand.tmp 139), type := 9, pos := _, after := #[{ on := 1, ground := Go.Ground.data }], guard := none }) rfl (fun K hK => ?_) AllReadyH.nil
        go_simp
        refine hK.out _ _ ?kp2b (fun hHeld => ?rest2b)
        case kp2b => exact hk6.1
        clear hK K
        (try simp only [Act.put, List.setIfInBounds_toArray, List.set_cons_zero, List.set_cons_succ])
        refine wpAnyH_take (i := 8) (oi := { dst := some 146, op := Go.Op.binOp Go.BinOp.eql 9 (Go.Operand.tmp 140) (Go.Operand.tmp 145) 9, type := 4, pos := _, after := #[{ on := 2, ground := Go.Ground.data }, { on := 7, ground := Go.Ground.data }], guard := none }) (v := ?v8b) rfl (by kernel_rfl) (by kernel_rfl) (by kernel_rfl) (fun _ _ _ h => h) (Or.inl ⟨by rfl, ?hy8b⟩) (by assumption) ?rest8b
        case hy8b => ((intro w' hSw; (try dsimp only at hSw); go_simp) <;> with_reducible rfl)
        (try simp only [Act.put, List.setIfInBounds_toArray, List.set_cons_zero, List.set_cons_succ])
        refine wpAnyH_take (i := 9) (oi := { dst := some 147, op := Go.Op.move (Go.Operand.tmp 146), type := 4, pos := _, after := #[{ on := 8, ground := Go.Ground.data }, { on := 1, ground := Go.Ground.chain }], guard := none }) (v := ?v9b) rfl (by kernel_rfl) (by kernel_rfl) (by kernel_rfl) (fun _ _ _ h => h) (Or.inl ⟨by rfl, ?hy9b⟩) (by assumption) ?rest9b
        case hy9b => ((intro w' hSw; (try dsimp only at hSw); go_simp) <;> with_reducible rfl)
        (try simp only [Act.put, List.setIfInBounds_toArray, List.set_cons_zero, List.set_cons_succ])
        refine wpAnyH_take (i := 10) (oi := { dst := some 148, op := Go.Op.move (Go.Operand.tmp 9), type := 24, pos := _, after := #[{ on := 9, ground := Go.Ground.guard }], guard := some (9, true) }) (v := ?v10b) rfl (by kernel_rfl) (by kernel_rfl) (by kernel_rfl) (fun _ _ _ h => h) (Or.inl ⟨by rfl, ?hy10b⟩) (by assumption) ?rest10b
        case hy10b => ((intro w' hSw; (try dsimp only at hSw); go_simp) <;> with_reducible rfl)
        (try simp only [Act.put, List.setIfInBounds_toArray, List.set_cons_zero, List.set_cons_succ])
        refine wpAnyH_take (i := 13) (oi := { dst := some 151, op := Go.Op.move (Go.Operand.tmp 11), type := 27, pos := _, after := #[{ on := 9, ground := Go.Ground.guard }], guard := some (9, true) }) (v := ?v13b) rfl (by kernel_rfl) (by kernel_rfl) (by kernel_rfl) (fun _ _ _ h => h) (Or.inl ⟨by rfl, ?hy13b⟩) (by assumption) ?rest13b
        case hy13b => ((intro w' hSw; (try dsimp only at hSw); go_simp) <;> with_reducible rfl)
        (try simp only [Act.put, List.setIfInBounds_toArray, List.set_cons_zero, List.set_cons_succ])
        refine wpAnyH_take (i := 14) (oi := { dst := some 152, op := Go.Op.nilCheck (Go.Operand.tmp 151), type := 0, pos := _, after := #[{ on := 13, ground := Go.Ground.data }, { on := 9, ground := Go.Ground.guard }], guard := some (9, true) }) (v := ?v14b) rfl (by kernel_rfl) (by kernel_rfl) (by kernel_rfl) (fun _ _ _ h => h) (Or.inl ⟨by rfl, ?hy14b⟩) (by assumption) ?rest14b
        case hy14b => ((intro w' hSw; (try dsimp only at hSw); go_simp) <;> with_reducible rfl)
        (try simp only [Act.put, List.setIfInBounds_toArray, List.set_cons_zero, List.set_cons_succ])
        refine wpAnyH_take (i := 15) (oi := { dst := some 153, op := Go.Op.fieldAddr 30 (Go.Operand.tmp 152) 1, type := 0, pos := _, after := #[{ on := 14, ground := Go.Ground.data }, { on := 9, ground := Go.Ground.guard }], guard := some (9, true) }) (v := ?v15b) rfl (by kernel_rfl) (by kernel_rfl) (by kernel_rfl) (fun _ _ _ h => h) (Or.inl ⟨by rfl, ?hy15b⟩) (by assumption) ?rest15b
        case hy15b => ((intro w' hSw; (try dsimp only at hSw); go_simp) <;> with_reducible rfl)
        (try simp only [Act.put, List.setIfInBounds_toArray, List.set_cons_zero, List.set_cons_succ])
        refine wpAnyH_take (i := 16) (oi := { dst := some 154, op := Go.Op.load 28 (Go.Operand.tmp 153), type := 28, pos := _, after := #[{ on := 15, ground := Go.Ground.data }, { on := 9, ground := Go.Ground.guard }], guard := some (9, true) }) (v := ?v16b) rfl (by kernel_rfl) (by kernel_rfl) (by kernel_rfl) (fun _ _ _ h => h) (Or.inl ⟨by rfl, ?hy16b⟩) (by assumption) ?rest16b
        case hy16b => ((intro w' hSw; (try dsimp only at hSw); go_simp) <;> with_reducible rfl)
        (try simp only [Act.put, List.setIfInBounds_toArray, List.set_cons_zero, List.set_cons_succ])
        refine wpAnyH_take (i := 17) (oi := { dst := some 155, op := Go.Op.convert 28 9 (Go.Operand.tmp 154), type := 9, pos := _, after := #[{ on := 16, ground := Go.Ground.data }, { on := 9, ground := Go.Ground.guard }], guard := some (9, true) }) (v := ?v17b) rfl (by kernel_rfl) (by kernel_rfl) (by kernel_rfl) (fun _ _ _ h => h) (Or.inl ⟨by rfl, ?hy17b⟩) (by assumption) ?rest17b
        case hy17b => ((intro w' hSw; (try dsimp only at hSw); go_simp) <;> with_reducible rfl)
        (try simp only [Act.put, List.setIfInBounds_toArray, List.set_cons_zero, List.set_cons_succ])
        refine wpAnyH_ready (rs := [11]) (by kernel_rfl) (by simp) ?_
        refine AllReadyH.cons (o := { dst := some 149, op := Go.Op.call { callee := Go.Callee.value (Go.Operand.func 12), args := #[Go.Operand.tmp 148, Go.Operand.const (Go.Value.int Go.IntKind.i64 5000)], argTypes := #[24, 3] }, type := 28, pos := _, after := #[{ on := 10, ground := Go.Ground.data }, { on := 9, ground := Go.Ground.chain }, { on := 9, ground := Go.Ground.guard }], guard := some (9, true) }) rfl (fun K hK => ?_) AllReadyH.nil
        go_simp
        refine (HPK.out _ hk6.2.1 hk6.2.2.1 hk6.2.2.2).mono ?_; rintro e w7 ⟨ua2, uc2, rfl, hj⟩; have cu2 := hj.1
        (try go_wp2_with fail)
        refine hK.out _ _ ?kp11b (fun hHeld => ?rest11b)
        case kp11b => exact hj.2.1
        clear hK K
        (try simp only [Act.put, List.setIfInBounds_toArray, List.set_cons_zero, List.set_cons_succ])
        refine wpAnyH_ready (rs := [12]) (by kernel_rfl) (by simp) ?_
        refine AllReadyH.cons (o := { dst := some 150, op := Go.Op.convert 28 9 (Go.Operand.tmp 149), type := 9, pos := _, after := #[{ on := 11, ground := Go.Ground.data }, { on := 9, ground := Go.Ground.guard }], guard := some (9, true) }) rfl (fun K hK => ?_) AllReadyH.nil
        go_simp
        refine hK.out _ _ ?kp12b (fun hHeld => ?rest12b)
        case kp12b => exact hj.2.1
        clear hK K
        (try simp only [Act.put, List.setIfInBounds_toArray, List.set_cons_zero, List.set_cons_succ])
        refine wpAnyH_take (i := 18) (oi := { dst := some 156, op := Go.Op.binOp Go.BinOp.eql 9 (Go.Operand.tmp 150) (Go.Operand.tmp 155) 9, type := 4, pos := _, after := #[{ on := 12, ground := Go.Ground.data }, { on := 17, ground := Go.Ground.data }, { on := 9, ground := Go.Ground.guard }], guard := some (9, true) }) (v := ?v18b) rfl (by kernel_rfl) (by kernel_rfl) (by kernel_rfl) (fun _ _ _ h => h) (Or.inl ⟨by rfl, ?hy18b⟩) (by assumption) ?rest18b
        case hy18b => ((intro w' hSw; (try dsimp only at hSw); go_simp) <;> with_reducible rfl)
        (try simp only [Act.put, List.setIfInBounds_toArray, List.set_cons_zero, List.set_cons_succ])
        refine wpAnyH_take (i := 19) (oi := { dst := some 157, op := Go.Op.pick (Go.Operand.tmp 147) (Go.Operand.tmp 156) (Go.Operand.const (Go.Value.bool false)), type := 4, pos := _, after := #[{ on := 9, ground := Go.Ground.data }, { on := 18, ground := Go.Ground.data }], guard := none }) (v := ?v19b) rfl (by kernel_rfl) (by kernel_rfl) (by kernel_rfl) (fun _ _ _ h => h) (Or.inl ⟨by rfl, ?hy19b⟩) (by assumption) ?rest19b
        case hy19b => ((intro w' hSw; (try dsimp only at hSw); go_simp) <;> with_reducible rfl)
        (try simp only [Act.put, List.setIfInBounds_toArray, List.set_cons_zero, List.set_cons_succ])
        refine wpAnyH_take (i := 20) (oi := { dst := some 6, op := Go.Op.assign (Go.Operand.tmp 157), type := 4, pos := _, after := #[{ on := 19, ground := Go.Ground.data }, { on := 11, ground := Go.Ground.chain }, { on := 0, ground := Go.Ground.phase }, { on := 1, ground := Go.Ground.phase }, { on := 2, ground := Go.Ground.phase }, { on := 3, ground := Go.Ground.phase }, { on := 4, ground := Go.Ground.phase }, { on := 5, ground := Go.Ground.phase }, { on := 6, ground := Go.Ground.phase }, { on := 7, ground := Go.Ground.phase }, { on := 8, ground := Go.Ground.phase }, { on := 9, ground := Go.Ground.phase }, { on := 10, ground := Go.Ground.phase }, { on := 11, ground := Go.Ground.phase }, { on := 12, ground := Go.Ground.phase }, { on := 13, ground := Go.Ground.phase }, { on := 14, ground := Go.Ground.phase }, { on := 15, ground := Go.Ground.phase }, { on := 16, ground := Go.Ground.phase }, { on := 17, ground := Go.Ground.phase }, { on := 18, ground := Go.Ground.phase }, { on := 19, ground := Go.Ground.phase }], guard := none }) (v := ?v20b) rfl (by kernel_rfl) (by kernel_rfl) (by kernel_rfl) (fun _ _ _ h => h) (Or.inl ⟨by rfl, ?hy20b⟩) (by assumption) ?rest20b
        case hy20b => ((intro w' hSw; (try dsimp only at hSw); go_simp) <;> with_reducible rfl)
        (try simp only [Act.put, List.setIfInBounds_toArray, List.set_cons_zero, List.set_cons_succ])
        refine wpAnyH_done (by kernel_rfl) ?_ _
        refine NoPanic.normal ?_
        have HBF := Lib.hid hj.2.2
        clear hj hk6
        go_wp2
        go_ret
        exact ⟨rfl, HBF.out⟩
end Go.Proofs.Ytbhipgiaifbpfaa
