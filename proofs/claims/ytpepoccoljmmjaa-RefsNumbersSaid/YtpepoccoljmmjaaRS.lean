/- The longest name: the document's answer. -/
import Derived.Test.YtpepoccoljmmjaaRR
import Derived.Test.YtpepoccoljmmjaaRP
set_option linter.unusedVariables false
namespace Go.Proofs.Ytpepoccoljmmjaa
open Go.RowKit Go.Shelf

theorem struct_cells (wr : World) (a b c d : Value) : (wr.alloc (.cells #[a, b, c, d] 44)).cell? ⟨wr.heap.size, 0, none⟩ = some a ∧ (wr.alloc (.cells #[a, b, c, d] 44)).cell? ⟨wr.heap.size, 1, none⟩ = some b ∧ (wr.alloc (.cells #[a, b, c, d] 44)).cell? ⟨wr.heap.size, 2, none⟩ = some c ∧ (wr.alloc (.cells #[a, b, c, d] 44)).cell? ⟨wr.heap.size, 3, none⟩ = some d := by
  have hb : (wr.alloc (.cells #[a, b, c, d] 44)).heap[wr.heap.size]? = some (.cells #[a, b, c, d] 44 (0, 0)) := by
    show (wr.heap.push _)[wr.heap.size]? = _; simp
  exact ⟨by rw [Lib.cell_of_heap hb]; rfl, by rw [Lib.cell_of_heap hb]; rfl, by rw [Lib.cell_of_heap hb]; rfl, by rw [Lib.cell_of_heap hb]; rfl⟩
theorem own_lit (l : Bs) (wx : World) (base : Nat) (hb : base ≤ wx.heap.size) (hl : l.length ≤ 4096) : OwnB (wx.alloc (.cells (Lib.byteCells l).toArray 5)) base (.slice (some ⟨wx.heap.size, 0, none⟩) l.length l.length) l := by
  refine ⟨by rw [Lib.byteCells_length]; omega, .inr ⟨wx.heap.size, l.length, (Lib.byteCells l).toArray, rfl, hb, ?_, Nat.le_refl _, by unfold maxLen; omega, by rw [List.size_toArray, Lib.byteCells_length]; omega, ?_⟩⟩
  · show (wx.heap.push _)[wx.heap.size]? = _; simp
  · rw [List.take_of_length_le]
    rw [Array.length_toList, List.size_toArray, Lib.byteCells_length]; omega
theorem tabN_len : tabN.length = 44 := by decide +kernel
theorem find_step (l : Bs) (k : Nat) (hk : k < 44) : ∃ (nme : Bs) (A B : Nat) (b : Bool), tabR[k]'hk = (nme, A, B, b) ∧ isChar (A : Nat) ∧ isChar (B : Nat) ∧ nme.length ≤ 13 ∧
    rfnd l (tabN.take (k + 1)) = rstep l (rfnd l (tabN.take k)) (nme, enc (A : Nat) ++ (if 0 < B then enc (B : Nat) else []), b) := by
  obtain ⟨nme, A, B, b, ht⟩ : ∃ nme A B b, tabR[k]'hk = (nme, A, B, b) := ⟨_, _, _, _, rfl⟩
  have hok := tabR_ok _ (List.getElem_mem (l := tabR) (n := k) hk)
  rw [ht] at hok
  simp only at hok
  have hc : ∀ n : Nat, isCharB n = true → isChar (n : Nat) := fun n h => by
    unfold isCharB at h
    simp only [Bool.or_eq_true, Bool.and_eq_true, decide_eq_true_eq] at h
    unfold isChar; omega
  refine ⟨nme, A, B, b, ht, hc _ hok.1, hc _ hok.2.1, hok.2.2, ?_⟩
  have hN : k < tabN.length := by rw [tabN_len]; exact hk
  rw [List.take_succ_eq_append_getElem hN, rfnd_snoc]
  congr 1
  have hk' : k < tabR.length := hk
  have h2 : tabR[k]? = some (nme, A, B, b) := by rw [List.getElem?_eq_getElem hk']; exact congrArg some ht
  have := congrArg (·[k]?) tabR_is
  simp only [List.getElem?_map, h2] at this
  rw [List.getElem?_eq_getElem hN] at this
  exact Option.some.inj this
theorem ret_si2 {a : ByteArray} {n : Int} {F : Bs × Nat} (h : a = bs F.1) (h2 : n = (F.2 : Nat)) : Ending.returned (.tuple #[.string a, .int .i64 n]) = .returned (.tuple #[.string (bs F.1), .int .i64 (F.2 : Nat)]) := by rw [h, h2]
theorem conv_own {w : World} {base : Nat} {v : Value} {l : Bs} (h : OwnB w base v l) : ∃ a c, v = .slice a l.length c ∧ Src w a c l ∧ (convert 33 9 (.slice a l.length c)).run Try.prog w = .ok (.string (bs l)) w := by
  obtain ⟨a, c, hv, _, hs⟩ := own_src h
  exact ⟨a, c, hv, hs, conv_src w a c l hs⟩

set_option maxRecDepth 10000 in
set_option maxHeartbeats 8000000 in
theorem rfind_any (X : ByteArray) (w : World) (hs : X.size ≤ 4611686018427387904) :
    Calls Try.prog 14 #[.string X] w fun e w' => e = .returned (.tuple #[.string (bs (fnd X.data.toList).1), .int .i64 ((fnd X.data.toList).2 : Nat)]) ∧ Below w.heap.size w w' := by
  have hnm := fun wx => names_any wx
  have hbeg : ∀ (P : ByteArray) (wx : World), P.size ≤ 9223372036854775807 → Calls Try.prog 31 #[.string X, .string P] wx fun e w' => e = .returned (.bool (Lib.hasPrefix X.data.toList P.data.toList)) ∧ wx = w' := fun P wx h => rbeg_any X P wx (by omega) h
  obtain ⟨l, hl⟩ : ∃ l, l = X.data.toList := ⟨_, rfl⟩
  rw [← hl] at hbeg ⊢
  have hfin : rfnd l (tabN.take 44) = fnd l := by rw [List.take_of_length_le (by rw [tabN_len]; omega)]; exact rfnd_fnd l
  rw [← hfin]
  have hstep := find_step l
  have hbyt : ∀ (n : Int) wx, isChar n → Calls Try.prog 26 #[.int .i64 n] wx fun e w' => e = .returned (.slice (some ⟨wx.heap.size, 0, none⟩) (enc n).length (enc n).length) ∧ w' = wx.alloc (.cells (Lib.byteCells (enc n)).toArray 5) := fun n wx h => bytes_any n h wx
  obtain ⟨RF, hRF⟩ : ∃ f : Nat → Bs × Nat, f = fun k => rfnd l (tabN.take k) := ⟨_, rfl⟩
  have e1 : ∀ k, rfnd l (tabN.take k) = RF k := fun k => by rw [hRF]
  simp only [e1] at hstep ⊢
  have h0 : RF 0 = ([], 0) := by rw [hRF]; rfl
  have hcell : ∀ wr, Below (w.heap.size + 1) (w.alloc (.cells tabCells 44)) wr → ∀ k (hk : k < 44), wr.cell? ⟨w.heap.size, k * 4, none⟩ = some (.string (bs (tabR[k]'hk).1)) ∧ wr.cell? ⟨w.heap.size, k * 4 + 1, none⟩ = some (.int .i64 ((tabR[k]'hk).2.1 : Nat)) ∧ wr.cell? ⟨w.heap.size, k * 4 + 2, none⟩ = some (.int .i64 ((tabR[k]'hk).2.2.1 : Nat)) ∧ wr.cell? ⟨w.heap.size, k * 4 + 3, none⟩ = some (.bool (tabR[k]'hk).2.2.2) := fun wr hb k hk => by
    have key : ∀ o, wr.cell? ⟨w.heap.size, o, none⟩ = (w.alloc (.cells tabCells 44)).cell? ⟨w.heap.size, o, none⟩ := fun o => hb.cell (p := ⟨w.heap.size, o, none⟩) (by show w.heap.size < _; omega)
    have t : ∀ j, j < 4 → (w.alloc (.cells tabCells 44)).cell? ⟨w.heap.size, k * 4 + j, none⟩ = (rowCells (tabR[k]'hk))[j]? := fun j hj => by rw [show k * 4 + j = 4 * k + j by omega]; exact tab_at w k j hk hj
    exact ⟨(key _).trans (t 0 (by omega)), (key _).trans (t 1 (by omega)), (key _).trans (t 2 (by omega)), (key _).trans (t 3 (by omega))⟩
  have hb1 : Below w.heap.size w (w.alloc (.cells tabCells 44)) := (Below.refl _ _).alloc (Nat.le_refl _) _
  have HNM := Lib.hid hnm
  have HBEG := Lib.hid hbeg
  have HST := Lib.hid hstep
  have HBY := Lib.hid hbyt
  have HC := Lib.hid hcell
  have H0 := Lib.hid h0
  have HB1 := Lib.hid hb1
  clear hnm hbeg hstep hbyt hcell h0 hb1 hfin hl hRF e1
  go_enter Try.func14, Try.ntmps14
  go_wp2_with fail
  refine (HNM.out _).mono ?_; rintro e w1 ⟨rfl, hw1⟩
  rw [← hw1] at HC HB1
  have hsz1 : w1.heap.size = w.heap.size + 1 := by rw [hw1]; simp
  clear hw1 HNM
  go_wp2_with fail
  go_loopw [4, 5, 7] (fun o n i wr => ∃ k : Nat, k ≤ 44 ∧ i = .int .i64 k ∧ o = .string (bs (RF k).1) ∧ n = .int .i64 ((RF k).2 : Nat) ∧ Below w1.heap.size w1 wr ∧ Below w.heap.size w wr) (fun _ _ i _ => 44 - (intOf i).toNat)
  case atStart => exact ⟨0, by omega, rfl, by rw [H0.out]; rfl, by rw [H0.out]; rfl, Below.refl _ _, HB1.out⟩
  case round =>
    obtain ⟨k, hk, rfl, rfl, rfl, hbx, hb⟩ := hrel
    by_cases hlt : k < 44
    · obtain ⟨nme, A, B, b, ht, hA, hB, hn13, hst⟩ := HST.out k hlt
      obtain ⟨c0, c1, c2, c3⟩ := HC.out wr (by rw [← hsz1]; exact hbx) k hlt
      rw [ht] at c0 c1 c2 c3
      simp only at c0 c1 c2 c3
      obtain ⟨N, hN⟩ : ∃ N, N = bs nme := ⟨_, rfl⟩
      have hNl : N.data.toList = nme := by rw [hN]; exact data_mk _
      have hNs : N.size = nme.length := by rw [← len_data, hNl]
      have hz : (N ++ (⟨#[59]⟩ : ByteArray)).size = N.size + 1 := cat_size _ _
      have hp1 := fun wx => HBEG.out (N ++ (⟨#[59]⟩ : ByteArray)) wx (by omega)
      have hp2 := fun wx => HBEG.out N wx (by omega)
      rw [cat_list, hNl, show (⟨#[59]⟩ : ByteArray).data.toList = [59] from rfl] at hp1
      rw [hNl] at hp2
      rw [← hN] at c0
      obtain ⟨s0, s1, s2, s3⟩ := struct_cells wr (.string N) (.int .i64 (A : Nat)) (.int .i64 (B : Nat)) (.bool b)
      have hbS : Below wr.heap.size wr (wr.alloc (.cells #[.string N, .int .i64 (A : Nat), .int .i64 (B : Nat), .bool b] 44)) := (Below.refl _ _).alloc (Nat.le_refl _) _
      have hszS : (wr.alloc (.cells #[.string N, .int .i64 (A : Nat), .int .i64 (B : Nat), .bool b] 44)).heap.size = wr.heap.size + 1 := by simp
      unfold rstep rk at hst
      simp only [← hNs] at hst
      generalize Lib.hasPrefix l (nme ++ [59]) = b1 at hp1 hst
      generalize Lib.hasPrefix l nme = b2 at hp2 hst
      obtain ⟨O, hO⟩ : ∃ O, O = bs (RF k).1 := ⟨_, rfl⟩
      obtain ⟨m, hm⟩ : ∃ m, m = (RF k).2 := ⟨_, rfl⟩
      rw [← hO, ← hm]
      rw [← hm] at hst
      have hNz : N.size ≤ 13 := by omega
      have HBX := Lib.hid hbx
      have HB := Lib.hid hb
      have HP1 := Lib.hid hp1
      have HP2 := Lib.hid hp2
      have HO := Lib.hid hO
      have HM := Lib.hid hm
      have HS := Lib.hid (⟨s0, s1, s2, s3⟩ : _ ∧ _ ∧ _ ∧ _)
      have HBS := Lib.hid hbS
      have HSZ := Lib.hid hszS
      have HA := Lib.hid hA
      have HBc := Lib.hid hB
      have hk0 : (0:Int) ≤ (k:Int) := by omega
      have hk1 : (k:Int) < 44 := by omega
      have hml : (A : Int) ≤ 1114111 := by unfold isChar at hA; omega
      have hBl : (B : Int) ≤ 1114111 := by unfold isChar at hB; omega
      clear hbx hb hp1 hp2 hO hm s0 s1 s2 s3 hbS hszS hA hB hN hNl hNs hn13 ht
      cases b1
      rotate_left
      · by_cases hmk : m < N.size + 1
        · have hmk' : (m : Int) < (N.size : Int) + 1 := by omega
          by_cases hB0 : 0 < B
          · have hB0' : (0 : Int) < (B : Int) := by omega
            have HV : Hid (RF (k + 1) = (enc (A : Nat) ++ enc (B : Nat), N.size + 1)) := Lib.hid (by rw [hst]; simp [hmk, hB0])
            clear hst
            go_wp2_with fail
            refine (HP1.out _).mono ?_; rintro e w2 ⟨rfl, rfl⟩
            go_wp2_with fail
            refine (HBY.out _ _ HA.out).mono ?_; rintro e w2 ⟨rfl, hw2⟩
            have hE1 := (enc_len (A : Nat)).2
            have hE2 := (enc_len (B : Nat)).2
            have hbW : Below (wr.heap.size + 1) (wr.alloc (.cells #[.string N, .int .i64 (A : Nat), .int .i64 (B : Nat), .bool b] 44)) w2 := by rw [hw2, ← HSZ.out]; exact (Below.refl _ _).alloc (Nat.le_refl _) _
            have hs2 := (hbW.cell (p := ⟨wr.heap.size, 2, none⟩) (by show wr.heap.size < _; omega)).trans HS.out.2.2.1
            have ho : OwnB w2 w1.heap.size (.slice (some ⟨(wr.alloc (.cells #[.string N, .int .i64 (A : Nat), .int .i64 (B : Nat), .bool b] 44)).heap.size, 0, none⟩) (enc (A : Nat)).length (enc (A : Nat)).length) (enc (A : Nat)) := by rw [hw2]; exact own_lit _ _ _ (by rw [HSZ.out]; have := HBX.out.size; omega) (by omega)
            have hwb : Below wr.heap.size wr w2 := HBS.out.trans (hbW.mono (by omega))
            rw [HSZ.out] at ho
            clear hw2 hbW
            obtain ⟨EA, hEA⟩ : ∃ E, E = enc (A : Nat) := ⟨_, rfl⟩
            rw [← hEA] at ho hE1 HV
            rw [← hEA]
            obtain ⟨ea, hea⟩ : ∃ n, n = EA.length := ⟨_, rfl⟩
            rw [← hea] at hE1
            have HO2 := Lib.hid ho
            have HWB := Lib.hid hwb
            have HEA := Lib.hid hEA
            have HEL := Lib.hid hea
            clear ho hwb hEA hea
            go_wp2_with fail
            refine (HBY.out _ _ HBc.out).mono ?_; rintro e w3 ⟨rfl, hw3⟩
            have hb23 : Below w2.heap.size w2 w3 := by rw [hw3]; exact (Below.refl _ _).alloc (Nat.le_refl _) _
            have HSB : Hid (Src w3 (some ⟨w2.heap.size, 0, none⟩) (enc (B : Nat)).length (enc (B : Nat))) := Lib.hid (by rw [hw3]; exact lit_src _ _ (by omega))
            have HO3 : Hid (OwnB w3 w1.heap.size _ EA) := Lib.hid (by rw [hw3]; exact World.ownsRow.alloc HO2.out _)
            have HW3 : Hid (Below wr.heap.size wr w3) := Lib.hid (HWB.out.trans (hb23.mono HWB.out.size))
            have HZ3 : Hid (w1.heap.size ≤ w3.heap.size) := Lib.hid (Nat.le_trans HBX.out.size HW3.out.size)
            clear hw3 hb23 hs2
            obtain ⟨EB, hEB⟩ : ∃ E, E = enc (B : Nat) := ⟨_, rfl⟩
            rw [← hEB] at HSB hE2 HV
            rw [← hEB]
            have HEB := Lib.hid hEB
            clear hEB
            go_wp2_with (at_builtin; refine app_bytes rfl _ _ rfl w1.heap.size _ EA rfl HO3.out _ EB.length _ EB rfl rfl HSB.out ?n2 HZ3.out ?_)
            case n2 => have := HEL.out; omega
            intro v4 w4 hown4 hb4 hgr
            obtain ⟨a5, c5, rfl, hs5, hcv5⟩ := conv_own hown4
            have HB4 : Hid (Below w.heap.size w w4) := Lib.hid ((HB.out.trans (HW3.out.mono HB.out.size)).trans (hb4.out.mono (by omega)))
            have HBX4 : Hid (Below w1.heap.size w1 w4) := Lib.hid ((HBX.out.trans (HW3.out.mono HBX.out.size)).trans (by rw [hsz1]; exact hb4.out))
            clear hown4 hb4 hs5
            obtain ⟨EC, hEC⟩ : ∃ E, E = EA ++ EB := ⟨_, rfl⟩
            rw [← hEC] at hcv5 HV
            rw [← hEC]
            clear hEC
            generalize EC.length = ec at hcv5
            go_wp2
            go_roundw
            case rel => exact ⟨k + 1, by omega, by go_num, by rw [HV.out], by rw [HV.out]; try (first | rfl | (simp only; omega) | go_num), HBX4.out, HB4.out⟩
            case measure => simp [intOf]; omega
          · have hB0' : (B : Int) ≤ 0 := by omega
            have HV : Hid (RF (k + 1) = (enc (A : Nat), N.size + 1)) := Lib.hid (by rw [hst]; simp [hmk, hB0])
            clear hst
            go_wp2_with fail
            refine (HP1.out _).mono ?_; rintro e w2 ⟨rfl, rfl⟩
            go_wp2_with fail
            refine (HBY.out _ _ HA.out).mono ?_; rintro e w2 ⟨rfl, hw2⟩
            have hE1 := (enc_len (A : Nat)).2
            have hbW : Below (wr.heap.size + 1) (wr.alloc (.cells #[.string N, .int .i64 (A : Nat), .int .i64 (B : Nat), .bool b] 44)) w2 := by rw [hw2, ← HSZ.out]; exact (Below.refl _ _).alloc (Nat.le_refl _) _
            have hs2 := (hbW.cell (p := ⟨wr.heap.size, 2, none⟩) (by show wr.heap.size < _; omega)).trans HS.out.2.2.1
            have hcv : (convert 33 9 (.slice (some ⟨(wr.alloc (.cells #[.string N, .int .i64 (A : Nat), .int .i64 (B : Nat), .bool b] 44)).heap.size, 0, none⟩) (enc (A : Nat)).length (enc (A : Nat)).length)).run Try.prog w2 = .ok (.string (bs (enc (A : Nat)))) w2 := by rw [hw2]; exact src_lit _
            have hwb : Below wr.heap.size wr w2 := HBS.out.trans (hbW.mono (by omega))
            have HB4 : Hid (Below w.heap.size w w2) := Lib.hid (HB.out.trans (hwb.mono HB.out.size))
            have HBX4 : Hid (Below w1.heap.size w1 w2) := Lib.hid (HBX.out.trans (hwb.mono HBX.out.size))
            clear hw2 hbW hwb
            obtain ⟨EA, hEA⟩ : ∃ E, E = enc (A : Nat) := ⟨_, rfl⟩
            rw [← hEA] at hcv HV
            rw [← hEA]
            clear hEA hE1
            generalize EA.length = ea at hcv
            simp only [HSZ.out] at hcv
            go_wp2
            go_roundw
            case rel => exact ⟨k + 1, by omega, by go_num, by rw [HV.out], by rw [HV.out]; try (first | rfl | (simp only; omega) | go_num), HBX4.out, HB4.out⟩
            case measure => simp [intOf]; omega
        · have hmk' : (N.size : Int) + 1 ≤ (m : Int) := by omega
          have HV : Hid (RF (k + 1) = RF k) := Lib.hid (by rw [hst]; simp [hmk])
          clear hst
          go_wp2_with fail
          refine (HP1.out _).mono ?_; rintro e w2 ⟨rfl, rfl⟩
          go_wp2
          go_roundw
          case rel => exact ⟨k + 1, by omega, by go_num, by rw [HV.out]; exact congrArg Value.string HO.out, by rw [HV.out, HM.out], HBX.out.trans (HBS.out.mono HBX.out.size), HB.out.trans (HBS.out.mono HB.out.size)⟩
          case measure => simp [intOf]; omega
      cases b
      · have HV : Hid (RF (k + 1) = RF k) := Lib.hid (by rw [hst]; first | rfl | (simp; done) | (simp; omega))
        clear hst
        go_wp2_with fail
        refine (HP1.out _).mono ?_; rintro e w2 ⟨rfl, rfl⟩
        go_wp2
        go_roundw
        case rel => exact ⟨k + 1, by omega, by go_num, by rw [HV.out]; exact congrArg Value.string HO.out, by rw [HV.out, HM.out], HBX.out.trans (HBS.out.mono HBX.out.size), HB.out.trans (HBS.out.mono HB.out.size)⟩
        case measure => simp [intOf]; omega
      cases b2
      · have HV : Hid (RF (k + 1) = RF k) := Lib.hid (by rw [hst]; first | rfl | (simp; done) | (simp; omega))
        clear hst
        go_wp2_with fail
        refine (HP1.out _).mono ?_; rintro e w2 ⟨rfl, rfl⟩
        go_wp2_with fail
        refine (HP2.out _).mono ?_; rintro e w2 ⟨rfl, rfl⟩
        go_wp2
        go_roundw
        case rel => exact ⟨k + 1, by omega, by go_num, by rw [HV.out]; exact congrArg Value.string HO.out, by rw [HV.out, HM.out], HBX.out.trans (HBS.out.mono HBX.out.size), HB.out.trans (HBS.out.mono HB.out.size)⟩
        case measure => simp [intOf]; omega
      · by_cases hmk : m < N.size
        · have hmk' : (m : Int) < (N.size : Int) := by omega
          by_cases hB0 : 0 < B
          · have hB0' : (0 : Int) < (B : Int) := by omega
            have HV : Hid (RF (k + 1) = (enc (A : Nat) ++ enc (B : Nat), N.size)) := Lib.hid (by rw [hst]; simp [hmk, hB0])
            clear hst
            go_wp2_with fail
            refine (HP1.out _).mono ?_; rintro e w2 ⟨rfl, rfl⟩
            go_wp2_with fail
            refine (HP2.out _).mono ?_; rintro e w2 ⟨rfl, rfl⟩
            go_wp2_with fail
            refine (HBY.out _ _ HA.out).mono ?_; rintro e w2 ⟨rfl, hw2⟩
            have hE1 := (enc_len (A : Nat)).2
            have hE2 := (enc_len (B : Nat)).2
            have hbW : Below (wr.heap.size + 1) (wr.alloc (.cells #[.string N, .int .i64 (A : Nat), .int .i64 (B : Nat), .bool true] 44)) w2 := by rw [hw2, ← HSZ.out]; exact (Below.refl _ _).alloc (Nat.le_refl _) _
            have hs2 := (hbW.cell (p := ⟨wr.heap.size, 2, none⟩) (by show wr.heap.size < _; omega)).trans HS.out.2.2.1
            have ho : OwnB w2 w1.heap.size (.slice (some ⟨(wr.alloc (.cells #[.string N, .int .i64 (A : Nat), .int .i64 (B : Nat), .bool true] 44)).heap.size, 0, none⟩) (enc (A : Nat)).length (enc (A : Nat)).length) (enc (A : Nat)) := by rw [hw2]; exact own_lit _ _ _ (by rw [HSZ.out]; have := HBX.out.size; omega) (by omega)
            have hwb : Below wr.heap.size wr w2 := HBS.out.trans (hbW.mono (by omega))
            rw [HSZ.out] at ho
            clear hw2 hbW
            obtain ⟨EA, hEA⟩ : ∃ E, E = enc (A : Nat) := ⟨_, rfl⟩
            rw [← hEA] at ho hE1 HV
            rw [← hEA]
            obtain ⟨ea, hea⟩ : ∃ n, n = EA.length := ⟨_, rfl⟩
            rw [← hea] at hE1
            have HO2 := Lib.hid ho
            have HWB := Lib.hid hwb
            have HEA := Lib.hid hEA
            have HEL := Lib.hid hea
            clear ho hwb hEA hea
            go_wp2_with fail
            refine (HBY.out _ _ HBc.out).mono ?_; rintro e w3 ⟨rfl, hw3⟩
            have hb23 : Below w2.heap.size w2 w3 := by rw [hw3]; exact (Below.refl _ _).alloc (Nat.le_refl _) _
            have HSB : Hid (Src w3 (some ⟨w2.heap.size, 0, none⟩) (enc (B : Nat)).length (enc (B : Nat))) := Lib.hid (by rw [hw3]; exact lit_src _ _ (by omega))
            have HO3 : Hid (OwnB w3 w1.heap.size _ EA) := Lib.hid (by rw [hw3]; exact World.ownsRow.alloc HO2.out _)
            have HW3 : Hid (Below wr.heap.size wr w3) := Lib.hid (HWB.out.trans (hb23.mono HWB.out.size))
            have HZ3 : Hid (w1.heap.size ≤ w3.heap.size) := Lib.hid (Nat.le_trans HBX.out.size HW3.out.size)
            clear hw3 hb23 hs2
            obtain ⟨EB, hEB⟩ : ∃ E, E = enc (B : Nat) := ⟨_, rfl⟩
            rw [← hEB] at HSB hE2 HV
            rw [← hEB]
            have HEB := Lib.hid hEB
            clear hEB
            go_wp2_with (at_builtin; refine app_bytes rfl _ _ rfl w1.heap.size _ EA rfl HO3.out _ EB.length _ EB rfl rfl HSB.out ?n2 HZ3.out ?_)
            case n2 => have := HEL.out; omega
            intro v4 w4 hown4 hb4 hgr
            obtain ⟨a5, c5, rfl, hs5, hcv5⟩ := conv_own hown4
            have HB4 : Hid (Below w.heap.size w w4) := Lib.hid ((HB.out.trans (HW3.out.mono HB.out.size)).trans (hb4.out.mono (by omega)))
            have HBX4 : Hid (Below w1.heap.size w1 w4) := Lib.hid ((HBX.out.trans (HW3.out.mono HBX.out.size)).trans (by rw [hsz1]; exact hb4.out))
            clear hown4 hb4 hs5
            obtain ⟨EC, hEC⟩ : ∃ E, E = EA ++ EB := ⟨_, rfl⟩
            rw [← hEC] at hcv5 HV
            rw [← hEC]
            clear hEC
            generalize EC.length = ec at hcv5
            go_wp2
            go_roundw
            case rel => exact ⟨k + 1, by omega, by go_num, by rw [HV.out], by rw [HV.out]; try (first | rfl | (simp only; omega) | go_num), HBX4.out, HB4.out⟩
            case measure => simp [intOf]; omega
          · have hB0' : (B : Int) ≤ 0 := by omega
            have HV : Hid (RF (k + 1) = (enc (A : Nat), N.size)) := Lib.hid (by rw [hst]; simp [hmk, hB0])
            clear hst
            go_wp2_with fail
            refine (HP1.out _).mono ?_; rintro e w2 ⟨rfl, rfl⟩
            go_wp2_with fail
            refine (HP2.out _).mono ?_; rintro e w2 ⟨rfl, rfl⟩
            go_wp2_with fail
            refine (HBY.out _ _ HA.out).mono ?_; rintro e w2 ⟨rfl, hw2⟩
            have hE1 := (enc_len (A : Nat)).2
            have hbW : Below (wr.heap.size + 1) (wr.alloc (.cells #[.string N, .int .i64 (A : Nat), .int .i64 (B : Nat), .bool true] 44)) w2 := by rw [hw2, ← HSZ.out]; exact (Below.refl _ _).alloc (Nat.le_refl _) _
            have hs2 := (hbW.cell (p := ⟨wr.heap.size, 2, none⟩) (by show wr.heap.size < _; omega)).trans HS.out.2.2.1
            have hcv : (convert 33 9 (.slice (some ⟨(wr.alloc (.cells #[.string N, .int .i64 (A : Nat), .int .i64 (B : Nat), .bool true] 44)).heap.size, 0, none⟩) (enc (A : Nat)).length (enc (A : Nat)).length)).run Try.prog w2 = .ok (.string (bs (enc (A : Nat)))) w2 := by rw [hw2]; exact src_lit _
            have hwb : Below wr.heap.size wr w2 := HBS.out.trans (hbW.mono (by omega))
            have HB4 : Hid (Below w.heap.size w w2) := Lib.hid (HB.out.trans (hwb.mono HB.out.size))
            have HBX4 : Hid (Below w1.heap.size w1 w2) := Lib.hid (HBX.out.trans (hwb.mono HBX.out.size))
            clear hw2 hbW hwb
            obtain ⟨EA, hEA⟩ : ∃ E, E = enc (A : Nat) := ⟨_, rfl⟩
            rw [← hEA] at hcv HV
            rw [← hEA]
            clear hEA hE1
            generalize EA.length = ea at hcv
            simp only [HSZ.out] at hcv
            go_wp2
            go_roundw
            case rel => exact ⟨k + 1, by omega, by go_num, by rw [HV.out], by rw [HV.out]; try (first | rfl | (simp only; omega) | go_num), HBX4.out, HB4.out⟩
            case measure => simp [intOf]; omega
        · have hmk' : (N.size : Int) ≤ (m : Int) := by omega
          have HV : Hid (RF (k + 1) = RF k) := Lib.hid (by rw [hst]; simp [hmk])
          clear hst
          go_wp2_with fail
          refine (HP1.out _).mono ?_; rintro e w2 ⟨rfl, rfl⟩
          go_wp2_with fail
          refine (HP2.out _).mono ?_; rintro e w2 ⟨rfl, rfl⟩
          go_wp2
          go_roundw
          case rel => exact ⟨k + 1, by omega, by go_num, by rw [HV.out]; exact congrArg Value.string HO.out, by rw [HV.out, HM.out], HBX.out.trans (HBS.out.mono HBX.out.size), HB.out.trans (HBS.out.mono HB.out.size)⟩
          case measure => simp [intOf]; omega
    · obtain rfl : k = 44 := by omega
      have HB := Lib.hid hb
      clear hb hbx
      go_wp2
      go_ret2
      exact ⟨rfl, HB.out⟩
end Go.Proofs.Ytpepoccoljmmjaa
