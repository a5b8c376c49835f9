/- NumBack: for every int64 and every int the law's function returns true. No condition, but the three library tables that the card ties to the program's text. -/
import Derived.Test.YtlgoalhcllgkcaaDoorNC
namespace Go.Proofs.YtlgoalhcllgkcaaDoor
open Go.ChangeShapes Go.WideShapes Go.ChangeAt Go.RowKit
open Go.ChangeMaps (open_string shut_string)

theorem lt_of_cell {w : World} {B i : Nat} {v : Value} (h : w.cell? ⟨B, i, none⟩ = some v) : B < w.heap.size := by
  rcases Nat.lt_or_ge B w.heap.size with h' | h'
  · exact h'
  · unfold World.cell? at h
    rw [Array.getElem?_eq_none h'] at h
    simp at h
theorem app_list2 (s x : ByteArray) : (s ++ x).data.toList = s.data.toList ++ x.data.toList := by simp

set_option maxHeartbeats 1000000 in
theorem numBack_neg (n noughts : Int) (hn : n < 0) (w : World) (ht : Tabs2 w) :
    Calls Tryd.prog 5 #[.int .i64 n, .int .i64 noughts] w fun e w' => e = .returned (.bool true) ∧ Below w.heap.size w w' := by
  have H0 := Lib.hid ht
  clear ht
  go_enter Tryd.func5, Tryd.ntmps5
  go_wp2_with fail
  refine (shown_any _ H0.out.t).mono ?_; rintro e w1 ⟨rfl, hb⟩
  have B1 := Lib.hid hb; clear hb
  go_wp2_with fail
  refine (digits_neg n hn _).mono ?_; rintro e w2 ⟨rfl, rfl⟩
  go_wp2_with fail
  refine (hexes_neg n hn _).mono ?_; rintro e w2 ⟨rfl, rfl⟩
  go_wp2
  go_ret
  exact ⟨rfl, B1.out⟩

set_option maxHeartbeats 2000000 in
theorem numBack_pos (n : Nat) (noughts : Int) (hn : n < 9223372036854775808) (w : World) (ht : Tabs2 w) :
    Calls Tryd.prog 5 #[.int .i64 n, .int .i64 noughts] w fun e w' => e = .returned (.bool true) ∧ Below w.heap.size w w' := by
  have H0 := Lib.hid ht
  clear ht
  go_enter Tryd.func5, Tryd.ntmps5
  go_wp2_with fail
  refine (shown_any _ H0.out.t).mono ?_; rintro e w1 ⟨rfl, hb⟩
  have H1 := Lib.hid (H0.out.below hb); have B1 := Lib.hid hb; clear hb
  go_wp2_with fail
  go_loop [6, 7] (fun z i => ∃ (k : Nat) (Z : ByteArray), k ≤ 40 ∧ i = .int .i64 k ∧ z = .string Z ∧ Z.data.toList = List.replicate k 48) (fun _ i => 40 - (intOf i).toNat)
  case atStart => exact ⟨0, _, by omega, rfl, rfl, rfl⟩
  case round =>
    obtain ⟨k, Z, hk, rfl, rfl, hZ⟩ := hrel
    have hZs : Z.size ≤ 40 := by
      have : Z.size = Z.data.toList.length := by simp
      rw [this, hZ]; simp; exact hk
    have HZ := Lib.hid hZ
    clear hZ
    by_cases hgo : (k : Int) < noughts ∧ k < 40
    · obtain ⟨hg1, hg2⟩ := hgo
      go_wp2
      go_round
      case rel => exact ⟨k + 1, _, by omega, by go_num, rfl, by rw [app_list2, HZ.out, List.replicate_succ']⟩
      case measure => simp [intOf]; omega
    · have hcase : noughts ≤ (k : Int) ∨ (((k : Int) < noughts) ∧ ¬ k < 40) := by omega
      clear hgo
      rcases hcase with hc1 | ⟨hc1, hc2⟩
      all_goals
        go_wp2_with fail
        refine (hexes_any n hn _ H1.out.t).mono ?_; rintro e w2 ⟨rfl, hb⟩
        have H2 := Lib.hid (H1.out.below hb); have B2 := Lib.hid (B1.out.trans (hb.mono B1.out.size)); clear hb
        have hLen := hexl_len n 15 (by omega)
        obtain ⟨L, hL⟩ : ∃ L, L = hexl n := ⟨_, rfl⟩
        rw [← hL] at hLen
        rw [← hL]
        have HL := Lib.hid hL
        clear hL
        have hcv := run_bytes_of_string (P := Tryd.prog) w2 9 29 5 ⟨L.toArray⟩ Tryd.underlying9 Tryd.underlying29 Tryd.underlying5
        rw [show (ByteArray.mk L.toArray).size = L.length from by show L.toArray.size = _; simp] at hcv
        have hrow := BRow.start w2 ⟨L.toArray⟩ (grownCap w2 L.length 0 5)
        rw [show (ByteArray.mk L.toArray).data.toList = L from by simp] at hrow
        have hbel : Below w2.heap.size w2 (w2.drew.alloc (.cells (bytesRow ⟨L.toArray⟩ (grownCap w2 L.length 0 5)) 5 ((bytesRow ⟨L.toArray⟩ (grownCap w2 L.length 0 5)).size, (bytesRow ⟨L.toArray⟩ (grownCap w2 L.length 0 5)).size + 1))) := ((Below.refl _ _).drew).alloc (Nat.le_refl _) _
        generalize w2.drew.alloc (.cells (bytesRow ⟨L.toArray⟩ (grownCap w2 L.length 0 5)) 5 ((bytesRow ⟨L.toArray⟩ (grownCap w2 L.length 0 5)).size, (bytesRow ⟨L.toArray⟩ (grownCap w2 L.length 0 5)).size + 1)) = W3 at hcv hrow hbel
        generalize grownCap w2 L.length 0 5 = cap at hcv
        have H3 := Lib.hid (H2.out.below hbel)
        have B3 := Lib.hid (B2.out.trans (hbel.mono B2.out.size))
        have hBs : w.heap.size ≤ w2.heap.size := B2.out.size
        generalize w2.heap.size = B at hcv hrow hBs
        have HR := Lib.hid hrow
        clear hrow hbel
        go_wp2
        clear hcv
        go_loopw [9] (fun i wr => ∃ (j : Nat), j ≤ L.length ∧ i = .int .i64 j ∧ BRow B wr (upTo L j) ∧ Tabs2 wr ∧ Below w.heap.size w wr) (fun i _ => L.length - (intOf i).toNat)
        case atStart => exact ⟨0, by omega, rfl, by have := HR.out; simpa [upTo] using this, H3.out, B3.out⟩
        case round =>
          obtain ⟨j, hj, rfl, hR, hT, hb⟩ := hrel
          by_cases hlt : j < L.length
          · obtain ⟨c, hc⟩ : ∃ c, c = L[j] := ⟨_, rfl⟩
            have hjU : j < (upTo L j).length := by rw [upTo_len]; exact hlt
            have hcell := (hR j hjU).1
            have hfrz := (hR j hjU).2
            rw [upTo_at L j hlt, ← hc] at hcell
            have hstep := upTo_step L j hlt
            rw [← hc] at hstep
            obtain ⟨x, hx⟩ : ∃ x : Int, x = (c.toNat : Int) := ⟨_, rfl⟩
            have hx0 : 0 ≤ x := by omega
            have hx1 : x ≤ 255 := by have := c.toNat_lt; omega
            rw [← hx] at hcell
            have hup : 97 ≤ x → x ≤ 102 → ((up c).toNat : Int) = x - 97 + 65 := fun h1 h2 => by
              unfold up; rw [if_pos (by omega), UInt8.toNat_ofNat']; omega
            have hno : ¬ (97 ≤ x ∧ x ≤ 102) → up c = c := fun h => by unfold up; rw [if_neg (by omega)]
            have hsame : ¬ (97 ≤ x ∧ x ≤ 102) → upTo L (j + 1) = upTo L j := fun h => by
              rw [hstep, hno h, hc, ← upTo_at L j hlt]; simp
            have hset : 97 ≤ x → x ≤ 102 → BRow B (wr.setCell ⟨B, j, none⟩ (.int .u8 (x - 97 + 65))) (upTo L (j + 1)) := fun h1 h2 => by
              rw [hstep, ← hup h1 h2]; exact hR.set j hjU (up c)
            have hbs : Below w.heap.size w (wr.setCell ⟨B, j, none⟩ (.int .u8 (x - 97 + 65))) := hb.setCell (p := ⟨B, j, none⟩) hBs _
            have hts : Tabs2 (wr.setCell ⟨B, j, none⟩ (.int .u8 (x - 97 + 65))) := H0.out.below hbs
            have K1 := Lib.hid hsame
            have K2 := Lib.hid hset
            have K3 := Lib.hid hbs
            have K4 := Lib.hid hts
            have K5 := Lib.hid hR
            have K6 := Lib.hid hT
            have K7 := Lib.hid hb
            clear hstep hup hno hsame hset hbs hts hR hT hb hc hx
            by_cases h97 : 97 ≤ x
            · by_cases h102 : x ≤ 102
              · go_wp2
                go_roundw
                case rel => exact ⟨j + 1, by omega, by go_num, K2.out h97 h102, K4.out, K3.out⟩
                case measure => simp [intOf]; omega
              · go_wp2
                go_roundw
                case rel => exact ⟨j + 1, by omega, by go_num, by rw [K1.out (by omega)]; exact K5.out, K6.out, K7.out⟩
                case measure => simp [intOf]; omega
            · go_wp2
              go_roundw
              case rel => exact ⟨j + 1, by omega, by go_num, by rw [K1.out (by omega)]; exact K5.out, K6.out, K7.out⟩
              case measure => simp [intOf]; omega
          · have hjl : j = L.length := by omega
            subst hjl
            rw [upTo_all] at hR
            have K5 := Lib.hid hR
            have K6 := Lib.hid hT
            have K7 := Lib.hid hb
            clear hR hT hb hlt
            go_wp2_with fail
            refine (digits_any n hn _ K6.out).mono ?_; rintro e w4 ⟨rfl, hb⟩
            have hBl : B < wr.heap.size := by
              have h0 : 0 < (L.map up).length := by have := hexl_ne n; rw [← HL.out] at this; simp [List.length_pos_iff, this]
              exact lt_of_cell (K5.out 0 h0).1
            have hR4 : BRow B w4 (L.map up) := fun i hi => ⟨(hb.cell (p := ⟨B, i, none⟩) hBl).trans (K5.out i hi).1, (hb.frozen (p := ⟨B, i, none⟩) hBl).trans (K5.out i hi).2⟩
            have K8 := Lib.hid (K7.out.trans (hb.mono K7.out.size))
            have hconv := run_convert_bytes_back (P := Tryd.prog) w4 29 9 5 ⟨B, 0, none⟩ cap (L.map up) Tryd.underlying29 Tryd.underlying5 Tryd.underlying9 (fun i hi => by
              rw [Lib.add_plain, show 0 + i = i by omega]; exact (hR4 i hi).1)
            rw [List.length_map] at hconv
            have hdl := decl_len n 18 (by omega)
            have hback16 := back16 k n hn
            rw [← HL.out] at hback16
            have K9 := Lib.hid hback16
            clear hb hR4 hback16
            obtain ⟨D, hD⟩ : ∃ D, D = decl n := ⟨_, rfl⟩
            rw [← hD] at hdl
            rw [← hD]
            have HD := Lib.hid hD
            clear hD
            have hDs : (ByteArray.mk D.toArray).size = D.length := by show D.toArray.size = _; simp
            have HDs := Lib.hid hDs
            obtain ⟨U, hU⟩ : ∃ U, U = L.map up := ⟨_, rfl⟩
            have hUl : U.length ≤ 16 := by rw [hU, List.length_map]; exact hLen
            have hUs : (ByteArray.mk U.toArray).size = U.length := by show U.toArray.size = _; simp
            have HUs := Lib.hid hUs
            rw [← hU] at hconv
            have HU := Lib.hid hU
            clear hU hDs hUs
            go_wp2_with fail
            refine (decimal_any _ _ (by rw [ByteArray.size_append, HDs.out]; unfold maxLen; omega)).mono ?_; rintro e w5 ⟨rfl, rfl⟩
            rw [app_list2, HZ.out, show (ByteArray.mk D.toArray).data.toList = D from by simp, HD.out, back10 k n hn]
            go_wp2_with fail
            refine (hex_any _ _ (by rw [ByteArray.size_append, HUs.out]; unfold maxLen; omega)).mono ?_; rintro e w5 ⟨rfl, rfl⟩
            rw [app_list2, HZ.out, show (ByteArray.mk U.toArray).data.toList = U from by simp, HU.out, K9.out]
            go_wp2
            go_ret
            exact ⟨rfl, K8.out⟩

theorem numBack_walk (n noughts : Int) (w : World) (hwf : (Lit.int .i64 n).wf = true) (ht : Tabs2 w) :
    Calls Tryd.prog 5 #[.int .i64 n, .int .i64 noughts] w fun e w' => e = .returned (.bool true) ∧ Below w.heap.size w w' := by
  rcases Int.lt_or_le n 0 with h | h
  · exact numBack_neg n noughts h w ht
  · obtain ⟨m, rfl⟩ := Int.eq_ofNat_of_zero_le h
    exact numBack_pos m noughts (by have := bounds_i64 hwf; omega) w ht

set_option maxRecDepth 100000 in
theorem numBack_lifted (os : Os) (started : os.Started) (H : Type) (enc : TypeId × Value → H) :
    ReturnsInHanded {} Tryd.checked os 5 .any (fun w args => (Rows.numBackSpec.pre enc Tryd.prog Tryd.f5 [] false w args ∧ laidMetH Tryd.prog laid3 w) ∧ sizedMet enc Tryd.prog Tryd.f5 (OpenSpec.ofChange Rows.numBackSpec) false w args)
      (Rows.numBackSpec.post enc Tryd.prog Tryd.f5 false true false false) := by
  refine returnsInHanded_of_change_and (C := Tryd.checked) (X := fun w _ => laidMetH Tryd.prog laid3 w) (fun _ _ _ hh h => h.of_heap hh) own started (by kernel_rfl) Tryd.func5
    (ChangeSpec.witness_shaped (enc := enc) (C := Tryd.checked) (os := os) (X := fun w _ => laidMetH Tryd.prog laid3 w) false (World.doorLaid Tryd.prog 400 os) #[.int .i64 0, .int .i64 0] 8 rfl (World.shaped_of_RefB (by kernel_rfl) (by kernel_rfl)) (by kernel_rfl) (by kernel_rfl) (by kernel_rfl) (door_met os _)) ?_
  intro W base args ds gs before hval0 hW _ _ hL _
  have hval : ∀ (j : Nat) t v, Tryd.f5.params[j]? = some t → args[j]? = some v → Value.okWide Tryd.prog W .any base t v := hval0
  have hW' := hW
  obtain ⟨p, q, hA0, hV, rfl, hfz, hnd⟩ := hW
  have hA : DataW.TrodAll enc Tryd.prog W 0 (fun _ => true) true Tryd.f5.params.toList args.toList ds p := hA0
  rw [Tryd.params5] at hA hval
  obtain ⟨v0, v1, d0, d1, p0, p1, rfl, rfl, rfl, h0, h1⟩ := trodAll_two hA
  obtain ⟨rfl, rfl⟩ := trodVars_none hV
  obtain ⟨a0, rfl, rfl, rfl, w0⟩ := open_int Tryd.underlying2 (hval 0 2 v0 rfl rfl) h0
  obtain ⟨a1, rfl, rfl, rfl, w1⟩ := open_int Tryd.underlying3 (hval 1 3 v1 rfl rfl) h1
  clear hA0 hval0
  refine (numBack_walk a0 a1 W w0 (tabs2_of_laid hL)).mono fun e W' ⟨he, bel⟩ => ?_
  subst he
  exact ⟨_, rfl, _, _, _, [], [], [], hW', trodAll_mk1 (shut_bool Tryd.underlying4 _), trodAll_mk2 (shut_int Tryd.underlying2 w0) (shut_int Tryd.underlying3 w1), rfl, bel.frame _, fun h => by cases h⟩

theorem numBack_holds : Rows.NumBackSaid :=
  OpenClaim.holds_of_wide 5 Tryd.f5 rfl rfl rfl rfl rfl rfl rfl ⟨rfl, rfl, rfl, rfl, rfl⟩ rfl rfl rfl rfl rfl (by kernel_rfl) Tryd.func5 (by kernel_rfl)
    (of_decide_eq_true (by kernel_rfl)) (by unfold Func.isWrapper; first | (rw [if_pos (by decide +kernel)]; kernel_rfl) | (rw [if_neg (by decide +kernel)]; exact ⟨rfl, rfl⟩))
    (fun os started H enc _ => numBack_lifted os started H enc)

theorem numBack_card : Rows.NumBackCardSaid :=
  Claim7.holds_tied_plain_at .later [] [.data, .data, .data] true (true, "3fa39057ba8a08b78e9f815d5ea4cfa82360cf5fa1a0d72d6fdab495d9b6f03a") false
    numBack_holds (fun _ h => by cases h) (by kernel_rfl) (fun _ h => by cases h) numBack_row_tie rfl ⟨rfl, rfl⟩ (by kernel_rfl) rfl
    (fun f fn hf hfn => by
      obtain rfl : f = 5 := Option.some.inj ((show Tryd.prog.funcNamed "colander/colanderlaw02.NumBack" = some 5 by kernel_rfl).symm.trans hf) |>.symm
      obtain rfl : fn = Tryd.f5 := (Option.some.inj (Tryd.func5.symm.trans hfn)).symm
      exact ⟨by kernel_rfl, fun j t ht => by
        rw [Tryd.params5] at ht
        have hne : Tryd.prog.wantsStandIn t = false := by
          rcases j with _ | j
          · obtain rfl : 2 = t := by simpa using ht
            exact (show Tryd.prog.wantsStandIn 2 = false by kernel_rfl)
          ·
            rcases j with _ | j
            · obtain rfl : 3 = t := by simpa using ht
              exact (show Tryd.prog.wantsStandIn 3 = false by kernel_rfl)
            · simp at ht
        exact hne⟩)
    (by kernel_rfl)

end Go.Proofs.YtlgoalhcllgkcaaDoor
