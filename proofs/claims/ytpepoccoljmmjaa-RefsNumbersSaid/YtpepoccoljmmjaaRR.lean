/- A number's digits: the document's answer. -/
import Derived.Test.YtpepoccoljmmjaaRQ
set_option linter.unusedVariables false
namespace Go.Proofs.Ytpepoccoljmmjaa
open Go.RowKit Go.Shelf

theorem isX_lwr (c : UInt8) : isX c = decide ((lwr c).toNat = 120) := by
  have : ∀ n, n < 256 → isX (UInt8.ofNat n) = decide ((lwr (UInt8.ofNat n)).toNat = 120) := by decide +kernel
  have h := this c.toNat c.toNat_lt
  rwa [UInt8.ofNat_toNat] at h
def rvp (h : Bool) (l : Bs) (b p : Nat) : Int := rv h ((l.drop b).take (p - b))
theorem rvp_start (h : Bool) (l : Bs) (b : Nat) : rvp h l b b = 0 := by unfold rvp; rw [Nat.sub_self, List.take_zero]; rfl
theorem rvp_step (h : Bool) (l : Bs) (b p : Nat) (hb : b ≤ p) (hp : p < l.length) : rvp h l b (p + 1) = if rvp h l b p < 1114112 then rvp h l b p * bse h + dg h (l.getD p 0) else rvp h l b p := by
  unfold rvp
  have h1 : p - b < (l.drop b).length := by rw [List.length_drop]; omega
  have e : (l.drop b)[p - b] = l.getD p 0 := by rw [List.getElem_drop, getD_at' hp]; congr 1; omega
  rw [show p + 1 - b = (p - b) + 1 by omega, List.take_succ_eq_append_getElem h1, rv_snoc, e]
theorem rvp_bd (h : Bool) (l : Bs) (b p : Nat) (hp : p ≤ l.length) (hall : ∀ j, b ≤ j → j < p → 0 ≤ dg h (l.getD j 0)) : 0 ≤ rvp h l b p ∧ rvp h l b p ≤ 17825800 := by
  unfold rvp
  have := rv_bd h ((l.drop b).take (p - b)) (by
    intro c hc
    obtain ⟨j, hj, rfl⟩ := List.getElem_of_mem hc
    rw [List.length_take, List.length_drop] at hj
    have := hall (b + j) (by omega) (by omega)
    rw [getD_at' (by omega)] at this
    rw [List.getElem_take, List.getElem_drop]; exact this)
  exact ⟨this.1, this.2.1⟩
theorem ndig_is (r : Bs) (b p : Nat) (h : Bool) (hb : b = nbg r) (hh : h = hexB r) (hbp : b ≤ p) (hp : p ≤ r.length) (h16 : p ≤ b + 16)
    (hall : ∀ j, b ≤ j → j < p → 0 ≤ dg h (r.getD j 0)) (hstop : p = r.length ∨ p = b + 16 ∨ (p < r.length ∧ dg h (r.getD p 0) < 0)) :
    ndig r = (r.drop b).take (p - b) ∧ (ndig r).length = p - b ∧ rv h (ndig r) = rvp h r b p := by
  have hlen : (r.drop b).length = r.length - b := List.length_drop
  have hn : ndig r = (r.drop b).take (p - b) := by
    unfold ndig
    rw [← hb, ← hh]
    refine digs_is (by omega) (by omega) (fun j hj => ?_) ?_
    · have := hall (b + j) (by omega) (by omega)
      rw [getD_at' (by omega)] at this
      rw [List.getElem_drop]; exact this
    · rcases hstop with hs | hs | ⟨h1, h2⟩
      · exact .inl (by omega)
      · exact .inr (.inl (by omega))
      · refine .inr (.inr ⟨by omega, ?_⟩)
        rw [getD_at' h1] at h2
        rw [List.getElem_drop]
        have e : r[b + (p - b)]'(by omega) = r[p] := by congr 1; omega
        rw [e]; exact h2
  exact ⟨hn, by rw [hn, List.length_take]; omega, by rw [hn]; rfl⟩
theorem ret_iii {a b c d n m : Int} (h : a = b) (h1 : c = d) (h2 : n = m) : Ending.returned (.tuple #[.int .i64 a, .int .i64 c, .int .i64 n]) = .returned (.tuple #[.int .i64 b, .int .i64 d, .int .i64 m]) := by rw [h, h1, h2]

set_option maxRecDepth 10000 in
set_option maxHeartbeats 8000000 in
theorem run_any (X : ByteArray) (w : World) (hs : X.size ≤ 4611686018427387904) :
    Calls Try.prog 37 #[.string X] w fun e w' => e = .returned (.tuple #[.int .i64 ((nbg X.data.toList + (ndig X.data.toList).length : Nat)), .int .i64 ((ndig X.data.toList).length : Nat), .int .i64 (rv (hexB X.data.toList) (ndig X.data.toList))]) ∧ Below w.heap.size w w' := by
  have hll := len_data X
  obtain ⟨b, hb⟩ : ∃ b, b = nbg X.data.toList := ⟨_, rfl⟩
  obtain ⟨h, hh⟩ : ∃ h, h = hexB X.data.toList := ⟨_, rfl⟩
  have hbl : b ≤ X.size := by rw [hb, ← hll]; unfold nbg; split; (· rename_i hx; cases hX : X.data.toList; (· rw [hX] at hx; cases hx); simp); omega
  have hdig : ∀ p (hp : p < X.size) wx, Calls Try.prog 55 #[.int .u8 X[p].toNat, .int .i64 (bse h)] wx fun e w' => e = .returned (.int .i64 (dg h (X.data.toList.getD p 0))) ∧ Below wx.heap.size wx w' := fun p hp wx => by
    rw [byte_getD X p hp]; exact rdigit_any h _ wx
  have hfin := fun p h1 h2 h3 h4 h5 => ndig_is X.data.toList b p h hb hh h1 h2 h3 h4 h5
  have hpvs := rvp_start h X.data.toList b
  have hpv : ∀ p, b ≤ p → p < X.size → rvp h X.data.toList b (p + 1) = if rvp h X.data.toList b p < 1114112 then rvp h X.data.toList b p * bse h + dg h (X.data.toList.getD p 0) else rvp h X.data.toList b p := fun p h1 h2 => rvp_step h _ b p h1 (by omega)
  have hpb : ∀ p, p ≤ X.size → (∀ j, b ≤ j → j < p → 0 ≤ dg h (X.data.toList.getD j 0)) → 0 ≤ rvp h X.data.toList b p ∧ rvp h X.data.toList b p ≤ 17825800 := fun p h1 h2 => rvp_bd h _ b p (by omega) h2
  have hdge : ∀ p, -1 ≤ dg h (X.data.toList.getD p 0) ∧ dg h (X.data.toList.getD p 0) ≤ 16 := fun p => by
    have := dg_ge h (X.data.toList.getD p 0); rcases bse_is h with e | e <;> rw [e] at this <;> omega
  -- how it begins
  have hbeg : (h = false → b = 0) ∧ (h = true → b = 1) ∧ (h = true → 0 < X.size) := by
    refine ⟨fun e => by rw [hb]; unfold nbg; rw [← hh, e]; rfl, fun e => by rw [hb]; unfold nbg; rw [← hh, e]; rfl, fun e => ?_⟩
    rw [hh] at e
    rw [← hll]
    cases hX : X.data.toList with
    | nil => rw [hX] at e; cases e
    | cons c r => simp
  have hsm : ∀ (hp : 0 < X.size) wx, Calls Try.prog 38 #[.int .u8 X[0].toNat] wx fun e w' => e = .returned (.int .u8 (lwr X[0]).toNat) ∧ wx = w' := fun hp wx => small_any _ wx
  have hxx : ∀ (hp : 0 < X.size), h = decide (((lwr X[0]).toNat : Int) = 120) := fun hp => by
    rw [hh]
    have : X.data.toList = X[0] :: X.data.toList.drop 1 := by
      rw [byte_at X 0 hp]
      have : X.data.toList.drop 0 = X.data.toList[0]'(by omega) :: X.data.toList.drop (0 + 1) := List.drop_eq_getElem_cons (by omega)
      simpa using this
    rw [this]
    show isX X[0] = _
    rw [isX_lwr, Bool.eq_iff_iff]; simp; omega
  obtain ⟨nd, hnd⟩ : ∃ nd, nd = ndig X.data.toList := ⟨_, rfl⟩
  rw [← hnd] at hfin ⊢
  rw [← hb, ← hh]
  rw [hll] at hfin
  obtain ⟨td, htd⟩ : ∃ f : Nat → Int, f = fun p => dg h (X.data.toList.getD p 0) := ⟨_, rfl⟩
  obtain ⟨R, hR⟩ : ∃ f : Nat → Int, f = fun p => rvp h X.data.toList b p := ⟨_, rfl⟩
  have e1 : ∀ p, dg h (X.data.toList.getD p 0) = td p := fun p => by rw [htd]
  have e2 : ∀ p, rvp h X.data.toList b p = R p := fun p => by rw [hR]
  simp only [e1, e2] at hfin hpvs hpv hpb hdig hdge
  have hres : ∀ p, b ≤ p → p ≤ X.size → p ≤ b + 16 → (∀ j, b ≤ j → j < p → 0 ≤ td j) → (p = X.size ∨ p = b + 16 ∨ (p < X.size ∧ td p < 0)) → (p : Int) = ((b + nd.length : Nat) : Int) ∧ (p : Int) - (b : Int) = (nd.length : Nat) ∧ R p = rv h nd := fun p h1 h2 h3 h4 h5 => by
    obtain ⟨_, f2, f3⟩ := hfin p h1 h2 h3 h4 h5
    exact ⟨by omega, by omega, f3.symm⟩
  have HD := Lib.hid hdig
  have HRS := Lib.hid hpvs
  have HR := Lib.hid hpv
  have HRB := Lib.hid hpb
  have HDG := Lib.hid hdge
  have HRES := Lib.hid hres
  have HSM := Lib.hid hsm
  obtain ⟨base, hbase⟩ : ∃ x, x = bse h := ⟨_, rfl⟩
  have hbs : (h = true ∧ base = 16) ∨ (h = false ∧ base = 10) := by rw [hbase]; cases h; (· exact .inr ⟨rfl, rfl⟩); exact .inl ⟨rfl, rfl⟩
  rw [← hbase] at HD HR
  obtain ⟨z, hz⟩ : ∃ z, z = rv h nd := ⟨_, rfl⟩
  rw [← hz] at HRES ⊢
  have HX := Lib.hid hxx
  clear hdig hpvs hpv hpb hdge hres hsm hnd hb hh hll htd hR e1 e2 hbase hfin hz hxx
  rcases hbs with ⟨rfl, rfl⟩ | ⟨rfl, rfl⟩
  · obtain rfl := hbeg.2.1 rfl
    have h0 := hbeg.2.2 rfl
    have hx := HX.out h0
    have hx2 : ((lwr X[0]).toNat : Int) = 120 := of_decide_eq_true hx.symm
    have HS := Lib.hid (HSM.out h0)
    rw [hx2] at HS
    clear hbeg hx hx2 HX HSM
    go_enter Try.func37, Try.ntmps37
    go_wp2_with fail
    refine (HS.out _).mono ?_; rintro e w1 ⟨rfl, rfl⟩
    go_wp2_with fail
    go_loopw [6, 7, 8] (fun i m v wr => ∃ p : Nat, 1 ≤ p ∧ p ≤ X.size ∧ p ≤ 1 + 16 ∧ i = .int .i64 p ∧ m = .int .i64 ((p : Int) - (1 : Nat)) ∧ v = .int .i64 (R p) ∧ (∀ j, 1 ≤ j → j < p → 0 ≤ td j) ∧ Below w.heap.size w wr) (fun i _ _ _ => X.size - (intOf i).toNat)
    case atStart => exact ⟨1, by omega, by omega, by omega, rfl, by first | rfl | go_num, by rw [HRS.out], fun j h1 h2 => by omega, Below.refl _ _⟩
    case round =>
      obtain ⟨p, hbp, hps, hp16, rfl, rfl, rfl, hall, hb⟩ := hrel
      have HA := Lib.hid hall
      have HB := Lib.hid hb
      clear hall hb
      by_cases hlt : p < X.size
      · by_cases h16 : p < 1 + 16
        · have hd := HD.out p hlt
          have hge := HDG.out p
          by_cases hdp : 0 ≤ td p
          · have HN1 : Hid (∀ j, 1 ≤ j → j < p + 1 → 0 ≤ td j) := Lib.hid fun j h1 h2 => by
              by_cases e : j = p
              · subst e; exact hdp
              · exact HA.out j h1 (by omega)
            have hP := HR.out p hbp hlt
            have hpb := HRB.out p (by omega) HA.out
            obtain ⟨v, hv⟩ : ∃ v, v = R p := ⟨_, rfl⟩
            obtain ⟨d, hd'⟩ : ∃ d, d = td p := ⟨_, rfl⟩
            rw [← hv] at hpb hP
            rw [← hd'] at hd hge hdp hP
            rw [← hv]
            obtain ⟨q1, q2⟩ := hpb
            obtain ⟨q3, q4⟩ := hge
            have q7 : (p : Int) - (1 : Nat) < 16 := by omega
            have q8 : 0 ≤ (p : Int) - (1 : Nat) := by omega
            by_cases hv1 : v < 1114112
            · have HP1 : Hid (R (p + 1) = v * 16 + d) := Lib.hid (by rw [hP, if_pos hv1])
              have q5 : v * 16 ≤ 17825792 := by omega
              have q6 : 0 ≤ v * 16 := by omega
              have H := Lib.hid hd
              clear hd hP hv hd'
              go_wp2_with fail
              refine (H.out _).mono ?_; rintro e w1 ⟨rfl, hb1⟩
              have HB1 := Lib.hid (HB.out.trans (hb1.mono HB.out.size))
              clear hb1
              go_wp2_with fail
              refine (H.out _).mono ?_; rintro e w2 ⟨rfl, hb2⟩
              have HB2 := Lib.hid (HB1.out.trans (hb2.mono HB1.out.size))
              clear hb2
              go_wp2
              go_roundw
              case rel => exact ⟨p + 1, by omega, by omega, by omega, by go_num, by go_num, by rw [HP1.out], HN1.out, HB2.out⟩
              case measure => simp [intOf]; omega
            · have HP1 : Hid (R (p + 1) = v) := Lib.hid (by rw [hP, if_neg hv1])
              have hv2 : 1114112 ≤ v := by omega
              have H := Lib.hid hd
              clear hd hP hv hd' hv1
              go_wp2_with fail
              refine (H.out _).mono ?_; rintro e w1 ⟨rfl, hb1⟩
              have HB1 := Lib.hid (HB.out.trans (hb1.mono HB.out.size))
              clear hb1
              go_wp2
              go_roundw
              case rel => exact ⟨p + 1, by omega, by omega, by omega, by go_num, by go_num, by rw [HP1.out], HN1.out, HB1.out⟩
              case measure => simp [intOf]; omega
          · have HV := Lib.hid (HRES.out p hbp hps hp16 HA.out (.inr (.inr ⟨hlt, by omega⟩)))
            have H := Lib.hid hd
            have hdl := hge.1
            have hdn : td p < 0 := by omega
            obtain ⟨d, hd'⟩ : ∃ d, d = td p := ⟨_, rfl⟩
            rw [← hd'] at H hdl hdn
            have q7 : (p : Int) - (1 : Nat) < 16 := by omega
            clear hd hge hdp hd'
            go_wp2_with fail
            refine (H.out _).mono ?_; rintro e w1 ⟨rfl, hb1⟩
            have HB1 := Lib.hid (HB.out.trans (hb1.mono HB.out.size))
            clear hb1
            go_wp2
            go_ret3
            exact ⟨ret_iii (by first | exact HV.out.1 | (have := HV.out.1; omega)) (by first | exact HV.out.2.1 | (have := HV.out.2.1; omega)) HV.out.2.2, HB1.out⟩
        · have HV := Lib.hid (HRES.out p hbp hps hp16 HA.out (.inr (.inl (by omega))))
          have q7 : 16 ≤ (p : Int) - (1 : Nat) := by omega
          go_wp2
          go_ret3
          exact ⟨ret_iii (by first | exact HV.out.1 | (have := HV.out.1; omega)) (by first | exact HV.out.2.1 | (have := HV.out.2.1; omega)) HV.out.2.2, HB.out⟩
      · have HV := Lib.hid (HRES.out p hbp hps hp16 HA.out (.inl (by omega)))
        go_wp2
        go_ret3
        exact ⟨ret_iii (by first | exact HV.out.1 | (have := HV.out.1; omega)) (by first | exact HV.out.2.1 | (have := HV.out.2.1; omega)) HV.out.2.2, HB.out⟩
  · obtain rfl := hbeg.1 rfl
    by_cases h0 : 0 < X.size
    · have hx := HX.out h0
      have hx2 : ((lwr X[0]).toNat : Int) ≠ 120 := fun e => by rw [e] at hx; simp at hx
      have HS := Lib.hid (HSM.out h0)
      obtain ⟨y, hy⟩ : ∃ y : Int, y = ((lwr X[0]).toNat : Int) := ⟨_, rfl⟩
      rw [← hy] at HS hx2
      have g : (y == 120) = false := by rw [beq_eq_false_iff_ne]; exact hx2
      clear hbeg hx hx2 HX HSM hy
      go_enter Try.func37, Try.ntmps37
      go_wp2_with fail
      refine (HS.out _).mono ?_; rintro e w1 ⟨rfl, rfl⟩
      go_wp2_with fail
      go_loopw [6, 7, 8] (fun i m v wr => ∃ p : Nat, 0 ≤ p ∧ p ≤ X.size ∧ p ≤ 0 + 16 ∧ i = .int .i64 p ∧ m = .int .i64 ((p : Int) - (0 : Nat)) ∧ v = .int .i64 (R p) ∧ (∀ j, 0 ≤ j → j < p → 0 ≤ td j) ∧ Below w.heap.size w wr) (fun i _ _ _ => X.size - (intOf i).toNat)
      case atStart => exact ⟨0, by omega, by omega, by omega, rfl, by first | rfl | go_num, by rw [HRS.out], fun j h1 h2 => by omega, Below.refl _ _⟩
      case round =>
        obtain ⟨p, hbp, hps, hp16, rfl, rfl, rfl, hall, hb⟩ := hrel
        have HA := Lib.hid hall
        have HB := Lib.hid hb
        clear hall hb
        by_cases hlt : p < X.size
        · by_cases h16 : p < 0 + 16
          · have hd := HD.out p hlt
            have hge := HDG.out p
            by_cases hdp : 0 ≤ td p
            · have HN1 : Hid (∀ j, 0 ≤ j → j < p + 1 → 0 ≤ td j) := Lib.hid fun j h1 h2 => by
                by_cases e : j = p
                · subst e; exact hdp
                · exact HA.out j h1 (by omega)
              have hP := HR.out p hbp hlt
              have hpb := HRB.out p (by omega) HA.out
              obtain ⟨v, hv⟩ : ∃ v, v = R p := ⟨_, rfl⟩
              obtain ⟨d, hd'⟩ : ∃ d, d = td p := ⟨_, rfl⟩
              rw [← hv] at hpb hP
              rw [← hd'] at hd hge hdp hP
              rw [← hv]
              obtain ⟨q1, q2⟩ := hpb
              obtain ⟨q3, q4⟩ := hge
              have q7 : (p : Int) - (0 : Nat) < 16 := by omega
              have q8 : 0 ≤ (p : Int) - (0 : Nat) := by omega
              by_cases hv1 : v < 1114112
              · have HP1 : Hid (R (p + 1) = v * 10 + d) := Lib.hid (by rw [hP, if_pos hv1])
                have q5 : v * 10 ≤ 17825792 := by omega
                have q6 : 0 ≤ v * 10 := by omega
                have H := Lib.hid hd
                clear hd hP hv hd'
                go_wp2_with fail
                refine (H.out _).mono ?_; rintro e w1 ⟨rfl, hb1⟩
                have HB1 := Lib.hid (HB.out.trans (hb1.mono HB.out.size))
                clear hb1
                go_wp2_with fail
                refine (H.out _).mono ?_; rintro e w2 ⟨rfl, hb2⟩
                have HB2 := Lib.hid (HB1.out.trans (hb2.mono HB1.out.size))
                clear hb2
                go_wp2
                go_roundw
                case rel => exact ⟨p + 1, by omega, by omega, by omega, by go_num, by go_num, by rw [HP1.out], HN1.out, HB2.out⟩
                case measure => simp [intOf]; omega
              · have HP1 : Hid (R (p + 1) = v) := Lib.hid (by rw [hP, if_neg hv1])
                have hv2 : 1114112 ≤ v := by omega
                have H := Lib.hid hd
                clear hd hP hv hd' hv1
                go_wp2_with fail
                refine (H.out _).mono ?_; rintro e w1 ⟨rfl, hb1⟩
                have HB1 := Lib.hid (HB.out.trans (hb1.mono HB.out.size))
                clear hb1
                go_wp2
                go_roundw
                case rel => exact ⟨p + 1, by omega, by omega, by omega, by go_num, by go_num, by rw [HP1.out], HN1.out, HB1.out⟩
                case measure => simp [intOf]; omega
            · have HV := Lib.hid (HRES.out p hbp hps hp16 HA.out (.inr (.inr ⟨hlt, by omega⟩)))
              have H := Lib.hid hd
              have hdl := hge.1
              have hdn : td p < 0 := by omega
              obtain ⟨d, hd'⟩ : ∃ d, d = td p := ⟨_, rfl⟩
              rw [← hd'] at H hdl hdn
              have q7 : (p : Int) - (0 : Nat) < 16 := by omega
              clear hd hge hdp hd'
              go_wp2_with fail
              refine (H.out _).mono ?_; rintro e w1 ⟨rfl, hb1⟩
              have HB1 := Lib.hid (HB.out.trans (hb1.mono HB.out.size))
              clear hb1
              go_wp2
              go_ret3
              exact ⟨ret_iii (by first | exact HV.out.1 | (have := HV.out.1; omega)) (by first | exact HV.out.2.1 | (have := HV.out.2.1; omega)) HV.out.2.2, HB1.out⟩
          · have HV := Lib.hid (HRES.out p hbp hps hp16 HA.out (.inr (.inl (by omega))))
            have q7 : 16 ≤ (p : Int) - (0 : Nat) := by omega
            go_wp2
            go_ret3
            exact ⟨ret_iii (by first | exact HV.out.1 | (have := HV.out.1; omega)) (by first | exact HV.out.2.1 | (have := HV.out.2.1; omega)) HV.out.2.2, HB.out⟩
        · have HV := Lib.hid (HRES.out p hbp hps hp16 HA.out (.inl (by omega)))
          go_wp2
          go_ret3
          exact ⟨ret_iii (by first | exact HV.out.1 | (have := HV.out.1; omega)) (by first | exact HV.out.2.1 | (have := HV.out.2.1; omega)) HV.out.2.2, HB.out⟩
    · have h00 : X.size = 0 := by omega
      have HV := Lib.hid (HRES.out 0 (Nat.le_refl _) (by omega) (by omega) (fun j h1 h2 => by omega) (.inl h00.symm))
      have g0 : (X.size : Int) = 0 := by omega
      have HRS2 : Hid (R 0 = 0) := HRS
      clear hbeg HX HSM HRES HR HRB HD HDG
      go_enter Try.func37, Try.ntmps37
      go_wp2_with fail
      go_loopw [6, 7, 8] (fun i m v wr => i = .int .i64 0 ∧ m = .int .i64 0 ∧ v = .int .i64 0 ∧ Below w.heap.size w wr) (fun _ _ _ _ => 0)
      case atStart => exact ⟨rfl, rfl, rfl, Below.refl _ _⟩
      case round =>
        obtain ⟨rfl, rfl, rfl, hb⟩ := hrel
        have HB := Lib.hid hb
        clear hb
        go_wp2
        go_ret3
        exact ⟨ret_iii (by have := HV.out.1; simpa using this) (by have := HV.out.2.1; simpa using this) (by rw [← HV.out.2.2, HRS2.out]), HB.out⟩
end Go.Proofs.Ytpepoccoljmmjaa
