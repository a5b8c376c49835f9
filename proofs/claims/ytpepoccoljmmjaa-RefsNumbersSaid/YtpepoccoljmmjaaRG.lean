/- A reference: the program's. -/
import Derived.Test.YtpepoccoljmmjaaRF
set_option linter.unusedVariables false
namespace Go.Proofs.Ytpepoccoljmmjaa
open Go.RowKit Go.Shelf

theorem tkN_is (l : Bs) (b k : Nat) (h : Bool) (hb : b = 2 + nbg (l.drop 2)) (hh : h = hexB (l.drop 2)) (hl : 2 ≤ l.length) (hk : b + k ≤ l.length) (h16 : k ≤ 16)
    (hall : ∀ j, j < k → 0 ≤ dg h (l.getD (b + j) 0)) (hstop : b + k = l.length ∨ k = 16 ∨ (b + k < l.length ∧ dg h (l.getD (b + k) 0) < 0)) :
    ndig (l.drop 2) = (l.drop b).take k ∧ ((k = 0 → tkN (l.drop 2) = ([], 0)) ∧ (k ≠ 0 → tkN (l.drop 2) = (numC (pv h ((l.drop b).take k)), b + k + if b + k < l.length ∧ l.getD (b + k) 0 = 59 then 1 else 0))) := by
  have hd : (l.drop 2).drop (nbg (l.drop 2)) = l.drop b := by rw [List.drop_drop, hb]
  have hlen : (l.drop b).length = l.length - b := List.length_drop
  have hn : ndig (l.drop 2) = (l.drop b).take k := by
    unfold ndig
    rw [hd, ← hh]
    refine digs_is (by omega) h16 (fun j hj => ?_) ?_
    · have := hall j hj
      rw [getD_at' (by omega)] at this
      rw [List.getElem_drop]; exact this
    · rcases hstop with hs | hs | ⟨h1, h2⟩
      · exact .inl (by omega)
      · exact .inr (.inl hs)
      · refine .inr (.inr ⟨by omega, ?_⟩)
        rw [getD_at' h1] at h2
        rw [List.getElem_drop]; exact h2
  have hkl : ((l.drop b).take k).length = k := by rw [List.length_take]; omega
  refine ⟨hn, fun h0 => ?_, fun h0 => ?_⟩
  · unfold tkN
    rw [if_pos (by rw [hn, h0, List.take_zero])]
  · unfold tkN
    rw [if_neg (by rw [hn]; intro e; rw [e] at hkl; simp at hkl; omega), hn, ← hh, hkl]
    have hd2 : (l.drop 2).drop (nbg (l.drop 2) + k) = l.drop (b + k) := by rw [List.drop_drop]; congr 1; omega
    rw [hd2]
    refine Prod.ext rfl ?_
    show 2 + nbg (l.drop 2) + k + _ = b + k + _
    rw [← hb]
    congr 1
    by_cases hlt : b + k < l.length
    · rw [List.drop_eq_getElem_cons hlt, getD_at' hlt]
      simp [hlt]
    · rw [List.drop_eq_nil_of_le (by omega)]
      simp [hlt]

def pvp (h : Bool) (l : Bs) (b p : Nat) : Int := pv h ((l.drop b).take (p - b))
theorem pvp_start (h : Bool) (l : Bs) (b : Nat) : pvp h l b b = 0 := by unfold pvp; rw [Nat.sub_self, List.take_zero]; rfl
theorem pvp_step (h : Bool) (l : Bs) (b p : Nat) (hb : b ≤ p) (hp : p < l.length) : pvp h l b (p + 1) = min (pvp h l b p * bse h + dg h (l.getD p 0)) 1114112 := by
  unfold pvp
  have h1 : p - b < (l.drop b).length := by rw [List.length_drop]; omega
  rw [show p + 1 - b = (p - b) + 1 by omega, List.take_succ_eq_append_getElem h1, pv_snoc, List.getElem_drop, getD_at' hp]
  congr 4; omega
theorem pvp_bd (h : Bool) (l : Bs) (b p : Nat) (hp : p ≤ l.length) (hall : ∀ j, b ≤ j → j < p → 0 ≤ dg h (l.getD j 0)) : 0 ≤ pvp h l b p ∧ pvp h l b p ≤ 1114112 := by
  unfold pvp
  apply pv_bd
  intro c hc
  obtain ⟨j, hj, rfl⟩ := List.getElem_of_mem hc
  rw [List.length_take, List.length_drop] at hj
  have := hall (b + j) (by omega) (by omega)
  rw [getD_at' (by omega)] at this
  rw [List.getElem_take, List.getElem_drop]; exact this
theorem bse_is (h : Bool) : bse h = 16 ∨ bse h = 10 := by unfold bse; split <;> simp
theorem ret_si' {a : ByteArray} {n : Int} {F : Bs × Nat} (h : a = bs F.1) (h2 : n = (F.2 : Nat)) : Ending.returned (.tuple #[.string a, .int .i64 n]) = .returned (.tuple #[.string (bs F.1), .int .i64 (F.2 : Nat)]) := by rw [h, h2]

set_option maxRecDepth 10000 in
set_option maxHeartbeats 8000000 in
theorem takeNumber_any (X : ByteArray) (w : World) (hs : X.size ≤ 4611686018427387904) (h2 : 2 ≤ X.size) :
    Calls Try.prog 35 #[.string X] w fun e w' => e = .returned (.tuple #[.string (bs (tkN (X.data.toList.drop 2)).1), .int .i64 ((tkN (X.data.toList.drop 2)).2 : Nat)]) ∧ Below w.heap.size w w' := by
  have hnb := nbegins_any X w (by omega)
  have hll := len_data X
  obtain ⟨b, hb⟩ : ∃ b, b = 2 + nbg (X.data.toList.drop 2) := ⟨_, rfl⟩
  obtain ⟨h, hh⟩ : ∃ h, h = hexB (X.data.toList.drop 2) := ⟨_, rfl⟩
  have hb2 : 2 ≤ b := by omega
  have hb3 : b ≤ 3 := by rw [hb]; unfold nbg; split <;> omega
  have hbl : b ≤ X.size := by
    rw [hb]; unfold nbg; split
    · rename_i hx
      by_cases he : 2 < X.size
      · omega
      · rw [hexB_end (by omega)] at hx; cases hx
    · omega
  have hdig : ∀ p (hp : p < X.size) wx, Calls Try.prog 40 #[.int .u8 X[p].toNat, .int .i64 (bse h)] wx fun e w' => e = .returned (.int .i64 (dg h (X.data.toList.getD p 0))) ∧ wx = w' := fun p hp wx => by
    rw [byte_getD X p hp]; exact digit_any h _ wx
  obtain ⟨F, hF⟩ : ∃ F, F = tkN (X.data.toList.drop 2) := ⟨_, rfl⟩
  have hbyte : ∀ p (hp : p < X.size), ((X[p].toNat : Int) = 59) = (X.data.toList.getD p 0 = 59) := fun p hp => by
    rw [byte_getD X p hp]; rw [eq_iff_iff]
    constructor
    · intro e; exact UInt8.toNat_inj.1 (by simpa using (by omega : (X.data.toList.getD p 0).toNat = 59))
    · intro e; rw [e]; rfl
  have hfin := fun k h1 h2' h3 h4 => (tkN_is X.data.toList b k h hb hh (by omega) h1 h2' h3 h4).2
  rw [← hb, ← hh] at hnb
  rw [← hF] at hfin ⊢
  have hpvs := pvp_start h X.data.toList b
  have hpv : ∀ p, b ≤ p → p < X.size → pvp h X.data.toList b (p + 1) = min (pvp h X.data.toList b p * bse h + dg h (X.data.toList.getD p 0)) 1114112 := fun p h1 h2 => pvp_step h _ b p h1 (by omega)
  have hpb : ∀ p, p ≤ X.size → (∀ j, b ≤ j → j < p → 0 ≤ dg h (X.data.toList.getD j 0)) → 0 ≤ pvp h X.data.toList b p ∧ pvp h X.data.toList b p ≤ 1114112 := fun p h1 h2 => pvp_bd h _ b p (by omega) h2
  have hpe : ∀ k, pv h ((X.data.toList.drop b).take k) = pvp h X.data.toList b (b + k) := fun k => by unfold pvp; rw [Nat.add_sub_cancel_left]
  simp only [hpe] at hfin
  have hdge : ∀ p, -1 ≤ dg h (X.data.toList.getD p 0) ∧ dg h (X.data.toList.getD p 0) ≤ 16 := fun p => by
    have := dg_ge h (X.data.toList.getD p 0); rcases bse_is h with e | e <;> rw [e] at this <;> omega
  rw [hll] at hfin
  obtain ⟨td, htd⟩ : ∃ f : Nat → Int, f = fun p => dg h (X.data.toList.getD p 0) := ⟨_, rfl⟩
  obtain ⟨P, hP⟩ : ∃ f : Nat → Int, f = fun p => pvp h X.data.toList b p := ⟨_, rfl⟩
  obtain ⟨S, hS⟩ : ∃ f : Nat → Prop, f = fun p => X.data.toList.getD p 0 = 59 := ⟨_, rfl⟩
  have e1 : ∀ p, dg h (X.data.toList.getD p 0) = td p := fun p => by rw [htd]
  have e2 : ∀ p, pvp h X.data.toList b p = P p := fun p => by rw [hP]
  have e3 : ∀ p, (X.data.toList.getD p 0 = 59) = S p := fun p => by rw [hS]
  simp only [e1, e2] at hfin hpvs hpv hpb hdig hdge
  simp only [e3] at hbyte
  have hfin0 : ∀ p, p = b → b ≤ X.size → (p = X.size ∨ (p < X.size ∧ td p < 0)) → F = ([], 0) := fun p h1 h2 h3 => by
    subst h1
    exact (hfin 0 (by omega) (by omega) (fun j hj => by omega) (by rcases h3 with h3 | h3; (· exact .inl (by omega)); exact .inr (.inr (by simpa using h3)))).1 rfl
  have hfin1 : ∀ p, b < p → p ≤ X.size → p ≤ b + 16 → (∀ j, b ≤ j → j < p → 0 ≤ td j) → (p = X.size ∨ p = b + 16 ∨ (p < X.size ∧ td p < 0)) → (p < X.size ∧ S p → F = (numC (P p), p + 1)) ∧ (¬ (p < X.size ∧ S p) → F = (numC (P p), p)) := fun p h1 h2 h3 h4 h5 => by
    obtain ⟨k, rfl⟩ : ∃ k, p = b + k := ⟨p - b, by omega⟩
    have := (hfin k h2 (by omega) (fun j hj => h4 _ (by omega) (by omega)) (by rcases h5 with h5 | h5 | h5; (· exact .inl h5); (· exact .inr (.inl (by omega))); exact .inr (.inr h5))).2 (by omega)
    have e4 : (b + k < X.size ∧ X.data.toList.getD (b + k) 0 = 59) = (b + k < X.size ∧ S (b + k)) := by rw [e3]
    exact ⟨fun hc => by rw [this, if_pos (by rw [e4]; exact hc)], fun hc => by rw [this, if_neg (by rw [e4]; exact hc)]; rfl⟩
  have hnum := fun n wx => number_any n wx
  have HNB := Lib.hid hnb
  have HD := Lib.hid hdig
  have HB := Lib.hid hbyte
  have HF0 := Lib.hid hfin0
  have HF1 := Lib.hid hfin1
  have HPS := Lib.hid hpvs
  have HP := Lib.hid hpv
  have HPB := Lib.hid hpb
  have HDG := Lib.hid hdge
  have HN := Lib.hid hnum
  obtain ⟨base, hbase⟩ : ∃ x, x = bse h := ⟨_, rfl⟩
  have hbs : base = 16 ∨ base = 10 := by rw [hbase]; exact bse_is h
  rw [← hbase] at HNB HD HP
  have hbs1 : 10 ≤ base := by omega
  have hbs2 : base ≤ 16 := by omega
  clear hnb hdig hbyte hfin hfin0 hfin1 hpvs hpv hpb hdge hnum hF hll hb hh hpe htd hP hS e1 e2 e3 hbase
  rcases hbs with rfl | rfl
  · go_enter Try.func35, Try.ntmps35
    go_wp2_with fail
    refine HNB.out.mono ?_; rintro e w1 ⟨rfl, rfl⟩
    go_wp2_with fail
    go_loop [6, 7] (fun n i => ∃ p : Nat, b ≤ p ∧ p ≤ X.size ∧ p ≤ b + 16 ∧ n = .int .i64 (P p) ∧ i = .int .i64 p ∧ ∀ j, b ≤ j → j < p → 0 ≤ td j) (fun n i => X.size - (intOf i).toNat)
    case atStart => exact ⟨b, by omega, by omega, by omega, by rw [HPS.out], rfl, fun j h1 h2 => by omega⟩
    case round =>
      obtain ⟨p, hbp, hps, hp16, rfl, rfl, hall⟩ := hrel
      have HA := Lib.hid hall
      clear hall
      by_cases hlt : p < X.size
      · by_cases h16 : p < b + 16
        · have hd := HD.out p hlt
          have hge := HDG.out p
          by_cases hdp : 0 ≤ td p
          · have HN1 : Hid (∀ j, b ≤ j → j < p + 1 → 0 ≤ td j) := Lib.hid fun j h1 h2 => by
              by_cases e : j = p
              · subst e; exact hdp
              · exact HA.out j h1 (by omega)
            have hP := HP.out p hbp hlt
            have hpb := HPB.out p (by omega) HA.out
            have HP1 := Lib.hid hP
            obtain ⟨v, hv⟩ : ∃ v, v = P p := ⟨_, rfl⟩
            obtain ⟨d, hd'⟩ : ∃ d, d = td p := ⟨_, rfl⟩
            rw [← hv] at hpb HP1
            rw [← hd'] at hd hge hdp HP1
            rw [← hv]
            obtain ⟨q1, q2⟩ := hpb
            obtain ⟨q3, q4⟩ := hge
            have q5 : v * 16 ≤ 17825792 := by omega
            have q6 : 0 ≤ v * 16 := by omega
            have H := Lib.hid hd
            clear hd hP hv hd'
            go_wp2_with fail
            refine (H.out _).mono ?_; rintro e w1 ⟨rfl, rfl⟩
            go_wp2_with fail
            refine (H.out _).mono ?_; rintro e w1 ⟨rfl, rfl⟩
            go_wp2
            go_round
            case rel => exact ⟨p + 1, by omega, by omega, by omega, by rw [HP1.out], by go_num, HN1.out⟩
            case measure => simp [intOf]; omega
          · have hdn : td p < 0 := by omega
            have H := Lib.hid hd
            have hdl := hge.1
            obtain ⟨d, hd'⟩ : ∃ d, d = td p := ⟨_, rfl⟩
            rw [← hd'] at H hdl
            have hdn2 : d < 0 := by omega
            have HDN := Lib.hid hdn
            clear hd hge hdp hd' hdn
            by_cases hpb0 : p = b
            · have gz : ((p : Int) == (b : Int)) = true := by simp [hpb0]
              have HV := Lib.hid (HF0.out p hpb0 hbl (.inr ⟨hlt, HDN.out⟩))
              clear hpb0
              go_wp2_with fail
              refine (H.out _).mono ?_; rintro e w1 ⟨rfl, rfl⟩
              go_wp2
              go_ret2
              exact ⟨ret_si' (by rw [HV.out]; rfl) (by rw [HV.out]; rfl), Below.refl _ _⟩
            · by_cases hse : (X[p].toNat : Int) = 59
              · have gz : ((p : Int) == (b : Int)) = false := by simp; omega
                have gs : ((X[p].toNat : Int) == 59) = true := by simp [hse]
                have HV := Lib.hid ((HF1.out p (by omega) (by omega) (by omega) HA.out (.inr (.inr ⟨hlt, HDN.out⟩))).1 ⟨by omega, (HB.out p hlt) ▸ hse⟩)
                clear hse hpb0
                go_wp2_with fail
                refine (H.out _).mono ?_; rintro e w1 ⟨rfl, rfl⟩
                go_wp2_with fail
                refine (HN.out _ _).mono ?_; rintro e w2 ⟨rfl, hb⟩
                have HBL := Lib.hid hb
                clear hb
                go_wp2
                go_ret2
                exact ⟨ret_si' (by rw [HV.out]) (by rw [HV.out]; try (simp only; omega)), HBL.out⟩
              · have gz : ((p : Int) == (b : Int)) = false := by simp; omega
                have gs : ((X[p].toNat : Int) == 59) = false := by simp [hse]
                have HV := Lib.hid ((HF1.out p (by omega) (by omega) (by omega) HA.out (.inr (.inr ⟨hlt, HDN.out⟩))).2 (fun hc => hse ((HB.out p hlt).symm ▸ hc.2)))
                clear hse hpb0
                go_wp2_with fail
                refine (H.out _).mono ?_; rintro e w1 ⟨rfl, rfl⟩
                go_wp2_with fail
                refine (HN.out _ _).mono ?_; rintro e w2 ⟨rfl, hb⟩
                have HBL := Lib.hid hb
                clear hb
                go_wp2
                go_ret2
                exact ⟨ret_si' (by rw [HV.out]) (by rw [HV.out]; try (simp only; omega)), HBL.out⟩
        · have h16e : p = b + 16 := by omega
          by_cases hse : (X[p].toNat : Int) = 59
          · have gz : ((p : Int) == (b : Int)) = false := by simp; omega
            have gs : ((X[p].toNat : Int) == 59) = true := by simp [hse]
            have HV := Lib.hid ((HF1.out p (by omega) (by omega) (by omega) HA.out (.inr (.inl h16e))).1 ⟨by omega, (HB.out p hlt) ▸ hse⟩)
            clear hse h16e
            go_wp2_with fail
            refine (HN.out _ _).mono ?_; rintro e w2 ⟨rfl, hb⟩
            have HBL := Lib.hid hb
            clear hb
            go_wp2
            go_ret2
            exact ⟨ret_si' (by rw [HV.out]) (by rw [HV.out]; try (simp only; omega)), HBL.out⟩
          · have gz : ((p : Int) == (b : Int)) = false := by simp; omega
            have gs : ((X[p].toNat : Int) == 59) = false := by simp [hse]
            have HV := Lib.hid ((HF1.out p (by omega) (by omega) (by omega) HA.out (.inr (.inl h16e))).2 (fun hc => hse ((HB.out p hlt).symm ▸ hc.2)))
            clear hse h16e
            go_wp2_with fail
            refine (HN.out _ _).mono ?_; rintro e w2 ⟨rfl, hb⟩
            have HBL := Lib.hid hb
            clear hb
            go_wp2
            go_ret2
            exact ⟨ret_si' (by rw [HV.out]) (by rw [HV.out]; try (simp only; omega)), HBL.out⟩
      · have hpe : p = X.size := by omega
        by_cases hpb0 : p = b
        · have gz : ((p : Int) == (b : Int)) = true := by simp [hpb0]
          have HV := Lib.hid (HF0.out p hpb0 hbl (.inl hpe))
          clear hpb0
          go_wp2
          go_ret2
          exact ⟨ret_si' (by rw [HV.out]; rfl) (by rw [HV.out]; rfl), Below.refl _ _⟩
        · have gz : ((p : Int) == (b : Int)) = false := by simp; omega
          have HV := Lib.hid ((HF1.out p (by omega) (by omega) (by omega) HA.out (.inl hpe)).2 (by omega))
          clear hpb0 hpe
          go_wp2_with fail
          refine (HN.out _ _).mono ?_; rintro e w2 ⟨rfl, hb⟩
          have HBL := Lib.hid hb
          clear hb
          go_wp2
          go_ret2
          exact ⟨ret_si' (by rw [HV.out]) (by rw [HV.out]; try (simp only; omega)), HBL.out⟩
  · go_enter Try.func35, Try.ntmps35
    go_wp2_with fail
    refine HNB.out.mono ?_; rintro e w1 ⟨rfl, rfl⟩
    go_wp2_with fail
    go_loop [6, 7] (fun n i => ∃ p : Nat, b ≤ p ∧ p ≤ X.size ∧ p ≤ b + 16 ∧ n = .int .i64 (P p) ∧ i = .int .i64 p ∧ ∀ j, b ≤ j → j < p → 0 ≤ td j) (fun n i => X.size - (intOf i).toNat)
    case atStart => exact ⟨b, by omega, by omega, by omega, by rw [HPS.out], rfl, fun j h1 h2 => by omega⟩
    case round =>
      obtain ⟨p, hbp, hps, hp16, rfl, rfl, hall⟩ := hrel
      have HA := Lib.hid hall
      clear hall
      by_cases hlt : p < X.size
      · by_cases h16 : p < b + 16
        · have hd := HD.out p hlt
          have hge := HDG.out p
          by_cases hdp : 0 ≤ td p
          · have HN1 : Hid (∀ j, b ≤ j → j < p + 1 → 0 ≤ td j) := Lib.hid fun j h1 h2 => by
              by_cases e : j = p
              · subst e; exact hdp
              · exact HA.out j h1 (by omega)
            have hP := HP.out p hbp hlt
            have hpb := HPB.out p (by omega) HA.out
            have HP1 := Lib.hid hP
            obtain ⟨v, hv⟩ : ∃ v, v = P p := ⟨_, rfl⟩
            obtain ⟨d, hd'⟩ : ∃ d, d = td p := ⟨_, rfl⟩
            rw [← hv] at hpb HP1
            rw [← hd'] at hd hge hdp HP1
            rw [← hv]
            obtain ⟨q1, q2⟩ := hpb
            obtain ⟨q3, q4⟩ := hge
            have q5 : v * 10 ≤ 17825792 := by omega
            have q6 : 0 ≤ v * 10 := by omega
            have H := Lib.hid hd
            clear hd hP hv hd'
            go_wp2_with fail
            refine (H.out _).mono ?_; rintro e w1 ⟨rfl, rfl⟩
            go_wp2_with fail
            refine (H.out _).mono ?_; rintro e w1 ⟨rfl, rfl⟩
            go_wp2
            go_round
            case rel => exact ⟨p + 1, by omega, by omega, by omega, by rw [HP1.out], by go_num, HN1.out⟩
            case measure => simp [intOf]; omega
          · have hdn : td p < 0 := by omega
            have H := Lib.hid hd
            have hdl := hge.1
            obtain ⟨d, hd'⟩ : ∃ d, d = td p := ⟨_, rfl⟩
            rw [← hd'] at H hdl
            have hdn2 : d < 0 := by omega
            have HDN := Lib.hid hdn
            clear hd hge hdp hd' hdn
            by_cases hpb0 : p = b
            · have gz : ((p : Int) == (b : Int)) = true := by simp [hpb0]
              have HV := Lib.hid (HF0.out p hpb0 hbl (.inr ⟨hlt, HDN.out⟩))
              clear hpb0
              go_wp2_with fail
              refine (H.out _).mono ?_; rintro e w1 ⟨rfl, rfl⟩
              go_wp2
              go_ret2
              exact ⟨ret_si' (by rw [HV.out]; rfl) (by rw [HV.out]; rfl), Below.refl _ _⟩
            · by_cases hse : (X[p].toNat : Int) = 59
              · have gz : ((p : Int) == (b : Int)) = false := by simp; omega
                have gs : ((X[p].toNat : Int) == 59) = true := by simp [hse]
                have HV := Lib.hid ((HF1.out p (by omega) (by omega) (by omega) HA.out (.inr (.inr ⟨hlt, HDN.out⟩))).1 ⟨by omega, (HB.out p hlt) ▸ hse⟩)
                clear hse hpb0
                go_wp2_with fail
                refine (H.out _).mono ?_; rintro e w1 ⟨rfl, rfl⟩
                go_wp2_with fail
                refine (HN.out _ _).mono ?_; rintro e w2 ⟨rfl, hb⟩
                have HBL := Lib.hid hb
                clear hb
                go_wp2
                go_ret2
                exact ⟨ret_si' (by rw [HV.out]) (by rw [HV.out]; try (simp only; omega)), HBL.out⟩
              · have gz : ((p : Int) == (b : Int)) = false := by simp; omega
                have gs : ((X[p].toNat : Int) == 59) = false := by simp [hse]
                have HV := Lib.hid ((HF1.out p (by omega) (by omega) (by omega) HA.out (.inr (.inr ⟨hlt, HDN.out⟩))).2 (fun hc => hse ((HB.out p hlt).symm ▸ hc.2)))
                clear hse hpb0
                go_wp2_with fail
                refine (H.out _).mono ?_; rintro e w1 ⟨rfl, rfl⟩
                go_wp2_with fail
                refine (HN.out _ _).mono ?_; rintro e w2 ⟨rfl, hb⟩
                have HBL := Lib.hid hb
                clear hb
                go_wp2
                go_ret2
                exact ⟨ret_si' (by rw [HV.out]) (by rw [HV.out]; try (simp only; omega)), HBL.out⟩
        · have h16e : p = b + 16 := by omega
          by_cases hse : (X[p].toNat : Int) = 59
          · have gz : ((p : Int) == (b : Int)) = false := by simp; omega
            have gs : ((X[p].toNat : Int) == 59) = true := by simp [hse]
            have HV := Lib.hid ((HF1.out p (by omega) (by omega) (by omega) HA.out (.inr (.inl h16e))).1 ⟨by omega, (HB.out p hlt) ▸ hse⟩)
            clear hse h16e
            go_wp2_with fail
            refine (HN.out _ _).mono ?_; rintro e w2 ⟨rfl, hb⟩
            have HBL := Lib.hid hb
            clear hb
            go_wp2
            go_ret2
            exact ⟨ret_si' (by rw [HV.out]) (by rw [HV.out]; try (simp only; omega)), HBL.out⟩
          · have gz : ((p : Int) == (b : Int)) = false := by simp; omega
            have gs : ((X[p].toNat : Int) == 59) = false := by simp [hse]
            have HV := Lib.hid ((HF1.out p (by omega) (by omega) (by omega) HA.out (.inr (.inl h16e))).2 (fun hc => hse ((HB.out p hlt).symm ▸ hc.2)))
            clear hse h16e
            go_wp2_with fail
            refine (HN.out _ _).mono ?_; rintro e w2 ⟨rfl, hb⟩
            have HBL := Lib.hid hb
            clear hb
            go_wp2
            go_ret2
            exact ⟨ret_si' (by rw [HV.out]) (by rw [HV.out]; try (simp only; omega)), HBL.out⟩
      · have hpe : p = X.size := by omega
        by_cases hpb0 : p = b
        · have gz : ((p : Int) == (b : Int)) = true := by simp [hpb0]
          have HV := Lib.hid (HF0.out p hpb0 hbl (.inl hpe))
          clear hpb0
          go_wp2
          go_ret2
          exact ⟨ret_si' (by rw [HV.out]; rfl) (by rw [HV.out]; rfl), Below.refl _ _⟩
        · have gz : ((p : Int) == (b : Int)) = false := by simp; omega
          have HV := Lib.hid ((HF1.out p (by omega) (by omega) (by omega) HA.out (.inl hpe)).2 (by omega))
          clear hpb0 hpe
          go_wp2_with fail
          refine (HN.out _ _).mono ?_; rintro e w2 ⟨rfl, hb⟩
          have HBL := Lib.hid hb
          clear hb
          go_wp2
          go_ret2
          exact ⟨ret_si' (by rw [HV.out]) (by rw [HV.out]; try (simp only; omega)), HBL.out⟩
end Go.Proofs.Ytpepoccoljmmjaa
