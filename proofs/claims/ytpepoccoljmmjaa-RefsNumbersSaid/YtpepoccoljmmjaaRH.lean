/- Whether more could come, and the reference at the front: the program's. -/
import Derived.Test.YtpepoccoljmmjaaRG
set_option linter.unusedVariables false
namespace Go.Proofs.Ytpepoccoljmmjaa
open Go.RowKit Go.Shelf

theorem hp1 {l : Bs} (h : Lib.hasPrefix l [38] = true) : l = 38 :: l.drop 1 := by
  obtain ⟨t, rfl⟩ := List.isPrefixOf_iff_prefix.1 h; rfl
theorem hp2 {l : Bs} (h : Lib.hasPrefix l [38, 35] = true) : l = 38 :: 35 :: l.drop 2 := by
  obtain ⟨t, rfl⟩ := List.isPrefixOf_iff_prefix.1 h; rfl
theorem hp21 {l : Bs} (h : Lib.hasPrefix l [38] = false) : Lib.hasPrefix l [38, 35] = false := by
  cases h2 : Lib.hasPrefix l [38, 35]
  · rfl
  · have := hp2 h2; rw [this] at h; simp [Lib.hasPrefix, List.isPrefixOf] at h
theorem np2 {l : Bs} (h1 : Lib.hasPrefix l [38] = true) (h2 : Lib.hasPrefix l [38, 35] = false) : (l.drop 1).head? ≠ some 35 := by
  intro h
  have := hp1 h1
  cases hr : l.drop 1 with
  | nil => rw [hr] at h; simp at h
  | cons c r =>
    rw [hr] at h this
    have hc : c = 35 := by simpa using h
    subst hc
    rw [this] at h2; simp [Lib.hasPrefix, List.isPrefixOf] at h2
theorem np1 {l : Bs} (h : Lib.hasPrefix l [38] = false) : ∀ r, l ≠ 38 :: r := by
  rintro r rfl; simp [Lib.hasPrefix, List.isPrefixOf] at h
theorem more_num {l : Bs} (h : Lib.hasPrefix l [38, 35] = true) : more l = decide (nbg (l.drop 2) + (ndig (l.drop 2)).length = (l.drop 2).length) := by
  have := hp2 h
  generalize l.drop 2 = r at *
  subst this; rfl
theorem more_name {l : Bs} (h1 : Lib.hasPrefix l [38] = true) (h2 : Lib.hasPrefix l [38, 35] = false) : more l = moreN (l.drop 1) := by
  have h3 := np2 h1 h2
  have := hp1 h1
  generalize l.drop 1 = r at *
  subst this; unfold more; simp only; rw [if_neg h3]
theorem more_none {l : Bs} (h : Lib.hasPrefix l [38] = false) : more l = false := by
  unfold more; split
  · rename_i r; exact absurd rfl (np1 h r)
  · rfl
theorem tk_num {q : Bool} {l : Bs} (h : Lib.hasPrefix l [38, 35] = true) : tk q l = tkN (l.drop 2) := by
  have := hp2 h
  generalize l.drop 2 = r at *
  subst this; rfl
theorem tk_name {q : Bool} {l : Bs} (h1 : Lib.hasPrefix l [38] = true) (h2 : Lib.hasPrefix l [38, 35] = false) : tk q l = if (fnd (l.drop 1)).2 = 0 ∨ nogo q (l.drop 1) (fnd (l.drop 1)).2 = true then ([], 0) else ((fnd (l.drop 1)).1, (fnd (l.drop 1)).2 + 1) := by
  have h3 := np2 h1 h2
  have := hp1 h1
  generalize l.drop 1 = r at *
  subst this; unfold tk; simp only; rw [if_neg h3]
theorem tk_none {q : Bool} {l : Bs} (h : Lib.hasPrefix l [38] = false) : tk q l = ([], 0) := by
  unfold tk; split
  · rename_i r; exact absurd rfl (np1 h r)
  · rfl
theorem hasp_amp (X : ByteArray) (w : World) : Calls Try.prog 34 #[.string X, .string ⟨#[38]⟩] w fun e w' => e = .returned (.bool (Lib.hasPrefix X.data.toList [38])) ∧ w = w' := by
  refine (hasp_any X ⟨#[38]⟩ w).mono ?_; rintro e w' ⟨rfl, rfl⟩; exact ⟨rfl, rfl⟩
theorem hasp_num (X : ByteArray) (w : World) : Calls Try.prog 34 #[.string X, .string ⟨#[38, 35]⟩] w fun e w' => e = .returned (.bool (Lib.hasPrefix X.data.toList [38, 35])) ∧ w = w' := by
  refine (hasp_any X ⟨#[38, 35]⟩ w).mono ?_; rintro e w' ⟨rfl, rfl⟩; exact ⟨rfl, rfl⟩
theorem hp_size {X : ByteArray} {p : Bs} (h : Lib.hasPrefix X.data.toList p = true) : p.length ≤ X.size := by
  have := (prefix_take h).1; rwa [len_data] at this

set_option maxRecDepth 10000 in
set_option maxHeartbeats 4000000 in
theorem more_any (X : ByteArray) (w : World) (hs : X.size ≤ 4611686018427387904) (hm : MaxLen w) :
    Calls Try.prog 19 #[.string X] w fun e w' => e = .returned (.bool (more X.data.toList)) ∧ w = w' := by
  have hll := len_data X
  have hpa := hasp_amp X w
  have hpn := hasp_num X w
  obtain ⟨R, hR⟩ : ∃ R, R = more X.data.toList := ⟨_, rfl⟩
  rw [← hR]
  cases h2 : Lib.hasPrefix X.data.toList [38, 35]
  · cases h1 : Lib.hasPrefix X.data.toList [38]
    · have HV : Hid (R = false) := Lib.hid (hR.trans (more_none h1))
      rw [h1] at hpa
      rw [h2] at hpn
      have HPA := Lib.hid hpa
      have HPN := Lib.hid hpn
      clear hpa hpn hR h1 h2 hll hm
      go_enter Try.func19, Try.ntmps19
      go_wp2_with fail
      refine HPN.out.mono ?_; rintro e w1 ⟨rfl, rfl⟩
      go_wp2_with fail
      refine HPA.out.mono ?_; rintro e w1 ⟨rfl, rfl⟩
      go_wp2
      go_ret
      exact ⟨ret_bool (by rw [HV.out]), rfl⟩
    · have hsz : 1 ≤ X.size := hp_size h1
      have hn := nameBegins_any (X.extract 1 X.size) w (by rw [ext_size _ _ _ (Nat.le_refl _)]; omega) hm
      rw [ext_drop, ← more_name h1 h2, ← hR] at hn
      rw [h1] at hpa
      rw [h2] at hpn
      have HPA := Lib.hid hpa
      have HPN := Lib.hid hpn
      have HN := Lib.hid hn
      clear hpa hpn hR h1 h2 hll hn hm
      go_enter Try.func19, Try.ntmps19
      go_wp2_with fail
      refine HPN.out.mono ?_; rintro e w1 ⟨rfl, rfl⟩
      go_wp2_with fail
      refine HPA.out.mono ?_; rintro e w1 ⟨rfl, rfl⟩
      go_wp2_with fail
      refine HN.out.mono ?_; rintro e w1 ⟨rfl, rfl⟩
      go_wp2
      go_ret
      exact ⟨rfl, rfl⟩
  · have hsz : 2 ≤ X.size := hp_size h2
    have hnb := nbegins_any X w (by omega)
    rw [h2] at hpn
    obtain ⟨b, hb⟩ : ∃ b, b = 2 + nbg (X.data.toList.drop 2) := ⟨_, rfl⟩
    obtain ⟨h, hh⟩ : ∃ h, h = hexB (X.data.toList.drop 2) := ⟨_, rfl⟩
    have hb3 : b ≤ 3 := by rw [hb]; unfold nbg; split <;> omega
    have hbl : b ≤ X.size := by
      rw [hb]; unfold nbg; split
      · rename_i hx
        by_cases he : 2 < X.size
        · omega
        · rw [hexB_end (by omega)] at hx; cases hx
      · omega
    have hdig : ∀ p (hp : p < X.size) wx, Calls Try.prog 40 #[.int .u8 X[p].toNat, .int .i64 (bse h)] wx fun e w' => e = .returned (.int .i64 (dg h (X.data.toList.getD p 0))) ∧ wx = w' := fun p hp wx => by
      rw [byte_getD X p hp]; exact digit_any h _ wx
    have hfin := fun k h1 h2' h3 h4 => (tkN_is X.data.toList b k h hb hh (by omega) h1 h2' h3 h4).1
    rw [← hb, ← hh] at hnb
    obtain ⟨td, htd⟩ : ∃ f : Nat → Int, f = fun p => dg h (X.data.toList.getD p 0) := ⟨_, rfl⟩
    have e1 : ∀ p, dg h (X.data.toList.getD p 0) = td p := fun p => by rw [htd]
    simp only [e1] at hfin hdig
    have hres : ∀ p, b ≤ p → p ≤ X.size → p ≤ b + 16 → (∀ j, b ≤ j → j < p → 0 ≤ td j) → (p = X.size ∨ p = b + 16 ∨ (p < X.size ∧ td p < 0)) → R = decide (p = X.size) := fun p h1 h2' h3 h4 h5 => by
      obtain ⟨k, rfl⟩ : ∃ k, p = b + k := ⟨p - b, by omega⟩
      have := hfin k (by omega) (by omega) (fun j hj => h4 _ (by omega) (by omega)) (by rw [hll]; rcases h5 with h5 | h5 | h5; (· exact .inl h5); (· exact .inr (.inl (by omega))); exact .inr (.inr h5))
      rw [hR, more_num h2, this]
      have hl2 : ((X.data.toList.drop b).take k).length = k := by rw [List.length_take, List.length_drop]; omega
      have hl3 : (X.data.toList.drop 2).length = X.size - 2 := by rw [List.length_drop]; omega
      rw [hl2, hl3]
      congr 1; rw [eq_iff_iff]; omega
    have HPN := Lib.hid hpn
    have HNB := Lib.hid hnb
    have HD := Lib.hid hdig
    have HR := Lib.hid hres
    clear hpa hpn hR hll hnb hdig hfin hres hb hh htd e1 h2 hm
    go_enter Try.func19, Try.ntmps19
    go_wp2_with fail
    refine HPN.out.mono ?_; rintro e w1 ⟨rfl, rfl⟩
    go_wp2_with fail
    refine HNB.out.mono ?_; rintro e w1 ⟨rfl, rfl⟩
    go_wp2_with fail
    go_loop [5] (fun i => ∃ p : Nat, b ≤ p ∧ p ≤ X.size ∧ p ≤ b + 16 ∧ i = .int .i64 p ∧ ∀ j, b ≤ j → j < p → 0 ≤ td j) (fun i => X.size - (intOf i).toNat)
    case atStart => exact ⟨b, by omega, by omega, by omega, rfl, fun j h1 h2 => by omega⟩
    case round =>
      obtain ⟨p, hbp, hps, hp16, rfl, hall⟩ := hrel
      have HA := Lib.hid hall
      clear hall
      by_cases hlt : p < X.size
      · by_cases h16 : p < b + 16
        · have H := Lib.hid (HD.out p hlt)
          have g16 : ((p : Int) == (b : Int) + 16) = false := by simp; omega
          by_cases hdp : 0 ≤ td p
          · have HN1 : Hid (∀ j, b ≤ j → j < p + 1 → 0 ≤ td j) := Lib.hid fun j h1 h2 => by
              by_cases e : j = p
              · subst e; exact hdp
              · exact HA.out j h1 (by omega)
            obtain ⟨d, hd'⟩ : ∃ d, d = td p := ⟨_, rfl⟩
            rw [← hd'] at H hdp
            clear hd'
            go_wp2_with fail
            refine (H.out _).mono ?_; rintro e w1 ⟨rfl, rfl⟩
            go_wp2
            go_round
            case rel => exact ⟨p + 1, by omega, by omega, by omega, by go_num, HN1.out⟩
            case measure => simp [intOf]; omega
          · have HV := Lib.hid (HR.out p hbp hps hp16 HA.out (.inr (.inr ⟨hlt, by omega⟩)))
            have hne : ¬ p = X.size := by omega
            have HNE := Lib.hid hne
            have hdn : td p < 0 := by omega
            obtain ⟨d, hd'⟩ : ∃ d, d = td p := ⟨_, rfl⟩
            rw [← hd'] at H hdn
            clear hd' hdp hne
            go_wp2_with fail
            refine (H.out _).mono ?_; rintro e w1 ⟨rfl, rfl⟩
            go_wp2
            go_ret
            exact ⟨ret_bool (by rw [HV.out, decide_eq_false HNE.out]), rfl⟩
        · have HV := Lib.hid (HR.out p hbp hps hp16 HA.out (.inr (.inl (by omega))))
          have HNE : Hid (¬ p = X.size) := Lib.hid (by omega)
          have g16 : ((p : Int) == (b : Int) + 16) = true := by simp; omega
          go_wp2
          go_ret
          exact ⟨ret_bool (by rw [HV.out, decide_eq_false HNE.out]), rfl⟩
      · have HPE : Hid (p = X.size) := Lib.hid (by omega)
        have HV := Lib.hid (HR.out p hbp hps hp16 HA.out (.inl HPE.out))
        go_wp2
        go_ret
        exact ⟨ret_bool (by rw [HV.out, decide_eq_true HPE.out]), rfl⟩

set_option maxRecDepth 10000 in
set_option maxHeartbeats 4000000 in
theorem take_any (X : ByteArray) (q : Bool) (w : World) (hs : X.size ≤ 4611686018427387904) :
    Calls Try.prog 17 #[.string X, .bool q] w fun e w' => e = .returned (.tuple #[.string (bs (tk q X.data.toList).1), .int .i64 ((tk q X.data.toList).2 : Nat)]) ∧ Below w.heap.size w w' := by
  have hll := len_data X
  have hpa := hasp_amp X w
  have hpn := hasp_num X w
  obtain ⟨F, hF⟩ : ∃ F, F = tk q X.data.toList := ⟨_, rfl⟩
  rw [← hF]
  cases h2 : Lib.hasPrefix X.data.toList [38, 35]
  · cases h1 : Lib.hasPrefix X.data.toList [38]
    · have HV : Hid (F = ([], 0)) := Lib.hid (hF.trans (tk_none h1))
      rw [h1] at hpa
      rw [h2] at hpn
      have HPA := Lib.hid hpa
      have HPN := Lib.hid hpn
      clear hpa hpn hF h1 h2 hll
      go_enter Try.func17, Try.ntmps17
      go_wp2_with fail
      refine HPN.out.mono ?_; rintro e w1 ⟨rfl, rfl⟩
      go_wp2_with fail
      refine HPA.out.mono ?_; rintro e w1 ⟨rfl, rfl⟩
      go_wp2
      go_ret2
      exact ⟨ret_si' (by rw [HV.out]; rfl) (by rw [HV.out]; rfl), Below.refl _ _⟩
    · have hsz : 1 ≤ X.size := hp_size h1
      have hn := find_any (X.extract 1 X.size) w (by rw [ext_size _ _ _ (Nat.le_refl _)]; omega)
      have hfl := (fnd_le (X.data.toList.drop 1)).1
      rw [List.length_drop, hll] at hfl
      rw [ext_drop] at hn
      rw [tk_name h1 h2] at hF
      rw [h1] at hpa
      rw [h2] at hpn
      have hby : ∀ p (hp : p + 1 < X.size), (X.data.toList.drop 1)[p]? = some X[p + 1] := fun p hp => by
        rw [List.getElem?_drop, List.getElem?_eq_getElem (by omega), byte_at X (p + 1) hp]; congr 2; omega
      have hbe : ∀ p, X.size ≤ p + 1 → (X.data.toList.drop 1)[p]? = none := fun p hp => by
        rw [List.getElem?_eq_none]; rw [List.length_drop]; omega
      generalize X.data.toList.drop 1 = r at hn hfl hF hby hbe
      obtain ⟨c, m, hcm⟩ : ∃ c m, fnd r = (c, m) := ⟨_, _, rfl⟩
      rw [hcm] at hn hfl hF
      simp only at hn hfl hF
      have HPA := Lib.hid hpa
      have HPN := Lib.hid hpn
      have HN := Lib.hid hn
      clear hpa hpn h1 h2 hll hn hcm
      by_cases hm0 : m = 0
      · have HV : Hid (F = ([], 0)) := Lib.hid (by rw [hF, if_pos (.inl hm0)])
        subst hm0
        clear hF hby hbe
        go_enter Try.func17, Try.ntmps17
        go_wp2_with fail
        refine HPN.out.mono ?_; rintro e w1 ⟨rfl, rfl⟩
        go_wp2_with fail
        refine HPA.out.mono ?_; rintro e w1 ⟨rfl, rfl⟩
        go_wp2_with fail
        refine HN.out.mono ?_; rintro e w1 ⟨rfl, rfl⟩
        go_wp2
        go_ret2
        exact ⟨ret_si' (by rw [HV.out]; rfl) (by rw [HV.out]; rfl), Below.refl _ _⟩
      have hyes : nogo q r m = false → F = (c, m + 1) := fun h => by rw [hF, if_neg (by rw [h]; simp [hm0])]
      have hno : nogo q r m = true → F = ([], 0) := fun h => by rw [hF, if_pos (.inr h)]
      have gm : ((m : Int) + 1 == 1) = false := by simp; omega
      have hm1 : r[m - 1]? = some X[m] := by have := hby (m - 1) (by omega); rw [this]; congr 2; omega
      cases q
      · have HV := Lib.hid (hyes (by unfold nogo; simp))
        clear hF hby hbe hyes hno hm1
        go_enter Try.func17, Try.ntmps17
        go_wp2_with fail
        refine HPN.out.mono ?_; rintro e w1 ⟨rfl, rfl⟩
        go_wp2_with fail
        refine HPA.out.mono ?_; rintro e w1 ⟨rfl, rfl⟩
        go_wp2_with fail
        refine HN.out.mono ?_; rintro e w1 ⟨rfl, rfl⟩
        go_wp2
        go_ret2
        exact ⟨ret_si' (by rw [HV.out]) (by rw [HV.out]; try (simp only; omega)), Below.refl _ _⟩
      have hxm : m < X.size := by omega
      have hidx : (m : Int) + 1 - 1 = m := by omega
      by_cases he : (X[m].toNat : Int) = 59
      · have HV := Lib.hid (hyes (by unfold nogo; rw [hm1]; rw [show X[m] = 59 from UInt8.toNat_inj.1 (by simpa using (by omega : X[m].toNat = 59))]; simp))
        have ge : ((X[m].toNat : Int) == 59) = true := by simp [he]
        have ge2 : ((X[m].toNat : Int) != 59) = false := by simp [he]
        clear hF hby hbe hyes hno hm1 he
        go_enter Try.func17, Try.ntmps17
        go_wp2_with fail
        refine HPN.out.mono ?_; rintro e w1 ⟨rfl, rfl⟩
        go_wp2_with fail
        refine HPA.out.mono ?_; rintro e w1 ⟨rfl, rfl⟩
        go_wp2_with fail
        refine HN.out.mono ?_; rintro e w1 ⟨rfl, rfl⟩
        go_wp2
        go_ret2
        exact ⟨ret_si' (by rw [HV.out]) (by rw [HV.out]; try (simp only; omega)), Below.refl _ _⟩
      have hne : X[m] ≠ 59 := fun h => he (by rw [h]; rfl)
      have ge : ((X[m].toNat : Int) == 59) = false := by simp [he]
      have ge2 : ((X[m].toNat : Int) != 59) = true := by simp [he]
      by_cases hlt : m + 1 < X.size
      · have hr := hby m hlt
        have hgo := fun wx => goes_any X[m + 1] wx
        have hng : nogo true r m = goes X[m + 1] := by unfold nogo; rw [hm1, hr]; simp [hne]
        rw [hng] at hyes hno
        cases hg : goes X[m + 1]
        · have HV := Lib.hid (hyes hg)
          rw [hg] at hgo
          have HG := Lib.hid hgo
          clear hF hby hbe hyes hno hm1 he hne hr hgo hng hg
          go_enter Try.func17, Try.ntmps17
          go_wp2_with fail
          refine HPN.out.mono ?_; rintro e w1 ⟨rfl, rfl⟩
          go_wp2_with fail
          refine HPA.out.mono ?_; rintro e w1 ⟨rfl, rfl⟩
          go_wp2_with fail
          refine HN.out.mono ?_; rintro e w1 ⟨rfl, rfl⟩
          go_wp2_with fail
          refine (HG.out _).mono ?_; rintro e w1 ⟨rfl, rfl⟩
          go_wp2
          go_ret2
          exact ⟨ret_si' (by rw [HV.out]) (by rw [HV.out]; try (simp only; omega)), Below.refl _ _⟩
        · have HV := Lib.hid (hno hg)
          rw [hg] at hgo
          have HG := Lib.hid hgo
          clear hF hby hbe hyes hno hm1 he hne hr hgo hng hg
          go_enter Try.func17, Try.ntmps17
          go_wp2_with fail
          refine HPN.out.mono ?_; rintro e w1 ⟨rfl, rfl⟩
          go_wp2_with fail
          refine HPA.out.mono ?_; rintro e w1 ⟨rfl, rfl⟩
          go_wp2_with fail
          refine HN.out.mono ?_; rintro e w1 ⟨rfl, rfl⟩
          go_wp2_with fail
          refine (HG.out _).mono ?_; rintro e w1 ⟨rfl, rfl⟩
          go_wp2
          go_ret2
          exact ⟨ret_si' (by rw [HV.out]; rfl) (by rw [HV.out]; rfl), Below.refl _ _⟩
      · have HV := Lib.hid (hyes (by unfold nogo; rw [hbe m (by omega)]; simp))
        clear hF hby hbe hyes hno hm1 he hne
        go_enter Try.func17, Try.ntmps17
        go_wp2_with fail
        refine HPN.out.mono ?_; rintro e w1 ⟨rfl, rfl⟩
        go_wp2_with fail
        refine HPA.out.mono ?_; rintro e w1 ⟨rfl, rfl⟩
        go_wp2_with fail
        refine HN.out.mono ?_; rintro e w1 ⟨rfl, rfl⟩
        go_wp2
        go_ret2
        exact ⟨ret_si' (by rw [HV.out]) (by rw [HV.out]; try (simp only; omega)), Below.refl _ _⟩
  · have hsz : 2 ≤ X.size := hp_size h2
    have ht := takeNumber_any X w hs hsz
    rw [← tk_num (q := q) h2, ← hF] at ht
    rw [h2] at hpn
    have HPN := Lib.hid hpn
    have HT := Lib.hid ht
    clear hpa hpn hF h2 hll ht
    go_enter Try.func17, Try.ntmps17
    go_wp2_with fail
    refine HPN.out.mono ?_; rintro e w1 ⟨rfl, rfl⟩
    go_wp2_with fail
    refine HT.out.mono ?_; rintro e w1 ⟨rfl, hb⟩
    have HB := Lib.hid hb
    clear hb
    go_wp2
    go_ret2
    exact ⟨rfl, HB.out⟩
end Go.Proofs.Ytpepoccoljmmjaa
