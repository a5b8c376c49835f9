/- The reference at the front, and whether more could come: the document's answers. -/
import Derived.Test.YtpepoccoljmmjaaRS
import Derived.Test.YtpepoccoljmmjaaRL
set_option linter.unusedVariables false
namespace Go.Proofs.Ytpepoccoljmmjaa
open Go.RowKit Go.Shelf

theorem rbeg_lit (X : ByteArray) (P : ByteArray) (p : Bs) (hP : P.data.toList = p) (w : World) (hx : X.size ≤ 9223372036854775807) (hp : P.size ≤ 9223372036854775807) : Calls Try.prog 31 #[.string X, .string P] w fun e w' => e = .returned (.bool (Lib.hasPrefix X.data.toList p)) ∧ w = w' := by
  have := rbeg_any X P w hx hp
  rwa [hP] at this
theorem head_semi (r : Bs) : (r.head? = some 59) ↔ Lib.hasPrefix r [59] = true := by
  cases r with
  | nil => simp [Lib.hasPrefix, List.isPrefixOf]
  | cons c t => simp [Lib.hasPrefix, List.isPrefixOf]; exact ⟨fun h => h.symm, fun h => h.symm⟩
theorem goes_lwr (c : UInt8) : goes c = ((decide (97 ≤ (lwr c).toNat) && decide ((lwr c).toNat ≤ 122)) || (decide (48 ≤ (lwr c).toNat) && decide ((lwr c).toNat ≤ 57)) || decide ((lwr c).toNat = 61)) := by
  have : ∀ n, n < 256 → goes (UInt8.ofNat n) = ((decide (97 ≤ (lwr (UInt8.ofNat n)).toNat) && decide ((lwr (UInt8.ofNat n)).toNat ≤ 122)) || (decide (48 ≤ (lwr (UInt8.ofNat n)).toNat) && decide ((lwr (UInt8.ofNat n)).toNat ≤ 57)) || decide ((lwr (UInt8.ofNat n)).toNat = 61)) := by decide +kernel
  have h := this c.toNat c.toNat_lt
  rwa [UInt8.ofNat_toNat] at h
theorem goes_int (c : UInt8) (y : Int) (hy : y = ((lwr c).toNat : Int)) : (goes c = true → (97 ≤ y ∧ y ≤ 122) ∨ (48 ≤ y ∧ y ≤ 57) ∨ y = 61) ∧ (goes c = false → y < 48 ∨ (48 ≤ y ∧ 57 < y ∧ y < 97 ∧ y ≠ 61) ∨ (97 ≤ y ∧ 122 < y)) := by
  rw [goes_lwr, hy]
  constructor
  · intro h
    simp only [Bool.or_eq_true, Bool.and_eq_true, decide_eq_true_eq] at h; omega
  · intro h
    simp only [Bool.or_eq_false_iff, Bool.and_eq_false_iff, decide_eq_false_iff_not] at h; omega

set_option maxRecDepth 10000 in
set_option maxHeartbeats 8000000 in
theorem rtake_any (X : ByteArray) (q : Bool) (w : World) (hs : X.size ≤ 4611686018427387904) :
    Calls Try.prog 18 #[.string X, .bool q] w fun e w' => e = .returned (.tuple #[.string (bs (tk q X.data.toList).1), .int .i64 ((tk q X.data.toList).2 : Nat)]) ∧ Below w.heap.size w w' := by
  have hll := len_data X
  have hpa := fun wx => rbeg_lit X ⟨#[38]⟩ [38] rfl wx (by omega) (by decide)
  have hpn := fun wx => rbeg_lit X ⟨#[38, 35]⟩ [38, 35] rfl wx (by omega) (by decide)
  obtain ⟨F, hF⟩ : ∃ F, F = tk q X.data.toList := ⟨_, rfl⟩
  rw [← hF]
  cases h2 : Lib.hasPrefix X.data.toList [38, 35]
  · cases h1 : Lib.hasPrefix X.data.toList [38]
    · have HV : Hid (F = ([], 0)) := Lib.hid (hF.trans (tk_none h1))
      rw [h1] at hpa
      rw [h2] at hpn
      have HPA := Lib.hid hpa
      have HPN := Lib.hid hpn
      clear hpa hpn hF h1 h2 hll
      go_enter Try.func18, Try.ntmps18
      go_wp2_with fail
      refine (HPN.out _).mono ?_; rintro e w1 ⟨rfl, rfl⟩
      go_wp2_with fail
      refine (HPA.out _).mono ?_; rintro e w1 ⟨rfl, rfl⟩
      go_wp2
      go_ret2
      exact ⟨ret_si' (by rw [HV.out]; rfl) (by rw [HV.out]; rfl), Below.refl _ _⟩
    · have hsz : 1 ≤ X.size := hp_size h1
      have hn := fun wx => rfind_any (X.extract 1 X.size) wx (by rw [ext_size _ _ _ (Nat.le_refl _)]; omega)
      have hfl := (fnd_le (X.data.toList.drop 1)).1
      rw [List.length_drop, hll] at hfl
      rw [ext_drop] at hn
      rw [tk_name h1 h2] at hF
      rw [h1] at hpa
      rw [h2] at hpn
      have hby : ∀ p (hp : p + 1 < X.size), (X.data.toList.drop 1)[p]? = some X[p + 1] := fun p hp => by
        rw [List.getElem?_drop, List.getElem?_eq_getElem (by omega), byte_at X (p + 1) hp]; congr 2; omega
      have hbe : ∀ p, X.size ≤ p + 1 → (X.data.toList.drop 1)[p]? = none := fun p hp => by
        rw [List.getElem?_eq_none]; rw [List.length_drop]; omega
      generalize X.data.toList.drop 1 = r at hn hfl hF hby hbe
      obtain ⟨c, m, hcm⟩ : ∃ c m, fnd r = (c, m) := ⟨_, _, rfl⟩
      rw [hcm] at hn hfl hF
      simp only at hn hfl hF
      have HPA := Lib.hid hpa
      have HPN := Lib.hid hpn
      have HN := Lib.hid hn
      clear hpa hpn h1 h2 hll hn hcm
      by_cases hm0 : m = 0
      · have HV : Hid (F = ([], 0)) := Lib.hid (by rw [hF, if_pos (.inl hm0)])
        subst hm0
        clear hF hby hbe
        go_enter Try.func18, Try.ntmps18
        go_wp2_with fail
        refine (HPN.out _).mono ?_; rintro e w1 ⟨rfl, rfl⟩
        go_wp2_with fail
        refine (HPA.out _).mono ?_; rintro e w1 ⟨rfl, rfl⟩
        go_wp2_with fail
        refine (HN.out _).mono ?_; rintro e w1 ⟨rfl, hb⟩
        have HB := Lib.hid hb
        clear hb
        go_wp2
        go_ret2
        exact ⟨ret_si' (by rw [HV.out]; rfl) (by rw [HV.out]; rfl), HB.out⟩
      have hyes : nogo q r m = false → F = (c, m + 1) := fun h => by rw [hF, if_neg (by rw [h]; simp [hm0])]
      have hno : nogo q r m = true → F = ([], 0) := fun h => by rw [hF, if_pos (.inr h)]
      have gm : ((m : Int) == 0) = false := by rw [beq_eq_false_iff_ne]; omega
      have hm1 : r[m - 1]? = some X[m] := by have := hby (m - 1) (by omega); rw [this]; congr 2; omega
      cases q
      · have HV := Lib.hid (hyes (by unfold nogo; simp))
        clear hF hby hbe hyes hno hm1
        go_enter Try.func18, Try.ntmps18
        go_wp2_with fail
        refine (HPN.out _).mono ?_; rintro e w1 ⟨rfl, rfl⟩
        go_wp2_with fail
        refine (HPA.out _).mono ?_; rintro e w1 ⟨rfl, rfl⟩
        go_wp2_with fail
        refine (HN.out _).mono ?_; rintro e w1 ⟨rfl, hb⟩
        have HB := Lib.hid hb
        clear hb
        go_wp2
        go_ret2
        exact ⟨ret_si' (by rw [HV.out]) (by rw [HV.out]; try (simp only; omega)), HB.out⟩
      have hxm : m < X.size := by omega
      by_cases he : (X[m].toNat : Int) = 59
      · have HV := Lib.hid (hyes (by unfold nogo; rw [hm1]; rw [show X[m] = 59 from UInt8.toNat_inj.1 (by simpa using (by omega : X[m].toNat = 59))]; simp))
        have ge : ((X[m].toNat : Int) == 59) = true := by simp [he]
        have ge2 : ((X[m].toNat : Int) != 59) = false := by simp [he]
        clear hF hby hbe hyes hno hm1 he
        go_enter Try.func18, Try.ntmps18
        go_wp2_with fail
        refine (HPN.out _).mono ?_; rintro e w1 ⟨rfl, rfl⟩
        go_wp2_with fail
        refine (HPA.out _).mono ?_; rintro e w1 ⟨rfl, rfl⟩
        go_wp2_with fail
        refine (HN.out _).mono ?_; rintro e w1 ⟨rfl, hb⟩
        have HB := Lib.hid hb
        clear hb
        go_wp2
        go_ret2
        exact ⟨ret_si' (by rw [HV.out]) (by rw [HV.out]; try (simp only; omega)), HB.out⟩
      have hne : X[m] ≠ 59 := fun h => he (by rw [h]; rfl)
      have ge : ((X[m].toNat : Int) == 59) = false := by simp [he]
      have ge2 : ((X[m].toNat : Int) != 59) = true := by simp [he]
      by_cases hlt : m + 1 < X.size
      · have hr := hby m hlt
        have hng : nogo true r m = goes X[m + 1] := by unfold nogo; rw [hm1, hr]; simp [hne]
        rw [hng] at hyes hno
        have hsm := fun wx => small_any X[m + 1] wx
        obtain ⟨y, hy⟩ : ∃ y : Int, y = ((lwr X[m + 1]).toNat : Int) := ⟨_, rfl⟩
        obtain ⟨g1, g2⟩ := goes_int X[m + 1] y hy
        rw [← hy] at hsm
        have HG := Lib.hid hsm
        cases hg : goes X[m + 1]
        · have HV := Lib.hid (hyes hg)
          have g3 := g2 hg
          clear hF hby hbe hyes hno hm1 he hne hr hng hg hy g1 g2 hsm
          rcases g3 with g3 | ⟨g3, g4, g5, g6⟩ | ⟨g3, g4⟩
          all_goals
            have g61 : (y == 61) = false := by rw [beq_eq_false_iff_ne]; omega
            go_enter Try.func18, Try.ntmps18
            go_wp2_with fail
            refine (HPN.out _).mono ?_; rintro e w1 ⟨rfl, rfl⟩
            go_wp2_with fail
            refine (HPA.out _).mono ?_; rintro e w1 ⟨rfl, rfl⟩
            go_wp2_with fail
            refine (HN.out _).mono ?_; rintro e w1 ⟨rfl, hb⟩
            have HB := Lib.hid hb
            clear hb
            go_wp2_with fail
            refine (HG.out _).mono ?_; rintro e w2 ⟨rfl, rfl⟩
            go_wp2
            go_ret2
            exact ⟨ret_si' (by rw [HV.out]) (by rw [HV.out]; try (simp only; omega)), HB.out⟩
        · have HV := Lib.hid (hno hg)
          have g3 := g1 hg
          clear hF hby hbe hyes hno hm1 he hne hr hng hg hy g1 g2 hsm
          rcases g3 with ⟨g3, g4⟩ | ⟨g3, g4⟩ | rfl
          all_goals
            go_enter Try.func18, Try.ntmps18
            go_wp2_with fail
            refine (HPN.out _).mono ?_; rintro e w1 ⟨rfl, rfl⟩
            go_wp2_with fail
            refine (HPA.out _).mono ?_; rintro e w1 ⟨rfl, rfl⟩
            go_wp2_with fail
            refine (HN.out _).mono ?_; rintro e w1 ⟨rfl, hb⟩
            have HB := Lib.hid hb
            clear hb
            go_wp2_with fail
            refine (HG.out _).mono ?_; rintro e w2 ⟨rfl, rfl⟩
            go_wp2
            go_ret2
            exact ⟨ret_si' (by rw [HV.out]; rfl) (by rw [HV.out]; rfl), HB.out⟩
      · have HV := Lib.hid (hyes (by unfold nogo; rw [hbe m (by omega)]; simp))
        clear hF hby hbe hyes hno hm1 he hne
        go_enter Try.func18, Try.ntmps18
        go_wp2_with fail
        refine (HPN.out _).mono ?_; rintro e w1 ⟨rfl, rfl⟩
        go_wp2_with fail
        refine (HPA.out _).mono ?_; rintro e w1 ⟨rfl, rfl⟩
        go_wp2_with fail
        refine (HN.out _).mono ?_; rintro e w1 ⟨rfl, hb⟩
        have HB := Lib.hid hb
        clear hb
        go_wp2
        go_ret2
        exact ⟨ret_si' (by rw [HV.out]) (by rw [HV.out]; try (simp only; omega)), HB.out⟩
  · have hsz : 2 ≤ X.size := hp_size h2
    have hsx : (X.extract 2 X.size).size = X.size - 2 := ext_size _ _ _ (Nat.le_refl _)
    have hrun := fun wx => run_any (X.extract 2 X.size) wx (by omega)
    rw [tk_num (q := q) h2] at hF
    rw [ext_drop] at hrun
    have hle := ndig_le (X.data.toList.drop 2)
    rw [List.length_drop, hll] at hle
    have hnum := numC_rv (hexB (X.data.toList.drop 2)) (ndig (X.data.toList.drop 2)) (digs_all _ _)
    unfold tkN at hF
    rw [← hnum] at hF
    have hd2 : ∀ k, (X.data.toList.drop 2).drop k = X.data.toList.drop (2 + k) := fun k => by rw [List.drop_drop]
    rw [hd2] at hF
    have hsem := fun k (hk : 2 + k ≤ X.size) wx => rbeg_lit (X.extract (2 + k) X.size) ⟨#[59]⟩ [59] rfl wx (by rw [ext_size _ _ _ (Nat.le_refl _)]; omega) (by decide)
    simp only [ext_drop] at hsem
    rw [h2] at hpn
    generalize rv (hexB (X.data.toList.drop 2)) (ndig (X.data.toList.drop 2)) = v at hrun hF
    have hndz : ndig (X.data.toList.drop 2) = [] ↔ (ndig (X.data.toList.drop 2)).length = 0 := List.length_eq_zero_iff.symm
    simp only [hndz] at hF
    generalize (ndig (X.data.toList.drop 2)).length = k at hrun hle hF
    generalize nbg (X.data.toList.drop 2) = b at hrun hle hF
    have hnv := fun wx => rnumber_any v wx
    have hse := hsem (b + k) (by omega)
    rw [show 2 + b + k + (if (List.drop (2 + (b + k)) X.data.toList).head? = some 59 then 1 else 0) = (if Lib.hasPrefix (X.data.toList.drop (2 + (b + k))) [59] = true then b + k + 3 else b + k + 2) by
      by_cases hx : (List.drop (2 + (b + k)) X.data.toList).head? = some 59
      · rw [if_pos hx, if_pos ((head_semi _).1 hx)]; omega
      · rw [if_neg hx, if_neg (fun h => hx ((head_semi _).2 h))]; omega] at hF
    generalize Lib.hasPrefix (X.data.toList.drop (2 + (b + k))) [59] = sm at hse hF
    obtain ⟨n, hn⟩ : ∃ n, n = b + k := ⟨_, rfl⟩
    rw [← hn] at hrun hF hse hle
    have hn2 : n + 2 ≤ X.size := by omega
    have HPN := Lib.hid hpn
    have HRUN := Lib.hid hrun
    have HSE := Lib.hid hse
    have HNV := Lib.hid hnv
    clear hpa hpn h2 hll hrun hse hnv hsem hd2 hnum hle hn hndz
    by_cases hk0 : k = 0
    · have HV : Hid (F = ([], 0)) := Lib.hid (by rw [hF, if_pos hk0])
      subst hk0
      clear hF
      go_enter Try.func18, Try.ntmps18
      go_wp2_with fail
      refine (HPN.out _).mono ?_; rintro e w1 ⟨rfl, rfl⟩
      go_wp2_with fail
      refine (HRUN.out _).mono ?_; rintro e w1 ⟨rfl, hb⟩
      have HB := Lib.hid hb
      clear hb
      go_wp2
      go_ret2
      exact ⟨ret_si' (by rw [HV.out]; rfl) (by rw [HV.out]; rfl), HB.out⟩
    · rw [if_neg hk0] at hF
      have gk : ((k : Int) == 0) = false := by rw [beq_eq_false_iff_ne]; omega
      have hn3 : 2 + (n : Int) ≤ (X.size : Int) := by omega
      have hn4 : (0 : Int) ≤ 2 + (n : Int) := by omega
      cases sm
      · have HV : Hid (F = (numC v, n + 2)) := Lib.hid (by rw [hF]; rfl)
        clear hF hk0
        go_enter Try.func18, Try.ntmps18
        go_wp2_with fail
        refine (HPN.out _).mono ?_; rintro e w1 ⟨rfl, rfl⟩
        go_wp2_with fail
        refine (HRUN.out _).mono ?_; rintro e w1 ⟨rfl, hb⟩
        have HB := Lib.hid hb
        clear hb
        go_wp2_with fail
        refine (HSE.out _).mono ?_; rintro e w2 ⟨rfl, rfl⟩
        go_wp2_with fail
        refine (HNV.out _).mono ?_; rintro e w3 ⟨rfl, hb⟩
        have HB3 := Lib.hid (HB.out.trans (hb.mono HB.out.size))
        clear hb
        go_wp2
        go_ret2
        exact ⟨ret_si' (by rw [HV.out]) (by rw [HV.out]; try (simp only; omega)), HB3.out⟩
      · have HV : Hid (F = (numC v, n + 3)) := Lib.hid (by rw [hF]; rfl)
        clear hF hk0
        go_enter Try.func18, Try.ntmps18
        go_wp2_with fail
        refine (HPN.out _).mono ?_; rintro e w1 ⟨rfl, rfl⟩
        go_wp2_with fail
        refine (HRUN.out _).mono ?_; rintro e w1 ⟨rfl, hb⟩
        have HB := Lib.hid hb
        clear hb
        go_wp2_with fail
        refine (HSE.out _).mono ?_; rintro e w2 ⟨rfl, rfl⟩
        go_wp2_with fail
        refine (HNV.out _).mono ?_; rintro e w3 ⟨rfl, hb⟩
        have HB3 := Lib.hid (HB.out.trans (hb.mono HB.out.size))
        clear hb
        go_wp2
        go_ret2
        exact ⟨ret_si' (by rw [HV.out]) (by rw [HV.out]; try (simp only; omega)), HB3.out⟩
end Go.Proofs.Ytpepoccoljmmjaa
