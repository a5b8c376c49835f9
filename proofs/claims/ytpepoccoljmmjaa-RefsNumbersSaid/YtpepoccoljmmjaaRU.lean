/- Whether more could come: the document's answer. -/
import Derived.Test.YtpepoccoljmmjaaRT
set_option linter.unusedVariables false
namespace Go.Proofs.Ytpepoccoljmmjaa
open Go.RowKit Go.Shelf

theorem moreN_tab (t : Bs) : moreN t = tabR.any fun x => t.isPrefixOf x.1 := by
  unfold moreN; rw [tabR_is, List.any_map]; rfl
theorem more_row {t nme : Bs} : (decide (t.length + 1 < nme.length + 2) && Lib.hasPrefix (38 :: (nme ++ [59])) (38 :: t)) = t.isPrefixOf nme := by
  unfold Lib.hasPrefix
  rw [List.isPrefixOf_cons_cons, Bool.eq_iff_iff]
  simp only [Bool.and_eq_true, decide_eq_true_eq, beq_self_eq_true, true_and]
  rw [List.isPrefixOf_iff_prefix, List.isPrefixOf_iff_prefix]
  constructor
  · rintro ⟨h1, h2⟩
    rcases List.prefix_concat_iff.1 h2 with h | h
    · rw [h] at h1; simp at h1
    · exact h
  · intro h
    exact ⟨by have := h.length_le; omega, h.trans (List.prefix_append _ _)⟩

set_option maxRecDepth 10000 in
set_option maxHeartbeats 8000000 in
theorem rmore_any (X : ByteArray) (w : World) (hs : X.size ≤ 4611686018427387904) :
    Calls Try.prog 20 #[.string X] w fun e w' => e = .returned (.bool (more X.data.toList)) ∧ Below w.heap.size w w' := by
  have hll := len_data X
  have hpa := fun wx => rbeg_lit X ⟨#[38]⟩ [38] rfl wx (by omega) (by decide)
  have hpn := fun wx => rbeg_lit X ⟨#[38, 35]⟩ [38, 35] rfl wx (by omega) (by decide)
  obtain ⟨R, hR⟩ : ∃ R, R = more X.data.toList := ⟨_, rfl⟩
  rw [← hR]
  cases h2 : Lib.hasPrefix X.data.toList [38, 35]
  · cases h1 : Lib.hasPrefix X.data.toList [38]
    · have HV : Hid (R = false) := Lib.hid (hR.trans (more_none h1))
      rw [h1] at hpa
      rw [h2] at hpn
      have HPA := Lib.hid hpa
      have HPN := Lib.hid hpn
      clear hpa hpn hR h1 h2 hll
      go_enter Try.func20, Try.ntmps20
      go_wp2_with fail
      refine (HPN.out _).mono ?_; rintro e w1 ⟨rfl, rfl⟩
      go_wp2_with fail
      refine (HPA.out _).mono ?_; rintro e w1 ⟨rfl, rfl⟩
      go_wp2
      go_ret
      exact ⟨ret_bool (by rw [HV.out]), Below.refl _ _⟩
    · have hsz : 1 ≤ X.size := hp_size h1
      rw [more_name h1 h2, moreN_tab] at hR
      have hX := hp1 h1
      obtain ⟨t, ht⟩ : ∃ t, t = X.data.toList.drop 1 := ⟨_, rfl⟩
      rw [← ht] at hR hX
      have htl : X.size = t.length + 1 := by rw [← hll, hX]; simp
      have hrow : ∀ j (hj : j < 44), ∀ N : ByteArray, N = bs (tabR[j]'hj).1 → (decide (X.size < N.size + 2) && Lib.hasPrefix ((⟨#[38]⟩ : ByteArray) ++ N ++ (⟨#[59]⟩ : ByteArray)).data.toList X.data.toList) = t.isPrefixOf (tabR[j]'hj).1 := fun j hj N hN => by
        have hNl : N.data.toList = (tabR[j]'hj).1 := by rw [hN]; exact data_mk _
        rw [htl, hX, cat_list, cat_list, ← len_data N, hNl]
        exact more_row
      have hbeg : ∀ (P : ByteArray) (wx : World), P.size ≤ 9223372036854775807 → Calls Try.prog 31 #[.string P, .string X] wx fun e w' => e = .returned (.bool (Lib.hasPrefix P.data.toList X.data.toList)) ∧ wx = w' := fun P wx h => rbeg_any P X wx h (by omega)
      have hyes : ∀ j (hj : j < 44), t.isPrefixOf (tabR[j]'hj).1 = true → R = true := fun j hj h => by
        rw [hR, List.any_eq_true]; exact ⟨_, List.getElem_mem (l := tabR) hj, h⟩
      have hno : (∀ j (hj : j < 44), t.isPrefixOf (tabR[j]'hj).1 = false) → R = false := fun h => by
        rw [hR, List.any_eq_false]
        intro x hx
        obtain ⟨j, hj, rfl⟩ := List.getElem_of_mem hx
        rw [h j hj]; simp
      have hN13 : ∀ j (hj : j < 44), (tabR[j]'hj).1.length ≤ 13 := fun j hj => (tabR_ok _ (List.getElem_mem (l := tabR) hj)).2.2
      have hcell : ∀ wr, Below (w.heap.size + 1) (w.alloc (.cells tabCells 44)) wr → ∀ k (hk : k < 44), wr.cell? ⟨w.heap.size, k * 4, none⟩ = some (.string (bs (tabR[k]'hk).1)) := fun wr hb k hk => by
        have key : ∀ o, wr.cell? ⟨w.heap.size, o, none⟩ = (w.alloc (.cells tabCells 44)).cell? ⟨w.heap.size, o, none⟩ := fun o => hb.cell (p := ⟨w.heap.size, o, none⟩) (by show w.heap.size < _; omega)
        have := tab_at w k 0 hk (by omega)
        rw [show 4 * k + 0 = k * 4 by omega] at this
        exact (key _).trans this
      have hb1 : Below w.heap.size w (w.alloc (.cells tabCells 44)) := (Below.refl _ _).alloc (Nat.le_refl _) _
      rw [h1] at hpa
      rw [h2] at hpn
      have HPA := Lib.hid hpa
      have HPN := Lib.hid hpn
      have HNM := Lib.hid fun wx => names_any wx
      have HROW := Lib.hid hrow
      have HBEG := Lib.hid hbeg
      have HYES := Lib.hid hyes
      have HNO := Lib.hid hno
      have H13 := Lib.hid hN13
      have HC := Lib.hid hcell
      have HB1 := Lib.hid hb1
      clear hpa hpn h1 h2 hll hrow hbeg hyes hno hN13 hcell hb1 hX ht hR
      go_enter Try.func20, Try.ntmps20
      go_wp2_with fail
      refine (HPN.out _).mono ?_; rintro e w1 ⟨rfl, rfl⟩
      go_wp2_with fail
      refine (HPA.out _).mono ?_; rintro e w1 ⟨rfl, rfl⟩
      go_wp2_with fail
      refine (HNM.out _).mono ?_; rintro e w1 ⟨rfl, hw1⟩
      rw [← hw1] at HC HB1
      have hsz1 : w1.heap.size = w.heap.size + 1 := by rw [hw1]; simp
      clear hw1 HNM
      go_wp2_with fail
      go_loopw [7] (fun i wr => ∃ k : Nat, k ≤ 44 ∧ i = .int .i64 k ∧ (∀ j (hj : j < 44), j < k → t.isPrefixOf (tabR[j]'hj).1 = false) ∧ Below w1.heap.size w1 wr) (fun i _ => 44 - (intOf i).toNat)
      case atStart => exact ⟨0, by omega, rfl, fun j hj h => by omega, Below.refl _ _⟩
      case round =>
        obtain ⟨k, hk, rfl, hall, hb⟩ := hrel
        have HA := Lib.hid hall
        clear hall
        by_cases hlt : k < 44
        · have hB2 : Below (w.heap.size + 1) w1 wr := hb.mono (by omega)
          have c0 := HC.out wr hB2 k hlt
          obtain ⟨N, hN⟩ : ∃ N, N = bs (tabR[k]'hlt).1 := ⟨_, rfl⟩
          have hNs : N.size ≤ 13 := by rw [hN]; show (bs _).size ≤ _; rw [show (bs (tabR[k]'hlt).1).size = _ from size_mk _]; exact H13.out k hlt
          have hrw := HROW.out k hlt N hN
          rw [← hN] at c0
          have hz1 : ((⟨#[38]⟩ : ByteArray) ++ N).size = 1 + N.size := cat_size _ _
          have hz2 : ((⟨#[38]⟩ : ByteArray) ++ N ++ (⟨#[59]⟩ : ByteArray)).size = 1 + N.size + 1 := by rw [cat_size, hz1]; rfl
          have hp := fun wx => HBEG.out ((⟨#[38]⟩ : ByteArray) ++ N ++ (⟨#[59]⟩ : ByteArray)) wx (by omega)
          generalize hbb : Lib.hasPrefix ((⟨#[38]⟩ : ByteArray) ++ N ++ (⟨#[59]⟩ : ByteArray)).data.toList X.data.toList = bb at hp hrw
          have HP := Lib.hid hp
          have HB := Lib.hid hb
          have hk0 : (0:Int) ≤ (k:Int) := by omega
          have hk1 : (k:Int) < 44 := by omega
          clear hb hp hN hbb hB2
          by_cases hsz2 : X.size < N.size + 2
          · rw [decide_eq_true hsz2, Bool.true_and] at hrw
            have hlt2 : (X.size : Int) < 1 + (N.size : Int) + 1 := by omega
            cases bb
            · have HN2 : Hid (∀ j (hj : j < 44), j < k + 1 → t.isPrefixOf (tabR[j]'hj).1 = false) := Lib.hid fun j hj h => by
                by_cases e : j = k
                · subst e; exact hrw.symm
                · exact HA.out j hj (by omega)
              clear hrw
              go_wp2_with fail
              refine (HP.out _).mono ?_; rintro e w2 ⟨rfl, rfl⟩
              go_wp2
              go_roundw
              case rel => exact ⟨k + 1, by omega, by go_num, HN2.out, HB.out⟩
              case measure => simp [intOf]; omega
            · have HV := Lib.hid (HYES.out k hlt hrw.symm)
              clear hrw
              go_wp2_with fail
              refine (HP.out _).mono ?_; rintro e w2 ⟨rfl, rfl⟩
              go_wp2
              go_ret
              exact ⟨ret_bool HV.out.symm, HB1.out.trans (HB.out.mono HB1.out.size)⟩
          · rw [decide_eq_false hsz2, Bool.false_and] at hrw
            have hlt2 : 1 + (N.size : Int) + 1 ≤ (X.size : Int) := by omega
            have HN2 : Hid (∀ j (hj : j < 44), j < k + 1 → t.isPrefixOf (tabR[j]'hj).1 = false) := Lib.hid fun j hj h => by
              by_cases e : j = k
              · subst e; exact hrw.symm
              · exact HA.out j hj (by omega)
            clear hrw
            go_wp2
            go_roundw
            case rel => exact ⟨k + 1, by omega, by go_num, HN2.out, HB.out⟩
            case measure => simp [intOf]; omega
        · have HV := Lib.hid (HNO.out fun j hj => HA.out j hj (by omega))
          have HB := Lib.hid hb
          clear hb
          go_wp2
          go_ret
          exact ⟨ret_bool HV.out.symm, HB1.out.trans (HB.out.mono HB1.out.size)⟩
  · have hsz : 2 ≤ X.size := hp_size h2
    have hrun := fun wx => run_any (X.extract 2 X.size) wx (by rw [ext_size _ _ _ (Nat.le_refl _)]; omega)
    rw [ext_drop] at hrun
    rw [more_num h2] at hR
    have hle := ndig_le (X.data.toList.drop 2)
    rw [List.length_drop, hll] at hle hR
    rw [h2] at hpn
    generalize rv (hexB (X.data.toList.drop 2)) (ndig (X.data.toList.drop 2)) = v at hrun
    generalize (ndig (X.data.toList.drop 2)).length = k at hrun hle hR
    generalize nbg (X.data.toList.drop 2) = b at hrun hle hR
    obtain ⟨n, hn⟩ : ∃ n, n = b + k := ⟨_, rfl⟩
    rw [← hn] at hrun hR hle
    have HPN := Lib.hid hpn
    have HRUN := Lib.hid hrun
    clear hpa hpn h2 hll hrun hn
    by_cases he : n = X.size - 2
    · have HV : Hid (R = true) := Lib.hid (by rw [hR, decide_eq_true he])
      have g : (2 + (n : Int) == (X.size : Int)) = true := by simp; omega
      clear hR he
      go_enter Try.func20, Try.ntmps20
      go_wp2_with fail
      refine (HPN.out _).mono ?_; rintro e w1 ⟨rfl, rfl⟩
      go_wp2_with fail
      refine (HRUN.out _).mono ?_; rintro e w1 ⟨rfl, hb⟩
      have HB := Lib.hid hb
      clear hb
      go_wp2
      go_ret
      exact ⟨ret_bool (by rw [HV.out]), HB.out⟩
    · have HV : Hid (R = false) := Lib.hid (by rw [hR, decide_eq_false he])
      have g : (2 + (n : Int) == (X.size : Int)) = false := by rw [beq_eq_false_iff_ne]; omega
      clear hR he
      go_enter Try.func20, Try.ntmps20
      go_wp2_with fail
      refine (HPN.out _).mono ?_; rintro e w1 ⟨rfl, rfl⟩
      go_wp2_with fail
      refine (HRUN.out _).mono ?_; rintro e w1 ⟨rfl, hb⟩
      have HB := Lib.hid hb
      clear hb
      go_wp2
      go_ret
      exact ⟨ret_bool (by rw [HV.out]), HB.out⟩
end Go.Proofs.Ytpepoccoljmmjaa
