/- NumOver: for every string and every int the law's function returns true. No condition, but the three library tables that the card ties to the program's text. -/
import Derived.Test.YtlgoalhcllgkcaaDoorNO
namespace Go.Proofs.YtlgoalhcllgkcaaDoor
open Go.ChangeShapes Go.WideShapes Go.ChangeAt Go.RowKit
open Go.ChangeMaps (open_string shut_string)

theorem tmod_neg (a : Int) (h : a ≤ 0) : -(a.tmod 10) = (-a) % 10 := by
  rw [← Int.neg_tmod, Int.tmod_eq_emod_of_nonneg (by omega)]

theorem numOver_walk (s : ByteArray) (more : Int) (w : World) (hs : s.size ≤ 140737488351232) (hm0 : -9223372036854775808 ≤ more) (hm1 : more ≤ 9223372036854775807) (ht : Tabs w) :
    Calls Tryd.prog 6 #[.string s, .int .i64 more] w fun e w' => e = .returned (.bool true) ∧ Below w.heap.size w w' := by
  rcases Int.lt_or_le more 0 with hneg | hpos
  · obtain ⟨d, hd⟩ : ∃ d : Nat, -((more + 1).tmod 10) = (d : Int) := by
      rw [tmod_neg _ (by omega)]
      exact ⟨((-(more + 1)) % 10).toNat, by omega⟩
    have hd9 : d < 10 := by rw [tmod_neg _ (by omega)] at hd; omega
    obtain ⟨c, hc⟩ : ∃ c, c = UInt8.ofNat (48 + d) := ⟨_, rfl⟩
    by_cases h0 : s.data.toList = []
    · exact noBN s more d c w hs hneg hm0 hd hd9 hc (empty_bool h0) (by rw [h0, meant_nil]) (by rw [h0, List.nil_append, hc, meant_one d hd9]) ht
    · have hne := nonempty_bool h0
      by_cases hg : good 10 s.data.toList
      · by_cases ho : most < val 10 s.data.toList
        · obtain ⟨e1, e2⟩ := meant_more_over _ h0 hg ho d hd9
          exact noCN s more d c w hs hneg hm0 hd hd9 hc hne e1 (by rw [hc]; exact e2) ht
        · obtain ⟨e1, e2⟩ := meant_more _ h0 hg ho d hd9
          have hv := val_nonneg 10 (by decide) _ hg
          generalize val 10 s.data.toList = n at e1 e2 ho hv
          rw [← hc] at e2
          unfold most at e2 ho
          rw [Int.mul_comm] at e2
          rcases Int.lt_trichotomy n 922337203685477580 with h | h | h
          · exact noDN s more d c n w hs hneg hm0 hd hd9 hc hv h hne e1 (by rw [e2, if_neg (by omega)]) ht
          · by_cases h7 : d ≤ 7
            · exact noEN s more d c n w hs hneg hm0 hd hd9 hc h h7 hne e1 (by rw [e2, if_neg (by omega)]) ht
            · exact noFN s more d c n w hs hneg hm0 hd hd9 hc h (by omega) hne e1 (by rw [e2, if_pos (by omega)]) ht
          · exact noGN s more d c n w hs hneg hm0 hd hd9 hc h hne e1 (by rw [e2, if_pos (by omega)]) ht
      · obtain ⟨e1, e2⟩ := meant_bad _ hg c
        exact noAN s more d c w hs hneg hm0 hd hd9 hc hne e1 e2 ht
  · obtain ⟨d, hd⟩ : ∃ d : Nat, more % 10 = (d : Int) := ⟨(more % 10).toNat, by omega⟩
    have hd9 : d < 10 := by omega
    obtain ⟨c, hc⟩ : ∃ c, c = UInt8.ofNat (48 + d) := ⟨_, rfl⟩
    by_cases h0 : s.data.toList = []
    · exact noBP s more d c w hs hpos hm1 hd hd9 hc (empty_bool h0) (by rw [h0, meant_nil]) (by rw [h0, List.nil_append, hc, meant_one d hd9]) ht
    · have hne := nonempty_bool h0
      by_cases hg : good 10 s.data.toList
      · by_cases ho : most < val 10 s.data.toList
        · obtain ⟨e1, e2⟩ := meant_more_over _ h0 hg ho d hd9
          exact noCP s more d c w hs hpos hm1 hd hd9 hc hne e1 (by rw [hc]; exact e2) ht
        · obtain ⟨e1, e2⟩ := meant_more _ h0 hg ho d hd9
          have hv := val_nonneg 10 (by decide) _ hg
          generalize val 10 s.data.toList = n at e1 e2 ho hv
          rw [← hc] at e2
          unfold most at e2 ho
          rw [Int.mul_comm] at e2
          rcases Int.lt_trichotomy n 922337203685477580 with h | h | h
          · exact noDP s more d c n w hs hpos hm1 hd hd9 hc hv h hne e1 (by rw [e2, if_neg (by omega)]) ht
          · by_cases h7 : d ≤ 7
            · exact noEP s more d c n w hs hpos hm1 hd hd9 hc h h7 hne e1 (by rw [e2, if_neg (by omega)]) ht
            · exact noFP s more d c n w hs hpos hm1 hd hd9 hc h (by omega) hne e1 (by rw [e2, if_pos (by omega)]) ht
          · exact noGP s more d c n w hs hpos hm1 hd hd9 hc h hne e1 (by rw [e2, if_pos (by omega)]) ht
      · obtain ⟨e1, e2⟩ := meant_bad _ hg c
        exact noAP s more d c w hs hpos hm1 hd hd9 hc hne e1 e2 ht

theorem bd1 {n : Int} (h : (Lit.int .i64 n).wf = true) : -9223372036854775808 ≤ n ∧ n ≤ 9223372036854775807 := bounds_i64 h

set_option maxRecDepth 100000 in
theorem numOver_lifted (os : Os) (started : os.Started) (H : Type) (enc : TypeId × Value → H) :
    ReturnsInHanded {} Tryd.checked os 6 .any (fun w args => (Rows.numOverSpec.pre enc Tryd.prog Tryd.f6 [] false w args ∧ laidMetH Tryd.prog laid3 w) ∧ sizedMet enc Tryd.prog Tryd.f6 (OpenSpec.ofChange Rows.numOverSpec) false w args)
      (Rows.numOverSpec.post enc Tryd.prog Tryd.f6 false true false false) := by
  refine returnsInHanded_of_change_and (C := Tryd.checked) (X := fun w _ => laidMetH Tryd.prog laid3 w) (fun _ _ _ hh h => h.of_heap hh) own started (by kernel_rfl) Tryd.func6
    (ChangeSpec.witness_shaped (enc := enc) (C := Tryd.checked) (os := os) (X := fun w _ => laidMetH Tryd.prog laid3 w) false (World.doorLaid Tryd.prog 400 os) #[.string ⟨#[]⟩, .int .i64 0] 8 rfl (World.shaped_of_RefB (by kernel_rfl) (by kernel_rfl)) (by kernel_rfl) (by kernel_rfl) (by kernel_rfl) (door_met os _)) ?_
  intro W base args ds gs before hval0 hW _ hsz0 hL _
  have hsz : (DataW.weightsEach Tryd.prog (Tryd.f6.params.toList ++ Rows.numOverSpec.plain.varTypes Tryd.prog) (ds ++ gs)).all (· ≤ reachBytes) = true := hsz0
  have hval : ∀ (j : Nat) t v, Tryd.f6.params[j]? = some t → args[j]? = some v → Value.okWide Tryd.prog W .any base t v := hval0
  have hW' := hW
  obtain ⟨p, q, hA0, hV, rfl, hfz, hnd⟩ := hW
  have hA : DataW.TrodAll enc Tryd.prog W 0 (fun _ => true) true Tryd.f6.params.toList args.toList ds p := hA0
  rw [Tryd.params6] at hA hval hsz
  obtain ⟨v0, v1, d0, d1, p0, p1, rfl, rfl, rfl, h0, h1⟩ := trodAll_two hA
  obtain ⟨rfl, rfl⟩ := trodVars_none hV
  obtain ⟨a0, rfl, rfl, rfl, w0⟩ := open_string Tryd.underlying9 (hval 0 9 v0 rfl rfl) h0
  obtain ⟨a1, rfl, rfl, rfl, w1⟩ := open_int Tryd.underlying3 (hval 1 3 v1 rfl rfl) h1
  have z0 : a0.size ≤ 140737488351232 := by have := sized_string hsz (j := 0) (t := 9) rfl rfl; simpa [reachBytes] using this
  clear hA0 hval0
  refine (numOver_walk a0 a1 W z0 (bd1 w1).1 (bd1 w1).2 (tabs_of_laid hL)).mono fun e W' ⟨he, bel⟩ => ?_
  subst he
  exact ⟨_, rfl, _, _, _, [], [], [], hW', trodAll_mk1 (shut_bool Tryd.underlying4 _), trodAll_mk2 (shut_string Tryd.underlying9 w0) (shut_int Tryd.underlying3 w1), rfl, bel.frame _, fun h => by cases h⟩

theorem numOver_holds : Rows.NumOverSaid :=
  OpenClaim.holds_of_wide 6 Tryd.f6 rfl rfl rfl rfl rfl rfl rfl ⟨rfl, rfl, rfl, rfl, rfl⟩ rfl rfl rfl rfl rfl (by kernel_rfl) Tryd.func6 (by kernel_rfl)
    (of_decide_eq_true (by kernel_rfl)) (by unfold Func.isWrapper; first | (rw [if_pos (by decide +kernel)]; kernel_rfl) | (rw [if_neg (by decide +kernel)]; exact ⟨rfl, rfl⟩))
    (fun os started H enc _ => numOver_lifted os started H enc)

theorem numOver_card : Rows.NumOverCardSaid :=
  Claim7.holds_tied_plain_at .later [] [.data, .data, .data] true (true, "3fa39057ba8a08b78e9f815d5ea4cfa82360cf5fa1a0d72d6fdab495d9b6f03a") false
    numOver_holds (fun _ h => by cases h) (by kernel_rfl) (fun _ h => by cases h) numOver_row_tie rfl ⟨rfl, rfl⟩ (by kernel_rfl) rfl
    (fun f fn hf hfn => by
      obtain rfl : f = 6 := Option.some.inj ((show Tryd.prog.funcNamed "colander/colanderlaw02.NumOver" = some 6 by kernel_rfl).symm.trans hf) |>.symm
      obtain rfl : fn = Tryd.f6 := (Option.some.inj (Tryd.func6.symm.trans hfn)).symm
      exact ⟨by kernel_rfl, fun j t ht => by
        rw [Tryd.params6] at ht
        have hne : Tryd.prog.wantsStandIn t = false := by
          rcases j with _ | j
          · obtain rfl : 9 = t := by simpa using ht
            exact (show Tryd.prog.wantsStandIn 9 = false by kernel_rfl)
          ·
            rcases j with _ | j
            · obtain rfl : 3 = t := by simpa using ht
              exact (show Tryd.prog.wantsStandIn 3 = false by kernel_rfl)
            · simp at ht
        exact hne⟩)
    (by kernel_rfl)
end Go.Proofs.YtlgoalhcllgkcaaDoor
