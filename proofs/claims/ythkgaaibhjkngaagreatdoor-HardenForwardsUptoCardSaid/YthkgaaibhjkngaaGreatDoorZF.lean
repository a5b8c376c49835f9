/- HardenForwards: for every request and length the law's function returns true. Conditions: what is handed in, and the library's tables, are together of bulk at most 1048576 (the second form of the statement); the tables are those that the card ties to the program's text. -/
import Derived.Test.YthkgaaibhjkngaaGreatDoorHN
import Derived.Test.YthkgaaibhjkngaaGreatDoorZD
import Derived.Carry
set_option linter.unusedVariables false
namespace Go.Proofs.YthkgaaibhjkngaaGreatDoor
open Go.ChangeShapes Go.WideShapes Go.ChangeAt Go.RowKit

set_option maxRecDepth 100000 in
theorem req_in {H : Type} {enc : TypeId × Value → H} {W : World} {r : Reach} {b0 : Nat} {v : Value} {d : DataW H} {p : List MemPlace} (hv : Value.okWide Tryz.prog W r b0 24 v) (h : DataW.Trod enc Tryz.prog W 0 (fun _ => true) true 24 v d p) (hsm : Rows.uptoBulk d ≤ 1048576) :
    ∃ (m t : ByteArray) (a : Option Addr) (c : Nat) (l : AL), v = .agg #[.string m, .string t, .slice a l.length c] ∧ SrcA W a c l ∧ asz l ≤ 4194304 ∧ m.size ≤ 1048576 ∧ t.size ≤ 1048576 := by
  obtain ⟨v0, v1, v2, y0, y1, y2, n, rfl, rfl, _, h0, h1, h2⟩ := Go.Joins.open_agg3 Tryz.underlying24 (by kernel_rfl) (by kernel_rfl) hv h
  obtain ⟨S0, e0, x0, _⟩ := DataW.trod_string Tryz.underlying9 h0
  obtain ⟨S1, e1, x1, _⟩ := DataW.trod_string Tryz.underlying9 h1
  simp only [List.cons.injEq, and_true] at e0 e1
  subst e0 e1
  rw [x0, x1] at hsm
  simp only [Rows.uptoBulk, Rows.uptoBulkAll] at hsm
  obtain ⟨a, c, l, rfl, hs, hz⟩ := flds_in (v := v2) (d := y2.1) (p := y2.2) ⟨n, by
    rw [show (v2 : Value).cells = #[v2] from slice_cells (slice_of_trod h2)]; exact h2⟩ (slice_of_trod h2) (by omega)
  have l0 : S0.data.toList.length = S0.size := len_data S0
  have l1 : S1.data.toList.length = S1.size := len_data S1
  exact ⟨S0, S1, a, c, l, rfl, hs, hz, by omega, by omega⟩

set_option maxRecDepth 100000 in
theorem hardenForwards_lifted (os : Os) (started : os.Started) (H : Type) (enc : TypeId × Value → H) (F : Stop.Interp) :
    ReturnsInHanded {} Tryz.checked os 4 .any (fun w args => ((Rows.OpenSpec.upto Rows.hardenForwardsSpec).pre enc Tryz.checked.prog Tryz.f4 [] false w args ∧ Lies5 w) ∧ sizedMet enc Tryz.checked.prog Tryz.f4 (Rows.OpenSpec.upto Rows.hardenForwardsSpec) false w args)
      (((Rows.OpenSpec.upto Rows.hardenForwardsSpec).at F).post enc Tryz.checked.prog Tryz.f4 false true false false) := by
  refine upto_frame5 started (by kernel_rfl) Tryz.func4 #[.agg #[.string ⟨#[]⟩, .string ⟨#[]⟩, .slice none 0 0], .int .i64 0] 8 (World.shaped_of_ZipB (by kernel_rfl) (by kernel_rfl)) (by kernel_rfl) (x := ([.agg [.lit (.string []), .lit (.string []), .nil], .lit (.int .i64 0)], [], [])) (by kernel_rfl) (by kernel_rfl) (by kernel_rfl) ?_
  intro W base args ds gs before hval0 hW hk hlaid
  have hval : ∀ (j : Nat) t v, Tryz.f4.params[j]? = some t → args[j]? = some v → Value.okWide Tryz.prog W .any base t v := hval0
  have hW' := hW
  obtain ⟨p, q, hA0, hV, rfl, hfz, hnd⟩ := hW
  have hA : DataW.TrodAll enc Tryz.prog W 0 (fun _ => true) true Tryz.f4.params.toList args.toList ds p := hA0
  rw [Tryz.params4] at hA hval
  obtain ⟨v0, v1, d0, d1, p0, p1, rfl, rfl, rfl, h0, h1⟩ := trodAll_two hA
  obtain ⟨rfl, rfl⟩ := trodVars_none hV
  have b0 : Rows.uptoBulk d0 ≤ 1048576 := small_of hk (by simp)
  have b1 : Rows.uptoBulk d1 ≤ 1048576 := small_of hk (by simp)
  have k0 := h0
  have k1 := h1
  have lt0 : ∀ x ∈ p0, x.block < W.heap.size := by obtain ⟨m, hm⟩ := k0; exact DataW.trod_lt m _ _ _ hm
  have lt1 : ∀ x ∈ p1, x.block < W.heap.size := by obtain ⟨m, hm⟩ := k1; exact DataW.trod_lt m _ _ _ hm
  obtain ⟨m0, t0, a0, c0, l0, rfl, s0, z0, zm0, zt0⟩ := req_in (hval 0 24 v0 rfl rfl) h0 b0
  obtain ⟨a1, rfl, rfl, rfl, w1⟩ := open_int Tryz.underlying3 (hval 1 3 v1 rfl rfl) h1
  clear hA0 hval0
  refine (hardenForwards_any l0 m0 t0 a1 a0 l0.length c0 W rfl s0 (by omega) (bounds_i64 w1).2 (tabP_of_laid hlaid)).mono fun e W' ⟨he, bel⟩ => ?_
  subst he
  exact ⟨_, rfl, _, _, _, [], _, [], hW', trodAll_mk1 (shut_bool Tryz.underlying4 _), (trodAll_cons_mk (Below.trod laidOut (by kernel_rfl) (of_decide_eq_true (by kernel_rfl)) k0 bel lt0) (trodAll_cons_mk (Below.trod laidOut (by kernel_rfl) (of_decide_eq_true (by kernel_rfl)) k1 bel lt1) trodAll_mk0)), rfl, bel.frame _, fun h => by cases h⟩

theorem hardenForwards_holds : Rows.HardenForwardsUptoSaid :=
  OpenClaim.holds_of_cond 4 Tryz.f4 rfl rfl rfl rfl rfl rfl rfl ⟨rfl, rfl, rfl, rfl, rfl⟩ rfl rfl rfl rfl rfl (by kernel_rfl) Tryz.func4 (by kernel_rfl)
    (of_decide_eq_true (by kernel_rfl)) (by unfold Func.isWrapper; first | (rw [if_pos (by decide +kernel)]; kernel_rfl) | (rw [if_neg (by decide +kernel)]; exact ⟨rfl, rfl⟩))
    (fun os started H enc _ F => hardenForwards_lifted os started H enc F)

theorem hardenForwards_card : Rows.HardenForwardsUptoCardSaid :=
  Claim7.holds_tied_plain_at .later [] [.data, .data, .data, .data, .pinned] true (true, "0ba50fd8daff17a9c0c35a05969a33e5e1a85e596611f7a468f016ea59ad2cac") true
    hardenForwards_holds (fun _ h => by cases h) (by kernel_rfl) (fun _ h => by cases h) hardenForwardsUpto_row_tie rfl ⟨rfl, rfl⟩ (by kernel_rfl) rfl
    (fun f fn hf hfn => by
      obtain rfl : f = 4 := Option.some.inj ((show Tryz.prog.funcNamed "colander/colanderlaw21.HardenForwards" = some 4 by kernel_rfl).symm.trans hf) |>.symm
      obtain rfl : fn = Tryz.f4 := (Option.some.inj (Tryz.func4.symm.trans hfn)).symm
      exact ⟨by kernel_rfl, fun j t ht => by
        rw [Tryz.params4] at ht
        have hm : t ∈ [24, 3] := by simpa using Array.mem_of_getElem? ht
        have hall : ([24, 3].all fun u => !Tryz.prog.wantsStandIn u) = true := by kernel_rfl
        exact (show Tryz.prog.wantsStandIn t = false by simpa using List.all_eq_true.1 hall t hm)⟩)
    (by kernel_rfl)
end Go.Proofs.YthkgaaibhjkngaaGreatDoor
