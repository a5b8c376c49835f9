/- FramingOthers: for every row of fields, every method and every status the law's function returns true. Conditions: what is handed in, and the library's tables, are together of bulk at most 1048576 (the second form of the statement); the tables are those that the card ties to the program's text. -/
import Derived.Test.YtkadingpmebjbaaDoorOG
import Derived.Test.YtkadingpmebjbaaDoorQK
set_option linter.unusedVariables false
namespace Go.Proofs.YtkadingpmebjbaaDoor
open Go.ChangeShapes Go.WideShapes Go.ChangeAt Go.RowKit

set_option maxRecDepth 100000 in
theorem framingOthers_lifted (os : Os) (started : os.Started) (H : Type) (enc : TypeId × Value → H) (F : Stop.Interp) :
    ReturnsInHanded {} Tryd.checked os 11 .any (fun w args => ((Rows.OpenSpec.upto Rows.framingOthersSpec).pre enc Tryd.checked.prog Tryd.f11 [] false w args ∧ Lies w) ∧ sizedMet enc Tryd.checked.prog Tryd.f11 (Rows.OpenSpec.upto Rows.framingOthersSpec) false w args)
      (((Rows.OpenSpec.upto Rows.framingOthersSpec).at F).post enc Tryd.checked.prog Tryd.f11 false true false false) := by
  refine upto_frame started (by kernel_rfl) Tryd.func11 #[.slice none 0 0, .string ⟨#[]⟩, .int .i64 0] 8 (World.shaped_of_ZipB (by kernel_rfl) (by kernel_rfl)) (by kernel_rfl) (x := ([.nil, .lit (.string []), .lit (.int .i64 0)], [], [])) (by kernel_rfl) (by kernel_rfl) (by kernel_rfl) ?_
  intro W base args ds gs before hval0 hW hk
  have hval : ∀ (j : Nat) t v, Tryd.f11.params[j]? = some t → args[j]? = some v → Value.okWide Tryd.prog W .any base t v := hval0
  have hW' := hW
  obtain ⟨p, q, hA0, hV, rfl, hfz, hnd⟩ := hW
  have hA : DataW.TrodAll enc Tryd.prog W 0 (fun _ => true) true Tryd.f11.params.toList args.toList ds p := hA0
  rw [Tryd.params11] at hA hval
  obtain ⟨v0, v1, v2, d0, d1, d2, p0, p1, p2, rfl, rfl, rfl, h0, h1, h2⟩ := trodAll_three hA
  obtain ⟨rfl, rfl⟩ := trodVars_none hV
  have b0 : Rows.uptoBulk d0 ≤ 1048576 := small_of hk (by simp)
  have k0 := h0
  have lt0 : ∀ x ∈ p0, x.block < W.heap.size := by obtain ⟨m, hm⟩ := k0; exact DataW.trod_lt m _ _ _ hm
  obtain ⟨a0, c0, l0, rfl, s0, z0⟩ := flds_in h0 (okWide_slice Tryd.underlying34 (hval 0 34 v0 rfl rfl)) b0
  have b1 : Rows.uptoBulk d1 ≤ 1048576 := small_of hk (by simp)
  obtain ⟨a1, rfl, rfl, rfl, w1⟩ := Go.ChangeMaps.open_string Tryd.underlying9 (hval 1 9 v1 rfl rfl) h1
  have z1 : a1.size ≤ 1048576 := by have := b1; simp only [Rows.uptoBulk] at this; have e : a1.data.toList.length = a1.size := by { simp }; first | omega | (simp at this; omega)
  have b2 : Rows.uptoBulk d2 ≤ 1048576 := small_of hk (by simp)
  obtain ⟨a2, rfl, rfl, rfl, w2⟩ := open_int Tryd.underlying3 (hval 2 3 v2 rfl rfl) h2
  clear hA0 hval0
  refine (framingOthers_any l0 a1 a2 a0 l0.length c0 W rfl s0 (by omega)).mono fun e W' ⟨he, bel⟩ => ?_
  subst he
  exact ⟨_, rfl, _, _, _, [], _, [], hW', trodAll_mk1 (shut_bool Tryd.underlying4 _), (trodAll_cons_mk (Below.trod laidOut (by kernel_rfl) (of_decide_eq_true (by kernel_rfl)) k0 bel lt0) (trodAll_cons_mk (Go.ChangeMaps.shut_string Tryd.underlying9 w1) (trodAll_cons_mk (shut_int Tryd.underlying3 w2) trodAll_mk0))), rfl, bel.frame _, fun h => by cases h⟩

theorem framingOthers_holds : Rows.FramingOthersUptoSaid :=
  OpenClaim.holds_of_cond 11 Tryd.f11 rfl rfl rfl rfl rfl rfl rfl ⟨rfl, rfl, rfl, rfl, rfl⟩ rfl rfl rfl rfl rfl (by kernel_rfl) Tryd.func11 (by kernel_rfl)
    (of_decide_eq_true (by kernel_rfl)) (by unfold Func.isWrapper; first | (rw [if_pos (by decide +kernel)]; kernel_rfl) | (rw [if_neg (by decide +kernel)]; exact ⟨rfl, rfl⟩))
    (fun os started H enc _ F => framingOthers_lifted os started H enc F)

theorem framingOthers_card : Rows.FramingOthersUptoCardSaid :=
  Claim7.holds_tied_plain_at .later [] [.data, .pinned] true (true, "d03c9f7baebd23c87df959969993ef9c2fc1432d1e5c14c795472c90d7cf28b7") false
    framingOthers_holds (fun _ h => by cases h) (by kernel_rfl) (fun _ h => by cases h) framingOthersUpto_row_tie rfl ⟨rfl, rfl⟩ (by kernel_rfl) rfl
    (fun f fn hf hfn => by
      obtain rfl : f = 11 := Option.some.inj ((show Tryd.prog.funcNamed "colander/colanderlaw06.FramingOthers" = some 11 by kernel_rfl).symm.trans hf) |>.symm
      obtain rfl : fn = Tryd.f11 := (Option.some.inj (Tryd.func11.symm.trans hfn)).symm
      exact ⟨by kernel_rfl, fun j t ht => by
        rw [Tryd.params11] at ht
        have hm : t ∈ [34, 9, 3] := by simpa using Array.mem_of_getElem? ht
        have hall : ([34, 9, 3].all fun u => !Tryd.prog.wantsStandIn u) = true := by kernel_rfl
        exact (show Tryd.prog.wantsStandIn t = false by simpa using List.all_eq_true.1 hall t hm)⟩)
    (by kernel_rfl)
end Go.Proofs.YtkadingpmebjbaaDoor
