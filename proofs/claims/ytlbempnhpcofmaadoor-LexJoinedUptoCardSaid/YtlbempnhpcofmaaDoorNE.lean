/- LexJoined: for every string and every slice of ints the law's function returns true. Conditions: what is handed in, and the library's two tables, are together of bulk at most 1048576 (the second form of the statement); the two tables are those that the card ties to the program's text. -/
import Derived.Test.YtlbempnhpcofmaaDoorLL
import Derived.Test.YtlbempnhpcofmaaDoorWE
set_option linter.unusedVariables false
namespace Go.Proofs.YtlbempnhpcofmaaDoor
open Go.ChangeShapes Go.WideShapes Go.ChangeAt Go.RowKit

theorem ints_in {H : Type} {enc : TypeId × Value → H} {W : World} {v : Value} {d : DataW H} {p : List MemPlace} (h : DataW.Trod enc Tryd.prog W 0 (fun _ => true) true 43 v d p) (hv : ∃ a n c, v = .slice a n c) :
    ∃ a c l, v = .slice a (List.length l) c ∧ NumsI W a l ∧ l.length ≤ 9223372036854775807 := by
  obtain ⟨a, n, c, rfl⟩ := hv
  obtain ⟨fuel, hf⟩ := h
  rcases open_ints Tryd.underlying43 Tryd.underlying3 (by kernel_rfl) hf with ⟨hcs, _⟩ | ⟨x, l, c2, zs, hcs, _, hl, hm, hz, hx, hcell, hwz⟩
  · simp [Value.cells] at hcs
    obtain ⟨rfl, rfl, rfl⟩ := hcs
    exact ⟨none, 0, [], rfl, fun j hj => by simp at hj, by simp⟩
  · simp [Value.cells] at hcs
    obtain ⟨rfl, rfl, rfl⟩ := hcs
    have hz' : zs.length = c := by simpa using hz
    have hbl : (zs.take n).length = n := by simp; omega
    refine ⟨some x, c, zs.take n, by rw [hbl], fun j hj => ?_, by rw [hbl]; unfold maxLen at hm; omega⟩
    obtain ⟨bb, off, spot⟩ := x
    obtain ⟨hsp, hlt⟩ := addr_plain (hcell 0 (by omega))
    simp only [Addr.add] at hsp hlt
    subst hsp
    rw [hbl] at hj
    refine ⟨bb, off, rfl, hlt, ?_⟩
    have hc := hcell j (by omega)
    rw [Go.WideShapes.add_plain] at hc
    rw [hc, getD_int (by omega)]
    simp

set_option maxRecDepth 100000 in
theorem lexJoined_lifted (os : Os) (started : os.Started) (H : Type) (enc : TypeId × Value → H) (F : Stop.Interp) :
    ReturnsInHanded {} Tryd.checked os 8 .any (fun w args => ((Rows.OpenSpec.upto Rows.lexJoinedSpec).pre enc Tryd.checked.prog Tryd.f8 [] false w args ∧ Lies w) ∧ sizedMet enc Tryd.checked.prog Tryd.f8 (Rows.OpenSpec.upto Rows.lexJoinedSpec) false w args)
      (((Rows.OpenSpec.upto Rows.lexJoinedSpec).at F).post enc Tryd.checked.prog Tryd.f8 false true false false) := by
  refine upto_frame started (by kernel_rfl) Tryd.func8 #[.string ⟨#[]⟩, .slice none 0 0] 8 (World.shaped_of_ZipB (by kernel_rfl) (by kernel_rfl)) (by kernel_rfl) (x := ([.lit (.string []), .nil], [], [])) (by kernel_rfl) (by kernel_rfl) (by kernel_rfl) ?_
  intro W base args ds gs before hval0 hW hk
  have hval : ∀ (j : Nat) t v, Tryd.f8.params[j]? = some t → args[j]? = some v → Value.okWide Tryd.prog W .any base t v := hval0
  have hW' := hW
  obtain ⟨p, q, hA0, hV, rfl, hfz, hnd⟩ := hW
  have hA : DataW.TrodAll enc Tryd.prog W 0 (fun _ => true) true Tryd.f8.params.toList args.toList ds p := hA0
  rw [Tryd.params8] at hA hval
  obtain ⟨v0, v1, d0, d1, p0, p1, rfl, rfl, rfl, h0, h1⟩ := trodAll_two hA
  obtain ⟨rfl, rfl⟩ := trodVars_none hV
  have b0 : Rows.uptoBulk d0 ≤ 1048576 := small_of hk (by simp)
  obtain ⟨a0, rfl, rfl, rfl, w0⟩ := Go.ChangeMaps.open_string Tryd.underlying9 (hval 0 9 v0 rfl rfl) h0
  have z0 : a0.size ≤ 1048576 := by have := b0; simp only [Rows.uptoBulk] at this; have e : a0.data.toList.length = a0.size := by { simp }; first | omega | (simp at this; omega)
  have b1 : Rows.uptoBulk d1 ≤ 1048576 := small_of hk (by simp)
  have k1 := h1
  have lt1 : ∀ x ∈ p1, x.block < W.heap.size := by obtain ⟨m, hm⟩ := k1; exact DataW.trod_lt m _ _ _ hm
  obtain ⟨a1, c1, l1, rfl, s1, z1⟩ := ints_in h1 (okWide_slice Tryd.underlying43 (hval 1 43 v1 rfl rfl))
  clear hA0 hval0
  refine (lexJoined_any a0 a1 c1 l1.length l1 W (by omega) s1 rfl z1).mono fun e W' ⟨he, bel⟩ => ?_
  subst he
  exact ⟨_, rfl, _, _, _, [], _, [], hW', trodAll_mk1 (shut_bool Tryd.underlying4 _), (trodAll_cons_mk (Go.ChangeMaps.shut_string Tryd.underlying9 w0) (trodAll_cons_mk (Below.trod laidOut (by kernel_rfl) (of_decide_eq_true (by kernel_rfl)) k1 bel lt1) trodAll_mk0)), rfl, bel.frame _, fun h => by cases h⟩

theorem lexJoined_holds : Rows.LexJoinedUptoSaid :=
  OpenClaim.holds_of_cond 8 Tryd.f8 rfl rfl rfl rfl rfl rfl rfl ⟨rfl, rfl, rfl, rfl, rfl⟩ rfl rfl rfl rfl rfl (by kernel_rfl) Tryd.func8 (by kernel_rfl)
    (of_decide_eq_true (by kernel_rfl)) (by unfold Func.isWrapper; first | (rw [if_pos (by decide +kernel)]; kernel_rfl) | (rw [if_neg (by decide +kernel)]; exact ⟨rfl, rfl⟩))
    (fun os started H enc _ F => lexJoined_lifted os started H enc F)

theorem lexJoined_card : Rows.LexJoinedUptoCardSaid :=
  Claim7.holds_tied_plain_at .later [] [.data, .pinned] true (true, "356409e46dee479392207d771a7e40461bea7ac9108520f0b9cc02b79bef3fa8") false
    lexJoined_holds (fun _ h => by cases h) (by kernel_rfl) (fun _ h => by cases h) lexJoinedUpto_row_tie rfl ⟨rfl, rfl⟩ (by kernel_rfl) rfl
    (fun f fn hf hfn => by
      obtain rfl : f = 8 := Option.some.inj ((show Tryd.prog.funcNamed "colander/colanderlaw03.LexJoined" = some 8 by kernel_rfl).symm.trans hf) |>.symm
      obtain rfl : fn = Tryd.f8 := (Option.some.inj (Tryd.func8.symm.trans hfn)).symm
      exact ⟨by kernel_rfl, fun j t ht => by
        rw [Tryd.params8] at ht
        have hm : t ∈ [9, 43] := by simpa using Array.mem_of_getElem? ht
        have hall : ([9, 43].all fun u => !Tryd.prog.wantsStandIn u) = true := by kernel_rfl
        exact (show Tryd.prog.wantsStandIn t = false by simpa using List.all_eq_true.1 hall t hm)⟩)
    (by kernel_rfl)
end Go.Proofs.YtlbempnhpcofmaaDoor
