/- LeafNames: for every int, every slice of bools and every two ints the law's function returns true. No condition, but the two library tables that the card ties to the program's text. -/
import Derived.Test.YtagmjbjgphhlcaaDoorLL
import Derived.Test.YtagmjbjgphhlcaaDoorLW
import Derived.Deep.Grids
set_option linter.unusedVariables false
namespace Go.Proofs.YtagmjbjgphhlcaaDoor
open Go.ChangeShapes Go.WideShapes Go.ChangeAt Go.RowKit

theorem bools_in {H : Type} {enc : TypeId × Value → H} {W : World} {v : Value} {d : DataW H} {p : List MemPlace} (h : DataW.Trod enc Tryd.prog W 0 (fun _ => true) true 42 v d p) (hv : ∃ a n c, v = .slice a n c) :
    ∃ a c l, v = .slice a (List.length l) c ∧ Bools W a l.length (fun j => l.getD j false) ∧ l.length ≤ 9223372036854775807 := by
  obtain ⟨a, n, c, rfl⟩ := hv
  obtain ⟨fuel, hf⟩ := h
  rcases Go.Deep.open_bools Tryd.underlying42 Tryd.underlying4 (by kernel_rfl) hf with ⟨hcs, _⟩ | ⟨x, len, cap, B, hcs, _, hl, hm, hx, hcell⟩
  · simp [Value.cells] at hcs
    obtain ⟨rfl, rfl, rfl⟩ := hcs
    exact ⟨none, 0, [], rfl, fun j hj => by simp at hj, by simp⟩
  · simp [Value.cells] at hcs
    obtain ⟨rfl, rfl, rfl⟩ := hcs
    have hbl : ((List.range n).map B).length = n := by simp
    refine ⟨some x, c, (List.range n).map B, by rw [hbl], fun j hj => ?_, by rw [hbl]; unfold maxLen at hm; omega⟩
    rw [hbl] at hj
    obtain ⟨bb, off, spot⟩ := x
    obtain ⟨hsp, hlt⟩ := addr_plain (hcell 0 (by omega))
    simp only [Addr.add] at hsp hlt
    subst hsp
    refine ⟨bb, off, rfl, hlt, ?_⟩
    have hc := hcell j (by omega)
    rw [Go.WideShapes.add_plain] at hc
    rw [hc]
    simp [hj]

theorem names_at (k : Nat) (h1 : 1 ≤ k) (h3 : k ≤ 3) (w : World) (x y : Int) (a2 : Option Addr) (n2 c2 : Nat) (B2 : Nat → Bool) (h2 : Bools w a2 n2 B2) (hn2 : n2 ≤ 9223372036854775807) :
    Calls Tryd.prog 7 #[.int .i64 k, .slice a2 n2 c2, .int .i64 x, .int .i64 y] w fun e w' => e = .returned (.bool true) ∧ Below w.heap.size w w' := by
  have hz : 1 ≤ (nameOf k).size ∧ (nameOf k).size ≤ 12 := by
    have h : k = 1 ∨ k = 2 ∨ k = 3 := by omega
    rcases h with rfl | rfl | rfl <;> decide
  refine names_some w (nameOf k) k x y a2 n2 c2 B2 h2 hn2 (fun wx => name_any k wx) hz.1 hz.2 (fun B hB hBl => ?_)
  obtain ⟨e1, e2, e3⟩ := lab_full k h1 h3 B hB
  have hs : (ByteArray.mk B.toArray).size ≤ 12 := by rw [size_mk, hBl]; exact hz.2
  have hsp : ∀ j (h : j < sps.length), sps[j].size ≤ 3 := by decide
  refine ⟨fun k1 k2 h1 h2 => ⟨?_, by rw [e1 k1 k2 h1 h2]⟩, ⟨?_, by rw [e2]; rfl⟩, ⟨?_, by rw [e3]; rfl⟩⟩
  · have := hsp k1 h1; have := hsp k2 h2
    rw [ByteArray.size_append, ByteArray.size_append]; omega
  · have e : (ByteArray.mk #[120]).size = 1 := rfl
    rw [ByteArray.size_append, e]; omega
  · have e : (ByteArray.mk #[32, 46]).size = 2 := rfl
    rw [ByteArray.size_append, e]; omega
theorem names_call (w : World) (c x y : Int) (a2 : Option Addr) (n2 c2 : Nat) (B2 : Nat → Bool) (h2 : Bools w a2 n2 B2) (hn2 : n2 ≤ 9223372036854775807) :
    Calls Tryd.prog 7 #[.int .i64 c, .slice a2 n2 c2, .int .i64 x, .int .i64 y] w fun e w' => e = .returned (.bool true) ∧ Below w.heap.size w w' := by
  by_cases h : c < 1 ∨ 3 < c
  · exact names_none w c x y a2 n2 c2 h
  · obtain ⟨k, rfl⟩ := Int.eq_ofNat_of_zero_le (show 0 ≤ c by omega)
    exact names_at k (by omega) (by omega) w x y a2 n2 c2 B2 h2 hn2
set_option maxRecDepth 100000 in
theorem leafNames_lifted (os : Os) (started : os.Started) (H : Type) (enc : TypeId × Value → H) :
    ReturnsInHanded {} Tryd.checked os 7 .any (fun w args => (Rows.leafNamesSpec.pre enc Tryd.prog Tryd.f7 [] false w args ∧ laidMetH Tryd.prog laid2 w) ∧ sizedMet enc Tryd.prog Tryd.f7 (OpenSpec.ofChange Rows.leafNamesSpec) false w args)
      (Rows.leafNamesSpec.post enc Tryd.prog Tryd.f7 false true false false) := by
  refine returnsInHanded_of_change_and (C := Tryd.checked) (X := fun w _ => laidMetH Tryd.prog laid2 w) (fun _ _ _ hh h => h.of_heap hh) own started (by kernel_rfl) Tryd.func7
    (ChangeSpec.witness_shaped (enc := enc) (C := Tryd.checked) (os := os) (X := fun w _ => laidMetH Tryd.prog laid2 w) false (World.laidAll Tryd.prog os laid2) #[.int .i64 0, .slice none 0 0, .int .i64 0, .int .i64 0] 8 (World.laidAll_os _ _ _) (World.shaped_of_ZipB (by kernel_rfl) (by kernel_rfl)) (by kernel_rfl) (by kernel_rfl) (by kernel_rfl) (all_met os _)) ?_
  intro W base args ds gs before hval0 hW _ hsz0 _ _
  have hsz : (DataW.weightsEach Tryd.prog (Tryd.f7.params.toList ++ Rows.leafNamesSpec.plain.varTypes Tryd.prog) (ds ++ gs)).all (· ≤ reachBytes) = true := hsz0
  have hval : ∀ (j : Nat) t v, Tryd.f7.params[j]? = some t → args[j]? = some v → Value.okWide Tryd.prog W .any base t v := hval0
  have hW' := hW
  obtain ⟨p, q, hA0, hV, rfl, hfz, hnd⟩ := hW
  have hA : DataW.TrodAll enc Tryd.prog W 0 (fun _ => true) true Tryd.f7.params.toList args.toList ds p := hA0
  rw [Tryd.params7] at hA hval hsz
  obtain ⟨v0, v1, v2, v3, d0, d1, d2, d3, p0, p1, p2, p3, rfl, rfl, rfl, h0, h1, h2, h3⟩ := trodAll_four hA
  obtain ⟨rfl, rfl⟩ := trodVars_none hV
  obtain ⟨a0, rfl, rfl, rfl, w0⟩ := open_int Tryd.underlying3 (hval 0 3 v0 rfl rfl) h0
  have k1 := h1
  have lt1 : ∀ x ∈ p1, x.block < W.heap.size := by obtain ⟨m, hm⟩ := k1; exact DataW.trod_lt m _ _ _ hm
  obtain ⟨a1, c1, l1, rfl, s1, z1⟩ := bools_in h1 (okWide_slice Tryd.underlying42 (hval 1 42 v1 rfl rfl))
  obtain ⟨a2, rfl, rfl, rfl, w2⟩ := open_int Tryd.underlying3 (hval 2 3 v2 rfl rfl) h2
  obtain ⟨a3, rfl, rfl, rfl, w3⟩ := open_int Tryd.underlying3 (hval 3 3 v3 rfl rfl) h3
  clear hA0 hval0
  refine (names_call W a0 a2 a3 a1 l1.length c1 _ s1 z1).mono fun e W' ⟨he, bel⟩ => ?_
  subst he
  exact ⟨_, rfl, _, _, _, [], _, [], hW', trodAll_mk1 (shut_bool Tryd.underlying4 _), (trodAll_cons_mk (shut_int Tryd.underlying3 w0) (trodAll_cons_mk (Below.trod laidOut (by kernel_rfl) (of_decide_eq_true (by kernel_rfl)) k1 bel lt1) (trodAll_cons_mk (shut_int Tryd.underlying3 w2) (trodAll_cons_mk (shut_int Tryd.underlying3 w3) trodAll_mk0)))), rfl, bel.frame _, fun h => by cases h⟩

theorem leafNames_holds : Rows.LeafNamesSaid :=
  OpenClaim.holds_of_wide 7 Tryd.f7 rfl rfl rfl rfl rfl rfl rfl ⟨rfl, rfl, rfl, rfl, rfl⟩ rfl rfl rfl rfl rfl (by kernel_rfl) Tryd.func7 (by kernel_rfl)
    (of_decide_eq_true (by kernel_rfl)) (by unfold Func.isWrapper; first | (rw [if_pos (by decide +kernel)]; kernel_rfl) | (rw [if_neg (by decide +kernel)]; exact ⟨rfl, rfl⟩))
    (fun os started H enc _ => leafNames_lifted os started H enc)

theorem leafNames_card : Rows.LeafNamesCardSaid :=
  Claim7.holds_tied_plain_at .later [] [.data, .pinned] true (true, "01753f33a6ac21372d4f4f7d3cb5eed1e5f8bb944309e2b5202819fccbddd1c8") false
    leafNames_holds (fun _ h => by cases h) (by kernel_rfl) (fun _ h => by cases h) leafNames_row_tie rfl ⟨rfl, rfl⟩ (by kernel_rfl) rfl
    (fun f fn hf hfn => by
      obtain rfl : f = 7 := Option.some.inj ((show Tryd.prog.funcNamed "colander/colanderlaw09.LeafNames" = some 7 by kernel_rfl).symm.trans hf) |>.symm
      obtain rfl : fn = Tryd.f7 := (Option.some.inj (Tryd.func7.symm.trans hfn)).symm
      exact ⟨by kernel_rfl, fun j t ht => by
        rw [Tryd.params7] at ht
        have hm : t ∈ [3, 42, 3, 3] := by simpa using Array.mem_of_getElem? ht
        have hall : ([3, 42, 3, 3].all fun u => !Tryd.prog.wantsStandIn u) = true := by kernel_rfl
        exact (show Tryd.prog.wantsStandIn t = false by simpa using List.all_eq_true.1 hall t hm)⟩)
    (by kernel_rfl)
end Go.Proofs.YtagmjbjgphhlcaaDoor
