/- What is handed in: a response; the five tables. -/
import Derived.Test.YthkgaaibhjkngaaGreatDoorOF
import Derived.Test.YthkgaaibhjkngaaGreatDoorHK
import Derived.Lib.LaidTab
import Derived.Lib.SmallJoins
set_option linter.unusedVariables false
namespace Go.Proofs.YthkgaaibhjkngaaGreatDoor
open Go.ChangeShapes Go.WideShapes Go.ChangeAt Go.RowKit

abbrev laid5 : List (String × DataW Unit) := [("math/bits.deBruijn32tab", Rows.laid_math_bits_deBruijn32tab), ("math/bits.deBruijn64tab", Rows.laid_math_bits_deBruijn64tab), ("internal/strconv.uint64pow10", Rows.laid_internal_strconv_uint64pow10), ("unicode/utf8.acceptRanges", Rows.laid_unicode_utf8_acceptRanges), ("unicode/utf8.first", Rows.laid_unicode_utf8_first)]
theorem all_met5 (os : Os) (args : Array Value) : laidMetH Tryz.prog laid5 (((World.laidAll Tryz.prog os laid5)).forCall (fun _ _ => 0) ⟨#[], args, []⟩).memory := by
  rw [MakeChecks.laidMetH_plain _ _ _ (by kernel_rfl)]
  exact laidMet_laidAll _ (by kernel_rfl) (by kernel_rfl)
theorem pow_of_laid {W : World} (h : laidMetH Tryz.prog laid5 W) : Lib.TabIs Tryz.prog W "internal/strconv.uint64pow10" .u64 Lib.pow10Tab := by
  rw [MakeChecks.laidMetH_plain _ _ _ (by kernel_rfl)] at h
  have h1 := h.filter (fun x => x.1 == "internal/strconv.uint64pow10")
  have h2 : laidMet Tryz.prog [("internal/strconv.uint64pow10", Lib.tabData .u64 Lib.pow10Tab)] W := h1
  exact Lib.tabIs_of_head gPow (t := 169) (e := 156) (n := 20) (by kernel_rfl) Tryz.underlying169 Tryz.underlying156 (by kernel_rfl) (by kernel_rfl) h2
theorem tabP_of_laid {W : World} (h : laidMetH Tryz.prog laid5 W) : TabP W := by
  have hp := pow_of_laid h
  have hc := hp.cell gPow 0 (by decide)
  refine ⟨hp, ?_⟩
  rcases Nat.lt_or_ge 1 W.heap.size with h | h
  · exact h
  · rw [World.cell?] at hc
    rw [Array.getElem?_eq_none h] at hc
    simp at hc
abbrev Lies5 : World → Prop := fun w => laidMetH Tryz.prog laid5 w
set_option maxRecDepth 100000 in
theorem upto_frame5 {H : Type} {enc : TypeId × Value → H} {os : Os} {f : FuncId} {fn : Func} {S : ChangeSpec} {F : Stop.Interp} (started : os.Started) (noInit : Tryz.checked.prog.inits.idxOf? f = none) (hfn : Tryz.checked.prog.funcs[f]? = some fn)
    (args0 : Array Value) (fuel : Nat)
    (hsh : ((World.laidAll Tryz.prog os laid5).forCall (fun _ _ => 0) ⟨#[], args0, []⟩).Shaped Tryz.checked.prog)
    (hok : Input.okWideB Tryz.checked.prog ((World.laidAll Tryz.prog os laid5).forCall (fun _ _ => 0) ⟨#[], args0, []⟩) f ⟨#[], args0, []⟩ = true)
    {x : List (DataW H) × List (DataW H) × List MemPlace} (hx : DataW.whole enc Tryz.checked.prog ((World.laidAll Tryz.prog os laid5).forCall (fun _ _ => 0) ⟨#[], args0, []⟩).memory fn.params.toList S.vars false args0.toList fuel = some x)
    (hkk : Rows.uptoSmall H (x.1 ++ x.2.1) = true)
    (hsz : S.sizedB enc Tryz.checked.prog fn false ((World.laidAll Tryz.prog os laid5).forCall (fun _ _ => 0) ⟨#[], args0, []⟩).memory args0 fuel = true)
    (contract : ∀ (W : World) (base : Nat) (args : Array Value) (ds gs : List (DataW H)) (before : List MemPlace),
      (∀ (j : Nat) t v, fn.params[j]? = some t → args[j]? = some v → Value.okWide Tryz.prog W .any base t v) →
      DataW.Whole enc Tryz.prog fn.params.toList S.vars false W args.toList ds gs before → Rows.uptoSmall H (ds ++ gs) = true → laidMetH Tryz.prog laid5 W →
      Calls Tryz.checked.prog f args W fun e W' => ∃ v, e = .returned v ∧ ((Rows.OpenSpec.upto S).at F).post enc Tryz.checked.prog fn false true false false W args v W') :
    ReturnsInHanded {} Tryz.checked os f .any (fun w args => ((Rows.OpenSpec.upto S).pre enc Tryz.checked.prog fn [] false w args ∧ Lies5 w) ∧ sizedMet enc Tryz.checked.prog fn (Rows.OpenSpec.upto S) false w args)
      (((Rows.OpenSpec.upto S).at F).post enc Tryz.checked.prog fn false true false false) := by
  refine returnsInHanded_of_calls own started noInit ?_ ?_
  · refine ⟨World.laidAll Tryz.prog os laid5, fun _ _ => 0, ⟨#[], args0, []⟩, World.laidAll_os _ _ _, hsh, (Input.okWide_of_okWideB (base := 0) hok).1, (Input.okWide_of_okWideB hok).2, ⟨⟨?_, all_met5 os _⟩, sizedMet_of_sizedB hsz⟩, ?_⟩
    · exact (OpenSpec.pre_some (k := Rows.uptoSmall) rfl [] false _ _).2 ⟨x.1, x.2.1, x.2.2, DataW.Whole_of_whole hx, rfl, hkk⟩
    · simp only [Assume.holds]
      exact ⟨by simp, by simp, by simp, by simp, by simp⟩
  · intro w tape i _ _ _ hok2 hpre _
    obtain ⟨_, _, _, fn', hfn', _, _, _, _, hval⟩ := hok2
    obtain rfl : fn' = fn := Option.some.inj (hfn'.symm.trans hfn)
    obtain ⟨ds, gs, before, hw, _, hkk2⟩ := (OpenSpec.pre_some (k := Rows.uptoSmall) rfl [] false _ _).1 hpre.1.1
    have hw' := DataW.Whole.of_heap (w' := w.forCall tape i) (by rfl) hw
    have hl : laidMetH Tryz.prog laid5 (w.forCall tape i) := hpre.1.2.of_heap (by rfl)
    refine (contract (w.forCall tape i) w.heap.size i.args ds gs before hval hw' hkk2 hl).mono fun e W' ⟨v, he, hp⟩ => ?_
    subst he
    exact ChangeSpec.post_blind hp

theorem slice_of_trod {H : Type} {enc : TypeId × Value → H} {W : World} {fuel : Nat} {v : Value} {x : DataW H × List MemPlace} (h : DataW.trod enc Tryz.prog W 0 (fun _ => true) true fuel 22 [v] = some x) : ∃ a n c, v = .slice a n c := by
  rcases Go.Deep.open_slice_pairs Tryz.underlying22 Tryz.underlying37 (by kernel_rfl) rfl rfl (by kernel_rfl) (by kernel_rfl) h with ⟨hcs, hx⟩ | ⟨a, len, cap, m, n, V0, V1, D0, D1, P0, P1, hcs, hb, hl, hm, hmm, hx, hi⟩
  · exact ⟨none, 0, 0, by simpa using hcs⟩
  · exact ⟨some a, len, cap, by simpa using hcs⟩
theorem slice_cells {v : Value} (h : ∃ a n c, v = .slice a n c) : v.cells = #[v] := by
  obtain ⟨a, n, c, rfl⟩ := h; rfl
set_option maxRecDepth 100000 in
theorem resp_in {H : Type} {enc : TypeId × Value → H} {W : World} {r : Reach} {b0 : Nat} {v : Value} {d : DataW H} {p : List MemPlace} (hv : Value.okWide Tryz.prog W r b0 26 v) (h : DataW.Trod enc Tryz.prog W 0 (fun _ => true) true 26 v d p) (hsm : Rows.uptoBulk d ≤ 1048576) :
    ∃ (st : Int) (rs : ByteArray) (a : Option Addr) (c : Nat) (l : AL), v = .agg #[.int .i64 st, .string rs, .slice a l.length c] ∧ SrcA W a c l ∧ asz l ≤ 4194304 := by
  obtain ⟨v0, v1, v2, y0, y1, y2, n, rfl, rfl, _, h0, h1, h2⟩ := Go.Joins.open_agg3 Tryz.underlying26 (by kernel_rfl) (by kernel_rfl) hv h
  obtain ⟨st, e0, x0, _⟩ := DataW.trod_int Tryz.underlying3 h0
  obtain ⟨S, e1, x1, _⟩ := DataW.trod_string Tryz.underlying9 h1
  simp only [List.cons.injEq, and_true] at e0 e1
  subst e0 e1
  obtain ⟨a, c, l, rfl, hs, hz⟩ := flds_in (v := v2) (d := y2.1) (p := y2.2) ⟨n, by
    rw [show (v2 : Value).cells = #[v2] from slice_cells (slice_of_trod h2)]; exact h2⟩ (slice_of_trod h2) (by
    simp only [Rows.uptoBulk, Rows.uptoBulkAll] at hsm; omega)
  exact ⟨st, S, a, c, l, rfl, hs, hz⟩
end Go.Proofs.YthkgaaibhjkngaaGreatDoor
