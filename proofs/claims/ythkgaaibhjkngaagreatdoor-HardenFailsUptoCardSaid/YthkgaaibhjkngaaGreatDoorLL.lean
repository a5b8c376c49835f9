/- The tables that the rows list: a heap that meets the condition; the second form's frame beside them. -/
import Derived.Test.YthkgaaibhjkngaaGreatDoorO
import Derived.Test.YthkgaaibhjkngaaGreatDoorCards
import Derived.Test.YthkgaaibhjkngaaGreatDoorTie
import Derived.LaidMore
import Derived.LaidSub
import Derived.Lay
import Derived.ShutString
import Derived.Stop.Joined
import Derived.SevenTiedAt
namespace Go.Proofs.YthkgaaibhjkngaaGreatDoor
open Go.ChangeShapes Go.WideShapes Go.ChangeAt Go.RowKit

abbrev laid2 : List (String × DataW Unit) := [("unicode/utf8.acceptRanges", Rows.laid_unicode_utf8_acceptRanges), ("unicode/utf8.first", Rows.laid_unicode_utf8_first)]
theorem all_met (os : Os) (args : Array Value) : laidMetH Tryz.prog laid2 (((World.laidAll Tryz.prog os laid2)).forCall (fun _ _ => 0) ⟨#[], args, []⟩).memory := by
  rw [MakeChecks.laidMetH_plain _ _ _ (by kernel_rfl)]
  exact laidMet_laidAll _ (by kernel_rfl) (by kernel_rfl)

abbrev Lies : World → Prop := fun w => laidMetH Tryz.prog laid2 w
set_option maxRecDepth 100000 in
theorem upto_frame {H : Type} {enc : TypeId × Value → H} {os : Os} {f : FuncId} {fn : Func} {S : ChangeSpec} {F : Stop.Interp} (started : os.Started) (noInit : Tryz.checked.prog.inits.idxOf? f = none) (hfn : Tryz.checked.prog.funcs[f]? = some fn)
    (args0 : Array Value) (fuel : Nat)
    (hsh : ((World.laidAll Tryz.prog os laid2).forCall (fun _ _ => 0) ⟨#[], args0, []⟩).Shaped Tryz.checked.prog)
    (hok : Input.okWideB Tryz.checked.prog ((World.laidAll Tryz.prog os laid2).forCall (fun _ _ => 0) ⟨#[], args0, []⟩) f ⟨#[], args0, []⟩ = true)
    {x : List (DataW H) × List (DataW H) × List MemPlace} (hx : DataW.whole enc Tryz.checked.prog ((World.laidAll Tryz.prog os laid2).forCall (fun _ _ => 0) ⟨#[], args0, []⟩).memory fn.params.toList S.vars false args0.toList fuel = some x)
    (hkk : Rows.uptoSmall H (x.1 ++ x.2.1) = true)
    (hsz : S.sizedB enc Tryz.checked.prog fn false ((World.laidAll Tryz.prog os laid2).forCall (fun _ _ => 0) ⟨#[], args0, []⟩).memory args0 fuel = true)
    (contract : ∀ (W : World) (base : Nat) (args : Array Value) (ds gs : List (DataW H)) (before : List MemPlace),
      (∀ (j : Nat) t v, fn.params[j]? = some t → args[j]? = some v → Value.okWide Tryz.prog W .any base t v) →
      DataW.Whole enc Tryz.prog fn.params.toList S.vars false W args.toList ds gs before → Rows.uptoSmall H (ds ++ gs) = true →
      Calls Tryz.checked.prog f args W fun e W' => ∃ v, e = .returned v ∧ ((Rows.OpenSpec.upto S).at F).post enc Tryz.checked.prog fn false true false false W args v W') :
    ReturnsInHanded {} Tryz.checked os f .any (fun w args => ((Rows.OpenSpec.upto S).pre enc Tryz.checked.prog fn [] false w args ∧ Lies w) ∧ sizedMet enc Tryz.checked.prog fn (Rows.OpenSpec.upto S) false w args)
      (((Rows.OpenSpec.upto S).at F).post enc Tryz.checked.prog fn false true false false) := by
  refine returnsInHanded_of_calls own started noInit ?_ ?_
  · refine ⟨World.laidAll Tryz.prog os laid2, fun _ _ => 0, ⟨#[], args0, []⟩, World.laidAll_os _ _ _, hsh, (Input.okWide_of_okWideB (base := 0) hok).1, (Input.okWide_of_okWideB hok).2, ⟨⟨?_, all_met os _⟩, sizedMet_of_sizedB hsz⟩, ?_⟩
    · exact (OpenSpec.pre_some (k := Rows.uptoSmall) rfl [] false _ _).2 ⟨x.1, x.2.1, x.2.2, DataW.Whole_of_whole hx, rfl, hkk⟩
    · simp only [Assume.holds]
      exact ⟨by simp, by simp, by simp, by simp, by simp⟩
  · intro w tape i _ _ _ hok2 hpre _
    obtain ⟨_, _, _, fn', hfn', _, _, _, _, hval⟩ := hok2
    obtain rfl : fn' = fn := Option.some.inj (hfn'.symm.trans hfn)
    obtain ⟨ds, gs, before, hw, _, hkk2⟩ := (OpenSpec.pre_some (k := Rows.uptoSmall) rfl [] false _ _).1 hpre.1.1
    have hw' := DataW.Whole.of_heap (w' := w.forCall tape i) (by rfl) hw
    refine (contract (w.forCall tape i) w.heap.size i.args ds gs before hval hw' hkk2).mono fun e W' ⟨v, he, hp⟩ => ?_
    subst he
    exact ChangeSpec.post_blind hp
end Go.Proofs.YthkgaaibhjkngaaGreatDoor
