/- Two lists alike; what a list's reading gives. -/
import Derived.Test.YthkgaaibhjkngaaGreatDoorY
import Derived.Deep.QuietTactic
set_option linter.unusedVariables false
namespace Go.Proofs.YthkgaaibhjkngaaGreatDoor
open Go.RowKit

theorem below_drewN {B : Nat} (w : World) (k : Nat) : Below B w (w.drewN k) := ⟨rfl, rfl, rfl, Nat.le_refl _, fun _ _ => rfl⟩


/-- cells that may be written -/
def Slots (w : World) (a : Option Addr) (base n : Nat) : Prop := ∀ j, j < n → ∃ g, a = some ⟨g, 0, none⟩ ∧ base ≤ g ∧ (w.cell? ⟨g, j, none⟩).isSome = true ∧ w.frozen? ⟨g, j, none⟩ = false
theorem ownS_slots {w : World} {base n c : Nat} {a : Option Addr} {l : List ByteArray} (h : OwnS w base (.slice a n c) l) : Slots w a base n ∧ n = l.length := by
  rcases h.2 with ⟨h1, h0⟩ | ⟨g, cap, cur, h1, hb, hg, h2, h3, h4⟩
  · injection h1 with e1 e2 e3
    subst e1 e2
    exact ⟨fun j hj => by omega, h0.symm⟩
  · injection h1 with e1 e2 e3
    subst e1 e2 e3
    refine ⟨fun j hj => ⟨g, rfl, hb, ?_, Lib.frozen_of_heap hg _⟩, rfl⟩
    have c1 := World.ownsRow.cells h (g := g) rfl j (.string l[j]) (by simp [strs, hj])
    rw [Lib.add_plain] at c1
    rw [Nat.zero_add] at c1
    rw [c1]; rfl
theorem Slots.set {w : World} {a : Option Addr} {base n : Nat} (h : Slots w a base n) (q : Addr) (u : Value) : Slots (w.setCell q u) a base n := fun j hj => by
  obtain ⟨g, h1, h2, h3, h4⟩ := h j hj
  refine ⟨g, h1, h2, ?_, by rw [World.frozen?_setCell]; exact h4⟩
  by_cases e : (⟨g, j, none⟩ : Addr) = q
  · subst e
    obtain ⟨x, hx⟩ := Option.isSome_iff_exists.1 h3
    rw [World.cell?_setCell_same _ _ _ hx]; rfl
  · rw [World.cell?_setCell_other _ _ _ _ (Ne.symm e)]; exact h3
theorem Slots.below {w w' : World} {a : Option Addr} {base n : Nat} (h : Slots w a base n) (hb : Below w.heap.size w w') : Slots w' a base n := fun j hj => by
  obtain ⟨g, h1, h2, h3, h4⟩ := h j hj
  have hlt : g < w.heap.size := by
    obtain ⟨x, hx⟩ := Option.isSome_iff_exists.1 h3
    unfold World.cell? at hx
    rcases Nat.lt_or_ge g w.heap.size with h' | h'
    · exact h'
    · simp only [Array.getElem?_eq_none h'] at hx; cases hx
  exact ⟨g, h1, h2, by rw [hb.cell (p := ⟨g, j, none⟩) hlt]; exact h3, by rw [hb.frozen (p := ⟨g, j, none⟩) hlt]; exact h4⟩

/-- what a list's reading gives, refused or not -/
def ListGives (f : FuncId) (X : ByteArray) (ms : List ByteArray) (n : Nat) (code : Int) : Prop := ∀ wx, Calls Tryz.prog f #[.string X] wx fun e w' => Below wx.heap.size wx w' ∧ ∃ a c, e = .returned (.tuple #[.slice a n c, .int .i64 code]) ∧ SrcS w' a c ms ∧ Slots w' a wx.heap.size n
theorem listGives_none {f : FuncId} {X : ByteArray} (h : ∀ wx, Calls Tryz.prog f #[.string X] wx (ListSays none wx)) : ListGives f X [] 0 5 := by
  intro wx
  refine (h wx).mono fun e w' hh => ?_
  obtain ⟨h1, h2⟩ := hh
  exact ⟨h1, none, 0, h2, ⟨fun j hj => by simp at hj, by simp, fun _ => ⟨rfl, rfl⟩⟩, fun j hj => by omega⟩
theorem listGives_some {f : FuncId} {X : ByteArray} {ms : List (List UInt8)} (h : ∀ wx, Calls Tryz.prog f #[.string X] wx (ListSays (some ms) wx)) : ListGives f X (ms.map mk) ms.length 0 := by
  intro wx
  refine (h wx).mono fun e w' hh => ?_
  obtain ⟨h1, v, h2, h3⟩ := hh
  obtain ⟨a, c, rfl, hs⟩ := ownS_src h3
  have hsl := (ownS_slots h3).1
  rw [List.length_map] at hsl h2
  exact ⟨h1, a, c, h2, hs, hsl⟩
theorem lstF_len : ∀ (f : Nat) (l : List UInt8) (ms : List (List UInt8)), lstF f l = some ms → ms.length ≤ l.length
  | 0, l, ms, h => by simp only [lstF, Option.some.injEq] at h; subst h; simp
  | f + 1, l, ms, h => by
    simp only [lstF] at h
    split at h
    · simp only [Option.some.injEq] at h; subst h; simp
    · rename_i hl
      have hpos : 0 < l.length := by cases l; contradiction; simp
      cases hc : cut l with
      | none => rw [hc] at h; simp at h
      | some n =>
        rw [hc] at h
        simp only at h
        cases hr : lstF f (l.drop (n + 1)) with
        | none => rw [hr] at h; simp at h
        | some m =>
          rw [hr] at h
          have := lstF_len f _ m hr
          simp only [Option.map_some, Option.some.injEq] at h
          rw [List.length_drop] at this
          subst h
          split
          · omega
          · simp only [List.length_cons]; omega
theorem lst_len (l : List UInt8) (ms : List (List UInt8)) (h : lst l = some ms) : ms.length ≤ l.length := lstF_len _ _ _ h
theorem list_gives (X : ByteArray) (hs : X.size ≤ 1073741824) : ∃ ms n code, ms.length = n ∧ n ≤ 1073741824 ∧ (code = 0 ∨ code = 5) ∧ ListGives 100 X ms n code ∧ ListGives 103 X ms n code := by
  have h1 := fun wx => list_any X wx hs
  have h2 := fun wx => rList_any X wx hs
  have hl := lst_len X.data.toList
  rw [len_data] at hl
  cases hR : lst X.data.toList with
  | none => rw [hR] at h1 h2; exact ⟨[], 0, 5, rfl, by omega, .inr rfl, listGives_none h1, listGives_none h2⟩
  | some ms => rw [hR] at h1 h2; exact ⟨_, _, 0, List.length_map .., by have := hl ms hR; omega, .inl rfl, listGives_some h1, listGives_some h2⟩
end Go.Proofs.YthkgaaibhjkngaaGreatDoor
