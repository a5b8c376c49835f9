/- Numbers are written as characters: the walk. -/
import Derived.Test.YtagmjbjgphhlcaaDoorK
set_option linter.unusedVariables false
namespace Go.Proofs.YtagmjbjgphhlcaaDoor
open Go.RowKit

def i32s (l : List Int) : List Value := l.map (Value.int .i32)
/-- a row of numbers of the call's own -/
def OwnN (w : World) (base : Nat) (v : Value) (l : List Int) : Prop := w.ownsRow base 21 1 v l.length (i32s l)
theorem ownN_src {w : World} {base : Nat} {v : Value} {l : List Int} (h : OwnN w base v l) : ∃ a c, v = .slice a l.length c ∧ Nums w a l ∧ l.length ≤ c ∧ (a = none → l = [] ∧ c = 0) := by
  rcases h.2 with ⟨rfl, h0⟩ | ⟨g, cap, cur, rfl, hb, hg, h1, h2, h3, h4⟩
  · have : l = [] := List.eq_nil_of_length_eq_zero h0
    subst this
    exact ⟨none, 0, rfl, fun j hj => by simp at hj, by simp, fun _ => ⟨rfl, rfl⟩⟩
  · refine ⟨_, cap, rfl, fun j hj => ⟨g, 0, rfl, (Array.getElem?_eq_some_iff.1 hg).1, ?_⟩, h1, fun h => by cases h⟩
    have := World.ownsRow.cells h (g := g) rfl j (.int .i32 l[j]) (by simp [i32s, hj])
    rw [Lib.add_plain] at this
    exact this

theorem app_nums {w : World} {ops : Array Oper} {rest : List Oper} {o : Oper} {a : Act} {Q : Exit → Act → World → Prop} (hgd : o.guard = none) (s x : Operand)
    (ho : o.op = .call { callee := .builtin .append, args := #[s, x], argTypes := #[38, 38] }) (base : Nat) (v : Value) (xs : List Int) (hs : a.eval s = v) (hown : OwnN w base v xs)
    (ad : Option Addr) (c m : Nat) (l : List Int) (hm : l.length = m) (hx : a.eval x = .slice ad m c) (hsrc : Nums w ad l) (hnil : ad = none → l = [] ∧ c = 0) (hn : xs.length + l.length ≤ 35184372088832) (hbase : base ≤ w.heap.size)
    (h : ∀ v' w', OwnN w' base v' (xs ++ l) → Hid (Below base w w') → Hid (w.grownBy w' v.ownBlock) → wpList Tryd.prog ops Q rest (a.put o.dst v') w') : wpList Tryd.prog ops Q (o :: rest) a w := by
  subst hm
  obtain ⟨i0, hi, hz0, hz1, hz2⟩ := info_parts info21
  cases ad with
  | none =>
    obtain ⟨rfl, rfl⟩ := hnil rfl
    refine wpList_append_own_none hgd s x 38 ho base 21 i0 1 Tryd.underlying38 hi v _ _ hs hown hx ?_
    exact h v w (by rw [List.append_nil]; exact hown) (Lib.hid (Below.refl _ _)) (Lib.hid ⟨rfl, rfl, rfl, Nat.le_refl _, fun _ _ _ => rfl⟩)
  | some ad =>
    refine wpList_append_own w hgd s x 38 ho base 21 i0 (.int .i32 0) 1 4 Tryd.underlying38 hi hz0 hz1 hz2 rfl (by decide) v _ _ hs hown ad l.length c (i32s l) hx (by simp [i32s]) ?_ ?_ (by unfold maxLen; omega) (by omega) hbase ?_
    · intro j u hj
      obtain ⟨hjl, rfl⟩ := List.getElem?_eq_some_iff.1 hj
      have hjl' : j < l.length := by simpa [i32s] using hjl
      obtain ⟨b, o, he, _, hr⟩ := hsrc j hjl'
      cases he
      rw [Lib.add_plain, hr]
      simp [i32s]
    · intro u hu; simp only [i32s, List.mem_map] at hu; obtain ⟨x, _, rfl⟩ := hu; rfl
    · intro v' w' h1 h2 _
      refine h v' w' ?_ (Lib.hid ((Below.refl _ _).grown h2 hbase (fun k hk => (World.ownsRow.lt hown k hk).1))) (Lib.hid h2)
      unfold OwnN
      rw [List.length_append, show i32s (xs ++ l) = i32s xs ++ i32s l by simp [i32s]]
      exact h1
theorem made_emptyN (w : World) (base : Nat) (h : base ≤ w.heap.size) (C : Array Value) (hC : C = #[]) : OwnN (w.alloc (.cells C 21)) base (.slice (some ⟨w.heap.size, 0, none⟩) 0 0) [] := by
  subst hC
  exact World.ownsRow_made w #[] 0 h (by unfold maxLen; omega) (by simp)

end Go.Proofs.YtagmjbjgphhlcaaDoor
