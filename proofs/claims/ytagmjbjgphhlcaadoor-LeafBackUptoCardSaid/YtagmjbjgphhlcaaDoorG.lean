/- Bytes that are handed in; bytes put behind others; where a character begins, texts may be cut: the walk. -/
import Derived.Test.YtagmjbjgphhlcaaDoorF
import Derived.Laws.AppendOwnNone
set_option linter.unusedVariables false
namespace Go.Proofs.YtagmjbjgphhlcaaDoor
open Go.RowKit

/-- bytes that a slice shows, however it lies -/
structure Src (w : World) (a : Option Addr) (c : Nat) (l : List UInt8) : Prop where
  bytes : Bytes w a l
  cap : l.length ≤ c
  big : c ≤ 9223372036854775807
  nil : a = none → l = [] ∧ c = 0
theorem Src.below {w w' : World} {a : Option Addr} {c : Nat} {l : List UInt8} (h : Src w a c l) (hb : Below w.heap.size w w') : Src w' a c l := ⟨h.bytes.below hb, h.cap, h.big, h.nil⟩
theorem Src.below' {w w' : World} {a : Option Addr} {c B : Nat} {l : List UInt8} (h : Src w a c l) (hB : w.heap.size ≤ B) (hb : Below B w w') : Src w' a c l := h.below (hb.mono hB)

theorem own_src {w : World} {base n : Nat} {v : Value} {l : List UInt8} (h : w.ownsRow base 5 1 v n (Lib.byteCells l)) : ∃ a c, v = .slice a l.length c ∧ n = l.length ∧ Src w a c l := by
  have hn : n = l.length := by have := h.1; rw [Lib.byteCells_length] at this; omega
  subst hn
  rcases h.2 with ⟨rfl, h0⟩ | ⟨g, cap, cur, rfl, hb, hg, h1, h2, h3, h4⟩
  · have : l = [] := List.eq_nil_of_length_eq_zero h0
    subst this
    exact ⟨none, 0, rfl, rfl, .inl rfl, by simp, by omega, fun _ => ⟨rfl, rfl⟩⟩
  · refine ⟨_, cap, rfl, rfl, .inr ⟨g, 0, rfl, (Array.getElem?_eq_some_iff.1 hg).1, ?_⟩, h1, by unfold maxLen at h2; omega, fun h => by cases h⟩
    intro j hj
    have := h.cells (g := g) rfl j (.int .u8 l[j].toNat) (by simp [Lib.byteCells, hj])
    rw [Lib.add_plain] at this
    exact this

/-- a row of bytes of the call's own -/
def OwnB (w : World) (base : Nat) (v : Value) (l : List UInt8) : Prop := w.ownsRow base 5 1 v l.length (Lib.byteCells l)
theorem app_bytes {w : World} {ops : Array Oper} {rest : List Oper} {o : Oper} {a : Act} {Q : Exit → Act → World → Prop} (hgd : o.guard = none) (s x : Operand)
    (ho : o.op = .call { callee := .builtin .append, args := #[s, x], argTypes := #[29, 29] }) (base : Nat) (v : Value) (xs : List UInt8) (hs : a.eval s = v) (hown : w.ownsRow base 5 1 v xs.length (Lib.byteCells xs))
    (ad : Option Addr) (c m : Nat) (l : List UInt8) (hm : l.length = m) (hx : a.eval x = .slice ad m c) (hsrc : Src w ad c l) (hn : xs.length + l.length ≤ 140737488355328) (hbase : base ≤ w.heap.size)
    (h : ∀ v' w', OwnB w' base v' (xs ++ l) → Hid (Below base w w') → Hid (w.grownBy w' v.ownBlock) → wpList Tryd.prog ops Q rest (a.put o.dst v') w') : wpList Tryd.prog ops Q (o :: rest) a w := by
  subst hm
  obtain ⟨i0, hi, hz0, hz1, hz2⟩ := info_parts info5
  cases ad with
  | none =>
    obtain ⟨rfl, rfl⟩ := hsrc.nil rfl
    refine wpList_append_own_none hgd s x 29 ho base 5 i0 1 Tryd.underlying29 hi v _ _ hs hown hx ?_
    have h2 := h v w (by unfold OwnB; simpa using hown) (Lib.hid (Below.refl _ _)) (Lib.hid ⟨rfl, rfl, rfl, Nat.le_refl _, fun _ _ _ => rfl⟩)
    exact h2
  | some ad =>
    refine wpList_append_own w hgd s x 29 ho base 5 i0 (.int .u8 0) 1 1 Tryd.underlying29 hi hz0 hz1 hz2 rfl (by decide) v _ _ hs hown ad l.length c (Lib.byteCells l) hx (by simp [Lib.byteCells]) ?_ ?_ (by unfold maxLen; omega) (by omega) hbase ?_
    · intro j u hj
      obtain ⟨hjl, rfl⟩ := List.getElem?_eq_some_iff.1 hj
      have hjl' : j < l.length := by simpa [Lib.byteCells] using hjl
      rcases hsrc.bytes with rfl | ⟨b, o, he, _, hr⟩
      · simp at hjl'
      · cases he
        rw [Lib.add_plain, hr j hjl']
        simp [Lib.byteCells]
    · intro u hu; simp only [Lib.byteCells, List.mem_map] at hu; obtain ⟨x, _, rfl⟩ := hu; rfl
    · intro v' w' h1 h2 _
      refine h v' w' ?_ (Lib.hid ((Below.refl _ _).grown h2 hbase (fun k hk => (hown.lt k hk).1))) (Lib.hid h2)
      unfold OwnB
      rw [List.length_append]
      rw [show Lib.byteCells (xs ++ l) = Lib.byteCells xs ++ Lib.byteCells l by simp [Lib.byteCells]]
      exact h1

theorem made_empty (w : World) (base : Nat) (h : base ≤ w.heap.size) (C : Array Value) (hC : C = #[]) : (w.alloc (.cells C 5)).ownsRow base 5 1 (.slice (some ⟨w.heap.size, 0, none⟩) 0 0) ([] : List UInt8).length (Lib.byteCells []) := by
  subst hC
  exact World.ownsRow_made w #[] 0 h (by unfold maxLen; omega) (by simp)

theorem dec_len (l : List UInt8) : (dec l).length ≤ 3 * l.length := by
  induction l using len_ind with
  | _ l ih =>
    by_cases h : l = []
    · subst h; simp [dec_nil]
    · have hb := pc_bd l h
      rw [dec_cons l h, List.length_append]
      have := ih (l.drop (pc l).1) (by simp only [List.length_drop]; omega)
      simp only [List.length_drop] at this
      split
      · simp only [List.length_take]; omega
      · simp only [fffd, List.length_cons, List.length_nil]; omega

end Go.Proofs.YtagmjbjgphhlcaaDoor
