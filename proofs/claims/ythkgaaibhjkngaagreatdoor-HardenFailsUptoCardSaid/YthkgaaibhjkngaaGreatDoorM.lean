/- Bytes in memory: rows that a slice shows, rows of the call's own. -/
import Derived.Test.YthkgaaibhjkngaaGreatDoorD
import Derived.Laws.AppendOwnNone
set_option linter.unusedVariables false
namespace Go.Proofs.YthkgaaibhjkngaaGreatDoor
open Go.RowKit

def Row (w : World) (b o : Nat) (l : List UInt8) : Prop := ∀ j (h : j < l.length), w.cell? ⟨b, o + j, none⟩ = some (.int .u8 l[j].toNat)

theorem Row.drop {w : World} {b o : Nat} {l : List UInt8} (h : Row w b o l) (k : Nat) : Row w b (o + k) (l.drop k) := by
  intro j hj
  have hj' : j < l.length - k := by simpa using hj
  have := h (k + j) (by omega)
  rw [Nat.add_assoc, this]; simp

theorem Row.take {w : World} {b o : Nat} {l : List UInt8} (h : Row w b o l) (k : Nat) : Row w b o (l.take k) := by
  intro j hj
  have hj' : j < min k l.length := by simpa using hj
  rw [h j (by omega)]; simp

theorem Row.below {w w' : World} {b o B : Nat} {l : List UInt8} (h : Row w b o l) (hb : Below B w w') (hlt : b < B) : Row w' b o l :=
  fun j hj => (hb.cell (p := ⟨b, o + j, none⟩) hlt).trans (h j hj)

theorem info5 : (Tryz.prog.info? 5).map (fun i => (i.zero, i.size, i.bytes)) = some (some (.int .u8 0), 1, 1) := by kernel_rfl

def Bytes (w : World) (a : Option Addr) (l : List UInt8) : Prop := l = [] ∨ ∃ b o, a = some ⟨b, o, none⟩ ∧ b < w.heap.size ∧ Row w b o l

theorem Bytes.below {w w' : World} {a : Option Addr} {l : List UInt8} (h : Bytes w a l) (hb : Below w.heap.size w w') : Bytes w' a l := by
  rcases h with h | ⟨b, o, h1, h2, h3⟩
  · exact .inl h
  · exact .inr ⟨b, o, h1, Nat.lt_of_lt_of_le h2 hb.size, h3.below hb h2⟩

structure Src (w : World) (a : Option Addr) (c : Nat) (l : List UInt8) : Prop where
  bytes : Bytes w a l
  cap : l.length ≤ c
  big : c ≤ 9223372036854775807
  nil : a = none → l = [] ∧ c = 0

theorem Src.below {w w' : World} {a : Option Addr} {c : Nat} {l : List UInt8} (h : Src w a c l) (hb : Below w.heap.size w w') : Src w' a c l := ⟨h.bytes.below hb, h.cap, h.big, h.nil⟩

theorem Src.below' {w w' : World} {a : Option Addr} {c B : Nat} {l : List UInt8} (h : Src w a c l) (hB : w.heap.size ≤ B) (hb : Below B w w') : Src w' a c l := h.below (hb.mono hB)

theorem own_src {w : World} {base n : Nat} {v : Value} {l : List UInt8} (h : w.ownsRow base 5 1 v n (Lib.byteCells l)) : ∃ a c, v = .slice a l.length c ∧ n = l.length ∧ Src w a c l := by
  have hn : n = l.length := by have := h.1; rw [Lib.byteCells_length] at this; omega
  subst hn
  rcases h.2 with ⟨rfl, h0⟩ | ⟨g, cap, cur, rfl, hb, hg, h1, h2, h3, h4⟩
  · have : l = [] := List.eq_nil_of_length_eq_zero h0
    subst this
    exact ⟨none, 0, rfl, rfl, .inl rfl, by simp, by omega, fun _ => ⟨rfl, rfl⟩⟩
  · refine ⟨_, cap, rfl, rfl, .inr ⟨g, 0, rfl, (Array.getElem?_eq_some_iff.1 hg).1, ?_⟩, h1, by unfold maxLen at h2; omega, fun h => by cases h⟩
    intro j hj
    have := h.cells (g := g) rfl j (.int .u8 l[j].toNat) (by simp [Lib.byteCells, hj])
    rw [Lib.add_plain] at this
    exact this

def OwnB (w : World) (base : Nat) (v : Value) (l : List UInt8) : Prop := w.ownsRow base 5 1 v l.length (Lib.byteCells l)

theorem app_bytes {w : World} {ops : Array Oper} {rest : List Oper} {o : Oper} {a : Act} {Q : Exit → Act → World → Prop} (hgd : o.guard = none) (s x : Operand)
    (ho : o.op = .call { callee := .builtin .append, args := #[s, x], argTypes := #[45, 45] }) (base : Nat) (v : Value) (xs : List UInt8) (hs : a.eval s = v) (hown : w.ownsRow base 5 1 v xs.length (Lib.byteCells xs))
    (ad : Option Addr) (c m : Nat) (l : List UInt8) (hm : l.length = m) (hx : a.eval x = .slice ad m c) (hsrc : Src w ad c l) (hn : xs.length + l.length ≤ 140737488355328) (hbase : base ≤ w.heap.size)
    (h : ∀ v' w', OwnB w' base v' (xs ++ l) → Hid (Below base w w') → Hid (w.grownBy w' v.ownBlock) → wpList Tryz.prog ops Q rest (a.put o.dst v') w') : wpList Tryz.prog ops Q (o :: rest) a w := by
  subst hm
  obtain ⟨i0, hi, hz0, hz1, hz2⟩ := info_parts info5
  cases ad with
  | none =>
    obtain ⟨rfl, rfl⟩ := hsrc.nil rfl
    refine wpList_append_own_none hgd s x 45 ho base 5 i0 1 Tryz.underlying45 hi v _ _ hs hown hx ?_
    have h2 := h v w (by unfold OwnB; simpa using hown) (Lib.hid (Below.refl _ _)) (Lib.hid ⟨rfl, rfl, rfl, Nat.le_refl _, fun _ _ _ => rfl⟩)
    exact h2
  | some ad =>
    refine wpList_append_own w hgd s x 45 ho base 5 i0 (.int .u8 0) 1 1 Tryz.underlying45 hi hz0 hz1 hz2 rfl (by decide) v _ _ hs hown ad l.length c (Lib.byteCells l) hx (by simp [Lib.byteCells]) ?_ ?_ (by unfold maxLen; omega) (by omega) hbase ?_
    · intro j u hj
      obtain ⟨hjl, rfl⟩ := List.getElem?_eq_some_iff.1 hj
      have hjl' : j < l.length := by simpa [Lib.byteCells] using hjl
      rcases hsrc.bytes with rfl | ⟨b, o, he, _, hr⟩
      · simp at hjl'
      · cases he
        rw [Lib.add_plain, hr j hjl']
        simp [Lib.byteCells]
    · intro u hu; simp only [Lib.byteCells, List.mem_map] at hu; obtain ⟨x, _, rfl⟩ := hu; rfl
    · intro v' w' h1 h2 _
      refine h v' w' ?_ (Lib.hid ((Below.refl _ _).grown h2 hbase (fun k hk => (hown.lt k hk).1))) (Lib.hid h2)
      unfold OwnB
      rw [List.length_append]
      rw [show Lib.byteCells (xs ++ l) = Lib.byteCells xs ++ Lib.byteCells l by simp [Lib.byteCells]]
      exact h1

theorem made_empty (w : World) (base : Nat) (h : base ≤ w.heap.size) (C : Array Value) (hC : C = #[]) : (w.alloc (.cells C 5)).ownsRow base 5 1 (.slice (some ⟨w.heap.size, 0, none⟩) 0 0) ([] : List UInt8).length (Lib.byteCells []) := by
  subst hC
  exact World.ownsRow_made w #[] 0 h (by unfold maxLen; omega) (by simp)

theorem Src.take {w : World} {a : Option Addr} {c : Nat} {l : List UInt8} (h : Src w a c l) (k : Nat) : Src w a c (l.take k) := by
  refine ⟨?_, by have := h.cap; simp only [List.length_take]; omega, h.big, fun e => ⟨by rw [(h.nil e).1]; simp, (h.nil e).2⟩⟩
  rcases h.bytes with e | ⟨b, o, e1, e2, e3⟩
  · left; rw [e]; simp
  · exact .inr ⟨b, o, e1, e2, e3.take k⟩

theorem conv_src (w : World) (a : Option Addr) (c : Nat) (l : List UInt8) (h : Src w a c l) : (convert 45 9 (.slice a l.length c)).run Tryz.prog w = .ok (.string ⟨l.toArray⟩) w := by
  cases a with
  | none =>
    obtain ⟨rfl, rfl⟩ := h.nil rfl
    rw [run_convert_bytes_string w 45 9 5 none _ 0 Tryz.underlying45 Tryz.underlying5 Tryz.underlying9]
    rfl
  | some x =>
    refine run_convert_bytes_back (P := Tryz.prog) w 45 9 5 x c l Tryz.underlying45 Tryz.underlying5 Tryz.underlying9 (fun j hj => ?_)
    rcases h.bytes with rfl | ⟨b, o, he, _, hr⟩
    · simp at hj
    · cases he
      rw [Lib.add_plain, hr j hj]

theorem lit_bytes (l : List UInt8) (wx : World) : Bytes (wx.alloc (.cells (Lib.byteCells l).toArray 5)) (some ⟨wx.heap.size, 0, none⟩) l := by
  refine .inr ⟨_, _, rfl, by simp, ?_⟩
  intro j hj
  have hb : (wx.alloc (.cells (Lib.byteCells l).toArray 5)).heap[wx.heap.size]? = some (.cells (Lib.byteCells l).toArray 5 (0, 0)) := by
    show (wx.heap.push _)[wx.heap.size]? = _; simp
  rw [Lib.cell_of_heap hb]
  simp [Lib.byteCells, hj]

theorem lit_src (l : List UInt8) (wx : World) (h : l.length ≤ 9223372036854775807) : Src (wx.alloc (.cells (Lib.byteCells l).toArray 5)) (some ⟨wx.heap.size, 0, none⟩) l.length l := ⟨lit_bytes l wx, Nat.le_refl _, h, fun h => by cases h⟩

theorem hown_below {w w' : World} {base : Nat} {v : Value} {l : List UInt8} (h : OwnB w base v l) (hb : Below w.heap.size w w') : OwnB w' base v l := by
  refine ⟨h.1, ?_⟩
  rcases h.2 with h | ⟨g, cap, cur, h1, h2, h3, h4⟩
  · exact .inl h
  · exact .inr ⟨g, cap, cur, h1, h2, (hb.block g (Array.getElem?_eq_some_iff.1 h3).1).trans h3, h4⟩

theorem src_nil (w : World) : Src w none 0 [] := ⟨.inl rfl, by simp, by omega, fun _ => ⟨rfl, rfl⟩⟩

end Go.Proofs.YthkgaaibhjkngaaGreatDoor
