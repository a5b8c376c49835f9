/- Fields in memory. -/
import Derived.Test.YthkgaaibhjkngaaGreatDoorFA
import Derived.Lib.SliceRun
import Derived.Lib.AppendStr
set_option linter.unusedVariables false
namespace Go.Proofs.YthkgaaibhjkngaaGreatDoor
open Go.RowKit

def OwnF (w : World) (base : Nat) (v : Value) (l : AL) : Prop := w.ownsRow base 37 2 v l.length (flat l)
theorem ownF_src {w : World} {base : Nat} {v : Value} {l : AL} (h : OwnF w base v l) : ∃ a c, v = .slice a l.length c ∧ SrcA w a c l ∧ (∀ x, a = some x → x = ⟨x.block, 0, none⟩ ∧ base ≤ x.block) := by
  rcases h.2 with ⟨rfl, h0⟩ | ⟨g, cap, cur, rfl, hb, hg, h1, h2, h3, h4⟩
  · have : l = [] := List.eq_nil_of_length_eq_zero h0
    subst this
    exact ⟨none, 0, rfl, ⟨fun j hj => by simp at hj, by simp, fun _ => ⟨rfl, rfl⟩⟩, fun x hx => by cases hx⟩
  · refine ⟨some ⟨g, 0, none⟩, cap, rfl, ⟨fun j hj => ?_, h1, fun h => by cases h⟩, fun x hx => by cases hx; exact ⟨rfl, hb⟩⟩
    obtain ⟨f1, f2⟩ := flat_at l j hj
    have c1 := World.ownsRow.cells h (g := g) rfl _ _ f1
    have c2 := World.ownsRow.cells h (g := g) rfl _ _ f2
    rw [Go.WideShapes.add_plain] at c1 c2
    exact ⟨g, 0, rfl, (Array.getElem?_eq_some_iff.1 hg).1, c1, c2⟩
theorem ownF_mono {w : World} {base base' : Nat} {v : Value} {l : AL} (h : OwnF w base v l) (hb : base' ≤ base) : OwnF w base' v l := by
  refine ⟨h.1, ?_⟩
  rcases h.2 with h | ⟨g, cap, cur, h1, h2, h3⟩
  · exact .inl h
  · exact .inr ⟨g, cap, cur, h1, by omega, h3⟩
theorem ownF_below {w w' : World} {base B : Nat} {v : Value} {l : AL} (h : OwnF w base v l) (hB : w.heap.size ≤ B) (hb : Below B w w') : OwnF w' base v l := by
  refine ⟨h.1, ?_⟩
  rcases h.2 with h | ⟨g, cap, cur, h1, h2, h3, h4⟩
  · exact .inl h
  · exact .inr ⟨g, cap, cur, h1, h2, (hb.block g (by have := (Array.getElem?_eq_some_iff.1 h3).1; omega)).trans h3, h4⟩

theorem infoF : (Tryz.prog.info? 37).map (fun i => (i.zero, i.size, i.bytes)) = some (some (.agg #[.string ⟨#[]⟩, .string ⟨#[]⟩]), 2, 32) := by kernel_rfl

theorem app_flds {w : World} {ops : Array Oper} {rest : List Oper} {o : Oper} {a : Act} {Q : Exit → Act → World → Prop} (hgd : o.guard = none) (s x : Operand)
    (ho : o.op = .call { callee := .builtin .append, args := #[s, x], argTypes := #[22, 22] }) (base : Nat) (v : Value) (xs : AL) (hs : a.eval s = v) (hown : OwnF w base v xs)
    (ad : Option Addr) (c m : Nat) (l : AL) (hm : l.length = m) (hx : a.eval x = .slice ad m c) (hsrc : SrcA w ad c l) (hn : (xs.length + l.length) * 32 ≤ 140737488355328) (hbase : base ≤ w.heap.size)
    (h : ∀ v' w', OwnF w' base v' (xs ++ l) → Hid (Below base w w') → Hid (w.grownBy w' v.ownBlock) → wpList Tryz.prog ops Q rest (a.put o.dst v') w') : wpList Tryz.prog ops Q (o :: rest) a w := by
  subst hm
  obtain ⟨i0, hi, hz0, hz1, hz2⟩ := info_parts infoF
  cases ad with
  | none =>
    obtain ⟨rfl, rfl⟩ := hsrc.nil rfl
    refine wpList_append_own_none hgd s x 22 ho base 37 i0 2 Tryz.underlying22 hi v _ _ hs hown hx ?_
    exact h v w (by rw [List.append_nil]; exact hown) (Lib.hid (Below.refl _ _)) (Lib.hid ⟨rfl, rfl, rfl, Nat.le_refl _, fun _ _ _ => rfl⟩)
  | some ad =>
    refine wpList_append_own w hgd s x 22 ho base 37 i0 (.agg #[.string ⟨#[]⟩, .string ⟨#[]⟩]) 2 32 Tryz.underlying22 hi hz0 hz1 hz2 rfl (by decide) v _ _ hs hown ad l.length c (flat l) hx (flat_len l) ?_ (flat_one l) (by unfold maxLen; omega) hn hbase ?_
    · intro k u hk
      obtain ⟨j, hj, hh⟩ := flat_get l k u hk
      obtain ⟨b, o, he, _, h1, h2⟩ := hsrc.at_ j hj
      cases he
      rw [Go.WideShapes.add_plain]
      rcases hh with ⟨rfl, rfl⟩ | ⟨rfl, rfl⟩
      · exact h1
      · rw [← Nat.add_assoc]; exact h2
    · intro v' w' h1 h2 _
      refine h v' w' ?_ (Lib.hid ((Below.refl _ _).grown h2 hbase (fun k hk => (World.ownsRow.lt hown k hk).1))) (Lib.hid h2)
      unfold OwnF
      rw [List.length_append, flat_append]
      exact h1
theorem ownF_nil (w : World) (base : Nat) : OwnF w base (.slice none 0 0) [] := World.ownsRow_nil _ _ _ _
theorem ownF_alloc {w : World} {base : Nat} {v : Value} {l : AL} (h : OwnF w base v l) (o : Obj) : OwnF (w.alloc o) base v l := World.ownsRow.alloc h o
theorem lit_fld (A B : ByteArray) (wx : World) : SrcA (wx.alloc (.cells #[.string A, .string B] 37)) (some ⟨wx.heap.size, 0, none⟩) 1 [(A, B)] := by
  refine ⟨fun j hj => ?_, by simp, fun h => by cases h⟩
  have hj0 : j = 0 := by simpa using hj
  subst hj0


  exact ⟨_, 0, rfl, by simp, (at_alloc wx _ _ 0).1, (at_alloc wx _ _ 1).1⟩
theorem strCells_bytes (s : ByteArray) : Lib.strCells s = Lib.byteCells s.data.toList := by simp [Lib.strCells, Lib.byteCells]
theorem app_bstr {w : World} {ops : Array Oper} {rest : List Oper} {o : Oper} {a : Act} {Q : Exit → Act → World → Prop} (hgd : o.guard = none) (sl x : Operand)
    (ho : o.op = .call { callee := .builtin .append, args := #[sl, x], argTypes := #[45, 9] }) (base : Nat) (v : Value) (l : List UInt8) (hs : a.eval sl = v) (hown : OwnB w base v l)
    (s : ByteArray) (hx : a.eval x = .string s) (hn : l.length + s.size ≤ 140737488355328) (hbase : base ≤ w.heap.size)
    (h : ∀ v' w', OwnB w' base v' (l ++ s.data.toList) → Hid (Below base w w') → Hid (w.grownBy w' v.ownBlock) → wpList Tryz.prog ops Q rest (a.put o.dst v') w') : wpList Tryz.prog ops Q (o :: rest) a w := by
  obtain ⟨i0, hi, hz0, hz1, hz2⟩ := info_parts info5
  refine Lib.wpList_append_own_string w hgd sl x 45 9 ho base 5 i0 Tryz.underlying45 Tryz.underlying9 hi hz0 hz1 hz2 v l.length (Lib.byteCells l) hs hown s hx (by unfold maxLen; omega) hn hbase ?_
  intro v' w' h1 h2 _
  refine h v' w' ?_ (Lib.hid ((Below.refl _ _).grown h2 hbase (fun k hk => (World.ownsRow.lt hown k hk).1))) (Lib.hid h2)
  unfold OwnB
  rw [List.length_append, len_data]
  rw [show Lib.byteCells (l ++ s.data.toList) = Lib.byteCells l ++ Lib.strCells s by rw [strCells_bytes]; simp [Lib.byteCells]]
  exact h1
/-- what is neither new nor the row's own stays -/
theorem grown_far {w w' : World} {row : Option Nat} (h : w.grownBy w' row) (b o : Nat) (hb : b < w.heap.size) (hne : row ≠ some b) : w'.cell? ⟨b, o, none⟩ = w.cell? ⟨b, o, none⟩ := by
  have e := h.block b hb (fun e => hne e.symm)
  unfold World.cell?
  simp only [e]
theorem grown_ice {w w' : World} {row : Option Nat} (h : w.grownBy w' row) (b o : Nat) (hb : b < w.heap.size) (hne : row ≠ some b) : w'.frozen? ⟨b, o, none⟩ = w.frozen? ⟨b, o, none⟩ := by
  have e := h.block b hb (fun e => hne e.symm)
  unfold World.frozen?
  simp only [e]
theorem ownB_ne {w : World} {base : Nat} {v : Value} {l : List UInt8} (h : OwnB w base v l) (b : Nat) (hb : w.heap.size ≤ b) : v.ownBlock ≠ some b := fun e => by
  have := (World.ownsRow.lt h b e).2; omega
theorem ownF_ne {w : World} {base : Nat} {v : Value} {l : AL} (h : OwnF w base v l) (b : Nat) (hb : w.heap.size ≤ b) : v.ownBlock ≠ some b := fun e => by
  have := (World.ownsRow.lt h b e).2; omega
theorem ownS_ne {w : World} {base : Nat} {v : Value} {l : List ByteArray} (h : OwnS w base v l) (b : Nat) (hb : w.heap.size ≤ b) : v.ownBlock ≠ some b := fun e => by
  have := (World.ownsRow.lt h b e).2; omega
/-- strings that a slice shows, appended -/
theorem app_strs {w : World} {ops : Array Oper} {rest : List Oper} {o : Oper} {a : Act} {Q : Exit → Act → World → Prop} (hgd : o.guard = none) (s x : Operand)
    (ho : o.op = .call { callee := .builtin .append, args := #[s, x], argTypes := #[75, 75] }) (base : Nat) (v : Value) (xs : List ByteArray) (hs : a.eval s = v) (hown : OwnS w base v xs)
    (ad : Option Addr) (c m : Nat) (l : List ByteArray) (hm : l.length = m) (hx : a.eval x = .slice ad m c) (hsrc : SrcS w ad c l) (hn : (xs.length + l.length) * 16 ≤ 140737488355328) (hbase : base ≤ w.heap.size)
    (h : ∀ v' w', OwnS w' base v' (xs ++ l) → Hid (Below base w w') → Hid (w.grownBy w' v.ownBlock) → wpList Tryz.prog ops Q rest (a.put o.dst v') w') : wpList Tryz.prog ops Q (o :: rest) a w := by
  subst hm
  obtain ⟨i0, hi, hz0, hz1, hz2⟩ := info_parts info9
  cases ad with
  | none =>
    obtain ⟨rfl, rfl⟩ := hsrc.nil rfl
    refine wpList_append_own_none hgd s x 75 ho base 9 i0 1 Tryz.underlying75 hi v _ _ hs hown hx ?_
    exact h v w (by rw [List.append_nil]; exact hown) (Lib.hid (Below.refl _ _)) (Lib.hid ⟨rfl, rfl, rfl, Nat.le_refl _, fun _ _ _ => rfl⟩)
  | some ad =>
    refine wpList_append_own w hgd s x 75 ho base 9 i0 (.string ⟨#[]⟩) 1 16 Tryz.underlying75 hi hz0 hz1 hz2 rfl (by decide) v _ _ hs hown ad l.length c (strs l) hx (by simp [strs]) ?_ (fun u hu => by simp only [strs, List.mem_map] at hu; obtain ⟨q, _, rfl⟩ := hu; rfl) (by unfold maxLen; omega) hn hbase ?_
    · intro k u hk
      have hkl : k < l.length := by have := (List.getElem?_eq_some_iff.1 hk).1; simpa [strs] using this
      obtain ⟨b, o, he, _, h1⟩ := hsrc.at_ k hkl
      cases he
      rw [Go.WideShapes.add_plain, h1]
      simp only [strs, List.getElem?_map, List.getElem?_eq_getElem hkl, Option.map_some, Option.some.injEq] at hk
      rw [hk]
    · intro v' w' h1 h2 _
      refine h v' w' ?_ (Lib.hid ((Below.refl _ _).grown h2 hbase (fun k hk => (World.ownsRow.lt hown k hk).1))) (Lib.hid h2)
      unfold OwnS
      rw [List.length_append]
      rw [show strs (xs ++ l) = strs xs ++ strs l by simp [strs]]
      exact h1
end Go.Proofs.YthkgaaibhjkngaaGreatDoor
