/- Parameters in memory. -/
import Derived.Test.YthkgaaibhjkngaaGreatDoorI
import Derived.Lib.SliceRun
set_option linter.unusedVariables false
namespace Go.Proofs.YthkgaaibhjkngaaGreatDoor
open Go.RowKit

abbrev AL := List (ByteArray × ByteArray)
def flat (l : AL) : List Value := l.flatMap fun p => [.string p.1, .string p.2]
theorem flat_cons (p : ByteArray × ByteArray) (l : AL) : flat (p :: l) = .string p.1 :: .string p.2 :: flat l := rfl
theorem flat_append (a b : AL) : flat (a ++ b) = flat a ++ flat b := by simp [flat]
theorem flat_len (l : AL) : (flat l).length = l.length * 2 := by
  induction l with
  | nil => rfl
  | cons p r ih => rw [flat_cons, List.length_cons, List.length_cons, List.length_cons, ih]; omega
theorem flat_at : ∀ (l : AL) (j : Nat) (h : j < l.length), (flat l)[j * 2]? = some (.string l[j].1) ∧ (flat l)[j * 2 + 1]? = some (.string l[j].2)
  | p :: r, 0, _ => ⟨rfl, rfl⟩
  | p :: r, j + 1, h => by
    have := flat_at r j (by simpa using h)
    rw [flat_cons, show (j + 1) * 2 = (j * 2) + 1 + 1 by omega]
    simpa using this
theorem flat_get (l : AL) (k : Nat) (u : Value) (h : (flat l)[k]? = some u) : ∃ j, ∃ hj : j < l.length, (k = j * 2 ∧ u = .string l[j].1) ∨ (k = j * 2 + 1 ∧ u = .string l[j].2) := by
  have hk : k < l.length * 2 := by rw [← flat_len]; exact (List.getElem?_eq_some_iff.1 h).1
  have hj : k / 2 < l.length := by omega
  obtain ⟨h1, h2⟩ := flat_at l (k / 2) hj
  refine ⟨k / 2, hj, ?_⟩
  rcases Nat.mod_two_eq_zero_or_one k with e | e
  · left
    have : k / 2 * 2 = k := by omega
    rw [this] at h1
    exact ⟨this.symm, by rw [h] at h1; exact Option.some.inj h1⟩
  · right
    have : k / 2 * 2 + 1 = k := by omega
    rw [this] at h2
    exact ⟨this.symm, by rw [h] at h2; exact Option.some.inj h2⟩
theorem flat_one (l : AL) : ∀ u ∈ flat l, u.oneCell' = true := by
  intro u hu
  obtain ⟨k, hk, rfl⟩ := List.getElem_of_mem hu
  obtain ⟨j, hj, ⟨_, h⟩ | ⟨_, h⟩⟩ := flat_get l k _ (List.getElem?_eq_getElem hk) <;> rw [h] <;> rfl

/-- attributes that a slice shows -/
structure SrcA (w : World) (a : Option Addr) (c : Nat) (l : AL) : Prop where
  at_ : ∀ j (h : j < l.length), ∃ b o, a = some ⟨b, o, none⟩ ∧ b < w.heap.size ∧ w.cell? ⟨b, o + j * 2, none⟩ = some (.string l[j].1) ∧ w.cell? ⟨b, o + j * 2 + 1, none⟩ = some (.string l[j].2)
  cap : l.length ≤ c
  nil : a = none → l = [] ∧ c = 0
theorem SrcA.below {w w' : World} {a : Option Addr} {c B : Nat} {l : AL} (h : SrcA w a c l) (hB : w.heap.size ≤ B) (hb : Below B w w') : SrcA w' a c l :=
  ⟨fun j hj => by
    obtain ⟨b, o, h1, h2, h3, h4⟩ := h.at_ j hj
    exact ⟨b, o, h1, Nat.lt_of_lt_of_le h2 hb.size, (hb.cell (p := ⟨b, o + j * 2, none⟩) (by simp; omega)).trans h3, (hb.cell (p := ⟨b, o + j * 2 + 1, none⟩) (by simp; omega)).trans h4⟩, h.cap, h.nil⟩

def OwnA (w : World) (base : Nat) (v : Value) (l : AL) : Prop := w.ownsRow base 133 2 v l.length (flat l)
theorem ownA_src {w : World} {base : Nat} {v : Value} {l : AL} (h : OwnA w base v l) : ∃ a c, v = .slice a l.length c ∧ SrcA w a c l ∧ (∀ x, a = some x → x = ⟨x.block, 0, none⟩ ∧ base ≤ x.block) := by
  rcases h.2 with ⟨rfl, h0⟩ | ⟨g, cap, cur, rfl, hb, hg, h1, h2, h3, h4⟩
  · have : l = [] := List.eq_nil_of_length_eq_zero h0
    subst this
    exact ⟨none, 0, rfl, ⟨fun j hj => by simp at hj, by simp, fun _ => ⟨rfl, rfl⟩⟩, fun x hx => by cases hx⟩
  · refine ⟨some ⟨g, 0, none⟩, cap, rfl, ⟨fun j hj => ?_, h1, fun h => by cases h⟩, fun x hx => by cases hx; exact ⟨rfl, hb⟩⟩
    obtain ⟨f1, f2⟩ := flat_at l j hj
    have c1 := World.ownsRow.cells h (g := g) rfl _ _ f1
    have c2 := World.ownsRow.cells h (g := g) rfl _ _ f2
    rw [Go.WideShapes.add_plain] at c1 c2
    exact ⟨g, 0, rfl, (Array.getElem?_eq_some_iff.1 hg).1, c1, c2⟩
theorem ownA_mono {w : World} {base base' : Nat} {v : Value} {l : AL} (h : OwnA w base v l) (hb : base' ≤ base) : OwnA w base' v l := by
  refine ⟨h.1, ?_⟩
  rcases h.2 with h | ⟨g, cap, cur, h1, h2, h3⟩
  · exact .inl h
  · exact .inr ⟨g, cap, cur, h1, by omega, h3⟩
theorem ownA_below {w w' : World} {base B : Nat} {v : Value} {l : AL} (h : OwnA w base v l) (hB : w.heap.size ≤ B) (hb : Below B w w') : OwnA w' base v l := by
  refine ⟨h.1, ?_⟩
  rcases h.2 with h | ⟨g, cap, cur, h1, h2, h3, h4⟩
  · exact .inl h
  · exact .inr ⟨g, cap, cur, h1, h2, (hb.block g (by have := (Array.getElem?_eq_some_iff.1 h3).1; omega)).trans h3, h4⟩

theorem info40 : (Tryz.prog.info? 133).map (fun i => (i.zero, i.size, i.bytes)) = some (some (.agg #[.string ⟨#[]⟩, .string ⟨#[]⟩]), 2, 32) := by kernel_rfl

theorem app_attrs {w : World} {ops : Array Oper} {rest : List Oper} {o : Oper} {a : Act} {Q : Exit → Act → World → Prop} (hgd : o.guard = none) (s x : Operand)
    (ho : o.op = .call { callee := .builtin .append, args := #[s, x], argTypes := #[107, 107] }) (base : Nat) (v : Value) (xs : AL) (hs : a.eval s = v) (hown : OwnA w base v xs)
    (ad : Option Addr) (c m : Nat) (l : AL) (hm : l.length = m) (hx : a.eval x = .slice ad m c) (hsrc : SrcA w ad c l) (hn : (xs.length + l.length) * 32 ≤ 140737488355328) (hbase : base ≤ w.heap.size)
    (h : ∀ v' w', OwnA w' base v' (xs ++ l) → Hid (Below base w w') → Hid (w.grownBy w' v.ownBlock) → wpList Tryz.prog ops Q rest (a.put o.dst v') w') : wpList Tryz.prog ops Q (o :: rest) a w := by
  subst hm
  obtain ⟨i0, hi, hz0, hz1, hz2⟩ := info_parts info40
  cases ad with
  | none =>
    obtain ⟨rfl, rfl⟩ := hsrc.nil rfl
    refine wpList_append_own_none hgd s x 107 ho base 133 i0 2 Tryz.underlying107 hi v _ _ hs hown hx ?_
    exact h v w (by rw [List.append_nil]; exact hown) (Lib.hid (Below.refl _ _)) (Lib.hid ⟨rfl, rfl, rfl, Nat.le_refl _, fun _ _ _ => rfl⟩)
  | some ad =>
    refine wpList_append_own w hgd s x 107 ho base 133 i0 (.agg #[.string ⟨#[]⟩, .string ⟨#[]⟩]) 2 32 Tryz.underlying107 hi hz0 hz1 hz2 rfl (by decide) v _ _ hs hown ad l.length c (flat l) hx (flat_len l) ?_ (flat_one l) (by unfold maxLen; omega) hn hbase ?_
    · intro k u hk
      obtain ⟨j, hj, hh⟩ := flat_get l k u hk
      obtain ⟨b, o, he, _, h1, h2⟩ := hsrc.at_ j hj
      cases he
      rw [Go.WideShapes.add_plain]
      rcases hh with ⟨rfl, rfl⟩ | ⟨rfl, rfl⟩
      · exact h1
      · rw [← Nat.add_assoc]; exact h2
    · intro v' w' h1 h2 _
      refine h v' w' ?_ (Lib.hid ((Below.refl _ _).grown h2 hbase (fun k hk => (World.ownsRow.lt hown k hk).1))) (Lib.hid h2)
      unfold OwnA
      rw [List.length_append, flat_append]
      exact h1
end Go.Proofs.YthkgaaibhjkngaaGreatDoor
