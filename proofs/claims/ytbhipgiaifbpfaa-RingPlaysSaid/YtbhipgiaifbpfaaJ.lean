/- append of bytes that are read anywhere, a nil slice too. -/
import Derived.Test.YtbhipgiaifbpfaaH
import Derived.Maps.AppendAt
import Derived.Deep.RegionHeld3
namespace Go.Proofs.Ytbhipgiaifbpfaa
open Go.RowKit

/-- the bytes that a slice tells -/
structure Reads (w : World) (a : Option Addr) (m : Nat) (l : List UInt8) : Prop where
  len : l.length = m
  cells : ∀ j (h : j < l.length), ∃ x, a = some x ∧ w.cell? (x.add j) = some (byte l[j])

theorem Reads.news {w : World} {x : Addr} {m : Nat} {l : List UInt8} (h : Reads w (some x) m l) : ∀ j u, (l.map byte)[j]? = some u → w.cell? (x.add j) = some u := by
  intro j u hu
  obtain ⟨hj, rfl⟩ := List.getElem?_eq_some_iff.1 hu
  simp at hj
  obtain ⟨y, hy, hc⟩ := h.cells j hj
  cases hy
  simpa using hc
theorem Reads.nil (w : World) (a : Option Addr) : Reads w a 0 [] := ⟨rfl, fun j hj => by simp at hj⟩
theorem Src.reads {w : World} {a : Option Addr} {n c : Nat} {l : List UInt8} {D : Nat} (h : Src w a n c l D) : Reads w a n l := ⟨h.len, h.cells⟩

theorem app_any (w : World) (B : Nat) (v : Value) (n : Nat) (xs : List UInt8) (h : w.ownsRow B 5 1 v n (xs.map byte)) (a : Option Addr) (m c : Nat) (l : List UInt8) (hr : Reads w a m l)
    (hb : n + m ≤ 140737488355328) (hB : B ≤ w.heap.size) (ty : TypeId) :
    ∃ v' w', (Builtin.append_ #[28, 28] ty #[v, .slice a m c]).run Try.prog w = .ok v' w' ∧ w'.ownsRow B 5 1 v' (n + m) ((xs ++ l).map byte) ∧ w.grownBy w' v.ownBlock ∧ (v'.ownBlock = v.ownBlock ∨ v'.ownBlock = some w.heap.size) := by
  obtain ⟨i5, hi5, hz5, hs5, hb5⟩ := info5'
  have hone : ∀ u ∈ l.map byte, u.oneCell' = true := byte_one l
  cases a with
  | some x =>
    obtain ⟨v', w', h1, h2, h3, _, h5⟩ := run_append_own_at (P := Try.prog) w B 28 ty 5 i5 (.int .u8 0) 1 1 Try.underlying28 hi5 hz5 hs5 hb5 (by rfl) (by omega) v n _ h x m c (l.map byte) (by rw [List.length_map, hr.len]; omega) hr.news hone (by unfold maxLen; omega) (by omega) hB
    exact ⟨v', w', h1, by rw [List.map_append]; exact h2, h3, h5⟩
  | none =>
    have hl : l = [] := by
      cases l with
      | nil => rfl
      | cons b r => obtain ⟨y, hy, _⟩ := hr.cells 0 (by simp); cases hy
    subst hl
    have hm : m = 0 := by have := hr.len; simpa using this.symm
    subst hm
    rcases h.2 with ⟨rfl, rfl⟩ | ⟨g, cap, cur, rfl, hbg, hg, hnc, rest⟩
    · refine ⟨.slice none 0 0, w, ?_, by simpa using h, ⟨rfl, rfl, rfl, Nat.le_refl _, fun _ _ _ => rfl⟩, Or.inl rfl⟩
      simp [Builtin.append_, run_underlying Try.underlying28, sizeOf, typeInfo, hi5, Builtin.lenOf, Builtin.firstCells]
    · refine ⟨.slice (some ⟨g, 0, none⟩) n cap, w, ?_, by simpa using h, ⟨rfl, rfl, rfl, Nat.le_refl _, fun _ _ _ => rfl⟩, Or.inl rfl⟩
      simp [Builtin.append_, run_underlying Try.underlying28, sizeOf, typeInfo, hi5, Builtin.lenOf, Builtin.firstCells, loadCells, hnc, storeCells]

/-- append at a step of a region that draws -/
theorem step_app {ops : Array Oper} {o : Oper} {a : Act} {w : World} {K : Act → World → Prop} {Q : Exit → Act → World → Prop} {E : Prop} (hgd : o.guard = none) (s x : Operand)
    (ho : o.op = .call { callee := .builtin .append, args := #[s, x], argTypes := #[28, 28] })
    (B : Nat) (v : Value) (n : Nat) (xs : List UInt8) (hs : a.eval s = v) (hown : w.ownsRow B 5 1 v n (xs.map byte)) (ad : Option Addr) (m c : Nat) (l : List UInt8) (hx : a.eval x = .slice ad m c) (hr : Reads w ad m l)
    (hb : n + m ≤ 140737488355328) (hB : B ≤ w.heap.size)
    (h : ∀ v' w', w'.ownsRow B 5 1 v' (n + m) ((xs ++ l).map byte) → w.grownBy w' v.ownBlock → (v'.ownBlock = v.ownBlock ∨ v'.ownBlock = some w.heap.size) → K (a.put o.dst v') w') :
    if Region.wanted o (yielded ops a.tmps) = true then Oper.wp Try.prog o a w K Q else E := by
  have hw : Region.wanted o (yielded ops a.tmps) = true := by simp [Region.wanted, hgd]
  rw [if_pos hw]
  obtain ⟨v', w', hrun, h2, h3, h4⟩ := app_any w B v n xs hown ad m c l hr hb hB o.type
  unfold Oper.wp execOp
  simp only [ho, resolve, invoke, builtin, Sem.run_bind, Sem.run_pure, Result.andThen_ok, List.map_toArray, List.map_cons, List.map_nil, hs, hx, hrun]
  exact h v' w' h2 h3 h4
/-- append in a plain region -/
theorem list_app {ops : Array Oper} {rest : List Oper} {o : Oper} {a : Act} {w : World} {Q : Exit → Act → World → Prop} (hgd : o.guard = none) (s x : Operand)
    (ho : o.op = .call { callee := .builtin .append, args := #[s, x], argTypes := #[28, 28] })
    (B : Nat) (v : Value) (n : Nat) (xs : List UInt8) (hs : a.eval s = v) (hown : w.ownsRow B 5 1 v n (xs.map byte)) (ad : Option Addr) (m c : Nat) (l : List UInt8) (hx : a.eval x = .slice ad m c) (hr : Reads w ad m l)
    (hb : n + m ≤ 140737488355328) (hB : B ≤ w.heap.size)
    (h : ∀ v' w', w'.ownsRow B 5 1 v' (n + m) ((xs ++ l).map byte) → w.grownBy w' v.ownBlock → (v'.ownBlock = v.ownBlock ∨ v'.ownBlock = some w.heap.size) → wpList Try.prog ops Q rest (a.put o.dst v') w') :
    wpList Try.prog ops Q (o :: rest) a w := by
  refine wpList_plain hgd fun K hK => ?_
  obtain ⟨v', w', hrun, h2, h3, h4⟩ := app_any w B v n xs hown ad m c l hr hb hB o.type
  unfold Oper.wp execOp
  simp only [ho, resolve, invoke, builtin, Sem.run_bind, Sem.run_pure, Result.andThen_ok, List.map_toArray, List.map_cons, List.map_nil, hs, hx, hrun]
  exact hK _ _ (h v' w' h2 h3 h4)
end Go.Proofs.Ytbhipgiaifbpfaa
