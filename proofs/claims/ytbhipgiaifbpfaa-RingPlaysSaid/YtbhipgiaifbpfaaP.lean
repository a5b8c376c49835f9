/- One call of both queues: what is taken out, and looked at. -/
import Derived.Test.YtbhipgiaifbpfaaN
namespace Go.Proofs.Ytbhipgiaifbpfaa
open Go.RowKit

/-- how many come out -/
def outN (n : Nat) (N : Int) : Nat := if N < 0 then 0 else if (n : Int) < N then n else N.toNat
theorem outN_eq (n : Nat) (N : Int) : (if N < 0 then 0 else if (n : Int) < N then (n : Int) else N) = (outN n N : Int) := by
  unfold outN; split
  · rfl
  · split
    · rfl
    · omega
theorem outN_le (n : Nat) (N : Int) : outN n N ≤ n := by unfold outN; split; omega; split <;> omega
theorem own_new {w : World} {g k : Nat} {l : List UInt8} (hl : l.length = k) (h : w.heap[g]? = some (.cells (l.map byte).toArray 5 (0, 0))) (hk : k ≤ 4096) : w.ownsRow g 5 1 (.slice (some ⟨g, 0, none⟩) k k) k (l.map byte) := by
  subst hl
  refine ⟨by simp, .inr ⟨g, l.length, (l.map byte).toArray, rfl, Nat.le_refl _, h, Nat.le_refl _, by unfold maxLen; omega, by simp, by rw [Nat.mul_one]; simp only [List.toList_toArray]; exact List.take_of_length_le (by simp)⟩⟩
theorem take_any (w : World) (S D C most B : Nat) (O : List UInt8) (h : Both w S D C most B O) (N : Int) :
    Calls Try.prog 11 #[.pointer (some ⟨S, 0, none⟩), .int .i64 N] w fun e w' => ∃ u, e = .returned u ∧ w'.ownsRow w.heap.size 5 1 u (outN O.length N) ((O.take (outN O.length N)).map byte) ∧ (∃ f n d, Ring w' S D most f n d ∧ queue most f n d = O.drop (outN O.length N) ∧ n = (O.drop (outN O.length N)).length) ∧ Keeps S D w w' := by
  obtain ⟨⟨f, n, d, hr, hq, hnl⟩, _⟩ := h
  have hc := hr.cnt
  have ht := hr.top
  by_cases hz : N < 1 ∨ n = 0
  · have hk : outN O.length N = 0 := by unfold outN; rw [← hnl]; split; rfl; split <;> omega
    rw [hk]
    refine (take_none w S D most f n d hr N hz).mono ?_
    rintro e w' ⟨rfl, h1, h2, _⟩
    exact ⟨_, rfl, World.ownsRow_nil _ _ _ _, ⟨f, n, d, h1, by simpa using hq, by simpa using hnl⟩, h2⟩
  · have hk : (if (n : Int) < N then (n : Int) else N) = (outN O.length N : Int) := by rw [← outN_eq, ← hnl, if_neg (by omega : ¬ N < 0)]
    have hle := outN_le O.length N
    refine (take_some w S D most f n d hr N (outN O.length N) (by unfold outN; rw [← hnl]; split; omega; split <;> omega) hk).mono ?_
    rintro e w' ⟨rfl, h1, h2, _, h4⟩
    rw [hq] at h4
    refine ⟨_, rfl, own_new (by rw [List.length_take]; omega) h4 (by omega), ⟨_, _, d, h1, by rw [queue_drop, hq], by rw [List.length_drop]; omega⟩, h2⟩
theorem peek_any (w : World) (S D C most B : Nat) (O : List UInt8) (h : Both w S D C most B O) (N : Int) :
    Calls Try.prog 12 #[.pointer (some ⟨S, 0, none⟩), .int .i64 N] w fun e w' => ∃ u, e = .returned u ∧ w'.ownsRow w.heap.size 5 1 u (outN O.length N) ((O.take (outN O.length N)).map byte) ∧ Below w.heap.size w w' := by
  obtain ⟨⟨f, n, d, hr, hq, hnl⟩, _⟩ := h
  have hc := hr.cnt
  have ht := hr.top
  by_cases hz : N < 1 ∨ n = 0
  · have hk : outN O.length N = 0 := by unfold outN; rw [← hnl]; split; rfl; split <;> omega
    rw [hk]
    refine (peek_none w S D most f n d hr N hz).mono ?_
    rintro e w' ⟨rfl, rfl⟩
    exact ⟨_, rfl, World.ownsRow_nil _ _ _ _, Below.refl _ _⟩
  · have hk : (if (n : Int) < N then (n : Int) else N) = (outN O.length N : Int) := by rw [← outN_eq, ← hnl, if_neg (by omega : ¬ N < 0)]
    have hle := outN_le O.length N
    refine (peek_some w S D most f n d hr N (outN O.length N) (by unfold outN; rw [← hnl]; split; omega; split <;> omega) hk).mono ?_
    rintro e w' ⟨rfl, h1, _, h4⟩
    rw [hq] at h4
    exact ⟨_, rfl, own_new (by rw [List.length_take]; omega) h4 (by omega), h1⟩

theorem own_other {w w' : World} {B G n : Nat} {v : Value} {xs : List Value} (h : w.ownsRow B 5 1 v n xs) (hk : Keeps G G w w') (hne : v.ownBlock ≠ some G) : w'.ownsRow B 5 1 v n xs := by
  refine ⟨h.1, ?_⟩
  rcases h.2 with h | ⟨g, cap, cur, rfl, hb, hg, rest⟩
  · exact .inl h
  · have hgG : g ≠ G := fun e => hne (by rw [e]; rfl)
    exact .inr ⟨g, cap, cur, rfl, hb, (hk.block g (Array.getElem?_eq_some_iff.1 hg).1 hgG hgG).trans hg, rest⟩
/-- both queues, alike, the document's row named, and a block that is none of theirs -/
structure BothV (w : World) (S D C most B : Nat) (v : Value) (O : List UInt8) : Prop where
  ring : ∃ first n d, Ring w S D most first n d ∧ queue most first n d = O ∧ n = O.length
  ref : RefR w C most B v O
  sb : S < B
  db : D < B
  sc : S ≠ C
  dc : D ≠ C
theorem BothV.both {w : World} {S D C most B : Nat} {v : Value} {O : List UInt8} (h : BothV w S D C most B v O) : Both w S D C most B O := ⟨h.ring, ⟨v, h.ref⟩, h.sb, h.db, h.sc, h.dc⟩
theorem BothV.below {w w' : World} {S D C most B : Nat} {v : Value} {O : List UInt8} (h : BothV w S D C most B v O) (k : Below w.heap.size w w') : BothV w' S D C most B v O := by
  obtain ⟨⟨f, n, d, h1, h2⟩, h3, h4, h5, h6, h7⟩ := h
  exact ⟨⟨f, n, d, h1.below k, h2⟩, h3.below k, h4, h5, h6, h7⟩
structure Apart (S D C : Nat) (v : Value) (G : Nat) : Prop where
  s : S ≠ G
  d : D ≠ G
  c : C ≠ G
  v : v.ownBlock ≠ some G
theorem BothV.other {w w' : World} {S D C most B G : Nat} {v : Value} {O : List UInt8} (h : BothV w S D C most B v O) (k : Keeps G G w w') (ha : Apart S D C v G) : BothV w' S D C most B v O := by
  obtain ⟨⟨f, n, d, h1, h2⟩, h3, h4, h5, h6, h7⟩ := h
  exact ⟨⟨f, n, d, h1.keeps k ha.s ha.d ha.s ha.d, h2⟩, ⟨(k.block C (Nat.lt_of_lt_of_le h3.cb h3.bb) ha.c ha.c).trans h3.str, own_other h3.own k ha.v, h3.cb, Nat.le_trans h3.bb k.size⟩, h4, h5, h6, h7⟩
theorem own_blk {w : World} {B n g : Nat} {v : Value} {xs : List Value} (h : w.ownsRow B 5 1 v n xs) (hg : v.ownBlock = some g) : B ≤ g ∧ g < w.heap.size :=
  ⟨own_ge h g hg, (World.ownsRow.lt h g hg).2⟩
theorem BothV.lt {w : World} {S D C most B : Nat} {v : Value} {O : List UInt8} (h : BothV w S D C most B v O) : S < w.heap.size ∧ D < w.heap.size ∧ C < w.heap.size :=
  ⟨Nat.lt_of_lt_of_le h.sb h.ref.bb, Nat.lt_of_lt_of_le h.db h.ref.bb, Nat.lt_of_lt_of_le h.ref.cb h.ref.bb⟩
theorem BothV.fresh {w : World} {S D C most B : Nat} {v : Value} {O : List UInt8} (h : BothV w S D C most B v O) {G : Nat} (hG : w.heap.size ≤ G) : Apart S D C v G := by
  obtain ⟨h1, h2, h3⟩ := h.lt
  exact ⟨by omega, by omega, by omega, fun e => by have := (own_blk h.ref.own e).2; omega⟩
/-- a row grown by append: both queues stay, and the new row is none of theirs -/
theorem BothV.grown {w w' : World} {S D C most B : Nat} {v u u' : Value} {O : List UInt8} (h : BothV w S D C most B v O) (hg : w.grownBy w' u.ownBlock) (hu : ∀ G, u.ownBlock = some G → Apart S D C v G) (hu' : u'.ownBlock = u.ownBlock ∨ u'.ownBlock = some w.heap.size) :
    BothV w' S D C most B v O ∧ ∀ G, u'.ownBlock = some G → Apart S D C v G := by
  refine ⟨?_, fun G hG => ?_⟩
  · cases hub : u.ownBlock with
    | none => exact h.below ⟨hg.os, hg.tape, hg.output, hg.size, fun i hi => hg.block i hi (by rw [hub]; simp)⟩
    | some G => exact h.other (G := G) ⟨hg.os, hg.tape, hg.output, hg.size, fun i hi h1 _ => hg.block i hi (by rw [hub]; intro e; cases e; exact h1 rfl)⟩ (hu G hub)
  · rcases hu' with e | e
    · exact hu G (by rw [← e]; exact hG)
    · rw [hG] at e
      cases e
      exact h.fresh (Nat.le_refl _)
/-- a row that may be written over -/
structure Slots (w : World) (G n : Nat) : Prop where
  row : ∃ cur, w.heap[G]? = some (.cells cur 5 (0, 0)) ∧ n ≤ cur.size
theorem Slots.at_ {w : World} {G n : Nat} (h : Slots w G n) (j : Nat) (hj : j < n) : (∃ u, w.cell? ⟨G, j, none⟩ = some u) ∧ w.frozen? ⟨G, j, none⟩ = false ∧ ∀ x, Slots (w.setCell ⟨G, j, none⟩ x) G n ∧ Keeps G G w (w.setCell ⟨G, j, none⟩ x) := by
  obtain ⟨cur, hc, hn⟩ := h.row
  refine ⟨⟨cur[j]'(by omega), ?_⟩, ?_, fun x => ?_⟩
  · unfold World.cell?; simp only [hc]; rw [Array.getElem?_eq_getElem (by omega)]; rfl
  · unfold World.frozen?; simp only [hc]; simp
  · rw [setCell_eq_setRow w G j cur 5 (0, 0) x hc]
    exact ⟨⟨⟨_, setRow_heap w G cur (cur.setIfInBounds j x) 5 (0, 0) hc, by simpa using hn⟩⟩, Keeps.setRow G G w G _ (.inl rfl)⟩
theorem own_slots {w : World} {B n : Nat} {v : Value} {xs : List Value} (h : w.ownsRow B 5 1 v n xs) (hn : 1 ≤ n) : ∃ G c, v = .slice (some ⟨G, 0, none⟩) n c ∧ v.ownBlock = some G ∧ Slots w G n := by
  rcases h.2 with ⟨_, h0⟩ | ⟨g, cap, cur, rfl, hb, hg, h1, h2, h3, h4⟩
  · omega
  · refine ⟨g, cap, rfl, rfl, ⟨cur, hg, ?_⟩⟩
    omega
end Go.Proofs.Ytbhipgiaifbpfaa
