/- A ring in memory: its two blocks; what its small calls do. -/
import Derived.Test.YtbhipgiaifbpfaaChecked
import Derived.WalkKit
import Derived.WalkSpells
import Derived.WalkLawsBesides
import Derived.WalkSmall
import Derived.Lib.Hide
import Derived.Deep.QuietTactic
import Derived.BigQuiet
import Derived.Deep.RegionLaw
import Derived.Laws.CopyOwn
import Derived.Deep.OwnRows
namespace Go.Proofs.Ytbhipgiaifbpfaa
open Go.RowKit

def byte (b : UInt8) : Value := .int .u8 b.toNat
/-- the ring at block S, its bytes in block D -/
structure Ring (w : World) (S D most first n : Nat) (d : List UInt8) : Prop where
  str : w.heap[S]? = some (.cells #[.slice (some ⟨D, 0, none⟩) most most, .int .i64 first, .int .i64 n] 41 (0, 0))
  dat : w.heap[D]? = some (.cells (d.map byte).toArray 5 (0, 0))
  len : d.length = most
  one : 1 ≤ most
  top : most ≤ 4096
  fst : first < most
  cnt : n ≤ most
  ne : S ≠ D

theorem Ring.c0 {w : World} {S D most first n : Nat} {d : List UInt8} (h : Ring w S D most first n d) : w.cell? ⟨S, 0, none⟩ = some (.slice (some ⟨D, 0, none⟩) most most) := by
  unfold World.cell?; simp only [h.str]; rfl
theorem Ring.c1 {w : World} {S D most first n : Nat} {d : List UInt8} (h : Ring w S D most first n d) : w.cell? ⟨S, 1, none⟩ = some (.int .i64 first) := by
  unfold World.cell?; simp only [h.str]; rfl
theorem Ring.c2 {w : World} {S D most first n : Nat} {d : List UInt8} (h : Ring w S D most first n d) : w.cell? ⟨S, 2, none⟩ = some (.int .i64 n) := by
  unfold World.cell?; simp only [h.str]; rfl
theorem Ring.f {w : World} {S D most first n : Nat} {d : List UInt8} (h : Ring w S D most first n d) (j : Nat) : w.frozen? ⟨S, j, none⟩ = false := by
  unfold World.frozen?; simp only [h.str]; simp

/-- the same memory -/
structure Same (w w' : World) : Prop where
  heap : w'.heap = w.heap
  os : w'.os = w.os
  tape : w'.tape = w.tape
  output : w'.output = w.output
theorem Same.refl (w : World) : Same w w := ⟨rfl, rfl, rfl, rfl⟩
theorem Same.drewN (w : World) (k : Nat) : Same w (w.drewN k) := ⟨rfl, rfl, rfl, rfl⟩

theorem len_any (w : World) (S D most first n : Nat) (d : List UInt8) (h : Ring w S D most first n d) :
    Calls Try.prog 9 #[.pointer (some ⟨S, 0, none⟩)] w fun e w' => e = .returned (.int .i64 n) ∧ w = w' := by
  have c2 := h.c2
  clear h
  go_enter Try.func9, Try.ntmps9
  go_wp2
  go_ret
  exact ⟨rfl, rfl⟩

theorem room_any (w : World) (S D most first n : Nat) (d : List UInt8) (h : Ring w S D most first n d) :
    Calls Try.prog 10 #[.pointer (some ⟨S, 0, none⟩)] w fun e w' => e = .returned (.int .i64 (most - n)) ∧ ∃ k, w' = w.drewN k := by
  have c0 := h.c0
  have c2 := h.c2
  have h1 := h.cnt
  have h2 := h.top
  clear h
  go_enter Try.func10, Try.ntmps10
  go_wp2
  go_quiet (fail)
  go_wp2
  go_ret
  exact ⟨rfl, _, rfl⟩

theorem made_zero (n : Nat) : madeCells #[Value.int .u8 0] n = ((List.replicate n (0 : UInt8)).map byte).toArray := by
  apply Array.ext
  · simp [madeCells]
  · intro i h1 h2
    simp [madeCells, byte, Nat.mod_one]
theorem info5 : (Try.prog.info? 5).map (fun i => (i.zero, i.size, i.bytes)) = some (some (.int .u8 0), 1, 1) := by kernel_rfl
theorem make28 (n : Nat) (h : n ≤ 4096) (W : World) : (Instr.makeSlice 28 (.int .i64 n) (.int .i64 n)).run Try.prog W = .ok (.slice (some ⟨W.heap.size, 0, none⟩) n n) (W.alloc (.cells ((List.replicate n (0 : UInt8)).map byte).toArray 5)) := by
  rw [← made_zero]
  exact run_make_row' 28 5 (.int .u8 0) 1 Try.underlying28 info5 rfl .i64 .i64 n (by omega) (by omega) W

theorem heap_alloc_last (w : World) (o : Obj) : (w.alloc o).heap[w.heap.size]? = some o := by
  show (w.heap.push o)[w.heap.size]? = _; simp

theorem new_any (w : World) (most : Nat) (h1 : 1 ≤ most) (h2 : most ≤ 4096) :
    Calls Try.prog 6 #[.int .i64 most] w fun e w' => ∃ S D, e = .returned (.pointer (some ⟨S, 0, none⟩)) ∧ Ring w' S D most 0 0 (List.replicate most 0) ∧ Below w.heap.size w w' ∧ w.heap.size ≤ S ∧ w.heap.size ≤ D ∧ S < w'.heap.size ∧ D < w'.heap.size := by
  have hmk := make28 most h2
  go_enter Try.func6, Try.ntmps6
  go_wp2
  go_ret
  refine ⟨_, w.heap.size, rfl, ⟨?_, ?_, by simp, h1, h2, by omega, by omega, ?_⟩, ((Below.refl _ _).alloc (Nat.le_refl _) _).alloc (by simp) _, by simp, Nat.le_refl _, by simp, by simp; omega⟩
  · simpa using heap_alloc_last (w.alloc (.cells (Array.replicate most (byte 0)) 5)) (.cells #[.slice (some ⟨w.heap.size, 0, none⟩) most most, .int .i64 0, .int .i64 0] 41)
  · rw [Below.heap_alloc _ _ _ (by simp), heap_alloc_last]; simp
  · simp
theorem new_none (w : World) (most : Int) (h : most < 1 ∨ 4096 < most) :
    Calls Try.prog 6 #[.int .i64 most] w fun e w' => e = .returned (.pointer none) ∧ w = w' := by
  rcases h with h | h
  all_goals
    go_enter Try.func6, Try.ntmps6
    go_wp2
    go_ret
    exact ⟨rfl, rfl⟩
end Go.Proofs.Ytbhipgiaifbpfaa
