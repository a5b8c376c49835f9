/- A ring in memory: taking its bytes out; emptying it. -/
import Derived.Test.YtbhipgiaifbpfaaB
import Derived.RegionTactic
namespace Go.Proofs.Ytbhipgiaifbpfaa
open Go.RowKit

/-- of what was there nothing has turned but the ring's two blocks -/
structure Keeps (S D : Nat) (w w' : World) : Prop where
  os : w'.os = w.os
  tape : w'.tape = w.tape
  output : w'.output = w.output
  size : w.heap.size ≤ w'.heap.size
  block : ∀ i, i < w.heap.size → i ≠ S → i ≠ D → w'.heap[i]? = w.heap[i]?
theorem Keeps.refl (S D : Nat) (w : World) : Keeps S D w w := ⟨rfl, rfl, rfl, Nat.le_refl _, fun _ _ _ _ => rfl⟩
theorem Keeps.trans {S D : Nat} {a b c : World} (h : Keeps S D a b) (k : Keeps S D b c) : Keeps S D a c :=
  ⟨k.os.trans h.os, k.tape.trans h.tape, k.output.trans h.output, Nat.le_trans h.size k.size, fun i hi h1 h2 => (k.block i (Nat.lt_of_lt_of_le hi h.size) h1 h2).trans (h.block i hi h1 h2)⟩
theorem Keeps.of_below {S D : Nat} {w w' : World} (h : Below w.heap.size w w') : Keeps S D w w' := ⟨h.os, h.tape, h.output, h.size, fun i hi _ _ => h.block i hi⟩
theorem Keeps.of_same {S D : Nat} {w w' : World} (h : Same w w') : Keeps S D w w' := ⟨h.os, h.tape, h.output, by rw [h.heap]; exact Nat.le_refl _, fun i _ _ _ => by rw [h.heap]⟩
theorem Keeps.setRow (S D : Nat) (w : World) (g : Nat) (cs : Array Value) (hg : g = S ∨ g = D) : Keeps S D w (w.setRow g cs) :=
  ⟨rfl, rfl, rfl, by rw [setRow_size]; exact Nat.le_refl _, fun i _ h1 h2 => setRow_other _ _ _ _ (by rcases hg with rfl | rfl <;> assumption)⟩
theorem Keeps.below {S D B : Nat} {w w' : World} (h : Keeps S D w w') (hB : B ≤ w.heap.size) (hS : B ≤ S) (hD : B ≤ D) : Below B w w' :=
  ⟨h.os, h.tape, h.output, h.size, fun i hi => h.block i (by omega) (by omega) (by omega)⟩

theorem Ring.below {w w' : World} {S D most first n : Nat} {d : List UInt8} (h : Ring w S D most first n d) (hb : Below w.heap.size w w') : Ring w' S D most first n d :=
  ⟨(hb.block S h.S_lt).trans h.str, (hb.block D h.D_lt).trans h.dat, h.len, h.one, h.top, h.fst, h.cnt, h.ne⟩
theorem Ring.same {w w' : World} {S D most first n : Nat} {d : List UInt8} (h : Ring w S D most first n d) (hb : Same w w') : Ring w' S D most first n d :=
  ⟨by rw [hb.heap]; exact h.str, by rw [hb.heap]; exact h.dat, h.len, h.one, h.top, h.fst, h.cnt, h.ne⟩

/-- two stores into the ring's struct -/
theorem Ring.stored {w : World} {S D most first n : Nat} {d : List UInt8} (h : Ring w S D most first n d) (f' n' : Nat) (hf : f' < most) (hn : n' ≤ most) :
    Ring ((w.setCell ⟨S, 1, none⟩ (.int .i64 f')).setCell ⟨S, 2, none⟩ (.int .i64 n')) S D most f' n' d ∧ Keeps S D w ((w.setCell ⟨S, 1, none⟩ (.int .i64 f')).setCell ⟨S, 2, none⟩ (.int .i64 n')) := by
  have e1 := setCell_eq_setRow w S 1 _ 41 (0, 0) (.int .i64 f') h.str
  rw [e1]
  have h1 := setRow_heap w S _ (#[Value.slice (some ⟨D, 0, none⟩) most most, .int .i64 first, .int .i64 n].setIfInBounds 1 (.int .i64 f')) 41 (0, 0) h.str
  have e2 := setCell_eq_setRow _ S 2 _ 41 (0, 0) (.int .i64 n') h1
  rw [e2]
  have h2 := setRow_heap _ S _ ((#[Value.slice (some ⟨D, 0, none⟩) most most, .int .i64 first, .int .i64 n].setIfInBounds 1 (.int .i64 f')).setIfInBounds 2 (.int .i64 n')) 41 (0, 0) h1
  refine ⟨⟨h2, ?_, h.len, h.one, h.top, hf, hn, h.ne⟩, (Keeps.setRow S D _ S _ (.inl rfl)).trans (Keeps.setRow S D _ S _ (.inl rfl))⟩
  rw [setRow_other _ _ _ _ (Ne.symm h.ne), setRow_other _ _ _ _ (Ne.symm h.ne)]
  exact h.dat

theorem take_some (w : World) (S D most first n : Nat) (d : List UInt8) (h : Ring w S D most first n d) (req : Int) (k : Nat) (hk : 1 ≤ k) (hr : (if (n : Int) < req then (n : Int) else req) = (k : Int)) :
    Calls Try.prog 11 #[.pointer (some ⟨S, 0, none⟩), .int .i64 req] w fun e w' => e = .returned (.slice (some ⟨w.heap.size, 0, none⟩) k k) ∧ Ring w' S D most ((first + k) % most) (n - k) d ∧ Keeps S D w w' ∧ w'.heap.size = w.heap.size + 1 ∧ w'.heap[w.heap.size]? = some (.cells (((queue most first n d).take k).map byte).toArray 5 (0, 0)) := by
  have hp := peek_some w S D most first n d h req k hk hr
  have hkn : k ≤ n := by split at hr <;> omega
  have HP := Lib.hid hp
  have HR := Lib.hid h
  have hn := h.cnt
  have ht := h.top
  have ho := h.one
  have hf := h.fst
  have hS := h.S_lt
  clear hp h hr
  go_enter Try.func11, Try.ntmps11
  go_wp2_with fail
  refine HP.out.mono ?_
  rintro e w1 ⟨rfl, hb, hs, hg⟩
  have hR1 := HR.out.below hb
  have c0 := hR1.c0
  have c1 := hR1.c1
  have c2 := hR1.c2
  have f1 := hR1.f 1
  have f2 := hR1.f 2
  have HR1 := Lib.hid hR1
  have HB := Lib.hid hb
  have HS := Lib.hid hs
  have HG := Lib.hid hg
  clear hR1 hb hs hg
  go_wp2
  go_region
  all_goals
    go_wp2
    go_ret
    have st := HR1.out.stored ((first + k) % most) (n - k) (Nat.mod_lt _ (by omega)) (by omega)
    rw [show (((first + k) % most : Nat) : Int) = ((first : Int) + k) % most by rw [Int.natCast_emod, Int.natCast_add], show ((n - k : Nat) : Int) = (n : Int) - k by omega] at st
    have hss := st.1.str
    refine ⟨rfl, st.1.same (Same.drewN _ 1), (Keeps.of_below HB.out).trans (st.2.trans (Keeps.of_same (Same.drewN _ 1))), ?_, ?_⟩
    · show ((w1.setCell _ _).setCell _ _).heap.size = _
      simp [World.setCell]; exact HS.out
    · show ((w1.setCell _ _).setCell _ _).heap[w.heap.size]? = _
      rw [Below.heap_setCell _ _ _ _ (by show w.heap.size ≠ S; omega), Below.heap_setCell _ _ _ _ (by show w.heap.size ≠ S; omega)]
      exact HG.out

theorem take_none (w : World) (S D most first n : Nat) (d : List UInt8) (h : Ring w S D most first n d) (req : Int) (hr : req < 1 ∨ n = 0) :
    Calls Try.prog 11 #[.pointer (some ⟨S, 0, none⟩), .int .i64 req] w fun e w' => e = .returned (.slice none 0 0) ∧ Ring w' S D most first n d ∧ Keeps S D w w' ∧ w'.heap.size = w.heap.size := by
  have hp := peek_none w S D most first n d h req hr
  have HP := Lib.hid hp
  have HR := Lib.hid h
  have hn := h.cnt
  have ht := h.top
  have ho := h.one
  have hf := h.fst
  have hS := h.S_lt
  have c0 := h.c0
  have c1 := h.c1
  have c2 := h.c2
  have f1 := h.f 1
  have f2 := h.f 2
  clear hp h hr
  go_enter Try.func11, Try.ntmps11
  go_wp2_with fail
  refine HP.out.mono ?_
  rintro e w1 ⟨rfl, rfl⟩
  go_wp2
  go_region
  all_goals
    go_wp2
    go_ret
    have st := HR.out.stored first n hf hn
    refine ⟨rfl, ?_, ?_, ?_⟩
    · first | exact st.1.same (Same.drewN _ 1) | (rw [show ((first : Int) % most) = first by rw [← Int.natCast_emod, Nat.mod_eq_of_lt hf]]; exact st.1.same (Same.drewN _ 1))
    · first | exact st.2.trans (Keeps.of_same (Same.drewN _ 1)) | (rw [show ((first : Int) % most) = first by rw [← Int.natCast_emod, Nat.mod_eq_of_lt hf]]; exact st.2.trans (Keeps.of_same (Same.drewN _ 1)))
    · show ((World.setCell _ _ _).setCell _ _).heap.size = _
      simp [World.setCell]

theorem clear_any (w : World) (S D most first n : Nat) (d : List UInt8) (h : Ring w S D most first n d) :
    Calls Try.prog 17 #[.pointer (some ⟨S, 0, none⟩)] w fun e w' => e = .returned (.tuple #[]) ∧ Ring w' S D most 0 0 d ∧ Keeps S D w w' ∧ w'.heap.size = w.heap.size := by
  have HR := Lib.hid h
  have ho := h.one
  have c1 := h.c1
  have c2 := h.c2
  have f1 := h.f 1
  have f2 := h.f 2
  clear h
  go_enter Try.func17, Try.ntmps17
  go_wp2
  go_end0
  have st := HR.out.stored 0 0 (by omega) (Nat.zero_le _)
  refine ⟨rfl, st.1, st.2, ?_⟩
  simp [World.setCell]
end Go.Proofs.Ytbhipgiaifbpfaa
