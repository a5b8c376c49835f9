/- One call of both queues: nothing, and emptying. -/
import Derived.Test.YtbhipgiaifbpfaaM
namespace Go.Proofs.Ytbhipgiaifbpfaa
open Go.RowKit

/-- of what was there nothing has turned but three blocks -/
structure Kept (S D C : Nat) (w w' : World) : Prop where
  os : w'.os = w.os
  tape : w'.tape = w.tape
  output : w'.output = w.output
  size : w.heap.size ≤ w'.heap.size
  block : ∀ i, i < w.heap.size → i ≠ S → i ≠ D → i ≠ C → w'.heap[i]? = w.heap[i]?
theorem Kept.trans {S D C : Nat} {a b c : World} (h : Kept S D C a b) (k : Kept S D C b c) : Kept S D C a c :=
  ⟨k.os.trans h.os, k.tape.trans h.tape, k.output.trans h.output, Nat.le_trans h.size k.size, fun i hi h1 h2 h3 => (k.block i (Nat.lt_of_lt_of_le hi h.size) h1 h2 h3).trans (h.block i hi h1 h2 h3)⟩
theorem Keeps.ring {S D : Nat} {w w' : World} (C : Nat) (h : Keeps S D w w') : Kept S D C w w' := ⟨h.os, h.tape, h.output, h.size, fun i hi h1 h2 _ => h.block i hi h1 h2⟩
theorem Keeps.ref {C : Nat} {w w' : World} (S D : Nat) (h : Keeps C C w w') : Kept S D C w w' := ⟨h.os, h.tape, h.output, h.size, fun i hi _ _ h3 => h.block i hi h3 h3⟩
theorem Kept.of_below {S D C : Nat} {w w' : World} (h : Below w.heap.size w w') : Kept S D C w w' := ⟨h.os, h.tape, h.output, h.size, fun i hi _ _ _ => h.block i hi⟩
theorem Ring.keeps {w w' : World} {S D C C2 most first n : Nat} {d : List UInt8} (h : Ring w S D most first n d) (k : Keeps C C2 w w') (h1 : S ≠ C) (h2 : D ≠ C) (h3 : S ≠ C2) (h4 : D ≠ C2) : Ring w' S D most first n d :=
  ⟨(k.block S h.S_lt h1 h3).trans h.str, (k.block D h.D_lt h2 h4).trans h.dat, h.len, h.one, h.top, h.fst, h.cnt, h.ne⟩
theorem RefR.keeps {w w' : World} {C most B S D : Nat} {v : Value} {O : List UInt8} (h : RefR w C most B v O) (k : Keeps S D w w') (h1 : C ≠ S) (h2 : C ≠ D) (h3 : S < B) (h4 : D < B) : RefR w' C most B v O :=
  ⟨(k.block C (Nat.lt_of_lt_of_le h.cb h.bb) h1 h2).trans h.str, own_keeps h.own k h3 h4, h.cb, Nat.le_trans h.bb k.size⟩
theorem RefR.below {w w' : World} {C most B : Nat} {v : Value} {O : List UInt8} (h : RefR w C most B v O) (k : Below w.heap.size w w') : RefR w' C most B v O :=
  ⟨(k.block C (Nat.lt_of_lt_of_le h.cb h.bb)).trans h.str, own_keeps h.own (Keeps.of_below (S := C) (D := C) k) h.cb h.cb, h.cb, Nat.le_trans h.bb k.size⟩
/-- both queues, alike -/
structure Both (w : World) (S D C most B : Nat) (O : List UInt8) : Prop where
  ring : ∃ first n d, Ring w S D most first n d ∧ queue most first n d = O ∧ n = O.length
  ref : ∃ v, RefR w C most B v O
  sb : S < B
  db : D < B
  sc : S ≠ C
  dc : D ≠ C
theorem Both.below {w w' : World} {S D C most B : Nat} {O : List UInt8} (h : Both w S D C most B O) (k : Below w.heap.size w w') : Both w' S D C most B O := by
  obtain ⟨⟨f, n, d, h1, h2⟩, ⟨v, h3⟩, h4, h5, h6, h7⟩ := h
  exact ⟨⟨f, n, d, h1.below k, h2⟩, ⟨v, h3.below k⟩, h4, h5, h6, h7⟩
def StepSays (w : World) (S D C most B : Nat) (e : Ending) (w' : World) : Prop := e = .returned (.bool true) ∧ (∃ O, Both w' S D C most B O) ∧ Kept S D C w w'

def opV (z N : Int) (sec : Bool) (a : Option Addr) (blen bcap : Nat) : Value := .agg #[.int .i64 z, .bool sec, .int .i64 N, .slice a blen bcap]
set_option maxHeartbeats 1000000 in
theorem step_other (w : World) (S D C most B : Nat) (O : List UInt8) (h : Both w S D C most B O) (z N : Int) (sec : Bool) (a : Option Addr) (blen bcap : Nat) (h0 : z ≠ 0) (h1 : z ≠ 1) (h2 : z ≠ 2) (h3 : z ≠ 3) :
    Calls Try.prog 8 #[.pointer (some ⟨S, 0, none⟩), .pointer (some ⟨C, 0, none⟩), opV z N sec a blen bcap] w (StepSays w S D C most B) := by
  have e0 : (z == 0) = false := by simpa using h0
  have e1 : (z == 1) = false := by simpa using h1
  have e2 : (z == 2) = false := by simpa using h2
  have e3 : (z == 3) = false := by simpa using h3
  have HB := Lib.hid h
  clear h h0 h1 h2 h3
  unfold opV
  go_enter Try.func8, Try.ntmps8
  go_wp2
  go_ret
  have hb : Below w.heap.size w (w.alloc (.cells #[.int .i64 z, .bool sec, .int .i64 N, .slice a blen bcap] 32)) := (Below.refl _ _).alloc (Nat.le_refl _) _
  exact ⟨rfl, ⟨_, HB.out.below hb⟩, Kept.of_below hb⟩
set_option maxHeartbeats 1000000 in
theorem step_clear (w : World) (S D C most B : Nat) (O : List UInt8) (h : Both w S D C most B O) (N : Int) (sec : Bool) (a : Option Addr) (blen bcap : Nat) :
    Calls Try.prog 8 #[.pointer (some ⟨S, 0, none⟩), .pointer (some ⟨C, 0, none⟩), opV 3 N sec a blen bcap] w (StepSays w S D C most B) := by
  have hb : Below w.heap.size w (w.alloc (.cells #[.int .i64 3, .bool sec, .int .i64 N, .slice a blen bcap] 32)) := (Below.refl _ _).alloc (Nat.le_refl _) _
  obtain ⟨⟨f, n, d, hr, hq, hnl⟩, ⟨v, hf⟩, hSB, hDB, hSC, hDC⟩ := h.below hb
  have HC := Lib.hid (clear_any _ S D most f n d hr)
  have HF := Lib.hid hf
  have HBL := Lib.hid hb
  have hlt := Nat.lt_of_lt_of_le hf.cb hf.bb
  clear hr hf hb h hq hnl
  unfold opV
  go_enter Try.func8, Try.ntmps8
  go_wp2_with fail
  refine HC.out.mono ?_
  rintro e w1 ⟨rfl, hR, hk, hz⟩
  have hF1 := HF.out.keeps hk (Ne.symm hSC) (Ne.symm hDC) hSB hDB
  have c1 := hF1.c1
  have f1 := hF1.f 1
  obtain ⟨hs, hK⟩ := RefR.stored (v' := .slice none 0 0) (O := []) hF1.str (World.ownsRow_nil _ _ _ _) hF1.cb hF1.bb
  have HKK := Lib.hid ((Kept.of_below HBL.out).trans ((hk.ring C).trans (hK.ref S D)))
  have HR := Lib.hid (hR.keeps hK hSC hDC hSC hDC)
  have HS := Lib.hid hs
  obtain ⟨va, vc, hv, _⟩ := own_form hF1.own
  have hlt1 : C < w1.heap.size := by omega
  subst hv
  clear hF1 hs hK hk hR
  go_wp2
  go_ret
  exact ⟨rfl, ⟨[], ⟨0, 0, d, HR.out, rfl, rfl⟩, ⟨_, HS.out⟩, hSB, hDB, hSC, hDC⟩, HKK.out⟩
end Go.Proofs.Ytbhipgiaifbpfaa
