/- Right; one call of both queues, whatever it is; what it leaves of the other two. -/
import Derived.Test.YtbhipgiaifbpfaaT
namespace Go.Proofs.Ytbhipgiaifbpfaa
open Go.RowKit

def isRight (z : Int) : Bool := decide (1 ≤ z) && decide (z ≤ 4096)
theorem right_any (z : Int) (w : World) : Calls Try.prog 7 #[.int .i64 z] w fun e w' => e = .returned (.bool (isRight z)) ∧ w = w' := by
  by_cases h1 : 1 ≤ z
  · by_cases h2 : z ≤ 4096
    · have hv : isRight z = true := by simp [isRight, h1, h2]
      rw [hv]
      have e1 : decide (z ≥ 1) = true := by simpa using h1
      clear hv
      go_enter Try.func7, Try.ntmps7
      go_wp2
      go_ret
      exact ⟨rfl, rfl⟩
    · have hv : isRight z = false := by simp [isRight, h2]
      rw [hv]
      have e1 : decide (z ≥ 1) = true := by simpa using h1
      have e2 : decide (z ≤ 4096) = false := by simpa using h2
      clear hv
      go_enter Try.func7, Try.ntmps7
      go_wp2
      go_ret
      exact ⟨rfl, rfl⟩
  · have hv : isRight z = false := by simp [isRight, h1]
    rw [hv]
    have e1 : decide (z ≥ 1) = false := by simpa using h1
    clear hv
    go_enter Try.func7, Try.ntmps7
    go_wp2
    go_ret
    exact ⟨rfl, rfl⟩
theorem Both.named {w : World} {S D C most B : Nat} {O : List UInt8} (h : Both w S D C most B O) : ∃ v, BothV w S D C most B v O := by
  obtain ⟨h1, ⟨v, h2⟩, h3, h4, h5, h6⟩ := h
  exact ⟨v, h1, h2, h3, h4, h5, h6⟩
theorem Both.len {w : World} {S D C most B : Nat} {O : List UInt8} (h : Both w S D C most B O) : O.length ≤ most ∧ most ≤ 4096 := by
  obtain ⟨f, n, d, h1, _, h3⟩ := h.ring
  exact ⟨by have := h1.cnt; omega, h1.top⟩
theorem own_kept {S D C B : Nat} {w w' : World} {v : Value} {n : Nat} {xs : List Value} (h : w.ownsRow B 5 1 v n xs) (hk : Kept S D C w w') (hS : S < B) (hD : D < B) (hC : C < B) : w'.ownsRow B 5 1 v n xs := by
  refine ⟨h.1, ?_⟩
  rcases h.2 with h | ⟨g, cap, cur, h1, h2, h3, h4⟩
  · exact .inl h
  · exact .inr ⟨g, cap, cur, h1, h2, (hk.block g (Array.getElem?_eq_some_iff.1 h3).1 (by omega) (by omega) (by omega)).trans h3, h4⟩
theorem Both.kept {w w' : World} {S D C most B S2 D2 C2 most2 : Nat} {O : List UInt8} (h : Both w S2 D2 C2 most2 B O) (k : Kept S D C w w') (hS : S < B) (hD : D < B) (hC : C < B)
    (s1 : S2 ≠ S) (s2 : S2 ≠ D) (s3 : S2 ≠ C) (d1 : D2 ≠ S) (d2 : D2 ≠ D) (d3 : D2 ≠ C) (c1 : C2 ≠ S) (c2 : C2 ≠ D) (c3 : C2 ≠ C) : Both w' S2 D2 C2 most2 B O := by
  obtain ⟨⟨f, n, d, hr, hq⟩, ⟨v, hf⟩, h4, h5, h6, h7⟩ := h
  refine ⟨⟨f, n, d, ⟨(k.block S2 hr.S_lt s1 s2 s3).trans hr.str, (k.block D2 hr.D_lt d1 d2 d3).trans hr.dat, hr.len, hr.one, hr.top, hr.fst, hr.cnt, hr.ne⟩, hq⟩, ⟨v, ⟨?_, own_kept hf.own k hS hD hC, hf.cb, Nat.le_trans hf.bb k.size⟩⟩, h4, h5, h6, h7⟩
  exact (k.block C2 (Nat.lt_of_lt_of_le hf.cb hf.bb) c1 c2 c3).trans hf.str
theorem Kept.below {S D C B : Nat} {w w' : World} (h : Kept S D C w w') (hB : B ≤ w.heap.size) (hS : B ≤ S) (hD : B ≤ D) (hC : B ≤ C) : Below B w w' :=
  ⟨h.os, h.tape, h.output, h.size, fun i hi => h.block i (by omega) (by omega) (by omega) (by omega)⟩
theorem step_any (w : World) (S D C most B : Nat) (O : List UInt8) (h : Both w S D C most B O) (z N : Int) (sec : Bool) (a : Option Addr) (blen bcap : Nat) (l : List UInt8) (hl : Reads w a blen l) (hcap : blen ≤ bcap) (hcb : bcap ≤ 9223372036854775807) (hbl : blen ≤ 140737488351232)
    (hsep : ∀ x, a = some x → 0 < l.length → x.block < w.heap.size ∧ x.block ≠ S ∧ x.block ≠ D ∧ x.block ≠ C) :
    Calls Try.prog 8 #[.pointer (some ⟨S, 0, none⟩), .pointer (some ⟨C, 0, none⟩), opV z N sec a blen bcap] w (StepSays w S D C most B) := by
  obtain ⟨v, hv⟩ := h.named
  have hO := h.len
  by_cases h0 : z = 0
  · subst h0; exact step_put w S D C most B v O hv N sec a blen bcap l hl hcap hcb hbl hsep
  by_cases h1 : z = 1
  · subst h1; exact step_take w S D C most B v O hv (by omega) N sec a blen bcap
  by_cases h2 : z = 2
  · subst h2; exact step_peek w S D C most B v O hv (by omega) N sec a blen bcap
  by_cases h3 : z = 3
  · subst h3; exact step_clear w S D C most B O h N sec a blen bcap
  exact step_other w S D C most B O h z N sec a blen bcap h0 h1 h2 h3

/-- a script that is handed in -/
structure OpD where
  z : Int
  sec : Bool
  N : Int
  a : Option Addr
  n : Nat
  c : Nat
  l : List UInt8
structure SrcO (w : World) (ad : Option Addr) (ops : List OpD) : Prop where
  at_ : ∀ j (h : j < ops.length), ∃ b o, ad = some ⟨b, o, none⟩ ∧ b < w.heap.size ∧ w.cell? ⟨b, o + j * 4, none⟩ = some (.int .i64 ops[j].z) ∧ w.cell? ⟨b, o + j * 4 + 1, none⟩ = some (.bool ops[j].sec) ∧
    w.cell? ⟨b, o + j * 4 + 2, none⟩ = some (.int .i64 ops[j].N) ∧ w.cell? ⟨b, o + j * 4 + 3, none⟩ = some (.slice ops[j].a ops[j].n ops[j].c) ∧
    Reads w ops[j].a ops[j].n ops[j].l ∧ ops[j].n ≤ ops[j].c ∧ ops[j].c ≤ 9223372036854775807 ∧ ops[j].n ≤ 140737488351232 ∧ ∀ x, ops[j].a = some x → 0 < ops[j].l.length → x.block < w.heap.size
theorem SrcO.below {w w' : World} {ad : Option Addr} {ops : List OpD} (h : SrcO w ad ops) (hb : Below w.heap.size w w') : SrcO w' ad ops := ⟨fun j hj => by
  obtain ⟨b, o, h1, h2, h3, h4, h5, h6, h7, h8, h9, h10, h11⟩ := h.at_ j hj
  exact ⟨b, o, h1, Nat.lt_of_lt_of_le h2 hb.size, (hb.cell (p := ⟨b, o + j * 4, none⟩) h2).trans h3, (hb.cell (p := ⟨b, o + j * 4 + 1, none⟩) h2).trans h4, (hb.cell (p := ⟨b, o + j * 4 + 2, none⟩) h2).trans h5, (hb.cell (p := ⟨b, o + j * 4 + 3, none⟩) h2).trans h6, h7.below hb, h8, h9, h10, fun x hx h0 => Nat.lt_of_lt_of_le (h11 x hx h0) hb.size⟩⟩
end Go.Proofs.Ytbhipgiaifbpfaa
