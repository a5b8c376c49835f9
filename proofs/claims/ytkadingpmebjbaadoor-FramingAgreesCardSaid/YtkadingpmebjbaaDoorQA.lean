/- How a body ends: plain. -/
import Derived.Test.YtkadingpmebjbaaDoorGN
import Derived.Test.YtkadingpmebjbaaDoorDD
set_option linter.unusedVariables false
namespace Go.Proofs.YtkadingpmebjbaaDoor
open Go.RowKit

def kTE : ByteArray := ⟨#[116, 114, 97, 110, 115, 102, 101, 114, 45, 101, 110, 99, 111, 100, 105, 110, 103]⟩
def kCL : ByteArray := ⟨#[99, 111, 110, 116, 101, 110, 116, 45, 108, 101, 110, 103, 116, 104]⟩
def kCh : ByteArray := ⟨#[99, 104, 117, 110, 107, 101, 100]⟩
theorem lstF_size : ∀ (f : Nat) (l : List UInt8) (ms : List (List UInt8)), lstF f l = some ms → ∀ m ∈ ms, m.length ≤ l.length
  | 0, l, ms, h => by simp only [lstF, Option.some.injEq] at h; subst h; simp
  | f + 1, l, ms, h => by
    simp only [lstF] at h
    split at h
    · simp only [Option.some.injEq] at h; subst h; simp
    · cases hc : cut l with
      | none => rw [hc] at h; simp at h
      | some n =>
        rw [hc] at h
        simp only at h
        cases hr : lstF f (l.drop (n + 1)) with
        | none => rw [hr] at h; simp at h
        | some m =>
          rw [hr] at h
          have ih := lstF_size f _ m hr
          have ht := trim_len (l.take n)
          rw [List.length_take] at ht
          simp only [Option.map_some, Option.some.injEq] at h
          rw [List.length_drop] at ih
          subst h
          intro x hx
          split at hx
          · have := ih x hx; omega
          · rcases List.mem_cons.1 hx with rfl | hx
            · omega
            · have := ih x hx; omega
theorem memF_size (vs : List ByteArray) : ∀ ms, memF vs = some ms → ∀ m ∈ ms, m.length ≤ bsz vs := by
  induction vs with
  | nil => intro ms h; simp only [memF, Option.some.injEq] at h; subst h; simp
  | cons v r ih =>
    intro ms h
    simp only [memF] at h
    cases hl : lst v.data.toList with
    | none => rw [hl] at h; simp at h
    | some a =>
      rw [hl] at h
      simp only [Option.map_eq_some_iff] at h
      obtain ⟨b, hb, rfl⟩ := h
      intro m hm
      simp only [bsz]
      rcases List.mem_append.1 hm with hm | hm
      · have := lstF_size _ _ _ hl m hm; rw [len_data] at this; omega
      · have := ih b hb m hm; omega
theorem meant_is (s : List UInt8) : ((Num.meant 10 s).2 = 0 ∧ 0 ≤ (Num.meant 10 s).1 ∧ (Num.meant 10 s).1 ≤ 9223372036854775807) ∨ ((Num.meant 10 s).1 = 0 ∧ ((Num.meant 10 s).2 = 2 ∨ (Num.meant 10 s).2 = 3)) := by
  unfold Num.meant
  split
  · right; exact ⟨rfl, .inl rfl⟩
  · rename_i h
    split
    · right; exact ⟨rfl, .inr rfl⟩
    · rename_i h2
      left
      have hg : Num.good 10 s := Classical.byContradiction fun hh => h (.inr hh)
      refine ⟨rfl, Num.val_nonneg 10 (by decide) s hg, ?_⟩
      unfold Num.most at h2
      simp only; omega
/-- the one number that all tell -/
noncomputable def lenF : List (List UInt8) → Int → Option Int
  | [], cur => some cur
  | s :: r, cur => if (Num.meant 10 s).2 ≠ 0 ∨ (0 ≤ cur ∧ (Num.meant 10 s).1 ≠ cur) then none else lenF r (Num.meant 10 s).1
theorem lenF_bad (ms : List (List UInt8)) (k : Nat) (cur : Int) (hk : k < ms.length) (h : (Num.meant 10 ms[k]).2 ≠ 0 ∨ (0 ≤ cur ∧ (Num.meant 10 ms[k]).1 ≠ cur)) : lenF (ms.drop k) cur = none := by
  rw [drop_cons ms k hk]; simp only [lenF]; rw [if_pos h]
theorem lenF_next (ms : List (List UInt8)) (k : Nat) (cur : Int) (hk : k < ms.length) (h : ¬ ((Num.meant 10 ms[k]).2 ≠ 0 ∨ (0 ≤ cur ∧ (Num.meant 10 ms[k]).1 ≠ cur))) : lenF (ms.drop k) cur = lenF (ms.drop (k + 1)) (Num.meant 10 ms[k]).1 := by
  rw [drop_cons ms k hk]; simp only [lenF]; rw [if_neg h]
theorem lenF_end (ms : List (List UInt8)) (k : Nat) (cur : Int) (hk : ms.length ≤ k) : lenF (ms.drop k) cur = some cur := by
  rw [List.drop_eq_nil_iff.2 hk]; rfl
noncomputable def lenM (ms : List (List UInt8)) : Option Int := if ms = [] then none else lenF ms (-1)
noncomputable def flen (l : AL) : Option Int := (memF (allF l kCL)).bind lenM
theorem lenF_pos : ∀ (ms : List (List UInt8)) (cur n : Int), lenF ms cur = some n → (ms ≠ [] ∨ 0 ≤ cur ∧ cur ≤ 9223372036854775807) → 0 ≤ n ∧ n ≤ 9223372036854775807
  | [], cur, n, h, hc => by
    simp only [lenF, Option.some.injEq] at h
    subst h
    rcases hc with hc | hc
    · exact absurd rfl hc
    · exact hc
  | s :: r, cur, n, h, _ => by
    simp only [lenF] at h
    split at h
    · cases h
    · rename_i hb
      refine lenF_pos r _ n h (.inr ?_)
      rcases meant_is s with h1 | h1
      · exact h1.2
      · exfalso; apply hb; left; rcases h1.2 with e | e <;> rw [e] <;> decide
theorem flen_pos (l : AL) (n : Int) (h : flen l = some n) : 0 ≤ n ∧ n ≤ 9223372036854775807 := by
  unfold flen at h
  rw [Option.bind_eq_some_iff] at h
  obtain ⟨ms, _, h⟩ := h
  unfold lenM at h
  split at h
  · cases h
  · rename_i hne
    exact lenF_pos ms _ n h (.inl hne)
/-- do the transfer codings say chunked alone? -/
def chkM : Option (List (List UInt8)) → Bool
  | some [m] => sameB (mk m) kCh
  | _ => false
def fchk (l : AL) : Bool := chkM (memF (allF l kTE))
structure Rd where
  ch : Bool
  len : Int
  code : Int
/-- what fields tell of a body -/
noncomputable def fread (l : AL) : Rd :=
  if 0 < (allF l kTE).length then
    if 0 < (allF l kCL).length then ⟨false, -1, 19⟩ else ⟨true, -1, if fchk l = true then 0 else 21⟩
  else if 0 < (allF l kCL).length then (match flen l with | none => ⟨false, -1, 20⟩ | some n => ⟨false, n, 0⟩) else ⟨false, -1, 0⟩
structure Bd where
  kind : Int
  len : Int
  code : Int
/-- how a body ends -/
noncomputable def fbody (l : AL) (none : Bool) (opn : Int) : Bd :=
  if (fread l).code ≠ 0 then ⟨0, 0, (fread l).code⟩
  else if none = true then ⟨0, 0, 0⟩
  else if (fread l).ch = true then ⟨2, 0, 0⟩
  else if 0 ≤ (fread l).len then (if 8192 < (fread l).len then ⟨0, 0, 23⟩ else ⟨1, (fread l).len, 0⟩)
  else ⟨opn, 0, 0⟩
/-- has the response no body, whatever its fields say? -/
def nob (M : ByteArray) (st : Int) : Bool := decide (M.data.toList = [72, 69, 65, 68]) || (decide (st = 204) || decide (st = 304))
end Go.Proofs.YtkadingpmebjbaaDoor
