/- An encoding's name is a label of it, however it is written: plain lists. -/
import Derived.Test.YtagmjbjgphhlcaaDoorLT
import Derived.Test.YtagmjbjgphhlcaaDoorLK
set_option linter.unusedVariables false
namespace Go.Proofs.YtagmjbjgphhlcaaDoor
open Go.RowKit

theorem sp_lwr_all : ∀ n : Fin 256, spaces.contains (lwr (UInt8.ofNat n.val)) = spaces.contains (UInt8.ofNat n.val) := by decide +kernel
theorem sp_lwr (c : UInt8) : spaces.contains (lwr c) = spaces.contains c := by
  have := sp_lwr_all ⟨c.toNat, c.toNat_lt⟩
  simpa using this
theorem drop_lwr (l : List UInt8) : (l.dropWhile (spaces.contains ·)).map lwr = (l.map lwr).dropWhile (spaces.contains ·) := by
  induction l with
  | nil => rfl
  | cons x r ih =>
    simp only [List.dropWhile_cons, List.map_cons, sp_lwr]
    split
    · exact ih
    · rfl
theorem trim_lwr (l : List UInt8) : (Lib.trimS l spaces).map lwr = Lib.trimS (l.map lwr) spaces := by
  unfold Lib.trimS Lib.trimLeftS Lib.trimRightS
  rw [drop_lwr, List.map_reverse, drop_lwr, List.map_reverse]
theorem word_lwr (l : List UInt8) : wordOf l = Lib.trimS (l.map lwr) spaces := trim_lwr l
theorem lwr_flip_all : ∀ n : Fin 256, (65 ≤ n.val ∧ n.val ≤ 90 ∨ 97 ≤ n.val ∧ n.val ≤ 122) → lwr (UInt8.ofNat n.val ^^^ 32) = lwr (UInt8.ofNat n.val) := by decide +kernel
theorem lwr_flip (c : UInt8) (h : 65 ≤ c.toNat ∧ c.toNat ≤ 90 ∨ 97 ≤ c.toNat ∧ c.toNat ≤ 122) : lwr (c ^^^ 32) = lwr c := by
  have := lwr_flip_all ⟨c.toNat, c.toNat_lt⟩ h
  simpa using this
theorem xor_all : ∀ n : Fin 256, bits .xor .u8 (n.val : Int) 32 = ((UInt8.ofNat n.val ^^^ 32).toNat : Int) := by decide +kernel
theorem xor_run (c : UInt8) : bits .xor .u8 (c.toNat : Int) 32 = ((c ^^^ 32).toNat : Int) := by
  have := xor_all ⟨c.toNat, c.toNat_lt⟩
  simpa using this
theorem and3 (z : Int) : ∃ k : Nat, k ≤ 3 ∧ bits .and .i64 z 3 = k := by
  have h : (BitVec.ofInt 64 z &&& BitVec.ofInt 64 3).toNat ≤ 3 := by
    rw [BitVec.toNat_and]
    exact Nat.and_le_right
  refine ⟨(BitVec.ofInt 64 z &&& BitVec.ofInt 64 3).toNat, h, ?_⟩
  show IntKind.wrap .i64 ((BitVec.ofInt 64 z &&& BitVec.ofInt 64 3).toNat : Int) = _
  exact IntWalk.i64_in _ (by omega)

def sps : List ByteArray := [⟨#[]⟩, ⟨#[32]⟩, ⟨#[9, 10]⟩, ⟨#[12, 13, 32]⟩]
def spk (k : Nat) : List UInt8 := (sps.getD k ⟨#[]⟩).data.toList
def nmk (c : Nat) : List UInt8 := (nameOf c).data.toList.map lwr
theorem lab_names : ∀ c, c < 4 → 1 ≤ c → (∀ k1, k1 < 4 → ∀ k2, k2 < 4 → labOf (Lib.trimS ((spk k1).map lwr ++ nmk c ++ (spk k2).map lwr) spaces) = c) ∧ labOf (Lib.trimS ([120] ++ nmk c) spaces) = 0 ∧ labOf (Lib.trimS (nmk c ++ [32, 46]) spaces) = 0 := by decide +kernel
theorem lab_full (c : Nat) (h1 : 1 ≤ c) (h3 : c ≤ 3) (B : List UInt8) (hB : B.map lwr = nmk c) :
    (∀ k1 k2 (h1 : k1 < sps.length) (h2 : k2 < sps.length), labOf (wordOf ((sps[k1] ++ ⟨B.toArray⟩) ++ sps[k2]).data.toList) = c) ∧ labOf (wordOf ((⟨#[120]⟩ : ByteArray) ++ ⟨B.toArray⟩).data.toList) = 0 ∧ labOf (wordOf ((⟨B.toArray⟩ : ByteArray) ++ ⟨#[32, 46]⟩).data.toList) = 0 := by
  obtain ⟨a1, a2, a3⟩ := lab_names c (by omega) h1
  have hx : ∀ k (h : k < sps.length), sps[k].data.toList = spk k := fun k h => by unfold spk; rw [List.getD_eq_getElem?_getD, List.getElem?_eq_getElem h]; rfl
  have hl : sps.length = 4 := rfl
  refine ⟨fun k1 k2 h1 h2 => ?_, ?_, ?_⟩
  · have e : ((sps[k1] ++ ⟨B.toArray⟩) ++ sps[k2]).data.toList = spk k1 ++ B ++ spk k2 := by rw [← hx k1 h1, ← hx k2 h2]; simp
    rw [e, word_lwr, List.map_append, List.map_append, hB]
    exact a1 k1 (by omega) k2 (by omega)
  · have e : ((⟨#[120]⟩ : ByteArray) ++ ⟨B.toArray⟩).data.toList = [120] ++ B := by simp
    rw [e, word_lwr, List.map_append, hB]
    exact a2
  · have e : ((⟨B.toArray⟩ : ByteArray) ++ ⟨#[32, 46]⟩).data.toList = B ++ [32, 46] := by simp
    rw [e, word_lwr, List.map_append, hB]
    exact a3
theorem set_lwr (B : List UInt8) (k : Nat) (hk : k < B.length) (x : UInt8) (h : lwr x = lwr B[k]) : (B.set k x).map lwr = B.map lwr := by
  rw [List.map_set, h]
  apply List.ext_getElem
  · simp
  · intro i h1 h2
    by_cases e : k = i
    · subst e; simp
    · simp [e]
end Go.Proofs.YtagmjbjgphhlcaaDoor
