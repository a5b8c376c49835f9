/- The digits' contracts, and the plain meaning of digits as a number. -/
import Derived.Test.YthkgaaibhjkngaaGreatDoorChecked
import Derived.WalkKit
import Derived.WalkSpells
import Derived.WalkLawsBesides
import Derived.Lib.Hide
import Derived.Deep.QuietTactic
import Derived.BigQuiet
namespace Go.Proofs.YthkgaaibhjkngaaGreatDoor.Num
open Go.RowKit

theorem ret_int {k : IntKind} {a b : Int} (h : a = b) : Ending.returned (.int k a) = .returned (.int k b) := by rw [h]

/-- what a digit counts; -1: none -/
def dg (c : Int) : Int := if 48 ≤ c ∧ c ≤ 57 then c - 48 else if 97 ≤ c ∧ c ≤ 102 then c - 87 else if 65 ≤ c ∧ c ≤ 70 then c - 55 else -1
/-- the same with 16 for none -/
def dgr (c : Int) : Int := if 48 ≤ c ∧ c ≤ 57 then c - 48 else if 97 ≤ c ∧ c ≤ 102 then c - 87 else if 65 ≤ c ∧ c ≤ 70 then c - 55 else 16

theorem dg_bd (c : Int) : -1 ≤ dg c ∧ dg c ≤ 15 := by unfold dg; split <;> (try split) <;> (try split) <;> omega
theorem dgr_bd (c : Int) : 0 ≤ dgr c ∧ dgr c ≤ 16 := by unfold dgr; split <;> (try split) <;> (try split) <;> omega
theorem dgr_of (c : Int) : (dg c < 0 ∧ dgr c = 16) ∨ (0 ≤ dg c ∧ dgr c = dg c) := by
  unfold dg dgr; split <;> (try split) <;> (try split) <;> omega

set_option maxHeartbeats 400000 in
theorem digit_any (c : Int) (w : World) (h0 : 0 ≤ c) (h1 : c ≤ 255) :
    Calls Tryz.prog 143 #[.int .u8 c] w fun e w' => e = .returned (.int .i64 (dg c)) ∧ w = w' := by
  go_enter Tryz.func143, Tryz.ntmps143
  go_wp2
  all_goals (go_ret; exact ⟨ret_int (by unfold dg; split <;> (try split) <;> (try split) <;> omega), rfl⟩)



/-- all are digits of the base -/
def good (base : Int) (l : List UInt8) : Prop := ∀ c ∈ l, 0 ≤ dg c.toNat ∧ dg c.toNat < base
/-- the number that they tell -/
def val (base : Int) (l : List UInt8) : Int := l.foldl (fun n c => n * base + dg c.toNat) 0

theorem val_snoc (base : Int) (l : List UInt8) (c : UInt8) : val base (l ++ [c]) = val base l * base + dg c.toNat := by
  simp [val, List.foldl_append]
theorem good_snoc (base : Int) (l : List UInt8) (c : UInt8) : good base (l ++ [c]) ↔ good base l ∧ 0 ≤ dg c.toNat ∧ dg c.toNat < base := by
  simp only [good, List.mem_append, List.mem_singleton]
  constructor
  · intro h; exact ⟨fun x hx => h x (.inl hx), h c (.inr rfl)⟩
  · rintro ⟨h, hc⟩ x (hx | rfl)
    · exact h x hx
    · exact hc
theorem take_snoc (s : ByteArray) (k : Nat) (h : k < s.size) : s.data.toList.take (k + 1) = s.data.toList.take k ++ [s[k]] := by
  rw [List.take_succ_eq_append_getElem (by simpa using h)]; rfl

def most : Int := 9223372036854775807
/-- what read keeps: n is the number so far, if it is not above most -/
def Inv (base : Int) (l : List UInt8) (n : Int) (ov : Bool) : Prop :=
  good base l ∧ 0 ≤ n ∧ n ≤ most ∧ 0 ≤ val base l ∧ (ov = decide (most < val base l)) ∧ (ov = false → n = val base l)

theorem Inv.start (base : Int) : Inv base [] 0 false := by
  refine ⟨fun c hc => by simp at hc, by omega, by unfold most; omega, by simp [val], ?_, fun _ => by simp [val]⟩
  simp [val, most]

theorem over_iff10 (n d : Int) : (9223372036854775807 - d) / 10 < n ↔ most < n * 10 + d := by
  unfold most; omega
theorem over_iff16 (n d : Int) : (9223372036854775807 - d) / 16 < n ↔ most < n * 16 + d := by
  unfold most; omega

theorem Inv.over {base : Int} (hb : 2 ≤ base) {l : List UInt8} {n : Int} (h : Inv base l n true) (c : UInt8) (h0 : 0 ≤ dg c.toNat) (h1 : dg c.toNat < base) :
    Inv base (l ++ [c]) n true := by
  obtain ⟨hg, hn0, hn1, hv, ho, _⟩ := h
  have hm : most < val base l := by simpa using ho.symm
  have hmul : val base l ≤ val base l * base := by
    have := Int.mul_le_mul_of_nonneg_left (show (1 : Int) ≤ base by omega) hv
    rwa [Int.mul_one] at this
  have hlt : most < val base (l ++ [c]) := by rw [val_snoc]; omega
  refine ⟨(good_snoc ..).2 ⟨hg, h0, h1⟩, hn0, hn1, by unfold most at hlt; omega, by simp [hlt], fun h => by cases h⟩
theorem Inv.overs {base : Int} {l : List UInt8} {n : Int} (h : Inv base l n false) (c : UInt8) (h0 : 0 ≤ dg c.toNat) (h1 : dg c.toNat < base)
    (hov : most < n * base + dg c.toNat) : Inv base (l ++ [c]) n true := by
  obtain ⟨hg, hn0, hn1, hv, ho, he⟩ := h
  have hlt : most < val base (l ++ [c]) := by rw [val_snoc, ← he rfl]; exact hov
  exact ⟨(good_snoc ..).2 ⟨hg, h0, h1⟩, hn0, hn1, by unfold most at hlt; omega, by simp [hlt], fun h => by cases h⟩
theorem Inv.more {base : Int} (hb : 2 ≤ base) {l : List UInt8} {n : Int} (h : Inv base l n false) (c : UInt8) (h0 : 0 ≤ dg c.toNat) (h1 : dg c.toNat < base)
    (hov : ¬ most < n * base + dg c.toNat) : Inv base (l ++ [c]) (n * base + dg c.toNat) false := by
  obtain ⟨hg, hn0, hn1, hv, ho, he⟩ := h
  have hz : 0 ≤ n * base := Int.mul_nonneg hn0 (by omega)
  have hv' : val base (l ++ [c]) = n * base + dg c.toNat := by rw [val_snoc, ← he rfl]
  refine ⟨(good_snoc ..).2 ⟨hg, h0, h1⟩, by omega, by omega, by omega, ?_, fun _ => hv'.symm⟩
  rw [hv']; simp [hov]

open Classical in
/-- what the digits of a base tell: the number, and the error's number -/
noncomputable def meant (base : Int) (l : List UInt8) : Int × Int :=
  if l = [] ∨ ¬ good base l then (0, 2) else if most < val base l then (0, 3) else (val base l, 0)
end Go.Proofs.YthkgaaibhjkngaaGreatDoor.Num
