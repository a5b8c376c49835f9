/- Attributes in memory; the first one named encoding; small letters. -/
import Derived.Test.YtopmahhlebkjiaaChecked
import Derived.WalkKit
import Derived.WalkSpells
import Derived.WalkLawsBesides
import Derived.WalkSmall
import Derived.Lib.Hide
import Derived.Lib.Strings
import Derived.Deep.QuietTactic
import Derived.BigQuiet
import Derived.Laws.IdiomStrings
namespace Go.Proofs.Ytopmahhlebkjiaa
open Go.RowKit

theorem ret_int {k : IntKind} {a b : Int} (h : a = b) : Ending.returned (.int k a) = .returned (.int k b) := by rw [h]

/-- attributes at an address: names and values -/
structure Attrs (w : World) (a : Option Addr) (n : Nat) (l : List (ByteArray × ByteArray)) : Prop where
  len : l.length = n
  big : n ≤ 9223372036854775807
  at_ : ∀ j (h : j < l.length), ∃ b o, a = some ⟨b, o, none⟩ ∧ b < w.heap.size ∧ w.cell? ⟨b, o + j * 2, none⟩ = some (.string l[j].1) ∧ w.cell? ⟨b, o + j * 2 + 1, none⟩ = some (.string l[j].2)
  small : ∀ j (h : j < l.length), l[j].2.size ≤ 9223372036854775807

theorem Attrs.below {w w' : World} {a : Option Addr} {n : Nat} {l : List (ByteArray × ByteArray)} (h : Attrs w a n l) (hb : Below w.heap.size w w') : Attrs w' a n l :=
  ⟨h.len, h.big, fun j hj => by
    obtain ⟨b, o, ha, hlt, h1, h2⟩ := h.at_ j hj
    exact ⟨b, o, ha, Nat.lt_of_lt_of_le hlt hb.size, (hb.cell (p := ⟨b, o + j * 2, none⟩) hlt).trans h1, (hb.cell (p := ⟨b, o + j * 2 + 1, none⟩) hlt).trans h2⟩, h.small⟩

def sEncoding : List UInt8 := [101, 110, 99, 111, 100, 105, 110, 103]
/-- is it the name? -/
def isEnc (s : ByteArray) : Bool := s.toList == sEncoding

theorem clo_any (nm vl : ByteArray) (w : World) :
    Calls Try.prog 29 #[.agg #[.string nm, .string vl]] w fun e w' => e = .returned (.bool (isEnc nm)) ∧ Below w.heap.size w w' := by
  go_enter Try.func29, Try.ntmps29
  go_wp2
  go_ret
  exact ⟨rfl, (Below.refl _ _).alloc (Nat.le_refl _) _⟩

/-- where the first one named encoding stands; -1: nowhere -/
def fidx (l : List (ByteArray × ByteArray)) : Int := match l.findIdx? (fun a => isEnc a.1) with | some j => j | none => -1
theorem fidx_none (l : List (ByteArray × ByteArray)) (h : ∀ i (hi : i < l.length), isEnc l[i].1 = false) : fidx l = -1 := by
  unfold fidx
  rw [List.findIdx?_eq_none_iff.2 (by intro x hx; obtain ⟨i, hi, rfl⟩ := List.getElem_of_mem hx; exact h i hi)]
theorem fidx_at (l : List (ByteArray × ByteArray)) (j : Nat) (hj : j < l.length) (h : ∀ i (hi : i < j), isEnc (l[i]'(by omega)).1 = false) (ht : isEnc l[j].1 = true) : fidx l = j := by
  unfold fidx
  rw [List.findIdx?_eq_some_iff_getElem.2 ⟨hj, ht, fun i hi => by simpa using h i hi⟩]

set_option maxHeartbeats 1000000 in
theorem index_any (w : World) (a : Option Addr) (n c : Nat) (l : List (ByteArray × ByteArray)) (h : Attrs w a n l) :
    Calls Try.prog 28 #[.slice a n c, .func (.func 29) #[] #[]] w fun e w' => e = .returned (.int .i64 (fidx l)) ∧ Below w.heap.size w w' := by
  have hb0 := h.big
  have HA := Lib.hid h
  have HN := Lib.hid h.len
  clear h
  go_enter Try.func28, Try.ntmps28
  go_wp2
  go_loopw [8] (fun t wr => ∃ j : Nat, j ≤ n ∧ t = .int .i64 j ∧ (∀ i (hi : i < j) (hl : i < l.length), isEnc (l[i]'hl).1 = false) ∧ Below w.heap.size w wr) (fun t _ => n - (intOf t).toNat)
  case atStart => exact ⟨0, by omega, rfl, fun i hi => by omega, Below.refl _ _⟩
  case round =>
    obtain ⟨j, hj, rfl, hno, hb⟩ := hrel
    by_cases hlt : j < n
    · have hjl : j < l.length := by rw [HN.out]; exact hlt
      obtain ⟨b, o, ha, hbl, h1, h2⟩ := HA.out.at_ j hjl
      subst ha
      have c1 := (hb.cell (p := ⟨b, o + j * 2, none⟩) hbl).trans h1
      have c2 := (hb.cell (p := ⟨b, o + j * 2 + 1, none⟩) hbl).trans h2
      have hclo := clo_any l[j].1 l[j].2
      have hfa : isEnc l[j].1 = true → fidx l = j := fun ht => fidx_at l j hjl (fun i hi => hno i hi _) ht
      have hnx : isEnc l[j].1 = false → ∀ i (hi : i < j + 1) (hl : i < l.length), isEnc (l[i]'hl).1 = false := fun hf i hi hl => by
        by_cases e : i = j
        · subst e; exact hf
        · exact hno i (by omega) hl
      generalize l[j].1 = nm at c1 hclo hfa hnx
      generalize l[j].2 = vl at c2 hclo
      have HC := Lib.hid hclo
      have HF := Lib.hid hfa
      have HX := Lib.hid hnx
      have HB := Lib.hid hb
      clear h1 h2 hno hclo hfa hnx hb
      cases hnm : isEnc nm
      · rw [hnm] at HC HF HX
        clear hnm
        go_wp2_with (go_at_call 29; refine (HC.out _).mono ?_; rintro e w2 ⟨rfl, hb2⟩; have HB2 := Lib.hid (HB.out.trans (hb2.mono HB.out.size)); clear hb2)
        go_roundw
        case rel => exact ⟨j + 1, by omega, by go_num, HX.out (by simp), HB2.out⟩
        case measure => simp [intOf]; omega
      · rw [hnm] at HC HF HX
        clear hnm
        go_wp2_with (go_at_call 29; refine (HC.out _).mono ?_; rintro e w2 ⟨rfl, hb2⟩; have HB2 := Lib.hid (HB.out.trans (hb2.mono HB.out.size)); clear hb2)
        go_ret
        exact ⟨ret_int (HF.out (by simp)).symm, HB2.out⟩
    · have hn : fidx l = -1 := fidx_none l fun i hi => hno i (by have := HN.out; omega) hi
      have HF := Lib.hid hn
      have HB := Lib.hid hb
      clear hn hno hb
      go_wp2
      go_ret
      exact ⟨ret_int HF.out.symm, HB.out⟩
end Go.Proofs.Ytopmahhlebkjiaa
