/- Attributes of a color, a face or a size. -/
import Derived.Test.YtopmahhlebkjiaaF
namespace Go.Proofs.Ytopmahhlebkjiaa
open Go.RowKit

def isCfs (s : ByteArray) : Bool := s.toList == [99, 111, 108, 111, 114] || (s.toList == [102, 97, 99, 101] || s.toList == [115, 105, 122, 101])

theorem clo2_any (nm vl : ByteArray) (w : World) :
    Calls Try.prog 32 #[.agg #[.string nm, .string vl]] w fun e w' => e = .returned (.bool (isCfs nm)) ∧ Below w.heap.size w w' := by
  have c0 : (w.alloc (.cells #[.string nm, .string vl] 31 (0, 0))).cell? ⟨w.heap.size, 0, none⟩ = some (.string nm) := by
    have hb : (w.alloc (.cells #[.string nm, .string vl] 31 (0, 0))).heap[w.heap.size]? = some (.cells #[.string nm, .string vl] 31 (0, 0)) := by show (w.heap.push _)[w.heap.size]? = _; simp
    unfold World.cell?
    simp only [hb]
    rfl
  have HR : Hid (∀ r, r = isCfs nm → isCfs nm = r) := Lib.hid fun r h => h.symm
  cases h1 : (nm.toList == [99, 111, 108, 111, 114])
  · cases h2 : (nm.toList == [102, 97, 99, 101])
    · cases h3 : (nm.toList == [115, 105, 122, 101])
      · have HV : Hid (isCfs nm = false) := Lib.hid (by simp [isCfs, h1, h2, h3])
        generalize isCfs nm = r at HV
        go_enter Try.func32, Try.ntmps32
        go_wp2
        go_ret
        exact ⟨ret_bool HV.out.symm, (Below.refl _ _).alloc (Nat.le_refl _) _⟩
      · have HV : Hid (isCfs nm = true) := Lib.hid (by simp [isCfs, h1, h2, h3])
        generalize isCfs nm = r at HV
        go_enter Try.func32, Try.ntmps32
        go_wp2
        go_ret
        exact ⟨ret_bool HV.out.symm, (Below.refl _ _).alloc (Nat.le_refl _) _⟩
    · have HV : Hid (isCfs nm = true) := Lib.hid (by simp [isCfs, h1, h2])
      generalize isCfs nm = r at HV
      go_enter Try.func32, Try.ntmps32
      go_wp2
      go_ret
      exact ⟨ret_bool HV.out.symm, (Below.refl _ _).alloc (Nat.le_refl _) _⟩
  · have HV : Hid (isCfs nm = true) := Lib.hid (by simp [isCfs, h1])
    generalize isCfs nm = r at HV
    go_enter Try.func32, Try.ntmps32
    go_wp2
    go_ret
    exact ⟨ret_bool HV.out.symm, (Below.refl _ _).alloc (Nat.le_refl _) _⟩

/-- where the first one of a color, a face or a size stands; -1: nowhere -/
def gidx (l : List (ByteArray × ByteArray)) : Int := match l.findIdx? (fun a => isCfs a.1) with | some j => j | none => -1
theorem gidx_none (l : List (ByteArray × ByteArray)) (h : ∀ i (hi : i < l.length), isCfs l[i].1 = false) : gidx l = -1 := by
  unfold gidx
  rw [List.findIdx?_eq_none_iff.2 (by intro x hx; obtain ⟨i, hi, rfl⟩ := List.getElem_of_mem hx; exact h i hi)]
theorem gidx_at (l : List (ByteArray × ByteArray)) (j : Nat) (hj : j < l.length) (h : ∀ i (hi : i < j), isCfs (l[i]'(by omega)).1 = false) (ht : isCfs l[j].1 = true) : gidx l = j := by
  unfold gidx
  rw [List.findIdx?_eq_some_iff_getElem.2 ⟨hj, ht, fun i hi => by simpa using h i hi⟩]

set_option maxHeartbeats 1000000 in
theorem index2_any (w : World) (a : Option Addr) (n c : Nat) (l : List (ByteArray × ByteArray)) (h : Attrs w a n l) :
    Calls Try.prog 28 #[.slice a n c, .func (.func 32) #[] #[]] w fun e w' => e = .returned (.int .i64 (gidx l)) ∧ Below w.heap.size w w' := by
  have hb0 := h.big
  have HA := Lib.hid h
  have HN := Lib.hid h.len
  clear h
  go_enter Try.func28, Try.ntmps28
  go_wp2
  go_loopw [8] (fun t wr => ∃ j : Nat, j ≤ n ∧ t = .int .i64 j ∧ (∀ i (hi : i < j) (hl : i < l.length), isCfs (l[i]'hl).1 = false) ∧ Below w.heap.size w wr) (fun t _ => n - (intOf t).toNat)
  case atStart => exact ⟨0, by omega, rfl, fun i hi => by omega, Below.refl _ _⟩
  case round =>
    obtain ⟨j, hj, rfl, hno, hb⟩ := hrel
    by_cases hlt : j < n
    · have hjl : j < l.length := by rw [HN.out]; exact hlt
      obtain ⟨b, o, ha, hbl, h1, h2⟩ := HA.out.at_ j hjl
      subst ha
      have c1 := (hb.cell (p := ⟨b, o + j * 2, none⟩) hbl).trans h1
      have c2 := (hb.cell (p := ⟨b, o + j * 2 + 1, none⟩) hbl).trans h2
      have hclo := clo2_any l[j].1 l[j].2
      have hfa : isCfs l[j].1 = true → gidx l = j := fun ht => gidx_at l j hjl (fun i hi => hno i hi _) ht
      have hnx : isCfs l[j].1 = false → ∀ i (hi : i < j + 1) (hl : i < l.length), isCfs (l[i]'hl).1 = false := fun hf i hi hl => by
        by_cases e : i = j
        · subst e; exact hf
        · exact hno i (by omega) hl
      generalize l[j].1 = nm at c1 hclo hfa hnx
      generalize l[j].2 = vl at c2 hclo
      have HC := Lib.hid hclo
      have HF := Lib.hid hfa
      have HX := Lib.hid hnx
      have HB := Lib.hid hb
      clear h1 h2 hno hclo hfa hnx hb
      cases hnm : isCfs nm
      · rw [hnm] at HC HF HX
        clear hnm
        go_wp2_with (go_at_call 32; refine (HC.out _).mono ?_; rintro e w2 ⟨rfl, hb2⟩; have HB2 := Lib.hid (HB.out.trans (hb2.mono HB.out.size)); clear hb2)
        go_roundw
        case rel => exact ⟨j + 1, by omega, by go_num, HX.out (by simp), HB2.out⟩
        case measure => simp [intOf]; omega
      · rw [hnm] at HC HF HX
        clear hnm
        go_wp2_with (go_at_call 32; refine (HC.out _).mono ?_; rintro e w2 ⟨rfl, hb2⟩; have HB2 := Lib.hid (HB.out.trans (hb2.mono HB.out.size)); clear hb2)
        go_ret
        exact ⟨ret_int (HF.out (by simp)).symm, HB2.out⟩
    · have hn : gidx l = -1 := gidx_none l fun i hi => hno i (by have := HN.out; omega) hi
      have HF := Lib.hid hn
      have HB := Lib.hid hb
      clear hn hno hb
      go_wp2
      go_ret
      exact ⟨ret_int HF.out.symm, HB.out⟩


def anyC (l : List (ByteArray × ByteArray)) : Bool := l.any fun a => isCfs a.1
theorem gidx_any (l : List (ByteArray × ByteArray)) : (0 ≤ gidx l ∧ anyC l = true) ∨ (gidx l < 0 ∧ anyC l = false) := by
  unfold gidx anyC
  cases h : l.findIdx? (fun a => isCfs a.1) with
  | none =>
    right
    refine ⟨by simp, ?_⟩
    rw [List.any_eq_false]
    intro x hx
    have := List.findIdx?_eq_none_iff.1 h x hx
    simp [this]
  | some j =>
    left
    refine ⟨by simp, ?_⟩
    obtain ⟨hj, ht, _⟩ := List.findIdx?_eq_some_iff_getElem.1 h
    rw [List.any_eq_true]
    exact ⟨l[j], List.getElem_mem hj, ht⟩

set_option maxHeartbeats 1000000 in
theorem contains_any (w : World) (a : Option Addr) (n c : Nat) (l : List (ByteArray × ByteArray)) (h : Attrs w a n l) :
    Calls Try.prog 31 #[.slice a n c, .func (.func 32) #[] #[]] w fun e w' => e = .returned (.bool (anyC l)) ∧ Below w.heap.size w w' := by
  have h1 := index2_any w a n c l h
  have hd := gidx_any l
  generalize gidx l = g at h1 hd
  clear h
  rcases hd with ⟨hg, ha⟩ | ⟨hg, ha⟩
  · rw [ha]
    have HC := Lib.hid h1
    clear h1 ha
    go_enter Try.func31, Try.ntmps31
    go_wp2_with fail
    refine HC.out.mono ?_; rintro e w' ⟨rfl, hb⟩
    have HB := Lib.hid hb
    clear hb
    go_wp2
    go_ret
    exact ⟨ret_bool (by first | (simp; done) | (simp; omega)), HB.out⟩
  · rw [ha]
    have HC := Lib.hid h1
    clear h1 ha
    go_enter Try.func31, Try.ntmps31
    go_wp2_with fail
    refine HC.out.mono ?_; rintro e w' ⟨rfl, hb⟩
    have HB := Lib.hid hb
    clear hb
    go_wp2
    go_ret
    exact ⟨ret_bool (by first | (simp; done) | (simp; omega)), HB.out⟩
end Go.Proofs.Ytopmahhlebkjiaa
