/- Harden: members that are of a kind. -/
import Derived.Test.YthkgaaibhjkngaaGreatDoorHA
set_option linter.unusedVariables false
namespace Go.Proofs.YthkgaaibhjkngaaGreatDoor
open Go.RowKit

/-- how much a list of members weighs -/
def msz : List (List UInt8) → Nat
  | [] => 0
  | p :: r => p.length + 1 + msz r
theorem msz_app (a b : List (List UInt8)) : msz (a ++ b) = msz a + msz b := by
  induction a with
  | nil => simp [msz]
  | cons p r ih => simp only [List.cons_append, msz, ih]; omega
theorem bsz_mk (ms : List (List UInt8)) : bsz (ms.map mk) = msz ms := by
  induction ms with
  | nil => rfl
  | cons p r ih => simp only [List.map_cons, bsz, msz, ih, mk, size_mk]
theorem lstF_nil (f : Nat) (ms : List (List UInt8)) (h : lstF f [] = some ms) : ms = [] := by
  cases f <;> simp [lstF] at h <;> exact h
theorem lstF_msz : ∀ (f : Nat) (l : List UInt8) (ms : List (List UInt8)), lstF f l = some ms → msz ms ≤ l.length + 1
  | 0, l, ms, h => by simp only [lstF, Option.some.injEq] at h; subst h; simp [msz]
  | f + 1, l, ms, h => by
    simp only [lstF] at h
    split at h
    · simp only [Option.some.injEq] at h; subst h; simp [msz]
    · cases hc : cut l with
      | none => rw [hc] at h; simp at h
      | some n =>
        rw [hc] at h
        simp only [Option.map_eq_some_iff] at h
        obtain ⟨m, hm, rfl⟩ := h
        have hn := cut_le l n hc
        have ih := lstF_msz f _ m hm
        have ht := trim_len (l.take n)
        simp only [List.length_take, List.length_drop] at ht ih
        by_cases e : n = l.length
        · have : l.drop (n + 1) = [] := List.drop_eq_nil_iff.2 (by omega)
          rw [this] at hm
          have := lstF_nil f m hm
          subst this
          split
          · simp [msz]
          · simp only [msz]; omega
        · split
          · omega
          · simp only [msz]; omega
theorem memF_msz : ∀ (vs : List ByteArray) (m : List (List UInt8)), memF vs = some m → msz m ≤ bsz vs
  | [], m, h => by simp only [memF, Option.some.injEq] at h; subst h; simp [msz]
  | v :: r, m, h => by
    simp only [memF] at h
    cases hl : lst v.data.toList with
    | none => rw [hl] at h; simp at h
    | some a =>
      rw [hl] at h
      simp only [Option.map_eq_some_iff] at h
      obtain ⟨b, hb, rfl⟩ := h
      have h1 := memF_msz r b hb
      have h2 := lstF_msz _ _ a hl
      rw [len_data] at h2
      rw [msz_app]; simp only [bsz]; omega

/-- where the first of a kind stands; -1: nowhere -/
def sidx (P : ByteArray → Bool) (l : List ByteArray) : Int := match l.findIdx? P with | some j => j | none => -1
theorem sidx_none (P : ByteArray → Bool) (l : List ByteArray) (h : ∀ i (hi : i < l.length), P l[i] = false) : sidx P l = -1 := by
  unfold sidx
  rw [List.findIdx?_eq_none_iff.2 (by intro x hx; obtain ⟨i, hi, rfl⟩ := List.getElem_of_mem hx; exact h i hi)]
theorem sidx_at (P : ByteArray → Bool) (l : List ByteArray) (j : Nat) (hj : j < l.length) (h : ∀ i (hi : i < j), P (l[i]'(by omega)) = false) (ht : P l[j] = true) : sidx P l = j := by
  unfold sidx
  rw [List.findIdx?_eq_some_iff_getElem.2 ⟨hj, ht, fun i hi => by simpa using h i hi⟩]
theorem sidx_any (P : ByteArray → Bool) (l : List ByteArray) : (0 ≤ sidx P l ∧ l.any P = true) ∨ (sidx P l < 0 ∧ l.any P = false) := by
  unfold sidx
  cases h : l.findIdx? P with
  | none =>
    right
    refine ⟨by simp, ?_⟩
    rw [List.any_eq_false]
    intro x hx
    have := List.findIdx?_eq_none_iff.1 h x hx
    simp [this]
  | some j =>
    left
    refine ⟨by simp, ?_⟩
    obtain ⟨hj, ht, _⟩ := List.findIdx?_eq_some_iff_getElem.1 h
    rw [List.any_eq_true]
    exact ⟨l[j], List.getElem_mem hj, ht⟩
def kIde : ByteArray := ⟨#[105, 100, 101, 110, 116, 105, 116, 121]⟩
def isClos (m : ByteArray) : Bool := sameB m kClos
def notIde (m : ByteArray) : Bool := !sameB m kIde

theorem PC_any (X : ByteArray) (w : World) (hX : X.size ≤ 1073741824) :
    Calls Tryz.prog 60 #[.string X] w fun e w' => e = .returned (.bool (isClos X)) ∧ Below w.heap.size w w' := by
  have hs := fun wx => same_any X ⟨#[99, 108, 111, 115, 101]⟩ wx (by omega) (by decide)
  have hq : decide (X.data.toList.map lwr = (⟨#[99, 108, 111, 115, 101]⟩ : ByteArray).data.toList.map lwr) = sameB X ⟨#[99, 108, 111, 115, 101]⟩ := rfl
  rw [hq] at hs
  obtain ⟨b, hb⟩ : ∃ b, b = sameB X ⟨#[99, 108, 111, 115, 101]⟩ := ⟨_, rfl⟩
  have hP : isClos X = b := by rw [hb]; rfl
  rw [hP]
  rw [← hb] at hs
  have H := Lib.hid hs
  clear hs hq hb hP
  cases b <;> (go_enter Tryz.func60, Tryz.ntmps60; go_wp2_with fail; refine (H.out _).mono ?_; rintro e w1 ⟨rfl, hb⟩; have HB := Lib.hid hb; clear hb; go_wp2; go_ret; exact ⟨rfl, HB.out⟩)

set_option maxHeartbeats 4000000 in
theorem idxC_any (l : List ByteArray) (a : Option Addr) (n c : Nat) (w : World) (hn : l.length = n) (hs : SrcS w a c l) (hz : bsz l ≤ 1073741824) :
    Calls Tryz.prog 101 #[.slice a n c, .func (.func 60) #[] #[]] w fun e w' => e = .returned (.int .i64 (sidx isClos l)) ∧ Below w.heap.size w w' := by
  have hb0 : n ≤ 1073741824 := by have := bsz_len l; omega
  have HA := Lib.hid hs
  have HN := Lib.hid hn
  have HZ := Lib.hid hz
  clear hs hn hz
  go_enter Tryz.func101, Tryz.ntmps101
  go_wp2
  go_loopw [8] (fun t wr => ∃ j : Nat, j ≤ n ∧ t = .int .i64 j ∧ (∀ i (hi : i < j) (hl : i < l.length), isClos (l[i]'hl) = false) ∧ Below w.heap.size w wr) (fun t _ => n - (intOf t).toNat)
  case atStart => exact ⟨0, by omega, rfl, fun i hi => by omega, Below.refl _ _⟩
  case round =>
    obtain ⟨j, hj, rfl, hno, hb⟩ := hrel
    by_cases hlt : j < n
    · have hjl : j < l.length := by rw [HN.out]; exact hlt
      obtain ⟨b, o, rfl, hbl, c1⟩ := srcS_at HA.out j hjl hb
      have hat := bsz_at l j hjl
      have hclo := PC_any l[j]
      have hfa : isClos l[j] = true → sidx isClos l = j := fun ht => sidx_at isClos l j hjl (fun i hi => hno i hi _) ht
      have hnx : isClos l[j] = false → ∀ i (hi : i < j + 1) (hl : i < l.length), isClos (l[i]'hl) = false := fun hf i hi hl => by
        by_cases e : i = j
        · subst e; exact hf
        · exact hno i (by omega) hl
      generalize l[j] = nm at c1 hclo hfa hnx hat
      have hc2 := fun wx => hclo wx (by have := HZ.out; omega)
      have HC := Lib.hid hc2
      have HF := Lib.hid hfa
      have HX := Lib.hid hnx
      have HB := Lib.hid hb
      clear hno hclo hc2 hfa hnx hb hat
      cases hnm : isClos nm
      · rw [hnm] at HC HF HX
        clear hnm
        go_wp2_with fail
        refine (HC.out _).mono ?_; rintro e w2 ⟨rfl, hb2⟩; have HB2 := Lib.hid (HB.out.trans (hb2.mono HB.out.size)); clear hb2
        go_wp2
        go_roundw
        case rel => exact ⟨j + 1, by omega, by go_num, HX.out (by simp), HB2.out⟩
        case measure => simp [intOf]; omega
      · rw [hnm] at HC HF HX
        clear hnm
        go_wp2_with fail
        refine (HC.out _).mono ?_; rintro e w2 ⟨rfl, hb2⟩; have HB2 := Lib.hid (HB.out.trans (hb2.mono HB.out.size)); clear hb2
        go_wp2
        go_ret
        exact ⟨ret_int (HF.out (by simp)).symm, HB2.out⟩
    · have hn : sidx isClos l = -1 := sidx_none isClos l fun i hi => hno i (by have := HN.out; omega) hi
      have HF := Lib.hid hn
      have HB := Lib.hid hb
      clear hn hno hb
      go_wp2
      go_ret
      exact ⟨ret_int HF.out.symm, HB.out⟩

theorem conC_any (l : List ByteArray) (a : Option Addr) (n c : Nat) (w : World) (hn : l.length = n) (hs : SrcS w a c l) (hz : bsz l ≤ 1073741824) :
    Calls Tryz.prog 59 #[.slice a n c, .func (.func 60) #[] #[]] w fun e w' => e = .returned (.bool (l.any isClos)) ∧ Below w.heap.size w w' := by
  have h1 := idxC_any l a n c w hn hs hz
  have hd := sidx_any isClos l
  generalize sidx isClos l = g at h1 hd
  clear hs hz hn
  rcases hd with ⟨hg, ha⟩ | ⟨hg, ha⟩ <;>
  ( rw [ha]
    have HC := Lib.hid h1
    clear h1 ha
    go_enter Tryz.func59, Tryz.ntmps59
    go_wp2_with fail
    refine HC.out.mono ?_; rintro e w' ⟨rfl, hb⟩
    have HB := Lib.hid hb
    clear hb
    go_wp2
    go_ret
    exact ⟨ret_bool (by first | (simp; done) | (simp; omega)), HB.out⟩)

theorem PI_any (X : ByteArray) (w : World) (hX : X.size ≤ 1073741824) :
    Calls Tryz.prog 122 #[.string X] w fun e w' => e = .returned (.bool (notIde X)) ∧ Below w.heap.size w w' := by
  have hs := fun wx => same_any X ⟨#[105, 100, 101, 110, 116, 105, 116, 121]⟩ wx (by omega) (by decide)
  have hq : decide (X.data.toList.map lwr = (⟨#[105, 100, 101, 110, 116, 105, 116, 121]⟩ : ByteArray).data.toList.map lwr) = sameB X ⟨#[105, 100, 101, 110, 116, 105, 116, 121]⟩ := rfl
  rw [hq] at hs
  obtain ⟨b, hb⟩ : ∃ b, b = sameB X ⟨#[105, 100, 101, 110, 116, 105, 116, 121]⟩ := ⟨_, rfl⟩
  have hP : notIde X = !b := by rw [hb]; rfl
  rw [hP]
  rw [← hb] at hs
  have H := Lib.hid hs
  clear hs hq hb hP
  cases b <;> (go_enter Tryz.func122, Tryz.ntmps122; go_wp2_with fail; refine (H.out _).mono ?_; rintro e w1 ⟨rfl, hb⟩; have HB := Lib.hid hb; clear hb; go_wp2; go_ret; exact ⟨rfl, HB.out⟩)

set_option maxHeartbeats 4000000 in
theorem idxI_any (l : List ByteArray) (a : Option Addr) (n c : Nat) (w : World) (hn : l.length = n) (hs : SrcS w a c l) (hz : bsz l ≤ 1073741824) :
    Calls Tryz.prog 101 #[.slice a n c, .func (.func 122) #[] #[]] w fun e w' => e = .returned (.int .i64 (sidx notIde l)) ∧ Below w.heap.size w w' := by
  have hb0 : n ≤ 1073741824 := by have := bsz_len l; omega
  have HA := Lib.hid hs
  have HN := Lib.hid hn
  have HZ := Lib.hid hz
  clear hs hn hz
  go_enter Tryz.func101, Tryz.ntmps101
  go_wp2
  go_loopw [8] (fun t wr => ∃ j : Nat, j ≤ n ∧ t = .int .i64 j ∧ (∀ i (hi : i < j) (hl : i < l.length), notIde (l[i]'hl) = false) ∧ Below w.heap.size w wr) (fun t _ => n - (intOf t).toNat)
  case atStart => exact ⟨0, by omega, rfl, fun i hi => by omega, Below.refl _ _⟩
  case round =>
    obtain ⟨j, hj, rfl, hno, hb⟩ := hrel
    by_cases hlt : j < n
    · have hjl : j < l.length := by rw [HN.out]; exact hlt
      obtain ⟨b, o, rfl, hbl, c1⟩ := srcS_at HA.out j hjl hb
      have hat := bsz_at l j hjl
      have hclo := PI_any l[j]
      have hfa : notIde l[j] = true → sidx notIde l = j := fun ht => sidx_at notIde l j hjl (fun i hi => hno i hi _) ht
      have hnx : notIde l[j] = false → ∀ i (hi : i < j + 1) (hl : i < l.length), notIde (l[i]'hl) = false := fun hf i hi hl => by
        by_cases e : i = j
        · subst e; exact hf
        · exact hno i (by omega) hl
      generalize l[j] = nm at c1 hclo hfa hnx hat
      have hc2 := fun wx => hclo wx (by have := HZ.out; omega)
      have HC := Lib.hid hc2
      have HF := Lib.hid hfa
      have HX := Lib.hid hnx
      have HB := Lib.hid hb
      clear hno hclo hc2 hfa hnx hb hat
      cases hnm : notIde nm
      · rw [hnm] at HC HF HX
        clear hnm
        go_wp2_with fail
        refine (HC.out _).mono ?_; rintro e w2 ⟨rfl, hb2⟩; have HB2 := Lib.hid (HB.out.trans (hb2.mono HB.out.size)); clear hb2
        go_wp2
        go_roundw
        case rel => exact ⟨j + 1, by omega, by go_num, HX.out (by simp), HB2.out⟩
        case measure => simp [intOf]; omega
      · rw [hnm] at HC HF HX
        clear hnm
        go_wp2_with fail
        refine (HC.out _).mono ?_; rintro e w2 ⟨rfl, hb2⟩; have HB2 := Lib.hid (HB.out.trans (hb2.mono HB.out.size)); clear hb2
        go_wp2
        go_ret
        exact ⟨ret_int (HF.out (by simp)).symm, HB2.out⟩
    · have hn : sidx notIde l = -1 := sidx_none notIde l fun i hi => hno i (by have := HN.out; omega) hi
      have HF := Lib.hid hn
      have HB := Lib.hid hb
      clear hn hno hb
      go_wp2
      go_ret
      exact ⟨ret_int HF.out.symm, HB.out⟩

theorem conI_any (l : List ByteArray) (a : Option Addr) (n c : Nat) (w : World) (hn : l.length = n) (hs : SrcS w a c l) (hz : bsz l ≤ 1073741824) :
    Calls Tryz.prog 59 #[.slice a n c, .func (.func 122) #[] #[]] w fun e w' => e = .returned (.bool (l.any notIde)) ∧ Below w.heap.size w w' := by
  have h1 := idxI_any l a n c w hn hs hz
  have hd := sidx_any notIde l
  generalize sidx notIde l = g at h1 hd
  clear hs hz hn
  rcases hd with ⟨hg, ha⟩ | ⟨hg, ha⟩ <;>
  ( rw [ha]
    have HC := Lib.hid h1
    clear h1 ha
    go_enter Tryz.func59, Tryz.ntmps59
    go_wp2_with fail
    refine HC.out.mono ?_; rintro e w' ⟨rfl, hb⟩
    have HB := Lib.hid hb
    clear hb
    go_wp2
    go_ret
    exact ⟨ret_bool (by first | (simp; done) | (simp; omega)), HB.out⟩)
end Go.Proofs.YthkgaaibhjkngaaGreatDoor
