/- Harden: the small functions; a response's head. -/
import Derived.Test.YthkgaaibhjkngaaGreatDoorDS
import Derived.Test.YthkgaaibhjkngaaGreatDoorFH
set_option linter.unusedVariables false
namespace Go.Proofs.YthkgaaibhjkngaaGreatDoor
open Go.RowKit

def dstr (z : Int) : List UInt8 := Lib.decDigits z.toNat
structure TabP (w : World) : Prop where
  p : Lib.TabIs Tryz.prog w "internal/strconv.uint64pow10" .u64 Lib.pow10Tab
  size : 1 < w.heap.size
theorem gPow : Tryz.prog.globalNamed "internal/strconv.uint64pow10" = some 1 := by kernel_rfl
theorem TabP.below {w w' : World} (h : TabP w) (hb : Below w.heap.size w w') : TabP w' := by
  refine ⟨?_, Nat.lt_of_lt_of_le h.size hb.size⟩
  have hp := h.p
  have h0 := h.size
  unfold Lib.TabIs World.var? at *
  rw [gPow] at hp ⊢
  simp only [Option.bind_some] at hp ⊢
  rw [hb.block 1 h0]
  exact hp
theorem TabP.from {w w' : World} {B : Nat} (h : TabP w) (hB : w.heap.size ≤ B) (hb : Below B w w') : TabP w' := h.below (hb.mono hB)
theorem below_grow (w : World) (k : Nat) (os : Array Obj) : Below w.heap.size w (Sort.grow (w.drewN k) os) := by
  have h1 : Below w.heap.size w (w.drewN k) := below_drewN w k
  refine h1.trans ⟨rfl, rfl, rfl, by simp, fun i hi => ?_⟩
  show ((w.drewN k).heap ++ os)[i]? = _
  rw [Array.getElem?_append_left (by simpa using hi)]
theorem digits_any (z : Int) (h0 : 0 ≤ z) (h1 : z ≤ 9223372036854775807) (w : World) (ht : TabP w) :
    Calls Tryz.prog 45 #[.int .i64 z] w fun e w' => e = .returned (.string (mk (dstr z))) ∧ Below w.heap.size w w' := by
  have h := Go.Proofs.Any.strconv_FormatInt_10 Tryz.laysM173 z (by omega) h1 w ht.p
  rw [show Lib.itoa z = dstr z by unfold Lib.itoa dstr; rw [if_neg (by omega)]] at h
  have H : Hid (Calls Tryz.prog 116 #[.int .i64 z, .int .i64 10] w fun e w' => e = .returned (.string (mk (dstr z))) ∧ Below w.heap.size w w') := Lib.hid (h.mono fun e w' ⟨he, k, os, hw⟩ => ⟨he, by rw [hw]; exact below_grow _ _ _⟩)
  generalize mk (dstr z) = S at H ⊢
  have hneg : ¬ z < 0 := by omega
  clear h ht
  go_enter Tryz.func45, Tryz.ntmps45
  go_wp2_with (first | (go_at_call 116; refine H.out.mono ?_; rintro e w' ⟨rfl, hb⟩) | go_in)
  have HB := Lib.hid hb
  clear hb
  go_wp2
  go_ret
  exact ⟨rfl, HB.out⟩

def kCTO : ByteArray := ⟨#[88, 45, 67, 111, 110, 116, 101, 110, 116, 45, 84, 121, 112, 101, 45, 79, 112, 116, 105, 111, 110, 115]⟩
def kNos : ByteArray := ⟨#[110, 111, 115, 110, 105, 102, 102]⟩
def kConn : ByteArray := ⟨#[67, 111, 110, 110, 101, 99, 116, 105, 111, 110]⟩
def kClos : ByteArray := ⟨#[99, 108, 111, 115, 101]⟩
def kLen : ByteArray := ⟨#[67, 111, 110, 116, 101, 110, 116, 45, 76, 101, 110, 103, 116, 104]⟩
def fld (p : ByteArray × ByteArray) : Value := .agg #[.string p.1, .string p.2]
def FldSays (p : ByteArray × ByteArray) (w : World) (e : Ending) (w' : World) : Prop := e = .returned (fld p) ∧ Below w.heap.size w w'
def fSniff : ByteArray × ByteArray := (kCTO, kNos)
def fClos : ByteArray × ByteArray := (kConn, kClos)
def fLen (z : Int) : ByteArray × ByteArray := (kLen, mk (dstr z))
theorem below_res (w : World) (cs : Array Value) (t : TypeId) (a b : Value) : Below w.heap.size w (((w.alloc (.cells cs t)).setCell ⟨w.heap.size, 0, none⟩ a).setCell ⟨w.heap.size, 1, none⟩ b) :=
  ((((Below.refl _ _).alloc (Nat.le_refl _) _).setCell (p := ⟨w.heap.size, 0, none⟩) (Nat.le_refl _) _).setCell (p := ⟨w.heap.size, 1, none⟩) (Nat.le_refl _) _)
theorem sniff_any (w : World) : Calls Tryz.prog 64 #[] w (FldSays fSniff w) := by
  go_enter Tryz.func64, Tryz.ntmps64
  go_wp2
  exact bodyPost_ret (v := fld fSniff) (by simp [results, Tryz.results64, go_sem, fld, fSniff, kCTO, kNos]) rfl ⟨rfl, (Below.refl _ _).alloc (Nat.le_refl _) _⟩
theorem clos_any (w : World) : Calls Tryz.prog 65 #[] w (FldSays fClos w) := by
  go_enter Tryz.func65, Tryz.ntmps65
  go_wp2
  exact bodyPost_ret (v := fld fClos) (by simp [results, Tryz.results65, go_sem, fld, fClos, kConn, kClos]) rfl ⟨rfl, (Below.refl _ _).alloc (Nat.le_refl _) _⟩
theorem sized_any (z : Int) (h0 : 0 ≤ z) (h1 : z ≤ 9223372036854775807) (w : World) (ht : TabP w) : Calls Tryz.prog 57 #[.int .i64 z] w (FldSays (fLen z) w) := by
  have hd := fun wx (hb : Below w.heap.size w wx) => digits_any z h0 h1 wx (ht.below hb)
  obtain ⟨p, hp⟩ : ∃ p, p = fLen z := ⟨_, rfl⟩
  rw [← hp]
  have HP : Hid (fld p = .agg #[.string ⟨#[67, 111, 110, 116, 101, 110, 116, 45, 76, 101, 110, 103, 116, 104]⟩, .string (mk (dstr z))]) := Lib.hid (by rw [hp]; rfl)
  generalize mk (dstr z) = S at hd HP
  have HD := Lib.hid hd
  clear hd ht hp
  go_enter Tryz.func57, Tryz.ntmps57
  go_wp2_with fail
  refine (HD.out _ ((Below.refl _ _).alloc (Nat.le_refl _) _)).mono ?_; rintro e w1 ⟨rfl, hb⟩
  have m0 := (res_cells w w1 _ _ hb 0).1
  have m1 := (res_cells w w1 _ _ hb 1).1
  have HB1 : Hid (Below w.heap.size w w1) := Lib.hid (((Below.refl _ _).alloc (Nat.le_refl _) _).trans (hb.mono (by simp)))
  obtain ⟨m00, m01⟩ := m0
  obtain ⟨m10, m11⟩ := m1
  clear hb
  go_wp2
  refine bodyPost_ret (v := .agg #[.string ⟨#[67, 111, 110, 116, 101, 110, 116, 45, 76, 101, 110, 103, 116, 104]⟩, .string S]) (by simp [results, Tryz.results57, go_sem, m00, m10]) rfl ⟨HP.out ▸ rfl, ((HB1.out.setCell (p := ⟨w.heap.size, 0, none⟩) (Nat.le_refl _) _).setCell (p := ⟨w.heap.size, 1, none⟩) (Nat.le_refl _) _)⟩
end Go.Proofs.YthkgaaibhjkngaaGreatDoor
