/- Harden: Page and Plain. -/
import Derived.Test.YthkgaaibhjkngaaGreatDoorHH
set_option linter.unusedVariables false
namespace Go.Proofs.YthkgaaibhjkngaaGreatDoor
open Go.RowKit

def pageN : List ByteArray := [⟨#[67, 111, 110, 116, 101, 110, 116, 45, 84, 121, 112, 101]⟩, ⟨#[67, 111, 110, 116, 101, 110, 116, 45, 69, 110, 99, 111, 100, 105, 110, 103]⟩, ⟨#[67, 111, 110, 116, 101, 110, 116, 45, 83, 101, 99, 117, 114, 105, 116, 121, 45, 80, 111, 108, 105, 99, 121]⟩, ⟨#[88, 45, 67, 111, 110, 116, 101, 110, 116, 45, 84, 121, 112, 101, 45, 79, 112, 116, 105, 111, 110, 115]⟩, ⟨#[69, 84, 97, 103]⟩, ⟨#[67, 111, 110, 116, 101, 110, 116, 45, 77, 68, 53]⟩, ⟨#[65, 99, 99, 101, 112, 116, 45, 82, 97, 110, 103, 101, 115]⟩, ⟨#[67, 111, 110, 116, 101, 110, 116, 45, 82, 97, 110, 103, 101]⟩, ⟨#[82, 101, 102, 114, 101, 115, 104]⟩, ⟨#[76, 105, 110, 107]⟩]
def fCTH : ByteArray × ByteArray := (⟨#[67, 111, 110, 116, 101, 110, 116, 45, 84, 121, 112, 101]⟩, ⟨#[116, 101, 120, 116, 47, 104, 116, 109, 108, 59, 32, 99, 104, 97, 114, 115, 101, 116, 61, 117, 116, 102, 45, 56]⟩)
def fCSP : ByteArray × ByteArray := (⟨#[67, 111, 110, 116, 101, 110, 116, 45, 83, 101, 99, 117, 114, 105, 116, 121, 45, 80, 111, 108, 105, 99, 121]⟩, ⟨#[100, 101, 102, 97, 117, 108, 116, 45, 115, 114, 99, 32, 39, 110, 111, 110, 101, 39, 59, 32, 98, 97, 115, 101, 45, 117, 114, 105, 32, 39, 110, 111, 110, 101, 39, 59, 32, 102, 111, 114, 109, 45, 97, 99, 116, 105, 111, 110, 32, 39, 110, 111, 110, 101, 39, 59, 32, 115, 97, 110, 100, 98, 111, 120]⟩)
def pageF (l : AL) (z : Int) (last : Bool) : AL := woF l (hopF l ++ pageN) ++ [fCTH, fCSP, fSniff] ++ (if 0 ≤ z then [fLen z] else []) ++ (if last = true then [fClos] else [])
def RespSays (st : Int) (rs : ByteArray) (l : AL) (w : World) (e : Ending) (w' : World) : Prop := Below w.heap.size w w' ∧ ∃ v, e = .returned (.agg #[.int .i64 st, .string rs, v]) ∧ OwnF w' w.heap.size v l
theorem respSays {st : Int} {rs : ByteArray} {l : AL} {v : Value} {w w' : World} (hb : Below w.heap.size w w') (ho : OwnF w' w.heap.size v l) : RespSays st rs l w (.returned (.agg #[.int .i64 st, .string rs, v])) w' := ⟨hb, v, rfl, ho⟩
set_option maxHeartbeats 16000000 in
set_option maxRecDepth 100000 in
theorem page_any (l : AL) (st : Int) (rs : ByteArray) (z : Int) (last : Bool) (a : Option Addr) (n c : Nat) (w : World) (hn : l.length = n) (hs : SrcA w a c l) (hz : asz l ≤ 16777216) (h1 : z ≤ 9223372036854775807) (ht : TabP w) :
    Calls Tryz.prog 22 #[.agg #[.int .i64 st, .string rs, .slice a n c], .int .i64 z, .bool last] w (RespSays st rs (pageF l z last) w) := by
  have hw := fun (b : Option Addr) d wx (hb : Below w.heap.size w wx) (hs2 : SrcS wx b d pageN) => hwo_any l pageN a b n c 10 d wx hn rfl (hs.below (Nat.le_refl _) hb) hs2 hz (by decide)
  have hl1 := woF_len l (hopF l ++ pageN)
  have hl2 := asz_len l
  obtain ⟨R, hR⟩ : ∃ R, R = pageF l z last := ⟨_, rfl⟩
  rw [← hR]
  unfold pageF fCTH fCSP at hR
  generalize woF l (hopF l ++ pageN) = F at hw hl1 hR
  have hlF : F.length ≤ 16777216 := by omega
  have HW := Lib.hid hw
  have HT := Lib.hid ht
  obtain ⟨wb, hwb⟩ : ∃ wb, wb = (w.alloc (.cells #[.int .i64 st, .string rs, .slice a n c] 26)).alloc (.cells #[.int .i64 0, .string ⟨#[]⟩, .slice none 0 0] 26) := ⟨_, rfl⟩
  have h2 : Two w wb (.int .i64 st) (.string rs) (.slice a n c) (.int .i64 0) (.string ⟨#[]⟩) (.slice none 0 0) := by rw [hwb]; exact two_new ..
  have H2 := Lib.hid h2
  have HB0 := Lib.hid h2.below
  have HWB := Lib.hid hwb
  have HBA : Hid (Below w.heap.size w (wb.alloc (.cells #[.string ⟨#[67, 111, 110, 116, 101, 110, 116, 45, 84, 121, 112, 101]⟩, .string ⟨#[67, 111, 110, 116, 101, 110, 116, 45, 69, 110, 99, 111, 100, 105, 110, 103]⟩, .string ⟨#[67, 111, 110, 116, 101, 110, 116, 45, 83, 101, 99, 117, 114, 105, 116, 121, 45, 80, 111, 108, 105, 99, 121]⟩, .string ⟨#[88, 45, 67, 111, 110, 116, 101, 110, 116, 45, 84, 121, 112, 101, 45, 79, 112, 116, 105, 111, 110, 115]⟩, .string ⟨#[69, 84, 97, 103]⟩, .string ⟨#[67, 111, 110, 116, 101, 110, 116, 45, 77, 68, 53]⟩, .string ⟨#[65, 99, 99, 101, 112, 116, 45, 82, 97, 110, 103, 101, 115]⟩, .string ⟨#[67, 111, 110, 116, 101, 110, 116, 45, 82, 97, 110, 103, 101]⟩, .string ⟨#[82, 101, 102, 114, 101, 115, 104]⟩, .string ⟨#[76, 105, 110, 107]⟩] 9))) := Lib.hid (h2.below.alloc h2.below.size _)
  have HNA : Hid (SrcS (wb.alloc (.cells #[.string ⟨#[67, 111, 110, 116, 101, 110, 116, 45, 84, 121, 112, 101]⟩, .string ⟨#[67, 111, 110, 116, 101, 110, 116, 45, 69, 110, 99, 111, 100, 105, 110, 103]⟩, .string ⟨#[67, 111, 110, 116, 101, 110, 116, 45, 83, 101, 99, 117, 114, 105, 116, 121, 45, 80, 111, 108, 105, 99, 121]⟩, .string ⟨#[88, 45, 67, 111, 110, 116, 101, 110, 116, 45, 84, 121, 112, 101, 45, 79, 112, 116, 105, 111, 110, 115]⟩, .string ⟨#[69, 84, 97, 103]⟩, .string ⟨#[67, 111, 110, 116, 101, 110, 116, 45, 77, 68, 53]⟩, .string ⟨#[65, 99, 99, 101, 112, 116, 45, 82, 97, 110, 103, 101, 115]⟩, .string ⟨#[67, 111, 110, 116, 101, 110, 116, 45, 82, 97, 110, 103, 101]⟩, .string ⟨#[82, 101, 102, 114, 101, 115, 104]⟩, .string ⟨#[76, 105, 110, 107]⟩] 9)) (some ⟨w.heap.size + 1 + 1, 0, none⟩) 10 pageN) := Lib.hid (by have h := lit_strl pageN #[.string ⟨#[67, 111, 110, 116, 101, 110, 116, 45, 84, 121, 112, 101]⟩, .string ⟨#[67, 111, 110, 116, 101, 110, 116, 45, 69, 110, 99, 111, 100, 105, 110, 103]⟩, .string ⟨#[67, 111, 110, 116, 101, 110, 116, 45, 83, 101, 99, 117, 114, 105, 116, 121, 45, 80, 111, 108, 105, 99, 121]⟩, .string ⟨#[88, 45, 67, 111, 110, 116, 101, 110, 116, 45, 84, 121, 112, 101, 45, 79, 112, 116, 105, 111, 110, 115]⟩, .string ⟨#[69, 84, 97, 103]⟩, .string ⟨#[67, 111, 110, 116, 101, 110, 116, 45, 77, 68, 53]⟩, .string ⟨#[65, 99, 99, 101, 112, 116, 45, 82, 97, 110, 103, 101, 115]⟩, .string ⟨#[67, 111, 110, 116, 101, 110, 116, 45, 82, 97, 110, 103, 101]⟩, .string ⟨#[82, 101, 102, 114, 101, 115, 104]⟩, .string ⟨#[76, 105, 110, 107]⟩] rfl wb; rw [h2.size] at h; exact h)
  obtain ⟨c0, c1, c2, _⟩ := h2.keep (Below.refl _ _)
  have HZB := Lib.hid h2.size
  have hsn := fun wx => sniff_any wx
  have hcl := fun wx => clos_any wx
  generalize fSniff = s0 at hsn hR
  generalize fClos = q0 at hcl hR
  obtain ⟨s1, s2⟩ := s0
  obtain ⟨q1, q2⟩ := q0
  have HSN : Hid (∀ wx, Calls Tryz.prog 64 #[] wx fun e w' => e = .returned (.agg #[.string s1, .string s2]) ∧ Below wx.heap.size wx w') := Lib.hid hsn
  have HCL : Hid (∀ wx, Calls Tryz.prog 65 #[] wx fun e w' => e = .returned (.agg #[.string q1, .string q2]) ∧ Below wx.heap.size wx w') := Lib.hid hcl
  have HL3 := Lib.hid (fun wx => lit_flds [(⟨#[67, 111, 110, 116, 101, 110, 116, 45, 84, 121, 112, 101]⟩, ⟨#[116, 101, 120, 116, 47, 104, 116, 109, 108, 59, 32, 99, 104, 97, 114, 115, 101, 116, 61, 117, 116, 102, 45, 56]⟩), (⟨#[67, 111, 110, 116, 101, 110, 116, 45, 83, 101, 99, 117, 114, 105, 116, 121, 45, 80, 111, 108, 105, 99, 121]⟩, ⟨#[100, 101, 102, 97, 117, 108, 116, 45, 115, 114, 99, 32, 39, 110, 111, 110, 101, 39, 59, 32, 98, 97, 115, 101, 45, 117, 114, 105, 32, 39, 110, 111, 110, 101, 39, 59, 32, 102, 111, 114, 109, 45, 97, 99, 116, 105, 111, 110, 32, 39, 110, 111, 110, 101, 39, 59, 32, 115, 97, 110, 100, 98, 111, 120]⟩), (s1, s2)] #[.string ⟨#[67, 111, 110, 116, 101, 110, 116, 45, 84, 121, 112, 101]⟩, .string ⟨#[116, 101, 120, 116, 47, 104, 116, 109, 108, 59, 32, 99, 104, 97, 114, 115, 101, 116, 61, 117, 116, 102, 45, 56]⟩, .string ⟨#[67, 111, 110, 116, 101, 110, 116, 45, 83, 101, 99, 117, 114, 105, 116, 121, 45, 80, 111, 108, 105, 99, 121]⟩, .string ⟨#[100, 101, 102, 97, 117, 108, 116, 45, 115, 114, 99, 32, 39, 110, 111, 110, 101, 39, 59, 32, 98, 97, 115, 101, 45, 117, 114, 105, 32, 39, 110, 111, 110, 101, 39, 59, 32, 102, 111, 114, 109, 45, 97, 99, 116, 105, 111, 110, 32, 39, 110, 111, 110, 101, 39, 59, 32, 115, 97, 110, 100, 98, 111, 120]⟩, .string s1, .string s2] rfl wx)
  clear hw hs hn hz hl1 hl2 ht hwb h2 hsn hcl
  by_cases h0 : 0 ≤ z
  · have hD := fun wx (hb : Below w.heap.size w wx) => sized_any z h0 h1 wx (HT.out.below hb)
    rw [if_pos h0] at hR
    generalize fLen z = p at hD hR
    obtain ⟨p1, p2⟩ := p
    have HSZ : Hid (∀ wx, Below w.heap.size w wx → Calls Tryz.prog 57 #[.int .i64 z] wx fun e w' => e = .returned (.agg #[.string p1, .string p2]) ∧ Below wx.heap.size wx w') := Lib.hid hD
    clear hD h1
    cases last with
    | true =>
      rw [if_pos rfl] at hR
      have HV := Lib.hid hR
      clear hR
      go_enter Tryz.func22, Tryz.ntmps22
      go_wp2_with fail
      rw [← HWB.out]
      refine (HW.out _ _ _ HBA.out HNA.out).mono ?_; rintro e w1 ⟨hb, v, rfl, hown⟩
      have HB1 : Hid (Below wb.heap.size wb w1) := Lib.hid (((Below.refl _ _).alloc (Nat.le_refl _) _).trans (hb.mono (by simp)))
      have HO1 : Hid (OwnF w1 wb.heap.size v F) := Lib.hid (ownF_mono hown (by simp))
      clear hb hown
      go_wp2_with fail
      refine (HSN.out _).mono ?_; rintro e w2 ⟨rfl, hb⟩
      have HB2 : Hid (Below wb.heap.size wb w2) := Lib.hid (HB1.out.trans (hb.mono HB1.out.size))
      have HO2 : Hid (OwnF (w2.alloc (.cells #[.string ⟨#[67, 111, 110, 116, 101, 110, 116, 45, 84, 121, 112, 101]⟩, .string ⟨#[116, 101, 120, 116, 47, 104, 116, 109, 108, 59, 32, 99, 104, 97, 114, 115, 101, 116, 61, 117, 116, 102, 45, 56]⟩, .string ⟨#[67, 111, 110, 116, 101, 110, 116, 45, 83, 101, 99, 117, 114, 105, 116, 121, 45, 80, 111, 108, 105, 99, 121]⟩, .string ⟨#[100, 101, 102, 97, 117, 108, 116, 45, 115, 114, 99, 32, 39, 110, 111, 110, 101, 39, 59, 32, 98, 97, 115, 101, 45, 117, 114, 105, 32, 39, 110, 111, 110, 101, 39, 59, 32, 102, 111, 114, 109, 45, 97, 99, 116, 105, 111, 110, 32, 39, 110, 111, 110, 101, 39, 59, 32, 115, 97, 110, 100, 98, 111, 120]⟩, .string s1, .string s2] 37)) wb.heap.size v F) := Lib.hid (ownF_alloc (ownF_below HO1.out (Nat.le_refl _) hb) _)
      have HL2 := Lib.hid (HL3.out w2)
      have HZ2 : Hid (wb.heap.size ≤ (w2.alloc (.cells #[.string ⟨#[67, 111, 110, 116, 101, 110, 116, 45, 84, 121, 112, 101]⟩, .string ⟨#[116, 101, 120, 116, 47, 104, 116, 109, 108, 59, 32, 99, 104, 97, 114, 115, 101, 116, 61, 117, 116, 102, 45, 56]⟩, .string ⟨#[67, 111, 110, 116, 101, 110, 116, 45, 83, 101, 99, 117, 114, 105, 116, 121, 45, 80, 111, 108, 105, 99, 121]⟩, .string ⟨#[100, 101, 102, 97, 117, 108, 116, 45, 115, 114, 99, 32, 39, 110, 111, 110, 101, 39, 59, 32, 98, 97, 115, 101, 45, 117, 114, 105, 32, 39, 110, 111, 110, 101, 39, 59, 32, 102, 111, 114, 109, 45, 97, 99, 116, 105, 111, 110, 32, 39, 110, 111, 110, 101, 39, 59, 32, 115, 97, 110, 100, 98, 111, 120]⟩, .string s1, .string s2] 37)).heap.size) := Lib.hid (by have := HB2.out.size; simp; omega)
      clear hb
      go_wp2_with (at_builtin; refine app_flds rfl _ _ rfl wb.heap.size _ F rfl HO2.out _ 3 3 [(⟨#[67, 111, 110, 116, 101, 110, 116, 45, 84, 121, 112, 101]⟩, ⟨#[116, 101, 120, 116, 47, 104, 116, 109, 108, 59, 32, 99, 104, 97, 114, 115, 101, 116, 61, 117, 116, 102, 45, 56]⟩), (⟨#[67, 111, 110, 116, 101, 110, 116, 45, 83, 101, 99, 117, 114, 105, 116, 121, 45, 80, 111, 108, 105, 99, 121]⟩, ⟨#[100, 101, 102, 97, 117, 108, 116, 45, 115, 114, 99, 32, 39, 110, 111, 110, 101, 39, 59, 32, 98, 97, 115, 101, 45, 117, 114, 105, 32, 39, 110, 111, 110, 101, 39, 59, 32, 102, 111, 114, 109, 45, 97, 99, 116, 105, 111, 110, 32, 39, 110, 111, 110, 101, 39, 59, 32, 115, 97, 110, 100, 98, 111, 120]⟩), (s1, s2)] rfl rfl HL2.out ?n2 HZ2.out ?_)
      case n2 => show (_ + 3) * 32 ≤ _; omega
      intro v3 w3 hown hb _
      obtain ⟨F3, hF3⟩ : ∃ F3, F ++ [(⟨#[67, 111, 110, 116, 101, 110, 116, 45, 84, 121, 112, 101]⟩, ⟨#[116, 101, 120, 116, 47, 104, 116, 109, 108, 59, 32, 99, 104, 97, 114, 115, 101, 116, 61, 117, 116, 102, 45, 56]⟩), (⟨#[67, 111, 110, 116, 101, 110, 116, 45, 83, 101, 99, 117, 114, 105, 116, 121, 45, 80, 111, 108, 105, 99, 121]⟩, ⟨#[100, 101, 102, 97, 117, 108, 116, 45, 115, 114, 99, 32, 39, 110, 111, 110, 101, 39, 59, 32, 98, 97, 115, 101, 45, 117, 114, 105, 32, 39, 110, 111, 110, 101, 39, 59, 32, 102, 111, 114, 109, 45, 97, 99, 116, 105, 111, 110, 32, 39, 110, 111, 110, 101, 39, 59, 32, 115, 97, 110, 100, 98, 111, 120]⟩), (s1, s2)] = F3 := ⟨_, rfl⟩
      have HF3 : Hid (F ++ [(⟨#[67, 111, 110, 116, 101, 110, 116, 45, 84, 121, 112, 101]⟩, ⟨#[116, 101, 120, 116, 47, 104, 116, 109, 108, 59, 32, 99, 104, 97, 114, 115, 101, 116, 61, 117, 116, 102, 45, 56]⟩), (⟨#[67, 111, 110, 116, 101, 110, 116, 45, 83, 101, 99, 117, 114, 105, 116, 121, 45, 80, 111, 108, 105, 99, 121]⟩, ⟨#[100, 101, 102, 97, 117, 108, 116, 45, 115, 114, 99, 32, 39, 110, 111, 110, 101, 39, 59, 32, 98, 97, 115, 101, 45, 117, 114, 105, 32, 39, 110, 111, 110, 101, 39, 59, 32, 102, 111, 114, 109, 45, 97, 99, 116, 105, 111, 110, 32, 39, 110, 111, 110, 101, 39, 59, 32, 115, 97, 110, 100, 98, 111, 120]⟩), (s1, s2)] = F3) := Lib.hid hF3
      have hl3 : F3.length ≤ 16777219 := by rw [← hF3, List.length_append]; simp only [List.length_cons, List.length_nil]; omega
      have HO3 : Hid (OwnF w3 wb.heap.size v3 F3) := Lib.hid (by rw [← hF3]; exact hown)
      have HB3 : Hid (Below wb.heap.size wb w3) := Lib.hid ((HB2.out.alloc HB2.out.size _).trans hb.out)
      clear hown hb hF3
      go_wp2_with fail
      refine (HSZ.out _ (HB0.out.trans (HB3.out.mono HB0.out.size))).mono ?_; rintro e w4 ⟨rfl, hb⟩
      have HB4 : Hid (Below wb.heap.size wb w4) := Lib.hid (HB3.out.trans (hb.mono HB3.out.size))
      have HO4 : Hid (OwnF (w4.alloc (.cells #[.string p1, .string p2] 37)) wb.heap.size v3 F3) := Lib.hid (ownF_alloc (ownF_below HO3.out (Nat.le_refl _) hb) _)
      have HL4 := Lib.hid (lit_fld p1 p2 w4)
      have HZ4 : Hid (wb.heap.size ≤ (w4.alloc (.cells #[.string p1, .string p2] 37)).heap.size) := Lib.hid (by have := HB4.out.size; simp; omega)
      clear hb
      go_wp2_with (at_builtin; refine app_flds rfl _ _ rfl wb.heap.size _ F3 rfl HO4.out _ 1 1 [(p1, p2)] rfl rfl HL4.out ?n2 HZ4.out ?_)
      case n2 => show (_ + 1) * 32 ≤ _; omega
      intro v5 w5 hown hb _
      obtain ⟨F5, hF5⟩ : ∃ F5, F3 ++ [(p1, p2)] = F5 := ⟨_, rfl⟩
      have HF5 : Hid (F3 ++ [(p1, p2)] = F5) := Lib.hid hF5
      have hl5 : F5.length ≤ 16777221 := by rw [← hF5, List.length_append]; simp only [List.length_cons, List.length_nil]; omega
      have HO5 : Hid (OwnF w5 wb.heap.size v5 F5) := Lib.hid (by rw [← hF5]; exact hown)
      have HB5 : Hid (Below wb.heap.size wb w5) := Lib.hid ((HB4.out.alloc HB4.out.size _).trans hb.out)
      clear hown hb hF5
      go_wp2_with fail
      refine (HCL.out _).mono ?_; rintro e w6 ⟨rfl, hb⟩
      have HB6 : Hid (Below wb.heap.size wb w6) := Lib.hid (HB5.out.trans (hb.mono HB5.out.size))
      have HO6 : Hid (OwnF (w6.alloc (.cells #[.string q1, .string q2] 37)) wb.heap.size v5 F5) := Lib.hid (ownF_alloc (ownF_below HO5.out (Nat.le_refl _) hb) _)
      have HL6 := Lib.hid (lit_fld q1 q2 w6)
      have HZ6 : Hid (wb.heap.size ≤ (w6.alloc (.cells #[.string q1, .string q2] 37)).heap.size) := Lib.hid (by have := HB6.out.size; simp; omega)
      clear hb
      go_wp2_with (at_builtin; refine app_flds rfl _ _ rfl wb.heap.size _ F5 rfl HO6.out _ 1 1 [(q1, q2)] rfl rfl HL6.out ?n2 HZ6.out ?_)
      case n2 => show (_ + 1) * 32 ≤ _; omega
      intro v7 w7 hown hb _
      obtain ⟨F7, hF7⟩ : ∃ F7, F5 ++ [(q1, q2)] = F7 := ⟨_, rfl⟩
      have HF7 : Hid (F5 ++ [(q1, q2)] = F7) := Lib.hid hF7
      have hl7 : F7.length ≤ 16777223 := by rw [← hF7, List.length_append]; simp only [List.length_cons, List.length_nil]; omega
      have HO7 : Hid (OwnF w7 wb.heap.size v7 F7) := Lib.hid (by rw [← hF7]; exact hown)
      have HB7 : Hid (Below wb.heap.size wb w7) := Lib.hid ((HB6.out.alloc HB6.out.size _).trans hb.out)
      clear hown hb hF7
      obtain ⟨c0, c1, c2, k0, k1, k2, f0, f1, f2⟩ := H2.out.keep HB7.out
      have hsz : w.heap.size + 1 < w7.heap.size := by have := HB7.out.size; have := HZB.out; omega
      obtain ⟨az, dz, hvz, _⟩ := ownF_src HO7.out
      have HOR : Hid (OwnF w7 wb.heap.size v7 R) := Lib.hid (by rw [HV.out, HF3.out, HF5.out, HF7.out]; exact HO7.out)
      have HBW : Hid (Below w.heap.size w w7) := Lib.hid (HB0.out.trans (HB7.out.mono HB0.out.size))
      obtain ⟨nz, hnz⟩ : ∃ nz, F7.length = nz := ⟨_, rfl⟩
      rw [hnz] at hvz
      clear hnz
      have HG : Hid (w.heap.size + 1 < wb.heap.size) := Lib.hid (by have := HZB.out; omega)
      have HG2 : Hid (w.heap.size ≤ w.heap.size + 1) := Lib.hid (by omega)
      have HWS : Hid (w.heap.size ≤ wb.heap.size) := Lib.hid HB0.out.size
      subst hvz
      go_wp2
      refine bodyPost_ret (v := .agg #[.int .i64 st, .string rs, _]) (by simp [results, Tryz.results22, go_sem, k0, k1, k2]; rfl) rfl ?_
      exact respSays (below_set3 HBW.out HG2.out) (ownF_mono (ownF_set3 HOR.out HG.out) HWS.out)
    | false =>
      rw [if_neg (by decide), List.append_nil] at hR
      have HV := Lib.hid hR
      clear hR
      go_enter Tryz.func22, Tryz.ntmps22
      go_wp2_with fail
      rw [← HWB.out]
      refine (HW.out _ _ _ HBA.out HNA.out).mono ?_; rintro e w1 ⟨hb, v, rfl, hown⟩
      have HB1 : Hid (Below wb.heap.size wb w1) := Lib.hid (((Below.refl _ _).alloc (Nat.le_refl _) _).trans (hb.mono (by simp)))
      have HO1 : Hid (OwnF w1 wb.heap.size v F) := Lib.hid (ownF_mono hown (by simp))
      clear hb hown
      go_wp2_with fail
      refine (HSN.out _).mono ?_; rintro e w2 ⟨rfl, hb⟩
      have HB2 : Hid (Below wb.heap.size wb w2) := Lib.hid (HB1.out.trans (hb.mono HB1.out.size))
      have HO2 : Hid (OwnF (w2.alloc (.cells #[.string ⟨#[67, 111, 110, 116, 101, 110, 116, 45, 84, 121, 112, 101]⟩, .string ⟨#[116, 101, 120, 116, 47, 104, 116, 109, 108, 59, 32, 99, 104, 97, 114, 115, 101, 116, 61, 117, 116, 102, 45, 56]⟩, .string ⟨#[67, 111, 110, 116, 101, 110, 116, 45, 83, 101, 99, 117, 114, 105, 116, 121, 45, 80, 111, 108, 105, 99, 121]⟩, .string ⟨#[100, 101, 102, 97, 117, 108, 116, 45, 115, 114, 99, 32, 39, 110, 111, 110, 101, 39, 59, 32, 98, 97, 115, 101, 45, 117, 114, 105, 32, 39, 110, 111, 110, 101, 39, 59, 32, 102, 111, 114, 109, 45, 97, 99, 116, 105, 111, 110, 32, 39, 110, 111, 110, 101, 39, 59, 32, 115, 97, 110, 100, 98, 111, 120]⟩, .string s1, .string s2] 37)) wb.heap.size v F) := Lib.hid (ownF_alloc (ownF_below HO1.out (Nat.le_refl _) hb) _)
      have HL2 := Lib.hid (HL3.out w2)
      have HZ2 : Hid (wb.heap.size ≤ (w2.alloc (.cells #[.string ⟨#[67, 111, 110, 116, 101, 110, 116, 45, 84, 121, 112, 101]⟩, .string ⟨#[116, 101, 120, 116, 47, 104, 116, 109, 108, 59, 32, 99, 104, 97, 114, 115, 101, 116, 61, 117, 116, 102, 45, 56]⟩, .string ⟨#[67, 111, 110, 116, 101, 110, 116, 45, 83, 101, 99, 117, 114, 105, 116, 121, 45, 80, 111, 108, 105, 99, 121]⟩, .string ⟨#[100, 101, 102, 97, 117, 108, 116, 45, 115, 114, 99, 32, 39, 110, 111, 110, 101, 39, 59, 32, 98, 97, 115, 101, 45, 117, 114, 105, 32, 39, 110, 111, 110, 101, 39, 59, 32, 102, 111, 114, 109, 45, 97, 99, 116, 105, 111, 110, 32, 39, 110, 111, 110, 101, 39, 59, 32, 115, 97, 110, 100, 98, 111, 120]⟩, .string s1, .string s2] 37)).heap.size) := Lib.hid (by have := HB2.out.size; simp; omega)
      clear hb
      go_wp2_with (at_builtin; refine app_flds rfl _ _ rfl wb.heap.size _ F rfl HO2.out _ 3 3 [(⟨#[67, 111, 110, 116, 101, 110, 116, 45, 84, 121, 112, 101]⟩, ⟨#[116, 101, 120, 116, 47, 104, 116, 109, 108, 59, 32, 99, 104, 97, 114, 115, 101, 116, 61, 117, 116, 102, 45, 56]⟩), (⟨#[67, 111, 110, 116, 101, 110, 116, 45, 83, 101, 99, 117, 114, 105, 116, 121, 45, 80, 111, 108, 105, 99, 121]⟩, ⟨#[100, 101, 102, 97, 117, 108, 116, 45, 115, 114, 99, 32, 39, 110, 111, 110, 101, 39, 59, 32, 98, 97, 115, 101, 45, 117, 114, 105, 32, 39, 110, 111, 110, 101, 39, 59, 32, 102, 111, 114, 109, 45, 97, 99, 116, 105, 111, 110, 32, 39, 110, 111, 110, 101, 39, 59, 32, 115, 97, 110, 100, 98, 111, 120]⟩), (s1, s2)] rfl rfl HL2.out ?n2 HZ2.out ?_)
      case n2 => show (_ + 3) * 32 ≤ _; omega
      intro v3 w3 hown hb _
      obtain ⟨F3, hF3⟩ : ∃ F3, F ++ [(⟨#[67, 111, 110, 116, 101, 110, 116, 45, 84, 121, 112, 101]⟩, ⟨#[116, 101, 120, 116, 47, 104, 116, 109, 108, 59, 32, 99, 104, 97, 114, 115, 101, 116, 61, 117, 116, 102, 45, 56]⟩), (⟨#[67, 111, 110, 116, 101, 110, 116, 45, 83, 101, 99, 117, 114, 105, 116, 121, 45, 80, 111, 108, 105, 99, 121]⟩, ⟨#[100, 101, 102, 97, 117, 108, 116, 45, 115, 114, 99, 32, 39, 110, 111, 110, 101, 39, 59, 32, 98, 97, 115, 101, 45, 117, 114, 105, 32, 39, 110, 111, 110, 101, 39, 59, 32, 102, 111, 114, 109, 45, 97, 99, 116, 105, 111, 110, 32, 39, 110, 111, 110, 101, 39, 59, 32, 115, 97, 110, 100, 98, 111, 120]⟩), (s1, s2)] = F3 := ⟨_, rfl⟩
      have HF3 : Hid (F ++ [(⟨#[67, 111, 110, 116, 101, 110, 116, 45, 84, 121, 112, 101]⟩, ⟨#[116, 101, 120, 116, 47, 104, 116, 109, 108, 59, 32, 99, 104, 97, 114, 115, 101, 116, 61, 117, 116, 102, 45, 56]⟩), (⟨#[67, 111, 110, 116, 101, 110, 116, 45, 83, 101, 99, 117, 114, 105, 116, 121, 45, 80, 111, 108, 105, 99, 121]⟩, ⟨#[100, 101, 102, 97, 117, 108, 116, 45, 115, 114, 99, 32, 39, 110, 111, 110, 101, 39, 59, 32, 98, 97, 115, 101, 45, 117, 114, 105, 32, 39, 110, 111, 110, 101, 39, 59, 32, 102, 111, 114, 109, 45, 97, 99, 116, 105, 111, 110, 32, 39, 110, 111, 110, 101, 39, 59, 32, 115, 97, 110, 100, 98, 111, 120]⟩), (s1, s2)] = F3) := Lib.hid hF3
      have hl3 : F3.length ≤ 16777219 := by rw [← hF3, List.length_append]; simp only [List.length_cons, List.length_nil]; omega
      have HO3 : Hid (OwnF w3 wb.heap.size v3 F3) := Lib.hid (by rw [← hF3]; exact hown)
      have HB3 : Hid (Below wb.heap.size wb w3) := Lib.hid ((HB2.out.alloc HB2.out.size _).trans hb.out)
      clear hown hb hF3
      go_wp2_with fail
      refine (HSZ.out _ (HB0.out.trans (HB3.out.mono HB0.out.size))).mono ?_; rintro e w4 ⟨rfl, hb⟩
      have HB4 : Hid (Below wb.heap.size wb w4) := Lib.hid (HB3.out.trans (hb.mono HB3.out.size))
      have HO4 : Hid (OwnF (w4.alloc (.cells #[.string p1, .string p2] 37)) wb.heap.size v3 F3) := Lib.hid (ownF_alloc (ownF_below HO3.out (Nat.le_refl _) hb) _)
      have HL4 := Lib.hid (lit_fld p1 p2 w4)
      have HZ4 : Hid (wb.heap.size ≤ (w4.alloc (.cells #[.string p1, .string p2] 37)).heap.size) := Lib.hid (by have := HB4.out.size; simp; omega)
      clear hb
      go_wp2_with (at_builtin; refine app_flds rfl _ _ rfl wb.heap.size _ F3 rfl HO4.out _ 1 1 [(p1, p2)] rfl rfl HL4.out ?n2 HZ4.out ?_)
      case n2 => show (_ + 1) * 32 ≤ _; omega
      intro v5 w5 hown hb _
      obtain ⟨F5, hF5⟩ : ∃ F5, F3 ++ [(p1, p2)] = F5 := ⟨_, rfl⟩
      have HF5 : Hid (F3 ++ [(p1, p2)] = F5) := Lib.hid hF5
      have hl5 : F5.length ≤ 16777221 := by rw [← hF5, List.length_append]; simp only [List.length_cons, List.length_nil]; omega
      have HO5 : Hid (OwnF w5 wb.heap.size v5 F5) := Lib.hid (by rw [← hF5]; exact hown)
      have HB5 : Hid (Below wb.heap.size wb w5) := Lib.hid ((HB4.out.alloc HB4.out.size _).trans hb.out)
      clear hown hb hF5
      obtain ⟨c0, c1, c2, k0, k1, k2, f0, f1, f2⟩ := H2.out.keep HB5.out
      have hsz : w.heap.size + 1 < w5.heap.size := by have := HB5.out.size; have := HZB.out; omega
      obtain ⟨az, dz, hvz, _⟩ := ownF_src HO5.out
      have HOR : Hid (OwnF w5 wb.heap.size v5 R) := Lib.hid (by rw [HV.out, HF3.out, HF5.out]; exact HO5.out)
      have HBW : Hid (Below w.heap.size w w5) := Lib.hid (HB0.out.trans (HB5.out.mono HB0.out.size))
      obtain ⟨nz, hnz⟩ : ∃ nz, F5.length = nz := ⟨_, rfl⟩
      rw [hnz] at hvz
      clear hnz
      have HG : Hid (w.heap.size + 1 < wb.heap.size) := Lib.hid (by have := HZB.out; omega)
      have HG2 : Hid (w.heap.size ≤ w.heap.size + 1) := Lib.hid (by omega)
      have HWS : Hid (w.heap.size ≤ wb.heap.size) := Lib.hid HB0.out.size
      subst hvz
      go_wp2
      refine bodyPost_ret (v := .agg #[.int .i64 st, .string rs, _]) (by simp [results, Tryz.results22, go_sem, k0, k1, k2]; rfl) rfl ?_
      exact respSays (below_set3 HBW.out HG2.out) (ownF_mono (ownF_set3 HOR.out HG.out) HWS.out)
  · rw [if_neg h0, List.append_nil] at hR
    clear h1
    cases last with
    | true =>
      rw [if_pos rfl] at hR
      have HV := Lib.hid hR
      clear hR
      go_enter Tryz.func22, Tryz.ntmps22
      go_wp2_with fail
      rw [← HWB.out]
      refine (HW.out _ _ _ HBA.out HNA.out).mono ?_; rintro e w1 ⟨hb, v, rfl, hown⟩
      have HB1 : Hid (Below wb.heap.size wb w1) := Lib.hid (((Below.refl _ _).alloc (Nat.le_refl _) _).trans (hb.mono (by simp)))
      have HO1 : Hid (OwnF w1 wb.heap.size v F) := Lib.hid (ownF_mono hown (by simp))
      clear hb hown
      go_wp2_with fail
      refine (HSN.out _).mono ?_; rintro e w2 ⟨rfl, hb⟩
      have HB2 : Hid (Below wb.heap.size wb w2) := Lib.hid (HB1.out.trans (hb.mono HB1.out.size))
      have HO2 : Hid (OwnF (w2.alloc (.cells #[.string ⟨#[67, 111, 110, 116, 101, 110, 116, 45, 84, 121, 112, 101]⟩, .string ⟨#[116, 101, 120, 116, 47, 104, 116, 109, 108, 59, 32, 99, 104, 97, 114, 115, 101, 116, 61, 117, 116, 102, 45, 56]⟩, .string ⟨#[67, 111, 110, 116, 101, 110, 116, 45, 83, 101, 99, 117, 114, 105, 116, 121, 45, 80, 111, 108, 105, 99, 121]⟩, .string ⟨#[100, 101, 102, 97, 117, 108, 116, 45, 115, 114, 99, 32, 39, 110, 111, 110, 101, 39, 59, 32, 98, 97, 115, 101, 45, 117, 114, 105, 32, 39, 110, 111, 110, 101, 39, 59, 32, 102, 111, 114, 109, 45, 97, 99, 116, 105, 111, 110, 32, 39, 110, 111, 110, 101, 39, 59, 32, 115, 97, 110, 100, 98, 111, 120]⟩, .string s1, .string s2] 37)) wb.heap.size v F) := Lib.hid (ownF_alloc (ownF_below HO1.out (Nat.le_refl _) hb) _)
      have HL2 := Lib.hid (HL3.out w2)
      have HZ2 : Hid (wb.heap.size ≤ (w2.alloc (.cells #[.string ⟨#[67, 111, 110, 116, 101, 110, 116, 45, 84, 121, 112, 101]⟩, .string ⟨#[116, 101, 120, 116, 47, 104, 116, 109, 108, 59, 32, 99, 104, 97, 114, 115, 101, 116, 61, 117, 116, 102, 45, 56]⟩, .string ⟨#[67, 111, 110, 116, 101, 110, 116, 45, 83, 101, 99, 117, 114, 105, 116, 121, 45, 80, 111, 108, 105, 99, 121]⟩, .string ⟨#[100, 101, 102, 97, 117, 108, 116, 45, 115, 114, 99, 32, 39, 110, 111, 110, 101, 39, 59, 32, 98, 97, 115, 101, 45, 117, 114, 105, 32, 39, 110, 111, 110, 101, 39, 59, 32, 102, 111, 114, 109, 45, 97, 99, 116, 105, 111, 110, 32, 39, 110, 111, 110, 101, 39, 59, 32, 115, 97, 110, 100, 98, 111, 120]⟩, .string s1, .string s2] 37)).heap.size) := Lib.hid (by have := HB2.out.size; simp; omega)
      clear hb
      go_wp2_with (at_builtin; refine app_flds rfl _ _ rfl wb.heap.size _ F rfl HO2.out _ 3 3 [(⟨#[67, 111, 110, 116, 101, 110, 116, 45, 84, 121, 112, 101]⟩, ⟨#[116, 101, 120, 116, 47, 104, 116, 109, 108, 59, 32, 99, 104, 97, 114, 115, 101, 116, 61, 117, 116, 102, 45, 56]⟩), (⟨#[67, 111, 110, 116, 101, 110, 116, 45, 83, 101, 99, 117, 114, 105, 116, 121, 45, 80, 111, 108, 105, 99, 121]⟩, ⟨#[100, 101, 102, 97, 117, 108, 116, 45, 115, 114, 99, 32, 39, 110, 111, 110, 101, 39, 59, 32, 98, 97, 115, 101, 45, 117, 114, 105, 32, 39, 110, 111, 110, 101, 39, 59, 32, 102, 111, 114, 109, 45, 97, 99, 116, 105, 111, 110, 32, 39, 110, 111, 110, 101, 39, 59, 32, 115, 97, 110, 100, 98, 111, 120]⟩), (s1, s2)] rfl rfl HL2.out ?n2 HZ2.out ?_)
      case n2 => show (_ + 3) * 32 ≤ _; omega
      intro v3 w3 hown hb _
      obtain ⟨F3, hF3⟩ : ∃ F3, F ++ [(⟨#[67, 111, 110, 116, 101, 110, 116, 45, 84, 121, 112, 101]⟩, ⟨#[116, 101, 120, 116, 47, 104, 116, 109, 108, 59, 32, 99, 104, 97, 114, 115, 101, 116, 61, 117, 116, 102, 45, 56]⟩), (⟨#[67, 111, 110, 116, 101, 110, 116, 45, 83, 101, 99, 117, 114, 105, 116, 121, 45, 80, 111, 108, 105, 99, 121]⟩, ⟨#[100, 101, 102, 97, 117, 108, 116, 45, 115, 114, 99, 32, 39, 110, 111, 110, 101, 39, 59, 32, 98, 97, 115, 101, 45, 117, 114, 105, 32, 39, 110, 111, 110, 101, 39, 59, 32, 102, 111, 114, 109, 45, 97, 99, 116, 105, 111, 110, 32, 39, 110, 111, 110, 101, 39, 59, 32, 115, 97, 110, 100, 98, 111, 120]⟩), (s1, s2)] = F3 := ⟨_, rfl⟩
      have HF3 : Hid (F ++ [(⟨#[67, 111, 110, 116, 101, 110, 116, 45, 84, 121, 112, 101]⟩, ⟨#[116, 101, 120, 116, 47, 104, 116, 109, 108, 59, 32, 99, 104, 97, 114, 115, 101, 116, 61, 117, 116, 102, 45, 56]⟩), (⟨#[67, 111, 110, 116, 101, 110, 116, 45, 83, 101, 99, 117, 114, 105, 116, 121, 45, 80, 111, 108, 105, 99, 121]⟩, ⟨#[100, 101, 102, 97, 117, 108, 116, 45, 115, 114, 99, 32, 39, 110, 111, 110, 101, 39, 59, 32, 98, 97, 115, 101, 45, 117, 114, 105, 32, 39, 110, 111, 110, 101, 39, 59, 32, 102, 111, 114, 109, 45, 97, 99, 116, 105, 111, 110, 32, 39, 110, 111, 110, 101, 39, 59, 32, 115, 97, 110, 100, 98, 111, 120]⟩), (s1, s2)] = F3) := Lib.hid hF3
      have hl3 : F3.length ≤ 16777219 := by rw [← hF3, List.length_append]; simp only [List.length_cons, List.length_nil]; omega
      have HO3 : Hid (OwnF w3 wb.heap.size v3 F3) := Lib.hid (by rw [← hF3]; exact hown)
      have HB3 : Hid (Below wb.heap.size wb w3) := Lib.hid ((HB2.out.alloc HB2.out.size _).trans hb.out)
      clear hown hb hF3
      go_wp2_with fail
      refine (HCL.out _).mono ?_; rintro e w4 ⟨rfl, hb⟩
      have HB4 : Hid (Below wb.heap.size wb w4) := Lib.hid (HB3.out.trans (hb.mono HB3.out.size))
      have HO4 : Hid (OwnF (w4.alloc (.cells #[.string q1, .string q2] 37)) wb.heap.size v3 F3) := Lib.hid (ownF_alloc (ownF_below HO3.out (Nat.le_refl _) hb) _)
      have HL4 := Lib.hid (lit_fld q1 q2 w4)
      have HZ4 : Hid (wb.heap.size ≤ (w4.alloc (.cells #[.string q1, .string q2] 37)).heap.size) := Lib.hid (by have := HB4.out.size; simp; omega)
      clear hb
      go_wp2_with (at_builtin; refine app_flds rfl _ _ rfl wb.heap.size _ F3 rfl HO4.out _ 1 1 [(q1, q2)] rfl rfl HL4.out ?n2 HZ4.out ?_)
      case n2 => show (_ + 1) * 32 ≤ _; omega
      intro v5 w5 hown hb _
      obtain ⟨F5, hF5⟩ : ∃ F5, F3 ++ [(q1, q2)] = F5 := ⟨_, rfl⟩
      have HF5 : Hid (F3 ++ [(q1, q2)] = F5) := Lib.hid hF5
      have hl5 : F5.length ≤ 16777221 := by rw [← hF5, List.length_append]; simp only [List.length_cons, List.length_nil]; omega
      have HO5 : Hid (OwnF w5 wb.heap.size v5 F5) := Lib.hid (by rw [← hF5]; exact hown)
      have HB5 : Hid (Below wb.heap.size wb w5) := Lib.hid ((HB4.out.alloc HB4.out.size _).trans hb.out)
      clear hown hb hF5
      obtain ⟨c0, c1, c2, k0, k1, k2, f0, f1, f2⟩ := H2.out.keep HB5.out
      have hsz : w.heap.size + 1 < w5.heap.size := by have := HB5.out.size; have := HZB.out; omega
      obtain ⟨az, dz, hvz, _⟩ := ownF_src HO5.out
      have HOR : Hid (OwnF w5 wb.heap.size v5 R) := Lib.hid (by rw [HV.out, HF3.out, HF5.out]; exact HO5.out)
      have HBW : Hid (Below w.heap.size w w5) := Lib.hid (HB0.out.trans (HB5.out.mono HB0.out.size))
      obtain ⟨nz, hnz⟩ : ∃ nz, F5.length = nz := ⟨_, rfl⟩
      rw [hnz] at hvz
      clear hnz
      have HG : Hid (w.heap.size + 1 < wb.heap.size) := Lib.hid (by have := HZB.out; omega)
      have HG2 : Hid (w.heap.size ≤ w.heap.size + 1) := Lib.hid (by omega)
      have HWS : Hid (w.heap.size ≤ wb.heap.size) := Lib.hid HB0.out.size
      subst hvz
      go_wp2
      refine bodyPost_ret (v := .agg #[.int .i64 st, .string rs, _]) (by simp [results, Tryz.results22, go_sem, k0, k1, k2]; rfl) rfl ?_
      exact respSays (below_set3 HBW.out HG2.out) (ownF_mono (ownF_set3 HOR.out HG.out) HWS.out)
    | false =>
      rw [if_neg (by decide), List.append_nil] at hR
      have HV := Lib.hid hR
      clear hR
      go_enter Tryz.func22, Tryz.ntmps22
      go_wp2_with fail
      rw [← HWB.out]
      refine (HW.out _ _ _ HBA.out HNA.out).mono ?_; rintro e w1 ⟨hb, v, rfl, hown⟩
      have HB1 : Hid (Below wb.heap.size wb w1) := Lib.hid (((Below.refl _ _).alloc (Nat.le_refl _) _).trans (hb.mono (by simp)))
      have HO1 : Hid (OwnF w1 wb.heap.size v F) := Lib.hid (ownF_mono hown (by simp))
      clear hb hown
      go_wp2_with fail
      refine (HSN.out _).mono ?_; rintro e w2 ⟨rfl, hb⟩
      have HB2 : Hid (Below wb.heap.size wb w2) := Lib.hid (HB1.out.trans (hb.mono HB1.out.size))
      have HO2 : Hid (OwnF (w2.alloc (.cells #[.string ⟨#[67, 111, 110, 116, 101, 110, 116, 45, 84, 121, 112, 101]⟩, .string ⟨#[116, 101, 120, 116, 47, 104, 116, 109, 108, 59, 32, 99, 104, 97, 114, 115, 101, 116, 61, 117, 116, 102, 45, 56]⟩, .string ⟨#[67, 111, 110, 116, 101, 110, 116, 45, 83, 101, 99, 117, 114, 105, 116, 121, 45, 80, 111, 108, 105, 99, 121]⟩, .string ⟨#[100, 101, 102, 97, 117, 108, 116, 45, 115, 114, 99, 32, 39, 110, 111, 110, 101, 39, 59, 32, 98, 97, 115, 101, 45, 117, 114, 105, 32, 39, 110, 111, 110, 101, 39, 59, 32, 102, 111, 114, 109, 45, 97, 99, 116, 105, 111, 110, 32, 39, 110, 111, 110, 101, 39, 59, 32, 115, 97, 110, 100, 98, 111, 120]⟩, .string s1, .string s2] 37)) wb.heap.size v F) := Lib.hid (ownF_alloc (ownF_below HO1.out (Nat.le_refl _) hb) _)
      have HL2 := Lib.hid (HL3.out w2)
      have HZ2 : Hid (wb.heap.size ≤ (w2.alloc (.cells #[.string ⟨#[67, 111, 110, 116, 101, 110, 116, 45, 84, 121, 112, 101]⟩, .string ⟨#[116, 101, 120, 116, 47, 104, 116, 109, 108, 59, 32, 99, 104, 97, 114, 115, 101, 116, 61, 117, 116, 102, 45, 56]⟩, .string ⟨#[67, 111, 110, 116, 101, 110, 116, 45, 83, 101, 99, 117, 114, 105, 116, 121, 45, 80, 111, 108, 105, 99, 121]⟩, .string ⟨#[100, 101, 102, 97, 117, 108, 116, 45, 115, 114, 99, 32, 39, 110, 111, 110, 101, 39, 59, 32, 98, 97, 115, 101, 45, 117, 114, 105, 32, 39, 110, 111, 110, 101, 39, 59, 32, 102, 111, 114, 109, 45, 97, 99, 116, 105, 111, 110, 32, 39, 110, 111, 110, 101, 39, 59, 32, 115, 97, 110, 100, 98, 111, 120]⟩, .string s1, .string s2] 37)).heap.size) := Lib.hid (by have := HB2.out.size; simp; omega)
      clear hb
      go_wp2_with (at_builtin; refine app_flds rfl _ _ rfl wb.heap.size _ F rfl HO2.out _ 3 3 [(⟨#[67, 111, 110, 116, 101, 110, 116, 45, 84, 121, 112, 101]⟩, ⟨#[116, 101, 120, 116, 47, 104, 116, 109, 108, 59, 32, 99, 104, 97, 114, 115, 101, 116, 61, 117, 116, 102, 45, 56]⟩), (⟨#[67, 111, 110, 116, 101, 110, 116, 45, 83, 101, 99, 117, 114, 105, 116, 121, 45, 80, 111, 108, 105, 99, 121]⟩, ⟨#[100, 101, 102, 97, 117, 108, 116, 45, 115, 114, 99, 32, 39, 110, 111, 110, 101, 39, 59, 32, 98, 97, 115, 101, 45, 117, 114, 105, 32, 39, 110, 111, 110, 101, 39, 59, 32, 102, 111, 114, 109, 45, 97, 99, 116, 105, 111, 110, 32, 39, 110, 111, 110, 101, 39, 59, 32, 115, 97, 110, 100, 98, 111, 120]⟩), (s1, s2)] rfl rfl HL2.out ?n2 HZ2.out ?_)
      case n2 => show (_ + 3) * 32 ≤ _; omega
      intro v3 w3 hown hb _
      obtain ⟨F3, hF3⟩ : ∃ F3, F ++ [(⟨#[67, 111, 110, 116, 101, 110, 116, 45, 84, 121, 112, 101]⟩, ⟨#[116, 101, 120, 116, 47, 104, 116, 109, 108, 59, 32, 99, 104, 97, 114, 115, 101, 116, 61, 117, 116, 102, 45, 56]⟩), (⟨#[67, 111, 110, 116, 101, 110, 116, 45, 83, 101, 99, 117, 114, 105, 116, 121, 45, 80, 111, 108, 105, 99, 121]⟩, ⟨#[100, 101, 102, 97, 117, 108, 116, 45, 115, 114, 99, 32, 39, 110, 111, 110, 101, 39, 59, 32, 98, 97, 115, 101, 45, 117, 114, 105, 32, 39, 110, 111, 110, 101, 39, 59, 32, 102, 111, 114, 109, 45, 97, 99, 116, 105, 111, 110, 32, 39, 110, 111, 110, 101, 39, 59, 32, 115, 97, 110, 100, 98, 111, 120]⟩), (s1, s2)] = F3 := ⟨_, rfl⟩
      have HF3 : Hid (F ++ [(⟨#[67, 111, 110, 116, 101, 110, 116, 45, 84, 121, 112, 101]⟩, ⟨#[116, 101, 120, 116, 47, 104, 116, 109, 108, 59, 32, 99, 104, 97, 114, 115, 101, 116, 61, 117, 116, 102, 45, 56]⟩), (⟨#[67, 111, 110, 116, 101, 110, 116, 45, 83, 101, 99, 117, 114, 105, 116, 121, 45, 80, 111, 108, 105, 99, 121]⟩, ⟨#[100, 101, 102, 97, 117, 108, 116, 45, 115, 114, 99, 32, 39, 110, 111, 110, 101, 39, 59, 32, 98, 97, 115, 101, 45, 117, 114, 105, 32, 39, 110, 111, 110, 101, 39, 59, 32, 102, 111, 114, 109, 45, 97, 99, 116, 105, 111, 110, 32, 39, 110, 111, 110, 101, 39, 59, 32, 115, 97, 110, 100, 98, 111, 120]⟩), (s1, s2)] = F3) := Lib.hid hF3
      have hl3 : F3.length ≤ 16777219 := by rw [← hF3, List.length_append]; simp only [List.length_cons, List.length_nil]; omega
      have HO3 : Hid (OwnF w3 wb.heap.size v3 F3) := Lib.hid (by rw [← hF3]; exact hown)
      have HB3 : Hid (Below wb.heap.size wb w3) := Lib.hid ((HB2.out.alloc HB2.out.size _).trans hb.out)
      clear hown hb hF3
      obtain ⟨c0, c1, c2, k0, k1, k2, f0, f1, f2⟩ := H2.out.keep HB3.out
      have hsz : w.heap.size + 1 < w3.heap.size := by have := HB3.out.size; have := HZB.out; omega
      obtain ⟨az, dz, hvz, _⟩ := ownF_src HO3.out
      have HOR : Hid (OwnF w3 wb.heap.size v3 R) := Lib.hid (by rw [HV.out, HF3.out]; exact HO3.out)
      have HBW : Hid (Below w.heap.size w w3) := Lib.hid (HB0.out.trans (HB3.out.mono HB0.out.size))
      obtain ⟨nz, hnz⟩ : ∃ nz, F3.length = nz := ⟨_, rfl⟩
      rw [hnz] at hvz
      clear hnz
      have HG : Hid (w.heap.size + 1 < wb.heap.size) := Lib.hid (by have := HZB.out; omega)
      have HG2 : Hid (w.heap.size ≤ w.heap.size + 1) := Lib.hid (by omega)
      have HWS : Hid (w.heap.size ≤ wb.heap.size) := Lib.hid HB0.out.size
      subst hvz
      go_wp2
      refine bodyPost_ret (v := .agg #[.int .i64 st, .string rs, _]) (by simp [results, Tryz.results22, go_sem, k0, k1, k2]; rfl) rfl ?_
      exact respSays (below_set3 HBW.out HG2.out) (ownF_mono (ownF_set3 HOR.out HG.out) HWS.out)

/-- three boxes, one behind the other -/
structure Tri (w wb : World) (a b c d e x y z : Value) : Prop where
  below : Below w.heap.size w wb
  size : wb.heap.size = w.heap.size + 1 + 1 + 1
  a : wb.cell? ⟨w.heap.size, 0, none⟩ = some a
  b : wb.cell? ⟨w.heap.size, 1, none⟩ = some b
  c : wb.cell? ⟨w.heap.size, 2, none⟩ = some c
  d : wb.cell? ⟨w.heap.size + 1, 0, none⟩ = some d
  e : wb.cell? ⟨w.heap.size + 1, 1, none⟩ = some e
  x : wb.cell? ⟨w.heap.size + 1 + 1, 0, none⟩ = some x
  y : wb.cell? ⟨w.heap.size + 1 + 1, 1, none⟩ = some y
  z : wb.cell? ⟨w.heap.size + 1 + 1, 2, none⟩ = some z
  f : ∀ j, wb.frozen? ⟨w.heap.size + 1 + 1, j, none⟩ = false
theorem tri_new (w : World) (a b c d e x y z : Value) (t s u : TypeId) : Tri w (((w.alloc (.cells #[a, b, c] t)).alloc (.cells #[d, e] s)).alloc (.cells #[x, y, z] u)) a b c d e x y z := by
  obtain ⟨w1, h1⟩ : ∃ w1, w1 = w.alloc (.cells #[a, b, c] t) := ⟨_, rfl⟩
  obtain ⟨w2, h2⟩ : ∃ w2, w2 = w1.alloc (.cells #[d, e] s) := ⟨_, rfl⟩
  obtain ⟨w3, h3⟩ : ∃ w3, w3 = w2.alloc (.cells #[x, y, z] u) := ⟨_, rfl⟩
  rw [← h1, ← h2, ← h3]
  have s1 : w1.heap.size = w.heap.size + 1 := by rw [h1]; simp
  have s2 : w2.heap.size = w.heap.size + 1 + 1 := by rw [h2]; simp [s1]
  have s3 : w3.heap.size = w.heap.size + 1 + 1 + 1 := by rw [h3]; simp [s2]
  have b1 : Below w.heap.size w w1 := by rw [h1]; exact (Below.refl _ _).alloc (Nat.le_refl _) _
  have b2 : Below w1.heap.size w1 w2 := by rw [h2]; exact (Below.refl _ _).alloc (Nat.le_refl _) _
  have b3 : Below w2.heap.size w2 w3 := by rw [h3]; exact (Below.refl _ _).alloc (Nat.le_refl _) _
  have k1 := fun j => (at_alloc w #[a, b, c] t j).1
  have k2 := fun j => (at_alloc w1 #[d, e] s j).1
  have k3 := fun j => at_alloc w2 #[x, y, z] u j
  rw [← h1] at k1
  rw [← h2] at k2
  rw [← h3] at k3
  have b23 : Below w1.heap.size w1 w3 := b2.trans (b3.mono b2.size)
  have m1 := fun j => (b23.cell (p := ⟨w.heap.size, j, none⟩) (by simp; omega)).trans (k1 j)
  have m2 := fun j => (b3.cell (p := ⟨w1.heap.size, j, none⟩) (by simp; omega)).trans (k2 j)
  rw [s1] at m2
  rw [s2] at k3
  exact ⟨b1.trans (b23.mono b1.size), s3, m1 0, m1 1, m1 2, m2 0, m2 1, (k3 0).1, (k3 1).1, (k3 2).1, fun j => (k3 j).2⟩
theorem Tri.keep {w wb w' : World} {a b c d e x y z : Value} (h : Tri w wb a b c d e x y z) (hb : Below wb.heap.size wb w') :
    w'.cell? ⟨w.heap.size, 0, none⟩ = some a ∧ w'.cell? ⟨w.heap.size, 1, none⟩ = some b ∧ w'.cell? ⟨w.heap.size, 2, none⟩ = some c ∧ w'.cell? ⟨w.heap.size + 1, 0, none⟩ = some d ∧ w'.cell? ⟨w.heap.size + 1, 1, none⟩ = some e ∧
    w'.cell? ⟨w.heap.size + 1 + 1, 0, none⟩ = some x ∧ w'.cell? ⟨w.heap.size + 1 + 1, 1, none⟩ = some y ∧ w'.cell? ⟨w.heap.size + 1 + 1, 2, none⟩ = some z ∧
    w'.frozen? ⟨w.heap.size + 1 + 1, 0, none⟩ = false ∧ w'.frozen? ⟨w.heap.size + 1 + 1, 1, none⟩ = false ∧ w'.frozen? ⟨w.heap.size + 1 + 1, 2, none⟩ = false := by
  have hs := h.size
  have k0 : ∀ j, w'.cell? ⟨w.heap.size, j, none⟩ = wb.cell? ⟨w.heap.size, j, none⟩ := fun j => hb.cell (p := ⟨w.heap.size, j, none⟩) (by simp; omega)
  have k3 : ∀ j, w'.cell? ⟨w.heap.size + 1, j, none⟩ = wb.cell? ⟨w.heap.size + 1, j, none⟩ := fun j => hb.cell (p := ⟨w.heap.size + 1, j, none⟩) (by simp; omega)
  have k1 : ∀ j, w'.cell? ⟨w.heap.size + 1 + 1, j, none⟩ = wb.cell? ⟨w.heap.size + 1 + 1, j, none⟩ := fun j => hb.cell (p := ⟨w.heap.size + 1 + 1, j, none⟩) (by simp; omega)
  have k2 : ∀ j, w'.frozen? ⟨w.heap.size + 1 + 1, j, none⟩ = wb.frozen? ⟨w.heap.size + 1 + 1, j, none⟩ := fun j => hb.frozen (p := ⟨w.heap.size + 1 + 1, j, none⟩) (by simp; omega)
  exact ⟨(k0 0).trans h.a, (k0 1).trans h.b, (k0 2).trans h.c, (k3 0).trans h.d, (k3 1).trans h.e, (k1 0).trans h.x, (k1 1).trans h.y, (k1 2).trans h.z, (k2 0).trans (h.f 0), (k2 1).trans (h.f 1), (k2 2).trans (h.f 2)⟩

def fTE : ByteArray × ByteArray := (⟨#[84, 114, 97, 110, 115, 102, 101, 114, 45, 69, 110, 99, 111, 100, 105, 110, 103]⟩, ⟨#[99, 104, 117, 110, 107, 101, 100]⟩)
def midF (k L : Int) : AL := if k = 1 then (if 0 ≤ L then [fLen L] else []) else if k = 2 ∨ k = 3 then [fTE] else []
def plainF (l : AL) (k L : Int) (last : Bool) : AL := woF l (hopF l ++ [kCTO]) ++ [fSniff] ++ midF k L ++ (if last = true then [fClos] else [])
set_option maxHeartbeats 32000000 in
set_option maxRecDepth 100000 in
theorem plain_any (l : AL) (st : Int) (rs : ByteArray) (k L : Int) (last : Bool) (a : Option Addr) (n c : Nat) (w : World) (hn : l.length = n) (hs : SrcA w a c l) (hz : asz l ≤ 16777216) (h1 : L ≤ 9223372036854775807) (ht : TabP w) :
    Calls Tryz.prog 23 #[.agg #[.int .i64 st, .string rs, .slice a n c], .agg #[.int .i64 k, .int .i64 L], .bool last] w (RespSays st rs (plainF l k L last) w) := by
  have hw := fun (b : Option Addr) d wx (hb : Below w.heap.size w wx) (hs2 : SrcS wx b d [kCTO]) => hwo_any l [kCTO] a b n c 1 d wx hn rfl (hs.below (Nat.le_refl _) hb) hs2 hz (by decide)
  have hl1 := woF_len l (hopF l ++ [kCTO])
  have hl2 := asz_len l
  obtain ⟨R, hR⟩ : ∃ R, R = plainF l k L last := ⟨_, rfl⟩
  rw [← hR]
  unfold plainF at hR
  generalize woF l (hopF l ++ [kCTO]) = F at hw hl1 hR
  have hlF : F.length ≤ 16777216 := by omega
  have HW := Lib.hid hw
  have HT := Lib.hid ht
  obtain ⟨wb, hwb⟩ : ∃ wb, wb = ((w.alloc (.cells #[.int .i64 st, .string rs, .slice a n c] 26)).alloc (.cells #[.int .i64 k, .int .i64 L] 40)).alloc (.cells #[.int .i64 0, .string ⟨#[]⟩, .slice none 0 0] 26) := ⟨_, rfl⟩
  have h2 : Tri w wb (.int .i64 st) (.string rs) (.slice a n c) (.int .i64 k) (.int .i64 L) (.int .i64 0) (.string ⟨#[]⟩) (.slice none 0 0) := by rw [hwb]; exact tri_new ..
  have H2 := Lib.hid h2
  have HB0 := Lib.hid h2.below
  have HWB := Lib.hid hwb
  have HBA : Hid (Below w.heap.size w (wb.alloc (.cells #[.string ⟨#[88, 45, 67, 111, 110, 116, 101, 110, 116, 45, 84, 121, 112, 101, 45, 79, 112, 116, 105, 111, 110, 115]⟩] 9))) := Lib.hid (h2.below.alloc h2.below.size _)
  have HNA : Hid (SrcS (wb.alloc (.cells #[.string ⟨#[88, 45, 67, 111, 110, 116, 101, 110, 116, 45, 84, 121, 112, 101, 45, 79, 112, 116, 105, 111, 110, 115]⟩] 9)) (some ⟨w.heap.size + 1 + 1 + 1, 0, none⟩) 1 [kCTO]) := Lib.hid (by have h := lit_strl [kCTO] #[.string ⟨#[88, 45, 67, 111, 110, 116, 101, 110, 116, 45, 84, 121, 112, 101, 45, 79, 112, 116, 105, 111, 110, 115]⟩] rfl wb; rw [h2.size] at h; exact h)
  obtain ⟨c0, c1, c2, d0, d1, _⟩ := h2.keep (Below.refl _ _)
  have HZB := Lib.hid h2.size
  have hsn := fun wx => sniff_any wx
  have hcl := fun wx => clos_any wx
  generalize fSniff = s0 at hsn hR
  generalize fClos = q0 at hcl hR
  obtain ⟨s1, s2⟩ := s0
  obtain ⟨q1, q2⟩ := q0
  have HSN : Hid (∀ wx, Calls Tryz.prog 64 #[] wx fun e w' => e = .returned (.agg #[.string s1, .string s2]) ∧ Below wx.heap.size wx w') := Lib.hid hsn
  have HCL : Hid (∀ wx, Calls Tryz.prog 65 #[] wx fun e w' => e = .returned (.agg #[.string q1, .string q2]) ∧ Below wx.heap.size wx w') := Lib.hid hcl
  clear hw hs hn hz hl1 hl2 ht hwb h2 hsn hcl
  unfold midF fTE at hR
  by_cases hk1 : k = 1
  · subst hk1
    rw [if_pos rfl] at hR
    by_cases h0 : 0 ≤ L
    · have hD := fun wx (hb : Below w.heap.size w wx) => sized_any L h0 h1 wx (HT.out.below hb)
      rw [if_pos h0] at hR
      generalize fLen L = p at hD hR
      obtain ⟨p1, p2⟩ := p
      have HSZ : Hid (∀ wx, Below w.heap.size w wx → Calls Tryz.prog 57 #[.int .i64 L] wx fun e w' => e = .returned (.agg #[.string p1, .string p2]) ∧ Below wx.heap.size wx w') := Lib.hid hD
      clear hD h1
      cases last with
      | true =>
        rw [if_pos rfl] at hR
        have HV := Lib.hid hR
        clear hR
        go_enter Tryz.func23, Tryz.ntmps23
        go_wp2_with fail
        rw [← HWB.out]
        refine (HW.out _ _ _ HBA.out HNA.out).mono ?_; rintro e w1 ⟨hb, v, rfl, hown⟩
        have HB1 : Hid (Below wb.heap.size wb w1) := Lib.hid (((Below.refl _ _).alloc (Nat.le_refl _) _).trans (hb.mono (by simp)))
        have HO1 : Hid (OwnF w1 wb.heap.size v F) := Lib.hid (ownF_mono hown (by simp))
        clear hb hown
        go_wp2_with fail
        refine (HSN.out _).mono ?_; rintro e w2 ⟨rfl, hb⟩
        have HB2 : Hid (Below wb.heap.size wb w2) := Lib.hid (HB1.out.trans (hb.mono HB1.out.size))
        have HO2 : Hid (OwnF (w2.alloc (.cells #[.string s1, .string s2] 37)) wb.heap.size v F) := Lib.hid (ownF_alloc (ownF_below HO1.out (Nat.le_refl _) hb) _)
        have HL2 := Lib.hid (lit_fld s1 s2 w2)
        have HZ2 : Hid (wb.heap.size ≤ (w2.alloc (.cells #[.string s1, .string s2] 37)).heap.size) := Lib.hid (by have := HB2.out.size; simp; omega)
        clear hb
        go_wp2_with (at_builtin; refine app_flds rfl _ _ rfl wb.heap.size _ F rfl HO2.out _ 1 1 [(s1, s2)] rfl rfl HL2.out ?n2 HZ2.out ?_)
        case n2 => show (_ + 1) * 32 ≤ _; omega
        intro v3 w3 hown hb _
        obtain ⟨F3, hF3⟩ : ∃ F3, F ++ [(s1, s2)] = F3 := ⟨_, rfl⟩
        have HF3 : Hid (F ++ [(s1, s2)] = F3) := Lib.hid hF3
        have hl3 : F3.length ≤ 16777219 := by rw [← hF3, List.length_append]; simp only [List.length_cons, List.length_nil]; omega
        have HO3 : Hid (OwnF w3 wb.heap.size v3 F3) := Lib.hid (by rw [← hF3]; exact hown)
        have HB3 : Hid (Below wb.heap.size wb w3) := Lib.hid ((HB2.out.alloc HB2.out.size _).trans hb.out)
        clear hown hb hF3
        obtain ⟨c0, c1, c2, d0, d1, _⟩ := H2.out.keep HB3.out
        have hsz : w.heap.size + 1 + 1 < w3.heap.size := by have := HB3.out.size; have := HZB.out; omega
        go_wp2_with fail
        refine (HSZ.out _ (HB0.out.trans (HB3.out.mono HB0.out.size))).mono ?_; rintro e w4 ⟨rfl, hb⟩
        have HB4 : Hid (Below wb.heap.size wb w4) := Lib.hid (HB3.out.trans (hb.mono HB3.out.size))
        have HO4 : Hid (OwnF (w4.alloc (.cells #[.string p1, .string p2] 37)) wb.heap.size v3 F3) := Lib.hid (ownF_alloc (ownF_below HO3.out (Nat.le_refl _) hb) _)
        have HL4 := Lib.hid (lit_fld p1 p2 w4)
        have HZ4 : Hid (wb.heap.size ≤ (w4.alloc (.cells #[.string p1, .string p2] 37)).heap.size) := Lib.hid (by have := HB4.out.size; simp; omega)
        clear hb
        go_wp2_with (at_builtin; refine app_flds rfl _ _ rfl wb.heap.size _ F3 rfl HO4.out _ 1 1 [(p1, p2)] rfl rfl HL4.out ?n2 HZ4.out ?_)
        case n2 => show (_ + 1) * 32 ≤ _; omega
        intro v5 w5 hown hb _
        obtain ⟨F5, hF5⟩ : ∃ F5, F3 ++ [(p1, p2)] = F5 := ⟨_, rfl⟩
        have HF5 : Hid (F3 ++ [(p1, p2)] = F5) := Lib.hid hF5
        have hl5 : F5.length ≤ 16777221 := by rw [← hF5, List.length_append]; simp only [List.length_cons, List.length_nil]; omega
        have HO5 : Hid (OwnF w5 wb.heap.size v5 F5) := Lib.hid (by rw [← hF5]; exact hown)
        have HB5 : Hid (Below wb.heap.size wb w5) := Lib.hid ((HB4.out.alloc HB4.out.size _).trans hb.out)
        clear hown hb hF5
        go_wp2_with fail
        refine (HCL.out _).mono ?_; rintro e w6 ⟨rfl, hb⟩
        have HB6 : Hid (Below wb.heap.size wb w6) := Lib.hid (HB5.out.trans (hb.mono HB5.out.size))
        have HO6 : Hid (OwnF (w6.alloc (.cells #[.string q1, .string q2] 37)) wb.heap.size v5 F5) := Lib.hid (ownF_alloc (ownF_below HO5.out (Nat.le_refl _) hb) _)
        have HL6 := Lib.hid (lit_fld q1 q2 w6)
        have HZ6 : Hid (wb.heap.size ≤ (w6.alloc (.cells #[.string q1, .string q2] 37)).heap.size) := Lib.hid (by have := HB6.out.size; simp; omega)
        clear hb
        go_wp2_with (at_builtin; refine app_flds rfl _ _ rfl wb.heap.size _ F5 rfl HO6.out _ 1 1 [(q1, q2)] rfl rfl HL6.out ?n2 HZ6.out ?_)
        case n2 => show (_ + 1) * 32 ≤ _; omega
        intro v7 w7 hown hb _
        obtain ⟨F7, hF7⟩ : ∃ F7, F5 ++ [(q1, q2)] = F7 := ⟨_, rfl⟩
        have HF7 : Hid (F5 ++ [(q1, q2)] = F7) := Lib.hid hF7
        have hl7 : F7.length ≤ 16777223 := by rw [← hF7, List.length_append]; simp only [List.length_cons, List.length_nil]; omega
        have HO7 : Hid (OwnF w7 wb.heap.size v7 F7) := Lib.hid (by rw [← hF7]; exact hown)
        have HB7 : Hid (Below wb.heap.size wb w7) := Lib.hid ((HB6.out.alloc HB6.out.size _).trans hb.out)
        clear hown hb hF7
        obtain ⟨c0, c1, c2, d0, d1, k0, k1, k2, f0, f1, f2⟩ := H2.out.keep HB7.out
        have hsz : w.heap.size + 1 + 1 < w7.heap.size := by have := HB7.out.size; have := HZB.out; omega
        obtain ⟨az, dz, hvz, _⟩ := ownF_src HO7.out
        have HOR : Hid (OwnF w7 wb.heap.size v7 R) := Lib.hid (by rw [HV.out, HF3.out, HF5.out, HF7.out]; exact HO7.out)
        have HBW : Hid (Below w.heap.size w w7) := Lib.hid (HB0.out.trans (HB7.out.mono HB0.out.size))
        obtain ⟨nz, hnz⟩ : ∃ nz, F7.length = nz := ⟨_, rfl⟩
        rw [hnz] at hvz
        clear hnz
        have HG : Hid (w.heap.size + 1 + 1 < wb.heap.size) := Lib.hid (by have := HZB.out; omega)
        have HG2 : Hid (w.heap.size ≤ w.heap.size + 1 + 1) := Lib.hid (by omega)
        have HWS : Hid (w.heap.size ≤ wb.heap.size) := Lib.hid HB0.out.size
        subst hvz
        go_wp2
        refine bodyPost_ret (v := .agg #[.int .i64 st, .string rs, _]) (by simp [results, Tryz.results23, go_sem, k0, k1, k2]; rfl) rfl ?_
        exact respSays (below_set3 HBW.out HG2.out) (ownF_mono (ownF_set3 HOR.out HG.out) HWS.out)
      | false =>
        rw [if_neg (by decide), List.append_nil] at hR
        have HV := Lib.hid hR
        clear hR
        go_enter Tryz.func23, Tryz.ntmps23
        go_wp2_with fail
        rw [← HWB.out]
        refine (HW.out _ _ _ HBA.out HNA.out).mono ?_; rintro e w1 ⟨hb, v, rfl, hown⟩
        have HB1 : Hid (Below wb.heap.size wb w1) := Lib.hid (((Below.refl _ _).alloc (Nat.le_refl _) _).trans (hb.mono (by simp)))
        have HO1 : Hid (OwnF w1 wb.heap.size v F) := Lib.hid (ownF_mono hown (by simp))
        clear hb hown
        go_wp2_with fail
        refine (HSN.out _).mono ?_; rintro e w2 ⟨rfl, hb⟩
        have HB2 : Hid (Below wb.heap.size wb w2) := Lib.hid (HB1.out.trans (hb.mono HB1.out.size))
        have HO2 : Hid (OwnF (w2.alloc (.cells #[.string s1, .string s2] 37)) wb.heap.size v F) := Lib.hid (ownF_alloc (ownF_below HO1.out (Nat.le_refl _) hb) _)
        have HL2 := Lib.hid (lit_fld s1 s2 w2)
        have HZ2 : Hid (wb.heap.size ≤ (w2.alloc (.cells #[.string s1, .string s2] 37)).heap.size) := Lib.hid (by have := HB2.out.size; simp; omega)
        clear hb
        go_wp2_with (at_builtin; refine app_flds rfl _ _ rfl wb.heap.size _ F rfl HO2.out _ 1 1 [(s1, s2)] rfl rfl HL2.out ?n2 HZ2.out ?_)
        case n2 => show (_ + 1) * 32 ≤ _; omega
        intro v3 w3 hown hb _
        obtain ⟨F3, hF3⟩ : ∃ F3, F ++ [(s1, s2)] = F3 := ⟨_, rfl⟩
        have HF3 : Hid (F ++ [(s1, s2)] = F3) := Lib.hid hF3
        have hl3 : F3.length ≤ 16777219 := by rw [← hF3, List.length_append]; simp only [List.length_cons, List.length_nil]; omega
        have HO3 : Hid (OwnF w3 wb.heap.size v3 F3) := Lib.hid (by rw [← hF3]; exact hown)
        have HB3 : Hid (Below wb.heap.size wb w3) := Lib.hid ((HB2.out.alloc HB2.out.size _).trans hb.out)
        clear hown hb hF3
        obtain ⟨c0, c1, c2, d0, d1, _⟩ := H2.out.keep HB3.out
        have hsz : w.heap.size + 1 + 1 < w3.heap.size := by have := HB3.out.size; have := HZB.out; omega
        go_wp2_with fail
        refine (HSZ.out _ (HB0.out.trans (HB3.out.mono HB0.out.size))).mono ?_; rintro e w4 ⟨rfl, hb⟩
        have HB4 : Hid (Below wb.heap.size wb w4) := Lib.hid (HB3.out.trans (hb.mono HB3.out.size))
        have HO4 : Hid (OwnF (w4.alloc (.cells #[.string p1, .string p2] 37)) wb.heap.size v3 F3) := Lib.hid (ownF_alloc (ownF_below HO3.out (Nat.le_refl _) hb) _)
        have HL4 := Lib.hid (lit_fld p1 p2 w4)
        have HZ4 : Hid (wb.heap.size ≤ (w4.alloc (.cells #[.string p1, .string p2] 37)).heap.size) := Lib.hid (by have := HB4.out.size; simp; omega)
        clear hb
        go_wp2_with (at_builtin; refine app_flds rfl _ _ rfl wb.heap.size _ F3 rfl HO4.out _ 1 1 [(p1, p2)] rfl rfl HL4.out ?n2 HZ4.out ?_)
        case n2 => show (_ + 1) * 32 ≤ _; omega
        intro v5 w5 hown hb _
        obtain ⟨F5, hF5⟩ : ∃ F5, F3 ++ [(p1, p2)] = F5 := ⟨_, rfl⟩
        have HF5 : Hid (F3 ++ [(p1, p2)] = F5) := Lib.hid hF5
        have hl5 : F5.length ≤ 16777221 := by rw [← hF5, List.length_append]; simp only [List.length_cons, List.length_nil]; omega
        have HO5 : Hid (OwnF w5 wb.heap.size v5 F5) := Lib.hid (by rw [← hF5]; exact hown)
        have HB5 : Hid (Below wb.heap.size wb w5) := Lib.hid ((HB4.out.alloc HB4.out.size _).trans hb.out)
        clear hown hb hF5
        obtain ⟨c0, c1, c2, d0, d1, k0, k1, k2, f0, f1, f2⟩ := H2.out.keep HB5.out
        have hsz : w.heap.size + 1 + 1 < w5.heap.size := by have := HB5.out.size; have := HZB.out; omega
        obtain ⟨az, dz, hvz, _⟩ := ownF_src HO5.out
        have HOR : Hid (OwnF w5 wb.heap.size v5 R) := Lib.hid (by rw [HV.out, HF3.out, HF5.out]; exact HO5.out)
        have HBW : Hid (Below w.heap.size w w5) := Lib.hid (HB0.out.trans (HB5.out.mono HB0.out.size))
        obtain ⟨nz, hnz⟩ : ∃ nz, F5.length = nz := ⟨_, rfl⟩
        rw [hnz] at hvz
        clear hnz
        have HG : Hid (w.heap.size + 1 + 1 < wb.heap.size) := Lib.hid (by have := HZB.out; omega)
        have HG2 : Hid (w.heap.size ≤ w.heap.size + 1 + 1) := Lib.hid (by omega)
        have HWS : Hid (w.heap.size ≤ wb.heap.size) := Lib.hid HB0.out.size
        subst hvz
        go_wp2
        refine bodyPost_ret (v := .agg #[.int .i64 st, .string rs, _]) (by simp [results, Tryz.results23, go_sem, k0, k1, k2]; rfl) rfl ?_
        exact respSays (below_set3 HBW.out HG2.out) (ownF_mono (ownF_set3 HOR.out HG.out) HWS.out)
    · rw [if_neg h0, List.append_nil] at hR
      clear h1
      cases last with
      | true =>
        rw [if_pos rfl] at hR
        have HV := Lib.hid hR
        clear hR
        go_enter Tryz.func23, Tryz.ntmps23
        go_wp2_with fail
        rw [← HWB.out]
        refine (HW.out _ _ _ HBA.out HNA.out).mono ?_; rintro e w1 ⟨hb, v, rfl, hown⟩
        have HB1 : Hid (Below wb.heap.size wb w1) := Lib.hid (((Below.refl _ _).alloc (Nat.le_refl _) _).trans (hb.mono (by simp)))
        have HO1 : Hid (OwnF w1 wb.heap.size v F) := Lib.hid (ownF_mono hown (by simp))
        clear hb hown
        go_wp2_with fail
        refine (HSN.out _).mono ?_; rintro e w2 ⟨rfl, hb⟩
        have HB2 : Hid (Below wb.heap.size wb w2) := Lib.hid (HB1.out.trans (hb.mono HB1.out.size))
        have HO2 : Hid (OwnF (w2.alloc (.cells #[.string s1, .string s2] 37)) wb.heap.size v F) := Lib.hid (ownF_alloc (ownF_below HO1.out (Nat.le_refl _) hb) _)
        have HL2 := Lib.hid (lit_fld s1 s2 w2)
        have HZ2 : Hid (wb.heap.size ≤ (w2.alloc (.cells #[.string s1, .string s2] 37)).heap.size) := Lib.hid (by have := HB2.out.size; simp; omega)
        clear hb
        go_wp2_with (at_builtin; refine app_flds rfl _ _ rfl wb.heap.size _ F rfl HO2.out _ 1 1 [(s1, s2)] rfl rfl HL2.out ?n2 HZ2.out ?_)
        case n2 => show (_ + 1) * 32 ≤ _; omega
        intro v3 w3 hown hb _
        obtain ⟨F3, hF3⟩ : ∃ F3, F ++ [(s1, s2)] = F3 := ⟨_, rfl⟩
        have HF3 : Hid (F ++ [(s1, s2)] = F3) := Lib.hid hF3
        have hl3 : F3.length ≤ 16777219 := by rw [← hF3, List.length_append]; simp only [List.length_cons, List.length_nil]; omega
        have HO3 : Hid (OwnF w3 wb.heap.size v3 F3) := Lib.hid (by rw [← hF3]; exact hown)
        have HB3 : Hid (Below wb.heap.size wb w3) := Lib.hid ((HB2.out.alloc HB2.out.size _).trans hb.out)
        clear hown hb hF3
        obtain ⟨c0, c1, c2, d0, d1, _⟩ := H2.out.keep HB3.out
        have hsz : w.heap.size + 1 + 1 < w3.heap.size := by have := HB3.out.size; have := HZB.out; omega
        go_wp2_with fail
        refine (HCL.out _).mono ?_; rintro e w4 ⟨rfl, hb⟩
        have HB4 : Hid (Below wb.heap.size wb w4) := Lib.hid (HB3.out.trans (hb.mono HB3.out.size))
        have HO4 : Hid (OwnF (w4.alloc (.cells #[.string q1, .string q2] 37)) wb.heap.size v3 F3) := Lib.hid (ownF_alloc (ownF_below HO3.out (Nat.le_refl _) hb) _)
        have HL4 := Lib.hid (lit_fld q1 q2 w4)
        have HZ4 : Hid (wb.heap.size ≤ (w4.alloc (.cells #[.string q1, .string q2] 37)).heap.size) := Lib.hid (by have := HB4.out.size; simp; omega)
        clear hb
        go_wp2_with (at_builtin; refine app_flds rfl _ _ rfl wb.heap.size _ F3 rfl HO4.out _ 1 1 [(q1, q2)] rfl rfl HL4.out ?n2 HZ4.out ?_)
        case n2 => show (_ + 1) * 32 ≤ _; omega
        intro v5 w5 hown hb _
        obtain ⟨F5, hF5⟩ : ∃ F5, F3 ++ [(q1, q2)] = F5 := ⟨_, rfl⟩
        have HF5 : Hid (F3 ++ [(q1, q2)] = F5) := Lib.hid hF5
        have hl5 : F5.length ≤ 16777221 := by rw [← hF5, List.length_append]; simp only [List.length_cons, List.length_nil]; omega
        have HO5 : Hid (OwnF w5 wb.heap.size v5 F5) := Lib.hid (by rw [← hF5]; exact hown)
        have HB5 : Hid (Below wb.heap.size wb w5) := Lib.hid ((HB4.out.alloc HB4.out.size _).trans hb.out)
        clear hown hb hF5
        obtain ⟨c0, c1, c2, d0, d1, k0, k1, k2, f0, f1, f2⟩ := H2.out.keep HB5.out
        have hsz : w.heap.size + 1 + 1 < w5.heap.size := by have := HB5.out.size; have := HZB.out; omega
        obtain ⟨az, dz, hvz, _⟩ := ownF_src HO5.out
        have HOR : Hid (OwnF w5 wb.heap.size v5 R) := Lib.hid (by rw [HV.out, HF3.out, HF5.out]; exact HO5.out)
        have HBW : Hid (Below w.heap.size w w5) := Lib.hid (HB0.out.trans (HB5.out.mono HB0.out.size))
        obtain ⟨nz, hnz⟩ : ∃ nz, F5.length = nz := ⟨_, rfl⟩
        rw [hnz] at hvz
        clear hnz
        have HG : Hid (w.heap.size + 1 + 1 < wb.heap.size) := Lib.hid (by have := HZB.out; omega)
        have HG2 : Hid (w.heap.size ≤ w.heap.size + 1 + 1) := Lib.hid (by omega)
        have HWS : Hid (w.heap.size ≤ wb.heap.size) := Lib.hid HB0.out.size
        subst hvz
        go_wp2
        refine bodyPost_ret (v := .agg #[.int .i64 st, .string rs, _]) (by simp [results, Tryz.results23, go_sem, k0, k1, k2]; rfl) rfl ?_
        exact respSays (below_set3 HBW.out HG2.out) (ownF_mono (ownF_set3 HOR.out HG.out) HWS.out)
      | false =>
        rw [if_neg (by decide), List.append_nil] at hR
        have HV := Lib.hid hR
        clear hR
        go_enter Tryz.func23, Tryz.ntmps23
        go_wp2_with fail
        rw [← HWB.out]
        refine (HW.out _ _ _ HBA.out HNA.out).mono ?_; rintro e w1 ⟨hb, v, rfl, hown⟩
        have HB1 : Hid (Below wb.heap.size wb w1) := Lib.hid (((Below.refl _ _).alloc (Nat.le_refl _) _).trans (hb.mono (by simp)))
        have HO1 : Hid (OwnF w1 wb.heap.size v F) := Lib.hid (ownF_mono hown (by simp))
        clear hb hown
        go_wp2_with fail
        refine (HSN.out _).mono ?_; rintro e w2 ⟨rfl, hb⟩
        have HB2 : Hid (Below wb.heap.size wb w2) := Lib.hid (HB1.out.trans (hb.mono HB1.out.size))
        have HO2 : Hid (OwnF (w2.alloc (.cells #[.string s1, .string s2] 37)) wb.heap.size v F) := Lib.hid (ownF_alloc (ownF_below HO1.out (Nat.le_refl _) hb) _)
        have HL2 := Lib.hid (lit_fld s1 s2 w2)
        have HZ2 : Hid (wb.heap.size ≤ (w2.alloc (.cells #[.string s1, .string s2] 37)).heap.size) := Lib.hid (by have := HB2.out.size; simp; omega)
        clear hb
        go_wp2_with (at_builtin; refine app_flds rfl _ _ rfl wb.heap.size _ F rfl HO2.out _ 1 1 [(s1, s2)] rfl rfl HL2.out ?n2 HZ2.out ?_)
        case n2 => show (_ + 1) * 32 ≤ _; omega
        intro v3 w3 hown hb _
        obtain ⟨F3, hF3⟩ : ∃ F3, F ++ [(s1, s2)] = F3 := ⟨_, rfl⟩
        have HF3 : Hid (F ++ [(s1, s2)] = F3) := Lib.hid hF3
        have hl3 : F3.length ≤ 16777219 := by rw [← hF3, List.length_append]; simp only [List.length_cons, List.length_nil]; omega
        have HO3 : Hid (OwnF w3 wb.heap.size v3 F3) := Lib.hid (by rw [← hF3]; exact hown)
        have HB3 : Hid (Below wb.heap.size wb w3) := Lib.hid ((HB2.out.alloc HB2.out.size _).trans hb.out)
        clear hown hb hF3
        obtain ⟨c0, c1, c2, d0, d1, _⟩ := H2.out.keep HB3.out
        have hsz : w.heap.size + 1 + 1 < w3.heap.size := by have := HB3.out.size; have := HZB.out; omega
        obtain ⟨c0, c1, c2, d0, d1, k0, k1, k2, f0, f1, f2⟩ := H2.out.keep HB3.out
        have hsz : w.heap.size + 1 + 1 < w3.heap.size := by have := HB3.out.size; have := HZB.out; omega
        obtain ⟨az, dz, hvz, _⟩ := ownF_src HO3.out
        have HOR : Hid (OwnF w3 wb.heap.size v3 R) := Lib.hid (by rw [HV.out, HF3.out]; exact HO3.out)
        have HBW : Hid (Below w.heap.size w w3) := Lib.hid (HB0.out.trans (HB3.out.mono HB0.out.size))
        obtain ⟨nz, hnz⟩ : ∃ nz, F3.length = nz := ⟨_, rfl⟩
        rw [hnz] at hvz
        clear hnz
        have HG : Hid (w.heap.size + 1 + 1 < wb.heap.size) := Lib.hid (by have := HZB.out; omega)
        have HG2 : Hid (w.heap.size ≤ w.heap.size + 1 + 1) := Lib.hid (by omega)
        have HWS : Hid (w.heap.size ≤ wb.heap.size) := Lib.hid HB0.out.size
        subst hvz
        go_wp2
        refine bodyPost_ret (v := .agg #[.int .i64 st, .string rs, _]) (by simp [results, Tryz.results23, go_sem, k0, k1, k2]; rfl) rfl ?_
        exact respSays (below_set3 HBW.out HG2.out) (ownF_mono (ownF_set3 HOR.out HG.out) HWS.out)
  · rw [if_neg hk1] at hR
    clear h1
    by_cases hk2 : k = 2
    · subst hk2
      rw [if_pos (.inl rfl)] at hR
      clear hk1
      cases last with
      | true =>
        rw [if_pos rfl] at hR
        have HV := Lib.hid hR
        clear hR
        go_enter Tryz.func23, Tryz.ntmps23
        go_wp2_with fail
        rw [← HWB.out]
        refine (HW.out _ _ _ HBA.out HNA.out).mono ?_; rintro e w1 ⟨hb, v, rfl, hown⟩
        have HB1 : Hid (Below wb.heap.size wb w1) := Lib.hid (((Below.refl _ _).alloc (Nat.le_refl _) _).trans (hb.mono (by simp)))
        have HO1 : Hid (OwnF w1 wb.heap.size v F) := Lib.hid (ownF_mono hown (by simp))
        clear hb hown
        go_wp2_with fail
        refine (HSN.out _).mono ?_; rintro e w2 ⟨rfl, hb⟩
        have HB2 : Hid (Below wb.heap.size wb w2) := Lib.hid (HB1.out.trans (hb.mono HB1.out.size))
        have HO2 : Hid (OwnF (w2.alloc (.cells #[.string s1, .string s2] 37)) wb.heap.size v F) := Lib.hid (ownF_alloc (ownF_below HO1.out (Nat.le_refl _) hb) _)
        have HL2 := Lib.hid (lit_fld s1 s2 w2)
        have HZ2 : Hid (wb.heap.size ≤ (w2.alloc (.cells #[.string s1, .string s2] 37)).heap.size) := Lib.hid (by have := HB2.out.size; simp; omega)
        clear hb
        go_wp2_with (at_builtin; refine app_flds rfl _ _ rfl wb.heap.size _ F rfl HO2.out _ 1 1 [(s1, s2)] rfl rfl HL2.out ?n2 HZ2.out ?_)
        case n2 => show (_ + 1) * 32 ≤ _; omega
        intro v3 w3 hown hb _
        obtain ⟨F3, hF3⟩ : ∃ F3, F ++ [(s1, s2)] = F3 := ⟨_, rfl⟩
        have HF3 : Hid (F ++ [(s1, s2)] = F3) := Lib.hid hF3
        have hl3 : F3.length ≤ 16777219 := by rw [← hF3, List.length_append]; simp only [List.length_cons, List.length_nil]; omega
        have HO3 : Hid (OwnF w3 wb.heap.size v3 F3) := Lib.hid (by rw [← hF3]; exact hown)
        have HB3 : Hid (Below wb.heap.size wb w3) := Lib.hid ((HB2.out.alloc HB2.out.size _).trans hb.out)
        clear hown hb hF3
        obtain ⟨c0, c1, c2, d0, d1, _⟩ := H2.out.keep HB3.out
        have hsz : w.heap.size + 1 + 1 < w3.heap.size := by have := HB3.out.size; have := HZB.out; omega
        have HO4 : Hid (OwnF (w3.alloc (.cells #[.string ⟨#[84, 114, 97, 110, 115, 102, 101, 114, 45, 69, 110, 99, 111, 100, 105, 110, 103]⟩, .string ⟨#[99, 104, 117, 110, 107, 101, 100]⟩] 37)) wb.heap.size v3 F3) := Lib.hid (ownF_alloc HO3.out _)
        have HL4 := Lib.hid (lit_fld ⟨#[84, 114, 97, 110, 115, 102, 101, 114, 45, 69, 110, 99, 111, 100, 105, 110, 103]⟩ ⟨#[99, 104, 117, 110, 107, 101, 100]⟩ w3)
        have HZ4 : Hid (wb.heap.size ≤ (w3.alloc (.cells #[.string ⟨#[84, 114, 97, 110, 115, 102, 101, 114, 45, 69, 110, 99, 111, 100, 105, 110, 103]⟩, .string ⟨#[99, 104, 117, 110, 107, 101, 100]⟩] 37)).heap.size) := Lib.hid (by have := HB3.out.size; simp; omega)
        go_wp2_with (at_builtin; refine app_flds rfl _ _ rfl wb.heap.size _ F3 rfl HO4.out _ 1 1 [(⟨#[84, 114, 97, 110, 115, 102, 101, 114, 45, 69, 110, 99, 111, 100, 105, 110, 103]⟩, ⟨#[99, 104, 117, 110, 107, 101, 100]⟩)] rfl rfl HL4.out ?n2 HZ4.out ?_)
        case n2 => show (_ + 1) * 32 ≤ _; omega
        intro v5 w5 hown hb _
        obtain ⟨F5, hF5⟩ : ∃ F5, F3 ++ [(⟨#[84, 114, 97, 110, 115, 102, 101, 114, 45, 69, 110, 99, 111, 100, 105, 110, 103]⟩, ⟨#[99, 104, 117, 110, 107, 101, 100]⟩)] = F5 := ⟨_, rfl⟩
        have HF5 : Hid (F3 ++ [(⟨#[84, 114, 97, 110, 115, 102, 101, 114, 45, 69, 110, 99, 111, 100, 105, 110, 103]⟩, ⟨#[99, 104, 117, 110, 107, 101, 100]⟩)] = F5) := Lib.hid hF5
        have hl5 : F5.length ≤ 16777221 := by rw [← hF5, List.length_append]; simp only [List.length_cons, List.length_nil]; omega
        have HO5 : Hid (OwnF w5 wb.heap.size v5 F5) := Lib.hid (by rw [← hF5]; exact hown)
        have HB5 : Hid (Below wb.heap.size wb w5) := Lib.hid ((HB3.out.alloc HB3.out.size _).trans hb.out)
        clear hown hb hF5
        go_wp2_with fail
        refine (HCL.out _).mono ?_; rintro e w6 ⟨rfl, hb⟩
        have HB6 : Hid (Below wb.heap.size wb w6) := Lib.hid (HB5.out.trans (hb.mono HB5.out.size))
        have HO6 : Hid (OwnF (w6.alloc (.cells #[.string q1, .string q2] 37)) wb.heap.size v5 F5) := Lib.hid (ownF_alloc (ownF_below HO5.out (Nat.le_refl _) hb) _)
        have HL6 := Lib.hid (lit_fld q1 q2 w6)
        have HZ6 : Hid (wb.heap.size ≤ (w6.alloc (.cells #[.string q1, .string q2] 37)).heap.size) := Lib.hid (by have := HB6.out.size; simp; omega)
        clear hb
        go_wp2_with (at_builtin; refine app_flds rfl _ _ rfl wb.heap.size _ F5 rfl HO6.out _ 1 1 [(q1, q2)] rfl rfl HL6.out ?n2 HZ6.out ?_)
        case n2 => show (_ + 1) * 32 ≤ _; omega
        intro v7 w7 hown hb _
        obtain ⟨F7, hF7⟩ : ∃ F7, F5 ++ [(q1, q2)] = F7 := ⟨_, rfl⟩
        have HF7 : Hid (F5 ++ [(q1, q2)] = F7) := Lib.hid hF7
        have hl7 : F7.length ≤ 16777223 := by rw [← hF7, List.length_append]; simp only [List.length_cons, List.length_nil]; omega
        have HO7 : Hid (OwnF w7 wb.heap.size v7 F7) := Lib.hid (by rw [← hF7]; exact hown)
        have HB7 : Hid (Below wb.heap.size wb w7) := Lib.hid ((HB6.out.alloc HB6.out.size _).trans hb.out)
        clear hown hb hF7
        obtain ⟨c0, c1, c2, d0, d1, k0, k1, k2, f0, f1, f2⟩ := H2.out.keep HB7.out
        have hsz : w.heap.size + 1 + 1 < w7.heap.size := by have := HB7.out.size; have := HZB.out; omega
        obtain ⟨az, dz, hvz, _⟩ := ownF_src HO7.out
        have HOR : Hid (OwnF w7 wb.heap.size v7 R) := Lib.hid (by rw [HV.out, HF3.out, HF5.out, HF7.out]; exact HO7.out)
        have HBW : Hid (Below w.heap.size w w7) := Lib.hid (HB0.out.trans (HB7.out.mono HB0.out.size))
        obtain ⟨nz, hnz⟩ : ∃ nz, F7.length = nz := ⟨_, rfl⟩
        rw [hnz] at hvz
        clear hnz
        have HG : Hid (w.heap.size + 1 + 1 < wb.heap.size) := Lib.hid (by have := HZB.out; omega)
        have HG2 : Hid (w.heap.size ≤ w.heap.size + 1 + 1) := Lib.hid (by omega)
        have HWS : Hid (w.heap.size ≤ wb.heap.size) := Lib.hid HB0.out.size
        subst hvz
        go_wp2
        refine bodyPost_ret (v := .agg #[.int .i64 st, .string rs, _]) (by simp [results, Tryz.results23, go_sem, k0, k1, k2]; rfl) rfl ?_
        exact respSays (below_set3 HBW.out HG2.out) (ownF_mono (ownF_set3 HOR.out HG.out) HWS.out)
      | false =>
        rw [if_neg (by decide), List.append_nil] at hR
        have HV := Lib.hid hR
        clear hR
        go_enter Tryz.func23, Tryz.ntmps23
        go_wp2_with fail
        rw [← HWB.out]
        refine (HW.out _ _ _ HBA.out HNA.out).mono ?_; rintro e w1 ⟨hb, v, rfl, hown⟩
        have HB1 : Hid (Below wb.heap.size wb w1) := Lib.hid (((Below.refl _ _).alloc (Nat.le_refl _) _).trans (hb.mono (by simp)))
        have HO1 : Hid (OwnF w1 wb.heap.size v F) := Lib.hid (ownF_mono hown (by simp))
        clear hb hown
        go_wp2_with fail
        refine (HSN.out _).mono ?_; rintro e w2 ⟨rfl, hb⟩
        have HB2 : Hid (Below wb.heap.size wb w2) := Lib.hid (HB1.out.trans (hb.mono HB1.out.size))
        have HO2 : Hid (OwnF (w2.alloc (.cells #[.string s1, .string s2] 37)) wb.heap.size v F) := Lib.hid (ownF_alloc (ownF_below HO1.out (Nat.le_refl _) hb) _)
        have HL2 := Lib.hid (lit_fld s1 s2 w2)
        have HZ2 : Hid (wb.heap.size ≤ (w2.alloc (.cells #[.string s1, .string s2] 37)).heap.size) := Lib.hid (by have := HB2.out.size; simp; omega)
        clear hb
        go_wp2_with (at_builtin; refine app_flds rfl _ _ rfl wb.heap.size _ F rfl HO2.out _ 1 1 [(s1, s2)] rfl rfl HL2.out ?n2 HZ2.out ?_)
        case n2 => show (_ + 1) * 32 ≤ _; omega
        intro v3 w3 hown hb _
        obtain ⟨F3, hF3⟩ : ∃ F3, F ++ [(s1, s2)] = F3 := ⟨_, rfl⟩
        have HF3 : Hid (F ++ [(s1, s2)] = F3) := Lib.hid hF3
        have hl3 : F3.length ≤ 16777219 := by rw [← hF3, List.length_append]; simp only [List.length_cons, List.length_nil]; omega
        have HO3 : Hid (OwnF w3 wb.heap.size v3 F3) := Lib.hid (by rw [← hF3]; exact hown)
        have HB3 : Hid (Below wb.heap.size wb w3) := Lib.hid ((HB2.out.alloc HB2.out.size _).trans hb.out)
        clear hown hb hF3
        obtain ⟨c0, c1, c2, d0, d1, _⟩ := H2.out.keep HB3.out
        have hsz : w.heap.size + 1 + 1 < w3.heap.size := by have := HB3.out.size; have := HZB.out; omega
        have HO4 : Hid (OwnF (w3.alloc (.cells #[.string ⟨#[84, 114, 97, 110, 115, 102, 101, 114, 45, 69, 110, 99, 111, 100, 105, 110, 103]⟩, .string ⟨#[99, 104, 117, 110, 107, 101, 100]⟩] 37)) wb.heap.size v3 F3) := Lib.hid (ownF_alloc HO3.out _)
        have HL4 := Lib.hid (lit_fld ⟨#[84, 114, 97, 110, 115, 102, 101, 114, 45, 69, 110, 99, 111, 100, 105, 110, 103]⟩ ⟨#[99, 104, 117, 110, 107, 101, 100]⟩ w3)
        have HZ4 : Hid (wb.heap.size ≤ (w3.alloc (.cells #[.string ⟨#[84, 114, 97, 110, 115, 102, 101, 114, 45, 69, 110, 99, 111, 100, 105, 110, 103]⟩, .string ⟨#[99, 104, 117, 110, 107, 101, 100]⟩] 37)).heap.size) := Lib.hid (by have := HB3.out.size; simp; omega)
        go_wp2_with (at_builtin; refine app_flds rfl _ _ rfl wb.heap.size _ F3 rfl HO4.out _ 1 1 [(⟨#[84, 114, 97, 110, 115, 102, 101, 114, 45, 69, 110, 99, 111, 100, 105, 110, 103]⟩, ⟨#[99, 104, 117, 110, 107, 101, 100]⟩)] rfl rfl HL4.out ?n2 HZ4.out ?_)
        case n2 => show (_ + 1) * 32 ≤ _; omega
        intro v5 w5 hown hb _
        obtain ⟨F5, hF5⟩ : ∃ F5, F3 ++ [(⟨#[84, 114, 97, 110, 115, 102, 101, 114, 45, 69, 110, 99, 111, 100, 105, 110, 103]⟩, ⟨#[99, 104, 117, 110, 107, 101, 100]⟩)] = F5 := ⟨_, rfl⟩
        have HF5 : Hid (F3 ++ [(⟨#[84, 114, 97, 110, 115, 102, 101, 114, 45, 69, 110, 99, 111, 100, 105, 110, 103]⟩, ⟨#[99, 104, 117, 110, 107, 101, 100]⟩)] = F5) := Lib.hid hF5
        have hl5 : F5.length ≤ 16777221 := by rw [← hF5, List.length_append]; simp only [List.length_cons, List.length_nil]; omega
        have HO5 : Hid (OwnF w5 wb.heap.size v5 F5) := Lib.hid (by rw [← hF5]; exact hown)
        have HB5 : Hid (Below wb.heap.size wb w5) := Lib.hid ((HB3.out.alloc HB3.out.size _).trans hb.out)
        clear hown hb hF5
        obtain ⟨c0, c1, c2, d0, d1, k0, k1, k2, f0, f1, f2⟩ := H2.out.keep HB5.out
        have hsz : w.heap.size + 1 + 1 < w5.heap.size := by have := HB5.out.size; have := HZB.out; omega
        obtain ⟨az, dz, hvz, _⟩ := ownF_src HO5.out
        have HOR : Hid (OwnF w5 wb.heap.size v5 R) := Lib.hid (by rw [HV.out, HF3.out, HF5.out]; exact HO5.out)
        have HBW : Hid (Below w.heap.size w w5) := Lib.hid (HB0.out.trans (HB5.out.mono HB0.out.size))
        obtain ⟨nz, hnz⟩ : ∃ nz, F5.length = nz := ⟨_, rfl⟩
        rw [hnz] at hvz
        clear hnz
        have HG : Hid (w.heap.size + 1 + 1 < wb.heap.size) := Lib.hid (by have := HZB.out; omega)
        have HG2 : Hid (w.heap.size ≤ w.heap.size + 1 + 1) := Lib.hid (by omega)
        have HWS : Hid (w.heap.size ≤ wb.heap.size) := Lib.hid HB0.out.size
        subst hvz
        go_wp2
        refine bodyPost_ret (v := .agg #[.int .i64 st, .string rs, _]) (by simp [results, Tryz.results23, go_sem, k0, k1, k2]; rfl) rfl ?_
        exact respSays (below_set3 HBW.out HG2.out) (ownF_mono (ownF_set3 HOR.out HG.out) HWS.out)
    · by_cases hk3 : k = 3
      · subst hk3
        rw [if_pos (.inr rfl)] at hR
        clear hk1 hk2
        cases last with
        | true =>
          rw [if_pos rfl] at hR
          have HV := Lib.hid hR
          clear hR
          go_enter Tryz.func23, Tryz.ntmps23
          go_wp2_with fail
          rw [← HWB.out]
          refine (HW.out _ _ _ HBA.out HNA.out).mono ?_; rintro e w1 ⟨hb, v, rfl, hown⟩
          have HB1 : Hid (Below wb.heap.size wb w1) := Lib.hid (((Below.refl _ _).alloc (Nat.le_refl _) _).trans (hb.mono (by simp)))
          have HO1 : Hid (OwnF w1 wb.heap.size v F) := Lib.hid (ownF_mono hown (by simp))
          clear hb hown
          go_wp2_with fail
          refine (HSN.out _).mono ?_; rintro e w2 ⟨rfl, hb⟩
          have HB2 : Hid (Below wb.heap.size wb w2) := Lib.hid (HB1.out.trans (hb.mono HB1.out.size))
          have HO2 : Hid (OwnF (w2.alloc (.cells #[.string s1, .string s2] 37)) wb.heap.size v F) := Lib.hid (ownF_alloc (ownF_below HO1.out (Nat.le_refl _) hb) _)
          have HL2 := Lib.hid (lit_fld s1 s2 w2)
          have HZ2 : Hid (wb.heap.size ≤ (w2.alloc (.cells #[.string s1, .string s2] 37)).heap.size) := Lib.hid (by have := HB2.out.size; simp; omega)
          clear hb
          go_wp2_with (at_builtin; refine app_flds rfl _ _ rfl wb.heap.size _ F rfl HO2.out _ 1 1 [(s1, s2)] rfl rfl HL2.out ?n2 HZ2.out ?_)
          case n2 => show (_ + 1) * 32 ≤ _; omega
          intro v3 w3 hown hb _
          obtain ⟨F3, hF3⟩ : ∃ F3, F ++ [(s1, s2)] = F3 := ⟨_, rfl⟩
          have HF3 : Hid (F ++ [(s1, s2)] = F3) := Lib.hid hF3
          have hl3 : F3.length ≤ 16777219 := by rw [← hF3, List.length_append]; simp only [List.length_cons, List.length_nil]; omega
          have HO3 : Hid (OwnF w3 wb.heap.size v3 F3) := Lib.hid (by rw [← hF3]; exact hown)
          have HB3 : Hid (Below wb.heap.size wb w3) := Lib.hid ((HB2.out.alloc HB2.out.size _).trans hb.out)
          clear hown hb hF3
          obtain ⟨c0, c1, c2, d0, d1, _⟩ := H2.out.keep HB3.out
          have hsz : w.heap.size + 1 + 1 < w3.heap.size := by have := HB3.out.size; have := HZB.out; omega
          have HO4 : Hid (OwnF (w3.alloc (.cells #[.string ⟨#[84, 114, 97, 110, 115, 102, 101, 114, 45, 69, 110, 99, 111, 100, 105, 110, 103]⟩, .string ⟨#[99, 104, 117, 110, 107, 101, 100]⟩] 37)) wb.heap.size v3 F3) := Lib.hid (ownF_alloc HO3.out _)
          have HL4 := Lib.hid (lit_fld ⟨#[84, 114, 97, 110, 115, 102, 101, 114, 45, 69, 110, 99, 111, 100, 105, 110, 103]⟩ ⟨#[99, 104, 117, 110, 107, 101, 100]⟩ w3)
          have HZ4 : Hid (wb.heap.size ≤ (w3.alloc (.cells #[.string ⟨#[84, 114, 97, 110, 115, 102, 101, 114, 45, 69, 110, 99, 111, 100, 105, 110, 103]⟩, .string ⟨#[99, 104, 117, 110, 107, 101, 100]⟩] 37)).heap.size) := Lib.hid (by have := HB3.out.size; simp; omega)
          go_wp2_with (at_builtin; refine app_flds rfl _ _ rfl wb.heap.size _ F3 rfl HO4.out _ 1 1 [(⟨#[84, 114, 97, 110, 115, 102, 101, 114, 45, 69, 110, 99, 111, 100, 105, 110, 103]⟩, ⟨#[99, 104, 117, 110, 107, 101, 100]⟩)] rfl rfl HL4.out ?n2 HZ4.out ?_)
          case n2 => show (_ + 1) * 32 ≤ _; omega
          intro v5 w5 hown hb _
          obtain ⟨F5, hF5⟩ : ∃ F5, F3 ++ [(⟨#[84, 114, 97, 110, 115, 102, 101, 114, 45, 69, 110, 99, 111, 100, 105, 110, 103]⟩, ⟨#[99, 104, 117, 110, 107, 101, 100]⟩)] = F5 := ⟨_, rfl⟩
          have HF5 : Hid (F3 ++ [(⟨#[84, 114, 97, 110, 115, 102, 101, 114, 45, 69, 110, 99, 111, 100, 105, 110, 103]⟩, ⟨#[99, 104, 117, 110, 107, 101, 100]⟩)] = F5) := Lib.hid hF5
          have hl5 : F5.length ≤ 16777221 := by rw [← hF5, List.length_append]; simp only [List.length_cons, List.length_nil]; omega
          have HO5 : Hid (OwnF w5 wb.heap.size v5 F5) := Lib.hid (by rw [← hF5]; exact hown)
          have HB5 : Hid (Below wb.heap.size wb w5) := Lib.hid ((HB3.out.alloc HB3.out.size _).trans hb.out)
          clear hown hb hF5
          go_wp2_with fail
          refine (HCL.out _).mono ?_; rintro e w6 ⟨rfl, hb⟩
          have HB6 : Hid (Below wb.heap.size wb w6) := Lib.hid (HB5.out.trans (hb.mono HB5.out.size))
          have HO6 : Hid (OwnF (w6.alloc (.cells #[.string q1, .string q2] 37)) wb.heap.size v5 F5) := Lib.hid (ownF_alloc (ownF_below HO5.out (Nat.le_refl _) hb) _)
          have HL6 := Lib.hid (lit_fld q1 q2 w6)
          have HZ6 : Hid (wb.heap.size ≤ (w6.alloc (.cells #[.string q1, .string q2] 37)).heap.size) := Lib.hid (by have := HB6.out.size; simp; omega)
          clear hb
          go_wp2_with (at_builtin; refine app_flds rfl _ _ rfl wb.heap.size _ F5 rfl HO6.out _ 1 1 [(q1, q2)] rfl rfl HL6.out ?n2 HZ6.out ?_)
          case n2 => show (_ + 1) * 32 ≤ _; omega
          intro v7 w7 hown hb _
          obtain ⟨F7, hF7⟩ : ∃ F7, F5 ++ [(q1, q2)] = F7 := ⟨_, rfl⟩
          have HF7 : Hid (F5 ++ [(q1, q2)] = F7) := Lib.hid hF7
          have hl7 : F7.length ≤ 16777223 := by rw [← hF7, List.length_append]; simp only [List.length_cons, List.length_nil]; omega
          have HO7 : Hid (OwnF w7 wb.heap.size v7 F7) := Lib.hid (by rw [← hF7]; exact hown)
          have HB7 : Hid (Below wb.heap.size wb w7) := Lib.hid ((HB6.out.alloc HB6.out.size _).trans hb.out)
          clear hown hb hF7
          obtain ⟨c0, c1, c2, d0, d1, k0, k1, k2, f0, f1, f2⟩ := H2.out.keep HB7.out
          have hsz : w.heap.size + 1 + 1 < w7.heap.size := by have := HB7.out.size; have := HZB.out; omega
          obtain ⟨az, dz, hvz, _⟩ := ownF_src HO7.out
          have HOR : Hid (OwnF w7 wb.heap.size v7 R) := Lib.hid (by rw [HV.out, HF3.out, HF5.out, HF7.out]; exact HO7.out)
          have HBW : Hid (Below w.heap.size w w7) := Lib.hid (HB0.out.trans (HB7.out.mono HB0.out.size))
          obtain ⟨nz, hnz⟩ : ∃ nz, F7.length = nz := ⟨_, rfl⟩
          rw [hnz] at hvz
          clear hnz
          have HG : Hid (w.heap.size + 1 + 1 < wb.heap.size) := Lib.hid (by have := HZB.out; omega)
          have HG2 : Hid (w.heap.size ≤ w.heap.size + 1 + 1) := Lib.hid (by omega)
          have HWS : Hid (w.heap.size ≤ wb.heap.size) := Lib.hid HB0.out.size
          subst hvz
          go_wp2
          refine bodyPost_ret (v := .agg #[.int .i64 st, .string rs, _]) (by simp [results, Tryz.results23, go_sem, k0, k1, k2]; rfl) rfl ?_
          exact respSays (below_set3 HBW.out HG2.out) (ownF_mono (ownF_set3 HOR.out HG.out) HWS.out)
        | false =>
          rw [if_neg (by decide), List.append_nil] at hR
          have HV := Lib.hid hR
          clear hR
          go_enter Tryz.func23, Tryz.ntmps23
          go_wp2_with fail
          rw [← HWB.out]
          refine (HW.out _ _ _ HBA.out HNA.out).mono ?_; rintro e w1 ⟨hb, v, rfl, hown⟩
          have HB1 : Hid (Below wb.heap.size wb w1) := Lib.hid (((Below.refl _ _).alloc (Nat.le_refl _) _).trans (hb.mono (by simp)))
          have HO1 : Hid (OwnF w1 wb.heap.size v F) := Lib.hid (ownF_mono hown (by simp))
          clear hb hown
          go_wp2_with fail
          refine (HSN.out _).mono ?_; rintro e w2 ⟨rfl, hb⟩
          have HB2 : Hid (Below wb.heap.size wb w2) := Lib.hid (HB1.out.trans (hb.mono HB1.out.size))
          have HO2 : Hid (OwnF (w2.alloc (.cells #[.string s1, .string s2] 37)) wb.heap.size v F) := Lib.hid (ownF_alloc (ownF_below HO1.out (Nat.le_refl _) hb) _)
          have HL2 := Lib.hid (lit_fld s1 s2 w2)
          have HZ2 : Hid (wb.heap.size ≤ (w2.alloc (.cells #[.string s1, .string s2] 37)).heap.size) := Lib.hid (by have := HB2.out.size; simp; omega)
          clear hb
          go_wp2_with (at_builtin; refine app_flds rfl _ _ rfl wb.heap.size _ F rfl HO2.out _ 1 1 [(s1, s2)] rfl rfl HL2.out ?n2 HZ2.out ?_)
          case n2 => show (_ + 1) * 32 ≤ _; omega
          intro v3 w3 hown hb _
          obtain ⟨F3, hF3⟩ : ∃ F3, F ++ [(s1, s2)] = F3 := ⟨_, rfl⟩
          have HF3 : Hid (F ++ [(s1, s2)] = F3) := Lib.hid hF3
          have hl3 : F3.length ≤ 16777219 := by rw [← hF3, List.length_append]; simp only [List.length_cons, List.length_nil]; omega
          have HO3 : Hid (OwnF w3 wb.heap.size v3 F3) := Lib.hid (by rw [← hF3]; exact hown)
          have HB3 : Hid (Below wb.heap.size wb w3) := Lib.hid ((HB2.out.alloc HB2.out.size _).trans hb.out)
          clear hown hb hF3
          obtain ⟨c0, c1, c2, d0, d1, _⟩ := H2.out.keep HB3.out
          have hsz : w.heap.size + 1 + 1 < w3.heap.size := by have := HB3.out.size; have := HZB.out; omega
          have HO4 : Hid (OwnF (w3.alloc (.cells #[.string ⟨#[84, 114, 97, 110, 115, 102, 101, 114, 45, 69, 110, 99, 111, 100, 105, 110, 103]⟩, .string ⟨#[99, 104, 117, 110, 107, 101, 100]⟩] 37)) wb.heap.size v3 F3) := Lib.hid (ownF_alloc HO3.out _)
          have HL4 := Lib.hid (lit_fld ⟨#[84, 114, 97, 110, 115, 102, 101, 114, 45, 69, 110, 99, 111, 100, 105, 110, 103]⟩ ⟨#[99, 104, 117, 110, 107, 101, 100]⟩ w3)
          have HZ4 : Hid (wb.heap.size ≤ (w3.alloc (.cells #[.string ⟨#[84, 114, 97, 110, 115, 102, 101, 114, 45, 69, 110, 99, 111, 100, 105, 110, 103]⟩, .string ⟨#[99, 104, 117, 110, 107, 101, 100]⟩] 37)).heap.size) := Lib.hid (by have := HB3.out.size; simp; omega)
          go_wp2_with (at_builtin; refine app_flds rfl _ _ rfl wb.heap.size _ F3 rfl HO4.out _ 1 1 [(⟨#[84, 114, 97, 110, 115, 102, 101, 114, 45, 69, 110, 99, 111, 100, 105, 110, 103]⟩, ⟨#[99, 104, 117, 110, 107, 101, 100]⟩)] rfl rfl HL4.out ?n2 HZ4.out ?_)
          case n2 => show (_ + 1) * 32 ≤ _; omega
          intro v5 w5 hown hb _
          obtain ⟨F5, hF5⟩ : ∃ F5, F3 ++ [(⟨#[84, 114, 97, 110, 115, 102, 101, 114, 45, 69, 110, 99, 111, 100, 105, 110, 103]⟩, ⟨#[99, 104, 117, 110, 107, 101, 100]⟩)] = F5 := ⟨_, rfl⟩
          have HF5 : Hid (F3 ++ [(⟨#[84, 114, 97, 110, 115, 102, 101, 114, 45, 69, 110, 99, 111, 100, 105, 110, 103]⟩, ⟨#[99, 104, 117, 110, 107, 101, 100]⟩)] = F5) := Lib.hid hF5
          have hl5 : F5.length ≤ 16777221 := by rw [← hF5, List.length_append]; simp only [List.length_cons, List.length_nil]; omega
          have HO5 : Hid (OwnF w5 wb.heap.size v5 F5) := Lib.hid (by rw [← hF5]; exact hown)
          have HB5 : Hid (Below wb.heap.size wb w5) := Lib.hid ((HB3.out.alloc HB3.out.size _).trans hb.out)
          clear hown hb hF5
          obtain ⟨c0, c1, c2, d0, d1, k0, k1, k2, f0, f1, f2⟩ := H2.out.keep HB5.out
          have hsz : w.heap.size + 1 + 1 < w5.heap.size := by have := HB5.out.size; have := HZB.out; omega
          obtain ⟨az, dz, hvz, _⟩ := ownF_src HO5.out
          have HOR : Hid (OwnF w5 wb.heap.size v5 R) := Lib.hid (by rw [HV.out, HF3.out, HF5.out]; exact HO5.out)
          have HBW : Hid (Below w.heap.size w w5) := Lib.hid (HB0.out.trans (HB5.out.mono HB0.out.size))
          obtain ⟨nz, hnz⟩ : ∃ nz, F5.length = nz := ⟨_, rfl⟩
          rw [hnz] at hvz
          clear hnz
          have HG : Hid (w.heap.size + 1 + 1 < wb.heap.size) := Lib.hid (by have := HZB.out; omega)
          have HG2 : Hid (w.heap.size ≤ w.heap.size + 1 + 1) := Lib.hid (by omega)
          have HWS : Hid (w.heap.size ≤ wb.heap.size) := Lib.hid HB0.out.size
          subst hvz
          go_wp2
          refine bodyPost_ret (v := .agg #[.int .i64 st, .string rs, _]) (by simp [results, Tryz.results23, go_sem, k0, k1, k2]; rfl) rfl ?_
          exact respSays (below_set3 HBW.out HG2.out) (ownF_mono (ownF_set3 HOR.out HG.out) HWS.out)
      · rw [if_neg (by omega), List.append_nil] at hR
        have e1 : (k == 1) = false := by simp [hk1]
        have e2 : (k == 2) = false := by simp [hk2]
        have e3 : (k == 3) = false := by simp [hk3]
        clear hk1 hk2 hk3
        cases last with
        | true =>
          rw [if_pos rfl] at hR
          have HV := Lib.hid hR
          clear hR
          go_enter Tryz.func23, Tryz.ntmps23
          go_wp2_with fail
          rw [← HWB.out]
          refine (HW.out _ _ _ HBA.out HNA.out).mono ?_; rintro e w1 ⟨hb, v, rfl, hown⟩
          have HB1 : Hid (Below wb.heap.size wb w1) := Lib.hid (((Below.refl _ _).alloc (Nat.le_refl _) _).trans (hb.mono (by simp)))
          have HO1 : Hid (OwnF w1 wb.heap.size v F) := Lib.hid (ownF_mono hown (by simp))
          clear hb hown
          go_wp2_with fail
          refine (HSN.out _).mono ?_; rintro e w2 ⟨rfl, hb⟩
          have HB2 : Hid (Below wb.heap.size wb w2) := Lib.hid (HB1.out.trans (hb.mono HB1.out.size))
          have HO2 : Hid (OwnF (w2.alloc (.cells #[.string s1, .string s2] 37)) wb.heap.size v F) := Lib.hid (ownF_alloc (ownF_below HO1.out (Nat.le_refl _) hb) _)
          have HL2 := Lib.hid (lit_fld s1 s2 w2)
          have HZ2 : Hid (wb.heap.size ≤ (w2.alloc (.cells #[.string s1, .string s2] 37)).heap.size) := Lib.hid (by have := HB2.out.size; simp; omega)
          clear hb
          go_wp2_with (at_builtin; refine app_flds rfl _ _ rfl wb.heap.size _ F rfl HO2.out _ 1 1 [(s1, s2)] rfl rfl HL2.out ?n2 HZ2.out ?_)
          case n2 => show (_ + 1) * 32 ≤ _; omega
          intro v3 w3 hown hb _
          obtain ⟨F3, hF3⟩ : ∃ F3, F ++ [(s1, s2)] = F3 := ⟨_, rfl⟩
          have HF3 : Hid (F ++ [(s1, s2)] = F3) := Lib.hid hF3
          have hl3 : F3.length ≤ 16777219 := by rw [← hF3, List.length_append]; simp only [List.length_cons, List.length_nil]; omega
          have HO3 : Hid (OwnF w3 wb.heap.size v3 F3) := Lib.hid (by rw [← hF3]; exact hown)
          have HB3 : Hid (Below wb.heap.size wb w3) := Lib.hid ((HB2.out.alloc HB2.out.size _).trans hb.out)
          clear hown hb hF3
          obtain ⟨c0, c1, c2, d0, d1, _⟩ := H2.out.keep HB3.out
          have hsz : w.heap.size + 1 + 1 < w3.heap.size := by have := HB3.out.size; have := HZB.out; omega
          go_wp2_with fail
          refine (HCL.out _).mono ?_; rintro e w4 ⟨rfl, hb⟩
          have HB4 : Hid (Below wb.heap.size wb w4) := Lib.hid (HB3.out.trans (hb.mono HB3.out.size))
          have HO4 : Hid (OwnF (w4.alloc (.cells #[.string q1, .string q2] 37)) wb.heap.size v3 F3) := Lib.hid (ownF_alloc (ownF_below HO3.out (Nat.le_refl _) hb) _)
          have HL4 := Lib.hid (lit_fld q1 q2 w4)
          have HZ4 : Hid (wb.heap.size ≤ (w4.alloc (.cells #[.string q1, .string q2] 37)).heap.size) := Lib.hid (by have := HB4.out.size; simp; omega)
          clear hb
          go_wp2_with (at_builtin; refine app_flds rfl _ _ rfl wb.heap.size _ F3 rfl HO4.out _ 1 1 [(q1, q2)] rfl rfl HL4.out ?n2 HZ4.out ?_)
          case n2 => show (_ + 1) * 32 ≤ _; omega
          intro v5 w5 hown hb _
          obtain ⟨F5, hF5⟩ : ∃ F5, F3 ++ [(q1, q2)] = F5 := ⟨_, rfl⟩
          have HF5 : Hid (F3 ++ [(q1, q2)] = F5) := Lib.hid hF5
          have hl5 : F5.length ≤ 16777221 := by rw [← hF5, List.length_append]; simp only [List.length_cons, List.length_nil]; omega
          have HO5 : Hid (OwnF w5 wb.heap.size v5 F5) := Lib.hid (by rw [← hF5]; exact hown)
          have HB5 : Hid (Below wb.heap.size wb w5) := Lib.hid ((HB4.out.alloc HB4.out.size _).trans hb.out)
          clear hown hb hF5
          obtain ⟨c0, c1, c2, d0, d1, k0, k1, k2, f0, f1, f2⟩ := H2.out.keep HB5.out
          have hsz : w.heap.size + 1 + 1 < w5.heap.size := by have := HB5.out.size; have := HZB.out; omega
          obtain ⟨az, dz, hvz, _⟩ := ownF_src HO5.out
          have HOR : Hid (OwnF w5 wb.heap.size v5 R) := Lib.hid (by rw [HV.out, HF3.out, HF5.out]; exact HO5.out)
          have HBW : Hid (Below w.heap.size w w5) := Lib.hid (HB0.out.trans (HB5.out.mono HB0.out.size))
          obtain ⟨nz, hnz⟩ : ∃ nz, F5.length = nz := ⟨_, rfl⟩
          rw [hnz] at hvz
          clear hnz
          have HG : Hid (w.heap.size + 1 + 1 < wb.heap.size) := Lib.hid (by have := HZB.out; omega)
          have HG2 : Hid (w.heap.size ≤ w.heap.size + 1 + 1) := Lib.hid (by omega)
          have HWS : Hid (w.heap.size ≤ wb.heap.size) := Lib.hid HB0.out.size
          subst hvz
          go_wp2
          refine bodyPost_ret (v := .agg #[.int .i64 st, .string rs, _]) (by simp [results, Tryz.results23, go_sem, k0, k1, k2]; rfl) rfl ?_
          exact respSays (below_set3 HBW.out HG2.out) (ownF_mono (ownF_set3 HOR.out HG.out) HWS.out)
        | false =>
          rw [if_neg (by decide), List.append_nil] at hR
          have HV := Lib.hid hR
          clear hR
          go_enter Tryz.func23, Tryz.ntmps23
          go_wp2_with fail
          rw [← HWB.out]
          refine (HW.out _ _ _ HBA.out HNA.out).mono ?_; rintro e w1 ⟨hb, v, rfl, hown⟩
          have HB1 : Hid (Below wb.heap.size wb w1) := Lib.hid (((Below.refl _ _).alloc (Nat.le_refl _) _).trans (hb.mono (by simp)))
          have HO1 : Hid (OwnF w1 wb.heap.size v F) := Lib.hid (ownF_mono hown (by simp))
          clear hb hown
          go_wp2_with fail
          refine (HSN.out _).mono ?_; rintro e w2 ⟨rfl, hb⟩
          have HB2 : Hid (Below wb.heap.size wb w2) := Lib.hid (HB1.out.trans (hb.mono HB1.out.size))
          have HO2 : Hid (OwnF (w2.alloc (.cells #[.string s1, .string s2] 37)) wb.heap.size v F) := Lib.hid (ownF_alloc (ownF_below HO1.out (Nat.le_refl _) hb) _)
          have HL2 := Lib.hid (lit_fld s1 s2 w2)
          have HZ2 : Hid (wb.heap.size ≤ (w2.alloc (.cells #[.string s1, .string s2] 37)).heap.size) := Lib.hid (by have := HB2.out.size; simp; omega)
          clear hb
          go_wp2_with (at_builtin; refine app_flds rfl _ _ rfl wb.heap.size _ F rfl HO2.out _ 1 1 [(s1, s2)] rfl rfl HL2.out ?n2 HZ2.out ?_)
          case n2 => show (_ + 1) * 32 ≤ _; omega
          intro v3 w3 hown hb _
          obtain ⟨F3, hF3⟩ : ∃ F3, F ++ [(s1, s2)] = F3 := ⟨_, rfl⟩
          have HF3 : Hid (F ++ [(s1, s2)] = F3) := Lib.hid hF3
          have hl3 : F3.length ≤ 16777219 := by rw [← hF3, List.length_append]; simp only [List.length_cons, List.length_nil]; omega
          have HO3 : Hid (OwnF w3 wb.heap.size v3 F3) := Lib.hid (by rw [← hF3]; exact hown)
          have HB3 : Hid (Below wb.heap.size wb w3) := Lib.hid ((HB2.out.alloc HB2.out.size _).trans hb.out)
          clear hown hb hF3
          obtain ⟨c0, c1, c2, d0, d1, _⟩ := H2.out.keep HB3.out
          have hsz : w.heap.size + 1 + 1 < w3.heap.size := by have := HB3.out.size; have := HZB.out; omega
          obtain ⟨c0, c1, c2, d0, d1, k0, k1, k2, f0, f1, f2⟩ := H2.out.keep HB3.out
          have hsz : w.heap.size + 1 + 1 < w3.heap.size := by have := HB3.out.size; have := HZB.out; omega
          obtain ⟨az, dz, hvz, _⟩ := ownF_src HO3.out
          have HOR : Hid (OwnF w3 wb.heap.size v3 R) := Lib.hid (by rw [HV.out, HF3.out]; exact HO3.out)
          have HBW : Hid (Below w.heap.size w w3) := Lib.hid (HB0.out.trans (HB3.out.mono HB0.out.size))
          obtain ⟨nz, hnz⟩ : ∃ nz, F3.length = nz := ⟨_, rfl⟩
          rw [hnz] at hvz
          clear hnz
          have HG : Hid (w.heap.size + 1 + 1 < wb.heap.size) := Lib.hid (by have := HZB.out; omega)
          have HG2 : Hid (w.heap.size ≤ w.heap.size + 1 + 1) := Lib.hid (by omega)
          have HWS : Hid (w.heap.size ≤ wb.heap.size) := Lib.hid HB0.out.size
          subst hvz
          go_wp2
          refine bodyPost_ret (v := .agg #[.int .i64 st, .string rs, _]) (by simp [results, Tryz.results23, go_sem, k0, k1, k2]; rfl) rfl ?_
          exact respSays (below_set3 HBW.out HG2.out) (ownF_mono (ownF_set3 HOR.out HG.out) HWS.out)
end Go.Proofs.YthkgaaibhjkngaaGreatDoor
