/- Harden: Forward. -/
import Derived.Test.YthkgaaibhjkngaaGreatDoorHD
set_option linter.unusedVariables false
namespace Go.Proofs.YthkgaaibhjkngaaGreatDoor
open Go.RowKit

def kAE : ByteArray := ⟨#[65, 99, 99, 101, 112, 116, 45, 69, 110, 99, 111, 100, 105, 110, 103]⟩
def kEx : ByteArray := ⟨#[69, 120, 112, 101, 99, 116]⟩
def fwdF (l : AL) (z : Int) : AL := woF l (hopF l ++ [kAE, kEx]) ++ (if 0 ≤ z then [fLen z] else [])
/-- what a box of a request says -/
def ReqSays (A B : ByteArray) (l : AL) (w : World) (e : Ending) (w' : World) : Prop := Below w.heap.size w w' ∧ ∃ v, e = .returned (.agg #[.string A, .string B, v]) ∧ OwnF w' w.heap.size v l
theorem reqSays {A B : ByteArray} {l : AL} {v : Value} {w w' : World} (hb : Below w.heap.size w w') (ho : OwnF w' w.heap.size v l) : ReqSays A B l w (.returned (.agg #[.string A, .string B, v])) w' := ⟨hb, v, rfl, ho⟩
/-- two boxes, one behind the other -/
structure Two (w wb : World) (a b c x y z : Value) : Prop where
  below : Below w.heap.size w wb
  size : wb.heap.size = w.heap.size + 1 + 1
  a : wb.cell? ⟨w.heap.size, 0, none⟩ = some a
  b : wb.cell? ⟨w.heap.size, 1, none⟩ = some b
  c : wb.cell? ⟨w.heap.size, 2, none⟩ = some c
  x : wb.cell? ⟨w.heap.size + 1, 0, none⟩ = some x
  y : wb.cell? ⟨w.heap.size + 1, 1, none⟩ = some y
  z : wb.cell? ⟨w.heap.size + 1, 2, none⟩ = some z
  f : ∀ j, wb.frozen? ⟨w.heap.size + 1, j, none⟩ = false
theorem two_new (w : World) (a b c x y z : Value) (t u : TypeId) : Two w ((w.alloc (.cells #[a, b, c] t)).alloc (.cells #[x, y, z] u)) a b c x y z := by
  have h0 := fun j => (at_alloc w #[a, b, c] t j).1
  have hk := fun j => (res_cells w (w.alloc (.cells #[a, b, c] t)) #[a, b, c] t (Below.refl _ _) j).2 (.cells #[x, y, z] u)
  have h1 := fun j => at_alloc (w.alloc (.cells #[a, b, c] t)) #[x, y, z] u j
  have hs : (w.alloc (.cells #[a, b, c] t)).heap.size = w.heap.size + 1 := by simp
  rw [hs] at h1
  exact ⟨((Below.refl _ _).alloc (Nat.le_refl _) _).alloc (by simp) _, by simp, (hk 0).1, (hk 1).1, (hk 2).1, (h1 0).1, (h1 1).1, (h1 2).1, fun j => (h1 j).2⟩
theorem Two.keep {w wb w' : World} {a b c x y z : Value} (h : Two w wb a b c x y z) (hb : Below wb.heap.size wb w') :
    w'.cell? ⟨w.heap.size, 0, none⟩ = some a ∧ w'.cell? ⟨w.heap.size, 1, none⟩ = some b ∧ w'.cell? ⟨w.heap.size, 2, none⟩ = some c ∧ w'.cell? ⟨w.heap.size + 1, 0, none⟩ = some x ∧ w'.cell? ⟨w.heap.size + 1, 1, none⟩ = some y ∧ w'.cell? ⟨w.heap.size + 1, 2, none⟩ = some z ∧
    w'.frozen? ⟨w.heap.size + 1, 0, none⟩ = false ∧ w'.frozen? ⟨w.heap.size + 1, 1, none⟩ = false ∧ w'.frozen? ⟨w.heap.size + 1, 2, none⟩ = false := by
  have hs := h.size
  have k0 : ∀ j, w'.cell? ⟨w.heap.size, j, none⟩ = wb.cell? ⟨w.heap.size, j, none⟩ := fun j => hb.cell (p := ⟨w.heap.size, j, none⟩) (by simp; omega)
  have k1 : ∀ j, w'.cell? ⟨w.heap.size + 1, j, none⟩ = wb.cell? ⟨w.heap.size + 1, j, none⟩ := fun j => hb.cell (p := ⟨w.heap.size + 1, j, none⟩) (by simp; omega)
  have k2 : ∀ j, w'.frozen? ⟨w.heap.size + 1, j, none⟩ = wb.frozen? ⟨w.heap.size + 1, j, none⟩ := fun j => hb.frozen (p := ⟨w.heap.size + 1, j, none⟩) (by simp; omega)
  exact ⟨(k0 0).trans h.a, (k0 1).trans h.b, (k0 2).trans h.c, (k1 0).trans h.x, (k1 1).trans h.y, (k1 2).trans h.z, (k2 0).trans (h.f 0), (k2 1).trans (h.f 1), (k2 2).trans (h.f 2)⟩
theorem ownF_set3 {w : World} {base g : Nat} {v a b c : Value} {l : AL} (h : OwnF w base v l) (hg : g < base) : OwnF (((w.setCell ⟨g, 0, none⟩ a).setCell ⟨g, 1, none⟩ b).setCell ⟨g, 2, none⟩ c) base v l :=
  ownsRow_setCell_below (ownsRow_setCell_below (ownsRow_setCell_below h (a := ⟨g, 0, none⟩) hg a) (a := ⟨g, 1, none⟩) hg b) (a := ⟨g, 2, none⟩) hg c
theorem below_set3 {w w' : World} {B g : Nat} {a b c : Value} (h : Below B w w') (hg : B ≤ g) : Below B w (((w'.setCell ⟨g, 0, none⟩ a).setCell ⟨g, 1, none⟩ b).setCell ⟨g, 2, none⟩ c) :=
  ((h.setCell (p := ⟨g, 0, none⟩) hg _).setCell (p := ⟨g, 1, none⟩) hg _).setCell (p := ⟨g, 2, none⟩) hg _

set_option maxHeartbeats 8000000 in
set_option maxRecDepth 100000 in
theorem forward_any (l : AL) (A B : ByteArray) (z : Int) (a : Option Addr) (n c : Nat) (w : World) (hn : l.length = n) (hs : SrcA w a c l) (hz : asz l ≤ 16777216) (h1 : z ≤ 9223372036854775807) (ht : TabP w) :
    Calls Tryz.prog 17 #[.agg #[.string A, .string B, .slice a n c], .int .i64 z] w (ReqSays A B (fwdF l z) w) := by
  have hw := fun (b : Option Addr) d wx (hb : Below w.heap.size w wx) (hs2 : SrcS wx b d [kAE, kEx]) => hwo_any l [kAE, kEx] a b n c 2 d wx hn rfl (hs.below (Nat.le_refl _) hb) hs2 hz (by decide)
  have hl1 := woF_len l (hopF l ++ [kAE, kEx])
  have hl2 := asz_len l
  obtain ⟨R, hR⟩ : ∃ R, R = fwdF l z := ⟨_, rfl⟩
  rw [← hR]
  unfold fwdF at hR
  generalize woF l (hopF l ++ [kAE, kEx]) = F at hw hl1 hR
  have hlF : F.length ≤ 16777216 := by omega
  have HW := Lib.hid hw
  have HT := Lib.hid ht
  obtain ⟨wb, hwb⟩ : ∃ wb, wb = (w.alloc (.cells #[.string A, .string B, .slice a n c] 24)).alloc (.cells #[.string ⟨#[]⟩, .string ⟨#[]⟩, .slice none 0 0] 24) := ⟨_, rfl⟩
  have h2 : Two w wb (.string A) (.string B) (.slice a n c) (.string ⟨#[]⟩) (.string ⟨#[]⟩) (.slice none 0 0) := by rw [hwb]; exact two_new ..
  have H2 := Lib.hid h2
  have HB0 := Lib.hid h2.below
  have HWB := Lib.hid hwb
  have HBA : Hid (Below w.heap.size w (wb.alloc (.cells #[.string ⟨#[65, 99, 99, 101, 112, 116, 45, 69, 110, 99, 111, 100, 105, 110, 103]⟩, .string ⟨#[69, 120, 112, 101, 99, 116]⟩] 9))) := Lib.hid (h2.below.alloc h2.below.size _)
  have HNA : Hid (SrcS (wb.alloc (.cells #[.string ⟨#[65, 99, 99, 101, 112, 116, 45, 69, 110, 99, 111, 100, 105, 110, 103]⟩, .string ⟨#[69, 120, 112, 101, 99, 116]⟩] 9)) (some ⟨w.heap.size + 1 + 1, 0, none⟩) 2 [kAE, kEx]) := Lib.hid (by have h := lit_strl [kAE, kEx] #[.string ⟨#[65, 99, 99, 101, 112, 116, 45, 69, 110, 99, 111, 100, 105, 110, 103]⟩, .string ⟨#[69, 120, 112, 101, 99, 116]⟩] rfl wb; rw [h2.size] at h; exact h)
  obtain ⟨c0, c1, c2, _⟩ := h2.keep (Below.refl _ _)
  have HZB := Lib.hid h2.size
  clear hw hs hn hz hl1 hl2 ht hwb h2
  by_cases h0 : 0 ≤ z
  · have hD := fun wx (hb : Below w.heap.size w wx) => sized_any z h0 h1 wx (HT.out.below hb)
    have HV : Hid (R = F ++ [fLen z]) := Lib.hid (by rw [hR, if_pos h0])
    clear hR h1
    generalize fLen z = p at hD HV
    obtain ⟨p1, p2⟩ := p
    have HD : Hid (∀ wx, Below w.heap.size w wx → Calls Tryz.prog 57 #[.int .i64 z] wx fun e w' => e = .returned (.agg #[.string p1, .string p2]) ∧ Below wx.heap.size wx w') := Lib.hid hD
    clear hD
    go_enter Tryz.func17, Tryz.ntmps17
    go_wp2_with fail
    rw [← HWB.out]
    go_wp2_with fail
    refine (HW.out _ _ _ HBA.out HNA.out).mono ?_; rintro e w1 ⟨hb, v, rfl, hown⟩
    have HB1 : Hid (Below wb.heap.size wb w1) := Lib.hid (((Below.refl _ _).alloc (Nat.le_refl _) _).trans (hb.mono (by simp)))
    have HO1 : Hid (OwnF w1 wb.heap.size v F) := Lib.hid (ownF_mono hown (by simp))
    have HBW1 : Hid (Below w.heap.size w w1) := Lib.hid (HB0.out.trans (HB1.out.mono HB0.out.size))
    clear hb hown
    go_wp2_with fail
    refine (HD.out _ HBW1.out).mono ?_; rintro e w2 ⟨rfl, hb⟩
    have HB2 : Hid (Below wb.heap.size wb w2) := Lib.hid (HB1.out.trans (hb.mono HB1.out.size))
    have HO2 : Hid (OwnF (w2.alloc (.cells #[.string p1, .string p2] 37)) wb.heap.size v F) := Lib.hid (ownF_alloc (ownF_below HO1.out (Nat.le_refl _) hb) _)
    have HL := Lib.hid (lit_fld p1 p2 w2)
    have HZ1 : Hid (wb.heap.size ≤ (w2.alloc (.cells #[.string p1, .string p2] 37)).heap.size) := Lib.hid (by have := HB2.out.size; simp; omega)
    clear hb
    go_wp2_with (at_builtin; refine app_flds rfl _ _ rfl wb.heap.size _ F rfl HO2.out _ 1 1 [(p1, p2)] rfl rfl HL.out ?n2 HZ1.out ?_)
    case n2 => show (_ + 1) * 32 ≤ _; omega
    intro v3 w3 hown3 hb3 _
    have HO3 : Hid (OwnF w3 wb.heap.size v3 R) := Lib.hid (by rw [HV.out]; exact hown3)
    have HB3 : Hid (Below wb.heap.size wb w3) := Lib.hid ((HB2.out.alloc HB2.out.size _).trans hb3.out)
    obtain ⟨c0, c1, c2, k0, k1, k2, f0, f1, f2⟩ := H2.out.keep HB3.out
    have hsz : w.heap.size + 1 < w3.heap.size := by have := HB3.out.size; have := HZB.out; omega
    obtain ⟨a3, d3, hv3, _⟩ := ownF_src hown3
    obtain ⟨n3, hn3⟩ : ∃ n3, (F ++ [(p1, p2)]).length = n3 := ⟨_, rfl⟩
    rw [hn3] at hv3
    clear hn3
    have HBW3 : Hid (Below w.heap.size w w3) := Lib.hid (HB0.out.trans (HB3.out.mono HB0.out.size))
    have HG : Hid (w.heap.size + 1 < wb.heap.size) := Lib.hid (by have := HZB.out; omega)
    have HG2 : Hid (w.heap.size ≤ w.heap.size + 1) := Lib.hid (by omega)
    have HWS : Hid (w.heap.size ≤ wb.heap.size) := Lib.hid HB0.out.size
    clear hown3 hb3
    subst hv3
    go_wp2
    refine bodyPost_ret (v := .agg #[.string A, .string B, _]) (by simp [results, Tryz.results17, go_sem, k0, k1, k2]; rfl) rfl ?_
    exact reqSays (below_set3 HBW3.out HG2.out) (ownF_mono (ownF_set3 HO3.out HG.out) HWS.out)
  · have HV : Hid (R = F) := Lib.hid (by rw [hR, if_neg h0, List.append_nil])
    clear hR h1
    go_enter Tryz.func17, Tryz.ntmps17
    go_wp2_with fail
    rw [← HWB.out]
    refine (HW.out _ _ _ HBA.out HNA.out).mono ?_; rintro e w1 ⟨hb, v, rfl, hown⟩
    have HB1 : Hid (Below wb.heap.size wb w1) := Lib.hid (((Below.refl _ _).alloc (Nat.le_refl _) _).trans (hb.mono (by simp)))
    have HO1 : Hid (OwnF w1 wb.heap.size v F) := Lib.hid (ownF_mono hown (by simp))
    have HBW1 : Hid (Below w.heap.size w w1) := Lib.hid (HB0.out.trans (HB1.out.mono HB0.out.size))
    clear hb hown
    have HO3 : Hid (OwnF w1 wb.heap.size v R) := Lib.hid (by rw [HV.out]; exact HO1.out)
    obtain ⟨c0, c1, c2, k0, k1, k2, f0, f1, f2⟩ := H2.out.keep HB1.out
    have hsz : w.heap.size + 1 < w1.heap.size := by have := HB1.out.size; have := HZB.out; omega
    obtain ⟨a3, d3, hv3, _⟩ := ownF_src HO1.out
    have HG : Hid (w.heap.size + 1 < wb.heap.size) := Lib.hid (by have := HZB.out; omega)
    have HG2 : Hid (w.heap.size ≤ w.heap.size + 1) := Lib.hid (by omega)
    have HWS : Hid (w.heap.size ≤ wb.heap.size) := Lib.hid HB0.out.size
    subst hv3
    go_wp2
    refine bodyPost_ret (v := .agg #[.string A, .string B, _]) (by simp [results, Tryz.results17, go_sem, k0, k1, k2]; rfl) rfl ?_
    exact reqSays (below_set3 HBW1.out HG2.out) (ownF_mono (ownF_set3 HO3.out HG.out) HWS.out)
end Go.Proofs.YthkgaaibhjkngaaGreatDoor
