/- A page of one byte a character is read byte by byte: the walk. -/
import Derived.Test.YtagmjbjgphhlcaaDoorLR
import Derived.Deep.RegionHeld3
set_option linter.unusedVariables false
namespace Go.Proofs.YtagmjbjgphhlcaaDoor
open Go.RowKit

def EncGR (S : ByteArray) (n : Nat) (l : List UInt8) (ok : Bool) : Prop :=
  ∀ wx : World, Calls Tryd.prog 17 #[.string S] wx fun e w' => ∃ a c, e = .returned (.tuple #[.slice a n c, .bool ok]) ∧ Src w' a c l ∧ Below wx.heap.size wx w'
theorem encGR_of (S : ByteArray) (h : S.size ≤ 4194304) : EncGR S (encR S.data.toList).1.length (encR S.data.toList).1 (encR S.data.toList).2 := fun wx =>
  (rencode_any S wx h).mono fun e w' he => encSays_is rfl he

set_option maxHeartbeats 16000000 in
set_option maxRecDepth 100000 in
theorem leafDecodes_walk (w : World) (a1 : Option Addr) (c1 : Nat) (la : List UInt8) (s : ByteArray) (h1 : Src w a1 c1 la) (hl1 : la.length ≤ 1048576) (hs : s.size ≤ 1048576) :
    Calls Tryd.prog 4 #[.slice a1 la.length c1, .string s] w fun e w' => e = .returned (.bool true) ∧ Below w.heap.size w w' := by
  have H1 := Lib.hid h1
  obtain ⟨n, hn⟩ : ∃ n, la.length = n := ⟨_, rfl⟩
  have HN := Lib.hid hn
  obtain ⟨X, S0, hdl, hdr, hcb⟩ : ∃ X S0 : ByteArray, (∀ wx a c, Src wx a c la → Calls Tryd.prog 15 #[.slice a n c] wx fun e w' => e = .returned (.string X) ∧ Below wx.heap.size wx w') ∧
      (∀ wx a c, Src wx a c la → Calls Tryd.prog 18 #[.slice a n c] wx fun e w' => e = .returned (.string X) ∧ Below wx.heap.size wx w') ∧ ConG n la S0 := by
    refine ⟨⟨(dcd la).toArray⟩, ⟨la.toArray⟩, fun wx a c h => ?_, fun wx a c h => ?_, ?_⟩
    · have := ldecode_any a c la wx h (by omega)
      rw [hn] at this; exact this
    · have := rdecode_any a c la wx h (by omega)
      rw [hn] at this; exact this
    · have := conG_of la; rw [hn] at this; exact this
  have hE1 := encG_of s (by omega)
  have hE2 := encGR_of s (by omega)
  have hC := conG_of (encR s.data.toList).1
  generalize (encR s.data.toList).2 = ok at hE1 hE2
  generalize (encR s.data.toList).1 = ly at hE1 hE2 hC
  generalize (ByteArray.mk ly.toArray) = Y at hC
  generalize ly.length = m at hE1 hE2 hC
  rw [hn] at hl1 ⊢
  have HDL := Lib.hid hdl
  have HDR := Lib.hid hdr
  have HCB := Lib.hid hcb
  have HE1 := Lib.hid hE1
  have HE2 := Lib.hid hE2
  have HC := Lib.hid hC
  clear h1 hn hdl hdr hcb hE1 hE2 hC
  go_enter Tryd.func4, Tryd.ntmps4
  go_wp2_with fail
  refine (shown_any _).mono ?_; rintro e w1 ⟨rfl, hb⟩
  have HB := Lib.hid hb
  have HE := Lib.hid (fun C hC => made_empty w1 w.heap.size hb.size C hC)
  clear hb
  go_wp2_with (at_builtin; refine app_bytes rfl _ _ rfl w.heap.size _ [] rfl (HE.out _ rfl) a1 c1 n la HN.out rfl ?s1 ?n1 ?b1 ?_)
  case s1 => exact H1.out.below (HB.out.alloc HB.out.size _)
  case n1 => have := HN.out; first | (simp only [List.length_nil]; omega) | omega
  case b1 => have := HB.out.size; first | (simp; omega) | omega
  intro v2 w2 hown2 hb2 _
  have hown2 : OwnB w2 w.heap.size v2 la := by simpa using hown2
  have HB2 : Hid (Below w.heap.size w w2) := Lib.hid ((HB.out.alloc HB.out.size _).trans hb2.out)
  have HO2 : Hid (OwnB (w2.alloc (.cells #[.int .u8 128] 5)) w.heap.size v2 la) := Lib.hid (World.ownsRow.alloc hown2 _)
  have HSR : Hid (Src (w2.alloc (.cells #[.int .u8 128] 5)) (some ⟨w2.heap.size, 0, none⟩) 1 [128]) := Lib.hid (lit_src [128] w2 (by simp))
  have HSZ : Hid (w.heap.size ≤ (w2.alloc (.cells #[.int .u8 128] 5)).heap.size) := Lib.hid (by have := HB2.out.size; simp; omega)
  clear hown2 hb2
  go_wp2_with (at_builtin; refine app_bytes rfl _ _ rfl w.heap.size _ la rfl HO2.out _ 1 1 [128] rfl rfl HSR.out ?n2 HSZ.out ?_)
  case n2 => have := HN.out; simp only [List.length_cons, List.length_nil]; omega
  intro v3 w3 hown3 hb3 _
  obtain ⟨a3, c3, rfl, hr3, hc3, hc4, hnil⟩ := ownRow_of hown3
  have hlen3 : (la ++ [128]).length = n + 1 := by rw [List.length_append, HN.out]; rfl
  have htk : (la ++ [128]).take n = la := by rw [← HN.out, List.take_left]
  have HS3 : Hid (Src w3 a3 c3 la) := Lib.hid (by
    have := (hr3.src hc3 hc4 hnil).take n
    rw [htk] at this; exact this)
  obtain ⟨g, rfl, hg, hc128⟩ : ∃ g, a3 = some ⟨g, 0, none⟩ ∧ g < w3.heap.size ∧ w3.cell? ⟨g, n, none⟩ = some (.int .u8 128) := by
    rcases hr3 with h0 | ⟨g, cu, rfl, _, hcu, hsz, hall⟩
    · rw [h0] at hlen3; simp at hlen3
    · refine ⟨g, rfl, (Array.getElem?_eq_some_iff.1 hcu).1, ?_⟩
      rw [Lib.cell_of_heap hcu, hall n (by omega)]
      rw [List.getElem_append_right (by rw [HN.out]; omega)]
      simp [HN.out]
  have hcn : n + 1 ≤ c3 := by omega
  have hslc := slice_hi (some ⟨g, 0, none⟩) (n + 1) c3 n (by omega) hcn
  rw [hlen3]
  have HB3 : Hid (Below w.heap.size w w3) := Lib.hid ((HB2.out.alloc HB2.out.size _).trans hb3.out)
  have HC128 := Lib.hid hc128
  have HSL := Lib.hid hslc
  clear hown3 hb3 hr3 hc3 hc4 hnil hlen3 htk hc128 hslc
  have hslc := HSL.out
  push_cast at hslc ⊢
  go_wp2_with fail
  clear hslc
  refine (HDL.out w3 _ _ HS3.out).mono ?_; rintro e w4 ⟨rfl, hb⟩
  have HB4 := Lib.hid (HB3.out.trans (hb.mono HB3.out.size))
  have J4 : Hid (Below w3.heap.size w3 w4) := Lib.hid hb
  clear hb
  go_wp2_with fail
  refine (HE1.out w4).mono ?_; rintro e w5 ⟨a5, c5, rfl, hs5, hb⟩
  have HB5 := Lib.hid (HB4.out.trans (hb.mono HB4.out.size))
  have J5 : Hid (Below w3.heap.size w3 w5) := Lib.hid (J4.out.trans (hb.mono J4.out.size))
  have P5 := Lib.hid hs5
  clear hb hs5
  go_wp2_with fail
  refine (HE2.out w5).mono ?_; rintro e w6 ⟨a6, c6, rfl, hs6, hb⟩
  have HB6 := Lib.hid (HB5.out.trans (hb.mono HB5.out.size))
  have J6 : Hid (Below w3.heap.size w3 w6) := Lib.hid (J5.out.trans (hb.mono J5.out.size))
  have P6 := Lib.hid (P5.out.below hb)
  have Q6 := Lib.hid hs6
  clear hb hs6
  have K6 : Hid (∀ wx, Below w6.heap.size w6 wx → (convert 29 9 (.slice a5 m c5)).run Tryd.prog wx = .ok (.string Y) wx ∧ (convert 29 9 (.slice a6 m c6)).run Tryd.prog wx = .ok (.string Y) wx ∧
      (convert 29 9 (.slice (some ⟨g, 0, none⟩) n c3)).run Tryd.prog wx = .ok (.string S0) wx ∧ (convert 29 9 (.slice a1 n c1)).run Tryd.prog wx = .ok (.string S0) wx ∧ wx.cell? ⟨g, n, none⟩ = some (.int .u8 128)) := Lib.hid fun wx hb =>
    ⟨HC.out wx _ _ (P6.out.below hb), HC.out wx _ _ (Q6.out.below hb), HCB.out wx _ _ ((HS3.out.below J6.out).below hb), HCB.out wx _ _ ((H1.out.below HB6.out).below (hb.mono (Nat.le_refl _))), ((J6.out.trans (hb.mono J6.out.size)).cell (p := ⟨g, n, none⟩) hg).trans HC128.out⟩
  have HDB : Hid (∀ wx, Below w6.heap.size w6 wx → Calls Tryd.prog 18 #[.slice a1 n c1] wx fun e w' => e = .returned (.string X) ∧ Below wx.heap.size wx w') := Lib.hid fun wx hb => HDR.out wx _ _ ((H1.out.below HB6.out).below hb)
  go_wp2_with fail
  have KD : Hid (Below w6.heap.size w6 w6.drew ∧ (convert 29 9 (.slice a5 m c5)).run Tryd.prog w6.drew = .ok (.string Y) w6.drew ∧ (convert 29 9 (.slice a6 m c6)).run Tryd.prog w6.drew = .ok (.string Y) w6.drew ∧ (convert 29 9 (.slice (some ⟨g, 0, none⟩) n c3)).run Tryd.prog w6.drew = .ok (.string S0) w6.drew ∧ (convert 29 9 (.slice a1 n c1)).run Tryd.prog w6.drew = .ok (.string S0) w6.drew ∧ w6.drew.cell? ⟨g, n, none⟩ = some (.int .u8 128)) := Lib.hid ⟨(Below.refl _ _).drew, K6.out _ (Below.refl _ _).drew⟩
  have KT : Hid (∀ wx wy, (Below w6.heap.size w6 wx ∧ (convert 29 9 (.slice a5 m c5)).run Tryd.prog wx = .ok (.string Y) wx ∧ (convert 29 9 (.slice a6 m c6)).run Tryd.prog wx = .ok (.string Y) wx ∧ (convert 29 9 (.slice (some ⟨g, 0, none⟩) n c3)).run Tryd.prog wx = .ok (.string S0) wx ∧ (convert 29 9 (.slice a1 n c1)).run Tryd.prog wx = .ok (.string S0) wx ∧ wx.cell? ⟨g, n, none⟩ = some (.int .u8 128)) → Below wx.heap.size wx wy → (Below w6.heap.size w6 wy ∧ (convert 29 9 (.slice a5 m c5)).run Tryd.prog wy = .ok (.string Y) wy ∧ (convert 29 9 (.slice a6 m c6)).run Tryd.prog wy = .ok (.string Y) wy ∧ (convert 29 9 (.slice (some ⟨g, 0, none⟩) n c3)).run Tryd.prog wy = .ok (.string S0) wy ∧ (convert 29 9 (.slice a1 n c1)).run Tryd.prog wy = .ok (.string S0) wy ∧ wy.cell? ⟨g, n, none⟩ = some (.int .u8 128))) := Lib.hid fun wx wy hS hb => by
    have h2 := hS.1.trans (hb.mono hS.1.size)
    exact ⟨h2, K6.out _ h2⟩
  have KE : Hid (∀ wx, (Below w6.heap.size w6 wx ∧ (convert 29 9 (.slice a5 m c5)).run Tryd.prog wx = .ok (.string Y) wx ∧ (convert 29 9 (.slice a6 m c6)).run Tryd.prog wx = .ok (.string Y) wx ∧ (convert 29 9 (.slice (some ⟨g, 0, none⟩) n c3)).run Tryd.prog wx = .ok (.string S0) wx ∧ (convert 29 9 (.slice a1 n c1)).run Tryd.prog wx = .ok (.string S0) wx ∧ wx.cell? ⟨g, n, none⟩ = some (.int .u8 128)) → Below w.heap.size w wx) := Lib.hid fun wx hS => HB6.out.trans (hS.1.mono HB6.out.size)
  have HDC : Hid (∀ wx, (Below w6.heap.size w6 wx ∧ (convert 29 9 (.slice a5 m c5)).run Tryd.prog wx = .ok (.string Y) wx ∧ (convert 29 9 (.slice a6 m c6)).run Tryd.prog wx = .ok (.string Y) wx ∧ (convert 29 9 (.slice (some ⟨g, 0, none⟩) n c3)).run Tryd.prog wx = .ok (.string S0) wx ∧ (convert 29 9 (.slice a1 n c1)).run Tryd.prog wx = .ok (.string S0) wx ∧ wx.cell? ⟨g, n, none⟩ = some (.int .u8 128)) → Calls Tryd.prog 18 #[.slice a1 n c1] wx fun e w' => e = .returned (.string X) ∧ Below wx.heap.size wx w') := Lib.hid fun wx hS => HDB.out wx hS.1
  have hslc := HSL.out
  push_cast at hslc
  have hnn : n < n + 1 := by omega
  have hn0 : (0 : Int) ≤ (n : Int) := by omega
  have hn1 : (n : Int) < (n : Int) + 1 := by omega
  have hia : ∀ W, (Instr.indexAt 29 (.slice (some ⟨g, 0, none⟩) (n + 1) c3) (.int .i64 n)).run Tryd.prog W = .ok (.pointer (some ⟨g, n, none⟩)) W := by
    intro W
    go_simp
  clear hn0 hn1 hnn
  go_region_held3 (fun w' => Below w6.heap.size w6 w' ∧ (convert 29 9 (.slice a5 m c5)).run Tryd.prog w' = .ok (.string Y) w' ∧ (convert 29 9 (.slice a6 m c6)).run Tryd.prog w' = .ok (.string Y) w' ∧ (convert 29 9 (.slice (some ⟨g, 0, none⟩) n c3)).run Tryd.prog w' = .ok (.string S0) w' ∧ (convert 29 9 (.slice a1 n c1)).run Tryd.prog w' = .ok (.string S0) w' ∧ w'.cell? ⟨g, n, none⟩ = some (.int .u8 128)) (first | exact KD.out | exact KT.out _ _ (by assumption) hb)
    (first | (go_at_call 18; refine (HDC.out _ ?_).mono ?_; assumption; rintro e w' ⟨rfl, hb⟩))
  go_wp2
  go_ret
  exact ⟨rfl, KE.out _ (by assumption)⟩
end Go.Proofs.YtagmjbjgphhlcaaDoor
