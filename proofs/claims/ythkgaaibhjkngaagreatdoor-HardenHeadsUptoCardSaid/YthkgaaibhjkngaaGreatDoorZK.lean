/- HardenHeads. HardenHeads: for every response, length, kind and ending the law's function returns true. Conditions: what is handed in, and the library's tables, are together of bulk at most 1048576 (the second form of the statement); the tables are those that the card ties to the program's text. -/
import Derived.Test.YthkgaaibhjkngaaGreatDoorZH
import Derived.Test.YthkgaaibhjkngaaGreatDoorZD
import Derived.Test.YthkgaaibhjkngaaGreatDoorHN
import Derived.Carry
set_option linter.unusedVariables false
namespace Go.Proofs.YthkgaaibhjkngaaGreatDoor
open Go.RowKit

theorem duo_z (w w2 : World) (cs cd : Array Value) (t u : TypeId) (hb : Below ((w.alloc (.cells cs t)).alloc (.cells cd u)).heap.size ((w.alloc (.cells cs t)).alloc (.cells cd u)) w2) (j : Nat) :
    w2.cell? ⟨w.heap.size, j, none⟩ = cs[j]? ∧ w2.cell? ⟨w.heap.size + 1, j, none⟩ = cd[j]? ∧ w.heap.size + 1 < w2.heap.size := by
  have h2 := (kept_z (w.alloc (.cells cs t)) w2 cd u hb j).1
  have hb1 : Below (w.alloc (.cells cs t)).heap.size (w.alloc (.cells cs t)) w2 := app_below ((Below.refl _ _).alloc (Nat.le_refl _) _) hb
  have h1 := (kept_z w w2 cs t hb1 j).1
  have hz := hb.size
  refine ⟨h1, ?_, ?_⟩
  · rw [show (w.alloc (.cells cs t)).heap.size = w.heap.size + 1 by simp] at h2
    exact h2
  · simp at hz; omega
/-- cells of fields that may be written, between two blocks -/
def SlotT (w : World) (a : Option Addr) (lo hi n : Nat) : Prop := ∀ j, j < n → ∃ g, a = some ⟨g, 0, none⟩ ∧ lo ≤ g ∧ g < hi ∧ (w.cell? ⟨g, j * 2, none⟩).isSome = true ∧ (w.cell? ⟨g, j * 2 + 1, none⟩).isSome = true ∧ (∀ o, w.frozen? ⟨g, o, none⟩ = false)
theorem slots_top {w : World} {a : Option Addr} {lo n : Nat} (h : SlotF w a lo n) : SlotT w a lo w.heap.size n := fun j hj => by
  obtain ⟨g, h1, h2, h3, h4, h5⟩ := h j hj
  obtain ⟨x, hx⟩ := Option.isSome_iff_exists.1 h3
  exact ⟨g, h1, h2, World.block_lt_of_cell? w _ hx, h3, h4, h5⟩
theorem SlotT.set {w : World} {a : Option Addr} {lo hi n : Nat} (h : SlotT w a lo hi n) (q : Addr) (u : Value) : SlotT (w.setCell q u) a lo hi n := fun j hj => by
  obtain ⟨g, h1, h2, h2', h3, h4, h5⟩ := h j hj
  exact ⟨g, h1, h2, h2', set_some h3, set_some h4, fun o => by rw [World.frozen?_setCell]; exact h5 o⟩
theorem SlotT.below {w w' : World} {a : Option Addr} {lo hi n : Nat} (h : SlotT w a lo hi n) (hb : Below hi w w') : SlotT w' a lo hi n := fun j hj => by
  obtain ⟨g, h1, h2, h2', h3, h4, h5⟩ := h j hj
  refine ⟨g, h1, h2, h2', ?_, ?_, fun o => ?_⟩
  · rw [hb.cell (p := ⟨g, j * 2, none⟩) h2']; exact h3
  · rw [hb.cell (p := ⟨g, j * 2 + 1, none⟩) h2']; exact h4
  · rw [hb.frozen (p := ⟨g, o, none⟩) h2']; exact h5 o
theorem set_ne {w : World} {g o X j : Nat} {u : Value} (h : g ≠ X) : (w.setCell ⟨g, o, none⟩ u).cell? ⟨X, j, none⟩ = w.cell? ⟨X, j, none⟩ :=
  World.cell?_setCell_other _ _ _ _ (fun e => h (by injection e))
theorem pageF_len (l : AL) (z : Int) (last : Bool) : (pageF l z last).length ≤ l.length + 5 := by
  have := woF_len l (hopF l ++ pageN)
  unfold pageF
  simp only [List.length_append, List.length_cons, List.length_nil]
  split <;> split <;> simp <;> omega
theorem plainF_len (l : AL) (k L : Int) (last : Bool) : (plainF l k L last).length ≤ l.length + 3 := by
  have := woF_len l (hopF l ++ [kCTO])
  unfold plainF midF
  simp only [List.length_append, List.length_cons, List.length_nil]
  split
  · split <;> split <;> simp <;> omega
  · split <;> split <;> simp <;> omega

set_option maxHeartbeats 64000000 in
set_option maxRecDepth 100000 in
theorem hardenHeads_any (l : AL) (st : Int) (B : ByteArray) (z k L : Int) (last : Bool) (a : Option Addr) (n c : Nat) (w : World) (hn : l.length = n) (hs : SrcA w a c l) (hz : asz l ≤ 16777216) (h1 : z ≤ 9223372036854775807) (h2 : L ≤ 9223372036854775807) (ht : TabP w) :
    Calls Tryz.prog 5 #[.agg #[.int .i64 st, .string B, .slice a n c], .int .i64 z, .agg #[.int .i64 k, .int .i64 L], .bool last] w fun e w' => e = .returned (.bool true) ∧ Below w.heap.size w w' := by
  have hnb : n ≤ 16777216 := by have := asz_len l; omega
  obtain ⟨w0, hw0⟩ : ∃ w0, w0 = (w.alloc (.cells #[.int .i64 st, .string B, .slice a n c] 26)).alloc (.cells #[.int .i64 k, .int .i64 L] 40) := ⟨_, rfl⟩
  have hb0 : Below w.heap.size w w0 := by rw [hw0]; exact ((Below.refl _ _).alloc (Nat.le_refl _) _).alloc (by simp) _
  have HQ : Hid (∀ wx, Below w0.heap.size w0 wx → w.heap.size + 1 < wx.heap.size ∧ wx.cell? ⟨w.heap.size, 0, none⟩ = some (.int .i64 st) ∧ wx.cell? ⟨w.heap.size, 1, none⟩ = some (.string B) ∧ wx.cell? ⟨w.heap.size, 2, none⟩ = some (.slice a n c) ∧ wx.cell? ⟨w.heap.size + 1, 0, none⟩ = some (.int .i64 k) ∧ wx.cell? ⟨w.heap.size + 1, 1, none⟩ = some (.int .i64 L)) := Lib.hid (by
    rw [hw0]
    exact fun wx hb => ⟨(duo_z w wx _ _ _ _ hb 0).2.2, (duo_z w wx _ _ _ _ hb 0).1, (duo_z w wx _ _ _ _ hb 1).1, (duo_z w wx _ _ _ _ hb 2).1, (duo_z w wx _ _ _ _ hb 0).2.1, (duo_z w wx _ _ _ _ hb 1).2.1⟩)
  have HW0 := Lib.hid hw0
  have HB0 := Lib.hid hb0
  have HS0 := Lib.hid (hs.below (Nat.le_refl _) hb0)
  have HT0 := Lib.hid (ht.below hb0)
  have H0 := Lib.hid fun wx (hb : Below w0.heap.size w0 wx) => shown21_any wx (HT0.out.below hb)
  have HL : Hid (∀ a c wx, SrcA wx a c l → Calls Tryz.prog 15 #[.slice a n c] wx fun e w' => Below wx.heap.size wx w' ∧ ∃ g cap, e = .returned (.slice (some ⟨g, 0, none⟩) n cap) ∧ wx.heap.size ≤ g ∧ SrcA w' (some ⟨g, 0, none⟩) cap (l ++ [bang])) := Lib.hid fun a c wx h => by
    have := lent_any l a n c wx hn h (by omega); unfold LentSays at this; rw [hn] at this; exact this
  have HK : Hid (∀ a c g cap wx, SrcA wx a c l → SrcA wx (some ⟨g, 0, none⟩) cap (l ++ [bang]) → Calls Tryz.prog 21 #[.slice (some ⟨g, 0, none⟩) n cap, .slice a n c] wx fun e w' => e = .returned (.bool true) ∧ Below wx.heap.size wx w') := Lib.hid fun a c g cap wx h1 h2 =>
    kept_any l a n c g cap wx hn h1 h2 (by omega)
  have HRG : Hid (∀ a c wx, SrcA wx a c l → Calls Tryz.prog 25 #[.agg #[.int .i64 st, .string B, .slice a n c], .int .i64 z, .bool last] wx (RespSays st B (pageF l z last) wx)) := Lib.hid fun a c wx h => rpage_any l st B z last a n c wx hn h hz h1
  have HPG : Hid (∀ a c wx, Below w0.heap.size w0 wx → SrcA wx a c l → Calls Tryz.prog 22 #[.agg #[.int .i64 st, .string B, .slice a n c], .int .i64 z, .bool last] wx (RespSays st B (pageF l z last) wx)) := Lib.hid fun a c wx hb h => page_any l st B z last a n c wx hn h hz h1 (HT0.out.below hb)
  have HRP : Hid (∀ a c wx, SrcA wx a c l → Calls Tryz.prog 26 #[.agg #[.int .i64 st, .string B, .slice a n c], .agg #[.int .i64 k, .int .i64 L], .bool last] wx (RespSays st B (plainF l k L last) wx)) := Lib.hid fun a c wx h => rplain_any l st B k L last a n c wx hn h hz h2
  have HPP : Hid (∀ a c wx, Below w0.heap.size w0 wx → SrcA wx a c l → Calls Tryz.prog 23 #[.agg #[.int .i64 st, .string B, .slice a n c], .agg #[.int .i64 k, .int .i64 L], .bool last] wx (RespSays st B (plainF l k L last) wx)) := Lib.hid fun a c wx hb h => plain_any l st B k L last a n c wx hn h hz h2 (HT0.out.below hb)
  have hFl := pageF_len l z last
  have hGl := plainF_len l k L last
  rw [hn] at hFl hGl
  generalize pageF l z last = F at HRG HPG hFl
  generalize plainF l k L last = G at HRP HPP hGl
  obtain ⟨f, hf⟩ : ∃ f, F.length = f := ⟨_, rfl⟩
  obtain ⟨g0, hg⟩ : ∃ f, G.length = f := ⟨_, rfl⟩
  rw [hf] at hFl
  rw [hg] at hGl
  have HFL := Lib.hid hf
  have HGL := Lib.hid hg
  have HSF := Lib.hid fun (a1 a2 : Option Addr) c1 c2 wx (h1 : SrcA wx a1 c1 F) (h2 : SrcA wx a2 c2 F) => sameResp_eq st B F a1 a2 f c1 c2 wx hf h1 h2 (by omega)
  have HSG := Lib.hid fun (a1 a2 : Option Addr) c1 c2 wx (h1 : SrcA wx a1 c1 G) (h2 : SrcA wx a2 c2 G) => sameResp_eq st B G a1 a2 g0 c1 c2 wx hg h1 h2 (by omega)
  clear hw0 hb0 hs hn hz ht h1 h2 hf hg
  go_enter Tryz.func5, Tryz.ntmps5
  go_wp2_with fail
  rw [← HW0.out]
  refine (H0.out _ (Below.refl _ _)).mono ?_; rintro e w1 ⟨rfl, hb⟩
  have HB1 := Lib.hid hb
  have HS1 := Lib.hid (HS0.out.below (Nat.le_refl _) hb)
  obtain ⟨s0, q0, q1, q2, b0, b1⟩ := HQ.out w1 hb
  clear hb
  go_wp2_with fail
  refine (HL.out _ _ _ HS1.out).mono ?_; rintro e w2 ⟨hb, g, cap, rfl, hge, hsl⟩
  have HB2 := Lib.hid (app_below HB1.out hb)
  have HL2 := Lib.hid hsl
  have HS2 := Lib.hid (HS1.out.below (Nat.le_refl _) hb)
  obtain ⟨s0, q0, q1, q2, b0, b1⟩ := HQ.out w2 HB2.out
  clear hb hsl hge
  obtain ⟨w4, hw4⟩ : ∃ w4, w4 = w2.alloc (.cells #[.int .i64 st, .string B, .slice (some ⟨g, 0, none⟩) n cap] 26) := ⟨_, rfl⟩
  have hb34 : Below w2.heap.size w2 w4 := by rw [hw4]; exact (Below.refl _ _).alloc (Nat.le_refl _) _
  have HB4 := Lib.hid (app_below HB2.out hb34)
  have HL4 := Lib.hid (HL2.out.below (Nat.le_refl _) hb34)
  have HS4 := Lib.hid (HS2.out.below (Nat.le_refl _) hb34)
  have HP : Hid (∀ wx, Below w4.heap.size w4 wx → w2.heap.size < wx.heap.size ∧ wx.cell? ⟨w2.heap.size, 0, none⟩ = some (.int .i64 st) ∧ wx.cell? ⟨w2.heap.size, 1, none⟩ = some (.string B) ∧ wx.cell? ⟨w2.heap.size, 2, none⟩ = some (.slice (some ⟨g, 0, none⟩) n cap)) := Lib.hid (by
    rw [hw4]
    exact fun wx hb => ⟨Nat.lt_of_lt_of_le (by simp) hb.size, (kept_z w2 wx _ _ hb 0).1, (kept_z w2 wx _ _ hb 1).1, (kept_z w2 wx _ _ hb 2).1⟩)
  have HW4 := Lib.hid hw4
  clear hw4 hb34
  go_wp2_with fail
  rw [← HW4.out]
  clear q0 q1 q2 b0 b1 s0
  go_loopw [12] (fun i wr => ∃ t : Nat, t ≤ 2 ∧ i = .int .i64 t ∧ Below w4.heap.size w4 wr) (fun i _ => 2 - (intOf i).toNat)
  case atStart => exact ⟨0, by omega, rfl, Below.refl _ _⟩
  case round =>
    obtain ⟨tw, htw, rfl, hb⟩ := hrel
    have HBR := Lib.hid hb
    have HLr := Lib.hid (HL4.out.below (Nat.le_refl _) hb)
    have HSr := Lib.hid (HS4.out.below (Nat.le_refl _) hb)
    have HB0r := Lib.hid (app_below HB4.out hb)
    obtain ⟨s0, q0, q1, q2, b0, b1⟩ := HQ.out wr HB0r.out
    obtain ⟨sp, p0, p1, p2⟩ := HP.out wr hb
    clear hb
    by_cases hlt : tw < 2
    case neg =>
      clear p0 p1 p2 sp
      go_wp2_with fail
      refine (HK.out _ _ _ _ _ HSr.out HLr.out).mono ?_; rintro e w5 ⟨rfl, hb⟩
      have HBE := Lib.hid (app_below (app_below HB0.out HB0r.out) hb)
      clear hb
      go_wp2
      go_ret
      exact ⟨rfl, HBE.out⟩
    case pos =>
      go_wp2_with fail
      refine (HPG.out _ _ _ HB0r.out (srcA_first HLr.out)).mono ?_; rintro e w5 ⟨hb, v5, rfl, ho⟩
      obtain ⟨a5, c5, hv5, hs5⟩ := flds_one _ _ _ _ ho
      rw [HFL.out] at hv5
      subst hv5
      obtain ⟨w6, hw6⟩ : ∃ w6, w6 = w5.alloc (.cells #[.int .i64 st, .string B, .slice a5 f c5] 26) := ⟨_, rfl⟩
      have hb56 : Below w5.heap.size w5 w6 := by rw [hw6]; exact (Below.refl _ _).alloc (Nat.le_refl _) _
      have HB5 := Lib.hid hb
      have HB6 := Lib.hid (app_below hb hb56)
      have HZ6 : Hid (w6.heap.size = w5.heap.size + 1) := Lib.hid (by rw [hw6]; simp)
      have HLO : Hid (wr.heap.size ≤ w5.heap.size) := Lib.hid hb.size
      have hT := slots_top (ownF_slots ho).1
      have HT6 := Lib.hid (hT.below hb56)
      have HS6 := Lib.hid (hs5.below (Nat.le_refl _) hb56)
      have HX : Hid (∀ wx, Below w6.heap.size w6 wx → w5.heap.size < wx.heap.size ∧ wx.cell? ⟨w5.heap.size, 0, none⟩ = some (.int .i64 st) ∧ wx.cell? ⟨w5.heap.size, 1, none⟩ = some (.string B) ∧ wx.cell? ⟨w5.heap.size, 2, none⟩ = some (.slice a5 f c5)) := Lib.hid (by
        rw [hw6]
        exact fun wx hb => ⟨Nat.lt_of_lt_of_le (by simp) hb.size, (kept_z w5 wx _ _ hb 0).1, (kept_z w5 wx _ _ hb 1).1, (kept_z w5 wx _ _ hb 2).1⟩)
      have HL6 := Lib.hid (HLr.out.below (Nat.le_refl _) HB6.out)
      have HSq6 := Lib.hid (HSr.out.below (Nat.le_refl _) HB6.out)
      have HW6 := Lib.hid hw6
      clear hb ho hs5 hw6 hb56 hT q0 q1 q2 s0 b0 b1 p0 p1 p2 sp
      obtain ⟨s0, q0, q1, q2, b0, b1⟩ := HQ.out w5 (app_below HB0r.out HB5.out)
      obtain ⟨sp, p0, p1, p2⟩ := HP.out w5 (app_below HBR.out HB5.out)
      go_wp2_with fail
      rw [← HW6.out]
      refine (HPP.out _ _ _ (app_below HB0r.out HB6.out) (srcA_first HL6.out)).mono ?_; rintro e w7 ⟨hb, v7, rfl, ho⟩
      obtain ⟨a7, c7, hv7, hs7⟩ := flds_one _ _ _ _ ho
      rw [HGL.out] at hv7
      subst hv7
      obtain ⟨w8, hw8⟩ : ∃ w8, w8 = w7.alloc (.cells #[.int .i64 st, .string B, .slice a7 g0 c7] 26) := ⟨_, rfl⟩
      have hb78 : Below w7.heap.size w7 w8 := by rw [hw8]; exact (Below.refl _ _).alloc (Nat.le_refl _) _
      have HB68 := Lib.hid (app_below hb hb78)
      have HB8 := Lib.hid (app_below HB6.out HB68.out)
      have HZ7 : Hid (w6.heap.size ≤ w7.heap.size) := Lib.hid hb.size
      have hT := slots_top (ownF_slots ho).1
      have HT8 := Lib.hid (hT.below hb78)
      have HTx8 : Hid (SlotT w8 a5 wr.heap.size w5.heap.size _) := Lib.hid (HT6.out.below (HB68.out.mono (by have := HZ6.out; omega)))
      have HS8 := Lib.hid (HS6.out.below (Nat.le_refl _) HB68.out)
      have HG8 := Lib.hid (hs7.below (Nat.le_refl _) hb78)
      have HY : Hid (∀ wx, Below w8.heap.size w8 wx → w7.heap.size < wx.heap.size ∧ wx.cell? ⟨w7.heap.size, 0, none⟩ = some (.int .i64 st) ∧ wx.cell? ⟨w7.heap.size, 1, none⟩ = some (.string B) ∧ wx.cell? ⟨w7.heap.size, 2, none⟩ = some (.slice a7 g0 c7)) := Lib.hid (by
        rw [hw8]
        exact fun wx hb => ⟨Nat.lt_of_lt_of_le (by simp) hb.size, (kept_z w7 wx _ _ hb 0).1, (kept_z w7 wx _ _ hb 1).1, (kept_z w7 wx _ _ hb 2).1⟩)
      have HSq8 := Lib.hid (HSq6.out.below (Nat.le_refl _) HB68.out)
      have HW8 := Lib.hid hw8
      clear hb ho hs7 hw8 hb78 hT q0 q1 q2 s0 b0 b1 p0 p1 p2 sp
      go_wp2_with fail
      rw [← HW8.out]
      obtain ⟨s0, q0, q1, q2, b0, b1⟩ := HQ.out w8 (app_below HB0r.out HB8.out)
      obtain ⟨sy, y0, y1, y2⟩ := HX.out w8 HB68.out
      have HGX : Hid (w5.heap.size < w8.heap.size) := Lib.hid sy
      have HGB : Hid (w.heap.size + 1 < w8.heap.size) := Lib.hid s0
      have HGP : Hid (w.heap.size < w8.heap.size) := Lib.hid (by omega)
      have KT : Hid (∀ x y : World, (Below w8.heap.size w8 x ∧ x.cell? ⟨w5.heap.size, 0, none⟩ = some (.int .i64 st) ∧ x.cell? ⟨w5.heap.size, 1, none⟩ = some (.string B) ∧ x.cell? ⟨w5.heap.size, 2, none⟩ = some (.slice a5 f c5) ∧ x.cell? ⟨w.heap.size, 0, none⟩ = some (.int .i64 st) ∧ x.cell? ⟨w.heap.size, 1, none⟩ = some (.string B) ∧ x.cell? ⟨w.heap.size, 2, none⟩ = some (.slice a n c)) → Below x.heap.size x y → (Below w8.heap.size w8 y ∧ y.cell? ⟨w5.heap.size, 0, none⟩ = some (.int .i64 st) ∧ y.cell? ⟨w5.heap.size, 1, none⟩ = some (.string B) ∧ y.cell? ⟨w5.heap.size, 2, none⟩ = some (.slice a5 f c5) ∧ y.cell? ⟨w.heap.size, 0, none⟩ = some (.int .i64 st) ∧ y.cell? ⟨w.heap.size, 1, none⟩ = some (.string B) ∧ y.cell? ⟨w.heap.size, 2, none⟩ = some (.slice a n c))) := Lib.hid fun x y ⟨h0, h1, h2, h3, h4, h5, h6⟩ hb =>
        ⟨app_below h0 hb, (hb.cell (p := ⟨w5.heap.size, 0, none⟩) (Nat.lt_of_lt_of_le HGX.out h0.size)).trans h1, (hb.cell (p := ⟨w5.heap.size, 1, none⟩) (Nat.lt_of_lt_of_le HGX.out h0.size)).trans h2, (hb.cell (p := ⟨w5.heap.size, 2, none⟩) (Nat.lt_of_lt_of_le HGX.out h0.size)).trans h3, (hb.cell (p := ⟨w.heap.size, 0, none⟩) (Nat.lt_of_lt_of_le HGP.out h0.size)).trans h4, (hb.cell (p := ⟨w.heap.size, 1, none⟩) (Nat.lt_of_lt_of_le HGP.out h0.size)).trans h5, (hb.cell (p := ⟨w.heap.size, 2, none⟩) (Nat.lt_of_lt_of_le HGP.out h0.size)).trans h6⟩
      have KD : Hid (Below w8.heap.size w8 w8.drew ∧ w8.drew.cell? ⟨w5.heap.size, 0, none⟩ = some (.int .i64 st) ∧ w8.drew.cell? ⟨w5.heap.size, 1, none⟩ = some (.string B) ∧ w8.drew.cell? ⟨w5.heap.size, 2, none⟩ = some (.slice a5 f c5) ∧ w8.drew.cell? ⟨w.heap.size, 0, none⟩ = some (.int .i64 st) ∧ w8.drew.cell? ⟨w.heap.size, 1, none⟩ = some (.string B) ∧ w8.drew.cell? ⟨w.heap.size, 2, none⟩ = some (.slice a n c)) := Lib.hid ⟨(Below.refl _ _).drew, y0, y1, y2, q0, q1, q2⟩
      have GR := Lib.hid fun wx (h : Below w8.heap.size w8 wx ∧ wx.cell? ⟨w5.heap.size, 0, none⟩ = some (.int .i64 st) ∧ wx.cell? ⟨w5.heap.size, 1, none⟩ = some (.string B) ∧ wx.cell? ⟨w5.heap.size, 2, none⟩ = some (.slice a5 f c5) ∧ wx.cell? ⟨w.heap.size, 0, none⟩ = some (.int .i64 st) ∧ wx.cell? ⟨w.heap.size, 1, none⟩ = some (.string B) ∧ wx.cell? ⟨w.heap.size, 2, none⟩ = some (.slice a n c)) => HRG.out _ _ wx (HSq8.out.below (Nat.le_refl _) h.1)
      have KE := Lib.hid fun wx (h : Below w8.heap.size w8 wx ∧ wx.cell? ⟨w5.heap.size, 0, none⟩ = some (.int .i64 st) ∧ wx.cell? ⟨w5.heap.size, 1, none⟩ = some (.string B) ∧ wx.cell? ⟨w5.heap.size, 2, none⟩ = some (.slice a5 f c5) ∧ wx.cell? ⟨w.heap.size, 0, none⟩ = some (.int .i64 st) ∧ wx.cell? ⟨w.heap.size, 1, none⟩ = some (.string B) ∧ wx.cell? ⟨w.heap.size, 2, none⟩ = some (.slice a n c)) => h.1
      clear q0 q1 q2 b0 b1 s0 sy y0 y1 y2
      go_region_held3 (fun w' => Below w8.heap.size w8 w' ∧ w'.cell? ⟨w5.heap.size, 0, none⟩ = some (.int .i64 st) ∧ w'.cell? ⟨w5.heap.size, 1, none⟩ = some (.string B) ∧ w'.cell? ⟨w5.heap.size, 2, none⟩ = some (.slice a5 f c5) ∧ w'.cell? ⟨w.heap.size, 0, none⟩ = some (.int .i64 st) ∧ w'.cell? ⟨w.heap.size, 1, none⟩ = some (.string B) ∧ w'.cell? ⟨w.heap.size, 2, none⟩ = some (.slice a n c)) (first | exact KD.out | exact KT.out _ _ (by assumption) (by assumption) | assumption)
        (first
          | (go_at_call 25; refine (GR.out _ ?_).mono ?_; assumption; rintro e w9 ⟨hb, v9, rfl, ho⟩; obtain ⟨a9, c9, hv9, hs9⟩ := flds_one _ _ _ _ ho; rw [HFL.out] at hv9; subst hv9)
          | (go_at_call 24; refine (HSF.out _ _ _ _ _ (HS8.out.below (Nat.le_refl _) (KE.out _ (by assumption))) hs9).mono ?_; rintro e w' ⟨rfl, hb⟩))
      have hbw := KE.out _ (by assumption)
      obtain ⟨wm, hwn⟩ : ∃ x, x = w' := ⟨_, rfl⟩
      rw [← hwn] at hbw ⊢
      clear hwn
      have HB9 := Lib.hid hbw
      have HSq9 := Lib.hid (HSq8.out.below (Nat.le_refl _) hbw)
      have HG9 := Lib.hid (HG8.out.below (Nat.le_refl _) hbw)
      clear hbw
      clear KT KD GR KE HGX HGB HGP
      go_wp2_with fail
      obtain ⟨s0, q0, q1, q2, b0, b1⟩ := HQ.out wm (app_below HB0r.out (app_below HB8.out HB9.out))
      obtain ⟨sy, y0, y1, y2⟩ := HY.out wm HB9.out
      have HGX : Hid (w7.heap.size < wm.heap.size) := Lib.hid sy
      have HGB : Hid (w.heap.size + 1 < wm.heap.size) := Lib.hid s0
      have HGP : Hid (w.heap.size < wm.heap.size) := Lib.hid (by omega)
      have KT : Hid (∀ x y : World, (Below wm.heap.size wm x ∧ x.cell? ⟨w7.heap.size, 0, none⟩ = some (.int .i64 st) ∧ x.cell? ⟨w7.heap.size, 1, none⟩ = some (.string B) ∧ x.cell? ⟨w7.heap.size, 2, none⟩ = some (.slice a7 g0 c7) ∧ x.cell? ⟨w.heap.size, 0, none⟩ = some (.int .i64 st) ∧ x.cell? ⟨w.heap.size, 1, none⟩ = some (.string B) ∧ x.cell? ⟨w.heap.size, 2, none⟩ = some (.slice a n c) ∧ x.cell? ⟨w.heap.size + 1, 0, none⟩ = some (.int .i64 k) ∧ x.cell? ⟨w.heap.size + 1, 1, none⟩ = some (.int .i64 L)) → Below x.heap.size x y → (Below wm.heap.size wm y ∧ y.cell? ⟨w7.heap.size, 0, none⟩ = some (.int .i64 st) ∧ y.cell? ⟨w7.heap.size, 1, none⟩ = some (.string B) ∧ y.cell? ⟨w7.heap.size, 2, none⟩ = some (.slice a7 g0 c7) ∧ y.cell? ⟨w.heap.size, 0, none⟩ = some (.int .i64 st) ∧ y.cell? ⟨w.heap.size, 1, none⟩ = some (.string B) ∧ y.cell? ⟨w.heap.size, 2, none⟩ = some (.slice a n c) ∧ y.cell? ⟨w.heap.size + 1, 0, none⟩ = some (.int .i64 k) ∧ y.cell? ⟨w.heap.size + 1, 1, none⟩ = some (.int .i64 L))) := Lib.hid fun x y ⟨h0, h1, h2, h3, h4, h5, h6, h7, h8⟩ hb =>
        ⟨app_below h0 hb, (hb.cell (p := ⟨w7.heap.size, 0, none⟩) (Nat.lt_of_lt_of_le HGX.out h0.size)).trans h1, (hb.cell (p := ⟨w7.heap.size, 1, none⟩) (Nat.lt_of_lt_of_le HGX.out h0.size)).trans h2, (hb.cell (p := ⟨w7.heap.size, 2, none⟩) (Nat.lt_of_lt_of_le HGX.out h0.size)).trans h3, (hb.cell (p := ⟨w.heap.size, 0, none⟩) (Nat.lt_of_lt_of_le HGP.out h0.size)).trans h4, (hb.cell (p := ⟨w.heap.size, 1, none⟩) (Nat.lt_of_lt_of_le HGP.out h0.size)).trans h5, (hb.cell (p := ⟨w.heap.size, 2, none⟩) (Nat.lt_of_lt_of_le HGP.out h0.size)).trans h6, (hb.cell (p := ⟨w.heap.size + 1, 0, none⟩) (Nat.lt_of_lt_of_le HGB.out h0.size)).trans h7, (hb.cell (p := ⟨w.heap.size + 1, 1, none⟩) (Nat.lt_of_lt_of_le HGB.out h0.size)).trans h8⟩
      have KD : Hid (Below wm.heap.size wm wm.drew ∧ wm.drew.cell? ⟨w7.heap.size, 0, none⟩ = some (.int .i64 st) ∧ wm.drew.cell? ⟨w7.heap.size, 1, none⟩ = some (.string B) ∧ wm.drew.cell? ⟨w7.heap.size, 2, none⟩ = some (.slice a7 g0 c7) ∧ wm.drew.cell? ⟨w.heap.size, 0, none⟩ = some (.int .i64 st) ∧ wm.drew.cell? ⟨w.heap.size, 1, none⟩ = some (.string B) ∧ wm.drew.cell? ⟨w.heap.size, 2, none⟩ = some (.slice a n c) ∧ wm.drew.cell? ⟨w.heap.size + 1, 0, none⟩ = some (.int .i64 k) ∧ wm.drew.cell? ⟨w.heap.size + 1, 1, none⟩ = some (.int .i64 L)) := Lib.hid ⟨(Below.refl _ _).drew, y0, y1, y2, q0, q1, q2, b0, b1⟩
      have GR := Lib.hid fun wx (h : Below wm.heap.size wm wx ∧ wx.cell? ⟨w7.heap.size, 0, none⟩ = some (.int .i64 st) ∧ wx.cell? ⟨w7.heap.size, 1, none⟩ = some (.string B) ∧ wx.cell? ⟨w7.heap.size, 2, none⟩ = some (.slice a7 g0 c7) ∧ wx.cell? ⟨w.heap.size, 0, none⟩ = some (.int .i64 st) ∧ wx.cell? ⟨w.heap.size, 1, none⟩ = some (.string B) ∧ wx.cell? ⟨w.heap.size, 2, none⟩ = some (.slice a n c) ∧ wx.cell? ⟨w.heap.size + 1, 0, none⟩ = some (.int .i64 k) ∧ wx.cell? ⟨w.heap.size + 1, 1, none⟩ = some (.int .i64 L)) => HRP.out _ _ wx (HSq9.out.below (Nat.le_refl _) h.1)
      have KE := Lib.hid fun wx (h : Below wm.heap.size wm wx ∧ wx.cell? ⟨w7.heap.size, 0, none⟩ = some (.int .i64 st) ∧ wx.cell? ⟨w7.heap.size, 1, none⟩ = some (.string B) ∧ wx.cell? ⟨w7.heap.size, 2, none⟩ = some (.slice a7 g0 c7) ∧ wx.cell? ⟨w.heap.size, 0, none⟩ = some (.int .i64 st) ∧ wx.cell? ⟨w.heap.size, 1, none⟩ = some (.string B) ∧ wx.cell? ⟨w.heap.size, 2, none⟩ = some (.slice a n c) ∧ wx.cell? ⟨w.heap.size + 1, 0, none⟩ = some (.int .i64 k) ∧ wx.cell? ⟨w.heap.size + 1, 1, none⟩ = some (.int .i64 L)) => h.1
      clear q0 q1 q2 b0 b1 s0 sy y0 y1 y2
      go_region_held3 (fun w' => Below wm.heap.size wm w' ∧ w'.cell? ⟨w7.heap.size, 0, none⟩ = some (.int .i64 st) ∧ w'.cell? ⟨w7.heap.size, 1, none⟩ = some (.string B) ∧ w'.cell? ⟨w7.heap.size, 2, none⟩ = some (.slice a7 g0 c7) ∧ w'.cell? ⟨w.heap.size, 0, none⟩ = some (.int .i64 st) ∧ w'.cell? ⟨w.heap.size, 1, none⟩ = some (.string B) ∧ w'.cell? ⟨w.heap.size, 2, none⟩ = some (.slice a n c) ∧ w'.cell? ⟨w.heap.size + 1, 0, none⟩ = some (.int .i64 k) ∧ w'.cell? ⟨w.heap.size + 1, 1, none⟩ = some (.int .i64 L)) (first | exact KD.out | exact KT.out _ _ (by assumption) (by assumption) | assumption)
        (first
          | (go_at_call 26; refine (GR.out _ ?_).mono ?_; assumption; rintro e w9 ⟨hb, v9, rfl, ho⟩; obtain ⟨a9, c9, hv9, hs9⟩ := flds_one _ _ _ _ ho; rw [HGL.out] at hv9; subst hv9)
          | (go_at_call 24; refine (HSG.out _ _ _ _ _ (HG9.out.below (Nat.le_refl _) (KE.out _ (by assumption))) hs9).mono ?_; rintro e w' ⟨rfl, hb⟩))
      have hbw := KE.out _ (by assumption)
      obtain ⟨wz, hwn⟩ : ∃ x, x = w' := ⟨_, rfl⟩
      rw [← hwn] at hbw ⊢
      clear hwn
      have HBW : Hid (Below w8.heap.size w8 wz) := Lib.hid (app_below HB9.out hbw)
      have HBE := Lib.hid (app_below HB8.out HBW.out)
      have HTx9 : Hid (SlotT wz a5 wr.heap.size w5.heap.size f) := Lib.hid (by have h := HTx8.out.below (HBW.out.mono (by have := HB68.out.size; have := HZ6.out; omega)); exact h)
      have HTy9 : Hid (SlotT wz a7 w6.heap.size w7.heap.size g0) := Lib.hid (by have h := HT8.out.below (HBW.out.mono (by have := (HY.out w8 (Below.refl _ _)).1; omega)); exact h)
      have HX9 := Lib.hid (HX.out wz (app_below HB68.out HBW.out)).2.2.2
      have HY9 := Lib.hid (HY.out wz HBW.out).2.2.2
      have HBP : Hid (Below wr.heap.size wr wz) := HBE
      clear hbw
      obtain ⟨wq, hwq⟩ : ∃ wq, wq = wr := ⟨_, rfl⟩
      subst hwq
      go_wp2_with fail
      go_loopw [17] (fun i wi => ∃ j : Nat, j ≤ f ∧ i = .int .i64 j ∧ Below wq.heap.size wq wi ∧ wi.cell? ⟨w5.heap.size, 2, none⟩ = some (.slice a5 f c5) ∧ wi.cell? ⟨w7.heap.size, 2, none⟩ = some (.slice a7 g0 c7) ∧ SlotT wi a5 wq.heap.size w5.heap.size f ∧ SlotT wi a7 w6.heap.size w7.heap.size g0) (fun i _ => f - (intOf i).toNat)
      case atStart => exact ⟨0, by omega, rfl, HBP.out, HX9.out, HY9.out, HTx9.out, HTy9.out⟩
      case round =>
        obtain ⟨j, hj, rfl, hb, hcx, hcy, htx, hty⟩ := hrel
        have HBJ := Lib.hid hb
        have HTX := Lib.hid htx
        have HTY := Lib.hid hty
        have HCX := Lib.hid hcx
        have HCY := Lib.hid hcy
        clear hb htx hty hcy
        by_cases hlt3 : j < f
        · obtain ⟨g5, rfl, hg5, hg5', hc1, hc2, hf⟩ := HTX.out j hlt3
          have hf1 := hf (j * 2)
          have hf2 := hf (j * 2 + 1)
          obtain ⟨u, hu⟩ := Option.isSome_iff_exists.1 hc1
          obtain ⟨x, hx⟩ := Option.isSome_iff_exists.1 hc2
          have HN1 : Hid (g5 ≠ w5.heap.size ∧ g5 ≠ w7.heap.size) := Lib.hid (by have := HZ6.out; have := HZ7.out; omega)
          clear hc1 hc2 hf
          go_wp2
          go_roundw
          case rel => exact ⟨j + 1, by omega, by go_num, (HBJ.out.setCell (p := ⟨g5, j * 2, none⟩) hg5 _).setCell (p := ⟨g5, j * 2 + 1, none⟩) hg5 _, by rw [set_ne HN1.out.1, set_ne HN1.out.1]; exact HCX.out, by rw [set_ne HN1.out.2, set_ne HN1.out.2]; exact HCY.out, (HTX.out.set _ _).set _ _, (HTY.out.set _ _).set _ _⟩
          case measure => simp [intOf]; omega
        · go_wp2_with fail
          go_loopw [18] (fun i wi => ∃ j : Nat, j ≤ g0 ∧ i = .int .i64 j ∧ Below wq.heap.size wq wi ∧ wi.cell? ⟨w7.heap.size, 2, none⟩ = some (.slice a7 g0 c7) ∧ SlotT wi a7 w6.heap.size w7.heap.size g0) (fun i _ => g0 - (intOf i).toNat)
          case atStart => exact ⟨0, by omega, rfl, HBJ.out, HCY.out, HTY.out⟩
          case round =>
            obtain ⟨j2, hj2, rfl, hb, hcy, hty⟩ := hrel
            have HBK := Lib.hid hb
            have HTZ := Lib.hid hty
            have HCZ := Lib.hid hcy
            clear hb hty hcx
            by_cases hlt4 : j2 < g0
            · obtain ⟨g7, rfl, hg7, hg7', hc1, hc2, hf⟩ := HTZ.out j2 hlt4
              have hf1 := hf (j2 * 2)
              have hf2 := hf (j2 * 2 + 1)
              obtain ⟨u, hu⟩ := Option.isSome_iff_exists.1 hc1
              obtain ⟨x, hx⟩ := Option.isSome_iff_exists.1 hc2
              have hgw : wq.heap.size ≤ g7 := by have := HLO.out; have := HZ6.out; omega
              have HN1 : Hid (g7 ≠ w7.heap.size) := Lib.hid (by omega)
              clear hc1 hc2 hf
              go_wp2
              go_roundw
              case rel => exact ⟨j2 + 1, by omega, by go_num, (HBK.out.setCell (p := ⟨g7, j2 * 2, none⟩) hgw _).setCell (p := ⟨g7, j2 * 2 + 1, none⟩) hgw _, by rw [set_ne HN1.out, set_ne HN1.out]; exact HCZ.out, (HTZ.out.set _ _).set _ _⟩
              case measure => simp [intOf]; omega
            · go_wp2
              go_roundw
              case rel => exact ⟨tw + 1, by omega, by go_num, app_below HBR.out HBK.out⟩
              case measure => simp [intOf]; omega
end Go.Proofs.YthkgaaibhjkngaaGreatDoor
set_option linter.unusedVariables false
namespace Go.Proofs.YthkgaaibhjkngaaGreatDoor
open Go.ChangeShapes Go.WideShapes Go.ChangeAt Go.RowKit

set_option maxRecDepth 100000 in
theorem body_in {H : Type} {enc : TypeId × Value → H} {W : World} {r : Reach} {b0 : Nat} {v : Value} {d : DataW H} {p : List MemPlace} (hv : Value.okWide Tryz.prog W r b0 40 v) (h : DataW.Trod enc Tryz.prog W 0 (fun _ => true) true 40 v d p) :
    ∃ (k L : Int), v = .agg #[.int .i64 k, .int .i64 L] ∧ L ≤ 9223372036854775807 := by
  obtain ⟨v0, v1, y0, y1, n, rfl, rfl, _, h0, h1⟩ := Go.Joins.open_agg2 Tryz.underlying40 (by kernel_rfl) (by kernel_rfl) hv h
  obtain ⟨k, e0, x0, _⟩ := DataW.trod_int Tryz.underlying3 h0
  obtain ⟨L, e1, x1, w1⟩ := DataW.trod_int Tryz.underlying2 h1
  simp only [List.cons.injEq, and_true] at e0 e1
  subst e0 e1
  exact ⟨k, L, rfl, (bounds_i64 w1).2⟩

set_option maxRecDepth 100000 in
theorem hardenHeads_lifted (os : Os) (started : os.Started) (H : Type) (enc : TypeId × Value → H) (F : Stop.Interp) :
    ReturnsInHanded {} Tryz.checked os 5 .any (fun w args => ((Rows.OpenSpec.upto Rows.hardenHeadsSpec).pre enc Tryz.checked.prog Tryz.f5 [] false w args ∧ Lies5 w) ∧ sizedMet enc Tryz.checked.prog Tryz.f5 (Rows.OpenSpec.upto Rows.hardenHeadsSpec) false w args)
      (((Rows.OpenSpec.upto Rows.hardenHeadsSpec).at F).post enc Tryz.checked.prog Tryz.f5 false true false false) := by
  refine upto_frame5 started (by kernel_rfl) Tryz.func5 #[.agg #[.int .i64 0, .string ⟨#[]⟩, .slice none 0 0], .int .i64 0, .agg #[.int .i64 0, .int .i64 0], .bool false] 8 (World.shaped_of_ZipB (by kernel_rfl) (by kernel_rfl)) (by kernel_rfl) (x := ([.agg [.lit (.int .i64 0), .lit (.string []), .nil], .lit (.int .i64 0), .agg [.lit (.int .i64 0), .lit (.int .i64 0)], .lit (.bool false)], [], [])) (by kernel_rfl) (by kernel_rfl) (by kernel_rfl) ?_
  intro W base args ds gs before hval0 hW hk hlaid
  have hval : ∀ (j : Nat) t v, Tryz.f5.params[j]? = some t → args[j]? = some v → Value.okWide Tryz.prog W .any base t v := hval0
  have hW' := hW
  obtain ⟨p, q, hA0, hV, rfl, hfz, hnd⟩ := hW
  have hA : DataW.TrodAll enc Tryz.prog W 0 (fun _ => true) true Tryz.f5.params.toList args.toList ds p := hA0
  rw [Tryz.params5] at hA hval
  obtain ⟨v0, v1, v2, v3, d0, d1, d2, d3, p0, p1, p2, p3, rfl, rfl, rfl, h0, h1, h2, h3⟩ := trodAll_four hA
  obtain ⟨rfl, rfl⟩ := trodVars_none hV
  have b0 : Rows.uptoBulk d0 ≤ 1048576 := small_of hk (by simp)
  have b1 : Rows.uptoBulk d1 ≤ 1048576 := small_of hk (by simp)
  have b2 : Rows.uptoBulk d2 ≤ 1048576 := small_of hk (by simp)
  have b3 : Rows.uptoBulk d3 ≤ 1048576 := small_of hk (by simp)
  have k0 := h0
  have k1 := h1
  have k2 := h2
  have k3 := h3
  have lt0 : ∀ x ∈ p0, x.block < W.heap.size := by obtain ⟨m, hm⟩ := k0; exact DataW.trod_lt m _ _ _ hm
  have lt1 : ∀ x ∈ p1, x.block < W.heap.size := by obtain ⟨m, hm⟩ := k1; exact DataW.trod_lt m _ _ _ hm
  have lt2 : ∀ x ∈ p2, x.block < W.heap.size := by obtain ⟨m, hm⟩ := k2; exact DataW.trod_lt m _ _ _ hm
  have lt3 : ∀ x ∈ p3, x.block < W.heap.size := by obtain ⟨m, hm⟩ := k3; exact DataW.trod_lt m _ _ _ hm
  obtain ⟨t0, r0, a0, c0, l0, rfl, s0, z0⟩ := resp_in (hval 0 26 v0 rfl rfl) h0 b0
  obtain ⟨a1, rfl, rfl, rfl, w1⟩ := open_int Tryz.underlying3 (hval 1 3 v1 rfl rfl) h1
  obtain ⟨a2, e2, rfl, w2⟩ := body_in (hval 2 40 v2 rfl rfl) h2
  obtain ⟨a3, rfl⟩ := okWide_bool Tryz.underlying4 (hval 3 4 v3 rfl rfl)
  clear hA0 hval0
  refine (hardenHeads_any l0 t0 r0 a1 a2 e2 a3 a0 l0.length c0 W rfl s0 (by omega) (bounds_i64 w1).2 w2 (tabP_of_laid hlaid)).mono fun e W' ⟨he, bel⟩ => ?_
  subst he
  exact ⟨_, rfl, _, _, _, [], _, [], hW', trodAll_mk1 (shut_bool Tryz.underlying4 _), (trodAll_cons_mk (Below.trod laidOut (by kernel_rfl) (of_decide_eq_true (by kernel_rfl)) k0 bel lt0) (trodAll_cons_mk (Below.trod laidOut (by kernel_rfl) (of_decide_eq_true (by kernel_rfl)) k1 bel lt1) (trodAll_cons_mk (Below.trod laidOut (by kernel_rfl) (of_decide_eq_true (by kernel_rfl)) k2 bel lt2) (trodAll_cons_mk (Below.trod laidOut (by kernel_rfl) (of_decide_eq_true (by kernel_rfl)) k3 bel lt3) trodAll_mk0)))), rfl, bel.frame _, fun h => by cases h⟩

theorem hardenHeads_holds : Rows.HardenHeadsUptoSaid :=
  OpenClaim.holds_of_cond 5 Tryz.f5 rfl rfl rfl rfl rfl rfl rfl ⟨rfl, rfl, rfl, rfl, rfl⟩ rfl rfl rfl rfl rfl (by kernel_rfl) Tryz.func5 (by kernel_rfl)
    (of_decide_eq_true (by kernel_rfl)) (by unfold Func.isWrapper; first | (rw [if_pos (by decide +kernel)]; kernel_rfl) | (rw [if_neg (by decide +kernel)]; exact ⟨rfl, rfl⟩))
    (fun os started H enc _ F => hardenHeads_lifted os started H enc F)

theorem hardenHeads_card : Rows.HardenHeadsUptoCardSaid :=
  Claim7.holds_tied_plain_at .later [] [.data, .data, .data, .data, .pinned] true (true, "0ba50fd8daff17a9c0c35a05969a33e5e1a85e596611f7a468f016ea59ad2cac") true
    hardenHeads_holds (fun _ h => by cases h) (by kernel_rfl) (fun _ h => by cases h) hardenHeadsUpto_row_tie rfl ⟨rfl, rfl⟩ (by kernel_rfl) rfl
    (fun f fn hf hfn => by
      obtain rfl : f = 5 := Option.some.inj ((show Tryz.prog.funcNamed "colander/colanderlaw21.HardenHeads" = some 5 by kernel_rfl).symm.trans hf) |>.symm
      obtain rfl : fn = Tryz.f5 := (Option.some.inj (Tryz.func5.symm.trans hfn)).symm
      exact ⟨by kernel_rfl, fun j t ht => by
        rw [Tryz.params5] at ht
        have hm : t ∈ [26, 3, 40, 4] := by simpa using Array.mem_of_getElem? ht
        have hall : ([26, 3, 40, 4].all fun u => !Tryz.prog.wantsStandIn u) = true := by kernel_rfl
        exact (show Tryz.prog.wantsStandIn t = false by simpa using List.all_eq_true.1 hall t hm)⟩)
    (by kernel_rfl)
end Go.Proofs.YthkgaaibhjkngaaGreatDoor
