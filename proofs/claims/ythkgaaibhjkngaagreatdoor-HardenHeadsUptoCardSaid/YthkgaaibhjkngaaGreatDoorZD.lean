/- HardenForwards. -/
import Derived.Test.YthkgaaibhjkngaaGreatDoorZC
import Derived.Test.YthkgaaibhjkngaaGreatDoorJM
import Derived.Test.YthkgaaibhjkngaaGreatDoorFI
set_option linter.unusedVariables false
namespace Go.Proofs.YthkgaaibhjkngaaGreatDoor
open Go.RowKit

theorem app_below {A B C : World} (h : Below A.heap.size A B) (h2 : Below B.heap.size B C) : Below A.heap.size A C := h.trans (h2.mono h.size)
theorem kept_z (w w2 : World) (cs : Array Value) (t : TypeId) (hb : Below (w.alloc (.cells cs t)).heap.size (w.alloc (.cells cs t)) w2) (j : Nat) :
    w2.cell? ⟨w.heap.size, j, none⟩ = cs[j]? ∧ w2.frozen? ⟨w.heap.size, j, none⟩ = false := by
  have h := at_alloc w cs t j
  exact ⟨(hb.cell (p := ⟨w.heap.size, j, none⟩) (by simp)).trans h.1, (hb.frozen (p := ⟨w.heap.size, j, none⟩) (by simp)).trans h.2⟩
/-- cells of fields that may be written -/
def SlotF (w : World) (a : Option Addr) (base n : Nat) : Prop := ∀ j, j < n → ∃ g, a = some ⟨g, 0, none⟩ ∧ base ≤ g ∧ (w.cell? ⟨g, j * 2, none⟩).isSome = true ∧ (w.cell? ⟨g, j * 2 + 1, none⟩).isSome = true ∧ (∀ o, w.frozen? ⟨g, o, none⟩ = false)
theorem ownF_slots {w : World} {base n c : Nat} {a : Option Addr} {l : AL} (h : OwnF w base (.slice a n c) l) : SlotF w a base n ∧ n = l.length := by
  rcases h.2 with ⟨h1, h0⟩ | ⟨g, cap, cur, h1, hb, hg, h2, h3, h4⟩
  · injection h1 with e1 e2 e3
    subst e1 e2
    exact ⟨fun j hj => by omega, h0.symm⟩
  · injection h1 with e1 e2 e3
    subst e1 e2 e3
    refine ⟨fun j hj => ?_, rfl⟩
    obtain ⟨f1, f2⟩ := flat_at l j hj
    have c1 := World.ownsRow.cells h (g := g) rfl _ _ f1
    have c2 := World.ownsRow.cells h (g := g) rfl _ _ f2
    rw [Go.WideShapes.add_plain, Nat.zero_add] at c1 c2
    exact ⟨g, rfl, hb, by rw [c1]; rfl, by rw [c2]; rfl, fun o => Lib.frozen_of_heap hg _⟩
theorem set_some {w : World} {p q : Addr} {u : Value} (h : (w.cell? p).isSome = true) : ((w.setCell q u).cell? p).isSome = true := by
  by_cases e : p = q
  · subst e
    obtain ⟨x, hx⟩ := Option.isSome_iff_exists.1 h
    rw [World.cell?_setCell_same _ _ _ hx]; rfl
  · rw [World.cell?_setCell_other _ _ _ _ (Ne.symm e)]; exact h
theorem SlotF.set {w : World} {a : Option Addr} {base n : Nat} (h : SlotF w a base n) (q : Addr) (u : Value) : SlotF (w.setCell q u) a base n := fun j hj => by
  obtain ⟨g, h1, h2, h3, h4, h5⟩ := h j hj
  exact ⟨g, h1, h2, set_some h3, set_some h4, fun o => by rw [World.frozen?_setCell]; exact h5 o⟩
theorem flds_one (l : AL) (v : Value) (w : World) (B : Nat) (h : OwnF w B v l) : ∃ a c, v = .slice a l.length c ∧ SrcA w a c l := by
  obtain ⟨a, c, rfl, hs, _⟩ := ownF_src h
  exact ⟨a, c, rfl, hs⟩
theorem fwdF_len (l : AL) (z : Int) : (fwdF l z).length ≤ l.length + 1 := by
  have := woF_len l (hopF l ++ [kAE, kEx])
  unfold fwdF
  rw [List.length_append]
  split <;> simp <;> omega

set_option maxHeartbeats 32000000 in
set_option maxRecDepth 100000 in
theorem hardenForwards_any (l : AL) (A B : ByteArray) (z : Int) (a : Option Addr) (n c : Nat) (w : World) (hn : l.length = n) (hs : SrcA w a c l) (hz : asz l ≤ 16777216) (h1 : z ≤ 9223372036854775807) (ht : TabP w) :
    Calls Tryz.prog 4 #[.agg #[.string A, .string B, .slice a n c], .int .i64 z] w fun e w' => e = .returned (.bool true) ∧ Below w.heap.size w w' := by
  have hnb : n ≤ 16777216 := by have := asz_len l; omega
  obtain ⟨w0, hw0⟩ : ∃ w0, w0 = w.alloc (.cells #[.string A, .string B, .slice a n c] 24) := ⟨_, rfl⟩
  have hb0 : Below w.heap.size w w0 := by rw [hw0]; exact (Below.refl _ _).alloc (Nat.le_refl _) _
  have HQ : Hid (∀ wx, Below w0.heap.size w0 wx → w.heap.size < wx.heap.size ∧ wx.cell? ⟨w.heap.size, 0, none⟩ = some (.string A) ∧ wx.cell? ⟨w.heap.size, 1, none⟩ = some (.string B) ∧ wx.cell? ⟨w.heap.size, 2, none⟩ = some (.slice a n c)) := Lib.hid (by
    rw [hw0]
    exact fun wx hb => ⟨Nat.lt_of_lt_of_le (by simp) hb.size, (kept_z w wx _ _ hb 0).1, (kept_z w wx _ _ hb 1).1, (kept_z w wx _ _ hb 2).1⟩)
  have HW0 := Lib.hid hw0
  have HB0 := Lib.hid hb0
  have HS0 := Lib.hid (hs.below (Nat.le_refl _) hb0)
  have HT0 := Lib.hid (ht.below hb0)
  have H0 := Lib.hid fun wx (hb : Below w0.heap.size w0 wx) => shown21_any wx (HT0.out.below hb)
  have HL : Hid (∀ a c wx, SrcA wx a c l → Calls Tryz.prog 15 #[.slice a n c] wx fun e w' => Below wx.heap.size wx w' ∧ ∃ g cap, e = .returned (.slice (some ⟨g, 0, none⟩) n cap) ∧ wx.heap.size ≤ g ∧ SrcA w' (some ⟨g, 0, none⟩) cap (l ++ [bang])) := Lib.hid fun a c wx h => by
    have := lent_any l a n c wx hn h (by omega); unfold LentSays at this; rw [hn] at this; exact this
  have HK : Hid (∀ a c g cap wx, SrcA wx a c l → SrcA wx (some ⟨g, 0, none⟩) cap (l ++ [bang]) → Calls Tryz.prog 21 #[.slice (some ⟨g, 0, none⟩) n cap, .slice a n c] wx fun e w' => e = .returned (.bool true) ∧ Below wx.heap.size wx w') := Lib.hid fun a c g cap wx h1 h2 =>
    kept_any l a n c g cap wx hn h1 h2 (by omega)
  have HRF : Hid (∀ a c wx, SrcA wx a c l → Calls Tryz.prog 16 #[.agg #[.string A, .string B, .slice a n c], .int .i64 z] wx (ReqSays A B (fwdF l z) wx)) := Lib.hid fun a c wx h => rforward_any l A B z a n c wx hn h hz h1
  have HF : Hid (∀ a c wx, Below w0.heap.size w0 wx → SrcA wx a c l → Calls Tryz.prog 17 #[.agg #[.string A, .string B, .slice a n c], .int .i64 z] wx (ReqSays A B (fwdF l z) wx)) := Lib.hid fun a c wx hb h => forward_any l A B z a n c wx hn h hz h1 (HT0.out.below hb)
  have HKP : Hid (∀ a c wx, SrcA wx a c l → Calls Tryz.prog 19 #[.slice a n c] wx fun e w' => e = .returned (.bool (keepsF l)) ∧ Below wx.heap.size wx w') := Lib.hid fun a c wx h => keepsF_any l a n c wx hn h (by omega)
  have HKR : Hid (∀ a c wx, SrcA wx a c l → Calls Tryz.prog 20 #[.slice a n c] wx fun e w' => e = .returned (.bool (keepsF l)) ∧ Below wx.heap.size wx w') := Lib.hid fun a c wx h => rkeeps_any l a n c wx hn h hz
  have hFl := fwdF_len l z
  rw [hn] at hFl
  generalize fwdF l z = F at HRF HF hFl
  obtain ⟨f, hf⟩ : ∃ f, F.length = f := ⟨_, rfl⟩
  rw [hf] at hFl
  have HFL := Lib.hid hf
  have HSM := Lib.hid fun (a1 a2 : Option Addr) c1 c2 wx (h1 : SrcA wx a1 c1 F) (h2 : SrcA wx a2 c2 F) => sameReq_eq A B F a1 a2 f c1 c2 wx hf h1 h2 (by omega)
  generalize keepsF l = kb at HKP HKR
  clear hw0 hb0 hs hn hz ht h1 hf
  go_enter Tryz.func4, Tryz.ntmps4
  go_wp2_with fail
  rw [← HW0.out]
  refine (H0.out _ (Below.refl _ _)).mono ?_; rintro e w1 ⟨rfl, hb⟩
  have HB1 := Lib.hid hb
  have HS1 := Lib.hid (HS0.out.below (Nat.le_refl _) hb)
  obtain ⟨s0, q0, q1, q2⟩ := HQ.out w1 hb
  clear hb
  go_wp2_with fail
  refine (HL.out _ _ _ HS1.out).mono ?_; rintro e w2 ⟨hb, g, cap, rfl, hge, hsl⟩
  have HB2 := Lib.hid (app_below HB1.out hb)
  have HL2 := Lib.hid hsl
  have HS2 := Lib.hid (HS1.out.below (Nat.le_refl _) hb)
  obtain ⟨s0, q0, q1, q2⟩ := HQ.out w2 HB2.out
  clear hb hsl hge
  go_wp2_with fail
  refine (HRF.out _ _ _ HS2.out).mono ?_; rintro e w3 ⟨hb, v3, rfl, ho⟩
  obtain ⟨a3, c3, hv3, hs3⟩ := flds_one _ _ _ _ ho
  rw [HFL.out] at hv3
  subst hv3
  have HB3 := Lib.hid (app_below HB2.out hb)
  have HL3 := Lib.hid (HL2.out.below (Nat.le_refl _) hb)
  have HS3 := Lib.hid (HS2.out.below (Nat.le_refl _) hb)
  have HF3 := Lib.hid hs3
  clear hb ho hs3 q0 q1 q2 s0
  obtain ⟨w4, hw4⟩ : ∃ w4, w4 = w3.alloc (.cells #[.string A, .string B, .slice a3 f c3] 24) := ⟨_, rfl⟩
  have hb34 : Below w3.heap.size w3 w4 := by rw [hw4]; exact (Below.refl _ _).alloc (Nat.le_refl _) _
  have HB4 := Lib.hid (app_below HB3.out hb34)
  have HL4 := Lib.hid (HL3.out.below (Nat.le_refl _) hb34)
  have HS4 := Lib.hid (HS3.out.below (Nat.le_refl _) hb34)
  have HF4 := Lib.hid (HF3.out.below (Nat.le_refl _) hb34)
  have HP : Hid (∀ wx, Below w4.heap.size w4 wx → w3.heap.size < wx.heap.size ∧ wx.cell? ⟨w3.heap.size, 0, none⟩ = some (.string A) ∧ wx.cell? ⟨w3.heap.size, 1, none⟩ = some (.string B) ∧ wx.cell? ⟨w3.heap.size, 2, none⟩ = some (.slice a3 f c3)) := Lib.hid (by
    rw [hw4]
    exact fun wx hb => ⟨Nat.lt_of_lt_of_le (by simp) hb.size, (kept_z w3 wx _ _ hb 0).1, (kept_z w3 wx _ _ hb 1).1, (kept_z w3 wx _ _ hb 2).1⟩)
  have HW4 := Lib.hid hw4
  clear hw4 hb34
  go_wp2_with fail
  rw [← HW4.out]
  go_loopw [8] (fun i wr => ∃ k : Nat, k ≤ 2 ∧ i = .int .i64 k ∧ Below w4.heap.size w4 wr) (fun i _ => 2 - (intOf i).toNat)
  case atStart => exact ⟨0, by omega, rfl, Below.refl _ _⟩
  case round =>
    obtain ⟨tw, htw, rfl, hb⟩ := hrel
    have HBR := Lib.hid hb
    have HLr := Lib.hid (HL4.out.below (Nat.le_refl _) hb)
    have HSr := Lib.hid (HS4.out.below (Nat.le_refl _) hb)
    have HFr := Lib.hid (HF4.out.below (Nat.le_refl _) hb)
    have HB0r := Lib.hid (app_below HB4.out hb)
    obtain ⟨s0, q0, q1, q2⟩ := HQ.out wr HB0r.out
    clear hb
    by_cases hlt : tw < 2
    case neg =>
      go_wp2_with fail
      refine (HK.out _ _ _ _ _ HSr.out HLr.out).mono ?_; rintro e w5 ⟨rfl, hb⟩
      have HBE := Lib.hid (app_below (app_below HB0.out HB0r.out) hb)
      clear hb
      go_wp2
      go_ret
      exact ⟨rfl, HBE.out⟩
    case pos =>
      go_wp2_with fail
      refine (HF.out _ _ _ HB0r.out (srcA_first HLr.out)).mono ?_; rintro e w5 ⟨hb, v5, rfl, ho⟩
      obtain ⟨a5, c5, hv5, hs5⟩ := flds_one _ _ _ _ ho
      rw [HFL.out] at hv5
      subst hv5
      obtain ⟨w6, hw6⟩ : ∃ w6, w6 = w5.alloc (.cells #[.string A, .string B, .slice a5 f c5] 24) := ⟨_, rfl⟩
      have hb56 : Below w5.heap.size w5 w6 := by rw [hw6]; exact (Below.refl _ _).alloc (Nat.le_refl _) _
      have hbr6 : Below wr.heap.size wr w6 := app_below hb hb56
      have HB6 := Lib.hid hbr6
      have HO6 := Lib.hid (ownF_below ho (Nat.le_refl _) hb56)
      have HS6 := Lib.hid (hs5.below (Nat.le_refl _) hb56)
      have HF6 := Lib.hid (HFr.out.below (Nat.le_refl _) hbr6)
      have HL6 := Lib.hid (HLr.out.below (Nat.le_refl _) hbr6)
      have HSq6 := Lib.hid (HSr.out.below (Nat.le_refl _) hbr6)
      have HX : Hid (∀ wx, Below w6.heap.size w6 wx → w5.heap.size < wx.heap.size ∧ wx.cell? ⟨w5.heap.size, 0, none⟩ = some (.string A) ∧ wx.cell? ⟨w5.heap.size, 1, none⟩ = some (.string B) ∧ wx.cell? ⟨w5.heap.size, 2, none⟩ = some (.slice a5 f c5)) := Lib.hid (by
        rw [hw6]
        exact fun wx hb => ⟨Nat.lt_of_lt_of_le (by simp) hb.size, (kept_z w5 wx _ _ hb 0).1, (kept_z w5 wx _ _ hb 1).1, (kept_z w5 wx _ _ hb 2).1⟩)
      obtain ⟨sp, p0, p1, p2⟩ := HP.out w5 (app_below HBR.out hb)
      have HW6 := Lib.hid hw6
      have HG0 := Lib.hid s0
      clear hb ho hs5 hw6 hb56 hbr6 q0 q1 q2 s0
      go_wp2_with fail
      rw [← HW6.out]
      refine (HSM.out _ _ _ _ _ HS6.out HF6.out).mono ?_; rintro e w7 ⟨rfl, hb⟩
      have HB7 := Lib.hid (app_below HB6.out hb)
      have HB67 := Lib.hid hb
      have HL7 := Lib.hid (HL6.out.below (Nat.le_refl _) hb)
      have HSq7 := Lib.hid (HSq6.out.below (Nat.le_refl _) hb)
      have HO7 := Lib.hid (ownF_below HO6.out (Nat.le_refl _) hb)
      have HB0_7 := Lib.hid (app_below HB0r.out HB7.out)
      obtain ⟨s0, q0, q1, q2⟩ := HQ.out w7 HB0_7.out
      have HG7 := Lib.hid s0
      have HQ7 := Lib.hid q2
      clear hb p0 p1 p2 sp q0 q1 s0
      go_wp2_with fail
      have KT : Hid (∀ x y : World, (Below w7.heap.size w7 x ∧ x.cell? ⟨w.heap.size, 2, none⟩ = some (.slice a n c)) → Below x.heap.size x y → (Below w7.heap.size w7 y ∧ y.cell? ⟨w.heap.size, 2, none⟩ = some (.slice a n c))) := Lib.hid fun x y ⟨h1, h2⟩ hb =>
        ⟨app_below h1 hb, (hb.cell (p := ⟨w.heap.size, 2, none⟩) (Nat.lt_of_lt_of_le HG7.out h1.size)).trans h2⟩
      have KD : Hid (Below w7.heap.size w7 w7.drew ∧ w7.drew.cell? ⟨w.heap.size, 2, none⟩ = some (.slice a n c)) := Lib.hid ⟨(Below.refl _ _).drew, q2⟩
      have GK := Lib.hid fun wx (h : Below w7.heap.size w7 wx ∧ wx.cell? ⟨w.heap.size, 2, none⟩ = some (.slice a n c)) => HKP.out _ _ wx ((srcA_first HL7.out).below (Nat.le_refl _) h.1)
      have GR := Lib.hid fun wx (h : Below w7.heap.size w7 wx ∧ wx.cell? ⟨w.heap.size, 2, none⟩ = some (.slice a n c)) => HKR.out _ _ wx (HSq7.out.below (Nat.le_refl _) h.1)
      have KE := Lib.hid fun wx (h : Below w7.heap.size w7 wx ∧ wx.cell? ⟨w.heap.size, 2, none⟩ = some (.slice a n c)) => h.1
      clear q2
      cases kb
      all_goals
        go_region_held3 (fun w' => Below w7.heap.size w7 w' ∧ w'.cell? ⟨w.heap.size, 2, none⟩ = some (.slice a n c)) (first | exact KD.out | exact KT.out _ _ (by assumption) (by assumption) | assumption)
          (first
            | (go_at_call 19; refine (GK.out _ ?_).mono ?_; assumption; rintro e w' ⟨rfl, hb⟩)
            | (go_at_call 20; refine (GR.out _ ?_).mono ?_; assumption; rintro e w' ⟨rfl, hb⟩))
        have hbe := KE.out _ (by assumption)
        obtain ⟨w8, hw8⟩ : ∃ w8, w8 = w' := ⟨_, rfl⟩
        rw [← hw8] at hbe ⊢
        have HB8 := Lib.hid (app_below HB7.out hbe)
        have HO8 : Hid (OwnF (w8.alloc (.cells #[.string ⟨#[]⟩, .string ⟨#[]⟩] 37)) wr.heap.size _ F) := Lib.hid (ownF_alloc (ownF_below HO7.out (Nat.le_refl _) hbe) _)
        have HL8 := Lib.hid (lit_fld ⟨#[]⟩ ⟨#[]⟩ w8)
        have HB8a : Hid (Below wr.heap.size wr (w8.alloc (.cells #[.string ⟨#[]⟩, .string ⟨#[]⟩] 37))) := Lib.hid (HB8.out.alloc HB8.out.size _)
        obtain ⟨sx, x0, x1, x2⟩ := HX.out w8 (app_below HB67.out hbe)
        clear hw8 hbe
        go_wp2_with (at_builtin; refine app_flds rfl _ _ rfl wr.heap.size _ F rfl HO8.out _ 1 1 [(⟨#[]⟩, ⟨#[]⟩)] rfl rfl HL8.out ?n2 HB8a.out.size ?_)
        case n2 => rw [HFL.out]; show (_ + 1) * 32 ≤ _; omega
        intro v9 w9 hown9 hb9 _
        have HB9 : Hid (Below wr.heap.size wr w9) := Lib.hid (HB8a.out.trans hb9.out)
        obtain ⟨a9, c9, rfl, hs9⟩ := flds_one _ _ _ _ hown9
        have hsl9 := (ownF_slots hown9).1
        have hlen : (F ++ [((⟨#[]⟩ : ByteArray), (⟨#[]⟩ : ByteArray))]).length = f + 1 := by rw [List.length_append, HFL.out]; rfl
        rw [hlen] at hsl9 ⊢
        have HSL9 := Lib.hid hsl9
        clear hown9 hb9 hs9 hsl9 hlen x0 x1 x2 sx
        obtain ⟨wq, hwq⟩ : ∃ wq, wq = wr := ⟨_, rfl⟩
        subst hwq
        go_wp2_with fail
        go_loopw [12] (fun i wi => ∃ j : Nat, j ≤ f + 1 ∧ i = .int .i64 j ∧ Below wq.heap.size wq wi ∧ SlotF wi a9 wq.heap.size (f + 1)) (fun i _ => f + 1 - (intOf i).toNat)
        case atStart => exact ⟨0, by omega, rfl, HB9.out, HSL9.out⟩
        case round =>
          obtain ⟨j, hj, rfl, hb, hsl⟩ := hrel
          have HBJ := Lib.hid hb
          have HSJ := Lib.hid hsl
          clear hb
          by_cases hlt3 : j < f + 1
          · obtain ⟨g5, rfl, hg5, hc1, hc2, hf⟩ := hsl j hlt3
            have hf1 := hf (j * 2)
            have hf2 := hf (j * 2 + 1)
            obtain ⟨u, hu⟩ := Option.isSome_iff_exists.1 hc1
            obtain ⟨x, hx⟩ := Option.isSome_iff_exists.1 hc2
            clear hc1 hc2 hsl hf
            go_wp2
            go_roundw
            case rel => exact ⟨j + 1, by omega, by go_num, (HBJ.out.setCell (p := ⟨g5, j * 2, none⟩) hg5 _).setCell (p := ⟨g5, j * 2 + 1, none⟩) hg5 _, (HSJ.out.set _ _).set _ _⟩
            case measure => simp [intOf]; omega
          · clear hsl
            go_wp2
            go_roundw
            case rel => exact ⟨tw + 1, by omega, by go_num, app_below HBR.out HBJ.out⟩
            case measure => simp [intOf]; omega
end Go.Proofs.YthkgaaibhjkngaaGreatDoor
