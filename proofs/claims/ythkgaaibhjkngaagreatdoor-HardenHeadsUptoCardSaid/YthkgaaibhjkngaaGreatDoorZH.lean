/- The document's answer: Plain. -/
import Derived.Test.YthkgaaibhjkngaaGreatDoorZG
import Derived.Test.YthkgaaibhjkngaaGreatDoorHV
set_option linter.unusedVariables false
namespace Go.Proofs.YthkgaaibhjkngaaGreatDoor
open Go.RowKit
attribute [local go_sem ↓] Go.wp_at_zero Go.wp_at_succ

set_option maxHeartbeats 32000000 in
set_option maxRecDepth 100000 in
theorem rplain_any (l : AL) (st : Int) (B : ByteArray) (k L : Int) (last : Bool) (a : Option Addr) (n c : Nat) (w : World) (hn : l.length = n) (hs : SrcA w a c l) (hz : asz l ≤ 16777216) (h1 : L ≤ 9223372036854775807) :
    Calls Tryz.prog 26 #[.agg #[.int .i64 st, .string B, .slice a n c], .agg #[.int .i64 k, .int .i64 L], .bool last] w (RespSays st B (plainF l k L last) w) := by
  obtain ⟨wb, hwb⟩ : ∃ wb, wb = ((w.alloc (.cells #[.int .i64 st, .string B, .slice a n c] 26)).alloc (.cells #[.int .i64 k, .int .i64 L] 40)).alloc (.cells #[.int .i64 0, .string ⟨#[]⟩, .slice none 0 0] 26) := ⟨_, rfl⟩
  have h2 : Tri w wb (.int .i64 st) (.string B) (.slice a n c) (.int .i64 k) (.int .i64 L) (.int .i64 0) (.string ⟨#[]⟩) (.slice none 0 0) := by rw [hwb]; exact tri_new ..
  have hh := fun wx (hb : Below wb.heap.size wb wx) => rhop_any l a n c wx hn ((hs.below (Nat.le_refl _) h2.below).below (Nat.le_refl _) hb) hz
  have hw := fun wx (hb : Below wb.heap.size wb wx) (b : Option Addr) d m (hl : (hopF l ++ [kCTO]).length = m) (hs2 : SrcS wx b d (hopF l ++ [kCTO])) => rWithout_any l (hopF l ++ [kCTO]) a b n c m d wx hn hl ((hs.below (Nat.le_refl _) h2.below).below (Nat.le_refl _) hb) hs2 (by omega) (by have := hopF_bsz l; have h9 : bsz ([kCTO]) ≤ 1000 := (by decide); rw [bsz_app]; omega)
  have hl1 := woF_len l (hopF l ++ [kCTO])
  have hl2 := asz_len l
  have hl3 : (hopF l).length ≤ 16777416 := by have := bsz_len (hopF l); have := hopF_bsz l; omega
  obtain ⟨R, hR⟩ : ∃ R, R = plainF l k L last := ⟨_, rfl⟩
  rw [← hR]
  unfold plainF at hR
  generalize woF l (hopF l ++ [kCTO]) = F at hw hl1 hR
  generalize hopF l = T at hh hw hl3
  have hlF : F.length ≤ 16777216 := by omega
  have HLF := Lib.hid hlF
  have HH := Lib.hid hh
  have HW := Lib.hid hw
  have HWB := Lib.hid hwb
  have H2 := Lib.hid h2
  have HB0 := Lib.hid h2.below
  have HG : Hid (w.heap.size < wb.heap.size) := Lib.hid (by rw [h2.size]; omega)
  obtain ⟨c0, c1, c2, _⟩ := h2.keep (Below.refl _ _)
  clear hw hh hs hn hz hl1 hl2 hwb h2
  unfold midF at hR
  by_cases hk1 : k = 1
  · subst hk1
    rw [if_pos rfl] at hR
    by_cases h0 : 0 ≤ L
    · have hD := fun wx => rdig_any L h0 h1 wx
      rw [if_pos h0] at hR
      have hlen : fLen L = (⟨#[67, 111, 110, 116, 101, 110, 116, 45, 76, 101, 110, 103, 116, 104]⟩, mk (dstr L)) := rfl
      rw [hlen] at hR
      generalize mk (dstr L) = p2 at hD hR
      have HD := Lib.hid hD
      clear hD h1 hlen
      cases last
      · have HV := Lib.hid hR
        clear hR
        go_enter Tryz.func26, Tryz.ntmps26
        go_wp2_with fail
        rw [← HWB.out]
        have KT : Hid (∀ x y : World, (Below wb.heap.size wb x ∧ x.cell? ⟨w.heap.size, 0, none⟩ = some (.int .i64 st) ∧ x.cell? ⟨w.heap.size, 1, none⟩ = some (.string B) ∧ x.cell? ⟨w.heap.size, 2, none⟩ = some (.slice a n c)) → Below x.heap.size x y → (Below wb.heap.size wb y ∧ y.cell? ⟨w.heap.size, 0, none⟩ = some (.int .i64 st) ∧ y.cell? ⟨w.heap.size, 1, none⟩ = some (.string B) ∧ y.cell? ⟨w.heap.size, 2, none⟩ = some (.slice a n c))) := Lib.hid fun x y ⟨h1, h2, h3, h4⟩ hb =>
          ⟨h1.trans (hb.mono h1.size), (hb.cell (p := ⟨w.heap.size, 0, none⟩) (Nat.lt_of_lt_of_le HG.out h1.size)).trans h2, (hb.cell (p := ⟨w.heap.size, 1, none⟩) (Nat.lt_of_lt_of_le HG.out h1.size)).trans h3, (hb.cell (p := ⟨w.heap.size, 2, none⟩) (Nat.lt_of_lt_of_le HG.out h1.size)).trans h4⟩
        have KD : Hid (Below wb.heap.size wb wb.drew ∧ wb.drew.cell? ⟨w.heap.size, 0, none⟩ = some (.int .i64 st) ∧ wb.drew.cell? ⟨w.heap.size, 1, none⟩ = some (.string B) ∧ wb.drew.cell? ⟨w.heap.size, 2, none⟩ = some (.slice a n c)) := Lib.hid ⟨(Below.refl _ _).drew, c0, c1, c2⟩
        have KB : Hid (∀ x : World, (Below wb.heap.size wb x ∧ x.cell? ⟨w.heap.size, 0, none⟩ = some (.int .i64 st) ∧ x.cell? ⟨w.heap.size, 1, none⟩ = some (.string B) ∧ x.cell? ⟨w.heap.size, 2, none⟩ = some (.slice a n c)) → Below wb.heap.size wb x) := Lib.hid fun x h => h.1
        have GH := Lib.hid fun wx (h : Below wb.heap.size wb wx ∧ wx.cell? ⟨w.heap.size, 0, none⟩ = some (.int .i64 st) ∧ wx.cell? ⟨w.heap.size, 1, none⟩ = some (.string B) ∧ wx.cell? ⟨w.heap.size, 2, none⟩ = some (.slice a n c)) => HH.out wx h.1
        have GW := Lib.hid fun wx (h : Below wb.heap.size wb wx ∧ wx.cell? ⟨w.heap.size, 0, none⟩ = some (.int .i64 st) ∧ wx.cell? ⟨w.heap.size, 1, none⟩ = some (.string B) ∧ wx.cell? ⟨w.heap.size, 2, none⟩ = some (.slice a n c)) => HW.out wx h.1
        have NL := Lib.hid fun wx => lit_strl [kCTO] #[.string ⟨#[88, 45, 67, 111, 110, 116, 101, 110, 116, 45, 84, 121, 112, 101, 45, 79, 112, 116, 105, 111, 110, 115]⟩] rfl wx
        have KT2 : Hid (∀ x y : World, (Below wb.heap.size wb x ∧ x.cell? ⟨w.heap.size, 0, none⟩ = some (.int .i64 st) ∧ x.cell? ⟨w.heap.size, 1, none⟩ = some (.string B) ∧ x.cell? ⟨w.heap.size, 2, none⟩ = some (.slice a n c)) → Below wb.heap.size x y → (Below wb.heap.size wb y ∧ y.cell? ⟨w.heap.size, 0, none⟩ = some (.int .i64 st) ∧ y.cell? ⟨w.heap.size, 1, none⟩ = some (.string B) ∧ y.cell? ⟨w.heap.size, 2, none⟩ = some (.slice a n c))) := Lib.hid fun x y ⟨h1, h2, h3, h4⟩ hb =>
          ⟨h1.trans hb, (hb.cell (p := ⟨w.heap.size, 0, none⟩) HG.out).trans h2, (hb.cell (p := ⟨w.heap.size, 1, none⟩) HG.out).trans h3, (hb.cell (p := ⟨w.heap.size, 2, none⟩) HG.out).trans h4⟩
        have HTL : Hid (T.length ≤ 16777416) := Lib.hid hl3
        clear c0 c1 c2
        go_region_held3 (fun w' => Below wb.heap.size wb w' ∧ w'.cell? ⟨w.heap.size, 0, none⟩ = some (.int .i64 st) ∧ w'.cell? ⟨w.heap.size, 1, none⟩ = some (.string B) ∧ w'.cell? ⟨w.heap.size, 2, none⟩ = some (.slice a n c)) (first | exact KD.out | exact KT2.out _ _ (by assumption) hb3 | exact KT.out _ _ (by assumption) (by assumption) | exact KT.out _ _ (by assumption) ((Below.refl _ _).alloc (Nat.le_refl _) _) | exact KT.out _ _ (by assumption) (Below.refl _ _).drew | exact KT.out _ _ KD.out ((Below.refl _ _).alloc (Nat.le_refl _) _) | assumption)
          (first
            | (go_at_call 55; refine (GH.out _ ?_).mono ?_; (first | assumption | exact KD.out); rintro e w1 ⟨hb1, v1, rfl, ho1⟩)
            | (refine step_app_strs (by rfl) _ _ (by rfl) wb.heap.size v1 T (by rfl) (ownS_alloc ho1 _) ⟨w1.heap.size, 0, none⟩ 1 1 [kCTO] rfl (by decide) (by rfl) (NL.out w1) (by have := HTL.out; omega) (Nat.le_trans (KB.out _ (by assumption)).size (Nat.le_refl _)) ?_; intro g cap w3 ho3 hb3)
            | (refine step_app_strs (by rfl) _ _ (by rfl) wb.heap.size v1 T (by rfl) (ownS_mono ho1 (by simp)) ⟨wb.heap.size, 0, none⟩ 1 1 [kCTO] rfl (by decide) (by rfl) ((NL.out wb.drew).below hb1) (by have := HTL.out; omega) (Nat.le_trans (KB.out _ (by assumption)).size (Nat.le_refl _)) ?_; intro g cap w3 ho3 hb3)
            | (go_at_call 54; have hsz3 := (KB.out w3 (by assumption)).size; obtain ⟨hln3, hsr3⟩ := ownS_got ho3; refine (GW.out w3 (by assumption) _ _ _ hln3.symm hsr3).mono ?_; rintro e w4 ⟨hb4, v4, rfl, ho4⟩; clear hln3 hsr3))
        all_goals
          have HS4 := Lib.hid (KT.out _ _ (by assumption) (Below.refl w4.heap.size w4))
          have HO4 : Hid (OwnF w4 wb.heap.size v4 F) := Lib.hid (ownF_mono ho4 hsz3)
          have HBB4 : Hid (Below wb.heap.size wb w4) := Lib.hid HS4.out.1
          clear ho4 hb4 hb3 ho3 hb1 ho1 hsz3
          have HOa5 : Hid (OwnF (w4.alloc (.cells #[.string ⟨#[88, 45, 67, 111, 110, 116, 101, 110, 116, 45, 84, 121, 112, 101, 45, 79, 112, 116, 105, 111, 110, 115]⟩, .string ⟨#[110, 111, 115, 110, 105, 102, 102]⟩] 37)) wb.heap.size _ (F)) := Lib.hid (ownF_alloc HO4.out _)
          have HLa5 := Lib.hid (lit_flds ([fSniff] : AL) #[.string ⟨#[88, 45, 67, 111, 110, 116, 101, 110, 116, 45, 84, 121, 112, 101, 45, 79, 112, 116, 105, 111, 110, 115]⟩, .string ⟨#[110, 111, 115, 110, 105, 102, 102]⟩] rfl w4)
          have HZa5 : Hid (wb.heap.size ≤ (w4.alloc (.cells #[.string ⟨#[88, 45, 67, 111, 110, 116, 101, 110, 116, 45, 84, 121, 112, 101, 45, 79, 112, 116, 105, 111, 110, 115]⟩, .string ⟨#[110, 111, 115, 110, 105, 102, 102]⟩] 37)).heap.size) := Lib.hid (by have := HBB4.out.size; simp; omega)
          go_wp2_with (at_builtin; refine app_flds rfl _ _ rfl wb.heap.size _ (F) rfl HOa5.out _ 1 1 ([fSniff] : AL) rfl rfl HLa5.out ?n5 HZa5.out ?_)
          case n5 => have := HLF.out; first | omega | (simp only [List.length_cons, List.length_nil] at *; omega)
          intro v5 w5 hown5 hb5 _
          have HOb5 : Hid (OwnF w5 wb.heap.size v5 (F ++ ([fSniff] : AL))) := Lib.hid (by simpa only [List.append_assoc, List.cons_append, List.nil_append] using hown5)
          have HBb5 : Hid (Below wb.heap.size wb w5) := Lib.hid ((HBB4.out.alloc HBB4.out.size _).trans hb5.out)
          have HLb5 : Hid ((F ++ ([fSniff] : AL)).length ≤ 16777300) := Lib.hid (by have := HLF.out; simp; omega)
          clear hown5 hb5 HOa5 HLa5 HZa5
          obtain ⟨c0, c1, c2, d0, d1, _⟩ := H2.out.keep HBb5.out
          have hsz : w.heap.size + 1 + 1 < w5.heap.size := by have := HBb5.out.size; have := H2.out.size; omega
          go_wp2_with fail
          refine (HD.out _).mono ?_; rintro e w6 ⟨rfl, hb⟩
          have HBb6 : Hid (Below wb.heap.size wb w6) := Lib.hid (HBb5.out.trans (hb.mono HBb5.out.size))
          have HOb6 : Hid (OwnF w6 wb.heap.size _ (F ++ ([fSniff] : AL))) := Lib.hid (ownF_below HOb5.out (Nat.le_refl _) hb)
          clear hb
          obtain ⟨c0, c1, c2, d0, d1, _⟩ := H2.out.keep HBb6.out
          have hsz : w.heap.size + 1 + 1 < w6.heap.size := by have := HBb6.out.size; have := H2.out.size; omega
          have HOa7 : Hid (OwnF (w6.alloc (.cells #[.string ⟨#[67, 111, 110, 116, 101, 110, 116, 45, 76, 101, 110, 103, 116, 104]⟩, .string p2] 37)) wb.heap.size _ (F ++ ([fSniff] : AL))) := Lib.hid (ownF_alloc HOb6.out _)
          have HLa7 := Lib.hid (lit_flds ([(⟨#[67, 111, 110, 116, 101, 110, 116, 45, 76, 101, 110, 103, 116, 104]⟩, p2)] : AL) #[.string ⟨#[67, 111, 110, 116, 101, 110, 116, 45, 76, 101, 110, 103, 116, 104]⟩, .string p2] rfl w6)
          have HZa7 : Hid (wb.heap.size ≤ (w6.alloc (.cells #[.string ⟨#[67, 111, 110, 116, 101, 110, 116, 45, 76, 101, 110, 103, 116, 104]⟩, .string p2] 37)).heap.size) := Lib.hid (by have := HBb6.out.size; simp; omega)
          go_wp2_with (at_builtin; refine app_flds rfl _ _ rfl wb.heap.size _ (F ++ ([fSniff] : AL)) rfl HOa7.out _ 1 1 ([(⟨#[67, 111, 110, 116, 101, 110, 116, 45, 76, 101, 110, 103, 116, 104]⟩, p2)] : AL) rfl rfl HLa7.out ?n7 HZa7.out ?_)
          case n7 => have := HLb5.out; first | omega | (simp only [List.length_cons, List.length_nil] at *; omega)
          intro v7 w7 hown7 hb7 _
          have HOb7 : Hid (OwnF w7 wb.heap.size v7 (F ++ ([fSniff] : AL) ++ ([(⟨#[67, 111, 110, 116, 101, 110, 116, 45, 76, 101, 110, 103, 116, 104]⟩, p2)] : AL))) := Lib.hid (by simpa only [List.append_assoc, List.cons_append, List.nil_append] using hown7)
          have HBb7 : Hid (Below wb.heap.size wb w7) := Lib.hid ((HBb6.out.alloc HBb6.out.size _).trans hb7.out)
          have HLb7 : Hid ((F ++ ([fSniff] : AL) ++ ([(⟨#[67, 111, 110, 116, 101, 110, 116, 45, 76, 101, 110, 103, 116, 104]⟩, p2)] : AL)).length ≤ 16777300) := Lib.hid (by have := HLF.out; simp; omega)
          clear hown7 hb7 HOa7 HLa7 HZa7
          obtain ⟨c0, c1, c2, d0, d1, _⟩ := H2.out.keep HBb7.out
          have hsz : w.heap.size + 1 + 1 < w7.heap.size := by have := HBb7.out.size; have := H2.out.size; omega
          have HOZ : Hid (OwnF w7 wb.heap.size v7 R) := Lib.hid (by rw [HV.out]; simpa using HOb7.out)
          obtain ⟨e0, e1, e2, _, _, k0, k1, k2, f0, f1, f2⟩ := H2.out.keep HBb7.out
          obtain ⟨a9, d9, hv9, _⟩ := ownF_src HOZ.out
          have HBW : Hid (Below w.heap.size w w7) := Lib.hid (HB0.out.trans (HBb7.out.mono HB0.out.size))
          have HG1 : Hid (w.heap.size + 1 + 1 < wb.heap.size) := Lib.hid (by have := H2.out.size; omega)
          have hsz2 := Nat.lt_of_lt_of_le HG1.out HBb7.out.size
          have HG2 : Hid (w.heap.size ≤ w.heap.size + 1 + 1) := Lib.hid (by omega)
          have HWS : Hid (w.heap.size ≤ wb.heap.size) := Lib.hid HB0.out.size
          subst hv9
          go_wp2
          refine bodyPost_ret (v := .agg #[.int .i64 st, .string B, _]) (by simp [results, Tryz.results26, go_sem, k0, k1, k2]; rfl) rfl ?_
          exact respSays (below_set3 HBW.out HG2.out) (ownF_mono (ownF_set3 HOZ.out HG1.out) HWS.out)
      · have HV := Lib.hid hR
        clear hR
        go_enter Tryz.func26, Tryz.ntmps26
        go_wp2_with fail
        rw [← HWB.out]
        have KT : Hid (∀ x y : World, (Below wb.heap.size wb x ∧ x.cell? ⟨w.heap.size, 0, none⟩ = some (.int .i64 st) ∧ x.cell? ⟨w.heap.size, 1, none⟩ = some (.string B) ∧ x.cell? ⟨w.heap.size, 2, none⟩ = some (.slice a n c)) → Below x.heap.size x y → (Below wb.heap.size wb y ∧ y.cell? ⟨w.heap.size, 0, none⟩ = some (.int .i64 st) ∧ y.cell? ⟨w.heap.size, 1, none⟩ = some (.string B) ∧ y.cell? ⟨w.heap.size, 2, none⟩ = some (.slice a n c))) := Lib.hid fun x y ⟨h1, h2, h3, h4⟩ hb =>
          ⟨h1.trans (hb.mono h1.size), (hb.cell (p := ⟨w.heap.size, 0, none⟩) (Nat.lt_of_lt_of_le HG.out h1.size)).trans h2, (hb.cell (p := ⟨w.heap.size, 1, none⟩) (Nat.lt_of_lt_of_le HG.out h1.size)).trans h3, (hb.cell (p := ⟨w.heap.size, 2, none⟩) (Nat.lt_of_lt_of_le HG.out h1.size)).trans h4⟩
        have KD : Hid (Below wb.heap.size wb wb.drew ∧ wb.drew.cell? ⟨w.heap.size, 0, none⟩ = some (.int .i64 st) ∧ wb.drew.cell? ⟨w.heap.size, 1, none⟩ = some (.string B) ∧ wb.drew.cell? ⟨w.heap.size, 2, none⟩ = some (.slice a n c)) := Lib.hid ⟨(Below.refl _ _).drew, c0, c1, c2⟩
        have KB : Hid (∀ x : World, (Below wb.heap.size wb x ∧ x.cell? ⟨w.heap.size, 0, none⟩ = some (.int .i64 st) ∧ x.cell? ⟨w.heap.size, 1, none⟩ = some (.string B) ∧ x.cell? ⟨w.heap.size, 2, none⟩ = some (.slice a n c)) → Below wb.heap.size wb x) := Lib.hid fun x h => h.1
        have GH := Lib.hid fun wx (h : Below wb.heap.size wb wx ∧ wx.cell? ⟨w.heap.size, 0, none⟩ = some (.int .i64 st) ∧ wx.cell? ⟨w.heap.size, 1, none⟩ = some (.string B) ∧ wx.cell? ⟨w.heap.size, 2, none⟩ = some (.slice a n c)) => HH.out wx h.1
        have GW := Lib.hid fun wx (h : Below wb.heap.size wb wx ∧ wx.cell? ⟨w.heap.size, 0, none⟩ = some (.int .i64 st) ∧ wx.cell? ⟨w.heap.size, 1, none⟩ = some (.string B) ∧ wx.cell? ⟨w.heap.size, 2, none⟩ = some (.slice a n c)) => HW.out wx h.1
        have NL := Lib.hid fun wx => lit_strl [kCTO] #[.string ⟨#[88, 45, 67, 111, 110, 116, 101, 110, 116, 45, 84, 121, 112, 101, 45, 79, 112, 116, 105, 111, 110, 115]⟩] rfl wx
        have KT2 : Hid (∀ x y : World, (Below wb.heap.size wb x ∧ x.cell? ⟨w.heap.size, 0, none⟩ = some (.int .i64 st) ∧ x.cell? ⟨w.heap.size, 1, none⟩ = some (.string B) ∧ x.cell? ⟨w.heap.size, 2, none⟩ = some (.slice a n c)) → Below wb.heap.size x y → (Below wb.heap.size wb y ∧ y.cell? ⟨w.heap.size, 0, none⟩ = some (.int .i64 st) ∧ y.cell? ⟨w.heap.size, 1, none⟩ = some (.string B) ∧ y.cell? ⟨w.heap.size, 2, none⟩ = some (.slice a n c))) := Lib.hid fun x y ⟨h1, h2, h3, h4⟩ hb =>
          ⟨h1.trans hb, (hb.cell (p := ⟨w.heap.size, 0, none⟩) HG.out).trans h2, (hb.cell (p := ⟨w.heap.size, 1, none⟩) HG.out).trans h3, (hb.cell (p := ⟨w.heap.size, 2, none⟩) HG.out).trans h4⟩
        have HTL : Hid (T.length ≤ 16777416) := Lib.hid hl3
        clear c0 c1 c2
        go_region_held3 (fun w' => Below wb.heap.size wb w' ∧ w'.cell? ⟨w.heap.size, 0, none⟩ = some (.int .i64 st) ∧ w'.cell? ⟨w.heap.size, 1, none⟩ = some (.string B) ∧ w'.cell? ⟨w.heap.size, 2, none⟩ = some (.slice a n c)) (first | exact KD.out | exact KT2.out _ _ (by assumption) hb3 | exact KT.out _ _ (by assumption) (by assumption) | exact KT.out _ _ (by assumption) ((Below.refl _ _).alloc (Nat.le_refl _) _) | exact KT.out _ _ (by assumption) (Below.refl _ _).drew | exact KT.out _ _ KD.out ((Below.refl _ _).alloc (Nat.le_refl _) _) | assumption)
          (first
            | (go_at_call 55; refine (GH.out _ ?_).mono ?_; (first | assumption | exact KD.out); rintro e w1 ⟨hb1, v1, rfl, ho1⟩)
            | (refine step_app_strs (by rfl) _ _ (by rfl) wb.heap.size v1 T (by rfl) (ownS_alloc ho1 _) ⟨w1.heap.size, 0, none⟩ 1 1 [kCTO] rfl (by decide) (by rfl) (NL.out w1) (by have := HTL.out; omega) (Nat.le_trans (KB.out _ (by assumption)).size (Nat.le_refl _)) ?_; intro g cap w3 ho3 hb3)
            | (refine step_app_strs (by rfl) _ _ (by rfl) wb.heap.size v1 T (by rfl) (ownS_mono ho1 (by simp)) ⟨wb.heap.size, 0, none⟩ 1 1 [kCTO] rfl (by decide) (by rfl) ((NL.out wb.drew).below hb1) (by have := HTL.out; omega) (Nat.le_trans (KB.out _ (by assumption)).size (Nat.le_refl _)) ?_; intro g cap w3 ho3 hb3)
            | (go_at_call 54; have hsz3 := (KB.out w3 (by assumption)).size; obtain ⟨hln3, hsr3⟩ := ownS_got ho3; refine (GW.out w3 (by assumption) _ _ _ hln3.symm hsr3).mono ?_; rintro e w4 ⟨hb4, v4, rfl, ho4⟩; clear hln3 hsr3))
        all_goals
          have HS4 := Lib.hid (KT.out _ _ (by assumption) (Below.refl w4.heap.size w4))
          have HO4 : Hid (OwnF w4 wb.heap.size v4 F) := Lib.hid (ownF_mono ho4 hsz3)
          have HBB4 : Hid (Below wb.heap.size wb w4) := Lib.hid HS4.out.1
          clear ho4 hb4 hb3 ho3 hb1 ho1 hsz3
          have HOa5 : Hid (OwnF (w4.alloc (.cells #[.string ⟨#[88, 45, 67, 111, 110, 116, 101, 110, 116, 45, 84, 121, 112, 101, 45, 79, 112, 116, 105, 111, 110, 115]⟩, .string ⟨#[110, 111, 115, 110, 105, 102, 102]⟩] 37)) wb.heap.size _ (F)) := Lib.hid (ownF_alloc HO4.out _)
          have HLa5 := Lib.hid (lit_flds ([fSniff] : AL) #[.string ⟨#[88, 45, 67, 111, 110, 116, 101, 110, 116, 45, 84, 121, 112, 101, 45, 79, 112, 116, 105, 111, 110, 115]⟩, .string ⟨#[110, 111, 115, 110, 105, 102, 102]⟩] rfl w4)
          have HZa5 : Hid (wb.heap.size ≤ (w4.alloc (.cells #[.string ⟨#[88, 45, 67, 111, 110, 116, 101, 110, 116, 45, 84, 121, 112, 101, 45, 79, 112, 116, 105, 111, 110, 115]⟩, .string ⟨#[110, 111, 115, 110, 105, 102, 102]⟩] 37)).heap.size) := Lib.hid (by have := HBB4.out.size; simp; omega)
          go_wp2_with (at_builtin; refine app_flds rfl _ _ rfl wb.heap.size _ (F) rfl HOa5.out _ 1 1 ([fSniff] : AL) rfl rfl HLa5.out ?n5 HZa5.out ?_)
          case n5 => have := HLF.out; first | omega | (simp only [List.length_cons, List.length_nil] at *; omega)
          intro v5 w5 hown5 hb5 _
          have HOb5 : Hid (OwnF w5 wb.heap.size v5 (F ++ ([fSniff] : AL))) := Lib.hid (by simpa only [List.append_assoc, List.cons_append, List.nil_append] using hown5)
          have HBb5 : Hid (Below wb.heap.size wb w5) := Lib.hid ((HBB4.out.alloc HBB4.out.size _).trans hb5.out)
          have HLb5 : Hid ((F ++ ([fSniff] : AL)).length ≤ 16777300) := Lib.hid (by have := HLF.out; simp; omega)
          clear hown5 hb5 HOa5 HLa5 HZa5
          obtain ⟨c0, c1, c2, d0, d1, _⟩ := H2.out.keep HBb5.out
          have hsz : w.heap.size + 1 + 1 < w5.heap.size := by have := HBb5.out.size; have := H2.out.size; omega
          go_wp2_with fail
          refine (HD.out _).mono ?_; rintro e w6 ⟨rfl, hb⟩
          have HBb6 : Hid (Below wb.heap.size wb w6) := Lib.hid (HBb5.out.trans (hb.mono HBb5.out.size))
          have HOb6 : Hid (OwnF w6 wb.heap.size _ (F ++ ([fSniff] : AL))) := Lib.hid (ownF_below HOb5.out (Nat.le_refl _) hb)
          clear hb
          obtain ⟨c0, c1, c2, d0, d1, _⟩ := H2.out.keep HBb6.out
          have hsz : w.heap.size + 1 + 1 < w6.heap.size := by have := HBb6.out.size; have := H2.out.size; omega
          have HOa7 : Hid (OwnF (w6.alloc (.cells #[.string ⟨#[67, 111, 110, 116, 101, 110, 116, 45, 76, 101, 110, 103, 116, 104]⟩, .string p2] 37)) wb.heap.size _ (F ++ ([fSniff] : AL))) := Lib.hid (ownF_alloc HOb6.out _)
          have HLa7 := Lib.hid (lit_flds ([(⟨#[67, 111, 110, 116, 101, 110, 116, 45, 76, 101, 110, 103, 116, 104]⟩, p2)] : AL) #[.string ⟨#[67, 111, 110, 116, 101, 110, 116, 45, 76, 101, 110, 103, 116, 104]⟩, .string p2] rfl w6)
          have HZa7 : Hid (wb.heap.size ≤ (w6.alloc (.cells #[.string ⟨#[67, 111, 110, 116, 101, 110, 116, 45, 76, 101, 110, 103, 116, 104]⟩, .string p2] 37)).heap.size) := Lib.hid (by have := HBb6.out.size; simp; omega)
          go_wp2_with (at_builtin; refine app_flds rfl _ _ rfl wb.heap.size _ (F ++ ([fSniff] : AL)) rfl HOa7.out _ 1 1 ([(⟨#[67, 111, 110, 116, 101, 110, 116, 45, 76, 101, 110, 103, 116, 104]⟩, p2)] : AL) rfl rfl HLa7.out ?n7 HZa7.out ?_)
          case n7 => have := HLb5.out; first | omega | (simp only [List.length_cons, List.length_nil] at *; omega)
          intro v7 w7 hown7 hb7 _
          have HOb7 : Hid (OwnF w7 wb.heap.size v7 (F ++ ([fSniff] : AL) ++ ([(⟨#[67, 111, 110, 116, 101, 110, 116, 45, 76, 101, 110, 103, 116, 104]⟩, p2)] : AL))) := Lib.hid (by simpa only [List.append_assoc, List.cons_append, List.nil_append] using hown7)
          have HBb7 : Hid (Below wb.heap.size wb w7) := Lib.hid ((HBb6.out.alloc HBb6.out.size _).trans hb7.out)
          have HLb7 : Hid ((F ++ ([fSniff] : AL) ++ ([(⟨#[67, 111, 110, 116, 101, 110, 116, 45, 76, 101, 110, 103, 116, 104]⟩, p2)] : AL)).length ≤ 16777300) := Lib.hid (by have := HLF.out; simp; omega)
          clear hown7 hb7 HOa7 HLa7 HZa7
          obtain ⟨c0, c1, c2, d0, d1, _⟩ := H2.out.keep HBb7.out
          have hsz : w.heap.size + 1 + 1 < w7.heap.size := by have := HBb7.out.size; have := H2.out.size; omega
          have HOa8 : Hid (OwnF (w7.alloc (.cells #[.string ⟨#[67, 111, 110, 110, 101, 99, 116, 105, 111, 110]⟩, .string ⟨#[99, 108, 111, 115, 101]⟩] 37)) wb.heap.size _ (F ++ ([fSniff] : AL) ++ ([(⟨#[67, 111, 110, 116, 101, 110, 116, 45, 76, 101, 110, 103, 116, 104]⟩, p2)] : AL))) := Lib.hid (ownF_alloc HOb7.out _)
          have HLa8 := Lib.hid (lit_flds ([fClos] : AL) #[.string ⟨#[67, 111, 110, 110, 101, 99, 116, 105, 111, 110]⟩, .string ⟨#[99, 108, 111, 115, 101]⟩] rfl w7)
          have HZa8 : Hid (wb.heap.size ≤ (w7.alloc (.cells #[.string ⟨#[67, 111, 110, 110, 101, 99, 116, 105, 111, 110]⟩, .string ⟨#[99, 108, 111, 115, 101]⟩] 37)).heap.size) := Lib.hid (by have := HBb7.out.size; simp; omega)
          go_wp2_with (at_builtin; refine app_flds rfl _ _ rfl wb.heap.size _ (F ++ ([fSniff] : AL) ++ ([(⟨#[67, 111, 110, 116, 101, 110, 116, 45, 76, 101, 110, 103, 116, 104]⟩, p2)] : AL)) rfl HOa8.out _ 1 1 ([fClos] : AL) rfl rfl HLa8.out ?n8 HZa8.out ?_)
          case n8 => have := HLb7.out; first | omega | (simp only [List.length_cons, List.length_nil] at *; omega)
          intro v8 w8 hown8 hb8 _
          have HOb8 : Hid (OwnF w8 wb.heap.size v8 (F ++ ([fSniff] : AL) ++ ([(⟨#[67, 111, 110, 116, 101, 110, 116, 45, 76, 101, 110, 103, 116, 104]⟩, p2)] : AL) ++ ([fClos] : AL))) := Lib.hid (by simpa only [List.append_assoc, List.cons_append, List.nil_append] using hown8)
          have HBb8 : Hid (Below wb.heap.size wb w8) := Lib.hid ((HBb7.out.alloc HBb7.out.size _).trans hb8.out)
          have HLb8 : Hid ((F ++ ([fSniff] : AL) ++ ([(⟨#[67, 111, 110, 116, 101, 110, 116, 45, 76, 101, 110, 103, 116, 104]⟩, p2)] : AL) ++ ([fClos] : AL)).length ≤ 16777300) := Lib.hid (by have := HLF.out; simp; omega)
          clear hown8 hb8 HOa8 HLa8 HZa8
          have HOZ : Hid (OwnF w8 wb.heap.size v8 R) := Lib.hid (by rw [HV.out]; simpa using HOb8.out)
          obtain ⟨e0, e1, e2, _, _, k0, k1, k2, f0, f1, f2⟩ := H2.out.keep HBb8.out
          obtain ⟨a9, d9, hv9, _⟩ := ownF_src HOZ.out
          have HBW : Hid (Below w.heap.size w w8) := Lib.hid (HB0.out.trans (HBb8.out.mono HB0.out.size))
          have HG1 : Hid (w.heap.size + 1 + 1 < wb.heap.size) := Lib.hid (by have := H2.out.size; omega)
          have hsz2 := Nat.lt_of_lt_of_le HG1.out HBb8.out.size
          have HG2 : Hid (w.heap.size ≤ w.heap.size + 1 + 1) := Lib.hid (by omega)
          have HWS : Hid (w.heap.size ≤ wb.heap.size) := Lib.hid HB0.out.size
          subst hv9
          go_wp2
          refine bodyPost_ret (v := .agg #[.int .i64 st, .string B, _]) (by simp [results, Tryz.results26, go_sem, k0, k1, k2]; rfl) rfl ?_
          exact respSays (below_set3 HBW.out HG2.out) (ownF_mono (ownF_set3 HOZ.out HG1.out) HWS.out)
    · rw [if_neg h0, List.append_nil] at hR
      clear h1
      cases last
      · have HV := Lib.hid hR
        clear hR
        go_enter Tryz.func26, Tryz.ntmps26
        go_wp2_with fail
        rw [← HWB.out]
        have KT : Hid (∀ x y : World, (Below wb.heap.size wb x ∧ x.cell? ⟨w.heap.size, 0, none⟩ = some (.int .i64 st) ∧ x.cell? ⟨w.heap.size, 1, none⟩ = some (.string B) ∧ x.cell? ⟨w.heap.size, 2, none⟩ = some (.slice a n c)) → Below x.heap.size x y → (Below wb.heap.size wb y ∧ y.cell? ⟨w.heap.size, 0, none⟩ = some (.int .i64 st) ∧ y.cell? ⟨w.heap.size, 1, none⟩ = some (.string B) ∧ y.cell? ⟨w.heap.size, 2, none⟩ = some (.slice a n c))) := Lib.hid fun x y ⟨h1, h2, h3, h4⟩ hb =>
          ⟨h1.trans (hb.mono h1.size), (hb.cell (p := ⟨w.heap.size, 0, none⟩) (Nat.lt_of_lt_of_le HG.out h1.size)).trans h2, (hb.cell (p := ⟨w.heap.size, 1, none⟩) (Nat.lt_of_lt_of_le HG.out h1.size)).trans h3, (hb.cell (p := ⟨w.heap.size, 2, none⟩) (Nat.lt_of_lt_of_le HG.out h1.size)).trans h4⟩
        have KD : Hid (Below wb.heap.size wb wb.drew ∧ wb.drew.cell? ⟨w.heap.size, 0, none⟩ = some (.int .i64 st) ∧ wb.drew.cell? ⟨w.heap.size, 1, none⟩ = some (.string B) ∧ wb.drew.cell? ⟨w.heap.size, 2, none⟩ = some (.slice a n c)) := Lib.hid ⟨(Below.refl _ _).drew, c0, c1, c2⟩
        have KB : Hid (∀ x : World, (Below wb.heap.size wb x ∧ x.cell? ⟨w.heap.size, 0, none⟩ = some (.int .i64 st) ∧ x.cell? ⟨w.heap.size, 1, none⟩ = some (.string B) ∧ x.cell? ⟨w.heap.size, 2, none⟩ = some (.slice a n c)) → Below wb.heap.size wb x) := Lib.hid fun x h => h.1
        have GH := Lib.hid fun wx (h : Below wb.heap.size wb wx ∧ wx.cell? ⟨w.heap.size, 0, none⟩ = some (.int .i64 st) ∧ wx.cell? ⟨w.heap.size, 1, none⟩ = some (.string B) ∧ wx.cell? ⟨w.heap.size, 2, none⟩ = some (.slice a n c)) => HH.out wx h.1
        have GW := Lib.hid fun wx (h : Below wb.heap.size wb wx ∧ wx.cell? ⟨w.heap.size, 0, none⟩ = some (.int .i64 st) ∧ wx.cell? ⟨w.heap.size, 1, none⟩ = some (.string B) ∧ wx.cell? ⟨w.heap.size, 2, none⟩ = some (.slice a n c)) => HW.out wx h.1
        have NL := Lib.hid fun wx => lit_strl [kCTO] #[.string ⟨#[88, 45, 67, 111, 110, 116, 101, 110, 116, 45, 84, 121, 112, 101, 45, 79, 112, 116, 105, 111, 110, 115]⟩] rfl wx
        have KT2 : Hid (∀ x y : World, (Below wb.heap.size wb x ∧ x.cell? ⟨w.heap.size, 0, none⟩ = some (.int .i64 st) ∧ x.cell? ⟨w.heap.size, 1, none⟩ = some (.string B) ∧ x.cell? ⟨w.heap.size, 2, none⟩ = some (.slice a n c)) → Below wb.heap.size x y → (Below wb.heap.size wb y ∧ y.cell? ⟨w.heap.size, 0, none⟩ = some (.int .i64 st) ∧ y.cell? ⟨w.heap.size, 1, none⟩ = some (.string B) ∧ y.cell? ⟨w.heap.size, 2, none⟩ = some (.slice a n c))) := Lib.hid fun x y ⟨h1, h2, h3, h4⟩ hb =>
          ⟨h1.trans hb, (hb.cell (p := ⟨w.heap.size, 0, none⟩) HG.out).trans h2, (hb.cell (p := ⟨w.heap.size, 1, none⟩) HG.out).trans h3, (hb.cell (p := ⟨w.heap.size, 2, none⟩) HG.out).trans h4⟩
        have HTL : Hid (T.length ≤ 16777416) := Lib.hid hl3
        clear c0 c1 c2
        go_region_held3 (fun w' => Below wb.heap.size wb w' ∧ w'.cell? ⟨w.heap.size, 0, none⟩ = some (.int .i64 st) ∧ w'.cell? ⟨w.heap.size, 1, none⟩ = some (.string B) ∧ w'.cell? ⟨w.heap.size, 2, none⟩ = some (.slice a n c)) (first | exact KD.out | exact KT2.out _ _ (by assumption) hb3 | exact KT.out _ _ (by assumption) (by assumption) | exact KT.out _ _ (by assumption) ((Below.refl _ _).alloc (Nat.le_refl _) _) | exact KT.out _ _ (by assumption) (Below.refl _ _).drew | exact KT.out _ _ KD.out ((Below.refl _ _).alloc (Nat.le_refl _) _) | assumption)
          (first
            | (go_at_call 55; refine (GH.out _ ?_).mono ?_; (first | assumption | exact KD.out); rintro e w1 ⟨hb1, v1, rfl, ho1⟩)
            | (refine step_app_strs (by rfl) _ _ (by rfl) wb.heap.size v1 T (by rfl) (ownS_alloc ho1 _) ⟨w1.heap.size, 0, none⟩ 1 1 [kCTO] rfl (by decide) (by rfl) (NL.out w1) (by have := HTL.out; omega) (Nat.le_trans (KB.out _ (by assumption)).size (Nat.le_refl _)) ?_; intro g cap w3 ho3 hb3)
            | (refine step_app_strs (by rfl) _ _ (by rfl) wb.heap.size v1 T (by rfl) (ownS_mono ho1 (by simp)) ⟨wb.heap.size, 0, none⟩ 1 1 [kCTO] rfl (by decide) (by rfl) ((NL.out wb.drew).below hb1) (by have := HTL.out; omega) (Nat.le_trans (KB.out _ (by assumption)).size (Nat.le_refl _)) ?_; intro g cap w3 ho3 hb3)
            | (go_at_call 54; have hsz3 := (KB.out w3 (by assumption)).size; obtain ⟨hln3, hsr3⟩ := ownS_got ho3; refine (GW.out w3 (by assumption) _ _ _ hln3.symm hsr3).mono ?_; rintro e w4 ⟨hb4, v4, rfl, ho4⟩; clear hln3 hsr3))
        all_goals
          have HS4 := Lib.hid (KT.out _ _ (by assumption) (Below.refl w4.heap.size w4))
          have HO4 : Hid (OwnF w4 wb.heap.size v4 F) := Lib.hid (ownF_mono ho4 hsz3)
          have HBB4 : Hid (Below wb.heap.size wb w4) := Lib.hid HS4.out.1
          clear ho4 hb4 hb3 ho3 hb1 ho1 hsz3
          have HOa5 : Hid (OwnF (w4.alloc (.cells #[.string ⟨#[88, 45, 67, 111, 110, 116, 101, 110, 116, 45, 84, 121, 112, 101, 45, 79, 112, 116, 105, 111, 110, 115]⟩, .string ⟨#[110, 111, 115, 110, 105, 102, 102]⟩] 37)) wb.heap.size _ (F)) := Lib.hid (ownF_alloc HO4.out _)
          have HLa5 := Lib.hid (lit_flds ([fSniff] : AL) #[.string ⟨#[88, 45, 67, 111, 110, 116, 101, 110, 116, 45, 84, 121, 112, 101, 45, 79, 112, 116, 105, 111, 110, 115]⟩, .string ⟨#[110, 111, 115, 110, 105, 102, 102]⟩] rfl w4)
          have HZa5 : Hid (wb.heap.size ≤ (w4.alloc (.cells #[.string ⟨#[88, 45, 67, 111, 110, 116, 101, 110, 116, 45, 84, 121, 112, 101, 45, 79, 112, 116, 105, 111, 110, 115]⟩, .string ⟨#[110, 111, 115, 110, 105, 102, 102]⟩] 37)).heap.size) := Lib.hid (by have := HBB4.out.size; simp; omega)
          go_wp2_with (at_builtin; refine app_flds rfl _ _ rfl wb.heap.size _ (F) rfl HOa5.out _ 1 1 ([fSniff] : AL) rfl rfl HLa5.out ?n5 HZa5.out ?_)
          case n5 => have := HLF.out; first | omega | (simp only [List.length_cons, List.length_nil] at *; omega)
          intro v5 w5 hown5 hb5 _
          have HOb5 : Hid (OwnF w5 wb.heap.size v5 (F ++ ([fSniff] : AL))) := Lib.hid (by simpa only [List.append_assoc, List.cons_append, List.nil_append] using hown5)
          have HBb5 : Hid (Below wb.heap.size wb w5) := Lib.hid ((HBB4.out.alloc HBB4.out.size _).trans hb5.out)
          have HLb5 : Hid ((F ++ ([fSniff] : AL)).length ≤ 16777300) := Lib.hid (by have := HLF.out; simp; omega)
          clear hown5 hb5 HOa5 HLa5 HZa5
          obtain ⟨c0, c1, c2, d0, d1, _⟩ := H2.out.keep HBb5.out
          have hsz : w.heap.size + 1 + 1 < w5.heap.size := by have := HBb5.out.size; have := H2.out.size; omega
          have HOZ : Hid (OwnF w5 wb.heap.size v5 R) := Lib.hid (by rw [HV.out]; simpa using HOb5.out)
          obtain ⟨e0, e1, e2, _, _, k0, k1, k2, f0, f1, f2⟩ := H2.out.keep HBb5.out
          obtain ⟨a9, d9, hv9, _⟩ := ownF_src HOZ.out
          have HBW : Hid (Below w.heap.size w w5) := Lib.hid (HB0.out.trans (HBb5.out.mono HB0.out.size))
          have HG1 : Hid (w.heap.size + 1 + 1 < wb.heap.size) := Lib.hid (by have := H2.out.size; omega)
          have hsz2 := Nat.lt_of_lt_of_le HG1.out HBb5.out.size
          have HG2 : Hid (w.heap.size ≤ w.heap.size + 1 + 1) := Lib.hid (by omega)
          have HWS : Hid (w.heap.size ≤ wb.heap.size) := Lib.hid HB0.out.size
          subst hv9
          go_wp2
          refine bodyPost_ret (v := .agg #[.int .i64 st, .string B, _]) (by simp [results, Tryz.results26, go_sem, k0, k1, k2]; rfl) rfl ?_
          exact respSays (below_set3 HBW.out HG2.out) (ownF_mono (ownF_set3 HOZ.out HG1.out) HWS.out)
      · have HV := Lib.hid hR
        clear hR
        go_enter Tryz.func26, Tryz.ntmps26
        go_wp2_with fail
        rw [← HWB.out]
        have KT : Hid (∀ x y : World, (Below wb.heap.size wb x ∧ x.cell? ⟨w.heap.size, 0, none⟩ = some (.int .i64 st) ∧ x.cell? ⟨w.heap.size, 1, none⟩ = some (.string B) ∧ x.cell? ⟨w.heap.size, 2, none⟩ = some (.slice a n c)) → Below x.heap.size x y → (Below wb.heap.size wb y ∧ y.cell? ⟨w.heap.size, 0, none⟩ = some (.int .i64 st) ∧ y.cell? ⟨w.heap.size, 1, none⟩ = some (.string B) ∧ y.cell? ⟨w.heap.size, 2, none⟩ = some (.slice a n c))) := Lib.hid fun x y ⟨h1, h2, h3, h4⟩ hb =>
          ⟨h1.trans (hb.mono h1.size), (hb.cell (p := ⟨w.heap.size, 0, none⟩) (Nat.lt_of_lt_of_le HG.out h1.size)).trans h2, (hb.cell (p := ⟨w.heap.size, 1, none⟩) (Nat.lt_of_lt_of_le HG.out h1.size)).trans h3, (hb.cell (p := ⟨w.heap.size, 2, none⟩) (Nat.lt_of_lt_of_le HG.out h1.size)).trans h4⟩
        have KD : Hid (Below wb.heap.size wb wb.drew ∧ wb.drew.cell? ⟨w.heap.size, 0, none⟩ = some (.int .i64 st) ∧ wb.drew.cell? ⟨w.heap.size, 1, none⟩ = some (.string B) ∧ wb.drew.cell? ⟨w.heap.size, 2, none⟩ = some (.slice a n c)) := Lib.hid ⟨(Below.refl _ _).drew, c0, c1, c2⟩
        have KB : Hid (∀ x : World, (Below wb.heap.size wb x ∧ x.cell? ⟨w.heap.size, 0, none⟩ = some (.int .i64 st) ∧ x.cell? ⟨w.heap.size, 1, none⟩ = some (.string B) ∧ x.cell? ⟨w.heap.size, 2, none⟩ = some (.slice a n c)) → Below wb.heap.size wb x) := Lib.hid fun x h => h.1
        have GH := Lib.hid fun wx (h : Below wb.heap.size wb wx ∧ wx.cell? ⟨w.heap.size, 0, none⟩ = some (.int .i64 st) ∧ wx.cell? ⟨w.heap.size, 1, none⟩ = some (.string B) ∧ wx.cell? ⟨w.heap.size, 2, none⟩ = some (.slice a n c)) => HH.out wx h.1
        have GW := Lib.hid fun wx (h : Below wb.heap.size wb wx ∧ wx.cell? ⟨w.heap.size, 0, none⟩ = some (.int .i64 st) ∧ wx.cell? ⟨w.heap.size, 1, none⟩ = some (.string B) ∧ wx.cell? ⟨w.heap.size, 2, none⟩ = some (.slice a n c)) => HW.out wx h.1
        have NL := Lib.hid fun wx => lit_strl [kCTO] #[.string ⟨#[88, 45, 67, 111, 110, 116, 101, 110, 116, 45, 84, 121, 112, 101, 45, 79, 112, 116, 105, 111, 110, 115]⟩] rfl wx
        have KT2 : Hid (∀ x y : World, (Below wb.heap.size wb x ∧ x.cell? ⟨w.heap.size, 0, none⟩ = some (.int .i64 st) ∧ x.cell? ⟨w.heap.size, 1, none⟩ = some (.string B) ∧ x.cell? ⟨w.heap.size, 2, none⟩ = some (.slice a n c)) → Below wb.heap.size x y → (Below wb.heap.size wb y ∧ y.cell? ⟨w.heap.size, 0, none⟩ = some (.int .i64 st) ∧ y.cell? ⟨w.heap.size, 1, none⟩ = some (.string B) ∧ y.cell? ⟨w.heap.size, 2, none⟩ = some (.slice a n c))) := Lib.hid fun x y ⟨h1, h2, h3, h4⟩ hb =>
          ⟨h1.trans hb, (hb.cell (p := ⟨w.heap.size, 0, none⟩) HG.out).trans h2, (hb.cell (p := ⟨w.heap.size, 1, none⟩) HG.out).trans h3, (hb.cell (p := ⟨w.heap.size, 2, none⟩) HG.out).trans h4⟩
        have HTL : Hid (T.length ≤ 16777416) := Lib.hid hl3
        clear c0 c1 c2
        go_region_held3 (fun w' => Below wb.heap.size wb w' ∧ w'.cell? ⟨w.heap.size, 0, none⟩ = some (.int .i64 st) ∧ w'.cell? ⟨w.heap.size, 1, none⟩ = some (.string B) ∧ w'.cell? ⟨w.heap.size, 2, none⟩ = some (.slice a n c)) (first | exact KD.out | exact KT2.out _ _ (by assumption) hb3 | exact KT.out _ _ (by assumption) (by assumption) | exact KT.out _ _ (by assumption) ((Below.refl _ _).alloc (Nat.le_refl _) _) | exact KT.out _ _ (by assumption) (Below.refl _ _).drew | exact KT.out _ _ KD.out ((Below.refl _ _).alloc (Nat.le_refl _) _) | assumption)
          (first
            | (go_at_call 55; refine (GH.out _ ?_).mono ?_; (first | assumption | exact KD.out); rintro e w1 ⟨hb1, v1, rfl, ho1⟩)
            | (refine step_app_strs (by rfl) _ _ (by rfl) wb.heap.size v1 T (by rfl) (ownS_alloc ho1 _) ⟨w1.heap.size, 0, none⟩ 1 1 [kCTO] rfl (by decide) (by rfl) (NL.out w1) (by have := HTL.out; omega) (Nat.le_trans (KB.out _ (by assumption)).size (Nat.le_refl _)) ?_; intro g cap w3 ho3 hb3)
            | (refine step_app_strs (by rfl) _ _ (by rfl) wb.heap.size v1 T (by rfl) (ownS_mono ho1 (by simp)) ⟨wb.heap.size, 0, none⟩ 1 1 [kCTO] rfl (by decide) (by rfl) ((NL.out wb.drew).below hb1) (by have := HTL.out; omega) (Nat.le_trans (KB.out _ (by assumption)).size (Nat.le_refl _)) ?_; intro g cap w3 ho3 hb3)
            | (go_at_call 54; have hsz3 := (KB.out w3 (by assumption)).size; obtain ⟨hln3, hsr3⟩ := ownS_got ho3; refine (GW.out w3 (by assumption) _ _ _ hln3.symm hsr3).mono ?_; rintro e w4 ⟨hb4, v4, rfl, ho4⟩; clear hln3 hsr3))
        all_goals
          have HS4 := Lib.hid (KT.out _ _ (by assumption) (Below.refl w4.heap.size w4))
          have HO4 : Hid (OwnF w4 wb.heap.size v4 F) := Lib.hid (ownF_mono ho4 hsz3)
          have HBB4 : Hid (Below wb.heap.size wb w4) := Lib.hid HS4.out.1
          clear ho4 hb4 hb3 ho3 hb1 ho1 hsz3
          have HOa5 : Hid (OwnF (w4.alloc (.cells #[.string ⟨#[88, 45, 67, 111, 110, 116, 101, 110, 116, 45, 84, 121, 112, 101, 45, 79, 112, 116, 105, 111, 110, 115]⟩, .string ⟨#[110, 111, 115, 110, 105, 102, 102]⟩] 37)) wb.heap.size _ (F)) := Lib.hid (ownF_alloc HO4.out _)
          have HLa5 := Lib.hid (lit_flds ([fSniff] : AL) #[.string ⟨#[88, 45, 67, 111, 110, 116, 101, 110, 116, 45, 84, 121, 112, 101, 45, 79, 112, 116, 105, 111, 110, 115]⟩, .string ⟨#[110, 111, 115, 110, 105, 102, 102]⟩] rfl w4)
          have HZa5 : Hid (wb.heap.size ≤ (w4.alloc (.cells #[.string ⟨#[88, 45, 67, 111, 110, 116, 101, 110, 116, 45, 84, 121, 112, 101, 45, 79, 112, 116, 105, 111, 110, 115]⟩, .string ⟨#[110, 111, 115, 110, 105, 102, 102]⟩] 37)).heap.size) := Lib.hid (by have := HBB4.out.size; simp; omega)
          go_wp2_with (at_builtin; refine app_flds rfl _ _ rfl wb.heap.size _ (F) rfl HOa5.out _ 1 1 ([fSniff] : AL) rfl rfl HLa5.out ?n5 HZa5.out ?_)
          case n5 => have := HLF.out; first | omega | (simp only [List.length_cons, List.length_nil] at *; omega)
          intro v5 w5 hown5 hb5 _
          have HOb5 : Hid (OwnF w5 wb.heap.size v5 (F ++ ([fSniff] : AL))) := Lib.hid (by simpa only [List.append_assoc, List.cons_append, List.nil_append] using hown5)
          have HBb5 : Hid (Below wb.heap.size wb w5) := Lib.hid ((HBB4.out.alloc HBB4.out.size _).trans hb5.out)
          have HLb5 : Hid ((F ++ ([fSniff] : AL)).length ≤ 16777300) := Lib.hid (by have := HLF.out; simp; omega)
          clear hown5 hb5 HOa5 HLa5 HZa5
          obtain ⟨c0, c1, c2, d0, d1, _⟩ := H2.out.keep HBb5.out
          have hsz : w.heap.size + 1 + 1 < w5.heap.size := by have := HBb5.out.size; have := H2.out.size; omega
          have HOa8 : Hid (OwnF (w5.alloc (.cells #[.string ⟨#[67, 111, 110, 110, 101, 99, 116, 105, 111, 110]⟩, .string ⟨#[99, 108, 111, 115, 101]⟩] 37)) wb.heap.size _ (F ++ ([fSniff] : AL))) := Lib.hid (ownF_alloc HOb5.out _)
          have HLa8 := Lib.hid (lit_flds ([fClos] : AL) #[.string ⟨#[67, 111, 110, 110, 101, 99, 116, 105, 111, 110]⟩, .string ⟨#[99, 108, 111, 115, 101]⟩] rfl w5)
          have HZa8 : Hid (wb.heap.size ≤ (w5.alloc (.cells #[.string ⟨#[67, 111, 110, 110, 101, 99, 116, 105, 111, 110]⟩, .string ⟨#[99, 108, 111, 115, 101]⟩] 37)).heap.size) := Lib.hid (by have := HBb5.out.size; simp; omega)
          go_wp2_with (at_builtin; refine app_flds rfl _ _ rfl wb.heap.size _ (F ++ ([fSniff] : AL)) rfl HOa8.out _ 1 1 ([fClos] : AL) rfl rfl HLa8.out ?n8 HZa8.out ?_)
          case n8 => have := HLb5.out; first | omega | (simp only [List.length_cons, List.length_nil] at *; omega)
          intro v8 w8 hown8 hb8 _
          have HOb8 : Hid (OwnF w8 wb.heap.size v8 (F ++ ([fSniff] : AL) ++ ([fClos] : AL))) := Lib.hid (by simpa only [List.append_assoc, List.cons_append, List.nil_append] using hown8)
          have HBb8 : Hid (Below wb.heap.size wb w8) := Lib.hid ((HBb5.out.alloc HBb5.out.size _).trans hb8.out)
          have HLb8 : Hid ((F ++ ([fSniff] : AL) ++ ([fClos] : AL)).length ≤ 16777300) := Lib.hid (by have := HLF.out; simp; omega)
          clear hown8 hb8 HOa8 HLa8 HZa8
          have HOZ : Hid (OwnF w8 wb.heap.size v8 R) := Lib.hid (by rw [HV.out]; simpa using HOb8.out)
          obtain ⟨e0, e1, e2, _, _, k0, k1, k2, f0, f1, f2⟩ := H2.out.keep HBb8.out
          obtain ⟨a9, d9, hv9, _⟩ := ownF_src HOZ.out
          have HBW : Hid (Below w.heap.size w w8) := Lib.hid (HB0.out.trans (HBb8.out.mono HB0.out.size))
          have HG1 : Hid (w.heap.size + 1 + 1 < wb.heap.size) := Lib.hid (by have := H2.out.size; omega)
          have hsz2 := Nat.lt_of_lt_of_le HG1.out HBb8.out.size
          have HG2 : Hid (w.heap.size ≤ w.heap.size + 1 + 1) := Lib.hid (by omega)
          have HWS : Hid (w.heap.size ≤ wb.heap.size) := Lib.hid HB0.out.size
          subst hv9
          go_wp2
          refine bodyPost_ret (v := .agg #[.int .i64 st, .string B, _]) (by simp [results, Tryz.results26, go_sem, k0, k1, k2]; rfl) rfl ?_
          exact respSays (below_set3 HBW.out HG2.out) (ownF_mono (ownF_set3 HOZ.out HG1.out) HWS.out)
  · rw [if_neg hk1] at hR
    clear h1
    by_cases hk2 : k = 2
    · subst hk2
      rw [if_pos (Or.inl rfl)] at hR
      cases last
      · have HV := Lib.hid hR
        clear hR
        go_enter Tryz.func26, Tryz.ntmps26
        go_wp2_with fail
        rw [← HWB.out]
        have KT : Hid (∀ x y : World, (Below wb.heap.size wb x ∧ x.cell? ⟨w.heap.size, 0, none⟩ = some (.int .i64 st) ∧ x.cell? ⟨w.heap.size, 1, none⟩ = some (.string B) ∧ x.cell? ⟨w.heap.size, 2, none⟩ = some (.slice a n c)) → Below x.heap.size x y → (Below wb.heap.size wb y ∧ y.cell? ⟨w.heap.size, 0, none⟩ = some (.int .i64 st) ∧ y.cell? ⟨w.heap.size, 1, none⟩ = some (.string B) ∧ y.cell? ⟨w.heap.size, 2, none⟩ = some (.slice a n c))) := Lib.hid fun x y ⟨h1, h2, h3, h4⟩ hb =>
          ⟨h1.trans (hb.mono h1.size), (hb.cell (p := ⟨w.heap.size, 0, none⟩) (Nat.lt_of_lt_of_le HG.out h1.size)).trans h2, (hb.cell (p := ⟨w.heap.size, 1, none⟩) (Nat.lt_of_lt_of_le HG.out h1.size)).trans h3, (hb.cell (p := ⟨w.heap.size, 2, none⟩) (Nat.lt_of_lt_of_le HG.out h1.size)).trans h4⟩
        have KD : Hid (Below wb.heap.size wb wb.drew ∧ wb.drew.cell? ⟨w.heap.size, 0, none⟩ = some (.int .i64 st) ∧ wb.drew.cell? ⟨w.heap.size, 1, none⟩ = some (.string B) ∧ wb.drew.cell? ⟨w.heap.size, 2, none⟩ = some (.slice a n c)) := Lib.hid ⟨(Below.refl _ _).drew, c0, c1, c2⟩
        have KB : Hid (∀ x : World, (Below wb.heap.size wb x ∧ x.cell? ⟨w.heap.size, 0, none⟩ = some (.int .i64 st) ∧ x.cell? ⟨w.heap.size, 1, none⟩ = some (.string B) ∧ x.cell? ⟨w.heap.size, 2, none⟩ = some (.slice a n c)) → Below wb.heap.size wb x) := Lib.hid fun x h => h.1
        have GH := Lib.hid fun wx (h : Below wb.heap.size wb wx ∧ wx.cell? ⟨w.heap.size, 0, none⟩ = some (.int .i64 st) ∧ wx.cell? ⟨w.heap.size, 1, none⟩ = some (.string B) ∧ wx.cell? ⟨w.heap.size, 2, none⟩ = some (.slice a n c)) => HH.out wx h.1
        have GW := Lib.hid fun wx (h : Below wb.heap.size wb wx ∧ wx.cell? ⟨w.heap.size, 0, none⟩ = some (.int .i64 st) ∧ wx.cell? ⟨w.heap.size, 1, none⟩ = some (.string B) ∧ wx.cell? ⟨w.heap.size, 2, none⟩ = some (.slice a n c)) => HW.out wx h.1
        have NL := Lib.hid fun wx => lit_strl [kCTO] #[.string ⟨#[88, 45, 67, 111, 110, 116, 101, 110, 116, 45, 84, 121, 112, 101, 45, 79, 112, 116, 105, 111, 110, 115]⟩] rfl wx
        have KT2 : Hid (∀ x y : World, (Below wb.heap.size wb x ∧ x.cell? ⟨w.heap.size, 0, none⟩ = some (.int .i64 st) ∧ x.cell? ⟨w.heap.size, 1, none⟩ = some (.string B) ∧ x.cell? ⟨w.heap.size, 2, none⟩ = some (.slice a n c)) → Below wb.heap.size x y → (Below wb.heap.size wb y ∧ y.cell? ⟨w.heap.size, 0, none⟩ = some (.int .i64 st) ∧ y.cell? ⟨w.heap.size, 1, none⟩ = some (.string B) ∧ y.cell? ⟨w.heap.size, 2, none⟩ = some (.slice a n c))) := Lib.hid fun x y ⟨h1, h2, h3, h4⟩ hb =>
          ⟨h1.trans hb, (hb.cell (p := ⟨w.heap.size, 0, none⟩) HG.out).trans h2, (hb.cell (p := ⟨w.heap.size, 1, none⟩) HG.out).trans h3, (hb.cell (p := ⟨w.heap.size, 2, none⟩) HG.out).trans h4⟩
        have HTL : Hid (T.length ≤ 16777416) := Lib.hid hl3
        clear c0 c1 c2
        go_region_held3 (fun w' => Below wb.heap.size wb w' ∧ w'.cell? ⟨w.heap.size, 0, none⟩ = some (.int .i64 st) ∧ w'.cell? ⟨w.heap.size, 1, none⟩ = some (.string B) ∧ w'.cell? ⟨w.heap.size, 2, none⟩ = some (.slice a n c)) (first | exact KD.out | exact KT2.out _ _ (by assumption) hb3 | exact KT.out _ _ (by assumption) (by assumption) | exact KT.out _ _ (by assumption) ((Below.refl _ _).alloc (Nat.le_refl _) _) | exact KT.out _ _ (by assumption) (Below.refl _ _).drew | exact KT.out _ _ KD.out ((Below.refl _ _).alloc (Nat.le_refl _) _) | assumption)
          (first
            | (go_at_call 55; refine (GH.out _ ?_).mono ?_; (first | assumption | exact KD.out); rintro e w1 ⟨hb1, v1, rfl, ho1⟩)
            | (refine step_app_strs (by rfl) _ _ (by rfl) wb.heap.size v1 T (by rfl) (ownS_alloc ho1 _) ⟨w1.heap.size, 0, none⟩ 1 1 [kCTO] rfl (by decide) (by rfl) (NL.out w1) (by have := HTL.out; omega) (Nat.le_trans (KB.out _ (by assumption)).size (Nat.le_refl _)) ?_; intro g cap w3 ho3 hb3)
            | (refine step_app_strs (by rfl) _ _ (by rfl) wb.heap.size v1 T (by rfl) (ownS_mono ho1 (by simp)) ⟨wb.heap.size, 0, none⟩ 1 1 [kCTO] rfl (by decide) (by rfl) ((NL.out wb.drew).below hb1) (by have := HTL.out; omega) (Nat.le_trans (KB.out _ (by assumption)).size (Nat.le_refl _)) ?_; intro g cap w3 ho3 hb3)
            | (go_at_call 54; have hsz3 := (KB.out w3 (by assumption)).size; obtain ⟨hln3, hsr3⟩ := ownS_got ho3; refine (GW.out w3 (by assumption) _ _ _ hln3.symm hsr3).mono ?_; rintro e w4 ⟨hb4, v4, rfl, ho4⟩; clear hln3 hsr3))
        all_goals
          have HS4 := Lib.hid (KT.out _ _ (by assumption) (Below.refl w4.heap.size w4))
          have HO4 : Hid (OwnF w4 wb.heap.size v4 F) := Lib.hid (ownF_mono ho4 hsz3)
          have HBB4 : Hid (Below wb.heap.size wb w4) := Lib.hid HS4.out.1
          clear ho4 hb4 hb3 ho3 hb1 ho1 hsz3
          have HOa5 : Hid (OwnF (w4.alloc (.cells #[.string ⟨#[88, 45, 67, 111, 110, 116, 101, 110, 116, 45, 84, 121, 112, 101, 45, 79, 112, 116, 105, 111, 110, 115]⟩, .string ⟨#[110, 111, 115, 110, 105, 102, 102]⟩] 37)) wb.heap.size _ (F)) := Lib.hid (ownF_alloc HO4.out _)
          have HLa5 := Lib.hid (lit_flds ([fSniff] : AL) #[.string ⟨#[88, 45, 67, 111, 110, 116, 101, 110, 116, 45, 84, 121, 112, 101, 45, 79, 112, 116, 105, 111, 110, 115]⟩, .string ⟨#[110, 111, 115, 110, 105, 102, 102]⟩] rfl w4)
          have HZa5 : Hid (wb.heap.size ≤ (w4.alloc (.cells #[.string ⟨#[88, 45, 67, 111, 110, 116, 101, 110, 116, 45, 84, 121, 112, 101, 45, 79, 112, 116, 105, 111, 110, 115]⟩, .string ⟨#[110, 111, 115, 110, 105, 102, 102]⟩] 37)).heap.size) := Lib.hid (by have := HBB4.out.size; simp; omega)
          go_wp2_with (at_builtin; refine app_flds rfl _ _ rfl wb.heap.size _ (F) rfl HOa5.out _ 1 1 ([fSniff] : AL) rfl rfl HLa5.out ?n5 HZa5.out ?_)
          case n5 => have := HLF.out; first | omega | (simp only [List.length_cons, List.length_nil] at *; omega)
          intro v5 w5 hown5 hb5 _
          have HOb5 : Hid (OwnF w5 wb.heap.size v5 (F ++ ([fSniff] : AL))) := Lib.hid (by simpa only [List.append_assoc, List.cons_append, List.nil_append] using hown5)
          have HBb5 : Hid (Below wb.heap.size wb w5) := Lib.hid ((HBB4.out.alloc HBB4.out.size _).trans hb5.out)
          have HLb5 : Hid ((F ++ ([fSniff] : AL)).length ≤ 16777300) := Lib.hid (by have := HLF.out; simp; omega)
          clear hown5 hb5 HOa5 HLa5 HZa5
          obtain ⟨c0, c1, c2, d0, d1, _⟩ := H2.out.keep HBb5.out
          have hsz : w.heap.size + 1 + 1 < w5.heap.size := by have := HBb5.out.size; have := H2.out.size; omega
          have HOa7 : Hid (OwnF (w5.alloc (.cells #[.string ⟨#[84, 114, 97, 110, 115, 102, 101, 114, 45, 69, 110, 99, 111, 100, 105, 110, 103]⟩, .string ⟨#[99, 104, 117, 110, 107, 101, 100]⟩] 37)) wb.heap.size _ (F ++ ([fSniff] : AL))) := Lib.hid (ownF_alloc HOb5.out _)
          have HLa7 := Lib.hid (lit_flds ([fTE] : AL) #[.string ⟨#[84, 114, 97, 110, 115, 102, 101, 114, 45, 69, 110, 99, 111, 100, 105, 110, 103]⟩, .string ⟨#[99, 104, 117, 110, 107, 101, 100]⟩] rfl w5)
          have HZa7 : Hid (wb.heap.size ≤ (w5.alloc (.cells #[.string ⟨#[84, 114, 97, 110, 115, 102, 101, 114, 45, 69, 110, 99, 111, 100, 105, 110, 103]⟩, .string ⟨#[99, 104, 117, 110, 107, 101, 100]⟩] 37)).heap.size) := Lib.hid (by have := HBb5.out.size; simp; omega)
          go_wp2_with (at_builtin; refine app_flds rfl _ _ rfl wb.heap.size _ (F ++ ([fSniff] : AL)) rfl HOa7.out _ 1 1 ([fTE] : AL) rfl rfl HLa7.out ?n7 HZa7.out ?_)
          case n7 => have := HLb5.out; first | omega | (simp only [List.length_cons, List.length_nil] at *; omega)
          intro v7 w7 hown7 hb7 _
          have HOb7 : Hid (OwnF w7 wb.heap.size v7 (F ++ ([fSniff] : AL) ++ ([fTE] : AL))) := Lib.hid (by simpa only [List.append_assoc, List.cons_append, List.nil_append] using hown7)
          have HBb7 : Hid (Below wb.heap.size wb w7) := Lib.hid ((HBb5.out.alloc HBb5.out.size _).trans hb7.out)
          have HLb7 : Hid ((F ++ ([fSniff] : AL) ++ ([fTE] : AL)).length ≤ 16777300) := Lib.hid (by have := HLF.out; simp; omega)
          clear hown7 hb7 HOa7 HLa7 HZa7
          obtain ⟨c0, c1, c2, d0, d1, _⟩ := H2.out.keep HBb7.out
          have hsz : w.heap.size + 1 + 1 < w7.heap.size := by have := HBb7.out.size; have := H2.out.size; omega
          have HOZ : Hid (OwnF w7 wb.heap.size v7 R) := Lib.hid (by rw [HV.out]; simpa using HOb7.out)
          obtain ⟨e0, e1, e2, _, _, k0, k1, k2, f0, f1, f2⟩ := H2.out.keep HBb7.out
          obtain ⟨a9, d9, hv9, _⟩ := ownF_src HOZ.out
          have HBW : Hid (Below w.heap.size w w7) := Lib.hid (HB0.out.trans (HBb7.out.mono HB0.out.size))
          have HG1 : Hid (w.heap.size + 1 + 1 < wb.heap.size) := Lib.hid (by have := H2.out.size; omega)
          have hsz2 := Nat.lt_of_lt_of_le HG1.out HBb7.out.size
          have HG2 : Hid (w.heap.size ≤ w.heap.size + 1 + 1) := Lib.hid (by omega)
          have HWS : Hid (w.heap.size ≤ wb.heap.size) := Lib.hid HB0.out.size
          subst hv9
          go_wp2
          refine bodyPost_ret (v := .agg #[.int .i64 st, .string B, _]) (by simp [results, Tryz.results26, go_sem, k0, k1, k2]; rfl) rfl ?_
          exact respSays (below_set3 HBW.out HG2.out) (ownF_mono (ownF_set3 HOZ.out HG1.out) HWS.out)
      · have HV := Lib.hid hR
        clear hR
        go_enter Tryz.func26, Tryz.ntmps26
        go_wp2_with fail
        rw [← HWB.out]
        have KT : Hid (∀ x y : World, (Below wb.heap.size wb x ∧ x.cell? ⟨w.heap.size, 0, none⟩ = some (.int .i64 st) ∧ x.cell? ⟨w.heap.size, 1, none⟩ = some (.string B) ∧ x.cell? ⟨w.heap.size, 2, none⟩ = some (.slice a n c)) → Below x.heap.size x y → (Below wb.heap.size wb y ∧ y.cell? ⟨w.heap.size, 0, none⟩ = some (.int .i64 st) ∧ y.cell? ⟨w.heap.size, 1, none⟩ = some (.string B) ∧ y.cell? ⟨w.heap.size, 2, none⟩ = some (.slice a n c))) := Lib.hid fun x y ⟨h1, h2, h3, h4⟩ hb =>
          ⟨h1.trans (hb.mono h1.size), (hb.cell (p := ⟨w.heap.size, 0, none⟩) (Nat.lt_of_lt_of_le HG.out h1.size)).trans h2, (hb.cell (p := ⟨w.heap.size, 1, none⟩) (Nat.lt_of_lt_of_le HG.out h1.size)).trans h3, (hb.cell (p := ⟨w.heap.size, 2, none⟩) (Nat.lt_of_lt_of_le HG.out h1.size)).trans h4⟩
        have KD : Hid (Below wb.heap.size wb wb.drew ∧ wb.drew.cell? ⟨w.heap.size, 0, none⟩ = some (.int .i64 st) ∧ wb.drew.cell? ⟨w.heap.size, 1, none⟩ = some (.string B) ∧ wb.drew.cell? ⟨w.heap.size, 2, none⟩ = some (.slice a n c)) := Lib.hid ⟨(Below.refl _ _).drew, c0, c1, c2⟩
        have KB : Hid (∀ x : World, (Below wb.heap.size wb x ∧ x.cell? ⟨w.heap.size, 0, none⟩ = some (.int .i64 st) ∧ x.cell? ⟨w.heap.size, 1, none⟩ = some (.string B) ∧ x.cell? ⟨w.heap.size, 2, none⟩ = some (.slice a n c)) → Below wb.heap.size wb x) := Lib.hid fun x h => h.1
        have GH := Lib.hid fun wx (h : Below wb.heap.size wb wx ∧ wx.cell? ⟨w.heap.size, 0, none⟩ = some (.int .i64 st) ∧ wx.cell? ⟨w.heap.size, 1, none⟩ = some (.string B) ∧ wx.cell? ⟨w.heap.size, 2, none⟩ = some (.slice a n c)) => HH.out wx h.1
        have GW := Lib.hid fun wx (h : Below wb.heap.size wb wx ∧ wx.cell? ⟨w.heap.size, 0, none⟩ = some (.int .i64 st) ∧ wx.cell? ⟨w.heap.size, 1, none⟩ = some (.string B) ∧ wx.cell? ⟨w.heap.size, 2, none⟩ = some (.slice a n c)) => HW.out wx h.1
        have NL := Lib.hid fun wx => lit_strl [kCTO] #[.string ⟨#[88, 45, 67, 111, 110, 116, 101, 110, 116, 45, 84, 121, 112, 101, 45, 79, 112, 116, 105, 111, 110, 115]⟩] rfl wx
        have KT2 : Hid (∀ x y : World, (Below wb.heap.size wb x ∧ x.cell? ⟨w.heap.size, 0, none⟩ = some (.int .i64 st) ∧ x.cell? ⟨w.heap.size, 1, none⟩ = some (.string B) ∧ x.cell? ⟨w.heap.size, 2, none⟩ = some (.slice a n c)) → Below wb.heap.size x y → (Below wb.heap.size wb y ∧ y.cell? ⟨w.heap.size, 0, none⟩ = some (.int .i64 st) ∧ y.cell? ⟨w.heap.size, 1, none⟩ = some (.string B) ∧ y.cell? ⟨w.heap.size, 2, none⟩ = some (.slice a n c))) := Lib.hid fun x y ⟨h1, h2, h3, h4⟩ hb =>
          ⟨h1.trans hb, (hb.cell (p := ⟨w.heap.size, 0, none⟩) HG.out).trans h2, (hb.cell (p := ⟨w.heap.size, 1, none⟩) HG.out).trans h3, (hb.cell (p := ⟨w.heap.size, 2, none⟩) HG.out).trans h4⟩
        have HTL : Hid (T.length ≤ 16777416) := Lib.hid hl3
        clear c0 c1 c2
        go_region_held3 (fun w' => Below wb.heap.size wb w' ∧ w'.cell? ⟨w.heap.size, 0, none⟩ = some (.int .i64 st) ∧ w'.cell? ⟨w.heap.size, 1, none⟩ = some (.string B) ∧ w'.cell? ⟨w.heap.size, 2, none⟩ = some (.slice a n c)) (first | exact KD.out | exact KT2.out _ _ (by assumption) hb3 | exact KT.out _ _ (by assumption) (by assumption) | exact KT.out _ _ (by assumption) ((Below.refl _ _).alloc (Nat.le_refl _) _) | exact KT.out _ _ (by assumption) (Below.refl _ _).drew | exact KT.out _ _ KD.out ((Below.refl _ _).alloc (Nat.le_refl _) _) | assumption)
          (first
            | (go_at_call 55; refine (GH.out _ ?_).mono ?_; (first | assumption | exact KD.out); rintro e w1 ⟨hb1, v1, rfl, ho1⟩)
            | (refine step_app_strs (by rfl) _ _ (by rfl) wb.heap.size v1 T (by rfl) (ownS_alloc ho1 _) ⟨w1.heap.size, 0, none⟩ 1 1 [kCTO] rfl (by decide) (by rfl) (NL.out w1) (by have := HTL.out; omega) (Nat.le_trans (KB.out _ (by assumption)).size (Nat.le_refl _)) ?_; intro g cap w3 ho3 hb3)
            | (refine step_app_strs (by rfl) _ _ (by rfl) wb.heap.size v1 T (by rfl) (ownS_mono ho1 (by simp)) ⟨wb.heap.size, 0, none⟩ 1 1 [kCTO] rfl (by decide) (by rfl) ((NL.out wb.drew).below hb1) (by have := HTL.out; omega) (Nat.le_trans (KB.out _ (by assumption)).size (Nat.le_refl _)) ?_; intro g cap w3 ho3 hb3)
            | (go_at_call 54; have hsz3 := (KB.out w3 (by assumption)).size; obtain ⟨hln3, hsr3⟩ := ownS_got ho3; refine (GW.out w3 (by assumption) _ _ _ hln3.symm hsr3).mono ?_; rintro e w4 ⟨hb4, v4, rfl, ho4⟩; clear hln3 hsr3))
        all_goals
          have HS4 := Lib.hid (KT.out _ _ (by assumption) (Below.refl w4.heap.size w4))
          have HO4 : Hid (OwnF w4 wb.heap.size v4 F) := Lib.hid (ownF_mono ho4 hsz3)
          have HBB4 : Hid (Below wb.heap.size wb w4) := Lib.hid HS4.out.1
          clear ho4 hb4 hb3 ho3 hb1 ho1 hsz3
          have HOa5 : Hid (OwnF (w4.alloc (.cells #[.string ⟨#[88, 45, 67, 111, 110, 116, 101, 110, 116, 45, 84, 121, 112, 101, 45, 79, 112, 116, 105, 111, 110, 115]⟩, .string ⟨#[110, 111, 115, 110, 105, 102, 102]⟩] 37)) wb.heap.size _ (F)) := Lib.hid (ownF_alloc HO4.out _)
          have HLa5 := Lib.hid (lit_flds ([fSniff] : AL) #[.string ⟨#[88, 45, 67, 111, 110, 116, 101, 110, 116, 45, 84, 121, 112, 101, 45, 79, 112, 116, 105, 111, 110, 115]⟩, .string ⟨#[110, 111, 115, 110, 105, 102, 102]⟩] rfl w4)
          have HZa5 : Hid (wb.heap.size ≤ (w4.alloc (.cells #[.string ⟨#[88, 45, 67, 111, 110, 116, 101, 110, 116, 45, 84, 121, 112, 101, 45, 79, 112, 116, 105, 111, 110, 115]⟩, .string ⟨#[110, 111, 115, 110, 105, 102, 102]⟩] 37)).heap.size) := Lib.hid (by have := HBB4.out.size; simp; omega)
          go_wp2_with (at_builtin; refine app_flds rfl _ _ rfl wb.heap.size _ (F) rfl HOa5.out _ 1 1 ([fSniff] : AL) rfl rfl HLa5.out ?n5 HZa5.out ?_)
          case n5 => have := HLF.out; first | omega | (simp only [List.length_cons, List.length_nil] at *; omega)
          intro v5 w5 hown5 hb5 _
          have HOb5 : Hid (OwnF w5 wb.heap.size v5 (F ++ ([fSniff] : AL))) := Lib.hid (by simpa only [List.append_assoc, List.cons_append, List.nil_append] using hown5)
          have HBb5 : Hid (Below wb.heap.size wb w5) := Lib.hid ((HBB4.out.alloc HBB4.out.size _).trans hb5.out)
          have HLb5 : Hid ((F ++ ([fSniff] : AL)).length ≤ 16777300) := Lib.hid (by have := HLF.out; simp; omega)
          clear hown5 hb5 HOa5 HLa5 HZa5
          obtain ⟨c0, c1, c2, d0, d1, _⟩ := H2.out.keep HBb5.out
          have hsz : w.heap.size + 1 + 1 < w5.heap.size := by have := HBb5.out.size; have := H2.out.size; omega
          have HOa7 : Hid (OwnF (w5.alloc (.cells #[.string ⟨#[84, 114, 97, 110, 115, 102, 101, 114, 45, 69, 110, 99, 111, 100, 105, 110, 103]⟩, .string ⟨#[99, 104, 117, 110, 107, 101, 100]⟩] 37)) wb.heap.size _ (F ++ ([fSniff] : AL))) := Lib.hid (ownF_alloc HOb5.out _)
          have HLa7 := Lib.hid (lit_flds ([fTE] : AL) #[.string ⟨#[84, 114, 97, 110, 115, 102, 101, 114, 45, 69, 110, 99, 111, 100, 105, 110, 103]⟩, .string ⟨#[99, 104, 117, 110, 107, 101, 100]⟩] rfl w5)
          have HZa7 : Hid (wb.heap.size ≤ (w5.alloc (.cells #[.string ⟨#[84, 114, 97, 110, 115, 102, 101, 114, 45, 69, 110, 99, 111, 100, 105, 110, 103]⟩, .string ⟨#[99, 104, 117, 110, 107, 101, 100]⟩] 37)).heap.size) := Lib.hid (by have := HBb5.out.size; simp; omega)
          go_wp2_with (at_builtin; refine app_flds rfl _ _ rfl wb.heap.size _ (F ++ ([fSniff] : AL)) rfl HOa7.out _ 1 1 ([fTE] : AL) rfl rfl HLa7.out ?n7 HZa7.out ?_)
          case n7 => have := HLb5.out; first | omega | (simp only [List.length_cons, List.length_nil] at *; omega)
          intro v7 w7 hown7 hb7 _
          have HOb7 : Hid (OwnF w7 wb.heap.size v7 (F ++ ([fSniff] : AL) ++ ([fTE] : AL))) := Lib.hid (by simpa only [List.append_assoc, List.cons_append, List.nil_append] using hown7)
          have HBb7 : Hid (Below wb.heap.size wb w7) := Lib.hid ((HBb5.out.alloc HBb5.out.size _).trans hb7.out)
          have HLb7 : Hid ((F ++ ([fSniff] : AL) ++ ([fTE] : AL)).length ≤ 16777300) := Lib.hid (by have := HLF.out; simp; omega)
          clear hown7 hb7 HOa7 HLa7 HZa7
          obtain ⟨c0, c1, c2, d0, d1, _⟩ := H2.out.keep HBb7.out
          have hsz : w.heap.size + 1 + 1 < w7.heap.size := by have := HBb7.out.size; have := H2.out.size; omega
          have HOa8 : Hid (OwnF (w7.alloc (.cells #[.string ⟨#[67, 111, 110, 110, 101, 99, 116, 105, 111, 110]⟩, .string ⟨#[99, 108, 111, 115, 101]⟩] 37)) wb.heap.size _ (F ++ ([fSniff] : AL) ++ ([fTE] : AL))) := Lib.hid (ownF_alloc HOb7.out _)
          have HLa8 := Lib.hid (lit_flds ([fClos] : AL) #[.string ⟨#[67, 111, 110, 110, 101, 99, 116, 105, 111, 110]⟩, .string ⟨#[99, 108, 111, 115, 101]⟩] rfl w7)
          have HZa8 : Hid (wb.heap.size ≤ (w7.alloc (.cells #[.string ⟨#[67, 111, 110, 110, 101, 99, 116, 105, 111, 110]⟩, .string ⟨#[99, 108, 111, 115, 101]⟩] 37)).heap.size) := Lib.hid (by have := HBb7.out.size; simp; omega)
          go_wp2_with (at_builtin; refine app_flds rfl _ _ rfl wb.heap.size _ (F ++ ([fSniff] : AL) ++ ([fTE] : AL)) rfl HOa8.out _ 1 1 ([fClos] : AL) rfl rfl HLa8.out ?n8 HZa8.out ?_)
          case n8 => have := HLb7.out; first | omega | (simp only [List.length_cons, List.length_nil] at *; omega)
          intro v8 w8 hown8 hb8 _
          have HOb8 : Hid (OwnF w8 wb.heap.size v8 (F ++ ([fSniff] : AL) ++ ([fTE] : AL) ++ ([fClos] : AL))) := Lib.hid (by simpa only [List.append_assoc, List.cons_append, List.nil_append] using hown8)
          have HBb8 : Hid (Below wb.heap.size wb w8) := Lib.hid ((HBb7.out.alloc HBb7.out.size _).trans hb8.out)
          have HLb8 : Hid ((F ++ ([fSniff] : AL) ++ ([fTE] : AL) ++ ([fClos] : AL)).length ≤ 16777300) := Lib.hid (by have := HLF.out; simp; omega)
          clear hown8 hb8 HOa8 HLa8 HZa8
          have HOZ : Hid (OwnF w8 wb.heap.size v8 R) := Lib.hid (by rw [HV.out]; simpa using HOb8.out)
          obtain ⟨e0, e1, e2, _, _, k0, k1, k2, f0, f1, f2⟩ := H2.out.keep HBb8.out
          obtain ⟨a9, d9, hv9, _⟩ := ownF_src HOZ.out
          have HBW : Hid (Below w.heap.size w w8) := Lib.hid (HB0.out.trans (HBb8.out.mono HB0.out.size))
          have HG1 : Hid (w.heap.size + 1 + 1 < wb.heap.size) := Lib.hid (by have := H2.out.size; omega)
          have hsz2 := Nat.lt_of_lt_of_le HG1.out HBb8.out.size
          have HG2 : Hid (w.heap.size ≤ w.heap.size + 1 + 1) := Lib.hid (by omega)
          have HWS : Hid (w.heap.size ≤ wb.heap.size) := Lib.hid HB0.out.size
          subst hv9
          go_wp2
          refine bodyPost_ret (v := .agg #[.int .i64 st, .string B, _]) (by simp [results, Tryz.results26, go_sem, k0, k1, k2]; rfl) rfl ?_
          exact respSays (below_set3 HBW.out HG2.out) (ownF_mono (ownF_set3 HOZ.out HG1.out) HWS.out)
    · by_cases hk3 : k = 3
      · subst hk3
        rw [if_pos (Or.inr rfl)] at hR
        cases last
        · have HV := Lib.hid hR
          clear hR
          go_enter Tryz.func26, Tryz.ntmps26
          go_wp2_with fail
          rw [← HWB.out]
          have KT : Hid (∀ x y : World, (Below wb.heap.size wb x ∧ x.cell? ⟨w.heap.size, 0, none⟩ = some (.int .i64 st) ∧ x.cell? ⟨w.heap.size, 1, none⟩ = some (.string B) ∧ x.cell? ⟨w.heap.size, 2, none⟩ = some (.slice a n c)) → Below x.heap.size x y → (Below wb.heap.size wb y ∧ y.cell? ⟨w.heap.size, 0, none⟩ = some (.int .i64 st) ∧ y.cell? ⟨w.heap.size, 1, none⟩ = some (.string B) ∧ y.cell? ⟨w.heap.size, 2, none⟩ = some (.slice a n c))) := Lib.hid fun x y ⟨h1, h2, h3, h4⟩ hb =>
            ⟨h1.trans (hb.mono h1.size), (hb.cell (p := ⟨w.heap.size, 0, none⟩) (Nat.lt_of_lt_of_le HG.out h1.size)).trans h2, (hb.cell (p := ⟨w.heap.size, 1, none⟩) (Nat.lt_of_lt_of_le HG.out h1.size)).trans h3, (hb.cell (p := ⟨w.heap.size, 2, none⟩) (Nat.lt_of_lt_of_le HG.out h1.size)).trans h4⟩
          have KD : Hid (Below wb.heap.size wb wb.drew ∧ wb.drew.cell? ⟨w.heap.size, 0, none⟩ = some (.int .i64 st) ∧ wb.drew.cell? ⟨w.heap.size, 1, none⟩ = some (.string B) ∧ wb.drew.cell? ⟨w.heap.size, 2, none⟩ = some (.slice a n c)) := Lib.hid ⟨(Below.refl _ _).drew, c0, c1, c2⟩
          have KB : Hid (∀ x : World, (Below wb.heap.size wb x ∧ x.cell? ⟨w.heap.size, 0, none⟩ = some (.int .i64 st) ∧ x.cell? ⟨w.heap.size, 1, none⟩ = some (.string B) ∧ x.cell? ⟨w.heap.size, 2, none⟩ = some (.slice a n c)) → Below wb.heap.size wb x) := Lib.hid fun x h => h.1
          have GH := Lib.hid fun wx (h : Below wb.heap.size wb wx ∧ wx.cell? ⟨w.heap.size, 0, none⟩ = some (.int .i64 st) ∧ wx.cell? ⟨w.heap.size, 1, none⟩ = some (.string B) ∧ wx.cell? ⟨w.heap.size, 2, none⟩ = some (.slice a n c)) => HH.out wx h.1
          have GW := Lib.hid fun wx (h : Below wb.heap.size wb wx ∧ wx.cell? ⟨w.heap.size, 0, none⟩ = some (.int .i64 st) ∧ wx.cell? ⟨w.heap.size, 1, none⟩ = some (.string B) ∧ wx.cell? ⟨w.heap.size, 2, none⟩ = some (.slice a n c)) => HW.out wx h.1
          have NL := Lib.hid fun wx => lit_strl [kCTO] #[.string ⟨#[88, 45, 67, 111, 110, 116, 101, 110, 116, 45, 84, 121, 112, 101, 45, 79, 112, 116, 105, 111, 110, 115]⟩] rfl wx
          have KT2 : Hid (∀ x y : World, (Below wb.heap.size wb x ∧ x.cell? ⟨w.heap.size, 0, none⟩ = some (.int .i64 st) ∧ x.cell? ⟨w.heap.size, 1, none⟩ = some (.string B) ∧ x.cell? ⟨w.heap.size, 2, none⟩ = some (.slice a n c)) → Below wb.heap.size x y → (Below wb.heap.size wb y ∧ y.cell? ⟨w.heap.size, 0, none⟩ = some (.int .i64 st) ∧ y.cell? ⟨w.heap.size, 1, none⟩ = some (.string B) ∧ y.cell? ⟨w.heap.size, 2, none⟩ = some (.slice a n c))) := Lib.hid fun x y ⟨h1, h2, h3, h4⟩ hb =>
            ⟨h1.trans hb, (hb.cell (p := ⟨w.heap.size, 0, none⟩) HG.out).trans h2, (hb.cell (p := ⟨w.heap.size, 1, none⟩) HG.out).trans h3, (hb.cell (p := ⟨w.heap.size, 2, none⟩) HG.out).trans h4⟩
          have HTL : Hid (T.length ≤ 16777416) := Lib.hid hl3
          clear c0 c1 c2
          go_region_held3 (fun w' => Below wb.heap.size wb w' ∧ w'.cell? ⟨w.heap.size, 0, none⟩ = some (.int .i64 st) ∧ w'.cell? ⟨w.heap.size, 1, none⟩ = some (.string B) ∧ w'.cell? ⟨w.heap.size, 2, none⟩ = some (.slice a n c)) (first | exact KD.out | exact KT2.out _ _ (by assumption) hb3 | exact KT.out _ _ (by assumption) (by assumption) | exact KT.out _ _ (by assumption) ((Below.refl _ _).alloc (Nat.le_refl _) _) | exact KT.out _ _ (by assumption) (Below.refl _ _).drew | exact KT.out _ _ KD.out ((Below.refl _ _).alloc (Nat.le_refl _) _) | assumption)
            (first
              | (go_at_call 55; refine (GH.out _ ?_).mono ?_; (first | assumption | exact KD.out); rintro e w1 ⟨hb1, v1, rfl, ho1⟩)
              | (refine step_app_strs (by rfl) _ _ (by rfl) wb.heap.size v1 T (by rfl) (ownS_alloc ho1 _) ⟨w1.heap.size, 0, none⟩ 1 1 [kCTO] rfl (by decide) (by rfl) (NL.out w1) (by have := HTL.out; omega) (Nat.le_trans (KB.out _ (by assumption)).size (Nat.le_refl _)) ?_; intro g cap w3 ho3 hb3)
              | (refine step_app_strs (by rfl) _ _ (by rfl) wb.heap.size v1 T (by rfl) (ownS_mono ho1 (by simp)) ⟨wb.heap.size, 0, none⟩ 1 1 [kCTO] rfl (by decide) (by rfl) ((NL.out wb.drew).below hb1) (by have := HTL.out; omega) (Nat.le_trans (KB.out _ (by assumption)).size (Nat.le_refl _)) ?_; intro g cap w3 ho3 hb3)
              | (go_at_call 54; have hsz3 := (KB.out w3 (by assumption)).size; obtain ⟨hln3, hsr3⟩ := ownS_got ho3; refine (GW.out w3 (by assumption) _ _ _ hln3.symm hsr3).mono ?_; rintro e w4 ⟨hb4, v4, rfl, ho4⟩; clear hln3 hsr3))
          all_goals
            have HS4 := Lib.hid (KT.out _ _ (by assumption) (Below.refl w4.heap.size w4))
            have HO4 : Hid (OwnF w4 wb.heap.size v4 F) := Lib.hid (ownF_mono ho4 hsz3)
            have HBB4 : Hid (Below wb.heap.size wb w4) := Lib.hid HS4.out.1
            clear ho4 hb4 hb3 ho3 hb1 ho1 hsz3
            have HOa5 : Hid (OwnF (w4.alloc (.cells #[.string ⟨#[88, 45, 67, 111, 110, 116, 101, 110, 116, 45, 84, 121, 112, 101, 45, 79, 112, 116, 105, 111, 110, 115]⟩, .string ⟨#[110, 111, 115, 110, 105, 102, 102]⟩] 37)) wb.heap.size _ (F)) := Lib.hid (ownF_alloc HO4.out _)
            have HLa5 := Lib.hid (lit_flds ([fSniff] : AL) #[.string ⟨#[88, 45, 67, 111, 110, 116, 101, 110, 116, 45, 84, 121, 112, 101, 45, 79, 112, 116, 105, 111, 110, 115]⟩, .string ⟨#[110, 111, 115, 110, 105, 102, 102]⟩] rfl w4)
            have HZa5 : Hid (wb.heap.size ≤ (w4.alloc (.cells #[.string ⟨#[88, 45, 67, 111, 110, 116, 101, 110, 116, 45, 84, 121, 112, 101, 45, 79, 112, 116, 105, 111, 110, 115]⟩, .string ⟨#[110, 111, 115, 110, 105, 102, 102]⟩] 37)).heap.size) := Lib.hid (by have := HBB4.out.size; simp; omega)
            go_wp2_with (at_builtin; refine app_flds rfl _ _ rfl wb.heap.size _ (F) rfl HOa5.out _ 1 1 ([fSniff] : AL) rfl rfl HLa5.out ?n5 HZa5.out ?_)
            case n5 => have := HLF.out; first | omega | (simp only [List.length_cons, List.length_nil] at *; omega)
            intro v5 w5 hown5 hb5 _
            have HOb5 : Hid (OwnF w5 wb.heap.size v5 (F ++ ([fSniff] : AL))) := Lib.hid (by simpa only [List.append_assoc, List.cons_append, List.nil_append] using hown5)
            have HBb5 : Hid (Below wb.heap.size wb w5) := Lib.hid ((HBB4.out.alloc HBB4.out.size _).trans hb5.out)
            have HLb5 : Hid ((F ++ ([fSniff] : AL)).length ≤ 16777300) := Lib.hid (by have := HLF.out; simp; omega)
            clear hown5 hb5 HOa5 HLa5 HZa5
            obtain ⟨c0, c1, c2, d0, d1, _⟩ := H2.out.keep HBb5.out
            have hsz : w.heap.size + 1 + 1 < w5.heap.size := by have := HBb5.out.size; have := H2.out.size; omega
            have HOa7 : Hid (OwnF (w5.alloc (.cells #[.string ⟨#[84, 114, 97, 110, 115, 102, 101, 114, 45, 69, 110, 99, 111, 100, 105, 110, 103]⟩, .string ⟨#[99, 104, 117, 110, 107, 101, 100]⟩] 37)) wb.heap.size _ (F ++ ([fSniff] : AL))) := Lib.hid (ownF_alloc HOb5.out _)
            have HLa7 := Lib.hid (lit_flds ([fTE] : AL) #[.string ⟨#[84, 114, 97, 110, 115, 102, 101, 114, 45, 69, 110, 99, 111, 100, 105, 110, 103]⟩, .string ⟨#[99, 104, 117, 110, 107, 101, 100]⟩] rfl w5)
            have HZa7 : Hid (wb.heap.size ≤ (w5.alloc (.cells #[.string ⟨#[84, 114, 97, 110, 115, 102, 101, 114, 45, 69, 110, 99, 111, 100, 105, 110, 103]⟩, .string ⟨#[99, 104, 117, 110, 107, 101, 100]⟩] 37)).heap.size) := Lib.hid (by have := HBb5.out.size; simp; omega)
            go_wp2_with (at_builtin; refine app_flds rfl _ _ rfl wb.heap.size _ (F ++ ([fSniff] : AL)) rfl HOa7.out _ 1 1 ([fTE] : AL) rfl rfl HLa7.out ?n7 HZa7.out ?_)
            case n7 => have := HLb5.out; first | omega | (simp only [List.length_cons, List.length_nil] at *; omega)
            intro v7 w7 hown7 hb7 _
            have HOb7 : Hid (OwnF w7 wb.heap.size v7 (F ++ ([fSniff] : AL) ++ ([fTE] : AL))) := Lib.hid (by simpa only [List.append_assoc, List.cons_append, List.nil_append] using hown7)
            have HBb7 : Hid (Below wb.heap.size wb w7) := Lib.hid ((HBb5.out.alloc HBb5.out.size _).trans hb7.out)
            have HLb7 : Hid ((F ++ ([fSniff] : AL) ++ ([fTE] : AL)).length ≤ 16777300) := Lib.hid (by have := HLF.out; simp; omega)
            clear hown7 hb7 HOa7 HLa7 HZa7
            obtain ⟨c0, c1, c2, d0, d1, _⟩ := H2.out.keep HBb7.out
            have hsz : w.heap.size + 1 + 1 < w7.heap.size := by have := HBb7.out.size; have := H2.out.size; omega
            have HOZ : Hid (OwnF w7 wb.heap.size v7 R) := Lib.hid (by rw [HV.out]; simpa using HOb7.out)
            obtain ⟨e0, e1, e2, _, _, k0, k1, k2, f0, f1, f2⟩ := H2.out.keep HBb7.out
            obtain ⟨a9, d9, hv9, _⟩ := ownF_src HOZ.out
            have HBW : Hid (Below w.heap.size w w7) := Lib.hid (HB0.out.trans (HBb7.out.mono HB0.out.size))
            have HG1 : Hid (w.heap.size + 1 + 1 < wb.heap.size) := Lib.hid (by have := H2.out.size; omega)
            have hsz2 := Nat.lt_of_lt_of_le HG1.out HBb7.out.size
            have HG2 : Hid (w.heap.size ≤ w.heap.size + 1 + 1) := Lib.hid (by omega)
            have HWS : Hid (w.heap.size ≤ wb.heap.size) := Lib.hid HB0.out.size
            subst hv9
            go_wp2
            refine bodyPost_ret (v := .agg #[.int .i64 st, .string B, _]) (by simp [results, Tryz.results26, go_sem, k0, k1, k2]; rfl) rfl ?_
            exact respSays (below_set3 HBW.out HG2.out) (ownF_mono (ownF_set3 HOZ.out HG1.out) HWS.out)
        · have HV := Lib.hid hR
          clear hR
          go_enter Tryz.func26, Tryz.ntmps26
          go_wp2_with fail
          rw [← HWB.out]
          have KT : Hid (∀ x y : World, (Below wb.heap.size wb x ∧ x.cell? ⟨w.heap.size, 0, none⟩ = some (.int .i64 st) ∧ x.cell? ⟨w.heap.size, 1, none⟩ = some (.string B) ∧ x.cell? ⟨w.heap.size, 2, none⟩ = some (.slice a n c)) → Below x.heap.size x y → (Below wb.heap.size wb y ∧ y.cell? ⟨w.heap.size, 0, none⟩ = some (.int .i64 st) ∧ y.cell? ⟨w.heap.size, 1, none⟩ = some (.string B) ∧ y.cell? ⟨w.heap.size, 2, none⟩ = some (.slice a n c))) := Lib.hid fun x y ⟨h1, h2, h3, h4⟩ hb =>
            ⟨h1.trans (hb.mono h1.size), (hb.cell (p := ⟨w.heap.size, 0, none⟩) (Nat.lt_of_lt_of_le HG.out h1.size)).trans h2, (hb.cell (p := ⟨w.heap.size, 1, none⟩) (Nat.lt_of_lt_of_le HG.out h1.size)).trans h3, (hb.cell (p := ⟨w.heap.size, 2, none⟩) (Nat.lt_of_lt_of_le HG.out h1.size)).trans h4⟩
          have KD : Hid (Below wb.heap.size wb wb.drew ∧ wb.drew.cell? ⟨w.heap.size, 0, none⟩ = some (.int .i64 st) ∧ wb.drew.cell? ⟨w.heap.size, 1, none⟩ = some (.string B) ∧ wb.drew.cell? ⟨w.heap.size, 2, none⟩ = some (.slice a n c)) := Lib.hid ⟨(Below.refl _ _).drew, c0, c1, c2⟩
          have KB : Hid (∀ x : World, (Below wb.heap.size wb x ∧ x.cell? ⟨w.heap.size, 0, none⟩ = some (.int .i64 st) ∧ x.cell? ⟨w.heap.size, 1, none⟩ = some (.string B) ∧ x.cell? ⟨w.heap.size, 2, none⟩ = some (.slice a n c)) → Below wb.heap.size wb x) := Lib.hid fun x h => h.1
          have GH := Lib.hid fun wx (h : Below wb.heap.size wb wx ∧ wx.cell? ⟨w.heap.size, 0, none⟩ = some (.int .i64 st) ∧ wx.cell? ⟨w.heap.size, 1, none⟩ = some (.string B) ∧ wx.cell? ⟨w.heap.size, 2, none⟩ = some (.slice a n c)) => HH.out wx h.1
          have GW := Lib.hid fun wx (h : Below wb.heap.size wb wx ∧ wx.cell? ⟨w.heap.size, 0, none⟩ = some (.int .i64 st) ∧ wx.cell? ⟨w.heap.size, 1, none⟩ = some (.string B) ∧ wx.cell? ⟨w.heap.size, 2, none⟩ = some (.slice a n c)) => HW.out wx h.1
          have NL := Lib.hid fun wx => lit_strl [kCTO] #[.string ⟨#[88, 45, 67, 111, 110, 116, 101, 110, 116, 45, 84, 121, 112, 101, 45, 79, 112, 116, 105, 111, 110, 115]⟩] rfl wx
          have KT2 : Hid (∀ x y : World, (Below wb.heap.size wb x ∧ x.cell? ⟨w.heap.size, 0, none⟩ = some (.int .i64 st) ∧ x.cell? ⟨w.heap.size, 1, none⟩ = some (.string B) ∧ x.cell? ⟨w.heap.size, 2, none⟩ = some (.slice a n c)) → Below wb.heap.size x y → (Below wb.heap.size wb y ∧ y.cell? ⟨w.heap.size, 0, none⟩ = some (.int .i64 st) ∧ y.cell? ⟨w.heap.size, 1, none⟩ = some (.string B) ∧ y.cell? ⟨w.heap.size, 2, none⟩ = some (.slice a n c))) := Lib.hid fun x y ⟨h1, h2, h3, h4⟩ hb =>
            ⟨h1.trans hb, (hb.cell (p := ⟨w.heap.size, 0, none⟩) HG.out).trans h2, (hb.cell (p := ⟨w.heap.size, 1, none⟩) HG.out).trans h3, (hb.cell (p := ⟨w.heap.size, 2, none⟩) HG.out).trans h4⟩
          have HTL : Hid (T.length ≤ 16777416) := Lib.hid hl3
          clear c0 c1 c2
          go_region_held3 (fun w' => Below wb.heap.size wb w' ∧ w'.cell? ⟨w.heap.size, 0, none⟩ = some (.int .i64 st) ∧ w'.cell? ⟨w.heap.size, 1, none⟩ = some (.string B) ∧ w'.cell? ⟨w.heap.size, 2, none⟩ = some (.slice a n c)) (first | exact KD.out | exact KT2.out _ _ (by assumption) hb3 | exact KT.out _ _ (by assumption) (by assumption) | exact KT.out _ _ (by assumption) ((Below.refl _ _).alloc (Nat.le_refl _) _) | exact KT.out _ _ (by assumption) (Below.refl _ _).drew | exact KT.out _ _ KD.out ((Below.refl _ _).alloc (Nat.le_refl _) _) | assumption)
            (first
              | (go_at_call 55; refine (GH.out _ ?_).mono ?_; (first | assumption | exact KD.out); rintro e w1 ⟨hb1, v1, rfl, ho1⟩)
              | (refine step_app_strs (by rfl) _ _ (by rfl) wb.heap.size v1 T (by rfl) (ownS_alloc ho1 _) ⟨w1.heap.size, 0, none⟩ 1 1 [kCTO] rfl (by decide) (by rfl) (NL.out w1) (by have := HTL.out; omega) (Nat.le_trans (KB.out _ (by assumption)).size (Nat.le_refl _)) ?_; intro g cap w3 ho3 hb3)
              | (refine step_app_strs (by rfl) _ _ (by rfl) wb.heap.size v1 T (by rfl) (ownS_mono ho1 (by simp)) ⟨wb.heap.size, 0, none⟩ 1 1 [kCTO] rfl (by decide) (by rfl) ((NL.out wb.drew).below hb1) (by have := HTL.out; omega) (Nat.le_trans (KB.out _ (by assumption)).size (Nat.le_refl _)) ?_; intro g cap w3 ho3 hb3)
              | (go_at_call 54; have hsz3 := (KB.out w3 (by assumption)).size; obtain ⟨hln3, hsr3⟩ := ownS_got ho3; refine (GW.out w3 (by assumption) _ _ _ hln3.symm hsr3).mono ?_; rintro e w4 ⟨hb4, v4, rfl, ho4⟩; clear hln3 hsr3))
          all_goals
            have HS4 := Lib.hid (KT.out _ _ (by assumption) (Below.refl w4.heap.size w4))
            have HO4 : Hid (OwnF w4 wb.heap.size v4 F) := Lib.hid (ownF_mono ho4 hsz3)
            have HBB4 : Hid (Below wb.heap.size wb w4) := Lib.hid HS4.out.1
            clear ho4 hb4 hb3 ho3 hb1 ho1 hsz3
            have HOa5 : Hid (OwnF (w4.alloc (.cells #[.string ⟨#[88, 45, 67, 111, 110, 116, 101, 110, 116, 45, 84, 121, 112, 101, 45, 79, 112, 116, 105, 111, 110, 115]⟩, .string ⟨#[110, 111, 115, 110, 105, 102, 102]⟩] 37)) wb.heap.size _ (F)) := Lib.hid (ownF_alloc HO4.out _)
            have HLa5 := Lib.hid (lit_flds ([fSniff] : AL) #[.string ⟨#[88, 45, 67, 111, 110, 116, 101, 110, 116, 45, 84, 121, 112, 101, 45, 79, 112, 116, 105, 111, 110, 115]⟩, .string ⟨#[110, 111, 115, 110, 105, 102, 102]⟩] rfl w4)
            have HZa5 : Hid (wb.heap.size ≤ (w4.alloc (.cells #[.string ⟨#[88, 45, 67, 111, 110, 116, 101, 110, 116, 45, 84, 121, 112, 101, 45, 79, 112, 116, 105, 111, 110, 115]⟩, .string ⟨#[110, 111, 115, 110, 105, 102, 102]⟩] 37)).heap.size) := Lib.hid (by have := HBB4.out.size; simp; omega)
            go_wp2_with (at_builtin; refine app_flds rfl _ _ rfl wb.heap.size _ (F) rfl HOa5.out _ 1 1 ([fSniff] : AL) rfl rfl HLa5.out ?n5 HZa5.out ?_)
            case n5 => have := HLF.out; first | omega | (simp only [List.length_cons, List.length_nil] at *; omega)
            intro v5 w5 hown5 hb5 _
            have HOb5 : Hid (OwnF w5 wb.heap.size v5 (F ++ ([fSniff] : AL))) := Lib.hid (by simpa only [List.append_assoc, List.cons_append, List.nil_append] using hown5)
            have HBb5 : Hid (Below wb.heap.size wb w5) := Lib.hid ((HBB4.out.alloc HBB4.out.size _).trans hb5.out)
            have HLb5 : Hid ((F ++ ([fSniff] : AL)).length ≤ 16777300) := Lib.hid (by have := HLF.out; simp; omega)
            clear hown5 hb5 HOa5 HLa5 HZa5
            obtain ⟨c0, c1, c2, d0, d1, _⟩ := H2.out.keep HBb5.out
            have hsz : w.heap.size + 1 + 1 < w5.heap.size := by have := HBb5.out.size; have := H2.out.size; omega
            have HOa7 : Hid (OwnF (w5.alloc (.cells #[.string ⟨#[84, 114, 97, 110, 115, 102, 101, 114, 45, 69, 110, 99, 111, 100, 105, 110, 103]⟩, .string ⟨#[99, 104, 117, 110, 107, 101, 100]⟩] 37)) wb.heap.size _ (F ++ ([fSniff] : AL))) := Lib.hid (ownF_alloc HOb5.out _)
            have HLa7 := Lib.hid (lit_flds ([fTE] : AL) #[.string ⟨#[84, 114, 97, 110, 115, 102, 101, 114, 45, 69, 110, 99, 111, 100, 105, 110, 103]⟩, .string ⟨#[99, 104, 117, 110, 107, 101, 100]⟩] rfl w5)
            have HZa7 : Hid (wb.heap.size ≤ (w5.alloc (.cells #[.string ⟨#[84, 114, 97, 110, 115, 102, 101, 114, 45, 69, 110, 99, 111, 100, 105, 110, 103]⟩, .string ⟨#[99, 104, 117, 110, 107, 101, 100]⟩] 37)).heap.size) := Lib.hid (by have := HBb5.out.size; simp; omega)
            go_wp2_with (at_builtin; refine app_flds rfl _ _ rfl wb.heap.size _ (F ++ ([fSniff] : AL)) rfl HOa7.out _ 1 1 ([fTE] : AL) rfl rfl HLa7.out ?n7 HZa7.out ?_)
            case n7 => have := HLb5.out; first | omega | (simp only [List.length_cons, List.length_nil] at *; omega)
            intro v7 w7 hown7 hb7 _
            have HOb7 : Hid (OwnF w7 wb.heap.size v7 (F ++ ([fSniff] : AL) ++ ([fTE] : AL))) := Lib.hid (by simpa only [List.append_assoc, List.cons_append, List.nil_append] using hown7)
            have HBb7 : Hid (Below wb.heap.size wb w7) := Lib.hid ((HBb5.out.alloc HBb5.out.size _).trans hb7.out)
            have HLb7 : Hid ((F ++ ([fSniff] : AL) ++ ([fTE] : AL)).length ≤ 16777300) := Lib.hid (by have := HLF.out; simp; omega)
            clear hown7 hb7 HOa7 HLa7 HZa7
            obtain ⟨c0, c1, c2, d0, d1, _⟩ := H2.out.keep HBb7.out
            have hsz : w.heap.size + 1 + 1 < w7.heap.size := by have := HBb7.out.size; have := H2.out.size; omega
            have HOa8 : Hid (OwnF (w7.alloc (.cells #[.string ⟨#[67, 111, 110, 110, 101, 99, 116, 105, 111, 110]⟩, .string ⟨#[99, 108, 111, 115, 101]⟩] 37)) wb.heap.size _ (F ++ ([fSniff] : AL) ++ ([fTE] : AL))) := Lib.hid (ownF_alloc HOb7.out _)
            have HLa8 := Lib.hid (lit_flds ([fClos] : AL) #[.string ⟨#[67, 111, 110, 110, 101, 99, 116, 105, 111, 110]⟩, .string ⟨#[99, 108, 111, 115, 101]⟩] rfl w7)
            have HZa8 : Hid (wb.heap.size ≤ (w7.alloc (.cells #[.string ⟨#[67, 111, 110, 110, 101, 99, 116, 105, 111, 110]⟩, .string ⟨#[99, 108, 111, 115, 101]⟩] 37)).heap.size) := Lib.hid (by have := HBb7.out.size; simp; omega)
            go_wp2_with (at_builtin; refine app_flds rfl _ _ rfl wb.heap.size _ (F ++ ([fSniff] : AL) ++ ([fTE] : AL)) rfl HOa8.out _ 1 1 ([fClos] : AL) rfl rfl HLa8.out ?n8 HZa8.out ?_)
            case n8 => have := HLb7.out; first | omega | (simp only [List.length_cons, List.length_nil] at *; omega)
            intro v8 w8 hown8 hb8 _
            have HOb8 : Hid (OwnF w8 wb.heap.size v8 (F ++ ([fSniff] : AL) ++ ([fTE] : AL) ++ ([fClos] : AL))) := Lib.hid (by simpa only [List.append_assoc, List.cons_append, List.nil_append] using hown8)
            have HBb8 : Hid (Below wb.heap.size wb w8) := Lib.hid ((HBb7.out.alloc HBb7.out.size _).trans hb8.out)
            have HLb8 : Hid ((F ++ ([fSniff] : AL) ++ ([fTE] : AL) ++ ([fClos] : AL)).length ≤ 16777300) := Lib.hid (by have := HLF.out; simp; omega)
            clear hown8 hb8 HOa8 HLa8 HZa8
            have HOZ : Hid (OwnF w8 wb.heap.size v8 R) := Lib.hid (by rw [HV.out]; simpa using HOb8.out)
            obtain ⟨e0, e1, e2, _, _, k0, k1, k2, f0, f1, f2⟩ := H2.out.keep HBb8.out
            obtain ⟨a9, d9, hv9, _⟩ := ownF_src HOZ.out
            have HBW : Hid (Below w.heap.size w w8) := Lib.hid (HB0.out.trans (HBb8.out.mono HB0.out.size))
            have HG1 : Hid (w.heap.size + 1 + 1 < wb.heap.size) := Lib.hid (by have := H2.out.size; omega)
            have hsz2 := Nat.lt_of_lt_of_le HG1.out HBb8.out.size
            have HG2 : Hid (w.heap.size ≤ w.heap.size + 1 + 1) := Lib.hid (by omega)
            have HWS : Hid (w.heap.size ≤ wb.heap.size) := Lib.hid HB0.out.size
            subst hv9
            go_wp2
            refine bodyPost_ret (v := .agg #[.int .i64 st, .string B, _]) (by simp [results, Tryz.results26, go_sem, k0, k1, k2]; rfl) rfl ?_
            exact respSays (below_set3 HBW.out HG2.out) (ownF_mono (ownF_set3 HOZ.out HG1.out) HWS.out)
      · rw [if_neg (by omega), List.append_nil] at hR
        have q2 : (k == 2) = false := by simp [hk2]
        have q3 : (k == 3) = false := by simp [hk3]
        cases last
        · have HV := Lib.hid hR
          clear hR
          go_enter Tryz.func26, Tryz.ntmps26
          go_wp2_with fail
          rw [← HWB.out]
          have KT : Hid (∀ x y : World, (Below wb.heap.size wb x ∧ x.cell? ⟨w.heap.size, 0, none⟩ = some (.int .i64 st) ∧ x.cell? ⟨w.heap.size, 1, none⟩ = some (.string B) ∧ x.cell? ⟨w.heap.size, 2, none⟩ = some (.slice a n c)) → Below x.heap.size x y → (Below wb.heap.size wb y ∧ y.cell? ⟨w.heap.size, 0, none⟩ = some (.int .i64 st) ∧ y.cell? ⟨w.heap.size, 1, none⟩ = some (.string B) ∧ y.cell? ⟨w.heap.size, 2, none⟩ = some (.slice a n c))) := Lib.hid fun x y ⟨h1, h2, h3, h4⟩ hb =>
            ⟨h1.trans (hb.mono h1.size), (hb.cell (p := ⟨w.heap.size, 0, none⟩) (Nat.lt_of_lt_of_le HG.out h1.size)).trans h2, (hb.cell (p := ⟨w.heap.size, 1, none⟩) (Nat.lt_of_lt_of_le HG.out h1.size)).trans h3, (hb.cell (p := ⟨w.heap.size, 2, none⟩) (Nat.lt_of_lt_of_le HG.out h1.size)).trans h4⟩
          have KD : Hid (Below wb.heap.size wb wb.drew ∧ wb.drew.cell? ⟨w.heap.size, 0, none⟩ = some (.int .i64 st) ∧ wb.drew.cell? ⟨w.heap.size, 1, none⟩ = some (.string B) ∧ wb.drew.cell? ⟨w.heap.size, 2, none⟩ = some (.slice a n c)) := Lib.hid ⟨(Below.refl _ _).drew, c0, c1, c2⟩
          have KB : Hid (∀ x : World, (Below wb.heap.size wb x ∧ x.cell? ⟨w.heap.size, 0, none⟩ = some (.int .i64 st) ∧ x.cell? ⟨w.heap.size, 1, none⟩ = some (.string B) ∧ x.cell? ⟨w.heap.size, 2, none⟩ = some (.slice a n c)) → Below wb.heap.size wb x) := Lib.hid fun x h => h.1
          have GH := Lib.hid fun wx (h : Below wb.heap.size wb wx ∧ wx.cell? ⟨w.heap.size, 0, none⟩ = some (.int .i64 st) ∧ wx.cell? ⟨w.heap.size, 1, none⟩ = some (.string B) ∧ wx.cell? ⟨w.heap.size, 2, none⟩ = some (.slice a n c)) => HH.out wx h.1
          have GW := Lib.hid fun wx (h : Below wb.heap.size wb wx ∧ wx.cell? ⟨w.heap.size, 0, none⟩ = some (.int .i64 st) ∧ wx.cell? ⟨w.heap.size, 1, none⟩ = some (.string B) ∧ wx.cell? ⟨w.heap.size, 2, none⟩ = some (.slice a n c)) => HW.out wx h.1
          have NL := Lib.hid fun wx => lit_strl [kCTO] #[.string ⟨#[88, 45, 67, 111, 110, 116, 101, 110, 116, 45, 84, 121, 112, 101, 45, 79, 112, 116, 105, 111, 110, 115]⟩] rfl wx
          have KT2 : Hid (∀ x y : World, (Below wb.heap.size wb x ∧ x.cell? ⟨w.heap.size, 0, none⟩ = some (.int .i64 st) ∧ x.cell? ⟨w.heap.size, 1, none⟩ = some (.string B) ∧ x.cell? ⟨w.heap.size, 2, none⟩ = some (.slice a n c)) → Below wb.heap.size x y → (Below wb.heap.size wb y ∧ y.cell? ⟨w.heap.size, 0, none⟩ = some (.int .i64 st) ∧ y.cell? ⟨w.heap.size, 1, none⟩ = some (.string B) ∧ y.cell? ⟨w.heap.size, 2, none⟩ = some (.slice a n c))) := Lib.hid fun x y ⟨h1, h2, h3, h4⟩ hb =>
            ⟨h1.trans hb, (hb.cell (p := ⟨w.heap.size, 0, none⟩) HG.out).trans h2, (hb.cell (p := ⟨w.heap.size, 1, none⟩) HG.out).trans h3, (hb.cell (p := ⟨w.heap.size, 2, none⟩) HG.out).trans h4⟩
          have HTL : Hid (T.length ≤ 16777416) := Lib.hid hl3
          clear c0 c1 c2
          go_region_held3 (fun w' => Below wb.heap.size wb w' ∧ w'.cell? ⟨w.heap.size, 0, none⟩ = some (.int .i64 st) ∧ w'.cell? ⟨w.heap.size, 1, none⟩ = some (.string B) ∧ w'.cell? ⟨w.heap.size, 2, none⟩ = some (.slice a n c)) (first | exact KD.out | exact KT2.out _ _ (by assumption) hb3 | exact KT.out _ _ (by assumption) (by assumption) | exact KT.out _ _ (by assumption) ((Below.refl _ _).alloc (Nat.le_refl _) _) | exact KT.out _ _ (by assumption) (Below.refl _ _).drew | exact KT.out _ _ KD.out ((Below.refl _ _).alloc (Nat.le_refl _) _) | assumption)
            (first
              | (go_at_call 55; refine (GH.out _ ?_).mono ?_; (first | assumption | exact KD.out); rintro e w1 ⟨hb1, v1, rfl, ho1⟩)
              | (refine step_app_strs (by rfl) _ _ (by rfl) wb.heap.size v1 T (by rfl) (ownS_alloc ho1 _) ⟨w1.heap.size, 0, none⟩ 1 1 [kCTO] rfl (by decide) (by rfl) (NL.out w1) (by have := HTL.out; omega) (Nat.le_trans (KB.out _ (by assumption)).size (Nat.le_refl _)) ?_; intro g cap w3 ho3 hb3)
              | (refine step_app_strs (by rfl) _ _ (by rfl) wb.heap.size v1 T (by rfl) (ownS_mono ho1 (by simp)) ⟨wb.heap.size, 0, none⟩ 1 1 [kCTO] rfl (by decide) (by rfl) ((NL.out wb.drew).below hb1) (by have := HTL.out; omega) (Nat.le_trans (KB.out _ (by assumption)).size (Nat.le_refl _)) ?_; intro g cap w3 ho3 hb3)
              | (go_at_call 54; have hsz3 := (KB.out w3 (by assumption)).size; obtain ⟨hln3, hsr3⟩ := ownS_got ho3; refine (GW.out w3 (by assumption) _ _ _ hln3.symm hsr3).mono ?_; rintro e w4 ⟨hb4, v4, rfl, ho4⟩; clear hln3 hsr3))
          all_goals
            have HS4 := Lib.hid (KT.out _ _ (by assumption) (Below.refl w4.heap.size w4))
            have HO4 : Hid (OwnF w4 wb.heap.size v4 F) := Lib.hid (ownF_mono ho4 hsz3)
            have HBB4 : Hid (Below wb.heap.size wb w4) := Lib.hid HS4.out.1
            clear ho4 hb4 hb3 ho3 hb1 ho1 hsz3
            have HOa5 : Hid (OwnF (w4.alloc (.cells #[.string ⟨#[88, 45, 67, 111, 110, 116, 101, 110, 116, 45, 84, 121, 112, 101, 45, 79, 112, 116, 105, 111, 110, 115]⟩, .string ⟨#[110, 111, 115, 110, 105, 102, 102]⟩] 37)) wb.heap.size _ (F)) := Lib.hid (ownF_alloc HO4.out _)
            have HLa5 := Lib.hid (lit_flds ([fSniff] : AL) #[.string ⟨#[88, 45, 67, 111, 110, 116, 101, 110, 116, 45, 84, 121, 112, 101, 45, 79, 112, 116, 105, 111, 110, 115]⟩, .string ⟨#[110, 111, 115, 110, 105, 102, 102]⟩] rfl w4)
            have HZa5 : Hid (wb.heap.size ≤ (w4.alloc (.cells #[.string ⟨#[88, 45, 67, 111, 110, 116, 101, 110, 116, 45, 84, 121, 112, 101, 45, 79, 112, 116, 105, 111, 110, 115]⟩, .string ⟨#[110, 111, 115, 110, 105, 102, 102]⟩] 37)).heap.size) := Lib.hid (by have := HBB4.out.size; simp; omega)
            go_wp2_with (at_builtin; refine app_flds rfl _ _ rfl wb.heap.size _ (F) rfl HOa5.out _ 1 1 ([fSniff] : AL) rfl rfl HLa5.out ?n5 HZa5.out ?_)
            case n5 => have := HLF.out; first | omega | (simp only [List.length_cons, List.length_nil] at *; omega)
            intro v5 w5 hown5 hb5 _
            have HOb5 : Hid (OwnF w5 wb.heap.size v5 (F ++ ([fSniff] : AL))) := Lib.hid (by simpa only [List.append_assoc, List.cons_append, List.nil_append] using hown5)
            have HBb5 : Hid (Below wb.heap.size wb w5) := Lib.hid ((HBB4.out.alloc HBB4.out.size _).trans hb5.out)
            have HLb5 : Hid ((F ++ ([fSniff] : AL)).length ≤ 16777300) := Lib.hid (by have := HLF.out; simp; omega)
            clear hown5 hb5 HOa5 HLa5 HZa5
            obtain ⟨c0, c1, c2, d0, d1, _⟩ := H2.out.keep HBb5.out
            have hsz : w.heap.size + 1 + 1 < w5.heap.size := by have := HBb5.out.size; have := H2.out.size; omega
            have HOZ : Hid (OwnF w5 wb.heap.size v5 R) := Lib.hid (by rw [HV.out]; simpa using HOb5.out)
            obtain ⟨e0, e1, e2, _, _, k0, k1, k2, f0, f1, f2⟩ := H2.out.keep HBb5.out
            obtain ⟨a9, d9, hv9, _⟩ := ownF_src HOZ.out
            have HBW : Hid (Below w.heap.size w w5) := Lib.hid (HB0.out.trans (HBb5.out.mono HB0.out.size))
            have HG1 : Hid (w.heap.size + 1 + 1 < wb.heap.size) := Lib.hid (by have := H2.out.size; omega)
            have hsz2 := Nat.lt_of_lt_of_le HG1.out HBb5.out.size
            have HG2 : Hid (w.heap.size ≤ w.heap.size + 1 + 1) := Lib.hid (by omega)
            have HWS : Hid (w.heap.size ≤ wb.heap.size) := Lib.hid HB0.out.size
            subst hv9
            go_wp2
            refine bodyPost_ret (v := .agg #[.int .i64 st, .string B, _]) (by simp [results, Tryz.results26, go_sem, k0, k1, k2]; rfl) rfl ?_
            exact respSays (below_set3 HBW.out HG2.out) (ownF_mono (ownF_set3 HOZ.out HG1.out) HWS.out)
        · have HV := Lib.hid hR
          clear hR
          go_enter Tryz.func26, Tryz.ntmps26
          go_wp2_with fail
          rw [← HWB.out]
          have KT : Hid (∀ x y : World, (Below wb.heap.size wb x ∧ x.cell? ⟨w.heap.size, 0, none⟩ = some (.int .i64 st) ∧ x.cell? ⟨w.heap.size, 1, none⟩ = some (.string B) ∧ x.cell? ⟨w.heap.size, 2, none⟩ = some (.slice a n c)) → Below x.heap.size x y → (Below wb.heap.size wb y ∧ y.cell? ⟨w.heap.size, 0, none⟩ = some (.int .i64 st) ∧ y.cell? ⟨w.heap.size, 1, none⟩ = some (.string B) ∧ y.cell? ⟨w.heap.size, 2, none⟩ = some (.slice a n c))) := Lib.hid fun x y ⟨h1, h2, h3, h4⟩ hb =>
            ⟨h1.trans (hb.mono h1.size), (hb.cell (p := ⟨w.heap.size, 0, none⟩) (Nat.lt_of_lt_of_le HG.out h1.size)).trans h2, (hb.cell (p := ⟨w.heap.size, 1, none⟩) (Nat.lt_of_lt_of_le HG.out h1.size)).trans h3, (hb.cell (p := ⟨w.heap.size, 2, none⟩) (Nat.lt_of_lt_of_le HG.out h1.size)).trans h4⟩
          have KD : Hid (Below wb.heap.size wb wb.drew ∧ wb.drew.cell? ⟨w.heap.size, 0, none⟩ = some (.int .i64 st) ∧ wb.drew.cell? ⟨w.heap.size, 1, none⟩ = some (.string B) ∧ wb.drew.cell? ⟨w.heap.size, 2, none⟩ = some (.slice a n c)) := Lib.hid ⟨(Below.refl _ _).drew, c0, c1, c2⟩
          have KB : Hid (∀ x : World, (Below wb.heap.size wb x ∧ x.cell? ⟨w.heap.size, 0, none⟩ = some (.int .i64 st) ∧ x.cell? ⟨w.heap.size, 1, none⟩ = some (.string B) ∧ x.cell? ⟨w.heap.size, 2, none⟩ = some (.slice a n c)) → Below wb.heap.size wb x) := Lib.hid fun x h => h.1
          have GH := Lib.hid fun wx (h : Below wb.heap.size wb wx ∧ wx.cell? ⟨w.heap.size, 0, none⟩ = some (.int .i64 st) ∧ wx.cell? ⟨w.heap.size, 1, none⟩ = some (.string B) ∧ wx.cell? ⟨w.heap.size, 2, none⟩ = some (.slice a n c)) => HH.out wx h.1
          have GW := Lib.hid fun wx (h : Below wb.heap.size wb wx ∧ wx.cell? ⟨w.heap.size, 0, none⟩ = some (.int .i64 st) ∧ wx.cell? ⟨w.heap.size, 1, none⟩ = some (.string B) ∧ wx.cell? ⟨w.heap.size, 2, none⟩ = some (.slice a n c)) => HW.out wx h.1
          have NL := Lib.hid fun wx => lit_strl [kCTO] #[.string ⟨#[88, 45, 67, 111, 110, 116, 101, 110, 116, 45, 84, 121, 112, 101, 45, 79, 112, 116, 105, 111, 110, 115]⟩] rfl wx
          have KT2 : Hid (∀ x y : World, (Below wb.heap.size wb x ∧ x.cell? ⟨w.heap.size, 0, none⟩ = some (.int .i64 st) ∧ x.cell? ⟨w.heap.size, 1, none⟩ = some (.string B) ∧ x.cell? ⟨w.heap.size, 2, none⟩ = some (.slice a n c)) → Below wb.heap.size x y → (Below wb.heap.size wb y ∧ y.cell? ⟨w.heap.size, 0, none⟩ = some (.int .i64 st) ∧ y.cell? ⟨w.heap.size, 1, none⟩ = some (.string B) ∧ y.cell? ⟨w.heap.size, 2, none⟩ = some (.slice a n c))) := Lib.hid fun x y ⟨h1, h2, h3, h4⟩ hb =>
            ⟨h1.trans hb, (hb.cell (p := ⟨w.heap.size, 0, none⟩) HG.out).trans h2, (hb.cell (p := ⟨w.heap.size, 1, none⟩) HG.out).trans h3, (hb.cell (p := ⟨w.heap.size, 2, none⟩) HG.out).trans h4⟩
          have HTL : Hid (T.length ≤ 16777416) := Lib.hid hl3
          clear c0 c1 c2
          go_region_held3 (fun w' => Below wb.heap.size wb w' ∧ w'.cell? ⟨w.heap.size, 0, none⟩ = some (.int .i64 st) ∧ w'.cell? ⟨w.heap.size, 1, none⟩ = some (.string B) ∧ w'.cell? ⟨w.heap.size, 2, none⟩ = some (.slice a n c)) (first | exact KD.out | exact KT2.out _ _ (by assumption) hb3 | exact KT.out _ _ (by assumption) (by assumption) | exact KT.out _ _ (by assumption) ((Below.refl _ _).alloc (Nat.le_refl _) _) | exact KT.out _ _ (by assumption) (Below.refl _ _).drew | exact KT.out _ _ KD.out ((Below.refl _ _).alloc (Nat.le_refl _) _) | assumption)
            (first
              | (go_at_call 55; refine (GH.out _ ?_).mono ?_; (first | assumption | exact KD.out); rintro e w1 ⟨hb1, v1, rfl, ho1⟩)
              | (refine step_app_strs (by rfl) _ _ (by rfl) wb.heap.size v1 T (by rfl) (ownS_alloc ho1 _) ⟨w1.heap.size, 0, none⟩ 1 1 [kCTO] rfl (by decide) (by rfl) (NL.out w1) (by have := HTL.out; omega) (Nat.le_trans (KB.out _ (by assumption)).size (Nat.le_refl _)) ?_; intro g cap w3 ho3 hb3)
              | (refine step_app_strs (by rfl) _ _ (by rfl) wb.heap.size v1 T (by rfl) (ownS_mono ho1 (by simp)) ⟨wb.heap.size, 0, none⟩ 1 1 [kCTO] rfl (by decide) (by rfl) ((NL.out wb.drew).below hb1) (by have := HTL.out; omega) (Nat.le_trans (KB.out _ (by assumption)).size (Nat.le_refl _)) ?_; intro g cap w3 ho3 hb3)
              | (go_at_call 54; have hsz3 := (KB.out w3 (by assumption)).size; obtain ⟨hln3, hsr3⟩ := ownS_got ho3; refine (GW.out w3 (by assumption) _ _ _ hln3.symm hsr3).mono ?_; rintro e w4 ⟨hb4, v4, rfl, ho4⟩; clear hln3 hsr3))
          all_goals
            have HS4 := Lib.hid (KT.out _ _ (by assumption) (Below.refl w4.heap.size w4))
            have HO4 : Hid (OwnF w4 wb.heap.size v4 F) := Lib.hid (ownF_mono ho4 hsz3)
            have HBB4 : Hid (Below wb.heap.size wb w4) := Lib.hid HS4.out.1
            clear ho4 hb4 hb3 ho3 hb1 ho1 hsz3
            have HOa5 : Hid (OwnF (w4.alloc (.cells #[.string ⟨#[88, 45, 67, 111, 110, 116, 101, 110, 116, 45, 84, 121, 112, 101, 45, 79, 112, 116, 105, 111, 110, 115]⟩, .string ⟨#[110, 111, 115, 110, 105, 102, 102]⟩] 37)) wb.heap.size _ (F)) := Lib.hid (ownF_alloc HO4.out _)
            have HLa5 := Lib.hid (lit_flds ([fSniff] : AL) #[.string ⟨#[88, 45, 67, 111, 110, 116, 101, 110, 116, 45, 84, 121, 112, 101, 45, 79, 112, 116, 105, 111, 110, 115]⟩, .string ⟨#[110, 111, 115, 110, 105, 102, 102]⟩] rfl w4)
            have HZa5 : Hid (wb.heap.size ≤ (w4.alloc (.cells #[.string ⟨#[88, 45, 67, 111, 110, 116, 101, 110, 116, 45, 84, 121, 112, 101, 45, 79, 112, 116, 105, 111, 110, 115]⟩, .string ⟨#[110, 111, 115, 110, 105, 102, 102]⟩] 37)).heap.size) := Lib.hid (by have := HBB4.out.size; simp; omega)
            go_wp2_with (at_builtin; refine app_flds rfl _ _ rfl wb.heap.size _ (F) rfl HOa5.out _ 1 1 ([fSniff] : AL) rfl rfl HLa5.out ?n5 HZa5.out ?_)
            case n5 => have := HLF.out; first | omega | (simp only [List.length_cons, List.length_nil] at *; omega)
            intro v5 w5 hown5 hb5 _
            have HOb5 : Hid (OwnF w5 wb.heap.size v5 (F ++ ([fSniff] : AL))) := Lib.hid (by simpa only [List.append_assoc, List.cons_append, List.nil_append] using hown5)
            have HBb5 : Hid (Below wb.heap.size wb w5) := Lib.hid ((HBB4.out.alloc HBB4.out.size _).trans hb5.out)
            have HLb5 : Hid ((F ++ ([fSniff] : AL)).length ≤ 16777300) := Lib.hid (by have := HLF.out; simp; omega)
            clear hown5 hb5 HOa5 HLa5 HZa5
            obtain ⟨c0, c1, c2, d0, d1, _⟩ := H2.out.keep HBb5.out
            have hsz : w.heap.size + 1 + 1 < w5.heap.size := by have := HBb5.out.size; have := H2.out.size; omega
            have HOa8 : Hid (OwnF (w5.alloc (.cells #[.string ⟨#[67, 111, 110, 110, 101, 99, 116, 105, 111, 110]⟩, .string ⟨#[99, 108, 111, 115, 101]⟩] 37)) wb.heap.size _ (F ++ ([fSniff] : AL))) := Lib.hid (ownF_alloc HOb5.out _)
            have HLa8 := Lib.hid (lit_flds ([fClos] : AL) #[.string ⟨#[67, 111, 110, 110, 101, 99, 116, 105, 111, 110]⟩, .string ⟨#[99, 108, 111, 115, 101]⟩] rfl w5)
            have HZa8 : Hid (wb.heap.size ≤ (w5.alloc (.cells #[.string ⟨#[67, 111, 110, 110, 101, 99, 116, 105, 111, 110]⟩, .string ⟨#[99, 108, 111, 115, 101]⟩] 37)).heap.size) := Lib.hid (by have := HBb5.out.size; simp; omega)
            go_wp2_with (at_builtin; refine app_flds rfl _ _ rfl wb.heap.size _ (F ++ ([fSniff] : AL)) rfl HOa8.out _ 1 1 ([fClos] : AL) rfl rfl HLa8.out ?n8 HZa8.out ?_)
            case n8 => have := HLb5.out; first | omega | (simp only [List.length_cons, List.length_nil] at *; omega)
            intro v8 w8 hown8 hb8 _
            have HOb8 : Hid (OwnF w8 wb.heap.size v8 (F ++ ([fSniff] : AL) ++ ([fClos] : AL))) := Lib.hid (by simpa only [List.append_assoc, List.cons_append, List.nil_append] using hown8)
            have HBb8 : Hid (Below wb.heap.size wb w8) := Lib.hid ((HBb5.out.alloc HBb5.out.size _).trans hb8.out)
            have HLb8 : Hid ((F ++ ([fSniff] : AL) ++ ([fClos] : AL)).length ≤ 16777300) := Lib.hid (by have := HLF.out; simp; omega)
            clear hown8 hb8 HOa8 HLa8 HZa8
            have HOZ : Hid (OwnF w8 wb.heap.size v8 R) := Lib.hid (by rw [HV.out]; simpa using HOb8.out)
            obtain ⟨e0, e1, e2, _, _, k0, k1, k2, f0, f1, f2⟩ := H2.out.keep HBb8.out
            obtain ⟨a9, d9, hv9, _⟩ := ownF_src HOZ.out
            have HBW : Hid (Below w.heap.size w w8) := Lib.hid (HB0.out.trans (HBb8.out.mono HB0.out.size))
            have HG1 : Hid (w.heap.size + 1 + 1 < wb.heap.size) := Lib.hid (by have := H2.out.size; omega)
            have hsz2 := Nat.lt_of_lt_of_le HG1.out HBb8.out.size
            have HG2 : Hid (w.heap.size ≤ w.heap.size + 1 + 1) := Lib.hid (by omega)
            have HWS : Hid (w.heap.size ≤ wb.heap.size) := Lib.hid HB0.out.size
            subst hv9
            go_wp2
            refine bodyPost_ret (v := .agg #[.int .i64 st, .string B, _]) (by simp [results, Tryz.results26, go_sem, k0, k1, k2]; rfl) rfl ?_
            exact respSays (below_set3 HBW.out HG2.out) (ownF_mono (ownF_set3 HOZ.out HG1.out) HWS.out)
end Go.Proofs.YthkgaaibhjkngaaGreatDoor
