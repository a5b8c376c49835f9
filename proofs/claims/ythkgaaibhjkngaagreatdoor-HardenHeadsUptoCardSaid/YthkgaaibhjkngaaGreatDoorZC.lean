/- The document's answer: Forward. -/
import Derived.Test.YthkgaaibhjkngaaGreatDoorZB
import Derived.Deep.AppendLies
import Derived.Deep.RegionHeld3
import Derived.Deep.DrawnRows
set_option linter.unusedVariables false
namespace Go.Proofs.YthkgaaibhjkngaaGreatDoor
open Go.RowKit
attribute [local go_sem ↓] Go.wp_at_zero Go.wp_at_succ

theorem step_app_strs {w : World} {ops : Array Oper} {o : Oper} {a : Act} {K : Act → World → Prop} {Q : Exit → Act → World → Prop} {E : Prop} (hgd : o.guard = none) (s x : Operand)
    (ho : o.op = .call { callee := .builtin .append, args := #[s, x], argTypes := #[75, 75] }) (base : Nat) (v : Value) (xs : List ByteArray) (hs : a.eval s = v) (hown : OwnS w base v xs)
    (ad : Addr) (c m : Nat) (l : List ByteArray) (hm : l.length = m) (hm0 : 0 < m) (hx : a.eval x = .slice (some ad) m c) (hsrc : SrcS w (some ad) c l) (hn : (xs.length + m) * 16 ≤ 140737488355328) (hbase : base ≤ w.heap.size)
    (h : ∀ g cap w', OwnS w' base (.slice (some ⟨g, 0, none⟩) (xs.length + m) cap) (xs ++ l) → Below base w w' → K (a.put o.dst (.slice (some ⟨g, 0, none⟩) (xs.length + m) cap)) w') :
    if Region.wanted o (yielded ops a.tmps) = true then Oper.wp Tryz.prog o a w K Q else E := by
  subst hm
  obtain ⟨i0, hi, hz0, hz1, hz2⟩ := info_parts info9
  refine step_append_lies w hgd s x 75 ho base 9 i0 (.string ⟨#[]⟩) 1 16 Tryz.underlying75 hi hz0 hz1 hz2 rfl (by decide) v xs.length (strs xs) hs hown ad l.length c (strs l) hx (by simp [strs]) ?_ (fun u hu => by simp only [strs, List.mem_map] at hu; obtain ⟨q, _, rfl⟩ := hu; rfl) hm0 (by unfold maxLen; omega) hn hbase w.heap.size rfl ?_
  · intro k u hk
    have hkl : k < l.length := by have := (List.getElem?_eq_some_iff.1 hk).1; simpa [strs] using this
    obtain ⟨b, o, he, _, h1⟩ := hsrc.at_ k hkl
    cases he
    rw [Go.WideShapes.add_plain, h1]
    simp only [strs, List.getElem?_map, List.getElem?_eq_getElem hkl, Option.map_some, Option.some.injEq] at hk
    rw [hk]
  · intro g cap w' h1 h2 _ _
    refine h g cap w' ?_ ((Below.refl _ _).grown h2 hbase (fun k hk => (World.ownsRow.lt hown k hk).1))
    unfold OwnS
    rw [List.length_append]
    rw [show strs (xs ++ l) = strs xs ++ strs l by simp [strs]]
    exact h1
theorem ownS_got {w : World} {base n c : Nat} {a : Option Addr} {l : List ByteArray} (h : OwnS w base (.slice a n c) l) : n = l.length ∧ SrcS w a c l := by
  obtain ⟨a1, c1, he, hs⟩ := ownS_src h
  injection he with e1 e2 e3
  subst e1 e3
  exact ⟨e2, hs⟩

set_option maxHeartbeats 16000000 in
set_option maxRecDepth 100000 in
theorem rforward_any (l : AL) (A B : ByteArray) (z : Int) (a : Option Addr) (n c : Nat) (w : World) (hn : l.length = n) (hs : SrcA w a c l) (hz : asz l ≤ 16777216) (h1 : z ≤ 9223372036854775807) :
    Calls Tryz.prog 16 #[.agg #[.string A, .string B, .slice a n c], .int .i64 z] w (ReqSays A B (fwdF l z) w) := by
  obtain ⟨wb, hwb⟩ : ∃ wb, wb = (w.alloc (.cells #[.string A, .string B, .slice a n c] 24)).alloc (.cells #[.string ⟨#[]⟩, .string ⟨#[]⟩, .slice none 0 0] 24) := ⟨_, rfl⟩
  have h2 : Two w wb (.string A) (.string B) (.slice a n c) (.string ⟨#[]⟩) (.string ⟨#[]⟩) (.slice none 0 0) := by rw [hwb]; exact two_new ..
  have hh := fun wx (hb : Below wb.heap.size wb wx) => rhop_any l a n c wx hn ((hs.below (Nat.le_refl _) h2.below).below (Nat.le_refl _) hb) hz
  have hw := fun wx (hb : Below wb.heap.size wb wx) (b : Option Addr) d m (hl : (hopF l ++ [kAE, kEx]).length = m) (hs2 : SrcS wx b d (hopF l ++ [kAE, kEx])) => rWithout_any l (hopF l ++ [kAE, kEx]) a b n c m d wx hn hl ((hs.below (Nat.le_refl _) h2.below).below (Nat.le_refl _) hb) hs2 (by omega) (by have := hopF_bsz l; have h9 : bsz [kAE, kEx] ≤ 100 := (by decide); rw [bsz_app]; omega)
  have hl1 := woF_len l (hopF l ++ [kAE, kEx])
  have hl2 := asz_len l
  have hl3 : (hopF l).length ≤ 16777416 := by have := bsz_len (hopF l); have := hopF_bsz l; omega
  obtain ⟨R, hR⟩ : ∃ R, R = fwdF l z := ⟨_, rfl⟩
  rw [← hR]
  unfold fwdF at hR
  generalize woF l (hopF l ++ [kAE, kEx]) = F at hw hl1 hR
  generalize hopF l = T at hh hw hl3
  have hlF : F.length ≤ 16777216 := by omega
  have HH := Lib.hid hh
  have HW := Lib.hid hw
  have HWB := Lib.hid hwb
  have H2 := Lib.hid h2
  have HB0 := Lib.hid h2.below
  have HG : Hid (w.heap.size < wb.heap.size) := Lib.hid (by rw [h2.size]; omega)
  obtain ⟨c0, c1, c2, _⟩ := h2.keep (Below.refl _ _)
  clear hw hh hs hn hz hl1 hl2 hwb h2
  by_cases h0 : 0 ≤ z
  · have hD := fun wx => rdig_any z h0 h1 wx
    have hv : R = F ++ [(⟨#[67, 111, 110, 116, 101, 110, 116, 45, 76, 101, 110, 103, 116, 104]⟩, mk (dstr z))] := by rw [hR, if_pos h0]; rfl
    generalize mk (dstr z) = p2 at hD hv
    have HD := Lib.hid hD
    have HV := Lib.hid hv
    clear hR h1 hD hv
    go_enter Tryz.func16, Tryz.ntmps16
    go_wp2_with fail
    rw [← HWB.out]
    have KT : Hid (∀ x y : World, (Below wb.heap.size wb x ∧ x.cell? ⟨w.heap.size, 0, none⟩ = some (.string A) ∧ x.cell? ⟨w.heap.size, 1, none⟩ = some (.string B) ∧ x.cell? ⟨w.heap.size, 2, none⟩ = some (.slice a n c)) → Below x.heap.size x y → (Below wb.heap.size wb y ∧ y.cell? ⟨w.heap.size, 0, none⟩ = some (.string A) ∧ y.cell? ⟨w.heap.size, 1, none⟩ = some (.string B) ∧ y.cell? ⟨w.heap.size, 2, none⟩ = some (.slice a n c))) := Lib.hid fun x y ⟨h1, h2, h3, h4⟩ hb =>
      ⟨h1.trans (hb.mono h1.size), (hb.cell (p := ⟨w.heap.size, 0, none⟩) (Nat.lt_of_lt_of_le HG.out h1.size)).trans h2, (hb.cell (p := ⟨w.heap.size, 1, none⟩) (Nat.lt_of_lt_of_le HG.out h1.size)).trans h3, (hb.cell (p := ⟨w.heap.size, 2, none⟩) (Nat.lt_of_lt_of_le HG.out h1.size)).trans h4⟩
    have KD : Hid (Below wb.heap.size wb wb.drew ∧ wb.drew.cell? ⟨w.heap.size, 0, none⟩ = some (.string A) ∧ wb.drew.cell? ⟨w.heap.size, 1, none⟩ = some (.string B) ∧ wb.drew.cell? ⟨w.heap.size, 2, none⟩ = some (.slice a n c)) := Lib.hid ⟨(Below.refl _ _).drew, c0, c1, c2⟩
    have KB : Hid (∀ x : World, (Below wb.heap.size wb x ∧ x.cell? ⟨w.heap.size, 0, none⟩ = some (.string A) ∧ x.cell? ⟨w.heap.size, 1, none⟩ = some (.string B) ∧ x.cell? ⟨w.heap.size, 2, none⟩ = some (.slice a n c)) → Below wb.heap.size wb x) := Lib.hid fun x h => h.1
    have GH := Lib.hid fun wx (h : Below wb.heap.size wb wx ∧ wx.cell? ⟨w.heap.size, 0, none⟩ = some (.string A) ∧ wx.cell? ⟨w.heap.size, 1, none⟩ = some (.string B) ∧ wx.cell? ⟨w.heap.size, 2, none⟩ = some (.slice a n c)) => HH.out wx h.1
    have GW := Lib.hid fun wx (h : Below wb.heap.size wb wx ∧ wx.cell? ⟨w.heap.size, 0, none⟩ = some (.string A) ∧ wx.cell? ⟨w.heap.size, 1, none⟩ = some (.string B) ∧ wx.cell? ⟨w.heap.size, 2, none⟩ = some (.slice a n c)) => HW.out wx h.1
    have NL := Lib.hid fun wx => lit_strl [kAE, kEx] #[.string ⟨#[65, 99, 99, 101, 112, 116, 45, 69, 110, 99, 111, 100, 105, 110, 103]⟩, .string ⟨#[69, 120, 112, 101, 99, 116]⟩] rfl wx
    have KT2 : Hid (∀ x y : World, (Below wb.heap.size wb x ∧ x.cell? ⟨w.heap.size, 0, none⟩ = some (.string A) ∧ x.cell? ⟨w.heap.size, 1, none⟩ = some (.string B) ∧ x.cell? ⟨w.heap.size, 2, none⟩ = some (.slice a n c)) → Below wb.heap.size x y → (Below wb.heap.size wb y ∧ y.cell? ⟨w.heap.size, 0, none⟩ = some (.string A) ∧ y.cell? ⟨w.heap.size, 1, none⟩ = some (.string B) ∧ y.cell? ⟨w.heap.size, 2, none⟩ = some (.slice a n c))) := Lib.hid fun x y ⟨h1, h2, h3, h4⟩ hb =>
      ⟨h1.trans hb, (hb.cell (p := ⟨w.heap.size, 0, none⟩) HG.out).trans h2, (hb.cell (p := ⟨w.heap.size, 1, none⟩) HG.out).trans h3, (hb.cell (p := ⟨w.heap.size, 2, none⟩) HG.out).trans h4⟩
    have HTL : Hid (T.length ≤ 16777416) := Lib.hid hl3
    clear c0 c1 c2
    go_region_held3 (fun w' => Below wb.heap.size wb w' ∧ w'.cell? ⟨w.heap.size, 0, none⟩ = some (.string A) ∧ w'.cell? ⟨w.heap.size, 1, none⟩ = some (.string B) ∧ w'.cell? ⟨w.heap.size, 2, none⟩ = some (.slice a n c)) (first | exact KD.out | exact KT2.out _ _ (by assumption) hb3 | exact KT.out _ _ (by assumption) (by assumption) | exact KT.out _ _ (by assumption) ((Below.refl _ _).alloc (Nat.le_refl _) _) | exact KT.out _ _ (by assumption) (Below.refl _ _).drew | exact KT.out _ _ KD.out ((Below.refl _ _).alloc (Nat.le_refl _) _) | assumption)
      (first
        | (go_at_call 55; refine (GH.out _ ?_).mono ?_; (first | assumption | exact KD.out); rintro e w1 ⟨hb1, v1, rfl, ho1⟩)
        | (refine step_app_strs (by rfl) _ _ (by rfl) wb.heap.size v1 T (by rfl) (ownS_alloc ho1 _) ⟨w1.heap.size, 0, none⟩ 2 2 [kAE, kEx] rfl (by decide) (by rfl) (NL.out w1) (by have := HTL.out; omega) (Nat.le_trans (KB.out _ (by assumption)).size (Nat.le_refl _)) ?_; intro g cap w3 ho3 hb3)
        | (refine step_app_strs (by rfl) _ _ (by rfl) wb.heap.size v1 T (by rfl) (ownS_mono ho1 (by simp)) ⟨wb.heap.size, 0, none⟩ 2 2 [kAE, kEx] rfl (by decide) (by rfl) ((NL.out wb.drew).below hb1) (by have := HTL.out; omega) (Nat.le_trans (KB.out _ (by assumption)).size (Nat.le_refl _)) ?_; intro g cap w3 ho3 hb3)
        | (go_at_call 54; have hsz3 := (KB.out w3 (by assumption)).size; obtain ⟨hln3, hsr3⟩ := ownS_got ho3; refine (GW.out w3 (by assumption) _ _ _ hln3.symm hsr3).mono ?_; rintro e w4 ⟨hb4, v4, rfl, ho4⟩; clear hln3 hsr3))
    all_goals
      have HS4 := Lib.hid (KT.out _ _ (by assumption) (Below.refl w4.heap.size w4))
      have HO4 : Hid (OwnF w4 wb.heap.size v4 F) := Lib.hid (ownF_mono ho4 hsz3)
      clear ho4 hb4 hb3 ho3 hb1 ho1 hsz3
      go_wp2_with fail
      refine (HD.out _).mono ?_; rintro e w5 ⟨rfl, hb⟩
      have HB5 : Hid (Below wb.heap.size wb w5) := Lib.hid (HS4.out.1.trans (hb.mono HS4.out.1.size))
      have HO5 : Hid (OwnF (w5.alloc (.cells #[.string ⟨#[67, 111, 110, 116, 101, 110, 116, 45, 76, 101, 110, 103, 116, 104]⟩, .string p2] 37)) wb.heap.size v4 F) := Lib.hid (ownF_alloc (ownF_below HO4.out (Nat.le_refl _) hb) _)
      have HL5 := Lib.hid (lit_fld ⟨#[67, 111, 110, 116, 101, 110, 116, 45, 76, 101, 110, 103, 116, 104]⟩ p2 w5)
      have HZ5 : Hid (wb.heap.size ≤ (w5.alloc (.cells #[.string ⟨#[67, 111, 110, 116, 101, 110, 116, 45, 76, 101, 110, 103, 116, 104]⟩, .string p2] 37)).heap.size) := Lib.hid (by have := HB5.out.size; simp; omega)
      clear hb
      go_wp2_with (at_builtin; refine app_flds rfl _ _ rfl wb.heap.size _ F rfl HO5.out _ 1 1 [(⟨#[67, 111, 110, 116, 101, 110, 116, 45, 76, 101, 110, 103, 116, 104]⟩, p2)] rfl rfl HL5.out ?n2 HZ5.out ?_)
      case n2 => show (_ + 1) * 32 ≤ _; omega
      intro v6 w6 hown6 hb6 _
      have HO6 : Hid (OwnF w6 wb.heap.size v6 R) := Lib.hid (by rw [HV.out]; exact hown6)
      have HB6 : Hid (Below wb.heap.size wb w6) := Lib.hid ((HB5.out.alloc HB5.out.size _).trans hb6.out)
      clear hown6 hb6
      obtain ⟨e0, e1, e2, k0, k1, k2, f0, f1, f2⟩ := H2.out.keep HB6.out
      obtain ⟨a3, d3, hv3, _⟩ := ownF_src HO6.out
      have HBW6 : Hid (Below w.heap.size w _) := Lib.hid (HB0.out.trans (HB6.out.mono HB0.out.size))
      have HG1 : Hid (w.heap.size + 1 < wb.heap.size) := Lib.hid (by have := H2.out.size; omega)
      have hsz2 := Nat.lt_of_lt_of_le HG1.out HB6.out.size
      have HG2 : Hid (w.heap.size ≤ w.heap.size + 1) := Lib.hid (by omega)
      have HWS : Hid (w.heap.size ≤ wb.heap.size) := Lib.hid HB0.out.size
      subst hv3
      go_wp2
      refine bodyPost_ret (v := .agg #[.string A, .string B, _]) (by simp [results, Tryz.results16, go_sem, k0, k1, k2]; rfl) rfl ?_
      exact reqSays (below_set3 HBW6.out HG2.out) (ownF_mono (ownF_set3 HO6.out HG1.out) HWS.out)
  · have HV : Hid (R = F) := Lib.hid (by rw [hR, if_neg h0, List.append_nil])
    clear hR h1
    go_enter Tryz.func16, Tryz.ntmps16
    go_wp2_with fail
    rw [← HWB.out]
    have KT : Hid (∀ x y : World, (Below wb.heap.size wb x ∧ x.cell? ⟨w.heap.size, 0, none⟩ = some (.string A) ∧ x.cell? ⟨w.heap.size, 1, none⟩ = some (.string B) ∧ x.cell? ⟨w.heap.size, 2, none⟩ = some (.slice a n c)) → Below x.heap.size x y → (Below wb.heap.size wb y ∧ y.cell? ⟨w.heap.size, 0, none⟩ = some (.string A) ∧ y.cell? ⟨w.heap.size, 1, none⟩ = some (.string B) ∧ y.cell? ⟨w.heap.size, 2, none⟩ = some (.slice a n c))) := Lib.hid fun x y ⟨h1, h2, h3, h4⟩ hb =>
      ⟨h1.trans (hb.mono h1.size), (hb.cell (p := ⟨w.heap.size, 0, none⟩) (Nat.lt_of_lt_of_le HG.out h1.size)).trans h2, (hb.cell (p := ⟨w.heap.size, 1, none⟩) (Nat.lt_of_lt_of_le HG.out h1.size)).trans h3, (hb.cell (p := ⟨w.heap.size, 2, none⟩) (Nat.lt_of_lt_of_le HG.out h1.size)).trans h4⟩
    have KD : Hid (Below wb.heap.size wb wb.drew ∧ wb.drew.cell? ⟨w.heap.size, 0, none⟩ = some (.string A) ∧ wb.drew.cell? ⟨w.heap.size, 1, none⟩ = some (.string B) ∧ wb.drew.cell? ⟨w.heap.size, 2, none⟩ = some (.slice a n c)) := Lib.hid ⟨(Below.refl _ _).drew, c0, c1, c2⟩
    have KB : Hid (∀ x : World, (Below wb.heap.size wb x ∧ x.cell? ⟨w.heap.size, 0, none⟩ = some (.string A) ∧ x.cell? ⟨w.heap.size, 1, none⟩ = some (.string B) ∧ x.cell? ⟨w.heap.size, 2, none⟩ = some (.slice a n c)) → Below wb.heap.size wb x) := Lib.hid fun x h => h.1
    have GH := Lib.hid fun wx (h : Below wb.heap.size wb wx ∧ wx.cell? ⟨w.heap.size, 0, none⟩ = some (.string A) ∧ wx.cell? ⟨w.heap.size, 1, none⟩ = some (.string B) ∧ wx.cell? ⟨w.heap.size, 2, none⟩ = some (.slice a n c)) => HH.out wx h.1
    have GW := Lib.hid fun wx (h : Below wb.heap.size wb wx ∧ wx.cell? ⟨w.heap.size, 0, none⟩ = some (.string A) ∧ wx.cell? ⟨w.heap.size, 1, none⟩ = some (.string B) ∧ wx.cell? ⟨w.heap.size, 2, none⟩ = some (.slice a n c)) => HW.out wx h.1
    have NL := Lib.hid fun wx => lit_strl [kAE, kEx] #[.string ⟨#[65, 99, 99, 101, 112, 116, 45, 69, 110, 99, 111, 100, 105, 110, 103]⟩, .string ⟨#[69, 120, 112, 101, 99, 116]⟩] rfl wx
    have KT2 : Hid (∀ x y : World, (Below wb.heap.size wb x ∧ x.cell? ⟨w.heap.size, 0, none⟩ = some (.string A) ∧ x.cell? ⟨w.heap.size, 1, none⟩ = some (.string B) ∧ x.cell? ⟨w.heap.size, 2, none⟩ = some (.slice a n c)) → Below wb.heap.size x y → (Below wb.heap.size wb y ∧ y.cell? ⟨w.heap.size, 0, none⟩ = some (.string A) ∧ y.cell? ⟨w.heap.size, 1, none⟩ = some (.string B) ∧ y.cell? ⟨w.heap.size, 2, none⟩ = some (.slice a n c))) := Lib.hid fun x y ⟨h1, h2, h3, h4⟩ hb =>
      ⟨h1.trans hb, (hb.cell (p := ⟨w.heap.size, 0, none⟩) HG.out).trans h2, (hb.cell (p := ⟨w.heap.size, 1, none⟩) HG.out).trans h3, (hb.cell (p := ⟨w.heap.size, 2, none⟩) HG.out).trans h4⟩
    have HTL : Hid (T.length ≤ 16777416) := Lib.hid hl3
    clear c0 c1 c2
    go_region_held3 (fun w' => Below wb.heap.size wb w' ∧ w'.cell? ⟨w.heap.size, 0, none⟩ = some (.string A) ∧ w'.cell? ⟨w.heap.size, 1, none⟩ = some (.string B) ∧ w'.cell? ⟨w.heap.size, 2, none⟩ = some (.slice a n c)) (first | exact KD.out | exact KT2.out _ _ (by assumption) hb3 | exact KT.out _ _ (by assumption) (by assumption) | exact KT.out _ _ (by assumption) ((Below.refl _ _).alloc (Nat.le_refl _) _) | exact KT.out _ _ (by assumption) (Below.refl _ _).drew | exact KT.out _ _ KD.out ((Below.refl _ _).alloc (Nat.le_refl _) _) | assumption)
      (first
        | (go_at_call 55; refine (GH.out _ ?_).mono ?_; (first | assumption | exact KD.out); rintro e w1 ⟨hb1, v1, rfl, ho1⟩)
        | (refine step_app_strs (by rfl) _ _ (by rfl) wb.heap.size v1 T (by rfl) (ownS_alloc ho1 _) ⟨w1.heap.size, 0, none⟩ 2 2 [kAE, kEx] rfl (by decide) (by rfl) (NL.out w1) (by have := HTL.out; omega) (Nat.le_trans (KB.out _ (by assumption)).size (Nat.le_refl _)) ?_; intro g cap w3 ho3 hb3)
        | (refine step_app_strs (by rfl) _ _ (by rfl) wb.heap.size v1 T (by rfl) (ownS_mono ho1 (by simp)) ⟨wb.heap.size, 0, none⟩ 2 2 [kAE, kEx] rfl (by decide) (by rfl) ((NL.out wb.drew).below hb1) (by have := HTL.out; omega) (Nat.le_trans (KB.out _ (by assumption)).size (Nat.le_refl _)) ?_; intro g cap w3 ho3 hb3)
        | (go_at_call 54; have hsz3 := (KB.out w3 (by assumption)).size; obtain ⟨hln3, hsr3⟩ := ownS_got ho3; refine (GW.out w3 (by assumption) _ _ _ hln3.symm hsr3).mono ?_; rintro e w4 ⟨hb4, v4, rfl, ho4⟩; clear hln3 hsr3))
    all_goals
      have HS4 := Lib.hid (KT.out _ _ (by assumption) (Below.refl w4.heap.size w4))
      have HO4 : Hid (OwnF w4 wb.heap.size v4 F) := Lib.hid (ownF_mono ho4 hsz3)
      clear ho4 hb4 hb3 ho3 hb1 ho1 hsz3
      have HO6 : Hid (OwnF w4 wb.heap.size v4 R) := Lib.hid (by rw [HV.out]; exact HO4.out)
      have HB6 : Hid (Below wb.heap.size wb w4) := Lib.hid HS4.out.1
      obtain ⟨e0, e1, e2, k0, k1, k2, f0, f1, f2⟩ := H2.out.keep HB6.out
      obtain ⟨a3, d3, hv3, _⟩ := ownF_src HO6.out
      have HBW6 : Hid (Below w.heap.size w _) := Lib.hid (HB0.out.trans (HB6.out.mono HB0.out.size))
      have HG1 : Hid (w.heap.size + 1 < wb.heap.size) := Lib.hid (by have := H2.out.size; omega)
      have hsz2 := Nat.lt_of_lt_of_le HG1.out HB6.out.size
      have HG2 : Hid (w.heap.size ≤ w.heap.size + 1) := Lib.hid (by omega)
      have HWS : Hid (w.heap.size ≤ wb.heap.size) := Lib.hid HB0.out.size
      subst hv3
      go_wp2
      refine bodyPost_ret (v := .agg #[.string A, .string B, _]) (by simp [results, Tryz.results16, go_sem, k0, k1, k2]; rfl) rfl ?_
      exact reqSays (below_set3 HBW6.out HG2.out) (ownF_mono (ownF_set3 HO6.out HG1.out) HWS.out)

end Go.Proofs.YthkgaaibhjkngaaGreatDoor
