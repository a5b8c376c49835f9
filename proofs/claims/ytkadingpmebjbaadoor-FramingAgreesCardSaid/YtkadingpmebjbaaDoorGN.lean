/- FieldsNames. -/
import Derived.Test.YtkadingpmebjbaaDoorGR
set_option linter.unusedVariables false
namespace Go.Proofs.YtkadingpmebjbaaDoor
open Go.RowKit

def ask : ByteArray := ⟨#[63]⟩
theorem srcS_first {w : World} {a : Option Addr} {c : Nat} {l r : List ByteArray} (h : SrcS w a c (l ++ r)) : SrcS w a c l :=
  ⟨fun j hj => by
    obtain ⟨b, o, h1, h2, h3⟩ := h.at_ j (by simp; omega)
    rw [List.getElem_append_left hj] at h3
    exact ⟨b, o, h1, h2, h3⟩, by have := h.cap; rw [List.length_append] at this; omega, fun e => ⟨by have := (h.nil e).1; exact (List.append_eq_nil_iff.1 this).1, (h.nil e).2⟩⟩
theorem srcS_last {w : World} {g c : Nat} {l : List ByteArray} (h : SrcS w (some ⟨g, 0, none⟩) c (l ++ [ask])) : g < w.heap.size ∧ w.cell? ⟨g, l.length, none⟩ = some (.string ⟨#[63]⟩) ∧ l.length + 1 ≤ c := by
  obtain ⟨b, o, h1, h2, h3⟩ := h.at_ l.length (by simp)
  rw [List.getElem_append_right (Nat.le_refl _)] at h3
  simp only [Nat.sub_self, List.getElem_cons_zero] at h3
  simp only [Option.some.injEq, Addr.mk.injEq] at h1
  obtain ⟨rfl, rfl, _⟩ := h1
  rw [Nat.zero_add] at h3
  exact ⟨h2, h3, by have := h.cap; simpa using this⟩
theorem made_strs (w : World) (base : Nat) (h : base ≤ w.heap.size) (C : Array Value) (hC : C = #[]) : OwnS (w.alloc (.cells C 9)) base (.slice (some ⟨w.heap.size, 0, none⟩) 0 0) [] := by
  subst hC
  exact World.ownsRow_made w #[] 0 h (by unfold maxLen; omega) (by simp)
theorem ownS_at {w : World} {base : Nat} {a : Option Addr} {n c : Nat} {l : List ByteArray} (h : OwnS w base (.slice a n c) l) (h0 : 0 < n) : ∃ g, a = some ⟨g, 0, none⟩ ∧ base ≤ g := by
  rcases h.2 with ⟨h1, h0'⟩ | ⟨g, cap, cur, h1, hb, _⟩
  · injection h1 with e1 e2 e3; omega
  · injection h1 with e1 e2 e3; exact ⟨g, e1, hb⟩
/-- cells of fields that may be written -/
def SlotF (w : World) (a : Option Addr) (base n : Nat) : Prop := ∀ j, j < n → ∃ g, a = some ⟨g, 0, none⟩ ∧ base ≤ g ∧ (w.cell? ⟨g, j * 2, none⟩).isSome = true ∧ (w.cell? ⟨g, j * 2 + 1, none⟩).isSome = true ∧ (∀ o, w.frozen? ⟨g, o, none⟩ = false)
theorem ownF_slots {w : World} {base n c : Nat} {a : Option Addr} {l : AL} (h : OwnF w base (.slice a n c) l) : SlotF w a base n ∧ n = l.length := by
  rcases h.2 with ⟨h1, h0⟩ | ⟨g, cap, cur, h1, hb, hg, h2, h3, h4⟩
  · injection h1 with e1 e2 e3
    subst e1 e2
    exact ⟨fun j hj => by omega, h0.symm⟩
  · injection h1 with e1 e2 e3
    subst e1 e2 e3
    refine ⟨fun j hj => ?_, rfl⟩
    obtain ⟨f1, f2⟩ := flat_at l j hj
    have c1 := World.ownsRow.cells h (g := g) rfl _ _ f1
    have c2 := World.ownsRow.cells h (g := g) rfl _ _ f2
    rw [Go.WideShapes.add_plain, Nat.zero_add] at c1 c2
    exact ⟨g, rfl, hb, by rw [c1]; rfl, by rw [c2]; rfl, fun o => Lib.frozen_of_heap hg _⟩
theorem set_some {w : World} {p q : Addr} {u : Value} (h : (w.cell? p).isSome = true) : ((w.setCell q u).cell? p).isSome = true := by
  by_cases e : p = q
  · subst e
    obtain ⟨x, hx⟩ := Option.isSome_iff_exists.1 h
    rw [World.cell?_setCell_same _ _ _ hx]; rfl
  · rw [World.cell?_setCell_other _ _ _ _ (Ne.symm e)]; exact h
theorem SlotF.set {w : World} {a : Option Addr} {base n : Nat} (h : SlotF w a base n) (q : Addr) (u : Value) : SlotF (w.setCell q u) a base n := fun j hj => by
  obtain ⟨g, h1, h2, h3, h4, h5⟩ := h j hj
  exact ⟨g, h1, h2, set_some h3, set_some h4, fun o => by rw [World.frozen?_setCell]; exact h5 o⟩
theorem strs_one (l : List ByteArray) (v : Value) (w : World) (B : Nat) (h : OwnS w B v l) : ∃ a c, v = .slice a l.length c ∧ SrcS w a c l ∧ Slots w a B l.length := by
  obtain ⟨a, c, rfl, hs⟩ := ownS_src h
  exact ⟨a, c, rfl, hs, (ownS_slots h).1⟩
theorem flds_one (l : AL) (v : Value) (w : World) (B : Nat) (h : OwnF w B v l) : ∃ a c, v = .slice a l.length c ∧ SrcA w a c l := by
  obtain ⟨a, c, rfl, hs, _⟩ := ownF_src h
  exact ⟨a, c, rfl, hs⟩

set_option maxHeartbeats 32000000 in
set_option maxRecDepth 100000 in
theorem fieldsNames_any (l : AL) (ns : List ByteArray) (av bv : Option Addr) (n c m d : Nat) (w : World) (hn : l.length = n) (hm : ns.length = m) (hs : SrcA w av c l) (hs2 : SrcS w bv d ns) (hz : asz l ≤ 1073741824) (hz2 : bsz ns ≤ 1073741824) :
    Calls Tryd.prog 5 #[.slice av n c, .slice bv m d] w fun e w' => e = .returned (.bool true) ∧ Below w.heap.size w w' := by
  have hnb : n ≤ 1073741824 := by have := asz_len l; omega
  have hmb : m ≤ 1073741824 := by have := bsz_len ns; omega
  have HS := Lib.hid hs
  have HS2 := Lib.hid hs2
  have HN := Lib.hid hn
  have HM := Lib.hid hm
  have HZ2 := Lib.hid hz2
  have H0 := Lib.hid fun wx => shown4_any wx
  have HL : Hid (∀ a c wx, SrcA wx a c l → Calls Tryd.prog 19 #[.slice a n c] wx fun e w' => Below wx.heap.size wx w' ∧ ∃ g cap, e = .returned (.slice (some ⟨g, 0, none⟩) n cap) ∧ wx.heap.size ≤ g ∧ SrcA w' (some ⟨g, 0, none⟩) cap (l ++ [bang])) := Lib.hid fun a c wx h => by
    have := lent_any l a n c wx hn h hnb; unfold LentSays at this; rw [hn] at this; exact this
  have HK : Hid (∀ a c g cap wx, SrcA wx a c l → SrcA wx (some ⟨g, 0, none⟩) cap (l ++ [bang]) → Calls Tryd.prog 23 #[.slice (some ⟨g, 0, none⟩) n cap, .slice a n c] wx fun e w' => e = .returned (.bool true) ∧ Below wx.heap.size wx w') := Lib.hid fun a c g cap wx h1 h2 =>
    kept_any l a n c g cap wx hn h1 h2 hnb
  have HA : Hid (∀ X : ByteArray, X.size ≤ 1073741824 → ∀ a c wx, SrcA wx a c l → Calls Tryd.prog 25 #[.slice a n c, .string X] wx (StrsSays (allF l X) wx)) := Lib.hid fun X hX a c wx h => all_any l X a n c wx hn h hz hX
  have HAR : Hid (∀ X : ByteArray, X.size ≤ 1073741824 → ∀ a c wx, SrcA wx a c l → Calls Tryd.prog 26 #[.slice a n c, .string X] wx (StrsSays (allF l X) wx)) := Lib.hid fun X hX a c wx h => rAll_any l X a n c wx hn h hz hX
  have HC : Hid (∀ X : ByteArray, X.size ≤ 1073741824 → ∀ a c wx, SrcA wx a c l → Calls Tryd.prog 28 #[.slice a n c, .string X] wx fun e w' => e = .returned (.int .i64 ((allF l X).length : Nat)) ∧ Below wx.heap.size wx w') := Lib.hid fun X hX a c wx h => count_any l X a n c wx hn h hz hX
  have HW : Hid (∀ a b c d wx, SrcA wx a c l → SrcS wx b d ns → Calls Tryd.prog 29 #[.slice a n c, .slice b m d] wx (FldsSays (woF l ns) wx)) := Lib.hid fun a b c d wx h1 h2 => without_any l ns a b n c m d wx hn hm h1 h2 hz hz2
  have HWR : Hid (∀ a b c d wx, SrcA wx a c l → SrcS wx b d ns → Calls Tryd.prog 31 #[.slice a n c, .slice b m d] wx (FldsSays (woF l ns) wx)) := Lib.hid fun a b c d wx h1 h2 => rWithout_any l ns a b n c m d wx hn hm h1 h2 hz hz2
  have hal : ∀ X, (allF l X).length ≤ n := fun X => by rw [← hn]; exact allF_len l X
  have hwl : (woF l ns).length ≤ n := by rw [← hn]; exact woF_len l ns
  have HAL := Lib.hid hal
  clear hs hn hz hs2 hm hz2 hal
  go_enter Tryd.func5, Tryd.ntmps5
  go_wp2_with fail
  refine (H0.out _).mono ?_; rintro e w1 ⟨rfl, hb⟩
  have HB1 := Lib.hid hb
  have HS1 := Lib.hid (HS.out.below (Nat.le_refl _) hb)
  clear hb
  go_wp2_with fail
  refine (HL.out _ _ _ HS1.out).mono ?_; rintro e w2 ⟨hb, g, cap, rfl, hge, hsl⟩
  have HB2 := Lib.hid (app_below HB1.out hb)
  have HL2 := Lib.hid hsl
  clear hb hsl hge
  have HB2a : Hid (Below w.heap.size w (w2.alloc (.cells #[] 9))) := Lib.hid (HB2.out.alloc HB2.out.size _)
  have HM2 := Lib.hid (made_strs w2 w2.heap.size (Nat.le_refl _) #[] rfl)
  have HN2 := Lib.hid (HS2.out.below HB2a.out)
  have HZ2a : Hid (w2.heap.size ≤ (w2.alloc (.cells #[] 9)).heap.size) := Lib.hid (by simp)
  have HLa : Hid (Below w2.heap.size w2 (w2.alloc (.cells #[] 9))) := Lib.hid ((Below.refl _ _).alloc (Nat.le_refl _) _)
  go_wp2_with (at_builtin; refine app_strs rfl _ _ rfl w2.heap.size _ [] rfl HM2.out bv d m ns HM.out rfl HN2.out ?n1 HZ2a.out ?_)
  case n1 => rw [HM.out]; simp; omega
  intro v3 w3 hown3 hb3 _
  have HB3 : Hid (Below w2.heap.size w2 w3) := Lib.hid (HLa.out.trans hb3.out)
  have HO3 : Hid (OwnS (w3.alloc (.cells #[.string ask] 9)) w2.heap.size v3 ns) := Lib.hid (ownS_alloc hown3 _)
  have HLs := Lib.hid (lit_strs ask w3)
  have HB3a : Hid (Below w2.heap.size w2 (w3.alloc (.cells #[.string ask] 9))) := Lib.hid (HB3.out.alloc HB3.out.size _)
  clear hown3 hb3
  go_wp2_with (at_builtin; refine app_strs rfl _ _ rfl w2.heap.size _ ns rfl HO3.out _ 1 1 [ask] rfl rfl HLs.out ?n2 HB3a.out.size ?_)
  case n2 => rw [HM.out]; show (_ + 1) * 16 ≤ _; omega
  intro v4 w4 hown4 hb4 _
  have HB4 : Hid (Below w2.heap.size w2 w4) := Lib.hid (HB3a.out.trans hb4.out)
  obtain ⟨a4, c4, rfl, hs4⟩ := ownS_src hown4
  have hlen : (ns ++ [ask]).length = m + 1 := by rw [List.length_append, HM.out]; rfl
  rw [hlen] at hown4 ⊢
  obtain ⟨gn, rfl, hgn⟩ := ownS_at hown4 (by omega)
  obtain ⟨_, _, hcap4⟩ := srcS_last hs4
  rw [HM.out] at hcap4
  have HS4 := Lib.hid hs4
  have HBw : Hid (Below w.heap.size w w4) := Lib.hid (HB2.out.trans (HB4.out.mono HB2.out.size))
  have HL4 := Lib.hid (HL2.out.below (Nat.le_refl _) HB4.out)
  have HA4 := Lib.hid (HS.out.below (Nat.le_refl _) HBw.out)
  have HN4 := Lib.hid (HS2.out.below HBw.out)
  clear hown4 hb4 hs4 hlen hgn
  go_wp2_with fail
  go_loopw [8] (fun i wr => ∃ k : Nat, k ≤ 2 ∧ i = .int .i64 k ∧ Below w4.heap.size w4 wr) (fun i _ => 2 - (intOf i).toNat)
  case atStart => exact ⟨0, by omega, rfl, Below.refl _ _⟩
  case round =>
    obtain ⟨tw, htw, rfl, hb⟩ := hrel
    have HB := Lib.hid hb
    clear hb
    by_cases hlt : tw < 2
    case neg =>
      have HAe := Lib.hid (HA4.out.below (Nat.le_refl _) HB.out)
      have HLe := Lib.hid (HL4.out.below (Nat.le_refl _) HB.out)
      have HSe := Lib.hid (HS4.out.below HB.out)
      obtain ⟨hgl, hgc, _⟩ := srcS_last HSe.out
      rw [HM.out] at hgc
      have HGC := Lib.hid hgc
      have HE : Hid (Below w.heap.size w wr) := Lib.hid (HBw.out.trans (HB.out.mono HBw.out.size))
      clear hgc
      go_wp2_with fail
      refine (HK.out _ _ _ _ _ HAe.out HLe.out).mono ?_; rintro e w6 ⟨rfl, hb⟩
      have c6 := (hb.cell (p := ⟨gn, m, none⟩) hgl).trans HGC.out
      have HE6 := Lib.hid (app_below HE.out hb)
      clear hb
      go_wp2
      go_ret
      exact ⟨rfl, HE6.out⟩
    case pos =>
      have hdt : decide ((tw : Int) < 2) = true := by simp; omega
      obtain ⟨wo, hwo⟩ : ∃ wo, wo = wr := ⟨_, rfl⟩
      subst hwo
      go_wp2_with fail
      go_loopw [9] (fun i wr => ∃ k : Nat, k ≤ m ∧ i = .int .i64 k ∧ Below w4.heap.size w4 wr) (fun i _ => m - (intOf i).toNat)
      case atStart => exact ⟨0, by omega, rfl, HB.out⟩
      case round =>
        obtain ⟨i, hi, rfl, hbi⟩ := hrel
        have HBI := Lib.hid hbi
        clear hbi
        by_cases hlt2 : i < m ∧ i < 20
        case pos =>
          obtain ⟨hlm, hl20⟩ := hlt2
          have hil : i < ns.length := by rw [HM.out]; exact hlm
          obtain ⟨b2, o2, rfl, hb2, e1⟩ := srcS_at HN4.out i hil HBI.out
          have hzz := HZ2.out
          have hbb := bsz_at ns i hil
          generalize ns[i] = X at e1 hbb
          have hX : X.size ≤ 1073741824 := by omega
          have hA := HA.out X hX
          have hAR := HAR.out X hX
          have hC := HC.out X hX
          have hal := HAL.out X
          generalize allF l X = vs at hA hAR hC hal
          obtain ⟨vn, hvn⟩ : ∃ vn, vs.length = vn := ⟨_, rfl⟩
          rw [hvn] at hC hal
          have HAX := Lib.hid hA
          have HARX := Lib.hid hAR
          have HCX := Lib.hid hC
          have HVN := Lib.hid hvn
          have HLo := Lib.hid (srcA_first (HL4.out.below (Nat.le_refl _) HBI.out))
          have HAl := Lib.hid (HA4.out.below (Nat.le_refl _) HBI.out)
          clear hA hAR hC hvn hzz hbb hX hil
          go_wp2_with fail
          refine (HAX.out _ _ _ HLo.out).mono ?_; rintro e w5 ⟨hb, v5, rfl, hown⟩
          obtain ⟨a5, c5, hv5, hs5, hsl5⟩ := strs_one _ _ _ _ hown
          rw [HVN.out] at hv5 hsl5
          subst hv5
          have e5 := (hb.cell (p := ⟨b2, o2 + i, none⟩) hb2).trans e1
          have hb5 : b2 < w5.heap.size := Nat.lt_of_lt_of_le hb2 hb.size
          have HB5 := Lib.hid (app_below HBI.out hb)
          have HR5 := Lib.hid hb
          have HS5 := Lib.hid hs5
          have HSL5 := Lib.hid hsl5
          have HLo5 := Lib.hid (HLo.out.below (Nat.le_refl _) hb)
          have HAl5 := Lib.hid (HAl.out.below (Nat.le_refl _) hb)
          clear hb hown hs5 hsl5 e1
          go_wp2_with fail
          refine (HARX.out _ _ _ HAl5.out).mono ?_; rintro e w6 ⟨hb, v6, rfl, hown⟩
          obtain ⟨a6, c6, hv6, hs6, _⟩ := strs_one _ _ _ _ hown
          rw [HVN.out] at hv6
          subst hv6
          have e6 := (hb.cell (p := ⟨b2, o2 + i, none⟩) hb5).trans e5
          have hb6 : b2 < w6.heap.size := Nat.lt_of_lt_of_le hb5 hb.size
          have HB6 := Lib.hid (app_below HB5.out hb)
          have HR6 := Lib.hid (app_below HR5.out hb)
          have HSL6 := Lib.hid (HSL5.out.below hb)
          have HLo6 := Lib.hid (HLo5.out.below (Nat.le_refl _) hb)
          have HSA := Lib.hid (sameList_eq a5 a6 vn c5 c6 vs w6 HVN.out (HS5.out.below hb) hs6 (by omega))
          clear hb hown hs6 e5
          go_wp2_with fail
          refine HSA.out.mono ?_; rintro e w7 ⟨rfl, hb⟩
          have e7 := (hb.cell (p := ⟨b2, o2 + i, none⟩) hb6).trans e6
          have HB7 := Lib.hid (app_below HB6.out hb)
          have HR7 := Lib.hid (app_below HR6.out hb)
          have HSL7 := Lib.hid (HSL6.out.below hb)
          have HLo7 := Lib.hid (HLo6.out.below (Nat.le_refl _) hb)
          clear hb e6
          go_wp2_with fail
          refine (HCX.out _ _ _ HLo7.out).mono ?_; rintro e w8 ⟨rfl, hb⟩
          have HB8 := Lib.hid (app_below HB7.out hb)
          have HR8 := Lib.hid (app_below HR7.out hb)
          have HSL8 := Lib.hid (HSL7.out.below hb)
          clear hb e7
          obtain ⟨wq, hwq⟩ : ∃ wq, wq = wr := ⟨_, rfl⟩
          subst hwq
          go_wp2_with fail
          go_loopw [13] (fun i wi => ∃ j : Nat, j ≤ vn ∧ i = .int .i64 j ∧ Below wq.heap.size wq wi ∧ Slots wi a5 wq.heap.size vn) (fun i _ => vn - (intOf i).toNat)
          case atStart => exact ⟨0, by omega, rfl, HR8.out, HSL8.out⟩
          case round =>
            obtain ⟨j, hj, rfl, hb, hsl⟩ := hrel
            have HBJ := Lib.hid hb
            have HSJ := Lib.hid hsl
            clear hb
            by_cases hlt3 : j < vn
            · obtain ⟨g5, rfl, hg5, hc, hf⟩ := hsl j hlt3
              obtain ⟨u, hu⟩ := Option.isSome_iff_exists.1 hc
              clear hc hsl
              go_wp2
              go_roundw
              case rel => exact ⟨j + 1, by omega, by go_num, HBJ.out.setCell (p := ⟨g5, j, none⟩) hg5 _, HSJ.out.set _ _⟩
              case measure => simp [intOf]; omega
            · clear hsl
              go_wp2
              go_roundw
              case rel => exact ⟨i + 1, by omega, by go_num, app_below HBI.out HBJ.out⟩
              case measure => simp [intOf]; omega
        case neg =>
          have HLo := Lib.hid (srcA_first (HL4.out.below (Nat.le_refl _) HBI.out))
          have HAl := Lib.hid (HA4.out.below (Nat.le_refl _) HBI.out)
          have HNo := Lib.hid (srcS_first (HS4.out.below HBI.out))
          have HNl := Lib.hid (HN4.out.below HBI.out)
          have hcase : ¬ i < m ∨ (i < m ∧ ¬ i < 20) := by
            by_cases h : i < m
            · exact .inr ⟨h, fun h2 => hlt2 ⟨h, h2⟩⟩
            · exact .inl h
          clear hlt2
          rcases hcase with him | ⟨him, hi20⟩
          all_goals
            go_wp2_with fail
            refine (HW.out _ _ _ _ _ HLo.out HNo.out).mono ?_; rintro e w5 ⟨hb, v5, rfl, hown⟩
            obtain ⟨a5, c5, rfl, hs5⟩ := flds_one _ _ _ _ hown
            have HB5 := Lib.hid (app_below HBI.out hb)
            have HR5 := Lib.hid hb
            have HO5 := Lib.hid hown
            have HS5 := Lib.hid hs5
            have HAl5 := Lib.hid (HAl.out.below (Nat.le_refl _) hb)
            have HNl5 := Lib.hid (HNl.out.below hb)
            clear hb hown hs5
            go_wp2_with fail
            refine (HWR.out _ _ _ _ _ HAl5.out HNl5.out).mono ?_; rintro e w6 ⟨hb, v6, rfl, hown⟩
            obtain ⟨a6, c6, rfl, hs6⟩ := flds_one _ _ _ _ hown
            have HB6 := Lib.hid (app_below HB5.out hb)
            have HR6 := Lib.hid (app_below HR5.out hb)
            have HO6 := Lib.hid (ownF_below HO5.out (Nat.le_refl _) hb)
            have HSA := Lib.hid (rfSame_eq a5 a6 (woF l ns).length c5 c6 (woF l ns) w6 rfl (HS5.out.below (Nat.le_refl _) hb) hs6 (by omega))
            clear hb hown hs6
            obtain ⟨xs, hxs⟩ : ∃ xs, woF l ns = xs := ⟨_, rfl⟩
            rw [hxs] at HSA HO6 ⊢
            have hxl : xs.length ≤ n := by rw [← hxs]; exact hwl
            obtain ⟨xn, hxn⟩ : ∃ xn, xs.length = xn := ⟨_, rfl⟩
            rw [hxn] at HSA HO6 hxl ⊢
            have HXN := Lib.hid hxn
            clear hxs hxn
            go_wp2_with fail
            refine HSA.out.mono ?_; rintro e w7 ⟨rfl, hb⟩
            have HB7 := Lib.hid (app_below HB6.out hb)
            have HR7 := Lib.hid (app_below HR6.out hb)
            have HO7 : Hid (OwnF (w7.alloc (.cells #[.string ⟨#[]⟩, .string ⟨#[]⟩] 47)) wr.heap.size _ xs) := Lib.hid (ownF_alloc (ownF_below HO6.out (Nat.le_refl _) hb) _)
            have HL7 := Lib.hid (lit_fld ⟨#[]⟩ ⟨#[]⟩ w7)
            have HR7a : Hid (Below wr.heap.size wr (w7.alloc (.cells #[.string ⟨#[]⟩, .string ⟨#[]⟩] 47))) := Lib.hid (HR7.out.alloc HR7.out.size _)
            clear hb
            go_wp2_with (at_builtin; refine app_flds rfl _ _ rfl wr.heap.size _ xs rfl HO7.out _ 1 1 [(⟨#[]⟩, ⟨#[]⟩)] rfl rfl HL7.out ?n2 HR7a.out.size ?_)
            case n2 => rw [HXN.out]; show (_ + 1) * 32 ≤ _; omega
            intro v8 w8 hown8 hb8 _
            have HR8 : Hid (Below wr.heap.size wr w8) := Lib.hid (HR7a.out.trans hb8.out)
            obtain ⟨a8, c8, rfl, hs8⟩ := flds_one _ _ _ _ hown8
            have hsl8 := (ownF_slots hown8).1
            have hlen : (xs ++ [((⟨#[]⟩ : ByteArray), (⟨#[]⟩ : ByteArray))]).length = xn + 1 := by rw [List.length_append, HXN.out]; rfl
            rw [hlen] at hsl8 ⊢
            have HSL8 := Lib.hid hsl8
            clear hown8 hb8 hs8 hsl8 hlen
            obtain ⟨wq, hwq⟩ : ∃ wq, wq = wr := ⟨_, rfl⟩
            subst hwq
            go_wp2_with fail
            go_loopw [16] (fun i wi => ∃ j : Nat, j ≤ xn + 1 ∧ i = .int .i64 j ∧ Below wq.heap.size wq wi ∧ SlotF wi a8 wq.heap.size (xn + 1)) (fun i _ => xn + 1 - (intOf i).toNat)
            case atStart => exact ⟨0, by omega, rfl, HR8.out, HSL8.out⟩
            case round =>
              obtain ⟨j, hj, rfl, hb, hsl⟩ := hrel
              have HBJ := Lib.hid hb
              have HSJ := Lib.hid hsl
              clear hb
              by_cases hlt3 : j < xn + 1
              · obtain ⟨g5, rfl, hg5, hc1, hc2, hf⟩ := hsl j hlt3
                have hf1 := hf (j * 2)
                have hf2 := hf (j * 2 + 1)
                obtain ⟨u, hu⟩ := Option.isSome_iff_exists.1 hc1
                obtain ⟨x, hx⟩ := Option.isSome_iff_exists.1 hc2
                clear hc1 hc2 hsl hf
                go_wp2
                go_roundw
                case rel => exact ⟨j + 1, by omega, by go_num, (HBJ.out.setCell (p := ⟨g5, j * 2, none⟩) hg5 _).setCell (p := ⟨g5, j * 2 + 1, none⟩) hg5 _, (HSJ.out.set _ _).set _ _⟩
                case measure => simp [intOf]; omega
              · clear hsl
                go_wp2
                go_roundw
                case rel => exact ⟨tw + 1, by omega, by go_num, app_below HBI.out HBJ.out⟩
                case measure => simp [intOf]; omega
end Go.Proofs.YtkadingpmebjbaaDoor
