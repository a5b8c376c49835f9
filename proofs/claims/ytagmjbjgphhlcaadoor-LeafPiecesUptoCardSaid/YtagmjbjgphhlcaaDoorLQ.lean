/- Each byte is read by itself: the walk. -/
import Derived.Test.YtagmjbjgphhlcaaDoorLN
set_option linter.unusedVariables false
namespace Go.Proofs.YtagmjbjgphhlcaaDoor
open Go.RowKit

/-- what is written of a text, as a walk wants it -/
def EncG (S : ByteArray) (n : Nat) (l : List UInt8) (ok : Bool) : Prop :=
  ∀ wx : World, Calls Tryd.prog 16 #[.string S] wx fun e w' => ∃ a c, e = .returned (.tuple #[.slice a n c, .bool ok]) ∧ Src w' a c l ∧ Below wx.heap.size wx w'
def ConG (n : Nat) (l : List UInt8) (R : ByteArray) : Prop :=
  ∀ (wx : World) a c, Src wx a c l → (convert 29 9 (.slice a n c)).run Tryd.prog wx = .ok (.string R) wx
theorem encG_of (S : ByteArray) (h : S.size ≤ 4194304) : EncG S (encR S.data.toList).1.length (encR S.data.toList).1 (encR S.data.toList).2 := fun wx =>
  (lencode_any S wx h).mono fun e w' he => encSays_is rfl he
theorem conG_of (l : List UInt8) : ConG l.length l ⟨l.toArray⟩ := fun wx a c h => conv_src wx a c l h
theorem app_mk (a b : List UInt8) : (ByteArray.mk (a ++ b).toArray) = ByteArray.mk a.toArray ++ ByteArray.mk b.toArray := by
  apply ByteArray.ext; simp
theorem encR_len (s : List UInt8) : (encR s).1.length ≤ s.length := by
  unfold encR
  have h1 := (rns_len s).1
  cases h : encL (rns s) with
  | none => simp
  | some b => have := encL_len h; simp only; omega
theorem enc_three (S T : ByteArray) (hok : AllOk S.data.toList) (hs : S.size ≤ 1048576) (ht : T.size ≤ 1048576) :
    ∃ n1 l1 o1 n2 l2 o2 n3 l3 R1 R2, EncG S n1 l1 o1 ∧ EncG T n2 l2 o2 ∧ EncG (S ++ T) n3 l3 (o1 && o2) ∧ ConG n1 l1 R1 ∧ ConG n2 l2 R2 ∧ ((o1 && o2) = true → ConG n3 l3 (R1 ++ R2)) ∧ R1.size ≤ 1048576 ∧ R2.size ≤ 1048576 := by
  have hl : (S ++ T).data.toList = S.data.toList ++ T.data.toList := by simp
  have hsz : (S ++ T).size ≤ 4194304 := by rw [ByteArray.size_append]; omega
  have h3 := encG_of (S ++ T) hsz
  have hr := rns_ok_append S.data.toList T.data.toList hok
  rw [hl] at h3
  have e3 : (encR (S.data.toList ++ T.data.toList)).2 = ((encR S.data.toList).2 && (encR T.data.toList).2) ∧ (((encR S.data.toList).2 && (encR T.data.toList).2) = true → (encR (S.data.toList ++ T.data.toList)).1 = (encR S.data.toList).1 ++ (encR T.data.toList).1) := by
    unfold encR
    rw [hr, encL_append]
    cases encL (rns S.data.toList) <;> cases encL (rns T.data.toList) <;> simp
  rw [e3.1] at h3
  refine ⟨_, _, _, _, _, _, _, _, _, _, encG_of S (by omega), encG_of T (by omega), h3, conG_of _, conG_of _, fun h => ?_, by rw [size_mk]; have := encR_len S.data.toList; have e : S.data.toList.length = S.size := by { simp }; omega, by rw [size_mk]; have := encR_len T.data.toList; have e : T.data.toList.length = T.size := by { simp }; omega⟩
  have := conG_of (encR (S.data.toList ++ T.data.toList)).1
  rw [e3.2 h] at this ⊢
  rw [app_mk] at this
  exact this

set_option maxHeartbeats 16000000 in
set_option maxRecDepth 100000 in
theorem leafPieces_walk (w : World) (a1 a2 : Option Addr) (c1 c2 : Nat) (la lb : List UInt8) (s t : ByteArray) (h1 : Src w a1 c1 la) (h2 : Src w a2 c2 lb) (hl1 : la.length ≤ 1048576) (hl2 : lb.length ≤ 1048576) (hs : s.size ≤ 1048576) (ht : t.size ≤ 1048576) :
    Calls Tryd.prog 8 #[.slice a1 la.length c1, .slice a2 lb.length c2, .string s, .string t] w fun e w' => e = .returned (.bool true) ∧ Below w.heap.size w w' := by
  have H1 := Lib.hid h1
  have H2 := Lib.hid h2
  obtain ⟨X, Y, hA, hB, hC, hX, hY⟩ : ∃ X Y : ByteArray, (∀ wx, Below w.heap.size w wx → Calls Tryd.prog 15 #[.slice a1 la.length c1] wx fun e w' => e = .returned (.string X) ∧ Below wx.heap.size wx w') ∧ (∀ wx, Below w.heap.size w wx → Calls Tryd.prog 15 #[.slice a2 lb.length c2] wx fun e w' => e = .returned (.string Y) ∧ Below wx.heap.size wx w') ∧
      (∀ wx a c, Src wx a c (la ++ lb) → Calls Tryd.prog 15 #[.slice a (la ++ lb).length c] wx fun e w' => e = .returned (.string (X ++ Y)) ∧ Below wx.heap.size wx w') ∧ X.size ≤ 3145728 ∧ Y.size ≤ 3145728 := by
    refine ⟨⟨(dcd la).toArray⟩, ⟨(dcd lb).toArray⟩, fun wx hb => ldecode_any a1 c1 la wx (h1.below hb) (by omega), fun wx hb => ldecode_any a2 c2 lb wx (h2.below hb) (by omega), fun wx a c hsr => ?_, by rw [size_mk]; have := (dcd_len la).2.1; omega, by rw [size_mk]; have := (dcd_len lb).2.1; omega⟩
    have := ldecode_any a c (la ++ lb) wx hsr (by simp only [List.length_append]; omega)
    rw [dcd_append la lb, app_mk] at this
    exact this
  obtain ⟨n, hn⟩ : ∃ n, la.length = n := ⟨_, rfl⟩
  obtain ⟨m, hm⟩ : ∃ m, lb.length = m := ⟨_, rfl⟩
  obtain ⟨q, hq⟩ : ∃ q, (la ++ lb).length = q := ⟨_, rfl⟩
  rw [hn] at hA hl1 ⊢
  rw [hm] at hB hl2 ⊢
  rw [hq] at hC
  have HN := Lib.hid hn
  have HM := Lib.hid hm
  have HQ := Lib.hid hq
  have GA := Lib.hid hA
  have GB := Lib.hid hB
  have GC : Hid (∀ wx a c, Src wx a c (la ++ lb) → Calls Tryd.prog 15 #[.slice a q c] wx fun e w' => e = .returned (.string (X ++ Y)) ∧ Below wx.heap.size wx w') := Lib.hid hC
  -- the text's first fault
  have hsl : s.data.toList.length = s.size := by simp
  obtain ⟨WF, cf, hcv, hwb, hws⟩ := conv_str' s (by omega)
  have hfa : ∀ wx : World, ∀ B, wx.heap.size = B → Calls Tryd.prog 23 #[.slice (some ⟨B, 0, none⟩) s.size (cf wx)] (WF wx) fun e w' => e = .returned (.int .i64 (flt s.data.toList)) ∧ Below wx.heap.size wx w' := fun wx B hB => by
    subst hB
    have hr := reffault_any (some ⟨wx.heap.size, 0, none⟩) (cf wx) s.data.toList (WF wx) (hws wx) (by omega)
    rw [hsl] at hr
    refine hr.mono ?_
    rintro e w' ⟨rfl, rfl⟩
    exact ⟨rfl, hwb wx⟩
  have HCV := Lib.hid hcv
  by_cases hfl : flt s.data.toList = s.size
  · have h3 := enc_three s t (ok_flt _ (by omega)) hs ht
    rw [hfl] at hfa
    have HFA := Lib.hid hfa
    clear h1 h2 hn hm hq hA hB hC hcv hfa hfl hws hsl hwb
    obtain ⟨n1, l1, o1, n2, l2, o2, n3, l3, R1, R2, hE1, hE2, hE3, hC1, hC2, hC3, hR1, hR2⟩ := h3
    have E1 := Lib.hid hE1
    have E2 := Lib.hid hE2
    have E3 := Lib.hid hE3
    have C1 := Lib.hid hC1
    have C2 := Lib.hid hC2
    have C3 := Lib.hid hC3
    clear hE1 hE2 hE3 hC1 hC2 hC3
    cases o1 <;> cases o2
    all_goals
      simp only [Bool.and_false, Bool.and_self, Bool.and_true] at E3 C3
      go_enter Tryd.func8, Tryd.ntmps8
      go_wp2_with fail
      refine (shown_any _).mono ?_; rintro e w1 ⟨rfl, hb⟩
      have hbase : w.heap.size ≤ w1.heap.size := hb.size
      have HB := Lib.hid hb
      have HE := Lib.hid (fun C hC => made_empty w1 w.heap.size hb.size C hC)
      clear hb
      go_wp2_with (at_builtin; refine app_bytes rfl _ _ rfl w.heap.size _ [] rfl (HE.out _ rfl) a1 c1 n la HN.out rfl ?s1 ?n1 ?b1 ?_)
      case s1 => exact H1.out.below (HB.out.alloc HB.out.size _)
      case n1 => have := HN.out; first | (simp only [List.length_nil]; omega) | omega
      case b1 => first | (simp; omega) | omega
      intro v2 w2 hown2 hb2 _
      have hown2 : w2.ownsRow w.heap.size 5 1 v2 la.length (Lib.byteCells la) := by simpa [OwnB] using hown2
      have HO2 := Lib.hid hown2
      have HB2 := Lib.hid ((HB.out.alloc HB.out.size _).trans hb2.out)
      clear hown2 hb2
      go_wp2_with (at_builtin; refine app_bytes rfl _ _ rfl w.heap.size _ la rfl HO2.out _ c2 m lb HM.out rfl ?s2 ?n2 ?b2 ?_)
      case s2 => exact H2.out.below HB2.out
      case n2 => have := HN.out; have := HM.out; omega
      case b2 => exact HB2.out.size
      intro v3 w3 hown3 hb3 _
      obtain ⟨a3, c3, rfl, _, hs3⟩ := own_src hown3
      have HB3 := Lib.hid (HB2.out.trans hb3.out)
      have HS3 := Lib.hid hs3
      have hq : (la ++ lb).length = q := HQ.out
      rw [hq]
      clear hown3 hb3 hs3 hq
      have hcv := HCV.out w3
      go_wp2_with fail
      clear hcv
      refine (HFA.out w3 _ rfl).mono ?_; rintro e w4 ⟨rfl, hb⟩
      have HB4 := Lib.hid (HB3.out.trans (hb.mono HB3.out.size))
      have HS4 := Lib.hid (HS3.out.below hb)
      clear hb
      go_wp2_with fail
      refine (E1.out w4).mono ?_; rintro e w5 ⟨a5, c5, rfl, hs5, hb⟩
      have HB5 := Lib.hid (HB4.out.trans (hb.mono HB4.out.size))
      have HS5 := Lib.hid (HS4.out.below hb)
      have P5 := Lib.hid hs5
      clear hb hs5
      go_wp2_with fail
      refine (E2.out w5).mono ?_; rintro e w6 ⟨a6, c6, rfl, hs6, hb⟩
      have HB6 := Lib.hid (HB5.out.trans (hb.mono HB5.out.size))
      have HS6 := Lib.hid (HS5.out.below hb)
      have P6 := Lib.hid (P5.out.below hb)
      have Q6 := Lib.hid hs6
      clear hb hs6
      go_wp2_with fail
      refine (E3.out w6).mono ?_; rintro e w7 ⟨a7, c7, rfl, hs7, hb⟩
      have HB7 := Lib.hid (HB6.out.trans (hb.mono HB6.out.size))
      have HS7 := Lib.hid (HS6.out.below hb)
      have k1 := C1.out w7 _ _ (P6.out.below hb)
      have k2 := C2.out w7 _ _ (Q6.out.below hb)
      first
        | have k3 := C3.out trivial w7 _ _ hs7
        | skip
      clear hb hs7
      go_wp2_with fail
      refine (GC.out w7 _ _ HS7.out).mono ?_; rintro e w8 ⟨rfl, hb⟩
      have HB8 := Lib.hid (HB7.out.trans (hb.mono HB7.out.size))
      clear hb
      go_wp2_with fail
      refine (GA.out _ HB8.out).mono ?_; rintro e w9 ⟨rfl, hb⟩
      have HB9 := Lib.hid (HB8.out.trans (hb.mono HB8.out.size))
      clear hb
      go_wp2_with fail
      refine (GB.out _ HB9.out).mono ?_; rintro e w10 ⟨rfl, hb⟩
      have HB10 := Lib.hid (HB9.out.trans (hb.mono HB9.out.size))
      clear hb
      go_wp2
      go_ret
      exact ⟨rfl, HB10.out⟩
  · have h3 := enc_three ⟨#[]⟩ t ok_nil (by decide) ht
    obtain ⟨f, hf⟩ : ∃ f, flt s.data.toList = f := ⟨_, rfl⟩
    rw [hf] at hfa hfl
    have g1 : ((f : Int) == (s.size : Int)) = false := by simp; omega
    have g2 : ((f : Int) != (s.size : Int)) = true := by simp; omega
    have HFA := Lib.hid hfa
    clear h1 h2 hn hm hq hA hB hC hcv hfa hfl hws hsl hwb hf
    obtain ⟨n1, l1, o1, n2, l2, o2, n3, l3, R1, R2, hE1, hE2, hE3, hC1, hC2, hC3, hR1, hR2⟩ := h3
    have E1 := Lib.hid hE1
    have E2 := Lib.hid hE2
    have E3 := Lib.hid hE3
    have C1 := Lib.hid hC1
    have C2 := Lib.hid hC2
    have C3 := Lib.hid hC3
    clear hE1 hE2 hE3 hC1 hC2 hC3
    cases o1 <;> cases o2
    all_goals
      simp only [Bool.and_false, Bool.and_self, Bool.and_true] at E3 C3
      go_enter Tryd.func8, Tryd.ntmps8
      go_wp2_with fail
      refine (shown_any _).mono ?_; rintro e w1 ⟨rfl, hb⟩
      have hbase : w.heap.size ≤ w1.heap.size := hb.size
      have HB := Lib.hid hb
      have HE := Lib.hid (fun C hC => made_empty w1 w.heap.size hb.size C hC)
      clear hb
      go_wp2_with (at_builtin; refine app_bytes rfl _ _ rfl w.heap.size _ [] rfl (HE.out _ rfl) a1 c1 n la HN.out rfl ?s1 ?n1 ?b1 ?_)
      case s1 => exact H1.out.below (HB.out.alloc HB.out.size _)
      case n1 => have := HN.out; first | (simp only [List.length_nil]; omega) | omega
      case b1 => first | (simp; omega) | omega
      intro v2 w2 hown2 hb2 _
      have hown2 : w2.ownsRow w.heap.size 5 1 v2 la.length (Lib.byteCells la) := by simpa [OwnB] using hown2
      have HO2 := Lib.hid hown2
      have HB2 := Lib.hid ((HB.out.alloc HB.out.size _).trans hb2.out)
      clear hown2 hb2
      go_wp2_with (at_builtin; refine app_bytes rfl _ _ rfl w.heap.size _ la rfl HO2.out _ c2 m lb HM.out rfl ?s2 ?n2 ?b2 ?_)
      case s2 => exact H2.out.below HB2.out
      case n2 => have := HN.out; have := HM.out; omega
      case b2 => exact HB2.out.size
      intro v3 w3 hown3 hb3 _
      obtain ⟨a3, c3, rfl, _, hs3⟩ := own_src hown3
      have HB3 := Lib.hid (HB2.out.trans hb3.out)
      have HS3 := Lib.hid hs3
      have hq : (la ++ lb).length = q := HQ.out
      rw [hq]
      clear hown3 hb3 hs3 hq
      have hcv := HCV.out w3
      go_wp2_with fail
      clear hcv
      refine (HFA.out w3 _ rfl).mono ?_; rintro e w4 ⟨rfl, hb⟩
      have HB4 := Lib.hid (HB3.out.trans (hb.mono HB3.out.size))
      have HS4 := Lib.hid (HS3.out.below hb)
      clear hb
      go_wp2_with fail
      refine (E1.out w4).mono ?_; rintro e w5 ⟨a5, c5, rfl, hs5, hb⟩
      have HB5 := Lib.hid (HB4.out.trans (hb.mono HB4.out.size))
      have HS5 := Lib.hid (HS4.out.below hb)
      have P5 := Lib.hid hs5
      clear hb hs5
      go_wp2_with fail
      refine (E2.out w5).mono ?_; rintro e w6 ⟨a6, c6, rfl, hs6, hb⟩
      have HB6 := Lib.hid (HB5.out.trans (hb.mono HB5.out.size))
      have HS6 := Lib.hid (HS5.out.below hb)
      have P6 := Lib.hid (P5.out.below hb)
      have Q6 := Lib.hid hs6
      clear hb hs6
      go_wp2_with fail
      refine (E3.out w6).mono ?_; rintro e w7 ⟨a7, c7, rfl, hs7, hb⟩
      have HB7 := Lib.hid (HB6.out.trans (hb.mono HB6.out.size))
      have HS7 := Lib.hid (HS6.out.below hb)
      have k1 := C1.out w7 _ _ (P6.out.below hb)
      have k2 := C2.out w7 _ _ (Q6.out.below hb)
      first
        | have k3 := C3.out trivial w7 _ _ hs7
        | skip
      clear hb hs7
      go_wp2_with fail
      refine (GC.out w7 _ _ HS7.out).mono ?_; rintro e w8 ⟨rfl, hb⟩
      have HB8 := Lib.hid (HB7.out.trans (hb.mono HB7.out.size))
      clear hb
      go_wp2_with fail
      refine (GA.out _ HB8.out).mono ?_; rintro e w9 ⟨rfl, hb⟩
      have HB9 := Lib.hid (HB8.out.trans (hb.mono HB8.out.size))
      clear hb
      go_wp2_with fail
      refine (GB.out _ HB9.out).mono ?_; rintro e w10 ⟨rfl, hb⟩
      have HB10 := Lib.hid (HB9.out.trans (hb.mono HB9.out.size))
      clear hb
      go_wp2
      go_ret
      exact ⟨rfl, HB10.out⟩
end Go.Proofs.YtagmjbjgphhlcaaDoor
