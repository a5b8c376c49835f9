/- The document's answer: hop, Keeps; the same requests and responses. -/
import Derived.Test.YthkgaaibhjkngaaGreatDoorZA
import Derived.Test.YthkgaaibhjkngaaGreatDoorHH
set_option linter.unusedVariables false
namespace Go.Proofs.YthkgaaibhjkngaaGreatDoor
open Go.RowKit

set_option maxHeartbeats 8000000 in
set_option maxRecDepth 100000 in
theorem rhop_any (l : AL) (a : Option Addr) (n c : Nat) (w : World) (hn : l.length = n) (hs : SrcA w a c l) (hz : asz l ≤ 16777216) :
    Calls Tryz.prog 55 #[.slice a n c] w (StrsSays (hopF l) w) := by
  obtain ⟨wA, hA⟩ : ∃ wA, wA = w.alloc (.cells #[.string ⟨#[67, 111, 110, 110, 101, 99, 116, 105, 111, 110]⟩, .string ⟨#[75, 101, 101, 112, 45, 65, 108, 105, 118, 101]⟩, .string ⟨#[80, 114, 111, 120, 121, 45, 67, 111, 110, 110, 101, 99, 116, 105, 111, 110]⟩, .string ⟨#[84, 69]⟩, .string ⟨#[84, 114, 97, 105, 108, 101, 114]⟩, .string ⟨#[84, 114, 97, 110, 115, 102, 101, 114, 45, 69, 110, 99, 111, 100, 105, 110, 103]⟩, .string ⟨#[85, 112, 103, 114, 97, 100, 101]⟩, .string ⟨#[67, 111, 110, 116, 101, 110, 116, 45, 76, 101, 110, 103, 116, 104]⟩] 9) := ⟨_, rfl⟩
  have hbA : Below w.heap.size w wA := by rw [hA]; exact (Below.refl _ _).alloc (Nat.le_refl _) _
  have hm := rMembers_any l ⟨#[99, 111, 110, 110, 101, 99, 116, 105, 111, 110]⟩ a n c wA hn (hs.below (Nat.le_refl _) hbA) (by omega) (by decide)
  have hz2 := memsF_bsz l ⟨#[99, 111, 110, 110, 101, 99, 116, 105, 111, 110]⟩
  have hF : hopF l = hop8 ++ (memsF l ⟨#[99, 111, 110, 110, 101, 99, 116, 105, 111, 110]⟩).filter fun m => !sameB m kHost := rfl
  have ho : OwnS wA w.heap.size (.slice (some ⟨w.heap.size, 0, none⟩) 8 8) hop8 := by rw [hA]; exact lit_ownS w w.heap.size hop8 _ rfl (Nat.le_refl _) (by decide)
  obtain ⟨R, hR⟩ : ∃ R, R = hopF l := ⟨_, rfl⟩
  rw [← hR] at hF ⊢
  have hMS : memsF l ⟨#[99, 111, 110, 110, 101, 99, 116, 105, 111, 110]⟩ = match memF (allF l ⟨#[99, 111, 110, 110, 101, 99, 116, 105, 111, 110]⟩) with | none => [] | some ms => ms.map mk := rfl
  have hgA : w.heap.size < wA.heap.size := by rw [hA]; simp
  have HA := Lib.hid hA
  have HBA := Lib.hid hbA
  have h8 : hop8.length = 8 := rfl
  generalize hop8 = T at hF ho h8
  have HO := Lib.hid ho
  have H8 := Lib.hid h8
  clear ho hA hbA hn hs hR h8
  cases q : memF (allF l ⟨#[99, 111, 110, 110, 101, 99, 116, 105, 111, 110]⟩) with
  | none =>
    rw [q] at hm hMS
    have HF : Hid (R = T) := Lib.hid (by rw [hF, hMS]; simp)
    have HM : Hid (Calls Tryz.prog 62 #[.slice a n c, .string ⟨#[99, 111, 110, 110, 101, 99, 116, 105, 111, 110]⟩] wA fun e w' => Below wA.heap.size wA w' ∧ e = .returned (.tuple #[.slice none 0 0, .int .i64 5])) := Lib.hid hm
    clear hm hF hMS hz2 hz q
    go_enter Tryz.func55, Tryz.ntmps55
    go_wp2_with fail
    rw [← HA.out]
    refine HM.out.mono ?_; rintro e w1 ⟨hb, rfl⟩
    have HB1 : Hid (Below w.heap.size w w1) := Lib.hid (HBA.out.trans (hb.mono HBA.out.size))
    have HO1 := Lib.hid (ownS_below HO.out hb)
    clear hb
    go_wp2
    go_ret
    exact strsSays HB1.out (by rw [HF.out]; exact HO1.out)
  | some ms =>
    rw [q] at hm hMS
    dsimp only at hMS
    rw [hMS] at hF hz2
    have hm' : Calls Tryz.prog 62 #[.slice a n c, .string ⟨#[99, 111, 110, 110, 101, 99, 116, 105, 111, 110]⟩] wA fun e w' => Below wA.heap.size wA w' ∧ ∃ v, e = .returned (.tuple #[v, .int .i64 0]) ∧ OwnS w' wA.heap.size v (ms.map mk) := hm
    generalize ms.map mk = L at hF hz2 hm'
    have HM := Lib.hid hm'
    have HF := Lib.hid hF
    have HZ := Lib.hid (Nat.le_trans hz2 hz)
    clear hm hm' hF hMS hz2 hz q
    go_enter Tryz.func55, Tryz.ntmps55
    go_wp2_with fail
    rw [← HA.out]
    refine HM.out.mono ?_; rintro e w1 ⟨hb, v, rfl, hown⟩
    obtain ⟨a1, c1, hv, hsrc, hfar⟩ := ownS_far hown
    have hnl := bsz_len L
    have hz := HZ.out
    obtain ⟨n1, hn1⟩ : ∃ n1, L.length = n1 := ⟨_, rfl⟩
    rw [hn1] at hv hnl
    subst hv
    have hnb : n1 ≤ 16777216 := by omega
    have HB1 : Hid (Below w.heap.size w w1) := Lib.hid (HBA.out.trans (hb.mono HBA.out.size))
    have HO1 := Lib.hid (ownS_below HO.out hb)
    have HS1 := Lib.hid hsrc
    have HN := Lib.hid hn1
    have HFR := Lib.hid hfar
    have hw1 : wA.heap.size ≤ w1.heap.size := hb.size
    clear hb hown hsrc hn1 hnl hz hfar
    go_wp2_with fail
    go_loopw [3, 6] (fun v i wr => ∃ k : Nat, k ≤ n1 ∧ i = .int .i64 k ∧ OwnS wr w.heap.size v (T ++ (L.take k).filter fun m => !sameB m kHost) ∧ SrcS wr a1 c1 L ∧ (∀ b o, a1 = some ⟨b, o, none⟩ → b < wr.heap.size ∧ v.ownBlock ≠ some b) ∧ Below w.heap.size w wr) (fun _ i _ => n1 - (intOf i).toNat)
    case atStart => exact ⟨0, by omega, rfl, by simpa using HO1.out, HS1.out, fun b o e => ⟨(HFR.out b o e).2, fun h => by have := (HFR.out b o e).1; simp [Value.ownBlock] at h; omega⟩, HB1.out⟩
    case round =>
      obtain ⟨k, hk, rfl, hown, hsr, hfr, hb⟩ := hrel
      have HB := Lib.hid hb
      have HSR := Lib.hid hsr
      have HFR2 := Lib.hid hfr
      by_cases hlt : k < n1
      case neg =>
        have hkn : k = L.length := by rw [HN.out]; omega
        rw [hkn, List.take_length, ← HF.out] at hown
        have HO := Lib.hid hown
        obtain ⟨a3, c3, hv3, _⟩ := ownS_src hown
        subst hv3
        clear hb hown hkn hsr hfr
        go_wp2
        go_ret
        exact strsSays HB.out HO.out
      case pos =>
        have hkl : k < L.length := by rw [HN.out]; exact hlt
        obtain ⟨b0, o0, rfl, hb0, d1⟩ := hsr.at_ k hkl
        have hat := bsz_at L k hkl
        have hz := HZ.out
        have hstep := filt_take (fun m => !sameB m kHost) L k hkl
        have hcl : ((L.take k).filter fun m => !sameB m kHost).length ≤ k := by
          have := List.length_filter_le (fun m => !sameB m kHost) (L.take k)
          rw [List.length_take] at this; omega
        generalize L[k] = Nm at d1 hat hstep
        obtain ⟨cur, hcur⟩ : ∃ cur, (L.take k).filter (fun m => !sameB m kHost) = cur := ⟨_, rfl⟩
        rw [hcur] at hstep hcl hown
        have hsm : ∀ wx, Calls Tryz.prog 63 #[.string Nm, .string ⟨#[104, 111, 115, 116]⟩] wx fun e w' => e = .returned (.bool (sameB Nm kHost)) ∧ Below wx.heap.size wx w' := fun wx => rSame_any Nm ⟨#[104, 111, 115, 116]⟩ wx (by omega) (by decide)
        have HO := Lib.hid hown
        cases q : sameB Nm kHost with
        | true =>
          rw [q] at hsm hstep
          simp only [Bool.not_true, Bool.false_eq_true, if_false, List.append_nil] at hstep
          have HSM := Lib.hid hsm
          have HST := Lib.hid hstep
          clear hsm hstep q hcur hkl hown hb hat hz hcl hsr hfr
          go_wp2_with fail
          refine (HSM.out _).mono ?_; rintro e w2 ⟨rfl, hb⟩
          have HB2 : Hid (Below w.heap.size w w2) := Lib.hid (HB.out.trans (hb.mono HB.out.size))
          have HO2 : Hid (OwnS w2 w.heap.size _ (T ++ (L.take (k + 1)).filter fun m => !sameB m kHost)) := Lib.hid (by rw [HST.out]; exact ownS_below HO.out hb)
          have HS2 := Lib.hid (HSR.out.below hb)
          have HF2 := Lib.hid (fun b o e => show b < w2.heap.size ∧ _ from ⟨Nat.lt_of_lt_of_le (HFR2.out b o e).1 hb.size, (HFR2.out b o e).2⟩)
          clear hb
          go_wp2
          go_roundw
          case rel => exact ⟨k + 1, by omega, by go_num, HO2.out, HS2.out, HF2.out, HB2.out⟩
          case measure => simp [intOf]; omega
        | false =>
          rw [q] at hsm hstep
          simp only [Bool.not_false, if_true] at hstep
          have HSM := Lib.hid hsm
          have HST := Lib.hid hstep
          clear hsm hstep q hcur hkl hown hb hat hz hsr hfr
          go_wp2_with fail
          refine (HSM.out _).mono ?_; rintro e w2 ⟨rfl, hb⟩
          have HB2 : Hid (Below w.heap.size w w2) := Lib.hid (HB.out.trans (hb.mono HB.out.size))
          have HO2 : Hid (OwnS (w2.alloc (.cells #[.string Nm] 9)) w.heap.size _ (T ++ cur)) := Lib.hid (ownS_alloc (ownS_below HO.out hb) _)
          have HS2 : Hid (SrcS (w2.alloc (.cells #[.string Nm] 9)) _ c1 L) := Lib.hid ((HSR.out.below hb).below ((Below.refl _ _).alloc (Nat.le_refl _) _))
          have HF2 := Lib.hid (fun b o e => show b < w2.heap.size ∧ _ from ⟨Nat.lt_of_lt_of_le (HFR2.out b o e).1 hb.size, (HFR2.out b o e).2⟩)
          have HZ2 : Hid (w.heap.size ≤ (w2.alloc (.cells #[.string Nm] 9)).heap.size) := Lib.hid (by have := HB2.out.size; simp; omega)
          have d3 := (hb.cell (p := ⟨b0, o0 + k, none⟩) hb0).trans d1
          have HTL : Hid ((T ++ cur).length ≤ 16777300) := Lib.hid (by rw [List.length_append, H8.out]; omega)
          clear hb hcl
          go_wp2_with (at_builtin; refine app_str_at rfl _ _ rfl w.heap.size _ (T ++ cur) rfl HO2.out _ Nm rfl (lit_str Nm w2) ?n2 HZ2.out ?_)
          case n2 => have := HTL.out; omega
          intro v3 w3 hown3 hb3 hg3 hat3
          have HO3 : Hid (OwnS w3 w.heap.size v3 (T ++ (L.take (k + 1)).filter fun m => !sameB m kHost)) := Lib.hid (by rw [HST.out]; exact hown3)
          have HB3 : Hid (Below w.heap.size w w3) := Lib.hid ((HB2.out.alloc HB2.out.size _).trans hb3.out)
          have HS3 := Lib.hid (srcS_grown HS2.out hg3.out (fun b o e => (HF2.out b o e).2))
          have HF3 := Lib.hid (fun b o e => show b < w3.heap.size ∧ v3.ownBlock ≠ some b from ⟨by
            have h1 := (HF2.out b o e).1
            have h2 := hg3.out.size
            simp at h2; omega, by
            rcases hat3 with h | h
            · rw [h]; exact (HF2.out b o e).2
            · rw [h]; have h1 := (HF2.out b o e).1; simp; omega⟩)
          clear hown3 hb3 hg3 hat3
          go_wp2
          go_roundw
          case rel => exact ⟨k + 1, by omega, by go_num, HO3.out, HS3.out, HF3.out, HB3.out⟩
          case measure => simp [intOf]; omega


set_option maxHeartbeats 8000000 in
theorem rkeeps_any (l : AL) (a : Option Addr) (n c : Nat) (w : World) (hn : l.length = n) (hs : SrcA w a c l) (hz : asz l ≤ 16777216) :
    Calls Tryz.prog 20 #[.slice a n c] w fun e w' => e = .returned (.bool (keepsF l)) ∧ Below w.heap.size w w' := by
  have hm := rMembers_any l ⟨#[99, 111, 110, 110, 101, 99, 116, 105, 111, 110]⟩ a n c w hn hs (by omega) (by decide)
  have hbz := allF_bsz l ⟨#[99, 111, 110, 110, 101, 99, 116, 105, 111, 110]⟩
  have hF : keepsF l = match memF (allF l ⟨#[99, 111, 110, 110, 101, 99, 116, 105, 111, 110]⟩) with | none => false | some ms => !(ms.map mk).any isClos := rfl
  obtain ⟨R, hR⟩ : ∃ R, keepsF l = R := ⟨_, rfl⟩
  rw [hR] at hF ⊢
  have HS0 := Lib.hid hs
  cases q : memF (allF l ⟨#[99, 111, 110, 110, 101, 99, 116, 105, 111, 110]⟩) with
  | none =>
    rw [q] at hm hF
    have HM : Hid (Calls Tryz.prog 62 #[.slice a n c, .string ⟨#[99, 111, 110, 110, 101, 99, 116, 105, 111, 110]⟩] w fun e w' => Below w.heap.size w w' ∧ e = .returned (.tuple #[.slice none 0 0, .int .i64 5])) := Lib.hid hm
    have HF := Lib.hid hF
    clear hm hF hbz hz q hR hs hn
    go_enter Tryz.func20, Tryz.ntmps20
    go_wp2_with fail
    refine HM.out.mono ?_; rintro e w1 ⟨hb, rfl⟩
    have HB := Lib.hid hb
    clear hb
    go_wp2
    go_ret
    exact ⟨ret_bool HF.out.symm, HB.out⟩
  | some ms =>
    rw [q] at hm hF
    dsimp only at hF
    have hml := memF_msz (allF l ⟨#[99, 111, 110, 110, 101, 99, 116, 105, 111, 110]⟩) ms q
    rw [← bsz_mk] at hml
    have hm' : Calls Tryz.prog 62 #[.slice a n c, .string ⟨#[99, 111, 110, 110, 101, 99, 116, 105, 111, 110]⟩] w fun e w' => Below w.heap.size w w' ∧ ∃ v, e = .returned (.tuple #[v, .int .i64 0]) ∧ OwnS w' w.heap.size v (ms.map mk) := hm
    generalize ms.map mk = L at hF hml hm'
    have hbad : ∀ k (hk : k < L.length), isClos L[k] = true → R = false := fun k hk h => by
      rw [hF]
      have : L.any isClos = true := List.any_eq_true.2 ⟨_, List.getElem_mem hk, h⟩
      rw [this]; rfl
    have hgood : (∀ k (hk : k < L.length), isClos L[k] = false) → R = true := fun h => by
      rw [hF]
      have : L.any isClos = false := by
        rw [List.any_eq_false]
        intro x hx
        obtain ⟨i, hi, rfl⟩ := List.getElem_of_mem hx
        rw [h i hi]; simp
      rw [this]; rfl
    have HM := Lib.hid hm'
    have HBD := Lib.hid hbad
    have HGD := Lib.hid hgood
    have HZ : Hid (bsz L ≤ 16777216) := Lib.hid (by omega)
    clear hm hm' hF hbz hz q hR hs hn hml hbad hgood
    go_enter Tryz.func20, Tryz.ntmps20
    go_wp2_with fail
    refine HM.out.mono ?_; rintro e w1 ⟨hb, v, rfl, hown⟩
    obtain ⟨a1, c1, hv, hsrc⟩ := ownS_src hown
    have hnl := bsz_len L
    have hz := HZ.out
    obtain ⟨n1, hn1⟩ : ∃ n1, L.length = n1 := ⟨_, rfl⟩
    rw [hn1] at hv hnl
    subst hv
    have hnb : n1 ≤ 16777216 := by omega
    have HB1 := Lib.hid hb
    have HS1 := Lib.hid hsrc
    have HN := Lib.hid hn1
    clear hb hown hsrc hn1 hnl hz
    go_wp2_with fail
    go_loopw [5] (fun i wr => ∃ k : Nat, k ≤ n1 ∧ i = .int .i64 k ∧ (∀ j (hj : j < L.length), j < k → isClos L[j] = false) ∧ Below w1.heap.size w1 wr) (fun i _ => n1 - (intOf i).toNat)
    case atStart => exact ⟨0, by omega, rfl, fun j _ h => by omega, Below.refl _ _⟩
    case round =>
      obtain ⟨k, hk, rfl, hall, hb⟩ := hrel
      have HB := Lib.hid hb
      have HAL := Lib.hid hall
      by_cases hlt : k < n1
      case neg =>
        have HV := Lib.hid (HGD.out fun j hj => hall j hj (by have := HN.out; omega))
        have HBW : Hid (Below w.heap.size w wr) := Lib.hid (HB1.out.trans (hb.mono HB1.out.size))
        clear hall hb
        go_wp2
        go_ret
        exact ⟨ret_bool HV.out.symm, HBW.out⟩
      case pos =>
        have hkl : k < L.length := by rw [HN.out]; exact hlt
        obtain ⟨b0, o0, rfl, hb0, d1⟩ := srcS_at HS1.out k hkl hb
        have hat := bsz_at L k hkl
        have hz := HZ.out
        have HX : Hid (isClos L[k] = false → ∀ j (hj : j < L.length), j < k + 1 → isClos L[j] = false) := Lib.hid fun h j hj hjk => by
          by_cases e : j = k
          · subst e; exact h
          · exact hall j hj (by omega)
        have HF := Lib.hid (HBD.out k hkl)
        generalize L[k] = Nm at d1 hat HX HF
        have hsm : ∀ wx, Calls Tryz.prog 63 #[.string Nm, .string ⟨#[99, 108, 111, 115, 101]⟩] wx fun e w' => e = .returned (.bool (isClos Nm)) ∧ Below wx.heap.size wx w' := fun wx => rSame_any Nm ⟨#[99, 108, 111, 115, 101]⟩ wx (by omega) (by decide)
        clear hall hb hat hz hkl
        generalize isClos Nm = t at hsm HX HF
        have HSM := Lib.hid hsm
        clear hsm
        cases t
        · go_wp2_with fail
          refine (HSM.out _).mono ?_; rintro e w2 ⟨rfl, hb⟩
          have HB2 := Lib.hid (HB.out.trans (hb.mono HB.out.size))
          clear hb
          go_wp2
          go_roundw
          case rel => exact ⟨k + 1, by omega, by go_num, HX.out (by simp), HB2.out⟩
          case measure => simp [intOf]; omega
        · go_wp2_with fail
          refine (HSM.out _).mono ?_; rintro e w2 ⟨rfl, hb⟩
          have HB2 := Lib.hid (HB.out.trans (hb.mono HB.out.size))
          have HBW : Hid (Below w.heap.size w w2) := Lib.hid (HB1.out.trans (HB2.out.mono HB1.out.size))
          clear hb
          go_wp2
          go_ret
          exact ⟨ret_bool (HF.out (by simp)).symm, HBW.out⟩

set_option maxHeartbeats 4000000 in
theorem sameReq_eq (x : ByteArray) (y : ByteArray) (l : AL) (a1 a2 : Option Addr) (n c1 c2 : Nat) (w : World) (hn : l.length = n) (h1 : SrcA w a1 c1 l) (h2 : SrcA w a2 c2 l) (hb : n ≤ 16777300) :
    Calls Tryz.prog 18 #[.agg #[.string x, .string y, .slice a1 n c1], .agg #[.string x, .string y, .slice a2 n c2]] w fun e w' => e = .returned (.bool true) ∧ Below w.heap.size w w' := by
  obtain ⟨wb, hwb⟩ : ∃ wb, wb = (w.alloc (.cells #[.string x, .string y, .slice a1 n c1] 24)).alloc (.cells #[.string x, .string y, .slice a2 n c2] 24) := ⟨_, rfl⟩
  have ht : Two w wb (.string x) (.string y) (.slice a1 n c1) (.string x) (.string y) (.slice a2 n c2) := by rw [hwb]; exact two_new ..
  have HWB := Lib.hid hwb
  have HB0 := Lib.hid ht.below
  have HS := Lib.hid (rfSame_eq a1 a2 n c1 c2 l wb hn (h1.below (Nat.le_refl _) ht.below) (h2.below (Nat.le_refl _) ht.below) (by omega))
  have HT := Lib.hid ht
  obtain ⟨c0, c1', c2', x0, x1, x2, _⟩ := ht.keep (Below.refl _ _)
  clear hwb ht h1 h2 hn
  go_enter Tryz.func18, Tryz.ntmps18
  go_wp2_with fail
  rw [← HWB.out]
  go_wp2_with fail
  refine HS.out.mono ?_; rintro e w1 ⟨rfl, hb⟩
  obtain ⟨d0, d1, d2, z0, z1, z2, _⟩ := HT.out.keep hb
  have HB1 : Hid (Below w.heap.size w w1) := Lib.hid (HB0.out.trans (hb.mono HB0.out.size))
  clear hb c0 c1' c2' x0 x1 x2
  go_wp2
  go_ret
  exact ⟨ret_bool (by simp), HB1.out⟩

set_option maxHeartbeats 4000000 in
theorem sameResp_eq (x : Int) (y : ByteArray) (l : AL) (a1 a2 : Option Addr) (n c1 c2 : Nat) (w : World) (hn : l.length = n) (h1 : SrcA w a1 c1 l) (h2 : SrcA w a2 c2 l) (hb : n ≤ 16777300) :
    Calls Tryz.prog 24 #[.agg #[.int .i64 x, .string y, .slice a1 n c1], .agg #[.int .i64 x, .string y, .slice a2 n c2]] w fun e w' => e = .returned (.bool true) ∧ Below w.heap.size w w' := by
  obtain ⟨wb, hwb⟩ : ∃ wb, wb = (w.alloc (.cells #[.int .i64 x, .string y, .slice a1 n c1] 26)).alloc (.cells #[.int .i64 x, .string y, .slice a2 n c2] 26) := ⟨_, rfl⟩
  have ht : Two w wb (.int .i64 x) (.string y) (.slice a1 n c1) (.int .i64 x) (.string y) (.slice a2 n c2) := by rw [hwb]; exact two_new ..
  have HWB := Lib.hid hwb
  have HB0 := Lib.hid ht.below
  have HS := Lib.hid (rfSame_eq a1 a2 n c1 c2 l wb hn (h1.below (Nat.le_refl _) ht.below) (h2.below (Nat.le_refl _) ht.below) (by omega))
  have HT := Lib.hid ht
  obtain ⟨c0, c1', c2', x0, x1, x2, _⟩ := ht.keep (Below.refl _ _)
  clear hwb ht h1 h2 hn
  go_enter Tryz.func24, Tryz.ntmps24
  go_wp2_with fail
  rw [← HWB.out]
  go_wp2_with fail
  refine HS.out.mono ?_; rintro e w1 ⟨rfl, hb⟩
  obtain ⟨d0, d1, d2, z0, z1, z2, _⟩ := HT.out.keep hb
  have HB1 : Hid (Below w.heap.size w w1) := Lib.hid (HB0.out.trans (hb.mono HB0.out.size))
  clear hb c0 c1' c2' x0 x1 x2
  go_wp2
  go_ret
  exact ⟨ret_bool (by simp), HB1.out⟩
end Go.Proofs.YthkgaaibhjkngaaGreatDoor
