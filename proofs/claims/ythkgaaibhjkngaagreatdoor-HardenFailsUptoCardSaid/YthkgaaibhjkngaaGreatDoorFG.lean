/- Fields: the document's answers: Value, Right, Text, All, Members. -/
import Derived.Test.YthkgaaibhjkngaaGreatDoorFF
set_option linter.unusedVariables false
namespace Go.Proofs.YthkgaaibhjkngaaGreatDoor
open Go.RowKit

set_option maxHeartbeats 4000000 in
theorem rValue_any (X : ByteArray) (w : World) (hs : X.size ≤ 9223372036854775807) :
    Calls Tryz.prog 90 #[.string X] w fun e w' => e = .returned (.bool (okV X)) ∧ Below w.heap.size w w' := by
  have hq := fun wx => rQuotable_any X wx hs
  have htr := fun wx => rTrim_any X wx hs
  have hT : (mk (trim X.data.toList) = X) = (trim X.data.toList = X.data.toList) := by
    rw [eq_iff_iff]
    exact ⟨fun h => by have := congrArg (fun Z : ByteArray => Z.data.toList) h; rw [mk_list] at this; exact this, fun h => by rw [h]; exact mk_data X⟩
  have hv : okV X = (X.data.toList.all qb && decide (mk (trim X.data.toList) = X)) := by unfold okV; simp only [hT]
  obtain ⟨T, hTd⟩ : ∃ T, T = mk (trim X.data.toList) := ⟨_, rfl⟩
  have htr2 : ∀ wx, Calls Tryz.prog 119 #[.string X] wx fun e w' => e = .returned (.string T) ∧ wx = w' := by rw [hTd]; exact htr
  rw [← hTd] at hv
  generalize okV X = r at hv ⊢
  cases q : X.data.toList.all qb with
  | false =>
    rw [q] at hq hv
    have HV : Hid (r = false) := Lib.hid (by rw [hv]; rfl)
    have HQ := Lib.hid hq
    clear hq htr htr2 hv hT hTd q
    go_enter Tryz.func90, Tryz.ntmps90
    go_wp2_with fail
    refine (HQ.out _).mono ?_; rintro e w1 ⟨rfl, rfl⟩
    go_wp2
    go_ret
    exact ⟨ret_bool HV.out.symm, Below.refl _ _⟩
  | true =>
    rw [q] at hq hv
    have HQ := Lib.hid hq
    have HT := Lib.hid htr2
    by_cases f : T = X
    · subst f
      have HV : Hid (r = true) := Lib.hid (by rw [hv]; simp)
      clear hq htr htr2 hv hT hTd q
      go_enter Tryz.func90, Tryz.ntmps90
      go_wp2_with fail
      refine (HQ.out _).mono ?_; rintro e w1 ⟨rfl, rfl⟩
      go_wp2_with fail
      refine (HT.out _).mono ?_; rintro e w1 ⟨rfl, rfl⟩
      go_wp2
      go_ret
      exact ⟨ret_bool HV.out.symm, Below.refl _ _⟩
    · have HV : Hid (r = false) := Lib.hid (by rw [hv]; simp [f])
      have f2 : (T.toList == X.toList) = false := by
        rw [toList_data', toList_data']
        simp; intro h; exact f (by apply ByteArray.ext; rw [← Array.toArray_toList (xs := T.data), h])
      clear hq htr htr2 hv hT hTd q f
      go_enter Tryz.func90, Tryz.ntmps90
      go_wp2_with fail
      refine (HQ.out _).mono ?_; rintro e w1 ⟨rfl, rfl⟩
      go_wp2_with fail
      refine (HT.out _).mono ?_; rintro e w1 ⟨rfl, rfl⟩
      go_wp2
      go_ret
      exact ⟨ret_bool HV.out.symm, Below.refl _ _⟩

set_option maxHeartbeats 8000000 in
set_option maxRecDepth 100000 in
theorem rRight_any (l : AL) (av : Option Addr) (n c : Nat) (w : World) (hn : l.length = n) (hs : SrcA w av c l) (hz : asz l ≤ 1073741824) :
    Calls Tryz.prog 48 #[.slice av n c] w (RgtSays (rgt l) w) := by
  obtain ⟨R, hR⟩ : ∃ R, R = rgt l := ⟨_, rfl⟩
  rw [← hR]
  unfold rgt at hR
  have hnl := asz_len l
  by_cases h32 : 32 < l.length
  · have HV : Hid (R = (32, 18)) := Lib.hid (by rw [hR, if_pos h32])
    have g : 32 < n := by omega
    clear hR hs hz hn h32 hnl
    go_enter Tryz.func48, Tryz.ntmps48
    go_wp2
    go_ret2
    exact rgtSays HV.out rfl rfl (Below.refl _ _)
  · have HV : Hid (R = rgtF (l.drop 0) 0) := Lib.hid (by rw [hR, if_neg h32]; rfl)
    have g : ¬ 32 < n := by omega
    have HS := Lib.hid hs
    have HZ := Lib.hid hz
    have HN := Lib.hid hn
    clear hR hs hz hn h32 hnl
    go_enter Tryz.func48, Tryz.ntmps48
    go_wp2_with fail
    go_loopw [4] (fun i wr => ∃ k : Nat, k ≤ n ∧ i = .int .i64 k ∧ R = rgtF (l.drop k) k ∧ Below w.heap.size w wr) (fun i _ => n - (intOf i).toNat)
    case atStart => exact ⟨0, by omega, rfl, HV.out, Below.refl _ _⟩
    case round =>
      obtain ⟨k, hk, rfl, hR, hb⟩ := hrel
      have HB := Lib.hid hb
      by_cases hlt : k < n
      · have hkl : k < l.length := by rw [HN.out]; exact hlt
        obtain ⟨b0, o0, rfl, hb0, d1, d2⟩ := srcA_at HS.out k hkl hb
        have hat := asz_at l k hkl
        have hz := HZ.out
        have r1 := rgtF_name l k hkl
        have r2 := rgtF_value l k hkl
        have r3 := rgtF_next l k hkl
        obtain ⟨p, hp⟩ : ∃ p, p = l[k] := ⟨_, rfl⟩
        rw [← hp] at d1 d2 hat r1 r2 r3
        obtain ⟨Nm, hNm⟩ : ∃ Nm, p.1 = Nm := ⟨_, rfl⟩
        obtain ⟨Vl, hVl⟩ : ∃ Vl, p.2 = Vl := ⟨_, rfl⟩
        rw [hNm] at d1 hat r1 r2 r3
        rw [hVl] at d2 hat r2 r3
        have ht : ∀ wx, Calls Tryz.prog 89 #[.string Nm] wx fun e w' => e = .returned (.bool (okN Nm)) ∧ wx = w' := fun wx => rToken_any Nm wx (by omega)
        have hv := fun wx => rValue_any Vl wx (by omega)
        cases q1 : okN Nm with
        | false =>
          rw [q1] at ht
          have HT := Lib.hid ht
          have HV2 := Lib.hid (hR.trans (r1 q1))
          clear r1 r2 r3 ht hv q1 hp hNm hVl hkl hR hb hat hz
          go_wp2_with fail
          refine (HT.out _).mono ?_; rintro e w1 ⟨rfl, rfl⟩
          go_wp2
          go_ret2
          exact rgtSays HV2.out rfl rfl HB.out
        | true =>
          rw [q1] at ht
          have HT := Lib.hid ht
          cases q2 : okV Vl with
          | false =>
            rw [q2] at hv
            have HVV := Lib.hid hv
            have HV2 := Lib.hid (hR.trans (r2 q1 q2))
            clear r1 r2 r3 ht hv q1 q2 hp hNm hVl hkl hR hb hat hz
            go_wp2_with fail
            refine (HT.out _).mono ?_; rintro e w1 ⟨rfl, rfl⟩
            go_wp2_with fail
            refine (HVV.out _).mono ?_; rintro e w2 ⟨rfl, hb⟩
            have HB2 : Hid (Below w.heap.size w w2) := Lib.hid (HB.out.trans (hb.mono HB.out.size))
            clear hb
            go_wp2
            go_ret2
            exact rgtSays HV2.out rfl rfl HB2.out
          | true =>
            rw [q2] at hv
            have HVV := Lib.hid hv
            have HV2 := Lib.hid (hR.trans (r3 q1 q2))
            clear r1 r2 r3 ht hv q1 q2 hp hNm hVl hkl hR hb hat hz
            go_wp2_with fail
            refine (HT.out _).mono ?_; rintro e w1 ⟨rfl, rfl⟩
            go_wp2_with fail
            refine (HVV.out _).mono ?_; rintro e w2 ⟨rfl, hb⟩
            have HB2 : Hid (Below w.heap.size w w2) := Lib.hid (HB.out.trans (hb.mono HB.out.size))
            clear hb
            go_wp2
            go_roundw
            case rel => exact ⟨k + 1, by omega, by go_num, HV2.out, HB2.out⟩
            case measure => simp [intOf]; omega
      · have HV2 : Hid (R = (0, 0)) := Lib.hid (by rw [hR]; exact rgtF_end l k k (by rw [HN.out]; omega))
        clear hR hb
        go_wp2
        go_ret2
        exact rgtSays HV2.out rfl rfl HB.out

set_option maxHeartbeats 16000000 in
set_option maxRecDepth 100000 in
theorem rftext_any (l : AL) (av : Option Addr) (n c : Nat) (w : World) (hn : l.length = n) (hs : SrcA w av c l) (hz : asz l ≤ 1073741824) :
    Calls Tryz.prog 50 #[.slice av n c] w fun e w' => e = .returned (.string (fText l)) ∧ Below w.heap.size w w' := by
  have hr : ∀ wx, Below w.heap.size w wx → Calls Tryz.prog 48 #[.slice av n c] wx (RgtSays (rgt l) wx) := fun wx hb => rRight_any l av n c wx hn (hs.below (Nat.le_refl _) hb) hz
  have hnb : n ≤ 1073741824 := by have := asz_len l; omega
  obtain ⟨R, hR⟩ : ∃ R, R = fText l := ⟨_, rfl⟩
  rw [← hR]
  obtain ⟨r, hrr⟩ : ∃ r, r = rgt l := ⟨_, rfl⟩
  rw [← hrr] at hr
  by_cases h0 : r.2 = 0
  case neg =>
    have HV : Hid (R = ⟨#[]⟩) := Lib.hid (by rw [hR]; exact fText_bad (by rw [← hrr]; exact h0))
    obtain ⟨r1, r2⟩ := r
    have hr0 : r2 ≠ 0 := h0
    have e1 : ((r2 : Int) == 0) = false := by simp; omega
    have e2 : ((r2 : Int) != 0) = true := by simp; omega
    have HR : Hid (∀ wx, Below w.heap.size w wx → Calls Tryz.prog 48 #[.slice av n c] wx fun e w' => e = .returned (.tuple #[.int .i64 r1, .int .i64 r2]) ∧ Below wx.heap.size wx w') := Lib.hid hr
    clear hr hR hrr h0 hr0 hs hn hz
    go_enter Tryz.func50, Tryz.ntmps50
    go_wp2_with fail
    refine (HR.out _ (Below.refl _ _)).mono ?_; rintro e w1 ⟨rfl, hb⟩
    have HB1 := Lib.hid hb
    clear hb
    go_wp2
    go_ret
    exact ⟨ret_str HV.out.symm, HB1.out⟩
  case pos =>
    have HV : Hid (R = mk (txtF l)) := Lib.hid (by rw [hR]; exact fText_good (by rw [← hrr]; exact h0))
    obtain ⟨r1, r2⟩ := r
    have hr0 : r2 = 0 := h0
    subst hr0
    have HR : Hid (∀ wx, Below w.heap.size w wx → Calls Tryz.prog 48 #[.slice av n c] wx fun e w' => e = .returned (.tuple #[.int .i64 r1, .int .i64 0]) ∧ Below wx.heap.size wx w') := Lib.hid hr
    have HS := Lib.hid hs
    have HZ := Lib.hid hz
    have HN := Lib.hid hn
    clear hr hR hrr h0 hs hn hz
    go_enter Tryz.func50, Tryz.ntmps50
    go_wp2_with fail
    refine (HR.out _ (Below.refl _ _)).mono ?_; rintro e w1 ⟨rfl, hb⟩
    have HB1 := Lib.hid hb
    clear hb
    go_wp2_with fail
    go_loop [5, 6] (fun v i => ∃ (k : Nat) (S : ByteArray), k ≤ n ∧ i = .int .i64 k ∧ v = .string S ∧ S.data.toList = txtF (l.take k)) (fun _ i => n - (intOf i).toNat)
    case atStart => exact ⟨0, ⟨#[]⟩, by omega, rfl, rfl, rfl⟩
    case round =>
      obtain ⟨k, S, hk, rfl, rfl, hS⟩ := hrel
      by_cases hlt : k < n
      case neg =>
        have hkn : k = l.length := by rw [HN.out]; omega
        rw [hkn, List.take_length] at hS
        have HV2 : Hid (R = S) := Lib.hid (by rw [HV.out, ← hS]; exact mk_data S)
        clear hS hkn
        go_wp2
        go_ret
        exact ⟨ret_str HV2.out.symm, HB1.out⟩
      case pos =>
        have hkl : k < l.length := by rw [HN.out]; exact hlt
        obtain ⟨b0, o0, rfl, hb0, d1, d2⟩ := srcA_at HS.out k hkl HB1.out
        have hat := asz_at l k hkl
        have hz := HZ.out
        have hstep := txtF_take l k hkl
        have htl := txtF_len (l.take k)
        have htz := asz_take l k hkl
        rw [← hS] at hstep htl
        rw [len_data] at htl
        obtain ⟨p, hp⟩ : ∃ p, p = l[k] := ⟨_, rfl⟩
        rw [← hp] at d1 d2 hat hstep htz
        obtain ⟨Nm, hNm⟩ : ∃ Nm, p.1 = Nm := ⟨_, rfl⟩
        obtain ⟨Vl, hVl⟩ : ∃ Vl, p.2 = Vl := ⟨_, rfl⟩
        unfold oneF at hstep
        rw [hNm] at d1 hat hstep htz
        rw [hVl] at d2 hat hstep htz
        have z1 : (S ++ Nm).size = S.size + Nm.size := cat_size _ _
        have z2 : (S ++ Nm ++ (⟨#[58]⟩ : ByteArray)).size = S.size + Nm.size + 1 := by rw [cat_size, z1]; rfl
        have y1 : ¬ 9223372036854775807 < S.size + Nm.size := by omega
        have y2 : ¬ 9223372036854775807 < (S ++ Nm).size + (⟨#[58]⟩ : ByteArray).size := by have : (⟨#[58]⟩ : ByteArray).size = 1 := rfl; omega
        rcases Nat.eq_zero_or_pos Vl.size with h0 | h0
        · have hx := empty_beq h0
          rw [if_pos h0, List.append_nil] at hstep
          have HST : Hid (((S ++ Nm ++ (⟨#[58]⟩ : ByteArray)) ++ (⟨#[13, 10]⟩ : ByteArray)).data.toList = txtF (l.take (k + 1))) := Lib.hid (by rw [hstep, cat_list, cat_list, cat_list]; simp)
          have y3 : ¬ 9223372036854775807 < (S ++ Nm ++ (⟨#[58]⟩ : ByteArray)).size + (⟨#[13, 10]⟩ : ByteArray).size := by have : (⟨#[13, 10]⟩ : ByteArray).size = 2 := rfl; omega
          subst hx
          clear hstep z1 z2 hp hNm hVl hS h0 hz hkl htz htl hat
          go_wp2
          go_round
          case rel => exact ⟨k + 1, _, by omega, by go_num, rfl, HST.out⟩
          case measure => simp [intOf]; omega
        · obtain ⟨g1, g2, _⟩ := nonempty_beq h0
          rw [if_neg (by omega)] at hstep
          have HST : Hid (((((S ++ Nm ++ (⟨#[58]⟩ : ByteArray)) ++ (⟨#[32]⟩ : ByteArray)) ++ Vl) ++ (⟨#[13, 10]⟩ : ByteArray)).data.toList = txtF (l.take (k + 1))) := Lib.hid (by rw [hstep, cat_list, cat_list, cat_list, cat_list, cat_list]; simp)
          have z3 : ((S ++ Nm ++ (⟨#[58]⟩ : ByteArray)) ++ (⟨#[32]⟩ : ByteArray)).size = S.size + Nm.size + 2 := by rw [cat_size, z2]; rfl
          have z4 : (((S ++ Nm ++ (⟨#[58]⟩ : ByteArray)) ++ (⟨#[32]⟩ : ByteArray)) ++ Vl).size = S.size + Nm.size + 2 + Vl.size := by rw [cat_size, z3]
          have y3 : ¬ 9223372036854775807 < (S ++ Nm ++ (⟨#[58]⟩ : ByteArray)).size + (⟨#[32]⟩ : ByteArray).size := by have : (⟨#[32]⟩ : ByteArray).size = 1 := rfl; omega
          have y4 : ¬ 9223372036854775807 < ((S ++ Nm ++ (⟨#[58]⟩ : ByteArray)) ++ (⟨#[32]⟩ : ByteArray)).size + Vl.size := by omega
          have y5 : ¬ 9223372036854775807 < (((S ++ Nm ++ (⟨#[58]⟩ : ByteArray)) ++ (⟨#[32]⟩ : ByteArray)) ++ Vl).size + (⟨#[13, 10]⟩ : ByteArray).size := by have : (⟨#[13, 10]⟩ : ByteArray).size = 2 := rfl; omega
          clear hstep z1 z2 z3 z4 hp hNm hVl hS h0 hz hkl htz htl hat
          go_wp2
          go_round
          case rel => exact ⟨k + 1, _, by omega, by go_num, rfl, HST.out⟩
          case measure => simp [intOf]; omega

set_option maxHeartbeats 8000000 in
set_option maxRecDepth 100000 in
theorem rAll_any (l : AL) (X : ByteArray) (av : Option Addr) (n c : Nat) (w : World) (hn : l.length = n) (hs : SrcA w av c l) (hz : asz l ≤ 1073741824) (hX : X.size ≤ 1073741824) :
    Calls Tryz.prog 91 #[.slice av n c, .string X] w (StrsSays (allF l X) w) := by
  have hnb : n ≤ 1073741824 := by have := asz_len l; omega
  obtain ⟨R, hR⟩ : ∃ R, R = allF l X := ⟨_, rfl⟩
  rw [← hR]
  have HR := Lib.hid hR
  have HS := Lib.hid hs
  have HZ := Lib.hid hz
  have HN := Lib.hid hn
  have HX := Lib.hid hX
  clear hR hs hz hn hX
  go_enter Tryz.func91, Tryz.ntmps91
  go_wp2_with fail
  go_loopw [5, 6] (fun v i wr => ∃ k : Nat, k ≤ n ∧ i = .int .i64 k ∧ OwnS wr w.heap.size v (allF (l.take k) X) ∧ Below w.heap.size w wr) (fun _ i _ => n - (intOf i).toNat)
  case atStart => exact ⟨0, by omega, rfl, World.ownsRow_nil _ _ _ _, Below.refl _ _⟩
  case round =>
    obtain ⟨k, hk, rfl, hown, hb⟩ := hrel
    have HB := Lib.hid hb
    by_cases hlt : k < n
    case neg =>
      have hkn : k = l.length := by rw [HN.out]; omega
      rw [hkn, List.take_length, ← HR.out] at hown
      have HO := Lib.hid hown
      obtain ⟨a3, c3, hv3, _⟩ := ownS_src hown
      subst hv3
      clear hb hown hkn
      go_wp2
      go_ret
      exact strsSays HB.out HO.out
    case pos =>
      have hkl : k < l.length := by rw [HN.out]; exact hlt
      obtain ⟨b0, o0, rfl, hb0, d1, d2⟩ := srcA_at HS.out k hkl hb
      have hat := asz_at l k hkl
      have hz := HZ.out
      have hX := HX.out
      have hstep := allF_take l X k hkl
      have hcl := allF_len (l.take k) X
      rw [List.length_take] at hcl
      obtain ⟨p, hp⟩ : ∃ p, p = l[k] := ⟨_, rfl⟩
      rw [← hp] at d1 d2 hat hstep
      obtain ⟨Nm, hNm⟩ : ∃ Nm, p.1 = Nm := ⟨_, rfl⟩
      obtain ⟨Vl, hVl⟩ : ∃ Vl, p.2 = Vl := ⟨_, rfl⟩
      obtain ⟨cur, hcur⟩ : ∃ cur, allF (l.take k) X = cur := ⟨_, rfl⟩
      rw [hcur] at hstep hcl hown
      rw [hNm] at d1 hat hstep
      rw [hVl] at d2 hat hstep
      have hsm : ∀ wx, Calls Tryz.prog 63 #[.string Nm, .string X] wx fun e w' => e = .returned (.bool (sameB Nm X)) ∧ Below wx.heap.size wx w' := fun wx => rSame_any Nm X wx (by omega) (by omega)
      have hcn : cur.length ≤ 1073741824 := by omega
      have HO := Lib.hid hown
      cases q : sameB Nm X with
      | false =>
        rw [q] at hsm hstep
        simp only [Bool.false_eq_true, if_false, List.append_nil] at hstep
        have HSM := Lib.hid hsm
        have HST := Lib.hid hstep
        clear hsm hstep q hp hNm hVl hcur hkl hown hb hat hz hX hcl
        go_wp2_with fail
        refine (HSM.out _).mono ?_; rintro e w1 ⟨rfl, hb⟩
        have HB1 : Hid (Below w.heap.size w w1) := Lib.hid (HB.out.trans (hb.mono HB.out.size))
        have HO1 : Hid (OwnS w1 w.heap.size _ (allF (l.take (k + 1)) X)) := Lib.hid (by rw [HST.out]; exact ownS_below HO.out hb)
        clear hb
        go_wp2
        go_roundw
        case rel => exact ⟨k + 1, by omega, by go_num, HO1.out, HB1.out⟩
        case measure => simp [intOf]; omega
      | true =>
        rw [q] at hsm hstep
        simp only [if_true] at hstep
        have HSM := Lib.hid hsm
        have HST := Lib.hid hstep
        have HD2 := Lib.hid d2
        clear hsm hstep q hp hNm hVl hcur hkl hown hb hat hz hX hcl d2
        go_wp2_with fail
        refine (HSM.out _).mono ?_; rintro e w1 ⟨rfl, hb⟩
        have m1 := (hb.cell (p := ⟨b0, o0 + k * 2 + 1, none⟩) hb0).trans HD2.out
        have HB1 : Hid (Below w.heap.size w w1) := Lib.hid (HB.out.trans (hb.mono HB.out.size))
        have HO1 : Hid (OwnS (w1.alloc (.cells #[.string Vl] 9)) w.heap.size _ cur) := Lib.hid (ownS_alloc (ownS_below HO.out hb) _)
        have HL := Lib.hid (lit_strs Vl w1)
        have HZ1 : Hid (w.heap.size ≤ (w1.alloc (.cells #[.string Vl] 9)).heap.size) := Lib.hid (by have := HB1.out.size; simp; omega)
        clear hb
        go_wp2_with (at_builtin; refine app_strs rfl _ _ rfl w.heap.size _ cur rfl HO1.out _ 1 1 [Vl] rfl rfl HL.out ?n2 HZ1.out ?_)
        case n2 => show (_ + 1) * 16 ≤ _; omega
        intro v3 w3 hown3 hb3 _
        have HO3 : Hid (OwnS w3 w.heap.size v3 (allF (l.take (k + 1)) X)) := Lib.hid (by rw [HST.out]; exact hown3)
        have HB3 : Hid (Below w.heap.size w w3) := Lib.hid ((HB1.out.alloc HB1.out.size _).trans hb3.out)
        clear hown3 hb3 m1
        go_wp2
        go_roundw
        case rel => exact ⟨k + 1, by omega, by go_num, HO3.out, HB3.out⟩
        case measure => simp [intOf]; omega
end Go.Proofs.YthkgaaibhjkngaaGreatDoor
