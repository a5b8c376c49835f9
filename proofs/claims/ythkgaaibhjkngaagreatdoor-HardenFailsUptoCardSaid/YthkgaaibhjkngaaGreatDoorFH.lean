/- Fields: the document's answers: Members, Without; two rows that are the same. -/
import Derived.Test.YthkgaaibhjkngaaGreatDoorFG
import Derived.Deep.RegionHeld3
set_option linter.unusedVariables false
namespace Go.Proofs.YthkgaaibhjkngaaGreatDoor
open Go.RowKit

set_option maxHeartbeats 8000000 in
set_option maxRecDepth 100000 in
theorem rMembers_any (l : AL) (X : ByteArray) (av : Option Addr) (n c : Nat) (w : World) (hn : l.length = n) (hs : SrcA w av c l) (hz : asz l ≤ 1073741824) (hX : X.size ≤ 1073741824) :
    Calls Tryz.prog 62 #[.slice av n c, .string X] w (ListSays (memF (allF l X)) w) := by
  have hall := fun wx (hb : Below w.heap.size w wx) => rAll_any l X av n c wx hn (hs.below (Nat.le_refl _) hb) hz hX
  have hbz := allF_bsz l X
  have hml := memF_len (allF l X)
  generalize allF l X = vs at hall hbz hml ⊢
  have hvl := bsz_len vs
  have hzv : bsz vs ≤ 1073741824 := by omega
  obtain ⟨R, hR⟩ : ∃ R, R = memF vs := ⟨_, rfl⟩
  rw [← hR] at hml ⊢
  have HR : Hid (R = (memF (vs.drop 0)).map ([] ++ ·)) := Lib.hid (by rw [List.drop_zero, hR]; cases memF vs <;> simp)
  have HALL := Lib.hid hall
  have HZ := Lib.hid hzv
  clear hR hs hz hn hX hall hbz hvl hzv hml
  go_enter Tryz.func62, Tryz.ntmps62
  go_wp2_with fail
  refine (HALL.out _ (Below.refl _ _)).mono ?_; rintro e w1 ⟨hb, v, rfl, hown⟩
  obtain ⟨a1, c1, hv, hsrc⟩ := ownS_src hown
  have hnl := bsz_len vs
  have hz := HZ.out
  obtain ⟨n1, hn1⟩ : ∃ n1, vs.length = n1 := ⟨_, rfl⟩
  rw [hn1] at hv hnl
  subst hv
  have hnb : n1 ≤ 1073741824 := by omega
  have HB1 := Lib.hid hb
  have HS := Lib.hid hsrc
  have HN := Lib.hid hn1
  clear hb hsrc hown hn1 hnl hz
  go_wp2_with fail
  go_loopw [6, 8] (fun v i wr => ∃ (k : Nat) (acc : List (List UInt8)), k ≤ n1 ∧ i = .int .i64 k ∧ acc.length ≤ bsz (vs.take k) ∧ OwnS wr w1.heap.size v (acc.map mk) ∧ R = (memF (vs.drop k)).map (acc ++ ·) ∧ Below w1.heap.size w1 wr) (fun _ i _ => n1 - (intOf i).toNat)
  case atStart => exact ⟨0, [], by omega, rfl, by simp, World.ownsRow_nil _ _ _ _, HR.out, Below.refl _ _⟩
  case round =>
    obtain ⟨k, acc, hk, rfl, hal, hown, hR, hbs⟩ := hrel
    have hb : Below w.heap.size w wr := HB1.out.trans (hbs.mono HB1.out.size)
    have HB := Lib.hid hb
    have HBS := Lib.hid hbs
    by_cases hlt : k < n1
    case neg =>
      have hkn : vs.length ≤ k := by rw [HN.out]; omega
      have HV : Hid (R = some acc) := Lib.hid (by rw [hR, memF_end vs k hkn]; simp)
      have HO := Lib.hid (ownS_mono hown HB1.out.size)
      obtain ⟨a3, c3, hv3, _⟩ := ownS_src hown
      rw [List.length_map] at hv3
      subst hv3
      clear hb hbs hown hkn hR hal
      go_wp2
      go_ret2
      exact listSays_some HV.out HO.out HB.out
    case pos =>
      have hkl : k < vs.length := by rw [HN.out]; exact hlt
      obtain ⟨b0, o0, rfl, hb0, d1⟩ := srcS_at HS.out k hkl hbs
      have hat := bsz_at vs k hkl
      have htk := bsz_take vs k hkl
      have hz := HZ.out
      have hbd := memF_bad vs k hkl
      have hnx := memF_next vs k hkl
      have hl1 : bsz (vs.take (k + 1)) = bsz (vs.take k) + (vs[k].size + 1) := by rw [List.take_succ_eq_append_getElem hkl, bsz_app]; simp [bsz]
      generalize vs[k] = Y at d1 hat hbd hnx htk hl1
      have hli := fun wx => rList_any Y wx (by omega)
      have hll := fun ms (h : lst Y.data.toList = some ms) => lst_len Y.data.toList ms h
      rw [len_data] at hll
      cases q : lst Y.data.toList with
      | none =>
        rw [q] at hli
        have HV : Hid (R = none) := Lib.hid (by rw [hR, hbd q]; rfl)
        have HL : Hid (∀ wx, Calls Tryz.prog 103 #[.string Y] wx fun e w' => Below wx.heap.size wx w' ∧ e = .returned (.tuple #[.slice none 0 0, .int .i64 5])) := Lib.hid hli
        clear hli q hbd hnx hR hb hbs hown hat htk hz hkl hll hl1 hal
        go_wp2_with fail
        refine (HL.out _).mono ?_; rintro e w2 ⟨hb, rfl⟩
        have HB2 := Lib.hid (HB.out.trans (hb.mono HB.out.size))
        clear hb
        go_wp2
        go_ret2
        exact listSays_none HV.out HB2.out
      | some ms =>
        rw [q] at hli
        have hml := hll ms q
        have HV : Hid (R = (memF (vs.drop (k + 1))).map ((acc ++ ms) ++ ·)) := Lib.hid (by rw [hR, hnx ms q, Option.map_map]; congr 1; funext m; simp)
        have HL : Hid (∀ wx, Calls Tryz.prog 103 #[.string Y] wx fun e w' => Below wx.heap.size wx w' ∧ ∃ v, e = .returned (.tuple #[v, .int .i64 0]) ∧ OwnS w' wx.heap.size v (ms.map mk)) := Lib.hid hli
        have hl2 : (acc ++ ms).length ≤ bsz (vs.take (k + 1)) := by rw [List.length_append, hl1]; omega
        have HL2 := Lib.hid hl2
        have HO := Lib.hid hown
        have hab : acc.length ≤ 1073741824 := by omega
        have hmb : ms.length ≤ 1073741824 := by omega
        clear hli q hbd hnx hR hb hbs hown hat htk hz hkl hll hl1 hal hl2 hml
        go_wp2_with fail
        refine (HL.out _).mono ?_; rintro e w2 ⟨hb, v2, rfl, hown2⟩
        obtain ⟨a2, c2, hv2, hsrc2⟩ := ownS_src hown2
        rw [List.length_map] at hv2
        subst hv2
        have HB2 := Lib.hid (HB.out.trans (hb.mono HB.out.size))
        have HBS2 := Lib.hid (HBS.out.trans (hb.mono HBS.out.size))
        have HO2 := Lib.hid (ownS_below HO.out hb)
        have HS2 := Lib.hid hsrc2
        clear hb hown2 hsrc2
        go_wp2_with (at_builtin; refine app_strs rfl _ _ rfl w1.heap.size _ (acc.map mk) rfl HO2.out a2 c2 ms.length (ms.map mk) (List.length_map ..) rfl HS2.out ?n2 HBS2.out.size ?_)
        case n2 => rw [List.length_map, List.length_map]; omega
        intro v3 w3 hown3 hb3 hg3
        have HO3 : Hid (OwnS w3 w1.heap.size v3 ((acc ++ ms).map mk)) := Lib.hid (by rw [List.map_append]; exact hown3)
        have HBS3 : Hid (Below w1.heap.size w1 w3) := Lib.hid (HBS2.out.trans hb3.out)
        clear hown3 hb3 hg3
        go_wp2
        go_roundw
        case rel => exact ⟨k + 1, acc ++ ms, by omega, by go_num, HL2.out, HO3.out, HV.out, HBS3.out⟩
        case measure => simp [intOf]; omega

set_option maxHeartbeats 8000000 in
set_option maxRecDepth 100000 in
theorem rWithout_any (l : AL) (ns : List ByteArray) (av bv : Option Addr) (n c m d : Nat) (w : World) (hn : l.length = n) (hm : ns.length = m) (hs : SrcA w av c l) (hs2 : SrcS w bv d ns) (hz : asz l ≤ 1073741824) (hz2 : bsz ns ≤ 1073741824) :
    Calls Tryz.prog 54 #[.slice av n c, .slice bv m d] w (FldsSays (woF l ns) w) := by
  have hnb : n ≤ 1073741824 := by have := asz_len l; omega
  have hmb : m ≤ 1073741824 := by have := bsz_len ns; omega
  obtain ⟨R, hR⟩ : ∃ R, R = woF l ns := ⟨_, rfl⟩
  rw [← hR]
  have HR := Lib.hid hR
  have HS := Lib.hid hs
  have HS2 := Lib.hid hs2
  have HZ := Lib.hid hz
  have HZ2 := Lib.hid hz2
  have HN := Lib.hid hn
  have HM := Lib.hid hm
  clear hR hs hz hn hs2 hz2 hm
  go_enter Tryz.func54, Tryz.ntmps54
  go_wp2_with fail
  go_loopw [5, 6] (fun v i wr => ∃ k : Nat, k ≤ n ∧ i = .int .i64 k ∧ OwnF wr w.heap.size v (woF (l.take k) ns) ∧ Below w.heap.size w wr) (fun _ i _ => n - (intOf i).toNat)
  case atStart => exact ⟨0, by omega, rfl, World.ownsRow_nil _ _ _ _, Below.refl _ _⟩
  case round =>
    obtain ⟨k, hk, rfl, hown, hb⟩ := hrel
    have HB := Lib.hid hb
    by_cases hlt : k < n
    case neg =>
      have hkn : k = l.length := by rw [HN.out]; omega
      rw [hkn, List.take_length, ← HR.out] at hown
      have HO := Lib.hid hown
      obtain ⟨a3, c3, hv3, _⟩ := ownF_src hown
      subst hv3
      clear hb hown hkn
      go_wp2
      go_ret
      exact fldsSays HB.out HO.out
    case pos =>
      have hkl : k < l.length := by rw [HN.out]; exact hlt
      obtain ⟨b0, o0, rfl, hb0, d1, d2⟩ := srcA_at HS.out k hkl hb
      have hat := asz_at l k hkl
      have hz := HZ.out
      have hstep := woF_take l ns k hkl
      have hcl := woF_len (l.take k) ns
      rw [List.length_take] at hcl
      obtain ⟨p, hp⟩ : ∃ p, p = l[k] := ⟨_, rfl⟩
      rw [← hp] at d1 d2 hat hstep
      obtain ⟨Nm, Vl⟩ := p
      simp only at d1 d2 hat hstep
      obtain ⟨cur, hcur⟩ : ∃ cur, woF (l.take k) ns = cur := ⟨_, rfl⟩
      rw [hcur] at hstep hcl hown
      have hcn : cur.length ≤ 1073741824 := by omega
      have hNs : Nm.size ≤ 1073741824 := by omega
      have HNS := Lib.hid hNs
      have HO := Lib.hid hown
      have HST := Lib.hid hstep
      have HD1 := Lib.hid d1
      have HD2 := Lib.hid d2
      clear hstep hp hcur hkl hown hb hat hz hcl d1 d2 hNs
      obtain ⟨wo, hwo⟩ : ∃ wo, wo = wr := ⟨_, rfl⟩
      subst hwo
      go_wp2_with fail
      go_loopw [7, 8] (fun b j wi => ∃ i : Nat, i ≤ m ∧ j = .int .i64 i ∧ b = .bool (inF Nm (ns.take i)) ∧ Below wo.heap.size wo wi) (fun _ j _ => m - (intOf j).toNat)
      case atStart => exact ⟨0, by omega, rfl, rfl, Below.refl _ _⟩
      case round =>
        obtain ⟨i, hi, rfl, rfl, hbi⟩ := hrel
        have HBI := Lib.hid hbi
        by_cases hlt2 : i < m
        · have hil : i < ns.length := by rw [HM.out]; exact hlt2
          obtain ⟨b2, o2, rfl, hb2, e1⟩ := srcS_at HS2.out i hil (HB.out.trans (hbi.mono HB.out.size))
          have f1 := (hbi.cell (p := ⟨b0, o0 + k * 2, none⟩) hb0).trans HD1.out
          have hzz := HZ2.out
          have hbb := bsz_at ns i hil
          have hns := HNS.out
          have htk := inF_take Nm ns i hil
          generalize ns[i] = Y at e1 hbb htk
          have hsm : ∀ wx, Calls Tryz.prog 63 #[.string Nm, .string Y] wx fun e w' => e = .returned (.bool (sameB Nm Y)) ∧ Below wx.heap.size wx w' := fun wx => rSame_any Nm Y wx (by omega) (by omega)
          have HSM := Lib.hid hsm
          have HTK := Lib.hid htk
          have HBB := Lib.hid hbi
          have hb0i : b0 < wr.heap.size := Nat.lt_of_lt_of_le hb0 hbi.size
          have KT : Hid (∀ x y : World, (Below wr.heap.size wr x ∧ x.cell? ⟨b0, o0 + k * 2, none⟩ = some (.string Nm) ∧ x.cell? ⟨b2, o2 + i, none⟩ = some (.string Y)) → Below x.heap.size x y →
              (Below wr.heap.size wr y ∧ y.cell? ⟨b0, o0 + k * 2, none⟩ = some (.string Nm) ∧ y.cell? ⟨b2, o2 + i, none⟩ = some (.string Y))) := Lib.hid fun x y ⟨h1, h2, h3⟩ hb =>
            ⟨h1.trans (hb.mono h1.size), (hb.cell (p := ⟨b0, o0 + k * 2, none⟩) (Nat.lt_of_lt_of_le hb0i h1.size)).trans h2, (hb.cell (p := ⟨b2, o2 + i, none⟩) (Nat.lt_of_lt_of_le hb2 h1.size)).trans h3⟩
          have K0 : Hid (Below wr.heap.size wr wr ∧ wr.cell? ⟨b0, o0 + k * 2, none⟩ = some (.string Nm) ∧ wr.cell? ⟨b2, o2 + i, none⟩ = some (.string Y)) := Lib.hid ⟨Below.refl _ _, f1, e1⟩
          clear hbi hil hzz hbb hns htk
          obtain ⟨bi, hbi'⟩ : ∃ bi, inF Nm (ns.take i) = bi := ⟨_, rfl⟩
          rw [hbi'] at HTK ⊢
          clear hbi'
          obtain ⟨bs, hbs'⟩ : ∃ bs, sameB Nm Y = bs := ⟨_, rfl⟩
          rw [hbs'] at HTK HSM
          clear hbs' hsm
          cases bi
          all_goals
            go_wp2_with fail
            go_region_held3 (fun w' => Below wr.heap.size wr w' ∧ w'.cell? ⟨b0, o0 + k * 2, none⟩ = some (.string Nm) ∧ w'.cell? ⟨b2, o2 + i, none⟩ = some (.string Y)) (first | exact KT.out _ _ K0.out (Below.refl _ _).drew | exact KT.out _ _ (by assumption) hb)
              (first | (go_at_call_of 63 (Value.string Nm); refine (HSM.out _).mono ?_; rintro e w' ⟨rfl, hb⟩))
            have hHS := KT.out _ _ (by assumption) (Below.refl _ _)
            have HB3 := Lib.hid (HBI.out.trans (hHS.1.mono HBI.out.size))
            clear hHS
            go_wp2
            go_roundw
            case rel => exact ⟨i + 1, by omega, by go_num, by rw [HTK.out]; rfl, HB3.out⟩
            case measure => simp [intOf]; omega
        · have him : i = ns.length := by rw [HM.out]; omega
          rw [show ns.take i = ns by rw [him, List.take_length]]
          have hst := HST.out
          have HO1 := Lib.hid (ownF_below HO.out (Nat.le_refl _) hbi)
          have HB1 : Hid (Below w.heap.size w wr) := Lib.hid (HB.out.trans (hbi.mono HB.out.size))
          have f1 := (hbi.cell (p := ⟨b0, o0 + k * 2, none⟩) hb0).trans HD1.out
          have f2 := (hbi.cell (p := ⟨b0, o0 + k * 2 + 1, none⟩) hb0).trans HD2.out
          have hb0i : b0 < wr.heap.size := Nat.lt_of_lt_of_le hb0 hbi.size
          clear hbi him
          cases q : inF Nm ns with
          | true =>
            rw [q] at hst
            simp only [if_true, List.append_nil] at hst
            have HST2 := Lib.hid hst
            clear hst q
            go_wp2
            go_roundw
            case rel => exact ⟨k + 1, by omega, by go_num, by rw [HST2.out]; exact HO1.out, HB1.out⟩
            case measure => simp [intOf]; omega
          | false =>
            rw [q] at hst
            simp only [Bool.false_eq_true, if_false] at hst
            have HST2 := Lib.hid hst
            clear hst q
            have HO2 : Hid (OwnF (wr.alloc (.cells #[.string Nm, .string Vl] 37)) w.heap.size _ cur) := Lib.hid (ownF_alloc HO1.out _)
            have HL := Lib.hid (lit_fld Nm Vl wr)
            have HZ1 : Hid (w.heap.size ≤ (wr.alloc (.cells #[.string Nm, .string Vl] 37)).heap.size) := Lib.hid (by have := HB1.out.size; simp; omega)
            go_wp2_with (at_builtin; refine app_flds rfl _ _ rfl w.heap.size _ cur rfl HO2.out _ 1 1 [(Nm, Vl)] rfl rfl HL.out ?n2 HZ1.out ?_)
            case n2 => show (_ + 1) * 32 ≤ _; omega
            intro v3 w3 hown3 hb3 _
            have HO3 : Hid (OwnF w3 w.heap.size v3 (woF (l.take (k + 1)) ns)) := Lib.hid (by rw [HST2.out]; exact hown3)
            have HB3 : Hid (Below w.heap.size w w3) := Lib.hid ((HB1.out.alloc HB1.out.size _).trans hb3.out)
            clear hown3 hb3 f1 f2
            go_wp2
            go_roundw
            case rel => exact ⟨k + 1, by omega, by go_num, HO3.out, HB3.out⟩
            case measure => simp [intOf]; omega

set_option maxHeartbeats 4000000 in
theorem rfSame_eq (a1 a2 : Option Addr) (n c1 c2 : Nat) (l : AL) (w : World) (hn : l.length = n) (h1 : SrcA w a1 c1 l) (h2 : SrcA w a2 c2 l) (hbig : n ≤ 35184372088832) :
    Calls Tryz.prog 11 #[.slice a1 n c1, .slice a2 n c2] w fun e w' => e = .returned (.bool true) ∧ Below w.heap.size w w' := by
  have H1 := Lib.hid h1
  have H2 := Lib.hid h2
  have HN := Lib.hid hn
  clear h1 h2 hn
  go_enter Tryz.func11, Tryz.ntmps11
  go_wp2
  go_loopw [5] (fun i wr => ∃ j : Nat, j ≤ n ∧ i = .int .i64 j ∧ Below w.heap.size w wr) (fun i _ => n - (intOf i).toNat)
  case atStart => exact ⟨0, by omega, rfl, Below.refl _ _⟩
  case round =>
    obtain ⟨j, hj, rfl, hb⟩ := hrel
    by_cases hlt : j < n
    · have hjl : j < l.length := by rw [HN.out]; exact hlt
      obtain ⟨b1, o1, rfl, hb1, d1, d2⟩ := srcA_at H1.out j hjl hb
      obtain ⟨b2, o2, rfl, hb2, e1, e2⟩ := srcA_at H2.out j hjl hb
      have HB := Lib.hid hb
      clear hb
      generalize l[j] = x at d1 d2 e1 e2
      obtain ⟨X, Y⟩ := x
      simp only at d1 d2 e1 e2
      clear hjl
      go_wp2
      go_quiet (fail)
      go_wp2
      go_roundw
      case rel => exact ⟨j + 1, by omega, by go_num, HB.out.trans (below_drewN _ _)⟩
      case measure => simp [intOf]; omega
    · have HB := Lib.hid hb
      clear hb
      go_wp2
      go_ret
      exact ⟨rfl, HB.out⟩
end Go.Proofs.YthkgaaibhjkngaaGreatDoor
