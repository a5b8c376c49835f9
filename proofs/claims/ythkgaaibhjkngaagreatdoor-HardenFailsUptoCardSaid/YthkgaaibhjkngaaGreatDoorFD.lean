/- Fields: the program's Text. -/
import Derived.Test.YthkgaaibhjkngaaGreatDoorFC
set_option linter.unusedVariables false
namespace Go.Proofs.YthkgaaibhjkngaaGreatDoor
open Go.RowKit

theorem fText_bad {l : AL} (h : (rgt l).2 ≠ 0) : fText l = ⟨#[]⟩ := by unfold fText; rw [if_neg h]
theorem fText_good {l : AL} (h : (rgt l).2 = 0) : fText l = mk (txtF l) := by unfold fText; rw [if_pos h]
theorem cat_list (A B : ByteArray) : (A ++ B).data.toList = A.data.toList ++ B.data.toList := by simp [ByteArray.data_append]
theorem cat_size (A B : ByteArray) : (A ++ B).size = A.size + B.size := by simp [ByteArray.size_append]
set_option maxHeartbeats 16000000 in
set_option maxRecDepth 100000 in
theorem ftext_any (l : AL) (av : Option Addr) (n c : Nat) (w : World) (hn : l.length = n) (hs : SrcA w av c l) (hz : asz l ≤ 1073741824) :
    Calls Tryz.prog 42 #[.slice av n c] w fun e w' => e = .returned (.string (fText l)) ∧ Below w.heap.size w w' := by
  have hr : ∀ wx, Below w.heap.size w wx → Calls Tryz.prog 37 #[.slice av n c] wx (RgtSays (rgt l) wx) := fun wx hb => right_any l av n c wx hn (hs.below (Nat.le_refl _) hb) hz
  have hnb : n ≤ 1073741824 := by have := asz_len l; omega
  obtain ⟨R, hR⟩ : ∃ R, R = fText l := ⟨_, rfl⟩
  rw [← hR]
  obtain ⟨r, hrr⟩ : ∃ r, r = rgt l := ⟨_, rfl⟩
  rw [← hrr] at hr
  by_cases h0 : r.2 = 0
  case neg =>
    have HV : Hid (R = ⟨#[]⟩) := Lib.hid (by rw [hR]; exact fText_bad (by rw [← hrr]; exact h0))
    obtain ⟨r1, r2⟩ := r
    have hr0 : r2 ≠ 0 := h0
    have e1 : ((r2 : Int) == 0) = false := by simp; omega
    have e2 : ((r2 : Int) != 0) = true := by simp; omega
    have HR : Hid (∀ wx, Below w.heap.size w wx → Calls Tryz.prog 37 #[.slice av n c] wx fun e w' => e = .returned (.tuple #[.int .i64 r1, .int .i64 r2]) ∧ Below wx.heap.size wx w') := Lib.hid hr
    clear hr hR hrr h0 hr0 hs hn hz
    go_enter Tryz.func42, Tryz.ntmps42
    go_wp2_with fail
    refine (HR.out _ (Below.refl _ _)).mono ?_; rintro e w1 ⟨rfl, hb⟩
    have HB1 := Lib.hid hb
    clear hb
    go_wp2
    go_ret
    exact ⟨ret_str HV.out.symm, HB1.out⟩
  case pos =>
    have HV : Hid (R = mk (txtF l)) := Lib.hid (by rw [hR]; exact fText_good (by rw [← hrr]; exact h0))
    obtain ⟨r1, r2⟩ := r
    have hr0 : r2 = 0 := h0
    subst hr0
    have HR : Hid (∀ wx, Below w.heap.size w wx → Calls Tryz.prog 37 #[.slice av n c] wx fun e w' => e = .returned (.tuple #[.int .i64 r1, .int .i64 0]) ∧ Below wx.heap.size wx w') := Lib.hid hr
    have HS := Lib.hid hs
    have HZ := Lib.hid hz
    have HN := Lib.hid hn
    clear hr hR hrr h0 hs hn hz
    go_enter Tryz.func42, Tryz.ntmps42
    go_wp2_with fail
    refine (HR.out _ (Below.refl _ _)).mono ?_; rintro e w1 ⟨rfl, hb⟩
    have HB1 := Lib.hid hb
    clear hb
    go_wp2_with fail
    go_loopw [5, 17] (fun v i wr => ∃ k : Nat, k ≤ n ∧ i = .int .i64 k ∧ OwnB wr w.heap.size v (txtF (l.take k)) ∧ Below w.heap.size w wr) (fun _ i _ => n - (intOf i).toNat)
    case atStart => exact ⟨0, by omega, rfl, World.ownsRow_nil _ _ _ _, HB1.out⟩
    case round =>
      obtain ⟨k, hk, rfl, hown, hb⟩ := hrel
      have HB := Lib.hid hb
      by_cases hlt : k < n
      case neg =>
        have hkn : k = l.length := by rw [HN.out]; omega
        rw [hkn, List.take_length] at hown
        obtain ⟨a5, c5, rfl, _, hs5⟩ := own_src hown
        have hcv := conv_src wr a5 c5 _ hs5
        rw [show (⟨(txtF l).toArray⟩ : ByteArray) = R from HV.out.symm] at hcv
        obtain ⟨tn, htn⟩ : ∃ tn, (txtF l).length = tn := ⟨_, rfl⟩
        rw [htn] at hcv ⊢
        clear hb hown hs5 htn hkn
        go_wp2
        go_ret
        exact ⟨rfl, HB.out⟩
      case pos =>
        have hkl : k < l.length := by rw [HN.out]; exact hlt
        obtain ⟨b0, o0, rfl, hb0, d1, d2⟩ := srcA_at HS.out k hkl hb
        have hat := asz_at l k hkl
        have hz := HZ.out
        have hstep := txtF_take l k hkl
        have htl := txtF_len (l.take k)
        have htz := asz_take l k hkl
        obtain ⟨p, hp⟩ : ∃ p, p = l[k] := ⟨_, rfl⟩
        rw [← hp] at d1 d2 hat hstep htz
        obtain ⟨Nm, hNm⟩ : ∃ Nm, p.1 = Nm := ⟨_, rfl⟩
        obtain ⟨Vl, hVl⟩ : ∃ Vl, p.2 = Vl := ⟨_, rfl⟩
        obtain ⟨cur, hcur⟩ : ∃ cur, txtF (l.take k) = cur := ⟨_, rfl⟩
        rw [hcur] at hstep htl hown
        unfold oneF at hstep
        rw [hNm] at d1 hat hstep htz
        rw [hVl] at d2 hat hstep htz
        have hO : OwnB (wr.alloc (.cells #[.string Nm, .string Vl] 37)) w.heap.size _ cur := World.ownsRow.alloc hown _
        have hne := ownB_ne hown wr.heap.size (Nat.le_refl _)
        have hcl : cur.length + Nm.size + Vl.size + 4 ≤ 1073741824 := by omega
        have hbr : Below w.heap.size w (wr.alloc (.cells #[.string Nm, .string Vl] 37)) := hb.alloc hb.size _
        have c1 := (at_alloc wr #[.string Nm, .string Vl] 37 1).1
        have hlt1 : wr.heap.size < (wr.alloc (.cells #[.string Nm, .string Vl] 37)).heap.size := by simp
        have hl1 : (Nm ++ (⟨#[58]⟩ : ByteArray)).size = Nm.size + 1 := cat_size _ _
        have hd1 : (Nm ++ (⟨#[58]⟩ : ByteArray)).data.toList = Nm.data.toList ++ [58] := cat_list _ _
        have hn1 : ¬ 9223372036854775807 < Nm.size + (⟨#[58]⟩ : ByteArray).size := by have : (⟨#[58]⟩ : ByteArray).size = 1 := rfl; omega
        have hz1 : cur.length + (Nm ++ (⟨#[58]⟩ : ByteArray)).size ≤ 140737488355328 := by rw [hl1]; omega
        have HO := Lib.hid hO
        have HBR := Lib.hid hbr
        have HNE := Lib.hid hne
        have HC1 := Lib.hid c1
        have HLT := Lib.hid hlt1
        have HZ1 := Lib.hid hz1
        have HD1 := Lib.hid hd1
        have hw1 : (wr.alloc (.cells #[.string Nm, .string Vl] 37)).heap.size = wr.heap.size + 1 := by simp
        obtain ⟨n1, hn1'⟩ : ∃ n1, (cur ++ (Nm.data.toList ++ [58])) = n1 := ⟨_, rfl⟩
        have hn1l : n1.length = cur.length + Nm.size + 1 := by rw [← hn1', List.length_append, List.length_append, len_data]; show _ + (_ + 1) = _; omega
        have HN1 := Lib.hid hn1'
        have HN1L := Lib.hid hn1l
        rcases Nat.eq_zero_or_pos Vl.size with h0 | h0
        · have hx := empty_beq h0
          rw [if_pos h0, List.append_nil] at hstep
          have HST : Hid (txtF (l.take (k + 1)) = n1 ++ [13, 10]) := Lib.hid (by rw [hstep, ← hn1']; simp)
          subst hx
          clear hstep hown hb hO hbr hne c1 hlt1 hl1 hd1 hz1 hw1 hn1' hn1l hp hNm hVl hcur h0 hz
          go_wp2_with (at_builtin; refine app_bstr rfl _ _ rfl w.heap.size _ cur rfl HO.out _ rfl ?n5 HBR.out.size ?_)
          case n5 => exact HZ1.out
          intro v4 w4 hown4 hb4 hg4
          have f1 := (grown_far hg4.out wr.heap.size 1 HLT.out HNE.out).trans HC1.out
          rw [HN1.out] at hown4
          have HO4 := Lib.hid hown4
          have HB4 : Hid (Below w.heap.size w w4) := Lib.hid (HBR.out.trans hb4.out)
          clear hown4 hb4 hg4 hn1
          go_wp2_with (at_builtin; refine app_bstr rfl _ _ rfl w.heap.size _ n1 rfl HO4.out _ rfl ?n6 HB4.out.size ?_)
          case n6 => rw [HN1L.out]; show _ + 2 ≤ _; omega
          intro v5 w5 hown5 hb5 _
          have HO5 : Hid (OwnB w5 w.heap.size v5 (txtF (l.take (k + 1)))) := Lib.hid (by rw [HST.out]; exact hown5)
          have HB5 : Hid (Below w.heap.size w w5) := Lib.hid (HB4.out.trans hb5.out)
          clear hown5 hb5
          go_wp2
          go_roundw
          case rel => exact ⟨k + 1, by omega, by go_num, HO5.out, HB5.out⟩
          case measure => simp [intOf]; omega
        · obtain ⟨g1, g2, _⟩ := nonempty_beq h0
          rw [if_neg (by omega)] at hstep
          have hl2 : ((⟨#[32]⟩ : ByteArray) ++ Vl).size = 1 + Vl.size := cat_size _ _
          have hd2 : ((⟨#[32]⟩ : ByteArray) ++ Vl).data.toList = [32] ++ Vl.data.toList := cat_list _ _
          have hn2 : ¬ 9223372036854775807 < (⟨#[32]⟩ : ByteArray).size + Vl.size := by have : (⟨#[32]⟩ : ByteArray).size = 1 := rfl; omega
          obtain ⟨n2, hn2'⟩ : ∃ n2, (n1 ++ ([32] ++ Vl.data.toList)) = n2 := ⟨_, rfl⟩
          have hn2l : n2.length = cur.length + Nm.size + Vl.size + 2 := by rw [← hn2', List.length_append, List.length_append, len_data, hn1l]; show _ + (1 + _) = _; omega
          have HN2 := Lib.hid hn2'
          have HN2L := Lib.hid hn2l
          have HST : Hid (txtF (l.take (k + 1)) = n2 ++ [13, 10]) := Lib.hid (by rw [hstep, ← hn2', ← hn1']; simp)
          have HZ2 : Hid (n1.length + ((⟨#[32]⟩ : ByteArray) ++ Vl).size ≤ 140737488355328) := Lib.hid (by rw [hl2]; omega)
          clear hstep hown hb hO hbr hne c1 hlt1 hl1 hd1 hz1 hw1 hn1' hn1l hp hNm hVl hcur h0 hz hl2 hd2 hn2' hn2l
          go_wp2_with (at_builtin; refine app_bstr rfl _ _ rfl w.heap.size _ cur rfl HO.out _ rfl ?n5 HBR.out.size ?_)
          case n5 => exact HZ1.out
          intro v4 w4 hown4 hb4 hg4
          have f1 := (grown_far hg4.out wr.heap.size 1 HLT.out HNE.out).trans HC1.out
          rw [HN1.out] at hown4
          have HO4 := Lib.hid hown4
          have HB4 : Hid (Below w.heap.size w w4) := Lib.hid (HBR.out.trans hb4.out)
          clear hown4 hb4 hg4 hn1
          go_wp2_with (at_builtin; refine app_bstr rfl _ _ rfl w.heap.size _ n1 rfl HO4.out _ rfl ?n6 HB4.out.size ?_)
          case n6 => exact HZ2.out
          intro v5 w5 hown5 hb5 _
          have HO5 : Hid (OwnB w5 w.heap.size v5 n2) := Lib.hid (by rw [← HN2.out]; simpa using hown5)
          have HB5 : Hid (Below w.heap.size w w5) := Lib.hid (HB4.out.trans hb5.out)
          clear hown5 hb5 f1 g1 g2 hn2
          go_wp2_with (at_builtin; refine app_bstr rfl _ _ rfl w.heap.size _ n2 rfl HO5.out _ rfl ?n7 HB5.out.size ?_)
          case n7 => rw [HN2L.out]; show _ + 2 ≤ _; omega
          intro v6 w6 hown6 hb6 _
          have HO6 : Hid (OwnB w6 w.heap.size v6 (txtF (l.take (k + 1)))) := Lib.hid (by rw [HST.out]; exact hown6)
          have HB6 : Hid (Below w.heap.size w w6) := Lib.hid (HB5.out.trans hb6.out)
          clear hown6 hb6
          go_wp2
          go_roundw
          case rel => exact ⟨k + 1, by omega, by go_num, HO6.out, HB6.out⟩
          case measure => simp [intOf]; omega
end Go.Proofs.YthkgaaibhjkngaaGreatDoor
