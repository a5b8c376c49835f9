/- How a body ends: the document's answer: chunked, length. -/
import Derived.Test.YtkadingpmebjbaaDoorQE
import Derived.Test.YtkadingpmebjbaaDoorFH
set_option linter.unusedVariables false
namespace Go.Proofs.YtkadingpmebjbaaDoor
open Go.RowKit

set_option maxHeartbeats 8000000 in
set_option maxRecDepth 100000 in
theorem qchunked_any (l : AL) (av : Option Addr) (n c : Nat) (w : World) (hn : l.length = n) (hs : SrcA w av c l) (hz : asz l ≤ 1073741824) :
    Calls Tryd.prog 80 #[.slice av n c] w fun e w' => e = .returned (.bool (fchk l)) ∧ Below w.heap.size w w' := by
  have hm := rMembers_any l kTE av n c w hn hs hz (by decide)
  have hbz := allF_bsz l kTE
  have hml := memF_len (allF l kTE)
  have hsz := memF_size (allF l kTE)
  unfold fchk
  generalize allF l kTE = vs at hm hbz hml hsz ⊢
  cases hq : memF vs with
  | none =>
    rw [hq] at hm
    have HM : Hid (Calls Tryd.prog 33 #[.slice av n c, .string ⟨#[116, 114, 97, 110, 115, 102, 101, 114, 45, 101, 110, 99, 111, 100, 105, 110, 103]⟩] w fun e w' => Below w.heap.size w w' ∧ e = .returned (.tuple #[.slice none 0 0, .int .i64 5])) := Lib.hid hm
    clear hm hq hml hsz hbz hs hn hz
    go_enter Tryd.func80, Tryd.ntmps80
    go_wp2_with fail
    refine HM.out.mono ?_; rintro e w1 ⟨hb, rfl⟩
    have HB := Lib.hid hb
    clear hb
    go_wp2
    go_ret
    exact ⟨rfl, HB.out⟩
  | some ms =>
    rw [hq] at hm
    have hl := hml ms hq
    have hsm := hsz ms hq
    obtain ⟨k1, hk1⟩ : ∃ k1, ms.length = k1 := ⟨_, rfl⟩
    have HM : Hid (Calls Tryd.prog 33 #[.slice av n c, .string ⟨#[116, 114, 97, 110, 115, 102, 101, 114, 45, 101, 110, 99, 111, 100, 105, 110, 103]⟩] w fun e w' => Below w.heap.size w w' ∧ ∃ a c, e = .returned (.tuple #[.slice a k1 c, .int .i64 0]) ∧ SrcS w' a c (ms.map mk)) := Lib.hid (hm.mono fun e w' ⟨h1, v, h2, h3⟩ => by
      obtain ⟨a, c, h4, h5, _⟩ := strs_one _ _ _ _ h3
      rw [List.length_map, hk1] at h4
      exact ⟨h1, a, c, by rw [h2, h4], h5⟩)
    by_cases h1 : k1 = 1
    · obtain ⟨m, rfl⟩ : ∃ m, ms = [m] := by
        cases ms with
        | nil => simp at hk1; omega
        | cons m r => cases r with
          | nil => exact ⟨m, rfl⟩
          | cons _ _ => simp at hk1; omega
      have hms := hsm m (by simp)
      have hse : ∀ wx, Calls Tryd.prog 60 #[.string (mk m), .string ⟨#[99, 104, 117, 110, 107, 101, 100]⟩] wx fun e w' => e = .returned (.bool (sameB (mk m) kCh)) ∧ Below wx.heap.size wx w' := fun wx => rSame_any (mk m) kCh wx (by rw [show (mk m).size = m.length from size_mk _]; omega) (by decide)
      have hchk : chkM (some [m]) = sameB (mk m) kCh := rfl
      rw [hchk]
      subst h1
      obtain ⟨T, hT⟩ : ∃ T, mk m = T := ⟨_, rfl⟩
      have hcell : ∀ wx (a : Option Addr) c, SrcS wx a c ([m].map mk) → ∃ b o, a = some ⟨b, o, none⟩ ∧ b < wx.heap.size ∧ wx.cell? ⟨b, o, none⟩ = some (.string T) := fun wx a c h => by
        obtain ⟨b, o, e1, e2, e3⟩ := h.at_ 0 (by simp)
        exact ⟨b, o, e1, e2, by rw [← hT]; simpa using e3⟩
      rw [hT] at hse ⊢
      have HC := Lib.hid hcell
      generalize sameB T kCh = q at hse ⊢
      have HSE := Lib.hid hse
      clear hm hq hml hsz hbz hs hn hz hl hsm hk1 hms hse hchk hT hcell
      go_enter Tryd.func80, Tryd.ntmps80
      go_wp2_with fail
      refine HM.out.mono ?_; rintro e w1 ⟨hb, a1, c1, rfl, hs1⟩
      obtain ⟨b1, o1, rfl, hb1, hc1⟩ := HC.out _ _ _ hs1
      have HB := Lib.hid hb
      clear hb hs1
      go_wp2_with fail
      refine (HSE.out _).mono ?_; rintro e w2 ⟨rfl, hb⟩
      have HB2 := Lib.hid (app_below HB.out hb)
      clear hb
      go_wp2
      go_ret
      exact ⟨rfl, HB2.out⟩
    · have hno : chkM (some ms) = false := chkM_no fun m e => by injection e with e; rw [e] at hk1; simp at hk1; omega
      rw [hno]
      have e1 : ((k1 : Int) != 1) = true := by simp; omega
      have e2 : ((k1 : Int) == 1) = false := by simp; omega
      clear hm hq hml hsz hbz hs hn hz hl hsm hk1 hno h1
      go_enter Tryd.func80, Tryd.ntmps80
      go_wp2_with fail
      refine HM.out.mono ?_; rintro e w1 ⟨hb, a1, c1, rfl, hs1⟩
      have HB := Lib.hid hb
      clear hb hs1
      go_wp2
      go_ret
      exact ⟨rfl, HB.out⟩

set_option maxHeartbeats 8000000 in
set_option maxRecDepth 100000 in
theorem qlength_any (l : AL) (av : Option Addr) (n c : Nat) (w : World) (hn : l.length = n) (hs : SrcA w av c l) (hz : asz l ≤ 1073741824) :
    Calls Tryd.prog 81 #[.slice av n c] w (LenSays (flen l) 0 w) := by
  have hm := rMembers_any l kCL av n c w hn hs hz (by decide)
  have hbz := allF_bsz l kCL
  have hml := memF_len (allF l kCL)
  have hsz := memF_size (allF l kCL)
  obtain ⟨R, hR⟩ : ∃ R, R = flen l := ⟨_, rfl⟩
  rw [← hR]
  unfold flen at hR
  generalize allF l kCL = vs at hm hbz hml hsz hR
  cases hq : memF vs with
  | none =>
    rw [hq] at hm hR
    have HV : Hid (R = none) := Lib.hid hR
    have HM : Hid (Calls Tryd.prog 33 #[.slice av n c, .string ⟨#[99, 111, 110, 116, 101, 110, 116, 45, 108, 101, 110, 103, 116, 104]⟩] w fun e w' => Below w.heap.size w w' ∧ e = .returned (.tuple #[.slice none 0 0, .int .i64 5])) := Lib.hid hm
    clear hm hq hml hsz hbz hs hn hz hR
    go_enter Tryd.func81, Tryd.ntmps81
    go_wp2_with fail
    refine HM.out.mono ?_; rintro e w1 ⟨hb, rfl⟩
    have HB := Lib.hid hb
    clear hb
    go_wp2
    go_ret2
    exact lenSays_none HV.out HB.out
  | some ms =>
    rw [hq] at hm hR
    simp only [Option.bind_some] at hR
    have hl := hml ms hq
    have hsm := hsz ms hq
    obtain ⟨k1, hk1⟩ : ∃ k1, ms.length = k1 := ⟨_, rfl⟩
    have HM : Hid (Calls Tryd.prog 33 #[.slice av n c, .string ⟨#[99, 111, 110, 116, 101, 110, 116, 45, 108, 101, 110, 103, 116, 104]⟩] w fun e w' => Below w.heap.size w w' ∧ ∃ a c, e = .returned (.tuple #[.slice a k1 c, .int .i64 0]) ∧ SrcS w' a c (ms.map mk)) := Lib.hid (hm.mono fun e w' ⟨h1, v, h2, h3⟩ => by
      obtain ⟨a, c, h4, h5, _⟩ := strs_one _ _ _ _ h3
      rw [List.length_map, hk1] at h4
      exact ⟨h1, a, c, by rw [h2, h4], h5⟩)
    by_cases h0 : k1 = 0
    · have hnil : ms = [] := List.eq_nil_of_length_eq_zero (by omega)
      have HV : Hid (R = none) := Lib.hid (by rw [hR, hnil]; rfl)
      subst h0
      clear hm hq hml hsz hbz hs hn hz hR hl hsm hk1 hnil
      go_enter Tryd.func81, Tryd.ntmps81
      go_wp2_with fail
      refine HM.out.mono ?_; rintro e w1 ⟨hb, a1, c1, rfl, hs1⟩
      have HB := Lib.hid hb
      clear hb hs1
      go_wp2
      go_ret2
      exact lenSays_none HV.out HB.out
    · have hne : ms ≠ [] := fun e => by rw [e] at hk1; simp at hk1; omega
      have hRd : R = lenF (ms.drop 0) (-1) := by rw [hR, List.drop_zero]; unfold lenM; rw [if_neg hne]
      have e1 : ((k1 : Int) == 0) = false := by simp; omega
      have hkb : k1 ≤ 1073741824 := by omega
      have HK := Lib.hid hk1
      have hsm2 : ∀ m ∈ ms, m.length ≤ 1073741824 := fun m hm => by have := hsm m hm; omega
      have HSM := Lib.hid hsm2
      have h0l : 0 < ms.length := by omega
      have hcell : ∀ wx (a : Option Addr) c (k : Nat) (hk : k < ms.length), SrcS wx a c (ms.map mk) → ∃ b o, a = some ⟨b, o, none⟩ ∧ b < wx.heap.size ∧ wx.cell? ⟨b, o + k, none⟩ = some (.string (mk ms[k])) := fun wx a c k hk h => by
        obtain ⟨b, o, e1, e2, e3⟩ := h.at_ k (by simpa using hk)
        rw [mk_at ms k hk] at e3
        exact ⟨b, o, e1, e2, e3⟩
      have hdec : ∀ k (hk : k < ms.length) wx, Calls Tryd.prog 93 #[.string (mk ms[k])] wx fun e w' => e = .returned (.tuple #[.int .i64 (Num.meant 10 ms[k]).1, .int .i64 (Num.meant 10 ms[k]).2]) ∧ wx = w' := fun k hk wx => by
        have := Num.refdecimal_any (mk ms[k]) wx (by rw [show (mk ms[k]).size = ms[k].length from size_mk _]; have := hsm2 _ (List.getElem_mem hk); unfold maxLen; omega)
        rw [mk_list] at this; exact this
      have HC := Lib.hid hcell
      have HD := Lib.hid hdec
      -- the first
      have hbad := lenF_bad ms 0 (-1) h0l
      have hnx := lenF_next ms 0 (-1) h0l
      have hmi := meant_is ms[0]
      have hd0 := hdec 0 h0l
      have hc0 : ∀ wx (a : Option Addr) c, SrcS wx a c (ms.map mk) → ∃ b o, a = some ⟨b, o, none⟩ ∧ b < wx.heap.size ∧ wx.cell? ⟨b, o, none⟩ = some (.string (mk ms[0])) := fun wx a c h => by
        obtain ⟨b, o, e1, e2, e3⟩ := hcell wx a c 0 h0l h
        exact ⟨b, o, e1, e2, by rw [Nat.add_zero] at e3; exact e3⟩
      generalize mk ms[0] = T at hd0 hc0
      generalize Num.meant 10 ms[0] = mt at hbad hnx hmi hd0
      obtain ⟨mv, mc⟩ := mt
      simp only at hbad hnx hmi hd0
      have HD0 := Lib.hid hd0
      have HC0 := Lib.hid hc0
      have hkp : 0 < k1 := by omega
      rcases hmi with ⟨hz2, hm0, hm1⟩ | ⟨hz2, hm0⟩
      case inr =>
        have HV2 := Lib.hid (hRd.trans (hbad (.inl (by rcases hm0 with e | e <;> rw [e] <;> decide))))
        have e2 : (mc != 0) = true := by rcases hm0 with e | e <;> rw [e] <;> rfl
        have e3 : (mc == 0) = false := by rcases hm0 with e | e <;> rw [e] <;> rfl
        clear hm hq hml hsz hbz hs hn hz hR hl hsm hk1 hne h0 hRd hsm2 h0l hcell hdec hbad hnx hd0 hc0 hz2 hm0
        go_enter Tryd.func81, Tryd.ntmps81
        go_wp2_with fail
        refine HM.out.mono ?_; rintro e w1 ⟨hb, a1, c1, rfl, hs1⟩
        obtain ⟨b1, o1, rfl, hb1, d1⟩ := HC0.out _ _ _ hs1
        have HB := Lib.hid hb
        clear hb hs1
        go_wp2_with fail
        refine (HD0.out _).mono ?_; rintro e w2 ⟨rfl, rfl⟩
        go_wp2
        go_ret2
        exact lenSays_none HV2.out HB.out
      case inl =>
        subst hz2
        have HV : Hid (R = lenF (ms.drop 1) mv) := Lib.hid (hRd.trans (hnx (by simp)))
        clear hm hq hml hsz hbz hs hn hz hR hl hsm hk1 hne h0 hRd hsm2 h0l hcell hdec hbad hnx hd0 hc0
        go_enter Tryd.func81, Tryd.ntmps81
        go_wp2_with fail
        refine HM.out.mono ?_; rintro e w1 ⟨hb, a1, c1, rfl, hs1⟩
        obtain ⟨b1, o1, rfl, hb1, d1⟩ := HC0.out _ _ _ hs1
        have HB := Lib.hid hb
        have HS1 := Lib.hid hs1
        clear hb hs1
        go_wp2_with fail
        refine (HD0.out _).mono ?_; rintro e w2 ⟨rfl, rfl⟩
        clear d1 e1
        go_wp2_with fail
        go_loop [7] (fun i => ∃ (k : Nat), k ≤ k1 ∧ 1 ≤ k ∧ i = .int .i64 k ∧ R = lenF (ms.drop k) mv) (fun i => k1 - (intOf i).toNat)
        case atStart => exact ⟨1, by omega, by omega, rfl, HV.out⟩
        case round =>
          obtain ⟨k, hk, hk0, rfl, hR⟩ := hrel
          by_cases hlt : k < k1
          case neg =>
            have HV2 : Hid (R = some mv) := Lib.hid (by rw [hR]; exact lenF_end ms k mv (by rw [HK.out]; omega))
            clear hR
            go_wp2
            go_ret2
            exact lenSays_some HV2.out HB.out
          case pos =>
            have hkl : k < ms.length := by rw [HK.out]; exact hlt
            obtain ⟨b2, o2, he2, hb2, d2⟩ := HC.out _ _ _ k hkl HS1.out
            simp only [Option.some.injEq, Addr.mk.injEq] at he2
            obtain ⟨rfl, rfl, _⟩ := he2
            have hbad := lenF_bad ms k mv hkl
            have hnx := lenF_next ms k mv hkl
            have hmi := meant_is ms[k]
            have hde := HD.out k hkl
            generalize mk ms[k] = T2 at d2 hde
            generalize Num.meant 10 ms[k] = mt at hbad hnx hmi hde
            obtain ⟨nv, nc⟩ := mt
            simp only at hbad hnx hmi hde
            have HDE := Lib.hid hde
            rcases hmi with ⟨hz, hn0, hn1⟩ | ⟨hz, hn0⟩
            · subst hz
              by_cases he : nv = mv
              · subst he
                have HV2 := Lib.hid (hR.trans (hnx (by simp)))
                clear hbad hnx hde hR hkl
                go_wp2_with fail
                refine (HDE.out _).mono ?_; rintro e w2 ⟨rfl, rfl⟩
                go_wp2
                go_round
                case rel => exact ⟨k + 1, by omega, by omega, by go_num, HV2.out⟩
                case measure => simp [intOf]; omega
              · have HV2 := Lib.hid (hR.trans (hbad (.inr ⟨hm0, he⟩)))
                have e2 : (nv != mv) = true := by simp [he]
                have e3 : (nv == mv) = false := by simp [he]
                clear hbad hnx hde hR hkl he
                go_wp2_with fail
                refine (HDE.out _).mono ?_; rintro e w2 ⟨rfl, rfl⟩
                go_wp2
                go_ret2
                exact lenSays_none HV2.out HB.out
            · have HV2 := Lib.hid (hR.trans (hbad (.inl (by rcases hn0 with e | e <;> rw [e] <;> decide))))
              have e2 : (nc != 0) = true := by rcases hn0 with e | e <;> rw [e] <;> rfl
              have e3 : (nc == 0) = false := by rcases hn0 with e | e <;> rw [e] <;> rfl
              clear hbad hnx hde hR hkl hn0 hz
              go_wp2_with fail
              refine (HDE.out _).mono ?_; rintro e w2 ⟨rfl, rfl⟩
              go_wp2
              go_ret2
              exact lenSays_none HV2.out HB.out
end Go.Proofs.YtkadingpmebjbaaDoor
