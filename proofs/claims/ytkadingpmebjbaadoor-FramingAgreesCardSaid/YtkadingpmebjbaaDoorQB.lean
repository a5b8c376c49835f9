/- How a body ends: the program's coding, length, read, measured. -/
import Derived.Test.YtkadingpmebjbaaDoorQA
set_option linter.unusedVariables false
namespace Go.Proofs.YtkadingpmebjbaaDoor
open Go.RowKit

theorem chkM_no {R : Option (List (List UInt8))} (h : ∀ m, R ≠ some [m]) : chkM R = false := by
  cases R with
  | none => rfl
  | some ms => cases ms with
    | nil => rfl
    | cons m r => cases r with
      | nil => exact absurd rfl (h m)
      | cons _ _ => rfl
set_option maxHeartbeats 8000000 in
set_option maxRecDepth 100000 in
theorem coding_any (l : AL) (av : Option Addr) (n c : Nat) (w : World) (hn : l.length = n) (hs : SrcA w av c l) (hz : asz l ≤ 1073741824) :
    Calls Tryd.prog 78 #[.slice av n c] w fun e w' => e = .returned (.int .i64 (if fchk l = true then 0 else 21)) ∧ Below w.heap.size w w' := by
  have hm := members_any l kTE av n c w hn hs hz (by decide)
  have hbz := allF_bsz l kTE
  have hml := memF_len (allF l kTE)
  have hsz := memF_size (allF l kTE)
  unfold fchk
  generalize allF l kTE = vs at hm hbz hml hsz ⊢
  cases hq : memF vs with
  | none =>
    rw [hq] at hm
    have HM : Hid (Calls Tryd.prog 32 #[.slice av n c, .string ⟨#[116, 114, 97, 110, 115, 102, 101, 114, 45, 101, 110, 99, 111, 100, 105, 110, 103]⟩] w fun e w' => Below w.heap.size w w' ∧ e = .returned (.tuple #[.slice none 0 0, .int .i64 5])) := Lib.hid hm
    clear hm hq hml hsz hbz hs hn hz
    go_enter Tryd.func78, Tryd.ntmps78
    go_wp2_with fail
    refine HM.out.mono ?_; rintro e w1 ⟨hb, rfl⟩
    have HB := Lib.hid hb
    clear hb
    go_wp2
    go_ret
    exact ⟨rfl, HB.out⟩
  | some ms =>
    rw [hq] at hm
    have hl := hml ms hq
    have hsm := hsz ms hq
    obtain ⟨k1, hk1⟩ : ∃ k1, ms.length = k1 := ⟨_, rfl⟩
    have HM : Hid (Calls Tryd.prog 32 #[.slice av n c, .string ⟨#[116, 114, 97, 110, 115, 102, 101, 114, 45, 101, 110, 99, 111, 100, 105, 110, 103]⟩] w fun e w' => Below w.heap.size w w' ∧ ∃ a c, e = .returned (.tuple #[.slice a k1 c, .int .i64 0]) ∧ SrcS w' a c (ms.map mk)) := Lib.hid (hm.mono fun e w' ⟨h1, v, h2, h3⟩ => by
      obtain ⟨a, c, h4, h5, _⟩ := strs_one _ _ _ _ h3
      rw [List.length_map, hk1] at h4
      exact ⟨h1, a, c, by rw [h2, h4], h5⟩)
    by_cases h1 : k1 = 1
    · obtain ⟨m, rfl⟩ : ∃ m, ms = [m] := by
        cases ms with
        | nil => simp at hk1; omega
        | cons m r => cases r with
          | nil => exact ⟨m, rfl⟩
          | cons _ _ => simp at hk1; omega
      have hms := hsm m (by simp)
      have hse : ∀ wx, Calls Tryd.prog 35 #[.string (mk m), .string ⟨#[99, 104, 117, 110, 107, 101, 100]⟩] wx fun e w' => e = .returned (.bool (sameB (mk m) kCh)) ∧ Below wx.heap.size wx w' := fun wx => same_any (mk m) kCh wx (by rw [show (mk m).size = m.length from size_mk _]; omega) (by decide)
      have hchk : chkM (some [m]) = sameB (mk m) kCh := rfl
      rw [hchk]
      subst h1
      have e1 : ((1 : Int) != 1) = false := rfl
      obtain ⟨T, hT⟩ : ∃ T, mk m = T := ⟨_, rfl⟩
      have hcell : ∀ wx (a : Option Addr) c, SrcS wx a c ([m].map mk) → ∃ b o, a = some ⟨b, o, none⟩ ∧ b < wx.heap.size ∧ wx.cell? ⟨b, o, none⟩ = some (.string T) := fun wx a c h => by
        obtain ⟨b, o, e1, e2, e3⟩ := h.at_ 0 (by simp)
        exact ⟨b, o, e1, e2, by rw [← hT]; simpa using e3⟩
      rw [hT] at hse ⊢
      have HC := Lib.hid hcell
      cases q : sameB T kCh with
      | true =>
        rw [q] at hse
        have HSE := Lib.hid hse
        clear hm hq hml hsz hbz hs hn hz hl hsm hk1 hms hse hchk hT hcell q
        go_enter Tryd.func78, Tryd.ntmps78
        go_wp2_with fail
        refine HM.out.mono ?_; rintro e w1 ⟨hb, a1, c1, rfl, hs1⟩
        obtain ⟨b1, o1, rfl, hb1, hc1⟩ := HC.out _ _ _ hs1
        have HB := Lib.hid hb
        clear hb hs1
        go_wp2_with fail
        refine (HSE.out _).mono ?_; rintro e w2 ⟨rfl, hb⟩
        have HB2 := Lib.hid (app_below HB.out hb)
        clear hb
        go_wp2
        go_ret
        exact ⟨rfl, HB2.out⟩
      | false =>
        rw [q] at hse
        have HSE := Lib.hid hse
        clear hm hq hml hsz hbz hs hn hz hl hsm hk1 hms hse hchk hT hcell q
        go_enter Tryd.func78, Tryd.ntmps78
        go_wp2_with fail
        refine HM.out.mono ?_; rintro e w1 ⟨hb, a1, c1, rfl, hs1⟩
        obtain ⟨b1, o1, rfl, hb1, hc1⟩ := HC.out _ _ _ hs1
        have HB := Lib.hid hb
        clear hb hs1
        go_wp2_with fail
        refine (HSE.out _).mono ?_; rintro e w2 ⟨rfl, hb⟩
        have HB2 := Lib.hid (app_below HB.out hb)
        clear hb
        go_wp2
        go_ret
        exact ⟨rfl, HB2.out⟩
    · have hno : chkM (some ms) = false := chkM_no fun m e => by injection e with e; rw [e] at hk1; simp at hk1; omega
      rw [hno]
      have e1 : ((k1 : Int) != 1) = true := by simp; omega
      have e2 : ((k1 : Int) == 1) = false := by simp; omega
      clear hm hq hml hsz hbz hs hn hz hl hsm hk1 hno h1
      go_enter Tryd.func78, Tryd.ntmps78
      go_wp2_with fail
      refine HM.out.mono ?_; rintro e w1 ⟨hb, a1, c1, rfl, hs1⟩
      have HB := Lib.hid hb
      clear hb hs1
      go_wp2
      go_ret
      exact ⟨rfl, HB.out⟩

def LenSays (R : Option Int) (z : Int) (w : World) (e : Ending) (w' : World) : Prop :=
  Below w.heap.size w w' ∧ match R with
    | none => e = .returned (.tuple #[.int .i64 z, .int .i64 20])
    | some n => e = .returned (.tuple #[.int .i64 n, .int .i64 0])
theorem lenSays_none {R : Option Int} {z : Int} {w w' : World} (h : R = none) (hb : Below w.heap.size w w') : LenSays R z w (.returned (.tuple #[.int .i64 z, .int .i64 20])) w' := by
  subst h; exact ⟨hb, rfl⟩
theorem lenSays_some {R : Option Int} {z n : Int} {w w' : World} (h : R = some n) (hb : Below w.heap.size w w') : LenSays R z w (.returned (.tuple #[.int .i64 n, .int .i64 0])) w' := by
  subst h; exact ⟨hb, rfl⟩
theorem mk_at (ms : List (List UInt8)) (k : Nat) (h : k < ms.length) : (ms.map mk)[k]'(by simpa using h) = mk ms[k] := by simp

set_option maxHeartbeats 8000000 in
set_option maxRecDepth 100000 in
theorem length_any (l : AL) (av : Option Addr) (n c : Nat) (w : World) (hn : l.length = n) (hs : SrcA w av c l) (hz : asz l ≤ 1073741824) :
    Calls Tryd.prog 79 #[.slice av n c] w (LenSays (flen l) (-1) w) := by
  have hm := members_any l kCL av n c w hn hs hz (by decide)
  have hbz := allF_bsz l kCL
  have hml := memF_len (allF l kCL)
  have hsz := memF_size (allF l kCL)
  obtain ⟨R, hR⟩ : ∃ R, R = flen l := ⟨_, rfl⟩
  rw [← hR]
  unfold flen at hR
  generalize allF l kCL = vs at hm hbz hml hsz hR
  cases hq : memF vs with
  | none =>
    rw [hq] at hm hR
    have HV : Hid (R = none) := Lib.hid hR
    have HM : Hid (Calls Tryd.prog 32 #[.slice av n c, .string ⟨#[99, 111, 110, 116, 101, 110, 116, 45, 108, 101, 110, 103, 116, 104]⟩] w fun e w' => Below w.heap.size w w' ∧ e = .returned (.tuple #[.slice none 0 0, .int .i64 5])) := Lib.hid hm
    clear hm hq hml hsz hbz hs hn hz hR
    go_enter Tryd.func79, Tryd.ntmps79
    go_wp2_with fail
    refine HM.out.mono ?_; rintro e w1 ⟨hb, rfl⟩
    have HB := Lib.hid hb
    clear hb
    go_wp2
    go_ret2
    exact lenSays_none HV.out HB.out
  | some ms =>
    rw [hq] at hm hR
    simp only [Option.bind_some] at hR
    have hl := hml ms hq
    have hsm := hsz ms hq
    obtain ⟨k1, hk1⟩ : ∃ k1, ms.length = k1 := ⟨_, rfl⟩
    have HM : Hid (Calls Tryd.prog 32 #[.slice av n c, .string ⟨#[99, 111, 110, 116, 101, 110, 116, 45, 108, 101, 110, 103, 116, 104]⟩] w fun e w' => Below w.heap.size w w' ∧ ∃ a c, e = .returned (.tuple #[.slice a k1 c, .int .i64 0]) ∧ SrcS w' a c (ms.map mk)) := Lib.hid (hm.mono fun e w' ⟨h1, v, h2, h3⟩ => by
      obtain ⟨a, c, h4, h5, _⟩ := strs_one _ _ _ _ h3
      rw [List.length_map, hk1] at h4
      exact ⟨h1, a, c, by rw [h2, h4], h5⟩)
    by_cases h0 : k1 = 0
    · have hnil : ms = [] := List.eq_nil_of_length_eq_zero (by omega)
      have HV : Hid (R = none) := Lib.hid (by rw [hR, hnil]; rfl)
      subst h0
      clear hm hq hml hsz hbz hs hn hz hR hl hsm hk1 hnil
      go_enter Tryd.func79, Tryd.ntmps79
      go_wp2_with fail
      refine HM.out.mono ?_; rintro e w1 ⟨hb, a1, c1, rfl, hs1⟩
      have HB := Lib.hid hb
      clear hb hs1
      go_wp2
      go_ret2
      exact lenSays_none HV.out HB.out
    · have hne : ms ≠ [] := fun e => by rw [e] at hk1; simp at hk1; omega
      have HV : Hid (R = lenF (ms.drop 0) (-1)) := Lib.hid (by rw [hR, List.drop_zero]; unfold lenM; rw [if_neg hne])
      have e1 : ((k1 : Int) == 0) = false := by simp; omega
      have hkb : k1 ≤ 1073741824 := by omega
      have HK := Lib.hid hk1
      have HSM : Hid (∀ m ∈ ms, m.length ≤ 1073741824) := Lib.hid fun m hm => by have := hsm m hm; omega
      clear hm hq hml hsz hbz hs hn hz hR hl hsm hk1 hne h0
      go_enter Tryd.func79, Tryd.ntmps79
      go_wp2_with fail
      refine HM.out.mono ?_; rintro e w1 ⟨hb, a1, c1, rfl, hs1⟩
      have HB := Lib.hid hb
      have HS1 := Lib.hid hs1
      clear hb hs1
      go_wp2_with fail
      clear e1
      go_loop [6, 25] (fun v i => ∃ (k : Nat) (cur : Int), k ≤ k1 ∧ i = .int .i64 k ∧ v = .int .i64 cur ∧ -1 ≤ cur ∧ cur ≤ 9223372036854775807 ∧ R = lenF (ms.drop k) cur) (fun _ i => k1 - (intOf i).toNat)
      case atStart => exact ⟨0, -1, by omega, rfl, rfl, by omega, by omega, HV.out⟩
      case round =>
        obtain ⟨k, cur, hk, rfl, rfl, hc0, hc1, hR⟩ := hrel
        by_cases hlt : k < k1
        case neg =>
          have HV2 : Hid (R = some cur) := Lib.hid (by rw [hR]; exact lenF_end ms k cur (by rw [HK.out]; omega))
          clear hR
          go_wp2
          go_ret2
          exact lenSays_some HV2.out HB.out
        case pos =>
          have hkl : k < ms.length := by rw [HK.out]; exact hlt
          obtain ⟨b1, o1, rfl, hb1, d1⟩ := HS1.out.at_ k (by simpa using hkl)
          rw [mk_at ms k hkl] at d1
          have hsz := HSM.out _ (List.getElem_mem hkl)
          have hbad := lenF_bad ms k cur hkl
          have hnx := lenF_next ms k cur hkl
          have hmi := meant_is ms[k]
          have hde := fun wx => Num.decimal_any (mk ms[k]) wx (by rw [show (mk ms[k]).size = ms[k].length from size_mk _]; unfold maxLen; omega)
          rw [mk_list] at hde
          generalize mk ms[k] = T at d1 hde
          generalize Num.meant 10 ms[k] = mt at hbad hnx hmi hde
          obtain ⟨mv, mc⟩ := mt
          simp only at hbad hnx hmi hde
          have HDE := Lib.hid hde
          rcases hmi with ⟨hz, hm0, hm1⟩ | ⟨hz, hm0⟩
          · subst hz
            by_cases hp : 0 ≤ cur
            · by_cases he : mv = cur
              · subst he
                have HV2 := Lib.hid (hR.trans (hnx (by simp)))
                clear hbad hnx hde hR hkl hsz
                go_wp2_with fail
                refine (HDE.out _).mono ?_; rintro e w2 ⟨rfl, rfl⟩
                go_wp2
                go_round
                case rel => exact ⟨k + 1, mv, by omega, by go_num, rfl, by omega, by omega, HV2.out⟩
                case measure => simp [intOf]; omega
              · have HV2 := Lib.hid (hR.trans (hbad (.inr ⟨hp, he⟩)))
                have e2 : (mv != cur) = true := by simp [he]
                have e3 : (mv == cur) = false := by simp [he]
                clear hbad hnx hde hR hkl hsz he
                go_wp2_with fail
                refine (HDE.out _).mono ?_; rintro e w2 ⟨rfl, rfl⟩
                go_wp2
                go_ret2
                exact lenSays_none HV2.out HB.out
            · have HV2 := Lib.hid (hR.trans (hnx (by simp [hp])))
              clear hbad hnx hde hR hkl hsz
              go_wp2_with fail
              refine (HDE.out _).mono ?_; rintro e w2 ⟨rfl, rfl⟩
              go_wp2
              go_round
              case rel => exact ⟨k + 1, mv, by omega, by go_num, rfl, by omega, by omega, HV2.out⟩
              case measure => simp [intOf]; omega
          · have HV2 := Lib.hid (hR.trans (hbad (.inl (by rcases hm0 with e | e <;> rw [e] <;> decide))))
            have e2 : (mc != 0) = true := by rcases hm0 with e | e <;> rw [e] <;> rfl
            have e3 : (mc == 0) = false := by rcases hm0 with e | e <;> rw [e] <;> rfl
            clear hbad hnx hde hR hkl hsz hm0 hz
            go_wp2_with fail
            refine (HDE.out _).mono ?_; rintro e w2 ⟨rfl, rfl⟩
            go_wp2
            go_ret2
            exact lenSays_none HV2.out HB.out
end Go.Proofs.YtkadingpmebjbaaDoor
