/- What stands behind a subtype: plain lists, and the program's. -/
import Derived.Test.YthkgaaibhjkngaaGreatDoorJ
set_option linter.unusedVariables false
namespace Go.Proofs.YthkgaaibhjkngaaGreatDoor
open Go.RowKit

theorem tail_len (l : List UInt8) : l.tail.length = l.length - 1 := by simp
theorem prsF_fuel : ∀ (f g : Nat) (l : List UInt8), l.length ≤ f → l.length ≤ g → prsF f l = prsF g l
  | 0, 0, _, _, _ => rfl
  | 0, g + 1, l, h, _ => by have : l = [] := List.eq_nil_of_length_eq_zero (by omega); subst this; rfl
  | f + 1, 0, l, _, h => by have : l = [] := List.eq_nil_of_length_eq_zero (by omega); subst this; rfl
  | f + 1, g + 1, l, hf, hg => by
    simp only [prsF]
    split
    · rfl
    · split
      · rfl
      · rename_i hl hs
        have hne : skip l ≠ [] := fun e => hs (.inl e)
        have hpos : 0 < (skip l).length := by cases h : skip l; exact absurd h hne; simp
        have h1 := skip_len l
        have h2 := skip_len (skip l).tail
        rw [tail_len] at h2
        split
        · exact prsF_fuel f g _ (by omega) (by omega)
        · cases prm (skip (skip l).tail) with
          | none => rfl
          | some x =>
            simp only
            rw [prsF_fuel f g _ (by rw [List.length_drop]; omega) (by rw [List.length_drop]; omega)]
theorem prs_nil : prs [] = some [] := rfl
theorem prs_step (l : List UInt8) (h : l ≠ []) :
    ((skip l = [] ∨ ((skip l).headD 0).toNat ≠ 59) → prs l = none) ∧
    (¬ (skip l = [] ∨ ((skip l).headD 0).toNat ≠ 59) →
      (tok (skip (skip l).tail) = 0 → prs l = prs (skip (skip l).tail)) ∧
      (tok (skip (skip l).tail) ≠ 0 → (prm (skip (skip l).tail) = none → prs l = none) ∧ ∀ x, prm (skip (skip l).tail) = some x → prs l = (prs ((skip (skip l).tail).drop x.2)).map (x.1 :: ·))) := by
  have hpos : 0 < l.length := by cases l; contradiction; simp
  obtain ⟨f, hf⟩ : ∃ f, l.length = f + 1 := ⟨l.length - 1, by omega⟩
  have e : prs l = prsF (f + 1) l := by unfold prs; rw [hf]
  rw [e]
  simp only [prsF]
  rw [if_neg h]
  refine ⟨fun hs => by rw [if_pos hs], fun hs => ?_⟩
  rw [if_neg hs]
  have hne : skip l ≠ [] := fun e => hs (.inl e)
  have hp2 : 0 < (skip l).length := by cases h : skip l; exact absurd h hne; simp
  have h1 := skip_len l
  have h2 := skip_len (skip l).tail
  rw [tail_len] at h2
  refine ⟨fun ht => ?_, fun ht => ⟨fun hp => ?_, fun x hp => ?_⟩⟩
  · rw [if_pos ht]; exact prsF_fuel _ _ _ (by omega) (Nat.le_refl _)
  · rw [if_neg ht, hp]
  · rw [if_neg ht, hp]
    simp only
    rw [prsF_fuel f _ ((skip (skip l).tail).drop x.2) (by rw [List.length_drop]; omega) (Nat.le_refl _)]
    rfl

def mk2 (p : List UInt8 × List UInt8) : ByteArray × ByteArray := (mk p.1, mk p.2)
def ParsSays (R : Option (List (List UInt8 × List UInt8))) (w : World) (e : Ending) (w' : World) : Prop :=
  Below w.heap.size w w' ∧ match R with
    | none => e = .returned (.tuple #[.slice none 0 0, .bool false])
    | some ps => ∃ v, e = .returned (.tuple #[v, .bool true]) ∧ OwnA w' w.heap.size v (ps.map mk2)
theorem parsSays_none {R : Option (List (List UInt8 × List UInt8))} {w w' : World} (h : R = none) (hb : Below w.heap.size w w') : ParsSays R w (.returned (.tuple #[.slice none 0 0, .bool false])) w' := by
  subst h; exact ⟨hb, rfl⟩
theorem parsSays_some {R : Option (List (List UInt8 × List UInt8))} {w w' : World} {ps : List (List UInt8 × List UInt8)} {v : Value} (h : R = some ps) (ho : OwnA w' w.heap.size v (ps.map mk2)) (hb : Below w.heap.size w w') : ParsSays R w (.returned (.tuple #[v, .bool true])) w' := by
  subst h; exact ⟨hb, v, rfl, ho⟩
theorem lit_par (A B : ByteArray) (wx : World) : SrcA (wx.alloc (.cells #[.string A, .string B] 133)) (some ⟨wx.heap.size, 0, none⟩) 1 [(A, B)] := by
  refine ⟨fun j hj => ?_, by simp, fun h => by cases h⟩
  have hj0 : j = 0 := by simpa using hj
  subst hj0
  exact ⟨_, 0, rfl, by simp, (at_alloc wx _ _ 0).1, (at_alloc wx _ _ 1).1⟩
theorem head_getD (l : List UInt8) : l.getD 0 0 = l.headD 0 := by cases l <;> rfl

set_option maxHeartbeats 8000000 in
set_option maxRecDepth 100000 in
theorem params_any (X : ByteArray) (w : World) (hs : X.size ≤ 1073741824) :
    Calls Tryz.prog 120 #[.string X] w (ParsSays (prs X.data.toList) w) := by
  obtain ⟨R, hR⟩ : ∃ R, R = prs X.data.toList := ⟨_, rfl⟩
  rw [← hR]
  have HR := Lib.hid hR
  clear hR
  go_enter Tryz.func120, Tryz.ntmps120
  go_wp2_with fail
  go_loopw [0, 4] (fun s v wr => ∃ (S : ByteArray) (acc : List (List UInt8 × List UInt8)), s = .string S ∧ S.size ≤ X.size ∧ acc.length + S.size ≤ X.size ∧ OwnA wr w.heap.size v (acc.map mk2) ∧ R = (prs S.data.toList).map (acc ++ ·) ∧ Below w.heap.size w wr) (fun s _ _ => strLen s)
  case atStart => exact ⟨X, [], rfl, Nat.le_refl _, by simp, World.ownsRow_nil _ _ _ _, by rw [HR.out]; cases prs X.data.toList <;> simp, Below.refl _ _⟩
  case round =>
    obtain ⟨S, acc, rfl, hsz, hal, hown, hRS, hb⟩ := hrel
    have HB := Lib.hid hb
    rcases Nat.eq_zero_or_pos S.size with h0 | h0
    · have hx := empty_beq h0
      subst hx
      have HV : Hid (R = some acc) := Lib.hid (by rw [hRS]; show (prs []).map _ = _; rw [prs_nil]; simp)
      have HO := Lib.hid hown
      obtain ⟨a3, c3, hv3, _⟩ := ownA_src hown
      subst hv3
      clear hRS hb hown h0
      go_wp2
      go_ret2
      exact parsSays_some HV.out HO.out HB.out
    · obtain ⟨hn1, hn2, hn3⟩ := nonempty_beq h0
      obtain ⟨st1, st2⟩ := prs_step _ hn3
      have hk := fun wx => skip_any S wx
      have hkl := skip_len S.data.toList
      rw [len_data] at hkl
      obtain ⟨s1, hs1⟩ : ∃ s1, skip S.data.toList = s1 := ⟨_, rfl⟩
      rw [hs1] at hk st1 st2 hkl
      obtain ⟨S1, hS1⟩ : ∃ S1, S1 = (⟨s1.toArray⟩ : ByteArray) := ⟨_, rfl⟩
      rw [← hS1] at hk
      have hS1l : S1.data.toList = s1 := by rw [hS1]
      have hS1s : S1.size = s1.length := by rw [hS1]; exact size_mk s1
      have HK := Lib.hid hk
      have HO := Lib.hid hown
      clear hk hown hb hs1 hS1 hn3
      by_cases hne : S1.size = 0
      · have hx := empty_beq hne
        have HV : Hid (R = none) := Lib.hid (by rw [hRS, st1 (.inl (List.eq_nil_of_length_eq_zero (by omega)))]; rfl)
        subst hx
        clear hRS st1 st2 hkl hS1l hS1s hne
        go_wp2_with fail
        refine (HK.out _).mono ?_; rintro e w1 ⟨rfl, hb⟩
        have HB1 := Lib.hid (HB.out.trans (hb.mono HB.out.size))
        clear hb
        go_wp2
        go_ret2
        exact parsSays_none HV.out HB1.out
      have hp1 : 0 < S1.size := by omega
      obtain ⟨m1, m2, m3⟩ := nonempty_beq hp1
      have hx0 := byte_getD S1 0 hp1
      rw [hS1l, head_getD] at hx0
      by_cases h59 : (S1[0]).toNat = 59
      case neg =>
        have HV : Hid (R = none) := Lib.hid (by rw [hRS, st1 (.inr (by rw [← hx0]; exact h59))]; rfl)
        have e1 : ((S1[0].toNat : Int) != 59) = true := by simp; omega
        have e2 : ((S1[0].toNat : Int) == 59) = false := by simp; omega
        clear hRS st1 st2 hkl hS1l hS1s hne hx0 h59 m3
        go_wp2_with fail
        refine (HK.out _).mono ?_; rintro e w1 ⟨rfl, hb⟩
        have HB1 := Lib.hid (HB.out.trans (hb.mono HB.out.size))
        clear hb
        go_wp2
        go_ret2
        exact parsSays_none HV.out HB1.out
      have e1 : ((S1[0].toNat : Int) != 59) = false := by simp; omega
      have e2 : ((S1[0].toNat : Int) == 59) = true := by simp; omega
      obtain ⟨st3, st4⟩ := st2 (by rintro (h | h); exact m3 (by rw [hS1l]; exact h); exact h (by rw [← hx0]; exact h59))
      have hk2 := fun wx => skip_any (S1.extract 1 S1.size) wx
      rw [ext_drop, hS1l, List.drop_one] at hk2
      have hk2l := skip_len s1.tail
      rw [tail_len] at hk2l
      obtain ⟨s2, hs2⟩ : ∃ s2, skip s1.tail = s2 := ⟨_, rfl⟩
      rw [hs2] at hk2 st3 st4 hk2l
      obtain ⟨S2, hS2⟩ : ∃ S2, S2 = (⟨s2.toArray⟩ : ByteArray) := ⟨_, rfl⟩
      rw [← hS2] at hk2
      have hS2l : S2.data.toList = s2 := by rw [hS2]
      have hS2s : S2.size = s2.length := by rw [hS2]; exact size_mk s2
      have hlt2 : S2.size < S.size := by omega
      have htk := fun wx => tokens_any S2 wx (by omega)
      have hpa := fun wx => param_any S2 wx (by omega)
      rw [hS2l] at htk hpa
      have HK2 := Lib.hid hk2
      have HTK := Lib.hid htk
      have HRS := Lib.hid hRS
      clear hk2 htk hRS hs2 hS2 st1 st2 hS1l hx0 h59 m3
      by_cases c1 : tok s2 = 0
      · have HV : Hid (R = (prs S2.data.toList).map (acc ++ ·)) := Lib.hid (by rw [HRS.out, st3 c1, hS2l])
        rw [c1] at HTK
        clear st3 st4 hpa hS2l hS2s hS1s hkl hk2l c1 hne
        go_wp2_with fail
        refine (HK.out _).mono ?_; rintro e w1 ⟨rfl, hb⟩
        have HB1 := Lib.hid (HB.out.trans (hb.mono HB.out.size))
        have HO1 := Lib.hid (ownA_below HO.out (Nat.le_refl _) hb)
        clear hb
        go_wp2_with fail
        refine (HK2.out _).mono ?_; rintro e w2 ⟨rfl, hb⟩
        have HB2 := Lib.hid (HB1.out.trans (hb.mono HB1.out.size))
        have HO2 := Lib.hid (ownA_below HO1.out (Nat.le_refl _) hb)
        clear hb
        go_wp2_with fail
        refine (HTK.out _).mono ?_; rintro e w3 ⟨rfl, rfl⟩
        go_wp2
        go_roundw
        case rel => exact ⟨S2, acc, rfl, by omega, by omega, HO2.out, HV.out, HB2.out⟩
        case measure => simp only [strLen]; omega
      obtain ⟨st5, st6⟩ := st4 c1
      obtain ⟨k, hk⟩ : ∃ k, tok s2 = k := ⟨_, rfl⟩
      rw [hk] at HTK c1
      have e3 : ((k : Int) == 0) = false := by have : (k : Int) ≠ 0 := by omega
                                               simpa using this
      cases hp : prm s2 with
      | none =>
        rw [hp] at hpa
        have HV : Hid (R = none) := Lib.hid (by rw [HRS.out, st5 hp]; rfl)
        have HPA : Hid (∀ wx, Calls Tryz.prog 137 #[.string S2] wx fun e w' => e = .returned (.tuple #[.agg #[.string ⟨#[]⟩, .string ⟨#[]⟩], .int .i64 0]) ∧ Below wx.heap.size wx w') := Lib.hid hpa
        clear st3 st4 st5 st6 hpa hp hS2l hS2s hS1s hkl hk2l c1 hne hk
        go_wp2_with fail
        refine (HK.out _).mono ?_; rintro e w1 ⟨rfl, hb⟩
        have HB1 := Lib.hid (HB.out.trans (hb.mono HB.out.size))
        clear hb
        go_wp2_with fail
        refine (HK2.out _).mono ?_; rintro e w2 ⟨rfl, hb⟩
        have HB2 := Lib.hid (HB1.out.trans (hb.mono HB1.out.size))
        clear hb
        go_wp2_with fail
        refine (HTK.out _).mono ?_; rintro e w3 ⟨rfl, rfl⟩
        go_wp2_with fail
        refine (HPA.out _).mono ?_; rintro e w4 ⟨rfl, hb⟩
        have HB4 := Lib.hid (HB2.out.trans (hb.mono HB2.out.size))
        clear hb
        go_wp2
        go_ret2
        exact parsSays_none HV.out (HB4.out.alloc HB4.out.size _)
      | some x =>
        obtain ⟨⟨x1, x2⟩, n⟩ := x
        rw [hp] at hpa
        have hxl := prm_len s2 _ hp
        simp only at hxl
        have HV : Hid (R = (prs (S2.extract n S2.size).data.toList).map ((acc ++ [(x1, x2)]) ++ ·)) := Lib.hid (by
          rw [HRS.out, st6 _ hp, ext_drop, hS2l, Option.map_map]; congr 1; funext m; simp)
        have HPA : Hid (∀ wx, Calls Tryz.prog 137 #[.string S2] wx fun e w' => e = .returned (.tuple #[.agg #[.string (mk x1), .string (mk x2)], .int .i64 n]) ∧ Below wx.heap.size wx w') := Lib.hid hpa
        have hn1 : 1 ≤ n := hxl.1
        have hn2 : n ≤ S2.size := by omega
        have e4 : ((n : Int) == 0) = false := by have : (n : Int) ≠ 0 := by omega
                                                 simpa using this
        have hmap : (acc ++ [(x1, x2)]).map mk2 = acc.map mk2 ++ [(mk x1, mk x2)] := by simp [mk2]
        have hex := ext_size S2 n S2.size (Nat.le_refl _)
        have HEX := Lib.hid hex
        have HMAP := Lib.hid hmap
        clear st3 st4 st5 st6 hpa hp hS2l hS2s hS1s hkl hk2l c1 hne hk hmap hex hxl
        generalize mk x1 = A1 at HPA HMAP
        generalize mk x2 = A2 at HPA HMAP
        go_wp2_with fail
        refine (HK.out _).mono ?_; rintro e w1 ⟨rfl, hb⟩
        have HB1 := Lib.hid (HB.out.trans (hb.mono HB.out.size))
        have HO1 := Lib.hid (ownA_below HO.out (Nat.le_refl _) hb)
        clear hb
        go_wp2_with fail
        refine (HK2.out _).mono ?_; rintro e w2 ⟨rfl, hb⟩
        have HB2 := Lib.hid (HB1.out.trans (hb.mono HB1.out.size))
        have HO2 := Lib.hid (ownA_below HO1.out (Nat.le_refl _) hb)
        clear hb
        go_wp2_with fail
        refine (HTK.out _).mono ?_; rintro e w3 ⟨rfl, rfl⟩
        go_wp2_with fail
        refine (HPA.out _).mono ?_; rintro e w4 ⟨rfl, hb⟩
        have HB4 := Lib.hid (HB2.out.trans (hb.mono HB2.out.size))
        have HO4 := Lib.hid (ownA_below HO2.out (Nat.le_refl _) hb)
        clear hb
        have HO5 : Hid (OwnA ((w4.alloc (.cells #[.string A1, .string A2] 133)).alloc (.cells #[.string A1, .string A2] 133)) w.heap.size _ (acc.map mk2)) := Lib.hid (World.ownsRow.alloc (World.ownsRow.alloc HO4.out _) _)
        have HS5 : Hid (SrcA ((w4.alloc (.cells #[.string A1, .string A2] 133)).alloc (.cells #[.string A1, .string A2] 133)) (some ⟨(w4.alloc (.cells #[.string A1, .string A2] 133)).heap.size, 0, none⟩) 1 [(A1, A2)]) := Lib.hid (lit_par A1 A2 _)
        have HB5 : Hid (Below w.heap.size w ((w4.alloc (.cells #[.string A1, .string A2] 133)).alloc (.cells #[.string A1, .string A2] 133))) := Lib.hid ((HB4.out.alloc HB4.out.size _).alloc (by have := HB4.out.size; simp; omega) _)
        go_wp2_with (at_builtin; refine app_attrs rfl _ _ rfl w.heap.size _ (acc.map mk2) rfl HO5.out _ 1 1 [(A1, A2)] rfl rfl ?s2 ?n2 HB5.out.size ?_)
        case s2 => simpa using HS5.out
        case n2 => rw [List.length_map]; simp only [List.length_cons, List.length_nil]; omega
        intro v6 w6 hown6 hb6 _
        have HO6 : Hid (OwnA w6 w.heap.size v6 ((acc ++ [(x1, x2)]).map mk2)) := Lib.hid (by rw [HMAP.out]; exact hown6)
        have HB6 : Hid (Below w.heap.size w w6) := Lib.hid (HB5.out.trans hb6.out)
        clear hown6 hb6
        go_wp2
        go_roundw
        case rel => exact ⟨_, acc ++ [(x1, x2)], rfl, by rw [HEX.out]; omega, by rw [HEX.out]; simp; omega, HO6.out, HV.out, HB6.out⟩
        case measure => simp only [strLen]; rw [HEX.out]; omega
end Go.Proofs.YthkgaaibhjkngaaGreatDoor
