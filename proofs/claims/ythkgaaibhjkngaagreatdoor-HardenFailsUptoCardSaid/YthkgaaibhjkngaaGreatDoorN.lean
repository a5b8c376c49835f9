/- Media types: the program's reading. -/
import Derived.Test.YthkgaaibhjkngaaGreatDoorL
set_option linter.unusedVariables false
namespace Go.Proofs.YthkgaaibhjkngaaGreatDoor
open Go.RowKit

theorem isSmall_yes {l : List UInt8} (h1 : isTok l = true) (h2 : l.map lwr = l) : isSmall l = true := by unfold isSmall; simp [h1, h2]
theorem isSmall_no {l : List UInt8} (h : isTok l = false ∨ l.map lwr ≠ l) : isSmall l = false := by
  unfold isSmall
  rcases h with h | h
  · simp [h]
  · simp [h]


def MediaSays (R : Option (List UInt8 × List UInt8 × List (List UInt8 × List UInt8))) (w : World) (e : Ending) (w' : World) : Prop :=
  Below w.heap.size w w' ∧ match R with
    | none => e = .returned (.tuple #[.agg #[.string ⟨#[]⟩, .string ⟨#[]⟩, .slice none 0 0], .int .i64 6])
    | some x => ∃ v, e = .returned (.tuple #[.agg #[.string (mk x.1), .string (mk x.2.1), v], .int .i64 0]) ∧ OwnA w' w.heap.size v (x.2.2.map mk2)
theorem mediaSays_none {R : Option (List UInt8 × List UInt8 × List (List UInt8 × List UInt8))} {w w' : World} (h : R = none) (hb : Below w.heap.size w w') : MediaSays R w (.returned (.tuple #[.agg #[.string ⟨#[]⟩, .string ⟨#[]⟩, .slice none 0 0], .int .i64 6])) w' := by
  subst h; exact ⟨hb, rfl⟩
theorem mediaSays_some {R : Option (List UInt8 × List UInt8 × List (List UInt8 × List UInt8))} {w w' : World} {a b : List UInt8} {ps : List (List UInt8 × List UInt8)} {v : Value} (h : R = some (a, b, ps)) (ho : OwnA w' w.heap.size v (ps.map mk2)) (hb : Below w.heap.size w w') :
    MediaSays R w (.returned (.tuple #[.agg #[.string (mk a), .string (mk b), v], .int .i64 0])) w' := by
  subst h; exact ⟨hb, v, rfl, ho⟩
theorem ownA_set_other {w : World} {base : Nat} {v : Value} {l : AL} (h : OwnA w base v l) {a : Addr} (ha : a.block < base) (u : Value) : OwnA (w.setCell a u) base v l := ownsRow_setCell_below h ha u

def zM : Array Value := #[.string ⟨#[]⟩, .string ⟨#[]⟩, .slice none 0 0]
set_option maxHeartbeats 8000000 in
set_option maxRecDepth 100000 in
theorem media_any (X : ByteArray) (w : World) (hs : X.size ≤ 1073741824) :
    Calls Tryz.prog 94 #[.string X] w (MediaSays (media X.data.toList) w) := by
  have htr := fun wx => trim_any X wx (by omega)
  have htl := trim_len X.data.toList
  rw [len_data] at htl
  obtain ⟨R, hR⟩ : ∃ R, R = media X.data.toList := ⟨_, rfl⟩
  rw [← hR]
  unfold media at hR
  obtain ⟨t, ht⟩ : ∃ t, trim X.data.toList = t := ⟨_, rfl⟩
  rw [ht] at htr htl hR
  obtain ⟨S, hS⟩ : ∃ S : ByteArray, S = ⟨t.toArray⟩ := ⟨_, rfl⟩
  rw [← hS] at htr
  have hSl : S.data.toList = t := by rw [hS]
  have hSs : S.size = t.length := by rw [hS]; exact size_mk t
  have HTR := Lib.hid htr
  have htk := fun wx => tokens_any S wx (by omega)
  rw [hSl] at htk
  have hat : ∀ k (h : k < S.size), S[k] = t.getD k 0 := fun k h => by rw [← hSl]; exact byte_getD S k h
  obtain ⟨n, hn⟩ : ∃ n, tok t = n := ⟨_, rfl⟩
  have hnt := tok_le t
  rw [hn] at htk hR hnt
  have HTK := Lib.hid htk
  -- the first three ways out
  have hcase : n = 0 ∨ (n ≠ 0 ∧ n = S.size) ∨ (n ≠ 0 ∧ n < S.size ∧ (t.getD n 0).toNat ≠ 47) ∨ (n ≠ 0 ∧ n < S.size ∧ (t.getD n 0).toNat = 47) := by
    by_cases a : n = 0
    · exact .inl a
    · by_cases b : n = S.size
      · exact .inr (.inl ⟨a, b⟩)
      · by_cases c : (t.getD n 0).toNat = 47
        · exact .inr (.inr (.inr ⟨a, by omega, c⟩))
        · exact .inr (.inr (.inl ⟨a, by omega, c⟩))
  have hout : (n = 0 ∨ (n ≠ 0 ∧ (n = S.size ∨ (∃ h : n < S.size, ((S[n].toNat : Int) != 47) = true ∧ ((S[n].toNat : Int) == 47) = false)))) → R = none → Calls Tryz.prog 94 #[.string X] w (MediaSays R w) := by
    intro hc hRn
    have HV := Lib.hid hRn
    clear hRn hcase hR hn hnt htk hat hSl hSs hS ht htl htr
    rcases hc with e | ⟨hn0, e | ⟨hlt, e3, e4⟩⟩
    · have e1 : ((n : Int) == 0) = true := by simp [e]
      clear e
      go_enter Tryz.func94, Tryz.ntmps94
      go_wp2_with fail
      refine (HTR.out _).mono ?_; rintro e w1 ⟨rfl, hb⟩
      have f0 : w1.cell? ⟨w.heap.size, 0, none⟩ = some (.string ⟨#[]⟩) := (res_cells w w1 _ _ hb 0).1.1
      have f1 : w1.cell? ⟨w.heap.size, 1, none⟩ = some (.string ⟨#[]⟩) := (res_cells w w1 _ _ hb 1).1.1
      have f2 : w1.cell? ⟨w.heap.size, 2, none⟩ = some (.slice none 0 0) := (res_cells w w1 _ _ hb 2).1.1
      have g0 := (res_cells w w1 _ _ hb 0).1.2
      have g1 := (res_cells w w1 _ _ hb 1).1.2
      have g2 := (res_cells w w1 _ _ hb 2).1.2
      have HB : Hid (Below w.heap.size w w1) := Lib.hid (((Below.refl _ _).alloc (Nat.le_refl _) _).trans (hb.mono (by simp)))
      clear hb
      go_wp2_with fail
      refine (HTK.out _).mono ?_; rintro e w2 ⟨rfl, rfl⟩
      go_wp2
      exact bodyPost_ret (v := .tuple #[.agg #[.string ⟨#[]⟩, .string ⟨#[]⟩, .slice none 0 0], .int .i64 6]) (by simp [results, Tryz.results94, go_sem, f0, f1, f2]) rfl
        (mediaSays_none HV.out (((HB.out.setCell (p := ⟨w.heap.size, 0, none⟩) (Nat.le_refl _) _).setCell (p := ⟨w.heap.size, 1, none⟩) (Nat.le_refl _) _).setCell (p := ⟨w.heap.size, 2, none⟩) (Nat.le_refl _) _))
    · by_cases e0 : n = 0
      · exact absurd e0 hn0
      have e1 : ((n : Int) == 0) = false := by have : (n : Int) ≠ 0 := by omega
                                               simpa using this
      have e2 : ((n : Int) == (S.size : Int)) = true := by simp [e]
      clear e e0
      go_enter Tryz.func94, Tryz.ntmps94
      go_wp2_with fail
      refine (HTR.out _).mono ?_; rintro e w1 ⟨rfl, hb⟩
      have f0 : w1.cell? ⟨w.heap.size, 0, none⟩ = some (.string ⟨#[]⟩) := (res_cells w w1 _ _ hb 0).1.1
      have f1 : w1.cell? ⟨w.heap.size, 1, none⟩ = some (.string ⟨#[]⟩) := (res_cells w w1 _ _ hb 1).1.1
      have f2 : w1.cell? ⟨w.heap.size, 2, none⟩ = some (.slice none 0 0) := (res_cells w w1 _ _ hb 2).1.1
      have g0 := (res_cells w w1 _ _ hb 0).1.2
      have g1 := (res_cells w w1 _ _ hb 1).1.2
      have g2 := (res_cells w w1 _ _ hb 2).1.2
      have HB : Hid (Below w.heap.size w w1) := Lib.hid (((Below.refl _ _).alloc (Nat.le_refl _) _).trans (hb.mono (by simp)))
      clear hb
      go_wp2_with fail
      refine (HTK.out _).mono ?_; rintro e w2 ⟨rfl, rfl⟩
      go_wp2
      exact bodyPost_ret (v := .tuple #[.agg #[.string ⟨#[]⟩, .string ⟨#[]⟩, .slice none 0 0], .int .i64 6]) (by simp [results, Tryz.results94, go_sem, f0, f1, f2]) rfl
        (mediaSays_none HV.out (((HB.out.setCell (p := ⟨w.heap.size, 0, none⟩) (Nat.le_refl _) _).setCell (p := ⟨w.heap.size, 1, none⟩) (Nat.le_refl _) _).setCell (p := ⟨w.heap.size, 2, none⟩) (Nat.le_refl _) _))
    · have e1 : ((n : Int) == 0) = false := by have : (n : Int) ≠ 0 := by omega
                                               simpa using this
      have e2 : ((n : Int) == (S.size : Int)) = false := by have : (n : Int) ≠ (S.size : Int) := by omega
                                                            simpa using this
      go_enter Tryz.func94, Tryz.ntmps94
      go_wp2_with fail
      refine (HTR.out _).mono ?_; rintro e w1 ⟨rfl, hb⟩
      have f0 : w1.cell? ⟨w.heap.size, 0, none⟩ = some (.string ⟨#[]⟩) := (res_cells w w1 _ _ hb 0).1.1
      have f1 : w1.cell? ⟨w.heap.size, 1, none⟩ = some (.string ⟨#[]⟩) := (res_cells w w1 _ _ hb 1).1.1
      have f2 : w1.cell? ⟨w.heap.size, 2, none⟩ = some (.slice none 0 0) := (res_cells w w1 _ _ hb 2).1.1
      have g0 := (res_cells w w1 _ _ hb 0).1.2
      have g1 := (res_cells w w1 _ _ hb 1).1.2
      have g2 := (res_cells w w1 _ _ hb 2).1.2
      have HB : Hid (Below w.heap.size w w1) := Lib.hid (((Below.refl _ _).alloc (Nat.le_refl _) _).trans (hb.mono (by simp)))
      clear hb
      go_wp2_with fail
      refine (HTK.out _).mono ?_; rintro e w2 ⟨rfl, rfl⟩
      go_wp2
      exact bodyPost_ret (v := .tuple #[.agg #[.string ⟨#[]⟩, .string ⟨#[]⟩, .slice none 0 0], .int .i64 6]) (by simp [results, Tryz.results94, go_sem, f0, f1, f2]) rfl
        (mediaSays_none HV.out (((HB.out.setCell (p := ⟨w.heap.size, 0, none⟩) (Nat.le_refl _) _).setCell (p := ⟨w.heap.size, 1, none⟩) (Nat.le_refl _) _).setCell (p := ⟨w.heap.size, 2, none⟩) (Nat.le_refl _) _))
  rcases hcase with e | ⟨e0, e⟩ | ⟨e0, e1, e2⟩ | ⟨e0, hlt, h47⟩
  · exact hout (.inl e) (by rw [hR, if_pos (.inl e)])
  · exact hout (.inr ⟨e0, .inl e⟩) (by rw [hR, if_pos (.inr (.inl (by omega)))])
  · refine hout (.inr ⟨e0, .inr ⟨e1, ?_, ?_⟩⟩) (by rw [hR, if_pos (.inr (.inr e2))])
    · rw [← hat n e1] at e2; simp; omega
    · rw [← hat n e1] at e2; simp; omega
  clear hout
  rw [if_neg (by omega)] at hR
  rw [← hat n hlt] at h47
  have e1 : ((n : Int) == 0) = false := by have : (n : Int) ≠ 0 := by omega
                                           simpa using this
  have e2 : ((n : Int) == (S.size : Int)) = false := by have : (n : Int) ≠ (S.size : Int) := by omega
                                                        simpa using this
  have e3 : ((S[n].toNat : Int) != 47) = false := by simp; omega
  have e4 : ((S[n].toNat : Int) == 47) = true := by simp; omega
  -- type
  have hlo := fun wx => lower_any (S.extract 0 n) wx (by rw [ext_size S 0 n (by omega)]; omega)
  rw [ext_list S 0 n (by omega), hSl, List.drop_zero] at hlo
  obtain ⟨ty, hty⟩ : ∃ ty, (t.take n).map lwr = ty := ⟨_, rfl⟩
  rw [hty] at hlo hR
  have HLO : Hid (∀ wx, Calls Tryz.prog 102 #[.string (S.extract 0 n)] wx fun e w' => e = .returned (.string (mk ty)) ∧ Below wx.heap.size wx w') := Lib.hid hlo
  -- rest
  obtain ⟨Y, hY⟩ : ∃ Y, S.extract (n + 1) S.size = Y := ⟨_, rfl⟩
  have hYl : Y.data.toList = t.drop (n + 1) := by rw [← hY, ext_drop, hSl]
  have hYs : Y.size + n + 1 = S.size := by rw [← hY, ext_size S _ _ (Nat.le_refl _)]; omega
  obtain ⟨r, hr⟩ : ∃ r, t.drop (n + 1) = r := ⟨_, rfl⟩
  rw [hr] at hYl hR
  have htk2 := fun wx => tokens_any Y wx (by omega)
  rw [hYl] at htk2
  obtain ⟨k, hk⟩ : ∃ k, tok r = k := ⟨_, rfl⟩
  have hkl := tok_le r
  have hrl : r.length = Y.size := by rw [← hYl]; exact len_data Y
  rw [hk] at htk2 hR hkl
  have HTK2 := Lib.hid htk2
  have HY := Lib.hid hY
  have hzs : w.heap.size + 1 = (w.alloc (.cells #[.string ⟨#[]⟩, .string ⟨#[]⟩, .slice none 0 0] 109)).heap.size := by simp
  have HZS := Lib.hid hzs
  have hXn : S.size ≤ 1073741824 := by omega
  by_cases c4 : k = 0
  · have HV : Hid (R = none) := Lib.hid (by rw [hR, if_pos c4])
    have e5 : ((k : Int) == 0) = true := by simp [c4]
    clear hR hn hnt htk hat hSl hSs hS ht htl htr e0 h47 hlo hty hY hYl hr htk2 hk hkl hrl hzs c4
    go_enter Tryz.func94, Tryz.ntmps94
    go_wp2_with fail
    refine (HTR.out _).mono ?_; rintro e w1 ⟨rfl, hb⟩
    have R1 := Lib.hid hb
    clear hb
    go_wp2_with fail
    refine (HTK.out _).mono ?_; rintro e w2 ⟨rfl, rfl⟩
    go_wp2_with fail
    refine (HLO.out _).mono ?_; rintro e w2 ⟨rfl, hb⟩
    have R2 := Lib.hid (R1.out.trans (hb.mono R1.out.size))
    clear hb
    have hr2 := R2.out
    have f0 : w2.cell? ⟨w.heap.size, 0, none⟩ = some (.string ⟨#[]⟩) := (res_cells w w2 _ _ hr2 0).1.1
    have f1 : w2.cell? ⟨w.heap.size, 1, none⟩ = some (.string ⟨#[]⟩) := (res_cells w w2 _ _ hr2 1).1.1
    have f2 : w2.cell? ⟨w.heap.size, 2, none⟩ = some (.slice none 0 0) := (res_cells w w2 _ _ hr2 2).1.1
    have g0 := (res_cells w w2 _ _ hr2 0).1.2
    have g1 := (res_cells w w2 _ _ hr2 1).1.2
    have g2 := (res_cells w w2 _ _ hr2 2).1.2
    have hz : w.heap.size < w2.heap.size := by have := hr2.size; rw [← HZS.out] at this; omega
    have HB : Hid (Below w.heap.size w w2) := Lib.hid (((Below.refl _ _).alloc (Nat.le_refl _) _).trans (hr2.mono (by simp)))
    clear hr2
    have hy := HY.out
    go_wp2_with fail
    refine (HTK2.out _).mono ?_; rintro e w3 ⟨rfl, rfl⟩
    clear hy
    go_wp2
    exact bodyPost_ret (v := .tuple #[.agg #[.string ⟨#[]⟩, .string ⟨#[]⟩, .slice none 0 0], .int .i64 6]) (by simp [results, Tryz.results94, go_sem, f0, f1, f2, hz]) rfl
      (mediaSays_none HV.out ((((HB.out.setCell (p := ⟨w.heap.size, 0, none⟩) (Nat.le_refl _) _).setCell (p := ⟨w.heap.size, 1, none⟩) (Nat.le_refl _) _).setCell (p := ⟨w.heap.size, 2, none⟩) (Nat.le_refl _) _).alloc (by simp [World.setCell]; omega) _))
  rw [if_neg c4] at hR
  have e5 : ((k : Int) == 0) = false := by have : (k : Int) ≠ 0 := by omega
                                           simpa using this
  have hlo2 := fun wx => lower_any (Y.extract 0 k) wx (by rw [ext_size Y 0 k (by omega)]; omega)
  rw [ext_list Y 0 k (by omega), hYl, List.drop_zero] at hlo2
  obtain ⟨sub, hsub⟩ : ∃ sub, (r.take k).map lwr = sub := ⟨_, rfl⟩
  rw [hsub] at hlo2 hR
  have HLO2 : Hid (∀ wx, Calls Tryz.prog 102 #[.string (Y.extract 0 k)] wx fun e w' => e = .returned (.string (mk sub)) ∧ Below wx.heap.size wx w') := Lib.hid hlo2
  have hpa := fun wx => params_any (Y.extract k Y.size) wx (by rw [ext_size Y _ _ (Nat.le_refl _)]; omega)
  rw [ext_drop, hYl] at hpa
  have hkY : k ≤ Y.size := by omega
  cases hp : prs (r.drop k) with
  | none =>
    rw [hp] at hpa hR
    have HV : Hid (R = none) := Lib.hid (by rw [hR]; rfl)
    have HPA : Hid (∀ wx, Calls Tryz.prog 120 #[.string (Y.extract k Y.size)] wx fun e w' => Below wx.heap.size wx w' ∧ e = .returned (.tuple #[.slice none 0 0, .bool false])) := Lib.hid hpa
    clear hp
    clear hR hn hnt htk hat hSl hSs hS ht htl htr e0 h47 hlo hty hY hYl hr htk2 hk hkl hrl hzs c4 hlo2 hsub hpa
    go_enter Tryz.func94, Tryz.ntmps94
    go_wp2_with fail
    refine (HTR.out _).mono ?_; rintro e w1 ⟨rfl, hb⟩
    have R1 := Lib.hid hb
    clear hb
    go_wp2_with fail
    refine (HTK.out _).mono ?_; rintro e w2 ⟨rfl, rfl⟩
    go_wp2_with fail
    refine (HLO.out _).mono ?_; rintro e w2 ⟨rfl, hb⟩
    have R2 := Lib.hid (R1.out.trans (hb.mono R1.out.size))
    have hz : w.heap.size < w2.heap.size := by have := R2.out.size; rw [← HZS.out] at this; omega
    clear hb
    have hy := HY.out
    go_wp2_with fail
    refine (HTK2.out _).mono ?_; rintro e w3 ⟨rfl, rfl⟩
    clear hy
    go_wp2_with fail
    refine (HLO2.out _).mono ?_; rintro e w3 ⟨rfl, hb⟩
    have R3 := Lib.hid hb
    have m0 := (res_cells w2 w3 _ _ hb 0).1.1
    have m1 : w3.cell? ⟨w2.heap.size, 1, none⟩ = some (.string ⟨#[]⟩) := (res_cells w2 w3 _ _ hb 1).1.1
    have m2 := (res_cells w2 w3 _ _ hb 2).1.1
    have n0 := (res_cells w2 w3 _ _ hb 0).1.2
    have n1 := (res_cells w2 w3 _ _ hb 1).1.2
    have n2 := (res_cells w2 w3 _ _ hb 2).1.2
    have hz3 : w2.heap.size < w3.heap.size := by have := hb.size; simp at this; omega
    have M0 : Hid (w3.cell? ⟨w2.heap.size, 0, none⟩ = some (.string (mk ty))) := Lib.hid m0
    have M1 := Lib.hid m1
    have M2 : Hid (w3.cell? ⟨w2.heap.size, 2, none⟩ = some (.slice none 0 0)) := Lib.hid m2
    have N0 := Lib.hid n0
    have N1 := Lib.hid n1
    have N2 := Lib.hid n2
    clear hb m0 m2 n0 n2
    go_wp2_with fail
    clear m1 n1
    refine (HPA.out _).mono ?_
    rintro e w4 ⟨hb, rfl⟩
    have hbB : Below (w.alloc (.cells #[.string ⟨#[]⟩, .string ⟨#[]⟩, .slice none 0 0] 109)).heap.size (w.alloc (.cells #[.string ⟨#[]⟩, .string ⟨#[]⟩, .slice none 0 0] 109)) w4 :=
      (((R2.out.alloc R2.out.size _).trans (R3.out.mono (by have := R2.out.size; simp at this ⊢; omega))).setCell (p := ⟨w2.heap.size, 1, none⟩) R2.out.size _).trans (hb.mono (by have := R2.out.size; have := R3.out.size; simp [World.setCell] at *; omega))
    have f0 : w4.cell? ⟨w.heap.size, 0, none⟩ = some (.string ⟨#[]⟩) := (res_cells w w4 _ _ hbB 0).1.1
    have f1 : w4.cell? ⟨w.heap.size, 1, none⟩ = some (.string ⟨#[]⟩) := (res_cells w w4 _ _ hbB 1).1.1
    have f2 : w4.cell? ⟨w.heap.size, 2, none⟩ = some (.slice none 0 0) := (res_cells w w4 _ _ hbB 2).1.1
    have g0 := (res_cells w w4 _ _ hbB 0).1.2
    have g1 := (res_cells w w4 _ _ hbB 1).1.2
    have g2 := (res_cells w w4 _ _ hbB 2).1.2
    have hlS : w2.heap.size < (w3.setCell ⟨w2.heap.size, 1, none⟩ (.string (mk sub))).heap.size := by simpa [World.setCell] using hz3
    have p0 : w4.cell? ⟨w2.heap.size, 0, none⟩ = some (.string (mk ty)) := (hb.cell (p := ⟨w2.heap.size, 0, none⟩) hlS).trans ((World.cell?_setCell_other _ _ _ _ (by simp)).trans M0.out)
    have p1 : w4.cell? ⟨w2.heap.size, 1, none⟩ = some (.string (mk sub)) := (hb.cell (p := ⟨w2.heap.size, 1, none⟩) hlS).trans (World.cell?_setCell_same _ _ _ M1.out)
    have p2 : w4.cell? ⟨w2.heap.size, 2, none⟩ = some (.slice none 0 0) := (hb.cell (p := ⟨w2.heap.size, 2, none⟩) hlS).trans ((World.cell?_setCell_other _ _ _ _ (by simp)).trans M2.out)
    have q2 : w4.frozen? ⟨w2.heap.size, 2, none⟩ = false := (hb.frozen (p := ⟨w2.heap.size, 2, none⟩) hlS).trans ((World.frozen?_setCell _ _ _ _).trans N2.out)
    have hne : w.heap.size ≠ w2.heap.size := by omega
    have hne2 : w2.heap.size ≠ w.heap.size := by omega
    have HB4 : Hid (Below w.heap.size w w4) := Lib.hid (((Below.refl _ _).alloc (Nat.le_refl _) _).trans (hbB.mono (by simp)))
    have hz4 : w2.heap.size < w4.heap.size := by have := hb.size; omega
    clear hb hbB p0 p1 p2 q2 hlS hne hne2
    go_wp2
    exact bodyPost_ret (v := .tuple #[.agg #[.string ⟨#[]⟩, .string ⟨#[]⟩, .slice none 0 0], .int .i64 6]) (by simp [results, Tryz.results94, go_sem, f0, f1, f2]) rfl
      (mediaSays_none HV.out (((HB4.out.setCell (p := ⟨w.heap.size, 0, none⟩) (Nat.le_refl _) _).setCell (p := ⟨w.heap.size, 1, none⟩) (Nat.le_refl _) _).setCell (p := ⟨w.heap.size, 2, none⟩) (Nat.le_refl _) _))
  | some ps =>
    rw [hp] at hpa hR
    have HV : Hid (R = some (ty, sub, ps)) := Lib.hid (by rw [hR]; rfl)
    have HPA : Hid (∀ wx, Calls Tryz.prog 120 #[.string (Y.extract k Y.size)] wx fun e w' => Below wx.heap.size wx w' ∧ ∃ v, e = .returned (.tuple #[v, .bool true]) ∧ OwnA w' wx.heap.size v (ps.map mk2)) := Lib.hid hpa
    clear hp
    clear hR hn hnt htk hat hSl hSs hS ht htl htr e0 h47 hlo hty hY hYl hr htk2 hk hkl hrl hzs c4 hlo2 hsub hpa
    go_enter Tryz.func94, Tryz.ntmps94
    go_wp2_with fail
    refine (HTR.out _).mono ?_; rintro e w1 ⟨rfl, hb⟩
    have R1 := Lib.hid hb
    clear hb
    go_wp2_with fail
    refine (HTK.out _).mono ?_; rintro e w2 ⟨rfl, rfl⟩
    go_wp2_with fail
    refine (HLO.out _).mono ?_; rintro e w2 ⟨rfl, hb⟩
    have R2 := Lib.hid (R1.out.trans (hb.mono R1.out.size))
    have hz : w.heap.size < w2.heap.size := by have := R2.out.size; rw [← HZS.out] at this; omega
    clear hb
    have hy := HY.out
    go_wp2_with fail
    refine (HTK2.out _).mono ?_; rintro e w3 ⟨rfl, rfl⟩
    clear hy
    go_wp2_with fail
    refine (HLO2.out _).mono ?_; rintro e w3 ⟨rfl, hb⟩
    have R3 := Lib.hid hb
    have m0 := (res_cells w2 w3 _ _ hb 0).1.1
    have m1 : w3.cell? ⟨w2.heap.size, 1, none⟩ = some (.string ⟨#[]⟩) := (res_cells w2 w3 _ _ hb 1).1.1
    have m2 := (res_cells w2 w3 _ _ hb 2).1.1
    have n0 := (res_cells w2 w3 _ _ hb 0).1.2
    have n1 := (res_cells w2 w3 _ _ hb 1).1.2
    have n2 := (res_cells w2 w3 _ _ hb 2).1.2
    have hz3 : w2.heap.size < w3.heap.size := by have := hb.size; simp at this; omega
    have M0 : Hid (w3.cell? ⟨w2.heap.size, 0, none⟩ = some (.string (mk ty))) := Lib.hid m0
    have M1 := Lib.hid m1
    have M2 : Hid (w3.cell? ⟨w2.heap.size, 2, none⟩ = some (.slice none 0 0)) := Lib.hid m2
    have N0 := Lib.hid n0
    have N1 := Lib.hid n1
    have N2 := Lib.hid n2
    clear hb m0 m2 n0 n2
    go_wp2_with fail
    clear m1 n1
    refine (HPA.out _).mono ?_
    rintro e w4 ⟨hb, v, rfl, hown⟩
    have hbB : Below (w.alloc (.cells #[.string ⟨#[]⟩, .string ⟨#[]⟩, .slice none 0 0] 109)).heap.size (w.alloc (.cells #[.string ⟨#[]⟩, .string ⟨#[]⟩, .slice none 0 0] 109)) w4 :=
      (((R2.out.alloc R2.out.size _).trans (R3.out.mono (by have := R2.out.size; simp at this ⊢; omega))).setCell (p := ⟨w2.heap.size, 1, none⟩) R2.out.size _).trans (hb.mono (by have := R2.out.size; have := R3.out.size; simp [World.setCell] at *; omega))
    have f0 : w4.cell? ⟨w.heap.size, 0, none⟩ = some (.string ⟨#[]⟩) := (res_cells w w4 _ _ hbB 0).1.1
    have f1 : w4.cell? ⟨w.heap.size, 1, none⟩ = some (.string ⟨#[]⟩) := (res_cells w w4 _ _ hbB 1).1.1
    have f2 : w4.cell? ⟨w.heap.size, 2, none⟩ = some (.slice none 0 0) := (res_cells w w4 _ _ hbB 2).1.1
    have g0 := (res_cells w w4 _ _ hbB 0).1.2
    have g1 := (res_cells w w4 _ _ hbB 1).1.2
    have g2 := (res_cells w w4 _ _ hbB 2).1.2
    have hlS : w2.heap.size < (w3.setCell ⟨w2.heap.size, 1, none⟩ (.string (mk sub))).heap.size := by simpa [World.setCell] using hz3
    have p0 : w4.cell? ⟨w2.heap.size, 0, none⟩ = some (.string (mk ty)) := (hb.cell (p := ⟨w2.heap.size, 0, none⟩) hlS).trans ((World.cell?_setCell_other _ _ _ _ (by simp)).trans M0.out)
    have p1 : w4.cell? ⟨w2.heap.size, 1, none⟩ = some (.string (mk sub)) := (hb.cell (p := ⟨w2.heap.size, 1, none⟩) hlS).trans (World.cell?_setCell_same _ _ _ M1.out)
    have p2 : w4.cell? ⟨w2.heap.size, 2, none⟩ = some (.slice none 0 0) := (hb.cell (p := ⟨w2.heap.size, 2, none⟩) hlS).trans ((World.cell?_setCell_other _ _ _ _ (by simp)).trans M2.out)
    have q2 : w4.frozen? ⟨w2.heap.size, 2, none⟩ = false := (hb.frozen (p := ⟨w2.heap.size, 2, none⟩) hlS).trans ((World.frozen?_setCell _ _ _ _).trans N2.out)
    have hne : w.heap.size ≠ w2.heap.size := by omega
    have hne2 : w2.heap.size ≠ w.heap.size := by omega
    have HB4 : Hid (Below w.heap.size w w4) := Lib.hid (((Below.refl _ _).alloc (Nat.le_refl _) _).trans (hbB.mono (by simp)))
    have hz4 : w2.heap.size < w4.heap.size := by have := hb.size; omega
    obtain ⟨va, vc, rfl, _⟩ := ownA_src hown
    have HO : Hid (∀ u1 u2 u3 u4, OwnA ((((w4.setCell ⟨w2.heap.size, 2, none⟩ u1).setCell ⟨w.heap.size, 0, none⟩ u2).setCell ⟨w.heap.size, 1, none⟩ u3).setCell ⟨w.heap.size, 2, none⟩ u4) w.heap.size (.slice va (ps.map mk2).length vc) (ps.map mk2)) := Lib.hid fun u1 u2 u3 u4 =>
      ownA_mono (ownA_set_other (ownA_set_other (ownA_set_other (ownA_set_other hown (by exact hlS) u1) (by simp; omega) u2) (by simp; omega) u3) (by simp; omega) u4) (by omega)
    have HB9 : Hid (∀ u1 u2 u3 u4, Below w.heap.size w ((((w4.setCell ⟨w2.heap.size, 2, none⟩ u1).setCell ⟨w.heap.size, 0, none⟩ u2).setCell ⟨w.heap.size, 1, none⟩ u3).setCell ⟨w.heap.size, 2, none⟩ u4)) := Lib.hid fun u1 u2 u3 u4 =>
      (((HB4.out.setCell (p := ⟨w2.heap.size, 2, none⟩) (by simp; omega) _).setCell (p := ⟨w.heap.size, 0, none⟩) (Nat.le_refl _) _).setCell (p := ⟨w.heap.size, 1, none⟩) (Nat.le_refl _) _).setCell (p := ⟨w.heap.size, 2, none⟩) (Nat.le_refl _) _
    clear hb hbB hlS hown
    generalize (ps.map mk2).length = pn at HO
    go_wp2
    exact bodyPost_ret (v := .tuple #[.agg #[.string (mk ty), .string (mk sub), .slice va pn vc], .int .i64 0]) (by simp [results, Tryz.results94, go_sem, f0, f1, f2]) rfl
      (mediaSays_some HV.out (HO.out _ _ _ _) (HB9.out _ _ _ _))
end Go.Proofs.YthkgaaibhjkngaaGreatDoor
