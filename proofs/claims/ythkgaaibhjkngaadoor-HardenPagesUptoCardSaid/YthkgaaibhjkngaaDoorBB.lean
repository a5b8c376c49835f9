/- A media type's parameter: the document's answer. -/
import Derived.Test.YthkgaaibhjkngaaDoorBA
set_option linter.unusedVariables false
namespace Go.Proofs.YthkgaaibhjkngaaDoor
open Go.RowKit

def RPrmSays (n : Nat) (R : Option ((List UInt8 × List UInt8) × Nat)) (w : World) (e : Ending) (w' : World) : Prop :=
  e = (if n = 0 then .returned (.tuple #[.agg #[.string ⟨#[]⟩, .string ⟨#[]⟩], .int .i64 0]) else match R with
    | none => .returned (.tuple #[.agg #[.string ⟨#[]⟩, .string ⟨#[]⟩], .int .i64 (-1)])
    | some x => .returned (.tuple #[.agg #[.string (mk x.1.1), .string (mk x.1.2)], .int .i64 x.2])) ∧ Below w.heap.size w w'
theorem rprm_zero {n : Nat} {R : Option ((List UInt8 × List UInt8) × Nat)} {w w' : World} (h : n = 0) (hb : Below w.heap.size w w') : RPrmSays n R w (.returned (.tuple #[.agg #[.string ⟨#[]⟩, .string ⟨#[]⟩], .int .i64 0])) w' := ⟨by rw [if_pos h], hb⟩
theorem rprm_none {n : Nat} {R : Option ((List UInt8 × List UInt8) × Nat)} {w w' : World} (h : n ≠ 0) (hR : R = none) (hb : Below w.heap.size w w') : RPrmSays n R w (.returned (.tuple #[.agg #[.string ⟨#[]⟩, .string ⟨#[]⟩], .int .i64 (-1)])) w' := ⟨by rw [if_neg h, hR], hb⟩
theorem rprm_some {n : Nat} {R : Option ((List UInt8 × List UInt8) × Nat)} {w w' : World} {a b : List UInt8} {k : Nat} {A B : ByteArray} {v : Int} (h0 : n ≠ 0) (h : R = some ((a, b), k)) (hA : A = mk a) (hB : B = mk b) (hv : v = k) (hb : Below w.heap.size w w') :
    RPrmSays n R w (.returned (.tuple #[.agg #[.string A, .string B], .int .i64 v])) w' := by
  subst h hA hB hv; exact ⟨by rw [if_neg h0], hb⟩
theorem tch34 : tch 34 = false := by decide
theorem tok_quote (l : List UInt8) (h : (l.headD 0).toNat = 34) : tok l = 0 := by
  cases l with
  | nil => rfl
  | cons c r =>
    have hc := u34 h
    rw [tok_cons]
    have : c = 34 := hc
    rw [this, if_neg (by rw [tch34]; simp)]
where u34 {c : UInt8} {r : List UInt8} (h : ((c :: r).headD 0).toNat = 34) : c = 34 := UInt8.toNat_inj.1 h
theorem unq_no (l : List UInt8) (h : l = [] ∨ (l.headD 0).toNat ≠ 34) : unq l = none := by
  cases l with
  | nil => rfl
  | cons c r =>
    unfold unq
    simp only
    rw [if_neg]
    rcases h with h | h
    · cases h
    · exact h

def zP : Array Value := #[.string ⟨#[]⟩, .string ⟨#[]⟩]
set_option maxHeartbeats 8000000 in
set_option maxRecDepth 100000 in
theorem rparam_any (X : ByteArray) (w : World) (hs : X.size ≤ 1073741824) :
    Calls Tryd.prog 98 #[.string X] w (RPrmSays (tok X.data.toList) (prm X.data.toList) w) := by
  have hll := len_data X
  obtain ⟨l, hl⟩ : ∃ l, X.data.toList = l := ⟨_, rfl⟩
  have ht := fun wx => word_any X wx (by omega)
  have htl := tok_le l
  have hat : ∀ k (h : k < X.size), X[k] = l.getD k 0 := fun k h => by rw [← hl]; exact byte_getD X k h
  have hdr : ∀ k, (X.extract k X.size).data.toList = l.drop k := fun k => by rw [ext_drop, hl]
  have htk : ∀ k, k ≤ X.size → (X.extract 0 k).data.toList = l.take k := fun k h => by rw [ext_list X 0 k h, hl]; simp
  rw [hl] at hll ht ⊢
  obtain ⟨R, hR⟩ : ∃ R, R = prm l := ⟨_, rfl⟩
  rw [← hR]
  obtain ⟨n, hn⟩ : ∃ n, tok l = n := ⟨_, rfl⟩
  unfold prm at hR
  rw [hn] at ht hR htl ⊢
  have HT := Lib.hid ht
  by_cases c1 : n = 0
  · have HV : Hid (n = 0) := Lib.hid c1
    have e1 : ((n : Int) == 0) = true := by simp [c1]
    clear ht hR hn hat htl hll c1 hdr htk hl
    go_enter Tryd.func98, Tryd.ntmps98
    go_wp2_with fail
    refine (HT.out _).mono ?_; rintro e w1 ⟨rfl, rfl⟩
    go_wp2
    exact bodyPost_ret (v := .tuple #[.agg #[.string ⟨#[]⟩, .string ⟨#[]⟩], .int .i64 0]) (by simp [results, Tryd.results98, go_sem]) rfl (rprm_zero HV.out (by first | exact (Below.refl _ _).alloc (Nat.le_refl _) _ | exact (((Below.refl _ _).alloc (Nat.le_refl _) _).setCell (by simp) _).setCell (by simp) _))
  have HN0 : Hid (n ≠ 0) := Lib.hid c1
  have e1 : ((n : Int) == 0) = false := by simp; omega
  by_cases c2 : n = X.size
  · have HV : Hid (R = none) := Lib.hid (by rw [hR, if_pos (.inr (.inl (by omega)))])
    have e2 : ((n : Int) == (X.size : Int)) = true := by simp [c2]
    clear ht hR hn hat htl hll c1 c2 hdr htk hl
    go_enter Tryd.func98, Tryd.ntmps98
    go_wp2_with fail
    refine (HT.out _).mono ?_; rintro e w1 ⟨rfl, rfl⟩
    go_wp2
    exact bodyPost_ret (v := .tuple #[.agg #[.string ⟨#[]⟩, .string ⟨#[]⟩], .int .i64 (-1)]) (by simp [results, Tryd.results98, go_sem]) rfl (rprm_none HN0.out HV.out (by first | exact (Below.refl _ _).alloc (Nat.le_refl _) _ | exact (((Below.refl _ _).alloc (Nat.le_refl _) _).setCell (by simp) _).setCell (by simp) _))
  have hnl : n < X.size := by omega
  have e2 : ((n : Int) == (X.size : Int)) = false := by simp; omega
  have hx := hat n hnl
  by_cases c3 : (l.getD n 0).toNat = 61
  case neg =>
    have HV : Hid (R = none) := Lib.hid (by rw [hR, if_pos (.inr (.inr c3))])
    rw [← hx] at c3
    have e3 : ((X[n].toNat : Int) != 61) = true := by simp; omega
    have e4 : ((X[n].toNat : Int) == 61) = false := by simp; omega
    clear ht hR hn hat htl hll c1 c2 c3 hdr htk hl hx
    go_enter Tryd.func98, Tryd.ntmps98
    go_wp2_with fail
    refine (HT.out _).mono ?_; rintro e w1 ⟨rfl, rfl⟩
    go_wp2
    exact bodyPost_ret (v := .tuple #[.agg #[.string ⟨#[]⟩, .string ⟨#[]⟩], .int .i64 (-1)]) (by simp [results, Tryd.results98, go_sem]) rfl (rprm_none HN0.out HV.out (by first | exact (Below.refl _ _).alloc (Nat.le_refl _) _ | exact (((Below.refl _ _).alloc (Nat.le_refl _) _).setCell (by simp) _).setCell (by simp) _))
  rw [if_neg (by omega)] at hR
  rw [← hx] at c3
  have e3 : ((X[n].toNat : Int) != 61) = false := by simp; omega
  have e4 : ((X[n].toNat : Int) == 61) = true := by simp; omega
  -- name and rest
  have hlo := fun wx => rLower_any (X.extract 0 n) wx (by rw [ext_size X 0 n (by omega)]; omega)
  rw [htk n (by omega)] at hlo
  obtain ⟨nm, hnm⟩ : ∃ nm, (l.take n).map lwr = nm := ⟨_, rfl⟩
  rw [hnm] at hlo hR
  have HLO : Hid (∀ wx, Calls Tryd.prog 96 #[.string (X.extract 0 n)] wx fun e w' => e = .returned (.string (mk nm)) ∧ Below wx.heap.size wx w') := Lib.hid hlo
  obtain ⟨Y, hY⟩ : ∃ Y, X.extract (n + 1) X.size = Y := ⟨_, rfl⟩
  have hYl : Y.data.toList = l.drop (n + 1) := by rw [← hY]; exact hdr (n + 1)
  have hYs : Y.size + n + 1 = X.size := by rw [← hY, ext_size X _ _ (Nat.le_refl _)]; omega
  obtain ⟨r, hr⟩ : ∃ r, l.drop (n + 1) = r := ⟨_, rfl⟩
  have hrl : r.length = Y.size := by rw [← hr, ← hYl]; exact len_data Y
  have hhead : ∀ h : n + 1 < X.size, X[n + 1] = r.headD 0 := fun h => by
    rw [hat (n + 1) h, ← hr, ← head_getD, List.getD_eq_getElem?_getD, List.getD_eq_getElem?_getD, List.getElem?_drop]
  rw [hr] at hYl hR
  have HY := Lib.hid hY
  by_cases q : ∃ h : n + 1 < X.size, (X[n + 1]).toNat = 34
  · obtain ⟨hn1, q34⟩ := q
    have hq34 : (r.headD 0).toNat = 34 := by rw [← hhead hn1]; exact q34
    rw [tok_quote r hq34, if_neg (by omega)] at hR
    have e5 : ((X[n + 1].toNat : Int) == 34) = true := by simp; omega
    have hun := fun wx => rUnquote_any Y wx (by omega)
    rw [hYl] at hun
    cases hu : unq r with
    | none =>
      rw [hu] at hR hun
      have HR := Lib.hid hR
      have HUN : Hid (∀ wx, Calls Tryd.prog 120 #[.string Y] wx fun e w' => e = .returned (.tuple #[.string ⟨#[]⟩, .int .i64 0, .int .i64 5]) ∧ Below wx.heap.size wx w') := Lib.hid hun
      clear ht hR hn hat htl hll c1 c2 c3 hdr htk hl hx hlo hnm hYl hr hrl hY hun hu hhead hq34 q34
      go_enter Tryd.func98, Tryd.ntmps98
      go_wp2_with fail
      refine (HT.out _).mono ?_; rintro e w1 ⟨rfl, rfl⟩
      go_wp2_with fail
      refine (HLO.out _).mono ?_; rintro e w2 ⟨rfl, hb⟩
      have hz : w.heap.size < w2.heap.size := by have := hb.size; simp at this; omega
      have RB := Lib.hid hb
      clear hb
      have hy := HY.out
      go_wp2_with fail
      refine (HUN.out _).mono ?_; rintro e w4 ⟨rfl, hb⟩
      have hbB : Below (w.alloc (.cells #[.string ⟨#[]⟩, .string ⟨#[]⟩] 106)).heap.size (w.alloc (.cells #[.string ⟨#[]⟩, .string ⟨#[]⟩] 106)) w4 := (RB.out.alloc (by have := RB.out.size; simp at this ⊢; omega) _).trans (hb.mono (by have := RB.out.size; simp at this ⊢; omega))
      have r0 := res_cells w w4 _ _ hbB 0
      have r1 := res_cells w w4 _ _ hbB 1
      have f0 : w4.cell? ⟨w.heap.size, 0, none⟩ = some (.string ⟨#[]⟩) := r0.1.1
      have f1 : w4.cell? ⟨w.heap.size, 1, none⟩ = some (.string ⟨#[]⟩) := r1.1.1
      have g0 : w4.frozen? ⟨w.heap.size, 0, none⟩ = false := r0.1.2
      have g1 : w4.frozen? ⟨w.heap.size, 1, none⟩ = false := r1.1.2
      have hz4 : w.heap.size < w4.heap.size := by have := hb.size; simp at this; omega
      have HB4 : Hid (Below w.heap.size w w4) := Lib.hid (((Below.refl _ _).alloc (Nat.le_refl _) _).trans (hbB.mono (by simp)))
      clear hb hbB r0 r1 hy
      go_wp2
      exact bodyPost_ret (v := .tuple #[.agg #[.string ⟨#[]⟩, .string ⟨#[]⟩], .int .i64 (-1)]) (by simp [results, Tryd.results98, go_sem, f0, f1]) rfl
        (rprm_none HN0.out HR.out ((HB4.out.setCell (p := ⟨w.heap.size, 0, none⟩) (Nat.le_refl _) _).setCell (p := ⟨w.heap.size, 1, none⟩) (Nat.le_refl _) _))
    | some x =>
      obtain ⟨x1, x2⟩ := x
      rw [hu] at hR hun
      have HR : Hid (R = some ((nm, x1), n + 1 + x2)) := Lib.hid hR
      have HUN : Hid (∀ wx, Calls Tryd.prog 120 #[.string Y] wx fun e w' => e = .returned (.tuple #[.string (mk x1), .int .i64 x2, .int .i64 0]) ∧ Below wx.heap.size wx w') := Lib.hid hun
      have hxl := unq_len r _ hu
      have hx2 : x2 ≤ Y.size := by simp only at hxl; omega
      clear ht hR hn hat htl hll c1 c2 c3 hdr htk hl hx hlo hnm hYl hr hrl hY hun hu hhead hq34 q34 hxl
      go_enter Tryd.func98, Tryd.ntmps98
      go_wp2_with fail
      refine (HT.out _).mono ?_; rintro e w1 ⟨rfl, rfl⟩
      go_wp2_with fail
      refine (HLO.out _).mono ?_; rintro e w2 ⟨rfl, hb⟩
      have hz : w.heap.size < w2.heap.size := by have := hb.size; simp at this; omega
      have RB := Lib.hid hb
      clear hb
      have hy := HY.out
      go_wp2_with fail
      refine (HUN.out _).mono ?_; rintro e w4 ⟨rfl, hb⟩
      have m0 := (res_cells w2 w4 _ _ hb 0).1.1
      have m1 := (res_cells w2 w4 _ _ hb 1).1.1
      have n1 := (res_cells w2 w4 _ _ hb 1).1.2
      have hbB : Below (w.alloc (.cells #[.string ⟨#[]⟩, .string ⟨#[]⟩] 106)).heap.size (w.alloc (.cells #[.string ⟨#[]⟩, .string ⟨#[]⟩] 106)) w4 := (RB.out.alloc (by have := RB.out.size; simp at this ⊢; omega) _).trans (hb.mono (by have := RB.out.size; simp at this ⊢; omega))
      have r0 := res_cells w w4 _ _ hbB 0
      have r1 := res_cells w w4 _ _ hbB 1
      have f0 : w4.cell? ⟨w.heap.size, 0, none⟩ = some (.string ⟨#[]⟩) := r0.1.1
      have f1 : w4.cell? ⟨w.heap.size, 1, none⟩ = some (.string ⟨#[]⟩) := r1.1.1
      have g0 : w4.frozen? ⟨w.heap.size, 0, none⟩ = false := r0.1.2
      have g1 : w4.frozen? ⟨w.heap.size, 1, none⟩ = false := r1.1.2
      have hz4 : w2.heap.size < w4.heap.size := by have := hb.size; simp at this; omega
      have hne : w.heap.size ≠ w2.heap.size := by omega
      have hne2 : w2.heap.size ≠ w.heap.size := by omega
      have HB4 : Hid (Below w.heap.size w w4) := Lib.hid (((Below.refl _ _).alloc (Nat.le_refl _) _).trans (hbB.mono (by simp)))
      clear hb hbB r0 r1 hy
      go_wp2
      exact bodyPost_ret (v := .tuple #[.agg #[.string (mk nm), .string (mk x1)], .int .i64 ((n : Int) + 1 + x2)]) (by simp [results, Tryd.results98, go_sem, f0, f1]) rfl
        (rprm_some HN0.out HR.out rfl rfl (by omega) (((HB4.out.setCell (p := ⟨w2.heap.size, 1, none⟩) (by simp; omega) _).setCell (p := ⟨w.heap.size, 0, none⟩) (Nat.le_refl _) _).setCell (p := ⟨w.heap.size, 1, none⟩) (Nat.le_refl _) _))
  · obtain ⟨k, hk⟩ : ∃ k, tok r = k := ⟨_, rfl⟩
    have hkl := tok_le r
    have ht2 := fun wx => word_any Y wx (by omega)
    rw [hYl, hk] at ht2
    have hhne : r = [] ∨ (r.headD 0).toNat ≠ 34 := by
      by_cases h : n + 1 < X.size
      · right; rw [← hhead h]; exact fun e => q ⟨h, e⟩
      · left; exact List.eq_nil_of_length_eq_zero (by omega)
    rw [hk, unq_no r hhne] at hR
    rw [hk] at hkl
    have hk2 : n + 1 + k ≤ X.size := by omega
    have HT2 := Lib.hid ht2
    have HR0 : Hid (k = 0 → R = none) := Lib.hid fun e => by rw [hR, if_neg (by omega)]
    have HR1 : Hid (k ≠ 0 → R = some ((nm, r.take k), n + 1 + k)) := Lib.hid fun e => by rw [hR, if_pos (by omega)]
    have HVM : Hid (X.extract (n + 1) (n + 1 + k) = mk (r.take k)) := Lib.hid (by
      rw [ext_mk X _ _ hk2, hl, List.drop_take, Nat.add_sub_cancel_left, hr]; rfl)
    rcases Nat.lt_or_ge (n + 1) X.size with hn1 | hn1
    · have e5 : ((X[n + 1].toNat : Int) == 34) = false := by
        have : (X[n + 1]).toNat ≠ 34 := fun e => q ⟨hn1, e⟩
        simp; omega
      clear ht hR hn hat htl hll c1 c2 c3 hdr htk hl hx hlo hnm hYl hr hrl hY hhead q ht2 hk hkl hhne
      by_cases c4 : k = 0
      · have HV := Lib.hid (HR0.out c4)
        have e6 : ((k : Int) == 0) = true := by simp [c4]
        clear c4
        go_enter Tryd.func98, Tryd.ntmps98
        go_wp2_with fail
        refine (HT.out _).mono ?_; rintro e w1 ⟨rfl, rfl⟩
        go_wp2_with fail
        refine (HLO.out _).mono ?_; rintro e w2 ⟨rfl, hb⟩
        have hz : w.heap.size < w2.heap.size := by have := hb.size; simp at this; omega
        have RB := Lib.hid hb
        have r0 := res_cells w w2 _ _ hb 0
        have r1 := res_cells w w2 _ _ hb 1
        have f0 : w2.cell? ⟨w.heap.size, 0, none⟩ = some (.string ⟨#[]⟩) := r0.1.1
        have f1 : w2.cell? ⟨w.heap.size, 1, none⟩ = some (.string ⟨#[]⟩) := r1.1.1
        have g0 : w2.frozen? ⟨w.heap.size, 0, none⟩ = false := r0.1.2
        have g1 : w2.frozen? ⟨w.heap.size, 1, none⟩ = false := r1.1.2
        have HB : Hid (Below w.heap.size w w2) := Lib.hid (((Below.refl _ _).alloc (Nat.le_refl _) _).trans (hb.mono (by simp)))
        clear hb r0 r1
        have hy := HY.out
        go_wp2_with fail
        refine (HT2.out _).mono ?_; rintro e w3 ⟨rfl, rfl⟩
        clear hy
        go_wp2
        exact bodyPost_ret (v := .tuple #[.agg #[.string ⟨#[]⟩, .string ⟨#[]⟩], .int .i64 (-1)]) (by simp [results, Tryd.results98, go_sem, f0, f1, hz]) rfl
          (rprm_none HN0.out HV.out (((HB.out.setCell (p := ⟨w.heap.size, 0, none⟩) (Nat.le_refl _) _).setCell (p := ⟨w.heap.size, 1, none⟩) (Nat.le_refl _) _).alloc (by simp [World.setCell]; omega) _))
      · have HV := Lib.hid (HR1.out c4)
        have e6 : ((k : Int) == 0) = false := by simp; omega
        clear c4
        go_enter Tryd.func98, Tryd.ntmps98
        go_wp2_with fail
        refine (HT.out _).mono ?_; rintro e w1 ⟨rfl, rfl⟩
        go_wp2_with fail
        refine (HLO.out _).mono ?_; rintro e w2 ⟨rfl, hb⟩
        have hz : w.heap.size < w2.heap.size := by have := hb.size; simp at this; omega
        have r0 := res_cells w w2 _ _ hb 0
        have r1 := res_cells w w2 _ _ hb 1
        have f0 : w2.cell? ⟨w.heap.size, 0, none⟩ = some (.string ⟨#[]⟩) := r0.1.1
        have f1 : w2.cell? ⟨w.heap.size, 1, none⟩ = some (.string ⟨#[]⟩) := r1.1.1
        have g0 : w2.frozen? ⟨w.heap.size, 0, none⟩ = false := r0.1.2
        have g1 : w2.frozen? ⟨w.heap.size, 1, none⟩ = false := r1.1.2
        have HB : Hid (Below w.heap.size w w2) := Lib.hid (((Below.refl _ _).alloc (Nat.le_refl _) _).trans (hb.mono (by simp)))
        clear hb r0 r1
        have hy := HY.out
        go_wp2_with fail
        refine (HT2.out _).mono ?_; rintro e w3 ⟨rfl, rfl⟩
        clear hy
        go_wp2
        exact bodyPost_ret (v := .tuple #[.agg #[.string (mk nm), .string (X.extract (n + 1) (n + 1 + k))], .int .i64 ((n : Int) + 1 + k)]) (by simp [results, Tryd.results98, go_sem, f0, f1, hz]) rfl
          (rprm_some HN0.out HV.out rfl HVM.out (by omega) (((HB.out.setCell (p := ⟨w.heap.size, 0, none⟩) (Nat.le_refl _) _).setCell (p := ⟨w.heap.size, 1, none⟩) (Nat.le_refl _) _).alloc (by simp [World.setCell]; omega) _))
    · have hn2 : ¬ n + 1 < X.size := by omega
      clear ht hR hn hat htl hll c1 c2 c3 hdr htk hl hx hlo hnm hYl hr hrl hY hhead q ht2 hk hkl hhne
      by_cases c4 : k = 0
      · have HV := Lib.hid (HR0.out c4)
        have e6 : ((k : Int) == 0) = true := by simp [c4]
        clear c4
        go_enter Tryd.func98, Tryd.ntmps98
        go_wp2_with fail
        refine (HT.out _).mono ?_; rintro e w1 ⟨rfl, rfl⟩
        go_wp2_with fail
        refine (HLO.out _).mono ?_; rintro e w2 ⟨rfl, hb⟩
        have hz : w.heap.size < w2.heap.size := by have := hb.size; simp at this; omega
        have RB := Lib.hid hb
        have r0 := res_cells w w2 _ _ hb 0
        have r1 := res_cells w w2 _ _ hb 1
        have f0 : w2.cell? ⟨w.heap.size, 0, none⟩ = some (.string ⟨#[]⟩) := r0.1.1
        have f1 : w2.cell? ⟨w.heap.size, 1, none⟩ = some (.string ⟨#[]⟩) := r1.1.1
        have g0 : w2.frozen? ⟨w.heap.size, 0, none⟩ = false := r0.1.2
        have g1 : w2.frozen? ⟨w.heap.size, 1, none⟩ = false := r1.1.2
        have HB : Hid (Below w.heap.size w w2) := Lib.hid (((Below.refl _ _).alloc (Nat.le_refl _) _).trans (hb.mono (by simp)))
        clear hb r0 r1
        have hy := HY.out
        go_wp2_with fail
        refine (HT2.out _).mono ?_; rintro e w3 ⟨rfl, rfl⟩
        clear hy
        go_wp2
        exact bodyPost_ret (v := .tuple #[.agg #[.string ⟨#[]⟩, .string ⟨#[]⟩], .int .i64 (-1)]) (by simp [results, Tryd.results98, go_sem, f0, f1, hz]) rfl
          (rprm_none HN0.out HV.out (((HB.out.setCell (p := ⟨w.heap.size, 0, none⟩) (Nat.le_refl _) _).setCell (p := ⟨w.heap.size, 1, none⟩) (Nat.le_refl _) _).alloc (by simp [World.setCell]; omega) _))
      · have HV := Lib.hid (HR1.out c4)
        have e6 : ((k : Int) == 0) = false := by simp; omega
        clear c4
        go_enter Tryd.func98, Tryd.ntmps98
        go_wp2_with fail
        refine (HT.out _).mono ?_; rintro e w1 ⟨rfl, rfl⟩
        go_wp2_with fail
        refine (HLO.out _).mono ?_; rintro e w2 ⟨rfl, hb⟩
        have hz : w.heap.size < w2.heap.size := by have := hb.size; simp at this; omega
        have r0 := res_cells w w2 _ _ hb 0
        have r1 := res_cells w w2 _ _ hb 1
        have f0 : w2.cell? ⟨w.heap.size, 0, none⟩ = some (.string ⟨#[]⟩) := r0.1.1
        have f1 : w2.cell? ⟨w.heap.size, 1, none⟩ = some (.string ⟨#[]⟩) := r1.1.1
        have g0 : w2.frozen? ⟨w.heap.size, 0, none⟩ = false := r0.1.2
        have g1 : w2.frozen? ⟨w.heap.size, 1, none⟩ = false := r1.1.2
        have HB : Hid (Below w.heap.size w w2) := Lib.hid (((Below.refl _ _).alloc (Nat.le_refl _) _).trans (hb.mono (by simp)))
        clear hb r0 r1
        have hy := HY.out
        go_wp2_with fail
        refine (HT2.out _).mono ?_; rintro e w3 ⟨rfl, rfl⟩
        clear hy
        go_wp2
        exact bodyPost_ret (v := .tuple #[.agg #[.string (mk nm), .string (X.extract (n + 1) (n + 1 + k))], .int .i64 ((n : Int) + 1 + k)]) (by simp [results, Tryd.results98, go_sem, f0, f1, hz]) rfl
          (rprm_some HN0.out HV.out rfl HVM.out (by omega) (((HB.out.setCell (p := ⟨w.heap.size, 0, none⟩) (Nat.le_refl _) _).setCell (p := ⟨w.heap.size, 1, none⟩) (Nat.le_refl _) _).alloc (by simp [World.setCell]; omega) _))
end Go.Proofs.YthkgaaibhjkngaaDoor
