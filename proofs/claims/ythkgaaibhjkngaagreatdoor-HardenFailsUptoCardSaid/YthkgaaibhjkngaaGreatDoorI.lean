/- A parameter: the program's. -/
import Derived.Test.YthkgaaibhjkngaaGreatDoorH
set_option linter.unusedVariables false
namespace Go.Proofs.YthkgaaibhjkngaaGreatDoor
open Go.RowKit

theorem bcf {W w1 : World} (hb : Below W.heap.size W w1) : (∀ b o, b < W.heap.size → w1.cell? ⟨b, o, none⟩ = W.cell? ⟨b, o, none⟩) ∧ (∀ b o, b < W.heap.size → w1.frozen? ⟨b, o, none⟩ = W.frozen? ⟨b, o, none⟩) :=
  ⟨fun b o h => hb.cell (p := ⟨b, o, none⟩) h, fun b o h => hb.frozen (p := ⟨b, o, none⟩) h⟩
theorem at_alloc (w : World) (cs : Array Value) (t : TypeId) (j : Nat) : (w.alloc (.cells cs t)).cell? ⟨w.heap.size, j, none⟩ = cs[j]? ∧ (w.alloc (.cells cs t)).frozen? ⟨w.heap.size, j, none⟩ = false := by
  have hb : (w.alloc (.cells cs t)).heap[w.heap.size]? = some (.cells cs t (0, 0)) := by
    show (w.heap.push _)[w.heap.size]? = _; simp
  exact ⟨Lib.cell_of_heap hb _, Lib.frozen_of_heap hb _⟩
/-- what a new block holds stays, behind a call and a new block -/
theorem res_cells (w w2 : World) (cs : Array Value) (t : TypeId) (hb : Below (w.alloc (.cells cs t)).heap.size (w.alloc (.cells cs t)) w2) (j : Nat) :
    (w2.cell? ⟨w.heap.size, j, none⟩ = cs[j]? ∧ w2.frozen? ⟨w.heap.size, j, none⟩ = false) ∧ ∀ o, (w2.alloc o).cell? ⟨w.heap.size, j, none⟩ = cs[j]? ∧ (w2.alloc o).frozen? ⟨w.heap.size, j, none⟩ = false := by
  obtain ⟨h1, h2⟩ := at_alloc w cs t j
  have hlt : w.heap.size < (w.alloc (.cells cs t)).heap.size := by simp
  have a1 := (hb.cell (p := ⟨w.heap.size, j, none⟩) hlt).trans h1
  have a2 := (hb.frozen (p := ⟨w.heap.size, j, none⟩) hlt).trans h2
  refine ⟨⟨a1, a2⟩, fun o => ?_⟩
  have hb2 : Below w2.heap.size w2 (w2.alloc o) := (Below.refl _ _).alloc (Nat.le_refl _) _
  have hlt2 : w.heap.size < w2.heap.size := Nat.lt_of_lt_of_le hlt hb.size
  exact ⟨(hb2.cell (p := ⟨w.heap.size, j, none⟩) hlt2).trans a1, (hb2.frozen (p := ⟨w.heap.size, j, none⟩) hlt2).trans a2⟩
def PrmSays (R : Option ((List UInt8 × List UInt8) × Nat)) (w : World) (e : Ending) (w' : World) : Prop :=
  e = (match R with
    | none => .returned (.tuple #[.agg #[.string ⟨#[]⟩, .string ⟨#[]⟩], .int .i64 0])
    | some x => .returned (.tuple #[.agg #[.string (mk x.1.1), .string (mk x.1.2)], .int .i64 x.2])) ∧ Below w.heap.size w w'
theorem prmSays_none {R : Option ((List UInt8 × List UInt8) × Nat)} {w w' : World} (h : R = none) (hb : Below w.heap.size w w') : PrmSays R w (.returned (.tuple #[.agg #[.string ⟨#[]⟩, .string ⟨#[]⟩], .int .i64 0])) w' := by
  subst h; exact ⟨rfl, hb⟩
theorem prmSays_some {R : Option ((List UInt8 × List UInt8) × Nat)} {w w' : World} {a b : List UInt8} {n : Nat} {A B : ByteArray} {v : Int} (h : R = some ((a, b), n)) (hA : A = mk a) (hB : B = mk b) (hv : v = n) (hb : Below w.heap.size w w') :
    PrmSays R w (.returned (.tuple #[.agg #[.string A, .string B], .int .i64 v])) w' := by
  subst h hA hB hv; exact ⟨rfl, hb⟩

set_option maxHeartbeats 8000000 in
set_option maxRecDepth 100000 in
theorem param_any (X : ByteArray) (w : World) (hs : X.size ≤ 1073741824) :
    Calls Tryz.prog 137 #[.string X] w (PrmSays (prm X.data.toList) w) := by
  have hll := len_data X
  obtain ⟨l, hl⟩ : ∃ l, X.data.toList = l := ⟨_, rfl⟩
  have ht := fun wx => tokens_any X wx (by omega)
  have htl := tok_le l
  have hat : ∀ k (h : k < X.size), X[k] = l.getD k 0 := fun k h => by rw [← hl]; exact byte_getD X k h
  have hdr : ∀ k, (X.extract k X.size).data.toList = l.drop k := fun k => by rw [ext_drop, hl]
  have htk : ∀ k, k ≤ X.size → (X.extract 0 k).data.toList = l.take k := fun k h => by rw [ext_list X 0 k h, hl]; simp
  rw [hl] at hll ht ⊢
  obtain ⟨R, hR⟩ : ∃ R, R = prm l := ⟨_, rfl⟩
  rw [← hR]
  obtain ⟨n, hn⟩ : ∃ n, tok l = n := ⟨_, rfl⟩
  unfold prm at hR
  rw [hn] at ht hR htl
  have HT := Lib.hid ht
  by_cases c1 : n = 0
  · have HV : Hid (R = none) := Lib.hid (by rw [hR, if_pos (.inl c1)])
    have e1 : ((n : Int) == 0) = true := by simp [c1]
    clear ht hR hn hat htl hll c1 hdr htk hl
    go_enter Tryz.func137, Tryz.ntmps137
    go_wp2_with fail
    refine (HT.out _).mono ?_; rintro e w1 ⟨rfl, rfl⟩
    go_wp2
    exact bodyPost_ret (v := .tuple #[.agg #[.string ⟨#[]⟩, .string ⟨#[]⟩], .int .i64 0]) (by simp [results, Tryz.results137, go_sem]) rfl (prmSays_none HV.out (by first | exact (Below.refl _ _).alloc (Nat.le_refl _) _ | exact (((Below.refl _ _).alloc (Nat.le_refl _) _).setCell (by simp) _).setCell (by simp) _))
  have e1 : ((n : Int) == 0) = false := by simp; omega
  by_cases c2 : n = X.size
  · have HV : Hid (R = none) := Lib.hid (by rw [hR, if_pos (.inr (.inl (by omega)))])
    have e2 : ((n : Int) == (X.size : Int)) = true := by simp [c2]
    clear ht hR hn hat htl hll c1 c2 hdr htk hl
    go_enter Tryz.func137, Tryz.ntmps137
    go_wp2_with fail
    refine (HT.out _).mono ?_; rintro e w1 ⟨rfl, rfl⟩
    go_wp2
    exact bodyPost_ret (v := .tuple #[.agg #[.string ⟨#[]⟩, .string ⟨#[]⟩], .int .i64 0]) (by simp [results, Tryz.results137, go_sem]) rfl (prmSays_none HV.out (by first | exact (Below.refl _ _).alloc (Nat.le_refl _) _ | exact (((Below.refl _ _).alloc (Nat.le_refl _) _).setCell (by simp) _).setCell (by simp) _))
  have hnl : n < X.size := by omega
  have e2 : ((n : Int) == (X.size : Int)) = false := by simp; omega
  have hx := hat n hnl
  by_cases c3 : (l.getD n 0).toNat = 61
  case neg =>
    have HV : Hid (R = none) := Lib.hid (by rw [hR, if_pos (.inr (.inr c3))])
    rw [← hx] at c3
    have e3 : ((X[n].toNat : Int) != 61) = true := by simp; omega
    have e4 : ((X[n].toNat : Int) == 61) = false := by simp; omega
    clear ht hR hn hat htl hll c1 c2 c3 hdr htk hl hx
    go_enter Tryz.func137, Tryz.ntmps137
    go_wp2_with fail
    refine (HT.out _).mono ?_; rintro e w1 ⟨rfl, rfl⟩
    go_wp2
    exact bodyPost_ret (v := .tuple #[.agg #[.string ⟨#[]⟩, .string ⟨#[]⟩], .int .i64 0]) (by simp [results, Tryz.results137, go_sem]) rfl (prmSays_none HV.out (by first | exact (Below.refl _ _).alloc (Nat.le_refl _) _ | exact (((Below.refl _ _).alloc (Nat.le_refl _) _).setCell (by simp) _).setCell (by simp) _))
  rw [if_neg (by omega)] at hR
  rw [← hx] at c3
  have e3 : ((X[n].toNat : Int) != 61) = false := by simp; omega
  have e4 : ((X[n].toNat : Int) == 61) = true := by simp; omega
  -- name and rest
  have hlo := fun wx => lower_any (X.extract 0 n) wx (by rw [ext_size X 0 n (by omega)]; omega)
  rw [htk n (by omega)] at hlo
  obtain ⟨nm, hnm⟩ : ∃ nm, (l.take n).map lwr = nm := ⟨_, rfl⟩
  rw [hnm] at hlo hR
  obtain ⟨Y, hY⟩ : ∃ Y, X.extract (n + 1) X.size = Y := ⟨_, rfl⟩
  have hYl : Y.data.toList = l.drop (n + 1) := by rw [← hY]; exact hdr (n + 1)
  have hYs : Y.size + n + 1 = X.size := by rw [← hY, ext_size X _ _ (Nat.le_refl _)]; omega
  obtain ⟨r, hr⟩ : ∃ r, l.drop (n + 1) = r := ⟨_, rfl⟩
  rw [hr] at hYl hR
  have ht2 := fun wx => tokens_any Y wx (by omega)
  rw [hYl] at ht2
  have htl2 := tok_le r
  have hrl : r.length = Y.size := by rw [← hYl]; exact len_data Y
  obtain ⟨k, hk⟩ : ∃ k, tok r = k := ⟨_, rfl⟩
  rw [hk] at ht2 hR htl2
  have HLO : Hid (∀ wx, Calls Tryz.prog 102 #[.string (X.extract 0 n)] wx fun e w' => e = .returned (.string (mk nm)) ∧ Below wx.heap.size wx w') := Lib.hid hlo
  have HT2 := Lib.hid ht2
  have HY := Lib.hid hY
  by_cases c4 : 0 < k
  · rw [if_pos c4] at hR
    have hv : (Y.extract 0 k).data.toList = r.take k := by rw [ext_list Y 0 k (by omega), hYl]; simp
    have hvm : Y.extract 0 k = mk (r.take k) := by rw [← hv]; exact (mk_data _).symm
    have HVM := Lib.hid hvm
    have HR := Lib.hid hR
    have hk2 : k ≤ Y.size := by omega
    clear ht hR hn hat htl hll c1 c2 c3 hdr htk hl hx hlo hnm hYl hr ht2 htl2 hrl hk hv hvm hY
    go_enter Tryz.func137, Tryz.ntmps137
    go_wp2_with fail
    refine (HT.out _).mono ?_; rintro e w1 ⟨rfl, rfl⟩
    go_wp2_with fail
    refine (HLO.out _).mono ?_; rintro e w2 ⟨rfl, hb⟩
    have r0 := res_cells w w2 _ _ hb 0
    have r1 := res_cells w w2 _ _ hb 1
    have f0 : w2.cell? ⟨w.heap.size, 0, none⟩ = some (.string ⟨#[]⟩) := r0.1.1
    have f1 : w2.cell? ⟨w.heap.size, 1, none⟩ = some (.string ⟨#[]⟩) := r1.1.1
    have g0 : w2.frozen? ⟨w.heap.size, 0, none⟩ = false := r0.1.2
    have g1 : w2.frozen? ⟨w.heap.size, 1, none⟩ = false := r1.1.2
    have hz : w.heap.size < w2.heap.size := by have := hb.size; simp at this; omega
    have HB : Hid (Below w.heap.size w w2) := Lib.hid (((Below.refl _ _).alloc (Nat.le_refl _) _).trans (hb.mono (by simp)))
    clear hb r0 r1
    have hy := HY.out
    go_wp2_with fail
    refine (HT2.out _).mono ?_; rintro e w3 ⟨rfl, rfl⟩
    clear hy
    go_wp2
    exact bodyPost_ret (v := .tuple #[.agg #[.string (mk nm), .string (Y.extract 0 k)], .int .i64 ((n : Int) + 1 + k)]) (by simp [results, Tryz.results137, go_sem, f0, f1, hz]) rfl
      (prmSays_some HR.out rfl HVM.out (by omega) (((HB.out.setCell (p := ⟨w.heap.size, 0, none⟩) (Nat.le_refl _) _).setCell (p := ⟨w.heap.size, 1, none⟩) (Nat.le_refl _) _).alloc (by simp [World.setCell]; omega) _))
  rw [if_neg c4] at hR
  have e5 : ¬ 0 < k := c4
  have hun := fun wx => unquote_any Y wx (by omega)
  rw [hYl] at hun
  cases hu : unq r with
  | none =>
    rw [hu] at hR hun
    have HR := Lib.hid hR
    have HUN : Hid (∀ wx, Calls Tryz.prog 138 #[.string Y] wx fun e w' => e = .returned (.tuple #[.string ⟨#[]⟩, .int .i64 0, .int .i64 5]) ∧ Below wx.heap.size wx w') := Lib.hid hun
    clear ht hR hn hat htl hll c1 c2 c3 c4 hdr htk hl hx hlo hnm hYl hr ht2 htl2 hrl hk hY hun hu
    go_enter Tryz.func137, Tryz.ntmps137
    go_wp2_with fail
    refine (HT.out _).mono ?_; rintro e w1 ⟨rfl, rfl⟩
    go_wp2_with fail
    refine (HLO.out _).mono ?_; rintro e w2 ⟨rfl, hb⟩
    have hz : w.heap.size < w2.heap.size := by have := hb.size; simp at this; omega
    have RB := Lib.hid hb
    have HB : Hid (Below w.heap.size w w2) := Lib.hid (((Below.refl _ _).alloc (Nat.le_refl _) _).trans (hb.mono (by simp)))
    clear hb
    have hy := HY.out
    go_wp2_with fail
    refine (HT2.out _).mono ?_; rintro e w3 ⟨rfl, rfl⟩
    clear hy
    go_wp2_with fail
    refine (HUN.out _).mono ?_; rintro e w4 ⟨rfl, hb⟩
    have hbB : Below (w.alloc (.cells #[.string ⟨#[]⟩, .string ⟨#[]⟩] 133)).heap.size (w.alloc (.cells #[.string ⟨#[]⟩, .string ⟨#[]⟩] 133)) w4 := (RB.out.alloc (by have := RB.out.size; simp at this ⊢; omega) _).trans (hb.mono (by have := RB.out.size; simp at this ⊢; omega))
    have r0 := res_cells w w4 _ _ hbB 0
    have r1 := res_cells w w4 _ _ hbB 1
    have f0 : w4.cell? ⟨w.heap.size, 0, none⟩ = some (.string ⟨#[]⟩) := r0.1.1
    have f1 : w4.cell? ⟨w.heap.size, 1, none⟩ = some (.string ⟨#[]⟩) := r1.1.1
    have g0 : w4.frozen? ⟨w.heap.size, 0, none⟩ = false := r0.1.2
    have g1 : w4.frozen? ⟨w.heap.size, 1, none⟩ = false := r1.1.2
    have hz4 : w.heap.size < w4.heap.size := by have := hb.size; simp at this; omega
    have HB4 : Hid (Below w.heap.size w w4) := Lib.hid (((Below.refl _ _).alloc (Nat.le_refl _) _).trans (hbB.mono (by simp)))
    clear hb hbB r0 r1
    go_wp2
    exact bodyPost_ret (v := .tuple #[.agg #[.string ⟨#[]⟩, .string ⟨#[]⟩], .int .i64 0]) (by simp [results, Tryz.results137, go_sem, f0, f1]) rfl
      (prmSays_none HR.out ((HB4.out.setCell (p := ⟨w.heap.size, 0, none⟩) (Nat.le_refl _) _).setCell (p := ⟨w.heap.size, 1, none⟩) (Nat.le_refl _) _))
  | some x =>
    obtain ⟨x1, x2⟩ := x
    rw [hu] at hR hun
    have hxl := unq_len r _ hu
    simp only at hxl
    have HR : Hid (R = some ((nm, x1), n + 1 + x2)) := Lib.hid hR
    have HUN : Hid (∀ wx, Calls Tryz.prog 138 #[.string Y] wx fun e w' => e = .returned (.tuple #[.string (mk x1), .int .i64 x2, .int .i64 0]) ∧ Below wx.heap.size wx w') := Lib.hid hun
    have hx2 : x2 ≤ Y.size := by omega
    clear ht hR hn hat htl hll c1 c2 c3 c4 hdr htk hl hx hlo hnm hYl hr ht2 htl2 hrl hk hY hun hu hxl
    go_enter Tryz.func137, Tryz.ntmps137
    go_wp2_with fail
    refine (HT.out _).mono ?_; rintro e w1 ⟨rfl, rfl⟩
    go_wp2_with fail
    refine (HLO.out _).mono ?_; rintro e w2 ⟨rfl, hb⟩
    have hz : w.heap.size < w2.heap.size := by have := hb.size; simp at this; omega
    have RB := Lib.hid hb
    have HB : Hid (Below w.heap.size w w2) := Lib.hid (((Below.refl _ _).alloc (Nat.le_refl _) _).trans (hb.mono (by simp)))
    clear hb
    have hy := HY.out
    go_wp2_with fail
    refine (HT2.out _).mono ?_; rintro e w3 ⟨rfl, rfl⟩
    clear hy
    go_wp2_with fail
    refine (HUN.out _).mono ?_; rintro e w4 ⟨rfl, hb⟩
    have hbB : Below (w.alloc (.cells #[.string ⟨#[]⟩, .string ⟨#[]⟩] 133)).heap.size (w.alloc (.cells #[.string ⟨#[]⟩, .string ⟨#[]⟩] 133)) w4 := (RB.out.alloc (by have := RB.out.size; simp at this ⊢; omega) _).trans (hb.mono (by have := RB.out.size; simp at this ⊢; omega))
    have r0 := res_cells w w4 _ _ hbB 0
    have r1 := res_cells w w4 _ _ hbB 1
    have p0 := res_cells w2 w4 _ _ hb 0
    have p1 := res_cells w2 w4 _ _ hb 1
    have f0 : w4.cell? ⟨w.heap.size, 0, none⟩ = some (.string ⟨#[]⟩) := r0.1.1
    have f1 : w4.cell? ⟨w.heap.size, 1, none⟩ = some (.string ⟨#[]⟩) := r1.1.1
    have g0 : w4.frozen? ⟨w.heap.size, 0, none⟩ = false := r0.1.2
    have g1 : w4.frozen? ⟨w.heap.size, 1, none⟩ = false := r1.1.2
    have f2 : w4.cell? ⟨w2.heap.size, 0, none⟩ = some (.string (mk nm)) := p0.1.1
    have f3 : w4.cell? ⟨w2.heap.size, 1, none⟩ = some (.string ⟨#[]⟩) := p1.1.1
    have g2 : w4.frozen? ⟨w2.heap.size, 0, none⟩ = false := p0.1.2
    have g3 : w4.frozen? ⟨w2.heap.size, 1, none⟩ = false := p1.1.2
    have hz4 : w2.heap.size < w4.heap.size := by have := hb.size; simp at this; omega
    have HB4 : Hid (Below w.heap.size w w4) := Lib.hid (((Below.refl _ _).alloc (Nat.le_refl _) _).trans (hbB.mono (by simp)))
    have hne : w.heap.size ≠ w2.heap.size := by omega
    have hne2 : w2.heap.size ≠ w.heap.size := by omega
    clear hb hbB r0 r1 p0 p1
    go_wp2
    exact bodyPost_ret (v := .tuple #[.agg #[.string (mk nm), .string (mk x1)], .int .i64 ((n : Int) + 1 + x2)]) (by simp [results, Tryz.results137, go_sem, f0, f1]) rfl
      (prmSays_some HR.out rfl rfl (by omega) (((HB4.out.setCell (p := ⟨w2.heap.size, 1, none⟩) (by simp; omega) _).setCell (p := ⟨w.heap.size, 0, none⟩) (Nat.le_refl _) _).setCell (p := ⟨w.heap.size, 1, none⟩) (Nat.le_refl _) _))
end Go.Proofs.YthkgaaibhjkngaaGreatDoor
