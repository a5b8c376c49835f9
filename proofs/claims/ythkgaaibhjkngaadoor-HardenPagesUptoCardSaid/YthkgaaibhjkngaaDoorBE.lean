/- The reference Media: from the region that draws its order on. -/
import Derived.Test.YthkgaaibhjkngaaDoorBB
import Derived.Test.YthkgaaibhjkngaaDoorBC
import Derived.IntWalk
import Derived.Deep.DeepCutAuto
import Derived.Deep.RegionHeld3
set_option linter.unusedVariables false
namespace Go.Proofs.YthkgaaibhjkngaaDoor
open Go.RowKit
def zMed : Array Value := #[.string ⟨#[]⟩, .string ⟨#[]⟩, .slice none 0 0]
structure NBox (w : World) (g : Nat) : Prop where
  lt : g < w.heap.size
  c0 : w.cell? ⟨g, 0, none⟩ = some (.string ⟨#[]⟩)
  c1 : w.cell? ⟨g, 1, none⟩ = some (.string ⟨#[]⟩)
  c2 : w.cell? ⟨g, 2, none⟩ = some (.slice none 0 0)
  fz : ∀ j, w.frozen? ⟨g, j, none⟩ = false
theorem nbox_new {w w2 : World} (hb : Below (w.alloc (.cells #[.string ⟨#[]⟩, .string ⟨#[]⟩, .slice none 0 0] 99)).heap.size (w.alloc (.cells #[.string ⟨#[]⟩, .string ⟨#[]⟩, .slice none 0 0] 99)) w2) : NBox w2 w.heap.size := by
  have h0 := (res_cells w w2 _ _ hb 0).1
  have h1 := (res_cells w w2 _ _ hb 1).1
  have h2 := (res_cells w w2 _ _ hb 2).1
  exact ⟨by have := hb.size; simp at this; omega, h0.1, h1.1, h2.1, fun j => (res_cells w w2 _ _ hb j).1.2⟩
theorem nbox_newD {w w2 : World} (hb : Below (w.alloc (.cells #[.string ⟨#[]⟩, .string ⟨#[]⟩, .slice none 0 0] 99)).drew.heap.size (w.alloc (.cells #[.string ⟨#[]⟩, .string ⟨#[]⟩, .slice none 0 0] 99)).drew w2) : NBox w2 w.heap.size :=
  nbox_new (Below.trans (Below.refl (w.alloc (.cells #[.string ⟨#[]⟩, .string ⟨#[]⟩, .slice none 0 0] 99)).heap.size (w.alloc (.cells #[.string ⟨#[]⟩, .string ⟨#[]⟩, .slice none 0 0] 99))).drew hb)
theorem nbox_keep {w w2 : World} {g : Nat} (h : NBox w g) (hb : Below w.heap.size w w2) : NBox w2 g :=
  ⟨Nat.lt_of_lt_of_le h.lt hb.size, (hb.cell (p := ⟨g, 0, none⟩) h.lt).trans h.c0, (hb.cell (p := ⟨g, 1, none⟩) h.lt).trans h.c1, (hb.cell (p := ⟨g, 2, none⟩) h.lt).trans h.c2, fun j => (hb.frozen (p := ⟨g, j, none⟩) h.lt).trans (h.fz j)⟩
structure BoxAt (w : World) (g : Nat) (a b c : Value) : Prop where
  lt : g < w.heap.size
  c0 : w.cell? ⟨g, 0, none⟩ = some a
  c1 : w.cell? ⟨g, 1, none⟩ = some b
  c2 : w.cell? ⟨g, 2, none⟩ = some c
  fz : ∀ j, w.frozen? ⟨g, j, none⟩ = false
theorem BoxAt.keep {w w2 : World} {g B : Nat} {a b c : Value} (h : BoxAt w g a b c) (hB : g < B) (hb : Below B w w2) : BoxAt w2 g a b c :=
  ⟨Nat.lt_of_lt_of_le h.lt hb.size, (hb.cell (p := ⟨g, 0, none⟩) hB).trans h.c0, (hb.cell (p := ⟨g, 1, none⟩) hB).trans h.c1, (hb.cell (p := ⟨g, 2, none⟩) hB).trans h.c2, fun j => (hb.frozen (p := ⟨g, j, none⟩) hB).trans (h.fz j)⟩
theorem BoxAt.new (w : World) (a b c : Value) (t : TypeId) : BoxAt (w.alloc (.cells #[a, b, c] t)) w.heap.size a b c := by
  have h0 := (res_cells w _ #[a, b, c] t (Below.refl _ _) 0).1
  have h1 := (res_cells w _ #[a, b, c] t (Below.refl _ _) 1).1
  have h2 := (res_cells w _ #[a, b, c] t (Below.refl _ _) 2).1
  exact ⟨by simp, h0.1, h1.1, h2.1, fun j => (res_cells w _ #[a, b, c] t (Below.refl _ _) j).1.2⟩
theorem BoxAt.fill {w : World} {g : Nat} {a b c : Value} (h : BoxAt w g a b c) (x y z : Value) : BoxAt (((w.setCell ⟨g, 0, none⟩ x).setCell ⟨g, 1, none⟩ y).setCell ⟨g, 2, none⟩ z) g x y z := by
  refine ⟨by simpa [World.setCell] using h.lt, ?_, ?_, ?_, fun j => ?_⟩
  · rw [World.cell?_setCell_other _ _ _ _ (by simp), World.cell?_setCell_other _ _ _ _ (by simp)]; exact World.cell?_setCell_same _ _ _ h.c0
  · rw [World.cell?_setCell_other _ _ _ _ (by simp)]; exact World.cell?_setCell_same (w.setCell ⟨g, 0, none⟩ x) _ _ ((World.cell?_setCell_other _ _ _ _ (by simp)).trans h.c1)
  · exact World.cell?_setCell_same ((w.setCell ⟨g, 0, none⟩ x).setCell ⟨g, 1, none⟩ y) _ _ ((World.cell?_setCell_other _ _ _ _ (by simp)).trans ((World.cell?_setCell_other _ _ _ _ (by simp)).trans h.c2))
  · rw [World.frozen?_setCell, World.frozen?_setCell, World.frozen?_setCell]; exact h.fz j
theorem BoxAt.set2 {w : World} {g : Nat} {a b c : Value} (h : BoxAt w g a b c) (z : Value) : BoxAt (w.setCell ⟨g, 2, none⟩ z) g a b z :=
  ⟨by simpa [World.setCell] using h.lt, (World.cell?_setCell_other _ _ _ _ (by simp)).trans h.c0, (World.cell?_setCell_other _ _ _ _ (by simp)).trans h.c1, World.cell?_setCell_same _ _ _ h.c2, fun j => (World.frozen?_setCell _ _ _ _).trans (h.fz j)⟩
theorem BoxAt.set_ne {w : World} {g : Nat} {a b c : Value} (h : BoxAt w g a b c) {p : Addr} (hp : p.block ≠ g) (z : Value) : BoxAt (w.setCell p z) g a b c :=
  ⟨by simpa [World.setCell] using h.lt, (World.cell?_setCell_far _ _ _ _ hp).trans h.c0, (World.cell?_setCell_far _ _ _ _ hp).trans h.c1, (World.cell?_setCell_far _ _ _ _ hp).trans h.c2, fun j => (World.frozen?_setCell _ _ _ _).trans (h.fz j)⟩
theorem NBox.box {w : World} {g : Nat} (h : NBox w g) : BoxAt w g (.string ⟨#[]⟩) (.string ⟨#[]⟩) (.slice none 0 0) := ⟨h.lt, h.c0, h.c1, h.c2, h.fz⟩
theorem mediaSays_someA {R : Option (List UInt8 × List UInt8 × List (List UInt8 × List UInt8))} {w w' : World} {a b : List UInt8} {A B : ByteArray} {ps : List (List UInt8 × List UInt8)} {v : Value} (h : R = some (a, b, ps)) (hA : A = mk a) (hB : B = mk b) (ho : OwnA w' w.heap.size v (ps.map mk2)) (hb : Below w.heap.size w w') :
    MediaSays R w (.returned (.tuple #[.agg #[.string A, .string B, v], .int .i64 0])) w' := by
  subst h hA hB; exact ⟨hb, v, rfl, ho⟩
set_option maxHeartbeats 16000000 in
set_option maxRecDepth 100000 in
theorem rmedia_go (X S A B : ByteArray) (ty sub : List UInt8) (M : Option (List UInt8 × List UInt8 × PL)) (n k : Nat) (w : World) (hA : A = mk ty) (hB : B = mk sub) (hs : S.size ≤ 1073741824) (hlt : n < S.size) (h0 : n ≠ 0) (hk0 : k ≠ 0) (hk : n + 1 + k ≤ S.size) (h47 : (S[n]).toNat = 47)
    (htr : ∀ wx, Calls Tryd.prog 94 #[.string X] wx fun e w' => e = .returned (.string S) ∧ wx = w') (htk : ∀ wx, Calls Tryd.prog 95 #[.string S] wx fun e w' => e = .returned (.int .i64 n) ∧ wx = w')
    (htk2 : ∀ wx, Calls Tryd.prog 95 #[.string (S.extract (n + 1) S.size)] wx fun e w' => e = .returned (.int .i64 k) ∧ wx = w')
    (hl1 : ∀ wx, Calls Tryd.prog 96 #[.string (S.extract 0 n)] wx fun e w' => e = .returned (.string A) ∧ Below wx.heap.size wx w')
    (hl2 : ∀ wx, Calls Tryd.prog 96 #[.string (S.extract (n + 1) ((n : Int) + 1 + (k : Int)).toNat)] wx fun e w' => e = .returned (.string B) ∧ Below wx.heap.size wx w') (hM : M = (prs (S.extract (n + 1 + k) S.size).data.toList).map fun ps => (ty, sub, ps)) :
    Calls Tryd.prog 59 #[.string X] w (MediaSays M w) := by
  have HM := Lib.hid hM
  have HA := Lib.hid hA
  have HBB := Lib.hid hB
  have HTR := Lib.hid htr
  have HTK := Lib.hid htk
  have HTK2 := Lib.hid htk2
  have HL1 := Lib.hid hl1
  have HL2 := Lib.hid hl2
  have e1 : ((n : Int) == 0) = false := by simp; omega
  have e2 : ((n : Int) == (S.size : Int)) = false := by simp; omega
  have e3 : ((S[n].toNat : Int) != 47) = false := by simp; omega
  have e4 : ((S[n].toNat : Int) == 47) = true := by simp; omega
  have e5 : ((k : Int) == 0) = false := by simp; omega
  clear htr htk htk2 hl1 hl2 h47 h0 hk0 hM hA hB
  go_enter Tryd.func59, Tryd.ntmps59
  go_wp2_with fail
  refine (HTR.out _).mono ?_; rintro e w1 ⟨rfl, rfl⟩
  go_wp2_with fail
  refine (HTK.out _).mono ?_; rintro e w1 ⟨rfl, rfl⟩
  go_wp2_with fail
  refine (HTK2.out _).mono ?_; rintro e w1 ⟨rfl, rfl⟩
  have j1 : (0 : Int) ≤ (n : Int) := by omega
  have j2 : (n : Int) ≤ (S.size : Int) := by omega
  have j3 : (0 : Int) ≤ (n : Int) + 1 := by omega
  have j4 : (n : Int) + 1 ≤ (n : Int) + 1 + (k : Int) := by omega
  have j5 : (n : Int) + 1 + (k : Int) ≤ (S.size : Int) := by omega
  have j6 : IntKind.i64.wrap ((n : Int) + 1) = (n : Int) + 1 := IntWalk.i64_in _ (by omega)
  have j7 : IntKind.i64.wrap ((n : Int) + 1 + (k : Int)) = (n : Int) + 1 + (k : Int) := IntWalk.i64_in _ (by omega)
  obtain ⟨wB, hwB⟩ : ∃ wB, wB = w.alloc (.cells #[.string ⟨#[]⟩, .string ⟨#[]⟩, .slice none 0 0] 99) := ⟨_, rfl⟩
  have KT : Hid (∀ wx wy, Below wB.heap.size wB wx → Below wx.heap.size wx wy → Below wB.heap.size wB wy) := Lib.hid fun wx wy h1 h2 => h1.trans (h2.mono h1.size)
  have KA : Hid (∀ wx o, Below wB.heap.size wB wx → Below wB.heap.size wB (wx.alloc o)) := Lib.hid fun wx o h => h.alloc h.size _
  have KS : Hid (∀ (wx : World) (g : Nat) (a b c : Value), Below wB.heap.size wB wx → wB.heap.size ≤ g → Below wB.heap.size wB (((wx.setCell ⟨g, 0, none⟩ a).setCell ⟨g, 1, none⟩ b).setCell ⟨g, 2, none⟩ c)) := Lib.hid fun wx g a b c h hg => ((h.setCell (p := ⟨g, 0, none⟩) hg _).setCell (p := ⟨g, 1, none⟩) hg _).setCell (p := ⟨g, 2, none⟩) hg _
  have HW := Lib.hid hwB
  clear hwB
  go_upto_region 8 with fail
  rw [← HW.out]
  go_cut [6] (fun s6 wx => ∃ g : Nat, s6 = .pointer (some ⟨g, 0, none⟩) ∧ wB.heap.size ≤ g ∧ BoxAt wx g (.string A) (.string B) (.slice none 0 0) ∧ Hid (Below wB.heap.size wB wx))
  case first =>
    go_region_held3 (fun w' => Below wB.heap.size wB w') (first | exact (Below.refl _ _).drew | exact KT.out _ _ (by assumption) hb | exact KA.out _ _ (by assumption) | exact KA.out _ _ (KT.out _ _ (KT.out _ _ (Below.refl wB.heap.size wB).drew (by assumption)) hb) | exact KS.out _ _ _ _ _ (by assumption) (Nat.le_refl _) | exact KS.out _ _ _ _ _ (by assumption) hz1 | exact KS.out _ _ _ _ _ (by assumption) hz2 | exact KS.out _ _ _ _ _ (by assumption) (Nat.le_trans hz1 hz2) | exact KS.out _ _ _ _ _ (by assumption) (Nat.le_trans hz2 hz1) | (trace_state; fail))
      (first
        | (go_at_call_of 96 (Value.string (S.extract 0 n)); refine (HL1.out _).mono ?_; rintro e w' ⟨rfl, hb⟩; have hz1 := hb.size; (first | ((first | have bx := nbox_keep bx hb | have bx := nbox_newD hb | have bx := nbox_new hb); obtain ⟨_, q0, q1, q2, qf⟩ := id bx; have f0 := qf 0; have f1 := qf 1; have f2 := qf 2; clear qf) | skip))
        | (go_at_call 96; refine (HL2.out _).mono ?_; rintro e w' ⟨rfl, hb⟩; have hz2 := hb.size; (first | ((first | have bx := nbox_keep bx hb | have bx := nbox_newD hb | have bx := nbox_new hb); obtain ⟨_, q0, q1, q2, qf⟩ := id bx; have f0 := qf 0; have f1 := qf 1; have f2 := qf 2; clear qf) | skip)))
    all_goals (go_wp2_with fail)
    all_goals go_meet
    all_goals first
      | exact ⟨_, rfl, Nat.le_refl _, (NBox.box bx).fill _ _ _, Lib.hid (by assumption)⟩
      | exact ⟨_, rfl, hz1, (NBox.box bx).fill _ _ _, Lib.hid (by assumption)⟩
      | exact ⟨_, rfl, hz2, (NBox.box bx).fill _ _ _, Lib.hid (by assumption)⟩
      | exact ⟨_, rfl, Nat.le_trans hz1 hz2, BoxAt.new _ _ _ _ _, Lib.hid (by assumption)⟩
      | exact ⟨_, rfl, Nat.le_trans hz2 hz1, BoxAt.new _ _ _ _ _, Lib.hid (by assumption)⟩
      | trace_state
  case rest =>
    obtain ⟨g, rfl, hg, hbox, hbl⟩ := hcut
    have hres : BoxAt wc w.heap.size (.string ⟨#[]⟩) (.string ⟨#[]⟩) (.slice none 0 0) := by
      have h := hbl.out
      rw [HW.out] at h
      exact (BoxAt.new w _ _ _ _).keep (by simp) h
    have hsz : w.heap.size < wB.heap.size := by rw [HW.out]; simp
    have HBC : Hid (Below w.heap.size w wc) := Lib.hid (by
      have h := hbl.out
      rw [HW.out] at h
      exact ((Below.refl _ _).alloc (Nat.le_refl _) _).trans (h.mono (by simp)))
    clear KT KA KS hbl
    have hDg := hbox.lt
    have hwg : w.heap.size < g := by omega
    obtain ⟨D, hD⟩ : ∃ D, D = wc.heap.size := ⟨_, rfl⟩
    rw [← hD] at hDg
    have hDw : D ≤ wc.heap.size := by omega
    have HWD : Hid (w.heap.size ≤ D) := Lib.hid (by omega)
    clear hD hg hsz HW HTR HTK HTK2 HL1 HL2
    have hzz := ext_size S (n + 1 + k) S.size (Nat.le_refl _)
    have HZZ := Lib.hid hzz
    clear hzz
    go_wp2_with fail
    clear e1 e2 e3 e4 e5 j1 j2 j3 j4 j5 j6 j7
    obtain ⟨Z, hZ⟩ : ∃ Z, Z = S.extract (n + 1 + k) S.size := ⟨_, rfl⟩
    rw [← hZ] at HZZ HM ⊢
    have hZn : Z.size ≤ S.size := by rw [HZZ.out]; omega
    clear hZ HZZ hk hlt
    go_loopw [0] (fun s wr => ∃ (T : ByteArray) (acc : PL) (v : Value), s = .string T ∧ acc.length + T.size ≤ S.size ∧ OwnA wr D v (acc.map mk2) ∧ BoxAt wr g (.string A) (.string B) v ∧ BoxAt wr w.heap.size (.string ⟨#[]⟩) (.string ⟨#[]⟩) (.slice none 0 0) ∧ M = (prs T.data.toList).map (fun ps => (ty, sub, acc ++ ps)) ∧ Below w.heap.size w wr ∧ D ≤ wr.heap.size) (fun s _ => strLen s)
    case atStart => exact ⟨Z, [], .slice none 0 0, rfl, by simpa using hZn, World.ownsRow_nil _ _ _ _, hbox, hres, by rw [HM.out]; simp, HBC.out, hDw⟩
    clear hbox hres HBC hDw HM hZn
    case round =>
      obtain ⟨T, acc, v, rfl, hal, hown, hbox, hres, hMT, hb, hDw⟩ := hrel
      have HB := Lib.hid hb
      have HX := Lib.hid hbox
      have HR := Lib.hid hres
      have HO := Lib.hid hown
      have hTs : T.size ≤ 1073741824 := by omega
      obtain ⟨lg, p0, p1, p2, pf⟩ := hbox
      obtain ⟨lr, r0, r1, r2, rf⟩ := hres
      have rf0 := rf 0
      have rf1 := rf 1
      have rf2 := rf 2
      have pf2 := pf 2
      clear rf pf
      obtain ⟨a3, c3, hv3, hsrc3, _⟩ := ownA_src hown
      obtain ⟨nn, hnn⟩ : ∃ nn, nn = (acc.map mk2).length := ⟨_, rfl⟩
      rw [← hnn] at hv3
      have hnn' : nn = acc.length := by rw [hnn, List.length_map]
      subst hv3
      clear hown hsrc3 hb hnn
      rcases Nat.eq_zero_or_pos T.size with h0 | h0
      · have hx := empty_beq h0
        subst hx
        have HV : Hid (M = some (ty, sub, acc)) := Lib.hid (by rw [hMT]; show (prs []).map _ = _; rw [prs_nil]; simp)
        have HOW : Hid (∀ u1 u2 u3, OwnA (((wr.setCell ⟨w.heap.size, 0, none⟩ u1).setCell ⟨w.heap.size, 1, none⟩ u2).setCell ⟨w.heap.size, 2, none⟩ u3) w.heap.size (.slice a3 nn c3) (acc.map mk2)) := Lib.hid fun u1 u2 u3 =>
          ownA_mono (ownA_set_other (ownA_set_other (ownA_set_other HO.out (by simp; omega) u1) (by simp; omega) u2) (by simp; omega) u3) HWD.out
        have HB9 : Hid (∀ u1 u2 u3, Below w.heap.size w (((wr.setCell ⟨w.heap.size, 0, none⟩ u1).setCell ⟨w.heap.size, 1, none⟩ u2).setCell ⟨w.heap.size, 2, none⟩ u3)) := Lib.hid fun u1 u2 u3 =>
          ((HB.out.setCell (p := ⟨w.heap.size, 0, none⟩) (Nat.le_refl _) _).setCell (p := ⟨w.heap.size, 1, none⟩) (Nat.le_refl _) _).setCell (p := ⟨w.heap.size, 2, none⟩) (Nat.le_refl _) _
        clear hMT h0 HO HX HR hnn' hal hDw HWD hDg hTs
        go_wp2
        exact bodyPost_ret (v := .tuple #[.agg #[.string A, .string B, .slice a3 nn c3], .int .i64 0]) (by simp [results, Tryd.results59, go_sem, r0, r1, r2]) rfl
          (mediaSays_someA HV.out HA.out HBB.out (HOW.out _ _ _) (HB9.out _ _ _))
      · obtain ⟨hn1, hn2, hn3⟩ := nonempty_beq h0
        obtain ⟨st1, st2⟩ := prs_step _ hn3
        have hsk := fun wx => rskip_any T wx (by omega)
        obtain ⟨l, hl⟩ : ∃ l, T.data.toList = l := ⟨_, rfl⟩
        have hll : l.length = T.size := by rw [← hl]; exact len_data T
        rw [hl] at hsk st1 st2 hMT
        have hil := nsk_le l
        have hid := nsk_drop l
        obtain ⟨i, hi⟩ : ∃ i, nsk l = i := ⟨_, rfl⟩
        rw [hi] at hsk hil hid
        have HSK : Hid (∀ wx, Calls Tryd.prog 97 #[.string T] wx fun e w' => e = .returned (.int .i64 i) ∧ wx = w') := Lib.hid hsk
        clear hsk hi hn3
        by_cases ci : i = T.size
        · have HV : Hid (M = none) := Lib.hid (by rw [hMT, st1 (.inl (by rw [← hid, ci, ← hll, List.drop_length]))]; rfl)
          have e1 : ((i : Int) == (T.size : Int)) = true := by simp [ci]
          have HBZ := HB
          clear hMT st1 st2 hil hid hll hl HO HX HR hnn' hal hDw HWD hDg hTs p0 p1 p2 pf2 ci
          go_wp2_with fail
          refine (HSK.out _).mono ?_; rintro e w1 ⟨rfl, rfl⟩
          go_wp2
          exact bodyPost_ret (v := .tuple #[.agg #[.string ⟨#[]⟩, .string ⟨#[]⟩, .slice none 0 0], .int .i64 6]) (by simp [results, Tryd.results59, go_sem, r0, r1, r2]) rfl
            (mediaSays_none HV.out (((HBZ.out.setCell (p := ⟨w.heap.size, 0, none⟩) (Nat.le_refl _) _).setCell (p := ⟨w.heap.size, 1, none⟩) (Nat.le_refl _) _).setCell (p := ⟨w.heap.size, 2, none⟩) (Nat.le_refl _) _))
        have hit : i < T.size := by omega
        have e1 : ((i : Int) == (T.size : Int)) = false := by have : (i : Int) ≠ (T.size : Int) := by omega
                                                              simpa using this
        have hti : T[i] = (skip l).headD 0 := by
          rw [byte_getD T i hit, hl, ← hid, ← head_getD, List.getD_eq_getElem?_getD, List.getD_eq_getElem?_getD, List.getElem?_drop]; rfl
        by_cases h59 : (T[i]).toNat = 59
        case neg =>
          have HV : Hid (M = none) := Lib.hid (by rw [hMT, st1 (.inr (by rw [← hti]; exact h59))]; rfl)
          have e2 : ((T[i].toNat : Int) != 59) = true := by simp; omega
          have e3 : ((T[i].toNat : Int) == 59) = false := by simp; omega
          have HBZ := HB
          clear hMT st1 st2 hil hid hll hl HO HX HR hnn' hal hDw HWD hDg hTs p0 p1 p2 pf2 ci h59 hti
          go_wp2_with fail
          refine (HSK.out _).mono ?_; rintro e w1 ⟨rfl, rfl⟩
          go_wp2
          exact bodyPost_ret (v := .tuple #[.agg #[.string ⟨#[]⟩, .string ⟨#[]⟩, .slice none 0 0], .int .i64 6]) (by simp [results, Tryd.results59, go_sem, r0, r1, r2]) rfl
            (mediaSays_none HV.out (((HBZ.out.setCell (p := ⟨w.heap.size, 0, none⟩) (Nat.le_refl _) _).setCell (p := ⟨w.heap.size, 1, none⟩) (Nat.le_refl _) _).setCell (p := ⟨w.heap.size, 2, none⟩) (Nat.le_refl _) _))
        have e2 : ((T[i].toNat : Int) != 59) = false := by simp; omega
        have e3 : ((T[i].toNat : Int) == 59) = true := by simp; omega
        obtain ⟨st3, st4⟩ := st2 (by rintro (h | h); exact absurd (congrArg List.length (hid.trans h)) (by rw [List.length_drop, hll, List.length_nil]; omega); exact h (by rw [← hti]; exact h59))
        obtain ⟨T1, hT1⟩ : ∃ T1, T.extract (i + 1) T.size = T1 := ⟨_, rfl⟩
        have hT1l : T1.data.toList = (skip l).tail := by rw [← hT1, ext_drop, hl, ← hid, List.tail_drop]
        have hT1s : T1.size + i + 1 = T.size := by rw [← hT1, ext_size T _ _ (Nat.le_refl _)]; omega
        have hsk2 := fun wx => rskip_any T1 wx (by omega)
        have hjl := nsk_le T1.data.toList
        have hjd := nsk_drop T1.data.toList
        rw [len_data] at hjl
        rw [hT1l] at hsk2 hjl hjd
        obtain ⟨j, hj⟩ : ∃ j, nsk (skip l).tail = j := ⟨_, rfl⟩
        rw [hj] at hsk2 hjl hjd
        obtain ⟨l2, hl2⟩ : ∃ l2, skip (skip l).tail = l2 := ⟨_, rfl⟩
        rw [hl2] at hjd st3 st4
        obtain ⟨T2, hT2⟩ : ∃ T2, T1.extract j T1.size = T2 := ⟨_, rfl⟩
        have hT2l : T2.data.toList = l2 := by rw [← hT2, ext_drop, hT1l, hjd]
        have hT2s : T2.size + j = T1.size := by rw [← hT2, ext_size T1 _ _ (Nat.le_refl _)]; omega
        have HSK2 : Hid (∀ wx, Calls Tryd.prog 97 #[.string T1] wx fun e w' => e = .returned (.int .i64 j) ∧ wx = w') := Lib.hid hsk2
        have hpa := fun wx => rparam_any T2 wx (by omega)
        rw [hT2l] at hpa
        have HT1 := Lib.hid hT1
        have HT2 := Lib.hid hT2
        have hlt2 : T2.size < T.size := by omega
        have HMT := Lib.hid hMT
        clear hsk2 hMT st1 st2 hil hid hll hl hT1l hj hl2 hjd hT1 hT2 hti h59 ci
        by_cases c1 : tok l2 = 0
        · have HV : Hid (M = (prs T2.data.toList).map (fun ps => (ty, sub, acc ++ ps))) := Lib.hid (by rw [HMT.out, st3 c1, hT2l])
          have HPA : Hid (∀ wx, Calls Tryd.prog 98 #[.string T2] wx fun e w' => e = .returned (.tuple #[.agg #[.string ⟨#[]⟩, .string ⟨#[]⟩], .int .i64 0]) ∧ Below wx.heap.size wx w') := Lib.hid (by
            intro wx; refine (hpa wx).mono ?_; rintro e w' ⟨he, hb⟩; rw [if_pos c1] at he; exact ⟨he, hb⟩)
          clear hpa st3 st4 c1 hT2l r0 r1 r2 rf0 rf1 rf2 p0 p1 p2 pf2
          have hT1' := HT1.out
          go_wp2_with fail
          refine (HSK.out _).mono ?_; rintro e w1 ⟨rfl, rfl⟩
          go_wp2_with fail
          refine (HSK2.out _).mono ?_; rintro e w1 ⟨rfl, rfl⟩
          have hT2' := HT2.out
          clear hT1'
          go_wp2_with fail
          refine (HPA.out _).mono ?_; rintro e w4 ⟨rfl, hb⟩
          have HX4 := HX.out.keep lg hb
          have HR4 := HR.out.keep lr hb
          have HB4 := Lib.hid ((HB.out.trans (hb.mono HB.out.size)).alloc (HB.out.trans (hb.mono HB.out.size)).size (.cells #[.string ⟨#[]⟩, .string ⟨#[]⟩] 106))
          have HX5 := Lib.hid (HX4.keep HX4.lt ((Below.refl _ _).alloc (Nat.le_refl _) (.cells #[.string ⟨#[]⟩, .string ⟨#[]⟩] 106)))
          have HR5 := Lib.hid (HR4.keep HR4.lt ((Below.refl _ _).alloc (Nat.le_refl _) (.cells #[.string ⟨#[]⟩, .string ⟨#[]⟩] 106)))
          have HO5 := Lib.hid (World.ownsRow.alloc (ownA_below HO.out (Nat.le_refl _) hb) (.cells #[.string ⟨#[]⟩, .string ⟨#[]⟩] 106))
          have HD5 : Hid (D ≤ (w4.alloc (.cells #[.string ⟨#[]⟩, .string ⟨#[]⟩] 106)).heap.size) := Lib.hid (by have := hb.size; simp; omega)
          clear hb HX4 HR4 hT2'
          go_wp2
          go_roundw
          case rel => exact ⟨_, acc, _, rfl, by omega, HO5.out, HX5.out, HR5.out, HV.out, HB4.out, HD5.out⟩
          case measure => simp only [strLen]; omega
        obtain ⟨st5, st6⟩ := st4 c1
        cases hp : prm l2 with
        | none =>
          have HV : Hid (M = none) := Lib.hid (by rw [HMT.out, st5 hp]; rfl)
          have HPA : Hid (∀ wx, Calls Tryd.prog 98 #[.string T2] wx fun e w' => e = .returned (.tuple #[.agg #[.string ⟨#[]⟩, .string ⟨#[]⟩], .int .i64 (-1)]) ∧ Below wx.heap.size wx w') := Lib.hid (by
            intro wx; refine (hpa wx).mono ?_; rintro e w' ⟨he, hb⟩; rw [if_neg c1, hp] at he; exact ⟨he, hb⟩)
          clear hpa st3 st4 st5 st6 hp c1 hT2l r0 r1 r2 rf0 rf1 rf2 p0 p1 p2 pf2 HX HO HMT hnn'
          have hT1' := HT1.out
          go_wp2_with fail
          refine (HSK.out _).mono ?_; rintro e w1 ⟨rfl, rfl⟩
          go_wp2_with fail
          refine (HSK2.out _).mono ?_; rintro e w1 ⟨rfl, rfl⟩
          have hT2' := HT2.out
          clear hT1'
          go_wp2_with fail
          refine (HPA.out _).mono ?_; rintro e w4 ⟨rfl, hb⟩
          have HR4 := HR.out.keep lr hb
          have HBZ := Lib.hid (HB.out.trans (hb.mono HB.out.size))
          obtain ⟨l4, r0, r1, r2, rf⟩ := HR4
          have rf0 := rf 0
          have rf1 := rf 1
          have rf2 := rf 2
          clear rf hb hT2' HR
          go_wp2
          exact bodyPost_ret (v := .tuple #[.agg #[.string ⟨#[]⟩, .string ⟨#[]⟩, .slice none 0 0], .int .i64 6]) (by simp [results, Tryd.results59, go_sem, r0, r1, r2, l4]) rfl
            (mediaSays_none HV.out ((((HBZ.out.setCell (p := ⟨w.heap.size, 0, none⟩) (Nat.le_refl _) _).setCell (p := ⟨w.heap.size, 1, none⟩) (Nat.le_refl _) _).setCell (p := ⟨w.heap.size, 2, none⟩) (Nat.le_refl _) _).alloc (by simp [World.setCell]; omega) _))
        | some x =>
          obtain ⟨⟨x1, x2⟩, m⟩ := x
          have hxl := prm_len l2 _ hp
          simp only at hxl
          have hl2s : l2.length = T2.size := by rw [← hT2l]; exact len_data T2
          have HV : Hid (M = (prs (T2.extract m T2.size).data.toList).map (fun ps => (ty, sub, (acc ++ [(x1, x2)]) ++ ps))) := Lib.hid (by
            rw [HMT.out, st6 _ hp, ext_drop, hT2l, Option.map_map]; congr 1; funext q; simp)
          have HPA : Hid (∀ wx, Calls Tryd.prog 98 #[.string T2] wx fun e w' => e = .returned (.tuple #[.agg #[.string (mk x1), .string (mk x2)], .int .i64 m]) ∧ Below wx.heap.size wx w') := Lib.hid (by
            intro wx; refine (hpa wx).mono ?_; rintro e w' ⟨he, hb⟩; rw [if_neg c1, hp] at he; exact ⟨he, hb⟩)
          have hm1 : 1 ≤ m := hxl.1
          have hm2 : m ≤ T2.size := by omega
          have e4 : decide ((m : Int) < 0) = false := by simp
          have e5 : decide ((m : Int) > 0) = true := by simp; omega
          have e6 : decide ((0 : Int) < (m : Int)) = true := by simp; omega
          have HMAP := Lib.hid (show (acc ++ [(x1, x2)]).map mk2 = acc.map mk2 ++ [(mk x1, mk x2)] by simp [mk2])
          have HEX := Lib.hid (ext_size T2 m T2.size (Nat.le_refl _))
          clear hpa st3 st4 st5 st6 hp c1 hT2l hxl hl2s HMT r0 r1 r2 rf0 rf1 rf2 p0 p1 p2 pf2
          generalize mk x1 = A1 at HPA HMAP
          generalize mk x2 = A2 at HPA HMAP
          have hT1' := HT1.out
          go_wp2_with fail
          refine (HSK.out _).mono ?_; rintro e w1 ⟨rfl, rfl⟩
          go_wp2_with fail
          refine (HSK2.out _).mono ?_; rintro e w1 ⟨rfl, rfl⟩
          have hT2' := HT2.out
          clear hT1'
          go_wp2_with fail
          refine (HPA.out _).mono ?_; rintro e w4 ⟨rfl, hb⟩
          obtain ⟨W5, hW5⟩ : ∃ W5, W5 = (w4.alloc (.cells #[.string A1, .string A2] 106)).alloc (.cells #[.string A1, .string A2] 106) := ⟨_, rfl⟩
          have HBw : Below w4.heap.size w4 W5 := by rw [hW5]; exact ((Below.refl _ _).alloc (Nat.le_refl _) _).alloc (by simp) _
          have hX4 := HX.out.keep lg hb
          have HX5 := Lib.hid (hX4.keep hX4.lt HBw)
          have HR5 := Lib.hid ((HR.out.keep lr hb).keep (HR.out.keep lr hb).lt HBw)
          have HO5 : Hid (OwnA W5 D (.slice a3 nn c3) (acc.map mk2)) := Lib.hid (by rw [hW5]; exact World.ownsRow.alloc (World.ownsRow.alloc (ownA_below HO.out (Nat.le_refl _) hb) _) _)
          have HS5 : Hid (SrcA W5 (some ⟨(w4.alloc (.cells #[.string A1, .string A2] 106)).heap.size, 0, none⟩) 1 [(A1, A2)]) := Lib.hid (by rw [hW5]; exact lit_par A1 A2 _)
          have HB5 : Hid (Below w.heap.size w W5) := Lib.hid ((HB.out.trans (hb.mono HB.out.size)).trans (HBw.mono (HB.out.trans (hb.mono HB.out.size)).size))
          have HD5 : Hid (D ≤ W5.heap.size) := Lib.hid (by have := hb.size; have := HBw.size; omega)
          have l4 : g < w4.heap.size := hX4.lt
          have q2 : w4.cell? ⟨g, 2, none⟩ = some (.slice a3 nn c3) := hX4.c2
          subst hW5
          clear hb HBw hX4 hT2' hnn'
          go_wp2_with (at_builtin; refine app_attrs rfl _ _ rfl D _ (acc.map mk2) rfl HO5.out _ 1 1 [(A1, A2)] rfl rfl ?s2 ?n2 HD5.out ?_)
          case s2 => simpa using HS5.out
          case n2 => rw [List.length_map]; simp only [List.length_cons, List.length_nil]; omega
          intro v6 w6 hown6 hb6 _
          have hB6 := hb6.out
          have HX6 := HX5.out.keep hDg hB6
          have HR6 := HR5.out.keep (Nat.lt_trans hwg hDg) hB6
          have HO6 : Hid (OwnA w6 D v6 ((acc ++ [(x1, x2)]).map mk2)) := Lib.hid (by rw [HMAP.out]; exact hown6)
          have HB6 : Hid (Below w.heap.size w w6) := Lib.hid (HB5.out.trans (hB6.mono HWD.out))
          have HD6 : D ≤ w6.heap.size := Nat.le_trans HD5.out hB6.size
          obtain ⟨a6, c6, hv6, _, _⟩ := ownA_src hown6
          obtain ⟨n6, hn6⟩ : ∃ n6, n6 = (acc.map mk2 ++ [(A1, A2)]).length := ⟨_, rfl⟩
          rw [← hn6] at hv6
          subst hv6
          have HX7 := Lib.hid (HX6.set2 (.slice a6 n6 c6))
          have HR7 := Lib.hid (HR6.set_ne (p := ⟨g, 2, none⟩) (by simp; omega) (.slice a6 n6 c6))
          have HO7 : Hid (OwnA (w6.setCell ⟨g, 2, none⟩ (.slice a6 n6 c6)) D (.slice a6 n6 c6) ((acc ++ [(x1, x2)]).map mk2)) := Lib.hid (ownA_set_other HO6.out (by exact hDg) _)
          have HB7 : Hid (Below w.heap.size w (w6.setCell ⟨g, 2, none⟩ (.slice a6 n6 c6))) := Lib.hid (HB6.out.setCell (p := ⟨g, 2, none⟩) (by simp; omega) _)
          have HD7 : Hid (D ≤ (w6.setCell ⟨g, 2, none⟩ (.slice a6 n6 c6)).heap.size) := Lib.hid (by simpa [World.setCell] using HD6)
          obtain ⟨l6, _, _, t2, tf⟩ := HX6
          have tf2 := tf 2
          clear tf hB6 HR6 HD6 hown6 hb6 hn6 q2
          go_wp2
          go_roundw
          case rel => exact ⟨_, acc ++ [(x1, x2)], _, rfl, by rw [HEX.out]; simp; omega, HO7.out, HX7.out, HR7.out, HV.out, HB7.out, HD7.out⟩
          case measure => simp only [strLen]; rw [HEX.out]; omega
end Go.Proofs.YthkgaaibhjkngaaDoor
