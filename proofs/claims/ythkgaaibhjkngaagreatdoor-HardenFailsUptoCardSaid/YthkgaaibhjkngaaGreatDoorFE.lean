/- Fields: the program's All, Count, Without, Members. -/
import Derived.Test.YthkgaaibhjkngaaGreatDoorFD
set_option linter.unusedVariables false
namespace Go.Proofs.YthkgaaibhjkngaaGreatDoor
open Go.RowKit

theorem ownS_alloc {w : World} {base : Nat} {v : Value} {l : List ByteArray} (h : OwnS w base v l) (o : Obj) : OwnS (w.alloc o) base v l := World.ownsRow.alloc h o
theorem lit_strs (m : ByteArray) (wx : World) : SrcS (wx.alloc (.cells #[.string m] 9)) (some ⟨wx.heap.size, 0, none⟩) 1 [m] := by
  refine ⟨fun j hj => ?_, by simp, fun h => by cases h⟩
  have hj0 : j = 0 := by simpa using hj
  subst hj0
  exact ⟨_, 0, rfl, by simp, (at_alloc wx _ _ 0).1⟩
theorem srcS_at {w w' : World} {a : Option Addr} {c : Nat} {l : List ByteArray} (h : SrcS w a c l) (k : Nat) (hk : k < l.length) (hb : Below w.heap.size w w') :
    ∃ b o, a = some ⟨b, o, none⟩ ∧ b < w'.heap.size ∧ w'.cell? ⟨b, o + k, none⟩ = some (.string l[k]) := by
  obtain ⟨b, o, h1, h2, h3⟩ := h.at_ k hk
  exact ⟨b, o, h1, Nat.lt_of_lt_of_le h2 hb.size, (hb.cell (p := ⟨b, o + k, none⟩) h2).trans h3⟩
def StrsSays (l : List ByteArray) (w : World) (e : Ending) (w' : World) : Prop := Below w.heap.size w w' ∧ ∃ v, e = .returned v ∧ OwnS w' w.heap.size v l
theorem strsSays {l : List ByteArray} {v : Value} {w w' : World} (hb : Below w.heap.size w w') (ho : OwnS w' w.heap.size v l) : StrsSays l w (.returned v) w' := ⟨hb, v, rfl, ho⟩
def FldsSays (l : AL) (w : World) (e : Ending) (w' : World) : Prop := Below w.heap.size w w' ∧ ∃ v, e = .returned v ∧ OwnF w' w.heap.size v l
theorem fldsSays {l : AL} {v : Value} {w w' : World} (hb : Below w.heap.size w w') (ho : OwnF w' w.heap.size v l) : FldsSays l w (.returned v) w' := ⟨hb, v, rfl, ho⟩

set_option maxHeartbeats 8000000 in
set_option maxRecDepth 100000 in
theorem all_any (l : AL) (X : ByteArray) (av : Option Addr) (n c : Nat) (w : World) (hn : l.length = n) (hs : SrcA w av c l) (hz : asz l ≤ 1073741824) (hX : X.size ≤ 1073741824) :
    Calls Tryz.prog 79 #[.slice av n c, .string X] w (StrsSays (allF l X) w) := by
  have hnb : n ≤ 1073741824 := by have := asz_len l; omega
  obtain ⟨R, hR⟩ : ∃ R, R = allF l X := ⟨_, rfl⟩
  rw [← hR]
  have HR := Lib.hid hR
  have HS := Lib.hid hs
  have HZ := Lib.hid hz
  have HN := Lib.hid hn
  have HX := Lib.hid hX
  clear hR hs hz hn hX
  go_enter Tryz.func79, Tryz.ntmps79
  go_wp2_with fail
  go_loopw [5, 10] (fun v i wr => ∃ k : Nat, k ≤ n ∧ i = .int .i64 k ∧ OwnS wr w.heap.size v (allF (l.take k) X) ∧ Below w.heap.size w wr) (fun _ i _ => n - (intOf i).toNat)
  case atStart => exact ⟨0, by omega, rfl, World.ownsRow_nil _ _ _ _, Below.refl _ _⟩
  case round =>
    obtain ⟨k, hk, rfl, hown, hb⟩ := hrel
    have HB := Lib.hid hb
    by_cases hlt : k < n
    case neg =>
      have hkn : k = l.length := by rw [HN.out]; omega
      rw [hkn, List.take_length, ← HR.out] at hown
      have HO := Lib.hid hown
      obtain ⟨a3, c3, hv3, _⟩ := ownS_src hown
      subst hv3
      clear hb hown hkn
      go_wp2
      go_ret
      exact strsSays HB.out HO.out
    case pos =>
      have hkl : k < l.length := by rw [HN.out]; exact hlt
      obtain ⟨b0, o0, rfl, hb0, d1, d2⟩ := srcA_at HS.out k hkl hb
      have hat := asz_at l k hkl
      have hz := HZ.out
      have hX := HX.out
      have hstep := allF_take l X k hkl
      have hcl := allF_len (l.take k) X
      rw [List.length_take] at hcl
      obtain ⟨p, hp⟩ : ∃ p, p = l[k] := ⟨_, rfl⟩
      rw [← hp] at d1 d2 hat hstep
      obtain ⟨Nm, hNm⟩ : ∃ Nm, p.1 = Nm := ⟨_, rfl⟩
      obtain ⟨Vl, hVl⟩ : ∃ Vl, p.2 = Vl := ⟨_, rfl⟩
      obtain ⟨cur, hcur⟩ : ∃ cur, allF (l.take k) X = cur := ⟨_, rfl⟩
      rw [hcur] at hstep hcl hown
      rw [hNm] at d1 hat hstep
      rw [hVl] at d2 hat hstep
      have hsm : ∀ wx, Calls Tryz.prog 61 #[.string Nm, .string X] wx fun e w' => e = .returned (.bool (sameB Nm X)) ∧ Below wx.heap.size wx w' := fun wx => same_any Nm X wx (by omega) (by omega)
      have hcn : cur.length ≤ 1073741824 := by omega
      have HO := Lib.hid hown
      cases q : sameB Nm X with
      | false =>
        rw [q] at hsm hstep
        simp only [Bool.false_eq_true, if_false, List.append_nil] at hstep
        have HSM := Lib.hid hsm
        have HST := Lib.hid hstep
        clear hsm hstep q hp hNm hVl hcur hkl hown hb hat hz hX hcl
        go_wp2_with fail
        refine (HSM.out _).mono ?_; rintro e w1 ⟨rfl, hb⟩
        have HB1 : Hid (Below w.heap.size w w1) := Lib.hid ((HB.out.alloc HB.out.size _).trans (hb.mono (by have := HB.out.size; simp; omega)))
        have HO1 : Hid (OwnS w1 w.heap.size _ (allF (l.take (k + 1)) X)) := Lib.hid (by rw [HST.out]; exact ownS_below (ownS_alloc HO.out _) hb)
        clear hb
        go_wp2
        go_roundw
        case rel => exact ⟨k + 1, by omega, by go_num, HO1.out, HB1.out⟩
        case measure => simp [intOf]; omega
      | true =>
        rw [q] at hsm hstep
        simp only [if_true] at hstep
        have HSM := Lib.hid hsm
        have HST := Lib.hid hstep
        clear hsm hstep q hp hNm hVl hcur hkl hown hb hat hz hX hcl
        go_wp2_with fail
        refine (HSM.out _).mono ?_; rintro e w1 ⟨rfl, hb⟩
        have m1 := (res_cells wr w1 _ _ hb 1).1.1
        have HB1 : Hid (Below w.heap.size w w1) := Lib.hid ((HB.out.alloc HB.out.size _).trans (hb.mono (by have := HB.out.size; simp; omega)))
        have HO1 : Hid (OwnS (w1.alloc (.cells #[.string Vl] 9)) w.heap.size _ cur) := Lib.hid (ownS_alloc (ownS_below (ownS_alloc HO.out _) hb) _)
        have HL := Lib.hid (lit_strs Vl w1)
        have HZ1 : Hid (w.heap.size ≤ (w1.alloc (.cells #[.string Vl] 9)).heap.size) := Lib.hid (by have := HB1.out.size; simp; omega)
        clear hb
        go_wp2_with (at_builtin; refine app_strs rfl _ _ rfl w.heap.size _ cur rfl HO1.out _ 1 1 [Vl] rfl rfl HL.out ?n2 HZ1.out ?_)
        case n2 => show (_ + 1) * 16 ≤ _; omega
        intro v3 w3 hown3 hb3 _
        have HO3 : Hid (OwnS w3 w.heap.size v3 (allF (l.take (k + 1)) X)) := Lib.hid (by rw [HST.out]; exact hown3)
        have HB3 : Hid (Below w.heap.size w w3) := Lib.hid ((HB1.out.alloc HB1.out.size _).trans hb3.out)
        clear hown3 hb3 m1
        go_wp2
        go_roundw
        case rel => exact ⟨k + 1, by omega, by go_num, HO3.out, HB3.out⟩
        case measure => simp [intOf]; omega

theorem count_any (l : AL) (X : ByteArray) (av : Option Addr) (n c : Nat) (w : World) (hn : l.length = n) (hs : SrcA w av c l) (hz : asz l ≤ 1073741824) (hX : X.size ≤ 1073741824) :
    Calls Tryz.prog 33 #[.slice av n c, .string X] w fun e w' => e = .returned (.int .i64 ((allF l X).length : Nat)) ∧ Below w.heap.size w w' := by
  have H := Lib.hid (all_any l X av n c w hn hs hz hX)
  generalize allF l X = R at H ⊢
  clear hn hs hz hX
  go_enter Tryz.func33, Tryz.ntmps33
  go_wp2_with fail
  refine H.out.mono ?_; rintro e w1 ⟨hb, v, rfl, hown⟩
  obtain ⟨a3, c3, rfl, _⟩ := ownS_src hown
  have HB := Lib.hid hb
  clear hb hown
  go_wp2
  go_ret
  exact ⟨rfl, HB.out⟩

set_option maxHeartbeats 4000000 in
set_option maxRecDepth 100000 in
theorem among_any (X : ByteArray) (ns : List ByteArray) (av : Option Addr) (n c : Nat) (w : World) (hn : ns.length = n) (hs : SrcS w av c ns) (hz : bsz ns ≤ 1073741824) (hX : X.size ≤ 1073741824) :
    Calls Tryz.prog 123 #[.string X, .slice av n c] w fun e w' => e = .returned (.bool (inF X ns)) ∧ Below w.heap.size w w' := by
  have hnb : n ≤ 1073741824 := by have := bsz_len ns; omega
  obtain ⟨R, hR⟩ : ∃ R, R = inF X ns := ⟨_, rfl⟩
  rw [← hR]
  have hy := inF_yes X ns
  have hno := inF_no X ns
  rw [← hR] at hy hno
  have HY := Lib.hid hy
  have HNO := Lib.hid hno
  have HS := Lib.hid hs
  have HZ := Lib.hid hz
  have HN := Lib.hid hn
  have HX := Lib.hid hX
  clear hR hs hz hn hX hy hno
  go_enter Tryz.func123, Tryz.ntmps123
  go_wp2_with fail
  go_loopw [9] (fun i wr => ∃ k : Nat, k ≤ n ∧ i = .int .i64 k ∧ (∀ j (hj : j < ns.length), j < k → sameB X ns[j] = false) ∧ Below w.heap.size w wr) (fun i _ => n - (intOf i).toNat)
  case atStart => exact ⟨0, by omega, rfl, fun j _ h => by omega, Below.refl _ _⟩
  case round =>
    obtain ⟨k, hk, rfl, hall, hb⟩ := hrel
    have HB := Lib.hid hb
    have HA := Lib.hid hall
    by_cases hlt : k < n
    · have hkl : k < ns.length := by rw [HN.out]; exact hlt
      obtain ⟨b0, o0, rfl, hb0, d1⟩ := srcS_at HS.out k hkl hb
      have hat := bsz_at ns k hkl
      have hz := HZ.out
      have hX := HX.out
      have hy := HY.out k hkl
      have hnx : sameB X ns[k] = false → ∀ j (hj : j < ns.length), j < k + 1 → sameB X ns[j] = false := fun h j hj hlt => by
        by_cases e : j = k
        · subst e; exact h
        · exact HA.out j hj (by omega)
      have HNX := Lib.hid hnx
      clear hnx
      generalize ns[k] = Y at d1 hat hy HNX
      have hsm : ∀ wx, Calls Tryz.prog 61 #[.string X, .string Y] wx fun e w' => e = .returned (.bool (sameB X Y)) ∧ Below wx.heap.size wx w' := fun wx => same_any X Y wx (by omega) (by omega)
      cases q : sameB X Y with
      | true =>
        rw [q] at hsm
        have HSM := Lib.hid hsm
        have HV := Lib.hid (hy q)
        clear hsm q hy hat hz hX hkl hb hall HNX
        go_wp2_with fail
        refine (HSM.out _).mono ?_; rintro e w1 ⟨rfl, hb⟩
        have HB1 := Lib.hid (HB.out.trans (hb.mono HB.out.size))
        clear hb
        go_wp2
        go_ret
        exact ⟨ret_bool HV.out.symm, HB1.out⟩
      | false =>
        rw [q] at hsm
        have HSM := Lib.hid hsm
        have HV := Lib.hid (HNX.out q)
        clear hsm q hy hat hz hX hkl hb hall HNX
        go_wp2_with fail
        refine (HSM.out _).mono ?_; rintro e w1 ⟨rfl, hb⟩
        have HB1 := Lib.hid (HB.out.trans (hb.mono HB.out.size))
        clear hb
        go_wp2
        go_roundw
        case rel => exact ⟨k + 1, by omega, by go_num, HV.out, HB1.out⟩
        case measure => simp [intOf]; omega
    · have HV := Lib.hid (HNO.out (fun j hj => hall j hj (by have := HN.out; omega)))
      clear hb hall
      go_wp2
      go_ret
      exact ⟨ret_bool HV.out.symm, HB.out⟩

set_option maxHeartbeats 8000000 in
set_option maxRecDepth 100000 in
theorem without_any (l : AL) (ns : List ByteArray) (av bv : Option Addr) (n c m d : Nat) (w : World) (hn : l.length = n) (hm : ns.length = m) (hs : SrcA w av c l) (hs2 : SrcS w bv d ns) (hz : asz l ≤ 1073741824) (hz2 : bsz ns ≤ 1073741824) :
    Calls Tryz.prog 98 #[.slice av n c, .slice bv m d] w (FldsSays (woF l ns) w) := by
  have hnb : n ≤ 1073741824 := by have := asz_len l; omega
  obtain ⟨R, hR⟩ : ∃ R, R = woF l ns := ⟨_, rfl⟩
  rw [← hR]
  have ham : ∀ X : ByteArray, X.size ≤ 1073741824 → ∀ wx, Below w.heap.size w wx → Calls Tryz.prog 123 #[.string X, .slice bv m d] wx fun e w' => e = .returned (.bool (inF X ns)) ∧ Below wx.heap.size wx w' := fun X hX wx hb =>
    among_any X ns bv m d wx hm (hs2.below hb) hz2 hX
  have HAM := Lib.hid ham
  have HR := Lib.hid hR
  have HS := Lib.hid hs
  have HZ := Lib.hid hz
  have HN := Lib.hid hn
  clear hR hs hz hn hs2 hz2 ham hm
  go_enter Tryz.func98, Tryz.ntmps98
  go_wp2_with fail
  go_loopw [5, 10] (fun v i wr => ∃ k : Nat, k ≤ n ∧ i = .int .i64 k ∧ OwnF wr w.heap.size v (woF (l.take k) ns) ∧ Below w.heap.size w wr) (fun _ i _ => n - (intOf i).toNat)
  case atStart => exact ⟨0, by omega, rfl, World.ownsRow_nil _ _ _ _, Below.refl _ _⟩
  case round =>
    obtain ⟨k, hk, rfl, hown, hb⟩ := hrel
    have HB := Lib.hid hb
    by_cases hlt : k < n
    case neg =>
      have hkn : k = l.length := by rw [HN.out]; omega
      rw [hkn, List.take_length, ← HR.out] at hown
      have HO := Lib.hid hown
      obtain ⟨a3, c3, hv3, _⟩ := ownF_src hown
      subst hv3
      clear hb hown hkn
      go_wp2
      go_ret
      exact fldsSays HB.out HO.out
    case pos =>
      have hkl : k < l.length := by rw [HN.out]; exact hlt
      obtain ⟨b0, o0, rfl, hb0, d1, d2⟩ := srcA_at HS.out k hkl hb
      have hat := asz_at l k hkl
      have hz := HZ.out
      have hstep := woF_take l ns k hkl
      have hcl := woF_len (l.take k) ns
      rw [List.length_take] at hcl
      obtain ⟨p, hp⟩ : ∃ p, p = l[k] := ⟨_, rfl⟩
      rw [← hp] at d1 d2 hat hstep
      obtain ⟨Nm, Vl⟩ := p
      simp only at d1 d2 hat hstep
      obtain ⟨cur, hcur⟩ : ∃ cur, woF (l.take k) ns = cur := ⟨_, rfl⟩
      rw [hcur] at hstep hcl hown
      have hsm : ∀ wx, Below w.heap.size w wx → Calls Tryz.prog 123 #[.string Nm, .slice bv m d] wx fun e w' => e = .returned (.bool (inF Nm ns)) ∧ Below wx.heap.size wx w' := HAM.out Nm (by omega)
      have hcn : cur.length ≤ 1073741824 := by omega
      have HO := Lib.hid hown
      have HBA : Hid (Below w.heap.size w (wr.alloc (.cells #[.string Nm, .string Vl] 37))) := Lib.hid (hb.alloc hb.size _)
      cases q : inF Nm ns with
      | true =>
        rw [q] at hsm hstep
        simp only [if_true, List.append_nil] at hstep
        have HSM := Lib.hid hsm
        have HST := Lib.hid hstep
        clear hsm hstep q hp hcur hkl hown hb hat hz hcl
        go_wp2_with fail
        refine (HSM.out _ HBA.out).mono ?_; rintro e w1 ⟨rfl, hb⟩
        have HB1 : Hid (Below w.heap.size w w1) := Lib.hid (HBA.out.trans (hb.mono HBA.out.size))
        have HO1 : Hid (OwnF w1 w.heap.size _ (woF (l.take (k + 1)) ns)) := Lib.hid (by rw [HST.out]; exact ownF_below (ownF_alloc HO.out _) (Nat.le_refl _) hb)
        clear hb
        go_wp2
        go_roundw
        case rel => exact ⟨k + 1, by omega, by go_num, HO1.out, HB1.out⟩
        case measure => simp [intOf]; omega
      | false =>
        rw [q] at hsm hstep
        simp only [Bool.false_eq_true, if_false] at hstep
        have HSM := Lib.hid hsm
        have HST := Lib.hid hstep
        clear hsm hstep q hp hcur hkl hown hb hat hz hcl
        go_wp2_with fail
        refine (HSM.out _ HBA.out).mono ?_; rintro e w1 ⟨rfl, hb⟩
        have m0 := (res_cells wr w1 _ _ hb 0).1.1
        have m1 := (res_cells wr w1 _ _ hb 1).1.1
        have HB1 : Hid (Below w.heap.size w w1) := Lib.hid (HBA.out.trans (hb.mono HBA.out.size))
        have HO1 : Hid (OwnF (w1.alloc (.cells #[.string Nm, .string Vl] 37)) w.heap.size _ cur) := Lib.hid (ownF_alloc (ownF_below (ownF_alloc HO.out _) (Nat.le_refl _) hb) _)
        have HL := Lib.hid (lit_fld Nm Vl w1)
        have HZ1 : Hid (w.heap.size ≤ (w1.alloc (.cells #[.string Nm, .string Vl] 37)).heap.size) := Lib.hid (by have := HB1.out.size; simp; omega)
        clear hb
        go_wp2_with (at_builtin; refine app_flds rfl _ _ rfl w.heap.size _ cur rfl HO1.out _ 1 1 [(Nm, Vl)] rfl rfl HL.out ?n2 HZ1.out ?_)
        case n2 => show (_ + 1) * 32 ≤ _; omega
        intro v3 w3 hown3 hb3 _
        have HO3 : Hid (OwnF w3 w.heap.size v3 (woF (l.take (k + 1)) ns)) := Lib.hid (by rw [HST.out]; exact hown3)
        have HB3 : Hid (Below w.heap.size w w3) := Lib.hid ((HB1.out.alloc HB1.out.size _).trans hb3.out)
        clear hown3 hb3 m0 m1
        go_wp2
        go_roundw
        case rel => exact ⟨k + 1, by omega, by go_num, HO3.out, HB3.out⟩
        case measure => simp [intOf]; omega
end Go.Proofs.YthkgaaibhjkngaaGreatDoor
