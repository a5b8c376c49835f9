/- Fields: the program's value, Right and Text. -/
import Derived.Test.YthkgaaibhjkngaaGreatDoorFB
set_option linter.unusedVariables false
namespace Go.Proofs.YthkgaaibhjkngaaGreatDoor
open Go.RowKit

theorem okV_bad {X : ByteArray} (k : Nat) (hk : k < X.size) (h : qb (X.data.toList.getD k 0) = false) : okV X = false := by
  unfold okV; rw [all_not X.data.toList k (by rw [len_data]; exact hk) h]; rfl
theorem okV_all {X : ByteArray} (h : ∀ j, j < X.size → qb (X.data.toList.getD j 0) = true) : okV X = decide (trim X.data.toList = X.data.toList) := by
  unfold okV; rw [all_getD X.data.toList (by rw [len_data]; exact h)]; rfl
set_option maxHeartbeats 4000000 in
set_option maxRecDepth 100000 in
theorem value_any (X : ByteArray) (w : World) (hs : X.size ≤ 9223372036854775807) :
    Calls Tryz.prog 82 #[.string X] w fun e w' => e = .returned (.bool (okV X)) ∧ Below w.heap.size w w' := by
  obtain ⟨tc, htc⟩ : ∃ tc : Nat → Bool, tc = fun k => qb (X.data.toList.getD k 0) := ⟨_, rfl⟩
  have hbad : ∀ k, k < X.size → tc k = false → okV X = false := by rw [htc]; exact fun k hk h => okV_bad k hk h
  have hall : (∀ j, j < X.size → tc j = true) → okV X = decide (trim X.data.toList = X.data.toList) := by rw [htc]; exact okV_all
  have htr := fun wx => trim_any X wx hs
  have hT : (mk (trim X.data.toList) = X) = (trim X.data.toList = X.data.toList) := by
    rw [eq_iff_iff]
    exact ⟨fun h => by have := congrArg (fun Z : ByteArray => Z.data.toList) h; rw [mk_list] at this; exact this, fun h => by rw [h]; exact mk_data X⟩
  have hat : ∀ k (h : k < X.size), (32 ≤ X[k].toNat ∨ X[k].toNat = 9) ∧ X[k].toNat ≠ 127 → tc k = true := fun k h hh => by
    rw [htc]; simp only; rw [← byte_getD X k h]; exact qb_yes (by omega)
  have hat2 : ∀ k (h : k < X.size), ¬ ((32 ≤ X[k].toNat ∨ X[k].toNat = 9) ∧ X[k].toNat ≠ 127) → tc k = false := fun k h hh => by
    rw [htc]; simp only; rw [← byte_getD X k h]; exact qb_no (by omega)
  obtain ⟨T, hTd⟩ : ∃ T, T = mk (trim X.data.toList) := ⟨_, rfl⟩
  have htr2 : ∀ wx, Calls Tryz.prog 113 #[.string X] wx fun e w' => e = .returned (.string T) ∧ Below wx.heap.size wx w' := by rw [hTd]; exact htr
  have hall2 : (∀ j, j < X.size → tc j = true) → okV X = decide (T = X) := fun h => by rw [hall h, hTd]; simp only [hT]
  generalize okV X = r at hbad hall2 ⊢
  have HB := Lib.hid hbad
  have HA := Lib.hid hall2
  have HT := Lib.hid htr2
  have H1 := Lib.hid hat
  have H2 := Lib.hid hat2
  clear hbad hall hall2 htr htr2 hT hat hat2 hTd htc
  go_enter Tryz.func82, Tryz.ntmps82
  go_wp2_with fail
  go_loop [3] (fun i => ∃ k : Nat, k ≤ X.size ∧ i = .int .i64 k ∧ ∀ j, j < k → tc j = true) (fun i => X.size - (intOf i).toNat)
  case atStart => exact ⟨0, by omega, rfl, fun j h => by omega⟩
  case round =>
    obtain ⟨k, hk, rfl, hall⟩ := hrel
    have HAL := Lib.hid hall
    clear hall
    by_cases hlt : k < X.size
    · by_cases hg : (32 ≤ X[k].toNat ∨ X[k].toNat = 9) ∧ X[k].toNat ≠ 127
      · have HNX : Hid (∀ j, j < k + 1 → tc j = true) := Lib.hid fun j h => by
          by_cases e : j = k
          · subst e; exact H1.out _ hlt hg
          · exact HAL.out j (by omega)
        obtain ⟨g1, g2⟩ := hg
        have e3 : ((X[k].toNat : Int) == 127) = false := by simp; omega
        by_cases g3 : X[k].toNat = 9
        · have e1 : (X[k].toNat : Int) < 32 := by omega
          have e2 : ((X[k].toNat : Int) != 9) = false := by simp; omega
          clear g1 g2 g3
          go_wp2
          go_round
          case rel => exact ⟨k + 1, by omega, by go_num, HNX.out⟩
          case measure => simp [intOf]; omega
        · have e1 : ¬ (X[k].toNat : Int) < 32 := by omega
          clear g1 g2 g3
          go_wp2
          go_round
          case rel => exact ⟨k + 1, by omega, by go_num, HNX.out⟩
          case measure => simp [intOf]; omega
      · have HV := Lib.hid (HB.out k hlt (H2.out k hlt hg))
        by_cases g3 : X[k].toNat = 127
        · have e1 : ¬ (X[k].toNat : Int) < 32 := by omega
          have e3 : ((X[k].toNat : Int) == 127) = true := by simp; omega
          clear hg g3
          go_wp2
          go_ret
          exact ⟨ret_bool HV.out.symm, Below.refl _ _⟩
        · have e1 : (X[k].toNat : Int) < 32 := by omega
          have e2 : ((X[k].toNat : Int) != 9) = true := by simp; omega
          clear hg g3
          go_wp2
          go_ret
          exact ⟨ret_bool HV.out.symm, Below.refl _ _⟩
    · have hv := HA.out (fun j h => HAL.out j (by omega))
      by_cases f : T = X
      · subst f
        have HV : Hid (r = true) := Lib.hid (by rw [hv]; simp)
        clear hv
        go_wp2_with fail
        refine (HT.out _).mono ?_; rintro e w1 ⟨rfl, hb⟩
        have B1 := Lib.hid hb
        clear hb
        go_wp2
        go_ret
        exact ⟨ret_bool HV.out.symm, B1.out⟩
      · have HV : Hid (r = false) := Lib.hid (by rw [hv]; simp [f])
        have f2 : (T.toList == X.toList) = false := by
          rw [toList_data', toList_data']
          simp; intro h; exact f (by apply ByteArray.ext; rw [← Array.toArray_toList (xs := T.data), h])
        clear hv f
        go_wp2_with fail
        refine (HT.out _).mono ?_; rintro e w1 ⟨rfl, hb⟩
        have B1 := Lib.hid hb
        clear hb
        go_wp2
        go_ret
        exact ⟨ret_bool HV.out.symm, B1.out⟩

theorem ret_pair {a b c d : Int} (h : a = c) (h2 : b = d) : Ending.returned (.tuple #[.int .i64 a, .int .i64 b]) = .returned (.tuple #[.int .i64 c, .int .i64 d]) := by rw [h, h2]
def RgtSays (R : Nat × Nat) (w : World) (e : Ending) (w' : World) : Prop := e = .returned (.tuple #[.int .i64 R.1, .int .i64 R.2]) ∧ Below w.heap.size w w'
theorem rgtSays {R : Nat × Nat} {a b : Nat} {x y : Int} {w w' : World} (h : R = (a, b)) (hx : x = a) (hy : y = b) (hb : Below w.heap.size w w') : RgtSays R w (.returned (.tuple #[.int .i64 x, .int .i64 y])) w' := by
  subst h hx hy; exact ⟨rfl, hb⟩
/-- a field of the list, in a later world -/
theorem srcA_at {w w' : World} {a : Option Addr} {c : Nat} {l : AL} (h : SrcA w a c l) (k : Nat) (hk : k < l.length) (hb : Below w.heap.size w w') :
    ∃ b o, a = some ⟨b, o, none⟩ ∧ b < w'.heap.size ∧ w'.cell? ⟨b, o + k * 2, none⟩ = some (.string l[k].1) ∧ w'.cell? ⟨b, o + k * 2 + 1, none⟩ = some (.string l[k].2) := by
  obtain ⟨b, o, h1, h2, h3, h4⟩ := h.at_ k hk
  exact ⟨b, o, h1, Nat.lt_of_lt_of_le h2 hb.size, (hb.cell (p := ⟨b, o + k * 2, none⟩) h2).trans h3, (hb.cell (p := ⟨b, o + k * 2 + 1, none⟩) h2).trans h4⟩

set_option maxHeartbeats 8000000 in
set_option maxRecDepth 100000 in
theorem right_any (l : AL) (av : Option Addr) (n c : Nat) (w : World) (hn : l.length = n) (hs : SrcA w av c l) (hz : asz l ≤ 1073741824) :
    Calls Tryz.prog 37 #[.slice av n c] w (RgtSays (rgt l) w) := by
  obtain ⟨R, hR⟩ : ∃ R, R = rgt l := ⟨_, rfl⟩
  rw [← hR]
  unfold rgt at hR
  have hnl := asz_len l
  by_cases h32 : 32 < l.length
  · have HV : Hid (R = (32, 18)) := Lib.hid (by rw [hR, if_pos h32])
    have g : 32 < n := by omega
    clear hR hs hz hn h32 hnl
    go_enter Tryz.func37, Tryz.ntmps37
    go_wp2
    go_ret2
    exact rgtSays HV.out rfl rfl (Below.refl _ _)
  · have HV : Hid (R = rgtF (l.drop 0) 0) := Lib.hid (by rw [hR, if_neg h32]; rfl)
    have g : ¬ 32 < n := by omega
    have HS := Lib.hid hs
    have HZ := Lib.hid hz
    have HN := Lib.hid hn
    clear hR hs hz hn h32 hnl
    go_enter Tryz.func37, Tryz.ntmps37
    go_wp2_with fail
    go_loopw [11] (fun i wr => ∃ k : Nat, k ≤ n ∧ i = .int .i64 k ∧ R = rgtF (l.drop k) k ∧ Below w.heap.size w wr) (fun i _ => n - (intOf i).toNat)
    case atStart => exact ⟨0, by omega, rfl, HV.out, Below.refl _ _⟩
    case round =>
      obtain ⟨k, hk, rfl, hR, hb⟩ := hrel
      have HB := Lib.hid hb
      by_cases hlt : k < n
      · have hkl : k < l.length := by rw [HN.out]; exact hlt
        obtain ⟨b0, o0, rfl, hb0, d1, d2⟩ := srcA_at HS.out k hkl hb
        have hat := asz_at l k hkl
        have hz := HZ.out
        have r1 := rgtF_name l k hkl
        have r2 := rgtF_value l k hkl
        have r3 := rgtF_next l k hkl
        obtain ⟨p, hp⟩ : ∃ p, p = l[k] := ⟨_, rfl⟩
        rw [← hp] at d1 d2 hat r1 r2 r3
        obtain ⟨Nm, hNm⟩ : ∃ Nm, p.1 = Nm := ⟨_, rfl⟩
        obtain ⟨Vl, hVl⟩ : ∃ Vl, p.2 = Vl := ⟨_, rfl⟩
        rw [hNm] at d1 hat r1 r2 r3
        rw [hVl] at d2 hat r2 r3
        have ht : ∀ wx, Calls Tryz.prog 81 #[.string Nm] wx fun e w' => e = .returned (.bool (okN Nm)) ∧ wx = w' := fun wx => token_any Nm wx (by omega)
        have hv := fun wx => value_any Vl wx (by omega)
        cases q1 : okN Nm with
        | false =>
          rw [q1] at ht
          have HT := Lib.hid ht
          have HV2 := Lib.hid (hR.trans (r1 q1))
          clear r1 r2 r3 ht hv q1 hp hNm hVl hkl hR hb hat hz
          go_wp2_with fail
          refine (HT.out _).mono ?_; rintro e w1 ⟨rfl, rfl⟩
          go_wp2
          go_ret2
          exact rgtSays HV2.out rfl rfl (HB.out.alloc HB.out.size _)
        | true =>
          rw [q1] at ht
          have HT := Lib.hid ht
          cases q2 : okV Vl with
          | false =>
            rw [q2] at hv
            have HVV := Lib.hid hv
            have HV2 := Lib.hid (hR.trans (r2 q1 q2))
            clear r1 r2 r3 ht hv q1 q2 hp hNm hVl hkl hR hb hat hz
            go_wp2_with fail
            refine (HT.out _).mono ?_; rintro e w1 ⟨rfl, rfl⟩
            go_wp2_with fail
            refine (HVV.out _).mono ?_; rintro e w2 ⟨rfl, hb⟩
            have HB2 : Hid (Below w.heap.size w w2) := Lib.hid ((HB.out.alloc HB.out.size _).trans (hb.mono (by have := HB.out.size; simp; omega)))
            clear hb
            go_wp2
            go_ret2
            exact rgtSays HV2.out rfl rfl HB2.out
          | true =>
            rw [q2] at hv
            have HVV := Lib.hid hv
            have HV2 := Lib.hid (hR.trans (r3 q1 q2))
            clear r1 r2 r3 ht hv q1 q2 hp hNm hVl hkl hR hb hat hz
            go_wp2_with fail
            refine (HT.out _).mono ?_; rintro e w1 ⟨rfl, rfl⟩
            go_wp2_with fail
            refine (HVV.out _).mono ?_; rintro e w2 ⟨rfl, hb⟩
            have HB2 : Hid (Below w.heap.size w w2) := Lib.hid ((HB.out.alloc HB.out.size _).trans (hb.mono (by have := HB.out.size; simp; omega)))
            clear hb
            go_wp2
            go_roundw
            case rel => exact ⟨k + 1, by omega, by go_num, HV2.out, HB2.out⟩
            case measure => simp [intOf]; omega
      · have HV2 : Hid (R = (0, 0)) := Lib.hid (by rw [hR]; exact rgtF_end l k k (by rw [HN.out]; omega))
        clear hR hb
        go_wp2
        go_ret2
        exact rgtSays HV2.out rfl rfl HB.out
end Go.Proofs.YthkgaaibhjkngaaGreatDoor
