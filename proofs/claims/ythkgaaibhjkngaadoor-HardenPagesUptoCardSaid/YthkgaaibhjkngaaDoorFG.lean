/- Fields: the document's answers: Value, Right, Text, All, Members. -/
import Derived.Test.YthkgaaibhjkngaaDoorFF
set_option linter.unusedVariables false
namespace Go.Proofs.YthkgaaibhjkngaaDoor
open Go.RowKit







set_option maxHeartbeats 8000000 in
set_option maxRecDepth 100000 in
theorem rAll_any (l : AL) (X : ByteArray) (av : Option Addr) (n c : Nat) (w : World) (hn : l.length = n) (hs : SrcA w av c l) (hz : asz l ≤ 1073741824) (hX : X.size ≤ 1073741824) :
    Calls Tryd.prog 58 #[.slice av n c, .string X] w (StrsSays (allF l X) w) := by
  have hnb : n ≤ 1073741824 := by have := asz_len l; omega
  obtain ⟨R, hR⟩ : ∃ R, R = allF l X := ⟨_, rfl⟩
  rw [← hR]
  have HR := Lib.hid hR
  have HS := Lib.hid hs
  have HZ := Lib.hid hz
  have HN := Lib.hid hn
  have HX := Lib.hid hX
  clear hR hs hz hn hX
  go_enter Tryd.func58, Tryd.ntmps58
  go_wp2_with fail
  go_loopw [5, 6] (fun v i wr => ∃ k : Nat, k ≤ n ∧ i = .int .i64 k ∧ OwnS wr w.heap.size v (allF (l.take k) X) ∧ Below w.heap.size w wr) (fun _ i _ => n - (intOf i).toNat)
  case atStart => exact ⟨0, by omega, rfl, World.ownsRow_nil _ _ _ _, Below.refl _ _⟩
  case round =>
    obtain ⟨k, hk, rfl, hown, hb⟩ := hrel
    have HB := Lib.hid hb
    by_cases hlt : k < n
    case neg =>
      have hkn : k = l.length := by rw [HN.out]; omega
      rw [hkn, List.take_length, ← HR.out] at hown
      have HO := Lib.hid hown
      obtain ⟨a3, c3, hv3, _⟩ := ownS_src hown
      subst hv3
      clear hb hown hkn
      go_wp2
      go_ret
      exact strsSays HB.out HO.out
    case pos =>
      have hkl : k < l.length := by rw [HN.out]; exact hlt
      obtain ⟨b0, o0, rfl, hb0, d1, d2⟩ := srcA_at HS.out k hkl hb
      have hat := asz_at l k hkl
      have hz := HZ.out
      have hX := HX.out
      have hstep := allF_take l X k hkl
      have hcl := allF_len (l.take k) X
      rw [List.length_take] at hcl
      obtain ⟨p, hp⟩ : ∃ p, p = l[k] := ⟨_, rfl⟩
      rw [← hp] at d1 d2 hat hstep
      obtain ⟨Nm, hNm⟩ : ∃ Nm, p.1 = Nm := ⟨_, rfl⟩
      obtain ⟨Vl, hVl⟩ : ∃ Vl, p.2 = Vl := ⟨_, rfl⟩
      obtain ⟨cur, hcur⟩ : ∃ cur, allF (l.take k) X = cur := ⟨_, rfl⟩
      rw [hcur] at hstep hcl hown
      rw [hNm] at d1 hat hstep
      rw [hVl] at d2 hat hstep
      have hsm : ∀ wx, Calls Tryd.prog 61 #[.string Nm, .string X] wx fun e w' => e = .returned (.bool (sameB Nm X)) ∧ Below wx.heap.size wx w' := fun wx => rSame_any Nm X wx (by omega) (by omega)
      have hcn : cur.length ≤ 1073741824 := by omega
      have HO := Lib.hid hown
      cases q : sameB Nm X with
      | false =>
        rw [q] at hsm hstep
        simp only [Bool.false_eq_true, if_false, List.append_nil] at hstep
        have HSM := Lib.hid hsm
        have HST := Lib.hid hstep
        clear hsm hstep q hp hNm hVl hcur hkl hown hb hat hz hX hcl
        go_wp2_with fail
        refine (HSM.out _).mono ?_; rintro e w1 ⟨rfl, hb⟩
        have HB1 : Hid (Below w.heap.size w w1) := Lib.hid (HB.out.trans (hb.mono HB.out.size))
        have HO1 : Hid (OwnS w1 w.heap.size _ (allF (l.take (k + 1)) X)) := Lib.hid (by rw [HST.out]; exact ownS_below HO.out hb)
        clear hb
        go_wp2
        go_roundw
        case rel => exact ⟨k + 1, by omega, by go_num, HO1.out, HB1.out⟩
        case measure => simp [intOf]; omega
      | true =>
        rw [q] at hsm hstep
        simp only [if_true] at hstep
        have HSM := Lib.hid hsm
        have HST := Lib.hid hstep
        have HD2 := Lib.hid d2
        clear hsm hstep q hp hNm hVl hcur hkl hown hb hat hz hX hcl d2
        go_wp2_with fail
        refine (HSM.out _).mono ?_; rintro e w1 ⟨rfl, hb⟩
        have m1 := (hb.cell (p := ⟨b0, o0 + k * 2 + 1, none⟩) hb0).trans HD2.out
        have HB1 : Hid (Below w.heap.size w w1) := Lib.hid (HB.out.trans (hb.mono HB.out.size))
        have HO1 : Hid (OwnS (w1.alloc (.cells #[.string Vl] 9)) w.heap.size _ cur) := Lib.hid (ownS_alloc (ownS_below HO.out hb) _)
        have HL := Lib.hid (lit_strs Vl w1)
        have HZ1 : Hid (w.heap.size ≤ (w1.alloc (.cells #[.string Vl] 9)).heap.size) := Lib.hid (by have := HB1.out.size; simp; omega)
        clear hb
        go_wp2_with (at_builtin; refine app_strs rfl _ _ rfl w.heap.size _ cur rfl HO1.out _ 1 1 [Vl] rfl rfl HL.out ?n2 HZ1.out ?_)
        case n2 => show (_ + 1) * 16 ≤ _; omega
        intro v3 w3 hown3 hb3 _
        have HO3 : Hid (OwnS w3 w.heap.size v3 (allF (l.take (k + 1)) X)) := Lib.hid (by rw [HST.out]; exact hown3)
        have HB3 : Hid (Below w.heap.size w w3) := Lib.hid ((HB1.out.alloc HB1.out.size _).trans hb3.out)
        clear hown3 hb3 m1
        go_wp2
        go_roundw
        case rel => exact ⟨k + 1, by omega, by go_num, HO3.out, HB3.out⟩
        case measure => simp [intOf]; omega
end Go.Proofs.YthkgaaibhjkngaaDoor
