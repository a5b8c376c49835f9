/- A media type's text: the document's answer. -/
import Derived.Test.YtkadingpmebjbaaDoorPM
import Derived.Test.YtkadingpmebjbaaDoorBC

import Derived.Deep.RegionHeld3
set_option linter.unusedVariables false
namespace Go.Proofs.YtkadingpmebjbaaDoor
open Go.RowKit

theorem psz_len (ps : PL) : ps.length ≤ psz ps := by
  induction ps with
  | nil => simp [psz]
  | cons p r ih => simp only [psz, List.length_cons]; omega

/-- how a word fares: not a token; a token with large letters; small -/
theorem small_cases (X : ByteArray) (hs : X.size ≤ 9223372036854775807) :
    (isSmall X.data.toList = false ∧ ∀ wx, Calls Tryd.prog 55 #[.string X] wx fun e w' => e = .returned (.bool false) ∧ w' = wx) ∨
    ((∀ wx, Calls Tryd.prog 55 #[.string X] wx fun e w' => e = .returned (.bool true) ∧ Below wx.heap.size wx w') ∧
      ((isSmall X.data.toList = false ∧ ∃ L : ByteArray, (L.toList == X.toList) = false ∧ ∀ wx, Calls Tryd.prog 45 #[.string X] wx fun e w' => e = .returned (.string L) ∧ Below wx.heap.size wx w') ∨
       (isSmall X.data.toList = true ∧ ∀ wx, Calls Tryd.prog 45 #[.string X] wx fun e w' => e = .returned (.string X) ∧ Below wx.heap.size wx w'))) := by
  have ht := fun wx => rToken_any X wx hs
  have hl := fun wx => rLower_any X wx hs
  cases h1 : isTok X.data.toList with
  | false =>
    rw [h1] at ht
    exact .inl ⟨isSmall_no (.inl h1), fun wx => (ht wx).mono fun e w' h => ⟨h.1, h.2.symm⟩⟩
  | true =>
    rw [h1] at ht
    refine .inr ⟨fun wx => (ht wx).mono fun e w' h => ⟨h.1, by rw [← h.2]; exact Below.refl _ _⟩, ?_⟩
    by_cases e : X.data.toList.map lwr = X.data.toList
    · refine .inr ⟨isSmall_yes h1 e, fun wx => ?_⟩
      have := hl wx
      rw [e, mk_data] at this
      exact this
    · refine .inl ⟨isSmall_no (.inr e), ⟨(X.data.toList.map lwr).toArray⟩, ?_, hl⟩
      rw [toList_data', toList_data']
      first | simpa using e | exact beq_eq_false_iff_ne.2 e

set_option maxHeartbeats 32000000 in
set_option maxRecDepth 100000 in
theorem rText_any (T S : ByteArray) (ps : PL) (av : Option Addr) (an ac : Nat) (w : World) (han : ps.length = an) (hav : SrcA w av ac (ps.map mk2)) (hs : T.size + S.size + psz ps ≤ 1073741824) :
    Calls Tryd.prog 17 #[.agg #[.string T, .string S, .slice av an ac]] w fun e w' => e = .returned (.string (mk (textM T.data.toList S.data.toList ps))) ∧ Below w.heap.size w w' := by
  have ht := small_cases T (by omega)
  have hu := small_cases S (by omega)
  obtain ⟨R, hR⟩ : ∃ R, R = mk (textM T.data.toList S.data.toList ps) := ⟨_, rfl⟩
  rw [← hR]
  have hpl := psz_len ps
  obtain ⟨wB, hwB⟩ : ∃ wB, wB = w.alloc (.cells #[.string T, .string S, .slice av an ac] 24) := ⟨_, rfl⟩
  have b0 : wB.cell? ⟨w.heap.size, 0, none⟩ = some (.string T) := by rw [hwB]; exact (at_alloc w _ _ 0).1
  have b1 : wB.cell? ⟨w.heap.size, 1, none⟩ = some (.string S) := by rw [hwB]; exact (at_alloc w _ _ 1).1
  have b2 : wB.cell? ⟨w.heap.size, 2, none⟩ = some (.slice av an ac) := by rw [hwB]; exact (at_alloc w _ _ 2).1
  have hlt : w.heap.size < wB.heap.size := by rw [hwB]; simp
  have hbw : Below w.heap.size w wB := by rw [hwB]; exact (Below.refl _ _).alloc (Nat.le_refl _) _
  have K0 : Hid (Below wB.heap.size wB wB ∧ wB.cell? ⟨w.heap.size, 0, none⟩ = some (.string T) ∧ wB.cell? ⟨w.heap.size, 1, none⟩ = some (.string S) ∧ wB.cell? ⟨w.heap.size, 2, none⟩ = some (.slice av an ac)) := Lib.hid ⟨Below.refl _ _, b0, b1, b2⟩
  have KT : Hid (∀ wx wy, (Below wB.heap.size wB wx ∧ wx.cell? ⟨w.heap.size, 0, none⟩ = some (.string T) ∧ wx.cell? ⟨w.heap.size, 1, none⟩ = some (.string S) ∧ wx.cell? ⟨w.heap.size, 2, none⟩ = some (.slice av an ac)) → Below wx.heap.size wx wy → (Below wB.heap.size wB wy ∧ wy.cell? ⟨w.heap.size, 0, none⟩ = some (.string T) ∧ wy.cell? ⟨w.heap.size, 1, none⟩ = some (.string S) ∧ wy.cell? ⟨w.heap.size, 2, none⟩ = some (.slice av an ac))) := Lib.hid fun wx wy hS hb => by
    have hl : w.heap.size < wx.heap.size := Nat.lt_of_lt_of_le hlt hS.1.size
    exact ⟨hS.1.trans (hb.mono hS.1.size), (hb.cell (p := ⟨w.heap.size, 0, none⟩) hl).trans hS.2.1, (hb.cell (p := ⟨w.heap.size, 1, none⟩) hl).trans hS.2.2.1, (hb.cell (p := ⟨w.heap.size, 2, none⟩) hl).trans hS.2.2.2⟩
  have KE : Hid (∀ wx, (Below wB.heap.size wB wx ∧ wx.cell? ⟨w.heap.size, 0, none⟩ = some (.string T) ∧ wx.cell? ⟨w.heap.size, 1, none⟩ = some (.string S) ∧ wx.cell? ⟨w.heap.size, 2, none⟩ = some (.slice av an ac)) → Below w.heap.size w wx) := Lib.hid fun wx hS => hbw.trans (hS.1.mono hbw.size)
  have HW := Lib.hid hwB
  have HR0 : Hid (isSmall T.data.toList = false ∨ isSmall S.data.toList = false → R = ⟨#[]⟩) := Lib.hid fun h => by rw [hR, textM_first h]; rfl
  have HRR := Lib.hid hR
  have HAV := Lib.hid hav
  clear hwB hbw hR hav
  rcases ht with ⟨t1, t2⟩ | ⟨t1, ⟨t2, L, t3, t4⟩ | ⟨t2, t3⟩⟩
  · rcases hu with ⟨u1, u2⟩ | ⟨u1, ⟨u2, M, u3, u4⟩ | ⟨u2, u3⟩⟩
    · have HV := Lib.hid (HR0.out (.inl t1))
      have HT := Lib.hid t2
      clear t1 t2
      have HV := Lib.hid (HR0.out (.inr u1))
      have HU := Lib.hid u2
      clear u1 u2
      go_enter Tryd.func17, Tryd.ntmps17
      go_wp2_with fail
      rw [← HW.out]
      go_quiet (first | (go_at_call_of 55 (Value.string T); refine Calls.quiet_of_same (HT.out _)))
      have hHS1 := KT.out _ _ K0.out (below_drewN _ nq)
      obtain ⟨wq, hwq⟩ : ∃ wq, wq = wB.drewN nq := ⟨_, rfl⟩
      rw [← hwq]
      rw [← hwq] at hHS1
      clear hwq
      have HS1 := Lib.hid hHS1
      obtain ⟨_, c0, c1, c2⟩ := hHS1
      go_wp2_with fail
      go_quiet (first | (go_at_call_of 55 (Value.string S); refine Calls.quiet_of_same (HU.out _)))
      have hHS2 := KT.out _ _ HS1.out (below_drewN _ nq)
      have HS2 := Lib.hid hHS2
      obtain ⟨_, e0, e1, e2⟩ := hHS2
      go_wp2
      go_ret
      exact ⟨ret_str HV.out.symm, KE.out _ HS2.out⟩
    · have HV := Lib.hid (HR0.out (.inl t1))
      have HT := Lib.hid t2
      clear t1 t2
      have HV := Lib.hid (HR0.out (.inr u2))
      have HU := Lib.hid u1
      have HUL := Lib.hid u4
      clear u1 u2 u4
      go_enter Tryd.func17, Tryd.ntmps17
      go_wp2_with fail
      rw [← HW.out]
      go_quiet (first | (go_at_call_of 55 (Value.string T); refine Calls.quiet_of_same (HT.out _)))
      have hHS1 := KT.out _ _ K0.out (below_drewN _ nq)
      obtain ⟨wq, hwq⟩ : ∃ wq, wq = wB.drewN nq := ⟨_, rfl⟩
      rw [← hwq]
      rw [← hwq] at hHS1
      clear hwq
      have HS1 := Lib.hid hHS1
      obtain ⟨_, c0, c1, c2⟩ := hHS1
      go_wp2_with fail
      go_region_held3 (fun w' => Below wB.heap.size wB w' ∧ w'.cell? ⟨w.heap.size, 0, none⟩ = some (.string T) ∧ w'.cell? ⟨w.heap.size, 1, none⟩ = some (.string S) ∧ w'.cell? ⟨w.heap.size, 2, none⟩ = some (.slice av an ac)) (first | exact KT.out _ _ HS1.out (Below.refl _ _).drew | exact KT.out _ _ (by assumption) hb)
        (first
          | (go_at_call_of 55 (Value.string S); refine (HU.out _).mono ?_; rintro e w' ⟨rfl, hb⟩)
          | (go_at_call_of 45 (Value.string S); refine (HUL.out _).mono ?_; rintro e w' ⟨rfl, hb⟩))
      have hHS2 := KT.out _ _ (by assumption) (Below.refl _ _)
      have HS2 := Lib.hid hHS2
      obtain ⟨_, e0, e1, e2⟩ := hHS2
      go_wp2
      go_ret
      exact ⟨ret_str HV.out.symm, KE.out _ HS2.out⟩
    · have HV := Lib.hid (HR0.out (.inl t1))
      have HT := Lib.hid t2
      clear t1 t2
      have HU := Lib.hid u1
      have HUL := Lib.hid u3
      have HU2 := Lib.hid u2
      clear u1 u2 u3
      go_enter Tryd.func17, Tryd.ntmps17
      go_wp2_with fail
      rw [← HW.out]
      go_quiet (first | (go_at_call_of 55 (Value.string T); refine Calls.quiet_of_same (HT.out _)))
      have hHS1 := KT.out _ _ K0.out (below_drewN _ nq)
      obtain ⟨wq, hwq⟩ : ∃ wq, wq = wB.drewN nq := ⟨_, rfl⟩
      rw [← hwq]
      rw [← hwq] at hHS1
      clear hwq
      have HS1 := Lib.hid hHS1
      obtain ⟨_, c0, c1, c2⟩ := hHS1
      go_wp2_with fail
      go_region_held3 (fun w' => Below wB.heap.size wB w' ∧ w'.cell? ⟨w.heap.size, 0, none⟩ = some (.string T) ∧ w'.cell? ⟨w.heap.size, 1, none⟩ = some (.string S) ∧ w'.cell? ⟨w.heap.size, 2, none⟩ = some (.slice av an ac)) (first | exact KT.out _ _ HS1.out (Below.refl _ _).drew | exact KT.out _ _ (by assumption) hb)
        (first
          | (go_at_call_of 55 (Value.string S); refine (HU.out _).mono ?_; rintro e w' ⟨rfl, hb⟩)
          | (go_at_call_of 45 (Value.string S); refine (HUL.out _).mono ?_; rintro e w' ⟨rfl, hb⟩))
      have hHS2 := KT.out _ _ (by assumption) (Below.refl _ _)
      have HS2 := Lib.hid hHS2
      obtain ⟨_, e0, e1, e2⟩ := hHS2
      go_wp2
      go_ret
      exact ⟨ret_str HV.out.symm, KE.out _ HS2.out⟩
  · rcases hu with ⟨u1, u2⟩ | ⟨u1, ⟨u2, M, u3, u4⟩ | ⟨u2, u3⟩⟩
    · have HV := Lib.hid (HR0.out (.inl t2))
      have HT := Lib.hid t1
      have HTL := Lib.hid t4
      clear t1 t2 t4
      have HV := Lib.hid (HR0.out (.inr u1))
      have HU := Lib.hid u2
      clear u1 u2
      go_enter Tryd.func17, Tryd.ntmps17
      go_wp2_with fail
      rw [← HW.out]
      go_region_held3 (fun w' => Below wB.heap.size wB w' ∧ w'.cell? ⟨w.heap.size, 0, none⟩ = some (.string T) ∧ w'.cell? ⟨w.heap.size, 1, none⟩ = some (.string S) ∧ w'.cell? ⟨w.heap.size, 2, none⟩ = some (.slice av an ac)) (first | exact KT.out _ _ K0.out (Below.refl _ _).drew | exact KT.out _ _ (by assumption) hb)
        (first
          | (go_at_call_of 55 (Value.string T); refine (HT.out _).mono ?_; rintro e w' ⟨rfl, hb⟩)
          | (go_at_call_of 45 (Value.string T); refine (HTL.out _).mono ?_; rintro e w' ⟨rfl, hb⟩))
      have hHS1 := KT.out _ _ (by assumption) (Below.refl _ _)
      have HS1 := Lib.hid hHS1
      obtain ⟨_, c0, c1, c2⟩ := hHS1
      go_wp2_with fail
      go_quiet (first | (go_at_call_of 55 (Value.string S); refine Calls.quiet_of_same (HU.out _)))
      have hHS2 := KT.out _ _ HS1.out (below_drewN _ nq)
      have HS2 := Lib.hid hHS2
      obtain ⟨_, e0, e1, e2⟩ := hHS2
      go_wp2
      go_ret
      exact ⟨ret_str HV.out.symm, KE.out _ HS2.out⟩
    · have HV := Lib.hid (HR0.out (.inl t2))
      have HT := Lib.hid t1
      have HTL := Lib.hid t4
      clear t1 t2 t4
      have HV := Lib.hid (HR0.out (.inr u2))
      have HU := Lib.hid u1
      have HUL := Lib.hid u4
      clear u1 u2 u4
      go_enter Tryd.func17, Tryd.ntmps17
      go_wp2_with fail
      rw [← HW.out]
      go_region_held3 (fun w' => Below wB.heap.size wB w' ∧ w'.cell? ⟨w.heap.size, 0, none⟩ = some (.string T) ∧ w'.cell? ⟨w.heap.size, 1, none⟩ = some (.string S) ∧ w'.cell? ⟨w.heap.size, 2, none⟩ = some (.slice av an ac)) (first | exact KT.out _ _ K0.out (Below.refl _ _).drew | exact KT.out _ _ (by assumption) hb)
        (first
          | (go_at_call_of 55 (Value.string T); refine (HT.out _).mono ?_; rintro e w' ⟨rfl, hb⟩)
          | (go_at_call_of 45 (Value.string T); refine (HTL.out _).mono ?_; rintro e w' ⟨rfl, hb⟩))
      have hHS1 := KT.out _ _ (by assumption) (Below.refl _ _)
      have HS1 := Lib.hid hHS1
      obtain ⟨_, c0, c1, c2⟩ := hHS1
      go_wp2_with fail
      go_region_held3 (fun w' => Below wB.heap.size wB w' ∧ w'.cell? ⟨w.heap.size, 0, none⟩ = some (.string T) ∧ w'.cell? ⟨w.heap.size, 1, none⟩ = some (.string S) ∧ w'.cell? ⟨w.heap.size, 2, none⟩ = some (.slice av an ac)) (first | exact KT.out _ _ HS1.out (Below.refl _ _).drew | exact KT.out _ _ (by assumption) hb)
        (first
          | (go_at_call_of 55 (Value.string S); refine (HU.out _).mono ?_; rintro e w' ⟨rfl, hb⟩)
          | (go_at_call_of 45 (Value.string S); refine (HUL.out _).mono ?_; rintro e w' ⟨rfl, hb⟩))
      have hHS2 := KT.out _ _ (by assumption) (Below.refl _ _)
      have HS2 := Lib.hid hHS2
      obtain ⟨_, e0, e1, e2⟩ := hHS2
      go_wp2
      go_ret
      exact ⟨ret_str HV.out.symm, KE.out _ HS2.out⟩
    · have HV := Lib.hid (HR0.out (.inl t2))
      have HT := Lib.hid t1
      have HTL := Lib.hid t4
      clear t1 t2 t4
      have HU := Lib.hid u1
      have HUL := Lib.hid u3
      have HU2 := Lib.hid u2
      clear u1 u2 u3
      go_enter Tryd.func17, Tryd.ntmps17
      go_wp2_with fail
      rw [← HW.out]
      go_region_held3 (fun w' => Below wB.heap.size wB w' ∧ w'.cell? ⟨w.heap.size, 0, none⟩ = some (.string T) ∧ w'.cell? ⟨w.heap.size, 1, none⟩ = some (.string S) ∧ w'.cell? ⟨w.heap.size, 2, none⟩ = some (.slice av an ac)) (first | exact KT.out _ _ K0.out (Below.refl _ _).drew | exact KT.out _ _ (by assumption) hb)
        (first
          | (go_at_call_of 55 (Value.string T); refine (HT.out _).mono ?_; rintro e w' ⟨rfl, hb⟩)
          | (go_at_call_of 45 (Value.string T); refine (HTL.out _).mono ?_; rintro e w' ⟨rfl, hb⟩))
      have hHS1 := KT.out _ _ (by assumption) (Below.refl _ _)
      have HS1 := Lib.hid hHS1
      obtain ⟨_, c0, c1, c2⟩ := hHS1
      go_wp2_with fail
      go_region_held3 (fun w' => Below wB.heap.size wB w' ∧ w'.cell? ⟨w.heap.size, 0, none⟩ = some (.string T) ∧ w'.cell? ⟨w.heap.size, 1, none⟩ = some (.string S) ∧ w'.cell? ⟨w.heap.size, 2, none⟩ = some (.slice av an ac)) (first | exact KT.out _ _ HS1.out (Below.refl _ _).drew | exact KT.out _ _ (by assumption) hb)
        (first
          | (go_at_call_of 55 (Value.string S); refine (HU.out _).mono ?_; rintro e w' ⟨rfl, hb⟩)
          | (go_at_call_of 45 (Value.string S); refine (HUL.out _).mono ?_; rintro e w' ⟨rfl, hb⟩))
      have hHS2 := KT.out _ _ (by assumption) (Below.refl _ _)
      have HS2 := Lib.hid hHS2
      obtain ⟨_, e0, e1, e2⟩ := hHS2
      go_wp2
      go_ret
      exact ⟨ret_str HV.out.symm, KE.out _ HS2.out⟩
  · rcases hu with ⟨u1, u2⟩ | ⟨u1, ⟨u2, M, u3, u4⟩ | ⟨u2, u3⟩⟩
    · have HT := Lib.hid t1
      have HTL := Lib.hid t3
      have HT2 := Lib.hid t2
      clear t1 t2 t3
      have HV := Lib.hid (HR0.out (.inr u1))
      have HU := Lib.hid u2
      clear u1 u2
      go_enter Tryd.func17, Tryd.ntmps17
      go_wp2_with fail
      rw [← HW.out]
      go_region_held3 (fun w' => Below wB.heap.size wB w' ∧ w'.cell? ⟨w.heap.size, 0, none⟩ = some (.string T) ∧ w'.cell? ⟨w.heap.size, 1, none⟩ = some (.string S) ∧ w'.cell? ⟨w.heap.size, 2, none⟩ = some (.slice av an ac)) (first | exact KT.out _ _ K0.out (Below.refl _ _).drew | exact KT.out _ _ (by assumption) hb)
        (first
          | (go_at_call_of 55 (Value.string T); refine (HT.out _).mono ?_; rintro e w' ⟨rfl, hb⟩)
          | (go_at_call_of 45 (Value.string T); refine (HTL.out _).mono ?_; rintro e w' ⟨rfl, hb⟩))
      have hHS1 := KT.out _ _ (by assumption) (Below.refl _ _)
      have HS1 := Lib.hid hHS1
      obtain ⟨_, c0, c1, c2⟩ := hHS1
      go_wp2_with fail
      go_quiet (first | (go_at_call_of 55 (Value.string S); refine Calls.quiet_of_same (HU.out _)))
      have hHS2 := KT.out _ _ HS1.out (below_drewN _ nq)
      have HS2 := Lib.hid hHS2
      obtain ⟨_, e0, e1, e2⟩ := hHS2
      go_wp2
      go_ret
      exact ⟨ret_str HV.out.symm, KE.out _ HS2.out⟩
    · have HT := Lib.hid t1
      have HTL := Lib.hid t3
      have HT2 := Lib.hid t2
      clear t1 t2 t3
      have HV := Lib.hid (HR0.out (.inr u2))
      have HU := Lib.hid u1
      have HUL := Lib.hid u4
      clear u1 u2 u4
      go_enter Tryd.func17, Tryd.ntmps17
      go_wp2_with fail
      rw [← HW.out]
      go_region_held3 (fun w' => Below wB.heap.size wB w' ∧ w'.cell? ⟨w.heap.size, 0, none⟩ = some (.string T) ∧ w'.cell? ⟨w.heap.size, 1, none⟩ = some (.string S) ∧ w'.cell? ⟨w.heap.size, 2, none⟩ = some (.slice av an ac)) (first | exact KT.out _ _ K0.out (Below.refl _ _).drew | exact KT.out _ _ (by assumption) hb)
        (first
          | (go_at_call_of 55 (Value.string T); refine (HT.out _).mono ?_; rintro e w' ⟨rfl, hb⟩)
          | (go_at_call_of 45 (Value.string T); refine (HTL.out _).mono ?_; rintro e w' ⟨rfl, hb⟩))
      have hHS1 := KT.out _ _ (by assumption) (Below.refl _ _)
      have HS1 := Lib.hid hHS1
      obtain ⟨_, c0, c1, c2⟩ := hHS1
      go_wp2_with fail
      go_region_held3 (fun w' => Below wB.heap.size wB w' ∧ w'.cell? ⟨w.heap.size, 0, none⟩ = some (.string T) ∧ w'.cell? ⟨w.heap.size, 1, none⟩ = some (.string S) ∧ w'.cell? ⟨w.heap.size, 2, none⟩ = some (.slice av an ac)) (first | exact KT.out _ _ HS1.out (Below.refl _ _).drew | exact KT.out _ _ (by assumption) hb)
        (first
          | (go_at_call_of 55 (Value.string S); refine (HU.out _).mono ?_; rintro e w' ⟨rfl, hb⟩)
          | (go_at_call_of 45 (Value.string S); refine (HUL.out _).mono ?_; rintro e w' ⟨rfl, hb⟩))
      have hHS2 := KT.out _ _ (by assumption) (Below.refl _ _)
      have HS2 := Lib.hid hHS2
      obtain ⟨_, e0, e1, e2⟩ := hHS2
      go_wp2
      go_ret
      exact ⟨ret_str HV.out.symm, KE.out _ HS2.out⟩
    · have HT := Lib.hid t1
      have HTL := Lib.hid t3
      have HT2 := Lib.hid t2
      clear t1 t2 t3
      have HU := Lib.hid u1
      have HUL := Lib.hid u3
      have HU2 := Lib.hid u2
      clear u1 u2 u3
      go_enter Tryd.func17, Tryd.ntmps17
      go_wp2_with fail
      rw [← HW.out]
      go_region_held3 (fun w' => Below wB.heap.size wB w' ∧ w'.cell? ⟨w.heap.size, 0, none⟩ = some (.string T) ∧ w'.cell? ⟨w.heap.size, 1, none⟩ = some (.string S) ∧ w'.cell? ⟨w.heap.size, 2, none⟩ = some (.slice av an ac)) (first | exact KT.out _ _ K0.out (Below.refl _ _).drew | exact KT.out _ _ (by assumption) hb)
        (first
          | (go_at_call_of 55 (Value.string T); refine (HT.out _).mono ?_; rintro e w' ⟨rfl, hb⟩)
          | (go_at_call_of 45 (Value.string T); refine (HTL.out _).mono ?_; rintro e w' ⟨rfl, hb⟩))
      have hHS1 := KT.out _ _ (by assumption) (Below.refl _ _)
      have HS1 := Lib.hid hHS1
      obtain ⟨_, c0, c1, c2⟩ := hHS1
      go_wp2_with fail
      go_region_held3 (fun w' => Below wB.heap.size wB w' ∧ w'.cell? ⟨w.heap.size, 0, none⟩ = some (.string T) ∧ w'.cell? ⟨w.heap.size, 1, none⟩ = some (.string S) ∧ w'.cell? ⟨w.heap.size, 2, none⟩ = some (.slice av an ac)) (first | exact KT.out _ _ HS1.out (Below.refl _ _).drew | exact KT.out _ _ (by assumption) hb)
        (first
          | (go_at_call_of 55 (Value.string S); refine (HU.out _).mono ?_; rintro e w' ⟨rfl, hb⟩)
          | (go_at_call_of 45 (Value.string S); refine (HUL.out _).mono ?_; rintro e w' ⟨rfl, hb⟩))
      have hHS2 := KT.out _ _ (by assumption) (Below.refl _ _)
      have HS2 := Lib.hid hHS2
      obtain ⟨_, e0, e1, e2⟩ := hHS2
      have hT2 := HT2.out
      have hU2 := HU2.out
      obtain ⟨head, hhead⟩ : ∃ head, head = T.data.toList ++ [47] ++ S.data.toList := ⟨_, rfl⟩
      have hheadl : head.length = T.size + 1 + S.size := by rw [hhead]; simp only [List.length_append, len_data, List.length_cons, List.length_nil]
      have HGOOD : Hid ((∀ j (hj : j < ps.length), okP ps[j] = true) → R = mk (head ++ textP ps)) := Lib.hid fun h => by rw [HRR.out, textM_good hT2 hU2 h, hhead]
      have HBAD : Hid (∀ k (hk : k < ps.length), okP ps[k] = false → R = ⟨#[]⟩) := Lib.hid fun k hk h => by rw [HRR.out, textM_bad k hk h]; rfl
      have hcat : ((T ++ (⟨#[47]⟩ : ByteArray)) ++ S).data.toList = head ++ textP (ps.take 0) := by rw [app_list2, app_list2, hhead]; simp [textP]
      have HCAT := Lib.hid hcat
      have HL := Lib.hid hheadl
      have hn1 : ¬ 9223372036854775807 < T.size + 1 := by omega
      have hn2 : ¬ 9223372036854775807 < T.size + 1 + S.size := by omega
      clear hhead hheadl hcat hT2 hU2
      go_wp2_with fail
      go_loopw [5, 6] (fun o i wr => ∃ (k : Nat) (O : ByteArray), k ≤ an ∧ i = .int .i64 k ∧ o = .string O ∧ O.data.toList = head ++ textP (ps.take k) ∧ (Below wB.heap.size wB wr ∧ wr.cell? ⟨w.heap.size, 0, none⟩ = some (.string T) ∧ wr.cell? ⟨w.heap.size, 1, none⟩ = some (.string S) ∧ wr.cell? ⟨w.heap.size, 2, none⟩ = some (.slice av an ac)) ∧ ∀ j (hj : j < ps.length), j < k → okP ps[j] = true) (fun _ i _ => an - (intOf i).toNat)
      case atStart => exact ⟨0, _, by omega, rfl, rfl, HCAT.out, HS2.out, fun j _ h => by omega⟩
      case round =>
        obtain ⟨k, O, hk, rfl, rfl, hO, hSI, hall⟩ := hrel
        have HSI := Lib.hid hSI
        obtain ⟨_, r0, r1, r2⟩ := hSI
        by_cases hlt2 : k < an
        case neg =>
          have hk2 : k = ps.length := by omega
          have HV : Hid (O = R) := Lib.hid (by rw [HGOOD.out (fun j hj => hall j hj (by omega)), ← mk_data O, hO, hk2, List.take_length]; rfl)
          clear hO hall hk2
          go_wp2
          go_ret
          exact ⟨ret_str HV.out, KE.out _ HSI.out⟩
        case pos =>
          have hkp : k < ps.length := by omega
          have hpz := psz_take ps k hkp
          have htl := textP_len (ps.take k)
          obtain ⟨g1, o1, hav1, hg1, hc1, hc2⟩ := HAV.out.at_ k (by simpa using hkp)
          subst hav1
          obtain ⟨p, hp⟩ : ∃ p, p = ps[k] := ⟨_, rfl⟩
          have hstep := textP_take ps k hkp
          have hbadk := HBAD.out k hkp
          rw [← hp] at hpz hstep hbadk
          have hbw := KE.out _ HSI.out
          rw [List.getElem_map, ← hp] at hc1 hc2
          have x1 := (hbw.cell (p := ⟨g1, o1 + k * 2, none⟩) hg1).trans hc1
          have x2 := (hbw.cell (p := ⟨g1, o1 + k * 2 + 1, none⟩) hg1).trans hc2
          obtain ⟨Nm, hNm⟩ : ∃ Nm, Nm = mk p.1 := ⟨_, rfl⟩
          obtain ⟨Vl, hVl⟩ : ∃ Vl, Vl = mk p.2 := ⟨_, rfl⟩
          obtain ⟨Qt, hQt⟩ : ∃ Qt, Qt = mk (quote p.2) := ⟨_, rfl⟩
          have hNl : Nm.data.toList = p.1 := by rw [hNm]; exact mk_list _
          have hVd : Vl.data.toList = p.2 := by rw [hVl]; exact mk_list _
          have hQd : Qt.data.toList = quote p.2 := by rw [hQt]; exact mk_list _
          have hNs : Nm.size = p.1.length := by rw [hNm]; exact size_mk _
          have hVs : Vl.size = p.2.length := by rw [hVl]; exact size_mk _
          have hQs : Qt.size = (quote p.2).length := by rw [hQt]; exact size_mk _
          have hql := quote_len p.2
          have d1 : wr.cell? ⟨g1, o1 + k * 2, none⟩ = some (.string Nm) := by rw [x1, hNm]; rfl
          have d2 : wr.cell? ⟨g1, o1 + k * 2 + 1, none⟩ = some (.string Vl) := by rw [x2, hVl]; rfl
          have hnm := small_cases Nm (by omega)
          rw [hNl] at hnm
          have hal := fun wx => rQuotable_any Vl wx (by omega)
          have htk := fun wx => rToken_any Vl wx (by omega)
          have hqu := fun wx => rQuote_any Vl wx (by omega)
          rw [hVd] at hal htk hqu
          have HQU : Hid (∀ wx, Calls Tryd.prog 57 #[.string Vl] wx fun e w' => e = .returned (.string Qt) ∧ Below wx.heap.size wx w') := Lib.hid (by rw [hQt]; exact hqu)
          have hOs : O.size = (head ++ textP (ps.take k)).length := by rw [← hO]; exact (len_data O).symm
          rw [List.length_append, HL.out] at hOs
          have HST1 : Hid (isTok p.2 = true → (O ++ (⟨#[59, 32]⟩ : ByteArray) ++ Nm ++ (⟨#[61]⟩ : ByteArray) ++ Vl).data.toList = head ++ textP (ps.take (k + 1))) := Lib.hid fun e => by
            rw [app_list2, app_list2, app_list2, app_list2, hO, hNl, hVd, hstep]; unfold oneP; rw [if_pos e]; simp
          have HST2 : Hid (isTok p.2 = false → (O ++ (⟨#[59, 32]⟩ : ByteArray) ++ Nm ++ (⟨#[61]⟩ : ByteArray) ++ Qt).data.toList = head ++ textP (ps.take (k + 1))) := Lib.hid fun e => by
            rw [app_list2, app_list2, app_list2, app_list2, hO, hNl, hQd, hstep]; unfold oneP; rw [if_neg (by rw [e]; simp)]; simp
          have HBADK : Hid (isSmall p.1 = false ∨ p.2.all qb = false → R = ⟨#[]⟩) := Lib.hid fun h => hbadk (by unfold okP; rcases h with h | h <;> simp [h])
          have HOK : Hid (isSmall p.1 = true → p.2.all qb = true → ∀ j (hj : j < ps.length), j < k + 1 → okP ps[j] = true) := Lib.hid fun h1 h2 j hj h => by
            by_cases e : j = k
            · subst e; rw [← hp]; unfold okP; rw [h1, h2]; rfl
            · exact hall j hj (by omega)
          obtain ⟨wP, hwP⟩ : ∃ wP, wP = wr.alloc (.cells #[.string Nm, .string Vl] 31) := ⟨_, rfl⟩
          have p0 : wP.cell? ⟨wr.heap.size, 0, none⟩ = some (.string Nm) := by rw [hwP]; exact (at_alloc wr _ _ 0).1
          have p1 : wP.cell? ⟨wr.heap.size, 1, none⟩ = some (.string Vl) := by rw [hwP]; exact (at_alloc wr _ _ 1).1
          have hltP : wr.heap.size < wP.heap.size := by rw [hwP]; simp
          have hbP : Below wr.heap.size wr wP := by rw [hwP]; exact (Below.refl _ _).alloc (Nat.le_refl _) _
          have KP0 : Hid (Below wP.heap.size wP wP ∧ wP.cell? ⟨wr.heap.size, 0, none⟩ = some (.string Nm) ∧ wP.cell? ⟨wr.heap.size, 1, none⟩ = some (.string Vl)) := Lib.hid ⟨Below.refl _ _, p0, p1⟩
          have KPT : Hid (∀ wx wy, (Below wP.heap.size wP wx ∧ wx.cell? ⟨wr.heap.size, 0, none⟩ = some (.string Nm) ∧ wx.cell? ⟨wr.heap.size, 1, none⟩ = some (.string Vl)) → Below wx.heap.size wx wy → (Below wP.heap.size wP wy ∧ wy.cell? ⟨wr.heap.size, 0, none⟩ = some (.string Nm) ∧ wy.cell? ⟨wr.heap.size, 1, none⟩ = some (.string Vl))) := Lib.hid fun wx wy hS hb => by
            have hl : wr.heap.size < wx.heap.size := Nat.lt_of_lt_of_le hltP hS.1.size
            exact ⟨hS.1.trans (hb.mono hS.1.size), (hb.cell (p := ⟨wr.heap.size, 0, none⟩) hl).trans hS.2.1, (hb.cell (p := ⟨wr.heap.size, 1, none⟩) hl).trans hS.2.2⟩
          have KPE : Hid (∀ wx, (Below wP.heap.size wP wx ∧ wx.cell? ⟨wr.heap.size, 0, none⟩ = some (.string Nm) ∧ wx.cell? ⟨wr.heap.size, 1, none⟩ = some (.string Vl)) → (Below wB.heap.size wB wx ∧ wx.cell? ⟨w.heap.size, 0, none⟩ = some (.string T) ∧ wx.cell? ⟨w.heap.size, 1, none⟩ = some (.string S) ∧ wx.cell? ⟨w.heap.size, 2, none⟩ = some (.slice (some ⟨g1, o1, none⟩) an ac))) := Lib.hid fun wx hS => KT.out _ _ HSI.out (hbP.trans (hS.1.mono hbP.size))
          have HWP := Lib.hid hwP
          have hsv : Vl.size ≤ 1073741824 := by omega
          have hsq : Qt.size ≤ 2147483650 := by omega
          have z1 : ¬ 9223372036854775807 < O.size + 2 := by omega
          have z2 : ¬ 9223372036854775807 < O.size + 2 + Nm.size := by omega
          have z3 : ¬ 9223372036854775807 < O.size + 2 + Nm.size + 1 := by omega
          have z4 : ¬ 9223372036854775807 < O.size + 2 + Nm.size + 1 + Vl.size := by omega
          have z5 : ¬ 9223372036854775807 < O.size + 2 + Nm.size + 1 + Qt.size := by omega
          clear x1 x2 hpz htl hc1 hc2 hp hstep hbadk hbw hNm hVl hQt hNl hVd hQd hNs hVs hQs hql hqu hOs hwP hbP hO hall
          rcases hnm with ⟨n1, n2⟩ | ⟨n1, ⟨n2, M, n3, n4⟩ | ⟨n2, n3⟩⟩
          · have HV := Lib.hid (HBADK.out (.inl n1))
            have HN := Lib.hid n2
            have HAL := Lib.hid hal
            clear n1 n2 hal htk
            go_wp2_with fail
            rw [← HWP.out]
            go_quiet (first | (go_at_call_of 55 (Value.string Nm); refine Calls.quiet_of_same (HN.out _)))
            have hHSP := KPT.out _ _ KP0.out (below_drewN _ nq)
            obtain ⟨wq, hwq⟩ : ∃ wq, wq = wP.drewN nq := ⟨_, rfl⟩
            rw [← hwq]
            rw [← hwq] at hHSP
            clear hwq
            have HSP := Lib.hid hHSP
            obtain ⟨_, q0, q1⟩ := hHSP
            go_wp2_with fail
            refine (HAL.out _).mono ?_; rintro e w5 ⟨rfl, rfl⟩
            go_wp2
            go_ret
            exact ⟨ret_str HV.out.symm, KE.out _ (KPE.out _ HSP.out)⟩
          · have HV := Lib.hid (HBADK.out (.inl n2))
            have HN := Lib.hid n1
            have HNL := Lib.hid n4
            have HAL := Lib.hid hal
            clear n1 n2 n4 hal htk
            go_wp2_with fail
            rw [← HWP.out]
            go_region_held3 (fun w' => Below wP.heap.size wP w' ∧ w'.cell? ⟨wr.heap.size, 0, none⟩ = some (.string Nm) ∧ w'.cell? ⟨wr.heap.size, 1, none⟩ = some (.string Vl)) (first | exact KPT.out _ _ KP0.out (Below.refl _ _).drew | exact KPT.out _ _ (by assumption) hb)
              (first
                | (go_at_call_of 55 (Value.string Nm); refine (HN.out _).mono ?_; rintro e w' ⟨rfl, hb⟩)
                | (go_at_call_of 45 (Value.string Nm); refine (HNL.out _).mono ?_; rintro e w' ⟨rfl, hb⟩))
            have hHSP := KPT.out _ _ (by assumption) (Below.refl _ _)
            have HSP := Lib.hid hHSP
            obtain ⟨_, q0, q1⟩ := hHSP
            go_wp2_with fail
            refine (HAL.out _).mono ?_; rintro e w5 ⟨rfl, rfl⟩
            go_wp2
            go_ret
            exact ⟨ret_str HV.out.symm, KE.out _ (KPE.out _ HSP.out)⟩
          · have HN := Lib.hid n1
            have HNL := Lib.hid n3
            have HS3 := Lib.hid n2
            clear n1 n2 n3
            cases qb1 : p.2.all qb with
            | false =>
              rw [qb1] at hal
              have HAL := Lib.hid hal
              have HV := Lib.hid (HBADK.out (.inr qb1))
              clear hal htk qb1
              go_wp2_with fail
              rw [← HWP.out]
              go_region_held3 (fun w' => Below wP.heap.size wP w' ∧ w'.cell? ⟨wr.heap.size, 0, none⟩ = some (.string Nm) ∧ w'.cell? ⟨wr.heap.size, 1, none⟩ = some (.string Vl)) (first | exact KPT.out _ _ KP0.out (Below.refl _ _).drew | exact KPT.out _ _ (by assumption) hb)
                (first
                  | (go_at_call_of 55 (Value.string Nm); refine (HN.out _).mono ?_; rintro e w' ⟨rfl, hb⟩)
                  | (go_at_call_of 45 (Value.string Nm); refine (HNL.out _).mono ?_; rintro e w' ⟨rfl, hb⟩))
              have hHSP := KPT.out _ _ (by assumption) (Below.refl _ _)
              have HSP := Lib.hid hHSP
              obtain ⟨_, q0, q1⟩ := hHSP
              go_wp2_with fail
              refine (HAL.out _).mono ?_; rintro e w5 ⟨rfl, rfl⟩
              go_wp2
              go_ret
              exact ⟨ret_str HV.out.symm, KE.out _ (KPE.out _ HSP.out)⟩
            | true =>
              rw [qb1] at hal
              have HAL := Lib.hid hal
              have HOK2 := Lib.hid (HOK.out HS3.out qb1)
              clear hal qb1
              cases tk : isTok p.2 with
              | true =>
                rw [tk] at htk
                have HTK := Lib.hid htk
                have HNX := Lib.hid (HST1.out tk)
                clear htk tk
                go_wp2_with fail
                rw [← HWP.out]
                go_region_held3 (fun w' => Below wP.heap.size wP w' ∧ w'.cell? ⟨wr.heap.size, 0, none⟩ = some (.string Nm) ∧ w'.cell? ⟨wr.heap.size, 1, none⟩ = some (.string Vl)) (first | exact KPT.out _ _ KP0.out (Below.refl _ _).drew | exact KPT.out _ _ (by assumption) hb)
                  (first
                    | (go_at_call_of 55 (Value.string Nm); refine (HN.out _).mono ?_; rintro e w' ⟨rfl, hb⟩)
                    | (go_at_call_of 45 (Value.string Nm); refine (HNL.out _).mono ?_; rintro e w' ⟨rfl, hb⟩))
                have hHSP := KPT.out _ _ (by assumption) (Below.refl _ _)
                have HSP := Lib.hid hHSP
                obtain ⟨_, q0, q1⟩ := hHSP
                go_wp2_with fail
                refine (HAL.out _).mono ?_; rintro e w5 ⟨rfl, rfl⟩
                go_wp2_with fail
                refine (HTK.out _).mono ?_; rintro e w5 ⟨rfl, rfl⟩
                go_wp2
                go_roundw
                case rel => exact ⟨k + 1, _, by omega, by go_num, rfl, HNX.out, KPE.out _ HSP.out, HOK2.out⟩
                case measure => simp [intOf]; omega
              | false =>
                rw [tk] at htk
                have HTK := Lib.hid htk
                have HNX := Lib.hid (HST2.out tk)
                clear htk tk
                go_wp2_with fail
                rw [← HWP.out]
                go_region_held3 (fun w' => Below wP.heap.size wP w' ∧ w'.cell? ⟨wr.heap.size, 0, none⟩ = some (.string Nm) ∧ w'.cell? ⟨wr.heap.size, 1, none⟩ = some (.string Vl)) (first | exact KPT.out _ _ KP0.out (Below.refl _ _).drew | exact KPT.out _ _ (by assumption) hb)
                  (first
                    | (go_at_call_of 55 (Value.string Nm); refine (HN.out _).mono ?_; rintro e w' ⟨rfl, hb⟩)
                    | (go_at_call_of 45 (Value.string Nm); refine (HNL.out _).mono ?_; rintro e w' ⟨rfl, hb⟩))
                have hHSP := KPT.out _ _ (by assumption) (Below.refl _ _)
                have HSP := Lib.hid hHSP
                obtain ⟨_, q0, q1⟩ := hHSP
                go_wp2_with fail
                refine (HAL.out _).mono ?_; rintro e w5 ⟨rfl, rfl⟩
                go_wp2_with fail
                refine (HTK.out _).mono ?_; rintro e w5 ⟨rfl, rfl⟩
                go_wp2_with fail
                refine (HQU.out _).mono ?_; rintro e w6 ⟨rfl, hb⟩
                have hS6 := KPT.out _ _ HSP.out hb
                have HS6 := Lib.hid hS6
                obtain ⟨_, q0, q1⟩ := hS6
                clear hb
                go_wp2
                go_roundw
                case rel => exact ⟨k + 1, _, by omega, by go_num, rfl, HNX.out, KPE.out _ HS6.out, HOK2.out⟩
                case measure => simp [intOf]; omega
end Go.Proofs.YtkadingpmebjbaaDoor
