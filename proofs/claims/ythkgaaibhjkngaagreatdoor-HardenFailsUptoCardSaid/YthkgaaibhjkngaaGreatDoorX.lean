/- Quoted strings: the document's answer. -/
import Derived.Test.YthkgaaibhjkngaaGreatDoorVA
set_option linter.unusedVariables false
namespace Go.Proofs.YthkgaaibhjkngaaGreatDoor
open Go.RowKit

set_option maxHeartbeats 1000000 in
theorem rquotable_any (c : UInt8) (w : World) :
    Calls Tryz.prog 134 #[.int .u8 c.toNat] w fun e w' => e = .returned (.bool (qb c)) ∧ w = w' := by
  obtain ⟨x, hx⟩ : ∃ x : Int, x = (c.toNat : Int) := ⟨_, rfl⟩
  rw [← hx]
  have hcase : x = 9 ∨ (x ≠ 9 ∧ 32 ≤ x ∧ x ≠ 127) ∨ x = 127 ∨ (x ≠ 9 ∧ x < 32) := by omega
  rcases hcase with h | ⟨h1, h2, h3⟩ | h | ⟨h1, h2⟩
  · have HV := Lib.hid (qb_yes (c := c) (by omega))
    clear hx
    subst h
    go_enter Tryz.func134, Tryz.ntmps134
    go_wp2
    go_ret
    exact ⟨ret_bool HV.out.symm, rfl⟩
  · have HV := Lib.hid (qb_yes (c := c) (by omega))
    have e1 : (x == 9) = false := by simp [h1]
    have e2 : (x == 127) = false := by simp [h3]
    have e3 : (x != 127) = true := by simp [h3]
    clear hx h1 h3
    go_enter Tryz.func134, Tryz.ntmps134
    go_wp2
    go_ret
    exact ⟨ret_bool HV.out.symm, rfl⟩
  · have HV := Lib.hid (qb_no (c := c) (by omega))
    clear hx
    subst h
    go_enter Tryz.func134, Tryz.ntmps134
    go_wp2
    go_ret
    exact ⟨ret_bool HV.out.symm, rfl⟩
  · have HV := Lib.hid (qb_no (c := c) (by omega))
    have e1 : (x == 9) = false := by simp [h1]
    clear hx h1
    go_enter Tryz.func134, Tryz.ntmps134
    go_wp2
    go_ret
    exact ⟨ret_bool HV.out.symm, rfl⟩

set_option maxHeartbeats 2000000 in
theorem rQuotable_any (X : ByteArray) (w : World) (hs : X.size ≤ 9223372036854775807) :
    Calls Tryz.prog 118 #[.string X] w fun e w' => e = .returned (.bool (X.data.toList.all qb)) ∧ w = w' := by
  have hll := len_data X
  have hc : ∀ k (h : k < X.size) wx, Calls Tryz.prog 134 #[.int .u8 X[k].toNat] wx fun e w' => e = .returned (.bool (qb (X.data.toList.getD k 0))) ∧ wx = w' := fun k h wx => by
    rw [byte_getD X k h]; exact rquotable_any _ wx
  have hy := all_getD X.data.toList
  have hn := all_not X.data.toList
  rw [hll] at hy hn
  generalize X.data.toList.all qb = r at hy hn ⊢
  obtain ⟨tc, htc⟩ : ∃ tc : Nat → Bool, tc = fun k => qb (X.data.toList.getD k 0) := ⟨_, rfl⟩
  have hc2 : ∀ k (h : k < X.size) wx, Calls Tryz.prog 134 #[.int .u8 X[k].toNat] wx fun e w' => e = .returned (.bool (tc k)) ∧ wx = w' := by rw [htc]; exact hc
  have hy2 : (∀ j, j < X.size → tc j = true) → r = true := by rw [htc]; exact hy
  have hn2 : ∀ j, j < X.size → tc j = false → r = false := by rw [htc]; exact hn
  have HC := Lib.hid hc2
  have HY := Lib.hid hy2
  have HN := Lib.hid hn2
  clear hc hy hn hll htc hc2 hy2 hn2
  go_enter Tryz.func118, Tryz.ntmps118
  go_wp2_with fail
  go_loop [3] (fun i => ∃ k : Nat, k ≤ X.size ∧ i = .int .i64 k ∧ ∀ j, j < k → tc j = true) (fun i => X.size - (intOf i).toNat)
  case atStart => exact ⟨0, by omega, rfl, fun j h => by omega⟩
  case round =>
    obtain ⟨k, hk, rfl, hall⟩ := hrel
    have HA := Lib.hid hall
    clear hall
    by_cases hlt : k < X.size
    · have hc := HC.out k hlt
      cases hb : tc k with
      | true =>
        rw [hb] at hc
        have H := Lib.hid hc
        have HNX : Hid (∀ j, j < k + 1 → tc j = true) := Lib.hid fun j h => by
          by_cases e : j = k
          · subst e; exact hb
          · exact HA.out j (by omega)
        clear hc hb
        go_wp2_with fail
        refine (H.out _).mono ?_; rintro e w1 ⟨rfl, rfl⟩
        go_wp2
        go_round
        case rel => exact ⟨k + 1, by omega, by go_num, HNX.out⟩
        case measure => simp [intOf]; omega
      | false =>
        rw [hb] at hc
        have H := Lib.hid hc
        have HV := Lib.hid (HN.out k hlt hb)
        clear hc hb
        go_wp2_with fail
        refine (H.out _).mono ?_; rintro e w1 ⟨rfl, rfl⟩
        go_wp2
        go_ret
        exact ⟨ret_bool HV.out.symm, rfl⟩
    · have HV := Lib.hid (HY.out (fun j h => HA.out j (by omega)))
      go_wp2
      go_ret
      exact ⟨ret_bool HV.out.symm, rfl⟩


set_option maxHeartbeats 8000000 in
set_option maxRecDepth 100000 in
theorem rUnquote_any (X : ByteArray) (w : World) (hs : X.size ≤ 35184372088832) :
    Calls Tryz.prog 125 #[.string X] w (UnqSays (unq X.data.toList) w) := by
  have hll := len_data X
  obtain ⟨l, hl⟩ : ∃ l, X.data.toList = l := ⟨_, rfl⟩
  have hat : ∀ k (h : k < X.size), X[k] = l.getD k 0 := fun k h => by rw [← hl]; exact byte_getD X k h
  rw [hl] at hll ⊢
  rcases Nat.eq_zero_or_pos X.size with h0 | h0
  · have hx := empty_beq h0
    have HV : Hid (unq l = none) := Lib.hid (by have : l = [] := List.eq_nil_of_length_eq_zero (by omega); rw [this]; rfl)
    clear hat hl hll h0 hs
    subst hx
    go_enter Tryz.func125, Tryz.ntmps125
    go_wp2
    go_ret3
    exact unqSays_none HV.out (Below.refl _ _)
  obtain ⟨hn1, hn2, _⟩ := nonempty_beq h0
  obtain ⟨hs1, hs2⟩ := unq_start l (by omega)
  rw [← hat 0 h0] at hs1 hs2
  by_cases hq : (X[0]).toNat = 34
  case neg =>
    have HV := Lib.hid (hs1 hq)
    have e1 : ((X[0].toNat : Int) != 34) = true := by simp; omega
    have e2 : ((X[0].toNat : Int) == 34) = false := by simp; omega
    clear hat hl hll hs1 hs2 hq
    go_enter Tryz.func125, Tryz.ntmps125
    go_wp2
    go_ret3
    exact unqSays_none HV.out (Below.refl _ _)
  obtain ⟨R, hR⟩ : ∃ R, R = unq l := ⟨_, rfl⟩
  rw [← hR]
  have HR : Hid (R = unqR (l.drop 1) [] 1) := Lib.hid (hR.trans (hs2 hq))
  have hrd : ∀ acc k, k < X.size → _ := fun acc k (hk : k < X.size) => unq_round l acc k (by omega)
  have HRD := Lib.hid hrd
  have HAT := Lib.hid hat
  have HLL := Lib.hid hll
  have hqc : ∀ k (h : k < X.size) wx, Calls Tryz.prog 134 #[.int .u8 X[k].toNat] wx fun e w' => e = .returned (.bool (qb (l.getD k 0))) ∧ wx = w' := fun k h wx => by
    rw [← hat k h]; exact rquotable_any _ wx
  have HQC := Lib.hid hqc
  have e1 : ((X[0].toNat : Int) != 34) = false := by simp; omega
  have e2 : ((X[0].toNat : Int) == 34) = true := by simp; omega
  clear hat hl hll hs1 hs2 hq hR hrd hqc
  go_enter Tryz.func125, Tryz.ntmps125
  go_wp2_with fail
  clear e1 e2 hn1 hn2
  go_loopw [5, 6] (fun v i wr => ∃ (k : Nat) (acc : List UInt8), 1 ≤ k ∧ k ≤ X.size ∧ acc.length ≤ k ∧ i = .int .i64 k ∧ OwnB wr w.heap.size v acc ∧ R = unqR (l.drop k) acc k ∧ Below w.heap.size w wr) (fun _ i _ => X.size - (intOf i).toNat)
  case atStart => exact ⟨1, [], by omega, h0, by simp, rfl, World.ownsRow_nil _ _ _ _, HR.out, Below.refl _ _⟩
  case round =>
    obtain ⟨k, acc, hk1, hk, hal, rfl, hown, hR, hb⟩ := hrel
    have HB := Lib.hid hb
    by_cases hlt : k < X.size
    · obtain ⟨r1, r2, r3⟩ := HRD.out acc k hlt
      rw [← HAT.out k hlt] at r1 r2 r3
      by_cases q1 : (X[k]).toNat = 34
      · have HV := Lib.hid (hR.trans (r1 q1))
        have e1 : ((X[k].toNat : Int) == 34) = true := by simp; omega
        obtain ⟨a5, c5, rfl, _, hs5⟩ := own_src hown
        have hcv := conv_src wr a5 c5 acc hs5
        obtain ⟨S, hS⟩ : ∃ S : ByteArray, S = ⟨acc.toArray⟩ := ⟨_, rfl⟩
        rw [← hS] at hcv
        have HS := Lib.hid hS
        clear r1 r2 r3 q1 hR hown hb hs5 hS
        go_wp2
        go_ret3
        exact unqSays_some HV.out HS.out (by omega) HB.out
      · have e1 : ((X[k].toNat : Int) == 34) = false := by simp; omega
        by_cases q2 : (X[k]).toNat = 92
        · have e2 : ((X[k].toNat : Int) == 92) = true := by simp; omega
          obtain ⟨s1, s2⟩ := r2 q2
          by_cases hend : k + 1 = X.size
          · have HV := Lib.hid (hR.trans (s1 (by rw [HLL.out]; exact hend)))
            have e3 : ((k : Int) + 1 == (X.size : Int)) = true := by simp; omega
            clear r1 r2 r3 q1 q2 hR hown hb s1 s2 hend
            go_wp2
            go_ret3
            exact unqSays_none HV.out HB.out
          · have hlt2 : k + 1 < X.size := by omega
            obtain ⟨t1, t2⟩ := s2 (by rw [HLL.out]; exact hlt2)
            have e3 : ((k : Int) + 1 == (X.size : Int)) = false := by simp; omega
            have hqk := HQC.out (k + 1) hlt2
            have hx1 := HAT.out (k + 1) hlt2
            cases hqb : qb (l.getD (k + 1) 0) with
            | false =>
              rw [hqb] at hqk
              have HV := Lib.hid (hR.trans (t1 hqb))
              have HQ := Lib.hid hqk
              clear r1 r2 r3 q1 q2 hR hown hb s1 s2 hend t1 t2 hqk hqb hx1
              go_wp2_with fail
              refine (HQ.out _).mono ?_; rintro e w1 ⟨rfl, rfl⟩
              go_wp2
              go_ret3
              exact unqSays_none HV.out HB.out
            | true =>
              rw [hqb] at hqk
              have HV := Lib.hid (hR.trans (t2 hqb))
              have HQ := Lib.hid hqk
              have hcn : (l.getD (k + 1) 0).toNat = X[k + 1].toNat := by rw [hx1]
              obtain ⟨d, hd⟩ : ∃ d, d = l.getD (k + 1) 0 := ⟨_, rfl⟩
              rw [← hd] at hcn HV
              have hsr : ∀ wx : World, Src (wx.alloc (.cells #[.int .u8 X[k + 1].toNat] 5)) (some ⟨wx.heap.size, 0, none⟩) 1 [d] := fun wx => by rw [← hcn]; exact lit_src [d] wx (by simp)
              have hO : OwnB (wr.alloc (.cells #[.int .u8 X[k + 1].toNat] 5)) w.heap.size _ acc := World.ownsRow.alloc hown _
              have hZ : w.heap.size ≤ (wr.alloc (.cells #[.int .u8 X[k + 1].toNat] 5)).heap.size := by have := hb.size; simp; omega
              have HSR := Lib.hid hsr
              have HO := Lib.hid hO
              have HZ := Lib.hid hZ
              clear r1 r2 r3 q1 q2 hR hown hb s1 s2 hend t1 t2 hqk hqb hx1 hcn hd hsr hO hZ
              go_wp2_with fail
              refine (HQ.out _).mono ?_; rintro e w1 ⟨rfl, rfl⟩
              clear e1 e2 e3
              go_wp2_with (at_builtin; refine app_bytes rfl _ _ rfl w.heap.size _ acc rfl HO.out _ 1 1 [d] rfl rfl (HSR.out _) ?n2 HZ.out ?_)
              case n2 => simp only [List.length_cons, List.length_nil]; omega
              intro v4 w4 hown4 hb4 _
              have HO4 := Lib.hid hown4
              have HB4 : Hid (Below w.heap.size w w4) := Lib.hid ((HB.out.alloc HB.out.size _).trans hb4.out)
              clear hown4 hb4
              go_wp2
              go_roundw
              case rel => exact ⟨k + 2, _, by omega, by omega, by simp; omega, by go_num, HO4.out, HV.out, HB4.out⟩
              case measure => simp [intOf]; omega
        · have e2 : ((X[k].toNat : Int) == 92) = false := by simp; omega
          have e3 : ((k : Int) == (X.size : Int)) = false := by simp; omega
          obtain ⟨t1, t2⟩ := r3 q1 q2
          have hqk := HQC.out k hlt
          have hx1 := HAT.out k hlt
          rw [← hx1] at hqk
          cases hqb : qb (X[k]) with
          | false =>
            rw [hqb] at hqk
            have HV := Lib.hid (hR.trans (t1 hqb))
            have HQ := Lib.hid hqk
            clear r1 r2 r3 q1 q2 hR hown hb t1 t2 hqk hqb hx1
            go_wp2_with fail
            refine (HQ.out _).mono ?_; rintro e w1 ⟨rfl, rfl⟩
            go_wp2
            go_ret3
            exact unqSays_none HV.out HB.out
          | true =>
            rw [hqb] at hqk
            have HV := Lib.hid (hR.trans (t2 hqb))
            have HQ := Lib.hid hqk
            obtain ⟨d, hd⟩ : ∃ d, d = X[k] := ⟨_, rfl⟩
            have hcn : d.toNat = X[k].toNat := by rw [hd]
            have HV2 : Hid (R = unqR (l.drop (k + 1)) (acc ++ [d]) (k + 1)) := Lib.hid (by rw [hd]; exact HV.out)
            have hsr : ∀ wx : World, Src (wx.alloc (.cells #[.int .u8 X[k].toNat] 5)) (some ⟨wx.heap.size, 0, none⟩) 1 [d] := fun wx => by rw [← hcn]; exact lit_src [d] wx (by simp)
            have hO : OwnB (wr.alloc (.cells #[.int .u8 X[k].toNat] 5)) w.heap.size _ acc := World.ownsRow.alloc hown _
            have hZ : w.heap.size ≤ (wr.alloc (.cells #[.int .u8 X[k].toNat] 5)).heap.size := by have := hb.size; simp; omega
            have HSR := Lib.hid hsr
            have HO := Lib.hid hO
            have HZ := Lib.hid hZ
            clear r1 r2 r3 q1 q2 hR hown hb t1 t2 hqk hqb hx1 hcn hd hsr hO hZ HV
            go_wp2_with fail
            refine (HQ.out _).mono ?_; rintro e w1 ⟨rfl, rfl⟩
            clear e1 e2 e3
            go_wp2_with (at_builtin; refine app_bytes rfl _ _ rfl w.heap.size _ acc rfl HO.out _ 1 1 [d] rfl rfl (HSR.out _) ?n2 HZ.out ?_)
            case n2 => simp only [List.length_cons, List.length_nil]; omega
            intro v4 w4 hown4 hb4 _
            have HO4 := Lib.hid hown4
            have HB4 : Hid (Below w.heap.size w w4) := Lib.hid ((HB.out.alloc HB.out.size _).trans hb4.out)
            clear hown4 hb4
            go_wp2
            go_roundw
            case rel => exact ⟨k + 1, _, by omega, by omega, by simp; omega, by go_num, HO4.out, HV2.out, HB4.out⟩
            case measure => simp [intOf]; omega
    · have HV : Hid (R = none) := Lib.hid (by rw [hR, List.drop_eq_nil_iff.2 (by rw [HLL.out]; omega)]; exact unqR_nil _ _)
      clear hR hown hb
      go_wp2
      go_ret3
      exact unqSays_none HV.out HB.out
end Go.Proofs.YthkgaaibhjkngaaGreatDoor
