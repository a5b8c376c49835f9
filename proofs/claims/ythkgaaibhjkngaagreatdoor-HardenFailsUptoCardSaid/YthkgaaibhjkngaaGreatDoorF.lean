/- Quoted strings that are read: the program's. -/
import Derived.Test.YthkgaaibhjkngaaGreatDoorE
set_option linter.unusedVariables false
namespace Go.Proofs.YthkgaaibhjkngaaGreatDoor
open Go.RowKit

def UnqSays (R : Option (List UInt8 × Nat)) (w : World) (e : Ending) (w' : World) : Prop :=
  e = (match R with
    | none => .returned (.tuple #[.string ⟨#[]⟩, .int .i64 0, .int .i64 5])
    | some x => .returned (.tuple #[.string ⟨x.1.toArray⟩, .int .i64 x.2, .int .i64 0])) ∧ Below w.heap.size w w'
theorem unqSays_none {R : Option (List UInt8 × Nat)} {w w' : World} (h : R = none) (hb : Below w.heap.size w w') : UnqSays R w (.returned (.tuple #[.string ⟨#[]⟩, .int .i64 0, .int .i64 5])) w' := by
  subst h; exact ⟨rfl, hb⟩
theorem unqSays_some {R : Option (List UInt8 × Nat)} {w w' : World} {l : List UInt8} {n : Nat} {S : ByteArray} {v : Int} (h : R = some (l, n)) (hS : S = ⟨l.toArray⟩) (hv : v = n) (hb : Below w.heap.size w w') : UnqSays R w (.returned (.tuple #[.string S, .int .i64 v, .int .i64 0])) w' := by
  subst h hS hv; exact ⟨rfl, hb⟩

/-- a round of a quoted string, at a place -/
theorem unq_round (l acc : List UInt8) (k : Nat) (hk : k < l.length) :
    ((l.getD k 0).toNat = 34 → unqR (l.drop k) acc k = some (acc, k + 1)) ∧
    ((l.getD k 0).toNat = 92 → (k + 1 = l.length → unqR (l.drop k) acc k = none) ∧ (k + 1 < l.length → (qb (l.getD (k + 1) 0) = false → unqR (l.drop k) acc k = none) ∧ (qb (l.getD (k + 1) 0) = true → unqR (l.drop k) acc k = unqR (l.drop (k + 2)) (acc ++ [l.getD (k + 1) 0]) (k + 2)))) ∧
    ((l.getD k 0).toNat ≠ 34 → (l.getD k 0).toNat ≠ 92 → (qb (l.getD k 0) = false → unqR (l.drop k) acc k = none) ∧ (qb (l.getD k 0) = true → unqR (l.drop k) acc k = unqR (l.drop (k + 1)) (acc ++ [l.getD k 0]) (k + 1))) := by
  have hd : l.drop k = l.getD k 0 :: l.drop (k + 1) := by rw [getD_at' hk]; exact List.drop_eq_getElem_cons hk
  refine ⟨fun h => by rw [hd]; exact unqR_end _ _ _ _ h, fun h => ⟨fun he => ?_, fun hlt => ?_⟩, fun h1 h2 => ?_⟩
  · rw [hd, List.drop_eq_nil_iff.2 (by omega)]; exact unqR_esc0 _ _ _ h
  · have hd2 : l.drop (k + 1) = l.getD (k + 1) 0 :: l.drop (k + 2) := by rw [getD_at' hlt]; exact List.drop_eq_getElem_cons hlt
    rw [hd, hd2, unqR_esc1 _ _ _ _ _ h]
    exact ⟨fun hq => by rw [hq]; rfl, fun hq => by rw [if_pos hq]⟩
  · rw [hd, unqR_one _ _ _ _ h1 h2]
    exact ⟨fun hq => by rw [hq]; rfl, fun hq => by rw [if_pos hq]⟩
theorem unq_start (l : List UInt8) (h : 0 < l.length) : ((l.getD 0 0).toNat ≠ 34 → unq l = none) ∧ ((l.getD 0 0).toNat = 34 → unq l = unqR (l.drop 1) [] 1) := by
  cases l with
  | nil => simp at h
  | cons c r => exact ⟨fun h => by unfold unq; exact if_neg h, fun h => by unfold unq; exact if_pos h⟩

set_option maxHeartbeats 8000000 in
set_option maxRecDepth 100000 in
theorem unquote_any (X : ByteArray) (w : World) (hs : X.size ≤ 35184372088832) :
    Calls Tryz.prog 138 #[.string X] w (UnqSays (unq X.data.toList) w) := by
  have hll := len_data X
  obtain ⟨l, hl⟩ : ∃ l, X.data.toList = l := ⟨_, rfl⟩
  have hat : ∀ k (h : k < X.size), X[k] = l.getD k 0 := fun k h => by rw [← hl]; exact byte_getD X k h
  rw [hl] at hll ⊢
  rcases Nat.eq_zero_or_pos X.size with h0 | h0
  · have hx := empty_beq h0
    have HV : Hid (unq l = none) := Lib.hid (by have : l = [] := List.eq_nil_of_length_eq_zero (by omega); rw [this]; rfl)
    clear hat hl hll h0 hs
    subst hx
    go_enter Tryz.func138, Tryz.ntmps138
    go_wp2
    go_ret3
    exact unqSays_none HV.out (Below.refl _ _)
  obtain ⟨hn1, hn2, _⟩ := nonempty_beq h0
  obtain ⟨hs1, hs2⟩ := unq_start l (by omega)
  rw [← hat 0 h0] at hs1 hs2
  by_cases hq : (X[0]).toNat = 34
  case neg =>
    have HV := Lib.hid (hs1 hq)
    have e1 : ((X[0].toNat : Int) != 34) = true := by simp; omega
    have e2 : ((X[0].toNat : Int) == 34) = false := by simp; omega
    clear hat hl hll hs1 hs2 hq
    go_enter Tryz.func138, Tryz.ntmps138
    go_wp2
    go_ret3
    exact unqSays_none HV.out (Below.refl _ _)
  obtain ⟨R, hR⟩ : ∃ R, R = unq l := ⟨_, rfl⟩
  rw [← hR]
  have HR : Hid (R = unqR (l.drop 1) [] 1) := Lib.hid (hR.trans (hs2 hq))
  have hrd : ∀ acc k, k < X.size → _ := fun acc k (hk : k < X.size) => unq_round l acc k (by omega)
  have HRD := Lib.hid hrd
  have HAT := Lib.hid hat
  have HLL := Lib.hid hll
  have hqc : ∀ k (h : k < X.size) wx, Calls Tryz.prog 160 #[.int .u8 X[k].toNat] wx fun e w' => e = .returned (.bool (qb (l.getD k 0))) ∧ wx = w' := fun k h wx => by
    rw [← hat k h]; exact quotable_any _ wx
  have HQC := Lib.hid hqc
  have e1 : ((X[0].toNat : Int) != 34) = false := by simp; omega
  have e2 : ((X[0].toNat : Int) == 34) = true := by simp; omega
  clear hat hl hll hs1 hs2 hq hR hrd hqc
  go_enter Tryz.func138, Tryz.ntmps138
  go_wp2_with fail
  clear e1 e2 hn1 hn2
  go_loopw [5, 6] (fun v i wr => ∃ (k : Nat) (acc : List UInt8), 1 ≤ k ∧ k ≤ X.size ∧ acc.length ≤ k ∧ i = .int .i64 k ∧ OwnB wr w.heap.size v acc ∧ R = unqR (l.drop k) acc k ∧ Below w.heap.size w wr) (fun _ i _ => X.size - (intOf i).toNat)
  case atStart => exact ⟨1, [], by omega, h0, by simp, rfl, World.ownsRow_nil _ _ _ _, HR.out, Below.refl _ _⟩
  case round =>
    obtain ⟨k, acc, hk1, hk, hal, rfl, hown, hR, hb⟩ := hrel
    have HB := Lib.hid hb
    by_cases hlt : k < X.size
    · obtain ⟨r1, r2, r3⟩ := HRD.out acc k hlt
      rw [← HAT.out k hlt] at r1 r2 r3
      by_cases q1 : (X[k]).toNat = 34
      · have HV := Lib.hid (hR.trans (r1 q1))
        have e1 : ((X[k].toNat : Int) == 34) = true := by simp; omega
        obtain ⟨a5, c5, rfl, _, hs5⟩ := own_src hown
        have hcv := conv_src wr a5 c5 acc hs5
        obtain ⟨S, hS⟩ : ∃ S : ByteArray, S = ⟨acc.toArray⟩ := ⟨_, rfl⟩
        rw [← hS] at hcv
        have HS := Lib.hid hS
        clear r1 r2 r3 q1 hR hown hb hs5 hS
        go_wp2
        go_ret3
        exact unqSays_some HV.out HS.out (by omega) HB.out
      · have e1 : ((X[k].toNat : Int) == 34) = false := by simp; omega
        by_cases q2 : (X[k]).toNat = 92
        · have e2 : ((X[k].toNat : Int) == 92) = true := by simp; omega
          obtain ⟨s1, s2⟩ := r2 q2
          by_cases hend : k + 1 = X.size
          · have HV := Lib.hid (hR.trans (s1 (by rw [HLL.out]; exact hend)))
            have e3 : ((k : Int) + 1 == (X.size : Int)) = true := by simp; omega
            clear r1 r2 r3 q1 q2 hR hown hb s1 s2 hend
            go_wp2
            go_ret3
            exact unqSays_none HV.out HB.out
          · have hlt2 : k + 1 < X.size := by omega
            obtain ⟨t1, t2⟩ := s2 (by rw [HLL.out]; exact hlt2)
            have e3 : ((k : Int) + 1 == (X.size : Int)) = false := by simp; omega
            have hqk := HQC.out (k + 1) hlt2
            have hx1 := HAT.out (k + 1) hlt2
            cases hqb : qb (l.getD (k + 1) 0) with
            | false =>
              rw [hqb] at hqk
              have HV := Lib.hid (hR.trans (t1 hqb))
              have HQ := Lib.hid hqk
              clear r1 r2 r3 q1 q2 hR hown hb s1 s2 hend t1 t2 hqk hqb hx1
              go_wp2_with fail
              refine (HQ.out _).mono ?_; rintro e w1 ⟨rfl, rfl⟩
              go_wp2
              go_ret3
              exact unqSays_none HV.out HB.out
            | true =>
              rw [hqb] at hqk
              have HV := Lib.hid (hR.trans (t2 hqb))
              have HQ := Lib.hid hqk
              have hcn : (l.getD (k + 1) 0).toNat = X[k + 1].toNat := by rw [hx1]
              obtain ⟨d, hd⟩ : ∃ d, d = l.getD (k + 1) 0 := ⟨_, rfl⟩
              rw [← hd] at hcn HV
              have hsr : ∀ wx : World, Src (wx.alloc (.cells #[.int .u8 X[k + 1].toNat] 5)) (some ⟨wx.heap.size, 0, none⟩) 1 [d] := fun wx => by rw [← hcn]; exact lit_src [d] wx (by simp)
              have hO : OwnB (wr.alloc (.cells #[.int .u8 X[k + 1].toNat] 5)) w.heap.size _ acc := World.ownsRow.alloc hown _
              have hZ : w.heap.size ≤ (wr.alloc (.cells #[.int .u8 X[k + 1].toNat] 5)).heap.size := by have := hb.size; simp; omega
              have HSR := Lib.hid hsr
              have HO := Lib.hid hO
              have HZ := Lib.hid hZ
              clear r1 r2 r3 q1 q2 hR hown hb s1 s2 hend t1 t2 hqk hqb hx1 hcn hd hsr hO hZ
              go_wp2_with fail
              refine (HQ.out _).mono ?_; rintro e w1 ⟨rfl, rfl⟩
              clear e1 e2 e3
              go_wp2_with (at_builtin; refine app_bytes rfl _ _ rfl w.heap.size _ acc rfl HO.out _ 1 1 [d] rfl rfl (HSR.out _) ?n2 HZ.out ?_)
              case n2 => simp only [List.length_cons, List.length_nil]; omega
              intro v4 w4 hown4 hb4 _
              have HO4 := Lib.hid hown4
              have HB4 : Hid (Below w.heap.size w w4) := Lib.hid ((HB.out.alloc HB.out.size _).trans hb4.out)
              clear hown4 hb4
              go_wp2
              go_roundw
              case rel => exact ⟨k + 2, _, by omega, by omega, by simp; omega, by go_num, HO4.out, HV.out, HB4.out⟩
              case measure => simp [intOf]; omega
        · have e2 : ((X[k].toNat : Int) == 92) = false := by simp; omega
          have e3 : ((k : Int) == (X.size : Int)) = false := by simp; omega
          obtain ⟨t1, t2⟩ := r3 q1 q2
          have hqk := HQC.out k hlt
          have hx1 := HAT.out k hlt
          rw [← hx1] at hqk
          cases hqb : qb (X[k]) with
          | false =>
            rw [hqb] at hqk
            have HV := Lib.hid (hR.trans (t1 hqb))
            have HQ := Lib.hid hqk
            clear r1 r2 r3 q1 q2 hR hown hb t1 t2 hqk hqb hx1
            go_wp2_with fail
            refine (HQ.out _).mono ?_; rintro e w1 ⟨rfl, rfl⟩
            go_wp2
            go_ret3
            exact unqSays_none HV.out HB.out
          | true =>
            rw [hqb] at hqk
            have HV := Lib.hid (hR.trans (t2 hqb))
            have HQ := Lib.hid hqk
            obtain ⟨d, hd⟩ : ∃ d, d = X[k] := ⟨_, rfl⟩
            have hcn : d.toNat = X[k].toNat := by rw [hd]
            have HV2 : Hid (R = unqR (l.drop (k + 1)) (acc ++ [d]) (k + 1)) := Lib.hid (by rw [hd]; exact HV.out)
            have hsr : ∀ wx : World, Src (wx.alloc (.cells #[.int .u8 X[k].toNat] 5)) (some ⟨wx.heap.size, 0, none⟩) 1 [d] := fun wx => by rw [← hcn]; exact lit_src [d] wx (by simp)
            have hO : OwnB (wr.alloc (.cells #[.int .u8 X[k].toNat] 5)) w.heap.size _ acc := World.ownsRow.alloc hown _
            have hZ : w.heap.size ≤ (wr.alloc (.cells #[.int .u8 X[k].toNat] 5)).heap.size := by have := hb.size; simp; omega
            have HSR := Lib.hid hsr
            have HO := Lib.hid hO
            have HZ := Lib.hid hZ
            clear r1 r2 r3 q1 q2 hR hown hb t1 t2 hqk hqb hx1 hcn hd hsr hO hZ HV
            go_wp2_with fail
            refine (HQ.out _).mono ?_; rintro e w1 ⟨rfl, rfl⟩
            clear e1 e2 e3
            go_wp2_with (at_builtin; refine app_bytes rfl _ _ rfl w.heap.size _ acc rfl HO.out _ 1 1 [d] rfl rfl (HSR.out _) ?n2 HZ.out ?_)
            case n2 => simp only [List.length_cons, List.length_nil]; omega
            intro v4 w4 hown4 hb4 _
            have HO4 := Lib.hid hown4
            have HB4 : Hid (Below w.heap.size w w4) := Lib.hid ((HB.out.alloc HB.out.size _).trans hb4.out)
            clear hown4 hb4
            go_wp2
            go_roundw
            case rel => exact ⟨k + 1, _, by omega, by omega, by simp; omega, by go_num, HO4.out, HV2.out, HB4.out⟩
            case measure => simp [intOf]; omega
    · have HV : Hid (R = none) := Lib.hid (by rw [hR, List.drop_eq_nil_iff.2 (by rw [HLL.out]; omega)]; exact unqR_nil _ _)
      clear hR hown hb
      go_wp2
      go_ret3
      exact unqSays_none HV.out HB.out
end Go.Proofs.YthkgaaibhjkngaaGreatDoor
