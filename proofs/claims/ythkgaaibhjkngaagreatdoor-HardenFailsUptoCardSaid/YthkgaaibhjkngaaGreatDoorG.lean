/- Where a list is cut: plain lists, and the program's. -/
import Derived.Test.YthkgaaibhjkngaaGreatDoorF
set_option linter.unusedVariables false
namespace Go.Proofs.YthkgaaibhjkngaaGreatDoor
open Go.RowKit

theorem cutF_fuel : ∀ (f g : Nat) (l : List UInt8) (i : Nat), l.length ≤ f → l.length ≤ g → cutF f l i = cutF g l i
  | 0, 0, _, _, _, _ => rfl
  | 0, g + 1, l, i, h, _ => by have : l = [] := List.eq_nil_of_length_eq_zero (by omega); subst this; rfl
  | f + 1, 0, l, i, _, h => by have : l = [] := List.eq_nil_of_length_eq_zero (by omega); subst this; rfl
  | f + 1, g + 1, [], i, _, _ => rfl
  | f + 1, g + 1, c :: r, i, hf, hg => by
    simp only [cutF]
    split
    · rfl
    · split
      · cases hu : unq (c :: r) with
        | none => rfl
        | some x =>
          have := unq_len _ x hu
          have hl : ((c :: r).drop x.2).length ≤ r.length := by simp only [List.length_drop, List.length_cons]; omega
          simp only [List.length_cons] at hf hg
          exact cutF_fuel f g _ _ (by omega) (by omega)
      · simp only [List.length_cons] at hf hg
        exact cutF_fuel f g r _ (by omega) (by omega)
/-- where the rest is cut -/
def cutA (l : List UInt8) (k : Nat) : Option Nat := cutF l.length (l.drop k) k
theorem cutA_zero (l : List UInt8) : cutA l 0 = cut l := by unfold cutA cut; rw [List.drop_zero]
theorem cutA_end (l : List UInt8) (k : Nat) (h : l.length ≤ k) : cutA l k = some k := by
  unfold cutA; rw [List.drop_eq_nil_iff.2 h]; cases l.length <;> rfl
theorem cutA_step (l : List UInt8) (k : Nat) (hk : k < l.length) :
    ((l.getD k 0).toNat = 44 → cutA l k = some k) ∧
    ((l.getD k 0).toNat = 34 → (unq (l.drop k) = none → cutA l k = none) ∧ ∀ x, unq (l.drop k) = some x → cutA l k = cutA l (k + x.2)) ∧
    ((l.getD k 0).toNat ≠ 44 → (l.getD k 0).toNat ≠ 34 → cutA l k = cutA l (k + 1)) := by
  have hd : l.drop k = l.getD k 0 :: l.drop (k + 1) := by rw [getD_at' hk]; exact List.drop_eq_getElem_cons hk
  obtain ⟨f, hf⟩ : ∃ f, l.length = f + 1 := ⟨l.length - 1, by omega⟩
  have e : cutA l k = (if (l.getD k 0).toNat = 44 then some k else if (l.getD k 0).toNat = 34 then (match unq (l.drop k) with
        | none => none
        | some x => cutF f ((l.drop k).drop x.2) (k + x.2)) else cutF f (l.drop (k + 1)) (k + 1)) := by
    unfold cutA
    rw [hf, hd]
    simp only [cutF]
    rfl
  refine ⟨fun h => by rw [e, if_pos h], fun h => ⟨fun hu => ?_, fun x hu => ?_⟩, fun h1 h2 => ?_⟩
  · rw [e, if_neg (by omega), if_pos h, hu]
  · rw [e, if_neg (by omega), if_pos h, hu]
    have := unq_len _ x hu
    rw [List.length_drop] at this
    simp only [List.drop_drop]
    exact cutF_fuel _ _ _ _ (by rw [List.length_drop]; omega) (by rw [List.length_drop]; omega)
  · rw [e, if_neg h1, if_neg h2]
    exact cutF_fuel _ _ _ _ (by rw [List.length_drop]; omega) (by rw [List.length_drop]; omega)

def PieceSays (R : Option Nat) (w : World) (e : Ending) (w' : World) : Prop :=
  e = (match R with
    | none => .returned (.tuple #[.int .i64 0, .int .i64 5])
    | some n => .returned (.tuple #[.int .i64 n, .int .i64 0])) ∧ Below w.heap.size w w'
theorem pieceSays_none {R : Option Nat} {w w' : World} (h : R = none) (hb : Below w.heap.size w w') : PieceSays R w (.returned (.tuple #[.int .i64 0, .int .i64 5])) w' := by
  subst h; exact ⟨rfl, hb⟩
theorem pieceSays_some {R : Option Nat} {w w' : World} {n : Nat} {v : Int} (h : R = some n) (hv : v = n) (hb : Below w.heap.size w w') : PieceSays R w (.returned (.tuple #[.int .i64 v, .int .i64 0])) w' := by
  subst h hv; exact ⟨rfl, hb⟩
theorem ext_drop (X : ByteArray) (k : Nat) : (X.extract k X.size).data.toList = X.data.toList.drop k := by
  rw [ext_list X k X.size (Nat.le_refl _), List.take_of_length_le (by rw [len_data]; exact Nat.le_refl _)]
theorem ext_size (X : ByteArray) (a b : Nat) (h : b ≤ X.size) : (X.extract a b).size = b - a := by rw [ByteArray.size_extract]; omega

set_option maxHeartbeats 8000000 in
set_option maxRecDepth 100000 in
theorem piece_any (X : ByteArray) (w : World) (hs : X.size ≤ 35184372088832) :
    Calls Tryz.prog 124 #[.string X] w (PieceSays (cut X.data.toList) w) := by
  have hll := len_data X
  obtain ⟨l, hl⟩ : ∃ l, X.data.toList = l := ⟨_, rfl⟩
  have hat : ∀ k (h : k < X.size), X[k] = l.getD k 0 := fun k h => by rw [← hl]; exact byte_getD X k h
  have hun : ∀ k wx, Calls Tryz.prog 138 #[.string (X.extract k X.size)] wx (UnqSays (unq (l.drop k)) wx) := fun k wx => by
    have := unquote_any (X.extract k X.size) wx (by rw [ext_size X k _ (Nat.le_refl _)]; omega)
    rw [ext_drop, hl] at this; exact this
  rw [hl] at hll ⊢
  obtain ⟨R, hR⟩ : ∃ R, R = cut l := ⟨_, rfl⟩
  rw [← hR]
  have HR : Hid (R = cutA l 0) := Lib.hid (by rw [cutA_zero]; exact hR)
  have HAT := Lib.hid hat
  have HUN := Lib.hid hun
  have HLL := Lib.hid hll
  clear hat hl hll hR hun
  go_enter Tryz.func124, Tryz.ntmps124
  go_wp2_with fail
  go_loopw [4] (fun i wr => ∃ k : Nat, k ≤ X.size ∧ i = .int .i64 k ∧ R = cutA l k ∧ Below w.heap.size w wr) (fun i _ => X.size - (intOf i).toNat)
  case atStart => exact ⟨0, by omega, rfl, HR.out, Below.refl _ _⟩
  case round =>
    obtain ⟨k, hk, rfl, hR, hb⟩ := hrel
    have HB := Lib.hid hb
    by_cases hlt : k < X.size
    · obtain ⟨r1, r2, r3⟩ := cutA_step l k (by rw [HLL.out]; exact hlt)
      rw [← HAT.out k hlt] at r1 r2 r3
      by_cases q1 : (X[k]).toNat = 44
      · have HV := Lib.hid (hR.trans (r1 q1))
        have e1 : ((X[k].toNat : Int) == 44) = true := by simp; omega
        clear r1 r2 r3 q1 hR hb
        go_wp2
        go_ret2
        exact pieceSays_some HV.out (by omega) HB.out
      · have e1 : ((X[k].toNat : Int) == 44) = false := by simp; omega
        by_cases q2 : (X[k]).toNat = 34
        · have e2 : ((X[k].toNat : Int) == 34) = true := by simp; omega
          obtain ⟨s1, s2⟩ := r2 q2
          have hu := HUN.out k
          cases hq : unq (l.drop k) with
          | none =>
            rw [hq] at hu
            have HV := Lib.hid (hR.trans (s1 hq))
            have HU := Lib.hid hu
            clear r1 r2 r3 q1 q2 hR hb s1 s2 hu hq
            go_wp2_with fail
            refine (HU.out _).mono ?_; rintro e w1 ⟨rfl, hb⟩
            have HB1 := Lib.hid (HB.out.trans (hb.mono HB.out.size))
            clear hb
            go_wp2
            go_ret2
            exact pieceSays_none HV.out HB1.out
          | some x =>
            rw [hq] at hu
            have HV := Lib.hid (hR.trans (s2 x hq))
            have HU := Lib.hid hu
            have hx := unq_len _ x hq
            rw [List.length_drop, HLL.out] at hx
            obtain ⟨x1, x2⟩ := x
            obtain ⟨n, hn⟩ : ∃ n, x2 = n := ⟨_, rfl⟩
            subst hn
            have hx2 : 2 ≤ x2 ∧ k + x2 ≤ X.size := by simp only at hx; omega
            obtain ⟨hxa, hxb⟩ := hx2
            have HV2 : Hid (R = cutA l (k + x2)) := Lib.hid HV.out
            have HU2 : Hid (∀ wx, Calls Tryz.prog 138 #[.string (X.extract k X.size)] wx fun e w' => e = .returned (.tuple #[.string ⟨x1.toArray⟩, .int .i64 x2, .int .i64 0]) ∧ Below wx.heap.size wx w') := Lib.hid fun wx => HU.out wx
            clear r1 r2 r3 q1 q2 hR hb s1 s2 hu hq hx HV HU
            go_wp2_with fail
            refine (HU2.out _).mono ?_; rintro e w1 ⟨rfl, hb⟩
            have HB1 := Lib.hid (HB.out.trans (hb.mono HB.out.size))
            clear hb
            go_wp2
            go_roundw
            case rel => exact ⟨k + x2, by omega, by go_num, HV2.out, HB1.out⟩
            case measure => simp [intOf]; omega
        · have e2 : ((X[k].toNat : Int) == 34) = false := by simp; omega
          have HV := Lib.hid (hR.trans (r3 q1 q2))
          clear r1 r2 r3 q1 q2 hR hb
          go_wp2
          go_roundw
          case rel => exact ⟨k + 1, by omega, by go_num, HV.out, HB.out⟩
          case measure => simp [intOf]; omega
    · have HV : Hid (R = some X.size) := Lib.hid (by rw [hR, cutA_end l k (by rw [HLL.out]; omega)]; congr 1; omega)
      clear hR hb
      go_wp2
      go_ret2
      exact pieceSays_some HV.out rfl HB.out
end Go.Proofs.YthkgaaibhjkngaaGreatDoor
