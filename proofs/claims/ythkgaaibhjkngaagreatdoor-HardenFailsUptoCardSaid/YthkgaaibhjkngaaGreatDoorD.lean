/- Words: the program's tokens, trimmed and skipped. -/
import Derived.Test.YthkgaaibhjkngaaGreatDoorC
set_option linter.unusedVariables false
namespace Go.Proofs.YthkgaaibhjkngaaGreatDoor
open Go.RowKit Go.Shelf

theorem getD_at' {l : List UInt8} {j : Nat} (h : j < l.length) : l.getD j 0 = l[j] := by rw [List.getD_eq_getElem?_getD, List.getElem?_eq_getElem h]; rfl
theorem byte_getD (X : ByteArray) (k : Nat) (h : k < X.size) : X[k] = X.data.toList.getD k 0 := by
  rw [byte_at X k h, getD_at' (by rw [len_data]; exact h)]
theorem tok_getD (l : List UInt8) (k : Nat) (hk : k ≤ l.length) (h : ∀ j, j < k → tch (l.getD j 0) = true) (h2 : k < l.length → tch (l.getD k 0) = false) : tok l = k :=
  tok_at l k hk (fun j hj hlt => by rw [← getD_at' hj]; exact h j hlt) (fun hj => by rw [← getD_at' hj]; exact h2 hj)

set_option maxHeartbeats 2000000 in
theorem tokens_any (X : ByteArray) (w : World) (hs : X.size ≤ 9223372036854775807) :
    Calls Tryz.prog 112 #[.string X] w fun e w' => e = .returned (.int .i64 (tok X.data.toList : Nat)) ∧ w = w' := by
  have hll := len_data X
  have hc : ∀ k (h : k < X.size) wx, Calls Tryz.prog 130 #[.int .u8 X[k].toNat] wx fun e w' => e = .returned (.bool (tch (X.data.toList.getD k 0))) ∧ wx = w' := fun k h wx => by
    rw [byte_getD X k h]; exact tokenByte_any _ wx
  have ht := fun k hk h h2 => tok_getD X.data.toList k hk h h2
  rw [hll] at ht
  generalize tok X.data.toList = r at ht ⊢
  obtain ⟨tc, htc⟩ : ∃ tc : Nat → Bool, tc = fun k => tch (X.data.toList.getD k 0) := ⟨_, rfl⟩
  have hc2 : ∀ k (h : k < X.size) wx, Calls Tryz.prog 130 #[.int .u8 X[k].toNat] wx fun e w' => e = .returned (.bool (tc k)) ∧ wx = w' := by rw [htc]; exact hc
  have ht2 : ∀ k, k ≤ X.size → (∀ j, j < k → tc j = true) → (k < X.size → tc k = false) → r = k := by rw [htc]; exact ht
  have HC := Lib.hid hc2
  have HT := Lib.hid ht2
  clear hc ht hll htc hc2 ht2
  go_enter Tryz.func112, Tryz.ntmps112
  go_wp2_with fail
  go_loop [3] (fun i => ∃ k : Nat, k ≤ X.size ∧ i = .int .i64 k ∧ ∀ j, j < k → tc j = true) (fun i => X.size - (intOf i).toNat)
  case atStart => exact ⟨0, by omega, rfl, fun j h => by omega⟩
  case round =>
    obtain ⟨k, hk, rfl, hall⟩ := hrel
    have HA := Lib.hid hall
    clear hall
    by_cases hlt : k < X.size
    · have hc := HC.out k hlt
      cases hb : tc k with
      | true =>
        rw [hb] at hc
        have H := Lib.hid hc
        have HN : Hid (∀ j, j < k + 1 → tc j = true) := Lib.hid fun j h => by
          by_cases e : j = k
          · subst e; exact hb
          · exact HA.out j (by omega)
        clear hc hb
        go_wp2_with fail
        refine (H.out _).mono ?_; rintro e w1 ⟨rfl, rfl⟩
        go_wp2
        go_round
        case rel => exact ⟨k + 1, by omega, by go_num, HN.out⟩
        case measure => simp [intOf]; omega
      | false =>
        rw [hb] at hc
        have H := Lib.hid hc
        have HV := Lib.hid (HT.out k hk HA.out (fun _ => hb))
        clear hc hb
        go_wp2_with fail
        refine (H.out _).mono ?_; rintro e w1 ⟨rfl, rfl⟩
        go_wp2
        go_ret
        exact ⟨ret_int (by rw [HV.out]), rfl⟩
    · have HV := Lib.hid (HT.out k hk HA.out (fun h => absurd h hlt))
      have he : k = X.size := by omega
      subst he
      go_wp2
      go_ret
      exact ⟨ret_int (by rw [HV.out]), rfl⟩

theorem isTok_nil : isTok [] = false := rfl
theorem isTok_ne {l : List UInt8} (h : l ≠ []) : isTok l = decide (tok l = l.length) := by cases l; contradiction; simp [isTok]
theorem empty_beq {X : ByteArray} (h : X.size = 0) : X = ⟨#[]⟩ := by
  apply ByteArray.ext; exact Array.eq_empty_of_size_eq_zero h
theorem nonempty_beq {X : ByteArray} (h : 0 < X.size) : (X.toList == []) = false ∧ (X.toList != []) = true ∧ X.data.toList ≠ [] := by
  have hne : X.data.toList ≠ [] := by intro e; have := len_data X; rw [e] at this; simp at this; omega
  rw [toList_data']
  have : (X.data.toList == []) = false := by cases h : X.data.toList; exact absurd h hne; rfl
  exact ⟨this, by simp only [bne, this, Bool.not_false], hne⟩
theorem token_any (X : ByteArray) (w : World) (hs : X.size ≤ 9223372036854775807) :
    Calls Tryz.prog 81 #[.string X] w fun e w' => e = .returned (.bool (isTok X.data.toList)) ∧ w = w' := by
  rcases Nat.eq_zero_or_pos X.size with h | h
  · obtain rfl := empty_beq h
    have HV : Hid (isTok (ByteArray.mk #[]).data.toList = false) := Lib.hid rfl
    clear h
    go_enter Tryz.func81, Tryz.ntmps81
    go_wp2
    go_ret
    exact ⟨ret_bool HV.out.symm, rfl⟩
  · obtain ⟨h1, h2, h3⟩ := nonempty_beq h
    have ht := fun wx => tokens_any X wx hs
    have hv := isTok_ne h3
    rw [len_data] at hv
    generalize isTok X.data.toList = b at hv ⊢
    generalize tok X.data.toList = t at ht hv
    have HT := Lib.hid ht
    by_cases e : t = X.size
    · have HV : Hid (b = true) := Lib.hid (by rw [hv]; simp [e])
      have e2 : ((t : Int) == (X.size : Int)) = true := by simp [e]
      clear h3 hv ht e
      go_enter Tryz.func81, Tryz.ntmps81
      go_wp2_with fail
      refine (HT.out _).mono ?_; rintro e w1 ⟨rfl, rfl⟩
      go_wp2
      go_ret
      exact ⟨ret_bool HV.out.symm, rfl⟩
    · have HV : Hid (b = false) := Lib.hid (by rw [hv]; simp [e])
      have e2 : ((t : Int) == (X.size : Int)) = false := by simp; omega
      clear h3 hv ht e
      go_enter Tryz.func81, Tryz.ntmps81
      go_wp2_with fail
      refine (HT.out _).mono ?_; rintro e w1 ⟨rfl, rfl⟩
      go_wp2
      go_ret
      exact ⟨ret_bool HV.out.symm, rfl⟩

def blankS : ByteArray := ⟨#[32, 9]⟩
theorem strim_any (X : ByteArray) (w : World) (hs : X.size ≤ 9223372036854775807) :
    Calls Tryz.prog 131 #[.string X, .string blankS] w fun e w' => e = .returned (.string ⟨(trim X.data.toList).toArray⟩) ∧ Below w.heap.size w w' :=
  Any.strings_Trim_laid Tryz.lays160 (by kernel_rfl) X blankS w hs (by decide) (ascii_of_all (by decide))
theorem sleft_any (X : ByteArray) (w : World) :
    Calls Tryz.prog 159 #[.string X, .string blankS] w fun e w' => e = .returned (.string ⟨(skip X.data.toList).toArray⟩) ∧ Below w.heap.size w w' :=
  Any.strings_TrimLeft_laid Tryz.lays161 (by kernel_rfl) X blankS w (by decide) (ascii_of_all (by decide))
theorem trim_any (X : ByteArray) (w : World) (hs : X.size ≤ 9223372036854775807) :
    Calls Tryz.prog 113 #[.string X] w fun e w' => e = .returned (.string ⟨(trim X.data.toList).toArray⟩) ∧ Below w.heap.size w w' := by
  have h := fun wx => strim_any X wx hs
  generalize (ByteArray.mk (trim X.data.toList).toArray) = T at h ⊢
  have H := Lib.hid h
  clear h
  go_enter Tryz.func113, Tryz.ntmps113
  go_wp2_with fail
  refine (H.out _).mono ?_; rintro e w1 ⟨rfl, hb⟩
  have B := Lib.hid hb
  clear hb
  go_wp2
  go_ret
  exact ⟨rfl, B.out⟩
theorem skip_any (X : ByteArray) (w : World) :
    Calls Tryz.prog 136 #[.string X] w fun e w' => e = .returned (.string ⟨(skip X.data.toList).toArray⟩) ∧ Below w.heap.size w w' := by
  have h := fun wx => sleft_any X wx
  generalize (ByteArray.mk (skip X.data.toList).toArray) = T at h ⊢
  have H := Lib.hid h
  clear h
  go_enter Tryz.func136, Tryz.ntmps136
  go_wp2_with fail
  refine (H.out _).mono ?_; rintro e w1 ⟨rfl, hb⟩
  have B := Lib.hid hb
  clear hb
  go_wp2
  go_ret
  exact ⟨rfl, B.out⟩
theorem trim_len (l : List UInt8) : (trim l).length ≤ l.length := by
  have h1 : ∀ (p : UInt8 → Bool) (m : List UInt8), (m.dropWhile p).length ≤ m.length := fun p m => (List.dropWhile_sublist p).length_le
  unfold trim Lib.trimS Lib.trimLeftS Lib.trimRightS
  have a := h1 (blanks.contains ·) (l.reverse.dropWhile (blanks.contains ·)).reverse
  have b := h1 (blanks.contains ·) l.reverse
  simp only [List.length_reverse] at a b
  omega
theorem skip_len (l : List UInt8) : (skip l).length ≤ l.length := (List.dropWhile_sublist _).length_le
theorem same_any (X Y : ByteArray) (w : World) (hx : X.size ≤ 9223372036854775807) (hy : Y.size ≤ 9223372036854775807) :
    Calls Tryz.prog 61 #[.string X, .string Y] w fun e w' => e = .returned (.bool (decide (X.data.toList.map lwr = Y.data.toList.map lwr))) ∧ Below w.heap.size w w' := by
  have h1 := fun wx => lower_any X wx hx
  have h2 := fun wx => lower_any Y wx hy
  obtain ⟨b, hb⟩ : ∃ b, b = decide (X.data.toList.map lwr = Y.data.toList.map lwr) := ⟨_, rfl⟩
  rw [← hb]
  have hlen : (⟨(X.data.toList.map lwr).toArray⟩ : ByteArray).size = X.size := by rw [size_mk, List.length_map, len_data]
  have hb2 : b = decide ((⟨(X.data.toList.map lwr).toArray⟩ : ByteArray) = ⟨(Y.data.toList.map lwr).toArray⟩) := by
    rw [hb]; congr 1; rw [eq_iff_iff]
    constructor
    · intro h; rw [h]
    · intro h; have := congrArg (fun Z : ByteArray => Z.data.toList) h; simpa using this
  have hlen2 : (⟨(Y.data.toList.map lwr).toArray⟩ : ByteArray).size = Y.size := by rw [size_mk, List.length_map, len_data]
  clear hb
  generalize (ByteArray.mk (X.data.toList.map lwr).toArray) = U at h1 hlen hb2
  generalize (ByteArray.mk (Y.data.toList.map lwr).toArray) = V at h2 hlen2 hb2
  have H1 := Lib.hid h1
  have H2 := Lib.hid h2
  by_cases e : X.size = Y.size
  · have e2 : ((X.size : Int) == (Y.size : Int)) = true := by simp [e]
    by_cases f : U = V
    · subst f
      have HV : Hid (b = true) := Lib.hid (by rw [hb2]; simp)
      clear h1 h2 hlen hlen2 hb2 e
      go_enter Tryz.func61, Tryz.ntmps61
      go_wp2_with fail
      refine (H1.out _).mono ?_; rintro e w1 ⟨rfl, hb⟩
      have B1 := Lib.hid hb
      clear hb
      go_wp2_with fail
      refine (H2.out _).mono ?_; rintro e w2 ⟨rfl, hb⟩
      have B2 := Lib.hid (B1.out.trans (hb.mono B1.out.size))
      clear hb
      go_wp2
      go_ret
      exact ⟨ret_bool HV.out.symm, B2.out⟩
    · have HV : Hid (b = false) := Lib.hid (by rw [hb2]; simp [f])
      have f2 : (U.toList == V.toList) = false := by
        rw [toList_data', toList_data']
        simp; intro h; exact f (by apply ByteArray.ext; rw [← Array.toArray_toList (xs := U.data), h])
      clear h1 h2 hlen hlen2 hb2 e f
      go_enter Tryz.func61, Tryz.ntmps61
      go_wp2_with fail
      refine (H1.out _).mono ?_; rintro e w1 ⟨rfl, hb⟩
      have B1 := Lib.hid hb
      clear hb
      go_wp2_with fail
      refine (H2.out _).mono ?_; rintro e w2 ⟨rfl, hb⟩
      have B2 := Lib.hid (B1.out.trans (hb.mono B1.out.size))
      clear hb
      go_wp2
      go_ret
      exact ⟨ret_bool HV.out.symm, B2.out⟩
  · have e2 : ((X.size : Int) == (Y.size : Int)) = false := by simp; omega
    have HV : Hid (b = false) := Lib.hid (by rw [hb2]; simp; intro h; rw [h] at hlen; omega)
    clear h1 h2 hlen hlen2 hb2 e
    go_enter Tryz.func61, Tryz.ntmps61
    go_wp2
    go_ret
    exact ⟨ret_bool HV.out.symm, Below.refl _ _⟩
end Go.Proofs.YthkgaaibhjkngaaGreatDoor
