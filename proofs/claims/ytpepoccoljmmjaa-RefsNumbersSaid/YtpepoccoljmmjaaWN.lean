/- A character told by its number: plain lists. -/
import Derived.Test.YtpepoccoljmmjaaRL
import Derived.Test.YtpepoccoljmmjaaRV
set_option linter.unusedVariables false
namespace Go.Proofs.Ytpepoccoljmmjaa
open Go.RowKit Go.Shelf

def plv (h : Bool) (l : Bs) : Int := l.foldl (fun n c => n * bse h + dg h c) 0
theorem plv_snoc (h : Bool) (l : Bs) (c : UInt8) : plv h (l ++ [c]) = plv h l * bse h + dg h c := by unfold plv; rw [List.foldl_append]; rfl
theorem plv_from (h : Bool) : ∀ (l : Bs) (n : Int), l.foldl (fun n c => n * bse h + dg h c) n = n * bse h ^ l.length + plv h l
  | [], n => by simp [plv]
  | c :: l, n => by
    have e1 : plv h (c :: l) = l.foldl (fun n c => n * bse h + dg h c) (0 * bse h + dg h c) := rfl
    rw [List.foldl_cons, plv_from h l, e1, plv_from h l, List.length_cons, Int.pow_succ]
    rw [Int.zero_mul, Int.zero_add, Int.add_mul, Int.mul_assoc, Int.mul_comm (bse h) (bse h ^ l.length)]
    omega
theorem plv_cons (h : Bool) (c : UInt8) (l : Bs) : plv h (c :: l) = dg h c * bse h ^ l.length + plv h l := by
  have := plv_from h l (0 * bse h + dg h c)
  rw [Int.zero_mul, Int.zero_add] at this
  unfold plv at this ⊢
  rw [List.foldl_cons, Int.zero_mul, Int.zero_add]
  exact this
theorem plv_noughts (h : Bool) : ∀ (k : Nat) (l : Bs), plv h (List.replicate k 48 ++ l) = plv h l
  | 0, l => rfl
  | k + 1, l => by
    rw [List.replicate_succ, List.cons_append, plv_cons, plv_noughts h k l, show dg h 48 = 0 by cases h <;> decide]; omega
theorem pv_plain (h : Bool) (l : Bs) (hd : ∀ c ∈ l, 0 ≤ dg h c) : 0 ≤ plv h l ∧ (plv h l ≤ 1114112 → pv h l = plv h l) := by
  obtain ⟨r, rfl⟩ : ∃ r, l = r.reverse := ⟨l.reverse, by simp⟩
  induction r with
  | nil => exact ⟨Int.le_refl 0, fun _ => rfl⟩
  | cons c r ih =>
    rw [List.reverse_cons, plv_snoc, pv_snoc]
    obtain ⟨h1, h2⟩ := ih fun x hx => hd x (by rw [List.reverse_cons]; exact List.mem_append_left _ hx)
    have h3 := hd c (by simp)
    rcases bse_is h with hb | hb <;> rw [hb]
    · refine ⟨by omega, fun hle => ?_⟩
      rw [h2 (by omega)]; omega
    · refine ⟨by omega, fun hle => ?_⟩
      rw [h2 (by omega)]; omega
theorem tkN_num (h : Bool) (X0 P e : Bs) (C : Nat) (hx : (h = false ∧ X0 = []) ∨ (h = true ∧ ∃ x, X0 = [x] ∧ isX x = true)) (hP0 : P ≠ []) (hP : P.length ≤ 16) (hd : ∀ c ∈ P, 0 ≤ dg h c)
    (hv : plv h P = C) (hC : C ≤ 1114111) (he : e = [] ∨ e = [59]) : tkN (X0 ++ (P ++ (e ++ [122]))) = (numC C, 2 + X0.length + P.length + e.length) := by
  have hpv : pv h P = C := by rw [(pv_plain h P hd).2 (by omega), hv]
  obtain ⟨c, P', rfl⟩ : ∃ c P', P = c :: P' := by cases P with | nil => exact absurd rfl hP0 | cons c P' => exact ⟨c, P', rfl⟩
  have hhex : hexB (X0 ++ ((c :: P') ++ (e ++ [122]))) = h := by
    rcases hx with ⟨rfl, rfl⟩ | ⟨rfl, x, rfl, hx⟩
    · show isX c = false
      have h1 := hd c (List.mem_cons_self ..)
      have : ∀ n, n < 256 → 0 ≤ dg false (UInt8.ofNat n) → isX (UInt8.ofNat n) = false := by decide +kernel
      have h2 := this c.toNat c.toNat_lt
      rw [UInt8.ofNat_toNat] at h2
      exact h2 h1
    · exact hx
  have hnbg : nbg (X0 ++ ((c :: P') ++ (e ++ [122]))) = X0.length := by
    unfold nbg; rw [hhex]
    rcases hx with ⟨rfl, rfl⟩ | ⟨rfl, x, rfl, hx⟩ <;> rfl
  have hdrop : (X0 ++ ((c :: P') ++ (e ++ [122]))).drop X0.length = (c :: P') ++ (e ++ [122]) := by simp
  have hnd : ndig (X0 ++ ((c :: P') ++ (e ++ [122]))) = c :: P' := by
    unfold ndig
    rw [hhex, hnbg, hdrop]
    have := digs_is (h := h) (l := (c :: P') ++ (e ++ [122])) (k := (c :: P').length) (by simp) hP (fun j hj => by
      rw [List.getElem_append_left hj]; exact hd _ (List.getElem_mem hj)) (.inr (.inr ⟨by simp, by
        rw [List.getElem_append_right (Nat.le_refl _)]
        rcases he with rfl | rfl
        · simp only [Nat.sub_self, List.nil_append, List.getElem_cons_zero]; cases h <;> decide
        · simp only [Nat.sub_self, List.cons_append, List.getElem_cons_zero]; cases h <;> decide⟩))
    rw [this]; simp
  unfold tkN
  rw [hnd, if_neg hP0, hhex, hnbg, hpv]
  refine Prod.ext rfl ?_
  simp only
  have hsem : (X0 ++ ((c :: P') ++ (e ++ [122]))).drop (X0.length + (c :: P').length) = e ++ [122] := by
    rw [← List.drop_drop, hdrop]; simp
  rw [hsem]
  rcases he with rfl | rfl
  · simp
  · simp
theorem tk_sharp (q : Bool) (r : Bs) : tk q (38 :: 35 :: r) = tkN r := rfl
theorem digits_step {b k C v : Nat} (hb : 0 < b) (hv : v = C / b ^ k) : v % b * b ^ k + C % b ^ k = C % b ^ (k + 1) ∧ v / b = C / b ^ (k + 1) := by
  subst hv
  rw [Nat.pow_succ]
  refine ⟨?_, by rw [Nat.div_div_eq_div_mul]⟩
  rw [Nat.mod_mul]; rw [Nat.mul_comm, Nat.add_comm]
theorem digits_few {b k m C v : Nat} (hb : 1 ≤ b) (hv : v = C / b ^ k) (h0 : 0 < v) (hC : C < b ^ m) : k < m := by
  refine Nat.lt_of_not_le fun hle => ?_
  have h1 : b ^ m ≤ b ^ k := Nat.pow_le_pow_right hb hle
  have : C / b ^ k = 0 := Nat.div_eq_of_lt (by omega)
  omega
def lowD : Bs := allD
def uppD : Bs := [48, 49, 50, 51, 52, 53, 54, 55, 56, 57, 65, 66, 67, 68, 69, 70]
theorem dg_low : ∀ k, k < 16 → dg true (allD.getD k 0) = (k : Nat) ∧ dg true (uppD.getD k 0) = (k : Nat) ∧ (k < 10 → dg false (allD.getD k 0) = (k : Nat)) := by decide +kernel
end Go.Proofs.Ytpepoccoljmmjaa
