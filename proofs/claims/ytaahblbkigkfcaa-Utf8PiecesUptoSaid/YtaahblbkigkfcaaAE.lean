/- Where the bytes stand that begin a character and are not whole: plain lists. -/
import Derived.Test.YtaahblbkigkfcaaA
set_option linter.unusedVariables false
namespace Go.Proofs.Ytaahblbkigkfcaa

/-- a character is begun here and the bytes end before it does -/
def cutAt (l : List UInt8) (i : Nat) : Bool := !(pc (l.drop i)).2 && decide (0 < (beg ((l.drop i).headD 0).toNat).1) && decide (i + (pc (l.drop i)).1 = l.length)
def tlFrom (l : List UInt8) : Nat → Nat → Nat
  | 0, _ => l.length
  | f + 1, i => if i < l.length then (if cutAt l i = true then i else tlFrom l f (i + 1)) else l.length
def tl (l : List UInt8) : Nat := tlFrom l 3 (l.length - 3)

theorem scan_more (l m : List UInt8) (want : Nat) : ∀ f n lo hi, n ≤ l.length → scan (l ++ m) want f n lo hi = scan l want f n lo hi ∨ (scan l want f n lo hi = (l.length, false) ∧ 0 < f)
  | 0, n, lo, hi, _ => .inl (by simp only [scan])
  | f + 1, n, lo, hi, hn => by
    rcases Nat.lt_or_ge n l.length with h | h
    · have hbad : bad (l ++ m) n lo hi = bad l n lo hi := by unfold bad; rw [List.getElem?_append_left h]
      simp only [scan, hbad]
      split
      · exact .inl rfl
      · rcases scan_more l m want f (n + 1) 128 191 (by omega) with h2 | h2
        · exact .inl h2
        · exact .inr ⟨h2.1, by omega⟩
    · obtain rfl : n = l.length := by omega
      right
      simp only [scan, bad_end (l := l) (Nat.le_refl _), if_true]
      exact ⟨trivial, by omega⟩
theorem pc_more (l m : List UInt8) (h : l ≠ []) (hc : cutAt l 0 = false) : pc (l ++ m) = pc l := by
  have hh : (l ++ m).headD 0 = l.headD 0 := by cases l; contradiction; rfl
  have hl : 1 ≤ l.length := by cases l; contradiction; simp
  have hp : pc (l ++ m) = scan (l ++ m) (beg (l.headD 0).toNat).1 ((beg (l.headD 0).toNat).1 - 1) 1 (beg (l.headD 0).toNat).2.1 (beg (l.headD 0).toNat).2.2 := by unfold pc; rw [hh]
  rcases scan_more l m (beg (l.headD 0).toNat).1 ((beg (l.headD 0).toNat).1 - 1) 1 (beg (l.headD 0).toNat).2.1 (beg (l.headD 0).toNat).2.2 hl with h1 | ⟨h1, h2⟩
  · rw [hp, h1]; rfl
  · exfalso
    have hq : pc l = (l.length, false) := h1
    have g : decide (0 < (beg (l.headD 0).toNat).1) = true := decide_eq_true (by omega)
    have : cutAt l 0 = true := by
      unfold cutAt
      rw [List.drop_zero, hq, g]
      simp
    rw [hc] at this
    cases this
theorem scan_false (l : List UInt8) (want : Nat) (hw : 0 < want) : ∀ f n lo hi, n + f = max want 1 → (scan l want f n lo hi).2 = false → (scan l want f n lo hi).1 < want
  | 0, n, lo, hi, _, h => by simp only [scan] at h; simp at h; omega
  | f + 1, n, lo, hi, hn, h => by
    simp only [scan] at h ⊢
    split
    · simp only; omega
    · rename_i hb
      rw [if_neg hb] at h
      exact scan_false l want hw f (n + 1) 128 191 (by omega) h
theorem cut_hi {l : List UInt8} {i : Nat} (h : cutAt l i = true) : l.length ≤ i + 3 := by
  unfold cutAt at h
  simp only [Bool.and_eq_true, decide_eq_true_eq, Bool.not_eq_true'] at h
  obtain ⟨⟨h1, h2⟩, h3⟩ := h
  have h4 := beg_le ((l.drop i).headD 0).toNat
  have h5 := scan_false (l.drop i) _ h2 _ _ _ _ (by omega) h1
  have h6 : (pc (l.drop i)).1 < (beg ((l.drop i).headD 0).toNat).1 := h5
  omega
theorem cut_drop (l : List UInt8) (k i : Nat) (hk : k ≤ l.length) : cutAt (l.drop k) i = cutAt l (k + i) := by
  unfold cutAt
  rw [List.drop_drop]
  congr 1
  simp only [List.length_drop, decide_eq_decide]
  omega
theorem cut_starts {l m : List UInt8} {i : Nat} (hi : i < l.length) (h : cutAt l i = true) : starts (l.drop i ++ m) := by
  unfold cutAt at h
  simp only [Bool.and_eq_true, decide_eq_true_eq, Bool.not_eq_true'] at h
  obtain ⟨⟨_, h2⟩, _⟩ := h
  intro c hc
  have hd : (l.drop i).headD 0 = c := by
    cases hl : l.drop i with
    | nil => have := List.drop_eq_nil_iff.1 hl; omega
    | cons x r => rw [hl] at hc; simp at hc; simp [hc]
  rw [hd] at h2
  rcases Nat.lt_or_ge c.toNat 128 with g | g
  · exact .inl g
  · rcases Nat.lt_or_ge c.toNat 194 with g2 | g2
    · exfalso; unfold beg at h2; rw [if_neg (by omega), if_pos g2] at h2; simp at h2
    · right; omega
theorem tlFrom_spec (l : List UInt8) : ∀ f i, l.length ≤ i + f → (tlFrom l f i = l.length ∧ ∀ j, i ≤ j → j < l.length → cutAt l j = false) ∨ (i ≤ tlFrom l f i ∧ tlFrom l f i < l.length ∧ cutAt l (tlFrom l f i) = true ∧ ∀ j, i ≤ j → j < tlFrom l f i → cutAt l j = false)
  | 0, i, h => .inl ⟨rfl, fun j h1 h2 => by omega⟩
  | f + 1, i, h => by
    simp only [tlFrom]
    split
    · rename_i hi
      split
      · rename_i hc
        exact .inr ⟨Nat.le_refl _, hi, hc, fun j h1 h2 => by omega⟩
      · rename_i hc
        have hc : cutAt l i = false := by simpa using hc
        rcases tlFrom_spec l f (i + 1) (by omega) with ⟨h1, h2⟩ | ⟨h1, h2, h3, h4⟩
        · refine .inl ⟨h1, fun j g1 g2 => ?_⟩
          rcases Nat.lt_or_ge i j with g | g
          · exact h2 j g g2
          · obtain rfl : j = i := by omega
            exact hc
        · refine .inr ⟨by omega, h2, h3, fun j g1 g2 => ?_⟩
          rcases Nat.lt_or_ge i j with g | g
          · exact h4 j g g2
          · obtain rfl : j = i := by omega
            exact hc
    · rename_i hi
      exact .inl ⟨rfl, fun j h1 h2 => by omega⟩
theorem tl_spec (l : List UInt8) : (tl l = l.length ∧ ∀ j, j < l.length → cutAt l j = false) ∨ (tl l < l.length ∧ l.length ≤ tl l + 3 ∧ cutAt l (tl l) = true ∧ ∀ j, j < tl l → cutAt l j = false) := by
  have low : ∀ j, j < l.length - 3 → cutAt l j = false := fun j hj => by
    cases hc : cutAt l j
    · rfl
    · have := cut_hi hc; omega
  rcases tlFrom_spec l 3 (l.length - 3) (by omega) with ⟨h1, h2⟩ | ⟨h1, h2, h3, h4⟩
  · refine .inl ⟨h1, fun j hj => ?_⟩
    rcases Nat.lt_or_ge j (l.length - 3) with g | g
    · exact low j g
    · exact h2 j g hj
  · refine .inr ⟨h2, cut_hi h3, h3, fun j hj => ?_⟩
    rcases Nat.lt_or_ge j (l.length - 3) with g | g
    · exact low j g
    · exact h4 j g hj
theorem tl_le (l : List UInt8) : tl l ≤ l.length := by
  rcases tl_spec l with h | h
  · exact Nat.le_of_eq h.1
  · exact Nat.le_of_lt h.1
theorem tl_hi (l : List UInt8) : l.length ≤ tl l + 3 := by
  rcases tl_spec l with h | h
  · rw [h.1]; omega
  · exact h.2.1
theorem tl_at {l : List UInt8} {j : Nat} (hj : j < l.length) (h3 : l.length - 3 ≤ j) (hc : cutAt l j = true) (hno : ∀ k, l.length - 3 ≤ k → k < j → cutAt l k = false) : tl l = j := by
  rcases tl_spec l with ⟨h1, h2⟩ | ⟨h1, h2, h4, h5⟩
  · rw [h2 j hj] at hc; cases hc
  · rcases Nat.lt_trichotomy (tl l) j with g | g | g
    · have := hno (tl l) (by omega) g; rw [h4] at this; cases this
    · exact g
    · rw [h5 j g] at hc; cases hc
theorem tl_end {l : List UInt8} (hno : ∀ k, l.length - 3 ≤ k → k < l.length → cutAt l k = false) : tl l = l.length := by
  rcases tl_spec l with ⟨h1, h2⟩ | ⟨h1, h2, h4, h5⟩
  · exact h1
  · have := hno (tl l) (by omega) h1; rw [h4] at this; cases this
theorem dec_nocut (m l : List UInt8) (h : ∀ j, j < l.length → cutAt l j = false) : dec (l ++ m) = dec l ++ dec m := by
  induction l using len_ind with
  | _ l ih =>
    by_cases hl : l = []
    · subst hl; simp [dec_nil]
    · have hb := pc_bd l hl
      have hp := pc_more l m hl (h 0 (by omega))
      rw [dec_cons (l ++ m) (by simp [hl]), dec_cons l hl, hp, List.take_append_of_le_length hb.2, List.drop_append_of_le_length hb.2,
        ih (l.drop (pc l).1) (by simp only [List.length_drop]; omega) (fun j hj => by
          simp only [List.length_drop] at hj
          rw [cut_drop l _ j hb.2]
          exact h _ (by omega)), List.append_assoc]
/-- what is certain may be told -/
theorem dec_tl (l m : List UInt8) : dec (l ++ m) = dec (l.take (tl l)) ++ dec (l.drop (tl l) ++ m) := by
  rcases tl_spec l with ⟨h1, h2⟩ | ⟨h1, _, h3, _⟩
  · rw [h1, List.take_length, List.drop_length, List.nil_append]
    exact dec_nocut m l h2
  · have := dec_append (l.take (tl l)) (l.drop (tl l) ++ m) (cut_starts h1 h3)
    rw [← this, ← List.append_assoc, List.take_append_drop]
end Go.Proofs.Ytaahblbkigkfcaa
