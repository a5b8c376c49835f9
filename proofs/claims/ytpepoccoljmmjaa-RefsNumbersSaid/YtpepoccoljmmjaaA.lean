/- Characters as bytes: pieces of a row of bytes, plain lists. -/
import GoSem.Core.Utf8
set_option linter.unusedVariables false
namespace Go.Proofs.Ytpepoccoljmmjaa

/-- how many bytes, and where the second one goes -/
def beg (c : Nat) : Nat × Nat × Nat :=
  if c ≤ 127 then (1, 0, 0) else if c < 194 then (0, 0, 0) else if c ≤ 223 then (2, 128, 191) else if c = 224 then (3, 160, 191) else if c = 237 then (3, 128, 159)
  else if c ≤ 239 then (3, 128, 191) else if c = 240 then (4, 144, 191) else if c ≤ 243 then (4, 128, 191) else if c = 244 then (4, 128, 143) else (0, 0, 0)

/-- is the byte at n not from lo to hi? -/
def bad (l : List UInt8) (n lo hi : Nat) : Bool := match l[n]? with | some b => decide (b.toNat < lo) || decide (hi < b.toNat) | none => true

def scan (l : List UInt8) (want : Nat) : Nat → Nat → Nat → Nat → Nat × Bool
  | 0, _, _, _ => (max want 1, decide (0 < want))
  | f + 1, n, lo, hi => if bad l n lo hi = true then (n, false) else scan l want f (n + 1) 128 191

/-- the first piece -/
def pc (l : List UInt8) : Nat × Bool := scan l (beg (l.headD 0).toNat).1 ((beg (l.headD 0).toNat).1 - 1) 1 (beg (l.headD 0).toNat).2.1 (beg (l.headD 0).toNat).2.2

theorem beg_le (c : Nat) : (beg c).1 ≤ 4 := by
  unfold beg
  repeat' split
  all_goals simp
theorem beg_lo (c : Nat) (h : 1 < (beg c).1) : 128 ≤ (beg c).2.1 ∧ (beg c).2.2 ≤ 191 := by
  unfold beg at h ⊢
  repeat' split
  all_goals simp_all
theorem bad_len {l : List UInt8} {n lo hi : Nat} (h : bad l n lo hi = false) : n < l.length := by
  unfold bad at h
  cases hn : l[n]? with
  | none => rw [hn] at h; simp at h
  | some b => exact (List.getElem?_eq_some_iff.1 hn).1
theorem bad_at {l : List UInt8} {n lo hi : Nat} (h : n < l.length) : bad l n lo hi = (decide (l[n].toNat < lo) || decide (hi < l[n].toNat)) := by
  unfold bad; rw [List.getElem?_eq_getElem h]
theorem bad_end {l : List UInt8} {n lo hi : Nat} (h : l.length ≤ n) : bad l n lo hi = true := by
  unfold bad; rw [List.getElem?_eq_none h]

theorem scan_bd (l : List UInt8) (want : Nat) : ∀ f n lo hi, 1 ≤ n → n ≤ l.length → (f = 0 → want ≤ n) → n + f = max want 1 → 1 ≤ (scan l want f n lo hi).1 ∧ (scan l want f n lo hi).1 ≤ l.length
  | 0, n, lo, hi, h1, h2, h3, h4 => by simp only [scan]; have := h3 rfl; omega
  | f + 1, n, lo, hi, h1, h2, h3, h4 => by
    simp only [scan]
    split
    · exact ⟨h1, h2⟩
    · rename_i hb
      have := bad_len (by simpa using hb)
      exact scan_bd l want f (n + 1) 128 191 (by omega) (by omega) (by omega) (by omega)
theorem pc_bd (l : List UInt8) (h : l ≠ []) : 1 ≤ (pc l).1 ∧ (pc l).1 ≤ l.length := by
  have hl : 1 ≤ l.length := by cases l; contradiction; simp
  unfold pc
  have := beg_le (l.headD 0).toNat
  exact scan_bd l _ _ _ _ _ (by omega) hl (by omega) (by omega)

/-- the byte goes on no character -/
def starts (b : List UInt8) : Prop := ∀ c, b.head? = some c → c.toNat < 128 ∨ 191 < c.toNat

theorem scan_append (a b : List UInt8) (want : Nat) (hs : starts b) : ∀ f n lo hi, n ≤ a.length → (f ≠ 0 → 128 ≤ lo ∧ hi ≤ 191) → scan (a ++ b) want f n lo hi = scan a want f n lo hi
  | 0, n, lo, hi, _, _ => by simp only [scan]
  | f + 1, n, lo, hi, hn, hlo => by
    have hbad : bad (a ++ b) n lo hi = bad a n lo hi := by
      rcases Nat.lt_or_ge n a.length with h | h
      · unfold bad; rw [List.getElem?_append_left h]
      · obtain rfl : n = a.length := by omega
        rw [bad_end (l := a) (Nat.le_refl _)]
        unfold bad
        rw [List.getElem?_append_right (Nat.le_refl _), Nat.sub_self]
        cases hb : b[0]? with
        | none => rfl
        | some c =>
          have := hs c (by rw [List.head?_eq_getElem?, hb])
          have := hlo (by simp)
          simp only [Bool.or_eq_true, decide_eq_true_eq]; omega
    simp only [scan, hbad]
    split
    · rfl
    · rename_i h
      have := bad_len (by simpa using h)
      exact scan_append a b want hs f (n + 1) 128 191 (by omega) (fun _ => by omega)
theorem pc_append (a b : List UInt8) (ha : a ≠ []) (hs : starts b) : pc (a ++ b) = pc a := by
  have hh : (a ++ b).headD 0 = a.headD 0 := by cases a; contradiction; rfl
  have hl : 1 ≤ a.length := by cases a; contradiction; simp
  unfold pc
  rw [hh]
  refine scan_append a b _ hs _ _ _ _ hl fun h => beg_lo _ (by omega)

/-- all pieces -/
def pcs (l : List UInt8) : List (List UInt8 × Bool) :=
  if h : l = [] then [] else (l.take (pc l).1, (pc l).2) :: pcs (l.drop (pc l).1)
termination_by l.length
decreasing_by
  have := pc_bd l h
  simp only [List.length_drop]; omega

theorem pcs_nil : pcs [] = [] := by rw [pcs]; simp
theorem pcs_cons (l : List UInt8) (h : l ≠ []) : pcs l = (l.take (pc l).1, (pc l).2) :: pcs (l.drop (pc l).1) := by rw [pcs]; rw [dif_neg h]

theorem len_ind {P : List UInt8 → Prop} (h : ∀ l, (∀ m, m.length < l.length → P m) → P l) (l : List UInt8) : P l := by
  have : ∀ n l, l.length = n → P l := by
    intro n
    induction n using Nat.strongRecOn with
    | _ n ih => intro l hl; exact h l fun m hm => ih m.length (by omega) m rfl
  exact this _ l rfl

theorem pcs_append (b : List UInt8) (hs : starts b) (a : List UInt8) : pcs (a ++ b) = pcs a ++ pcs b := by
  induction a using len_ind with
  | _ a ih =>
    by_cases ha : a = []
    · subst ha; simp [pcs_nil]
    · have hb := pc_bd a ha
      have hp := pc_append a b ha hs
      rw [pcs_cons (a ++ b) (by simp [ha]), pcs_cons a ha, hp, List.take_append_of_le_length hb.2, List.drop_append_of_le_length hb.2,
        ih _ (by simp only [List.length_drop]; omega)]
      rfl

theorem pcs_join (l : List UInt8) : (pcs l).flatMap (·.1) = l := by
  induction l using len_ind with
  | _ l ih =>
    by_cases h : l = []
    · subst h; simp [pcs_nil]
    · have hb := pc_bd l h
      rw [pcs_cons l h, List.flatMap_cons, ih _ (by simp only [List.length_drop]; omega)]
      exact List.take_append_drop _ _

/-- what stands in a fault's place -/
def fffd : List UInt8 := [239, 191, 189]
def out (p : List UInt8 × Bool) : List UInt8 := if p.2 = true then p.1 else fffd
/-- the characters' bytes -/
def dec (l : List UInt8) : List UInt8 := (pcs l).flatMap out
/-- the first fault's place -/
def flt (l : List UInt8) : Nat := (((pcs l).takeWhile (·.2)).flatMap (·.1)).length

theorem dec_nil : dec [] = [] := by simp [dec, pcs_nil]
theorem dec_cons (l : List UInt8) (h : l ≠ []) : dec l = (if (pc l).2 = true then l.take (pc l).1 else fffd) ++ dec (l.drop (pc l).1) := by
  unfold dec; rw [pcs_cons l h, List.flatMap_cons]; rfl
theorem flt_nil : flt [] = 0 := by simp [flt, pcs_nil]
theorem flt_cons (l : List UInt8) (h : l ≠ []) : flt l = if (pc l).2 = true then (pc l).1 + flt (l.drop (pc l).1) else 0 := by
  have hb := pc_bd l h
  unfold flt; rw [pcs_cons l h, List.takeWhile_cons]
  split
  · simp only [List.flatMap_cons, List.length_append, List.length_take]; omega
  · simp
theorem dec_append (a b : List UInt8) (hs : starts b) : dec (a ++ b) = dec a ++ dec b := by
  unfold dec; rw [pcs_append b hs]; simp
theorem flt_le (l : List UInt8) : flt l ≤ l.length := by
  induction l using len_ind with
  | _ l ih =>
    by_cases h : l = []
    · subst h; simp [flt_nil]
    · have hb := pc_bd l h
      rw [flt_cons l h]
      split
      · have := ih (l.drop (pc l).1) (by simp only [List.length_drop]; omega)
        simp only [List.length_drop] at this; omega
      · omega
/-- right bytes as they are, then the fault -/
theorem dec_flt (l : List UInt8) : dec l = l.take (flt l) ++ (if flt l = l.length then [] else fffd ++ dec (l.drop (flt l + (pc (l.drop (flt l))).1))) := by
  induction l using len_ind with
  | _ l ih =>
    by_cases h : l = []
    · subst h; simp [flt_nil, dec_nil]
    · have hb := pc_bd l h
      have hf := flt_cons l h
      rw [dec_cons l h]
      by_cases ho : (pc l).2 = true
      · rw [if_pos ho] at hf ⊢
        have ih1 := ih (l.drop (pc l).1) (by simp only [List.length_drop]; omega)
        rw [ih1, hf]
        generalize flt (l.drop (pc l).1) = f
        have hiff : (f = (l.drop (pc l).1).length) ↔ ((pc l).1 + f = l.length) := by simp only [List.length_drop]; omega
        rw [List.take_add, List.append_assoc]
        congr 1
        congr 1
        by_cases e : (pc l).1 + f = l.length
        · rw [if_pos (hiff.2 e), if_pos e]
        · rw [if_neg (fun h => e (hiff.1 h)), if_neg e]
          simp only [List.drop_drop, Nat.add_assoc]
      · rw [if_neg ho] at hf ⊢
        rw [hf]
        rw [if_neg (by omega)]
        simp
end Go.Proofs.Ytpepoccoljmmjaa
