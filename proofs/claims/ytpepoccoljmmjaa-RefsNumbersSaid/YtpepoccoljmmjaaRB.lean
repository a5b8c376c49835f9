/- References: numbers, texts, plain lists. -/
import Derived.Test.YtpepoccoljmmjaaRA
set_option linter.unusedVariables false
namespace Go.Proofs.Ytpepoccoljmmjaa

/-! ## numbers -/
def dg (h : Bool) (c : UInt8) : Int := if 48 ≤ c.toNat ∧ c.toNat ≤ 57 then (c.toNat : Int) - 48 else if h = true ∧ 97 ≤ c.toNat ∧ c.toNat ≤ 102 then (c.toNat : Int) - 87 else if h = true ∧ 65 ≤ c.toNat ∧ c.toNat ≤ 70 then (c.toNat : Int) - 55 else -1
def bse (h : Bool) : Int := if h = true then 16 else 10
theorem dg_ge (h : Bool) (c : UInt8) : -1 ≤ dg h c ∧ dg h c < bse h := by
  unfold dg bse; split
  · cases h <;> simp <;> omega
  · split
    · rename_i a; rw [a.1]; simp; omega
    · split
      · rename_i a; rw [a.1]; simp; omega
      · cases h <;> simp
/-- the digits at the front, sixteen at most -/
def digs (h : Bool) (l : Bs) : Bs := (l.take 16).takeWhile fun c => decide (0 ≤ dg h c)
def pv (h : Bool) (l : Bs) : Int := l.foldl (fun n c => min (n * bse h + dg h c) 1114112) 0
def rv (h : Bool) (l : Bs) : Int := l.foldl (fun v c => if v < 1114112 then v * bse h + dg h c else v) 0
theorem pv_snoc (h : Bool) (l : Bs) (c : UInt8) : pv h (l ++ [c]) = min (pv h l * bse h + dg h c) 1114112 := by unfold pv; rw [List.foldl_append]; rfl
theorem rv_snoc (h : Bool) (l : Bs) (c : UInt8) : rv h (l ++ [c]) = if rv h l < 1114112 then rv h l * bse h + dg h c else rv h l := by unfold rv; rw [List.foldl_append]; rfl
theorem digs_len (h : Bool) (l : Bs) : (digs h l).length ≤ l.length ∧ (digs h l).length ≤ 16 := by
  unfold digs
  have := (List.takeWhile_sublist (l := l.take 16) fun c => decide (0 ≤ dg h c)).length_le
  rw [List.length_take] at this; omega
theorem digs_pre (h : Bool) (l : Bs) : digs h l = l.take (digs h l).length := by
  have h1 : digs h l <+: l.take 16 := List.takeWhile_prefix _
  have h2 : digs h l <+: l := h1.trans (List.take_prefix _ _)
  exact List.prefix_iff_eq_take.1 h2
theorem digs_all (h : Bool) (l : Bs) : ∀ c ∈ digs h l, 0 ≤ dg h c := fun c hc => by
  have := List.all_takeWhile (l := l.take 16) (p := fun c => decide (0 ≤ dg h c))
  simpa using List.all_eq_true.1 this c hc
/-- so many are digits, and the next one is none, or there are sixteen -/
theorem digs_is {h : Bool} {l : Bs} {k : Nat} (hk : k ≤ l.length) (h16 : k ≤ 16) (hall : ∀ j (hj : j < k), 0 ≤ dg h (l[j]'(by omega))) (hstop : k = l.length ∨ k = 16 ∨ ∃ hk' : k < l.length, dg h l[k] < 0) : digs h l = l.take k := by
  unfold digs
  have h1 : l.take 16 = l.take k ++ (l.take 16).drop k := by
    conv => lhs; rw [← List.take_append_drop k (l.take 16), List.take_take, Nat.min_eq_left h16]
  rw [h1, List.takeWhile_append_of_pos]
  · have h2 : ((l.take 16).drop k).takeWhile (fun c => decide (0 ≤ dg h c)) = [] := by
      rcases hstop with hs | hs | ⟨hk', hs⟩
      · have : (l.take 16).drop k = [] := List.drop_eq_nil_of_le (by rw [List.length_take]; omega)
        rw [this]; rfl
      · have : (l.take 16).drop k = [] := List.drop_eq_nil_of_le (by rw [List.length_take]; omega)
        rw [this]; rfl
      · by_cases h16' : k = 16
        · have : (l.take 16).drop k = [] := List.drop_eq_nil_of_le (by rw [List.length_take]; omega)
          rw [this]; rfl
        · have hlt : k < (l.take 16).length := by rw [List.length_take]; omega
          rw [List.drop_eq_getElem_cons hlt]
          rw [List.takeWhile_cons_of_neg]
          rw [List.getElem_take]; simp; omega
    rw [h2, List.append_nil]
  · intro c hc
    obtain ⟨j, hj, rfl⟩ := List.getElem_of_mem hc
    rw [List.length_take] at hj
    rw [List.getElem_take]
    exact decide_eq_true (hall j (by omega))
theorem pv_bd (h : Bool) (l : Bs) (hl : ∀ c ∈ l, 0 ≤ dg h c) : 0 ≤ pv h l ∧ pv h l ≤ 1114112 := by
  obtain ⟨r, rfl⟩ : ∃ r, l = r.reverse := ⟨l.reverse, by simp⟩
  induction r with
  | nil => exact ⟨Int.le_refl 0, by show (0:Int) ≤ 1114112; omega⟩
  | cons c r ih =>
    rw [List.reverse_cons, pv_snoc]
    have h1 := ih fun x hx => hl x (by rw [List.reverse_cons]; exact List.mem_append_left _ hx)
    have h2 := hl c (by simp)
    have h3 : 0 ≤ pv h r.reverse * bse h := Int.mul_nonneg h1.1 (by unfold bse; split <;> decide)
    omega
theorem rv_bd (h : Bool) (l : Bs) (hl : ∀ c ∈ l, 0 ≤ dg h c) : 0 ≤ rv h l ∧ rv h l ≤ 17825800 ∧ min (rv h l) 1114112 = pv h l := by
  obtain ⟨r, rfl⟩ : ∃ r, l = r.reverse := ⟨l.reverse, by simp⟩
  induction r with
  | nil => exact ⟨Int.le_refl 0, by show (0:Int) ≤ 17825800; omega, by show min (0:Int) 1114112 = 0; omega⟩
  | cons c r ih =>
    rw [List.reverse_cons, rv_snoc, pv_snoc]
    obtain ⟨h1, h2, h3⟩ := ih fun x hx => hl x (by rw [List.reverse_cons]; exact List.mem_append_left _ hx)
    have h4 := hl c (by simp)
    have h5 := (dg_ge h c).2
    rw [← h3]
    generalize rv h r.reverse = v at *
    generalize dg h c = d at *
    have hb : bse h = 16 ∨ bse h = 10 := by unfold bse; split <;> simp
    split
    · rename_i hv
      rw [Int.min_eq_left (by omega : v ≤ 1114112)]
      rcases hb with hb | hb <;> rw [hb] at h5 ⊢ <;> omega
    · rename_i hv
      rw [Int.min_eq_right (by omega : (1114112:Int) ≤ v)]
      rcases hb with hb | hb <;> rw [hb] at h5 ⊢ <;> omega
/-- the character of a number -/
def numC (n : Int) : Bs := if n = 0 then fffd else enc (if 128 ≤ n ∧ n ≤ 159 then (cp n.toNat : Nat) else n)
theorem enc_fffd {n : Int} (h : ¬ isChar n) : enc n = fffd := enc_bad n h
theorem numC_bad {n : Int} (h : n = 0 ∨ ¬ isChar n) : numC n = fffd := by
  unfold numC
  split
  · rfl
  · rename_i h0
    rcases h with h | h
    · exact absurd h h0
    · rw [if_neg (by unfold isChar at h; omega)]; exact enc_fffd h
theorem numC_cp {n : Nat} (h1 : 128 ≤ n) (h2 : n ≤ 159) : numC n = enc (cp n : Nat) := by
  unfold numC
  rw [if_neg (by omega), if_pos (by omega), Int.toNat_natCast]
theorem numC_plain {n : Int} (h0 : n ≠ 0) (h : n < 128 ∨ 159 < n) : numC n = enc n := by
  unfold numC; rw [if_neg h0, if_neg (by omega)]
theorem numC_rv (h : Bool) (l : Bs) (hl : ∀ c ∈ l, 0 ≤ dg h c) : numC (rv h l) = numC (pv h l) := by
  obtain ⟨h1, h2, h3⟩ := rv_bd h l hl
  by_cases hv : rv h l ≤ 1114112
  · rw [← h3, Int.min_eq_left hv]
  · rw [← h3, Int.min_eq_right (by omega), numC_bad (.inr (by unfold isChar; omega)), numC_bad (.inr (by unfold isChar; omega))]

/-! ## references -/
def isX (c : UInt8) : Bool := decide (c.toNat = 120) || decide (c.toNat = 88)
def hexB (r : Bs) : Bool := match r with | c :: _ => isX c | [] => false
def nbg (r : Bs) : Nat := if hexB r = true then 1 else 0
/-- of what stands behind the number's sign: its bytes, of which so many are digits -/
def ndig (r : Bs) : Bs := digs (hexB r) (r.drop (nbg r))
def tkN (r : Bs) : Bs × Nat := if ndig r = [] then ([], 0) else (numC (pv (hexB r) (ndig r)), 2 + nbg r + (ndig r).length + if (r.drop (nbg r + (ndig r).length)).head? = some 59 then 1 else 0)
def goes (c : UInt8) : Bool := isLet c || (decide (48 ≤ c.toNat) && decide (c.toNat ≤ 57)) || decide (c.toNat = 61)
/-- a name that does not stand, as a byte goes on -/
def nogo (q : Bool) (r : Bs) (n : Nat) : Bool := q && decide (r[n - 1]? ≠ some 59) && (match r[n]? with | some c => goes c | none => false)
def tk (q : Bool) (l : Bs) : Bs × Nat := match l with
  | 38 :: r => if r.head? = some 35 then tkN (r.drop 1) else if (fnd r).2 = 0 ∨ nogo q r (fnd r).2 = true then ([], 0) else ((fnd r).1, (fnd r).2 + 1)
  | _ => ([], 0)
def more (l : Bs) : Bool := match l with
  | 38 :: r => if r.head? = some 35 then decide (nbg (r.drop 1) + (ndig (r.drop 1)).length = (r.drop 1).length) else moreN r
  | _ => false

/-! ## texts -/
def rep (f : Bs → Bs × Nat) : Nat → Bs → Bs
  | _, [] => []
  | k + 1, _ :: r => rep f k r
  | 0, c :: r => if (f (c :: r)).2 = 0 then c :: rep f 0 r else (f (c :: r)).1 ++ rep f ((f (c :: r)).2 - 1) r
theorem rep_nil (f : Bs → Bs × Nat) (k : Nat) : rep f k [] = [] := by cases k <;> rfl
theorem rep_drop (f : Bs → Bs × Nat) : ∀ k l, rep f k l = rep f 0 (l.drop k)
  | 0, l => rfl
  | k + 1, [] => rfl
  | k + 1, c :: r => by show rep f k r = _; rw [rep_drop f k r]; rfl
theorem rep_miss {f : Bs → Bs × Nat} {c : UInt8} {r : Bs} (h : (f (c :: r)).2 = 0) : rep f 0 (c :: r) = c :: rep f 0 r := by rw [rep, if_pos h]
theorem rep_hit {f : Bs → Bs × Nat} {l : Bs} (hl : l ≠ []) (h : (f l).2 ≠ 0) : rep f 0 l = (f l).1 ++ rep f 0 (l.drop (f l).2) := by
  cases l with
  | nil => exact absurd rfl hl
  | cons c r =>
    rw [rep, if_neg h, rep_drop]
    congr 2
    obtain ⟨n, hn⟩ := Nat.exists_eq_succ_of_ne_zero h
    rw [hn]; rfl
theorem rep_pre {f : Bs → Bs × Nat} (l : Bs) : ∀ p : Bs, (∀ i, i < p.length → (f ((p ++ l).drop i)).2 = 0) → rep f 0 (p ++ l) = p ++ rep f 0 l
  | [], _ => rfl
  | c :: p, h => by
    have h0 := h 0 (by simp)
    rw [List.cons_append, rep_miss (by simpa using h0), rep_pre l p fun i hi => by simpa using h (i + 1) (by simp; omega)]
    rfl
def alls (q : Bool) (l : Bs) : Bs := rep (tk q) 0 l
def sgn (q : Bool) (l : Bs) : Bs × Nat := match l with
  | 38 :: _ => ([38, 97, 109, 112, 59], 1)
  | 60 :: _ => ([38, 108, 116, 59], 1)
  | 62 :: _ => ([38, 103, 116, 59], 1)
  | 34 :: _ => if q = true then ([38, 113, 117, 111, 116, 59], 1) else ([], 0)
  | 194 :: r => if r.head? = some 160 then ([38, 110, 98, 115, 112, 59], 2) else ([], 0)
  | _ => ([], 0)
def esc (q : Bool) (l : Bs) : Bs := rep (sgn q) 0 l
theorem tk_amp {q : Bool} {c : UInt8} {r : Bs} (h : c ≠ 38) : tk q (c :: r) = ([], 0) := by
  unfold tk; split
  · rename_i r' he; cases he; exact absurd rfl h
  · rfl
theorem alls_pre (q : Bool) (p l : Bs) (h : ∀ c ∈ p, c ≠ 38) : alls q (p ++ l) = p ++ alls q l := by
  apply rep_pre
  intro i hi
  rw [List.drop_append_of_le_length (by omega), List.drop_eq_getElem_cons hi, List.cons_append, tk_amp (h _ (List.getElem_mem hi))]
theorem alls_none (q : Bool) (p : Bs) (h : ∀ c ∈ p, c ≠ 38) : alls q p = p := by
  have := alls_pre q p [] h
  rw [List.append_nil] at this
  rw [this]; exact List.append_nil p
theorem esc_len (q : Bool) (l : Bs) : (esc q l).length ≤ 6 * l.length := by
  have hs : ∀ m : Bs, (sgn q m).1.length ≤ 6 * (sgn q m).2 := fun m => by
    unfold sgn; split <;> (try split) <;> simp
  have : ∀ k (m : Bs), (rep (sgn q) k m).length + 6 * min k m.length ≤ 6 * m.length := by
    intro k m
    induction m generalizing k with
    | nil => rw [rep_nil]; simp
    | cons c r ih =>
      cases k with
      | succ k =>
        have := ih k
        show (rep (sgn q) k r).length + 6 * min (k + 1) (r.length + 1) ≤ 6 * (r.length + 1)
        omega
      | zero =>
        rw [rep]
        split
        · have := ih 0
          simp only [List.length_cons]; omega
        · rename_i h0
          have h1 := ih ((sgn q (c :: r)).2 - 1)
          have h2 := hs (c :: r)
          have h3 : (sgn q (c :: r)).2 ≤ (c :: r).length := by
            unfold sgn; split <;> (try split) <;> first | (simp; done) | skip
            rename_i r' heq he; cases r' with
            | nil => simp at he
            | cons a b => cases heq; simp
          rw [List.length_append]
          simp only [List.length_cons] at h3 ⊢
          omega
  have := this 0 l
  unfold esc; omega

end Go.Proofs.Ytpepoccoljmmjaa
