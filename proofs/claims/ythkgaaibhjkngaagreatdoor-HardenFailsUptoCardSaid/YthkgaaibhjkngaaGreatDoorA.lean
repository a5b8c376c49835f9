/- Words, quoted strings and lists: plain lists. -/
import Derived.Lib.SlTrimSet
set_option linter.unusedVariables false
namespace Go.Proofs.YthkgaaibhjkngaaGreatDoor

def marks : List UInt8 := [33, 35, 36, 37, 38, 39, 42, 43, 45, 46, 94, 95, 96, 124, 126]
/-- may a byte stand in a token? -/
def tch (c : UInt8) : Bool := (decide (97 ≤ c.toNat) && decide (c.toNat ≤ 122)) || (decide (65 ≤ c.toNat) && decide (c.toNat ≤ 90)) || (decide (48 ≤ c.toNat) && decide (c.toNat ≤ 57)) || marks.contains c
/-- how many bytes at the beginning may stand in a token -/
def tok (l : List UInt8) : Nat := (l.takeWhile tch).length
theorem tok_le (l : List UInt8) : tok l ≤ l.length := (List.takeWhile_sublist tch).length_le
theorem tok_cons (c : UInt8) (r : List UInt8) : tok (c :: r) = if tch c = true then tok r + 1 else 0 := by
  unfold tok; rw [List.takeWhile_cons]; split <;> simp
theorem tok_at (l : List UInt8) (k : Nat) (hk : k ≤ l.length) (h : ∀ j (hj : j < l.length), j < k → tch l[j] = true) (h2 : ∀ hj : k < l.length, tch l[k] = false) : tok l = k := by
  induction l generalizing k with
  | nil => simp at hk; subst hk; rfl
  | cons c r ih =>
    rw [tok_cons]
    cases k with
    | zero => have := h2 (by simp); simp at this; simp [this]
    | succ k =>
      have h0 := h 0 (by simp) (by omega)
      simp only [List.getElem_cons_zero] at h0
      rw [if_pos h0, ih k (by simpa using hk) (fun j hj hlt => by have := h (j + 1) (by simpa using hj) (by omega); simpa using this) (fun hj => by have := h2 (by simpa using hj); simpa using this)]
def isTok (l : List UInt8) : Bool := !l.isEmpty && decide (tok l = l.length)

/-- a large letter made small -/
def lwr (c : UInt8) : UInt8 := if 65 ≤ c.toNat ∧ c.toNat ≤ 90 then UInt8.ofNat (c.toNat + 32) else c

def blanks : List UInt8 := [32, 9]
def trim (l : List UInt8) : List UInt8 := Lib.trimS l blanks
def skip (l : List UInt8) : List UInt8 := Lib.trimLeftS l blanks

/-- may a byte stand in a quoted string? -/
def qb (c : UInt8) : Bool := decide (c.toNat = 9) || (decide (32 ≤ c.toNat) && !decide (c.toNat = 127))
def esc (c : UInt8) : List UInt8 := if c.toNat = 34 ∨ c.toNat = 92 then [92, c] else [c]
def quote (l : List UInt8) : List UInt8 := if l.all qb = true then 34 :: (l.flatMap esc ++ [34]) else []

/-- a quoted string behind its first quote: the text so far, how many bytes so far -/
def unqR : List UInt8 → List UInt8 → Nat → Option (List UInt8 × Nat)
  | [], _, _ => none
  | c :: r, acc, n =>
    if c.toNat = 34 then some (acc, n + 1)
    else if c.toNat = 92 then (match r with
      | [] => none
      | d :: r' => if qb d = true then unqR r' (acc ++ [d]) (n + 2) else none)
    else if qb c = true then unqR r (acc ++ [c]) (n + 1) else none
def unq (l : List UInt8) : Option (List UInt8 × Nat) :=
  match l with
  | c :: r => if c.toNat = 34 then unqR r [] 1 else none
  | [] => none

theorem unqR_nil (acc : List UInt8) (n : Nat) : unqR [] acc n = none := by simp [unqR]
theorem unqR_end (c : UInt8) (r acc : List UInt8) (n : Nat) (h : c.toNat = 34) : unqR (c :: r) acc n = some (acc, n + 1) := by
  cases r <;> simp [unqR, h]
theorem unqR_one (c : UInt8) (r acc : List UInt8) (n : Nat) (h : c.toNat ≠ 34) (h2 : c.toNat ≠ 92) : unqR (c :: r) acc n = if qb c = true then unqR r (acc ++ [c]) (n + 1) else none := by
  cases r <;> simp [unqR, h, h2]
theorem unqR_esc1 (c d : UInt8) (r acc : List UInt8) (n : Nat) (h2 : c.toNat = 92) : unqR (c :: d :: r) acc n = if qb d = true then unqR r (acc ++ [d]) (n + 2) else none := by
  simp [unqR, h2]
theorem unqR_esc0 (c : UInt8) (acc : List UInt8) (n : Nat) (h2 : c.toNat = 92) : unqR [c] acc n = none := by
  simp [unqR, h2]
theorem unqR_len : ∀ (l acc : List UInt8) (n : Nat) (x : List UInt8 × Nat), unqR l acc n = some x → n + 1 ≤ x.2 ∧ x.2 ≤ n + l.length ∧ x.1.length ≤ acc.length + l.length
  | [], _, _, _, h => by simp [unqR] at h
  | [c], acc, n, x, h => by
    simp only [unqR] at h
    split at h
    · simp only [Option.some.injEq] at h; subst h; simp
    · split at h
      · simp at h
      · split at h <;> simp at h
  | c :: d :: r', acc, n, x, h => by
    simp only [unqR] at h
    split at h
    · simp only [Option.some.injEq] at h; subst h; simp
    · split at h
      · split at h
        · have := unqR_len r' _ _ x h
          simp only [List.length_append, List.length_cons, List.length_nil] at this ⊢; omega
        · simp at h
      · split at h
        · have := unqR_len (d :: r') _ _ x (by simpa only [unqR] using h)
          simp only [List.length_append, List.length_cons, List.length_nil] at this ⊢; omega
        · simp at h
theorem unq_len (l : List UInt8) (x : List UInt8 × Nat) (h : unq l = some x) : 2 ≤ x.2 ∧ x.2 ≤ l.length ∧ x.1.length ≤ l.length := by
  unfold unq at h
  cases l with
  | nil => simp at h
  | cons c r =>
    simp only at h
    split at h
    · have := unqR_len r [] 1 x h
      simp only [List.length_cons, List.length_nil] at this ⊢; omega
    · simp at h

/-- what is quoted, read back -/
theorem unqR_esc (l r acc : List UInt8) (n : Nat) (h : l.all qb = true) : unqR (l.flatMap esc ++ r) acc n = unqR r (acc ++ l) (n + (l.flatMap esc).length) := by
  induction l generalizing acc n with
  | nil => simp
  | cons c l ih =>
    simp only [List.all_cons, Bool.and_eq_true] at h
    simp only [List.flatMap_cons, List.append_assoc]
    by_cases hc : c.toNat = 34 ∨ c.toNat = 92
    · have he : esc c = [92, c] := by unfold esc; rw [if_pos hc]
      rw [he]
      show unqR (92 :: c :: (l.flatMap esc ++ r)) acc n = _
      have e1 : unqR (92 :: c :: (l.flatMap esc ++ r)) acc n = unqR (l.flatMap esc ++ r) (acc ++ [c]) (n + 2) := by
        rw [unqR_esc1 _ _ _ _ _ (by decide), if_pos h.1]
      rw [e1, ih _ _ h.2]
      congr 1
      · simp
      · simp; omega
    · have he : esc c = [c] := by unfold esc; rw [if_neg hc]
      rw [he]
      show unqR (c :: (l.flatMap esc ++ r)) acc n = _
      have e1 : unqR (c :: (l.flatMap esc ++ r)) acc n = unqR (l.flatMap esc ++ r) (acc ++ [c]) (n + 1) := by
        rw [unqR_one _ _ _ _ (by omega) (by omega), if_pos h.1]
      rw [e1, ih _ _ h.2]
      congr 1
      · simp
      · simp; omega
theorem unq_quote (l r : List UInt8) (h : l.all qb = true) : unq (quote l ++ r) = some (l, (quote l).length) := by
  unfold quote
  rw [if_pos h]
  show unq (34 :: (l.flatMap esc ++ [34] ++ r)) = _
  unfold unq
  simp only
  rw [if_pos (by decide), List.append_assoc, unqR_esc _ _ _ _ h]
  show unqR (34 :: r) _ _ = _
  rw [unqR_end _ _ _ _ (by decide)]
  simp only [List.nil_append, List.length_cons, List.length_append, List.length_nil, Option.some.injEq, Prod.mk.injEq, true_and]
  omega
theorem unq_cut (l : List UInt8) (h : l.all qb = true) : unq ((quote l).take ((quote l).length - 1)) = none := by
  unfold quote
  rw [if_pos h]
  have e : (34 :: (l.flatMap esc ++ [34]) : List UInt8).take ((34 :: (l.flatMap esc ++ [34]) : List UInt8).length - 1) = 34 :: l.flatMap esc := by
    rw [show (34 :: (l.flatMap esc ++ [34]) : List UInt8) = (34 :: l.flatMap esc) ++ [34] by simp]
    rw [show ((34 :: l.flatMap esc) ++ [34] : List UInt8).length - 1 = (34 :: l.flatMap esc).length by rw [List.length_append]; simp only [List.length_cons, List.length_nil]; omega]
    exact List.take_left
  rw [e]
  unfold unq
  simp only
  rw [if_pos (by decide)]
  have := unqR_esc l [] [] 1 h
  rw [List.append_nil] at this
  rw [this]
  simp [unqR]

/-- how many bytes stand ahead of the first comma that cuts -/
def cutF : Nat → List UInt8 → Nat → Option Nat
  | 0, _, i => some i
  | f + 1, l, i =>
    match l with
    | [] => some i
    | c :: r =>
      if c.toNat = 44 then some i
      else if c.toNat = 34 then (match unq (c :: r) with
        | none => none
        | some x => cutF f ((c :: r).drop x.2) (i + x.2))
      else cutF f r (i + 1)
def cut (l : List UInt8) : Option Nat := cutF l.length l 0
theorem cutF_le : ∀ (f : Nat) (l : List UInt8) (i n : Nat), cutF f l i = some n → i ≤ n ∧ n ≤ i + l.length
  | 0, l, i, n, h => by simp only [cutF, Option.some.injEq] at h; omega
  | f + 1, [], i, n, h => by simp only [cutF, Option.some.injEq] at h; simp; omega
  | f + 1, c :: r, i, n, h => by
    simp only [cutF] at h
    split at h
    · simp only [Option.some.injEq] at h; simp; omega
    · split at h
      · cases hu : unq (c :: r) with
        | none => rw [hu] at h; simp at h
        | some x =>
          rw [hu] at h
          have hx := unq_len _ x hu
          have := cutF_le f _ _ n h
          simp only [List.length_drop, List.length_cons] at this hx ⊢
          omega
      · have := cutF_le f r _ n h
        simp only [List.length_cons]; omega
theorem cut_le (l : List UInt8) (n : Nat) (h : cut l = some n) : n ≤ l.length := by have := cutF_le _ _ _ _ h; omega

/-- the members of a list -/
def lstF : Nat → List UInt8 → Option (List (List UInt8))
  | 0, _ => some []
  | f + 1, l => if l = [] then some [] else match cut l with
    | none => none
    | some n => (lstF f (l.drop (n + 1))).map fun m => if trim (l.take n) = [] then m else trim (l.take n) :: m
def lst (l : List UInt8) : Option (List (List UInt8)) := lstF l.length l
end Go.Proofs.YthkgaaibhjkngaaGreatDoor
