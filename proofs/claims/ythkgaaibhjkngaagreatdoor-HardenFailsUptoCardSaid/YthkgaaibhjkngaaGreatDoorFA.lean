/- Fields: plain lists. -/
import Derived.Test.YthkgaaibhjkngaaGreatDoorP
import Derived.Test.YthkgaaibhjkngaaGreatDoorN
set_option linter.unusedVariables false
namespace Go.Proofs.YthkgaaibhjkngaaGreatDoor
open Go.RowKit

/-- are two names alike but for letters' size? -/
def sameB (a b : ByteArray) : Bool := decide (a.data.toList.map lwr = b.data.toList.map lwr)
def okV (v : ByteArray) : Bool := v.data.toList.all qb && decide (trim v.data.toList = v.data.toList)
def okN (n : ByteArray) : Bool := isTok n.data.toList
/-- the first field that may not be, from the i-th on -/
def rgtF : AL → Nat → Nat × Nat
  | [], _ => (0, 0)
  | p :: r, i => if okN p.1 = true then (if okV p.2 = true then rgtF r (i + 1) else (i, 8)) else (i, 7)
def rgt (l : AL) : Nat × Nat := if 32 < l.length then (32, 18) else rgtF l 0
theorem drop_cons {α : Type} (l : List α) (k : Nat) (h : k < l.length) : l.drop k = l[k] :: l.drop (k + 1) := List.drop_eq_getElem_cons h
theorem rgtF_end (l : AL) (k i : Nat) (h : l.length ≤ k) : rgtF (l.drop k) i = (0, 0) := by rw [List.drop_eq_nil_iff.2 h]; rfl
theorem rgtF_name (l : AL) (k : Nat) (h : k < l.length) (h1 : okN l[k].1 = false) : rgtF (l.drop k) k = (k, 7) := by
  rw [drop_cons l k h]; simp [rgtF, h1]
theorem rgtF_value (l : AL) (k : Nat) (h : k < l.length) (h1 : okN l[k].1 = true) (h2 : okV l[k].2 = false) : rgtF (l.drop k) k = (k, 8) := by
  rw [drop_cons l k h]; simp [rgtF, h1, h2]
theorem rgtF_next (l : AL) (k : Nat) (h : k < l.length) (h1 : okN l[k].1 = true) (h2 : okV l[k].2 = true) : rgtF (l.drop k) k = rgtF (l.drop (k + 1)) (k + 1) := by
  rw [drop_cons l k h]; simp [rgtF, h1, h2]

/-- a field's line -/
def oneF (p : ByteArray × ByteArray) : List UInt8 := p.1.data.toList ++ [58] ++ (if p.2.size = 0 then [] else [32] ++ p.2.data.toList) ++ [13, 10]
def txtF (l : AL) : List UInt8 := l.flatMap oneF
def fText (l : AL) : ByteArray := if (rgt l).2 = 0 then mk (txtF l) else ⟨#[]⟩
theorem txtF_take (l : AL) (k : Nat) (hk : k < l.length) : txtF (l.take (k + 1)) = txtF (l.take k) ++ oneF l[k] := by
  unfold txtF
  rw [List.take_succ_eq_append_getElem hk, List.flatMap_append]; simp
/-- how much a list of fields weighs -/
def asz : AL → Nat
  | [] => 0
  | p :: r => p.1.size + p.2.size + 4 + asz r
theorem asz_app (a b : AL) : asz (a ++ b) = asz a + asz b := by
  induction a with
  | nil => simp [asz]
  | cons p r ih => simp only [List.cons_append, asz, ih]; omega
theorem asz_take (l : AL) (k : Nat) (hk : k < l.length) : asz (l.take k) + (l[k].1.size + l[k].2.size + 4) ≤ asz l := by
  have e : asz l = asz (l.take k) + asz (l.drop k) := by rw [← asz_app, List.take_append_drop]
  rw [drop_cons l k hk] at e
  simp only [asz] at e; omega
theorem asz_len (l : AL) : 4 * l.length ≤ asz l := by
  induction l with
  | nil => simp [asz]
  | cons p r ih => simp only [asz, List.length_cons]; omega
theorem asz_at (l : AL) (k : Nat) (hk : k < l.length) : l[k].1.size + l[k].2.size + 4 ≤ asz l := by have := asz_take l k hk; omega
theorem oneF_len (p : ByteArray × ByteArray) : (oneF p).length ≤ p.1.size + p.2.size + 4 := by
  unfold oneF
  split <;> simp only [List.length_append, List.length_cons, List.length_nil, len_data] <;> omega
theorem txtF_len (l : AL) : (txtF l).length ≤ asz l := by
  induction l with
  | nil => simp [txtF]
  | cons p r ih =>
    have := oneF_len p
    have e : txtF (p :: r) = oneF p ++ txtF r := by simp [txtF]
    rw [e, List.length_append]; simp only [asz]; omega
theorem asz_take_le (l : AL) (k : Nat) : asz (l.take k) ≤ asz l := by
  have e : asz l = asz (l.take k) + asz (l.drop k) := by rw [← asz_app, List.take_append_drop]
  omega

/-- the values of a name -/
def allF (l : AL) (n : ByteArray) : List ByteArray := (l.filter fun p => sameB p.1 n).map (·.2)
def inF (n : ByteArray) (ns : List ByteArray) : Bool := ns.any fun m => sameB n m
def woF (l : AL) (ns : List ByteArray) : AL := l.filter fun p => !inF p.1 ns
theorem allF_take (l : AL) (n : ByteArray) (k : Nat) (hk : k < l.length) : allF (l.take (k + 1)) n = allF (l.take k) n ++ (if sameB l[k].1 n = true then [l[k].2] else []) := by
  unfold allF
  rw [List.take_succ_eq_append_getElem hk, List.filter_append, List.map_append]
  congr 1
  cases h : sameB l[k].1 n <;> simp [h]
theorem woF_take (l : AL) (ns : List ByteArray) (k : Nat) (hk : k < l.length) : woF (l.take (k + 1)) ns = woF (l.take k) ns ++ (if inF l[k].1 ns = true then [] else [l[k]]) := by
  unfold woF
  rw [List.take_succ_eq_append_getElem hk, List.filter_append]
  congr 1
  cases h : inF l[k].1 ns <;> simp [h]
theorem allF_len (l : AL) (n : ByteArray) : (allF l n).length ≤ l.length := by unfold allF; rw [List.length_map]; exact List.length_filter_le _ _
theorem woF_len (l : AL) (ns : List ByteArray) : (woF l ns).length ≤ l.length := List.length_filter_le _ _
theorem inF_take (n : ByteArray) (ns : List ByteArray) (k : Nat) (hk : k < ns.length) : inF n (ns.take (k + 1)) = (inF n (ns.take k) || sameB n ns[k]) := by
  unfold inF
  rw [List.take_succ_eq_append_getElem hk, List.any_append]; simp
theorem inF_yes (n : ByteArray) (ns : List ByteArray) (k : Nat) (hk : k < ns.length) (h : sameB n ns[k] = true) : inF n ns = true := by
  unfold inF; rw [List.any_eq_true]; exact ⟨_, List.getElem_mem hk, h⟩
theorem inF_no (n : ByteArray) (ns : List ByteArray) (h : ∀ j (hj : j < ns.length), sameB n ns[j] = false) : inF n ns = false := by
  unfold inF; rw [List.any_eq_false]; intro x hx; obtain ⟨j, hj, rfl⟩ := List.getElem_of_mem hx; rw [h j hj]; simp
/-- the members of all lists -/
def memF : List ByteArray → Option (List (List UInt8))
  | [] => some []
  | v :: r => match lst v.data.toList with
    | none => none
    | some m => (memF r).map (m ++ ·)
theorem memF_end (vs : List ByteArray) (k : Nat) (h : vs.length ≤ k) : memF (vs.drop k) = some [] := by rw [List.drop_eq_nil_iff.2 h]; rfl
theorem memF_bad (vs : List ByteArray) (k : Nat) (h : k < vs.length) (hl : lst vs[k].data.toList = none) : memF (vs.drop k) = none := by
  rw [drop_cons vs k h]; simp only [memF, hl]
theorem memF_next (vs : List ByteArray) (k : Nat) (h : k < vs.length) (m : List (List UInt8)) (hl : lst vs[k].data.toList = some m) : memF (vs.drop k) = (memF (vs.drop (k + 1))).map (m ++ ·) := by
  rw [drop_cons vs k h]; simp only [memF, hl]
/-- how much a list of texts weighs -/
def bsz : List ByteArray → Nat
  | [] => 0
  | p :: r => p.size + 1 + bsz r
theorem bsz_app (a b : List ByteArray) : bsz (a ++ b) = bsz a + bsz b := by
  induction a with
  | nil => simp [bsz]
  | cons p r ih => simp only [List.cons_append, bsz, ih]; omega
theorem bsz_take (l : List ByteArray) (k : Nat) (hk : k < l.length) : bsz (l.take k) + (l[k].size + 1) ≤ bsz l := by
  have e : bsz l = bsz (l.take k) + bsz (l.drop k) := by rw [← bsz_app, List.take_append_drop]
  rw [drop_cons l k hk] at e
  simp only [bsz] at e; omega
theorem bsz_take_le (l : List ByteArray) (k : Nat) : bsz (l.take k) ≤ bsz l := by
  have e : bsz l = bsz (l.take k) + bsz (l.drop k) := by rw [← bsz_app, List.take_append_drop]
  omega
theorem bsz_at (l : List ByteArray) (k : Nat) (hk : k < l.length) : l[k].size + 1 ≤ bsz l := by have := bsz_take l k hk; omega
theorem bsz_len (l : List ByteArray) : l.length ≤ bsz l := by
  induction l with
  | nil => simp [bsz]
  | cons p r ih => simp only [bsz, List.length_cons]; omega
theorem allF_bsz (l : AL) (n : ByteArray) : bsz (allF l n) ≤ asz l := by
  induction l with
  | nil => simp [allF, bsz]
  | cons p r ih =>
    unfold allF at ih ⊢
    rw [List.filter_cons]
    split
    · simp only [List.map_cons, bsz, asz]; omega
    · simp only [asz]; omega
theorem woF_asz (l : AL) (ns : List ByteArray) : asz (woF l ns) ≤ asz l := by
  induction l with
  | nil => simp [woF, asz]
  | cons p r ih =>
    unfold woF at ih ⊢
    rw [List.filter_cons]
    split
    · simp only [asz]; omega
    · simp only [asz]; omega
theorem memF_len (vs : List ByteArray) : ∀ m, memF vs = some m → m.length ≤ bsz vs := by
  induction vs with
  | nil => intro m h; simp only [memF, Option.some.injEq] at h; subst h; simp
  | cons v r ih =>
    intro m h
    simp only [memF] at h
    cases hl : lst v.data.toList with
    | none => rw [hl] at h; simp at h
    | some a =>
      rw [hl] at h
      simp only [Option.map_eq_some_iff] at h
      obtain ⟨b, hb, rfl⟩ := h
      have h1 := ih b hb
      have h2 := lst_len _ _ hl
      rw [len_data] at h2
      simp only [List.length_append, bsz]; omega
/-- where a list is cut stands a comma -/
theorem cutF_at : ∀ (f : Nat) (l : List UInt8) (i n : Nat), l.length ≤ f → cutF f l i = some n → n < i + l.length → (l.getD (n - i) 0).toNat = 44
  | 0, l, i, n, hf, h, hn => by have : l = [] := List.eq_nil_of_length_eq_zero (by omega); subst this; simp only [cutF, Option.some.injEq] at h; simp at hn; omega
  | f + 1, [], i, n, _, h, hn => by simp only [cutF, Option.some.injEq] at h; simp at hn; omega
  | f + 1, c :: r, i, n, hf, h, hn => by
    simp only [List.length_cons] at hf hn
    simp only [cutF] at h
    split at h
    · rename_i hc
      simp only [Option.some.injEq] at h
      subst h
      simpa using hc
    · split at h
      · cases hu : unq (c :: r) with
        | none => rw [hu] at h; simp at h
        | some x =>
          rw [hu] at h
          simp only at h
          have hx := unq_len _ _ hu
          simp only [List.length_cons] at hx
          have hlen : ((c :: r).drop x.2).length = r.length + 1 - x.2 := by simp
          have hle := (cutF_le _ _ _ _ h).1
          have := cutF_at f _ (i + x.2) n (by omega) h (by omega)
          rw [List.getD_eq_getElem?_getD, List.getElem?_drop] at this
          rw [List.getD_eq_getElem?_getD]
          rw [show x.2 + (n - (i + x.2)) = n - i by omega] at this
          exact this
      · have hle := (cutF_le _ _ _ _ h).1
        have := cutF_at f r (i + 1) n (by omega) h (by omega)
        rw [List.getD_eq_getElem?_getD] at this ⊢
        rw [show n - i = (n - (i + 1)) + 1 by omega, List.getElem?_cons_succ]
        exact this
theorem lst_comma_app : ∀ (k : Nat) (v : List UInt8) (rest : List UInt8) (m : List (List UInt8)), v.length ≤ k → lst v = some m → lst (v ++ 44 :: rest) = (lst rest).map (m ++ ·)
  | k, v, rest, m, hk, h => by
    by_cases hv : v = []
    · subst hv
      rw [lst_nil, Option.some.injEq] at h
      subst h
      have := lst_comma [] rest (by first | exact Atoms.nil | exact .nil | constructor)
      rw [this]; simp only [List.nil_append]
      rw [show trim [] = [] from rfl]
      simp
    · obtain ⟨s1, s2⟩ := lst_step v hv
      cases hc : cut v with
      | none => rw [s1 hc] at h; cases h
      | some n =>
        have hle := cut_le v n hc
        have hat : Atoms (v.take n) := by have := cut_atoms v.length v 0 n (Nat.le_refl _) hc; simpa using this
        by_cases hn : n < v.length
        · have h44 : (v.getD n 0).toNat = 44 := by have := cutF_at v.length v 0 n (Nat.le_refl _) hc (by omega); simpa using this
          have he : v[n] = 44 := by rw [getD_at' hn] at h44; exact UInt8.toNat_inj.1 h44
          have hsp : v = v.take n ++ 44 :: v.drop (n + 1) := by
            rw [← he, ← List.drop_eq_getElem_cons hn, List.take_append_drop]
          cases k with
          | zero => omega
          | succ k =>
          rw [s2 n hc] at h
          cases hr : lst (v.drop (n + 1)) with
          | none => rw [hr] at h; simp at h
          | some mr =>
            rw [hr] at h
            have ih := lst_comma_app k (v.drop (n + 1)) rest mr (by rw [List.length_drop]; omega) hr
            have e1 : v ++ 44 :: rest = v.take n ++ 44 :: (v.drop (n + 1) ++ 44 :: rest) := by
              rw [← List.cons_append, ← List.append_assoc, ← hsp]
            rw [e1, lst_comma _ _ hat, ih]
            simp only [Option.map_some, Option.some.injEq] at h
            subst h
            cases lst rest with
            | none => rfl
            | some y => simp only [Option.map_some]; split <;> simp
        · have hnl : n = v.length := by omega
          rw [hnl, List.take_length] at hat
          rw [lst_last v hat hv, Option.some.injEq] at h
          subst h
          rw [lst_comma _ _ hat]
          cases lst rest with
          | none => rfl
          | some y => simp only [Option.map_some]; split <;> simp
/-- values joined by commas -/
def joinF : List ByteArray → List UInt8
  | [] => []
  | [v] => v.data.toList
  | v :: r => v.data.toList ++ 44 :: joinF r
theorem joinF_cons (v : ByteArray) (r : List ByteArray) (h : r ≠ []) : joinF (v :: r) = v.data.toList ++ 44 :: joinF r := by cases r; contradiction; rfl
theorem joinF_mem : ∀ (vs : List ByteArray) (m : List (List UInt8)), memF vs = some m → lst (joinF vs) = some m
  | [], m, h => by simp only [memF] at h; rw [← h]; rfl
  | [v], m, h => by
    simp only [memF] at h
    cases hl : lst v.data.toList with
    | none => rw [hl] at h; simp at h
    | some a => rw [hl] at h; simp only [Option.map_some, List.append_nil] at h; show lst v.data.toList = _; rw [hl, h]
  | v :: u :: r, m, h => by
    rw [joinF_cons _ _ (by simp)]
    simp only [memF] at h
    cases hl : lst v.data.toList with
    | none => rw [hl] at h; simp at h
    | some a =>
      rw [hl] at h
      simp only [Option.map_eq_some_iff] at h
      obtain ⟨b, hb, rfl⟩ := h
      have ih := joinF_mem (u :: r) b (by simpa only [memF] using hb)
      rw [lst_comma_app _ _ _ a (Nat.le_refl _) hl, ih]; rfl
theorem joinF_snoc (vs : List ByteArray) (v : ByteArray) : joinF (vs ++ [v]) = joinF vs ++ (if vs = [] then [] else [44]) ++ v.data.toList := by
  induction vs with
  | nil => simp [joinF]
  | cons u r ih =>
    rw [List.cons_append, joinF_cons _ _ (by simp), ih]
    by_cases hr : r = []
    · subst hr; simp [joinF]
    · rw [joinF_cons _ _ hr]; simp [hr]
theorem joinF_take (vs : List ByteArray) (k : Nat) (hk : k < vs.length) : joinF (vs.take (k + 1)) = joinF (vs.take k) ++ (if k = 0 then [] else [44]) ++ vs[k].data.toList := by
  rw [List.take_succ_eq_append_getElem hk, joinF_snoc]
  congr 2
  by_cases h : k = 0
  · subst h; simp
  · rw [if_neg h, if_neg]; intro e; rw [List.take_eq_nil_iff] at e; rcases e with e | e; exact h e; rw [e] at hk; simp at hk
theorem joinF_len (vs : List ByteArray) : (joinF vs).length ≤ bsz vs := by
  induction vs with
  | nil => simp [joinF, bsz]
  | cons v r ih =>
    by_cases hr : r = []
    · subst hr; simp only [joinF, bsz, len_data]; omega
    · rw [joinF_cons _ _ hr]; simp only [List.length_append, List.length_cons, bsz, len_data]; omega
end Go.Proofs.YthkgaaibhjkngaaGreatDoor
