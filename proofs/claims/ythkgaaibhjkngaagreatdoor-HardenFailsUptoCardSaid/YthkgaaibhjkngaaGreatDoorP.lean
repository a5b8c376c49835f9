/- Members joined by commas: plain lists. -/
import Derived.Test.YthkgaaibhjkngaaGreatDoorZ
set_option linter.unusedVariables false
namespace Go.Proofs.YthkgaaibhjkngaaGreatDoor

theorem u8_34 {c : UInt8} (h : c.toNat = 34) : c = 34 := UInt8.toNat_inj.1 h
theorem unqR_split (r acc : List UInt8) (n : Nat) (t : List UInt8) (k : Nat) (h : unqR r acc n = some (t, k)) : ∃ a b, r = a ++ 34 :: b ∧ k = n + a.length + 1 ∧ ∀ r', unqR (a ++ 34 :: r') acc n = some (t, k) := by
  match r with
  | [] => rw [unqR_nil] at h; cases h
  | c :: r =>
    by_cases h1 : c.toNat = 34
    · rw [unqR_end _ _ _ _ h1] at h
      simp only [Option.some.injEq, Prod.mk.injEq] at h
      obtain ⟨rfl, rfl⟩ := h
      have hc := u8_34 h1
      subst hc
      exact ⟨[], r, rfl, by simp, fun r' => unqR_end _ _ _ _ h1⟩
    · by_cases h2 : c.toNat = 92
      · match r with
        | [] => rw [unqR_esc0 _ _ _ h2] at h; cases h
        | d :: r =>
          rw [unqR_esc1 _ _ _ _ _ h2] at h
          by_cases hq : qb d = true
          · rw [if_pos hq] at h
            obtain ⟨a, b, e1, e2, e3⟩ := unqR_split r (acc ++ [d]) (n + 2) t k h
            refine ⟨c :: d :: a, b, by rw [e1]; rfl, by simp only [List.length_cons]; omega, fun r' => ?_⟩
            show unqR (c :: d :: (a ++ 34 :: r')) acc n = _
            rw [unqR_esc1 _ _ _ _ _ h2, if_pos hq]; exact e3 r'
          · rw [if_neg hq] at h; cases h
      · rw [unqR_one _ _ _ _ h1 h2] at h
        by_cases hq : qb c = true
        · rw [if_pos hq] at h
          obtain ⟨a, b, e1, e2, e3⟩ := unqR_split r (acc ++ [c]) (n + 1) t k h
          refine ⟨c :: a, b, by rw [e1]; rfl, by simp only [List.length_cons]; omega, fun r' => ?_⟩
          show unqR (c :: (a ++ 34 :: r')) acc n = _
          rw [unqR_one _ _ _ _ h1 h2, if_pos hq]; exact e3 r'
        · rw [if_neg hq] at h; cases h
termination_by r.length
theorem unq_split (l : List UInt8) (x : List UInt8 × Nat) (h : unq l = some x) : ∃ a b, l = 34 :: (a ++ 34 :: b) ∧ x.2 = a.length + 2 ∧ ∀ r', unq (34 :: (a ++ 34 :: r')) = some x := by
  cases l with
  | nil => cases h
  | cons c r =>
    unfold unq at h
    simp only at h
    split at h
    · rename_i h1
      obtain ⟨t, k⟩ := x
      obtain ⟨a, b, e1, e2, e3⟩ := unqR_split r [] 1 t k h
      have hc := u8_34 h1
      subst hc
      refine ⟨a, b, by rw [e1], by simp only; omega, fun r' => ?_⟩
      unfold unq
      simp only
      rw [if_pos (by decide)]; exact e3 r'
    · cases h

/-- bytes and whole quoted strings, no comma between -/
inductive Atoms : List UInt8 → Prop
  | nil : Atoms []
  | byte (c : UInt8) (m : List UInt8) : c.toNat ≠ 44 → c.toNat ≠ 34 → Atoms m → Atoms (c :: m)
  | quo (a m : List UInt8) (x : List UInt8 × Nat) : x.2 = a.length + 2 → (∀ r', unq (34 :: (a ++ 34 :: r')) = some x) → Atoms m → Atoms (34 :: (a ++ 34 :: m))
theorem Atoms.append {a b : List UInt8} (ha : Atoms a) (hb : Atoms b) : Atoms (a ++ b) := by
  induction ha with
  | nil => exact hb
  | byte c m h1 h2 _ ih => exact Atoms.byte c _ h1 h2 ih
  | quo a m x h1 h2 _ ih =>
    have := Atoms.quo a _ x h1 h2 ih
    simpa using this
theorem atoms_cut {m : List UInt8} (hm : Atoms m) : ∀ (r : List UInt8) (f i : Nat), (m ++ r).length ≤ f → cutF f (m ++ r) i = cutF r.length r (i + m.length) := by
  induction hm with
  | nil => intro r f i h; simp only [List.nil_append] at h ⊢; exact cutF_fuel _ _ _ _ h (Nat.le_refl _)
  | byte c m h1 h2 _ ih =>
    intro r f i h
    simp only [List.cons_append, List.length_cons] at h ⊢
    obtain ⟨f', rfl⟩ : ∃ f', f = f' + 1 := ⟨f - 1, by omega⟩
    simp only [cutF]
    rw [if_neg h1, if_neg h2, ih r f' (i + 1) (by omega)]
    congr 1; omega
  | quo a m x h1 h2 _ ih =>
    intro r f i h
    have e : 34 :: (a ++ 34 :: m) ++ r = 34 :: (a ++ 34 :: (m ++ r)) := by simp
    rw [e] at h ⊢
    obtain ⟨f', rfl⟩ : ∃ f', f = f' + 1 := ⟨f - 1, by simp only [List.length_cons] at h; omega⟩
    simp only [cutF]
    rw [if_neg (by decide), if_pos (by decide), h2 (m ++ r)]
    simp only
    have hd : (34 :: (a ++ 34 :: (m ++ r))).drop x.2 = m ++ r := by
      rw [h1, show (34 :: (a ++ 34 :: (m ++ r)) : List UInt8) = (34 :: (a ++ [34])) ++ (m ++ r) by simp]
      rw [List.drop_append_of_le_length (by simp), List.drop_eq_nil_iff.2 (by simp)]; rfl
    rw [hd, ih r f' _ (by simp only [List.length_cons, List.length_append] at h ⊢; omega)]
    congr 1; rw [h1]; simp only [List.length_cons, List.length_append]; omega
theorem cut_atoms : ∀ (f : Nat) (l : List UInt8) (i n : Nat), l.length ≤ f → cutF f l i = some n → Atoms (l.take (n - i))
  | 0, l, i, n, hl, h => by
    have : l = [] := List.eq_nil_of_length_eq_zero (by omega)
    subst this; simp only [List.take_nil]; exact Atoms.nil
  | f + 1, [], i, n, hl, h => by simp only [List.take_nil]; exact Atoms.nil
  | f + 1, c :: r, i, n, hl, h => by
    simp only [cutF] at h
    split at h
    · simp only [Option.some.injEq] at h; subst h; simp only [Nat.sub_self, List.take_zero]; exact Atoms.nil
    · rename_i h44
      split at h
      · rename_i h34
        cases hu : unq (c :: r) with
        | none => rw [hu] at h; simp at h
        | some x =>
          rw [hu] at h
          simp only at h
          obtain ⟨a, b, e1, e2, e3⟩ := unq_split _ x hu
          rw [e1] at h hl ⊢
          have hd : (34 :: (a ++ 34 :: b) : List UInt8).drop x.2 = b := by
            rw [e2, show (34 :: (a ++ 34 :: b) : List UInt8) = (34 :: (a ++ [34])) ++ b by simp]
            rw [List.drop_append_of_le_length (by simp), List.drop_eq_nil_iff.2 (by simp)]; rfl
          rw [hd] at h
          have hle := cutF_le _ _ _ _ h
          have ih := cut_atoms f b _ n (by simp only [List.length_cons, List.length_append] at hl; omega) h
          have ht : (34 :: (a ++ 34 :: b) : List UInt8).take (n - i) = 34 :: (a ++ 34 :: b.take (n - (i + x.2))) := by
            rw [show (34 :: (a ++ 34 :: b) : List UInt8) = (34 :: (a ++ [34])) ++ b by simp]
            rw [List.take_append, List.take_of_length_le (by simp only [List.length_cons, List.length_append, List.length_nil]; omega)]
            simp only [List.length_cons, List.length_append, List.length_nil, List.cons_append, List.append_assoc, List.nil_append]
            congr 4
            omega
          rw [ht]
          exact Atoms.quo a _ x e2 e3 ih
      · rename_i h34
        have hle := cutF_le _ _ _ _ h
        have ih := cut_atoms f r _ n (by simp only [List.length_cons] at hl; omega) h
        obtain ⟨k, hk⟩ : ∃ k, n - i = k + 1 := ⟨n - i - 1, by omega⟩
        rw [hk, List.take_succ_cons, show k = n - (i + 1) by omega]
        exact Atoms.byte c _ h44 h34 ih

theorem b34 : blanks.contains 34 = false := by decide
theorem tr_append (x y : List UInt8) : tr (x ++ y) = if tr y = [] then tr x else x ++ tr y := by
  unfold tr Lib.trimRightS
  rw [List.reverse_append, List.dropWhile_append]
  by_cases h : (y.reverse.dropWhile (blanks.contains ·)) = []
  · rw [h]; simp
  · have h2 : (y.reverse.dropWhile (blanks.contains ·)).isEmpty = false := by
      cases hh : y.reverse.dropWhile (blanks.contains ·)
      · exact absurd hh h
      · rfl
    rw [h2]
    have h3 : (y.reverse.dropWhile (blanks.contains ·)).reverse ≠ [] := by simpa using h
    rw [if_neg h3]
    simp
theorem tr_34 : tr [34] = [34] := by decide
theorem atoms_tl {m : List UInt8} (hm : Atoms m) : Atoms (tl m) := by
  induction hm with
  | nil => exact Atoms.nil
  | byte c m h1 h2 hm ih =>
    cases hc : blanks.contains c with
    | true => rw [tl_yes c m hc]; exact ih
    | false => rw [tl_no c m hc]; exact Atoms.byte c m h1 h2 hm
  | quo a m x h1 h2 hm _ => rw [tl_no _ _ b34]; exact Atoms.quo a m x h1 h2 hm
theorem atoms_tr {m : List UInt8} (hm : Atoms m) : Atoms (tr m) := by
  induction hm with
  | nil => exact Atoms.nil
  | byte c m h1 h2 hm ih =>
    rw [tr_cons]
    split
    · split
      · exact Atoms.nil
      · exact Atoms.byte c [] h1 h2 Atoms.nil
    · exact Atoms.byte c _ h1 h2 ih
  | quo a m x h1 h2 hm ih =>
    rw [show (34 :: (a ++ 34 :: m) : List UInt8) = ((34 :: a) ++ [34]) ++ m by simp, tr_append]
    split
    · rw [tr_append, if_neg (by rw [tr_34]; simp), tr_34]
      exact Atoms.quo a [] x h1 h2 Atoms.nil
    · have := Atoms.quo a _ x h1 h2 ih
      simpa using this
theorem tl_tl (l : List UInt8) : tl (tl l) = tl l := by
  induction l with
  | nil => rfl
  | cons c r ih =>
    cases hc : blanks.contains c with
    | true => rw [tl_yes c r hc]; exact ih
    | false => rw [tl_no c r hc, tl_no c r hc]
theorem tr_is (l : List UInt8) : tr l = (tl l.reverse).reverse := rfl
theorem tr_tr (l : List UInt8) : tr (tr l) = tr l := by rw [tr_is (tr l), tr_is l, List.reverse_reverse, tl_tl]

/-- what a list's member is -/
def Member (m : List UInt8) : Prop := m ≠ [] ∧ tl m = m ∧ tr m = m ∧ Atoms m
theorem trim_member {x : List UInt8} (hx : Atoms x) (h : trim x ≠ []) : Member (trim x) := by
  refine ⟨h, ?_, ?_, ?_⟩
  · rw [trim_is, ← tl_tr, tl_tl]
  · rw [trim_is, tr_tr]
  · rw [trim_is]; exact atoms_tr (atoms_tl hx)
theorem lstF_members : ∀ (f : Nat) (l : List UInt8) (ms : List (List UInt8)), lstF f l = some ms → ∀ m ∈ ms, Member m
  | 0, l, ms, h => by simp only [lstF, Option.some.injEq] at h; subst h; simp
  | f + 1, l, ms, h => by
    simp only [lstF] at h
    split at h
    · simp only [Option.some.injEq] at h; subst h; simp
    · cases hc : cut l with
      | none => rw [hc] at h; simp at h
      | some n =>
        rw [hc] at h
        simp only at h
        have ha := cut_atoms _ l 0 n (Nat.le_refl _) hc
        rw [Nat.sub_zero] at ha
        cases hr : lstF f (l.drop (n + 1)) with
        | none => rw [hr] at h; simp at h
        | some m' =>
          rw [hr] at h
          have ih := lstF_members f _ m' hr
          simp only [Option.map_some, Option.some.injEq] at h
          subst h
          split
          · exact ih
          · rename_i ht
            intro m hm
            rcases List.mem_cons.1 hm with rfl | hm
            · exact trim_member ha ht
            · exact ih m hm
theorem lst_members (l : List UInt8) (ms : List (List UInt8)) (h : lst l = some ms) : ∀ m ∈ ms, Member m := lstF_members _ _ _ h
theorem trim_self {m : List UInt8} (h : Member m) : trim m = m := by rw [trim_is, h.2.1, h.2.2.1]

theorem cut_comma (b rest : List UInt8) (hb : Atoms b) : cut (b ++ 44 :: rest) = some b.length := by
  unfold cut
  rw [atoms_cut hb _ _ _ (Nat.le_refl _), Nat.zero_add]
  simp [cutF]
theorem cut_whole (b : List UInt8) (hb : Atoms b) : cut b = some b.length := by
  have := atoms_cut hb [] b.length 0 (by simp)
  unfold cut
  rw [List.append_nil] at this
  rw [this]
  simp [cutF]
theorem lst_comma (b rest : List UInt8) (hb : Atoms b) : lst (b ++ 44 :: rest) = (lst rest).map fun m => if trim b = [] then m else trim b :: m := by
  have h := (lst_step (b ++ 44 :: rest) (by simp)).2 _ (cut_comma b rest hb)
  rw [h]
  have e1 : (b ++ 44 :: rest).drop (b.length + 1) = rest := by
    rw [show b ++ 44 :: rest = (b ++ [44]) ++ rest by simp, List.drop_append_of_le_length (by simp), List.drop_eq_nil_iff.2 (by simp)]; rfl
  have e2 : (b ++ 44 :: rest).take b.length = b := List.take_left
  rw [e1, e2]
theorem lst_last (b : List UInt8) (hb : Atoms b) (hn : b ≠ []) : lst b = some (if trim b = [] then [] else [trim b]) := by
  have h := (lst_step b hn).2 _ (cut_whole b hb)
  rw [h, List.drop_eq_nil_iff.2 (by omega), lst_nil, List.take_of_length_le (Nat.le_refl _)]
  simp only [Option.map_some]

def sp1 (b : Bool) : List UInt8 := if b = true then [32, 9] else []
def cms (b : Bool) : List UInt8 := if b = true then [44, 32, 44] else []
def sp2 (b : Bool) : List UInt8 := if b = true then [9, 32] else []
abbrev Noisy := List UInt8 × Bool × Bool × Bool
def mem1 (p : Noisy) : List UInt8 := sp1 p.2.1 ++ cms p.2.2.1 ++ p.1 ++ sp2 p.2.2.2
def joinR : List Noisy → List UInt8
  | [] => []
  | p :: r => 44 :: (mem1 p ++ joinR r)
def join : List Noisy → List UInt8
  | [] => []
  | p :: r => mem1 p ++ joinR r
theorem joinR_snoc (r : List Noisy) (p : Noisy) : joinR (r ++ [p]) = joinR r ++ 44 :: mem1 p := by
  induction r with
  | nil => simp [joinR]
  | cons q r ih => simp [joinR, ih]
theorem join_snoc (ps : List Noisy) (p : Noisy) : join (ps ++ [p]) = join ps ++ (if ps = [] then [] else [44]) ++ mem1 p := by
  cases ps with
  | nil => simp [join, joinR]
  | cons q r => simp [join, joinR_snoc]
theorem sp1_atoms (b : Bool) : Atoms (sp1 b) := by
  cases b
  · exact Atoms.nil
  · exact Atoms.byte _ _ (by decide) (by decide) (Atoms.byte _ _ (by decide) (by decide) Atoms.nil)
theorem sp2_atoms (b : Bool) : Atoms (sp2 b) := by
  cases b
  · exact Atoms.nil
  · exact Atoms.byte _ _ (by decide) (by decide) (Atoms.byte _ _ (by decide) (by decide) Atoms.nil)
theorem trim_sp1 (b : Bool) : trim (sp1 b) = [] := by cases b <;> decide
theorem tl_sp1 (b : Bool) (l : List UInt8) : tl (sp1 b ++ l) = tl l := by
  cases b
  · rfl
  · show tl (32 :: 9 :: l) = _
    rw [tl_yes _ _ (by decide), tl_yes _ _ (by decide)]
theorem tr_sp2 (b : Bool) (l : List UInt8) : tr (l ++ sp2 b) = tr l := by rw [tr_append, if_pos (by cases b <;> decide)]
theorem tl_keep {m : List UInt8} (hn : m ≠ []) (h : tl m = m) (r : List UInt8) : tl (m ++ r) = m ++ r := by
  cases m with
  | nil => exact absurd rfl hn
  | cons c m =>
    cases hc : blanks.contains c with
    | true =>
      exfalso
      rw [tl_yes c m hc] at h
      have : (tl m).length ≤ m.length := (List.dropWhile_sublist _).length_le
      rw [h] at this; simp only [List.length_cons] at this; omega
    | false => exact tl_no c _ hc
theorem trim_body {m : List UInt8} (hm : Member m) (b1 b2 : Bool) : trim (sp1 b1 ++ m ++ sp2 b2) = m := by
  rw [trim_is, List.append_assoc, tl_sp1, tl_keep hm.1 hm.2.1, tr_sp2]; exact hm.2.2.1
theorem lst_body {m : List UInt8} (hm : Member m) (b1 b2 : Bool) (y : List UInt8) (hy : y = [] ∨ ∃ z, y = 44 :: z) :
    lst (sp1 b1 ++ m ++ sp2 b2 ++ y) = (if y = [] then some [] else lst y.tail).map (m :: ·) := by
  have ha : Atoms (sp1 b1 ++ m ++ sp2 b2) := ((sp1_atoms b1).append hm.2.2.2).append (sp2_atoms b2)
  have ht := trim_body hm b1 b2
  rcases hy with rfl | ⟨z, rfl⟩
  · rw [List.append_nil, lst_last _ ha (by have := hm.1; simp [this]), ht, if_neg hm.1]; rfl
  · rw [lst_comma _ _ ha, ht]
    simp only [hm.1, if_false, List.tail_cons, reduceCtorEq]
theorem lst_mem1 (p : Noisy) (hm : Member p.1) (y : List UInt8) (hy : y = [] ∨ ∃ z, y = 44 :: z) :
    lst (mem1 p ++ y) = (if y = [] then some [] else lst y.tail).map (p.1 :: ·) := by
  obtain ⟨m, b1, b2, b3⟩ := p
  unfold mem1
  simp only
  cases b2 with
  | false =>
    show lst (sp1 b1 ++ [] ++ m ++ sp2 b3 ++ y) = _
    rw [List.append_nil]; exact lst_body hm b1 b3 y hy
  | true =>
    have e : sp1 b1 ++ cms true ++ m ++ sp2 b3 ++ y = sp1 b1 ++ 44 :: ([32] ++ 44 :: (sp1 false ++ m ++ sp2 b3 ++ y)) := by simp [cms, sp1]
    rw [e, lst_comma _ _ (sp1_atoms b1), trim_sp1, lst_comma _ _ (Atoms.byte _ _ (by decide) (by decide) Atoms.nil), show trim [32] = [] by decide]
    simp only [if_true, Option.map_id']
    exact lst_body hm false b3 y hy
theorem joinR_tail (r : List Noisy) : joinR r = [] ∧ r = [] ∨ ∃ p r', r = p :: r' ∧ joinR r = 44 :: (mem1 p ++ joinR r') := by
  cases r with
  | nil => exact .inl ⟨rfl, rfl⟩
  | cons p r => exact .inr ⟨p, r, rfl, rfl⟩
theorem lst_join : ∀ (r : List Noisy) (p : Noisy), (∀ q ∈ p :: r, Member q.1) → lst (mem1 p ++ joinR r) = some ((p :: r).map (·.1))
  | [], p, h => by
    show lst (mem1 p ++ []) = _
    rw [lst_mem1 p (h p (by simp)) _ (.inl rfl)]
    simp
  | q :: r, p, h => by
    show lst (mem1 p ++ 44 :: (mem1 q ++ joinR r)) = _
    rw [lst_mem1 p (h p (by simp)) _ (.inr ⟨_, rfl⟩), if_neg (by simp)]
    show (lst (mem1 q ++ joinR r)).map _ = _
    rw [lst_join r q (fun x hx => h x (by simp at hx ⊢; exact .inr hx))]
    rfl
theorem lst_joined (ps : List Noisy) (h : ∀ q ∈ ps, Member q.1) : lst (join ps) = some (ps.map (·.1)) := by
  cases ps with
  | nil => exact lst_nil
  | cons p r => exact lst_join r p h
end Go.Proofs.YthkgaaibhjkngaaGreatDoor
