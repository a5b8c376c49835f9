/- References: names, plain lists. -/
import Derived.Test.YtpepoccoljmmjaaLA
import Derived.Lib.IndexMore
import Derived.Lib.Strings
set_option linter.unusedVariables false
set_option maxRecDepth 20000
namespace Go.Proofs.Ytpepoccoljmmjaa

abbrev Bs := List UInt8
def looseT : List (Bs × Bs) := [([97, 109, 112], [38]), ([65, 77, 80], [38]), ([108, 116], [60]), ([76, 84], [60]), ([103, 116], [62]), ([113, 117, 111, 116], [34]), ([110, 98, 115, 112], [194, 160]), ([99, 111, 112, 121], [194, 169]), ([114, 101, 103], [194, 174]), ([110, 111, 116], [194, 172]), ([112, 97, 114, 97], [194, 182]), ([116, 105, 109, 101, 115], [195, 151]), ([100, 105, 118, 105, 100, 101], [195, 183]), ([101, 97, 99, 117, 116, 101], [195, 169]), ([69, 84, 72], [195, 144]), ([115, 122, 108, 105, 103], [195, 159])]
def strictT : List (Bs × Bs) := [([97, 112, 111, 115], [39]), ([110, 111, 116, 105, 110], [226, 136, 137]), ([99, 111, 112, 121, 115, 114], [226, 132, 151]), ([112, 97, 114, 97, 108, 108, 101, 108], [226, 136, 165]), ([116, 105, 109, 101, 115, 98], [226, 138, 160]), ([108, 116, 105, 109, 101, 115], [226, 139, 137]), ([103, 116, 100, 111, 116], [226, 139, 151]), ([104, 101, 108, 108, 105, 112], [226, 128, 166]), ([110, 100, 97, 115, 104], [226, 128, 147]), ([109, 100, 97, 115, 104], [226, 128, 148]), ([108, 115, 113, 117, 111], [226, 128, 152]), ([114, 115, 113, 117, 111], [226, 128, 153]), ([108, 100, 113, 117, 111], [226, 128, 156]), ([114, 100, 113, 117, 111], [226, 128, 157]), ([101, 117, 114, 111], [226, 130, 172]), ([116, 114, 97, 100, 101], [226, 132, 162]), ([108, 97, 114, 114], [226, 134, 144]), ([114, 97, 114, 114], [226, 134, 146]), ([84, 97, 98], [9]), ([78, 101, 119, 76, 105, 110, 101], [10]), ([99, 111, 108, 111, 110], [58]), ([115, 111, 108], [47]), ([113, 117, 101, 115, 116], [63]), ([108, 112, 97, 114], [40]), ([122, 119, 106], [226, 128, 141]), ([78, 111, 116, 69, 113, 117, 97, 108, 84, 105, 108, 100, 101], [226, 137, 130, 204, 184]), ([84, 104, 105, 99, 107, 83, 112, 97, 99, 101], [226, 129, 159, 226, 128, 138]), ([110, 118, 108, 116], [60, 226, 131, 146])]
def namesL : Bs := [32, 97, 109, 112, 32, 65, 77, 80, 32, 108, 116, 32, 76, 84, 32, 103, 116, 32, 113, 117, 111, 116, 32, 110, 98, 115, 112, 32, 99, 111, 112, 121, 32, 114, 101, 103, 32, 110, 111, 116, 32, 112, 97, 114, 97, 32, 116, 105, 109, 101, 115, 32, 100, 105, 118, 105, 100, 101, 32, 101, 97, 99, 117, 116, 101, 32, 69, 84, 72, 32, 115, 122, 108, 105, 103, 32, 97, 112, 111, 115, 32, 110, 111, 116, 105, 110, 32, 99, 111, 112, 121, 115, 114, 32, 112, 97, 114, 97, 108, 108, 101, 108, 32, 116, 105, 109, 101, 115, 98, 32, 108, 116, 105, 109, 101, 115, 32, 103, 116, 100, 111, 116, 32, 104, 101, 108, 108, 105, 112, 32, 110, 100, 97, 115, 104, 32, 109, 100, 97, 115, 104, 32, 108, 115, 113, 117, 111, 32, 114, 115, 113, 117, 111, 32, 108, 100, 113, 117, 111, 32, 114, 100, 113, 117, 111, 32, 101, 117, 114, 111, 32, 116, 114, 97, 100, 101, 32, 108, 97, 114, 114, 32, 114, 97, 114, 114, 32, 84, 97, 98, 32, 78, 101, 119, 76, 105, 110, 101, 32, 99, 111, 108, 111, 110, 32, 115, 111, 108, 32, 113, 117, 101, 115, 116, 32, 108, 112, 97, 114, 32, 122, 119, 106, 32, 78, 111, 116, 69, 113, 117, 97, 108, 84, 105, 108, 100, 101, 32, 84, 104, 105, 99, 107, 83, 112, 97, 99, 101, 32, 110, 118, 108, 116, 32]
def looseC (l : Bs) : Bs := (looseT.lookup l).getD []
def strictC (l : Bs) : Bs := (strictT.lookup l).getD []
/-- a name, its characters, whether it may stand without its end -/
def tabN : List (Bs × Bs × Bool) := looseT.map (fun p => (p.1, p.2, true)) ++ strictT.map (fun p => (p.1, p.2, false))
/-- the characters of a whole name -/
def nm (l : Bs) : Bs := if looseC (Lib.trimSuffix l [59]) ≠ [] ∨ Lib.hasSuffix l [59] = false then looseC (Lib.trimSuffix l [59]) else strictC (Lib.trimSuffix l [59])

theorem lookup_mem {l c : Bs} : ∀ {t : List (Bs × Bs)}, t.lookup l = some c → (l, c) ∈ t
  | [], h => by simp at h
  | (a, b) :: t, h => by
    rw [List.lookup_cons] at h
    split at h
    · rename_i he
      have : l = a := by simpa using he
      have hb : b = c := by simpa using h
      subst this; subst hb; exact List.mem_cons_self ..
    · exact List.mem_cons_of_mem _ (lookup_mem h)
theorem getD_ne {t : List (Bs × Bs)} {l : Bs} (h : (t.lookup l).getD [] ≠ []) : ∃ c, (l, c) ∈ t := by
  cases hl : t.lookup l with
  | none => rw [hl] at h; exact absurd rfl h
  | some c => exact ⟨c, lookup_mem hl⟩
theorem tab_loose {l c : Bs} (h : (l, c) ∈ looseT) : (l, c, true) ∈ tabN := List.mem_append_left _ (List.mem_map.2 ⟨_, h, rfl⟩)
theorem tab_strict {l c : Bs} (h : (l, c) ∈ strictT) : (l, c, false) ∈ tabN := List.mem_append_right _ (List.mem_map.2 ⟨_, h, rfl⟩)
theorem suffix_is {l : Bs} (h : Lib.hasSuffix l [59] = true) : l = Lib.trimSuffix l [59] ++ [59] := by
  have h' : [59] <:+ l := List.isSuffixOf_iff_suffix.1 h
  obtain ⟨t, rfl⟩ := h'
  unfold Lib.trimSuffix; rw [if_pos h]; simp
theorem suffix_not {l : Bs} (h : Lib.hasSuffix l [59] = false) : Lib.trimSuffix l [59] = l := by unfold Lib.trimSuffix; rw [h]; simp
theorem nm_ne {l : Bs} (h : nm l ≠ []) : ∃ e ∈ tabN, l = e.1 ++ [59] ∨ (e.2.2 = true ∧ l = e.1) := by
  cases hs : Lib.hasSuffix l [59]
  · unfold nm at h
    rw [suffix_not hs, if_pos (.inr hs)] at h
    obtain ⟨c, hc⟩ := getD_ne h
    exact ⟨_, tab_loose hc, .inr ⟨rfl, rfl⟩⟩
  · have hl := suffix_is hs
    unfold nm at h
    split at h
    · obtain ⟨c, hc⟩ := getD_ne h
      exact ⟨_, tab_loose hc, .inl hl⟩
    · obtain ⟨c, hc⟩ := getD_ne h
      exact ⟨_, tab_strict hc, .inl hl⟩
theorem nm_semi : ∀ e ∈ tabN, nm (e.1 ++ [59]) = e.2.1 := by decide +kernel
theorem nm_bare : ∀ e ∈ tabN, e.2.2 = true → nm e.1 = e.2.1 := by decide +kernel
theorem tab_len : ∀ e ∈ tabN, 1 ≤ e.1.length ∧ e.1.length ≤ 13 ∧ e.2.1 ≠ [] := by decide +kernel
theorem nm_len {l : Bs} (h : nm l ≠ []) : 1 ≤ l.length ∧ l.length ≤ 14 := by
  obtain ⟨e, he, h1 | ⟨_, h1⟩⟩ := nm_ne h
  · have := tab_len e he; rw [h1]; simp; omega
  · have := tab_len e he; rw [h1]; omega

/-- the longest name at the front, of at most so many bytes -/
def fndF (l : Bs) : Nat → Bs × Nat
  | 0 => ([], 0)
  | n + 1 => if nm (l.take (n + 1)) ≠ [] then (nm (l.take (n + 1)), n + 1) else fndF l n
def fnd (l : Bs) : Bs × Nat := fndF l (min l.length 14)
theorem fndF_none (l : Bs) : ∀ N, (∀ m, 0 < m → m ≤ N → nm (l.take m) = []) → fndF l N = ([], 0)
  | 0, _ => rfl
  | n + 1, h => by
    unfold fndF
    rw [if_neg (by rw [h (n + 1) (by omega) (by omega)]; simp), fndF_none l n fun m h1 h2 => h m h1 (by omega)]
theorem fndF_some (l : Bs) (k : Nat) (h0 : 0 < k) (hk : nm (l.take k) ≠ []) : ∀ N, k ≤ N → (∀ m, k < m → m ≤ N → nm (l.take m) = []) → fndF l N = (nm (l.take k), k)
  | 0, h1, _ => by omega
  | n + 1, h1, h => by
    unfold fndF
    by_cases he : k = n + 1
    · subst he; rw [if_pos hk]
    · rw [if_neg (by rw [h (n + 1) (by omega) (by omega)]; simp), fndF_some l k h0 hk n (by omega) fun m h1 h2 => h m h1 (by omega)]
theorem fndF_is (l : Bs) : ∀ N, (fndF l N = ([], 0) ∧ ∀ m, 0 < m → m ≤ N → nm (l.take m) = []) ∨ ∃ k, 0 < k ∧ k ≤ N ∧ nm (l.take k) ≠ [] ∧ fndF l N = (nm (l.take k), k) ∧ ∀ m, k < m → m ≤ N → nm (l.take m) = []
  | 0 => .inl ⟨rfl, fun m h1 h2 => by omega⟩
  | n + 1 => by
    by_cases h : nm (l.take (n + 1)) ≠ []
    · exact .inr ⟨n + 1, by omega, Nat.le_refl _, h, by unfold fndF; rw [if_pos h], fun m h1 h2 => by omega⟩
    · have h' : nm (l.take (n + 1)) = [] := Decidable.not_not.1 h
      have hf : fndF l (n + 1) = fndF l n := by rw [fndF]; rw [if_neg h]
      rcases fndF_is l n with ⟨h1, h2⟩ | ⟨k, h1, h2, h3, h4, h5⟩
      · exact .inl ⟨hf.trans h1, fun m h3 h4 => by by_cases he : m = n + 1; (· subst he; exact h'); exact h2 m h3 (by omega)⟩
      · exact .inr ⟨k, h1, by omega, h3, hf.trans h4, fun m h6 h7 => by by_cases he : m = n + 1; (· subst he; exact h'); exact h5 m h6 (by omega)⟩
/-- what is found: nothing, and no beginning is a name; or the longest beginning that is one -/
theorem fnd_is (l : Bs) : (fnd l = ([], 0) ∧ ∀ m, 0 < m → m ≤ l.length → nm (l.take m) = []) ∨ ∃ k, 0 < k ∧ k ≤ l.length ∧ k ≤ 14 ∧ nm (l.take k) ≠ [] ∧ fnd l = (nm (l.take k), k) ∧ ∀ m, k < m → m ≤ l.length → nm (l.take m) = [] := by
  have hbig : ∀ m, 14 < m → m ≤ l.length → nm (l.take m) = [] := fun m h1 h2 => Decidable.not_not.1 fun h => by
    have := (nm_len h).2
    rw [List.length_take] at this; omega
  rcases fndF_is l (min l.length 14) with ⟨h1, h2⟩ | ⟨k, h1, h2, h3, h4, h5⟩
  · refine .inl ⟨h1, fun m h3 h4 => ?_⟩
    by_cases h : 14 < m
    · exact hbig m h h4
    · exact h2 m h3 (by omega)
  · refine .inr ⟨k, h1, by omega, by omega, h3, h4, fun m h6 h7 => ?_⟩
    by_cases h : 14 < m
    · exact hbig m h h7
    · exact h5 m h6 (by omega)
theorem fnd_none {l : Bs} (h : ∀ m, 0 < m → m ≤ l.length → nm (l.take m) = []) : fnd l = ([], 0) := fndF_none l _ fun m h1 h2 => h m h1 (by omega)
theorem fnd_some {l : Bs} {k : Nat} (h0 : 0 < k) (h1 : k ≤ l.length) (hk : nm (l.take k) ≠ []) (h : ∀ m, k < m → m ≤ l.length → nm (l.take m) = []) : fnd l = (nm (l.take k), k) := by
  have := (nm_len hk).2
  rw [List.length_take] at this
  exact fndF_some l k h0 hk _ (by omega) fun m h2 h3 => h m h2 (by omega)
theorem fnd_le (l : Bs) : (fnd l).2 ≤ l.length ∧ (fnd l).2 ≤ 14 ∧ ((fnd l).2 = 0 ↔ (fnd l).1 = []) := by
  rcases fnd_is l with ⟨h, _⟩ | ⟨k, h0, h1, h2, h3, h4, _⟩
  · rw [h]; simp
  · rw [h4]; refine ⟨h1, h2, by simp only; omega, fun h => absurd h h3⟩

/-- how many bytes of a name stand there -/
def rk (l : Bs) (e : Bs × Bs × Bool) : Nat := if Lib.hasPrefix l (e.1 ++ [59]) = true then e.1.length + 1 else if (e.2.2 && Lib.hasPrefix l e.1) = true then e.1.length else 0
def rstep (l : Bs) (o : Bs × Nat) (e : Bs × Bs × Bool) : Bs × Nat := if o.2 < rk l e then (e.2.1, rk l e) else o
def rfnd (l : Bs) (t : List (Bs × Bs × Bool)) : Bs × Nat := t.foldl (rstep l) ([], 0)
theorem rfnd_snoc (l : Bs) (t : List (Bs × Bs × Bool)) (e : Bs × Bs × Bool) : rfnd l (t ++ [e]) = rstep l (rfnd l t) e := by unfold rfnd; rw [List.foldl_append]; rfl
theorem rfnd_is (l : Bs) : ∀ t : List (Bs × Bs × Bool), (rfnd l t = ([], 0) ∨ ∃ e ∈ t, 0 < rk l e ∧ rfnd l t = (e.2.1, rk l e)) ∧ ∀ e ∈ t, rk l e ≤ (rfnd l t).2 := by
  intro t
  obtain ⟨r, rfl⟩ : ∃ r, t = r.reverse := ⟨t.reverse, by simp⟩
  induction r with
  | nil => exact ⟨.inl rfl, fun e h => by simp at h⟩
  | cons e r ih =>
    rw [List.reverse_cons, rfnd_snoc]
    obtain ⟨h1, h2⟩ := ih
    by_cases hc : (rfnd l r.reverse).2 < rk l e
    · unfold rstep; rw [if_pos hc]
      refine ⟨.inr ⟨e, by simp, by omega, rfl⟩, fun x hx => ?_⟩
      rcases List.mem_append.1 hx with hx | hx
      · have := h2 x hx; simp only; omega
      · have : x = e := by simpa using hx
        subst this; exact Nat.le_refl _
    · unfold rstep; rw [if_neg hc]
      refine ⟨?_, fun x hx => ?_⟩
      · rcases h1 with h1 | ⟨x, hx, h3, h4⟩
        · exact .inl h1
        · exact .inr ⟨x, List.mem_append_left _ hx, h3, h4⟩
      · rcases List.mem_append.1 hx with hx | hx
        · exact h2 x hx
        · have : x = e := by simpa using hx
          subst this; omega
theorem prefix_take {l p : Bs} (h : Lib.hasPrefix l p = true) : p.length ≤ l.length ∧ l.take p.length = p := by
  obtain ⟨t, rfl⟩ := List.isPrefixOf_iff_prefix.1 h
  simp
theorem take_prefix {l p : Bs} (h : l.take p.length = p) : Lib.hasPrefix l p = true := List.isPrefixOf_iff_prefix.2 ⟨l.drop p.length, by conv => rhs; rw [← List.take_append_drop p.length l, h]⟩
theorem rk_nm {l : Bs} {e : Bs × Bs × Bool} (he : e ∈ tabN) (h : 0 < rk l e) : rk l e ≤ l.length ∧ nm (l.take (rk l e)) = e.2.1 := by
  unfold rk at h ⊢
  split at h
  · rename_i hp
    rw [if_pos hp]
    obtain ⟨h1, h2⟩ := prefix_take hp
    have hl : (e.1 ++ [59]).length = e.1.length + 1 := by simp
    rw [hl] at h1 h2
    exact ⟨h1, by rw [h2]; exact nm_semi e he⟩
  · rename_i hp
    rw [if_neg hp]
    split at h
    · rename_i hq
      rw [if_pos hq]
      obtain ⟨hb, hq⟩ : e.2.2 = true ∧ Lib.hasPrefix l e.1 = true := by simpa using hq
      obtain ⟨h1, h2⟩ := prefix_take hq
      exact ⟨h1, by rw [h2]; exact nm_bare e he hb⟩
    · omega
theorem nm_rk {l : Bs} {m : Nat} (hm : m ≤ l.length) (h : nm (l.take m) ≠ []) : ∃ e ∈ tabN, m ≤ rk l e := by
  obtain ⟨e, he, h1⟩ := nm_ne h
  refine ⟨e, he, ?_⟩
  have hl : (l.take m).length = m := by rw [List.length_take]; omega
  rcases h1 with h1 | ⟨hb, h1⟩
  · have hp : Lib.hasPrefix l (e.1 ++ [59]) = true := by
      apply take_prefix; rw [← h1, hl]
    unfold rk; rw [if_pos hp]
    rw [h1] at hl; simp at hl; omega
  · have hp : Lib.hasPrefix l e.1 = true := by
      apply take_prefix; rw [← h1, hl]
    unfold rk
    rw [h1] at hl
    split
    · omega
    · rw [if_pos (by rw [hb, hp]; rfl)]; omega
/-- the document's search finds the same -/
theorem rfnd_fnd (l : Bs) : rfnd l tabN = fnd l := by
  obtain ⟨h1, h2⟩ := rfnd_is l tabN
  have hno : ∀ m, (rfnd l tabN).2 < m → m ≤ l.length → nm (l.take m) = [] := fun m h3 h4 => Decidable.not_not.1 fun h => by
    obtain ⟨e, he, h5⟩ := nm_rk h4 h
    have := h2 e he; omega
  rcases h1 with h1 | ⟨e, he, h3, h4⟩
  · rw [h1] at hno ⊢
    exact (fnd_none fun m h3 h4 => hno m h3 h4).symm
  · obtain ⟨h5, h6⟩ := rk_nm he h3
    rw [h4] at hno ⊢
    have hk : nm (l.take (rk l e)) ≠ [] := by rw [h6]; exact (tab_len e he).2.2
    rw [fnd_some h3 h5 hk fun m h7 h8 => hno m h7 h8, h6]

/-! ## names that begin so -/
def isLet (c : UInt8) : Bool := (decide (97 ≤ c.toNat) && decide (c.toNat ≤ 122)) || (decide (65 ≤ c.toNat) && decide (c.toNat ≤ 90))
def moreN (t : Bs) : Bool := tabN.any fun e => t.isPrefixOf e.1
theorem names_at : ∀ p, p < namesL.length → namesL[p]? = some 32 → namesL.drop (p + 1) = [] ∨ ∃ e ∈ tabN, (e.1 ++ [32]).isPrefixOf (namesL.drop (p + 1)) = true := by decide +kernel
theorem names_of : ∀ e ∈ tabN, ∃ p, p < namesL.length ∧ (32 :: e.1).isPrefixOf (namesL.drop p) = true := by decide +kernel
theorem tab_let : ∀ e ∈ tabN, e.1.all isLet = true := by decide +kernel
theorem contains_iff (s t : Bs) : Lib.contains s t = true ↔ ∃ j, j ≤ s.length ∧ Lib.occAt s t j = true := by
  unfold Lib.contains
  rw [decide_eq_true_iff]
  rcases Lib.index_spec s t with ⟨h1, h2⟩ | ⟨i, h1, h2, h3, _⟩
  · rw [h1]
    exact ⟨fun h => by omega, fun ⟨j, h3, h4⟩ => by rw [h2 j h3] at h4; cases h4⟩
  · rw [h1]; exact ⟨fun _ => ⟨i, h2, h3⟩, fun _ => by omega⟩
theorem pre_pre {t a b : Bs} (ht : t.all isLet = true) (h1 : t.isPrefixOf b = true) (h2 : (a ++ [32]).isPrefixOf b = true) : t.isPrefixOf a = true := by
  rw [List.isPrefixOf_iff_prefix] at *
  rcases List.prefix_or_prefix_of_prefix h1 h2 with h | h
  · rcases List.prefix_concat_iff.1 h with h | h
    · subst h
      rw [List.all_append] at ht
      simp [isLet] at ht
    · exact h
  · obtain ⟨u, rfl⟩ := h
    rw [List.all_append, List.all_append] at ht
    simp [isLet] at ht
theorem nb_is {t : Bs} (ht : t.all isLet = true) : Lib.contains namesL (32 :: t) = moreN t := by
  rw [Bool.eq_iff_iff, contains_iff]
  unfold moreN
  rw [List.any_eq_true]
  constructor
  · rintro ⟨j, hj, ho⟩
    have h1 : namesL[j]? = some 32 := Lib.occAt_head rfl ho
    have hj' : j < namesL.length := (List.getElem?_eq_some_iff.1 h1).1
    have hd : namesL.drop j = 32 :: namesL.drop (j + 1) := by
      rw [List.drop_eq_getElem_cons hj']; congr 1
      exact (List.getElem?_eq_some_iff.1 h1).2
    have ho' : t.isPrefixOf (namesL.drop (j + 1)) = true := by
      unfold Lib.occAt at ho
      rw [hd, List.isPrefixOf_cons_cons] at ho
      simpa using ho
    rcases names_at j hj' h1 with h | ⟨e, he, h⟩
    · rw [h] at ho'
      have : t = [] := by cases t; rfl; simp at ho'
      subst this
      exact ⟨([97, 109, 112], [38], true), by decide +kernel, rfl⟩
    · exact ⟨e, he, pre_pre ht ho' h⟩
  · rintro ⟨e, he, hp⟩
    obtain ⟨p, h1, h2⟩ := names_of e he
    refine ⟨p, by omega, ?_⟩
    unfold Lib.occAt
    rw [List.isPrefixOf_iff_prefix] at *
    exact (List.cons_prefix_cons.2 ⟨rfl, hp⟩).trans h2
theorem moreN_let {t : Bs} (h : moreN t = true) : t.all isLet = true := by
  unfold moreN at h
  obtain ⟨e, he, hp⟩ := List.any_eq_true.1 h
  obtain ⟨u, hu⟩ := List.isPrefixOf_iff_prefix.1 hp
  have := tab_let e he
  rw [← hu, List.all_append] at this
  exact (Bool.and_eq_true_iff.1 this).1
/-- all letters, and a name begins so -/
def nmBeg (t : Bs) : Bool := t.all isLet && Lib.contains namesL (32 :: t)
theorem nmBeg_is (t : Bs) : nmBeg t = moreN t := by
  unfold nmBeg
  cases h : t.all isLet
  · cases h2 : moreN t
    · rfl
    · rw [moreN_let h2] at h; cases h
  · rw [nb_is h]; rfl

end Go.Proofs.Ytpepoccoljmmjaa
