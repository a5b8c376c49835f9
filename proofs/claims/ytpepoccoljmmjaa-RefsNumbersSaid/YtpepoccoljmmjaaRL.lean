/- Texts with references, written and read: plain lists. -/
import Derived.Test.YtpepoccoljmmjaaRJ
set_option linter.unusedVariables false
namespace Go.Proofs.Ytpepoccoljmmjaa

theorem takeWhile_stop {p : UInt8 → Bool} {v : Bs} (hv : ∀ c, v.head? = some c → p c = false) : ∀ u : Bs, (u ++ v).takeWhile p = u.takeWhile p
  | [] => by
    cases v with
    | nil => rfl
    | cons c v => rw [List.nil_append, List.takeWhile_cons, hv c rfl]; rfl
  | c :: u => by
    rw [List.cons_append, List.takeWhile_cons, List.takeWhile_cons]
    cases p c
    · rfl
    · simp only [if_true]; rw [takeWhile_stop hv u]
theorem dg_60 (h : Bool) : dg h 60 = -1 := by cases h <;> decide
theorem digs_lt (h : Bool) (m b : Bs) : digs h (m ++ 60 :: b) = digs h m := by
  unfold digs
  rw [List.take_append]
  apply takeWhile_stop
  intro c hc
  cases hk : 16 - m.length with
  | zero => rw [hk] at hc; simp at hc
  | succ k => rw [hk, List.take_succ_cons] at hc; have : 60 = c := by simpa using hc
              subst this; rw [dg_60]; rfl
theorem hexB_lt (r b : Bs) : hexB (r ++ 60 :: b) = hexB r := by cases r; rfl; rfl
theorem nbg_lt (r b : Bs) : nbg (r ++ 60 :: b) = nbg r := by unfold nbg; rw [hexB_lt]
theorem nbg_le (r : Bs) : nbg r ≤ r.length := by unfold nbg; split; (· rename_i h; cases r; cases h; simp); omega
theorem ndig_le (r : Bs) : nbg r + (ndig r).length ≤ r.length := by
  have h1 := nbg_le r
  have h2 : (ndig r).length ≤ (r.drop (nbg r)).length := (digs_len _ _).1
  rw [List.length_drop] at h2; omega
theorem tkN_lt (r b : Bs) : tkN (r ++ 60 :: b) = tkN r := by
  have hn : ndig (r ++ 60 :: b) = ndig r := by
    unfold ndig
    rw [hexB_lt, nbg_lt, List.drop_append_of_le_length (nbg_le r), digs_lt]
  have hh : (((r ++ 60 :: b).drop (nbg r + (ndig r).length)).head? = some 59) = ((r.drop (nbg r + (ndig r).length)).head? = some 59) := by
    have hle := ndig_le r
    generalize nbg r + (ndig r).length = k at hle ⊢
    rw [List.drop_append_of_le_length hle]
    cases hd : r.drop k with
    | nil => simp
    | cons c t => simp
  unfold tkN
  rw [hn, hexB_lt, nbg_lt]
  simp only [hh]
theorem name_60 {x : Bs} (h : nm x ≠ []) : ∀ c ∈ x, c ≠ 60 := by
  obtain ⟨e, he, hx⟩ := nm_ne h
  have hl := tab_let e he
  rw [List.all_eq_true] at hl
  intro c hc
  have key : c ∈ e.1 → c ≠ 60 := fun hm e60 => by have := hl c hm; rw [e60] at this; exact absurd this (by decide)
  rcases hx with rfl | ⟨_, rfl⟩
  · rcases List.mem_append.1 hc with hc | hc
    · exact key hc
    · have : c = 59 := by simpa using hc
      rw [this]; decide
  · exact key hc
theorem fnd_lt (r b : Bs) : fnd (r ++ 60 :: b) = fnd r := by
  have hlong : ∀ m, r.length < m → m ≤ (r ++ 60 :: b).length → nm ((r ++ 60 :: b).take m) = [] := fun m h1 h2 => Decidable.not_not.1 fun hne => by
    refine name_60 hne 60 ?_ rfl
    rw [List.take_append, List.take_of_length_le (by omega)]
    refine List.mem_append_right _ ?_
    obtain ⟨k, hk⟩ : ∃ k, m - r.length = k + 1 := ⟨m - r.length - 1, by omega⟩
    rw [hk, List.take_succ_cons]; exact List.mem_cons_self ..
  have hsame : ∀ m, m ≤ r.length → (r ++ 60 :: b).take m = r.take m := fun m h1 => List.take_append_of_le_length h1
  rcases fnd_is r with ⟨h1, h2⟩ | ⟨k, h0, h1, h2, h3, h4, h5⟩
  · rw [h1]
    apply fnd_none
    intro m h6 h7
    by_cases h8 : r.length < m
    · exact hlong m h8 h7
    · rw [hsame m (by omega)]; exact h2 m h6 (by omega)
  · rw [h4, ← hsame k h1]
    refine fnd_some h0 (by rw [List.length_append]; omega) (by rw [hsame k h1]; exact h3) fun m h6 h7 => ?_
    by_cases h8 : r.length < m
    · exact hlong m h8 h7
    · rw [hsame m (by omega)]; exact h5 m h6 (by omega)
theorem nogo_lt (q : Bool) (r b : Bs) (n : Nat) (h0 : n ≠ 0) (hn : n ≤ r.length) : nogo q (r ++ 60 :: b) n = nogo q r n := by
  unfold nogo
  rw [List.getElem?_append_left (by omega : n - 1 < r.length)]
  by_cases he : n = r.length
  · rw [he, List.getElem?_append_right (Nat.le_refl _), Nat.sub_self, List.getElem?_cons_zero, List.getElem?_eq_none (Nat.le_refl _)]
    rfl
  · rw [List.getElem?_append_left (by omega : n < r.length)]
theorem tk_lt (q : Bool) (l b : Bs) (hl : l ≠ []) : tk q (l ++ 60 :: b) = tk q l := by
  cases l with
  | nil => exact absurd rfl hl
  | cons c r =>
    by_cases hc : c = 38
    · subst hc
      show tk q (38 :: (r ++ 60 :: b)) = _
      unfold tk
      simp only
      have hh : ((r ++ 60 :: b).head? = some 35) = (r.head? = some 35) := by cases r <;> simp
      simp only [hh]
      by_cases h35 : r.head? = some 35
      · obtain ⟨r', rfl⟩ : ∃ r', r = 35 :: r' := by cases r with | nil => simp at h35 | cons d r' => exact ⟨r', by simp at h35; rw [h35]⟩
        rw [if_pos (by rfl), if_pos (by rfl)]
        exact tkN_lt r' b
      · rw [if_neg h35, if_neg h35, fnd_lt]
        by_cases h0 : (fnd r).2 = 0
        · rw [if_pos (.inl h0), if_pos (.inl h0)]
        · rw [nogo_lt q r b _ h0 (fnd_le r).1]
    · rw [List.cons_append, tk_amp hc, tk_amp hc]
theorem alls_lt (q : Bool) (b : Bs) : ∀ n (a : Bs), a.length ≤ n → alls q (a ++ 60 :: b) = alls q a ++ 60 :: alls q b
  | n, [], _ => by
    show rep (tk q) 0 (60 :: b) = _
    rw [rep_miss (by rw [tk_amp (by decide)])]; rfl
  | 0, c :: r, h => by simp at h
  | n + 1, c :: r, h => by
    have ht := tk_lt q (c :: r) b (by simp)
    by_cases h0 : (tk q (c :: r)).2 = 0
    · have e1 : alls q (c :: r) = c :: alls q r := rep_miss h0
      have e2 : alls q (c :: r ++ 60 :: b) = c :: alls q (r ++ 60 :: b) := rep_miss (by show (tk q (c :: r ++ 60 :: b)).2 = 0; rw [ht]; exact h0)
      rw [e1, e2, alls_lt q b n r (by simpa using h)]; rfl
    · have hle := tk_le q (c :: r)
      have e1 : alls q (c :: r) = _ := rep_hit (f := tk q) (by simp) h0
      have e2 : alls q (c :: r ++ 60 :: b) = _ := rep_hit (f := tk q) (by simp) (by rw [ht]; exact h0)
      rw [e1, e2, ht, List.drop_append_of_le_length hle]
      have := alls_lt q b n ((c :: r).drop (tk q (c :: r)).2) (by rw [List.length_drop]; simp at h ⊢; omega)
      unfold alls at this
      rw [this, List.append_assoc]; rfl

theorem rep_len {f : Bs → Bs × Nat} (hf : ∀ m, (f m).1.length ≤ 6 * (f m).2) (hg : ∀ m, (f m).2 ≤ m.length) (l : Bs) : (rep f 0 l).length ≤ 6 * l.length := by
  have : ∀ k (m : Bs), (rep f k m).length + 6 * min k m.length ≤ 6 * m.length := by
    intro k m
    induction m generalizing k with
    | nil => rw [rep_nil]; simp
    | cons c r ih =>
      cases k with
      | succ k =>
        have := ih k
        show (rep f k r).length + 6 * min (k + 1) (r.length + 1) ≤ 6 * (r.length + 1)
        omega
      | zero =>
        rw [rep]
        split
        · have := ih 0
          simp only [List.length_cons]; omega
        · rename_i h0
          have h1 := ih ((f (c :: r)).2 - 1)
          have h2 := hf (c :: r)
          have h3 := hg (c :: r)
          rw [List.length_append]
          simp only [List.length_cons] at h3 ⊢
          omega
  have := this 0 l
  omega
theorem tab_chars : ∀ e ∈ tabN, e.2.1.length ≤ 6 := by decide +kernel
theorem numC_len (n : Int) : (numC n).length ≤ 4 := by
  unfold numC; split
  · decide
  · exact (enc_len _).2
theorem nm_chars (x : Bs) : (nm x).length ≤ 6 := by
  by_cases h : nm x = []
  · rw [h]; simp
  · obtain ⟨e, he, hx⟩ := nm_ne h
    have := tab_chars e he
    rcases hx with rfl | ⟨hb, rfl⟩
    · rw [nm_semi e he]; exact this
    · rw [nm_bare e he hb]; exact this
theorem tk_chars (q : Bool) (m : Bs) : (tk q m).1.length ≤ 6 * (tk q m).2 := by
  unfold tk
  split
  · rename_i r
    split
    · unfold tkN
      split
      · simp
      · have := numC_len (pv (hexB (r.drop 1)) (ndig (r.drop 1)))
        simp only; omega
    · split
      · simp
      · rcases fnd_is r with ⟨h1, _⟩ | ⟨k, h0, _, _, _, h4, _⟩
        · rw [h1]; simp
        · rw [h4]; have := nm_chars (r.take k); simp only; omega
  · simp
theorem alls_len (q : Bool) (l : Bs) : (alls q l).length ≤ 6 * l.length := rep_len (tk_chars q) (tk_le q) l

/-! ## what is written is read as it was -/
theorem fnd_semi {p x : Bs} (hp : p.all isLet = true) (hn : nm (p ++ [59]) ≠ []) : fnd (p ++ 59 :: x) = (nm (p ++ [59]), p.length + 1) := by
  have e : (p ++ 59 :: x).take (p.length + 1) = p ++ [59] := by
    rw [List.take_append, List.take_of_length_le (by omega), show p.length + 1 - p.length = 1 by omega]; rfl
  rw [← e]
  refine fnd_some (by omega) (by simp) (by rw [e]; exact hn) fun m h1 h2 => Decidable.not_not.1 fun hne => ?_
  obtain ⟨y, hy, hx⟩ := nm_ne hne
  have hl := tab_let y hy
  rw [List.all_eq_true] at hl
  have h59 : (p ++ 59 :: x)[p.length]? = some 59 := by simp
  have hlen : ((p ++ 59 :: x).take m).length = m := by rw [List.length_take]; omega
  have hm : ((p ++ 59 :: x).take m)[p.length]? = some 59 := by rw [List.getElem?_take_of_lt (by omega)]; exact h59
  rcases hx with hx | ⟨_, hx⟩
  · rw [hx] at hm hlen
    simp at hlen
    rw [List.getElem?_append_left (by omega)] at hm
    have := hl 59 (List.mem_of_getElem? hm)
    exact absurd this (by decide)
  · rw [hx] at hm
    have := hl 59 (List.mem_of_getElem? hm)
    exact absurd this (by decide)
theorem tk_entity (o : Bool) (p c x : Bs) (hp : p.all isLet = true) (h1 : p.head? ≠ some 35) (hpn : p ≠ []) (hn : nm (p ++ [59]) = c) (hc : c ≠ []) : tk o (38 :: (p ++ 59 :: x)) = (c, p.length + 2) := by
  have hf := fnd_semi (x := x) hp (by rw [hn]; exact hc)
  unfold tk
  simp only
  rw [if_neg (by cases p; exact absurd rfl hpn; exact h1), hf, hn]
  rw [if_neg]
  rintro (h | h)
  · simp at h
  · unfold nogo at h
    simp at h
theorem alls_entity (o : Bool) (p c x : Bs) (hp : p.all isLet = true) (h1 : p.head? ≠ some 35) (hpn : p ≠ []) (hn : nm (p ++ [59]) = c) (hc : c ≠ []) : alls o (38 :: (p ++ 59 :: x)) = c ++ alls o x := by
  have ht := tk_entity o p c x hp h1 hpn hn hc
  have := rep_hit (f := tk o) (l := 38 :: (p ++ 59 :: x)) (by simp) (by rw [ht]; simp)
  rw [ht] at this
  unfold alls
  rw [this]
  congr 2
  simp only
  rw [show p.length + 2 = (p.length + 1) + 1 from rfl, List.drop_succ_cons, List.drop_append]
  simp
theorem esc_back (q o : Bool) : ∀ n (l : Bs), l.length ≤ n → alls o (esc q l) = l
  | _, [], _ => rfl
  | 0, c :: r, h => by simp at h
  | n + 1, c :: r, h => by
    have ih : ∀ k, 1 ≤ k → alls o (esc q ((c :: r).drop k)) = (c :: r).drop k := fun k hk => esc_back q o n _ (by rw [List.length_drop]; simp at h ⊢; omega)
    have hit : (sgn q (c :: r)).2 ≠ 0 → esc q (c :: r) = (sgn q (c :: r)).1 ++ esc q ((c :: r).drop (sgn q (c :: r)).2) := fun h0 => rep_hit (f := sgn q) (by simp) h0
    have ent : ∀ (p ch : Bs) (k : Nat), 1 ≤ k → p.all isLet = true → p.head? ≠ some 35 → p ≠ [] → nm (p ++ [59]) = ch → ch ≠ [] → (c :: r).take k = ch → sgn q (c :: r) = (38 :: (p ++ [59]), k) → alls o (esc q (c :: r)) = c :: r := by
      intro p ch k hk hp h1 hpn hn hc htk hs
      have := hit (by rw [hs]; simp only; omega)
      rw [this, hs]
      simp only
      rw [show (38 :: (p ++ [59])) ++ esc q ((c :: r).drop k) = 38 :: (p ++ 59 :: esc q ((c :: r).drop k)) by simp]
      rw [alls_entity o p ch _ hp h1 hpn hn hc, ih k hk, ← htk, List.take_append_drop]
    have hs := sgn_cons q c r
    by_cases c1 : c.toNat = 38
    · rw [if_pos c1] at hs
      exact ent [97, 109, 112] [38] 1 (by omega) (by decide) (by decide) (by decide) (by decide +kernel) (by decide) (by simp; exact UInt8.toNat_inj.1 c1) hs
    rw [if_neg c1] at hs
    by_cases c2 : c.toNat = 60
    · rw [if_pos c2] at hs
      exact ent [108, 116] [60] 1 (by omega) (by decide) (by decide) (by decide) (by decide +kernel) (by decide) (by simp; exact UInt8.toNat_inj.1 c2) hs
    rw [if_neg c2] at hs
    by_cases c3 : c.toNat = 62
    · rw [if_pos c3] at hs
      exact ent [103, 116] [62] 1 (by omega) (by decide) (by decide) (by decide) (by decide +kernel) (by decide) (by simp; exact UInt8.toNat_inj.1 c3) hs
    rw [if_neg c3] at hs
    by_cases c4 : c.toNat = 34 ∧ q = true
    · rw [if_pos c4] at hs
      exact ent [113, 117, 111, 116] [34] 1 (by omega) (by decide) (by decide) (by decide) (by decide +kernel) (by decide) (by simp; exact UInt8.toNat_inj.1 c4.1) hs
    rw [if_neg c4] at hs
    by_cases c5 : Lib.hasPrefix (c :: r) [194, 160] = true
    · rw [if_pos c5] at hs
      exact ent [110, 98, 115, 112] [194, 160] 2 (by omega) (by decide) (by decide) (by decide) (by decide +kernel) (by decide) (prefix_take c5).2 hs
    rw [if_neg c5] at hs
    have h0 : (sgn q (c :: r)).2 = 0 := by rw [hs]
    have e1 : esc q (c :: r) = c :: esc q r := rep_miss h0
    rw [e1]
    have e2 : alls o (c :: esc q r) = c :: alls o (esc q r) := rep_miss (by rw [tk_amp (fun e => c1 (by rw [e]; rfl))])
    rw [e2]
    have := ih 1 (Nat.le_refl _)
    rw [List.drop_succ_cons, List.drop_zero] at this
    rw [this]
/-- no bare sign is left -/
theorem esc_clean (q : Bool) : ∀ n (l : Bs), l.length ≤ n → ∀ x ∈ esc q l, x ≠ 60 ∧ x ≠ 62 ∧ (q = true → x ≠ 34)
  | _, [], _ => fun x hx => by cases hx
  | 0, c :: r, h => by simp at h
  | n + 1, c :: r, h => by
    have ih : ∀ k, 1 ≤ k → ∀ x ∈ esc q ((c :: r).drop k), x ≠ 60 ∧ x ≠ 62 ∧ (q = true → x ≠ 34) := fun k hk => esc_clean q n _ (by rw [List.length_drop]; simp at h ⊢; omega)
    by_cases h0 : (sgn q (c :: r)).2 = 0
    · have e1 : esc q (c :: r) = c :: esc q r := rep_miss h0
      rw [e1]
      intro x hx
      rcases List.mem_cons.1 hx with rfl | hx
      · have hs := sgn_cons q x r
        by_cases c1 : x.toNat = 38
        · rw [if_pos c1] at hs; rw [hs] at h0; simp at h0
        rw [if_neg c1] at hs
        by_cases c2 : x.toNat = 60
        · rw [if_pos c2] at hs; rw [hs] at h0; simp at h0
        rw [if_neg c2] at hs
        by_cases c3 : x.toNat = 62
        · rw [if_pos c3] at hs; rw [hs] at h0; simp at h0
        rw [if_neg c3] at hs
        by_cases c4 : x.toNat = 34 ∧ q = true
        · rw [if_pos c4] at hs; rw [hs] at h0; simp at h0
        exact ⟨fun e => c2 (by rw [e]; rfl), fun e => c3 (by rw [e]; rfl), fun hq e => c4 ⟨by rw [e]; rfl, hq⟩⟩
      · exact ih 1 (Nat.le_refl _) x hx
    · have e1 : esc q (c :: r) = (sgn q (c :: r)).1 ++ esc q ((c :: r).drop (sgn q (c :: r)).2) := rep_hit (f := sgn q) (by simp) h0
      rw [e1]
      intro x hx
      rcases List.mem_append.1 hx with hx | hx
      · have key : ∀ y ∈ (sgn q (c :: r)).1, y ≠ 60 ∧ y ≠ 62 ∧ y ≠ 34 := by
          rw [sgn_cons]
          split; (· decide)
          split; (· decide)
          split; (· decide)
          split; (· decide)
          split; (· decide)
          decide
        have := key x hx
        exact ⟨this.1, this.2.1, fun _ => this.2.2⟩
      · exact ih _ (by omega) x hx
end Go.Proofs.Ytpepoccoljmmjaa
