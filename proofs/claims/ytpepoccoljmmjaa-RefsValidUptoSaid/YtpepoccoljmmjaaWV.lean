/- Of a text in UTF-8 comes a text in UTF-8: plain lists, and the walk. -/
import Derived.Test.YtpepoccoljmmjaaUZ
set_option linter.unusedVariables false
namespace Go.Proofs.Ytpepoccoljmmjaa
open Go.RowKit Go.Shelf

theorem ok_good {p r : Bs} (hp : good p = true) (hr : AllOk r) : AllOk (p ++ r) := by
  unfold AllOk
  rw [pcs_good_cons p r hp]
  intro x hx
  rcases List.mem_cons.1 hx with rfl | hx
  · rfl
  · exact hr x hx
theorem ok_parts {l : Bs} (hl : l ≠ []) (h : AllOk l) : ∃ p r, l = p ++ r ∧ good p = true ∧ AllOk r :=
  ⟨l.take (pc l).1, l.drop (pc l).1, (List.take_append_drop _ _).symm, good_pc l hl (ok_cons l hl h).1, (ok_cons l hl h).2⟩
theorem ok_append {b : Bs} (hb : AllOk b) : ∀ n (a : Bs), a.length ≤ n → AllOk a → AllOk (a ++ b)
  | _, [], _, _ => hb
  | 0, c :: a, h, _ => by simp at h
  | n + 1, c :: a, h, ha => by
    obtain ⟨p, r, e, hp, hr⟩ := ok_parts (List.cons_ne_nil _ _) ha
    rw [e, List.append_assoc]
    have hpn := good_ne hp
    have : 0 < p.length := List.length_pos_iff.2 hpn
    have hlen := congrArg List.length e
    rw [List.length_append] at hlen
    exact ok_good hp (ok_append hb n r (by simp at h hlen; omega) hr)
theorem ok_two {a b : Bs} (ha : AllOk a) (hb : AllOk b) : AllOk (a ++ b) := ok_append hb _ a (Nat.le_refl _) ha
theorem good_ascii {c : UInt8} (h : c.toNat < 128) : good [c] = true := by unfold good; simp; omega
/-- the first piece of a right text, when the first byte is one by itself -/
theorem ok_tail {c : UInt8} {r : Bs} (hc : c.toNat < 128) (h : AllOk (c :: r)) : AllOk r := by
  have := ok_cons (c :: r) (List.cons_ne_nil _ _) h
  have hp := pc_good [c] r (good_ascii hc)
  rw [show [c] ++ r = c :: r from rfl] at hp
  rw [hp] at this
  exact this.2
theorem ok_drop : ∀ (n : Nat) (l : Bs), n ≤ l.length → (∀ c ∈ l.take n, c.toNat < 128) → AllOk l → AllOk (l.drop n)
  | 0, l, _, _, h => h
  | n + 1, [], h, _, _ => by simp at h
  | n + 1, c :: r, hn, ha, h => ok_drop n r (by simpa using hn) (fun x hx => ha x (by rw [List.take_succ_cons]; exact List.mem_cons_of_mem _ hx)) (ok_tail (ha c (by rw [List.take_succ_cons]; exact List.mem_cons_self ..)) h)
theorem ok_ascii : ∀ l : Bs, (∀ c ∈ l, c.toNat < 128) → AllOk l
  | [], _ => ok_nil
  | c :: l, h => ok_good (p := [c]) (good_ascii (h c (List.mem_cons_self ..))) (ok_ascii l fun x hx => h x (List.mem_cons_of_mem _ hx))
/-- the bytes of a right piece behind its first one -/
theorem good_tail {p : Bs} (h : good p = true) : p.length = 1 ∨ ∀ i (hi : i < p.length), 1 ≤ i → 128 ≤ p[i].toNat ∧ p[i].toNat < 192 := by
  match p, h with
  | [a], _ => exact .inl rfl
  | [a, b], h =>
    simp only [good, decide_eq_true_eq] at h
    refine .inr fun i hi h1 => ?_
    simp at hi
    obtain rfl : i = 1 := by omega
    show 128 ≤ b.toNat ∧ b.toNat < 192; omega
  | [a, b, c], h =>
    simp only [good, decide_eq_true_eq] at h
    refine .inr fun i hi h1 => ?_
    simp at hi
    have : i = 1 ∨ i = 2 := by omega
    rcases this with rfl | rfl
    · show 128 ≤ b.toNat ∧ b.toNat < 192; omega
    · show 128 ≤ c.toNat ∧ c.toNat < 192; omega
  | [a, b, c, d], h =>
    simp only [good, decide_eq_true_eq] at h
    refine .inr fun i hi h1 => ?_
    simp at hi
    have : i = 1 ∨ i = 2 ∨ i = 3 := by omega
    rcases this with rfl | rfl | rfl
    · show 128 ≤ b.toNat ∧ b.toNat < 192; omega
    · show 128 ≤ c.toNat ∧ c.toNat < 192; omega
    · show 128 ≤ d.toNat ∧ d.toNat < 192; omega
theorem ok_rep {f : Bs → Bs × Nat} (hhit : ∀ l, l ≠ [] → AllOk l → (f l).2 ≠ 0 → AllOk (f l).1 ∧ AllOk (l.drop (f l).2)) (hmiss : ∀ c r, 128 ≤ c.toNat → c.toNat < 192 → (f (c :: r)).2 = 0) :
    ∀ n (l : Bs), l.length ≤ n → AllOk l → AllOk (rep f 0 l)
  | _, [], _, _ => by rw [rep_nil]; exact ok_nil
  | 0, c :: l, h, _ => by simp at h
  | n + 1, c :: l, h, hl => by
    by_cases h0 : (f (c :: l)).2 = 0
    · obtain ⟨p, r, e, hp, hr⟩ := ok_parts (List.cons_ne_nil _ _) hl
      have hpn : 0 < p.length := List.length_pos_iff.2 (good_ne hp)
      have hlen := congrArg List.length e
      rw [List.length_append] at hlen
      have hr' := ok_rep hhit hmiss n r (by simp at h hlen; omega) hr
      rw [e] at h0 ⊢
      rw [rep_pre r p fun i hi => ?_]
      · exact ok_good hp hr'
      · by_cases hi0 : i = 0
        · subst hi0; exact h0
        · rw [List.drop_append_of_le_length (by omega), List.drop_eq_getElem_cons hi, List.cons_append]
          rcases good_tail hp with h1 | h1
          · omega
          · have := h1 i hi (by omega)
            exact hmiss _ _ this.1 this.2
    · obtain ⟨h1, h2⟩ := hhit _ (List.cons_ne_nil _ _) hl h0
      rw [rep_hit (List.cons_ne_nil _ _) h0]
      exact ok_two h1 (ok_rep hhit hmiss n _ (by rw [List.length_drop]; simp at h ⊢; omega) h2)
theorem dg_ascii {h : Bool} {c : UInt8} (hd : 0 ≤ dg h c) : c.toNat < 128 := by
  unfold dg at hd
  split at hd
  · omega
  · split at hd
    · omega
    · split at hd <;> omega
theorem isX_ascii {c : UInt8} (h : isX c = true) : c.toNat < 128 := by unfold isX at h; simp at h; omega
theorem let_ascii {c : UInt8} (h : isLet c = true) : c.toNat < 128 := by unfold isLet at h; simp at h; omega
theorem nm_ascii {x : Bs} (h : nm x ≠ []) : ∀ c ∈ x, c.toNat < 128 := by
  obtain ⟨e, he, hx⟩ := nm_ne h
  have hl := tab_let e he
  rw [List.all_eq_true] at hl
  intro c hc
  rcases hx with rfl | ⟨_, rfl⟩
  · rcases List.mem_append.1 hc with hc | hc
    · exact let_ascii (hl c hc)
    · have : c = 59 := by simpa using hc
      rw [this]; decide
  · exact let_ascii (hl c hc)
theorem tab_okc : ∀ e ∈ tabN, flt e.2.1 = e.2.1.length := by
  intro e he
  apply flt_ok
  have := tabR_is
  rw [this] at he
  obtain ⟨x, hx, rfl⟩ := List.mem_map.1 he
  have e1 : ∀ n : Nat, enc (n : Nat) = encs [(n : Int)] := fun n => by simp [encs]
  show AllOk (enc (x.2.1 : Nat) ++ if 0 < x.2.2.1 then enc (x.2.2.1 : Nat) else [])
  refine ok_two (by rw [e1]; exact ok_encs _) ?_
  split
  · rw [e1]; exact ok_encs _
  · exact ok_nil
theorem nm_ok (x : Bs) : AllOk (nm x) := by
  by_cases h : nm x = []
  · rw [h]; exact ok_nil
  · obtain ⟨e, he, hx⟩ := nm_ne h
    have := ok_flt _ (tab_okc e he)
    rcases hx with rfl | ⟨hb, rfl⟩
    · rw [nm_semi e he]; exact this
    · rw [nm_bare e he hb]; exact this
theorem numC_ok (n : Int) : AllOk (numC n) := by
  unfold numC
  split
  · exact ok_flt _ (by decide +kernel)
  · have e1 : ∀ m : Int, enc m = encs [m] := fun m => by simp [encs]
    rw [e1]; exact ok_encs _
/-- what a number's reference takes -/
theorem tkN_ascii (r : Bs) (h0 : (tkN r).2 ≠ 0) : AllOk (tkN r).1 ∧ ∀ c ∈ r.take ((tkN r).2 - 2), c.toNat < 128 := by
  unfold tkN at h0 ⊢
  split
  · rename_i h; rw [if_pos h] at h0; exact absurd rfl h0
  · rename_i h
    refine ⟨numC_ok _, ?_⟩
    simp only
    have hd : digs (hexB r) (r.drop (nbg r)) = (r.drop (nbg r)).take (ndig r).length := digs_pre _ _
    have hall : ∀ c ∈ ndig r, c.toNat < 128 := fun c hc => dg_ascii (digs_all _ _ c hc)
    have hpre : ∀ c ∈ r.take (nbg r), c.toNat < 128 := fun c hc => by
      unfold nbg at hc
      split at hc
      · rename_i hx
        cases r with
        | nil => simp at hc
        | cons a r => rw [List.take_succ_cons, List.take_zero] at hc; have : c = a := by simpa using hc
                      rw [this]; exact isX_ascii hx
      · simp at hc
    have hboth : ∀ c ∈ r.take (nbg r + (ndig r).length), c.toNat < 128 := fun c hc => by
      rw [List.take_add] at hc
      rcases List.mem_append.1 hc with hc | hc
      · exact hpre c hc
      · rw [← hd] at hc; exact hall c hc
    split
    · rename_i hs
      intro c hc
      rw [show 2 + nbg r + (ndig r).length + 1 - 2 = (nbg r + (ndig r).length) + 1 by omega, List.take_add] at hc
      rcases List.mem_append.1 hc with hc | hc
      · exact hboth c hc
      · cases hq : r.drop (nbg r + (ndig r).length) with
        | nil => rw [hq] at hc; simp at hc
        | cons a t =>
          rw [hq] at hc hs
          have h1 : a = 59 := by simpa using hs
          have h2 : c = a := by simpa using hc
          rw [h2, h1]; decide
    · intro c hc
      rw [show 2 + nbg r + (ndig r).length + 0 - 2 = nbg r + (ndig r).length by omega] at hc
      exact hboth c hc
theorem tk_ok (q : Bool) (l : Bs) (hl : l ≠ []) (h : AllOk l) (h0 : (tk q l).2 ≠ 0) : AllOk (tk q l).1 ∧ AllOk (l.drop (tk q l).2) := by
  have hle := tk_le q l
  suffices hs : AllOk (tk q l).1 ∧ ∀ c ∈ l.take (tk q l).2, c.toNat < 128 from ⟨hs.1, ok_drop _ l hle hs.2 h⟩
  clear hle
  cases l with
  | nil => exact absurd rfl hl
  | cons c r =>
    by_cases hc : c = 38
    · subst hc
      unfold tk at h0 ⊢
      simp only at h0 ⊢
      by_cases h35 : r.head? = some 35
      · rw [if_pos h35] at h0 ⊢
        obtain ⟨r', rfl⟩ : ∃ r', r = 35 :: r' := by cases r with | nil => simp at h35 | cons d r' => exact ⟨r', by simp at h35; rw [h35]⟩
        rw [show (35 :: r').drop 1 = r' from rfl] at h0 ⊢
        obtain ⟨h1, h2⟩ := tkN_ascii r' h0
        refine ⟨h1, fun c hc => ?_⟩
        have hn2 : 2 ≤ (tkN r').2 := by
          unfold tkN at h0 ⊢
          split
          · rename_i hh; rw [if_pos hh] at h0; exact absurd rfl h0
          · simp only; omega
        obtain ⟨n, hn⟩ : ∃ n, (tkN r').2 = n + 2 := ⟨(tkN r').2 - 2, by omega⟩
        rw [hn, show n + 2 = (n + 1) + 1 from rfl, List.take_succ_cons, List.take_succ_cons] at hc
        rw [hn, show n + 2 - 2 = n by omega] at h2
        rcases List.mem_cons.1 hc with rfl | hc
        · decide
        · rcases List.mem_cons.1 hc with rfl | hc
          · decide
          · exact h2 c hc
      · rw [if_neg h35] at h0 ⊢
        split
        · rename_i hh; rw [if_pos hh] at h0; exact absurd rfl h0
        · rename_i hh
          simp only
          rcases fnd_is r with ⟨h1, _⟩ | ⟨k, hk0, hk1, hk2, hk3, hk4, _⟩
          · rw [h1] at hh; exact absurd (.inl rfl) hh
          · rw [hk4]
            refine ⟨nm_ok _, fun c hc => ?_⟩
            simp only at hc
            rw [List.take_succ_cons] at hc
            rcases List.mem_cons.1 hc with rfl | hc
            · decide
            · exact nm_ascii hk3 c hc
    · rw [tk_amp hc] at h0; exact absurd rfl h0
theorem sgn_ok (q : Bool) (l : Bs) (hl : l ≠ []) (h : AllOk l) (h0 : (sgn q l).2 ≠ 0) : AllOk (sgn q l).1 ∧ AllOk (l.drop (sgn q l).2) := by
  cases l with
  | nil => exact absurd rfl hl
  | cons c r =>
    have hs := sgn_cons q c r
    have a1 : ∀ x : Bs, (∀ c ∈ x, c.toNat < 128) → AllOk x := ok_ascii
    by_cases c1 : c.toNat = 38
    · rw [if_pos c1] at hs; rw [hs]; exact ⟨a1 _ (by decide), ok_tail (by omega) h⟩
    rw [if_neg c1] at hs
    by_cases c2 : c.toNat = 60
    · rw [if_pos c2] at hs; rw [hs]; exact ⟨a1 _ (by decide), ok_tail (by omega) h⟩
    rw [if_neg c2] at hs
    by_cases c3 : c.toNat = 62
    · rw [if_pos c3] at hs; rw [hs]; exact ⟨a1 _ (by decide), ok_tail (by omega) h⟩
    rw [if_neg c3] at hs
    by_cases c4 : c.toNat = 34 ∧ q = true
    · rw [if_pos c4] at hs; rw [hs]; exact ⟨a1 _ (by decide), ok_tail (by omega) h⟩
    rw [if_neg c4] at hs
    by_cases c5 : Lib.hasPrefix (c :: r) [194, 160] = true
    · rw [if_pos c5] at hs; rw [hs]
      refine ⟨a1 _ (by decide), ?_⟩
      obtain ⟨t, ht⟩ := List.isPrefixOf_iff_prefix.1 c5
      have hx := ok_cons (c :: r) (List.cons_ne_nil _ _) h
      rw [← ht] at hx ⊢
      rw [pc_good [194, 160] t (by decide)] at hx
      exact hx.2
    rw [if_neg c5] at hs
    rw [hs] at h0; exact absurd rfl h0
theorem alls_ok (q : Bool) {l : Bs} (h : AllOk l) : AllOk (alls q l) :=
  ok_rep (tk_ok q) (fun c r h1 h2 => by rw [tk_amp (fun e => by rw [e] at h1; exact absurd h1 (by decide))]) _ l (Nat.le_refl _) h
theorem esc_ok (q : Bool) {l : Bs} (h : AllOk l) : AllOk (esc q l) :=
  ok_rep (sgn_ok q) (fun c r h1 h2 => by
    rw [sgn_cons, if_neg (by omega), if_neg (by omega), if_neg (by omega), if_neg (by omega)]
    rw [if_neg]
    intro hp
    have := (prefix_take hp).2
    have hc : c = 194 := by simpa using congrArg List.head? this
    rw [hc] at h2; exact absurd h2 (by decide)) _ l (Nat.le_refl _) h
end Go.Proofs.Ytpepoccoljmmjaa
