/- A media type's text, read back: plain lists. -/
import Derived.Test.YtkadingpmebjbaaDoorP
import Derived.Test.YtkadingpmebjbaaDoorU
import Derived.Test.YtkadingpmebjbaaDoorBB
set_option linter.unusedVariables false
namespace Go.Proofs.YtkadingpmebjbaaDoor

theorem tch_lwr_all : ∀ n : Fin 256, (!tch (UInt8.ofNat n.val) || tch (lwr (UInt8.ofNat n.val))) = true := by decide +kernel
theorem tch_lwr (c : UInt8) (h : tch c = true) : tch (lwr c) = true := by
  have := all_bytes (P := fun c => (!tch c || tch (lwr c)) = true) tch_lwr_all c
  simpa [h] using this
theorem lwr_lwr_all : ∀ n : Fin 256, lwr (lwr (UInt8.ofNat n.val)) = lwr (UInt8.ofNat n.val) := by decide +kernel
theorem lwr_lwr (c : UInt8) : lwr (lwr c) = lwr c := all_bytes (P := fun c => lwr (lwr c) = lwr c) lwr_lwr_all c
theorem tch_qb_all : ∀ n : Fin 256, (!tch (UInt8.ofNat n.val) || qb (UInt8.ofNat n.val)) = true := by decide +kernel
theorem tch_qb (c : UInt8) (h : tch c = true) : qb c = true := by
  have := all_bytes (P := fun c => (!tch c || qb c) = true) tch_qb_all c
  simpa [h] using this
theorem tch_nb_all : ∀ n : Fin 256, (!tch (UInt8.ofNat n.val) || !blanks.contains (UInt8.ofNat n.val)) = true := by decide +kernel
theorem tch_nb (c : UInt8) (h : tch c = true) : blanks.contains c = false := by
  have := all_bytes (P := fun c => (!tch c || !blanks.contains c) = true) tch_nb_all c
  simpa [h] using this

theorem tok_app (a : List UInt8) (r : List UInt8) (h : a.all tch = true) (hr : r = [] ∨ tch (r.headD 0) = false) : tok (a ++ r) = a.length := by
  induction a with
  | nil =>
    rcases hr with rfl | hr
    · rfl
    · cases r with
      | nil => rfl
      | cons c r => rw [List.nil_append, tok_cons, if_neg (by simpa using hr)]; rfl
  | cons c a ih =>
    simp only [List.all_cons, Bool.and_eq_true] at h
    rw [List.cons_append, tok_cons, if_pos h.1, ih h.2]; rfl
theorem tok_all (l : List UInt8) : (l.take (tok l)).all tch = true := by
  induction l with
  | nil => rfl
  | cons c r ih =>
    rw [tok_cons]
    by_cases h : tch c = true
    · rw [if_pos h, List.take_succ_cons]; simp only [List.all_cons, h, ih, Bool.and_self]
    · rw [if_neg h]; rfl
theorem isTok_all {l : List UInt8} (h : isTok l = true) : l.all tch = true ∧ l ≠ [] := by
  unfold isTok at h
  simp only [Bool.and_eq_true, Bool.not_eq_true', decide_eq_true_eq] at h
  have := tok_all l
  rw [h.2, List.take_length] at this
  exact ⟨this, fun e => by rw [e] at h; simp at h⟩
theorem all_isTok {l : List UInt8} (h : l.all tch = true) (hn : l ≠ []) : isTok l = true := by
  have := tok_app l [] h (.inl rfl)
  rw [List.append_nil] at this
  rw [isTok_ne hn]; simpa using this
theorem small_of_tok (l : List UInt8) (h : tok l ≠ 0) : isSmall ((l.take (tok l)).map lwr) = true := by
  have ha := tok_all l
  refine isSmall_yes (all_isTok ?_ ?_) ?_
  · rw [List.all_map, List.all_eq_true]
    intro c hc
    exact tch_lwr c (by rw [List.all_eq_true] at ha; exact ha c hc)
  · intro e
    have := congrArg List.length e
    have hle := tok_le l
    simp only [List.length_map, List.length_take, List.length_nil] at this
    omega
  · rw [List.map_map]; congr 1; funext c; exact lwr_lwr c
theorem small_all {l : List UInt8} (h : isSmall l = true) : l.all tch = true ∧ l ≠ [] ∧ l.map lwr = l := by
  unfold isSmall at h
  simp only [Bool.and_eq_true, decide_eq_true_eq] at h
  exact ⟨(isTok_all h.1).1, (isTok_all h.1).2, h.2⟩
theorem unqR_qb (r acc : List UInt8) (n : Nat) (x : List UInt8 × Nat) (ha : acc.all qb = true) (h : unqR r acc n = some x) : x.1.all qb = true := by
  match r with
  | [] => rw [unqR_nil] at h; cases h
  | c :: r =>
    by_cases h1 : c.toNat = 34
    · rw [unqR_end _ _ _ _ h1] at h; simp only [Option.some.injEq] at h; subst h; exact ha
    · by_cases h2 : c.toNat = 92
      · match r with
        | [] => rw [unqR_esc0 _ _ _ h2] at h; cases h
        | d :: r =>
          rw [unqR_esc1 _ _ _ _ _ h2] at h
          by_cases hq : qb d = true
          · rw [if_pos hq] at h
            exact unqR_qb r (acc ++ [d]) _ x (by simp [List.all_append, ha, hq]) h
          · rw [if_neg hq] at h; cases h
      · rw [unqR_one _ _ _ _ h1 h2] at h
        by_cases hq : qb c = true
        · rw [if_pos hq] at h
          exact unqR_qb r (acc ++ [c]) _ x (by simp [List.all_append, ha, hq]) h
        · rw [if_neg hq] at h; cases h
termination_by r.length
theorem unq_qb (l : List UInt8) (x : List UInt8 × Nat) (h : unq l = some x) : x.1.all qb = true := by
  cases l with
  | nil => cases h
  | cons c r =>
    unfold unq at h
    simp only at h
    split at h
    · exact unqR_qb r [] 1 x rfl h
    · cases h
theorem prm_ok (l : List UInt8) (x : (List UInt8 × List UInt8) × Nat) (h : prm l = some x) : okP x.1 = true := by
  unfold prm at h
  split at h
  · cases h
  · rename_i hn
    have hs := small_of_tok l (fun e => hn (.inl e))
    split at h
    · simp only [Option.some.injEq] at h
      subst h
      unfold okP
      simp only [hs, Bool.true_and]
      have ha := tok_all (l.drop (tok l + 1))
      rw [List.all_eq_true] at ha ⊢
      exact fun c hc => tch_qb c (ha c hc)
    · cases hu : unq (l.drop (tok l + 1)) with
      | none => rw [hu] at h; cases h
      | some y =>
        rw [hu] at h
        simp only [Option.some.injEq] at h
        subst h
        unfold okP
        simp only [hs, Bool.true_and]
        exact unq_qb _ y hu
theorem prsF_ok : ∀ (f : Nat) (l : List UInt8) (ps : PL), prsF f l = some ps → ∀ p ∈ ps, okP p = true
  | 0, l, ps, h => by simp only [prsF, Option.some.injEq] at h; subst h; simp
  | f + 1, l, ps, h => by
    simp only [prsF] at h
    split at h
    · simp only [Option.some.injEq] at h; subst h; simp
    · split at h
      · cases h
      · split at h
        · exact prsF_ok f _ ps h
        · cases hp : prm (skip (skip l).tail) with
          | none => rw [hp] at h; cases h
          | some x =>
            rw [hp] at h
            simp only at h
            cases hr : prsF f ((skip (skip l).tail).drop x.2) with
            | none => rw [hr] at h; cases h
            | some m =>
              rw [hr] at h
              simp only [Option.map_some, Option.some.injEq] at h
              subst h
              intro p hpm
              rcases List.mem_cons.1 hpm with rfl | hpm
              · exact prm_ok _ x hp
              · exact prsF_ok f _ m hr p hpm
/-- media types that have a text -/
def Textual (x : List UInt8 × List UInt8 × PL) : Prop := isSmall x.1 = true ∧ isSmall x.2.1 = true ∧ ∀ p ∈ x.2.2, okP p = true
theorem media_textual (l : List UInt8) (x : List UInt8 × List UInt8 × PL) (h : media l = some x) : Textual x := by
  unfold media at h
  split at h
  · cases h
  · rename_i hn
    split at h
    · cases h
    · rename_i hn2
      cases hp : prs (((trim l).drop (tok (trim l) + 1)).drop (tok ((trim l).drop (tok (trim l) + 1)))) with
      | none => rw [hp] at h; cases h
      | some ps =>
        rw [hp] at h
        simp only [Option.map_some, Option.some.injEq] at h
        subst h
        exact ⟨small_of_tok _ (fun e => hn (.inl e)), small_of_tok _ hn2, prsF_ok _ _ ps hp⟩

theorem textP_cons (p : List UInt8 × List UInt8) (r : PL) : textP (p :: r) = 59 :: 32 :: (p.1 ++ 61 :: ((if isTok p.2 = true then p.2 else quote p.2) ++ textP r)) := by
  simp [textP]
theorem textP_head (r : PL) : textP r = [] ∨ tch ((textP r).headD 0) = false := by
  cases r with
  | nil => exact .inl rfl
  | cons p r => right; rw [textP_cons]; exact (show tch 59 = false by decide)
theorem skip_head (l : List UInt8) (h : l = [] ∨ blanks.contains (l.headD 0) = false) : skip l = l := by
  cases l with
  | nil => rfl
  | cons c r =>
    rcases h with h | h
    · cases h
    · exact tl_no c r h
theorem prm_text (p : List UInt8 × List UInt8) (r : PL) (h : okP p = true) :
    prm (p.1 ++ 61 :: ((if isTok p.2 = true then p.2 else quote p.2) ++ textP r)) = some (p, p.1.length + 1 + (if isTok p.2 = true then p.2 else quote p.2).length) := by
  unfold okP at h
  rw [Bool.and_eq_true] at h
  obtain ⟨s1, s2, s3⟩ := small_all h.1
  obtain ⟨v, hv⟩ : ∃ v, v = (if isTok p.2 = true then p.2 else quote p.2) := ⟨_, rfl⟩
  rw [← hv]
  have ht : tok (p.1 ++ 61 :: (v ++ textP r)) = p.1.length := tok_app _ _ s1 (.inr (show tch 61 = false by decide))
  have hpos : 0 < p.1.length := by cases hp : p.1; exact absurd hp s2; simp
  have hg : (p.1 ++ 61 :: (v ++ textP r)).getD p.1.length 0 = 61 := by
    rw [List.getD_eq_getElem?_getD, List.getElem?_append_right (Nat.le_refl _)]; simp
  have hd : (p.1 ++ 61 :: (v ++ textP r)).drop (p.1.length + 1) = v ++ textP r := by
    rw [show p.1 ++ 61 :: (v ++ textP r) = (p.1 ++ [61]) ++ (v ++ textP r) by simp, List.drop_append_of_le_length (by simp), List.drop_eq_nil_iff.2 (by simp)]; rfl
  have hk : (p.1 ++ 61 :: (v ++ textP r)).take p.1.length = p.1 := List.take_left
  unfold prm
  rw [ht, hg, hd, hk, s3]
  rw [if_neg (by simp only [List.length_append, List.length_cons]; intro h; rcases h with h | h | h; omega; omega; exact h (by decide))]
  by_cases hT : isTok p.2 = true
  · rw [if_pos hT] at hv
    obtain ⟨t1, t2⟩ := isTok_all hT
    rw [hv, tok_app p.2 (textP r) t1 (textP_head r)]
    have hp2 : 0 < p.2.length := by cases hp : p.2; exact absurd hp t2; simp
    rw [if_pos hp2, List.take_left]
  · rw [if_neg hT] at hv
    have hq : (quote p.2).headD 0 = 34 := by unfold quote; rw [if_pos h.2]; rfl
    have hn : quote p.2 ≠ [] := by unfold quote; rw [if_pos h.2]; simp
    have ht0 : tok (quote p.2 ++ textP r) = 0 := by
      refine tok_quote _ ?_
      cases hqq : quote p.2 with
      | nil => exact absurd hqq hn
      | cons c q => rw [hqq] at hq; simp only [List.headD_cons] at hq; rw [hq]; rfl
    rw [hv, ht0, if_neg (by omega), unq_quote _ _ h.2]
theorem prs_text (ps : PL) (h : ∀ p ∈ ps, okP p = true) : prs (textP ps) = some ps := by
  induction ps with
  | nil => rfl
  | cons p r ih =>
    have hp := h p (by simp)
    have ihr := ih (fun q hq => h q (by simp [hq]))
    have hpt := prm_text p r hp
    unfold okP at hp
    rw [Bool.and_eq_true] at hp
    obtain ⟨s1, s2, s3⟩ := small_all hp.1
    obtain ⟨v, hv⟩ : ∃ v, v = (if isTok p.2 = true then p.2 else quote p.2) := ⟨_, rfl⟩
    rw [← hv] at hpt
    rw [textP_cons, ← hv]
    obtain ⟨c, nm, hc⟩ : ∃ c nm, p.1 = c :: nm := by cases hh : p.1; exact absurd hh s2; exact ⟨_, _, rfl⟩
    have hcb : blanks.contains c = false := tch_nb c (by rw [hc] at s1; simp only [List.all_cons, Bool.and_eq_true] at s1; exact s1.1)
    have e1 : skip (59 :: 32 :: (p.1 ++ 61 :: (v ++ textP r))) = 59 :: 32 :: (p.1 ++ 61 :: (v ++ textP r)) := skip_head _ (.inr (show blanks.contains 59 = false by decide))
    have e2 : skip (32 :: (p.1 ++ 61 :: (v ++ textP r))) = p.1 ++ 61 :: (v ++ textP r) := by
      have : skip (32 :: (p.1 ++ 61 :: (v ++ textP r))) = skip (p.1 ++ 61 :: (v ++ textP r)) := tl_yes _ _ (by decide)
      rw [this]
      exact skip_head _ (.inr (by rw [hc]; exact hcb))
    have ht : tok (p.1 ++ 61 :: (v ++ textP r)) = p.1.length := tok_app _ _ s1 (.inr (show tch 61 = false by decide))
    obtain ⟨_, st⟩ := prs_step (59 :: 32 :: (p.1 ++ 61 :: (v ++ textP r))) (by simp)
    rw [e1] at st
    obtain ⟨_, st2⟩ := st (by rintro (h | h); cases h; exact h (show (59 : UInt8).toNat = 59 by decide))
    simp only [List.tail_cons] at st2
    rw [e2] at st2
    obtain ⟨_, st3⟩ := st2 (by rw [ht, hc]; simp)
    rw [st3 _ hpt]
    have hd : (p.1 ++ 61 :: (v ++ textP r)).drop (p.1.length + 1 + v.length) = textP r := by
      rw [show p.1 ++ 61 :: (v ++ textP r) = (p.1 ++ [61] ++ v) ++ textP r by simp, List.drop_append_of_le_length (by simp; omega), List.drop_eq_nil_iff.2 (by simp; omega)]; rfl
    simp only
    rw [hd, ihr]; rfl
theorem tr_tok {y : List UInt8} (h : y.all tch = true) (hn : y ≠ []) : tr y = y := by
  have hpos : 0 < y.length := by cases y; contradiction; simp
  refine (tr_last y hpos).2 (tch_nb _ ?_)
  rw [getD_at' (by omega)]
  rw [List.all_eq_true] at h
  exact h _ (List.getElem_mem _)
theorem tr_end {x y : List UInt8} (h : tr y = y) (hn : y ≠ []) : tr (x ++ y) = x ++ y := by rw [tr_append, if_neg (by rw [h]; exact hn), h]
theorem quote_tr {l : List UInt8} (h : l.all qb = true) : tr (quote l) = quote l ∧ quote l ≠ [] := by
  unfold quote
  rw [if_pos h]
  refine ⟨?_, by simp⟩
  rw [show (34 :: (l.flatMap esc ++ [34]) : List UInt8) = (34 :: l.flatMap esc) ++ [34] by simp]
  exact tr_end tr_34 (by simp)
theorem textP_tr (ps : PL) (h : ∀ p ∈ ps, okP p = true) : textP ps = [] ∨ (tr (textP ps) = textP ps ∧ textP ps ≠ []) := by
  induction ps with
  | nil => exact .inl rfl
  | cons p r ih =>
    right
    have hp := h p (by simp)
    unfold okP at hp
    rw [Bool.and_eq_true] at hp
    obtain ⟨v, hv⟩ : ∃ v, v = (if isTok p.2 = true then p.2 else quote p.2) := ⟨_, rfl⟩
    have hvt : tr v = v ∧ v ≠ [] := by
      by_cases hT : isTok p.2 = true
      · rw [if_pos hT] at hv; rw [hv]
        obtain ⟨t1, t2⟩ := isTok_all hT
        exact ⟨tr_tok t1 t2, t2⟩
      · rw [if_neg hT] at hv; rw [hv]; exact quote_tr hp.2
    rw [textP_cons, ← hv]
    refine ⟨?_, by simp⟩
    rw [show (59 :: 32 :: (p.1 ++ 61 :: (v ++ textP r)) : List UInt8) = (59 :: 32 :: (p.1 ++ [61])) ++ (v ++ textP r) by simp]
    rcases ih (fun q hq => h q (by simp [hq])) with e | ⟨e1, e2⟩
    · rw [e, List.append_nil]; exact tr_end hvt.1 hvt.2
    · exact tr_end (tr_end e1 e2) (by simp [e2])
theorem media_text (ty sub : List UInt8) (ps : PL) (h : Textual (ty, sub, ps)) (pre post : List UInt8) (hpre : pre = [] ∨ pre = [9]) (hpost : post = [] ∨ post = [32]) :
    media (pre ++ textM ty sub ps ++ post) = some (ty, sub, ps) := by
  obtain ⟨h1, h2, h3⟩ := h
  simp only at h1 h2 h3
  obtain ⟨s1, s2, s3⟩ := small_all h1
  obtain ⟨u1, u2, u3⟩ := small_all h2
  have hM : textM ty sub ps = ty ++ 47 :: (sub ++ textP ps) := by
    rw [textM_good h1 h2 (fun j hj => h3 _ (List.getElem_mem hj))]; simp
  rw [hM]
  have htr : tr (ty ++ 47 :: (sub ++ textP ps)) = ty ++ 47 :: (sub ++ textP ps) := by
    rw [show ty ++ 47 :: (sub ++ textP ps) = (ty ++ [47]) ++ (sub ++ textP ps) by simp]
    rcases textP_tr ps h3 with e | ⟨e1, e2⟩
    · rw [e, List.append_nil]; exact tr_end (tr_tok u1 u2) u2
    · exact tr_end (tr_end e1 e2) (by simp [e2])
  have htrim : trim (pre ++ (ty ++ 47 :: (sub ++ textP ps)) ++ post) = ty ++ 47 :: (sub ++ textP ps) := by
    obtain ⟨c, t, hc⟩ : ∃ c t, ty = c :: t := by cases hh : ty; exact absurd hh s2; exact ⟨_, _, rfl⟩
    have hcb : blanks.contains c = false := tch_nb c (by rw [hc] at s1; simp only [List.all_cons, Bool.and_eq_true] at s1; exact s1.1)
    have e1 : tl (pre ++ (ty ++ 47 :: (sub ++ textP ps)) ++ post) = (ty ++ 47 :: (sub ++ textP ps)) ++ post := by
      rw [hc]
      rcases hpre with rfl | rfl
      · exact tl_no c _ hcb
      · show tl (9 :: c :: _) = _
        rw [tl_yes _ _ (by decide)]; exact tl_no c _ hcb
    rw [trim_is, e1, tr_append, if_pos (by rcases hpost with rfl | rfl <;> decide)]
    exact htr
  unfold media
  rw [htrim]
  have ht : tok (ty ++ 47 :: (sub ++ textP ps)) = ty.length := tok_app _ _ s1 (.inr (show tch 47 = false by decide))
  have hpos : 0 < ty.length := by cases hh : ty; exact absurd hh s2; simp
  have hpos2 : 0 < sub.length := by cases hh : sub; exact absurd hh u2; simp
  have hg : (ty ++ 47 :: (sub ++ textP ps)).getD ty.length 0 = 47 := by
    rw [List.getD_eq_getElem?_getD, List.getElem?_append_right (Nat.le_refl _)]; simp
  have hd : (ty ++ 47 :: (sub ++ textP ps)).drop (ty.length + 1) = sub ++ textP ps := by
    rw [show ty ++ 47 :: (sub ++ textP ps) = (ty ++ [47]) ++ (sub ++ textP ps) by simp, List.drop_append_of_le_length (by simp), List.drop_eq_nil_iff.2 (by simp)]; rfl
  have hk : (ty ++ 47 :: (sub ++ textP ps)).take ty.length = ty := List.take_left
  have ht2 : tok (sub ++ textP ps) = sub.length := tok_app _ _ u1 (textP_head ps)
  rw [ht, hg, hd, hk, ht2, s3]
  rw [if_neg (by simp only [List.length_append, List.length_cons]; intro h; rcases h with h | h | h; omega; omega; exact h (by decide)), if_neg (by omega)]
  rw [List.take_left, List.drop_left, prs_text ps h3, u3]; rfl
theorem textM_ne (ty sub : List UInt8) (ps : PL) (h : textM ty sub ps ≠ []) : Textual (ty, sub, ps) := by
  unfold textM at h
  split at h
  · rename_i hc
    simp only [Bool.and_eq_true, List.all_eq_true] at hc
    refine ⟨hc.1.1, hc.1.2, fun p hp => ?_⟩
    have := hc.2 p hp
    unfold okP
    simpa using this
  · exact absurd rfl h
theorem textM_pos (ty sub : List UInt8) (ps : PL) (h : Textual (ty, sub, ps)) : textM ty sub ps ≠ [] := by
  obtain ⟨h1, h2, h3⟩ := h
  rw [textM_good h1 h2 (fun j hj => h3 _ (List.getElem_mem hj))]; simp
end Go.Proofs.YtkadingpmebjbaaDoor
