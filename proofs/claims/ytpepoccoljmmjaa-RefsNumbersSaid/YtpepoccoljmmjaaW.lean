/- All characters of a row of bytes. -/
import Derived.Test.YtpepoccoljmmjaaV
set_option linter.unusedVariables false
namespace Go.Proofs.Ytpepoccoljmmjaa

instance (r : Int) : Decidable (isChar r) := by unfold isChar; infer_instance
def chrOf (p : List UInt8 × Bool) : Nat := if p.2 = true then val p.1 else 65533
/-- the characters -/
def rns (l : List UInt8) : List Nat := (pcs l).map chrOf
def fixp (p : List UInt8 × Bool) : List UInt8 × Bool := if p.2 = true then p else (fffd, true)
def AllOk (l : List UInt8) : Prop := ∀ p ∈ pcs l, p.2 = true

theorem good_fffd : good fffd = true := by decide
theorem val_fffd : val fffd = 65533 := by decide
theorem pcs_good (l : List UInt8) : ∀ p ∈ pcs l, p.2 = true → good p.1 = true := by
  induction l using len_ind with
  | _ l ih =>
    by_cases h : l = []
    · subst h; simp [pcs_nil]
    · have hb := pc_bd l h
      rw [pcs_cons l h]
      intro p hp ht
      rcases List.mem_cons.1 hp with rfl | hp
      · exact good_pc l h ht
      · exact ih _ (by simp only [List.length_drop]; omega) p hp ht

theorem good_ne {p : List UInt8} (h : good p = true) : p ≠ [] := by rintro rfl; simp [good] at h
theorem pcs_good_cons (p r : List UInt8) (h : good p = true) : pcs (p ++ r) = (p, true) :: pcs r := by
  have hne : p ++ r ≠ [] := by have := good_ne h; simp [this]
  rw [pcs_cons _ hne, pc_good p r h]
  simp

theorem out_good (l : List UInt8) (h : l ≠ []) : good (if (pc l).2 = true then l.take (pc l).1 else fffd) = true := by
  split
  · rename_i ho; exact good_pc l h ho
  · exact good_fffd

theorem pcs_dec (l : List UInt8) : pcs (dec l) = (pcs l).map fixp := by
  induction l using len_ind with
  | _ l ih =>
    by_cases h : l = []
    · subst h; simp [pcs_nil, dec_nil]
    · have hb := pc_bd l h
      rw [dec_cons l h, pcs_good_cons _ _ (out_good l h), ih _ (by simp only [List.length_drop]; omega), pcs_cons l h, List.map_cons]
      unfold fixp
      simp only
      split
      · rename_i ho; simp [ho]
      · rfl
theorem dec_ok (l : List UInt8) : AllOk (dec l) := by
  intro p hp
  rw [pcs_dec] at hp
  obtain ⟨q, _, rfl⟩ := List.mem_map.1 hp
  unfold fixp
  split
  · assumption
  · rfl
theorem rns_dec (l : List UInt8) : rns (dec l) = rns l := by
  unfold rns
  rw [pcs_dec, List.map_map]
  apply List.map_congr_left
  intro p _
  simp only [Function.comp, fixp, chrOf]
  split
  · simp [*]
  · simp [val_fffd]
theorem dec_dec (l : List UInt8) : dec (dec l) = dec l := by
  unfold dec
  show (pcs (dec l)).flatMap out = _
  rw [pcs_dec, List.flatMap_map]
  congr 1
  funext p
  simp only [fixp, out]
  split
  · simp [*]
  · simp
theorem flt_ok (l : List UInt8) (h : AllOk l) : flt l = l.length := by
  unfold flt
  rw [show (pcs l).takeWhile (·.2) = pcs l from ?_, pcs_join]
  unfold AllOk at h
  generalize pcs l = q at h
  induction q with
  | nil => rfl
  | cons x r ih =>
    rw [List.takeWhile_cons, if_pos (h x (by simp)), ih (fun p hp => h p (by simp [hp]))]
theorem flt_dec (l : List UInt8) : flt (dec l) = (dec l).length := flt_ok _ (dec_ok l)
theorem ok_dec (l : List UInt8) (h : AllOk l) : dec l = l := by
  have := pcs_join l
  unfold dec
  rw [← this]
  conv => lhs; rw [this]
  unfold AllOk at h
  generalize pcs l = q at h
  induction q with
  | nil => rfl
  | cons x r ih =>
    rw [List.flatMap_cons, List.flatMap_cons, ih (fun p hp => h p (by simp [hp]))]
    simp [out, h x (by simp)]
theorem ok_nil : AllOk [] := by intro p hp; simp [pcs_nil] at hp
theorem ok_cons (l : List UInt8) (hl : l ≠ []) (h : AllOk l) : (pc l).2 = true ∧ AllOk (l.drop (pc l).1) := by
  unfold AllOk at h ⊢
  rw [pcs_cons l hl] at h
  exact ⟨h (_, _) (List.mem_cons.2 (.inl rfl)), fun p hp => h p (List.mem_cons.2 (.inr hp))⟩
theorem rns_nil : rns [] = [] := by simp [rns, pcs_nil]
theorem rns_cons (l : List UInt8) (h : l ≠ []) : rns l = (if (pc l).2 = true then val (l.take (pc l).1) else 65533) :: rns (l.drop (pc l).1) := by
  unfold rns; rw [pcs_cons l h, List.map_cons]; rfl
/-- a round of a range over a right text -/
theorem chr_ok (l : List UInt8) (hl : l ≠ []) (h : AllOk l) : chr l = (val (l.take (pc l).1), (pc l).1) := by
  have hb := pc_bd l hl
  have hg := good_pc l hl (ok_cons l hl h).1
  have := chr_good (l.take (pc l).1) (l.drop (pc l).1) hg
  rw [List.take_append_drop, List.length_take, Nat.min_eq_left hb.2] at this
  exact this
theorem ok_round (l : List UInt8) (hl : l ≠ []) (h : AllOk l) : rns l = (chr l).1 :: rns (l.drop (chr l).2) ∧ AllOk (l.drop (chr l).2) ∧ 1 ≤ (chr l).2 ∧ (chr l).2 ≤ l.length := by
  have hc := chr_ok l hl h
  have ho := ok_cons l hl h
  rw [hc]
  exact ⟨by rw [rns_cons l hl, if_pos ho.1], ho.2, pc_bd l hl⟩
theorem chr_le (l : List UInt8) : (chr l).1 ≤ 1114111 := by
  unfold chr Lib.decodeN
  have h0 := (l.getD 0 0).toNat_lt
  have h1 := (l.getD 1 0).toNat_lt
  repeat' split
  all_goals simp only; omega

/-- what is written of numbers -/
def encs (r : List Int) : List UInt8 := r.flatMap enc
theorem encs_append (a b : List Int) : encs (a ++ b) = encs a ++ encs b := by simp [encs]
set_option maxRecDepth 100000 in
theorem chrOf_enc (p : List UInt8 × Bool) (h : p.2 = true → good p.1 = true) : enc ((chrOf p : Nat) : Int) = out p := by
  by_cases hx : p.2 = true
  · have h1 : chrOf p = val p.1 := by unfold chrOf; rw [if_pos hx]
    have h2 : out p = p.1 := by unfold out; rw [if_pos hx]
    rw [h1, h2]; exact (enc_val p.1 (h hx)).1
  · have h1 : chrOf p = val fffd := by unfold chrOf; rw [if_neg hx, val_fffd]
    have h2 : out p = fffd := by unfold out; rw [if_neg hx]
    rw [h1, h2]; exact (enc_val fffd good_fffd).1
set_option maxRecDepth 100000 in
theorem encs_rns (l : List UInt8) : encs ((rns l).map (fun n : Nat => (n : Int))) = dec l := by
  unfold encs rns dec
  rw [List.map_map, List.flatMap_map]
  have hg := pcs_good l
  generalize pcs l = q at hg
  induction q with
  | nil => simp
  | cons x r ih =>
    rw [List.flatMap_cons, List.flatMap_cons, ih (fun p hp => hg p (by simp [hp]))]
    rw [show ((fun n : Nat => (n : Int)) ∘ chrOf) x = ((chrOf x : Nat) : Int) from rfl, chrOf_enc x (hg x (by simp))]
theorem enc_len (r : Int) : 1 ≤ (enc r).length ∧ (enc r).length ≤ 4 := by
  unfold enc Utf8.encode
  simp only
  repeat' split
  all_goals simp
theorem encs_len (r : List Int) : (encs r).length ≤ 4 * r.length := by
  induction r with
  | nil => simp [encs]
  | cons x r ih =>
    have := enc_len x
    have e : encs (x :: r) = enc x ++ encs r := rfl
    rw [e, List.length_append, List.length_cons]; omega
/-- what is written of numbers is read as the characters among them -/
def fixr (r : Int) : Nat := if isChar r then r.toNat else 65533
set_option maxRecDepth 100000 in
theorem good_encs (r : Int) : good (enc r) = true ∧ val (enc r) = (if isChar r then r.toNat else 65533) := by
  by_cases h : isChar r
  · rw [if_pos h]
    have h0 : 0 ≤ r := by unfold isChar at h; omega
    obtain ⟨n, rfl⟩ := Int.eq_ofNat_of_zero_le h0
    exact good_enc n h
  · rw [if_neg h, enc_bad r h]; exact ⟨good_fffd, val_fffd⟩
theorem pcs_encs (r : List Int) (t : List UInt8) : pcs (encs r ++ t) = r.map (fun x => (enc x, true)) ++ pcs t := by
  induction r with
  | nil => rfl
  | cons x r ih =>
    have e : encs (x :: r) = enc x ++ encs r := rfl
    rw [e, List.append_assoc, pcs_good_cons _ _ (good_encs x).1, ih]; rfl
theorem pcs_encs' (r : List Int) : pcs (encs r) = r.map (fun x => (enc x, true)) := by
  have := pcs_encs r []
  rw [List.append_nil, pcs_nil, List.append_nil] at this
  exact this
theorem ok_encs (r : List Int) : AllOk (encs r) := by
  intro p hp
  rw [pcs_encs'] at hp
  obtain ⟨x, _, rfl⟩ := List.mem_map.1 hp
  rfl
theorem rns_encs (r : List Int) (h : ∀ x ∈ r, isChar x) : (rns (encs r)).map (fun n : Nat => (n : Int)) = r := by
  unfold rns
  rw [pcs_encs', List.map_map, List.map_map]
  conv => rhs; rw [← List.map_id r]
  apply List.map_congr_left
  intro x hx
  simp only [Function.comp, chrOf, if_true, id]
  rw [(good_encs x).2, if_pos (h x hx)]
  have := h x hx
  unfold isChar at this
  simp; omega
end Go.Proofs.Ytpepoccoljmmjaa
