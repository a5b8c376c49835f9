/- The document's pieces, plain lists. -/
import Derived.Test.YtpepoccoljmmjaaW
set_option linter.unusedVariables false
set_option linter.unusedSimpArgs false
namespace Go.Proofs.Ytpepoccoljmmjaa

def sz (c : Nat) : Nat × Nat := if c < 128 then (1, c) else if 192 ≤ c ∧ c < 224 then (2, c - 192) else if 224 ≤ c ∧ c < 240 then (3, c - 224) else if 240 ≤ c ∧ c < 248 then (4, c - 240) else (0, 0)
def lst (n : Nat) : Nat := if n = 2 then 128 else if n = 3 then 2048 else if n = 4 then 65536 else 0
def accF (t : List UInt8) : Nat → Nat → Nat → Option Nat
  | 0, _, v => some v
  | f + 1, j, v => if 128 ≤ (t.getD j 0).toNat ∧ (t.getD j 0).toNat ≤ 191 then accF t f (j + 1) (v * 64 + ((t.getD j 0).toNat - 128)) else none
def ext : Nat → Nat → Nat → Nat × Nat
  | 0, lo, hi => (lo, hi)
  | f + 1, lo, hi => ext f (lo * 64) (hi * 64 + 63)
/-- is some character from lo to hi, of n bytes? -/
def some_ (n lo hi : Nat) : Bool := decide (max lo (lst n) ≤ min hi 1114111 ∧ ¬ (55296 ≤ max lo (lst n) ∧ min hi 1114111 ≤ 57343))
def bgn (t : List UInt8) (k : Nat) : Bool × Nat × Nat :=
  if (sz (t.headD 0).toNat).1 = 0 ∨ (sz (t.headD 0).toNat).1 < k ∨ t.length < k then (false, 0, 0) else
  match accF t (k - 1) 1 (sz (t.headD 0).toNat).2 with
  | none => (false, 0, 0)
  | some v => (some_ (sz (t.headD 0).toNat).1 (ext ((sz (t.headD 0).toNat).1 - k) v v).1 (ext ((sz (t.headD 0).toNat).1 - k) v v).2, (sz (t.headD 0).toNat).1, v)
def pcR (t : List UInt8) : Nat → Nat → Nat → Nat × Nat × Bool
  | 0, _, m => (m, 65533, false)
  | f + 1, k, m => if (bgn t k).1 = true ∧ (bgn t k).2.1 = k then (k, (bgn t k).2.2, true) else pcR t f (k + 1) (if (bgn t k).1 = true then k else m)

theorem val2 (a b : UInt8) (h : good [a, b] = true) : val [a, b] = (a.toNat - 192) * 64 + (b.toNat - 128) := by
  simp only [good, decide_eq_true_eq] at h
  obtain ⟨h1, h2, h3, h4⟩ := h
  have e0 : ¬ a.toNat < 128 := by omega
  have e1 : a.toNat / 32 = 6 := by omega
  have e2 : b.toNat / 64 = 2 := by omega
  have e3 : 128 ≤ a.toNat % 32 * 64 + b.toNat % 64 := by omega
  simp [chr, val, Lib.decodeN, e0, e1, e2, e3]; omega
set_option maxRecDepth 100000 in
theorem val3 (a b c : UInt8) (h : good [a, b, c] = true) : val [a, b, c] = (a.toNat - 224) * 4096 + (b.toNat - 128) * 64 + (c.toNat - 128) := by
  simp only [good, decide_eq_true_eq] at h
  obtain ⟨h1, h2, h3, h4, h5, h6, h7, h8⟩ := h
  have e0 : ¬ a.toNat < 128 := by omega
  have e1 : ¬ a.toNat / 32 = 6 := by omega
  have e2 : a.toNat / 16 = 14 := by omega
  have e3 : b.toNat / 64 = 2 := by omega
  have e4 : c.toNat / 64 = 2 := by omega
  have e5 : 2048 ≤ a.toNat % 16 * 4096 + b.toNat % 64 * 64 + c.toNat % 64 := by omega
  have e6 : (a.toNat % 16 * 4096 + b.toNat % 64 * 64 + c.toNat % 64 < 55296 ∨ (57344 ≤ a.toNat % 16 * 4096 + b.toNat % 64 * 64 + c.toNat % 64 ∧ a.toNat % 16 * 4096 + b.toNat % 64 * 64 + c.toNat % 64 ≤ 1114111)) := by omega
  simp [chr, val, Lib.decodeN, e0, e1, e2, e3, e4, e5, e6]; omega
set_option maxRecDepth 100000 in
theorem val4 (a b c d : UInt8) (h : good [a, b, c, d] = true) : val [a, b, c, d] = (a.toNat - 240) * 262144 + (b.toNat - 128) * 4096 + (c.toNat - 128) * 64 + (d.toNat - 128) := by
  simp only [good, decide_eq_true_eq] at h
  obtain ⟨h1, h2, h3, h4, h5, h6, h7, h8, h9, h10⟩ := h
  have e0 : ¬ a.toNat < 128 := by omega
  have e1 : ¬ a.toNat / 32 = 6 := by omega
  have e2 : ¬ a.toNat / 16 = 14 := by omega
  have e3 : b.toNat / 64 = 2 := by omega
  have e4 : c.toNat / 64 = 2 := by omega
  have e5 : d.toNat / 64 = 2 := by omega
  have e6 : a.toNat / 8 = 30 := by omega
  have e7 : 65536 ≤ a.toNat % 8 * 262144 + b.toNat % 64 * 4096 + c.toNat % 64 * 64 + d.toNat % 64 := by omega
  have e8 : (a.toNat % 8 * 262144 + b.toNat % 64 * 4096 + c.toNat % 64 * 64 + d.toNat % 64 < 55296 ∨ (57344 ≤ a.toNat % 8 * 262144 + b.toNat % 64 * 4096 + c.toNat % 64 * 64 + d.toNat % 64 ∧ a.toNat % 8 * 262144 + b.toNat % 64 * 4096 + c.toNat % 64 * 64 + d.toNat % 64 ≤ 1114111)) := by omega
  simp [chr, val, Lib.decodeN, e0, e1, e2, e3, e4, e5, e6, e7, e8]; omega

theorem sz2 {x : Nat} (h1 : 192 ≤ x) (h2 : x < 224) : sz x = (2, x - 192) := by unfold sz; rw [if_neg (by omega), if_pos ⟨h1, h2⟩]
theorem sz3 {x : Nat} (h1 : 224 ≤ x) (h2 : x < 240) : sz x = (3, x - 224) := by unfold sz; rw [if_neg (by omega), if_neg (by omega), if_pos ⟨h1, h2⟩]
theorem sz4 {x : Nat} (h1 : 240 ≤ x) (h2 : x < 248) : sz x = (4, x - 240) := by unfold sz; rw [if_neg (by omega), if_neg (by omega), if_neg (by omega), if_pos ⟨h1, h2⟩]
theorem sz0 {x : Nat} (h1 : (128 ≤ x ∧ x < 192) ∨ 248 ≤ x) : sz x = (0, 0) := by unfold sz; rw [if_neg (by omega), if_neg (by omega), if_neg (by omega), if_neg (by omega)]

theorem bgn_no (t : List UInt8) (k : Nat) (h : (sz (t.headD 0).toNat).1 = 0 ∨ (sz (t.headD 0).toNat).1 < k ∨ t.length < k) : bgn t k = (false, 0, 0) := by unfold bgn; rw [if_pos h]
theorem bgn_none (t : List UInt8) (k : Nat) (h : accF t (k - 1) 1 (sz (t.headD 0).toNat).2 = none) : bgn t k = (false, 0, 0) := by
  unfold bgn; split
  · rfl
  · rw [h]
theorem bgn_some (t : List UInt8) (k n v v0 lo hi : Nat) (hs : sz (t.headD 0).toNat = (n, v0)) (hk : ¬ (n = 0 ∨ n < k ∨ t.length < k)) (ha : accF t (k - 1) 1 v0 = some v) (he : ext (n - k) v v = (lo, hi)) : bgn t k = (some_ n lo hi, n, v) := by
  unfold bgn
  rw [hs]
  simp only
  rw [if_neg hk, ha]
  simp only [he]
theorem some_yes {n lo hi : Nat} (h : max lo (lst n) ≤ min hi 1114111 ∧ ¬ (55296 ≤ max lo (lst n) ∧ min hi 1114111 ≤ 57343)) : some_ n lo hi = true := decide_eq_true h
theorem some_no {n lo hi : Nat} (h : ¬ (max lo (lst n) ≤ min hi 1114111 ∧ ¬ (55296 ≤ max lo (lst n) ∧ min hi 1114111 ≤ 57343))) : some_ n lo hi = false := decide_eq_false h
theorem lst2 : lst 2 = 128 := rfl
theorem lst3 : lst 3 = 2048 := rfl
theorem lst4 : lst 4 = 65536 := rfl

def cont (b : UInt8) : Prop := 128 ≤ b.toNat ∧ b.toNat ≤ 191
instance (b : UInt8) : Decidable (cont b) := by unfold cont; infer_instance

/-- the reading of a front -/
def rd (t : List UInt8) : Nat × Nat × Bool := ((pc t).1, (if (pc t).2 = true then val (t.take (pc t).1) else 65533), (pc t).2)
set_option maxRecDepth 100000 in
theorem rd_good (p r : List UInt8) (h : good p = true) : rd (p ++ r) = (p.length, val p, true) := by
  unfold rd; rw [pc_good p r h]; simp
set_option maxRecDepth 100000 in
theorem rd_bad (t : List UInt8) (n : Nat) (h : pc t = (n, false)) : rd t = (n, 65533, false) := by
  unfold rd; rw [h]; simp

set_option maxRecDepth 100000 in
theorem two_eq (a : UInt8) (r : List UInt8) (h1 : 192 ≤ a.toNat) (h2 : a.toNat < 224) : pcR (a :: r) 4 1 1 = rd (a :: r) := by
  have hs : sz ((a :: r).headD 0).toNat = (2, a.toNat - 192) := sz2 h1 h2
  have b3 : bgn (a :: r) 3 = (false, 0, 0) := bgn_no _ _ (.inr (.inl (by rw [hs]; simp)))
  have b4 : bgn (a :: r) 4 = (false, 0, 0) := bgn_no _ _ (.inr (.inl (by rw [hs]; simp)))
  have b1 : bgn (a :: r) 1 = (some_ 2 ((a.toNat - 192) * 64) ((a.toNat - 192) * 64 + 63), 2, a.toNat - 192) := bgn_some _ 1 2 _ _ _ _ hs (by simp) rfl rfl
  by_cases h3 : a.toNat < 194
  · have s1 : some_ 2 ((a.toNat - 192) * 64) ((a.toNat - 192) * 64 + 63) = false := some_no (by rw [lst2]; omega)
    have b2 : (bgn (a :: r) 2).1 = false := by
      rcases r with _ | ⟨b, r⟩
      · rw [bgn_no _ _ (.inr (.inr (by simp)))]
      · by_cases hb : 128 ≤ b.toNat ∧ b.toNat ≤ 191
        · rw [bgn_some (a :: b :: r) 2 2 ((a.toNat - 192) * 64 + (b.toNat - 128)) _ _ _ hs (by simp) (by simp [accF, hb]) rfl]
          exact some_no (by rw [lst2]; omega)
        · rw [bgn_none _ _ (by rw [hs]; simp [accF]; omega)]
    rw [rd_bad _ 1 (by unfold pc; simp only [List.headD_cons]; rw [beg_eq0 (.inl ⟨by omega, by omega⟩)]; rfl)]
    simp [pcR, b1, s1, b2, b3, b4]
  · have s1 : some_ 2 ((a.toNat - 192) * 64) ((a.toNat - 192) * 64 + 63) = true := some_yes (by rw [lst2]; omega)
    have hp : pc (a :: r) = scan (a :: r) 2 (0 + 1) 1 128 191 := by unfold pc; simp only [List.headD_cons]; rw [beg_eq2 (by omega) (by omega)]; rfl
    rcases r with _ | ⟨b, r⟩
    · have b2 : bgn [a] 2 = (false, 0, 0) := bgn_no _ _ (.inr (.inr (by simp)))
      rw [rd_bad _ 1 (by rw [hp]; simp [scan, bad])]
      simp [pcR, b1, s1, b2, b3, b4]
    · by_cases hb : 128 ≤ b.toNat ∧ b.toNat ≤ 191
      · have hg : good [a, b] = true := by simp only [good, decide_eq_true_eq]; omega
        have b2 : bgn (a :: b :: r) 2 = (some_ 2 ((a.toNat - 192) * 64 + (b.toNat - 128)) ((a.toNat - 192) * 64 + (b.toNat - 128)), 2, (a.toNat - 192) * 64 + (b.toNat - 128)) := bgn_some (a :: b :: r) 2 2 _ _ _ _ hs (by simp) (by simp [accF, hb]) rfl
        have s2 : some_ 2 ((a.toNat - 192) * 64 + (b.toNat - 128)) ((a.toNat - 192) * 64 + (b.toNat - 128)) = true := some_yes (by rw [lst2]; omega)
        have := rd_good [a, b] r hg
        simp only [List.cons_append, List.nil_append] at this
        rw [this, val2 a b hg]
        simp [pcR, b1, s1, b2, s2]
      · have b2 : bgn (a :: b :: r) 2 = (false, 0, 0) := bgn_none _ _ (by rw [hs]; simp [accF]; omega)
        rw [rd_bad _ 1 (by rw [hp]; simp only [scan]; rw [if_pos (by rw [bad_at (by simp)]; simp; omega)])]
        simp [pcR, b1, s1, b2, b3, b4]

set_option maxRecDepth 100000 in
theorem low_eq (a : UInt8) (r : List UInt8) (h1 : a.toNat < 128) : pcR (a :: r) 4 1 1 = rd (a :: r) := by
  have hs : sz ((a :: r).headD 0).toNat = (1, a.toNat) := by show sz a.toNat = _; unfold sz; rw [if_pos h1]
  have b1 : bgn (a :: r) 1 = (some_ 1 a.toNat a.toNat, 1, a.toNat) := bgn_some _ 1 1 _ _ _ _ hs (by simp) rfl rfl
  have s1 : some_ 1 a.toNat a.toNat = true := some_yes (by rw [show lst 1 = 0 from rfl]; omega)
  have hg : good [a] = true := by simp only [good, decide_eq_true_eq]; omega
  have := rd_good [a] r hg
  simp only [List.cons_append, List.nil_append] at this
  rw [this, show val [a] = a.toNat by simp [val, chr, Lib.decodeN, h1]]
  simp [pcR, b1, s1]
set_option maxRecDepth 100000 in
theorem none_eq (a : UInt8) (r : List UInt8) (h1 : (128 ≤ a.toNat ∧ a.toNat < 192) ∨ 248 ≤ a.toNat) : pcR (a :: r) 4 1 1 = rd (a :: r) := by
  have hs : sz ((a :: r).headD 0).toNat = (0, 0) := sz0 h1
  have b : ∀ k, bgn (a :: r) k = (false, 0, 0) := fun k => bgn_no _ _ (.inl (by rw [hs]))
  have hbeg : beg a.toNat = (0, 0, 0) := by
    rcases h1 with h1 | h1
    · exact beg_eq0 (.inl ⟨by omega, by omega⟩)
    · exact beg_eq0 (.inr (by omega))
  rw [rd_bad _ 1 (by unfold pc; simp only [List.headD_cons]; rw [hbeg]; rfl)]
  simp [pcR, b]

set_option maxRecDepth 100000 in
theorem three_eq (a : UInt8) (r : List UInt8) (h1 : 224 ≤ a.toNat) (h2 : a.toNat < 240) : pcR (a :: r) 4 1 1 = rd (a :: r) := by
  have hs : sz ((a :: r).headD 0).toNat = (3, a.toNat - 224) := sz3 h1 h2
  have b4 : bgn (a :: r) 4 = (false, 0, 0) := bgn_no _ _ (.inr (.inl (by rw [hs]; simp)))
  have b1 : bgn (a :: r) 1 = (some_ 3 ((a.toNat - 224) * 64 * 64) (((a.toNat - 224) * 64 + 63) * 64 + 63), 3, a.toNat - 224) := bgn_some _ 1 3 _ _ _ _ hs (by simp) rfl rfl
  have s1 : some_ 3 ((a.toNat - 224) * 64 * 64) (((a.toNat - 224) * 64 + 63) * 64 + 63) = true := some_yes (by rw [lst3]; omega)
  have hp : pc (a :: r) = scan (a :: r) 3 (0 + 1 + 1) 1 (if a.toNat = 224 then 160 else 128) (if a.toNat = 237 then 159 else 191) := by unfold pc; simp only [List.headD_cons]; rw [beg_eq3 (by omega) (by omega)]; rfl
  rcases r with _ | ⟨b, r⟩
  · have b2 : bgn [a] 2 = (false, 0, 0) := bgn_no _ _ (.inr (.inr (by simp)))
    have b3 : bgn [a] 3 = (false, 0, 0) := bgn_no _ _ (.inr (.inr (by simp)))
    rw [rd_bad _ 1 (by rw [hp]; simp [scan, bad])]
    simp [pcR, b1, s1, b2, b3, b4]
  by_cases hb : 128 ≤ b.toNat ∧ b.toNat ≤ 191
  · have b2 : bgn (a :: b :: r) 2 = (some_ 3 (((a.toNat - 224) * 64 + (b.toNat - 128)) * 64) (((a.toNat - 224) * 64 + (b.toNat - 128)) * 64 + 63), 3, (a.toNat - 224) * 64 + (b.toNat - 128)) := bgn_some (a :: b :: r) 2 3 _ _ _ _ hs (by simp) (by simp [accF, hb]) rfl
    by_cases hv : (a.toNat = 224 → 160 ≤ b.toNat) ∧ (a.toNat = 237 → b.toNat ≤ 159)
    · have s2 : some_ 3 (((a.toNat - 224) * 64 + (b.toNat - 128)) * 64) (((a.toNat - 224) * 64 + (b.toNat - 128)) * 64 + 63) = true := some_yes (by rw [lst3]; omega)
      have hbad : bad (a :: b :: r) 1 (if a.toNat = 224 then 160 else 128) (if a.toNat = 237 then 159 else 191) = false := bad_ok (c := b) rfl (by split <;> omega) (by split <;> omega)
      rcases r with _ | ⟨c, r⟩
      · have b3 : bgn [a, b] 3 = (false, 0, 0) := bgn_no _ _ (.inr (.inr (by simp)))
        rw [rd_bad _ 2 (by rw [hp]; simp only [scan, hbad]; simp [bad])]
        simp [pcR, b1, s1, b2, s2, b3, b4]
      by_cases hc : 128 ≤ c.toNat ∧ c.toNat ≤ 191
      · have hg : good [a, b, c] = true := by simp only [good, decide_eq_true_eq]; omega
        have b3 : bgn (a :: b :: c :: r) 3 = (some_ 3 (((a.toNat - 224) * 64 + (b.toNat - 128)) * 64 + (c.toNat - 128)) (((a.toNat - 224) * 64 + (b.toNat - 128)) * 64 + (c.toNat - 128)), 3, ((a.toNat - 224) * 64 + (b.toNat - 128)) * 64 + (c.toNat - 128)) := bgn_some (a :: b :: c :: r) 3 3 _ _ _ _ hs (by simp) (by simp [accF, hb, hc]) rfl
        have s3 : some_ 3 (((a.toNat - 224) * 64 + (b.toNat - 128)) * 64 + (c.toNat - 128)) (((a.toNat - 224) * 64 + (b.toNat - 128)) * 64 + (c.toNat - 128)) = true := some_yes (by rw [lst3]; omega)
        have := rd_good [a, b, c] r hg
        simp only [List.cons_append, List.nil_append] at this
        rw [this, val3 a b c hg]
        simp [pcR, b1, s1, b2, s2, b3, s3]; omega
      · have b3 : bgn (a :: b :: c :: r) 3 = (false, 0, 0) := bgn_none _ _ (by rw [hs]; simp [accF, hb]; omega)
        rw [rd_bad _ 2 (by rw [hp]; simp only [scan, hbad]; simp [bad]; omega)]
        simp [pcR, b1, s1, b2, s2, b3, b4]
    · have s2 : some_ 3 (((a.toNat - 224) * 64 + (b.toNat - 128)) * 64) (((a.toNat - 224) * 64 + (b.toNat - 128)) * 64 + 63) = false := some_no (by rw [lst3]; omega)
      have hbad : bad (a :: b :: r) 1 (if a.toNat = 224 then 160 else 128) (if a.toNat = 237 then 159 else 191) = true := by
        rw [bad_at (by simp)]; simp only [List.getElem_cons_succ, List.getElem_cons_zero, Bool.or_eq_true, decide_eq_true_eq]; split <;> split <;> omega
      have b3 : (bgn (a :: b :: r) 3).1 = false := by
        rcases r with _ | ⟨c, r⟩
        · rw [bgn_no _ _ (.inr (.inr (by simp)))]
        · by_cases hc : 128 ≤ c.toNat ∧ c.toNat ≤ 191
          · rw [bgn_some (a :: b :: c :: r) 3 3 (((a.toNat - 224) * 64 + (b.toNat - 128)) * 64 + (c.toNat - 128)) _ _ _ hs (by simp) (by simp [accF, hb, hc]) rfl]
            exact some_no (by rw [lst3]; omega)
          · rw [bgn_none _ _ (by rw [hs]; simp [accF, hb]; omega)]
      rw [rd_bad _ 1 (by rw [hp]; simp only [scan, hbad]; simp)]
      simp [pcR, b1, s1, b2, s2, b3, b4]
  · have b2 : bgn (a :: b :: r) 2 = (false, 0, 0) := bgn_none _ _ (by rw [hs]; simp [accF]; omega)
    have b3 : bgn (a :: b :: r) 3 = (false, 0, 0) := bgn_none _ _ (by rw [hs]; simp [accF]; omega)
    have hbad : bad (a :: b :: r) 1 (if a.toNat = 224 then 160 else 128) (if a.toNat = 237 then 159 else 191) = true := by
      rw [bad_at (by simp)]; simp only [List.getElem_cons_succ, List.getElem_cons_zero, Bool.or_eq_true, decide_eq_true_eq]; split <;> split <;> omega
    rw [rd_bad _ 1 (by rw [hp]; simp only [scan, hbad]; simp)]
    simp [pcR, b1, s1, b2, b3, b4]

set_option maxRecDepth 100000 in
set_option maxHeartbeats 4000000 in
theorem four_eq (a : UInt8) (r : List UInt8) (h1 : 240 ≤ a.toNat) (h2 : a.toNat < 248) : pcR (a :: r) 4 1 1 = rd (a :: r) := by
  have hs : sz ((a :: r).headD 0).toNat = (4, a.toNat - 240) := sz4 h1 h2
  obtain ⟨v, hv⟩ : ∃ v, v = a.toNat - 240 := ⟨_, rfl⟩
  rw [← hv] at hs
  have b1 : bgn (a :: r) 1 = (some_ 4 (v * 64 * 64 * 64) (((v * 64 + 63) * 64 + 63) * 64 + 63), 4, v) := bgn_some _ 1 4 _ _ _ _ hs (by simp) rfl rfl
  -- what a second, third and fourth byte come to
  have k2 : ∀ b s, r = b :: s → cont b → bgn (a :: r) 2 = (some_ 4 ((v * 64 + (b.toNat - 128)) * 64 * 64) (((v * 64 + (b.toNat - 128)) * 64 + 63) * 64 + 63), 4, v * 64 + (b.toNat - 128)) := fun b s hr hb => by
    subst hr; exact bgn_some (a :: b :: s) 2 4 _ _ _ _ hs (by simp) (by have hb : 128 ≤ b.toNat ∧ b.toNat ≤ 191 := hb; simp [accF, hb]) rfl
  have k3 : ∀ b c s, r = b :: c :: s → cont b → cont c → bgn (a :: r) 3 = (some_ 4 (((v * 64 + (b.toNat - 128)) * 64 + (c.toNat - 128)) * 64) (((v * 64 + (b.toNat - 128)) * 64 + (c.toNat - 128)) * 64 + 63), 4, (v * 64 + (b.toNat - 128)) * 64 + (c.toNat - 128)) := fun b c s hr hb hc => by
    subst hr; exact bgn_some (a :: b :: c :: s) 3 4 _ _ _ _ hs (by simp) (by have hb : 128 ≤ b.toNat ∧ b.toNat ≤ 191 := hb; have hc : 128 ≤ c.toNat ∧ c.toNat ≤ 191 := hc; simp [accF, hb, hc]) rfl
  have k4 : ∀ b c d s, r = b :: c :: d :: s → cont b → cont c → cont d → bgn (a :: r) 4 = (some_ 4 (((v * 64 + (b.toNat - 128)) * 64 + (c.toNat - 128)) * 64 + (d.toNat - 128)) (((v * 64 + (b.toNat - 128)) * 64 + (c.toNat - 128)) * 64 + (d.toNat - 128)), 4, ((v * 64 + (b.toNat - 128)) * 64 + (c.toNat - 128)) * 64 + (d.toNat - 128)) := fun b c d s hr hb hc hd => by
    subst hr; exact bgn_some (a :: b :: c :: d :: s) 4 4 _ _ _ _ hs (by simp) (by have hb : 128 ≤ b.toNat ∧ b.toNat ≤ 191 := hb; have hc : 128 ≤ c.toNat ∧ c.toNat ≤ 191 := hc; have hd : 128 ≤ d.toNat ∧ d.toNat ≤ 191 := hd; simp [accF, hb, hc, hd]) rfl
  have n2 : (r = [] ∨ ∃ b s, r = b :: s ∧ ¬ cont b) → ∀ k, 2 ≤ k → bgn (a :: r) k = (false, 0, 0) := fun h k hk => by
    rcases h with rfl | ⟨b, s, rfl, hb⟩
    · exact bgn_no _ _ (.inr (.inr (by simp; omega)))
    · have hb : ¬ (128 ≤ b.toNat ∧ b.toNat ≤ 191) := hb
      obtain ⟨k, rfl⟩ : ∃ m, k = m + 2 := ⟨k - 2, by omega⟩
      exact bgn_none _ _ (by rw [hs]; simp [accF]; omega)
  have n3 : ∀ b s, r = b :: s → cont b → (s = [] ∨ ∃ c u, s = c :: u ∧ ¬ cont c) → ∀ k, 3 ≤ k → bgn (a :: r) k = (false, 0, 0) := fun b s hr hb h k hk => by
    subst hr
    have hb : 128 ≤ b.toNat ∧ b.toNat ≤ 191 := hb
    rcases h with rfl | ⟨c, u, rfl, hc⟩
    · exact bgn_no _ _ (.inr (.inr (by simp; omega)))
    · have hc : ¬ (128 ≤ c.toNat ∧ c.toNat ≤ 191) := hc
      obtain ⟨k, rfl⟩ : ∃ m, k = m + 3 := ⟨k - 3, by omega⟩
      exact bgn_none _ _ (by rw [hs]; simp [accF, hb]; omega)
  have n4 : ∀ b c s, r = b :: c :: s → cont b → cont c → (s = [] ∨ ∃ d u, s = d :: u ∧ ¬ cont d) → bgn (a :: r) 4 = (false, 0, 0) := fun b c s hr hb hc h => by
    subst hr
    have hb : 128 ≤ b.toNat ∧ b.toNat ≤ 191 := hb
    have hc : 128 ≤ c.toNat ∧ c.toNat ≤ 191 := hc
    rcases h with rfl | ⟨d, u, rfl, hd⟩
    · exact bgn_no _ _ (.inr (.inr (by simp)))
    · have hd : ¬ (128 ≤ d.toNat ∧ d.toNat ≤ 191) := hd
      exact bgn_none _ _ (by rw [hs]; simp [accF, hb, hc]; omega)
  by_cases h5 : 245 ≤ a.toNat
  · -- too large, whatever follows
    have s1 : some_ 4 (v * 64 * 64 * 64) (((v * 64 + 63) * 64 + 63) * 64 + 63) = false := some_no (by rw [lst4]; omega)
    have f2 : (bgn (a :: r) 2).1 = false := by
      rcases r with _ | ⟨b, s⟩
      · rw [n2 (.inl rfl) 2 (by omega)]
      · by_cases hb : cont b
        · rw [k2 b s rfl hb]; exact some_no (by rw [lst4]; omega)
        · rw [n2 (.inr ⟨b, s, rfl, hb⟩) 2 (by omega)]
    have f3 : (bgn (a :: r) 3).1 = false := by
      rcases r with _ | ⟨b, s⟩
      · rw [n2 (.inl rfl) 3 (by omega)]
      · by_cases hb : cont b
        · rcases s with _ | ⟨c, u⟩
          · rw [n3 b [] rfl hb (.inl rfl) 3 (by omega)]
          · by_cases hc : cont c
            · rw [k3 b c u rfl hb hc]; exact some_no (by rw [lst4]; omega)
            · rw [n3 b _ rfl hb (.inr ⟨c, u, rfl, hc⟩) 3 (by omega)]
        · rw [n2 (.inr ⟨b, s, rfl, hb⟩) 3 (by omega)]
    have f4 : (bgn (a :: r) 4).1 = false := by
      rcases r with _ | ⟨b, s⟩
      · rw [n2 (.inl rfl) 4 (by omega)]
      · by_cases hb : cont b
        · rcases s with _ | ⟨c, u⟩
          · rw [n3 b [] rfl hb (.inl rfl) 4 (by omega)]
          · by_cases hc : cont c
            · rcases u with _ | ⟨d, q⟩
              · rw [n4 b c [] rfl hb hc (.inl rfl)]
              · by_cases hd : cont d
                · rw [k4 b c d q rfl hb hc hd]; exact some_no (by rw [lst4]; omega)
                · rw [n4 b c _ rfl hb hc (.inr ⟨d, q, rfl, hd⟩)]
            · rw [n3 b _ rfl hb (.inr ⟨c, u, rfl, hc⟩) 4 (by omega)]
        · rw [n2 (.inr ⟨b, s, rfl, hb⟩) 4 (by omega)]
    rw [rd_bad _ 1 (by unfold pc; simp only [List.headD_cons]; rw [beg_eq0 (x := a.toNat) (.inr h5)]; rfl)]
    simp [pcR, b1, s1, f2, f3, f4]
  have s1 : some_ 4 (v * 64 * 64 * 64) (((v * 64 + 63) * 64 + 63) * 64 + 63) = true := some_yes (by rw [lst4]; omega)
  have hp : pc (a :: r) = scan (a :: r) 4 (0 + 1 + 1 + 1) 1 (if a.toNat = 240 then 144 else 128) (if a.toNat = 244 then 143 else 191) := by unfold pc; simp only [List.headD_cons]; rw [beg_eq4 (by omega) (by omega)]; rfl
  rcases r with _ | ⟨b, s⟩
  · have g := n2 (.inl rfl)
    rw [rd_bad _ 1 (by rw [hp]; simp [scan, bad])]
    simp [pcR, b1, s1, g 2 (by omega), g 3 (by omega), g 4 (by omega)]
  by_cases hb : cont b
  · have g2 := k2 b s rfl hb
    have hb' : 128 ≤ b.toNat ∧ b.toNat ≤ 191 := hb
    by_cases hv2 : (a.toNat = 240 → 144 ≤ b.toNat) ∧ (a.toNat = 244 → b.toNat ≤ 143)
    · have s2 : some_ 4 ((v * 64 + (b.toNat - 128)) * 64 * 64) (((v * 64 + (b.toNat - 128)) * 64 + 63) * 64 + 63) = true := some_yes (by rw [lst4]; omega)
      have hbad : bad (a :: b :: s) 1 (if a.toNat = 240 then 144 else 128) (if a.toNat = 244 then 143 else 191) = false := bad_ok (c := b) rfl (by split <;> omega) (by split <;> omega)
      rcases s with _ | ⟨c, u⟩
      · have g := n3 b [] rfl hb (.inl rfl)
        rw [rd_bad _ 2 (by rw [hp]; simp only [scan, hbad]; simp [bad])]
        simp [pcR, b1, s1, g2, s2, g 3 (by omega), g 4 (by omega)]
      by_cases hc : cont c
      · have g3 := k3 b c u rfl hb hc
        have hc' : 128 ≤ c.toNat ∧ c.toNat ≤ 191 := hc
        have s3 : some_ 4 (((v * 64 + (b.toNat - 128)) * 64 + (c.toNat - 128)) * 64) (((v * 64 + (b.toNat - 128)) * 64 + (c.toNat - 128)) * 64 + 63) = true := some_yes (by rw [lst4]; omega)
        have hbad2 : bad (a :: b :: c :: u) 2 128 191 = false := bad_ok (c := c) rfl hc'.1 hc'.2
        rcases u with _ | ⟨d, q⟩
        · have g := n4 b c [] rfl hb hc (.inl rfl)
          rw [rd_bad _ 3 (by rw [hp]; simp only [scan, hbad, hbad2]; simp [bad])]
          simp [pcR, b1, s1, g2, s2, g3, s3, g]
        by_cases hd : cont d
        · have g4 := k4 b c d q rfl hb hc hd
          have hd' : 128 ≤ d.toNat ∧ d.toNat ≤ 191 := hd
          have s4 : some_ 4 (((v * 64 + (b.toNat - 128)) * 64 + (c.toNat - 128)) * 64 + (d.toNat - 128)) (((v * 64 + (b.toNat - 128)) * 64 + (c.toNat - 128)) * 64 + (d.toNat - 128)) = true := some_yes (by rw [lst4]; omega)
          have hg : good [a, b, c, d] = true := by simp only [good, decide_eq_true_eq]; omega
          have := rd_good [a, b, c, d] q hg
          simp only [List.cons_append, List.nil_append] at this
          rw [this, val4 a b c d hg]
          simp [pcR, b1, s1, g2, s2, g3, s3, g4, s4]; omega
        · have g := n4 b c _ rfl hb hc (.inr ⟨d, q, rfl, hd⟩)
          have hd' : ¬ (128 ≤ d.toNat ∧ d.toNat ≤ 191) := hd
          rw [rd_bad _ 3 (by rw [hp]; simp only [scan, hbad, hbad2]; simp [bad]; omega)]
          simp [pcR, b1, s1, g2, s2, g3, s3, g]
      · have g := n3 b _ rfl hb (.inr ⟨c, u, rfl, hc⟩)
        have hc' : ¬ (128 ≤ c.toNat ∧ c.toNat ≤ 191) := hc
        rw [rd_bad _ 2 (by rw [hp]; simp only [scan, hbad]; simp [bad]; omega)]
        simp [pcR, b1, s1, g2, s2, g 3 (by omega), g 4 (by omega)]
    · have s2 : some_ 4 ((v * 64 + (b.toNat - 128)) * 64 * 64) (((v * 64 + (b.toNat - 128)) * 64 + 63) * 64 + 63) = false := some_no (by rw [lst4]; omega)
      have hbad : bad (a :: b :: s) 1 (if a.toNat = 240 then 144 else 128) (if a.toNat = 244 then 143 else 191) = true := by
        rw [bad_at (by simp)]; simp only [List.getElem_cons_succ, List.getElem_cons_zero, Bool.or_eq_true, decide_eq_true_eq]; split <;> split <;> omega
      have f3 : (bgn (a :: b :: s) 3).1 = false := by
        rcases s with _ | ⟨c, u⟩
        · rw [n3 b [] rfl hb (.inl rfl) 3 (by omega)]
        · by_cases hc : cont c
          · have hc' : 128 ≤ c.toNat ∧ c.toNat ≤ 191 := hc
            rw [k3 b c u rfl hb hc]; exact some_no (by rw [lst4]; omega)
          · rw [n3 b _ rfl hb (.inr ⟨c, u, rfl, hc⟩) 3 (by omega)]
      have f4 : (bgn (a :: b :: s) 4).1 = false := by
        rcases s with _ | ⟨c, u⟩
        · rw [n3 b [] rfl hb (.inl rfl) 4 (by omega)]
        · by_cases hc : cont c
          · have hc' : 128 ≤ c.toNat ∧ c.toNat ≤ 191 := hc
            rcases u with _ | ⟨d, q⟩
            · rw [n4 b c [] rfl hb hc (.inl rfl)]
            · by_cases hd : cont d
              · have hd' : 128 ≤ d.toNat ∧ d.toNat ≤ 191 := hd
                rw [k4 b c d q rfl hb hc hd]; exact some_no (by rw [lst4]; omega)
              · rw [n4 b c _ rfl hb hc (.inr ⟨d, q, rfl, hd⟩)]
          · rw [n3 b _ rfl hb (.inr ⟨c, u, rfl, hc⟩) 4 (by omega)]
      rw [rd_bad _ 1 (by rw [hp]; simp only [scan, hbad]; simp)]
      simp [pcR, b1, s1, g2, s2, f3, f4]
  · have g := n2 (.inr ⟨b, s, rfl, hb⟩)
    have hb' : ¬ (128 ≤ b.toNat ∧ b.toNat ≤ 191) := hb
    have hbad : bad (a :: b :: s) 1 (if a.toNat = 240 then 144 else 128) (if a.toNat = 244 then 143 else 191) = true := by
      rw [bad_at (by simp)]; simp only [List.getElem_cons_succ, List.getElem_cons_zero, Bool.or_eq_true, decide_eq_true_eq]; split <;> split <;> omega
    rw [rd_bad _ 1 (by rw [hp]; simp only [scan, hbad]; simp)]
    simp [pcR, b1, s1, g 2 (by omega), g 3 (by omega), g 4 (by omega)]

theorem pcR_eq (t : List UInt8) (h : t ≠ []) : pcR t 4 1 1 = rd t := by
  rcases t with _ | ⟨a, r⟩
  · contradiction
  have hx := a.toNat_lt
  by_cases h1 : a.toNat < 128
  · exact low_eq a r h1
  by_cases h2 : a.toNat < 192
  · exact none_eq a r (.inl ⟨by omega, h2⟩)
  by_cases h3 : a.toNat < 224
  · exact two_eq a r (by omega) h3
  by_cases h4 : a.toNat < 240
  · exact three_eq a r (by omega) h4
  by_cases h5 : a.toNat < 248
  · exact four_eq a r (by omega) h5
  · exact none_eq a r (.inr (by omega))
end Go.Proofs.Ytpepoccoljmmjaa
