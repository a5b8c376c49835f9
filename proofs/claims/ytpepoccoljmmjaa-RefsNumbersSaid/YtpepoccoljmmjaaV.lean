/- What a right piece stands for. -/
import Derived.Test.YtpepoccoljmmjaaA
import Derived.Lib.DecodeN
set_option linter.unusedVariables false
namespace Go.Proofs.Ytpepoccoljmmjaa

theorem bad_false {l : List UInt8} {n lo hi : Nat} (h : bad l n lo hi = false) : ∃ c, l[n]? = some c ∧ lo ≤ c.toNat ∧ c.toNat ≤ hi := by
  have hl := bad_len h
  rw [bad_at hl] at h
  simp only [Bool.or_eq_false_iff, decide_eq_false_iff_not] at h
  exact ⟨l[n], List.getElem?_eq_getElem hl, by omega, by omega⟩

/-- a right piece of n bytes -/
def good : List UInt8 → Bool
  | [a] => decide (a.toNat ≤ 127)
  | [a, b] => decide (194 ≤ a.toNat ∧ a.toNat ≤ 223 ∧ 128 ≤ b.toNat ∧ b.toNat ≤ 191)
  | [a, b, c] => decide (224 ≤ a.toNat ∧ a.toNat ≤ 239 ∧ 128 ≤ b.toNat ∧ b.toNat ≤ 191 ∧ (a.toNat = 224 → 160 ≤ b.toNat) ∧ (a.toNat = 237 → b.toNat ≤ 159) ∧ 128 ≤ c.toNat ∧ c.toNat ≤ 191)
  | [a, b, c, d] => decide (240 ≤ a.toNat ∧ a.toNat ≤ 244 ∧ 128 ≤ b.toNat ∧ b.toNat ≤ 191 ∧ (a.toNat = 240 → 144 ≤ b.toNat) ∧ (a.toNat = 244 → b.toNat ≤ 143) ∧ 128 ≤ c.toNat ∧ c.toNat ≤ 191 ∧ 128 ≤ d.toNat ∧ d.toNat ≤ 191)
  | _ => false

theorem beg_eq1 {x : Nat} (h : x ≤ 127) : beg x = (1, 0, 0) := by unfold beg; rw [if_pos h]
theorem beg_eq2 {x : Nat} (h1 : 194 ≤ x) (h2 : x ≤ 223) : beg x = (2, 128, 191) := by
  unfold beg; rw [if_neg (by omega), if_neg (by omega), if_pos h2]
theorem beg_eq3 {x : Nat} (h1 : 224 ≤ x) (h2 : x ≤ 239) : beg x = (3, if x = 224 then 160 else 128, if x = 237 then 159 else 191) := by
  unfold beg; rw [if_neg (by omega), if_neg (by omega), if_neg (by omega)]
  by_cases a : x = 224
  · subst a; rfl
  · by_cases b : x = 237
    · subst b; rfl
    · rw [if_neg a, if_neg b, if_pos h2, if_neg a, if_neg b]
theorem beg_eq4 {x : Nat} (h1 : 240 ≤ x) (h2 : x ≤ 244) : beg x = (4, if x = 240 then 144 else 128, if x = 244 then 143 else 191) := by
  unfold beg; rw [if_neg (by omega), if_neg (by omega), if_neg (by omega), if_neg (by omega), if_neg (by omega), if_neg (by omega)]
  by_cases a : x = 240
  · subst a; rfl
  · by_cases b : x = 244
    · subst b; rfl
    · rw [if_neg a, if_pos (by omega), if_neg a, if_neg b]
theorem beg_eq0 {x : Nat} (h : (128 ≤ x ∧ x ≤ 193) ∨ 245 ≤ x) : beg x = (0, 0, 0) := by
  unfold beg
  rcases h with h | h
  · rw [if_neg (by omega), if_pos (by omega)]
  · rw [if_neg (by omega), if_neg (by omega), if_neg (by omega), if_neg (by omega), if_neg (by omega), if_neg (by omega), if_neg (by omega), if_neg (by omega), if_neg (by omega)]

theorem bad_ok {l : List UInt8} {n lo hi : Nat} {c : UInt8} (h : l[n]? = some c) (h1 : lo ≤ c.toNat) (h2 : c.toNat ≤ hi) : bad l n lo hi = false := by
  unfold bad; rw [h]; simp only [Bool.or_eq_false_iff, decide_eq_false_iff_not]; omega

theorem pc_good (p r : List UInt8) (h : good p = true) : pc (p ++ r) = (p.length, true) := by
  match p, h with
  | [a], h =>
    simp only [good, decide_eq_true_eq] at h
    simp only [pc, List.cons_append, List.nil_append, List.headD_cons, beg_eq1 h]
    rfl
  | [a, b], h =>
    simp only [good, decide_eq_true_eq] at h
    simp only [pc, List.cons_append, List.nil_append, List.headD_cons, beg_eq2 h.1 h.2.1, scan]
    rw [bad_ok (c := b) (by rfl) h.2.2.1 h.2.2.2]
    simp
  | [a, b, c], h =>
    simp only [good, decide_eq_true_eq] at h
    obtain ⟨h1, h2, h3, h4, h5, h6, h7, h8⟩ := h
    simp only [pc, List.cons_append, List.nil_append, List.headD_cons, beg_eq3 h1 h2, scan]
    rw [bad_ok (c := b) (by rfl) (by split <;> omega) (by split <;> omega), bad_ok (c := c) (by rfl) h7 h8]
    simp
  | [a, b, c, d], h =>
    simp only [good, decide_eq_true_eq] at h
    obtain ⟨h1, h2, h3, h4, h5, h6, h7, h8, h9, h10⟩ := h
    simp only [pc, List.cons_append, List.nil_append, List.headD_cons, beg_eq4 h1 h2, scan]
    rw [bad_ok (c := b) (by rfl) (by split <;> omega) (by split <;> omega), bad_ok (c := c) (by rfl) h7 h8, bad_ok (c := d) (by rfl) h9 h10]
    simp

theorem scan_one {l : List UInt8} {want f n lo hi : Nat} (h : (scan l want (f + 1) n lo hi).2 = true) : bad l n lo hi = false ∧ scan l want (f + 1) n lo hi = scan l want f (n + 1) 128 191 := by
  cases hb : bad l n lo hi
  · exact ⟨rfl, by simp [scan, hb]⟩
  · simp [scan, hb] at h

theorem good_pc (l : List UInt8) (hl : l ≠ []) (h : (pc l).2 = true) : good (l.take (pc l).1) = true := by
  obtain ⟨a, r, rfl⟩ : ∃ a r, l = a :: r := by cases l; contradiction; exact ⟨_, _, rfl⟩
  have hx := a.toNat_lt
  by_cases h1 : a.toNat ≤ 127
  · unfold pc
    simp only [List.headD_cons]
    rw [beg_eq1 h1]
    simp [scan, good, h1]
  by_cases h2 : a.toNat ≤ 193
  · unfold pc at h
    simp only [List.headD_cons] at h
    rw [beg_eq0 (.inl ⟨by omega, h2⟩)] at h
    simp [scan] at h
  by_cases h3 : a.toNat ≤ 223
  · have hp : pc (a :: r) = scan (a :: r) 2 (0 + 1) 1 128 191 := by unfold pc; simp only [List.headD_cons]; rw [beg_eq2 (by omega) h3]; rfl
    rw [hp] at h ⊢
    obtain ⟨b1, e1⟩ := scan_one h
    rw [e1]
    obtain ⟨b, hb, hb1, hb2⟩ := bad_false b1
    obtain ⟨r, rfl⟩ : ∃ s, r = b :: s := by cases r <;> simp at hb; exact ⟨_, by rw [hb]⟩
    simp [scan, good]; omega
  by_cases h4 : a.toNat ≤ 239
  · have hp : pc (a :: r) = scan (a :: r) 3 (0 + 1 + 1) 1 (if a.toNat = 224 then 160 else 128) (if a.toNat = 237 then 159 else 191) := by unfold pc; simp only [List.headD_cons]; rw [beg_eq3 (by omega) h4]; rfl
    rw [hp] at h ⊢
    obtain ⟨b1, e1⟩ := scan_one h
    rw [e1] at h ⊢
    obtain ⟨b2, e2⟩ := scan_one h
    rw [e2]
    obtain ⟨b, hb, hb1, hb2⟩ := bad_false b1
    obtain ⟨c, hc, hc1, hc2⟩ := bad_false b2
    obtain ⟨r, rfl⟩ : ∃ s, r = b :: s := by cases r <;> simp at hb; exact ⟨_, by rw [hb]⟩
    obtain ⟨r, rfl⟩ : ∃ s, r = c :: s := by cases r <;> simp at hc; exact ⟨_, by rw [hc]⟩
    show good [a, b, c] = true
    simp only [good, decide_eq_true_eq]
    refine ⟨by omega, by omega, ?_, ?_, ?_, ?_, hc1, hc2⟩
    · split at hb1 <;> omega
    · split at hb2 <;> omega
    · intro e; rw [if_pos e] at hb1; exact hb1
    · intro e; rw [if_pos e] at hb2; exact hb2
  by_cases h5 : a.toNat ≤ 244
  · have hp : pc (a :: r) = scan (a :: r) 4 (0 + 1 + 1 + 1) 1 (if a.toNat = 240 then 144 else 128) (if a.toNat = 244 then 143 else 191) := by unfold pc; simp only [List.headD_cons]; rw [beg_eq4 (by omega) h5]; rfl
    rw [hp] at h ⊢
    obtain ⟨b1, e1⟩ := scan_one h
    rw [e1] at h ⊢
    obtain ⟨b2, e2⟩ := scan_one h
    rw [e2] at h ⊢
    obtain ⟨b3, e3⟩ := scan_one h
    rw [e3]
    obtain ⟨b, hb, hb1, hb2⟩ := bad_false b1
    obtain ⟨c, hc, hc1, hc2⟩ := bad_false b2
    obtain ⟨d, hd, hd1, hd2⟩ := bad_false b3
    obtain ⟨r, rfl⟩ : ∃ s, r = b :: s := by cases r <;> simp at hb; exact ⟨_, by rw [hb]⟩
    obtain ⟨r, rfl⟩ : ∃ s, r = c :: s := by cases r <;> simp at hc; exact ⟨_, by rw [hc]⟩
    obtain ⟨r, rfl⟩ : ∃ s, r = d :: s := by cases r <;> simp at hd; exact ⟨_, by rw [hd]⟩
    show good [a, b, c, d] = true
    simp only [good, decide_eq_true_eq]
    refine ⟨by omega, by omega, ?_, ?_, ?_, ?_, hc1, hc2, hd1, hd2⟩
    · split at hb1 <;> omega
    · split at hb2 <;> omega
    · intro e; rw [if_pos e] at hb1; exact hb1
    · intro e; rw [if_pos e] at hb2; exact hb2
  · unfold pc at h
    simp only [List.headD_cons] at h
    rw [beg_eq0 (.inr (by omega))] at h
    simp [scan] at h

/-- the model's reading of a text's front -/
def chr (l : List UInt8) : Nat × Nat := Lib.decodeN l.length (l.getD 0 0).toNat (l.getD 1 0).toNat (l.getD 2 0).toNat (l.getD 3 0).toNat
theorem get_getD (s : ByteArray) (i k : Nat) : s.get! (i + k) = (s.data.toList.drop i).getD k 0 := by
  rw [List.getD_eq_getElem?_getD, List.getElem?_drop]
  show s.data[i + k]! = _
  rw [getElem!_def, Array.getElem?_toList]
  cases s.data[i + k]? <;> rfl
theorem decode_chr (s : ByteArray) (i : Nat) : Utf8.decode s i = chr (s.data.toList.drop i) := by
  have h0 := get_getD s i 0
  rw [Nat.add_zero] at h0
  rw [Lib.decode_at, h0, get_getD, get_getD, get_getD]
  unfold chr
  rw [List.length_drop]; rfl

/-- the character that a right piece stands for -/
def val (p : List UInt8) : Nat := (chr p).1

set_option maxRecDepth 100000 in
theorem chr_good (p r : List UInt8) (h : good p = true) : chr (p ++ r) = (val p, p.length) := by
  match p, h with
  | [a], h =>
    simp only [good, decide_eq_true_eq] at h
    have h' : a.toNat < 128 := by omega
    simp [chr, val, Lib.decodeN, h']
  | [a, b], h =>
    simp only [good, decide_eq_true_eq] at h
    obtain ⟨h1, h2, h3, h4⟩ := h
    have e0 : ¬ a.toNat < 128 := by omega
    have e1 : a.toNat / 32 = 6 := by omega
    have e2 : b.toNat / 64 = 2 := by omega
    have e3 : 128 ≤ a.toNat % 32 * 64 + b.toNat % 64 := by omega
    simp [chr, val, Lib.decodeN, e0, e1, e2, e3]
  | [a, b, c], h =>
    simp only [good, decide_eq_true_eq] at h
    obtain ⟨h1, h2, h3, h4, h5, h6, h7, h8⟩ := h
    have e0 : ¬ a.toNat < 128 := by omega
    have e1 : ¬ a.toNat / 32 = 6 := by omega
    have e2 : a.toNat / 16 = 14 := by omega
    have e3 : b.toNat / 64 = 2 := by omega
    have e4 : c.toNat / 64 = 2 := by omega
    have e5 : 2048 ≤ a.toNat % 16 * 4096 + b.toNat % 64 * 64 + c.toNat % 64 := by omega
    have e6 : (a.toNat % 16 * 4096 + b.toNat % 64 * 64 + c.toNat % 64 < 55296 ∨ (57344 ≤ a.toNat % 16 * 4096 + b.toNat % 64 * 64 + c.toNat % 64 ∧ a.toNat % 16 * 4096 + b.toNat % 64 * 64 + c.toNat % 64 ≤ 1114111)) := by omega
    simp [chr, val, Lib.decodeN, e0, e1, e2, e3, e4, e5, e6]
  | [a, b, c, d], h =>
    simp only [good, decide_eq_true_eq] at h
    obtain ⟨h1, h2, h3, h4, h5, h6, h7, h8, h9, h10⟩ := h
    have e0 : ¬ a.toNat < 128 := by omega
    have e1 : ¬ a.toNat / 32 = 6 := by omega
    have e2 : ¬ a.toNat / 16 = 14 := by omega
    have e3 : b.toNat / 64 = 2 := by omega
    have e4 : c.toNat / 64 = 2 := by omega
    have e5 : d.toNat / 64 = 2 := by omega
    have e6 : a.toNat / 8 = 30 := by omega
    have e7 : 65536 ≤ a.toNat % 8 * 262144 + b.toNat % 64 * 4096 + c.toNat % 64 * 64 + d.toNat % 64 := by omega
    have e8 : (a.toNat % 8 * 262144 + b.toNat % 64 * 4096 + c.toNat % 64 * 64 + d.toNat % 64 < 55296 ∨ (57344 ≤ a.toNat % 8 * 262144 + b.toNat % 64 * 4096 + c.toNat % 64 * 64 + d.toNat % 64 ∧ a.toNat % 8 * 262144 + b.toNat % 64 * 4096 + c.toNat % 64 * 64 + d.toNat % 64 ≤ 1114111)) := by omega
    simp [chr, val, Lib.decodeN, e0, e1, e2, e3, e4, e5, e6, e7, e8]

/-- a number's bytes, as the language writes them -/
def enc (r : Int) : List UInt8 := (Utf8.encode r).data.toList
def isChar (r : Int) : Prop := (0 ≤ r ∧ r < 55296) ∨ (57344 ≤ r ∧ r ≤ 1114111)

set_option maxRecDepth 100000 in
theorem enc_val (p : List UInt8) (h : good p = true) : enc (val p) = p ∧ isChar (val p) := by
  match p, h with
  | [a], h =>
    simp only [good, decide_eq_true_eq] at h
    have hv : val [a] = a.toNat := by
      have h' : a.toNat < 128 := by omega
      simp [val, chr, Lib.decodeN, h']
    rw [hv]
    refine ⟨?_, .inl (by omega)⟩
    have hva : Utf8.valid (a.toNat : Int) = true := by simp only [Utf8.valid, Bool.or_eq_true, Bool.and_eq_true, decide_eq_true_eq]; omega
    have h1 : a.toNat < 128 := by omega
    simp [enc, Utf8.encode, hva, h1]
  | [a, b], h =>
    simp only [good, decide_eq_true_eq] at h
    obtain ⟨h1, h2, h3, h4⟩ := h
    have hv : val [a, b] = (a.toNat - 192) * 64 + (b.toNat - 128) := by
      have e0 : ¬ a.toNat < 128 := by omega
      have e1 : a.toNat / 32 = 6 := by omega
      have e2 : b.toNat / 64 = 2 := by omega
      have e3 : 128 ≤ a.toNat % 32 * 64 + b.toNat % 64 := by omega
      simp [chr, val, Lib.decodeN, e0, e1, e2, e3]; omega
    rw [hv]
    obtain ⟨v, hv2⟩ : ∃ v, v = (a.toNat - 192) * 64 + (b.toNat - 128) := ⟨_, rfl⟩
    rw [← hv2]
    refine ⟨?_, .inl (by omega)⟩
    have hva : Utf8.valid (v : Int) = true := by simp only [Utf8.valid, Bool.or_eq_true, Bool.and_eq_true, decide_eq_true_eq]; omega
    have g1 : ¬ v < 128 := by omega
    have g2 : v < 2048 := by omega
    have x1 : 192 + v / 64 = a.toNat := by omega
    have x2 : 128 + v % 64 = b.toNat := by omega
    simp [enc, Utf8.encode, hva, g1, g2, x1, x2]
  | [a, b, c], h =>
    simp only [good, decide_eq_true_eq] at h
    obtain ⟨h1, h2, h3, h4, h5, h6, h7, h8⟩ := h
    have hv : val [a, b, c] = (a.toNat - 224) * 4096 + (b.toNat - 128) * 64 + (c.toNat - 128) := by
      have e0 : ¬ a.toNat < 128 := by omega
      have e1 : ¬ a.toNat / 32 = 6 := by omega
      have e2 : a.toNat / 16 = 14 := by omega
      have e3 : b.toNat / 64 = 2 := by omega
      have e4 : c.toNat / 64 = 2 := by omega
      have e5 : 2048 ≤ a.toNat % 16 * 4096 + b.toNat % 64 * 64 + c.toNat % 64 := by omega
      have e6 : (a.toNat % 16 * 4096 + b.toNat % 64 * 64 + c.toNat % 64 < 55296 ∨ (57344 ≤ a.toNat % 16 * 4096 + b.toNat % 64 * 64 + c.toNat % 64 ∧ a.toNat % 16 * 4096 + b.toNat % 64 * 64 + c.toNat % 64 ≤ 1114111)) := by omega
      simp [chr, val, Lib.decodeN, e0, e1, e2, e3, e4, e5, e6]; omega
    rw [hv]
    obtain ⟨v, hv2⟩ : ∃ v, v = (a.toNat - 224) * 4096 + (b.toNat - 128) * 64 + (c.toNat - 128) := ⟨_, rfl⟩
    rw [← hv2]
    have hch : (v < 55296) ∨ (57344 ≤ v ∧ v ≤ 65535) := by omega
    refine ⟨?_, by unfold isChar; omega⟩
    have hva : Utf8.valid (v : Int) = true := by simp only [Utf8.valid, Bool.or_eq_true, Bool.and_eq_true, decide_eq_true_eq]; omega
    have g1 : ¬ v < 128 := by omega
    have g2 : ¬ v < 2048 := by omega
    have g3 : v < 65536 := by omega
    have x1 : 224 + v / 4096 = a.toNat := by omega
    have x2 : 128 + v / 64 % 64 = b.toNat := by omega
    have x3 : 128 + v % 64 = c.toNat := by omega
    simp [enc, Utf8.encode, hva, g1, g2, g3, x1, x2, x3]
  | [a, b, c, d], h =>
    simp only [good, decide_eq_true_eq] at h
    obtain ⟨h1, h2, h3, h4, h5, h6, h7, h8, h9, h10⟩ := h
    have hv : val [a, b, c, d] = (a.toNat - 240) * 262144 + (b.toNat - 128) * 4096 + (c.toNat - 128) * 64 + (d.toNat - 128) := by
      have e0 : ¬ a.toNat < 128 := by omega
      have e1 : ¬ a.toNat / 32 = 6 := by omega
      have e2 : ¬ a.toNat / 16 = 14 := by omega
      have e3 : b.toNat / 64 = 2 := by omega
      have e4 : c.toNat / 64 = 2 := by omega
      have e5 : d.toNat / 64 = 2 := by omega
      have e6 : a.toNat / 8 = 30 := by omega
      have e7 : 65536 ≤ a.toNat % 8 * 262144 + b.toNat % 64 * 4096 + c.toNat % 64 * 64 + d.toNat % 64 := by omega
      have e8 : (a.toNat % 8 * 262144 + b.toNat % 64 * 4096 + c.toNat % 64 * 64 + d.toNat % 64 < 55296 ∨ (57344 ≤ a.toNat % 8 * 262144 + b.toNat % 64 * 4096 + c.toNat % 64 * 64 + d.toNat % 64 ∧ a.toNat % 8 * 262144 + b.toNat % 64 * 4096 + c.toNat % 64 * 64 + d.toNat % 64 ≤ 1114111)) := by omega
      simp [chr, val, Lib.decodeN, e0, e1, e2, e3, e4, e5, e6, e7, e8]; omega
    rw [hv]
    obtain ⟨v, hv2⟩ : ∃ v, v = (a.toNat - 240) * 262144 + (b.toNat - 128) * 4096 + (c.toNat - 128) * 64 + (d.toNat - 128) := ⟨_, rfl⟩
    rw [← hv2]
    have hch : 65536 ≤ v ∧ v ≤ 1114111 := by omega
    refine ⟨?_, by unfold isChar; omega⟩
    have hva : Utf8.valid (v : Int) = true := by simp only [Utf8.valid, Bool.or_eq_true, Bool.and_eq_true, decide_eq_true_eq]; omega
    have g1 : ¬ v < 128 := by omega
    have g2 : ¬ v < 2048 := by omega
    have g3 : ¬ v < 65536 := by omega
    have x1 : 240 + v / 262144 = a.toNat := by omega
    have x2 : 128 + v / 4096 % 64 = b.toNat := by omega
    have x3 : 128 + v / 64 % 64 = c.toNat := by omega
    have x4 : 128 + v % 64 = d.toNat := by omega
    simp [enc, Utf8.encode, hva, g1, g2, g3, x1, x2, x3, x4]

theorem toNat_of {n : Nat} (h : n < 256) : (UInt8.ofNat n).toNat = n := by rw [UInt8.toNat_ofNat']; omega
set_option maxRecDepth 100000 in
theorem good_enc (v : Nat) (h : isChar v) : good (enc v) = true ∧ val (enc v) = v := by
  have hva : Utf8.valid (v : Int) = true := by unfold isChar at h; simp only [Utf8.valid, Bool.or_eq_true, Bool.and_eq_true, decide_eq_true_eq]; omega
  have hch : v < 55296 ∨ (57344 ≤ v ∧ v ≤ 1114111) := by unfold isChar at h; omega
  by_cases g1 : v < 128
  · have he : enc v = [UInt8.ofNat v] := by simp [enc, Utf8.encode, hva, g1]
    rw [he]
    have t := toNat_of (n := v) (by omega)
    constructor
    · simp only [good, t, decide_eq_true_eq]; omega
    · simp [val, chr, Lib.decodeN, t, g1]
  by_cases g2 : v < 2048
  · have he : enc v = [UInt8.ofNat (192 + v / 64), UInt8.ofNat (128 + v % 64)] := by simp [enc, Utf8.encode, hva, g1, g2]
    rw [he]
    have t1 := toNat_of (n := 192 + v / 64) (by omega)
    have t2 := toNat_of (n := 128 + v % 64) (by omega)
    constructor
    · simp only [good, t1, t2, decide_eq_true_eq]; omega
    · have e0 : ¬ 192 + v / 64 < 128 := by omega
      have e1 : (192 + v / 64) / 32 = 6 := by omega
      have e2 : (128 + v % 64) / 64 = 2 := by omega
      have e3 : 128 ≤ (192 + v / 64) % 32 * 64 + (128 + v % 64) % 64 := by omega
      simp only [val, chr, Lib.decodeN, List.getD_cons_zero, List.getD_cons_succ, List.length_cons, List.length_nil, t1, t2, if_neg e0, if_pos (And.intro e1 (And.intro (by omega : 1 < 0 + 1 + 1) e2)), if_pos e3]
      omega
  by_cases g3 : v < 65536
  · have he : enc v = [UInt8.ofNat (224 + v / 4096), UInt8.ofNat (128 + v / 64 % 64), UInt8.ofNat (128 + v % 64)] := by simp [enc, Utf8.encode, hva, g1, g2, g3]
    rw [he]
    have t1 := toNat_of (n := 224 + v / 4096) (by omega)
    have t2 := toNat_of (n := 128 + v / 64 % 64) (by omega)
    have t3 := toNat_of (n := 128 + v % 64) (by omega)
    constructor
    · simp only [good, t1, t2, t3, decide_eq_true_eq]; omega
    · have e0 : ¬ 224 + v / 4096 < 128 := by omega
      have e1 : ¬ (224 + v / 4096) / 32 = 6 := by omega
      have e2 : (224 + v / 4096) / 16 = 14 := by omega
      have e3 : (128 + v / 64 % 64) / 64 = 2 := by omega
      have e4 : (128 + v % 64) / 64 = 2 := by omega
      have e5 : (224 + v / 4096) % 16 * 4096 + (128 + v / 64 % 64) % 64 * 64 + (128 + v % 64) % 64 = v := by omega
      simp only [val, chr, Lib.decodeN, List.getD_cons_zero, List.getD_cons_succ, List.length_cons, List.length_nil, t1, t2, t3, if_neg e0, e1, e2, e3, e4, e5, false_and, if_false]
      rw [if_pos ⟨trivial, ⟨by omega, trivial⟩, by omega, trivial⟩, if_pos (by omega)]
  · have he : enc v = [UInt8.ofNat (240 + v / 262144), UInt8.ofNat (128 + v / 4096 % 64), UInt8.ofNat (128 + v / 64 % 64), UInt8.ofNat (128 + v % 64)] := by simp [enc, Utf8.encode, hva, g1, g2, g3]
    rw [he]
    have t1 := toNat_of (n := 240 + v / 262144) (by omega)
    have t2 := toNat_of (n := 128 + v / 4096 % 64) (by omega)
    have t3 := toNat_of (n := 128 + v / 64 % 64) (by omega)
    have t4 := toNat_of (n := 128 + v % 64) (by omega)
    constructor
    · simp only [good, t1, t2, t3, t4, decide_eq_true_eq]; omega
    · have e0 : ¬ 240 + v / 262144 < 128 := by omega
      have e1 : ¬ (240 + v / 262144) / 32 = 6 := by omega
      have e2 : ¬ (240 + v / 262144) / 16 = 14 := by omega
      have e2' : (240 + v / 262144) / 8 = 30 := by omega
      have e3 : (128 + v / 4096 % 64) / 64 = 2 := by omega
      have e4 : (128 + v / 64 % 64) / 64 = 2 := by omega
      have e4' : (128 + v % 64) / 64 = 2 := by omega
      have e5 : (240 + v / 262144) % 8 * 262144 + (128 + v / 4096 % 64) % 64 * 4096 + (128 + v / 64 % 64) % 64 * 64 + (128 + v % 64) % 64 = v := by omega
      simp only [val, chr, Lib.decodeN, List.getD_cons_zero, List.getD_cons_succ, List.length_cons, List.length_nil, t1, t2, t3, t4, if_neg e0, e1, e2, e2', e3, e4, e4', e5, false_and, if_false]
      rw [if_pos ⟨trivial, ⟨by omega, trivial⟩, ⟨by omega, trivial⟩, by omega, trivial⟩, if_pos (by omega)]
theorem enc_bad (r : Int) (h : ¬ isChar r) : enc r = fffd := by
  have hva : Utf8.valid r = false := by
    cases hv : Utf8.valid r
    · rfl
    · unfold isChar at h; simp only [Utf8.valid, Bool.or_eq_true, Bool.and_eq_true, decide_eq_true_eq] at hv; omega
  simp [enc, Utf8.encode, hva, Utf8.runeError, fffd]
end Go.Proofs.Ytpepoccoljmmjaa
