/- One byte a character: plain lists. -/
import Derived.Test.YtpepoccoljmmjaaW
set_option linter.unusedVariables false
namespace Go.Proofs.Ytpepoccoljmmjaa

def oddTab : List Nat := [8364, 129, 8218, 402, 8222, 8230, 8224, 8225, 710, 8240, 352, 8249, 338, 141, 381, 143, 144, 8216, 8217, 8220, 8221, 8226, 8211, 8212, 732, 8482, 353, 8250, 339, 157, 382, 376]
/-- a byte's character -/
def cp (c : Nat) : Nat := if c < 128 ∨ 159 < c then c else oddTab.getD (c - 128) 0
def cpi (c : UInt8) : Int := (cp c.toNat : Nat)

theorem cp_plain {c : Nat} (h : c < 128 ∨ 159 < c) : cp c = c := by unfold cp; rw [if_pos h]
theorem cp_odd {c : Nat} (h1 : 128 ≤ c) (h2 : c ≤ 159) : cp c = oddTab.getD (c - 128) 0 := by unfold cp; rw [if_neg (by omega)]
theorem oddTab_all : ∀ c, c < 32 → 129 ≤ oddTab.getD c 0 ∧ oddTab.getD c 0 < 8500 ∧ (oddTab.getD c 0 ≤ 255 → oddTab.getD c 0 = c + 128) := by decide +kernel
theorem oddTab_inj : ∀ a, a < 32 → ∀ b, b < 32 → oddTab.getD a 0 = oddTab.getD b 0 → a = b := by decide +kernel
theorem cp_inj {a b : Nat} (ha : a < 256) (hb : b < 256) (h : cp a = cp b) : a = b := by
  by_cases h1 : a < 128 ∨ 159 < a
  · by_cases h2 : b < 128 ∨ 159 < b
    · rw [cp_plain h1, cp_plain h2] at h; exact h
    · rw [cp_plain h1, cp_odd (by omega) (by omega)] at h
      have := oddTab_all (b - 128) (by omega)
      have := this.2.2 (by omega)
      omega
  · by_cases h2 : b < 128 ∨ 159 < b
    · rw [cp_plain h2, cp_odd (by omega) (by omega)] at h
      have := oddTab_all (a - 128) (by omega)
      have := this.2.2 (by omega)
      omega
    · rw [cp_odd (by omega) (by omega), cp_odd (by omega) (by omega)] at h
      have := oddTab_inj (a - 128) (by omega) (b - 128) (by omega) h
      omega
theorem cp_le {c : Nat} (h : c < 256) : cp c < 8500 := by
  by_cases h1 : c < 128 ∨ 159 < c
  · rw [cp_plain h1]; omega
  · rw [cp_odd (by omega) (by omega)]; exact (oddTab_all (c - 128) (by omega)).2.1
theorem cp_hi {c : Nat} (h : c < 256) (h1 : 128 ≤ c) : 129 ≤ cp c ∨ 160 ≤ cp c := by
  by_cases h2 : c < 128 ∨ 159 < c
  · rw [cp_plain h2]; omega
  · rw [cp_odd (by omega) (by omega)]; exact .inl (oddTab_all (c - 128) (by omega)).1
theorem cp_char {c : Nat} (h : c < 256) : isChar (cp c : Nat) := by have := cp_le h; unfold isChar; omega

/-- the byte of a character -/
def byt (r : Int) : Option Nat := (List.range 256).find? fun c => decide ((cp c : Int) = r)
theorem byt_some {r : Int} {c : Nat} (hc : c < 256) (h : (cp c : Int) = r) : byt r = some c := by
  cases hb : byt r with
  | none =>
    unfold byt at hb
    rw [List.find?_eq_none] at hb
    exact absurd (by simpa using h) (hb c (List.mem_range.2 hc))
  | some d =>
    unfold byt at hb
    have h1 := List.find?_some hb
    have h2 := List.mem_range.1 (List.mem_of_find?_eq_some hb)
    have h3 : (cp d : Int) = r := by simpa using h1
    have : d = c := cp_inj h2 hc (by omega)
    rw [this]
theorem byt_none {r : Int} (h : ∀ c, c < 256 → (cp c : Int) ≠ r) : byt r = none := by
  unfold byt
  rw [List.find?_eq_none]
  intro c hc
  simpa using h c (List.mem_range.1 hc)
theorem byt_is {r : Int} {c : Nat} (h : byt r = some c) : c < 256 ∧ (cp c : Int) = r := by
  unfold byt at h
  have h1 := List.find?_some h
  exact ⟨List.mem_range.1 (List.mem_of_find?_eq_some h), by simpa using h1⟩
theorem byt_cp {c : Nat} (h : c < 256) : byt (cp c : Nat) = some c := byt_some h rfl
theorem byt_plain {r : Nat} (h : r < 256) (h1 : r < 128 ∨ 159 < r) : byt (r : Int) = some r := byt_some h (by rw [cp_plain h1])

/-- the bytes of characters -/
def encL : List Nat → Option (List UInt8)
  | [] => some []
  | x :: r => (byt x).bind fun c => (encL r).map (UInt8.ofNat c :: ·)
theorem encL_append (a b : List Nat) : encL (a ++ b) = (encL a).bind fun x => (encL b).map (x ++ ·) := by
  induction a with
  | nil => simp [encL]
  | cons x r ih =>
    simp only [List.cons_append, encL, ih]
    cases byt x <;> cases encL r <;> cases encL b <;> simp
theorem encL_snoc {l : List Nat} {k : Nat} (hk : k < l.length) {acc : List UInt8} (h : encL (l.take k) = some acc) {c : Nat} (hc : byt l[k] = some c) : encL (l.take (k + 1)) = some (acc ++ [UInt8.ofNat c]) := by
  rw [List.take_succ_eq_append_getElem hk, encL_append, h]
  simp [encL, hc]
theorem encL_stop {l : List Nat} {k : Nat} (hk : k < l.length) (hc : byt l[k] = none) : encL l = none := by
  have : l = l.take k ++ (l[k] :: l.drop (k + 1)) := by rw [← List.drop_eq_getElem_cons hk, List.take_append_drop]
  rw [this, encL_append]
  cases encL (l.take k) <;> simp [encL, hc]
theorem encL_len {l : List Nat} {b : List UInt8} (h : encL l = some b) : b.length = l.length := by
  induction l generalizing b with
  | nil => simp [encL] at h; subst h; rfl
  | cons x r ih =>
    simp only [encL] at h
    cases hx : byt x with
    | none => rw [hx] at h; simp at h
    | some c =>
      cases hr : encL r with
      | none => rw [hx, hr] at h; simp at h
      | some m => rw [hx, hr] at h; simp at h; subst h; simp [ih hr]
theorem encL_cp (b : List UInt8) : encL (b.map fun c => cp c.toNat) = some b := by
  induction b with
  | nil => rfl
  | cons x r ih =>
    simp only [List.map_cons, encL, ih, byt_cp x.toNat_lt]
    simp

/-- the characters of bytes -/
def dcd (b : List UInt8) : List UInt8 := encs (b.map cpi)
theorem dcd_append (a b : List UInt8) : dcd (a ++ b) = dcd a ++ dcd b := by unfold dcd; rw [List.map_append, encs_append]
theorem dcd_snoc (l : List UInt8) (k : Nat) (h : k < l.length) : dcd (l.take (k + 1)) = dcd (l.take k) ++ enc (cpi l[k]) := by
  rw [List.take_succ_eq_append_getElem h, dcd_append]; simp [dcd, encs]
theorem cpi_char (c : UInt8) : isChar (cpi c) := cp_char c.toNat_lt
theorem rns_dcd (b : List UInt8) : rns (dcd b) = b.map fun c => cp c.toNat := by
  have h := rns_encs (b.map cpi) (by intro x hx; obtain ⟨c, _, rfl⟩ := List.mem_map.1 hx; exact cpi_char c)
  have hinj : ∀ x y : List Nat, x.map (fun n : Nat => (n : Int)) = y.map (fun n : Nat => (n : Int)) → x = y := by
    intro x
    induction x with
    | nil => intro y h; cases y; rfl; simp at h
    | cons a r ih =>
      intro y h
      cases y with
      | nil => simp at h
      | cons c s => simp only [List.map_cons, List.cons.injEq] at h; rw [ih s h.2, Int.ofNat.inj h.1]
  apply hinj
  unfold dcd
  rw [h, List.map_map]; rfl
theorem flt_dcd (b : List UInt8) : flt (dcd b) = (dcd b).length := flt_ok _ (ok_encs _)
theorem encL_dcd (b : List UInt8) : encL (rns (dcd b)) = some b := by rw [rns_dcd, encL_cp]
theorem rns_len_dcd (b : List UInt8) : (rns (dcd b)).length = b.length := by rw [rns_dcd, List.length_map]

/-- the first fault stands at the end just if there is none -/
theorem ok_flt (l : List UInt8) (h : flt l = l.length) : AllOk l := by
  induction l using len_ind with
  | _ l ih =>
    by_cases hl : l = []
    · subst hl; exact ok_nil
    · have hb := pc_bd l hl
      have hf := flt_cons l hl
      rw [h] at hf
      have hp : (pc l).2 = true := by
        cases hp : (pc l).2 with
        | true => rfl
        | false => rw [hp] at hf; simp at hf; exact absurd hf hl
      rw [if_pos hp] at hf
      have h2 := ih (l.drop (pc l).1) (by simp only [List.length_drop]; omega) (by simp only [List.length_drop]; omega)
      intro p hm
      rw [pcs_cons l hl] at hm
      rcases List.mem_cons.1 hm with rfl | hm
      · exact hp
      · exact h2 p hm
set_option maxRecDepth 100000 in
theorem rns_ok_append (a b : List UInt8) (h : AllOk a) : rns (a ++ b) = rns a ++ rns b := by
  have he : encs ((rns a).map (fun n : Nat => (n : Int))) = a := by rw [encs_rns, ok_dec a h]
  unfold rns
  rw [← he, pcs_encs, List.map_append, pcs_encs']

/-- bytes below 128 -/
def low (b : List UInt8) : List UInt8 := b.map (· &&& 127)
theorem and127 (c : UInt8) : (c &&& 127).toNat = c.toNat % 128 := by
  rw [UInt8.toNat_and]; exact Nat.and_two_pow_sub_one_eq_mod c.toNat 7
set_option maxRecDepth 100000 in
theorem enc_low (c : Nat) (h : c < 128) : enc (c : Int) = [UInt8.ofNat c] := by
  have hva : Utf8.valid (c : Int) = true := by simp only [Utf8.valid, Bool.or_eq_true, Bool.and_eq_true, decide_eq_true_eq]; omega
  simp [enc, Utf8.encode, hva, h]
set_option maxRecDepth 100000 in
theorem dcd_low (b : List UInt8) (h : ∀ c ∈ b, c.toNat < 128) : dcd b = b := by
  induction b with
  | nil => rfl
  | cons x r ih =>
    have hx := h x (by simp)
    show enc (cpi x) ++ dcd r = _
    rw [ih (fun c hc => h c (by simp [hc]))]
    unfold cpi
    rw [cp_plain (.inl hx), enc_low _ hx]
    simp
theorem low_lt (b : List UInt8) : ∀ c ∈ low b, c.toNat < 128 := by
  intro c hc
  obtain ⟨d, _, rfl⟩ := List.mem_map.1 hc
  rw [and127]; omega
theorem dcd_of_low (b : List UInt8) : dcd (low b) = low b := dcd_low _ (low_lt b)
set_option maxRecDepth 100000 in
theorem encL_low (b : List UInt8) : encL (rns (low b)) = some (low b) := by
  have := encL_dcd (low b); rw [dcd_of_low] at this; exact this
set_option maxRecDepth 100000 in
theorem enc_cpi_len (c : UInt8) : (c.toNat < 128 → (enc (cpi c)).length = 1) ∧ (128 ≤ c.toNat → 2 ≤ (enc (cpi c)).length) ∧ (enc (cpi c)).length ≤ 3 := by
  have hlt := c.toNat_lt
  by_cases h : c.toNat < 128
  · have : (enc (cpi c)).length = 1 := by unfold cpi; rw [cp_plain (.inl h), enc_low _ h]; rfl
    omega
  · have h1 := cp_hi hlt (by omega)
    have h2 := cp_le hlt
    have : 2 ≤ (enc (cpi c)).length ∧ (enc (cpi c)).length ≤ 3 := by
      unfold cpi
      generalize cp c.toNat = v at h1 h2
      have hva : Utf8.valid (v : Int) = true := by simp only [Utf8.valid, Bool.or_eq_true, Bool.and_eq_true, decide_eq_true_eq]; omega
      have g1 : ¬ v < 128 := by omega
      by_cases g2 : v < 2048
      · simp [enc, Utf8.encode, hva, g1, g2]
      · have g3 : v < 65536 := by omega
        simp [enc, Utf8.encode, hva, g1, g2, g3]
    omega
theorem dcd_len (b : List UInt8) : b.length ≤ (dcd b).length ∧ (dcd b).length ≤ 3 * b.length ∧ (b.length < (dcd b).length ↔ low b ≠ b) := by
  induction b with
  | nil => simp [dcd, encs, low]
  | cons x r ih =>
    have e : (dcd (x :: r)).length = (enc (cpi x)).length + (dcd r).length := by show (enc (cpi x) ++ dcd r).length = _; rw [List.length_append]
    have hx := enc_cpi_len x
    have hlt := x.toNat_lt
    have hl : low (x :: r) = (x &&& 127) :: low r := rfl
    rw [e, hl, List.length_cons]
    refine ⟨by omega, by omega, ?_⟩
    by_cases h : x.toNat < 128
    · have h1 : x &&& 127 = x := by apply UInt8.toNat_inj.1; rw [and127]; omega
      rw [h1]
      have := hx.1 h
      rw [this]
      constructor
      · intro hh; have := ih.2.2.1 (by omega); intro h3; exact this (List.cons.inj h3).2
      · intro hh; have := ih.2.2.2 (fun h3 => hh (by rw [h3])); omega
    · have h1 : x &&& 127 ≠ x := by intro h3; have := congrArg UInt8.toNat h3; rw [and127] at this; omega
      have := hx.2.1 (by omega)
      exact ⟨fun _ h3 => h1 (List.cons.inj h3).1, fun _ => by omega⟩
end Go.Proofs.Ytpepoccoljmmjaa
