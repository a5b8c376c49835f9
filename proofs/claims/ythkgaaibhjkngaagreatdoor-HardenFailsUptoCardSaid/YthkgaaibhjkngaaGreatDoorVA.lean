/- Words: the document's answer, small letters and blanks. -/
import Derived.Test.YthkgaaibhjkngaaGreatDoorV
set_option linter.unusedVariables false
namespace Go.Proofs.YthkgaaibhjkngaaGreatDoor
open Go.RowKit

set_option maxHeartbeats 4000000 in
theorem rLower_any (s : ByteArray) (w : World) (hs : s.size ≤ 9223372036854775807) :
    Calls Tryz.prog 104 #[.string s] w fun e w' => e = .returned (.string ⟨(s.data.toList.map lwr).toArray⟩) ∧ Below w.heap.size w w' := by
  obtain ⟨L, hL⟩ : ∃ L, L = s.data.toList := ⟨_, rfl⟩
  have hLl : L.length = s.size := by rw [hL]; simp
  have hcv := run_bytes_of_string (P := Tryz.prog) w 9 45 5 s Tryz.underlying9 Tryz.underlying45 Tryz.underlying5
  have hrow := BRow.start w s (grownCap w s.size 0 5)
  have hbel : Below w.heap.size w (w.drew.alloc (.cells (bytesRow s (grownCap w s.size 0 5)) 5 ((bytesRow s (grownCap w s.size 0 5)).size, (bytesRow s (grownCap w s.size 0 5)).size + 1))) := ((Below.refl _ _).drew).alloc (Nat.le_refl _) _
  have hsz : w.heap.size < (w.drew.alloc (.cells (bytesRow s (grownCap w s.size 0 5)) 5 ((bytesRow s (grownCap w s.size 0 5)).size, (bytesRow s (grownCap w s.size 0 5)).size + 1))).heap.size := by simp
  generalize w.drew.alloc (.cells (bytesRow s (grownCap w s.size 0 5)) 5 ((bytesRow s (grownCap w s.size 0 5)).size, (bytesRow s (grownCap w s.size 0 5)).size + 1)) = W3 at hcv hrow hbel hsz
  generalize grownCap w s.size 0 5 = cap at hcv
  have hBs : w.heap.size ≤ w.heap.size := Nat.le_refl _
  rw [← hL] at hrow
  rw [← hLl] at hcv
  rw [← hL]
  obtain ⟨B, hB⟩ : ∃ B, B = w.heap.size := ⟨_, rfl⟩
  rw [← hB] at hcv hrow
  have hBs : w.heap.size ≤ B := by omega
  have hLb : L.length ≤ 9223372036854775807 := by omega
  have HR := Lib.hid hrow
  have B3 := Lib.hid hbel
  clear hrow hbel hB hL hLl hsz
  go_enter Tryz.func104, Tryz.ntmps104
  go_wp2
  clear hcv
  go_loopw [4] (fun i wr => ∃ (j : Nat), j ≤ L.length ∧ i = .int .i64 j ∧ BRow B wr (upTo L j) ∧ Below w.heap.size w wr) (fun i _ => L.length - (intOf i).toNat)
  case atStart => exact ⟨0, by omega, rfl, by have := HR.out; simpa [upTo] using this, B3.out⟩
  case round =>
    obtain ⟨j, hj, rfl, hR, hb⟩ := hrel
    by_cases hlt : j < L.length
    · obtain ⟨c, hc⟩ : ∃ c, c = L[j] := ⟨_, rfl⟩
      have hjU : j < (upTo L j).length := by rw [upTo_len]; exact hlt
      have hcell := (hR j hjU).1
      have hfrz := (hR j hjU).2
      rw [upTo_at L j hlt, ← hc] at hcell
      have hstep := upTo_step L j hlt
      rw [← hc] at hstep
      obtain ⟨x, hx⟩ : ∃ x : Int, x = (c.toNat : Int) := ⟨_, rfl⟩
      have hx0 : 0 ≤ x := by omega
      have hx1 : x ≤ 255 := by have := c.toNat_lt; omega
      rw [← hx] at hcell
      have hup : 65 ≤ x → x ≤ 90 → ((lwr c).toNat : Int) = x - 65 + 97 := fun h1 h2 => by
        unfold lwr; rw [if_pos (by omega), UInt8.toNat_ofNat']; omega
      have hno : ¬ (65 ≤ x ∧ x ≤ 90) → lwr c = c := fun h => by unfold lwr; rw [if_neg (by omega)]
      have hsame : ¬ (65 ≤ x ∧ x ≤ 90) → upTo L (j + 1) = upTo L j := fun h => by
        rw [hstep, hno h, hc, ← upTo_at L j hlt]; simp
      have hset : 65 ≤ x → x ≤ 90 → BRow B (wr.setCell ⟨B, j, none⟩ (.int .u8 (x - 65 + 97))) (upTo L (j + 1)) := fun h1 h2 => by
        rw [hstep, ← hup h1 h2]; exact hR.set j hjU (lwr c)
      have hbs : Below w.heap.size w (wr.setCell ⟨B, j, none⟩ (.int .u8 (x - 65 + 97))) := hb.setCell (p := ⟨B, j, none⟩) hBs _
      have K1 := Lib.hid hsame
      have K2 := Lib.hid hset
      have K3 := Lib.hid hbs
      have K5 := Lib.hid hR
      have K7 := Lib.hid hb
      clear hstep hup hno hsame hset hbs hR hb hc hx
      by_cases h97 : 65 ≤ x
      · by_cases h102 : x ≤ 90
        · go_wp2
          go_roundw
          case rel => exact ⟨j + 1, by omega, by go_num, K2.out h97 h102, K3.out⟩
          case measure => simp [intOf]; omega
        · go_wp2
          go_roundw
          case rel => exact ⟨j + 1, by omega, by go_num, by rw [K1.out (by omega)]; exact K5.out, K7.out⟩
          case measure => simp [intOf]; omega
      · go_wp2
        go_roundw
        case rel => exact ⟨j + 1, by omega, by go_num, by rw [K1.out (by omega)]; exact K5.out, K7.out⟩
        case measure => simp [intOf]; omega
    · have hjl : j = L.length := by omega
      subst hjl
      rw [upTo_all] at hR
      have hconv := run_convert_bytes_back (P := Tryz.prog) wr 45 9 5 ⟨B, 0, none⟩ cap (L.map lwr) Tryz.underlying45 Tryz.underlying5 Tryz.underlying9 (fun i hi => by
        rw [Lib.add_plain, show 0 + i = i by omega]; exact (hR i hi).1)
      rw [List.length_map] at hconv
      have K7 := Lib.hid hb
      obtain ⟨U, hU⟩ : ∃ U, U = L.map lwr := ⟨_, rfl⟩
      rw [← hU] at hconv
      have HU := Lib.hid hU
      clear hR hb hlt hU
      go_wp2
      go_ret
      exact ⟨by first | rfl | (rw [HU.out]; rfl), K7.out⟩

set_option maxHeartbeats 1000000 in
theorem rSame_any (X Y : ByteArray) (w : World) (hx : X.size ≤ 9223372036854775807) (hy : Y.size ≤ 9223372036854775807) :
    Calls Tryz.prog 63 #[.string X, .string Y] w fun e w' => e = .returned (.bool (decide (X.data.toList.map lwr = Y.data.toList.map lwr))) ∧ Below w.heap.size w w' := by
  have h1 := fun wx => rLower_any X wx hx
  have h2 := fun wx => rLower_any Y wx hy
  obtain ⟨b, hb⟩ : ∃ b, b = decide (X.data.toList.map lwr = Y.data.toList.map lwr) := ⟨_, rfl⟩
  rw [← hb]
  have hb2 : b = decide ((⟨(X.data.toList.map lwr).toArray⟩ : ByteArray) = ⟨(Y.data.toList.map lwr).toArray⟩) := by
    rw [hb]; congr 1; rw [eq_iff_iff]
    constructor
    · intro h; rw [h]
    · intro h; have := congrArg (fun Z : ByteArray => Z.data.toList) h; simpa using this
  clear hb
  generalize (ByteArray.mk (X.data.toList.map lwr).toArray) = U at h1 hb2
  generalize (ByteArray.mk (Y.data.toList.map lwr).toArray) = V at h2 hb2
  have H1 := Lib.hid h1
  have H2 := Lib.hid h2
  by_cases f : U = V
  · subst f
    have HV : Hid (b = true) := Lib.hid (by rw [hb2]; simp)
    clear h1 h2 hb2
    go_enter Tryz.func63, Tryz.ntmps63
    go_wp2_with fail
    refine (H1.out _).mono ?_; rintro e w1 ⟨rfl, hb⟩
    have B1 := Lib.hid hb
    clear hb
    go_wp2_with fail
    refine (H2.out _).mono ?_; rintro e w2 ⟨rfl, hb⟩
    have B2 := Lib.hid (B1.out.trans (hb.mono B1.out.size))
    clear hb
    go_wp2
    go_ret
    exact ⟨ret_bool HV.out.symm, B2.out⟩
  · have HV : Hid (b = false) := Lib.hid (by rw [hb2]; simp [f])
    have f2 : (U.toList == V.toList) = false := by
      rw [toList_data', toList_data']
      simp; intro h; exact f (by apply ByteArray.ext; rw [← Array.toArray_toList (xs := U.data), h])
    clear h1 h2 hb2 f
    go_enter Tryz.func63, Tryz.ntmps63
    go_wp2_with fail
    refine (H1.out _).mono ?_; rintro e w1 ⟨rfl, hb⟩
    have B1 := Lib.hid hb
    clear hb
    go_wp2_with fail
    refine (H2.out _).mono ?_; rintro e w2 ⟨rfl, hb⟩
    have B2 := Lib.hid (B1.out.trans (hb.mono B1.out.size))
    clear hb
    go_wp2
    go_ret
    exact ⟨ret_bool HV.out.symm, B2.out⟩

/- blanks, from the left and from the right -/
def tl (l : List UInt8) : List UInt8 := Lib.trimLeftS l blanks
def tr (l : List UInt8) : List UInt8 := Lib.trimRightS l blanks
theorem tl_yes (c : UInt8) (r : List UInt8) (h : blanks.contains c = true) : tl (c :: r) = tl r := by
  unfold tl Lib.trimLeftS; rw [List.dropWhile_cons, if_pos h]
theorem tl_no (c : UInt8) (r : List UInt8) (h : blanks.contains c = false) : tl (c :: r) = c :: r := by
  unfold tl Lib.trimLeftS; rw [List.dropWhile_cons, if_neg (by rw [h]; simp)]
theorem tr_cons (c : UInt8) (r : List UInt8) : tr (c :: r) = if tr r = [] then (if blanks.contains c = true then [] else [c]) else c :: tr r := by
  unfold tr Lib.trimRightS
  rw [List.reverse_cons, List.dropWhile_append]
  by_cases h : (r.reverse.dropWhile (blanks.contains ·)) = []
  · rw [h]
    simp only [List.isEmpty_nil, if_pos, List.reverse_nil, List.dropWhile_cons, List.dropWhile_nil]
    split <;> simp
  · have h2 : (r.reverse.dropWhile (blanks.contains ·)).isEmpty = false := by
      cases hh : r.reverse.dropWhile (blanks.contains ·)
      · exact absurd hh h
      · rfl
    rw [h2]
    have h3 : (r.reverse.dropWhile (blanks.contains ·)).reverse ≠ [] := by simpa using h
    rw [if_neg h3]
    simp
theorem tl_tr (l : List UInt8) : tl (tr l) = tr (tl l) := by
  induction l with
  | nil => rfl
  | cons c r ih =>
    cases hc : blanks.contains c with
    | true =>
      rw [tl_yes c r hc, ← ih, tr_cons]
      by_cases ht : tr r = []
      · rw [if_pos ht, if_pos hc, ht]
      · rw [if_neg ht, tl_yes c _ hc]
    | false =>
      rw [tl_no c r hc, tr_cons]
      by_cases ht : tr r = []
      · rw [if_pos ht, if_neg (by rw [hc]; simp)]; exact tl_no c _ hc
      · rw [if_neg ht]; exact tl_no c _ hc
theorem trim_is (l : List UInt8) : trim l = tr (tl l) := by rw [← tl_tr]; rfl
theorem tr_last (l : List UInt8) (h : 0 < l.length) : (blanks.contains (l.getD (l.length - 1) 0) = true → tr (l.take (l.length - 1)) = tr l) ∧ (blanks.contains (l.getD (l.length - 1) 0) = false → tr l = l) := by
  have hne : l ≠ [] := by intro e; rw [e] at h; simp at h
  have hl : l.getD (l.length - 1) 0 = l.getLast hne := by rw [getD_at' (by omega), List.getLast_eq_getElem]
  rw [hl, ← List.dropLast_eq_take]
  have e : l = l.dropLast ++ [l.getLast hne] := (List.dropLast_concat_getLast hne).symm
  generalize l.getLast hne = c at e ⊢
  generalize l.dropLast = r at e ⊢
  subst e
  unfold tr Lib.trimRightS
  rw [List.reverse_append, List.reverse_singleton, List.singleton_append, List.dropWhile_cons]
  refine ⟨fun h => by rw [if_pos h], fun h => by rw [if_neg (by rw [h]; simp)]; simp⟩
theorem tl_head (l : List UInt8) (h : 0 < l.length) : (blanks.contains (l.getD 0 0) = true → tl (l.drop 1) = tl l) ∧ (blanks.contains (l.getD 0 0) = false → tl l = l) := by
  cases l with
  | nil => simp at h
  | cons c r => exact ⟨fun h => (tl_yes c r h).symm, fun h => tl_no c r h⟩

set_option maxHeartbeats 4000000 in
theorem rTrim_any (X : ByteArray) (w : World) (hs : X.size ≤ 9223372036854775807) :
    Calls Tryz.prog 119 #[.string X] w fun e w' => e = .returned (.string ⟨(trim X.data.toList).toArray⟩) ∧ w = w' := by
  rw [trim_is]
  obtain ⟨l1, hl1⟩ : ∃ l1, l1 = tl X.data.toList := ⟨_, rfl⟩
  rw [← hl1]
  obtain ⟨R, hR⟩ : ∃ R : ByteArray, R = ⟨(tr l1).toArray⟩ := ⟨_, rfl⟩
  rw [← hR]
  have hbl : ∀ (S : ByteArray) k (h : k < S.size) wx, Calls Tryz.prog 135 #[.int .u8 S[k].toNat] wx fun e w' => e = .returned (.bool (blanks.contains (S.data.toList.getD k 0))) ∧ wx = w' := fun S k h wx => by
    rw [byte_getD S k h]; exact blank_any _ wx
  have HBL := Lib.hid hbl
  have HL1 := Lib.hid hl1
  have HR := Lib.hid hR
  clear hbl hl1 hR
  go_enter Tryz.func119, Tryz.ntmps119
  go_wp2_with fail
  go_loopw [0] (fun s wr => ∃ S : ByteArray, s = .string S ∧ S.size ≤ X.size ∧ tl S.data.toList = l1 ∧ wr = w) (fun s _ => strLen s)
  case atStart => exact ⟨X, rfl, Nat.le_refl _, HL1.out.symm, rfl⟩
  case round =>
    obtain ⟨S, rfl, hsz, htl, rfl⟩ := hrel
    by_cases hout : S.size = 0 ∨ (∃ h : 0 < S.size, blanks.contains (S.data.toList.getD 0 0) = false)
    · have hS : S.data.toList = l1 := by
        rcases hout with h | ⟨h, h2⟩
        · have := empty_beq h; subst this; exact htl
        · rw [← htl]; exact ((tl_head _ (by rw [len_data]; exact h)).2 h2).symm
      have HS := Lib.hid hS
      clear htl hS
      rcases hout with h0 | ⟨h0, hb⟩
      · have hx := empty_beq h0
        subst hx
        clear h0
        go_wp2_with fail
        go_loopw [0] (fun s w2 => ∃ S : ByteArray, s = .string S ∧ S.size ≤ X.size ∧ tr S.data.toList = tr l1 ∧ w2 = wr) (fun s _ => strLen s)
        case atStart => exact ⟨⟨#[]⟩, rfl, hsz, by rw [HS.out], rfl⟩
        case round =>
          obtain ⟨S2, rfl, hsz2, htr, rfl⟩ := hrel
          rcases Nat.eq_zero_or_pos S2.size with h0 | h0
          · have hx := empty_beq h0
            subst hx
            have HV : Hid (R = ⟨#[]⟩) := Lib.hid (by rw [HR.out, ← htr]; rfl)
            clear h0 htr
            go_wp2
            go_ret
            exact ⟨ret_str HV.out.symm, rfl⟩
          · obtain ⟨n, hn⟩ : ∃ n, S2.size = n + 1 := ⟨S2.size - 1, by omega⟩
            have hlt : n < S2.size := by omega
            have hc := HBL.out S2 n hlt
            obtain ⟨t1, t2⟩ := tr_last S2.data.toList (by rw [len_data]; exact h0)
            rw [len_data, show S2.size - 1 = n by omega] at t1 t2
            cases hb : blanks.contains (S2.data.toList.getD n 0) with
            | false =>
              rw [hb] at hc
              have HC2 := Lib.hid hc
              have HV : Hid (R = S2) := Lib.hid (by rw [HR.out, ← htr, t2 hb])
              clear hc hb t1 t2 htr
              go_wp2_with fail
              refine (HC2.out _).mono ?_; rintro e w1 ⟨rfl, rfl⟩
              go_wp2
              go_ret
              exact ⟨ret_str HV.out.symm, rfl⟩
            | true =>
              rw [hb] at hc
              have HC2 := Lib.hid hc
              have hex := ext_size S2 0 n (by omega)
              have HEX := Lib.hid hex
              have HNX : Hid (tr (S2.extract 0 n).data.toList = tr l1) := Lib.hid (by rw [ext_list S2 0 n (by omega), List.drop_zero, t1 hb, htr])
              clear hc hb t1 t2 htr hex
              go_wp2_with fail
              refine (HC2.out _).mono ?_; rintro e w1 ⟨rfl, rfl⟩
              go_wp2
              go_roundw
              case rel => exact ⟨_, rfl, by rw [HEX.out]; omega, HNX.out, trivial⟩
              case measure => simp only [strLen]; rw [HEX.out]; omega
      · have hc := HBL.out S 0 h0
        rw [hb] at hc
        have HC := Lib.hid hc
        clear hc hb
        go_wp2_with fail
        refine (HC.out _).mono ?_; rintro e w1 ⟨rfl, rfl⟩
        go_wp2_with fail
        go_loopw [0] (fun s w2 => ∃ S : ByteArray, s = .string S ∧ S.size ≤ X.size ∧ tr S.data.toList = tr l1 ∧ w2 = wr) (fun s _ => strLen s)
        case atStart => exact ⟨S, rfl, hsz, by rw [HS.out], rfl⟩
        case round =>
          obtain ⟨S2, rfl, hsz2, htr, rfl⟩ := hrel
          rcases Nat.eq_zero_or_pos S2.size with h0 | h0
          · have hx := empty_beq h0
            subst hx
            have HV : Hid (R = ⟨#[]⟩) := Lib.hid (by rw [HR.out, ← htr]; rfl)
            clear h0 htr
            go_wp2
            go_ret
            exact ⟨ret_str HV.out.symm, rfl⟩
          · obtain ⟨n, hn⟩ : ∃ n, S2.size = n + 1 := ⟨S2.size - 1, by omega⟩
            have hlt : n < S2.size := by omega
            have hc := HBL.out S2 n hlt
            obtain ⟨t1, t2⟩ := tr_last S2.data.toList (by rw [len_data]; exact h0)
            rw [len_data, show S2.size - 1 = n by omega] at t1 t2
            cases hb : blanks.contains (S2.data.toList.getD n 0) with
            | false =>
              rw [hb] at hc
              have HC2 := Lib.hid hc
              have HV : Hid (R = S2) := Lib.hid (by rw [HR.out, ← htr, t2 hb])
              clear hc hb t1 t2 htr
              go_wp2_with fail
              refine (HC2.out _).mono ?_; rintro e w1 ⟨rfl, rfl⟩
              go_wp2
              go_ret
              exact ⟨ret_str HV.out.symm, rfl⟩
            | true =>
              rw [hb] at hc
              have HC2 := Lib.hid hc
              have hex := ext_size S2 0 n (by omega)
              have HEX := Lib.hid hex
              have HNX : Hid (tr (S2.extract 0 n).data.toList = tr l1) := Lib.hid (by rw [ext_list S2 0 n (by omega), List.drop_zero, t1 hb, htr])
              clear hc hb t1 t2 htr hex
              go_wp2_with fail
              refine (HC2.out _).mono ?_; rintro e w1 ⟨rfl, rfl⟩
              go_wp2
              go_roundw
              case rel => exact ⟨_, rfl, by rw [HEX.out]; omega, HNX.out, trivial⟩
              case measure => simp only [strLen]; rw [HEX.out]; omega
    · have h0 : 0 < S.size := by omega
      have hb : blanks.contains (S.data.toList.getD 0 0) = true := by
        cases hb : blanks.contains (S.data.toList.getD 0 0)
        · exact absurd (.inr ⟨h0, hb⟩) hout
        · rfl
      have hc := HBL.out S 0 h0
      rw [hb] at hc
      have HC := Lib.hid hc
      have hnx : tl (S.extract 1 S.size).data.toList = l1 := by rw [ext_drop, (tl_head _ (by rw [len_data]; exact h0)).1 hb, htl]
      have HNX := Lib.hid hnx
      have hex := ext_size S 1 S.size (Nat.le_refl _)
      have HEX := Lib.hid hex
      clear hc hb hout htl hnx hex
      go_wp2_with fail
      refine (HC.out _).mono ?_; rintro e w1 ⟨rfl, rfl⟩
      go_wp2
      go_roundw
      case rel => exact ⟨_, rfl, by rw [HEX.out]; omega, HNX.out, trivial⟩
      case measure => simp only [strLen]; rw [HEX.out]; omega
end Go.Proofs.YthkgaaibhjkngaaGreatDoor
