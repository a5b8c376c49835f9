/- Small letters: the program's and the document's. -/
import Derived.Test.YtagmjbjgphhlcaaDoorLD
import Derived.Lib.ItoaMem
set_option linter.unusedVariables false
namespace Go.Proofs.YtagmjbjgphhlcaaDoor
open Go.RowKit

/-- a large letter made small -/
def lwr (c : UInt8) : UInt8 := if 65 ≤ c.toNat ∧ c.toNat ≤ 90 then UInt8.ofNat (c.toNat + 32) else c
/-- a row of bytes at the head of a block -/
def BRow (B : Nat) (w : World) (l : List UInt8) : Prop := ∀ j (h : j < l.length), w.cell? ⟨B, j, none⟩ = some (.int .u8 (l[j]).toNat) ∧ w.frozen? ⟨B, j, none⟩ = false
theorem BRow.start (w : World) (s : ByteArray) (cap : Nat) : BRow w.heap.size (w.drew.alloc (.cells (bytesRow s cap) 5 ((bytesRow s cap).size, (bytesRow s cap).size + 1))) s.data.toList := by
  intro j hj
  have hj' : j < s.data.size := by simpa using hj
  have hb : (w.drew.alloc (.cells (bytesRow s cap) 5 ((bytesRow s cap).size, (bytesRow s cap).size + 1))).heap[w.heap.size]? = some (.cells (bytesRow s cap) 5 ((bytesRow s cap).size, (bytesRow s cap).size + 1)) := by
    show (w.heap.push _)[w.heap.size]? = _
    simp
  constructor
  · unfold World.cell?
    simp only [hb]
    unfold bytesRow
    rw [Array.getElem?_append_left (by simpa using hj'), Array.getElem?_eq_getElem (by simpa using hj')]
    simp
  · unfold World.frozen?
    simp only [hb]
    have : j < (bytesRow s cap).size := by have hsz : s.size = s.data.size := rfl; unfold bytesRow; rw [Array.size_append, Array.size_map]; omega
    simp only [decide_eq_false_iff_not, Bool.and_eq_false_iff]; omega
theorem BRow.set {B : Nat} {w : World} {l : List UInt8} (h : BRow B w l) (k : Nat) (hk : k < l.length) (c : UInt8) : BRow B (w.setCell ⟨B, k, none⟩ (.int .u8 c.toNat)) (l.set k c) := by
  intro j hj
  have hj' : j < l.length := by simpa using hj
  refine ⟨?_, by rw [World.frozen?_setCell]; exact (h j hj').2⟩
  by_cases e : j = k
  · subst e
    rw [World.cell?_setCell_same _ _ _ (h j hj').1]; simp
  · rw [World.cell?_setCell_other _ _ _ _ (by simp), (h j hj').1]
    simp [Ne.symm e]
def upTo (l : List UInt8) (k : Nat) : List UInt8 := (l.take k).map lwr ++ l.drop k
theorem upTo_len (l : List UInt8) (k : Nat) : (upTo l k).length = l.length := by
  unfold upTo; simp; omega
theorem upTo_at (l : List UInt8) (k : Nat) (hk : k < l.length) : (upTo l k)[k]'(by rw [upTo_len]; exact hk) = l[k] := by
  unfold upTo
  rw [List.getElem_append_right (by simp; omega)]
  simp; congr 1; omega
theorem upTo_step (l : List UInt8) (k : Nat) (hk : k < l.length) : upTo l (k + 1) = (upTo l k).set k (lwr l[k]) := by
  unfold upTo
  apply List.ext_getElem
  · simp; omega
  · intro i h1 h2
    simp only [List.getElem_set, List.getElem_append, List.length_map, List.length_take, List.getElem_map, List.getElem_take, List.getElem_drop]
    by_cases e : k = i
    · subst e
      rw [dif_pos (by omega), if_pos rfl]
    · by_cases hi : i < k
      · have a1 : i < min (k + 1) l.length := by omega
        have a2 : i < min k l.length := by omega
        simp [e, a1, a2]
      · have a1 : ¬ i < min (k + 1) l.length := by omega
        have a2 : ¬ i < min k l.length := by omega
        simp only [e, a1, a2, dif_neg, if_neg, not_false_iff]
        congr 1
        omega
theorem upTo_all (l : List UInt8) : upTo l l.length = l.map lwr := by unfold upTo; simp

set_option maxHeartbeats 1000000 in
theorem lower_any (s : ByteArray) (w : World) (hs : s.size ≤ 9223372036854775807) :
    Calls Tryd.prog 28 #[.string s] w fun e w' => e = .returned (.string ⟨(s.data.toList.map lwr).toArray⟩) ∧ Below w.heap.size w w' := by
  obtain ⟨L, hL⟩ : ∃ L, L = s.data.toList := ⟨_, rfl⟩
  have hLl : L.length = s.size := by rw [hL]; simp
  have hcv := run_bytes_of_string (P := Tryd.prog) w 9 29 5 s Tryd.underlying9 Tryd.underlying29 Tryd.underlying5
  have hrow := BRow.start w s (grownCap w s.size 0 5)
  have hbel : Below w.heap.size w (w.drew.alloc (.cells (bytesRow s (grownCap w s.size 0 5)) 5 ((bytesRow s (grownCap w s.size 0 5)).size, (bytesRow s (grownCap w s.size 0 5)).size + 1))) := ((Below.refl _ _).drew).alloc (Nat.le_refl _) _
  have hsz : w.heap.size < (w.drew.alloc (.cells (bytesRow s (grownCap w s.size 0 5)) 5 ((bytesRow s (grownCap w s.size 0 5)).size, (bytesRow s (grownCap w s.size 0 5)).size + 1))).heap.size := by simp
  generalize w.drew.alloc (.cells (bytesRow s (grownCap w s.size 0 5)) 5 ((bytesRow s (grownCap w s.size 0 5)).size, (bytesRow s (grownCap w s.size 0 5)).size + 1)) = W3 at hcv hrow hbel hsz
  generalize grownCap w s.size 0 5 = cap at hcv
  have hBs : w.heap.size ≤ w.heap.size := Nat.le_refl _
  rw [← hL] at hrow
  rw [← hLl] at hcv
  rw [← hL]
  obtain ⟨B, hB⟩ : ∃ B, B = w.heap.size := ⟨_, rfl⟩
  rw [← hB] at hcv hrow
  have hBs : w.heap.size ≤ B := by omega
  have hLb : L.length ≤ 9223372036854775807 := by omega
  have HR := Lib.hid hrow
  have B3 := Lib.hid hbel
  clear hrow hbel hB hL hLl hsz
  go_enter Tryd.func28, Tryd.ntmps28
  go_wp2
  clear hcv
  go_loopw [10] (fun i wr => ∃ (j : Nat), j ≤ L.length ∧ i = .int .i64 j ∧ BRow B wr (upTo L j) ∧ Below w.heap.size w wr) (fun i _ => L.length - (intOf i).toNat)
  case atStart => exact ⟨0, by omega, rfl, by have := HR.out; simpa [upTo] using this, B3.out⟩
  case round =>
    obtain ⟨j, hj, rfl, hR, hb⟩ := hrel
    by_cases hlt : j < L.length
    · obtain ⟨c, hc⟩ : ∃ c, c = L[j] := ⟨_, rfl⟩
      have hjU : j < (upTo L j).length := by rw [upTo_len]; exact hlt
      have hcell := (hR j hjU).1
      have hfrz := (hR j hjU).2
      rw [upTo_at L j hlt, ← hc] at hcell
      have hstep := upTo_step L j hlt
      rw [← hc] at hstep
      obtain ⟨x, hx⟩ : ∃ x : Int, x = (c.toNat : Int) := ⟨_, rfl⟩
      have hx0 : 0 ≤ x := by omega
      have hx1 : x ≤ 255 := by have := c.toNat_lt; omega
      rw [← hx] at hcell
      have hup : 65 ≤ x → x ≤ 90 → ((lwr c).toNat : Int) = x + 32 := fun h1 h2 => by
        unfold lwr; rw [if_pos (by omega), UInt8.toNat_ofNat']; omega
      have hno : ¬ (65 ≤ x ∧ x ≤ 90) → lwr c = c := fun h => by unfold lwr; rw [if_neg (by omega)]
      have hsame : ¬ (65 ≤ x ∧ x ≤ 90) → upTo L (j + 1) = upTo L j := fun h => by
        rw [hstep, hno h, hc, ← upTo_at L j hlt]; simp
      have hset : 65 ≤ x → x ≤ 90 → BRow B (wr.setCell ⟨B, j, none⟩ (.int .u8 (x + 32))) (upTo L (j + 1)) := fun h1 h2 => by
        rw [hstep, ← hup h1 h2]; exact hR.set j hjU (lwr c)
      have hbs : Below w.heap.size w (wr.setCell ⟨B, j, none⟩ (.int .u8 (x + 32))) := hb.setCell (p := ⟨B, j, none⟩) hBs _
      have K1 := Lib.hid hsame
      have K2 := Lib.hid hset
      have K3 := Lib.hid hbs
      have K5 := Lib.hid hR
      have K7 := Lib.hid hb
      clear hstep hup hno hsame hset hbs hR hb hc hx
      by_cases h97 : 65 ≤ x
      · by_cases h102 : x ≤ 90
        · go_wp2
          go_roundw
          case rel => exact ⟨j + 1, by omega, by go_num, K2.out h97 h102, K3.out⟩
          case measure => simp [intOf]; omega
        · go_wp2
          go_roundw
          case rel => exact ⟨j + 1, by omega, by go_num, by rw [K1.out (by omega)]; exact K5.out, K7.out⟩
          case measure => simp [intOf]; omega
      · go_wp2
        go_roundw
        case rel => exact ⟨j + 1, by omega, by go_num, by rw [K1.out (by omega)]; exact K5.out, K7.out⟩
        case measure => simp [intOf]; omega
    · have hjl : j = L.length := by omega
      subst hjl
      rw [upTo_all] at hR
      have hconv := run_convert_bytes_back (P := Tryd.prog) wr 29 9 5 ⟨B, 0, none⟩ cap (L.map lwr) Tryd.underlying29 Tryd.underlying5 Tryd.underlying9 (fun i hi => by
        rw [Lib.add_plain, show 0 + i = i by omega]; exact (hR i hi).1)
      rw [List.length_map] at hconv
      have K7 := Lib.hid hb
      obtain ⟨U, hU⟩ : ∃ U, U = L.map lwr := ⟨_, rfl⟩
      rw [← hU] at hconv
      have HU := Lib.hid hU
      clear hR hb hlt hU
      go_wp2
      go_ret
      exact ⟨by first | rfl | (rw [HU.out]; rfl), K7.out⟩
theorem small_any (c : UInt8) (w : World) :
    Calls Tryd.prog 44 #[.int .u8 c.toNat] w fun e w' => e = .returned (.int .u8 (lwr c).toNat) ∧ w = w' := by
  have h255 : (c.toNat : Int) ≤ 255 := by have := c.toNat_lt; omega
  obtain ⟨x, hx⟩ : ∃ x : Int, x = (c.toNat : Int) := ⟨_, rfl⟩
  have h0 : 0 ≤ x := by omega
  rw [← hx] at h255 ⊢
  by_cases h1 : 65 ≤ x
  · by_cases h2 : x ≤ 90
    · have hv : Hid (((lwr c).toNat : Int) = x - 65 + 97) := Lib.hid (by unfold lwr; rw [if_pos (by omega), UInt8.toNat_ofNat']; omega)
      clear hx
      go_enter Tryd.func44, Tryd.ntmps44
      go_wp2
      go_ret
      exact ⟨ret_int hv.out.symm, rfl⟩
    · have hv : Hid (((lwr c).toNat : Int) = x) := Lib.hid (by unfold lwr; rw [if_neg (by omega)]; exact hx.symm)
      clear hx
      go_enter Tryd.func44, Tryd.ntmps44
      go_wp2
      go_ret
      exact ⟨ret_int hv.out.symm, rfl⟩
  · have hv : Hid (((lwr c).toNat : Int) = x) := Lib.hid (by unfold lwr; rw [if_neg (by omega)]; exact hx.symm)
    clear hx
    go_enter Tryd.func44, Tryd.ntmps44
    go_wp2
    go_ret
    exact ⟨ret_int hv.out.symm, rfl⟩

set_option maxHeartbeats 1000000 in
theorem reflower_any (s : ByteArray) (w : World) (hs : s.size ≤ 9223372036854775807) :
    Calls Tryd.prog 31 #[.string s] w fun e w' => e = .returned (.string ⟨(s.data.toList.map lwr).toArray⟩) ∧ Below w.heap.size w w' := by
  obtain ⟨L, hL⟩ : ∃ L, L = s.data.toList := ⟨_, rfl⟩
  have hLl : L.length = s.size := by rw [hL]; simp
  have hcv := run_bytes_of_string (P := Tryd.prog) w 9 29 5 s Tryd.underlying9 Tryd.underlying29 Tryd.underlying5
  have hrow := BRow.start w s (grownCap w s.size 0 5)
  have hbel : Below w.heap.size w (w.drew.alloc (.cells (bytesRow s (grownCap w s.size 0 5)) 5 ((bytesRow s (grownCap w s.size 0 5)).size, (bytesRow s (grownCap w s.size 0 5)).size + 1))) := ((Below.refl _ _).drew).alloc (Nat.le_refl _) _
  have hsz : w.heap.size < (w.drew.alloc (.cells (bytesRow s (grownCap w s.size 0 5)) 5 ((bytesRow s (grownCap w s.size 0 5)).size, (bytesRow s (grownCap w s.size 0 5)).size + 1))).heap.size := by simp
  generalize w.drew.alloc (.cells (bytesRow s (grownCap w s.size 0 5)) 5 ((bytesRow s (grownCap w s.size 0 5)).size, (bytesRow s (grownCap w s.size 0 5)).size + 1)) = W3 at hcv hrow hbel hsz
  generalize grownCap w s.size 0 5 = cap at hcv
  have hBs : w.heap.size ≤ w.heap.size := Nat.le_refl _
  rw [← hL] at hrow
  rw [← hLl] at hcv
  rw [← hL]
  obtain ⟨B, hB⟩ : ∃ B, B = w.heap.size := ⟨_, rfl⟩
  rw [← hB] at hcv hrow
  have hBs : w.heap.size ≤ B := by omega
  have hLb : L.length ≤ 9223372036854775807 := by omega
  have HR := Lib.hid hrow
  have B3 := Lib.hid hbel
  clear hrow hbel hB hL hLl hsz
  go_enter Tryd.func31, Tryd.ntmps31
  go_wp2
  clear hcv
  go_loopw [4] (fun i wr => ∃ (j : Nat), j ≤ L.length ∧ i = .int .i64 j ∧ BRow B wr (upTo L j) ∧ Below w.heap.size w wr) (fun i _ => L.length - (intOf i).toNat)
  case atStart => exact ⟨0, by omega, rfl, by have := HR.out; simpa [upTo] using this, B3.out⟩
  case round =>
    obtain ⟨j, hj, rfl, hR, hb⟩ := hrel
    by_cases hlt : j < L.length
    · obtain ⟨c, hc⟩ : ∃ c, c = L[j] := ⟨_, rfl⟩
      have hjU : j < (upTo L j).length := by rw [upTo_len]; exact hlt
      have hcell := (hR j hjU).1
      have hfrz := (hR j hjU).2
      rw [upTo_at L j hlt, ← hc] at hcell
      have hstep := upTo_step L j hlt
      rw [← hc] at hstep
      obtain ⟨x, hx⟩ : ∃ x : Int, x = (c.toNat : Int) := ⟨_, rfl⟩
      have hx0 : 0 ≤ x := by omega
      have hx1 : x ≤ 255 := by have := c.toNat_lt; omega
      rw [← hx] at hcell
      have hsm : ∀ w, Calls Tryd.prog 44 #[.int .u8 x] w fun e w' => e = .returned (.int .u8 (lwr c).toNat) ∧ w = w' := fun w => by rw [hx]; exact small_any c w
      have hset : BRow B (wr.setCell ⟨B, j, none⟩ (.int .u8 (lwr c).toNat)) (upTo L (j + 1)) := by
        rw [hstep]; exact hR.set j hjU (lwr c)
      have hbs : Below w.heap.size w (wr.setCell ⟨B, j, none⟩ (.int .u8 (lwr c).toNat)) := hb.setCell (p := ⟨B, j, none⟩) hBs _
      obtain ⟨y, hy⟩ : ∃ y : Int, y = ((lwr c).toNat : Int) := ⟨_, rfl⟩
      rw [← hy] at hsm hset hbs
      have K1 := Lib.hid hsm
      have K2 := Lib.hid hset
      have K3 := Lib.hid hbs
      clear hstep hsm hset hbs hR hb hc hx hy
      go_wp2_with (go_at_call 44; refine (K1.out _).mono ?_; rintro e w' ⟨rfl, rfl⟩)
      go_roundw
      case rel => exact ⟨j + 1, by omega, by go_num, K2.out, K3.out⟩
      case measure => simp [intOf]; omega
    · have hjl : j = L.length := by omega
      subst hjl
      rw [upTo_all] at hR
      have hconv := run_convert_bytes_back (P := Tryd.prog) wr 29 9 5 ⟨B, 0, none⟩ cap (L.map lwr) Tryd.underlying29 Tryd.underlying5 Tryd.underlying9 (fun i hi => by
        rw [Lib.add_plain, show 0 + i = i by omega]; exact (hR i hi).1)
      rw [List.length_map] at hconv
      have K7 := Lib.hid hb
      obtain ⟨U, hU⟩ : ∃ U, U = L.map lwr := ⟨_, rfl⟩
      rw [← hU] at hconv
      have HU := Lib.hid hU
      clear hR hb hlt hU
      go_wp2
      go_ret
      exact ⟨by first | rfl | (rw [HU.out]; rfl), K7.out⟩
end Go.Proofs.YtagmjbjgphhlcaaDoor
