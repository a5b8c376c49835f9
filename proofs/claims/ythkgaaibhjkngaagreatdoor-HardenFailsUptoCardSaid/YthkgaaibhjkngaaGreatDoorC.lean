/- Words: the program's and the document's. -/
import Derived.Test.YthkgaaibhjkngaaGreatDoorB
import Derived.Test.YthkgaaibhjkngaaGreatDoorS
import Derived.Test.YthkgaaibhjkngaaGreatDoorChecked
import Derived.WalkKit
import Derived.WalkSpells
import Derived.WalkLawsBesides
import Derived.WalkSmall
import Derived.Lib.Hide
import Derived.Deep.QuietTactic
import Derived.BigQuiet
import Derived.Laws.CopyOwn
import Derived.Lib.RuneBytes
import Derived.Lib.ItoaMem
import Derived.RegionTactic
import Derived.ChangeAlike
import Derived.Shelf.Small.Strs
set_option linter.unusedVariables false
namespace Go.Proofs.YthkgaaibhjkngaaGreatDoor
open Go.RowKit Go.Shelf

theorem ret_int {k : IntKind} {a b : Int} (h : a = b) : Ending.returned (.int k a) = .returned (.int k b) := by rw [h]
theorem ret_bool {a b : Bool} (h : a = b) : Ending.returned (.bool a) = .returned (.bool b) := by rw [h]
theorem ret_str {a b : ByteArray} (h : a = b) : Ending.returned (.string a) = .returned (.string b) := by rw [h]
theorem data_mk (l : List UInt8) : (ByteArray.mk l.toArray).data.toList = l := by simp
theorem size_mk (l : List UInt8) : (ByteArray.mk l.toArray).size = l.length := by show l.toArray.size = _; simp
theorem len_data (X : ByteArray) : X.data.toList.length = X.size := by simp
theorem byte_at (X : ByteArray) (k : Nat) (h : k < X.size) : X[k] = X.data.toList[k]'(by simpa using h) := by simp; rfl
theorem ext_list (X : ByteArray) (a b : Nat) (h : b ≤ X.size) : (X.extract a b).data.toList = (X.data.toList.take b).drop a := by
  rw [ByteArray.data_extract, Array.toList_extract, List.drop_take]
theorem ext_mk (X : ByteArray) (a b : Nat) (h : b ≤ X.size) : X.extract a b = ⟨((X.data.toList.take b).drop a).toArray⟩ := by
  apply ByteArray.ext
  rw [← ext_list X a b h]
theorem mk_data (X : ByteArray) : (⟨X.data.toList.toArray⟩ : ByteArray) = X := by apply ByteArray.ext; simp
theorem toList_data' (s : ByteArray) : s.toList = s.data.toList := Lib.toList_data s
theorem bcell {W w1 : World} (hb : Below W.heap.size W w1) : (∀ b o, b < W.heap.size → w1.cell? ⟨b, o, none⟩ = W.cell? ⟨b, o, none⟩) := fun b o h => hb.cell (p := ⟨b, o, none⟩) h
/-- a value between bounds, of all bytes -/
theorem all_bytes {P : UInt8 → Prop} (h : ∀ n : Fin 256, P (UInt8.ofNat n.val)) (c : UInt8) : P c := by
  have := h ⟨c.toNat, c.toNat_lt⟩
  simpa using this

def markS : ByteArray := ⟨#[33, 35, 36, 37, 38, 39, 42, 43, 45, 46, 94, 95, 96, 124, 126]⟩
theorem mark_all : ∀ n : Fin 256, decide (0 ≤ Lib.indexByte marks (UInt8.ofNat n.val)) = marks.contains (UInt8.ofNat n.val) := by decide +kernel
theorem mark_is (c : UInt8) : decide (0 ≤ Lib.indexByte marks c) = marks.contains c := all_bytes (P := fun c => decide (0 ≤ Lib.indexByte marks c) = marks.contains c) mark_all c
theorem indexByte_any (c : UInt8) (w : World) :
    Calls Tryz.prog 147 #[.string markS, .int .u8 c.toNat] w fun e w' => e = .returned (.int .i64 (Lib.indexByte marks c)) ∧ w = w' := by
  have := Any.strings_IndexByte Tryz.lays137 markS c.toNat w
  refine this.mono fun e w' h => ⟨?_, h.2.symm⟩
  rw [h.1]
  simp [markS, marks]

set_option maxHeartbeats 2000000 in
theorem tokenByte_any (c : UInt8) (w : World) :
    Calls Tryz.prog 130 #[.int .u8 c.toNat] w fun e w' => e = .returned (.bool (tch c)) ∧ w = w' := by
  have hix := fun wx => indexByte_any c wx
  have hmk := mark_is c
  obtain ⟨x, hx⟩ : ∃ x : Int, x = (c.toNat : Int) := ⟨_, rfl⟩
  have hyes : (97 ≤ x ∧ x ≤ 122) ∨ (65 ≤ x ∧ x ≤ 90) ∨ (48 ≤ x ∧ x ≤ 57) → tch c = true := fun h => by
    unfold tch
    simp only [Bool.or_eq_true, Bool.and_eq_true, decide_eq_true_eq]
    left; omega
  have hno : ¬ ((97 ≤ x ∧ x ≤ 122) ∨ (65 ≤ x ∧ x ≤ 90) ∨ (48 ≤ x ∧ x ≤ 57)) → tch c = decide (0 ≤ Lib.indexByte marks c) := fun h => by
    rw [hmk]
    unfold tch
    have e : ((decide (97 ≤ c.toNat) && decide (c.toNat ≤ 122)) || (decide (65 ≤ c.toNat) && decide (c.toNat ≤ 90)) || (decide (48 ≤ c.toNat) && decide (c.toNat ≤ 57))) = false := by
      simp only [Bool.or_eq_false_iff, Bool.and_eq_false_iff, decide_eq_false_iff_not]; omega
    rw [e, Bool.false_or]
  rw [← hx] at hix ⊢
  generalize Lib.indexByte marks c = v at hix hno
  have HIX := Lib.hid hix
  have HY := Lib.hid hyes
  have HN := Lib.hid hno
  clear hix hyes hno hmk hx
  have hcase : (97 ≤ x ∧ x ≤ 122) ∨ (x ≤ 122 ∧ x < 97 ∧ 65 ≤ x ∧ x ≤ 90) ∨ (x < 97 ∧ x < 65 ∧ 48 ≤ x ∧ x ≤ 57) ∨ (97 ≤ x ∧ 122 < x ∧ 90 < x ∧ 65 ≤ x ∧ 57 < x ∧ 48 ≤ x) ∨ (x < 97 ∧ 65 ≤ x ∧ 90 < x ∧ 48 ≤ x ∧ 57 < x) ∨ (x < 97 ∧ x < 65 ∧ 48 ≤ x ∧ 57 < x) ∨ (x < 97 ∧ x < 65 ∧ x < 48) := by omega
  rcases hcase with ⟨g1, g2⟩ | ⟨g1, g2, g3, g4⟩ | ⟨g1, g2, g3, g4⟩ | ⟨g1, g2, g3, g4, g5, g6⟩ | ⟨g1, g2, g3, g4, g5⟩ | ⟨g1, g2, g3, g4⟩ | ⟨g1, g2, g3⟩
  · have HV := Lib.hid (HY.out (by omega))
    go_enter Tryz.func130, Tryz.ntmps130
    go_wp2
    go_ret
    exact ⟨ret_bool HV.out.symm, rfl⟩
  · have HV := Lib.hid (HY.out (by omega))
    go_enter Tryz.func130, Tryz.ntmps130
    go_wp2
    go_ret
    exact ⟨ret_bool HV.out.symm, rfl⟩
  · have HV := Lib.hid (HY.out (by omega))
    go_enter Tryz.func130, Tryz.ntmps130
    go_wp2
    go_ret
    exact ⟨ret_bool HV.out.symm, rfl⟩
  all_goals
    have HV := Lib.hid (HN.out (by omega))
    clear HY HN
    go_enter Tryz.func130, Tryz.ntmps130
    go_wp2_with fail
    refine (HIX.out _).mono ?_; rintro e w1 ⟨rfl, rfl⟩
    go_wp2
    go_ret
    exact ⟨ret_bool HV.out.symm, rfl⟩

/-- a row of bytes at the head of a block -/
def BRow (B : Nat) (w : World) (l : List UInt8) : Prop := ∀ j (h : j < l.length), w.cell? ⟨B, j, none⟩ = some (.int .u8 (l[j]).toNat) ∧ w.frozen? ⟨B, j, none⟩ = false
theorem BRow.start (w : World) (s : ByteArray) (cap : Nat) : BRow w.heap.size (w.drew.alloc (.cells (bytesRow s cap) 5 ((bytesRow s cap).size, (bytesRow s cap).size + 1))) s.data.toList := by
  intro j hj
  have hj' : j < s.data.size := by simpa using hj
  have hb : (w.drew.alloc (.cells (bytesRow s cap) 5 ((bytesRow s cap).size, (bytesRow s cap).size + 1))).heap[w.heap.size]? = some (.cells (bytesRow s cap) 5 ((bytesRow s cap).size, (bytesRow s cap).size + 1)) := by
    show (w.heap.push _)[w.heap.size]? = _
    simp
  constructor
  · unfold World.cell?
    simp only [hb]
    unfold bytesRow
    rw [Array.getElem?_append_left (by simpa using hj'), Array.getElem?_eq_getElem (by simpa using hj')]
    simp
  · unfold World.frozen?
    simp only [hb]
    have : j < (bytesRow s cap).size := by have hsz : s.size = s.data.size := rfl; unfold bytesRow; rw [Array.size_append, Array.size_map]; omega
    simp only [decide_eq_false_iff_not, Bool.and_eq_false_iff]; omega
theorem BRow.set {B : Nat} {w : World} {l : List UInt8} (h : BRow B w l) (k : Nat) (hk : k < l.length) (c : UInt8) : BRow B (w.setCell ⟨B, k, none⟩ (.int .u8 c.toNat)) (l.set k c) := by
  intro j hj
  have hj' : j < l.length := by simpa using hj
  refine ⟨?_, by rw [World.frozen?_setCell]; exact (h j hj').2⟩
  by_cases e : j = k
  · subst e
    rw [World.cell?_setCell_same _ _ _ (h j hj').1]; simp
  · rw [World.cell?_setCell_other _ _ _ _ (by simp), (h j hj').1]
    simp [Ne.symm e]
def upTo (l : List UInt8) (k : Nat) : List UInt8 := (l.take k).map lwr ++ l.drop k
theorem upTo_len (l : List UInt8) (k : Nat) : (upTo l k).length = l.length := by
  unfold upTo; simp; omega
theorem upTo_at (l : List UInt8) (k : Nat) (hk : k < l.length) : (upTo l k)[k]'(by rw [upTo_len]; exact hk) = l[k] := by
  unfold upTo
  rw [List.getElem_append_right (by simp; omega)]
  simp; congr 1; omega
theorem upTo_step (l : List UInt8) (k : Nat) (hk : k < l.length) : upTo l (k + 1) = (upTo l k).set k (lwr l[k]) := by
  unfold upTo
  apply List.ext_getElem
  · simp; omega
  · intro i h1 h2
    simp only [List.getElem_set, List.getElem_append, List.length_map, List.length_take, List.getElem_map, List.getElem_take, List.getElem_drop]
    by_cases e : k = i
    · subst e
      rw [dif_pos (by omega), if_pos rfl]
    · by_cases hi : i < k
      · have a1 : i < min (k + 1) l.length := by omega
        have a2 : i < min k l.length := by omega
        simp [e, a1, a2]
      · have a1 : ¬ i < min (k + 1) l.length := by omega
        have a2 : ¬ i < min k l.length := by omega
        simp only [e, a1, a2, dif_neg, if_neg, not_false_iff]
        congr 1
        omega
theorem upTo_all (l : List UInt8) : upTo l l.length = l.map lwr := by unfold upTo; simp

set_option maxHeartbeats 1000000 in
theorem lower_any (s : ByteArray) (w : World) (hs : s.size ≤ 9223372036854775807) :
    Calls Tryz.prog 102 #[.string s] w fun e w' => e = .returned (.string ⟨(s.data.toList.map lwr).toArray⟩) ∧ Below w.heap.size w w' := by
  obtain ⟨L, hL⟩ : ∃ L, L = s.data.toList := ⟨_, rfl⟩
  have hLl : L.length = s.size := by rw [hL]; simp
  have hcv := run_bytes_of_string (P := Tryz.prog) w 9 45 5 s Tryz.underlying9 Tryz.underlying45 Tryz.underlying5
  have hrow := BRow.start w s (grownCap w s.size 0 5)
  have hbel : Below w.heap.size w (w.drew.alloc (.cells (bytesRow s (grownCap w s.size 0 5)) 5 ((bytesRow s (grownCap w s.size 0 5)).size, (bytesRow s (grownCap w s.size 0 5)).size + 1))) := ((Below.refl _ _).drew).alloc (Nat.le_refl _) _
  have hsz : w.heap.size < (w.drew.alloc (.cells (bytesRow s (grownCap w s.size 0 5)) 5 ((bytesRow s (grownCap w s.size 0 5)).size, (bytesRow s (grownCap w s.size 0 5)).size + 1))).heap.size := by simp
  generalize w.drew.alloc (.cells (bytesRow s (grownCap w s.size 0 5)) 5 ((bytesRow s (grownCap w s.size 0 5)).size, (bytesRow s (grownCap w s.size 0 5)).size + 1)) = W3 at hcv hrow hbel hsz
  generalize grownCap w s.size 0 5 = cap at hcv
  have hBs : w.heap.size ≤ w.heap.size := Nat.le_refl _
  rw [← hL] at hrow
  rw [← hLl] at hcv
  rw [← hL]
  obtain ⟨B, hB⟩ : ∃ B, B = w.heap.size := ⟨_, rfl⟩
  rw [← hB] at hcv hrow
  have hBs : w.heap.size ≤ B := by omega
  have hLb : L.length ≤ 9223372036854775807 := by omega
  have HR := Lib.hid hrow
  have B3 := Lib.hid hbel
  clear hrow hbel hB hL hLl hsz
  go_enter Tryz.func102, Tryz.ntmps102
  go_wp2
  clear hcv
  go_loopw [10] (fun i wr => ∃ (j : Nat), j ≤ L.length ∧ i = .int .i64 j ∧ BRow B wr (upTo L j) ∧ Below w.heap.size w wr) (fun i _ => L.length - (intOf i).toNat)
  case atStart => exact ⟨0, by omega, rfl, by have := HR.out; simpa [upTo] using this, B3.out⟩
  case round =>
    obtain ⟨j, hj, rfl, hR, hb⟩ := hrel
    by_cases hlt : j < L.length
    · obtain ⟨c, hc⟩ : ∃ c, c = L[j] := ⟨_, rfl⟩
      have hjU : j < (upTo L j).length := by rw [upTo_len]; exact hlt
      have hcell := (hR j hjU).1
      have hfrz := (hR j hjU).2
      rw [upTo_at L j hlt, ← hc] at hcell
      have hstep := upTo_step L j hlt
      rw [← hc] at hstep
      obtain ⟨x, hx⟩ : ∃ x : Int, x = (c.toNat : Int) := ⟨_, rfl⟩
      have hx0 : 0 ≤ x := by omega
      have hx1 : x ≤ 255 := by have := c.toNat_lt; omega
      rw [← hx] at hcell
      have hup : 65 ≤ x → x ≤ 90 → ((lwr c).toNat : Int) = x + 32 := fun h1 h2 => by
        unfold lwr; rw [if_pos (by omega), UInt8.toNat_ofNat']; omega
      have hno : ¬ (65 ≤ x ∧ x ≤ 90) → lwr c = c := fun h => by unfold lwr; rw [if_neg (by omega)]
      have hsame : ¬ (65 ≤ x ∧ x ≤ 90) → upTo L (j + 1) = upTo L j := fun h => by
        rw [hstep, hno h, hc, ← upTo_at L j hlt]; simp
      have hset : 65 ≤ x → x ≤ 90 → BRow B (wr.setCell ⟨B, j, none⟩ (.int .u8 (x + 32))) (upTo L (j + 1)) := fun h1 h2 => by
        rw [hstep, ← hup h1 h2]; exact hR.set j hjU (lwr c)
      have hbs : Below w.heap.size w (wr.setCell ⟨B, j, none⟩ (.int .u8 (x + 32))) := hb.setCell (p := ⟨B, j, none⟩) hBs _
      have K1 := Lib.hid hsame
      have K2 := Lib.hid hset
      have K3 := Lib.hid hbs
      have K5 := Lib.hid hR
      have K7 := Lib.hid hb
      clear hstep hup hno hsame hset hbs hR hb hc hx
      by_cases h97 : 65 ≤ x
      · by_cases h102 : x ≤ 90
        · go_wp2
          go_roundw
          case rel => exact ⟨j + 1, by omega, by go_num, K2.out h97 h102, K3.out⟩
          case measure => simp [intOf]; omega
        · go_wp2
          go_roundw
          case rel => exact ⟨j + 1, by omega, by go_num, by rw [K1.out (by omega)]; exact K5.out, K7.out⟩
          case measure => simp [intOf]; omega
      · go_wp2
        go_roundw
        case rel => exact ⟨j + 1, by omega, by go_num, by rw [K1.out (by omega)]; exact K5.out, K7.out⟩
        case measure => simp [intOf]; omega
    · have hjl : j = L.length := by omega
      subst hjl
      rw [upTo_all] at hR
      have hconv := run_convert_bytes_back (P := Tryz.prog) wr 45 9 5 ⟨B, 0, none⟩ cap (L.map lwr) Tryz.underlying45 Tryz.underlying5 Tryz.underlying9 (fun i hi => by
        rw [Lib.add_plain, show 0 + i = i by omega]; exact (hR i hi).1)
      rw [List.length_map] at hconv
      have K7 := Lib.hid hb
      obtain ⟨U, hU⟩ : ∃ U, U = L.map lwr := ⟨_, rfl⟩
      rw [← hU] at hconv
      have HU := Lib.hid hU
      clear hR hb hlt hU
      go_wp2
      go_ret
      exact ⟨by first | rfl | (rw [HU.out]; rfl), K7.out⟩
end Go.Proofs.YthkgaaibhjkngaaGreatDoor
