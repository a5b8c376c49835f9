/- internal/strconv's formatBits at base sixteen. -/
import Derived.Test.YtlgoalhcllgkcaaDoorX
import Derived.Lib.ItoaWalk
import Derived.Lib.ItoaMem
import Derived.Lib.Walk
import Derived.Deep.Cut
namespace Go.Proofs.YtlgoalhcllgkcaaDoor
open Go.RowKit

/-- the hexadecimal digit of a number below 16 -/
def hd (n : Nat) : UInt8 := if n < 10 then UInt8.ofNat (48 + n) else UInt8.ofNat (87 + n)
def hexl (n : Nat) : List UInt8 := if _h : n < 16 then [hd n] else hexl (n / 16) ++ [hd (n % 16)]
termination_by n
decreasing_by omega
theorem hexl_small (n : Nat) (h : n < 16) : hexl n = [hd n] := by rw [hexl, dif_pos h]
theorem hexl_big (n : Nat) (h : ¬ n < 16) : hexl n = hexl (n / 16) ++ [hd (n % 16)] := by rw [hexl, dif_neg h]

def zeros65 : Array Value := Array.replicate 65 (Value.int .u8 0)
theorem zeros65_at (i : Nat) (h : i < 65) : zeros65[i]? = some (.int .u8 0) := by
  unfold zeros65; rw [Array.getElem?_replicate, if_pos h]
theorem zero47 (w : World) : (zeroValue 47).run Tryd.prog w = .ok (.agg zeros65) w := by kernel_rfl

/-- the array's block: filled from i on -/
def Arr (B : Nat) (w : World) (i : Nat) (l : List UInt8) : Prop :=
  i + l.length = 65 ∧ (∀ j, j < 65 → (∃ v, w.cell? ⟨B, j, none⟩ = some v) ∧ w.frozen? ⟨B, j, none⟩ = false) ∧ (∀ j (h : j < l.length), w.cell? ⟨B, i + j, none⟩ = some (.int .u8 (l[j]).toNat))

theorem Arr.start (w : World) : Arr w.heap.size (w.alloc (.cells zeros65 47)) 65 [] := by
  refine ⟨rfl, fun j hj => ⟨⟨.int .u8 0, ?_⟩, World.frozen?_alloc_new _ _ _ _⟩, fun j hj => by simp at hj⟩
  rw [World.cell?_alloc_new, zeros65_at j hj]

theorem Arr.store {B : Nat} {w : World} {i : Nat} {l : List UInt8} (h : Arr B w (i + 1) l) (c : UInt8) : Arr B (w.setCell ⟨B, i, none⟩ (.int .u8 c.toNat)) i (c :: l) := by
  obtain ⟨h1, h2, h3⟩ := h
  have hi : i < 65 := by omega
  refine ⟨by simp; omega, fun j hj => ⟨?_, ?_⟩, fun j hj => ?_⟩
  · by_cases e : j = i
    · subst e
      obtain ⟨v, hv⟩ := (h2 j hj).1
      exact ⟨_, World.cell?_setCell_same _ _ _ hv⟩
    · rw [World.cell?_setCell_other _ _ _ _ (by simp)]
      exact (h2 j hj).1
  · rw [World.frozen?_setCell]
    exact (h2 j hj).2
  · cases j with
    | zero =>
      obtain ⟨v, hv⟩ := (h2 i hi).1
      simpa using World.cell?_setCell_same _ _ _ hv
    | succ j =>
      rw [World.cell?_setCell_other _ _ _ _ (by simp), show i + (j + 1) = i + 1 + j by omega]
      simpa using h3 j (by simpa using hj)

def digits36 : ByteArray := ⟨#[48, 49, 50, 51, 52, 53, 54, 55, 56, 57, 97, 98, 99, 100, 101, 102, 103, 104, 105, 106, 107, 108, 109, 110, 111, 112, 113, 114, 115, 116, 117, 118, 119, 120, 121, 122]⟩
theorem d36 {i : Nat} (h : i < 16) : i < digits36.size := by show _ < 36; omega
theorem digits36_at : ∀ i : Fin 16, digits36[i.val]'(d36 i.isLt) = hd i.val := by decide +kernel
theorem digits36_hd (i : Nat) (h : i < 16) : digits36[i]'(d36 h) = hd i := digits36_at ⟨i, h⟩
theorem slice47 (B j : Nat) (hj : j < 65) (W : World) : (Instr.sliceAt 47 (.pointer (some ⟨B, 0, none⟩)) (some (.int .i64 j)) none none).run Tryd.prog W = .ok (.slice (some ⟨B, j, none⟩) (65 - j) (65 - j)) W := by
  have hal : Tryd.prog.arrayLen 47 = 65 := by simp [Program.arrayLen, Tryd.underlying47]
  have hel : Tryd.prog.elem 47 = 5 := by simp [Program.elem, Tryd.underlying47]
  rw [run_sliceAt_array_l W 47 ⟨B, 0, none⟩ (by rw [Tryd.underlying47, hal, hel]) .i64 (j : Int) (by omega) (by rw [hal]; omega)]
  rw [hal, hel]
  go_simp
  omega
theorem conv47 (B j : Nat) (l : List UInt8) (W : World) (h : Arr B W j l) : (convert 29 9 (.slice (some ⟨B, j, none⟩) (65 - j) (65 - j))).run Tryd.prog W = .ok (.string ⟨l.toArray⟩) W := by
  have := run_convert_bytes_back (P := Tryd.prog) W 29 9 5 ⟨B, j, none⟩ (65 - j) l Tryd.underlying29 Tryd.underlying5 Tryd.underlying9 (fun i hi => by rw [Lib.add_plain]; exact h.2.2 i hi)
  rw [show l.length = 65 - j by have := h.1; omega] at this
  exact this
theorem and15 (v : Nat) (hv : v < 18446744073709551616) : bits BinOp.and IntKind.u64 (v : Int) 15 = ((v % 16 : Nat) : Int) := by
  have := u64_and_nat v 15 hv (by omega)
  rw [show ((15 : Nat) : Int) = 15 from rfl] at this
  rw [this, show (15 : Nat) = 2 ^ 4 - 1 from rfl, Nat.and_two_pow_sub_one_eq_mod]

theorem pow_step {v k : Nat} (hl : k ≤ 15) (hv : v < 16 ^ (16 - k)) (h16 : ¬ v < 16) : k + 1 ≤ 15 ∧ v / 16 < 16 ^ (16 - (k + 1)) := by
  have h1 : k + 1 ≤ 15 := by
    rcases Nat.lt_or_ge k 15 with h | h
    · exact h
    · have : k = 15 := by omega
      subst this
      simp at hv; omega
  refine ⟨h1, ?_⟩
  rw [show 16 - k = (16 - (k + 1)) + 1 by omega, Nat.pow_succ] at hv
  exact Nat.div_lt_of_lt_mul (by rw [Nat.mul_comm]; exact hv)

set_option maxHeartbeats 2000000 in
set_option maxRecDepth 100000 in
theorem bits16 (n : Nat) (hn : n < 9223372036854775808) (w : World) (hc : w.cell? ⟨2, 15, none⟩ = some (.int .u8 4)) (h2 : 2 < w.heap.size) :
    Calls Tryd.prog 27 #[.slice none 0 0, .int .u64 n, .int .i64 16, .bool false, .bool false] w fun e w' => e = .returned (.tuple #[.slice none 0 0, .string ⟨(hexl n).toArray⟩]) ∧ Below w.heap.size w w' := by
  have hzv := zero47
  have HC : ∀ wx, Below w.heap.size w wx → wx.cell? ⟨2, 15, none⟩ = some (.int .u8 4) := fun wx hb => (hb.cell (p := ⟨2, 15, none⟩) h2).trans hc
  have hc' := HC _ ((Below.refl w.heap.size w).alloc (Nat.le_refl _) (.cells zeros65 47))
  have HC' := Lib.hid hc'
  have hn' : n < 16 ^ 16 := by omega
  have HN := Lib.hid hn'
  clear HC hc' hc hn'
  go_enter Tryd.func27, Tryd.ntmps27
  go_wp2_with (first | (go_at_call 31; refine (pow2 _).mono ?_; rintro e w' ⟨rfl, rfl⟩) | (go_at_call 32; refine (tz _ HC'.out).mono ?_; rintro e w' ⟨rfl, rfl⟩))
  go_loopw [1, 13] (fun u i wr => ∃ (v j : Nat) (l : List UInt8), u = .int .u64 v ∧ i = .int .i64 j ∧ Arr w.heap.size wr j l ∧ hexl n = hexl v ++ l ∧ v < 16 ^ (16 - l.length) ∧ l.length ≤ 15 ∧ Below w.heap.size w wr)
    (fun u _ _ => (intOf u).toNat)
  case atStart => exact ⟨n, 65, [], rfl, rfl, Arr.start w, by simp, by simpa using HN.out, by simp, (Below.refl _ _).alloc (Nat.le_refl _) _⟩
  case round =>
    obtain ⟨v, i, l, rfl, rfl, hA, hx, hv, hl, hb⟩ := hrel
    have hv63 : v < 18446744073709551616 := Nat.lt_of_lt_of_le hv (by have := Nat.pow_le_pow_right (show 0 < 16 by decide) (show 16 - l.length ≤ 16 by omega); omega)
    obtain ⟨j, rfl⟩ : ∃ j, i = j + 1 := ⟨i - 1, by have := hA.1; omega⟩
    have hj : j < 65 := by have := hA.1; omega
    obtain ⟨c0, hc0⟩ := (hA.2.1 j hj).1
    have hf0 := (hA.2.1 j hj).2
    by_cases h16 : v < 16
    · have hsl := slice47 w.heap.size j hj
      have HS := Lib.hid (hA.store (digits36[v]'(d36 h16)))
      have HB1 := Lib.hid (hb.setCell (p := ⟨w.heap.size, j, none⟩) (Nat.le_refl _) (.int .u8 (digits36[v]'(d36 h16)).toNat))
      have HE : Hid (hexl n = digits36[v]'(d36 h16) :: l) := Lib.hid (by rw [hx, hexl_small v h16, digits36_hd v h16]; rfl)
      have HX := Lib.hid hx
      have HB := Lib.hid hb
      clear hA hx hb hv
      go_upto_region 30 with (fail)
      go_name_world W1 hW1
      have hA1 : Arr w.heap.size W1 j (digits36[v]'(d36 h16) :: l) := by rw [← hW1]; exact HS.out
      have HB2 : Hid (Below w.heap.size w W1) := Lib.hid (by rw [← hW1]; exact HB1.out)
      have hcv := conv47 _ _ _ _ hA1
      clear hW1 hA1
      rw [← HE.out] at hcv
      go_wp2
      go_ret2
      exact ⟨rfl, HB2.out⟩
    · have hv16 : v % 16 < 16 := by omega
      have ha := and15 v hv63
      have HS := Lib.hid (hA.store (digits36[v % 16]'(d36 hv16)))
      have HB1 := Lib.hid (hb.setCell (p := ⟨w.heap.size, j, none⟩) (Nat.le_refl _) (.int .u8 (digits36[v % 16]'(d36 hv16)).toNat))
      have HE : Hid (hexl n = hexl (v / 16) ++ (digits36[v % 16]'(d36 hv16) :: l)) := Lib.hid (by rw [hx, hexl_big v h16, digits36_hd _ hv16]; simp)
      have HM : Hid (l.length + 1 ≤ 15 ∧ v / 16 < 16 ^ (16 - (l.length + 1))) := Lib.hid (pow_step hl hv h16)
      have HX := Lib.hid hx
      have HB := Lib.hid hb
      have HV := Lib.hid hv
      clear hA hx hb hv
      go_wp2
      go_roundw
      case rel => exact ⟨v / 16, j, _ :: l, by go_num, rfl, HS.out, HE.out, HM.out.2, HM.out.1, HB1.out⟩
      case measure => simp [intOf]; omega
end Go.Proofs.YtlgoalhcllgkcaaDoor
