/- A byte's character. -/
import Derived.Test.YtagmjbjgphhlcaaDoorLA
import Derived.Test.YtagmjbjgphhlcaaDoorD
import Derived.Great.BuildSlice
import Derived.Deep.Cut
set_option linter.unusedVariables false
namespace Go.Proofs.YtagmjbjgphhlcaaDoor
open Go.RowKit

def oddInts : List Int := [8364, 129, 8218, 402, 8222, 8230, 8224, 8225, 710, 8240, 352, 8249, 338, 141, 381, 143, 144, 8216, 8217, 8220, 8221, 8226, 8211, 8212, 732, 8482, 353, 8250, 339, 157, 382, 376]
theorem oddInts_is : oddInts = oddTab.map (fun n : Nat => (n : Int)) := rfl
def oddCells (k : IntKind) : Array Value := (oddInts.map (Value.int k)).toArray
theorem oddCells_at (k : IntKind) (i : Nat) (h : i < 32) : (oddCells k)[i]? = some (.int k (oddTab.getD i 0 : Nat)) := by
  have hl : oddTab.length = 32 := rfl
  unfold oddCells
  rw [List.getElem?_toArray, oddInts_is, List.map_map, List.getElem?_map, List.getD_eq_getElem?_getD, List.getElem?_eq_getElem (by omega)]
  rfl

set_option maxHeartbeats 1000000 in
theorem odd_any (i : Nat) (h : i < 32) (w : World) :
    Calls Tryd.prog 24 #[.int .u8 i] w fun e w' => e = .returned (.int .i32 (oddTab.getD i 0 : Nat)) ∧ Below w.heap.size w w' := by
  have hcl := oddCells_at .i32 i h
  have hrow : ∀ (Z : Array Value), ∀ wx, wx = (w.alloc (.cells Z 54)).setRow w.heap.size (oddCells .i32) → wx.cell? ⟨w.heap.size, i, none⟩ = some (.int .i32 (oddTab.getD i 0 : Nat)) ∧ Below w.heap.size w wx := by
    intro Z wx hx
    subst hx
    have hb : (w.alloc (.cells Z 54)).heap[w.heap.size]? = some (.cells Z 54 (0, 0)) := by
      show (w.heap.push _)[w.heap.size]? = _; simp
    refine ⟨by rw [cell_setRow_same _ _ _ _ _ _ _ hb, hcl], ?_⟩
    have h1 : Below w.heap.size w (w.alloc (.cells Z 54)) := (Below.refl _ _).alloc (Nat.le_refl _) _
    exact ⟨h1.os, h1.tape, h1.output, by rw [setRow_size]; exact h1.size, fun k hk => by rw [setRow_other _ _ _ _ (by omega)]; exact h1.block k hk⟩
  generalize ((oddTab.getD i 0 : Nat) : Int) = v at hcl hrow ⊢
  have hi : (i : Int) < 32 := by omega
  have HR := Lib.hid hrow
  clear hrow hcl
  go_enter Tryd.func24, Tryd.ntmps24
  go_upto_region 1 with (fail)
  apply wp_region_lit
  refine wpList_buildFlatArrTo rfl 54 21 32 _ rfl .i32 oddInts (some 4) rfl (by kernel_rfl) (by kernel_rfl) (by kernel_rfl) (by kernel_rfl) ?_
  go_step
  go_step
  go_step
  refine wpList_store_rowTo rfl 54 (.tmp 3) (.tmp 4) rfl rfl w.heap.size (oddCells .i32) (by rfl) (by rfl) 54 _ (by exact Array.getElem?_push_size) (by kernel_rfl) (by rfl) (by kernel_rfl) ?_
  generalize hwx : World.setRow _ _ _ = wx
  obtain ⟨hc, hb⟩ := HR.out _ _ hwx.symm
  clear hwx HR
  have HB := Lib.hid hb
  clear hb
  go_wp2
  go_ret
  exact ⟨rfl, HB.out⟩

theorem bcell {W w1 : World} (hb : Below W.heap.size W w1) : (∀ b o, b < W.heap.size → w1.cell? ⟨b, o, none⟩ = W.cell? ⟨b, o, none⟩) := fun b o h => hb.cell (p := ⟨b, o, none⟩) h

set_option maxHeartbeats 1000000 in
theorem char_any (c : Nat) (hc : c < 256) (w : World) :
    Calls Tryd.prog 13 #[.int .u8 c] w fun e w' => e = .returned (.int .i32 (cp c : Nat)) ∧ Below w.heap.size w w' := by
  by_cases h1 : c < 128
  · rw [cp_plain (.inl h1)]
    have g1 : (c : Int) < 128 := by omega
    clear h1 hc
    go_enter Tryd.func13, Tryd.ntmps13
    go_wp2
    go_ret
    exact ⟨rfl, Below.refl _ _⟩
  by_cases h2 : 159 < c
  · rw [cp_plain (.inr h2)]
    have g1 : 128 ≤ (c : Int) := by omega
    have g2 : 159 < (c : Int) := by omega
    have g3 : (c : Int) < 256 := by omega
    clear h1 h2 hc
    go_enter Tryd.func13, Tryd.ntmps13
    go_wp2
    go_ret
    exact ⟨rfl, Below.refl _ _⟩
  rw [cp_odd (by omega) (by omega)]
  obtain ⟨i, rfl⟩ : ∃ i, c = 128 + i := ⟨c - 128, by omega⟩
  rw [Nat.add_sub_cancel_left]
  have hi : i < 32 := by omega
  have ho := odd_any i hi w
  generalize ((oddTab.getD i 0 : Nat) : Int) = v at ho ⊢
  have HO := Lib.hid ho
  have hcast : ((128 + i : Nat) : Int) = 128 + (i : Int) := by omega
  rw [hcast]
  have g1 : 0 ≤ (i : Int) := by omega
  have g2 : (i : Int) < 32 := by omega
  clear ho h1 h2 hc hcast hi
  go_enter Tryd.func13, Tryd.ntmps13
  go_wp2_with fail
  rw [show (128 + (i : Int) - 128) = i by omega]
  refine HO.out.mono ?_; rintro e w1 ⟨rfl, hb⟩
  have HB := Lib.hid hb
  clear hb
  go_wp2
  go_ret
  exact ⟨rfl, HB.out⟩

set_option maxHeartbeats 1000000 in
theorem rchar_any (c : Nat) (hc : c < 256) (w : World) :
    Calls Tryd.prog 14 #[.int .u8 c] w fun e w' => e = .returned (.int .i64 (cp c : Nat)) ∧ Below w.heap.size w w' := by
  have hb0 : ∀ C, Below w.heap.size w (w.alloc (.cells C 3)) := fun C => (Below.refl _ _).alloc (Nat.le_refl _) _
  by_cases h1 : c < 128
  · rw [cp_plain (.inl h1)]
    have g1 : (c : Int) < 128 := by omega
    have HB := Lib.hid hb0
    clear h1 hc hb0
    go_enter Tryd.func14, Tryd.ntmps14
    go_upto_region 1 with (fail)
    apply wp_region_lit
    refine wpList_buildFlat rfl 45 3 32 _ rfl .i64 oddInts (by kernel_rfl) (by kernel_rfl) (by kernel_rfl) (by kernel_rfl) (by decide) (by decide) (by kernel_rfl) ?_
    generalize (oddInts.map (Value.int .i64)).toArray = C
    go_wp2
    go_ret
    exact ⟨rfl, HB.out _⟩
  by_cases h2 : 159 < c
  · rw [cp_plain (.inr h2)]
    have g1 : 128 ≤ (c : Int) := by omega
    have g2 : 159 < (c : Int) := by omega
    have g3 : (c : Int) < 256 := by omega
    have HB := Lib.hid hb0
    clear h1 h2 hc hb0
    go_enter Tryd.func14, Tryd.ntmps14
    go_upto_region 1 with (fail)
    apply wp_region_lit
    refine wpList_buildFlat rfl 45 3 32 _ rfl .i64 oddInts (by kernel_rfl) (by kernel_rfl) (by kernel_rfl) (by kernel_rfl) (by decide) (by decide) (by kernel_rfl) ?_
    generalize (oddInts.map (Value.int .i64)).toArray = C
    go_wp2
    go_ret
    exact ⟨rfl, HB.out _⟩
  rw [cp_odd (by omega) (by omega)]
  obtain ⟨i, rfl⟩ : ∃ i, c = 128 + i := ⟨c - 128, by omega⟩
  rw [Nat.add_sub_cancel_left]
  have hi : i < 32 := by omega
  have hcl := oddCells_at .i64 i hi
  have hrow : ∀ wx, wx = w.alloc (.cells (oddCells .i64) 3) → wx.cell? ⟨w.heap.size, i, none⟩ = some (.int .i64 (oddTab.getD i 0 : Nat)) ∧ Below w.heap.size w wx := by
    intro wx hx
    subst hx
    have hb : (w.alloc (.cells (oddCells .i64) 3)).heap[w.heap.size]? = some (.cells (oddCells .i64) 3 (0, 0)) := by
      show (w.heap.push _)[w.heap.size]? = _; simp
    exact ⟨by rw [Lib.cell_of_heap hb, hcl], hb0 _⟩
  generalize ((oddTab.getD i 0 : Nat) : Int) = v at hcl hrow ⊢
  have HR := Lib.hid hrow
  have hcast : ((128 + i : Nat) : Int) = 128 + (i : Int) := by omega
  rw [hcast]
  have g1 : 0 ≤ (i : Int) := by omega
  have g2 : (i : Int) < 32 := by omega
  have g3 : 128 + (i : Int) - 128 = i := by omega
  clear h1 h2 hc hcast hi hcl hrow hb0
  go_enter Tryd.func14, Tryd.ntmps14
  go_upto_region 1 with (fail)
  apply wp_region_lit
  refine wpList_buildFlat rfl 45 3 32 _ rfl .i64 oddInts (by kernel_rfl) (by kernel_rfl) (by kernel_rfl) (by kernel_rfl) (by decide) (by decide) (by kernel_rfl) ?_
  generalize hwx : w.alloc _ = wx
  obtain ⟨hc, hb⟩ := HR.out _ hwx.symm
  clear hwx HR
  have HB := Lib.hid hb
  clear hb
  go_wp2
  go_ret
  exact ⟨rfl, HB.out⟩

def bytV (r : Int) : Int := ((byt r).getD 0 : Nat)
def bytB (r : Int) : Bool := (byt r).isSome
def BytIs (r v : Int) (b : Bool) : Prop := v = bytV r ∧ b = bytB r
theorem bytIs_some {r : Int} {c : Nat} (hc : c < 256) (h : (cp c : Int) = r) : BytIs r c true := by
  unfold BytIs bytV bytB; rw [byt_some hc h]; exact ⟨rfl, rfl⟩
theorem bytIs_none {r : Int} (h : ∀ c, c < 256 → (cp c : Int) ≠ r) : BytIs r 0 false := by
  unfold BytIs bytV bytB; rw [byt_none h]; exact ⟨rfl, rfl⟩
def ByteSays (r : Int) (w : World) (e : Ending) (w' : World) : Prop := e = .returned (.tuple #[.int .u8 (bytV r), .bool (bytB r)]) ∧ Below w.heap.size w w'
theorem byteSays {r v : Int} {b : Bool} {w w' : World} (h : BytIs r v b) (hb : Below w.heap.size w w') : ByteSays r w (.returned (.tuple #[.int .u8 v, .bool b])) w' := by
  obtain ⟨rfl, rfl⟩ := h; exact ⟨rfl, hb⟩

set_option maxHeartbeats 2000000 in
theorem byte_any (r : Int) (w : World) (hlo : -2147483648 ≤ r) (hhi : r ≤ 2147483647) :
    Calls Tryd.prog 11 #[.int .i32 r] w (ByteSays r w) := by
  by_cases hp : (0 ≤ r ∧ r < 128) ∨ (159 < r ∧ r ≤ 255)
  · have hs : BytIs r r true := by
      obtain ⟨n, rfl⟩ := Int.eq_ofNat_of_zero_le (show 0 ≤ r by omega)
      exact bytIs_some (by omega) (by rw [cp_plain (by omega)])
    have HS := Lib.hid hs
    clear hs
    rcases hp with ⟨h1, h2⟩ | ⟨h1, h2⟩
    · go_enter Tryd.func11, Tryd.ntmps11
      go_wp2
      go_ret2
      exact byteSays HS.out (Below.refl _ _)
    · have h3 : 0 ≤ r := by omega
      have h4 : 128 ≤ r := by omega
      go_enter Tryd.func11, Tryd.ntmps11
      go_wp2
      go_ret2
      exact byteSays HS.out (Below.refl _ _)
  have hn : ∀ c : Nat, c < 256 → (c < 128 ∨ 159 < c) → (cp c : Int) ≠ r := by
    intro c hc h; rw [cp_plain h]; omega
  have HN := Lib.hid hn
  have hpn : (decide (0 ≤ r) && decide (r < 128) || decide (159 < r) && decide (r ≤ 255)) = false := by
    simp only [Bool.or_eq_false_iff, Bool.and_eq_false_iff, decide_eq_false_iff_not]; omega
  clear hn
  have hcase : r < 0 ∨ (0 ≤ r ∧ 128 ≤ r ∧ 255 < r) ∨ (0 ≤ r ∧ 128 ≤ r ∧ r ≤ 255 ∧ r ≤ 159) := by omega
  clear hp hpn
  have hrd : ∀ k : Nat, k < 256 → ∀ wx, Calls Tryd.prog 13 #[.int .u8 k] wx fun e w' => e = .returned (.int .i32 (cp k : Nat)) ∧ Below wx.heap.size wx w' := fun k hk wx => char_any k hk wx
  have HC := Lib.hid hrd
  clear hrd
  rcases hcase with q1 | ⟨q1, q2, q3⟩ | ⟨q1, q2, q3, q4⟩
  all_goals
    go_enter Tryd.func11, Tryd.ntmps11
    go_wp2
    go_loopw [4] (fun i wr => ∃ k : Nat, 128 ≤ k ∧ k ≤ 160 ∧ i = .int .u8 k ∧ (∀ j, 128 ≤ j → j < k → (cp j : Int) ≠ r) ∧ Below w.heap.size w wr) (fun i _ => 160 - (intOf i).toNat)
    case atStart => exact ⟨128, by omega, by omega, rfl, fun j h1 h2 => by omega, Below.refl _ _⟩
    case round =>
      obtain ⟨k, hk1, hk2, rfl, hall, hb⟩ := hrel
      have HA := Lib.hid hall
      have HB := Lib.hid hb
      clear hall hb
      by_cases hlt : k ≤ 159
      · have hch := HC.out k (by omega)
        have hvi : (cp k : Int) = r → BytIs r k true := fun h => bytIs_some (by omega) h
        have hvn : (cp k : Int) ≠ r → ∀ j, 128 ≤ j → j < k + 1 → (cp j : Int) ≠ r := fun h j h1 h2 => by
          by_cases he : j = k
          · subst he; exact h
          · exact HA.out j h1 (by omega)
        generalize ((cp k : Nat) : Int) = v at hch hvi hvn
        have HCH := Lib.hid hch
        clear hch
        by_cases he : v = r
        · have HV := Lib.hid (hvi he)
          have g1 : (v == r) = true := by simp [he]
          clear hvi hvn he
          go_wp2_with fail
          refine (HCH.out _).mono ?_; rintro e w1 ⟨rfl, hb⟩
          have HB2 := Lib.hid (HB.out.trans (hb.mono HB.out.size))
          clear hb
          go_wp2
          go_ret2
          exact byteSays HV.out HB2.out
        · have HV := Lib.hid (hvn he)
          have g1 : (v == r) = false := by simp [he]
          clear hvi hvn he
          go_wp2_with fail
          refine (HCH.out _).mono ?_; rintro e w1 ⟨rfl, hb⟩
          have HB2 := Lib.hid (HB.out.trans (hb.mono HB.out.size))
          clear hb
          go_wp2
          go_roundw
          case rel => exact ⟨k + 1, by omega, by omega, by go_num, HV.out, HB2.out⟩
          case measure => simp [intOf]; omega
      · obtain rfl : k = 160 := by omega
        have hs : BytIs r 0 false := bytIs_none fun c hc => by
          by_cases h : c < 128 ∨ 159 < c
          · exact HN.out c hc h
          · exact HA.out c (by omega) (by omega)
        have HS := Lib.hid hs
        clear hs
        go_wp2
        go_ret2
        exact byteSays HS.out HB.out

def rbyV (r : Int) : Int := match byt r with | some c => c | none => -1
theorem rbyV_some {r : Int} {c : Nat} (hc : c < 256) (h : (cp c : Int) = r) : rbyV r = c := by unfold rbyV; rw [byt_some hc h]
theorem rbyV_none {r : Int} (h : ∀ c, c < 256 → (cp c : Int) ≠ r) : rbyV r = -1 := by unfold rbyV; rw [byt_none h]

set_option maxHeartbeats 2000000 in
set_option maxRecDepth 100000 in
theorem rbyte_any (r : Int) (w : World) :
    Calls Tryd.prog 12 #[.int .i64 r] w fun e w' => e = .returned (.int .i64 (rbyV r)) ∧ Below w.heap.size w w' := by
  have hrd : ∀ k : Nat, k < 256 → ∀ wx, Calls Tryd.prog 14 #[.int .u8 k] wx fun e w' => e = .returned (.int .i64 (cp k : Nat)) ∧ Below wx.heap.size wx w' := fun k hk wx => rchar_any k hk wx
  have HC := Lib.hid hrd
  clear hrd
  obtain ⟨y, hy⟩ : ∃ y, y = rbyV r := ⟨_, rfl⟩
  rw [← hy]
  have HY := Lib.hid hy
  clear hy
  go_enter Tryd.func12, Tryd.ntmps12
  go_wp2
  go_loopw [3] (fun i wr => ∃ k : Nat, k ≤ 256 ∧ i = .int .i64 k ∧ (∀ j, j < k → (cp j : Int) ≠ r) ∧ Below w.heap.size w wr) (fun i _ => 256 - (intOf i).toNat)
  case atStart => exact ⟨0, by omega, rfl, fun j h1 => by omega, Below.refl _ _⟩
  case round =>
    obtain ⟨k, hk2, rfl, hall, hb⟩ := hrel
    have HA := Lib.hid hall
    have HB := Lib.hid hb
    clear hall hb
    by_cases hlt : k < 256
    · have hch := HC.out k (by omega)
      have hvi : (cp k : Int) = r → rbyV r = k := fun h => rbyV_some (by omega) h
      have hvn : (cp k : Int) ≠ r → ∀ j, j < k + 1 → (cp j : Int) ≠ r := fun h j h2 => by
        by_cases he : j = k
        · subst he; exact h
        · exact HA.out j (by omega)
      generalize ((cp k : Nat) : Int) = v at hch hvi hvn
      have HCH := Lib.hid hch
      clear hch
      by_cases he : v = r
      · have HV : Hid (y = k) := Lib.hid (HY.out.trans (hvi he))
        have g1 : (v == r) = true := by simp [he]
        clear hvi hvn he
        go_wp2_with fail
        refine (HCH.out _).mono ?_; rintro e w1 ⟨rfl, hb⟩
        have HB2 := Lib.hid (HB.out.trans (hb.mono HB.out.size))
        clear hb
        go_wp2
        go_ret
        exact ⟨ret_int HV.out.symm, HB2.out⟩
      · have HV := Lib.hid (hvn he)
        have g1 : (v == r) = false := by simp [he]
        clear hvi hvn he
        go_wp2_with fail
        refine (HCH.out _).mono ?_; rintro e w1 ⟨rfl, hb⟩
        have HB2 := Lib.hid (HB.out.trans (hb.mono HB.out.size))
        clear hb
        go_wp2
        go_roundw
        case rel => exact ⟨k + 1, by omega, by go_num, HV.out, HB2.out⟩
        case measure => simp [intOf]; omega
    · obtain rfl : k = 256 := by omega
      have HS : Hid (y = -1) := Lib.hid (HY.out.trans (rbyV_none fun c hc => HA.out c hc))
      go_wp2
      go_ret
      exact ⟨ret_int HS.out.symm, HB.out⟩
end Go.Proofs.YtagmjbjgphhlcaaDoor
