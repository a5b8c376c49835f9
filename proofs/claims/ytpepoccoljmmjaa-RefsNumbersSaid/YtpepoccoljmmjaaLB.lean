/- A byte's character. -/
import Derived.Test.YtpepoccoljmmjaaK
import Derived.Test.YtpepoccoljmmjaaLA
import Derived.Great.BuildSlice
import Derived.Deep.Cut
set_option linter.unusedVariables false
namespace Go.Proofs.Ytpepoccoljmmjaa
open Go.RowKit

def oddInts : List Int := [8364, 129, 8218, 402, 8222, 8230, 8224, 8225, 710, 8240, 352, 8249, 338, 141, 381, 143, 144, 8216, 8217, 8220, 8221, 8226, 8211, 8212, 732, 8482, 353, 8250, 339, 157, 382, 376]

theorem oddInts_is : oddInts = oddTab.map (fun n : Nat => (n : Int)) := rfl

def oddCells (k : IntKind) : Array Value := (oddInts.map (Value.int k)).toArray

theorem oddCells_at (k : IntKind) (i : Nat) (h : i < 32) : (oddCells k)[i]? = some (.int k (oddTab.getD i 0 : Nat)) := by
  have hl : oddTab.length = 32 := rfl
  unfold oddCells
  rw [List.getElem?_toArray, oddInts_is, List.map_map, List.getElem?_map, List.getD_eq_getElem?_getD, List.getElem?_eq_getElem (by omega)]
  rfl

set_option maxHeartbeats 1000000 in
theorem odd_any (i : Nat) (h : i < 32) (w : World) :
    Calls Try.prog 52 #[.int .u8 i] w fun e w' => e = .returned (.int .i32 (oddTab.getD i 0 : Nat)) ∧ Below w.heap.size w w' := by
  have hcl := oddCells_at .i32 i h
  have hrow : ∀ (Z : Array Value), ∀ wx, wx = (w.alloc (.cells Z 75)).setRow w.heap.size (oddCells .i32) → wx.cell? ⟨w.heap.size, i, none⟩ = some (.int .i32 (oddTab.getD i 0 : Nat)) ∧ Below w.heap.size w wx := by
    intro Z wx hx
    subst hx
    have hb : (w.alloc (.cells Z 75)).heap[w.heap.size]? = some (.cells Z 75 (0, 0)) := by
      show (w.heap.push _)[w.heap.size]? = _; simp
    refine ⟨by rw [cell_setRow_same _ _ _ _ _ _ _ hb, hcl], ?_⟩
    have h1 : Below w.heap.size w (w.alloc (.cells Z 75)) := (Below.refl _ _).alloc (Nat.le_refl _) _
    exact ⟨h1.os, h1.tape, h1.output, by rw [setRow_size]; exact h1.size, fun k hk => by rw [setRow_other _ _ _ _ (by omega)]; exact h1.block k hk⟩
  generalize ((oddTab.getD i 0 : Nat) : Int) = v at hcl hrow ⊢
  have hi : (i : Int) < 32 := by omega
  have HR := Lib.hid hrow
  clear hrow hcl
  go_enter Try.func52, Try.ntmps52
  go_upto_region 1 with (fail)
  apply wp_region_lit
  refine wpList_buildFlatArrTo rfl 75 21 32 _ rfl .i32 oddInts (some 4) rfl (by kernel_rfl) (by kernel_rfl) (by kernel_rfl) (by kernel_rfl) ?_
  go_step
  go_step
  go_step
  refine wpList_store_rowTo rfl 75 (.tmp 3) (.tmp 4) rfl rfl w.heap.size (oddCells .i32) (by rfl) (by rfl) 75 _ (by exact Array.getElem?_push_size) (by kernel_rfl) (by rfl) (by kernel_rfl) ?_
  generalize hwx : World.setRow _ _ _ = wx
  obtain ⟨hc, hb⟩ := HR.out _ _ hwx.symm
  clear hwx HR
  have HB := Lib.hid hb
  clear hb
  go_wp2
  go_ret
  exact ⟨rfl, HB.out⟩

theorem bcell {W w1 : World} (hb : Below W.heap.size W w1) : (∀ b o, b < W.heap.size → w1.cell? ⟨b, o, none⟩ = W.cell? ⟨b, o, none⟩) := fun b o h => hb.cell (p := ⟨b, o, none⟩) h

set_option maxHeartbeats 1000000 in
theorem char_any (c : Nat) (hc : c < 256) (w : World) :
    Calls Try.prog 32 #[.int .u8 c] w fun e w' => e = .returned (.int .i32 (cp c : Nat)) ∧ Below w.heap.size w w' := by
  by_cases h1 : c < 128
  · rw [cp_plain (.inl h1)]
    have g1 : (c : Int) < 128 := by omega
    clear h1 hc
    go_enter Try.func32, Try.ntmps32
    go_wp2
    go_ret
    exact ⟨rfl, Below.refl _ _⟩
  by_cases h2 : 159 < c
  · rw [cp_plain (.inr h2)]
    have g1 : 128 ≤ (c : Int) := by omega
    have g2 : 159 < (c : Int) := by omega
    have g3 : (c : Int) < 256 := by omega
    clear h1 h2 hc
    go_enter Try.func32, Try.ntmps32
    go_wp2
    go_ret
    exact ⟨rfl, Below.refl _ _⟩
  rw [cp_odd (by omega) (by omega)]
  obtain ⟨i, rfl⟩ : ∃ i, c = 128 + i := ⟨c - 128, by omega⟩
  rw [Nat.add_sub_cancel_left]
  have hi : i < 32 := by omega
  have ho := odd_any i hi w
  generalize ((oddTab.getD i 0 : Nat) : Int) = v at ho ⊢
  have HO := Lib.hid ho
  have hcast : ((128 + i : Nat) : Int) = 128 + (i : Int) := by omega
  rw [hcast]
  have g1 : 0 ≤ (i : Int) := by omega
  have g2 : (i : Int) < 32 := by omega
  clear ho h1 h2 hc hcast hi
  go_enter Try.func32, Try.ntmps32
  go_wp2_with fail
  rw [show (128 + (i : Int) - 128) = i by omega]
  refine HO.out.mono ?_; rintro e w1 ⟨rfl, hb⟩
  have HB := Lib.hid hb
  clear hb
  go_wp2
  go_ret
  exact ⟨rfl, HB.out⟩

set_option maxHeartbeats 1000000 in
theorem rchar_any (c : Nat) (hc : c < 256) (w : World) :
    Calls Try.prog 33 #[.int .u8 c] w fun e w' => e = .returned (.int .i64 (cp c : Nat)) ∧ Below w.heap.size w w' := by
  have hb0 : ∀ C, Below w.heap.size w (w.alloc (.cells C 3)) := fun C => (Below.refl _ _).alloc (Nat.le_refl _) _
  by_cases h1 : c < 128
  · rw [cp_plain (.inl h1)]
    have g1 : (c : Int) < 128 := by omega
    have HB := Lib.hid hb0
    clear h1 hc hb0
    go_enter Try.func33, Try.ntmps33
    go_upto_region 1 with (fail)
    apply wp_region_lit
    refine wpList_buildFlat rfl 71 3 32 _ rfl .i64 oddInts (by kernel_rfl) (by kernel_rfl) (by kernel_rfl) (by kernel_rfl) (by decide) (by decide) (by kernel_rfl) ?_
    generalize (oddInts.map (Value.int .i64)).toArray = C
    go_wp2
    go_ret
    exact ⟨rfl, HB.out _⟩
  by_cases h2 : 159 < c
  · rw [cp_plain (.inr h2)]
    have g1 : 128 ≤ (c : Int) := by omega
    have g2 : 159 < (c : Int) := by omega
    have g3 : (c : Int) < 256 := by omega
    have HB := Lib.hid hb0
    clear h1 h2 hc hb0
    go_enter Try.func33, Try.ntmps33
    go_upto_region 1 with (fail)
    apply wp_region_lit
    refine wpList_buildFlat rfl 71 3 32 _ rfl .i64 oddInts (by kernel_rfl) (by kernel_rfl) (by kernel_rfl) (by kernel_rfl) (by decide) (by decide) (by kernel_rfl) ?_
    generalize (oddInts.map (Value.int .i64)).toArray = C
    go_wp2
    go_ret
    exact ⟨rfl, HB.out _⟩
  rw [cp_odd (by omega) (by omega)]
  obtain ⟨i, rfl⟩ : ∃ i, c = 128 + i := ⟨c - 128, by omega⟩
  rw [Nat.add_sub_cancel_left]
  have hi : i < 32 := by omega
  have hcl := oddCells_at .i64 i hi
  have hrow : ∀ wx, wx = w.alloc (.cells (oddCells .i64) 3) → wx.cell? ⟨w.heap.size, i, none⟩ = some (.int .i64 (oddTab.getD i 0 : Nat)) ∧ Below w.heap.size w wx := by
    intro wx hx
    subst hx
    have hb : (w.alloc (.cells (oddCells .i64) 3)).heap[w.heap.size]? = some (.cells (oddCells .i64) 3 (0, 0)) := by
      show (w.heap.push _)[w.heap.size]? = _; simp
    exact ⟨by rw [Lib.cell_of_heap hb, hcl], hb0 _⟩
  generalize ((oddTab.getD i 0 : Nat) : Int) = v at hcl hrow ⊢
  have HR := Lib.hid hrow
  have hcast : ((128 + i : Nat) : Int) = 128 + (i : Int) := by omega
  rw [hcast]
  have g1 : 0 ≤ (i : Int) := by omega
  have g2 : (i : Int) < 32 := by omega
  have g3 : 128 + (i : Int) - 128 = i := by omega
  clear h1 h2 hc hcast hi hcl hrow hb0
  go_enter Try.func33, Try.ntmps33
  go_upto_region 1 with (fail)
  apply wp_region_lit
  refine wpList_buildFlat rfl 71 3 32 _ rfl .i64 oddInts (by kernel_rfl) (by kernel_rfl) (by kernel_rfl) (by kernel_rfl) (by decide) (by decide) (by kernel_rfl) ?_
  generalize hwx : w.alloc _ = wx
  obtain ⟨hc, hb⟩ := HR.out _ hwx.symm
  clear hwx HR
  have HB := Lib.hid hb
  clear hb
  go_wp2
  go_ret
  exact ⟨rfl, HB.out⟩

end Go.Proofs.Ytpepoccoljmmjaa
