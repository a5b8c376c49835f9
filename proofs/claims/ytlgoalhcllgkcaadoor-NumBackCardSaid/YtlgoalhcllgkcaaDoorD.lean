/- The calls of num, and of the document's answer, by their contracts; what holds in any case. -/
import Derived.Test.YtlgoalhcllgkcaaDoorC
import Derived.Test.YtlgoalhcllgkcaaDoorY
import Derived.Test.YtlgoalhcllgkcaaDoorS
namespace Go.Proofs.YtlgoalhcllgkcaaDoor
open Go.RowKit

def two (p : Int × Int) : Value := .tuple #[.int .i64 p.1, .int .i64 p.2]

theorem decimal_any (s : ByteArray) (w : World) (hs : s.size ≤ maxLen) :
    Calls Tryd.prog 8 #[.string s] w fun e w' => e = .returned (.tuple #[.int .i64 (meant 10 s.data.toList).1, .int .i64 (meant 10 s.data.toList).2]) ∧ w = w' := by
  go_enter Tryd.func8, Tryd.ntmps8
  go_wp2_with (go_at_call 16; refine (read10 _ _ hs).mono ?_; rintro e w' ⟨rfl, rfl⟩)
  go_ret2
  exact ⟨rfl, rfl⟩
theorem hex_any (s : ByteArray) (w : World) (hs : s.size ≤ maxLen) :
    Calls Tryd.prog 9 #[.string s] w fun e w' => e = .returned (.tuple #[.int .i64 (meant 16 s.data.toList).1, .int .i64 (meant 16 s.data.toList).2]) ∧ w = w' := by
  go_enter Tryd.func9, Tryd.ntmps9
  go_wp2_with (go_at_call 16; refine (read16 _ _ hs).mono ?_; rintro e w' ⟨rfl, rfl⟩)
  go_ret2
  exact ⟨rfl, rfl⟩
theorem refdecimal_any (s : ByteArray) (w : World) (hs : s.size ≤ maxLen) :
    Calls Tryd.prog 10 #[.string s] w fun e w' => e = .returned (.tuple #[.int .i64 (meant 10 s.data.toList).1, .int .i64 (meant 10 s.data.toList).2]) ∧ w = w' := by
  go_enter Tryd.func10, Tryd.ntmps10
  go_wp2_with (go_at_call 17; refine (ref10 _ _ hs).mono ?_; rintro e w' ⟨rfl, rfl⟩)
  go_ret2
  exact ⟨rfl, rfl⟩
theorem refhex_any (s : ByteArray) (w : World) (hs : s.size ≤ maxLen) :
    Calls Tryd.prog 11 #[.string s] w fun e w' => e = .returned (.tuple #[.int .i64 (meant 16 s.data.toList).1, .int .i64 (meant 16 s.data.toList).2]) ∧ w = w' := by
  go_enter Tryd.func11, Tryd.ntmps11
  go_wp2_with (go_at_call 17; refine (ref16 _ _ hs).mono ?_; rintro e w' ⟨rfl, rfl⟩)
  go_ret2
  exact ⟨rfl, rfl⟩

/-- what the tables say -/
structure Tabs (w : World) : Prop where
  cell : w.cell? ⟨2, 15, none⟩ = some (.int .u8 4)
  size : 2 < w.heap.size
theorem Tabs.below {w w' : World} (h : Tabs w) (hb : Below w.heap.size w w') : Tabs w' :=
  ⟨(hb.cell (p := ⟨2, 15, none⟩) h.size).trans h.cell, Nat.lt_of_lt_of_le h.size hb.size⟩

theorem format16 (n : Nat) (hn : n < 9223372036854775808) (w : World) (ht : Tabs w) :
    Calls Tryd.prog 23 #[.int .i64 n, .int .i64 16] w fun e w' => e = .returned (.string ⟨(hexl n).toArray⟩) ∧ Below w.heap.size w w' := by
  have hw : IntKind.u64.wrap (n : Int) = n := by rw [IntKind.wrap_u64]; omega
  have HC := Lib.hid ht
  clear ht
  go_enter Tryd.func23, Tryd.ntmps23
  go_wp2_with (go_at_call 27; refine (bits16 n hn _ HC.out.cell HC.out.size).mono ?_; rintro e w' ⟨rfl, hb⟩)
  go_ret
  exact ⟨rfl, hb⟩
theorem sformat16 (n : Nat) (hn : n < 9223372036854775808) (w : World) (ht : Tabs w) :
    Calls Tryd.prog 22 #[.int .i64 n, .int .i64 16] w fun e w' => e = .returned (.string ⟨(hexl n).toArray⟩) ∧ Below w.heap.size w w' := by
  go_enter Tryd.func22, Tryd.ntmps22
  go_wp2_with (go_at_call 23; refine (format16 n hn _ ht).mono ?_; rintro e w' ⟨rfl, hb⟩)
  go_ret
  exact ⟨rfl, hb⟩
theorem write16 (n : Nat) (hn : n < 9223372036854775808) (w : World) (ht : Tabs w) :
    Calls Tryd.prog 18 #[.int .i64 n, .int .i64 16] w fun e w' => e = .returned (.string ⟨(hexl n).toArray⟩) ∧ Below w.heap.size w w' := by
  go_enter Tryd.func18, Tryd.ntmps18
  go_wp2_with (go_at_call 22; refine (sformat16 n hn _ ht).mono ?_; rintro e w' ⟨rfl, hb⟩)
  go_ret
  exact ⟨rfl, hb⟩
theorem hexes_any (n : Nat) (hn : n < 9223372036854775808) (w : World) (ht : Tabs w) :
    Calls Tryd.prog 14 #[.int .i64 n] w fun e w' => e = .returned (.string ⟨(hexl n).toArray⟩) ∧ Below w.heap.size w w' := by
  go_enter Tryd.func14, Tryd.ntmps14
  go_wp2_with (go_at_call 18; refine (write16 n hn _ ht).mono ?_; rintro e w' ⟨rfl, hb⟩)
  go_ret
  exact ⟨rfl, hb⟩
theorem writeNeg (n base : Int) (hn : n < 0) (w : World) :
    Calls Tryd.prog 18 #[.int .i64 n, .int .i64 base] w fun e w' => e = .returned (.string ⟨#[]⟩) ∧ w = w' := by
  go_enter Tryd.func18, Tryd.ntmps18
  go_wp2
  go_ret
  exact ⟨rfl, rfl⟩

theorem m007 : meant 10 [48, 48, 55] = (7, 0) := meant_ok 10 _ (by simp) (by unfold good; decide) (by decide)
theorem m1aF : meant 16 [49, 97, 70] = (431, 0) := meant_ok 16 _ (by simp) (by unfold good; decide) (by decide)
theorem mOver : meant 10 [57, 50, 50, 51, 51, 55, 50, 48, 51, 54, 56, 53, 52, 55, 55, 53, 56, 48, 56] = (0, 3) :=
  meant_over 10 (by decide) _ (by simp) (by unfold good; decide) 19 (by decide)
theorem h431 : hexl 431 = [49, 97, 102] := by
  rw [hexl_big _ (by decide), hexl_big _ (by decide), hexl_small _ (by decide)]; decide

theorem dec007 (w : World) : Calls Tryd.prog 8 #[.string ⟨#[48, 48, 55]⟩] w fun e w' => e = .returned (.tuple #[.int .i64 7, .int .i64 0]) ∧ w = w' := by
  have := decimal_any ⟨#[48, 48, 55]⟩ w (by show 3 ≤ _; unfold maxLen; omega)
  rw [m007] at this; exact this
theorem hex1aF (w : World) : Calls Tryd.prog 9 #[.string ⟨#[49, 97, 70]⟩] w fun e w' => e = .returned (.tuple #[.int .i64 431, .int .i64 0]) ∧ w = w' := by
  have := hex_any ⟨#[49, 97, 70]⟩ w (by show 3 ≤ _; unfold maxLen; omega)
  rw [m1aF] at this; exact this
theorem decOver (w : World) : Calls Tryd.prog 8 #[.string ⟨#[57, 50, 50, 51, 51, 55, 50, 48, 51, 54, 56, 53, 52, 55, 55, 53, 56, 48, 56]⟩] w fun e w' => e = .returned (.tuple #[.int .i64 0, .int .i64 3]) ∧ w = w' := by
  have := decimal_any ⟨#[57, 50, 50, 51, 51, 55, 50, 48, 51, 54, 56, 53, 52, 55, 55, 53, 56, 48, 56]⟩ w (by show 19 ≤ _; unfold maxLen; omega)
  rw [mOver] at this; exact this
theorem hexes431 (w : World) (ht : Tabs w) : Calls Tryd.prog 14 #[.int .i64 431] w fun e w' => e = .returned (.string ⟨#[49, 97, 102]⟩) ∧ Below w.heap.size w w' := by
  have := hexes_any 431 (by decide) w ht
  rw [h431] at this; exact this

set_option maxHeartbeats 1000000 in
theorem shown_any (w : World) (ht : Tabs w) :
    Calls Tryd.prog 7 #[] w fun e w' => e = .returned (.bool true) ∧ Below w.heap.size w w' := by
  have HT := Lib.hid ht
  clear ht
  go_enter Tryd.func7, Tryd.ntmps7
  go_wp2_with fail
  refine (dec007 _).mono ?_; rintro e w' ⟨rfl, rfl⟩
  go_wp2_with fail
  refine (hex1aF _).mono ?_; rintro e w' ⟨rfl, rfl⟩
  go_wp2_with fail
  refine (decOver _).mono ?_; rintro e w' ⟨rfl, rfl⟩
  go_wp2_with fail
  refine (hexes431 _ HT.out).mono ?_; rintro e w' ⟨rfl, hb⟩
  have HB := Lib.hid hb
  clear hb
  go_wp2
  go_ret
  exact ⟨rfl, HB.out⟩
end Go.Proofs.YtlgoalhcllgkcaaDoor
