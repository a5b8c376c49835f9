/- What a byte begins, and the first piece of a row of bytes. -/
import Derived.Test.YtagmjbjgphhlcaaDoorA
import Derived.Test.YtagmjbjgphhlcaaDoorChecked
import Derived.WalkKit
import Derived.WalkSpells
import Derived.WalkLawsBesides
import Derived.WalkSmall
import Derived.Lib.Hide
import Derived.Deep.QuietTactic
import Derived.BigQuiet
import Derived.Laws.CopyOwn
set_option linter.unusedVariables false
namespace Go.Proofs.YtagmjbjgphhlcaaDoor
open Go.RowKit

theorem ret_int {k : IntKind} {a b : Int} (h : a = b) : Ending.returned (.int k a) = .returned (.int k b) := by rw [h]
theorem ret_ib {a b : Int} {p q : Bool} (h : a = b) (h2 : p = q) : Ending.returned (.tuple #[.int .i64 a, .bool p]) = .returned (.tuple #[.int .i64 b, .bool q]) := by rw [h, h2]

set_option maxHeartbeats 4000000 in
theorem begins_any (x : Nat) (hx : x ≤ 255) (w : World) :
    Calls Tryd.prog 61 #[.int .u8 x] w fun e w' => e = .returned (.tuple #[.int .i64 (beg x).1, .int .u8 (beg x).2.1, .int .u8 (beg x).2.2]) ∧ w = w' := by
  obtain ⟨y, hy⟩ : ∃ y : Int, y = (x : Int) := ⟨_, rfl⟩
  rw [← hy]
  by_cases h0 : x ≤ 127
  · have hv : beg x = (1, 0, 0) := by unfold beg; rw [if_pos h0]
    rw [hv]
    have g0 : y ≤ 127 := by omega
    clear hv hy h0 hx
    go_enter Tryd.func61, Tryd.ntmps61
    go_wp2
    go_ret3
    exact ⟨rfl, rfl⟩
  by_cases h1 : x < 194
  · have hv : beg x = (0, 0, 0) := by unfold beg; rw [if_neg h0, if_pos h1]
    rw [hv]
    have g0 : 127 < y := by omega
    have g1 : y < 194 := by omega
    clear hv hy h0 h1 hx
    go_enter Tryd.func61, Tryd.ntmps61
    go_wp2
    go_ret3
    exact ⟨rfl, rfl⟩
  by_cases h2 : x ≤ 223
  · have hv : beg x = (2, 128, 191) := by unfold beg; rw [if_neg h0, if_neg h1, if_pos h2]
    rw [hv]
    have g0 : 127 < y := by omega
    have g1 : 194 ≤ y := by omega
    have g2 : y ≤ 223 := by omega
    clear hv hy h0 h1 h2 hx
    go_enter Tryd.func61, Tryd.ntmps61
    go_wp2
    go_ret3
    exact ⟨rfl, rfl⟩
  by_cases h3 : x = 224
  · have hv : beg x = (3, 160, 191) := by unfold beg; rw [if_neg h0, if_neg h1, if_neg h2, if_pos h3]
    rw [hv]
    have g0 : 127 < y := by omega
    have g1 : 194 ≤ y := by omega
    have g2 : 223 < y := by omega
    have g3 : (y == 224) = true := by simp; omega
    clear hv hy h0 h1 h2 h3 hx
    go_enter Tryd.func61, Tryd.ntmps61
    go_wp2
    go_ret3
    exact ⟨rfl, rfl⟩
  by_cases h4 : x = 237
  · have hv : beg x = (3, 128, 159) := by unfold beg; rw [if_neg h0, if_neg h1, if_neg h2, if_neg h3, if_pos h4]
    rw [hv]
    have g0 : 127 < y := by omega
    have g1 : 194 ≤ y := by omega
    have g2 : 223 < y := by omega
    have g3 : (y == 224) = false := by simp; omega
    have g4 : (y == 237) = true := by simp; omega
    clear hv hy h0 h1 h2 h3 h4 hx
    go_enter Tryd.func61, Tryd.ntmps61
    go_wp2
    go_ret3
    exact ⟨rfl, rfl⟩
  by_cases h5 : x ≤ 239
  · have hv : beg x = (3, 128, 191) := by unfold beg; rw [if_neg h0, if_neg h1, if_neg h2, if_neg h3, if_neg h4, if_pos h5]
    rw [hv]
    have g0 : 127 < y := by omega
    have g1 : 194 ≤ y := by omega
    have g2 : 223 < y := by omega
    have g3 : (y == 224) = false := by simp; omega
    have g4 : (y == 237) = false := by simp; omega
    have g5 : y ≤ 239 := by omega
    clear hv hy h0 h1 h2 h3 h4 h5 hx
    go_enter Tryd.func61, Tryd.ntmps61
    go_wp2
    go_ret3
    exact ⟨rfl, rfl⟩
  by_cases h6 : x = 240
  · have hv : beg x = (4, 144, 191) := by unfold beg; rw [if_neg h0, if_neg h1, if_neg h2, if_neg h3, if_neg h4, if_neg h5, if_pos h6]
    rw [hv]
    have g0 : 127 < y := by omega
    have g1 : 194 ≤ y := by omega
    have g2 : 223 < y := by omega
    have g3 : (y == 224) = false := by simp; omega
    have g4 : (y == 237) = false := by simp; omega
    have g5 : 239 < y := by omega
    have g6 : (y == 240) = true := by simp; omega
    clear hv hy h0 h1 h2 h3 h4 h5 h6 hx
    go_enter Tryd.func61, Tryd.ntmps61
    go_wp2
    go_ret3
    exact ⟨rfl, rfl⟩
  by_cases h7 : x ≤ 243
  · have hv : beg x = (4, 128, 191) := by unfold beg; rw [if_neg h0, if_neg h1, if_neg h2, if_neg h3, if_neg h4, if_neg h5, if_neg h6, if_pos h7]
    rw [hv]
    have g0 : 127 < y := by omega
    have g1 : 194 ≤ y := by omega
    have g2 : 223 < y := by omega
    have g3 : (y == 224) = false := by simp; omega
    have g4 : (y == 237) = false := by simp; omega
    have g5 : 239 < y := by omega
    have g6 : (y == 240) = false := by simp; omega
    have g7 : y ≤ 243 := by omega
    clear hv hy h0 h1 h2 h3 h4 h5 h6 h7 hx
    go_enter Tryd.func61, Tryd.ntmps61
    go_wp2
    go_ret3
    exact ⟨rfl, rfl⟩
  by_cases h8 : x = 244
  · have hv : beg x = (4, 128, 143) := by unfold beg; rw [if_neg h0, if_neg h1, if_neg h2, if_neg h3, if_neg h4, if_neg h5, if_neg h6, if_neg h7, if_pos h8]
    rw [hv]
    have g0 : 127 < y := by omega
    have g1 : 194 ≤ y := by omega
    have g2 : 223 < y := by omega
    have g3 : (y == 224) = false := by simp; omega
    have g4 : (y == 237) = false := by simp; omega
    have g5 : 239 < y := by omega
    have g6 : (y == 240) = false := by simp; omega
    have g7 : 243 < y := by omega
    have g8 : (y == 244) = true := by simp; omega
    clear hv hy h0 h1 h2 h3 h4 h5 h6 h7 h8 hx
    go_enter Tryd.func61, Tryd.ntmps61
    go_wp2
    go_ret3
    exact ⟨rfl, rfl⟩
  have hv : beg x = (0, 0, 0) := by unfold beg; rw [if_neg h0, if_neg h1, if_neg h2, if_neg h3, if_neg h4, if_neg h5, if_neg h6, if_neg h7, if_neg h8]
  rw [hv]
  have g0 : 127 < y := by omega
  have g1 : 194 ≤ y := by omega
  have g2 : 223 < y := by omega
  have g3 : (y == 224) = false := by simp; omega
  have g4 : (y == 237) = false := by simp; omega
  have g5 : 239 < y := by omega
  have g6 : (y == 240) = false := by simp; omega
  have g7 : 243 < y := by omega
  have g8 : (y == 244) = false := by simp; omega
  clear hv hy h0 h1 h2 h3 h4 h5 h6 h7 h8 hx
  go_enter Tryd.func61, Tryd.ntmps61
  go_wp2
  go_ret3
  exact ⟨rfl, rfl⟩

/-- a row of bytes at a place -/
def Row (w : World) (b o : Nat) (l : List UInt8) : Prop := ∀ j (h : j < l.length), w.cell? ⟨b, o + j, none⟩ = some (.int .u8 l[j].toNat)
theorem Row.drop {w : World} {b o : Nat} {l : List UInt8} (h : Row w b o l) (k : Nat) : Row w b (o + k) (l.drop k) := by
  intro j hj
  have hj' : j < l.length - k := by simpa using hj
  have := h (k + j) (by omega)
  rw [Nat.add_assoc, this]; simp
theorem Row.take {w : World} {b o : Nat} {l : List UInt8} (h : Row w b o l) (k : Nat) : Row w b o (l.take k) := by
  intro j hj
  have hj' : j < min k l.length := by simpa using hj
  rw [h j (by omega)]; simp
theorem Row.below {w w' : World} {b o B : Nat} {l : List UInt8} (h : Row w b o l) (hb : Below B w w') (hlt : b < B) : Row w' b o l :=
  fun j hj => (hb.cell (p := ⟨b, o + j, none⟩) hlt).trans (h j hj)
theorem Row.lt {w : World} {b o : Nat} {l : List UInt8} (h : Row w b o l) (hl : l ≠ []) : b < w.heap.size := by
  have h0 := h 0 (by cases l; contradiction; simp)
  rcases Nat.lt_or_ge b w.heap.size with h' | h'
  · exact h'
  · unfold World.cell? at h0
    simp [Array.getElem?_eq_none h'] at h0

set_option maxHeartbeats 4000000 in
theorem piece_any (l : List UInt8) (b o c : Nat) (w : World) (hl : l ≠ []) (hr : Row w b o l) (hbig : l.length ≤ 9223372036854775807) :
    Calls Tryd.prog 57 #[.slice (some ⟨b, o, none⟩) l.length c] w fun e w' => e = .returned (.tuple #[.int .i64 (pc l).1, .bool (pc l).2]) ∧ w = w' := by
  have hlen : 0 < l.length := by cases l; contradiction; simp
  have hc0 : w.cell? ⟨b, o, none⟩ = some (.int .u8 (l.headD 0).toNat) := by have := hr 0 hlen; rw [Nat.add_zero] at this; rw [this]; cases l; contradiction; rfl
  have hbg : ∀ w, Calls Tryd.prog 61 #[.int .u8 (l.headD 0).toNat] w fun e w' => e = .returned (.tuple #[.int .i64 (beg (l.headD 0).toNat).1, .int .u8 (beg (l.headD 0).toNat).2.1, .int .u8 (beg (l.headD 0).toNat).2.2]) ∧ w = w' := fun w => begins_any _ (by have := (l.headD 0).toNat_lt; omega) w
  obtain ⟨p, hp⟩ : ∃ p, p = pc l := ⟨_, rfl⟩
  rw [← hp]
  unfold pc at hp
  have hw4 := beg_le (l.headD 0).toNat
  have hlo := beg_lo (l.headD 0).toNat
  generalize (l.headD 0).toNat = c0 at hc0 hbg hp hw4 hlo
  generalize (beg c0).1 = want at hbg hp hw4 hlo
  generalize (beg c0).2.1 = lo0 at hbg hp hlo
  generalize (beg c0).2.2 = hi0 at hbg hp hlo
  have HP := Lib.hid hp
  have HB := Lib.hid hbg
  have HR := Lib.hid hr
  have HL := Lib.hid hlo
  clear hp hbg hr hlo hl
  go_enter Tryd.func57, Tryd.ntmps57
  go_wp2_with (go_at_call 61; refine (HB.out _).mono ?_; rintro e w' ⟨rfl, rfl⟩)
  clear hc0
  go_loop [5, 6, 7] (fun lo hi n => ∃ (k f : Nat) (y z : Nat), 1 ≤ k ∧ k ≤ l.length ∧ k + f = max want 1 ∧ lo = .int .u8 y ∧ hi = .int .u8 z ∧ n = .int .i64 k ∧ p = scan l want f k y z) (fun _ _ n => want - (intOf n).toNat)
  case atStart => exact ⟨1, want - 1, lo0, hi0, by omega, by omega, by omega, rfl, rfl, rfl, HP.out⟩
  case round =>
    obtain ⟨k, f, y, z, hk1, hkl, hkf, rfl, rfl, rfl, hsc⟩ := hrel
    by_cases hlt : k < want
    · obtain ⟨f, rfl⟩ : ∃ g, f = g + 1 := ⟨f - 1, by omega⟩
      simp only [scan] at hsc
      by_cases he : k = l.length
      · have hbd : bad l k y z = true := bad_end (by omega)
        rw [if_pos hbd] at hsc
        have hk2 : ((k : Int) == (l.length : Int)) = true := by simp [he]
        have HS := Lib.hid hsc
        clear hsc hbd he
        go_wp2
        go_ret2
        exact ⟨ret_ib (by rw [HS.out]) (by rw [HS.out]), rfl⟩
      · have hkl' : k < l.length := by omega
        have hcell := HR.out k hkl'
        have hbd := bad_at (l := l) (n := k) (lo := y) (hi := z) hkl'
        have hk2 : ((k : Int) == (l.length : Int)) = false := by simp; omega
        have hx := l[k].toNat_lt
        generalize l[k].toNat = x at hcell hbd hx
        obtain ⟨xi, hxi⟩ : ∃ xi : Int, xi = (x : Int) := ⟨_, rfl⟩
        rw [← hxi] at hcell
        obtain ⟨yi, hyi⟩ : ∃ yi : Int, yi = (y : Int) := ⟨_, rfl⟩
        obtain ⟨zi, hzi⟩ : ∃ zi : Int, zi = (z : Int) := ⟨_, rfl⟩
        rw [← hyi, ← hzi]
        by_cases h1 : x < y
        · rw [hbd, if_pos (by simp [h1])] at hsc
          have g1 : xi < yi := by omega
          have HS := Lib.hid hsc
          clear hsc hbd he h1 hxi hyi hzi
          go_wp2
          go_ret2
          exact ⟨ret_ib (by rw [HS.out]) (by rw [HS.out]), rfl⟩
        · have g1 : yi ≤ xi := by omega
          by_cases h2 : z < x
          · rw [hbd, if_pos (by simp [h2])] at hsc
            have g2 : zi < xi := by omega
            have HS := Lib.hid hsc
            clear hsc hbd he h1 h2 hxi hyi hzi
            go_wp2
            go_ret2
            exact ⟨ret_ib (by rw [HS.out]) (by rw [HS.out]), rfl⟩
          · have g2 : xi ≤ zi := by omega
            rw [hbd, if_neg (by simp; omega)] at hsc
            have HS := Lib.hid hsc
            clear hsc hbd he h1 h2 hxi hyi hzi
            go_wp2
            go_round
            case rel => exact ⟨k + 1, f, 128, 191, by omega, by omega, by omega, rfl, rfl, by go_num, HS.out⟩
            case measure => simp [intOf]; omega
    · have hf : f = 0 := by omega
      subst hf
      simp only [scan] at hsc
      have HS := Lib.hid hsc
      clear hsc
      by_cases h0 : want = 0
      · subst h0
        go_wp2
        go_ret2
        exact ⟨ret_ib (by rw [HS.out]; rfl) (by rw [HS.out]; rfl), rfl⟩
      · have h1 : 1 ≤ want := by omega
        have h2 : (0 : Int) < want := by omega
        go_wp2
        go_ret2
        exact ⟨ret_ib (by rw [HS.out]; simp; omega) (by rw [HS.out] <;> simp), rfl⟩
end Go.Proofs.YtagmjbjgphhlcaaDoor
