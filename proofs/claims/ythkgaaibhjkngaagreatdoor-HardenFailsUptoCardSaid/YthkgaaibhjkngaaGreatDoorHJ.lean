/- Harden: a right response's text. -/
import Derived.Test.YthkgaaibhjkngaaGreatDoorHI
import Derived.Deep.RegionHeld3
set_option linter.unusedVariables false
namespace Go.Proofs.YthkgaaibhjkngaaGreatDoor
open Go.RowKit

def bnd (X : ByteArray) : ByteArray := if 2048 < X.size then ⟨#[]⟩ else X
def resT (S rs FT : ByteArray) : ByteArray := (⟨#[72, 84, 84, 80, 47, 49, 46, 49, 32]⟩ : ByteArray) ++ S ++ (⟨#[32]⟩ : ByteArray) ++ rs ++ (⟨#[13, 10]⟩ : ByteArray) ++ FT ++ (⟨#[13, 10]⟩ : ByteArray)
theorem decDigits_len (n : Nat) (h : n < 10 ^ 19) : (Lib.decDigits n).length ≤ 19 := by
  have key : ∀ k n, n < 10 ^ (k + 1) → (Lib.decDigits n).length ≤ k + 1 := by
    intro k
    induction k with
    | zero => intro n h; rw [Lib.decDigits_one (by simpa using h)]; simp
    | succ k ih =>
      intro n h
      by_cases h10 : n < 10
      · rw [Lib.decDigits_one h10]; simp
      · rw [Lib.decDigits, dif_neg h10, List.length_append]
        have := ih (n / 10) (by rw [Nat.pow_succ] at h; omega)
        simp only [List.length_cons, List.length_nil]; omega
  exact key 18 n h
theorem dstr_len (z : Int) (h1 : z ≤ 9223372036854775807) : (dstr z).length ≤ 19 := decDigits_len _ (by omega)
theorem mk_size (l : List UInt8) : (mk l).size = l.length := by simp only [mk, size_mk]
theorem fText_size (l : AL) : (fText l).size ≤ asz l := by
  have := txtF_len l
  unfold fText
  split
  · rw [mk_size]; exact this
  · exact Nat.zero_le _

set_option maxHeartbeats 8000000 in
set_option maxRecDepth 100000 in
theorem rtext_any (st : Int) (rs : ByteArray) (l : AL) (a : Option Addr) (n c : Nat) (w : World) (hn : l.length = n) (hs : SrcA w a c l) (hz : asz l ≤ 16777216) (h0 : 200 ≤ st) (h5 : st ≤ 599) (hr : (rgt l).2 = 0) (hc : ctl rs.data.toList = -1) (hrs : rs.size ≤ 1000) (ht : TabP w) :
    Calls Tryz.prog 10 #[.agg #[.int .i64 st, .string rs, .slice a n c]] w fun e w' => e = .returned (.string (bnd (resT (mk (dstr st)) rs (fText l)))) ∧ Below w.heap.size w w' := by
  have hrg := fun wx (hb : Below w.heap.size w wx) => right_any l a n c wx hn (hs.below (Nat.le_refl _) hb) (by omega)
  have htx := fun wx (hb : Below w.heap.size w wx) => ftext_any l a n c wx hn (hs.below (Nat.le_refl _) hb) (by omega)
  have hdg := fun wx (hb : Below w.heap.size w wx) => digits_any st (by omega) (by omega) wx (ht.below hb)
  have hst := fun wx => status_any st wx
  have e1 : (decide (200 ≤ st) && decide (st ≤ 599)) = true := by simp [h0, h5]
  have hct := fun wx => control_any rs wx (by omega)
  rw [hc] at hct
  rw [e1] at hst
  have hft := fText_size l
  have hds := dstr_len st (by omega)
  rw [← mk_size] at hds
  obtain ⟨r, hrr⟩ : ∃ r, rgt l = r := ⟨_, rfl⟩
  rw [hrr] at hrg hr
  obtain ⟨r1, r2⟩ := r
  simp only at hr
  subst hr
  generalize fText l = FT at htx hft ⊢
  generalize mk (dstr st) = S at hdg hds ⊢
  have HBA : Hid (Below w.heap.size w (w.alloc (.cells #[.int .i64 st, .string rs, .slice a n c] 26))) := Lib.hid ((Below.refl _ _).alloc (Nat.le_refl _) _)
  have HR : Hid (∀ wx, Below w.heap.size w wx → Calls Tryz.prog 37 #[.slice a n c] wx fun e w' => e = .returned (.tuple #[.int .i64 r1, .int .i64 0]) ∧ Below wx.heap.size wx w') := Lib.hid hrg
  have HTX := Lib.hid htx
  have HDG := Lib.hid hdg
  have HST := Lib.hid hst
  have HCT := Lib.hid hct
  obtain ⟨O, hO⟩ : ∃ O, O = bnd (resT S rs FT) := ⟨_, rfl⟩
  have HO := Lib.hid hO
  have hbd : ∀ wx, Calls Tryz.prog 41 #[.string ((⟨#[72, 84, 84, 80, 47, 49, 46, 49, 32]⟩ : ByteArray) ++ S ++ (⟨#[32]⟩ : ByteArray) ++ rs ++ (⟨#[13, 10]⟩ : ByteArray) ++ FT ++ (⟨#[13, 10]⟩ : ByteArray))] wx fun e w' => e = .returned (.string O) ∧ wx = w' := fun wx => by rw [hO]; exact bounded_any _ wx
  have HBD := Lib.hid hbd
  rw [← hO]
  clear hbd
  have g1 : ¬ 9223372036854775807 < 9 + S.size := by omega
  have g2 : ¬ 9223372036854775807 < 9 + S.size + 1 := by omega
  have g3 : ¬ 9223372036854775807 < 9 + S.size + 1 + rs.size := by omega
  have g4 : ¬ 9223372036854775807 < 9 + S.size + 1 + rs.size + 2 := by omega
  have g5 : ¬ 9223372036854775807 < 9 + S.size + 1 + rs.size + 2 + FT.size := by omega
  have g6 : ¬ 9223372036854775807 < 9 + S.size + 1 + rs.size + 2 + FT.size + 2 := by omega
  clear hrg htx hdg hst hct hs hn hz hrr e1 ht hc h0 h5 hO
  go_enter Tryz.func10, Tryz.ntmps10
  go_wp2_with fail
  refine (HR.out _ HBA.out).mono ?_; rintro e w1 ⟨rfl, hb⟩
  have p0 : w1.cell? ⟨w.heap.size, 0, none⟩ = some (.int .i64 st) := (res_cells w w1 _ _ hb 0).1.1
  have p1 : w1.cell? ⟨w.heap.size, 1, none⟩ = some (.string rs) := (res_cells w w1 _ _ hb 1).1.1
  have p2 : w1.cell? ⟨w.heap.size, 2, none⟩ = some (.slice a n c) := (res_cells w w1 _ _ hb 2).1.1
  have hz1 : w.heap.size < w1.heap.size := by have := hb.size; simp at this; omega
  have HB1 := Lib.hid (HBA.out.trans (hb.mono HBA.out.size))
  clear hb
  go_wp2_with fail
  refine (HST.out _).mono ?_; rintro e w2 ⟨rfl, rfl⟩
  go_wp2_with fail
  refine (HCT.out _).mono ?_; rintro e w2 ⟨rfl, rfl⟩
  go_wp2_with fail
  have KT : Hid (∀ x y : World, (Below w1.heap.size w1 x ∧ x.cell? ⟨w.heap.size, 0, none⟩ = some (.int .i64 st) ∧ x.cell? ⟨w.heap.size, 1, none⟩ = some (.string rs) ∧ x.cell? ⟨w.heap.size, 2, none⟩ = some (.slice a n c)) → Below x.heap.size x y →
      (Below w1.heap.size w1 y ∧ y.cell? ⟨w.heap.size, 0, none⟩ = some (.int .i64 st) ∧ y.cell? ⟨w.heap.size, 1, none⟩ = some (.string rs) ∧ y.cell? ⟨w.heap.size, 2, none⟩ = some (.slice a n c))) := Lib.hid fun x y ⟨h1, h2, h3, h4⟩ hb =>
    ⟨h1.trans (hb.mono h1.size), (hb.cell (p := ⟨w.heap.size, 0, none⟩) (Nat.lt_of_lt_of_le hz1 h1.size)).trans h2, (hb.cell (p := ⟨w.heap.size, 1, none⟩) (Nat.lt_of_lt_of_le hz1 h1.size)).trans h3, (hb.cell (p := ⟨w.heap.size, 2, none⟩) (Nat.lt_of_lt_of_le hz1 h1.size)).trans h4⟩
  have KD : Hid (Below w1.heap.size w1 w1.drew ∧ w1.drew.cell? ⟨w.heap.size, 0, none⟩ = some (.int .i64 st) ∧ w1.drew.cell? ⟨w.heap.size, 1, none⟩ = some (.string rs) ∧ w1.drew.cell? ⟨w.heap.size, 2, none⟩ = some (.slice a n c)) := Lib.hid ⟨(Below.refl _ _).drew, p0, p1, p2⟩
  have GD := Lib.hid fun wx (h : Below w1.heap.size w1 wx ∧ wx.cell? ⟨w.heap.size, 0, none⟩ = some (.int .i64 st) ∧ wx.cell? ⟨w.heap.size, 1, none⟩ = some (.string rs) ∧ wx.cell? ⟨w.heap.size, 2, none⟩ = some (.slice a n c)) => HDG.out wx (HB1.out.trans (h.1.mono HB1.out.size))
  have GT := Lib.hid fun wx (h : Below w1.heap.size w1 wx ∧ wx.cell? ⟨w.heap.size, 0, none⟩ = some (.int .i64 st) ∧ wx.cell? ⟨w.heap.size, 1, none⟩ = some (.string rs) ∧ wx.cell? ⟨w.heap.size, 2, none⟩ = some (.slice a n c)) => HTX.out wx (HB1.out.trans (h.1.mono HB1.out.size))
  have KE := Lib.hid fun wx (h : Below w1.heap.size w1 wx ∧ wx.cell? ⟨w.heap.size, 0, none⟩ = some (.int .i64 st) ∧ wx.cell? ⟨w.heap.size, 1, none⟩ = some (.string rs) ∧ wx.cell? ⟨w.heap.size, 2, none⟩ = some (.slice a n c)) => HB1.out.trans (h.1.mono HB1.out.size)
  go_region_held3 (fun w' => Below w1.heap.size w1 w' ∧ w'.cell? ⟨w.heap.size, 0, none⟩ = some (.int .i64 st) ∧ w'.cell? ⟨w.heap.size, 1, none⟩ = some (.string rs) ∧ w'.cell? ⟨w.heap.size, 2, none⟩ = some (.slice a n c)) (first | exact KD.out | exact KT.out _ _ (by assumption) (by assumption) | assumption)
    (first
      | (go_at_call 45; refine (GD.out _ ?_).mono ?_; assumption; rintro e w' ⟨rfl, hb⟩)
      | (go_at_call 42; refine (GT.out _ ?_).mono ?_; assumption; rintro e w' ⟨rfl, hb⟩)
      | (go_at_call 41; refine (HBD.out _).mono ?_; rintro e w' ⟨rfl, rfl⟩))
  go_wp2
  go_ret
  exact ⟨rfl, KE.out _ (by assumption)⟩
end Go.Proofs.YthkgaaibhjkngaaGreatDoor
