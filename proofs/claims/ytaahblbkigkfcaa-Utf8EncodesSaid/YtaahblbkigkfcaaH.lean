/- No byte is lost, and few are made: the walk. -/
import Derived.Test.YtaahblbkigkfcaaG
set_option linter.unusedVariables false
namespace Go.Proofs.Ytaahblbkigkfcaa
open Go.RowKit

theorem scan_le (l : List UInt8) (want : Nat) : ∀ f n lo hi, n + f = max want 1 → (scan l want f n lo hi).1 ≤ max want 1
  | 0, n, lo, hi, h => by simp only [scan]; omega
  | f + 1, n, lo, hi, h => by
    simp only [scan]
    split
    · show n ≤ _; omega
    · exact scan_le l want f (n + 1) 128 191 (by omega)
theorem pc_le4 (l : List UInt8) : (pc l).1 ≤ 4 := by
  unfold pc
  have h4 := beg_le (l.headD 0).toNat
  have := scan_le l (beg (l.headD 0).toNat).1 ((beg (l.headD 0).toNat).1 - 1) 1 (beg (l.headD 0).toNat).2.1 (beg (l.headD 0).toNat).2.2 (by omega)
  omega
theorem rns_len (l : List UInt8) : (rns l).length ≤ l.length ∧ l.length ≤ 4 * (rns l).length := by
  induction l using len_ind with
  | _ l ih =>
    by_cases h : l = []
    · subst h; simp [rns_nil]
    · have hb := pc_bd l h
      have h4 := pc_le4 l
      rw [rns_cons l h, List.length_cons]
      have := ih (l.drop (pc l).1) (by simp only [List.length_drop]; omega)
      simp only [List.length_drop] at this; omega

theorem own_nums {w : World} {base n : Nat} {v : Value} {l : List Nat} (h : w.ownsRow base 21 1 v n (l.map c32)) : ∃ a c, v = .slice a l.length c ∧ n = l.length ∧ Nums w a (l.map fun n : Nat => (n : Int)) ∧ l.length ≤ c := by
  have hn : n = l.length := by have := h.1; rw [List.length_map] at this; omega
  subst hn
  rcases h.2 with ⟨rfl, h0⟩ | ⟨g, cap, cur, rfl, hb, hg, h1, h2, h3, h4⟩
  · have : l = [] := List.eq_nil_of_length_eq_zero h0
    subst this
    exact ⟨none, 0, rfl, rfl, fun j hj => by simp at hj, by simp⟩
  · refine ⟨_, cap, rfl, rfl, fun j hj => ⟨g, 0, rfl, (Array.getElem?_eq_some_iff.1 hg).1, ?_⟩, h1⟩
    have hj' : j < l.length := by simpa using hj
    have := h.cells (g := g) rfl j (.int .i32 l[j]) (by simp [c32, hj'])
    rw [Lib.add_plain] at this
    rw [this]; simp

set_option maxHeartbeats 4000000 in
theorem many_walk (w : World) (a1 : Option Addr) (c1 : Nat) (la : List UInt8) (h1 : Src w a1 c1 la) (hl1 : la.length ≤ 1048576) :
    Calls Try.prog 10 #[.slice a1 la.length c1] w fun e w' => e = .returned (.bool true) ∧ Below w.heap.size w w' := by
  have hrun : ∀ wx, Below w.heap.size w wx → Calls Try.prog 14 #[.slice a1 la.length c1] wx fun e w' => ∃ a c, e = .returned (.slice a (rns la).length c) ∧ Nums w' a ((rns la).map fun n : Nat => (n : Int)) ∧ Below wx.heap.size wx w' := fun wx hb => by
    refine (runes_any a1 c1 la wx (h1.below hb).bytes h1.cap (by omega) h1.big).mono ?_; rintro e w' ⟨v, rfl, ho, hb2⟩
    obtain ⟨a, c, rfl, _, hn, _⟩ := own_nums ho
    exact ⟨a, c, rfl, hn, hb2⟩
  have hdec : ∀ wx, Below w.heap.size w wx → Calls Try.prog 13 #[.slice a1 la.length c1] wx fun e w' => e = .returned (.string ⟨(dec la).toArray⟩) ∧ Below wx.heap.size wx w' := fun wx hb => dec_any a1 c1 la wx (h1.below hb).bytes h1.cap (by omega) h1.big
  have henc : ∀ wx a c, Nums wx a ((rns la).map fun n : Nat => (n : Int)) → Calls Try.prog 21 #[.slice a (rns la).length c] wx fun e w' => e = .returned (.string ⟨(dec la).toArray⟩) ∧ Below wx.heap.size wx w' := fun wx a c hn => by
    have := encode_any a c ((rns la).map fun n : Nat => (n : Int)) wx hn (by have := rns_len la; simp; omega)
    rw [encs_rns, List.length_map] at this
    exact this
  have hrl := rns_len la
  have hdl : (ByteArray.mk (dec la).toArray).size ≤ 3 * la.length := by have := dec_len la; show (dec la).toArray.size ≤ _; simpa using this
  have HNm := Lib.hid (show True from trivial)
  generalize (rns la).map (fun n : Nat => (n : Int)) = RL at hrun henc
  generalize (rns la).length = R at hrun henc hrl
  generalize (ByteArray.mk (dec la).toArray) = X at hdec henc hdl
  generalize la.length = n at hrun hdec hrl hdl hl1
  obtain ⟨hr1, hr2⟩ := hrl
  have HR := Lib.hid hrun
  have HD := Lib.hid hdec
  have HE := Lib.hid henc
  clear hrun hdec henc h1
  go_enter Try.func10, Try.ntmps10
  go_wp2_with fail
  refine (shown_any _).mono ?_; rintro e w1 ⟨rfl, hb⟩
  have HB := Lib.hid hb
  clear hb
  go_wp2_with fail
  refine (HR.out _ HB.out).mono ?_; rintro e w2 ⟨a, c, rfl, hn, hb⟩
  have HB2 := Lib.hid (HB.out.trans (hb.mono HB.out.size))
  have HN := Lib.hid hn
  clear hb hn
  go_wp2_with fail
  refine (HD.out _ HB2.out).mono ?_; rintro e w3 ⟨rfl, hb⟩
  have HB3 := Lib.hid (HB2.out.trans (hb.mono HB2.out.size))
  have HN3 := Lib.hid (HN.out.below (Nat.le_refl _) hb)
  clear hb
  have k1 : (R : Int) ≤ n := by omega
  have k2 : (n : Int) ≤ 4 * R := by omega
  have k3 : (X.size : Int) ≤ 3 * n := by omega
  go_wp2_with fail
  refine (HE.out _ _ _ HN3.out).mono ?_; rintro e w4 ⟨rfl, hb⟩
  have HB4 := Lib.hid (HB3.out.trans (hb.mono HB3.out.size))
  clear hb
  go_wp2
  go_ret
  exact ⟨rfl, HB4.out⟩
end Go.Proofs.Ytaahblbkigkfcaa
