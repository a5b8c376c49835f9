/- No byte is lost, and few are made: the walk. -/
import Derived.Test.YtagmjbjgphhlcaaDoorG
set_option linter.unusedVariables false
namespace Go.Proofs.YtagmjbjgphhlcaaDoor
open Go.RowKit

theorem scan_le (l : List UInt8) (want : Nat) : ∀ f n lo hi, n + f = max want 1 → (scan l want f n lo hi).1 ≤ max want 1
  | 0, n, lo, hi, h => by simp only [scan]; omega
  | f + 1, n, lo, hi, h => by
    simp only [scan]
    split
    · show n ≤ _; omega
    · exact scan_le l want f (n + 1) 128 191 (by omega)
theorem pc_le4 (l : List UInt8) : (pc l).1 ≤ 4 := by
  unfold pc
  have h4 := beg_le (l.headD 0).toNat
  have := scan_le l (beg (l.headD 0).toNat).1 ((beg (l.headD 0).toNat).1 - 1) 1 (beg (l.headD 0).toNat).2.1 (beg (l.headD 0).toNat).2.2 (by omega)
  omega
theorem rns_len (l : List UInt8) : (rns l).length ≤ l.length ∧ l.length ≤ 4 * (rns l).length := by
  induction l using len_ind with
  | _ l ih =>
    by_cases h : l = []
    · subst h; simp [rns_nil]
    · have hb := pc_bd l h
      have h4 := pc_le4 l
      rw [rns_cons l h, List.length_cons]
      have := ih (l.drop (pc l).1) (by simp only [List.length_drop]; omega)
      simp only [List.length_drop] at this; omega

theorem own_nums {w : World} {base n : Nat} {v : Value} {l : List Nat} (h : w.ownsRow base 21 1 v n (l.map c32)) : ∃ a c, v = .slice a l.length c ∧ n = l.length ∧ Nums w a (l.map fun n : Nat => (n : Int)) ∧ l.length ≤ c := by
  have hn : n = l.length := by have := h.1; rw [List.length_map] at this; omega
  subst hn
  rcases h.2 with ⟨rfl, h0⟩ | ⟨g, cap, cur, rfl, hb, hg, h1, h2, h3, h4⟩
  · have : l = [] := List.eq_nil_of_length_eq_zero h0
    subst this
    exact ⟨none, 0, rfl, rfl, fun j hj => by simp at hj, by simp⟩
  · refine ⟨_, cap, rfl, rfl, fun j hj => ⟨g, 0, rfl, (Array.getElem?_eq_some_iff.1 hg).1, ?_⟩, h1⟩
    have hj' : j < l.length := by simpa using hj
    have := h.cells (g := g) rfl j (.int .i32 l[j]) (by simp [c32, hj'])
    rw [Lib.add_plain] at this
    rw [this]; simp

end Go.Proofs.YtagmjbjgphhlcaaDoor
