/- The document's list of words, and its small letters. -/
import Derived.Test.YtopmahhlebkjiaaH
namespace Go.Proofs.Ytopmahhlebkjiaa
open Go.RowKit

/-- words in a block -/
structure Words (w : World) (B : Nat) (L : List ByteArray) : Prop where
  lt : B < w.heap.size
  at_ : ∀ j (h : j < L.length), w.cell? ⟨B, j, none⟩ = some (.string L[j])
def inl (word : ByteArray) (L : List ByteArray) : Bool := L.any fun s => s.toList == word.toList
theorem inl_none {word : ByteArray} {L : List ByteArray} (h : ∀ i (hi : i < L.length), (L[i].toList == word.toList) = false) : inl word L = false := by
  unfold inl
  rw [List.any_eq_false]
  intro x hx
  obtain ⟨i, hi, rfl⟩ := List.getElem_of_mem hx
  rw [h i hi]; simp
theorem inl_at {word : ByteArray} {L : List ByteArray} (i : Nat) (hi : i < L.length) (h : (L[i].toList == word.toList) = true) : inl word L = true := by
  unfold inl
  rw [List.any_eq_true]
  exact ⟨L[i], List.getElem_mem hi, h⟩

set_option maxHeartbeats 1000000 in
theorem in_any (word : ByteArray) (B n c : Nat) (L : List ByteArray) (w : World) (h : Words w B L) (hn : L.length = n) (hb : n ≤ 1000) :
    Calls Try.prog 22 #[.string word, .slice (some ⟨B, 0, none⟩) n c] w fun e w' => e = .returned (.bool (inl word L)) ∧ w = w' := by
  have HW := Lib.hid h
  have HN := Lib.hid hn
  clear h hn
  go_enter Try.func22, Try.ntmps22
  go_wp2
  go_loop [5] (fun i => ∃ j : Nat, j ≤ n ∧ i = .int .i64 j ∧ ∀ k (hk : k < j) (hl : k < L.length), (L[k].toList == word.toList) = false) (fun i => n - (intOf i).toNat)
  case atStart => exact ⟨0, by omega, rfl, fun k hk => by omega⟩
  case round =>
    obtain ⟨j, hj, rfl, hno⟩ := hrel
    by_cases hlt : j < n
    · have hjl : j < L.length := by rw [HN.out]; exact hlt
      have hc := HW.out.at_ j hjl
      have hyes : (L[j].toList == word.toList) = true → inl word L = true := fun h => inl_at j hjl h
      have hnx : (L[j].toList == word.toList) = false → ∀ k (hk : k < j + 1) (hl : k < L.length), (L[k].toList == word.toList) = false := fun hf k hk hl => by
        by_cases e : k = j
        · subst e; exact hf
        · exact hno k (by omega) hl
      generalize L[j] = s at hc hyes hnx
      have HY := Lib.hid hyes
      have HX := Lib.hid hnx
      clear hno hyes hnx
      cases ht : (s.toList == word.toList)
      · rw [ht] at HX
        go_wp2
        go_round
        case rel => exact ⟨j + 1, by omega, by go_num, HX.out (by simp)⟩
        case measure => simp [intOf]; omega
      · rw [ht] at HY
        go_wp2
        go_ret
        exact ⟨ret_bool (HY.out (by simp)).symm, rfl⟩
    · have hn : inl word L = false := inl_none fun i hi => hno i (by have := HN.out; omega) hi
      have HX := Lib.hid hn
      clear hn hno
      go_wp2
      go_ret
      exact ⟨ret_bool HX.out.symm, rfl⟩
end Go.Proofs.Ytopmahhlebkjiaa
