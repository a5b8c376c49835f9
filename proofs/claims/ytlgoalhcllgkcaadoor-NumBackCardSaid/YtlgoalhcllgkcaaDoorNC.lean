/- The plain facts for NumBack: what was written is read back, noughts ahead, letters large; a row of bytes in memory. -/
import Derived.Test.YtlgoalhcllgkcaaDoorNW
namespace Go.Proofs.YtlgoalhcllgkcaaDoor
open Go.ChangeShapes Go.WideShapes Go.ChangeAt Go.RowKit
open Go.ChangeMaps (open_string shut_string)

/-- a letter from a to f made large -/
def up (c : UInt8) : UInt8 := if 97 ≤ c.toNat ∧ c.toNat ≤ 102 then UInt8.ofNat (c.toNat - 97 + 65) else c
theorem up_hd : ∀ i : Fin 16, dg ((up (hd i.val)).toNat : Int) = i.val := by decide +kernel
theorem up_hd' (i : Nat) (h : i < 16) : dg ((up (hd i)).toNat : Int) = i := up_hd ⟨i, h⟩
theorem hd_dg : ∀ i : Fin 16, dg ((hd i.val).toNat : Int) = i.val := by decide +kernel
theorem hd_dg' (i : Nat) (h : i < 16) : dg ((hd i).toNat : Int) = i := hd_dg ⟨i, h⟩

theorem hexl_val (z : List UInt8) (hz : good 16 z) (hv : val 16 z = 0) (n : Nat) : good 16 (z ++ (hexl n).map up) ∧ val 16 (z ++ (hexl n).map up) = n := by
  induction n using Nat.strongRecOn with
  | ind n ih =>
    by_cases h : n < 16
    · rw [hexl_small n h]
      simp only [List.map_cons, List.map_nil]
      refine ⟨(good_snoc ..).2 ⟨hz, by rw [up_hd' n h]; omega, by rw [up_hd' n h]; omega⟩, ?_⟩
      rw [val_snoc, hv, up_hd' n h]; omega
    · obtain ⟨h1, h2⟩ := ih (n / 16) (by omega)
      have hm : n % 16 < 16 := by omega
      rw [hexl_big n h]
      simp only [List.map_append, List.map_cons, List.map_nil]
      rw [← List.append_assoc]
      refine ⟨(good_snoc ..).2 ⟨h1, by rw [up_hd' _ hm]; omega, by rw [up_hd' _ hm]; omega⟩, ?_⟩
      rw [val_snoc, h2, up_hd' _ hm]; omega
theorem decl_val (z : List UInt8) (hz : good 10 z) (hv : val 10 z = 0) (n : Nat) : good 10 (z ++ decl n) ∧ val 10 (z ++ decl n) = n := by
  induction n using Nat.strongRecOn with
  | ind n ih =>
    by_cases h : n < 10
    · rw [decl_small n h]
      refine ⟨(good_snoc ..).2 ⟨hz, by rw [hd_dg' n (by omega)]; omega, by rw [hd_dg' n (by omega)]; omega⟩, ?_⟩
      rw [val_snoc, hv, hd_dg' n (by omega)]; omega
    · obtain ⟨h1, h2⟩ := ih (n / 10) (by omega)
      have hm : n % 10 < 16 := by omega
      rw [decl_big n h, ← List.append_assoc]
      refine ⟨(good_snoc ..).2 ⟨h1, by rw [hd_dg' _ hm]; omega, by rw [hd_dg' _ hm]; omega⟩, ?_⟩
      rw [val_snoc, h2, hd_dg' _ hm]; omega
theorem zeros_val (base : Int) (hb : 1 ≤ base) (k : Nat) : good base (List.replicate k 48) ∧ val base (List.replicate k 48) = 0 := by
  induction k with
  | zero => exact ⟨fun c hc => by simp at hc, by simp [val]⟩
  | succ k ih =>
    have e : dg ((48 : UInt8).toNat : Int) = 0 := by decide
    rw [List.replicate_succ']
    refine ⟨(good_snoc ..).2 ⟨ih.1, by rw [e]; omega, by rw [e]; omega⟩, ?_⟩
    rw [val_snoc, ih.2, e]; omega
theorem decl_ne (n : Nat) : decl n ≠ [] := by
  by_cases h : n < 10
  · rw [decl_small n h]; simp
  · rw [decl_big n h]; simp
theorem hexl_ne (n : Nat) : hexl n ≠ [] := by
  by_cases h : n < 16
  · rw [hexl_small n h]; simp
  · rw [hexl_big n h]; simp
theorem back10 (k n : Nat) (hn : n < 9223372036854775808) : meant 10 (List.replicate k 48 ++ decl n) = ((n : Int), 0) := by
  obtain ⟨h1, h2⟩ := decl_val _ (zeros_val 10 (by decide) k).1 (zeros_val 10 (by decide) k).2 n
  rw [meant_ok 10 _ (by simp [decl_ne]) h1 (by rw [h2]; unfold most; omega), h2]
theorem back16 (k n : Nat) (hn : n < 9223372036854775808) : meant 16 (List.replicate k 48 ++ (hexl n).map up) = ((n : Int), 0) := by
  obtain ⟨h1, h2⟩ := hexl_val _ (zeros_val 16 (by decide) k).1 (zeros_val 16 (by decide) k).2 n
  rw [meant_ok 16 _ (by simp [hexl_ne]) h1 (by rw [h2]; unfold most; omega), h2]
theorem hexl_len (n k : Nat) (h : n < 16 ^ (k + 1)) : (hexl n).length ≤ k + 1 := by
  induction k generalizing n with
  | zero => rw [hexl_small n (by simpa using h)]; simp
  | succ k ih =>
    by_cases h16 : n < 16
    · rw [hexl_small n h16]; simp
    · rw [hexl_big n h16]
      have := ih (n / 16) (Nat.div_lt_of_lt_mul (by rw [Nat.mul_comm, ← Nat.pow_succ]; exact h))
      simp; omega
theorem decl_len (n k : Nat) (h : n < 10 ^ (k + 1)) : (decl n).length ≤ k + 1 := by
  induction k generalizing n with
  | zero => rw [decl_small n (by simpa using h)]; simp
  | succ k ih =>
    by_cases h10 : n < 10
    · rw [decl_small n h10]; simp
    · rw [decl_big n h10]
      have := ih (n / 10) (Nat.div_lt_of_lt_mul (by rw [Nat.mul_comm, ← Nat.pow_succ]; exact h))
      simp; omega

/-- a row of bytes at the head of a block -/
def BRow (B : Nat) (w : World) (l : List UInt8) : Prop := ∀ j (h : j < l.length), w.cell? ⟨B, j, none⟩ = some (.int .u8 (l[j]).toNat) ∧ w.frozen? ⟨B, j, none⟩ = false
theorem BRow.start (w : World) (s : ByteArray) (cap : Nat) : BRow w.heap.size (w.drew.alloc (.cells (bytesRow s cap) 5 ((bytesRow s cap).size, (bytesRow s cap).size + 1))) s.data.toList := by
  intro j hj
  have hj' : j < s.data.size := by simpa using hj
  have hb : (w.drew.alloc (.cells (bytesRow s cap) 5 ((bytesRow s cap).size, (bytesRow s cap).size + 1))).heap[w.heap.size]? = some (.cells (bytesRow s cap) 5 ((bytesRow s cap).size, (bytesRow s cap).size + 1)) := by
    show (w.heap.push _)[w.heap.size]? = _
    simp
  constructor
  · unfold World.cell?
    simp only [hb]
    unfold bytesRow
    rw [Array.getElem?_append_left (by simpa using hj'), Array.getElem?_eq_getElem (by simpa using hj')]
    simp
  · unfold World.frozen?
    simp only [hb]
    have : j < (bytesRow s cap).size := by have hsz : s.size = s.data.size := rfl; unfold bytesRow; rw [Array.size_append, Array.size_map]; omega
    simp only [decide_eq_false_iff_not, Bool.and_eq_false_iff]; omega
theorem BRow.set {B : Nat} {w : World} {l : List UInt8} (h : BRow B w l) (k : Nat) (hk : k < l.length) (c : UInt8) : BRow B (w.setCell ⟨B, k, none⟩ (.int .u8 c.toNat)) (l.set k c) := by
  intro j hj
  have hj' : j < l.length := by simpa using hj
  refine ⟨?_, by rw [World.frozen?_setCell]; exact (h j hj').2⟩
  by_cases e : j = k
  · subst e
    rw [World.cell?_setCell_same _ _ _ (h j hj').1]; simp
  · rw [World.cell?_setCell_other _ _ _ _ (by simp), (h j hj').1]
    simp [Ne.symm e]
def upTo (l : List UInt8) (k : Nat) : List UInt8 := (l.take k).map up ++ l.drop k
theorem upTo_len (l : List UInt8) (k : Nat) : (upTo l k).length = l.length := by
  unfold upTo; simp; omega
theorem upTo_at (l : List UInt8) (k : Nat) (hk : k < l.length) : (upTo l k)[k]'(by rw [upTo_len]; exact hk) = l[k] := by
  unfold upTo
  rw [List.getElem_append_right (by simp; omega)]
  simp; congr 1; omega
theorem upTo_step (l : List UInt8) (k : Nat) (hk : k < l.length) : upTo l (k + 1) = (upTo l k).set k (up l[k]) := by
  unfold upTo
  apply List.ext_getElem
  · simp; omega
  · intro i h1 h2
    simp only [List.getElem_set, List.getElem_append, List.length_map, List.length_take, List.getElem_map, List.getElem_take, List.getElem_drop]
    by_cases e : k = i
    · subst e
      rw [dif_pos (by omega), if_pos rfl]
    · by_cases hi : i < k
      · have a1 : i < min (k + 1) l.length := by omega
        have a2 : i < min k l.length := by omega
        simp [e, a1, a2]
      · have a1 : ¬ i < min (k + 1) l.length := by omega
        have a2 : ¬ i < min k l.length := by omega
        simp only [e, a1, a2, dif_neg, if_neg, not_false_iff]
        congr 1
        omega
theorem upTo_all (l : List UInt8) : upTo l l.length = l.map up := by unfold upTo; simp
end Go.Proofs.YtlgoalhcllgkcaaDoor
