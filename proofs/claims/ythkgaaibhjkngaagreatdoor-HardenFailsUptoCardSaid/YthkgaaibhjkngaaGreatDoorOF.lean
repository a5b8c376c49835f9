/- What is handed in: fields and texts. -/
import Derived.Test.YthkgaaibhjkngaaGreatDoorLL
import Derived.Test.YthkgaaibhjkngaaGreatDoorFI
import Derived.Deep.SlicePairs
import Derived.SliceStrings
import Derived.Deep.Strs
set_option linter.unusedVariables false
namespace Go.Proofs.YthkgaaibhjkngaaGreatDoor
open Go.ChangeShapes Go.WideShapes Go.ChangeAt Go.RowKit

abbrev PL := List (List UInt8 × List UInt8)
theorem bulk_flds {H : Type} (ps : PL) : asz (ps.map mk2) ≤ 4 * Rows.uptoBulkAll (ps.map fun p => (DataW.agg [DataW.lit (.string p.1), DataW.lit (.string p.2)] : DataW H)) := by
  induction ps with
  | nil => simp [asz]
  | cons p r ih =>
    have e1 : (mk2 p).1.size = p.1.length := size_mk _
    have e2 : (mk2 p).2.size = p.2.length := size_mk _
    simp only [asz, List.map_cons, Rows.uptoBulkAll, Rows.uptoBulk, e1, e2] at ih ⊢; omega
theorem flds_in {H : Type} {enc : TypeId × Value → H} {W : World} {v : Value} {d : DataW H} {p : List MemPlace} (h0 : DataW.Trod enc Tryz.prog W 0 (fun _ => true) true 22 v d p) (hv : ∃ a n c, v = .slice a n c) (hsm : Rows.uptoBulk d ≤ 1048576) :
    ∃ a c, ∃ l : AL, v = .slice a (List.length l) c ∧ SrcA W a c l ∧ asz l ≤ 4194304 := by
  obtain ⟨a0, n0, c0, rfl⟩ := hv
  obtain ⟨fuel, hf⟩ := h0
  have h : DataW.trod enc Tryz.prog W 0 (fun _ => true) true fuel 22 [.slice a0 n0 c0] = some (d, p) := by simpa [Value.cells] using hf
  rcases Go.Deep.open_slice_pairs Tryz.underlying22 Tryz.underlying37 (by kernel_rfl) rfl rfl (by kernel_rfl) (by kernel_rfl) h with ⟨hcs, hx⟩ | ⟨a, len, cap, m, n, V0, V1, D0, D1, P0, P1, hcs, hb, hl, hm, hmm, hx, hi⟩
  · have e : Value.slice a0 n0 c0 = .slice none 0 0 := by simpa using hcs
    rw [e]
    exact ⟨none, 0, [], rfl, ⟨fun j hj => by simp at hj, by simp, fun _ => ⟨rfl, rfl⟩⟩, by simp [asz]⟩
  · have e : Value.slice a0 n0 c0 = .slice (some a) len cap := by simpa using hcs
    rw [e]
    have hmc : m = cap := by simpa using hmm
    have hel : ∀ i : Nat, ∃ q : ByteArray × ByteArray, i < len → W.cell? (a.add (i * 2)) = some (.string q.1) ∧ W.cell? (a.add (i * 2 + 1)) = some (.string q.2) ∧ D0 i = .lit (.string q.1.data.toList) ∧ D1 i = .lit (.string q.2.data.toList) := by
      intro i
      by_cases hil : i < len
      · obtain ⟨hc0, hc1, ht0, ht1⟩ := hi i (by omega)
        obtain ⟨s0, e0, y0, _⟩ := DataW.trod_string Tryz.underlying9 ht0
        obtain ⟨s1, e1, y1, _⟩ := DataW.trod_string Tryz.underlying9 ht1
        simp only [List.cons.injEq, and_true] at e0 e1
        rw [e0] at hc0
        rw [e1] at hc1
        simp only [Prod.mk.injEq] at y0 y1
        exact ⟨(s0, s1), fun _ => ⟨hc0, hc1, y0.1, y1.1⟩⟩
      · exact ⟨(ByteArray.empty, ByteArray.empty), fun h => absurd h hil⟩
    obtain ⟨Q, hQ⟩ := Classical.axiomOfChoice hel
    obtain ⟨ps, hps⟩ : ∃ ps : PL, ps = (List.range len).map fun i => ((Q i).1.data.toList, (Q i).2.data.toList) := ⟨_, rfl⟩
    have hlen : ps.length = len := by rw [hps]; simp
    have hlen2 : (ps.map mk2).length = len := by rw [List.length_map, hlen]
    refine ⟨some a, cap, ps.map mk2, by rw [hlen2], ⟨fun j hj => ?_, by rw [hlen2]; exact hl, (fun h => by cases h)⟩, ?_⟩
    · have hj' : j < len := by rw [← hlen2]; exact hj
      obtain ⟨h0, h1, _⟩ := hQ j hj'
      obtain ⟨h00, _, _⟩ := hQ 0 (by omega)
      obtain ⟨b, off, spot⟩ := a
      have hspot : spot = none := by simpa [Addr.add] using World.cell?_spot h00
      subst hspot
      have hb : b < W.heap.size := by
        rcases Nat.lt_or_ge b W.heap.size with h' | h'
        · exact h'
        · unfold World.cell? at h00
          simp only [Addr.add] at h00
          simp [Array.getElem?_eq_none h'] at h00
      have hpj : (ps.map mk2)[j] = Q j := by simp [hps, mk2, mk]
      refine ⟨b, off, rfl, hb, ?_, ?_⟩
      · rw [← Go.WideShapes.add_plain, h0, hpj]
      · rw [Nat.add_assoc, ← Go.WideShapes.add_plain, h1, hpj]
    · have hb := bulk_flds (H := H) ps
      have he : (ps.map fun p => (DataW.agg [DataW.lit (.string p.1), DataW.lit (.string p.2)] : DataW H)) = (List.range len).map fun i => .agg [D0 i, D1 i] := by
        rw [hps, List.map_map]
        refine List.map_congr_left fun i hi => ?_
        obtain ⟨_, _, y0, y1⟩ := hQ i (List.mem_range.1 hi)
        rw [y0, y1]; rfl
      rw [he] at hb
      simp only [Prod.mk.injEq] at hx
      rw [hx.1] at hsm
      simp only [Rows.uptoBulk] at hsm
      omega
theorem bulk_strs {H : Type} (ss : List ByteArray) : bsz ss ≤ 2 * Rows.uptoBulkAll ((Go.ChangeShapes.strs ss : List (DataW H))) := by
  induction ss with
  | nil => simp [bsz]
  | cons s r ih =>
    have e : s.data.toList.length = s.size := by simp
    simp only [bsz, Go.ChangeShapes.strs, List.map_cons, Rows.uptoBulkAll, Rows.uptoBulk, e] at ih ⊢; omega
theorem strs_in {H : Type} {enc : TypeId × Value → H} {W : World} {v : Value} {d : DataW H} {p : List MemPlace} (h0 : DataW.Trod enc Tryz.prog W 0 (fun _ => true) true 75 v d p) (hv : ∃ a n c, v = .slice a n c) (hsm : Rows.uptoBulk d ≤ 1048576) :
    ∃ a c, ∃ l : List ByteArray, v = .slice a (List.length l) c ∧ SrcS W a c l ∧ bsz l ≤ 4194304 := by
  obtain ⟨a0, n0, c0, rfl⟩ := hv
  obtain ⟨fuel, hf⟩ := h0
  have h : DataW.trod enc Tryz.prog W 0 (fun _ => true) true fuel 75 [.slice a0 n0 c0] = some (d, p) := by simpa [Value.cells] using hf
  rcases open_strings Tryz.underlying75 Tryz.underlying9 (by kernel_rfl) h with ⟨hcs, hx⟩ | ⟨a, len, cap, ss, hcs, hb, hl, hm, hmm, hx, hcell, hsz⟩
  · have e : Value.slice a0 n0 c0 = .slice none 0 0 := by simpa using hcs
    rw [e]
    exact ⟨none, 0, [], rfl, ⟨fun j hj => by simp at hj, by simp, fun _ => ⟨rfl, rfl⟩⟩, by simp [bsz]⟩
  · have e : Value.slice a0 n0 c0 = .slice (some a) len cap := by simpa using hcs
    rw [e]
    have hmc : ss.length = cap := by simpa using hmm
    have hlen : (ss.take len).length = len := by rw [List.length_take]; omega
    refine ⟨some a, cap, ss.take len, by rw [hlen], ⟨fun j hj => ?_, by rw [hlen]; exact hl, (fun h => by cases h)⟩, ?_⟩
    · have hj' : j < len := by rw [← hlen]; exact hj
      have h00 := hcell 0 (by omega)
      have hj0 := hcell j (by omega)
      obtain ⟨b, off, spot⟩ := a
      have hspot : spot = none := by simpa [Addr.add] using World.cell?_spot h00
      subst hspot
      have hb : b < W.heap.size := by
        rcases Nat.lt_or_ge b W.heap.size with h' | h'
        · exact h'
        · unfold World.cell? at h00
          simp only [Addr.add] at h00
          simp [Array.getElem?_eq_none h'] at h00
      refine ⟨b, off, rfl, hb, ?_⟩
      rw [← Go.WideShapes.add_plain, hj0, List.getElem_take, List.getD_eq_getElem?_getD, List.getElem?_eq_getElem (by omega)]; rfl
    · have hb := bulk_strs (H := H) (ss.take len)
      simp only [Prod.mk.injEq] at hx
      rw [hx.1] at hsm
      simp only [Rows.uptoBulk] at hsm
      omega
end Go.Proofs.YthkgaaibhjkngaaGreatDoor
