/- RingPlays: what is handed in. -/
import Derived.Test.YtbhipgiaifbpfaaW
import Derived.Test.YtbhipgiaifbpfaaI
import Derived.Deep.Slices
import Derived.JoinedCond
import Derived.ChangeArms
set_option linter.unusedVariables false
namespace Go.Proofs.Ytbhipgiaifbpfaa
open Go.ChangeShapes Go.WideShapes Go.ChangeAt Go.RowKit

theorem weights_all {H : Type} {P : Program} {e : TypeId} {d : DataW H} {m : Nat} : ∀ {l : List (DataW H)}, d ∈ l → m ∈ d.weights P e → m ∈ DataW.weightsAll P e l
  | x :: r, h, hm => by
    simp only [DataW.weightsAll, List.mem_append]
    rcases List.mem_cons.1 h with rfl | h
    · exact .inl hm
    · exact .inr (weights_all h hm)
section
variable {H : Type} {enc : TypeId × Value → H} {W : World}
theorem bytes_in {fuel : Nat} {v : Value} {x : DataW H × List MemPlace} (h : DataW.trod enc Try.prog W 0 (fun _ => true) true fuel 28 [v] = some x) (hsm : ∀ m ∈ x.1.weights Try.prog 28, m ≤ reachBytes) :
    ∃ a n c l, v = .slice a n c ∧ Reads W a n l ∧ n ≤ c ∧ c ≤ 9223372036854775807 ∧ n ≤ 140737488351232 ∧ ∀ y, a = some y → 0 < l.length → y.block < W.heap.size := by
  rcases open_ints Try.underlying28 Try.underlying5 (by kernel_rfl) h with ⟨hcs, _⟩ | ⟨a, len, cap, zs, hcs, _, hl, hm, hz, hx, hcell, hwz⟩
  · obtain rfl : v = .slice none 0 0 := by simpa using hcs
    exact ⟨none, 0, 0, [], rfl, Reads.nil W none, by omega, by omega, by omega, fun y hy => by cases hy⟩
  · obtain rfl : v = .slice (some a) len cap := by simpa using hcs
    have hz' : zs.length = cap := by simpa using hz
    have hr : IsRow .u8 W (some a) len cap zs := .inr ⟨a, rfl, hl, hm, hz', hcell, hwz⟩
    have hlt := row_lt hr
    have hs := src_row hr (W.heap.size) (fun y hy h0 => by have := hlt y hy h0; omega)
    subst hx
    have hb := hsm (((lits (H := H) .u8 (zs.take len)).length + (lits (H := H) .u8 (zs.drop len)).length) * Try.prog.bytesOf 5) (by simp [DataW.weights, Try.underlying28])
    rw [show Try.prog.bytesOf 5 = 1 by kernel_rfl] at hb
    simp only [lits, List.length_map, List.length_take, List.length_drop, reachBytes] at hb
    refine ⟨some a, len, cap, _, rfl, hs.reads, hl, by unfold maxLen at hm; omega, by omega, fun y hy h0 => ?_⟩
    have h1 := hs.len
    exact hlt y hy (by omega)
theorem ops_in {fuel : Nat} {v : Value} {x : DataW H × List MemPlace} (h : DataW.trod enc Try.prog W 0 (fun _ => true) true fuel 22 [v] = some x) (hsm : ∀ m ∈ x.1.weights Try.prog 22, m ≤ reachBytes) :
    ∃ a c, ∃ ops : List OpD, v = .slice a ops.length c ∧ SrcO W a ops := by
  rcases Go.Deep.open_slice Try.underlying22 h with ⟨hcs, _⟩ | ⟨a, len, cap, m, n, D, Pl, hcs, _, hl, hm, hmm, rfl, hx⟩
  · obtain rfl : v = .slice none 0 0 := by simpa using hcs
    exact ⟨none, 0, [], rfl, ⟨fun j hj => by simp at hj⟩⟩
  obtain rfl : v = .slice (some a) len cap := by simpa using hcs
  have hmc : m = cap := by simpa using hmm
  have ce : Try.prog.cellsOf 32 = 4 := by kernel_rfl
  have hel : ∀ i : Nat, ∃ q : OpD, i < len → W.cell? (a.add (i * 4)) = some (.int .i64 q.z) ∧ W.cell? (a.add (i * 4 + 1)) = some (.bool q.sec) ∧ W.cell? (a.add (i * 4 + 2)) = some (.int .i64 q.N) ∧ W.cell? (a.add (i * 4 + 3)) = some (.slice q.a q.n q.c) ∧
      Reads W q.a q.n q.l ∧ q.n ≤ q.c ∧ q.c ≤ 9223372036854775807 ∧ q.n ≤ 140737488351232 ∧ ∀ y, q.a = some y → 0 < q.l.length → y.block < W.heap.size := by
    intro i
    by_cases hil : i < len
    · obtain ⟨cs', h1, h2⟩ := hx i (by omega)
      rw [ce] at h1
      obtain ⟨_, hlen, hcell⟩ := World.cells?_some h1
      obtain ⟨xs, k, hk, hxy, _, hxl, hf⟩ := DataW.trod_struct Try.underlying32 h2
      match xs, hxl, cs', hlen with
      | [y0, y1, y2, y3], _, [v0, v1, v2, v3], _ =>
        have g0 := hf 0 _ rfl
        have g1 := hf 1 _ rfl
        have g2 := hf 2 _ rfl
        have g3 := hf 3 _ rfl
        have e0 := hcell 0 (by omega)
        have e1 := hcell 1 (by omega)
        have e2 := hcell 2 (by omega)
        have e3 := hcell 3 (by omega)
        rw [Go.Deep.add_add] at e0 e1 e2 e3
        have c3 : Try.prog.cellsOf 3 = 1 := by kernel_rfl
        have c4 : Try.prog.cellsOf 4 = 1 := by kernel_rfl
        have c28 : Try.prog.cellsOf 28 = 1 := by kernel_rfl
        simp [c3, c4, c28] at g0 g1 g2 g3
        obtain ⟨z, e, _, _⟩ := DataW.trod_int Try.underlying3 g0
        obtain rfl : v0 = .int .i64 z := by simpa using e
        obtain ⟨bo, e, _⟩ := DataW.trod_bool Try.underlying4 g1
        obtain rfl : v1 = .bool bo := by simpa using e
        obtain ⟨N, e, _, _⟩ := DataW.trod_int Try.underlying3 g2
        obtain rfl : v2 = .int .i64 N := by simpa using e
        have hDi : D i = .agg [y0.1, y1.1, y2.1, y3.1] := by
          simp only [Prod.mk.injEq] at hxy
          simpa using hxy.1
        have hb3 : ∀ m ∈ y3.1.weights Try.prog 28, m ≤ reachBytes := fun m hm => by
          refine hsm m ?_
          simp only [DataW.weights, Try.underlying22]
          refine List.mem_cons.2 (.inr (List.mem_append.2 (.inl (weights_all (d := D i) (List.mem_map.2 ⟨i, List.mem_range.2 hil, rfl⟩) ?_))))
          rw [hDi]
          simp only [DataW.weights, Try.underlying32]
          exact DataW.weights_mem_each (j := 3) (t := 28) (d := y3.1) rfl rfl m hm
        obtain ⟨ba, bn, bc, bl, rfl, q1, q2, q3, q4, q5⟩ := bytes_in g3 hb3
        exact ⟨⟨z, bo, N, ba, bn, bc, bl⟩, fun _ => ⟨by simpa using e0, by simpa using e1, by simpa using e2, by simpa using e3, q1, q2, q3, q4, q5⟩⟩
    · exact ⟨⟨0, false, 0, none, 0, 0, []⟩, fun h => absurd h hil⟩
  obtain ⟨Q, hQ⟩ := Classical.axiomOfChoice hel
  have hlen : ((List.range len).map Q).length = len := by simp
  refine ⟨some a, cap, (List.range len).map Q, by rw [hlen], ⟨fun j hj => ?_⟩⟩
  have hj' : j < len := by simpa using hj
  obtain ⟨k0, k1, k2, k3, k4⟩ := hQ j hj'
  obtain ⟨k00, _⟩ := hQ 0 (by omega)
  obtain ⟨b, off, spot⟩ := a
  have hspot : spot = none := by simpa [Addr.add] using World.cell?_spot k00
  subst hspot
  have hb : b < W.heap.size := by have := addr_lt k00; simpa [Addr.add] using this
  rw [Go.WideShapes.add_plain] at k0 k1 k2 k3
  have hg : ((List.range len).map Q)[j] = Q j := by simp
  rw [hg]
  exact ⟨b, off, rfl, hb, k0, k1, k2, k3, k4⟩
end
end Go.Proofs.Ytbhipgiaifbpfaa
