/- Utf8Pieces: for every slice of bytes and every cuts the law's function returns true. Condition: what is handed in is of bulk at most 1048576 (the second form of the statement). -/
import Derived.Test.YtaahblbkigkfcaaO
import Derived.Test.YtaahblbkigkfcaaAK
set_option linter.unusedVariables false
namespace Go.Proofs.Ytaahblbkigkfcaa
open Go.ChangeShapes Go.WideShapes Go.ChangeAt Go.RowKit

theorem ints_in {H : Type} {enc : TypeId × Value → H} {W : World} {v : Value} {d : DataW H} {p : List MemPlace} (h : DataW.Trod enc Try.prog W 0 (fun _ => true) true 35 v d p) (hv : ∃ a n c, v = .slice a n c) (hsm : Rows.uptoBulk d ≤ 1048576) :
    ∃ a c l, v = .slice a (List.length l) c ∧ Ints W a l ∧ l.length ≤ 1048576 := by
  obtain ⟨a, n, c, rfl⟩ := hv
  obtain ⟨fuel, hf⟩ := h
  rcases open_ints Try.underlying35 Try.underlying3 (by kernel_rfl) hf with ⟨hcs, _⟩ | ⟨x, l, c2, zs, hcs, _, hl, hm, hz, hx, hcell, hwz⟩
  · simp [Value.cells] at hcs
    obtain ⟨rfl, rfl, rfl⟩ := hcs
    exact ⟨none, 0, [], rfl, fun j hj => by simp at hj, by simp⟩
  · simp [Value.cells] at hcs
    obtain ⟨rfl, rfl, rfl⟩ := hcs
    simp only [Prod.mk.injEq] at hx
    obtain ⟨rfl, _⟩ := hx
    have hz' : zs.length = c := by simpa using hz
    have hlen : n ≤ 1048576 := by
      have := bulk_len (H := H) (lits .i64 (zs.take n))
      simp only [Rows.uptoBulk] at hsm
      simp only [lits, List.length_map, List.length_take] at this
      simp only [lits] at hsm
      omega
    have hbl : (zs.take n).length = n := by simp; omega
    refine ⟨some x, c, zs.take n, by rw [hbl], fun j hj => ?_, by rw [hbl]; exact hlen⟩
    obtain ⟨bb, off, spot⟩ := x
    obtain ⟨hsp, hlt⟩ := addr_plain (hcell 0 (by omega))
    simp only [Addr.add] at hsp hlt
    subst hsp
    rw [hbl] at hj
    refine ⟨bb, off, rfl, hlt, ?_⟩
    have hc := hcell j (by omega)
    rw [Go.WideShapes.add_plain] at hc
    rw [hc, getD_at (by omega)]
    simp

set_option maxRecDepth 100000 in
theorem utf8Pieces_lifted (os : Os) (started : os.Started) (H : Type) (enc : TypeId × Value → H) (F : Stop.Interp) :
    ReturnsInHanded {} Try.checked os 6 .any ((Rows.OpenSpec.upto Rows.utf8PiecesSpec).pre6 enc Try.prog Try.f6 Rows.utf8PiecesUptoRow.domain false) (((Rows.OpenSpec.upto Rows.utf8PiecesSpec).at F).post enc Try.prog Try.f6 false true false false) := by
  refine returnsInHanded_of_cond (C := Try.checked) (s := Rows.OpenSpec.upto Rows.utf8PiecesSpec) (k := Rows.uptoSmall) rfl own started (by kernel_rfl) Try.func6
    (OpenSpec.witness (enc := enc) (C := Try.checked) (s := Rows.OpenSpec.upto Rows.utf8PiecesSpec) (k := Rows.uptoSmall) rfl false ⟨#[], #[.slice none 0 0, .slice none 0 0], []⟩ 8 (by kernel_rfl) (by kernel_rfl) (by kernel_rfl)
      (x := ([.nil, .nil], [], [])) (by kernel_rfl) rfl (by kernel_rfl)) ?_
  intro W base args ds gs before hval0 hW _ hk _
  have hval : ∀ (j : Nat) t v, Try.f6.params[j]? = some t → args[j]? = some v → Value.okWide Try.prog W .any base t v := hval0
  have hW' := hW
  obtain ⟨p, q, hA0, hV, rfl, hfz, hnd⟩ := hW
  have hA : DataW.TrodAll enc Try.prog W 0 (fun _ => true) true Try.f6.params.toList args.toList ds p := hA0
  rw [Try.params6] at hA hval
  obtain ⟨v0, v1, d0, d1, p0, p1, rfl, rfl, rfl, h0, h1⟩ := trodAll_two hA
  obtain ⟨rfl, rfl⟩ := trodVars_none hV
  have b0 : Rows.uptoBulk d0 ≤ 1048576 := small_of hk (by simp)
  have k0 := h0
  have lt0 : ∀ x ∈ p0, x.block < W.heap.size := by obtain ⟨m, hm⟩ := k0; exact DataW.trod_lt m _ _ _ hm
  obtain ⟨a0, c0, l0, rfl, s0, z0⟩ := src_in h0 (okWide_slice Try.underlying22 (hval 0 22 v0 rfl rfl)) b0
  have b1 : Rows.uptoBulk d1 ≤ 1048576 := small_of hk (by simp)
  have k1 := h1
  have lt1 : ∀ x ∈ p1, x.block < W.heap.size := by obtain ⟨m, hm⟩ := k1; exact DataW.trod_lt m _ _ _ hm
  obtain ⟨a1, c1, l1, rfl, s1, z1⟩ := ints_in h1 (okWide_slice Try.underlying35 (hval 1 35 v1 rfl rfl)) b1
  clear hA0 hval0
  refine (pieces_walk W a0 c0 l0 s0 z0 a1 c1 l1 s1 z1).mono fun e W' ⟨he, bel⟩ => ?_
  subst he
  exact ⟨_, rfl, _, _, _, [], _, [], hW', trodAll_mk1 (shut_bool Try.underlying4 _), (trodAll_cons_mk (Below.trod laidOut (by kernel_rfl) (of_decide_eq_true (by kernel_rfl)) k0 bel lt0) (trodAll_cons_mk (Below.trod laidOut (by kernel_rfl) (of_decide_eq_true (by kernel_rfl)) k1 bel lt1) trodAll_mk0)), rfl, bel.frame _, fun h => by cases h⟩

theorem utf8Pieces_holds : Rows.Utf8PiecesUptoSaid :=
  OpenClaim.holds_of_cond 6 Try.f6 rfl rfl rfl rfl rfl rfl rfl ⟨rfl, rfl, rfl, rfl, rfl⟩ rfl rfl rfl rfl rfl (by kernel_rfl) Try.func6 (by kernel_rfl)
    (of_decide_eq_true (by kernel_rfl)) (by unfold Func.isWrapper; first | (rw [if_pos (by decide +kernel)]; kernel_rfl) | (rw [if_neg (by decide +kernel)]; exact ⟨rfl, rfl⟩))
    (fun os started H enc _ F => utf8Pieces_lifted os started H enc F)
end Go.Proofs.Ytaahblbkigkfcaa
