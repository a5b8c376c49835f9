/- Utf8Encodes: for every slice of numbers the law's function returns true. No condition. -/
import Derived.Test.YtaahblbkigkfcaaO
import Derived.Test.YtaahblbkigkfcaaL
import Derived.SizedLaws
import Derived.ChangeSame
set_option linter.unusedVariables false
namespace Go.Proofs.Ytaahblbkigkfcaa
open Go.ChangeShapes Go.WideShapes Go.ChangeAt Go.RowKit

theorem nums_sized {H : Type} {enc : TypeId × Value → H} {W : World} {v : Value} {d : DataW H} {p : List MemPlace} (h : DataW.Trod enc Try.prog W 0 (fun _ => true) true 26 v d p) (hv : ∃ a n c, v = .slice a n c) :
    ∃ a c l, v = .slice a (List.length l) c ∧ Nums W a l ∧ (a = none → l = [] ∧ c = 0) ∧ l.length ≤ c ∧ (l.length = 0 ∨ ∃ e s, d = .slice e s ∧ l.length ≤ e.length + s.length) ∧ (∀ x ∈ l, -2147483648 ≤ x ∧ x ≤ 2147483647) ∧ c ≤ 9223372036854775807 := by
  obtain ⟨a, n, c, rfl⟩ := hv
  obtain ⟨fuel, hf⟩ := h
  rcases open_ints Try.underlying26 Try.underlying21 (by kernel_rfl) hf with ⟨hcs, _⟩ | ⟨x, l, c2, zs, hcs, _, hl, hm, hz, hx, hcell, hwz⟩
  · simp [Value.cells] at hcs
    obtain ⟨rfl, rfl, rfl⟩ := hcs
    exact ⟨none, 0, [], rfl, fun j hj => by simp at hj, fun _ => ⟨rfl, rfl⟩, by simp, .inl rfl, by simp, by omega⟩
  · simp [Value.cells] at hcs
    obtain ⟨rfl, rfl, rfl⟩ := hcs
    simp only [Prod.mk.injEq] at hx
    obtain ⟨rfl, _⟩ := hx
    have hz' : zs.length = c := by simpa using hz
    have hbl : (zs.take n).length = n := by simp; omega
    refine ⟨some x, c, zs.take n, by rw [hbl], fun j hj => ?_, (fun h => by cases h), by rw [hbl]; exact hl, .inr ⟨_, _, rfl, by simp [lits]⟩, fun y hy => ?_, by unfold maxLen at hm; omega⟩
    · obtain ⟨bb, off, spot⟩ := x
      obtain ⟨hsp, hlt⟩ := addr_plain (hcell 0 (by omega))
      simp only [Addr.add] at hsp hlt
      subst hsp
      rw [hbl] at hj
      refine ⟨bb, off, rfl, hlt, ?_⟩
      have hc := hcell j (by omega)
      rw [Go.WideShapes.add_plain] at hc
      rw [hc, getD_at (by omega)]
      simp
    · exact bounds_i32 (hwz _ (List.mem_of_mem_take hy))

set_option maxRecDepth 100000 in
theorem utf8Encodes_lifted (os : Os) (started : os.Started) (H : Type) (enc : TypeId × Value → H) :
    ReturnsInHanded {} Try.checked os 4 .any (Rows.utf8EncodesSpec.pre6 enc Try.prog Try.f4 Rows.utf8EncodesRow.domain false) (Rows.utf8EncodesSpec.post enc Try.prog Try.f4 false true false false) := by
  refine returnsInHanded_of_change_sized (C := Try.checked) own started (by kernel_rfl) Try.func4
    (ChangeSpec.witness6 (enc := enc) (C := Try.checked) false ⟨#[], #[.slice none 0 0], []⟩ 8 (by kernel_rfl) (by kernel_rfl) (by kernel_rfl) (by kernel_rfl)) ?_
  intro W base args ds gs before hval0 hW hcnd hsz0 _
  have hval : ∀ (j : Nat) t v, Try.f4.params[j]? = some t → args[j]? = some v → Value.okWide Try.prog W .any base t v := hval0
  have hsz : (DataW.weightsEach Try.prog (Try.f4.params.toList ++ Rows.utf8EncodesSpec.plain.varTypes Try.prog) (ds ++ gs)).all (· ≤ reachBytes) = true := hsz0
  have hW' := hW
  obtain ⟨p, q, hA0, hV, rfl, hfz, hnd⟩ := hW
  have hA : DataW.TrodAll enc Try.prog W 0 (fun _ => true) true Try.f4.params.toList args.toList ds p := hA0
  rw [Try.params4] at hA hval hsz
  obtain ⟨v0, d0, rfl, rfl, h0⟩ := trodAll_one hA
  obtain ⟨rfl, rfl⟩ := trodVars_none hV
  have k0 := h0
  have lt0 : ∀ x ∈ p, x.block < W.heap.size := by obtain ⟨m, hm⟩ := k0; exact DataW.trod_lt m _ _ _ hm
  obtain ⟨a0, c0, l0, rfl, s0, e0, q0, b0, r0, g0⟩ := nums_sized h0 (okWide_slice Try.underlying26 (hval 0 26 v0 rfl rfl))
  have z0 : l0.length ≤ 35184372087808 := by
    rcases b0 with b0 | ⟨e, s, hx, hle⟩
    · omega
    · subst hx
      have := sized_slice hsz (j := 0) (t := 26) (e := 21) rfl rfl Try.underlying26
      rw [show Try.prog.bytesOf 21 = 4 by kernel_rfl] at this
      simp only [reachBytes] at this
      omega
  clear hA0 hval0
  refine (encodes_walk W a0 c0 l0 s0 e0 (by omega) r0).mono fun e W' ⟨he, bel⟩ => ?_
  subst he
  exact ⟨_, rfl, _, _, _, [], _, [], hW', trodAll_mk1 (shut_bool Try.underlying4 _), (trodAll_cons_mk (Below.trod laidOut (by kernel_rfl) (of_decide_eq_true (by kernel_rfl)) k0 bel lt0) trodAll_mk0), rfl, bel.frame _, fun h => by cases h⟩

theorem utf8Encodes_full : Rows.Utf8EncodesSaid :=
  OpenClaim.holds_of_wide 4 Try.f4 rfl rfl rfl rfl rfl rfl rfl ⟨rfl, rfl, rfl, rfl, rfl⟩ rfl rfl rfl rfl rfl (by kernel_rfl) Try.func4 (by kernel_rfl)
    (of_decide_eq_true (by kernel_rfl)) (by unfold Func.isWrapper; first | (rw [if_pos (by decide +kernel)]; kernel_rfl) | (rw [if_neg (by decide +kernel)]; exact ⟨rfl, rfl⟩))
    (fun os started H enc _ => utf8Encodes_lifted os started H enc)
end Go.Proofs.Ytaahblbkigkfcaa
