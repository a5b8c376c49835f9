/- ForeignNames: for every int, every string and every slice of attributes the law's function returns true. No condition. -/
import Derived.Test.YtopmahhlebkjiaaZ
import Derived.SizedLaws
namespace Go.Proofs.Ytopmahhlebkjiaa
open Go.ChangeShapes Go.WideShapes Go.ChangeAt Go.RowKit Go.Deep Go.Joins
open Go.ChangeMaps (open_string shut_string)

theorem srcA_in {H : Type} {enc : TypeId × Value → H} {W : World} {fuel : Nat} {v : Value} {x : DataW H × List MemPlace} (h : DataW.trod enc Try.prog W 0 (fun _ => true) true fuel 22 [v] = some x) :
    ∃ a c l, v = .slice a (List.length l) c ∧ SrcA W a c l ∧ (∀ p ∈ l, p.1.size ≤ maxLen ∧ p.2.size ≤ maxLen) ∧ (l.length = 0 ∨ ∃ e s, x.1 = .slice e s ∧ l.length ≤ e.length + s.length) := by
  rcases open_slice_fields Try.underlying22 Try.underlying31 (by kernel_rfl) (by kernel_rfl) h with ⟨hcs, _⟩ | ⟨a, len, cap, m, D, Pl, hcs, hb, hl, hm, hmm, hx, hi⟩
  · obtain rfl : v = .slice none 0 0 := by simpa using hcs
    exact ⟨none, 0, [], rfl, ⟨fun j hj => by simp at hj, by simp, fun _ => ⟨rfl, rfl⟩⟩, fun p hp => by simp at hp, .inl rfl⟩
  · obtain rfl : v = .slice (some a) len cap := by simpa using hcs
    have hmc : m = cap := by simpa using hmm
    have hel : ∀ i : Nat, ∃ q : ByteArray × ByteArray, i < len → W.cell? (a.add (i * 2)) = some (.string q.1) ∧ W.cell? (a.add (i * 2 + 1)) = some (.string q.2) ∧ q.1.size ≤ maxLen ∧ q.2.size ≤ maxLen := by
      intro i
      by_cases hil : i < len
      · obtain ⟨ys, n, _, _, _, hf⟩ := hi i (by omega)
        obtain ⟨v0, y0, hc0, _, ht0⟩ := hf 0 _ rfl
        obtain ⟨v1, y1, hc1, _, ht1⟩ := hf 1 _ rfl
        obtain ⟨s0, e0, _, z0⟩ := DataW.trod_string Try.underlying9 ht0
        obtain ⟨s1, e1, _, z1⟩ := DataW.trod_string Try.underlying9 ht1
        simp at e0 e1
        subst e0 e1
        exact ⟨(s0, s1), fun _ => ⟨hc0, hc1, z0, z1⟩⟩
      · exact ⟨(ByteArray.empty, ByteArray.empty), fun h => absurd h hil⟩
    obtain ⟨Q, hQ⟩ := Classical.axiomOfChoice hel
    have hlen : ((List.range len).map Q).length = len := by simp
    refine ⟨some a, cap, (List.range len).map Q, by rw [hlen], ⟨fun j hj => ?_, by rw [hlen]; exact hl, (fun h => by cases h)⟩, fun p hp => ?_, .inr ⟨_, _, by rw [hx], by simp⟩⟩
    · have hj' : j < len := by simpa using hj
      obtain ⟨h0, h1, _⟩ := hQ j hj'
      obtain ⟨h00, _, _⟩ := hQ 0 (by omega)
      obtain ⟨b, off, spot⟩ := a
      have hspot : spot = none := by simpa [Addr.add] using World.cell?_spot h00
      subst hspot
      have hb : b < W.heap.size := by
        rcases Nat.lt_or_ge b W.heap.size with h' | h'
        · exact h'
        · unfold World.cell? at h00
          simp only [Addr.add] at h00
          simp [Array.getElem?_eq_none h'] at h00
      refine ⟨b, off, rfl, hb, ?_, ?_⟩
      · rw [← Go.WideShapes.add_plain]; simpa using h0
      · rw [Nat.add_assoc, ← Go.WideShapes.add_plain]; simpa using h1
    · obtain ⟨j, hj, rfl⟩ := List.mem_map.1 hp
      have := hQ j (by simpa using hj)
      exact ⟨this.2.2.1, this.2.2.2⟩

set_option maxRecDepth 100000 in
set_option maxHeartbeats 400000 in
theorem foreignNames_lifted (os : Os) (started : os.Started) (H : Type) (enc : TypeId × Value → H) :
    ReturnsInHanded {} Try.checked os 5 .any (Rows.foreignNamesSpec.pre6 enc Try.prog Try.f5 Rows.foreignNamesRow.domain false) (Rows.foreignNamesSpec.post enc Try.prog Try.f5 false true false false) := by
  refine returnsInHanded_of_change_sized (C := Try.checked) own started (by kernel_rfl) Try.func5
    (ChangeSpec.witness6 (enc := enc) (C := Try.checked) false ⟨#[], #[.int .i64 0, .string ⟨#[]⟩, .slice none 0 0], []⟩ 8 (by kernel_rfl) (by kernel_rfl) (by kernel_rfl) (by kernel_rfl)) ?_
  intro W base args ds gs before hval0 hW hcnd hsz0 _
  have hval : ∀ (j : Nat) t v, Try.f5.params[j]? = some t → args[j]? = some v → Value.okWide Try.prog W .any base t v := hval0
  have hsz : (DataW.weightsEach Try.prog (Try.f5.params.toList ++ Rows.foreignNamesSpec.plain.varTypes Try.prog) (ds ++ gs)).all (· ≤ reachBytes) = true := hsz0
  have hW' := hW
  obtain ⟨p, q, hA0, hV, rfl, hfz, hnd⟩ := hW
  have hA : DataW.TrodAll enc Try.prog W 0 (fun _ => true) true Try.f5.params.toList args.toList ds p := hA0
  rw [Try.params5] at hA hval hsz
  obtain ⟨v0, v1, v2, d0, d1, d2, p0, p1, p2, rfl, rfl, rfl, h0, h1, h2⟩ := trodAll_three hA
  obtain ⟨rfl, rfl⟩ := trodVars_none hV
  obtain ⟨a0, rfl, rfl, rfl, w0⟩ := open_int Try.underlying3 (hval 0 3 v0 rfl rfl) h0
  obtain ⟨a1, rfl, rfl, rfl, w1⟩ := open_string Try.underlying9 (hval 1 9 v1 rfl rfl) h1
  have k2 := h2
  have lt2 : ∀ x ∈ p2, x.block < W.heap.size := by obtain ⟨m, hm⟩ := k2; exact DataW.trod_lt m _ _ _ hm
  obtain ⟨a2, len2, cap2, rfl⟩ := okWide_slice Try.underlying22 (hval 2 22 v2 rfl rfl)
  obtain ⟨b2, c2, l2, he, hs, hsmall, hn⟩ : ∃ a c l, Value.slice a2 len2 cap2 = .slice a (List.length l) c ∧ SrcA W a c l ∧ (∀ p ∈ l, p.1.size ≤ maxLen ∧ p.2.size ≤ maxLen) ∧ l.length * 32 ≤ 140737488351232 := by
    obtain ⟨fuel, hf⟩ := h2
    obtain ⟨a, c, l, e1, e2, e3, e4⟩ := srcA_in hf
    refine ⟨a, c, l, e1, e2, e3, ?_⟩
    clear e1 e2 e3
    rcases e4 with e4 | ⟨e, s, hx, hle⟩
    · rw [e4]; omega
    · have hx : d2 = .slice e s := hx
      subst hx
      have := sized_slice hsz (j := 2) (t := 22) (e := 31) rfl rfl Try.underlying22
      rw [show Try.prog.bytesOf 31 = 32 by kernel_rfl] at this
      simp only [reachBytes] at this
      omega
  simp only [Value.slice.injEq] at he
  obtain ⟨rfl, rfl, rfl⟩ := he
  clear hA0 hval0
  refine (names_walk a0 a1 W a2 cap2 l2 hs hn).mono fun e W' ⟨he2, bel⟩ => ?_
  subst he2
  exact ⟨_, rfl, _, _, _, [], _, [], hW', trodAll_mk1 (shut_bool Try.underlying4 _), (trodAll_cons_mk (shut_int Try.underlying3 w0) (trodAll_cons_mk (shut_string Try.underlying9 w1) (trodAll_cons_mk (Below.trod laidOut (by kernel_rfl) (of_decide_eq_true (by kernel_rfl)) k2 bel lt2) trodAll_mk0))), rfl, bel.frame _, fun h => by cases h⟩

theorem foreignNames_holds : Rows.ForeignNamesSaid :=
  OpenClaim.holds_of_wide 5 Try.f5 rfl rfl rfl rfl rfl rfl rfl ⟨rfl, rfl, rfl, rfl, rfl⟩ rfl rfl rfl rfl rfl (by kernel_rfl) Try.func5 (by kernel_rfl)
    (of_decide_eq_true (by kernel_rfl)) (by unfold Func.isWrapper; first | (rw [if_pos (by decide +kernel)]; kernel_rfl) | (rw [if_neg (by decide +kernel)]; exact ⟨rfl, rfl⟩))
    (fun os started H enc _ => foreignNames_lifted os started H enc)

end Go.Proofs.Ytopmahhlebkjiaa
