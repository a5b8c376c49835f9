/- LexMedias: for every string and every media type the law's function returns true. Conditions: what is handed in, and the library's tables, are together of bulk at most 1048576 (the second form of the statement); the tables are those that the card ties to the program's text. -/
import Derived.Test.YtkadingpmebjbaaDoorLL
import Derived.Test.YtkadingpmebjbaaDoorBI
import Derived.Lib.SmallJoins
import Derived.Deep.SlicePairs
set_option linter.unusedVariables false
namespace Go.Proofs.YtkadingpmebjbaaDoor
open Go.ChangeShapes Go.WideShapes Go.ChangeAt Go.RowKit

theorem bulk_pairs {H : Type} (ps : PL) : psz ps ≤ 5 * Rows.uptoBulkAll (ps.map fun p => (DataW.agg [DataW.lit (.string p.1), DataW.lit (.string p.2)] : DataW H)) := by
  induction ps with
  | nil => simp [psz]
  | cons p r ih =>
    simp only [psz, List.map_cons, Rows.uptoBulkAll, Rows.uptoBulk]; omega
set_option maxRecDepth 100000 in
theorem pairs_in {H : Type} {enc : TypeId × Value → H} {W : World} {fuel : Nat} {v : Value} {x : DataW H × List MemPlace} (h : DataW.trod enc Tryd.prog W 0 (fun _ => true) true fuel 22 [v] = some x) :
    ∃ a c, ∃ ps : PL, v = .slice a ps.length c ∧ SrcA W a c (ps.map mk2) ∧ psz ps ≤ 5 * Rows.uptoBulk x.1 := by
  rcases Go.Deep.open_slice_pairs Tryd.underlying22 Tryd.underlying31 (by kernel_rfl) rfl rfl (by kernel_rfl) (by kernel_rfl) h with ⟨hcs, hx⟩ | ⟨a, len, cap, m, n, V0, V1, D0, D1, P0, P1, hcs, hb, hl, hm, hmm, hx, hi⟩
  · obtain rfl : v = .slice none 0 0 := by simpa using hcs
    exact ⟨none, 0, [], rfl, ⟨fun j hj => by simp at hj, by simp, fun _ => ⟨rfl, rfl⟩⟩, by simp [psz]⟩
  · obtain rfl : v = .slice (some a) len cap := by simpa using hcs
    have hmc : m = cap := by simpa using hmm
    have hel : ∀ i : Nat, ∃ q : ByteArray × ByteArray, i < len → W.cell? (a.add (i * 2)) = some (.string q.1) ∧ W.cell? (a.add (i * 2 + 1)) = some (.string q.2) ∧ D0 i = .lit (.string q.1.data.toList) ∧ D1 i = .lit (.string q.2.data.toList) := by
      intro i
      by_cases hil : i < len
      · obtain ⟨hc0, hc1, ht0, ht1⟩ := hi i (by omega)
        obtain ⟨s0, e0, y0, _⟩ := DataW.trod_string Tryd.underlying9 ht0
        obtain ⟨s1, e1, y1, _⟩ := DataW.trod_string Tryd.underlying9 ht1
        simp only [List.cons.injEq, and_true] at e0 e1
        rw [e0] at hc0
        rw [e1] at hc1
        simp only [Prod.mk.injEq] at y0 y1
        exact ⟨(s0, s1), fun _ => ⟨hc0, hc1, y0.1, y1.1⟩⟩
      · exact ⟨(ByteArray.empty, ByteArray.empty), fun h => absurd h hil⟩
    obtain ⟨Q, hQ⟩ := Classical.axiomOfChoice hel
    have hlen : ((List.range len).map fun i => ((Q i).1.data.toList, (Q i).2.data.toList)).length = len := by simp
    refine ⟨some a, cap, (List.range len).map fun i => ((Q i).1.data.toList, (Q i).2.data.toList), by rw [hlen], ⟨fun j hj => ?_, by rw [List.length_map, hlen]; exact hl, (fun h => by cases h)⟩, ?_⟩
    · have hj' : j < len := by simpa using hj
      obtain ⟨h0, h1, _⟩ := hQ j hj'
      obtain ⟨h00, _, _⟩ := hQ 0 (by omega)
      obtain ⟨b, off, spot⟩ := a
      have hspot : spot = none := by simpa [Addr.add] using World.cell?_spot h00
      subst hspot
      have hb : b < W.heap.size := by
        rcases Nat.lt_or_ge b W.heap.size with h' | h'
        · exact h'
        · unfold World.cell? at h00
          simp only [Addr.add] at h00
          simp [Array.getElem?_eq_none h'] at h00
      refine ⟨b, off, rfl, hb, ?_, ?_⟩
      · rw [← Go.WideShapes.add_plain, h0]; simp [mk2, mk]
      · rw [Nat.add_assoc, ← Go.WideShapes.add_plain, h1]; simp [mk2, mk]
    · have hb := bulk_pairs (H := H) ((List.range len).map fun i => ((Q i).1.data.toList, (Q i).2.data.toList))
      have he : (((List.range len).map fun i => ((Q i).1.data.toList, (Q i).2.data.toList)).map fun p => (DataW.agg [DataW.lit (.string p.1), DataW.lit (.string p.2)] : DataW H)) = (List.range len).map fun i => .agg [D0 i, D1 i] := by
        rw [List.map_map]
        refine List.map_congr_left fun i hi => ?_
        obtain ⟨_, _, y0, y1⟩ := hQ i (List.mem_range.1 hi)
        rw [y0, y1]; rfl
      rw [he] at hb
      rw [hx]
      simp only [Rows.uptoBulk]
      omega
set_option maxRecDepth 100000 in
theorem media_in {H : Type} {enc : TypeId × Value → H} {W : World} {r : Reach} {b0 : Nat} {v : Value} {d : DataW H} {p : List MemPlace} (hv : Value.okWide Tryd.prog W r b0 24 v) (h : DataW.Trod enc Tryd.prog W 0 (fun _ => true) true 24 v d p) (hsm : Rows.uptoBulk d ≤ 1048576) :
    ∃ (T S : ByteArray) (a : Option Addr) (c : Nat) (ps : PL), v = .agg #[.string T, .string S, .slice a ps.length c] ∧ SrcA W a c (ps.map mk2) ∧ T.size + S.size + psz ps ≤ 16777216 := by
  obtain ⟨v0, v1, v2, y0, y1, y2, n, rfl, rfl, _, h0, h1, h2⟩ := Go.Joins.open_agg3 Tryd.underlying24 (by kernel_rfl) (by kernel_rfl) hv h
  obtain ⟨T, e0, x0, _⟩ := DataW.trod_string Tryd.underlying9 h0
  obtain ⟨S, e1, x1, _⟩ := DataW.trod_string Tryd.underlying9 h1
  simp only [List.cons.injEq, and_true] at e0 e1
  subst e0 e1 x0 x1
  obtain ⟨a, c, ps, rfl, hs, hz⟩ := pairs_in h2
  refine ⟨T, S, a, c, ps, rfl, hs, ?_⟩
  have eT : T.data.toList.length = T.size := by simp
  have eS : S.data.toList.length = S.size := by simp
  simp only [Rows.uptoBulk, Rows.uptoBulkAll, eT, eS] at hsm
  omega

set_option maxRecDepth 100000 in
theorem lexMedias_lifted (os : Os) (started : os.Started) (H : Type) (enc : TypeId × Value → H) (F : Stop.Interp) :
    ReturnsInHanded {} Tryd.checked os 3 .any (fun w args => ((Rows.OpenSpec.upto Rows.lexMediasSpec).pre enc Tryd.checked.prog Tryd.f3 [] false w args ∧ Lies w) ∧ sizedMet enc Tryd.checked.prog Tryd.f3 (Rows.OpenSpec.upto Rows.lexMediasSpec) false w args)
      (((Rows.OpenSpec.upto Rows.lexMediasSpec).at F).post enc Tryd.checked.prog Tryd.f3 false true false false) := by
  refine upto_frame started (by kernel_rfl) Tryd.func3 #[.string ⟨#[]⟩, .agg #[.string ⟨#[]⟩, .string ⟨#[]⟩, .slice none 0 0]] 8 (World.shaped_of_ZipB (by kernel_rfl) (by kernel_rfl)) (by kernel_rfl) (x := ([.lit (.string []), .agg [.lit (.string []), .lit (.string []), .nil]], [], [])) (by kernel_rfl) (by kernel_rfl) (by kernel_rfl) ?_
  intro W base args ds gs before hval0 hW hk
  have hval : ∀ (j : Nat) t v, Tryd.f3.params[j]? = some t → args[j]? = some v → Value.okWide Tryd.prog W .any base t v := hval0
  have hW' := hW
  obtain ⟨p, q, hA0, hV, rfl, hfz, hnd⟩ := hW
  have hA : DataW.TrodAll enc Tryd.prog W 0 (fun _ => true) true Tryd.f3.params.toList args.toList ds p := hA0
  rw [Tryd.params3] at hA hval
  obtain ⟨v0, v1, d0, d1, p0, p1, rfl, rfl, rfl, h0, h1⟩ := trodAll_two hA
  obtain ⟨rfl, rfl⟩ := trodVars_none hV
  have b0 : Rows.uptoBulk d0 ≤ 1048576 := small_of hk (by simp)
  obtain ⟨a0, rfl, rfl, rfl, w0⟩ := Go.ChangeMaps.open_string Tryd.underlying9 (hval 0 9 v0 rfl rfl) h0
  have z0 : a0.size ≤ 1048576 := by have := b0; simp only [Rows.uptoBulk] at this; have e : a0.data.toList.length = a0.size := by { simp }; first | omega | (simp at this; omega)
  have b1 : Rows.uptoBulk d1 ≤ 1048576 := small_of hk (by simp)
  have k1 := h1
  have lt1 : ∀ x ∈ p1, x.block < W.heap.size := by obtain ⟨m, hm⟩ := k1; exact DataW.trod_lt m _ _ _ hm
  obtain ⟨T1, S1, a1, c1, l1, rfl, s1, z1⟩ := media_in (hval 1 24 v1 rfl rfl) h1 b1
  clear hA0 hval0
  refine (lexMedias_any a0 T1 S1 l1 a1 l1.length c1 W (by omega) rfl s1 z1).mono fun e W' ⟨he, bel⟩ => ?_
  subst he
  exact ⟨_, rfl, _, _, _, [], _, [], hW', trodAll_mk1 (shut_bool Tryd.underlying4 _), (trodAll_cons_mk (Go.ChangeMaps.shut_string Tryd.underlying9 w0) (trodAll_cons_mk (Below.trod laidOut (by kernel_rfl) (of_decide_eq_true (by kernel_rfl)) k1 bel lt1) trodAll_mk0)), rfl, bel.frame _, fun h => by cases h⟩

theorem lexMedias_holds : Rows.LexMediasUptoSaid :=
  OpenClaim.holds_of_cond 3 Tryd.f3 rfl rfl rfl rfl rfl rfl rfl ⟨rfl, rfl, rfl, rfl, rfl⟩ rfl rfl rfl rfl rfl (by kernel_rfl) Tryd.func3 (by kernel_rfl)
    (of_decide_eq_true (by kernel_rfl)) (by unfold Func.isWrapper; first | (rw [if_pos (by decide +kernel)]; kernel_rfl) | (rw [if_neg (by decide +kernel)]; exact ⟨rfl, rfl⟩))
    (fun os started H enc _ F => lexMedias_lifted os started H enc F)

theorem lexMedias_card : Rows.LexMediasUptoCardSaid :=
  Claim7.holds_tied_plain_at .later [] [.data, .pinned] true (true, "d03c9f7baebd23c87df959969993ef9c2fc1432d1e5c14c795472c90d7cf28b7") false
    lexMedias_holds (fun _ h => by cases h) (by kernel_rfl) (fun _ h => by cases h) lexMediasUpto_row_tie rfl ⟨rfl, rfl⟩ (by kernel_rfl) rfl
    (fun f fn hf hfn => by
      obtain rfl : f = 3 := Option.some.inj ((show Tryd.prog.funcNamed "colander/colanderlaw03.LexMedias" = some 3 by kernel_rfl).symm.trans hf) |>.symm
      obtain rfl : fn = Tryd.f3 := (Option.some.inj (Tryd.func3.symm.trans hfn)).symm
      exact ⟨by kernel_rfl, fun j t ht => by
        rw [Tryd.params3] at ht
        have hm : t ∈ [9, 24] := by simpa using Array.mem_of_getElem? ht
        have hall : ([9, 24].all fun u => !Tryd.prog.wantsStandIn u) = true := by kernel_rfl
        exact (show Tryd.prog.wantsStandIn t = false by simpa using List.all_eq_true.1 hall t hm)⟩)
    (by kernel_rfl)
end Go.Proofs.YtkadingpmebjbaaDoor
