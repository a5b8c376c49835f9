/- The written text is taken while later blocks are kept; slices of bytes, however they lie. -/
import Derived.Test.YtaahblbkigkfcaaAG
import Derived.Test.YtaahblbkigkfcaaAF
import Derived.Test.YtaahblbkigkfcaaN
set_option linter.unusedVariables false
namespace Go.Proofs.Ytaahblbkigkfcaa
open Go.RowKit

theorem Kp.drew {p : Nat → Prop} {a w : World} (h : Kp p a w) : Kp p a w.drew := ⟨h.os, h.tape, h.output, h.size, h.block⟩
theorem Kp.alloc {p : Nat → Prop} {a w : World} (h : Kp p a w) (hB : ∀ k, p k → k < w.heap.size) (o : Obj) : Kp p a (w.alloc o) :=
  h.trans ⟨rfl, rfl, rfl, by simp, fun k hk => Below.heap_alloc _ _ _ (hB k hk)⟩
theorem Kp.freeze {p : Nat → Prop} {a w : World} (h : Kp p a w) {x : Addr} (hx : ¬ p x.block) (n : Nat) : Kp p a (w.freeze x n) := by
  refine h.trans ?_
  unfold World.freeze
  split
  · exact Kp.refl p w
  · exact ⟨rfl, rfl, rfl, by simp, fun k hk => by
      simp only [Array.getElem?_modify]
      rw [if_neg (show ¬ x.block = k from fun e => hx (e ▸ hk))]⟩
/-- all but a row's block -/
def KS (n : Nat) (v : Value) : Nat → Prop := fun k => k < n ∧ v.ownBlock ≠ some k

set_option maxHeartbeats 2000000 in
theorem str_some_k (N b : Nat) (l : List UInt8) (w : World) (p v : Value) (hbN : b < N) (hbk : w.heap[b]? = some (.cells #[p, v] 46 (0, 0))) (hown : w.ownsRowF N 5 1 v (Lib.byteCells l).length (Lib.byteCells l)) (h0 : l ≠ []) :
    Calls Try.prog 30 #[.pointer (some ⟨b, 0, none⟩)] w fun e w' => e = .returned (.string ⟨l.toArray⟩) ∧ Kp (KS w.heap.size v) w w' := by
  have hl0 : l.length ≠ 0 := by simpa using h0
  rw [Lib.byteCells_length] at hown
  obtain ⟨g, cap, cur, fz, rfl, hbg, hg, hfz, hnc, hcm, hcs, htake⟩ : ∃ g cap cur fz, v = .slice (some ⟨g, 0, none⟩) l.length cap ∧ N ≤ g ∧ w.heap[g]? = some (.cells cur 5 fz) ∧ fz.2 ≤ l.length * 1 ∧ l.length ≤ cap ∧ cap ≤ maxLen ∧ cur.size = cap * 1 ∧ cur.toList.take (l.length * 1) = Lib.byteCells l := by
    rcases hown.2 with ⟨_, hz⟩ | ⟨g, cap, cur, fz, hv, r⟩
    · exact absurd hz hl0
    · exact ⟨g, cap, cur, fz, hv, r⟩
  have c1 : w.drew.cell? ⟨b, 1, none⟩ = some (.slice (some ⟨g, 0, none⟩) l.length cap) := by
    have : w.drew.heap[b]? = some (.cells #[p, .slice (some ⟨g, 0, none⟩) l.length cap] 46 (0, 0)) := hbk
    rw [Lib.cell_of_heap this]; rfl
  have hSD : (Builtin.unsafeSliceData_ #[22] 62 #[.slice (some ⟨g, 0, none⟩) l.length cap]).run Try.prog w.drew = .ok (.pointer (some ⟨g, 0, none⟩)) w.drew :=
    Lib.run_unsafeSliceData_row _ _ _ _ _ _ (by omega)
  have hUS : (Builtin.unsafeString_ #[62, 3] 9 #[.pointer (some ⟨g, 0, none⟩), .int .i64 l.length]).run Try.prog w.drew = .ok (.string ⟨l.toArray⟩) (w.drew.freeze ⟨g, 0, none⟩ l.length) := by
    refine Lib.run_unsafeString_row w.drew 62 3 9 5 Try.underlying62 cells5 g cur.size (by have hg' : w.drew.heap[g]? = some (.cells cur 5 fz) := hg; simp [World.shape?, hg']) l h0 (by omega) (by unfold maxLen at hcm; omega) ?_
    intro j x hx
    have := hown.cells (g := g) rfl j (.int .u8 x.toNat) (by simp [Lib.byteCells, hx])
    exact this
  have HB : Hid (Kp (KS w.heap.size (.slice (some ⟨g, 0, none⟩) l.length cap)) w (w.drew.freeze ⟨g, 0, none⟩ l.length)) := Lib.hid (Kp.freeze (Kp.refl _ _).drew (x := ⟨g, 0, none⟩) (fun h => h.2 rfl) _)
  clear h0 hbN hbk hown hl0 hbg hg hfz hnc hcm hcs htake
  go_enter Try.func30, Try.ntmps30
  go_wp2
  go_region
  all_goals (go_wp2; go_ret; exact ⟨rfl, HB.out⟩)

set_option maxHeartbeats 2000000 in
theorem str_none_k (N b : Nat) (w : World) (p v : Value) (hbN : b < N) (hbk : w.heap[b]? = some (.cells #[p, v] 46 (0, 0))) (hown : w.ownsRowF N 5 1 v (Lib.byteCells []).length (Lib.byteCells [])) :
    Calls Try.prog 30 #[.pointer (some ⟨b, 0, none⟩)] w fun e w' => e = .returned (.string ⟨#[]⟩) ∧ Kp (KS w.heap.size v) w w' := by
  have hUS := us_none
  have hlt : b < w.heap.size := (Array.getElem?_eq_some_iff.1 hbk).1
  rcases hown.2 with ⟨rfl, _⟩ | ⟨g, cap, cur, fz, rfl, hbg, hg, _, _, _, _, _⟩
  · have c1 : w.drew.cell? ⟨b, 1, none⟩ = some (.slice none 0 0) := by
      have : w.drew.heap[b]? = some (.cells #[p, .slice none 0 0] 46 (0, 0)) := hbk
      rw [Lib.cell_of_heap this]; rfl
    have hSD : (Builtin.unsafeSliceData_ #[22] 62 #[.slice none 0 0]).run Try.prog w.drew = .ok (.pointer none) w.drew := rfl
    clear hbk hown
    go_enter Try.func30, Try.ntmps30
    go_wp2
    go_region
    all_goals (go_wp2; go_ret; exact ⟨rfl, (Kp.refl _ _).drew⟩)
  · by_cases hc0 : cap = 0
    · subst hc0
      have c1 : w.drew.cell? ⟨b, 1, none⟩ = some (.slice (some ⟨g, 0, none⟩) 0 0) := by
        have : w.drew.heap[b]? = some (.cells #[p, .slice (some ⟨g, 0, none⟩) 0 0] 46 (0, 0)) := hbk
        rw [Lib.cell_of_heap this]; rfl
      have hSD : (Builtin.unsafeSliceData_ #[22] 62 #[.slice (some ⟨g, 0, none⟩) 0 0]).run Try.prog w.drew = .ok (.pointer (some ⟨w.drew.heap.size, 0, none⟩)) (w.drew.alloc (.view ⟨g, 0, none⟩ 5)) :=
        Lib.run_unsafeSliceData_zero w.drew _ _ 5 Try.underlying62 ⟨g, 0, none⟩ 0 (5, cur.size) (by have hg' : w.drew.heap[g]? = some (.cells cur 5 fz) := hg; simp [World.shape?, hg'])
      have c2 : (w.drew.alloc (.view ⟨g, 0, none⟩ 5)).cell? ⟨b, 1, none⟩ = some (.slice (some ⟨g, 0, none⟩) 0 0) := by
        have : (w.drew.alloc (.view ⟨g, 0, none⟩ 5)).heap[b]? = _ := (Lib.alloc_old w.drew _ b hlt).trans hbk
        rw [Lib.cell_of_heap this]; rfl
      have c3 : (w.alloc (.view ⟨g, 0, none⟩ 5)).drew.cell? ⟨b, 1, none⟩ = some (.slice (some ⟨g, 0, none⟩) 0 0) := c2
      have c0 : w.cell? ⟨b, 1, none⟩ = some (.slice (some ⟨g, 0, none⟩) 0 0) := c1
      have HB : Hid (Kp (KS w.heap.size (.slice (some ⟨g, 0, none⟩) 0 0)) w (w.drew.alloc (.view ⟨g, 0, none⟩ 5))) := Lib.hid ((Kp.refl _ _).drew.alloc (fun k hk => hk.1) _)
      clear hbk hown hg
      go_enter Try.func30, Try.ntmps30
      go_wp2
      go_region
      all_goals (go_wp2; go_ret; exact ⟨rfl, HB.out⟩)
    · have c1 : w.drew.cell? ⟨b, 1, none⟩ = some (.slice (some ⟨g, 0, none⟩) 0 cap) := by
        have : w.drew.heap[b]? = some (.cells #[p, .slice (some ⟨g, 0, none⟩) 0 cap] 46 (0, 0)) := hbk
        rw [Lib.cell_of_heap this]; rfl
      have hSD : (Builtin.unsafeSliceData_ #[22] 62 #[.slice (some ⟨g, 0, none⟩) 0 cap]).run Try.prog w.drew = .ok (.pointer (some ⟨g, 0, none⟩)) w.drew :=
        Lib.run_unsafeSliceData_row _ _ _ _ _ _ hc0
      clear hbk hown hg hc0
      go_enter Try.func30, Try.ntmps30
      go_wp2
      go_region
      all_goals (go_wp2; go_ret; exact ⟨rfl, (Kp.refl _ _).drew⟩)
theorem str_k (N b : Nat) (l : List UInt8) (w : World) (p v : Value) (hbN : b < N) (hbk : w.heap[b]? = some (.cells #[p, v] 46 (0, 0))) (hown : w.ownsRowF N 5 1 v (Lib.byteCells l).length (Lib.byteCells l)) :
    Calls Try.prog 30 #[.pointer (some ⟨b, 0, none⟩)] w fun e w' => e = .returned (.string ⟨l.toArray⟩) ∧ Kp (KS w.heap.size v) w w' := by
  cases l with
  | nil => exact str_none_k N b w p v hbN hbk hown
  | cons x r => exact str_some_k N b (x :: r) w p v hbN hbk hown (by simp)

theorem tl_nil : tl [] = 0 := by simp [tl, tlFrom]
theorem tail_src (a : Option Addr) (c : Nat) (l : List UInt8) (w : World) (h : Src w a c l) :
    Calls Try.prog 35 #[.slice a l.length c] w fun e w' => e = .returned (.int .i64 (tl l)) ∧ w = w' := by
  rcases h.bytes with rfl | ⟨b, o, rfl, _, hr⟩
  · rw [tl_nil]; exact tail_nil a c w
  · exact tail_any l b o c w hr h.cap h.big
theorem slice_lo (a : Option Addr) (l : List UInt8) (c lo : Nat) (w : World) (h : Src w a c l) (hlo : lo ≤ l.length) : ∃ a', (∀ W : World, (Instr.slice 22 (.slice a l.length c) (some (.int .i64 lo)) none none).run Try.prog W = .ok (.slice a' (l.drop lo).length (c - lo)) W) ∧ Src w a' (c - lo) (l.drop lo) ∧ (∀ b o, a' = some ⟨b, o, none⟩ → (∃ o', a = some ⟨b, o', none⟩)) := by
  rw [List.length_drop]
  have hc := h.cap
  have hb := h.big
  cases a with
  | none =>
    obtain ⟨rfl, rfl⟩ := h.nil rfl
    have h0 : lo = 0 := by simpa using hlo
    subst h0
    exact ⟨none, fun W => by simp only [List.length_nil]; go_simp, by simpa using h, fun b o h => by cases h⟩
  | some x =>
    rcases h.bytes with rfl | ⟨b, o, he, hlt, hr⟩
    · have h0 : lo = 0 := by simpa using hlo
      subst h0
      refine ⟨some x, fun W => ?_, by simpa using h, fun b o h => ⟨o, h⟩⟩
      obtain ⟨b, o, sp⟩ := x
      simp only [List.length_nil]
      by_cases hc0 : c = 0
      · subst hc0; go_simp
      · go_simp
    · cases he
      obtain ⟨o', h1, h2⟩ := sl_from b o l.length c lo hlo hc
      refine ⟨some ⟨b, o', none⟩, h1, ⟨.inr ⟨b, o', rfl, hlt, hr.from h2⟩, by simp only [List.length_drop]; omega, by omega, fun h => by cases h⟩, fun b' o2 h => ?_⟩
      simp only [Option.some.injEq, Addr.mk.injEq] at h
      obtain ⟨rfl, _⟩ := h
      exact ⟨o, rfl⟩
theorem decode_src_k (N b : Nat) (a : Option Addr) (c : Nat) (l acc : List UInt8) (w : World) (hI : IsK N b acc w) (h : Src w a c l) (ha : ∀ sb so, a = some ⟨sb, so, none⟩ → KD N b sb) (hlen : l.length ≤ 140737488355328) (htot : (acc ++ dec l).length ≤ 140737488355328) :
    Calls Try.prog 29 #[.pointer (some ⟨b, 0, none⟩), .slice a l.length c] w fun e w' => e = .returned (.tuple #[]) ∧ IsK N b (acc ++ dec l) w' ∧ Kp (KD N b) w w' := by
  rcases h.bytes with rfl | ⟨sb, so, rfl, _, hr⟩
  · refine (decode_nil_k N b acc a c w hI).mono ?_; rintro e w' ⟨rfl, rfl⟩
    rw [dec_nil, List.append_nil]
    exact ⟨rfl, hI, Kp.refl _ _⟩
  · exact decode_k N b sb l acc so c w hI hr (ha sb so rfl) h.cap hlen h.big htot
theorem Src.kp {w w' : World} {p : Nat → Prop} {a : Option Addr} {c : Nat} {l : List UInt8} (h : Src w a c l) (hb : Kp p w w') (ha : ∀ sb so, a = some ⟨sb, so, none⟩ → p sb) : Src w' a c l := by
  refine ⟨?_, h.cap, h.big, h.nil⟩
  rcases h.bytes with e | ⟨b, o, e1, e2, e3⟩
  · exact .inl e
  · exact .inr ⟨b, o, e1, Nat.lt_of_lt_of_le e2 hb.size, e3.kp hb (ha b o e1)⟩
theorem OwnB.kp {w w' : World} {p : Nat → Prop} {base : Nat} {v : Value} {l : List UInt8} (h : OwnB w base v l) (hb : Kp p w w') (hv : ∀ k, v.ownBlock = some k → p k) : OwnB w' base v l := by
  refine ⟨h.1, ?_⟩
  rcases h.2 with h | ⟨g, cap, cur, h1, h2, h3, h4⟩
  · exact .inl h
  · exact .inr ⟨g, cap, cur, h1, h2, (hb.block g (hv g (by rw [h1]; rfl))).trans h3, h4⟩
theorem ownF_kp {w w' : World} {p : Nat → Prop} {base n : Nat} {v : Value} {xs : List Value} (h : w.ownsRowF base 5 1 v n xs) (hb : Kp p w w') (hv : ∀ k, v.ownBlock = some k → p k) : w'.ownsRowF base 5 1 v n xs := by
  refine ⟨h.1, ?_⟩
  rcases h.2 with h | ⟨g, cap, cur, fz, h1, h2, h3, h4⟩
  · exact .inl h
  · exact .inr ⟨g, cap, cur, fz, h1, h2, (hb.block g (hv g (by rw [h1]; rfl))).trans h3, h4⟩
end Go.Proofs.Ytaahblbkigkfcaa
