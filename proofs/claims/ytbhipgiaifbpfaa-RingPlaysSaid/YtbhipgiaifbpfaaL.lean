/- The document's queue: Put and Take. -/
import Derived.Test.YtbhipgiaifbpfaaK
namespace Go.Proofs.Ytbhipgiaifbpfaa
open Go.RowKit

theorem own_base {w : World} {B B' : Nat} {v : Value} {n : Nat} {xs : List Value} (h : w.ownsRow B' 5 1 v n xs) (hB : B ≤ B') : w.ownsRow B 5 1 v n xs := by
  refine ⟨h.1, ?_⟩
  rcases h.2 with hn | ⟨g, cap, cur, hv, hb, rest⟩
  · exact .inl hn
  · exact .inr ⟨g, cap, cur, hv, Nat.le_trans hB hb, rest⟩
theorem own_slice {w : World} {B n : Nat} {v : Value} {xs : List Value} (h : w.ownsRow B 5 1 v n xs) : ∃ a c, v = .slice a n c := by
  rcases h.2 with ⟨rfl, h0⟩ | ⟨g, cap, cur, rfl, _⟩
  · exact ⟨none, 0, by rw [h0]⟩
  · exact ⟨_, cap, rfl⟩
theorem Reads.drop {w : World} {a : Option Addr} {m c : Nat} {l : List UInt8} (h : Reads w a m l) (k : Nat) (hk : k ≤ m) (hc : m ≤ c) : Reads w (if c = k then a else Option.map (fun x => x.add k) a) (m - k) (l.drop k) := by
  have hl := h.len
  refine ⟨by rw [List.length_drop]; omega, fun j hj => ?_⟩
  rw [List.length_drop] at hj
  obtain ⟨x, hx, hcx⟩ := h.cells (k + j) (by omega)
  rw [if_neg (by omega), hx]
  refine ⟨_, rfl, ?_⟩
  rw [List.getElem_drop]
  have : ((x.add k).add j) = x.add (k + j) := by
    simp only [Addr.add]
    split <;> split <;> split <;> simp_all <;> omega
  rw [this]
  exact hcx
theorem RefR.stored {w : World} {C most B : Nat} {v v' : Value} {O : List UInt8} (h : w.heap[C]? = some (.cells #[.int .i64 most, v] 30 (0, 0))) (ho : w.ownsRow B 5 1 v' O.length (O.map byte)) (hC : C < B) (hB : B ≤ w.heap.size) :
    RefR (w.setCell ⟨C, 1, none⟩ v') C most B v' O ∧ Keeps C C w (w.setCell ⟨C, 1, none⟩ v') := by
  have e1 := setCell_eq_setRow w C 1 _ 30 (0, 0) v' h
  rw [e1]
  have h1 := setRow_heap w C _ (#[Value.int .i64 most, v].setIfInBounds 1 v') 30 (0, 0) h
  have hk : Keeps C C w (w.setRow C (#[Value.int .i64 most, v].setIfInBounds 1 v')) := Keeps.setRow C C w C _ (.inl rfl)
  exact ⟨⟨h1, own_keeps ho hk hC hC, hC, by rw [setRow_size]; exact hB⟩, hk⟩

set_option maxHeartbeats 1000000 in
theorem reftake_any (w : World) (C most B : Nat) (v : Value) (O : List UInt8) (h : RefR w C most B v O) (N : Int) (k : Nat) (hO : O.length ≤ 4096)
    (hk : (if N < 0 then 0 else if (O.length : Int) < N then (O.length : Int) else N) = (k : Int)) :
    Calls Try.prog 15 #[.pointer (some ⟨C, 0, none⟩), .int .i64 N] w fun e w' => ∃ u v', e = .returned u ∧ w'.ownsRow w.heap.size 5 1 u k ((O.take k).map byte) ∧ RefR w' C most B v' (O.drop k) ∧ Keeps C C w w' ∧ w'.ownsRow w.heap.size 5 1 v' (O.drop k).length ((O.drop k).map byte) := by
  have hp := refpeek_any w C most B v O h N k hO hk
  have hCl : C < w.heap.size := Nat.lt_of_lt_of_le h.cb h.bb
  have hCB := h.cb
  have hBB := h.bb
  have hkO : k ≤ O.length := by split at hk; omega; split at hk <;> omega
  obtain ⟨a, c, rfl, hc, hr⟩ := own_form h.own
  have HP := Lib.hid hp
  have HR := Lib.hid hr
  have HH := Lib.hid h
  clear hp hr hk h
  go_enter Try.func15, Try.ntmps15
  go_wp2_with fail
  refine HP.out.mono ?_
  rintro e w1 ⟨u, rfl, hou, hb⟩
  have hr1 := HR.out.below hb
  have hsz := hb.size
  have hstr : w1.heap[C]? = some (.cells #[.int .i64 most, .slice a O.length c] 30 (0, 0)) := (hb.block C hCl).trans HH.out.str
  have c1 : w1.cell? ⟨C, 1, none⟩ = some (.slice a O.length c) := by unfold World.cell?; simp only [hstr]; rfl
  have f1 : w1.frozen? ⟨C, 1, none⟩ = false := by unfold World.frozen?; simp only [hstr]; simp
  have hCl1 : C < w1.heap.size := by omega
  obtain ⟨ua, uc, rfl⟩ := own_slice hou
  have hsl := slice_from a O.length c k hkO hc
  have hrd : ∀ fr, Reads (w1.alloc (.cells #[] 5 fr)) (if c = k then a else Option.map (fun x => x.add k) a) (O.length - k) (O.drop k) := fun fr => (hr1.drop k hkO hc).below ((Below.refl _ _).alloc (Nat.le_refl _) _)
  generalize (if c = k then a else Option.map (fun x => x.add k) a) = a2 at hsl hrd
  have hO2 : O.length - k ≤ 4096 := by omega
  have hfin : ∀ fr, fr = (0, 0) → ∀ v' w2, w2.ownsRow w1.heap.size 5 1 v' (O.length - k) (([] ++ O.drop k).map byte) → (w1.alloc (.cells #[] 5 fr)).grownBy w2 (some w1.heap.size) →
      (w2.cell? ⟨C, 1, none⟩ = some (.slice a O.length c) ∧ w2.frozen? ⟨C, 1, none⟩ = false) ∧ ((w2.setCell ⟨C, 1, none⟩ v').ownsRow w.heap.size 5 1 (.slice ua k uc) k ((O.take k).map byte) ∧ RefR (w2.setCell ⟨C, 1, none⟩ v') C most B v' (O.drop k) ∧ Keeps C C w (w2.setCell ⟨C, 1, none⟩ v') ∧ (w2.setCell ⟨C, 1, none⟩ v').ownsRow w.heap.size 5 1 v' (O.drop k).length ((O.drop k).map byte)) := fun fr _ v' w2 h1 h2 => by
    have ho3 : w2.ownsRow w.heap.size 5 1 v' (O.drop k).length ((O.drop k).map byte) := by
      have := own_base h1 (B := w.heap.size) (by omega)
      simpa using this
    have hb2 : Below w1.heap.size w1 w2 := ((Below.refl _ _).alloc (Nat.le_refl _) _).trans (below_grown h2 (fun g e => by cases e; exact Nat.le_refl _) (by simp))
    have hs2 : w2.heap[C]? = some (.cells #[.int .i64 most, .slice a O.length c] 30 (0, 0)) := (hb2.block C hCl1).trans hstr
    have hsz2 := hb2.size
    have ho2 : w2.ownsRow B 5 1 v' (O.drop k).length ((O.drop k).map byte) := by
      have := own_base h1 (B := B) (by omega)
      simpa using this
    obtain ⟨hR, hK⟩ := RefR.stored (v' := v') hs2 ho2 hCB (by omega)
    refine ⟨⟨by unfold World.cell?; simp only [hs2]; rfl, by unfold World.frozen?; simp only [hs2]; simp⟩, ?_, hR, ((Keeps.of_below hb).trans (Keeps.of_below hb2)).trans hK, own_keeps ho3 hK hCl hCl⟩
    exact own_keeps (own_keeps hou (Keeps.of_below (S := C) (D := C) hb2) hCl hCl) hK hCl hCl
  have HRD := Lib.hid hrd
  have HF := Lib.hid hfin
  clear hr1 hrd hfin hou hb hstr HP HR HH
  generalize hT : O.drop k = T at HRD HF
  have HT := Lib.hid hT
  clear hT
  generalize O.length = n at *
  go_wp2_with (at_builtin; refine list_app (by rfl) (.tmp 10) (.tmp 17) (by rfl) w1.heap.size _ 0 [] (by rfl) (own_empty w1 _ rfl) a2 (n - k) (c - k) T (by rfl) (HRD.out _) (by omega) (by simp) ?_; intro v' w2 ho hg _; rw [Nat.zero_add] at ho; obtain ⟨va, vc, rfl⟩ := own_slice ho; have HX := Lib.hid (HF.out _ rfl _ w2 ho hg).2; obtain ⟨c2, f2⟩ := (HF.out _ rfl _ w2 ho hg).1; clear ho hg)
  go_ret
  obtain rfl := HT.out
  exact ⟨_, _, rfl, HX.out⟩
end Go.Proofs.Ytbhipgiaifbpfaa
