/- A decoder: what it holds; New, Held, Close. -/
import Derived.Test.YtaahblbkigkfcaaAH
set_option linter.unusedVariables false
namespace Go.Proofs.Ytaahblbkigkfcaa
open Go.RowKit

/-- a decoder at D that holds these bytes -/
def DecAt (w : World) (base D : Nat) (h : List UInt8) : Prop := base ≤ D ∧ ∃ v, w.heap[D]? = some (.cells #[v] 58 (0, 0)) ∧ OwnB w base v h
theorem DecAt.lt {w : World} {base D : Nat} {h : List UInt8} (hd : DecAt w base D h) : D < w.heap.size := by
  obtain ⟨_, v, hbk, _⟩ := hd
  exact (Array.getElem?_eq_some_iff.1 hbk).1

theorem new_any (base : Nat) (w : World) (hb : base ≤ w.heap.size) :
    Calls Try.prog 23 #[] w fun e w' => e = .returned (.pointer (some ⟨w.heap.size, 0, none⟩)) ∧ DecAt w' base w.heap.size [] ∧ Below base w w' := by
  go_enter Try.func23, Try.ntmps23
  go_wp2
  go_ret
  exact ⟨rfl, ⟨hb, .slice none 0 0, by show (w.heap.push _)[w.heap.size]? = _; simp, World.ownsRow_nil _ _ _ _⟩, (Below.refl _ _).alloc hb _⟩

theorem held_any (base D : Nat) (h : List UInt8) (w : World) (hd : DecAt w base D h) :
    Calls Try.prog 26 #[.pointer (some ⟨D, 0, none⟩)] w fun e w' => e = .returned (.int .i64 h.length) ∧ w = w' := by
  obtain ⟨hBD, v, hbk, hown⟩ := hd
  obtain ⟨a, c, rfl, _, hs⟩ := own_src hown
  have c0 : w.cell? ⟨D, 0, none⟩ = some (.slice a h.length c) := by rw [Lib.cell_of_heap hbk]; rfl
  clear hbk hown hs hBD
  go_enter Try.func26, Try.ntmps26
  go_wp2
  go_ret
  exact ⟨rfl, rfl⟩

theorem close_any (base D : Nat) (h : List UInt8) (w : World) (hd : DecAt w base D h) (hlen : h.length ≤ 4194304) :
    Calls Try.prog 27 #[.pointer (some ⟨D, 0, none⟩)] w fun e w' => e = .returned (.string ⟨(dec h).toArray⟩) ∧ DecAt w' base D [] ∧ Below base w w' := by
  have hlt := hd.lt
  obtain ⟨hBD, v, hbk, hown⟩ := hd
  have hne := Lib.ownBlock_neF (World.ownsRowF_of hown) hbk (by decide)
  obtain ⟨a, c, rfl, _, hs⟩ := own_src hown
  have c0 : w.cell? ⟨D, 0, none⟩ = some (.slice a h.length c) := by rw [Lib.cell_of_heap hbk]; rfl
  have f0 : w.frozen? ⟨D, 0, none⟩ = false := Lib.frozen_of_heap hbk 0
  have hk : Kp (fun k => k ≠ D) w (w.setCell ⟨D, 0, none⟩ (.slice none 0 0)) := (Kp.refl _ _).setCell (x := ⟨D, 0, none⟩) (fun h => h rfl) _
  have hs1 := hs.kp hk (fun sb so e => by intro e2; subst e2; subst e; exact hne rfl)
  have hdc := dec_any a c h _ hs1.bytes hs1.cap hlen hs1.big
  have hbk1 : (w.setCell ⟨D, 0, none⟩ (.slice none 0 0)).heap[D]? = some (.cells #[.slice none 0 0] 58 (0, 0)) := by simp [World.setCell, Array.getElem?_modify, hbk]
  have hb1 : Below base w (w.setCell ⟨D, 0, none⟩ (.slice none 0 0)) := (Below.refl _ _).setCell (p := ⟨D, 0, none⟩) hBD _
  have hsz : w.heap.size ≤ (w.setCell ⟨D, 0, none⟩ (.slice none 0 0)).heap.size := hb1.size
  have HDC := Lib.hid hdc
  have HBK := Lib.hid hbk1
  have HB := Lib.hid hb1
  have HSZ := Lib.hid hsz
  have HBD := Lib.hid hBD
  have HLT := Lib.hid hlt
  clear hbk hown hs hBD hlt hne hk hs1 hdc hbk1 hb1 hsz
  go_enter Try.func27, Try.ntmps27
  go_wp2_with fail
  refine HDC.out.mono ?_; rintro e w2 ⟨rfl, hb⟩
  have HB2 := Lib.hid hb
  clear hb
  go_wp2
  go_ret
  have h1 := HSZ.out
  have h2 := HLT.out
  have h3 := HBD.out
  refine ⟨rfl, ⟨h3, .slice none 0 0, (HB2.out.block D (by omega)).trans HBK.out, World.ownsRow_nil _ _ _ _⟩, HB.out.trans (HB2.out.mono (by omega))⟩
end Go.Proofs.Ytaahblbkigkfcaa
