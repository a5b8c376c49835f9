/- Fields: what must be in any case; fields that are lent. -/
import Derived.Test.YthkgaaibhjkngaaGreatDoorHD
set_option linter.unusedVariables false
namespace Go.Proofs.YthkgaaibhjkngaaGreatDoor
open Go.RowKit

def bang : ByteArray × ByteArray := (⟨#[33]⟩, ⟨#[]⟩)
def LentSays (l : AL) (w : World) (e : Ending) (w' : World) : Prop :=
  Below w.heap.size w w' ∧ ∃ g cap, e = .returned (.slice (some ⟨g, 0, none⟩) l.length cap) ∧ w.heap.size ≤ g ∧ SrcA w' (some ⟨g, 0, none⟩) cap (l ++ [bang])
theorem srcA_first {w : World} {a : Option Addr} {c : Nat} {l r : AL} (h : SrcA w a c (l ++ r)) : SrcA w a c l :=
  ⟨fun j hj => by
    obtain ⟨b, o, h1, h2, h3, h4⟩ := h.at_ j (by simp; omega)
    rw [List.getElem_append_left hj] at h3 h4
    exact ⟨b, o, h1, h2, h3, h4⟩, by have := h.cap; rw [List.length_append] at this; omega, fun e => ⟨by have := (h.nil e).1; exact (List.append_eq_nil_iff.1 this).1, (h.nil e).2⟩⟩
theorem srcA_last {w : World} {g c : Nat} {l : AL} (h : SrcA w (some ⟨g, 0, none⟩) c (l ++ [bang])) : g < w.heap.size ∧ w.cell? ⟨g, l.length * 2, none⟩ = some (.string ⟨#[33]⟩) ∧ l.length + 1 ≤ c := by
  obtain ⟨b, o, h1, h2, h3, h4⟩ := h.at_ l.length (by simp)
  rw [List.getElem_append_right (Nat.le_refl _)] at h3
  simp only [Nat.sub_self, List.getElem_cons_zero] at h3
  simp only [Option.some.injEq, Addr.mk.injEq] at h1
  obtain ⟨rfl, rfl, _⟩ := h1
  rw [Nat.zero_add] at h3
  exact ⟨h2, h3, by have := h.cap; simpa using this⟩
theorem made_flds (w : World) (base : Nat) (h : base ≤ w.heap.size) (C : Array Value) (hC : C = #[]) : OwnF (w.alloc (.cells C 37)) base (.slice (some ⟨w.heap.size, 0, none⟩) 0 0) [] := by
  subst hC
  exact World.ownsRow_made w #[] 0 h (by unfold maxLen; omega) (by simp)
theorem lentSays {l : AL} {g n cap : Nat} {w w' : World} (hb : Below w.heap.size w w') (hn : l.length = n) (hg : w.heap.size ≤ g) (hs : SrcA w' (some ⟨g, 0, none⟩) cap (l ++ [bang])) : LentSays l w (.returned (.slice (some ⟨g, 0, none⟩) n cap)) w' := by
  subst hn; exact ⟨hb, g, cap, rfl, hg, hs⟩

set_option maxHeartbeats 8000000 in
set_option maxRecDepth 100000 in
theorem lent_any (l : AL) (av : Option Addr) (n c : Nat) (w : World) (hn : l.length = n) (hs : SrcA w av c l) (hnb : n ≤ 1073741824) :
    Calls Tryz.prog 15 #[.slice av n c] w (LentSays l w) := by
  have HS := Lib.hid (hs.below (Nat.le_refl _) ((Below.refl _ _).alloc (Nat.le_refl _) (.cells #[] 37)))
  have HM := Lib.hid (made_flds w w.heap.size (Nat.le_refl _) #[] rfl)
  have HZ : Hid (w.heap.size ≤ (w.alloc (.cells #[] 37)).heap.size) := Lib.hid (by simp)
  have HB0 : Hid (Below w.heap.size w (w.alloc (.cells #[] 37))) := Lib.hid ((Below.refl _ _).alloc (Nat.le_refl _) _)
  have HN := Lib.hid hn
  clear hs hn
  go_enter Tryz.func15, Tryz.ntmps15
  go_wp2_with (at_builtin; refine app_flds rfl _ _ rfl w.heap.size _ [] rfl HM.out av c n l HN.out rfl HS.out ?n1 HZ.out ?_)
  case n1 => rw [HN.out]; simp; omega
  intro v1 w1 hown1 hb1 _
  have HB1 : Hid (Below w.heap.size w w1) := Lib.hid (HB0.out.trans hb1.out)
  have HO1 : Hid (OwnF (w1.alloc (.cells #[.string ⟨#[33]⟩, .string ⟨#[]⟩] 37)) w.heap.size v1 l) := Lib.hid (ownF_alloc hown1 _)
  have HL := Lib.hid (lit_fld ⟨#[33]⟩ ⟨#[]⟩ w1)
  have HB2 : Hid (Below w.heap.size w (w1.alloc (.cells #[.string ⟨#[33]⟩, .string ⟨#[]⟩] 37))) := Lib.hid (HB1.out.alloc HB1.out.size _)
  clear hown1 hb1
  go_wp2_with (at_builtin; refine app_flds rfl _ _ rfl w.heap.size _ l rfl HO1.out _ 1 1 [bang] rfl rfl HL.out ?n2 HB2.out.size ?_)
  case n2 => rw [HN.out]; show (_ + 1) * 32 ≤ _; omega
  intro v2 w2 hown2 hb2 _
  have HB3 : Hid (Below w.heap.size w w2) := Lib.hid (HB2.out.trans hb2.out)
  obtain ⟨a2, c2, rfl, hs2, hx⟩ := ownF_src hown2
  obtain ⟨g, hg⟩ : ∃ g, a2 = some ⟨g, 0, none⟩ ∧ w.heap.size ≤ g := by
    cases a2 with
    | none => have := (hs2.nil rfl).1; simp at this
    | some x => obtain ⟨h1, h2⟩ := hx x rfl; exact ⟨x.block, by rw [h1], h2⟩
  obtain ⟨rfl, hge⟩ := hg
  have hlen : (l ++ [bang]).length = n + 1 := by rw [List.length_append, HN.out]; rfl
  rw [hlen]
  have hcap : n + 1 ≤ c2 := by have := hs2.cap; omega
  have HS2 := Lib.hid hs2
  clear hown2 hb2 hs2 hx hlen
  go_wp2
  go_ret
  exact lentSays HB3.out HN.out hge HS2.out

set_option maxHeartbeats 8000000 in
set_option maxRecDepth 100000 in
theorem kept_any (l : AL) (av : Option Addr) (n c g cap : Nat) (w : World) (hn : l.length = n) (hs : SrcA w av c l) (hl : SrcA w (some ⟨g, 0, none⟩) cap (l ++ [bang])) (hnb : n ≤ 1073741824) :
    Calls Tryz.prog 21 #[.slice (some ⟨g, 0, none⟩) n cap, .slice av n c] w fun e w' => e = .returned (.bool true) ∧ Below w.heap.size w w' := by
  obtain ⟨hg, hc, hcap⟩ := srcA_last hl
  rw [hn] at hc hcap
  have HSA := Lib.hid (rfSame_eq (some ⟨g, 0, none⟩) av n cap c l w hn (srcA_first hl) hs (by omega))
  have HC := Lib.hid hc
  clear hs hl hn hc
  go_enter Tryz.func21, Tryz.ntmps21
  go_wp2_with fail
  refine HSA.out.mono ?_; rintro e w1 ⟨rfl, hb⟩
  have c1 := (hb.cell (p := ⟨g, n * 2, none⟩) hg).trans HC.out
  have HB := Lib.hid hb
  clear hb
  go_wp2
  go_ret
  exact ⟨rfl, HB.out⟩
end Go.Proofs.YthkgaaibhjkngaaGreatDoor
