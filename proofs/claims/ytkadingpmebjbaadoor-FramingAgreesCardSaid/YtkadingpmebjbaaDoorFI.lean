/- Fields: what must be in any case; fields that are lent. -/
import Derived.Test.YtkadingpmebjbaaDoorFH
set_option linter.unusedVariables false
namespace Go.Proofs.YtkadingpmebjbaaDoor
open Go.RowKit

theorem lit_flds (l : AL) (C : Array Value) (hC : C = (flat l).toArray) (wx : World) : SrcA (wx.alloc (.cells C 47)) (some ⟨wx.heap.size, 0, none⟩) l.length l := by
  refine ⟨fun j hj => ?_, Nat.le_refl _, fun h => by cases h⟩
  obtain ⟨h1, h2⟩ := flat_at l j hj
  refine ⟨_, 0, rfl, by simp, ?_, ?_⟩
  · rw [(at_alloc wx C 47 _).1, hC, Nat.zero_add, List.getElem?_toArray]; exact h1
  · rw [(at_alloc wx C 47 _).1, hC, Nat.zero_add, List.getElem?_toArray]; exact h2
theorem lit_strl (l : List ByteArray) (C : Array Value) (hC : C = (strs l).toArray) (wx : World) : SrcS (wx.alloc (.cells C 9)) (some ⟨wx.heap.size, 0, none⟩) l.length l := by
  refine ⟨fun j hj => ?_, Nat.le_refl _, fun h => by cases h⟩
  refine ⟨_, 0, rfl, by simp, ?_⟩
  rw [(at_alloc wx C 9 _).1, hC, Nat.zero_add, List.getElem?_toArray]
  simp [strs, hj]
def kF : AL := [(⟨#[72, 111, 115, 116]⟩, ⟨#[97]⟩), (⟨#[120]⟩, ⟨#[49, 44, 32, 50]⟩), (⟨#[88]⟩, ⟨#[34, 51, 44, 52, 34]⟩), (⟨#[121]⟩, ⟨#[]⟩)]
theorem kF_mem : memF (allF kF ⟨#[120]⟩) = some [[49], [50], [34, 51, 44, 52, 34]] := by kernel_rfl
theorem kF_host : allF kF ⟨#[72, 79, 83, 84]⟩ = [⟨#[97]⟩] := by kernel_rfl
theorem kF_wo : woF kF [⟨#[120]⟩, ⟨#[104, 111, 115, 116]⟩] = [(⟨#[121]⟩, ⟨#[]⟩)] := by kernel_rfl
theorem kF_text : fText [(⟨#[121]⟩, ⟨#[]⟩)] = ⟨#[121, 58, 13, 10]⟩ := by kernel_rfl
theorem kF_asz : asz kF ≤ 1073741824 := by decide

set_option maxHeartbeats 16000000 in
set_option maxRecDepth 100000 in
theorem shown4_any (w : World) :
    Calls Tryd.prog 18 #[] w fun e w' => e = .returned (.bool true) ∧ Below w.heap.size w w' := by
  have hm := fun (a : Option Addr) c wx (hs : SrcA wx a c kF) => members_any kF ⟨#[120]⟩ a 4 c wx rfl hs kF_asz (by decide)
  rw [kF_mem] at hm
  have hc := fun (a : Option Addr) c wx (hs : SrcA wx a c kF) => count_any kF ⟨#[72, 79, 83, 84]⟩ a 4 c wx rfl hs kF_asz (by decide)
  rw [kF_host] at hc
  have hw := fun (a b : Option Addr) c d wx (hs : SrcA wx a c kF) (hs2 : SrcS wx b d [⟨#[120]⟩, ⟨#[104, 111, 115, 116]⟩]) => without_any kF [⟨#[120]⟩, ⟨#[104, 111, 115, 116]⟩] a b 4 c 2 d wx rfl rfl hs hs2 kF_asz (by decide)
  rw [kF_wo] at hw
  have ht := fun (a : Option Addr) c wx (hs : SrcA wx a c [(⟨#[121]⟩, ⟨#[]⟩)]) => ftext_any [(⟨#[121]⟩, ⟨#[]⟩)] a 1 c wx rfl hs (by decide)
  rw [kF_text] at ht
  have HM : Hid (∀ (a : Option Addr) c wx, SrcA wx a c kF → Calls Tryd.prog 32 #[.slice a 4 c, .string ⟨#[120]⟩] wx fun e w' => Below wx.heap.size wx w' ∧ ∃ v, e = .returned (.tuple #[v, .int .i64 0]) ∧ OwnS w' wx.heap.size v ([[49], [50], [34, 51, 44, 52, 34]].map mk)) := Lib.hid hm
  have HC : Hid (∀ (a : Option Addr) c wx, SrcA wx a c kF → Calls Tryd.prog 28 #[.slice a 4 c, .string ⟨#[72, 79, 83, 84]⟩] wx fun e w' => e = .returned (.int .i64 1) ∧ Below wx.heap.size wx w') := Lib.hid hc
  have HW : Hid (∀ (a b : Option Addr) c d wx, SrcA wx a c kF → SrcS wx b d [⟨#[120]⟩, ⟨#[104, 111, 115, 116]⟩] → Calls Tryd.prog 29 #[.slice a 4 c, .slice b 2 d] wx fun e w' => Below wx.heap.size wx w' ∧ ∃ v, e = .returned v ∧ OwnF w' wx.heap.size v [(⟨#[121]⟩, ⟨#[]⟩)]) := Lib.hid hw
  have HT : Hid (∀ (a : Option Addr) c wx, SrcA wx a c [(⟨#[121]⟩, ⟨#[]⟩)] → Calls Tryd.prog 22 #[.slice a 1 c] wx fun e w' => e = .returned (.string ⟨#[121, 58, 13, 10]⟩) ∧ Below wx.heap.size wx w') := Lib.hid ht
  have hs0 : SrcA (w.alloc (.cells #[.string ⟨#[72, 111, 115, 116]⟩, .string ⟨#[97]⟩, .string ⟨#[120]⟩, .string ⟨#[49, 44, 32, 50]⟩, .string ⟨#[88]⟩, .string ⟨#[34, 51, 44, 52, 34]⟩, .string ⟨#[121]⟩, .string ⟨#[]⟩] 47)) (some ⟨w.heap.size, 0, none⟩) 4 kF := lit_flds kF _ rfl w
  have HS0 := Lib.hid hs0
  have HB0 : Hid (Below w.heap.size w (w.alloc (.cells #[.string ⟨#[72, 111, 115, 116]⟩, .string ⟨#[97]⟩, .string ⟨#[120]⟩, .string ⟨#[49, 44, 32, 50]⟩, .string ⟨#[88]⟩, .string ⟨#[34, 51, 44, 52, 34]⟩, .string ⟨#[121]⟩, .string ⟨#[]⟩] 47))) := Lib.hid ((Below.refl _ _).alloc (Nat.le_refl _) _)
  clear hm hc hw ht hs0
  go_enter Tryd.func18, Tryd.ntmps18
  go_wp2_with fail
  refine (HM.out _ _ _ HS0.out).mono ?_; rintro e w1 ⟨hb, v, rfl, hown⟩
  obtain ⟨va, vc, hv, hsrc⟩ := ownS_src hown
  have hv : v = .slice va 3 vc := hv
  subst hv
  have HB1 := Lib.hid (HB0.out.trans (hb.mono HB0.out.size))
  have HS1 := Lib.hid (HS0.out.below (Nat.le_refl _) hb)
  clear hb hown hsrc
  go_wp2_with fail
  refine (HC.out _ _ _ HS1.out).mono ?_; rintro e w2 ⟨rfl, hb⟩
  have HB2 := Lib.hid (HB1.out.trans (hb.mono HB1.out.size))
  have HS2 := Lib.hid (HS1.out.below (Nat.le_refl _) hb)
  clear hb
  have HS3 : Hid (SrcA (w2.alloc (.cells #[.string ⟨#[120]⟩, .string ⟨#[104, 111, 115, 116]⟩] 9)) (some ⟨w.heap.size, 0, none⟩) 4 kF) := Lib.hid (HS2.out.below (Nat.le_refl _) ((Below.refl _ _).alloc (Nat.le_refl _) _))
  have HN3 : Hid (SrcS (w2.alloc (.cells #[.string ⟨#[120]⟩, .string ⟨#[104, 111, 115, 116]⟩] 9)) (some ⟨w2.heap.size, 0, none⟩) 2 [⟨#[120]⟩, ⟨#[104, 111, 115, 116]⟩]) := Lib.hid (lit_strl [⟨#[120]⟩, ⟨#[104, 111, 115, 116]⟩] _ rfl w2)
  have HB3 : Hid (Below w.heap.size w (w2.alloc (.cells #[.string ⟨#[120]⟩, .string ⟨#[104, 111, 115, 116]⟩] 9))) := Lib.hid (HB2.out.alloc HB2.out.size _)
  go_wp2_with fail
  refine (HW.out _ _ _ _ _ HS3.out HN3.out).mono ?_; rintro e w3 ⟨hb, v, rfl, hown⟩
  obtain ⟨vb, vd, hv, hsrc, _⟩ := ownF_src hown
  have hv : v = .slice vb 1 vd := hv
  subst hv
  have HB4 := Lib.hid (HB3.out.trans (hb.mono HB3.out.size))
  have HS4 := Lib.hid hsrc
  clear hb hown hsrc
  go_wp2_with fail
  refine (HT.out _ _ _ HS4.out).mono ?_; rintro e w4 ⟨rfl, hb⟩
  have HB5 := Lib.hid (HB4.out.trans (hb.mono HB4.out.size))
  clear hb
  go_wp2
  go_ret
  exact ⟨rfl, HB5.out⟩

def bang : ByteArray × ByteArray := (⟨#[33]⟩, ⟨#[]⟩)
def LentSays (l : AL) (w : World) (e : Ending) (w' : World) : Prop :=
  Below w.heap.size w w' ∧ ∃ g cap, e = .returned (.slice (some ⟨g, 0, none⟩) l.length cap) ∧ w.heap.size ≤ g ∧ SrcA w' (some ⟨g, 0, none⟩) cap (l ++ [bang])
theorem srcA_first {w : World} {a : Option Addr} {c : Nat} {l r : AL} (h : SrcA w a c (l ++ r)) : SrcA w a c l :=
  ⟨fun j hj => by
    obtain ⟨b, o, h1, h2, h3, h4⟩ := h.at_ j (by simp; omega)
    rw [List.getElem_append_left hj] at h3 h4
    exact ⟨b, o, h1, h2, h3, h4⟩, by have := h.cap; rw [List.length_append] at this; omega, fun e => ⟨by have := (h.nil e).1; exact (List.append_eq_nil_iff.1 this).1, (h.nil e).2⟩⟩
theorem srcA_last {w : World} {g c : Nat} {l : AL} (h : SrcA w (some ⟨g, 0, none⟩) c (l ++ [bang])) : g < w.heap.size ∧ w.cell? ⟨g, l.length * 2, none⟩ = some (.string ⟨#[33]⟩) ∧ l.length + 1 ≤ c := by
  obtain ⟨b, o, h1, h2, h3, h4⟩ := h.at_ l.length (by simp)
  rw [List.getElem_append_right (Nat.le_refl _)] at h3
  simp only [Nat.sub_self, List.getElem_cons_zero] at h3
  simp only [Option.some.injEq, Addr.mk.injEq] at h1
  obtain ⟨rfl, rfl, _⟩ := h1
  rw [Nat.zero_add] at h3
  exact ⟨h2, h3, by have := h.cap; simpa using this⟩
theorem made_flds (w : World) (base : Nat) (h : base ≤ w.heap.size) (C : Array Value) (hC : C = #[]) : OwnF (w.alloc (.cells C 47)) base (.slice (some ⟨w.heap.size, 0, none⟩) 0 0) [] := by
  subst hC
  exact World.ownsRow_made w #[] 0 h (by unfold maxLen; omega) (by simp)
theorem lentSays {l : AL} {g n cap : Nat} {w w' : World} (hb : Below w.heap.size w w') (hn : l.length = n) (hg : w.heap.size ≤ g) (hs : SrcA w' (some ⟨g, 0, none⟩) cap (l ++ [bang])) : LentSays l w (.returned (.slice (some ⟨g, 0, none⟩) n cap)) w' := by
  subst hn; exact ⟨hb, g, cap, rfl, hg, hs⟩

set_option maxHeartbeats 8000000 in
set_option maxRecDepth 100000 in
theorem lent_any (l : AL) (av : Option Addr) (n c : Nat) (w : World) (hn : l.length = n) (hs : SrcA w av c l) (hnb : n ≤ 1073741824) :
    Calls Tryd.prog 19 #[.slice av n c] w (LentSays l w) := by
  have HS := Lib.hid (hs.below (Nat.le_refl _) ((Below.refl _ _).alloc (Nat.le_refl _) (.cells #[] 47)))
  have HM := Lib.hid (made_flds w w.heap.size (Nat.le_refl _) #[] rfl)
  have HZ : Hid (w.heap.size ≤ (w.alloc (.cells #[] 47)).heap.size) := Lib.hid (by simp)
  have HB0 : Hid (Below w.heap.size w (w.alloc (.cells #[] 47))) := Lib.hid ((Below.refl _ _).alloc (Nat.le_refl _) _)
  have HN := Lib.hid hn
  clear hs hn
  go_enter Tryd.func19, Tryd.ntmps19
  go_wp2_with (at_builtin; refine app_flds rfl _ _ rfl w.heap.size _ [] rfl HM.out av c n l HN.out rfl HS.out ?n1 HZ.out ?_)
  case n1 => rw [HN.out]; simp; omega
  intro v1 w1 hown1 hb1 _
  have HB1 : Hid (Below w.heap.size w w1) := Lib.hid (HB0.out.trans hb1.out)
  have HO1 : Hid (OwnF (w1.alloc (.cells #[.string ⟨#[33]⟩, .string ⟨#[]⟩] 47)) w.heap.size v1 l) := Lib.hid (ownF_alloc hown1 _)
  have HL := Lib.hid (lit_fld ⟨#[33]⟩ ⟨#[]⟩ w1)
  have HB2 : Hid (Below w.heap.size w (w1.alloc (.cells #[.string ⟨#[33]⟩, .string ⟨#[]⟩] 47))) := Lib.hid (HB1.out.alloc HB1.out.size _)
  clear hown1 hb1
  go_wp2_with (at_builtin; refine app_flds rfl _ _ rfl w.heap.size _ l rfl HO1.out _ 1 1 [bang] rfl rfl HL.out ?n2 HB2.out.size ?_)
  case n2 => rw [HN.out]; show (_ + 1) * 32 ≤ _; omega
  intro v2 w2 hown2 hb2 _
  have HB3 : Hid (Below w.heap.size w w2) := Lib.hid (HB2.out.trans hb2.out)
  obtain ⟨a2, c2, rfl, hs2, hx⟩ := ownF_src hown2
  obtain ⟨g, hg⟩ : ∃ g, a2 = some ⟨g, 0, none⟩ ∧ w.heap.size ≤ g := by
    cases a2 with
    | none => have := (hs2.nil rfl).1; simp at this
    | some x => obtain ⟨h1, h2⟩ := hx x rfl; exact ⟨x.block, by rw [h1], h2⟩
  obtain ⟨rfl, hge⟩ := hg
  have hlen : (l ++ [bang]).length = n + 1 := by rw [List.length_append, HN.out]; rfl
  rw [hlen]
  have hcap : n + 1 ≤ c2 := by have := hs2.cap; omega
  have HS2 := Lib.hid hs2
  clear hown2 hb2 hs2 hx hlen
  go_wp2
  go_ret
  exact lentSays HB3.out HN.out hge HS2.out

set_option maxHeartbeats 8000000 in
set_option maxRecDepth 100000 in
theorem kept_any (l : AL) (av : Option Addr) (n c g cap : Nat) (w : World) (hn : l.length = n) (hs : SrcA w av c l) (hl : SrcA w (some ⟨g, 0, none⟩) cap (l ++ [bang])) (hnb : n ≤ 1073741824) :
    Calls Tryd.prog 23 #[.slice (some ⟨g, 0, none⟩) n cap, .slice av n c] w fun e w' => e = .returned (.bool true) ∧ Below w.heap.size w w' := by
  obtain ⟨hg, hc, hcap⟩ := srcA_last hl
  rw [hn] at hc hcap
  have HSA := Lib.hid (rfSame_eq (some ⟨g, 0, none⟩) av n cap c l w hn (srcA_first hl) hs (by omega))
  have HC := Lib.hid hc
  clear hs hl hn hc
  go_enter Tryd.func23, Tryd.ntmps23
  go_wp2_with fail
  refine HSA.out.mono ?_; rintro e w1 ⟨rfl, hb⟩
  have c1 := (hb.cell (p := ⟨g, n * 2, none⟩) hg).trans HC.out
  have HB := Lib.hid hb
  clear hb
  go_wp2
  go_ret
  exact ⟨rfl, HB.out⟩
end Go.Proofs.YtkadingpmebjbaaDoor
