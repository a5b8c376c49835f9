/- FramingSays. -/
import Derived.Test.YtkadingpmebjbaaDoorQH
set_option linter.unusedVariables false
namespace Go.Proofs.YtkadingpmebjbaaDoor
open Go.RowKit

theorem box_at {w w2 : World} {cs : Array Value} {t : TypeId} (h : Below (w.alloc (.cells cs t)).heap.size (w.alloc (.cells cs t)) w2) (j : Nat) : w2.cell? ⟨w.heap.size, j, none⟩ = cs[j]? := (res_cells w w2 cs t h j).1.1
theorem box_next {w w2 w3 : World} {o : Obj} (h : Below w.heap.size w w2) (h2 : Below (w2.alloc o).heap.size (w2.alloc o) w3) : Below w.heap.size w w3 := app_below h (one_below _ _ _ h2)
def BdIs (R : Bd) (f : FuncId) (args : Array Value) (wx : World) : Prop := Calls Tryd.prog f args wx fun e w' => e = .returned (.tuple #[.agg #[.int .i64 R.kind, .int .i64 R.len], .int .i64 R.code]) ∧ Below wx.heap.size wx w'

set_option maxHeartbeats 32000000 in
set_option maxRecDepth 100000 in
theorem framingSays_any (l : AL) (M : ByteArray) (st : Int) (av : Option Addr) (n c : Nat) (w : World) (hn : l.length = n) (hs : SrcA w av c l) (hz : asz l ≤ 1073741824) :
    Calls Tryd.prog 8 #[.slice av n c, .string M, .int .i64 st] w fun e w' => e = .returned (.bool true) ∧ Below w.heap.size w w' := by
  have hnb : n ≤ 1073741824 := by have := asz_len l; omega
  have h1 := fun (a : Option Addr) c wx (hs : SrcA wx a c l) => greq_any l M ⟨#[]⟩ a n c wx hn hs hz
  have h2 := fun (a : Option Addr) c wx (hs : SrcA wx a c l) => gresp_any l M ⟨#[]⟩ st a n c wx hn hs hz
  have h3 := fun (a : Option Addr) c wx (hs : SrcA wx a c l) => qreq_any l M ⟨#[]⟩ a n c wx hn hs hz
  have h4 := fun (a : Option Addr) c wx (hs : SrcA wx a c l) => qresp_any l M ⟨#[]⟩ st a n c wx hn hs hz
  generalize fbody l false 0 = R1 at h1 h3
  generalize fbody l (nob M st) 3 = R2 at h2 h4
  obtain ⟨ka, kb, kc⟩ := R1
  obtain ⟨ja, jb, jc⟩ := R2
  have H1 : Hid (∀ (a : Option Addr) c wx, SrcA wx a c l → Calls Tryd.prog 37 #[.agg #[.string M, .string ⟨#[]⟩, .slice a n c]] wx fun e w' => e = .returned (.tuple #[.agg #[.int .i64 ka, .int .i64 kb], .int .i64 kc]) ∧ Below wx.heap.size wx w') := Lib.hid h1
  have H2 : Hid (∀ (a : Option Addr) c wx, SrcA wx a c l → Calls Tryd.prog 38 #[.string M, .agg #[.int .i64 st, .string ⟨#[]⟩, .slice a n c]] wx fun e w' => e = .returned (.tuple #[.agg #[.int .i64 ja, .int .i64 jb], .int .i64 jc]) ∧ Below wx.heap.size wx w') := Lib.hid h2
  have H3 : Hid (∀ (a : Option Addr) c wx, SrcA wx a c l → Calls Tryd.prog 39 #[.agg #[.string M, .string ⟨#[]⟩, .slice a n c]] wx fun e w' => e = .returned (.tuple #[.agg #[.int .i64 ka, .int .i64 kb], .int .i64 kc]) ∧ Below wx.heap.size wx w') := Lib.hid h3
  have H4 : Hid (∀ (a : Option Addr) c wx, SrcA wx a c l → Calls Tryd.prog 40 #[.string M, .agg #[.int .i64 st, .string ⟨#[]⟩, .slice a n c]] wx fun e w' => e = .returned (.tuple #[.agg #[.int .i64 ja, .int .i64 jb], .int .i64 jc]) ∧ Below wx.heap.size wx w') := Lib.hid h4
  have H0 := Lib.hid fun wx => shown6_any wx
  have HS := Lib.hid hs
  have HN := Lib.hid hn
  clear h1 h2 h3 h4 hs hn hz
  go_enter Tryd.func8, Tryd.ntmps8
  go_wp2_with fail
  refine (H0.out _).mono ?_; rintro e w1 ⟨rfl, hb⟩
  have HB1 := Lib.hid hb
  clear hb
  have HBa : Hid (Below w.heap.size w (w1.alloc (.cells #[] 47))) := Lib.hid (HB1.out.alloc HB1.out.size _)
  have HS1 := Lib.hid (HS.out.below (Nat.le_refl _) HBa.out)
  have HM1 := Lib.hid (made_flds w1 w1.heap.size (Nat.le_refl _) #[] rfl)
  have HZ1 : Hid (w1.heap.size ≤ (w1.alloc (.cells #[] 47)).heap.size) := Lib.hid (by simp)
  have HL1 : Hid (Below w1.heap.size w1 (w1.alloc (.cells #[] 47))) := Lib.hid (one_grow _ _)
  go_wp2_with (at_builtin; refine app_flds rfl _ _ rfl w1.heap.size _ [] rfl HM1.out av c n l HN.out rfl HS1.out ?n1 HZ1.out ?_)
  case n1 => rw [HN.out]; simp; omega
  intro v2 w2 hown2 hb2 _
  have HL2 : Hid (Below w1.heap.size w1 w2) := Lib.hid (HL1.out.trans hb2.out)
  have HO2 : Hid (OwnF (w2.alloc (.cells #[.string ⟨#[33]⟩, .string ⟨#[]⟩] 47)) w1.heap.size v2 l) := Lib.hid (ownF_alloc hown2 _)
  have HLt := Lib.hid (lit_fld ⟨#[33]⟩ ⟨#[]⟩ w2)
  have HL2a : Hid (Below w1.heap.size w1 (w2.alloc (.cells #[.string ⟨#[33]⟩, .string ⟨#[]⟩] 47))) := Lib.hid (HL2.out.alloc HL2.out.size _)
  clear hown2 hb2
  go_wp2_with (at_builtin; refine app_flds rfl _ _ rfl w1.heap.size _ l rfl HO2.out _ 1 1 [bang] rfl rfl HLt.out ?n2 HL2a.out.size ?_)
  case n2 => rw [HN.out]; show (_ + 1) * 32 ≤ _; omega
  intro v3 w3 hown3 hb3 _
  have HB3 : Hid (Below w.heap.size w w3) := Lib.hid (app_below HB1.out (HL2a.out.trans hb3.out))
  obtain ⟨a3, c3, rfl, hs3, hx⟩ := ownF_src hown3
  obtain ⟨g, hg⟩ : ∃ g, a3 = some ⟨g, 0, none⟩ := by
    cases a3 with
    | none => have := (hs3.nil rfl).1; simp at this
    | some x => obtain ⟨h1, h2⟩ := hx x rfl; exact ⟨x.block, by rw [h1]⟩
  subst hg
  have hlen : (l ++ [bang]).length = n + 1 := by rw [List.length_append, HN.out]; rfl
  rw [hlen]
  have hcap : n + 1 ≤ c3 := by have := hs3.cap; omega
  have HS3 := Lib.hid hs3
  have HA3 := Lib.hid (HS.out.below (Nat.le_refl _) HB3.out)
  clear hown3 hb3 hs3 hx hlen
  go_wp2_with fail
  refine (H1.out _ _ _ (srcA_first HS3.out)).mono ?_; rintro e w4 ⟨rfl, hb⟩
  have HB4 := Lib.hid hb
  clear hb
  have HS4 := Lib.hid (srcA_first ((HS3.out.below (Nat.le_refl _) HB4.out).below (Nat.le_refl _) (one_grow w4 (.cells #[.int .i64 ka, .int .i64 kb] 55))))
  go_wp2_with fail
  refine (H2.out _ _ _ HS4.out).mono ?_; rintro e w5 ⟨rfl, hb⟩
  have HE5 := Lib.hid hb
  have HB5 := Lib.hid (box_next HB4.out hb)
  clear hb
  have HA5 := Lib.hid ((HA3.out.below (Nat.le_refl _) HB5.out).below (Nat.le_refl _) (one_grow w5 (.cells #[.int .i64 ja, .int .i64 jb] 55)))
  go_wp2_with fail
  refine (H3.out _ _ _ HA5.out).mono ?_; rintro e w6 ⟨rfl, hb⟩
  have HF6 := Lib.hid hb
  have HE6 := Lib.hid (box_next HE5.out hb)
  have HB6 := Lib.hid (box_next HB5.out hb)
  clear hb
  have HA6 := Lib.hid ((HA3.out.below (Nat.le_refl _) HB6.out).below (Nat.le_refl _) (one_grow w6 (.cells #[.int .i64 ka, .int .i64 kb] 55)))
  go_wp2_with fail
  refine (H4.out _ _ _ HA6.out).mono ?_; rintro e w7 ⟨rfl, hb⟩
  have HG7 := Lib.hid hb
  have HF7 := Lib.hid (box_next HF6.out hb)
  have HE7 := Lib.hid (box_next HE6.out hb)
  have HB7 := Lib.hid (box_next HB6.out hb)
  clear hb
  go_wp2_with fail
  go_loopw [17] (fun i wr => ∃ k : Nat, k ≤ n ∧ i = .int .i64 k ∧ Below (w7.alloc (.cells #[.int .i64 ja, .int .i64 jb] 55)).heap.size (w7.alloc (.cells #[.int .i64 ja, .int .i64 jb] 55)) wr) (fun i _ => n - (intOf i).toNat)
  case atStart => exact ⟨0, by omega, rfl, Below.refl _ _⟩
  case round =>
    obtain ⟨k, hk, rfl, hb⟩ := hrel
    have HB := Lib.hid hb
    have HR := Lib.hid (box_next HB7.out hb)
    clear hb
    by_cases hlt : k < n
    case pos =>
      have hkl : k < l.length := by rw [HN.out]; exact hlt
      have hkl2 : k < (l ++ [bang]).length := by rw [List.length_append]; omega
      obtain ⟨b2, o2, rfl, hb2, d1, d2⟩ := srcA_at HA3.out k hkl HR.out
      obtain ⟨b1, o1, he1, hb1, e1, e2⟩ := srcA_at HS3.out k hkl2 HR.out
      rw [List.getElem_append_left hkl] at e1 e2
      simp only [Option.some.injEq, Addr.mk.injEq] at he1
      obtain ⟨rfl, rfl, _⟩ := he1
      generalize l[k] = x at d1 d2 e1 e2
      obtain ⟨X, Y⟩ := x
      simp only at d1 d2 e1 e2
      rw [Nat.zero_add] at e1 e2
      clear hkl hkl2
      go_wp2
      go_quiet (fail)
      go_wp2
      go_roundw
      case rel => exact ⟨k + 1, by omega, by go_num, HB.out.trans (below_drewN _ _)⟩
      case measure => simp [intOf]; omega
    case neg =>
      have hkn : k = n := by omega
      have p0 := box_at (box_next HE7.out HB.out) 0
      have p1 := box_at (box_next HE7.out HB.out) 1
      have q0 := box_at (box_next HF7.out HB.out) 0
      have q1 := box_at (box_next HF7.out HB.out) 1
      have r0 := box_at (box_next HG7.out HB.out) 0
      have r1 := box_at (box_next HG7.out HB.out) 1
      have t0 := box_at HB.out 0
      have t1 := box_at HB.out 1
      obtain ⟨_, hc, _⟩ := srcA_last (HS3.out.below (Nat.le_refl _) HR.out)
      rw [HN.out] at hc
      have HE : Hid (Below w.heap.size w wr) := Lib.hid (app_below HB3.out HR.out)
      go_wp2
      go_ret
      exact ⟨rfl, HE.out⟩
end Go.Proofs.YtkadingpmebjbaaDoor
