/- What must be in any case. -/
import Derived.Test.YtkadingpmebjbaaDoorT
set_option linter.unusedVariables false
namespace Go.Proofs.YtkadingpmebjbaaDoor
open Go.RowKit

def kM : ByteArray := ⟨#[32, 84, 101, 120, 116, 47, 72, 84, 77, 76, 32, 59, 67, 104, 97, 114, 115, 101, 116, 61, 34, 117, 116, 102, 45, 56, 34, 59, 32, 59, 120, 61, 89]⟩
def kL : ByteArray := ⟨#[97, 44, 32, 44, 34, 98, 44, 99, 34, 59, 100, 32, 44]⟩
def kX : ByteArray := ⟨#[116, 101, 120, 116, 47, 104, 116, 109, 108, 59, 32, 99, 104, 97, 114, 115, 101, 116, 61, 117, 116, 102, 45, 56, 59, 32, 120, 61, 89]⟩
def kPs : PL := [([99, 104, 97, 114, 115, 101, 116], [117, 116, 102, 45, 56]), ([120], [89])]
theorem media_kM : media kM.data.toList = some ([116, 101, 120, 116], [104, 116, 109, 108], kPs) := by kernel_rfl
theorem lst_kL : lst kL.data.toList = some [[97], [34, 98, 44, 99, 34, 59, 100]] := by kernel_rfl
theorem text_kX : mk (textM [116, 101, 120, 116] [104, 116, 109, 108] kPs) = kX := by kernel_rfl
theorem tok_ab : isTok (⟨#[97, 45, 98]⟩ : ByteArray).data.toList = true := by kernel_rfl
theorem tok_a_b : isTok (⟨#[97, 32, 98]⟩ : ByteArray).data.toList = false := by kernel_rfl

set_option maxHeartbeats 16000000 in
set_option maxRecDepth 100000 in
theorem shown_any (w : World) :
    Calls Tryd.prog 12 #[] w fun e w' => e = .returned (.bool true) ∧ Below w.heap.size w w' := by
  have hm := fun wx => media_any kM wx (by decide)
  rw [media_kM] at hm
  have hl := fun wx => list_any kL wx (by decide)
  rw [lst_kL] at hl
  have HM : Hid (∀ wx, Calls Tryd.prog 14 #[.string ⟨#[32, 84, 101, 120, 116, 47, 72, 84, 77, 76, 32, 59, 67, 104, 97, 114, 115, 101, 116, 61, 34, 117, 116, 102, 45, 56, 34, 59, 32, 59, 120, 61, 89]⟩] wx fun e w' => Below wx.heap.size wx w' ∧ ∃ v, e = .returned (.tuple #[.agg #[.string (mk [116, 101, 120, 116]), .string (mk [104, 116, 109, 108]), v], .int .i64 0]) ∧ OwnA w' wx.heap.size v (kPs.map mk2)) := Lib.hid hm
  have HL : Hid (∀ wx, Calls Tryd.prog 34 #[.string ⟨#[97, 44, 32, 44, 34, 98, 44, 99, 34, 59, 100, 32, 44]⟩] wx fun e w' => Below wx.heap.size wx w' ∧ ∃ v, e = .returned (.tuple #[v, .int .i64 0]) ∧ OwnS w' wx.heap.size v ([[97], [34, 98, 44, 99, 34, 59, 100]].map mk)) := Lib.hid hl
  have HX : Hid (∀ av ac wx, SrcA wx av ac (kPs.map mk2) → Calls Tryd.prog 16 #[.agg #[.string (mk [116, 101, 120, 116]), .string (mk [104, 116, 109, 108]), .slice av 2 ac]] wx fun e w' => e = .returned (.string ⟨#[116, 101, 120, 116, 47, 104, 116, 109, 108, 59, 32, 99, 104, 97, 114, 115, 101, 116, 61, 117, 116, 102, 45, 56, 59, 32, 120, 61, 89]⟩) ∧ Below wx.heap.size wx w') := Lib.hid fun av ac wx hs => by
    have := text_any (mk [116, 101, 120, 116]) (mk [104, 116, 109, 108]) kPs av 2 ac wx rfl hs (by decide) (fun j hj => (by decide : ∀ p ∈ kPs, p.1.length + p.2.length ≤ 1073741824) _ (List.getElem_mem hj)) (by decide)
    rw [mk_list, mk_list, text_kX] at this
    exact this
  have HT1 := Lib.hid fun wx => token_any ⟨#[97, 45, 98]⟩ wx (by decide)
  have HT2 := Lib.hid fun wx => token_any ⟨#[97, 32, 98]⟩ wx (by decide)
  rw [tok_ab] at HT1
  rw [tok_a_b] at HT2
  clear hm hl
  go_enter Tryd.func12, Tryd.ntmps12
  go_wp2_with fail
  refine (HM.out _).mono ?_; rintro e w1 ⟨hb, v, rfl, hown⟩
  obtain ⟨va, vc, hv, hsrc, _⟩ := ownA_src hown
  have hv : v = .slice va 2 vc := hv
  subst hv
  have HB1 := Lib.hid hb
  have HS1 := Lib.hid hsrc
  clear hb hsrc hown
  go_wp2_with fail
  refine (HL.out _).mono ?_; rintro e w2 ⟨hb, v, rfl, hown⟩
  obtain ⟨va2, vc2, hv, hsrc2⟩ := ownS_src hown
  have hv : v = .slice va2 2 vc2 := hv
  subst hv
  obtain ⟨b2, o2, rfl, hlt2, hc⟩ := hsrc2.at_ 1 (by decide)
  have hc : w2.cell? ⟨b2, o2 + 1, none⟩ = some (.string ⟨#[34, 98, 44, 99, 34, 59, 100]⟩) := hc
  have m0 := (res_cells w1 w2 _ _ hb 0).1.1
  have m1 := (res_cells w1 w2 _ _ hb 1).1.1
  have m2 := (res_cells w1 w2 _ _ hb 2).1.1
  have hbr : Below w1.heap.size w1 w2 := ((Below.refl _ _).alloc (Nat.le_refl _) _).trans (hb.mono (by simp))
  have HB2 : Hid (Below w.heap.size w w2) := Lib.hid (HB1.out.trans (hbr.mono HB1.out.size))
  have HS2 := Lib.hid (HS1.out.below (Nat.le_refl _) hbr)
  clear hb hbr hown hsrc2
  go_wp2_with fail
  refine (HX.out _ _ _ HS2.out).mono ?_; rintro e w3 ⟨rfl, hb⟩
  have hc3 := (hb.cell (p := ⟨b2, o2 + 1, none⟩) hlt2).trans hc
  have HB3 : Hid (Below w.heap.size w w3) := Lib.hid (HB2.out.trans (hb.mono HB2.out.size))
  clear hb m0 m1 m2 hc
  go_wp2_with fail
  refine (HT1.out _).mono ?_; rintro e w4 ⟨rfl, rfl⟩
  go_wp2_with fail
  refine (HT2.out _).mono ?_; rintro e w4 ⟨rfl, rfl⟩
  go_wp2
  go_ret
  exact ⟨rfl, HB3.out⟩
end Go.Proofs.YtkadingpmebjbaaDoor
