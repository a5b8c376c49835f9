/- Harden: Keeps, encoded. -/
import Derived.Test.YthkgaaibhjkngaaGreatDoorHB
set_option linter.unusedVariables false
namespace Go.Proofs.YthkgaaibhjkngaaGreatDoor
open Go.RowKit

def keepsF (l : AL) : Bool := match memF (allF l ⟨#[99, 111, 110, 110, 101, 99, 116, 105, 111, 110]⟩) with
  | none => false
  | some ms => !(ms.map mk).any isClos
theorem keepsF_any (l : AL) (a : Option Addr) (n c : Nat) (w : World) (hn : l.length = n) (hs : SrcA w a c l) (hz : asz l ≤ 1073741824) :
    Calls Tryz.prog 19 #[.slice a n c] w fun e w' => e = .returned (.bool (keepsF l)) ∧ Below w.heap.size w w' := by
  have hm := members_any l ⟨#[99, 111, 110, 110, 101, 99, 116, 105, 111, 110]⟩ a n c w hn hs hz (by decide)
  have hbz := allF_bsz l ⟨#[99, 111, 110, 110, 101, 99, 116, 105, 111, 110]⟩
  have hF : keepsF l = match memF (allF l ⟨#[99, 111, 110, 110, 101, 99, 116, 105, 111, 110]⟩) with | none => false | some ms => !(ms.map mk).any isClos := rfl
  rw [hF]
  generalize allF l ⟨#[99, 111, 110, 110, 101, 99, 116, 105, 111, 110]⟩ = vs at hm hbz hF
  clear hF
  cases q : memF vs with
  | none =>
    rw [q] at hm
    have HM : Hid (Calls Tryz.prog 58 #[.slice a n c, .string ⟨#[99, 111, 110, 110, 101, 99, 116, 105, 111, 110]⟩] w fun e w' => Below w.heap.size w w' ∧ e = .returned (.tuple #[.slice none 0 0, .int .i64 5])) := Lib.hid hm
    clear hm q hbz hs hn hz
    go_enter Tryz.func19, Tryz.ntmps19
    go_wp2_with fail
    refine HM.out.mono ?_; rintro e w1 ⟨hb, rfl⟩
    have HB := Lib.hid hb
    clear hb
    go_wp2
    go_ret
    exact ⟨rfl, HB.out⟩
  | some ms =>
    rw [q] at hm
    have hml := memF_msz vs ms q
    rw [← bsz_mk] at hml
    obtain ⟨L, hL⟩ : ∃ L, L = ms.map mk := ⟨_, rfl⟩
    have hmm : ListSays (some ms) w = fun e w' => Below w.heap.size w w' ∧ ∃ v, e = .returned (.tuple #[v, .int .i64 0]) ∧ OwnS w' w.heap.size v L := by rw [hL]; rfl
    rw [hmm] at hm
    show Calls Tryz.prog 19 #[.slice a n c] w fun e w' => e = .returned (.bool (!(ms.map mk).any isClos)) ∧ Below w.heap.size w w'
    rw [← hL] at hml ⊢
    have HM := Lib.hid hm
    have HK := Lib.hid (fun (a : Option Addr) c wx (hs : SrcS wx a c L) => conC_any L a L.length c wx rfl hs (by omega))
    have hR : Hid (∀ b, b = L.any isClos → L.any isClos = b) := Lib.hid fun b h => h.symm
    generalize L.any isClos = r at HK hR ⊢
    clear hm hmm q hbz hs hn hz hml hL
    go_enter Tryz.func19, Tryz.ntmps19
    go_wp2_with fail
    refine HM.out.mono ?_; rintro e w1 ⟨hb, v, rfl, hown⟩
    obtain ⟨a3, c3, rfl, hsrc⟩ := ownS_src hown
    have HB := Lib.hid hb
    have HS := Lib.hid hsrc
    clear hb hown hsrc
    cases r <;> (go_wp2_with fail; refine (HK.out _ _ _ HS.out).mono ?_; rintro e w2 ⟨rfl, hb⟩; have HB2 := Lib.hid (HB.out.trans (hb.mono HB.out.size)); clear hb; go_wp2; go_ret; exact ⟨rfl, HB2.out⟩)

def encF (l : AL) : Bool := match memF (allF l ⟨#[99, 111, 110, 116, 101, 110, 116, 45, 101, 110, 99, 111, 100, 105, 110, 103]⟩) with
  | none => true
  | some ms => (ms.map mk).any notIde
theorem encF_any (l : AL) (a : Option Addr) (n c : Nat) (w : World) (hn : l.length = n) (hs : SrcA w a c l) (hz : asz l ≤ 1073741824) :
    Calls Tryz.prog 96 #[.slice a n c] w fun e w' => e = .returned (.bool (encF l)) ∧ Below w.heap.size w w' := by
  have hm := members_any l ⟨#[99, 111, 110, 116, 101, 110, 116, 45, 101, 110, 99, 111, 100, 105, 110, 103]⟩ a n c w hn hs hz (by decide)
  have hbz := allF_bsz l ⟨#[99, 111, 110, 116, 101, 110, 116, 45, 101, 110, 99, 111, 100, 105, 110, 103]⟩
  have hF : encF l = match memF (allF l ⟨#[99, 111, 110, 116, 101, 110, 116, 45, 101, 110, 99, 111, 100, 105, 110, 103]⟩) with | none => true | some ms => (ms.map mk).any notIde := rfl
  rw [hF]
  generalize allF l ⟨#[99, 111, 110, 116, 101, 110, 116, 45, 101, 110, 99, 111, 100, 105, 110, 103]⟩ = vs at hm hbz hF
  clear hF
  cases q : memF vs with
  | none =>
    rw [q] at hm
    have HM : Hid (Calls Tryz.prog 58 #[.slice a n c, .string ⟨#[99, 111, 110, 116, 101, 110, 116, 45, 101, 110, 99, 111, 100, 105, 110, 103]⟩] w fun e w' => Below w.heap.size w w' ∧ e = .returned (.tuple #[.slice none 0 0, .int .i64 5])) := Lib.hid hm
    clear hm q hbz hs hn hz
    go_enter Tryz.func96, Tryz.ntmps96
    go_wp2_with fail
    refine HM.out.mono ?_; rintro e w1 ⟨hb, rfl⟩
    have HB := Lib.hid hb
    clear hb
    go_wp2
    go_ret
    exact ⟨rfl, HB.out⟩
  | some ms =>
    rw [q] at hm
    have hml := memF_msz vs ms q
    rw [← bsz_mk] at hml
    obtain ⟨L, hL⟩ : ∃ L, L = ms.map mk := ⟨_, rfl⟩
    have hmm : ListSays (some ms) w = fun e w' => Below w.heap.size w w' ∧ ∃ v, e = .returned (.tuple #[v, .int .i64 0]) ∧ OwnS w' w.heap.size v L := by rw [hL]; rfl
    rw [hmm] at hm
    show Calls Tryz.prog 96 #[.slice a n c] w fun e w' => e = .returned (.bool ((ms.map mk).any notIde)) ∧ Below w.heap.size w w'
    rw [← hL] at hml ⊢
    have HM := Lib.hid hm
    have HK := Lib.hid (fun (a : Option Addr) c wx (hs : SrcS wx a c L) => conI_any L a L.length c wx rfl hs (by omega))
    have hR : Hid (∀ b, b = L.any notIde → L.any notIde = b) := Lib.hid fun b h => h.symm
    generalize L.any notIde = r at HK hR ⊢
    clear hm hmm q hbz hs hn hz hml hL
    go_enter Tryz.func96, Tryz.ntmps96
    go_wp2_with fail
    refine HM.out.mono ?_; rintro e w1 ⟨hb, v, rfl, hown⟩
    obtain ⟨a3, c3, rfl, hsrc⟩ := ownS_src hown
    have HB := Lib.hid hb
    have HS := Lib.hid hsrc
    clear hb hown hsrc
    cases r <;> (go_wp2_with fail; refine (HK.out _ _ _ HS.out).mono ?_; rintro e w2 ⟨rfl, hb⟩; have HB2 := Lib.hid (HB.out.trans (hb.mono HB.out.size)); clear hb; go_wp2; go_ret; exact ⟨rfl, HB2.out⟩)
end Go.Proofs.YthkgaaibhjkngaaGreatDoor
