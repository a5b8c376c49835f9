/- Fields: the program's Members; the document's answers. -/
import Derived.Test.YthkgaaibhjkngaaGreatDoorFE
set_option linter.unusedVariables false
namespace Go.Proofs.YthkgaaibhjkngaaGreatDoor
open Go.RowKit

theorem ownS_mono {w : World} {base base' : Nat} {v : Value} {l : List ByteArray} (h : OwnS w base v l) (hb : base' ≤ base) : OwnS w base' v l := by
  refine ⟨h.1, ?_⟩
  rcases h.2 with h | ⟨g, cap, cur, h1, h2, h3⟩
  · exact .inl h
  · exact .inr ⟨g, cap, cur, h1, by omega, h3⟩
theorem ownF_nilS (w : World) (base : Nat) : OwnF w base (.slice none 0 0) [] := World.ownsRow_nil _ _ _ _
theorem memF_here (l : AL) (X : ByteArray) : bsz (allF l X) ≤ asz l := allF_bsz l X
set_option maxHeartbeats 8000000 in
set_option maxRecDepth 100000 in
theorem members_any (l : AL) (X : ByteArray) (av : Option Addr) (n c : Nat) (w : World) (hn : l.length = n) (hs : SrcA w av c l) (hz : asz l ≤ 1073741824) (hX : X.size ≤ 1073741824) :
    Calls Tryz.prog 58 #[.slice av n c, .string X] w (ListSays (memF (allF l X)) w) := by
  have hall := fun wx (hb : Below w.heap.size w wx) => all_any l X av n c wx hn (hs.below (Nat.le_refl _) hb) hz hX
  have hbz := allF_bsz l X
  have hml := memF_len (allF l X)
  generalize allF l X = vs at hall hbz hml ⊢
  have hvl := bsz_len vs
  have hzv : bsz vs ≤ 1073741824 := by omega
  obtain ⟨R, hR⟩ : ∃ R, R = memF vs := ⟨_, rfl⟩
  rw [← hR] at hml ⊢
  have HR : Hid (R = (memF (vs.drop 0)).map ([] ++ ·)) := Lib.hid (by rw [List.drop_zero, hR]; cases memF vs <;> simp)
  have HALL := Lib.hid hall
  have HZ := Lib.hid hzv
  clear hR hs hz hn hX hall hbz hvl hzv hml
  go_enter Tryz.func58, Tryz.ntmps58
  go_wp2_with fail
  refine (HALL.out _ (Below.refl _ _)).mono ?_; rintro e w1 ⟨hb, v, rfl, hown⟩
  obtain ⟨a1, c1, hv, hsrc⟩ := ownS_src hown
  have hnl := bsz_len vs
  have hz := HZ.out
  obtain ⟨n1, hn1⟩ : ∃ n1, vs.length = n1 := ⟨_, rfl⟩
  rw [hn1] at hv hnl
  subst hv
  have hnb : n1 ≤ 1073741824 := by omega
  have HB1 := Lib.hid hb
  have HS := Lib.hid hsrc
  have HN := Lib.hid hn1
  clear hb hsrc hown hn1 hnl hz
  go_wp2_with fail
  go_loopw [6, 15] (fun v i wr => ∃ (k : Nat) (acc : List (List UInt8)), k ≤ n1 ∧ i = .int .i64 k ∧ acc.length ≤ bsz (vs.take k) ∧ OwnS wr w1.heap.size v (acc.map mk) ∧ R = (memF (vs.drop k)).map (acc ++ ·) ∧ Below w1.heap.size w1 wr) (fun _ i _ => n1 - (intOf i).toNat)
  case atStart => exact ⟨0, [], by omega, rfl, by simp, World.ownsRow_nil _ _ _ _, HR.out, Below.refl _ _⟩
  case round =>
    obtain ⟨k, acc, hk, rfl, hal, hown, hR, hbs⟩ := hrel
    have hb : Below w.heap.size w wr := HB1.out.trans (hbs.mono HB1.out.size)
    have HB := Lib.hid hb
    have HBS := Lib.hid hbs
    by_cases hlt : k < n1
    case neg =>
      have hkn : vs.length ≤ k := by rw [HN.out]; omega
      have HV : Hid (R = some acc) := Lib.hid (by rw [hR, memF_end vs k hkn]; simp)
      have HO := Lib.hid (ownS_mono hown HB1.out.size)
      obtain ⟨a3, c3, hv3, _⟩ := ownS_src hown
      rw [List.length_map] at hv3
      subst hv3
      clear hb hbs hown hkn hR hal
      go_wp2
      go_ret2
      exact listSays_some HV.out HO.out HB.out
    case pos =>
      have hkl : k < vs.length := by rw [HN.out]; exact hlt
      obtain ⟨b0, o0, rfl, hb0, d1⟩ := srcS_at HS.out k hkl hbs
      have hat := bsz_at vs k hkl
      have htk := bsz_take vs k hkl
      have hz := HZ.out
      have hbd := memF_bad vs k hkl
      have hnx := memF_next vs k hkl
      have hl1 : bsz (vs.take (k + 1)) = bsz (vs.take k) + (vs[k].size + 1) := by rw [List.take_succ_eq_append_getElem hkl, bsz_app]; simp [bsz]
      generalize vs[k] = Y at d1 hat hbd hnx htk hl1
      have hli := fun wx => list_any Y wx (by omega)
      have hll := fun ms (h : lst Y.data.toList = some ms) => lst_len Y.data.toList ms h
      rw [len_data] at hll
      cases q : lst Y.data.toList with
      | none =>
        rw [q] at hli
        have HV : Hid (R = none) := Lib.hid (by rw [hR, hbd q]; rfl)
        have HL : Hid (∀ wx, Calls Tryz.prog 100 #[.string Y] wx fun e w' => Below wx.heap.size wx w' ∧ e = .returned (.tuple #[.slice none 0 0, .int .i64 5])) := Lib.hid hli
        clear hli q hbd hnx hR hb hbs hown hat htk hz hkl hll hl1 hal
        go_wp2_with fail
        refine (HL.out _).mono ?_; rintro e w2 ⟨hb, rfl⟩
        have HB2 := Lib.hid (HB.out.trans (hb.mono HB.out.size))
        clear hb
        go_wp2
        go_ret2
        exact listSays_none HV.out HB2.out
      | some ms =>
        rw [q] at hli
        have hml := hll ms q
        have HV : Hid (R = (memF (vs.drop (k + 1))).map ((acc ++ ms) ++ ·)) := Lib.hid (by rw [hR, hnx ms q, Option.map_map]; congr 1; funext m; simp)
        have HL : Hid (∀ wx, Calls Tryz.prog 100 #[.string Y] wx fun e w' => Below wx.heap.size wx w' ∧ ∃ v, e = .returned (.tuple #[v, .int .i64 0]) ∧ OwnS w' wx.heap.size v (ms.map mk)) := Lib.hid hli
        have hl2 : (acc ++ ms).length ≤ bsz (vs.take (k + 1)) := by rw [List.length_append, hl1]; omega
        have HL2 := Lib.hid hl2
        have HO := Lib.hid hown
        have hab : acc.length ≤ 1073741824 := by omega
        have hmb : ms.length ≤ 1073741824 := by omega
        clear hli q hbd hnx hR hb hbs hown hat htk hz hkl hll hl1 hal hl2 hml
        go_wp2_with fail
        refine (HL.out _).mono ?_; rintro e w2 ⟨hb, v2, rfl, hown2⟩
        obtain ⟨a2, c2, hv2, hsrc2⟩ := ownS_src hown2
        rw [List.length_map] at hv2
        subst hv2
        have HB2 := Lib.hid (HB.out.trans (hb.mono HB.out.size))
        have HBS2 := Lib.hid (HBS.out.trans (hb.mono HBS.out.size))
        have HO2 := Lib.hid (ownS_below HO.out hb)
        have HS2 := Lib.hid hsrc2
        clear hb hown2 hsrc2
        go_wp2_with (at_builtin; refine app_strs rfl _ _ rfl w1.heap.size _ (acc.map mk) rfl HO2.out a2 c2 ms.length (ms.map mk) (List.length_map ..) rfl HS2.out ?n2 HBS2.out.size ?_)
        case n2 => rw [List.length_map, List.length_map]; omega
        intro v3 w3 hown3 hb3 hg3
        have HO3 : Hid (OwnS w3 w1.heap.size v3 ((acc ++ ms).map mk)) := Lib.hid (by rw [List.map_append]; exact hown3)
        have HBS3 : Hid (Below w1.heap.size w1 w3) := Lib.hid (HBS2.out.trans hb3.out)
        clear hown3 hb3 hg3
        go_wp2
        go_roundw
        case rel => exact ⟨k + 1, acc ++ ms, by omega, by go_num, HL2.out, HO3.out, HV.out, HBS3.out⟩
        case measure => simp [intOf]; omega
end Go.Proofs.YthkgaaibhjkngaaGreatDoor
