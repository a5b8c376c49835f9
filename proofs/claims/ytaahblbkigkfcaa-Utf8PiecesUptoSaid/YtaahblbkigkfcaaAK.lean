/- However bytes are cut, the same is read: the walk. -/
import Derived.Test.YtaahblbkigkfcaaAJ
set_option linter.unusedVariables false
namespace Go.Proofs.Ytaahblbkigkfcaa
open Go.RowKit

theorem and7 (z : Int) : ∃ k : Nat, k ≤ 7 ∧ bits .and .i64 z 7 = k := by
  have h : (BitVec.ofInt 64 z &&& BitVec.ofInt 64 7).toNat ≤ 7 := by
    rw [BitVec.toNat_and]
    exact Nat.and_le_right
  refine ⟨(BitVec.ofInt 64 z &&& BitVec.ofInt 64 7).toNat, h, ?_⟩
  show IntKind.wrap .i64 ((BitVec.ofInt 64 z &&& BitVec.ofInt 64 7).toNat : Int) = _
  exact IntWalk.i64_in _ (by omega)

/-- whole numbers that a slice shows -/
def Ints (w : World) (a : Option Addr) (l : List Int) : Prop := ∀ j (h : j < l.length), ∃ b o, a = some ⟨b, o, none⟩ ∧ b < w.heap.size ∧ w.cell? ⟨b, o + j, none⟩ = some (.int .i64 l[j])

theorem feed_step (w : World) (D : Nat) (l : List UInt8) (X : ByteArray) (H R Z : List UInt8) (a : Option Addr) (c : Nat) (wr : World) (hs : Src w a c R) (hd : DecAt wr w.heap.size D H) (hH : H.length ≤ 3) (hR : R.length ≤ 1048576) (heq : X.data.toList ++ dec (H ++ R) = Z) (hZ : Z.length ≤ 3145728) (hb : Below w.heap.size w wr) (q : Nat) (hq : q ≤ R.length) :
    ∃ (Y : ByteArray) (H2 : List UInt8), H2.length ≤ 3 ∧ X.size ≤ 3145728 ∧ Y.size ≤ 3145728 ∧ (X ++ Y).data.toList ++ dec (H2 ++ R.drop q) = Z ∧
      Calls Try.prog 24 #[.pointer (some ⟨D, 0, none⟩), .slice a q c] wr fun e w' => e = .returned (.string Y) ∧ DecAt w' w.heap.size D H2 ∧ Below w.heap.size w w' := by
  have hsz : ∀ T : ByteArray, T.size = T.data.toList.length := fun T => by simp
  have heq2 : X.data.toList ++ dec ((H ++ R.take q).take (tl (H ++ R.take q))) ++ dec ((H ++ R.take q).drop (tl (H ++ R.take q)) ++ R.drop q) = Z := by
    rw [List.append_assoc, ← dec_tl, List.append_assoc, List.take_append_drop, heq]
  have hl := congrArg List.length heq2
  simp only [List.length_append] at hl
  refine ⟨⟨(dec ((H ++ R.take q).take (tl (H ++ R.take q)))).toArray⟩, (H ++ R.take q).drop (tl (H ++ R.take q)), ?_, ?_, ?_, ?_, ?_⟩
  · have := tl_hi (H ++ R.take q)
    rw [List.length_drop]; omega
  · rw [hsz]; omega
  · rw [hsz]; show (dec ((H ++ R.take q).take (tl (H ++ R.take q)))).toArray.toList.length ≤ _
    rw [List.toList_toArray]; omega
  · rw [← heq2]; simp
  · have := feed_any w.heap.size D H (R.take q) a c wr hd ((hs.take q).below hb) (by rw [List.length_take]; omega)
    rw [List.length_take, Nat.min_eq_left hq] at this
    exact this.mono fun e w' ⟨h1, h2, h3⟩ => ⟨h1, h2, hb.trans h3⟩

set_option maxHeartbeats 8000000 in
theorem pieces_walk (w : World) (a1 : Option Addr) (c1 : Nat) (l : List UInt8) (hs : Src w a1 c1 l) (hlen : l.length ≤ 1048576) (a2 : Option Addr) (c2 : Nat) (zs : List Int) (hz : Ints w a2 zs) (hzl : zs.length ≤ 1048576) :
    Calls Try.prog 6 #[.slice a1 l.length c1, .slice a2 zs.length c2] w fun e w' => e = .returned (.bool true) ∧ Below w.heap.size w w' := by
  obtain ⟨Z, hZ⟩ : ∃ Z, Z = dec l := ⟨_, rfl⟩
  have hZl : Z.length ≤ 3145728 := by rw [hZ]; have := dec_le l; omega
  have hdec : ∀ wx, Below w.heap.size w wx → Calls Try.prog 13 #[.slice a1 l.length c1] wx fun e w' => e = .returned (.string ⟨Z.toArray⟩) ∧ Below wx.heap.size wx w' := fun wx hb => by
    rw [hZ]; exact dec_any a1 c1 l wx (hs.below hb).bytes hs.cap (by omega) hs.big
  have HZ := Lib.hid hZ
  have HS := Lib.hid hs
  have HI := Lib.hid hz
  have HDC := Lib.hid hdec
  obtain ⟨n, hn⟩ : ∃ n, n = l.length := ⟨_, rfl⟩
  have HN := Lib.hid hn
  have HZL := Lib.hid hZl
  clear hs hz hdec hZ hn hZl
  go_enter Try.func6, Try.ntmps6
  go_wp2_with fail
  refine (shown_any _).mono ?_; rintro e w1 ⟨rfl, hb⟩
  have HB1 := Lib.hid hb
  have hd1 := new_any w.heap.size w1 hb.size
  have HD1 := Lib.hid hd1
  clear hb hd1
  obtain ⟨D, hD⟩ : ∃ D, D = w1.heap.size := ⟨_, rfl⟩
  rw [← hD] at HD1
  clear hD
  go_wp2_with fail
  refine HD1.out.mono ?_; rintro e w2 ⟨rfl, hd, hb⟩
  have HD2 := Lib.hid hd
  have HB2 := Lib.hid (HB1.out.trans hb)
  clear hd hb
  go_wp2_with fail
  go_loopw [7, 8, 9] (fun sv rv iv wr => ∃ (j : Nat) (X : ByteArray) (R H : List UInt8) (a' : Option Addr) (c' : Nat), j ≤ zs.length ∧ sv = .string X ∧ rv = .slice a' R.length c' ∧ iv = .int .i64 j ∧ Src w a' c' R ∧ DecAt wr w.heap.size D H ∧ H.length ≤ 3 ∧ R.length ≤ 1048576 ∧ X.data.toList ++ dec (H ++ R) = Z ∧ Below w.heap.size w wr) (fun _ _ iv _ => zs.length - (intOf iv).toNat)
  case atStart => exact ⟨0, _, l, [], a1, c1, by omega, rfl, rfl, rfl, HS.out, HD2.out, by simp, hlen, by rw [HZ.out]; rfl, HB2.out⟩
  case round =>
    obtain ⟨j, X, R, H, a', c', hj, rfl, rfl, rfl, hs', hd', hH, hR, heq, hb⟩ := hrel
    by_cases hgo : j < zs.length ∧ 0 < R.length
    · obtain ⟨hlt, hrp⟩ := hgo
      obtain ⟨zb, zo, rfl, hzb, hcell⟩ := HI.out j hlt
      have hcell2 := (hb.cell (p := ⟨zb, zo + j, none⟩) hzb).trans hcell
      generalize zs[j] = z at hcell hcell2
      obtain ⟨k, hk, hbit⟩ := and7 z
      obtain ⟨q, hq⟩ : ∃ q : Nat, q = min k R.length := ⟨_, rfl⟩
      have hmin : min (k : Int) (R.length : Int) = (q : Int) := by omega
      have hqR : q ≤ R.length := by omega
      obtain ⟨Y, H2, hH2, hXs, hYs, heq2, hfd⟩ := feed_step w D l X H R Z a' c' wr hs' hd' hH hR heq HZL.out hb q hqR
      have hst := slice_hi a' R.length c' q hqR hs'.cap
      obtain ⟨a3, hsl, hs3, _⟩ := slice_lo a' R c' q w hs' hqR
      have hR2 : (R.drop q).length ≤ 1048576 := by rw [List.length_drop]; omega
      generalize R.drop q = R2 at heq2 hsl hs3 hR2
      have HF := Lib.hid hfd
      have HE2 := Lib.hid heq2
      have HS3 := Lib.hid hs3
      have HH2 := Lib.hid hH2
      have HR2 := Lib.hid hR2
      clear hq hcell hs' hd' heq hb hfd heq2 hs3 hR2
      go_wp2_with fail
      refine HF.out.mono ?_; rintro e w3 ⟨rfl, hd3, hb3⟩
      have hheld := held_any w.heap.size D H2 w3 hd3
      have HD3 := Lib.hid hd3
      have HB3 := Lib.hid hb3
      have HL3 := Lib.hid hheld
      clear hd3 hb3 hheld
      obtain ⟨X2, hX2⟩ : ∃ X2, X2 = X ++ Y := ⟨_, rfl⟩
      have HX2 := Lib.hid hX2
      clear hX2
      obtain ⟨t, ht⟩ : ∃ t : Nat, t = H2.length := ⟨_, rfl⟩
      rw [← ht] at HL3
      have ht3 : t ≤ 3 := by rw [ht]; exact hH2
      clear ht hH2
      have ht3i : (t : Int) ≤ 3 := by omega
      by_cases hbig : 100000 < X.size + Y.size
      · go_wp2_with fail
        refine HL3.out.mono ?_; rintro e w4 ⟨rfl, rfl⟩
        go_wp2
        go_ret
        exact ⟨rfl, HB3.out⟩
      · go_wp2_with fail
        refine HL3.out.mono ?_; rintro e w4 ⟨rfl, rfl⟩
        go_wp2
        go_roundw
        case rel => exact ⟨j + 1, _, R2, H2, a3, _, by omega, rfl, rfl, by go_num, HS3.out, HD3.out, HH2.out, HR2.out, HE2.out, HB3.out⟩
        case measure => simp [intOf]; omega
    · obtain ⟨Y, H2, hH2, hXs, hYs, heq2, hfd⟩ := feed_step w D l X H R Z a' c' wr hs' hd' hH hR heq HZL.out hb R.length (Nat.le_refl _)
      rw [List.drop_length, List.append_nil] at heq2
      have hdl : (dec H2).length ≤ 9 := by have := dec_le H2; omega
      have hfin : X ++ Y ++ ⟨(dec H2).toArray⟩ = ⟨Z.toArray⟩ := by rw [← heq2]; ext1; apply Array.toList_inj.1; simp
      have hclo : ∀ w3, DecAt w3 w.heap.size D H2 → Calls Try.prog 27 #[.pointer (some ⟨D, 0, none⟩)] w3 fun e w' => e = .returned (.string ⟨(dec H2).toArray⟩) ∧ DecAt w' w.heap.size D [] ∧ Below w.heap.size w3 w' := fun w3 h => close_any w.heap.size D H2 w3 h (by omega)
      have hcs : (ByteArray.mk (dec H2).toArray).size ≤ 9 := by show (dec H2).toArray.size ≤ 9; simpa using hdl
      generalize (ByteArray.mk (dec H2).toArray) = C at hfin hclo hcs
      have HDZ : Hid (∀ wx, Below w.heap.size w wx → Calls Try.prog 13 #[.slice a1 l.length c1] wx fun e w' => e = .returned (.string (X ++ Y ++ C)) ∧ Below wx.heap.size wx w') := Lib.hid (by rw [hfin]; exact HDC.out)
      have HFIN : Hid (True ∧ True) := Lib.hid ⟨trivial, trivial⟩
      have HF := Lib.hid hfd
      have HCLO := Lib.hid hclo
      have hex : j < zs.length → ¬ 0 < R.length := fun h => by omega
      clear hs' hd' heq hb hfd heq2 hH2 hfin hgo hclo hdl hH
      by_cases hlt : j < zs.length
      · have hr0 := hex hlt
        clear hex
        go_wp2_with fail
        refine HF.out.mono ?_; rintro e w3 ⟨rfl, hd3, hb3⟩
        have HB3 := Lib.hid hb3
        have HCL := Lib.hid (HCLO.out w3 hd3)
        clear hd3 hb3
        go_wp2_with fail
        refine HCL.out.mono ?_; rintro e w4 ⟨rfl, _, hb4⟩
        have HB4 := Lib.hid (HB3.out.trans hb4)
        clear hb4
        go_wp2_with fail
        refine (HDZ.out w4 HB4.out).mono ?_; rintro e w5 ⟨rfl, hb5⟩
        have HB5 := Lib.hid (HB4.out.trans (hb5.mono HB4.out.size))
        clear hb5
        go_wp2
        go_ret
        exact ⟨by first | (simp; done) | (rfl), HB5.out⟩
      · clear hex
        go_wp2_with fail
        refine HF.out.mono ?_; rintro e w3 ⟨rfl, hd3, hb3⟩
        have HB3 := Lib.hid hb3
        have HCL := Lib.hid (HCLO.out w3 hd3)
        clear hd3 hb3
        go_wp2_with fail
        refine HCL.out.mono ?_; rintro e w4 ⟨rfl, _, hb4⟩
        have HB4 := Lib.hid (HB3.out.trans hb4)
        clear hb4
        go_wp2_with fail
        refine (HDZ.out w4 HB4.out).mono ?_; rintro e w5 ⟨rfl, hb5⟩
        have HB5 := Lib.hid (HB4.out.trans (hb5.mono HB4.out.size))
        clear hb5
        go_wp2
        go_ret
        exact ⟨by first | (simp; done) | (rfl), HB5.out⟩
end Go.Proofs.Ytaahblbkigkfcaa
