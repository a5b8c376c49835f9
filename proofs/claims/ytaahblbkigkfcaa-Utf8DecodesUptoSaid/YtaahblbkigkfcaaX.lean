/- Bytes are read as their characters: lent bytes. -/
import Derived.Test.YtaahblbkigkfcaaZ
set_option linter.unusedVariables false
namespace Go.Proofs.Ytaahblbkigkfcaa
open Go.RowKit

theorem lit191 (wx : World) (C : Array Value) (hC : C = #[.int .u8 191]) : Src (wx.alloc (.cells C 5)) (some ⟨wx.heap.size, 0, none⟩) 1 [191] := by
  subst hC; exact lit_src [191] wx (by simp)

set_option maxHeartbeats 2000000 in
theorem lent_any (a : Option Addr) (c : Nat) (l : List UInt8) (w : World) (hs : Src w a c l) (hlen : l.length ≤ 1048576) :
    Calls Try.prog 12 #[.slice a l.length c] w fun e w' => ∃ g c', e = .returned (.slice (some ⟨g, 0, none⟩) l.length c') ∧ l.length + 1 ≤ c' ∧ c' ≤ 9223372036854775807 ∧ Row w' g 0 (l ++ [191]) ∧ g < w'.heap.size ∧ Below w.heap.size w w' := by
  have HS := Lib.hid hs
  obtain ⟨n, hn⟩ : ∃ n, l.length = n := ⟨_, rfl⟩
  rw [hn] at hlen ⊢
  have HN := Lib.hid hn
  have HE := Lib.hid (fun C hC => made_empty w w.heap.size (Nat.le_refl _) C hC)
  clear hs hn
  go_enter Try.func12, Try.ntmps12
  go_wp2_with (at_builtin; refine app_bytes rfl _ _ rfl w.heap.size _ [] rfl (HE.out _ rfl) a c n l HN.out rfl ?s1 ?n1 ?b1 ?_)
  case s1 => exact HS.out.below ((Below.refl _ _).alloc (Nat.le_refl _) _)
  case n1 => have := HN.out; first | (simp only [List.length_nil]; omega) | omega
  case b1 => first | (simp; done) | (simp; omega)
  intro v2 w2 hown2 hb2 _
  have HO2 : Hid (OwnB w2 w.heap.size v2 l) := Lib.hid (by simpa [OwnB] using hown2)
  have HB2 : Hid (Below w.heap.size w w2) := Lib.hid (((Below.refl _ _).alloc (Nat.le_refl _) _).trans hb2.out)
  clear hown2 hb2
  go_wp2_with (at_builtin; refine app_bytes rfl _ _ rfl w.heap.size _ l rfl (World.ownsRow.alloc HO2.out _) _ 1 1 [191] rfl rfl (lit191 _ _ rfl) ?n2 ?b2 ?_)
  case n2 => have := HN.out; simp only [List.length_cons, List.length_nil]; omega
  case b2 => have := HB2.out.size; first | (simp; done) | (simp; omega)
  intro v3 w3 hown3 hb3 _
  have hown3 : OwnB w3 w.heap.size v3 (l ++ [191]) := hown3
  have HB3 : Hid (Below w.heap.size w w3) := Lib.hid ((HB2.out.alloc HB2.out.size _).trans hb3.out)
  obtain ⟨a3, c3, rfl, _, hs3⟩ := own_src hown3
  obtain ⟨g, o, rfl, hg, hrow⟩ : ∃ g o, a3 = some ⟨g, o, none⟩ ∧ g < w3.heap.size ∧ Row w3 g o (l ++ [191]) := by
    rcases hs3.bytes with h | ⟨g, o, h1, h2, h3⟩
    · simp at h
    · exact ⟨g, o, h1, h2, h3⟩
  have ho : o = 0 := by
    rcases hown3.2 with ⟨h, _⟩ | ⟨g', cap, cur, hv, _⟩
    · cases h
    · simp only [Value.slice.injEq, Option.some.injEq, Addr.mk.injEq] at hv; exact hv.1.2.1
  subst ho
  have hcap : n + 1 ≤ c3 := by have := hs3.cap; have := HN.out; simp at *; omega
  have hbig := hs3.big
  have hl3 : (l ++ [(191 : UInt8)]).length = n + 1 := by have := HN.out; simp; omega
  rw [hl3]
  have HR := Lib.hid hrow
  have hsl : ∀ W : World, (Instr.slice 22 (.slice (some ⟨g, 0, none⟩) (n + 1) c3) none (some (.int .i64 n)) none).run Try.prog W = .ok (.slice (some ⟨g, 0, none⟩) n c3) W := slice_hi _ _ _ _ (by omega) hcap
  clear hown3 hb3 hs3 hrow hl3
  go_wp2
  go_ret
  exact ⟨g, c3, rfl, hcap, hbig, HR.out, hg, HB3.out⟩

theorem row_front {w : World} {g : Nat} {l m : List UInt8} (h : Row w g 0 (l ++ m)) : Row w g 0 l := by
  intro j hj
  rw [h j (by simp; omega), List.getElem_append_left hj]

theorem slice_cap (a : Option Addr) (len cap hi : Nat) (h : hi ≤ cap) (W : World) : (Instr.slice 22 (.slice a len cap) none (some (.int .i64 hi)) none).run Try.prog W = .ok (.slice a hi cap) W := by
  go_simp

set_option maxHeartbeats 2000000 in
theorem kept_any (g c' : Nat) (a : Option Addr) (c : Nat) (l : List UInt8) (w : World) (hs : Src w a c l) (hlen : l.length ≤ 1048576) (hc : l.length + 1 ≤ c') (hc2 : c' ≤ 9223372036854775807) (hr : Row w g 0 (l ++ [191])) (hg : g < w.heap.size) :
    Calls Try.prog 16 #[.slice (some ⟨g, 0, none⟩) l.length c', .slice a l.length c] w fun e w' => e = .returned (.bool true) ∧ Below w.heap.size w w' := by
  have hso : Src w (some ⟨g, 0, none⟩) c' l := ⟨.inr ⟨g, 0, rfl, hg, row_front hr⟩, by omega, hc2, fun h => by cases h⟩
  have h1 := conv_src w _ _ _ hso
  have h2 := conv_src w _ _ _ hs
  have h3 : w.cell? ⟨g, l.length, none⟩ = some (.int .u8 191) := by
    have := hr l.length (by simp)
    rw [Nat.zero_add] at this
    rw [this, List.getElem_append_right (Nat.le_refl _)]; simp
  obtain ⟨n, hn⟩ : ∃ n, l.length = n := ⟨_, rfl⟩
  rw [hn] at h1 h2 h3 hc hlen ⊢
  have hsl : ∀ W : World, (Instr.slice 22 (.slice (some ⟨g, 0, none⟩) n c') none (some (.int .i64 (n + 1 : Int))) none).run Try.prog W = .ok (.slice (some ⟨g, 0, none⟩) (n + 1) c') W := fun W => by
    have h := slice_cap (some ⟨g, 0, none⟩) n c' (n + 1) hc W
    rw [show ((n + 1 : Nat) : Int) = (n : Int) + 1 by omega] at h
    exact h
  clear hs hr hso hn
  go_enter Try.func16, Try.ntmps16
  go_wp2
  all_goals
    go_ret
    exact ⟨rfl, Below.refl _ _⟩

theorem blk_set {w : World} {g : Nat} {cu : Array Value} {t : TypeId} (h : w.heap[g]? = some (.cells cu t (0, 0))) (k : Nat) (v : Value) : (w.setCell ⟨g, k, none⟩ v).heap[g]? = some (.cells (cu.setIfInBounds k v) t (0, 0)) := by
  simp [World.setCell, Array.getElem?_modify, h]

set_option maxHeartbeats 8000000 in
theorem decodes_walk (w : World) (a : Option Addr) (c : Nat) (l : List UInt8) (hs : Src w a c l) (hlen : l.length ≤ 1048576) :
    Calls Try.prog 3 #[.slice a l.length c] w fun e w' => e = .returned (.bool true) ∧ Below w.heap.size w w' := by
  have hrl := (rns_len l).1
  have hlent : ∀ wx, Below w.heap.size w wx → Calls Try.prog 12 #[.slice a l.length c] wx fun e w' => ∃ g c', e = .returned (.slice (some ⟨g, 0, none⟩) l.length c') ∧ l.length + 1 ≤ c' ∧ c' ≤ 9223372036854775807 ∧ Row w' g 0 (l ++ [191]) ∧ g < w'.heap.size ∧ Below wx.heap.size wx w' := fun wx hb => lent_any a c l wx (hs.below hb) hlen
  have hrr : ∀ wx, Below w.heap.size w wx → Calls Try.prog 18 #[.slice a l.length c] wx fun e w' => ∃ a' c', e = .returned (.slice a' (rns l).length c') ∧ Nums w' a' (ints (rns l)) ∧ Below wx.heap.size wx w' := fun wx hb => refrunes_any a c l wx (hs.below hb) (by omega)
  have hrf : ∀ wx, Below w.heap.size w wx → Calls Try.prog 20 #[.slice a l.length c] wx fun e w' => e = .returned (.int .i64 (flt l)) ∧ wx = w' := fun wx hb => reffault_any a c l wx (hs.below hb) (by omega)
  have hrd : ∀ wx, Below w.heap.size w wx → Calls Try.prog 19 #[.slice a l.length c] wx fun e w' => e = .returned (.string ⟨(dec l).toArray⟩) ∧ Below wx.heap.size wx w' := fun wx hb => refdec_any a c l wx (hs.below hb) (by omega)
  have hlr : ∀ wx a1 c1 a2 c2, Nums wx a1 (ints (rns l)) → Nums wx a2 (ints (rns l)) → Calls Try.prog 17 #[.slice a1 (rns l).length c1, .slice a2 (rns l).length c2] wx fun e w' => e = .returned (.bool true) ∧ Below wx.heap.size wx w' := fun wx a1 c1 a2 c2 h1 h2 => by
    have hil : (ints (rns l)).length = (rns l).length := by simp [ints]
    have := lrunes_any a1 a2 c1 c2 _ wx h1 h2 (by rw [hil]; omega)
    rw [hil] at this; exact this
  have hog : ∀ g c' wx, l.length + 1 ≤ c' → c' ≤ 9223372036854775807 → Row wx g 0 (l ++ [191]) → g < wx.heap.size →
      (Calls Try.prog 13 #[.slice (some ⟨g, 0, none⟩) l.length c'] wx fun e w' => e = .returned (.string ⟨(dec l).toArray⟩) ∧ Below wx.heap.size wx w') ∧
      (Calls Try.prog 14 #[.slice (some ⟨g, 0, none⟩) l.length c'] wx fun e w' => ∃ a' c2, e = .returned (.slice a' (rns l).length c2) ∧ Nums w' a' (ints (rns l)) ∧ (0 < (rns l).length → ∃ g2 cu, a' = some ⟨g2, 0, none⟩ ∧ wx.heap.size ≤ g2 ∧ w'.heap[g2]? = some (.cells cu 21 (0, 0)) ∧ (rns l).length ≤ cu.size) ∧ Below wx.heap.size wx w') ∧
      (Calls Try.prog 15 #[.slice (some ⟨g, 0, none⟩) l.length c'] wx fun e w' => e = .returned (.int .i64 (flt l)) ∧ wx = w') ∧
      (Below w.heap.size w wx → Calls Try.prog 16 #[.slice (some ⟨g, 0, none⟩) l.length c', .slice a l.length c] wx fun e w' => e = .returned (.bool true) ∧ Below wx.heap.size wx w') := fun g c' wx h1 h2 h3 h4 => by
    have hb : Bytes wx (some ⟨g, 0, none⟩) l := .inr ⟨g, 0, rfl, h4, row_front h3⟩
    refine ⟨dec_any _ c' l wx hb (by omega) (by omega) h2, ?_, flt_any _ c' l wx hb (by omega) h2, fun hbel => kept_any g c' a c l wx (hs.below hbel) hlen h1 h2 h3 h4⟩
    refine (runes_any _ c' l wx hb (by omega) (by omega) h2).mono ?_
    rintro e w' ⟨v, rfl, ho, hb2⟩
    obtain ⟨a', c2, rfl, _, hn, _⟩ := own_nums ho
    refine ⟨a', c2, rfl, hn, fun h0 => ?_, hb2⟩
    rcases ho.2 with ⟨h5, h6⟩ | ⟨g2, cap, cu, hv, hbg, hgg, hn2, _, hsz, _⟩
    · omega
    · simp only [Value.slice.injEq] at hv
      exact ⟨g2, cu, hv.1, hbg, hgg, by omega⟩
  obtain ⟨n, hn⟩ : ∃ n, l.length = n := ⟨_, rfl⟩
  rw [hn] at hlent hrr hrf hrd hog hlen hrl ⊢
  generalize (ByteArray.mk (dec l).toArray) = X at hrd hog
  generalize flt l = f at hrf hog
  generalize ints (rns l) = I at hrr hlr hog
  generalize (rns l).length = R at hrr hlr hog hrl
  have HLE := Lib.hid hlent
  have HRR := Lib.hid hrr
  have HRF := Lib.hid hrf
  have HRD := Lib.hid hrd
  have HLR := Lib.hid hlr
  have HOG := Lib.hid hog
  clear hlent hrr hrf hrd hlr hog hs hn
  go_enter Try.func3, Try.ntmps3
  go_wp2_with fail
  refine (shown_any _).mono ?_; rintro e w1 ⟨rfl, hb⟩
  have HB1 := Lib.hid hb
  clear hb
  go_wp2_with fail
  refine (HLE.out _ HB1.out).mono ?_; rintro e w2 ⟨g, c', rfl, hc1, hc2, hrow, hg, hb⟩
  have HB2 : Hid (Below w.heap.size w w2) := Lib.hid (HB1.out.trans (hb.mono HB1.out.size))
  have HROW := Lib.hid hrow
  have HQ : Hid (∀ wx, Below w2.heap.size w2 wx → Row wx g 0 (l ++ [191]) ∧ g < wx.heap.size ∧ Below w.heap.size w wx) := Lib.hid fun wx hbx => ⟨HROW.out.below hbx hg, Nat.lt_of_lt_of_le hg hbx.size, HB2.out.trans (hbx.mono HB2.out.size)⟩
  clear hb hrow
  have K2 : Hid (Below w2.heap.size w2 w2) := Lib.hid (Below.refl _ _)
  go_wp2_with fail
  refine (HOG.out g c' w2 hc1 hc2 (HQ.out _ K2.out).1 (HQ.out _ K2.out).2.1).1.mono ?_; rintro e w3 ⟨rfl, hb⟩
  have K3 : Hid (Below w2.heap.size w2 w3) := Lib.hid hb
  clear hb
  go_wp2_with fail
  refine (HOG.out g c' w3 hc1 hc2 (HQ.out _ K3.out).1 (HQ.out _ K3.out).2.1).2.1.mono ?_; rintro e w4 ⟨a4, c4, rfl, hn4, hblk, hb⟩
  have K4 : Hid (Below w2.heap.size w2 w4) := Lib.hid (K3.out.trans (hb.mono K3.out.size))
  have J4 := Lib.hid hb
  have HN4 := Lib.hid hn4
  have HBLK := Lib.hid hblk
  clear hb hn4 hblk
  go_wp2_with fail
  refine (HOG.out g c' w4 hc1 hc2 (HQ.out _ K4.out).1 (HQ.out _ K4.out).2.1).2.2.1.mono ?_; rintro e w5 ⟨rfl, rfl⟩
  go_wp2_with fail
  refine ((HOG.out g c' w4 hc1 hc2 (HQ.out _ K4.out).1 (HQ.out _ K4.out).2.1).2.2.2 (HQ.out _ K4.out).2.2).mono ?_; rintro e w5 ⟨rfl, hb⟩
  have K5 : Hid (Below w2.heap.size w2 w5) := Lib.hid (K4.out.trans (hb.mono K4.out.size))
  have L5 : Hid (Below w4.heap.size w4 w5) := Lib.hid hb
  clear hb
  go_wp2_with fail
  refine (HRR.out w5 (HQ.out _ K5.out).2.2).mono ?_; rintro e w6 ⟨a6, c6, rfl, hn6, hb⟩
  have K6 : Hid (Below w2.heap.size w2 w6) := Lib.hid (K5.out.trans (hb.mono K5.out.size))
  have L6 : Hid (Below w4.heap.size w4 w6) := Lib.hid (L5.out.trans (hb.mono L5.out.size))
  have HN6 := Lib.hid hn6
  have HM6 : Hid (Nums w6 a4 I) := Lib.hid (HN4.out.below (Nat.le_refl _) L6.out)
  clear hb hn6
  go_wp2_with fail
  refine (HLR.out w6 _ _ _ _ HM6.out HN6.out).mono ?_; rintro e w7 ⟨rfl, hb⟩
  have L7 : Hid (Below w4.heap.size w4 w7) := Lib.hid (L6.out.trans (hb.mono L6.out.size))
  have J7 : Hid (Below w3.heap.size w3 w7) := Lib.hid (J4.out.trans (L7.out.mono J4.out.size))
  have HBLK7 : Hid (0 < R → ∃ g2 cu, a4 = some ⟨g2, 0, none⟩ ∧ w3.heap.size ≤ g2 ∧ w7.heap[g2]? = some (.cells cu 21 (0, 0)) ∧ R ≤ cu.size) := Lib.hid fun h0 => by
    obtain ⟨g2, cu, e1, e2, e3, e4⟩ := HBLK.out h0
    exact ⟨g2, cu, e1, e2, (L7.out.block g2 (Array.getElem?_eq_some_iff.1 e3).1).trans e3, e4⟩
  clear hb
  go_wp2_with fail
  go_loopw [10] (fun i wr => ∃ j : Nat, j ≤ R ∧ i = .int .i64 j ∧ (0 < R → ∃ g2 cu, a4 = some ⟨g2, 0, none⟩ ∧ w3.heap.size ≤ g2 ∧ wr.heap[g2]? = some (.cells cu 21 (0, 0)) ∧ R ≤ cu.size) ∧ Below w3.heap.size w3 wr) (fun i _ => R - (intOf i).toNat)
  case atStart => exact ⟨0, by omega, rfl, HBLK7.out, J7.out⟩
  case round =>
    obtain ⟨j, hj, rfl, hbk, hb⟩ := hrel
    by_cases hlt : j < R
    · obtain ⟨g2, cu, rfl, hg2, hcu, hsz⟩ := hbk (by omega)
      have k1 : wr.cell? ⟨g2, j, none⟩ = some (cu[j]'(by omega)) := by
        rw [Lib.cell_of_heap hcu, Array.getElem?_eq_getElem (by omega)]
      have k3 : wr.frozen? ⟨g2, j, none⟩ = false := Lib.frozen_of_heap hcu _
      have HCU := Lib.hid hcu
      have HBY := Lib.hid hb
      clear hcu hb hbk
      go_wp2
      go_roundw
      case rel => exact ⟨j + 1, by omega, by go_num, fun _ => ⟨g2, _, rfl, hg2, blk_set HCU.out _ _, by rw [Array.size_setIfInBounds]; exact hsz⟩, HBY.out.setCell (p := ⟨g2, j, none⟩) hg2 _⟩
      case measure => simp [intOf]; omega
    · have K8 : Hid (Below w2.heap.size w2 wr) := Lib.hid (K3.out.trans (hb.mono K3.out.size))
      clear hb hbk
      go_wp2_with fail
      refine (HOG.out g c' wr hc1 hc2 (HQ.out _ K8.out).1 (HQ.out _ K8.out).2.1).2.1.mono ?_; rintro e w9 ⟨a9, c9, rfl, hn9, _, hb⟩
      have K9 : Hid (Below w2.heap.size w2 w9) := Lib.hid (K8.out.trans (hb.mono K8.out.size))
      have HN9 := Lib.hid hn9
      clear hb hn9
      go_wp2_with fail
      refine (HRR.out w9 (HQ.out _ K9.out).2.2).mono ?_; rintro e w10 ⟨a10, c10, rfl, hn10, hb⟩
      have K10 : Hid (Below w2.heap.size w2 w10) := Lib.hid (K9.out.trans (hb.mono K9.out.size))
      have HN10 := Lib.hid hn10
      have HM10 : Hid (Nums w10 a9 I) := Lib.hid (HN9.out.below (Nat.le_refl _) hb)
      clear hb hn10
      go_wp2_with fail
      refine (HLR.out w10 _ _ _ _ HM10.out HN10.out).mono ?_; rintro e w11 ⟨rfl, hb⟩
      have K11 : Hid (Below w2.heap.size w2 w11) := Lib.hid (K10.out.trans (hb.mono K10.out.size))
      clear hb
      go_wp2_with fail
      refine (HRD.out w11 (HQ.out _ K11.out).2.2).mono ?_; rintro e w12 ⟨rfl, hb⟩
      have K12 : Hid (Below w2.heap.size w2 w12) := Lib.hid (K11.out.trans (hb.mono K11.out.size))
      clear hb
      go_wp2_with fail
      refine (HRF.out w12 (HQ.out _ K12.out).2.2).mono ?_; rintro e w13 ⟨rfl, rfl⟩
      go_wp2
      go_ret
      exact ⟨rfl, (HQ.out _ K12.out).2.2⟩
end Go.Proofs.Ytaahblbkigkfcaa
