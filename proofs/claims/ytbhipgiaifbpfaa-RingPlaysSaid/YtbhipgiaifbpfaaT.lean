/- One call of both queues: Put. -/
import Derived.Test.YtbhipgiaifbpfaaR
import Derived.Deep.RegionHeld3
namespace Go.Proofs.Ytbhipgiaifbpfaa
open Go.RowKit

theorem Reads.keeps {w w' : World} {S D m : Nat} {a : Option Addr} {l : List UInt8} (h : Reads w a m l) (k : Keeps S D w w') (hs : ∀ x, a = some x → 0 < l.length → x.block < w.heap.size ∧ x.block ≠ S ∧ x.block ≠ D) : Reads w' a m l :=
  ⟨h.len, fun j hj => by
    obtain ⟨x, hx, hc⟩ := h.cells j hj
    obtain ⟨q1, q2, q3⟩ := hs x hx (by omega)
    have hxb : (x.add j).block = x.block := by unfold Addr.add; split <;> rfl
    have hb : w'.heap[(x.add j).block]? = w.heap[(x.add j).block]? := by rw [hxb]; exact k.block x.block q1 q2 q3
    exact ⟨x, hx, (World.cell?_of_block hb).trans hc⟩⟩
theorem Reads.src {w : World} {a : Option Addr} {m c : Nat} {l : List UInt8} {D : Nat} (h : Reads w a m l) (hc : m ≤ c) (hb : c ≤ 9223372036854775807) (hD : ∀ x, a = some x → 0 < l.length → x.block ≠ D) : Src w a m c l D := ⟨h.len, hc, hb, h.cells, hD⟩
theorem Slots.keeps {w w' : World} {S D G n : Nat} (h : Slots w G n) (k : Keeps S D w w') (h1 : G ≠ S) (h2 : G ≠ D) : Slots w' G n := by
  obtain ⟨cur, hc, hn⟩ := h.row
  exact ⟨cur, (k.block G (Array.getElem?_eq_some_iff.1 hc).1 h1 h2).trans hc, hn⟩
theorem Reads.last {w : World} {G n : Nat} {l : List UInt8} {b : UInt8} (h : Reads w (some ⟨G, 0, none⟩) (n + 1) (l ++ [b])) : w.cell? ⟨G, n, none⟩ = some (byte b) ∧ l.length = n := by
  have hl : l.length = n := by have := h.len; simpa using this
  obtain ⟨x, hx, hc⟩ := h.cells n (by rw [h.len]; omega)
  cases hx
  rw [add_at, Nat.zero_add] at hc
  refine ⟨?_, hl⟩
  rw [hc]
  subst hl
  simp
theorem own_full {w : World} {B n : Nat} {v : Value} {xs : List UInt8} (h : w.ownsRow B 5 1 v n (xs.map byte)) (hn : 1 ≤ n) : ∃ G c, v = .slice (some ⟨G, 0, none⟩) n c ∧ n ≤ c ∧ c ≤ 9223372036854775807 ∧ v.ownBlock = some G ∧ B ≤ G ∧ G < w.heap.size ∧ Reads w (some ⟨G, 0, none⟩) n xs ∧ Slots w G n := by
  obtain ⟨G, c, hv, hG, hsl⟩ := own_slots h hn
  have hlen : xs.length = n := by have := h.1; simpa using this
  obtain ⟨a, c2, hv2, hc2, hr⟩ := own_form (O := xs) (by rw [hlen]; exact h)
  rw [hv] at hv2
  injection hv2 with e1 e2 e3
  subst e1 e3
  rw [hlen] at hr hc2
  refine ⟨G, c, hv, hc2, ?_, hG, (own_blk h hG).1, (own_blk h hG).2, hr, hsl⟩
  rcases h.2 with ⟨_, h0⟩ | ⟨g, cap, cur, hv3, hb, hg, h1, h2, h3, h4⟩
  · omega
  · rw [hv] at hv3
    injection hv3 with e1 e2 e3
    subst e3
    unfold maxLen at h2
    omega
set_option maxHeartbeats 8000000 in
set_option maxRecDepth 10000 in
theorem step_put (w : World) (S D C most B : Nat) (v0 : Value) (O : List UInt8) (h : BothV w S D C most B v0 O) (N : Int) (sec : Bool) (a : Option Addr) (blen bcap : Nat) (l : List UInt8) (hl : Reads w a blen l) (hcap : blen ≤ bcap) (hcb : bcap ≤ 9223372036854775807) (hbl : blen ≤ 140737488351232)
    (hsep : ∀ x, a = some x → 0 < l.length → x.block < w.heap.size ∧ x.block ≠ S ∧ x.block ≠ D ∧ x.block ≠ C) :
    Calls Try.prog 8 #[.pointer (some ⟨S, 0, none⟩), .pointer (some ⟨C, 0, none⟩), opV 0 N sec a blen bcap] w (StepSays w S D C most B) := by
  obtain ⟨wB, hwB⟩ : ∃ wB, wB = w.alloc (.cells #[.int .i64 0, .bool sec, .int .i64 N, .slice a blen bcap] 32) := ⟨_, rfl⟩
  have hb : Below w.heap.size w wB := by rw [hwB]; exact (Below.refl _ _).alloc (Nat.le_refl _) _
  have hP : wB.cell? ⟨w.heap.size, 3, none⟩ = some (.slice a blen bcap) := by
    rw [hwB]; unfold World.cell? World.alloc; simp
  have hPl : w.heap.size < wB.heap.size := by rw [hwB]; simp
  obtain ⟨hl1, hl2, hl3⟩ := h.lt
  have hB := h.below hb
  have hlB := hl.below hb
  have HB := Lib.hid hB
  have HBL := Lib.hid hb
  have HL := Lib.hid hlB
  have HSEP := Lib.hid hsep
  have he := own_empty wB (0, 0) rfl
  have hbe : Below wB.heap.size wB (wB.alloc (.cells #[] 5)) := (Below.refl _ _).alloc (Nat.le_refl _) _
  have hBs : wB.heap.size = w.heap.size + 1 := by rw [hwB]; simp
  have HE : Hid (((w.alloc (.cells #[.int .i64 0, .bool sec, .int .i64 N, .slice a blen bcap] 32)).alloc (.cells #[] 5)).ownsRow (w.heap.size + 1) 5 1 (.slice (some ⟨w.heap.size + 1, 0, none⟩) 0 0) 0 (([] : List UInt8).map byte)) := Lib.hid (by rw [← hwB, ← hBs]; exact he)
  have HLE : Hid (Reads ((w.alloc (.cells #[.int .i64 0, .bool sec, .int .i64 N, .slice a blen bcap] 32)).alloc (.cells #[] 5)) a blen l) := Lib.hid (by rw [← hwB]; exact hlB.below hbe)
  have HW := Lib.hid hwB
  -- behind the first append
  have F1 : ∀ (v1 : Value) (w1 : World), ((w.alloc (.cells #[.int .i64 0, .bool sec, .int .i64 N, .slice a blen bcap] 32)).alloc (.cells #[] 5)).grownBy w1 (some (w.heap.size + 1)) → Below wB.heap.size wB w1 := fun v1 w1 hg => by
    rw [← hwB] at hg
    exact hbe.trans (below_grown hg (fun g e => by cases e; omega) (by simp))
  have G1 := Lib.hid F1
  have G2 : Hid (∀ (v1 : Value) (w1 : World), Below wB.heap.size wB w1 → w1.ownsRow (w.heap.size + 1) 5 1 v1 (0 + blen) (([] ++ l).map byte) → (w1.alloc (.cells #[byte 7] 5)).ownsRow (w.heap.size + 1) 5 1 v1 blen (l.map byte)) := Lib.hid fun v1 w1 hb1 ho => by
    simp only [Nat.zero_add, List.nil_append] at ho
    exact own_keeps ho (Keeps.of_below (S := C) (D := C) ((Below.refl _ _).alloc (Nat.le_refl _) _)) (by omega) (by omega)
  have G3 : Hid (∀ (v1 : Value) (w1 w2 : World), Below wB.heap.size wB w1 → (w1.alloc (.cells #[byte 7] 5)).ownsRow (w.heap.size + 1) 5 1 v1 blen (l.map byte) → (w1.alloc (.cells #[byte 7] 5)).grownBy w2 v1.ownBlock → Below wB.heap.size wB w2) := Lib.hid fun v1 w1 w2 hb1 ho hg =>
    (hb1.alloc hb1.size _).trans (below_grown hg (fun g e => by have := (own_blk ho e).1; omega) (by have := hb1.size; simp; omega))
  have HBs := Lib.hid hBs
  have hP1 : ∀ wx, Below wB.heap.size wB wx → wx.cell? ⟨w.heap.size, 3, none⟩ = some (.slice a blen bcap) := fun wx hx => (hx.cell (p := ⟨w.heap.size, 3, none⟩) hPl).trans hP
  have HP1 := Lib.hid hP1
  clear hb hB hlB hbe he F1 hP1 hl hsep h hwB hBs hP
  unfold opV
  go_enter Try.func8, Try.ntmps8
  go_wp2_with (first
    | (at_builtin; refine list_app (by rfl) (.tmp 17) (.tmp 19) (by rfl) (w.heap.size + 1) _ 0 [] (by rfl) HE.out a blen bcap l (by rfl) HLE.out (by omega) (by simp) ?_; intro v1 w1 ho1 hg1 hat1; have X1 := Lib.hid (G1.out v1 w1 hg1); have H1 := Lib.hid (G2.out v1 w1 X1.out ho1); have R1 := Lib.hid (reads_one w1 7 (0, 0)); have Z1 := Lib.hid X1.out.size; clear ho1 hg1 hat1)
    | (at_builtin; refine list_app (by rfl) (.tmp 20) (.tmp 21) (by rfl) (w.heap.size + 1) v1 blen l (by rfl) H1.out _ 1 1 [7] (by rfl) R1.out (by omega) (by have := Z1.out; have := HBs.out; simp; omega) ?_; intro v2 w2 ho2 hg2 _; obtain ⟨G, c, rfl, hc1, hc2, hGb, hGw, hGl, hrd, hsl2⟩ := own_full ho2 (by omega); have X2 := Lib.hid (G3.out v1 w1 w2 X1.out H1.out hg2); have p2 := HP1.out w2 X2.out; have RD := Lib.hid hrd; have SL := Lib.hid hsl2; have hslice : ∀ W, (Instr.slice 28 (.slice (some ⟨G, 0, none⟩) (blen + 1) c) none (some (.int .i64 blen)) none).run Try.prog W = .ok (.slice (some ⟨G, 0, none⟩) blen c) W := slice_hi _ _ _ _ (by omega) hc1; clear ho2 hg2 hrd hsl2))
  have hBV2 := HB.out.below X2.out
  have hr2 := hBV2.ring
  obtain ⟨f, n, d, hring, hq, hnl⟩ := hr2
  have hnc := hring.cnt
  have hmo := hring.top
  obtain ⟨m, hm⟩ : ∃ m, m = min (most - O.length) blen := ⟨_, rfl⟩
  have hmf : (if (most : Int) - O.length < blen then (most : Int) - O.length else blen) = (m : Int) := by
    split <;> omega
  have hll : l.length = blen := HL.out.len
  have htk : (l ++ [7]).take blen = l := by rw [← hll, List.take_left]
  have hrd2 := RD.out.take blen (by omega)
  rw [htk] at hrd2
  have hGS : G ≠ S := by omega
  have hGD : G ≠ D := by omega
  have hGC : G ≠ C := by omega
  have hput := put_any w2 S D most f n d hring (some ⟨G, 0, none⟩) blen c l (hrd2.src (by omega) hc2 (fun x hx _ => by cases hx; exact hGD)) m (by rw [hnl]; exact hmf)
  have HPUT := Lib.hid hput
  have hOm : O.length ≤ most := by omega
  have hmb : m ≤ blen := by omega
  have HMF := Lib.hid hmf
  have HF2 := Lib.hid hBV2.ref
  have HQ := Lib.hid hq
  have HNL := Lib.hid hnl
  clear hput hmf hBV2 hring hq hrd2 htk hnl hm hnc
  refine HPUT.out.mono ?_
  rintro e w3 ⟨rfl, d', hR3, hk3, hz3, hq3⟩
  have hF3 := HF2.out.keeps hk3 (Ne.symm HB.out.sc) (Ne.symm HB.out.dc) HB.out.sb HB.out.db
  have p3 := cell_keeps hk3 p2 (by have := X2.out.size; omega) (by omega) (by omega)
  have hx2 := X2.out.size
  have hL3 : Reads w3 a blen l := (HL.out.below X2.out).keeps hk3 fun x hx h0 => by
    obtain ⟨q1, q2, q3, _⟩ := HSEP.out x hx h0
    exact ⟨by omega, q2, q3⟩
  have hRD3 : Reads w3 (some ⟨G, 0, none⟩) (blen + 1) (l ++ [7]) := RD.out.keeps hk3 fun x hx _ => by cases hx; exact ⟨hGl, hGS, hGD⟩
  have hSL3 := SL.out.keeps hk3 hGS hGD
  rw [HQ.out] at hq3
  have hzg : w3.heap.size = w2.heap.size := hz3
  have hKept3 : Kept S D C w w3 := (Kept.of_below (HBL.out.trans (X2.out.mono HBL.out.size))).trans (hk3.ring C)
  have HRP : Hid (∀ wx, Same w3 wx → Calls Try.prog 14 #[.pointer (some ⟨C, 0, none⟩), .slice a blen bcap] wx fun e w' => ∃ v', e = .returned (.int .i64 m) ∧ RefR w' C most B v' (O ++ l.take m) ∧ Keeps C C wx w' ∧ w'.ownsRow wx.heap.size 5 1 v' (O.length + m) ((O ++ l.take m).map byte)) := Lib.hid fun wx hs =>
    refput_any wx C most B v0 O (hF3.keeps (Keeps.of_same hs) (Ne.symm HB.out.sc) (Ne.symm HB.out.dc) HB.out.sb HB.out.db) hmo hOm a blen bcap l (hL3.keeps (Keeps.of_same (S := S) (D := D) hs) fun x hx h0 => by
      obtain ⟨q1, q2, q3, _⟩ := HSEP.out x hx h0
      exact ⟨by omega, q2, q3⟩) hcap hcb m HMF.out
  obtain ⟨st, hst⟩ : ∃ st : ByteArray, st = ⟨l.toArray⟩ := ⟨_, rfl⟩
  have KR : ∀ wx, wx.cell? ⟨w.heap.size, 3, none⟩ = some (.slice a blen bcap) → Reads wx (some ⟨G, 0, none⟩) (blen + 1) (l ++ [7]) → Reads wx a blen l → (wx.cell? ⟨w.heap.size, 3, none⟩ = some (.slice a blen bcap) ∧ wx.cell? ⟨G, blen, none⟩ = some (.int .u8 7) ∧ (convert 28 9 (.slice (some ⟨G, 0, none⟩) blen c)).run Try.prog wx = .ok (.string st) wx ∧ (convert 28 9 (.slice a blen bcap)).run Try.prog wx = .ok (.string st) wx) := fun wx h1 h2 h3 => by
    have hr4 := h2.take blen (by omega)
    have htk4 : (l ++ [7]).take blen = l := by rw [← hll, List.take_left]
    rw [htk4] at hr4
    refine ⟨h1, h2.last.1, ?_, ?_⟩
    · rw [hst]; exact conv_src wx _ _ _ l D (hr4.src (by omega) hc2 (fun x hx _ => by cases hx; exact hGD))
    · rw [hst]; exact conv_src wx _ _ _ l D (h3.src hcap hcb (fun x hx h0 => (HSEP.out x hx h0).2.2.1))
  have K3 : Hid (∀ wx, Same w3 wx → (wx.cell? ⟨w.heap.size, 3, none⟩ = some (.slice a blen bcap) ∧ wx.cell? ⟨G, blen, none⟩ = some (.int .u8 7) ∧ (convert 28 9 (.slice (some ⟨G, 0, none⟩) blen c)).run Try.prog wx = .ok (.string st) wx ∧ (convert 28 9 (.slice a blen bcap)).run Try.prog wx = .ok (.string st) wx)) := Lib.hid fun wx hs => by
    have hkx : Keeps C C w3 wx := Keeps.of_same hs
    refine KR wx (cell_keeps hkx p3 (by omega) (by omega) (by omega)) (hRD3.keeps hkx fun x hx _ => by cases hx; exact ⟨by simp; omega, hGC, hGC⟩) (hL3.keeps hkx fun x hx h0 => by
      obtain ⟨q1, _, _, q4⟩ := HSEP.out x hx h0
      exact ⟨by omega, q4, q4⟩)
  have K4 : Hid (∀ wx w4 v', Same w3 wx → Keeps C C wx w4 → RefR w4 C most B v' (O ++ l.take m) → w4.ownsRow wx.heap.size 5 1 v' (O.length + m) ((O ++ l.take m).map byte) →
      (w4.cell? ⟨w.heap.size, 3, none⟩ = some (.slice a blen bcap) ∧ w4.cell? ⟨G, blen, none⟩ = some (.int .u8 7) ∧ (convert 28 9 (.slice (some ⟨G, 0, none⟩) blen c)).run Try.prog w4 = .ok (.string st) w4 ∧ (convert 28 9 (.slice a blen bcap)).run Try.prog w4 = .ok (.string st) w4) ∧
      BothV w4 S D C most B v' (O ++ l.take m) ∧ Apart S D C v' G ∧ Slots w4 G (blen + 1) ∧ Kept S D C w w4) := Lib.hid fun wx w4 v' hs hk4 hF4 ho4 => by
    have hkx : Keeps C C w3 w4 := (Keeps.of_same hs).trans hk4
    have hxz : wx.heap.size = w3.heap.size := by rw [hs.heap]
    have hRD4 : Reads w4 (some ⟨G, 0, none⟩) (blen + 1) (l ++ [7]) := hRD3.keeps hkx fun x hx _ => by cases hx; exact ⟨by simp; omega, hGC, hGC⟩
    have hL4 : Reads w4 a blen l := hL3.keeps hkx fun x hx h0 => by
      obtain ⟨q1, _, _, q4⟩ := HSEP.out x hx h0
      exact ⟨by omega, q4, q4⟩
    refine ⟨KR w4 (cell_keeps hkx p3 (by omega) (by omega) (by omega)) hRD4 hL4, ?_, ?_, hSL3.keeps hkx hGC hGC, hKept3.trans (hkx.ref S D)⟩
    · exact ⟨⟨f, n + m, d', hR3.keeps hkx HB.out.sc HB.out.dc HB.out.sc HB.out.dc, hq3, by rw [List.length_append, List.length_take, HNL.out]; omega⟩, hF4, HB.out.sb, HB.out.db, HB.out.sc, HB.out.dc⟩
    · exact ⟨Ne.symm hGS, Ne.symm hGD, Ne.symm hGC, fun e => by have := (own_blk ho4 e).1; omega⟩
  have hGw2 : w.heap.size ≤ G := by omega
  have hCP : w.heap.size ≠ C := by omega
  clear KR hR3 hk3 hq3 hF3 hL3 hRD3 hSL3 hKept3 HPUT HMF HF2 HQ HNL HL RD SL HB X2 hst p2 HSEP HE HLE G1 G2 G3 H1 R1 Z1 X1 HP1
  go_wp2_with fail
  have b1 : (0 : Int) ≤ (blen : Int) := by omega
  have b2 : (blen : Int) ≤ ((blen + 1 : Nat) : Int) := by omega
  have b3 : (blen : Int) < ((blen + 1 : Nat) : Int) := by omega
  have b4 : (blen : Int) < (blen : Int) + 1 := by omega
  go_region_held3 (fun w' => (w'.cell? ⟨w.heap.size, 3, none⟩ = some (.slice a blen bcap) ∧ w'.cell? ⟨G, blen, none⟩ = some (.int .u8 7) ∧ (convert 28 9 (.slice (some ⟨G, 0, none⟩) blen c)).run Try.prog w' = .ok (.string st) w' ∧ (convert 28 9 (.slice a blen bcap)).run Try.prog w' = .ok (.string st) w')) (first | exact K3.out _ ⟨rfl, rfl, rfl, rfl⟩ | exact hk.1 | assumption)
    (first | (go_at_call 14; refine (HRP.out w3.drew ⟨rfl, rfl, rfl, rfl⟩).mono ?_; rintro e w4 ⟨v', rfl, hF4, hk4, ho4⟩; have hk := K4.out w3.drew w4 v' ⟨rfl, rfl, rfl, rfl⟩ hk4 hF4 ho4; clear hF4 hk4 ho4))
  obtain ⟨_, hBV, hA, hSl, hKp⟩ := hk
  have HB4 := Lib.hid hBV
  have HA := Lib.hid hA
  have HSL4 := Lib.hid hSl
  have HK4 := Lib.hid hKp
  clear hBV hA hSl hKp K3 K4 HRP
  go_wp2_with fail
  go_loopw [9] (fun i wr => ∃ j : Nat, j ≤ blen + 1 ∧ i = .int .i64 j ∧ BothV wr S D C most B v' (O ++ l.take m) ∧ Slots wr G (blen + 1) ∧ Kept S D C w wr) (fun i _ => blen + 1 - (intOf i).toNat)
  case atStart => exact ⟨0, by omega, rfl, HB4.out, HSL4.out, HK4.out⟩
  case round =>
    obtain ⟨j, hj, rfl, hbv, hsl, hkp⟩ := hrel
    have HBR := Lib.hid hbv
    have HKR := Lib.hid hkp
    by_cases hlt : j < blen + 1
    · obtain ⟨⟨x, hx⟩, hf, hst⟩ := hsl.at_ j hlt
      have HST := Lib.hid hst
      clear hbv hsl hkp hst
      go_wp2
      go_roundw
      case rel =>
        obtain ⟨q1, q2⟩ := HST.out (.int .u8 255)
        exact ⟨j + 1, by omega, by go_num, HBR.out.other q2 HA.out, q1, HKR.out.tail (q2.below (HKR.out.size) hGw2 hGw2)⟩
      case measure => simp [intOf]; omega
    · clear hbv hsl hkp
      go_wp2
      go_ret
      exact ⟨rfl, ⟨_, HBR.out.both⟩, HKR.out⟩
end Go.Proofs.Ytbhipgiaifbpfaa
