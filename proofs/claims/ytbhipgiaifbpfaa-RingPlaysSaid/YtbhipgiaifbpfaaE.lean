/- A ring in memory: putting bytes in. -/
import Derived.Test.YtbhipgiaifbpfaaD
import Derived.Deep.Cut
namespace Go.Proofs.Ytbhipgiaifbpfaa
open Go.RowKit

/-- a slice of bytes in memory, away from a block -/
structure Src (w : World) (a : Option Addr) (n c : Nat) (l : List UInt8) (D : Nat) : Prop where
  len : l.length = n
  cap : n ≤ c
  big : c ≤ 9223372036854775807
  cells : ∀ j (h : j < l.length), ∃ x, a = some x ∧ w.cell? (x.add j) = some (byte l[j])
  away : ∀ x, a = some x → 0 < l.length → x.block ≠ D

theorem Src.read {w : World} {a : Option Addr} {len cap : Nat} {l : List UInt8} {D : Nat} (h : Src w a len cap l D) (lo m : Nat) (x : Addr) (hx : a = some x) (y : Addr) (hy : y = x.add lo) :
    ∀ j v, (((l.drop lo).take m).map byte)[j]? = some v → w.cell? (y.add j) = some v := by
  intro j v hv
  obtain ⟨hj, hv⟩ := List.getElem?_eq_some_iff.1 hv
  simp at hj hv
  obtain ⟨x', hx', hc⟩ := h.cells (lo + j) (by omega)
  rw [hx] at hx'
  cases hx'
  rw [hy, Addr.add_add, hc, ← hv]
theorem cell_other {w : World} {g : Nat} {cs : Array Value} {y : Addr} (h : y.block ≠ g) : (w.setRow g cs).cell? y = w.cell? y := by
  unfold World.cell?
  rw [setRow_other _ _ _ _ h]

theorem Src.heap {w w' : World} {a : Option Addr} {n c : Nat} {l : List UInt8} {D : Nat} (h : Src w a n c l D) (e : w'.heap = w.heap) : Src w' a n c l D :=
  ⟨h.len, h.cap, h.big, fun j hj => by
    obtain ⟨x, hx, hc⟩ := h.cells j hj
    refine ⟨x, hx, ?_⟩
    unfold World.cell? at hc ⊢
    rw [e]; exact hc, h.away⟩

theorem Ring.stored1 {w : World} {S D most first n : Nat} {d : List UInt8} (h : Ring w S D most first n d) (n' : Nat) (hn : n' ≤ most) :
    Ring (w.setCell ⟨S, 2, none⟩ (.int .i64 n')) S D most first n' d ∧ Keeps S D w (w.setCell ⟨S, 2, none⟩ (.int .i64 n')) := by
  have e1 := setCell_eq_setRow w S 2 _ 41 (0, 0) (.int .i64 n') h.str
  rw [e1]
  have h1 := setRow_heap w S _ (#[Value.slice (some ⟨D, 0, none⟩) most most, .int .i64 first, .int .i64 n].setIfInBounds 2 (.int .i64 n')) 41 (0, 0) h.str
  refine ⟨⟨h1, ?_, h.len, h.one, h.top, h.fst, hn, h.ne⟩, Keeps.setRow S D _ S _ (.inl rfl)⟩
  rw [setRow_other _ _ _ _ (Ne.symm h.ne)]
  exact h.dat
/-- the bytes' row written anew -/
theorem Ring.rowed {w : World} {S D most first n : Nat} {d : List UInt8} (h : Ring w S D most first n d) (d' : List UInt8) (hl : d'.length = most) :
    Ring (w.setRow D (d'.map byte).toArray) S D most first n d' ∧ Keeps S D w (w.setRow D (d'.map byte).toArray) :=
  ⟨⟨(setRow_other _ _ _ _ h.ne).trans h.str, setRow_heap w D _ _ 5 (0, 0) h.dat, hl, h.one, h.top, h.fst, h.cnt, h.ne⟩, Keeps.setRow S D _ D _ (.inr rfl)⟩
theorem Src.rowed {w : World} {a : Option Addr} {n c : Nat} {l : List UInt8} {D : Nat} (h : Src w a n c l D) (cs : Array Value) : Src (w.setRow D cs) a n c l D :=
  ⟨h.len, h.cap, h.big, fun j hj => by
    obtain ⟨x, hx, hc⟩ := h.cells j hj
    refine ⟨x, hx, ?_⟩
    rw [cell_other (by have := h.away x hx (by omega); unfold Addr.add; split <;> exact this)]; exact hc, h.away⟩

theorem put_any (w : World) (S D most first n : Nat) (d : List UInt8) (h : Ring w S D most first n d) (a : Option Addr) (blen bcap : Nat) (l : List UInt8) (hs : Src w a blen bcap l D) (m : Nat)
    (hm : (if (most : Int) - n < blen then (most : Int) - n else blen) = (m : Int)) :
    Calls Try.prog 13 #[.pointer (some ⟨S, 0, none⟩), .slice a blen bcap] w fun e w' => e = .returned (.int .i64 m) ∧ ∃ d', Ring w' S D most first (n + m) d' ∧ Keeps S D w w' ∧ w'.heap.size = w.heap.size ∧ queue most first (n + m) d' = queue most first n d ++ l.take m := by
  have hro := room_any w S D most first n d h
  have hn := h.cnt
  have ht := h.top
  have hf := h.fst
  have ho := h.one
  have hlen := h.len
  have hml : m ≤ l.length := by have := hs.len; split at hm <;> omega
  have hmn : n + m ≤ most := by split at hm <;> omega
  have hmb : m ≤ blen := by rw [← hs.len]; exact hml
  have hcap := hs.cap
  have hbig := hs.big
  have hS := h.S_lt
  have hD := h.D_lt
  have hSD := h.ne
  obtain ⟨fr, hfr⟩ : ∃ fr, fr = (first + n) % most := ⟨_, rfl⟩
  have hfr1 : fr < most := by rw [hfr]; exact Nat.mod_lt _ (by omega)
  obtain ⟨k, hk⟩ : ∃ k, k = min m (most - fr) := ⟨_, rfl⟩
  have hq := queue_put (k1 := k) hlen hf hmn hml (by rw [hk, hfr])
  rw [← hfr] at hq
  have hkm : k ≤ m := by omega
  have hkf : fr + k ≤ most := by omega
  have HR := Lib.hid h
  have HS := Lib.hid hs
  have HQ := Lib.hid hq
  have HRO := Lib.hid hro
  have HFR : Hid ((((first : Int) + n) % most) = (fr : Int)) := Lib.hid (by rw [hfr, Int.natCast_emod, Int.natCast_add])
  have HK := Lib.hid hk
  have HL := Lib.hid hlen
  clear h hs hq hro hk hfr hlen
  go_enter Try.func13, Try.ntmps13
  go_wp2_with fail
  refine HRO.out.mono ?_
  rintro e w0 ⟨rfl, k0, rfl⟩
  have hR1 : Ring (w.drewN k0) S D most first n d := HR.out.same (Same.drewN _ _)
  have hK1 : Keeps S D w (w.drewN k0) := Keeps.of_same (Same.drewN _ _)
  have hS1 : Src (w.drewN k0) a blen bcap l D := HS.out.heap rfl
  have hz1 : (w.drewN k0).heap.size = w.heap.size := rfl
  generalize w.drewN k0 = w1 at hR1 hK1 hS1 hz1
  have c0 := hR1.c0
  have c1 := hR1.c1
  have c2 := hR1.c2
  have HR1 := Lib.hid hR1
  have HK1 := Lib.hid hK1
  have HS1 := Lib.hid hS1
  have HZ1 := Lib.hid hz1
  clear hR1 hK1 hS1 hz1
  go_wp2
  go_quiet (fail)
  go_wp2
  rw [HFR.out]
  go_name_world W2 hW2
  have sm : Same w1 W2 := by rw [← hW2]; exact Same.drewN _ _
  have hR2 := HR1.out.same sm
  have hS2 := HS1.out.heap sm.heap
  have hK2 : Keeps S D w W2 := HK1.out.trans (Keeps.of_same sm)
  have hz2 : W2.heap.size = w.heap.size := by rw [sm.heap]; exact HZ1.out
  clear hW2 sm c0 c1 c2
  have c0 := hR2.c0
  have c2 := hR2.c2
  have f2 := hR2.f 2
  -- the first copy
  have hg0 : W2.drew.heap[D]? = some (.cells (d.map byte).toArray 5 (0, 0)) := hR2.dat
  have hsl : ∀ W, (Instr.slice 28 (.slice a blen bcap) none (some (.int .i64 m)) none).run Try.prog W = .ok (.slice a m bcap) W := slice_hi a blen bcap m hmb hcap
  obtain ⟨cs1, hcs1⟩ : ∃ cs1, cs1 = (l.take k).map byte := ⟨_, rfl⟩
  have hl1 : cs1.length = k := by rw [hcs1]; simp; omega
  have hone1 : ∀ v ∈ cs1, v.oneCell' = true := by rw [hcs1]; exact byte_one _
  have hp1 : 0 < cs1.length → some (⟨D, fr, none⟩ : Addr) = some ⟨D, fr, none⟩ ∧ ∃ ad, a = some ad ∧ ∀ j v, cs1[j]? = some v → W2.drew.cell? (ad.add j) = some v := by
    intro h0
    obtain ⟨x, hx, _⟩ := hS2.cells 0 (by omega)
    refine ⟨rfl, x, hx, fun j v hv => ?_⟩
    rw [hcs1] at hv
    exact hS2.read 0 k x hx x (Addr.add_zero' x).symm j v (by simpa using hv)
  have G0 := Lib.hid hg0
  have L1 := Lib.hid hl1
  have O1 := Lib.hid hone1
  have P1 := Lib.hid hp1
  have C1 := Lib.hid hcs1
  have N1 : Hid (cs1.length = Nat.min m (most - fr)) := Lib.hid (by rw [hl1]; exact HK.out)
  have F1 : Hid (fr + cs1.length ≤ (d.map byte).length) := Lib.hid (by rw [hl1]; simp; have := HL.out; omega)
  have HR2 := Lib.hid hR2
  have HS2 := Lib.hid hS2
  have HK2 := Lib.hid hK2
  have HZ2 := Lib.hid hz2
  clear hg0 hl1 hone1 hp1 hcs1 hR2 hS2 hK2 hz2
  have hle : fr ≤ most := by omega
  have hne : ¬ most = fr := by omega
  go_region_law (refine step_copy_row rfl (.tmp 33) (.tmp 36) 28 28 rfl 5 Try.underlying28 size5 _ _ _ _ _ _ rfl rfl D fr (d.map byte) 5 G0.out cs1 N1.out P1.out F1.out O1.out ?_)
  all_goals
    rw [L1.out]
    go_wp2
    go_name_world W3 hW3
    obtain ⟨d1, hd1⟩ : ∃ d1, d1 = splice d fr (l.take k) := ⟨_, rfl⟩
    have hd1l : d1.length = most := by rw [hd1, length_splice _ _ _ (by rw [List.length_take]; have := HL.out; omega)]; exact HL.out
    have hW3' : W3 = W2.drew.setRow D (d1.map byte).toArray := by rw [hd1, ← splice_map, ← C1.out]; exact hW3.symm
    clear hW3
    have hr := (HR2.out.same (Same.drewN _ 1)).rowed d1 hd1l
    have hs3 := (HS2.out.heap (w' := W2.drew) rfl).rowed (d1.map byte).toArray
    have hz3 : (W2.drew.setRow D (d1.map byte).toArray).heap.size = w.heap.size := by rw [setRow_size]; exact HZ2.out
    have hk3 : Keeps S D w (W2.drew.setRow D (d1.map byte).toArray) := (HK2.out.trans (Keeps.of_same (Same.drewN _ 1))).trans hr.2
    have hr3 : Ring (W2.drew.setRow D (d1.map byte).toArray) S D most first n d1 := hr.1
    rw [← hW3'] at hr3 hs3 hz3 hk3
    clear hW3' hr
    have c0' := hr3.c0
    -- the second copy
    have hg1 : W3.drew.heap[D]? = some (.cells (d1.map byte).toArray 5 (0, 0)) := hr3.dat
    obtain ⟨cs2, hcs2⟩ : ∃ cs2, cs2 = ((l.drop k).take (m - k)).map byte := ⟨_, rfl⟩
    have hl2 : cs2.length = m - k := by rw [hcs2]; simp; omega
    have hone2 : ∀ v ∈ cs2, v.oneCell' = true := by rw [hcs2]; exact byte_one _
    have hp2 : 0 < cs2.length → some (⟨D, 0, none⟩ : Addr) = some ⟨D, 0, none⟩ ∧ ∃ ad, Option.map (fun x => x.add k) a = some ad ∧ ∀ j v, cs2[j]? = some v → W3.drew.cell? (ad.add j) = some v := by
      intro h0
      obtain ⟨x, hx, _⟩ := hs3.cells 0 (by have := hs3.len; omega)
      refine ⟨rfl, x.add k, by rw [hx]; rfl, fun j v hv => ?_⟩
      rw [hcs2] at hv
      exact hs3.read k (m - k) x hx (x.add k) rfl j v hv
    have G1 := Lib.hid hg1
    have L2 := Lib.hid hl2
    have O2 := Lib.hid hone2
    have P2 := Lib.hid hp2
    have C2 := Lib.hid hcs2
    have N2 : Hid (cs2.length = Nat.min (m - k) most) := Lib.hid (by rw [hl2]; exact (Nat.min_eq_left (by omega)).symm)
    have F2 : Hid (0 + cs2.length ≤ (d1.map byte).length) := Lib.hid (by rw [hl2]; simp; omega)
    have HR3 := Lib.hid hr3
    have HK3 := Lib.hid hk3
    have HZ3 := Lib.hid hz3
    have HD1 := Lib.hid hd1
    have HD1L := Lib.hid hd1l
    clear hg1 hl2 hone2 hp2 hcs2 hr3 hs3 hz3 hk3 hd1 hd1l c0 c2 f2 hsl
    have hkb : k ≤ bcap := by omega
    have hmc : m ≤ bcap := by omega
    by_cases hbc : bcap = k
    · have Z2 : Hid (cs2.length = 0) := Lib.hid (by rw [L2.out]; omega)
      have hmk : m - k = 0 := by omega
      have hmk2 : m ≤ k := by omega
      have N3 : Hid (cs2.length = Nat.min 0 most) := Lib.hid (by rw [Z2.out]; exact (Nat.zero_min _).symm)
      go_region_law (refine step_copy_row rfl (.tmp 41) (.tmp 45) 28 28 rfl 5 Try.underlying28 size5 _ _ _ _ _ _ rfl rfl D 0 (d1.map byte) 5 G1.out cs2 N3.out (fun h => absurd h (by rw [Z2.out]; simp)) F2.out O2.out ?_)
      all_goals
        rw [Z2.out]
        go_upto_region 5 with (fail)
        go_name_world W4 hW4
        obtain ⟨d2, hd2⟩ : ∃ d2, d2 = splice d1 0 ((l.drop k).take (m - k)) := ⟨_, rfl⟩
        have hd2l : d2.length = most := by rw [hd2, length_splice _ _ _ (by rw [List.length_take, List.length_drop]; have := HD1L.out; omega)]; exact HD1L.out
        have hW4' : W4 = W3.drew.setRow D (d2.map byte).toArray := by rw [hd2, ← splice_map, ← C2.out]; exact hW4.symm
        clear hW4
        have hr := (HR3.out.same (Same.drewN _ 1)).rowed d2 hd2l
        have hz4 : (W3.drew.setRow D (d2.map byte).toArray).heap.size = w.heap.size := by rw [setRow_size]; exact HZ3.out
        have hk4 : Keeps S D w (W3.drew.setRow D (d2.map byte).toArray) := (HK3.out.trans (Keeps.of_same (Same.drewN _ 1))).trans hr.2
        have hr4 : Ring (W3.drew.setRow D (d2.map byte).toArray) S D most first n d2 := hr.1
        rw [← hW4'] at hr4 hz4 hk4
        clear hW4' hr
        have c2 := hr4.c2
        have f2 := hr4.f 2
        have HR4 := Lib.hid hr4
        have HK4 := Lib.hid hk4
        have HZ4 := Lib.hid hz4
        have HD2 := Lib.hid hd2
        clear hr4 hz4 hk4 hd2 c0'
        go_wp2
        go_ret
        have st := HR4.out.stored1 (n + m) hmn
        rw [show ((n + m : Nat) : Int) = (n : Int) + m by omega] at st
        refine ⟨rfl, d2, st.1, HK4.out.trans st.2, ?_, ?_⟩
        · simp [World.setCell]; exact HZ4.out
        · rw [HD2.out, HD1.out]; exact HQ.out
    · go_region_law (refine step_copy_row rfl (.tmp 41) (.tmp 45) 28 28 rfl 5 Try.underlying28 size5 _ _ _ _ _ _ rfl rfl D 0 (d1.map byte) 5 G1.out cs2 N2.out P2.out F2.out O2.out ?_)
      all_goals
        rw [L2.out]
        go_upto_region 5 with (fail)
        go_name_world W4 hW4
        obtain ⟨d2, hd2⟩ : ∃ d2, d2 = splice d1 0 ((l.drop k).take (m - k)) := ⟨_, rfl⟩
        have hd2l : d2.length = most := by rw [hd2, length_splice _ _ _ (by rw [List.length_take, List.length_drop]; have := HD1L.out; omega)]; exact HD1L.out
        have hW4' : W4 = W3.drew.setRow D (d2.map byte).toArray := by rw [hd2, ← splice_map, ← C2.out]; exact hW4.symm
        clear hW4
        have hr := (HR3.out.same (Same.drewN _ 1)).rowed d2 hd2l
        have hz4 : (W3.drew.setRow D (d2.map byte).toArray).heap.size = w.heap.size := by rw [setRow_size]; exact HZ3.out
        have hk4 : Keeps S D w (W3.drew.setRow D (d2.map byte).toArray) := (HK3.out.trans (Keeps.of_same (Same.drewN _ 1))).trans hr.2
        have hr4 : Ring (W3.drew.setRow D (d2.map byte).toArray) S D most first n d2 := hr.1
        rw [← hW4'] at hr4 hz4 hk4
        clear hW4' hr
        have c2 := hr4.c2
        have f2 := hr4.f 2
        have HR4 := Lib.hid hr4
        have HK4 := Lib.hid hk4
        have HZ4 := Lib.hid hz4
        have HD2 := Lib.hid hd2
        clear hr4 hz4 hk4 hd2 c0'
        go_wp2
        go_ret
        have st := HR4.out.stored1 (n + m) hmn
        rw [show ((n + m : Nat) : Int) = (n : Int) + m by omega] at st
        refine ⟨rfl, d2, st.1, HK4.out.trans st.2, ?_, ?_⟩
        · simp [World.setCell]; exact HZ4.out
        · rw [HD2.out, HD1.out]; exact HQ.out
end Go.Proofs.Ytbhipgiaifbpfaa
