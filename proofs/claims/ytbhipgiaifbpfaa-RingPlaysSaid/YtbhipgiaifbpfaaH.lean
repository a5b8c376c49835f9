/- RingOrder, the walk of its law. -/
import Derived.Test.YtbhipgiaifbpfaaG
namespace Go.Proofs.Ytbhipgiaifbpfaa
open Go.RowKit

def lenOf : Value → Nat
  | .slice _ n _ => n
  | _ => 0
theorem lenOf_own {w : World} {B n : Nat} {v : Value} {xs : List Value} (h : w.ownsRow B 5 1 v n xs) : lenOf v = n := by
  rcases h.2 with ⟨rfl, h0⟩ | ⟨g, cap, cur, rfl, _⟩
  · exact h0.symm
  · rfl
theorem info5' : ∃ i, Try.prog.info? 5 = some i ∧ i.zero = some (.int .u8 0) ∧ i.size = 1 ∧ i.bytes = 1 := by
  obtain ⟨i, hi, h⟩ := Option.map_eq_some_iff.1 info5
  simp only [Prod.mk.injEq] at h
  exact ⟨i, hi, h.1, h.2.1, h.2.2⟩

theorem take_k (z : Int) (n : Nat) (hz : 1 ≤ z) (hn : 1 ≤ n) : ∃ k : Nat, (if (n : Int) < z then (n : Int) else z) = (k : Int) ∧ 1 ≤ k ∧ k ≤ n ∧ (k : Int) ≤ z := by
  refine ⟨(if (n : Int) < z then (n : Int) else z).toNat, ?_, ?_, ?_, ?_⟩ <;> split <;> omega
theorem piece_cases (c plen : Nat) (pa : Option Addr) (P : Nat → Int) (w : World)
    (h : ∀ j, j < plen → ∃ b o, pa = some ⟨b, o, none⟩ ∧ b < w.heap.size ∧ w.cell? ⟨b, o + j, none⟩ = some (.int .i64 (P j)) ∧ P j ≤ 9223372036854775807) :
    plen = 0 ∨ ∃ j pb po z, j < plen ∧ ((c : Int) % plen = (j : Nat)) ∧ pa = some ⟨pb, po, none⟩ ∧ pb < w.heap.size ∧ w.cell? ⟨pb, po + j, none⟩ = some (.int .i64 z) ∧ z ≤ 9223372036854775807 := by
  rcases Nat.eq_zero_or_pos plen with h0 | h0
  · exact .inl h0
  · obtain ⟨b, o, h1, h2, h3, h4⟩ := h (c % plen) (Nat.mod_lt _ h0)
    exact .inr ⟨c % plen, b, o, _, Nat.mod_lt _ h0, by rw [Int.natCast_emod], h1, h2, h3, h4⟩
theorem St.same {w wr wx : World} {S D B most : Nat} {L : List UInt8} {p q qc first n : Nat} {d O : List UInt8} {la : Option Addr} {out : Value} (h : St w wr S D B most L p q qc first n d O la out) (hs : Same wr wx) :
    St w wx S D B most L p q qc first n d O la out :=
  ⟨h.ring.same hs, h.sb, h.db, by rw [hs.heap]; exact h.bb, h.ws, h.wd, h.src, h.old, own_keeps h.own (Keeps.of_same (S := S) (D := D) hs) h.sb h.db, h.all, h.bel.trans ⟨hs.os, hs.tape, hs.output, by rw [hs.heap]; exact Nat.le_refl _, fun i _ => by rw [hs.heap]⟩, h.ple⟩

theorem slice_from (a : Option Addr) (len cap lo : Nat) (hl : lo ≤ len) (hc : len ≤ cap) (W : World) :
    (Instr.slice 28 (.slice a len cap) (some (.int .i64 lo)) none none).run Try.prog W = .ok (.slice (if cap = lo then a else Option.map (fun x => x.add lo) a) (len - lo) (cap - lo)) W := by
  have h1 : lo ≤ cap := by omega
  go_simp

theorem conv_src (w : World) (a : Option Addr) (n c : Nat) (l : List UInt8) (D : Nat) (h : Src w a n c l D) : (convert 28 9 (.slice a n c)).run Try.prog w = .ok (.string ⟨l.toArray⟩) w := by
  have hl := h.len
  subst hl
  cases a with
  | none =>
    have h0 : l = [] := by
      cases l with
      | nil => rfl
      | cons b r => obtain ⟨x, hx, _⟩ := h.cells 0 (by simp); cases hx
    subst h0
    rw [run_convert_bytes_string w 28 9 5 none _ c Try.underlying28 Try.underlying5 Try.underlying9]
    rfl
  | some x =>
    exact run_convert_bytes_back (P := Try.prog) w 28 9 5 x c l Try.underlying28 Try.underlying5 Try.underlying9 (fun j hj => by
      obtain ⟨y, hy, hc⟩ := h.cells j hj
      cases hy
      exact hc)
theorem conv_own (w : World) (B : Nat) (v : Value) (O : List UInt8) (h : w.ownsRow B 5 1 v O.length (O.map byte)) : (convert 28 9 v).run Try.prog w = .ok (.string ⟨O.toArray⟩) w := by
  rcases h.2 with ⟨rfl, h0⟩ | ⟨g, cap, cur, rfl, _, hg, _, _, _, ht⟩
  · have : O = [] := List.eq_nil_of_length_eq_zero h0
    subst this
    rw [run_convert_bytes_string w 28 9 5 none _ 0 Try.underlying28 Try.underlying5 Try.underlying9]
    rfl
  · refine run_convert_bytes_back (P := Try.prog) w 28 9 5 ⟨g, 0, none⟩ cap O Try.underlying28 Try.underlying5 Try.underlying9 (fun j hj => ?_)
    rw [add_at]
    unfold World.cell?
    simp only [hg]
    have h2 : (cur.toList.take (O.length * 1))[j]? = some (byte O[j]) := by rw [ht]; simp [hj]
    rw [List.getElem?_take, if_pos (by omega)] at h2
    simpa [byte] using h2

theorem ringOrder_none (most : Int) (a : Option Addr) (blen bcap : Nat) (pa : Option Addr) (plen pcap : Nat) (w : World) (h : most < 1 ∨ 4096 < most) :
    Calls Try.prog 4 #[.int .i64 most, .slice a blen bcap, .slice pa plen pcap] w fun e w' => e = .returned (.bool true) ∧ Below w.heap.size w w' := by
  rcases h with h | h
  all_goals
    go_enter Try.func4, Try.ntmps4
    go_wp2_with fail
    refine (shown_any _).mono ?_
    rintro e w1 ⟨rfl, hb⟩
    have HB := Lib.hid hb
    clear hb
    go_wp2_with fail
    refine (new_none _ most (by omega)).mono ?_
    rintro e w1 ⟨rfl, rfl⟩
    go_wp2
    go_ret
    exact ⟨rfl, HB.out⟩

set_option maxHeartbeats 4000000 in
theorem ringOrder_some (most : Nat) (h1 : 1 ≤ most) (h2 : most ≤ 4096) (a : Option Addr) (blen bcap : Nat) (L : List UInt8) (pa : Option Addr) (plen pcap : Nat) (P : Nat → Int) (w : World)
    (hs : ∀ D, w.heap.size ≤ D → Src w a blen bcap L D) (ho : ∀ x, a = some x → 0 < blen → x.block < w.heap.size) (hbig : bcap ≤ 140737488351232)
    (hpc : ∀ j, j < plen → ∃ b o, pa = some ⟨b, o, none⟩ ∧ b < w.heap.size ∧ w.cell? ⟨b, o + j, none⟩ = some (.int .i64 (P j)) ∧ P j ≤ 9223372036854775807) (hpl : plen ≤ 9223372036854775807) :
    Calls Try.prog 4 #[.int .i64 most, .slice a blen bcap, .slice pa plen pcap] w fun e w' => e = .returned (.bool true) ∧ Below w.heap.size w w' := by
  have HS := Lib.hid hs
  have HO := Lib.hid ho
  have HP := Lib.hid hpc
  clear hs ho hpc
  obtain ⟨i5, hi5, hz5, hs5, hb5⟩ := info5'
  go_enter Try.func4, Try.ntmps4
  go_wp2_with fail
  refine (shown_any _).mono ?_
  rintro e w1 ⟨rfl, hb⟩
  have HB := Lib.hid hb
  clear hb
  go_wp2_with fail
  refine (new_any _ most h1 h2).mono ?_
  rintro e w2 ⟨S, D, rfl, hR, hb, hS, hD, hS2, hD2⟩
  have hsz := HB.out.size
  have hst : St w w2 S D w2.heap.size most L 0 blen bcap 0 0 (List.replicate most 0) [] a (.slice none 0 0) :=
    ⟨hR, hS2, hD2, Nat.le_refl _, by omega, by omega, HS.out D (by omega), HO.out, World.ownsRow_nil _ _ _ _, by simp [queue], HB.out.trans (hb.mono hsz), by omega⟩
  have hBL : L.length = blen := (HS.out D (by omega)).len
  have hBC : blen ≤ bcap := (HS.out D (by omega)).cap
  have H0 := Lib.hid hst
  generalize w2.heap.size = B at hst H0
  have HBL := Lib.hid hBL
  clear hst hR hb hS2 hD2 hS hD hsz hBL
  go_wp2_with fail
  go_loopw [9, 10, 11] (fun l o i wr => ∃ (p q qc first n : Nat) (d O : List UInt8) (la : Option Addr) (c : Nat), l = .slice la q qc ∧ i = .int .i64 c ∧ c ≤ O.length ∧ O.length ≤ blen ∧ St w wr S D B most L p q qc first n d O la o) (fun _ o _ _ => blen - lenOf o)
  case atStart => exact ⟨0, blen, bcap, 0, 0, _, [], a, 0, rfl, rfl, by simp, by simp, H0.out⟩
  case round =>
    obtain ⟨p, q, qc, first, n, d, O, la, c, rfl, rfl, hc, hO, hst⟩ := hrel
    have hl := hst.lens
    have hn := hst.ring.cnt
    have hqle : q ≤ blen := by have := HBL.out; omega
    have HL := Lib.hid hl
    clear hl
    have hqc := hst.src.cap
    have hqb := hst.src.big
    have hmo := lenOf_own hst.own
    have HST := Lib.hid hst
    have HMO := Lib.hid hmo
    clear hst hmo
    by_cases hgo : 0 < q ∨ 0 < n
    · -- the test
      have htest : ∀ K : Nat, True := fun _ => trivial
      obtain ⟨m, hm⟩ : ∃ m : Nat, (if (most : Int) - n < q then (most : Int) - n else q) = (m : Int) := ⟨min (most - n) q, by split <;> omega⟩
      have hmq : m ≤ q := by split at hm <;> omega
      have hmn : n + m ≤ most := by split at hm <;> omega
      have hone : 1 ≤ n + m := by split at hm <;> omega
      have HM := Lib.hid hm
      clear hm htest
      rcases (show 0 < q ∨ (q = 0 ∧ 0 < n) by omega) with hq | ⟨rfl, hn0⟩
      all_goals
        clear hgo
        go_wp2_with (go_at_call 9; refine (len_any _ S D most _ _ _ HST.out.ring).mono ?_; rintro e w' ⟨rfl, rfl⟩)
        refine (put_any _ S D most _ _ _ HST.out.ring la _ qc (L.drop p) (HST.out.src.old HST.out.old HST.out.bel) m HM.out).mono ?_
        rintro e w3 ⟨rfl, d', hR, hk, hz, hqq⟩
        have hst := HST.out.put hmq hR hk hz hqq
        have hsl := slice_from la _ qc m hmq hqc
        generalize (if qc = m then la else Option.map (fun x => x.add m) la) = la2 at hst hsl
        have HST3 := Lib.hid hst
        clear hst hR hk hz hqq
        go_wp2_with fail
        refine (len_any _ S D most _ _ _ HST3.out.ring).mono ?_
        rintro e w' ⟨rfl, rfl⟩
        go_wp2_with fail
        refine (len_any _ S D most _ _ _ HST3.out.ring).mono ?_
        rintro e w' ⟨rfl, rfl⟩
        go_wp2_with fail
        refine (room_any _ S D most _ _ _ HST3.out.ring).mono ?_
        rintro e w4 ⟨rfl, k4, rfl⟩
        have hst4 := St.same HST3.out (Same.drewN _ k4)
        generalize w3.drewN k4 = w4 at hst4
        have HST4 := Lib.hid hst4
        clear hst4
        have hsum : ((n : Int) + m + ((most : Int) - (n + m)) != (most : Int)) = false := by simp; omega
        have hcz : (c : Int) ≤ 140737488351232 := by omega
        have hcz0 : (0 : Int) ≤ c := by omega
        rcases piece_cases c plen pa P w HP.out with hp0 | ⟨j, pb, po, z, hjp, hjc, hpa, hpb, hcell, hzb⟩
        · subst hp0
          obtain ⟨k, hk, hk1, hkn, hkz⟩ := take_k 1 (n + m) (by omega) hone
          have HK := Lib.hid hk
          clear hk
          go_wp2_with fail
          refine (len_any _ S D most _ _ _ HST4.out.ring).mono ?_
          rintro e w' ⟨rfl, rfl⟩
          go_wp2_with fail
          refine (take_some _ S D most _ _ _ HST4.out.ring _ k hk1 HK.out).mono ?_
          rintro e w5 ⟨rfl, hR, hk5, hz, hg⟩
          have hkp := own_keeps HST4.out.own hk5 HST4.out.sb HST4.out.db
          have hnews : ∀ j u, (((queue most first (n + m) d').take k).map byte)[j]? = some u → w5.cell? ((⟨w4.heap.size, 0, none⟩ : Addr).add j) = some u := by
            have := cells_of hg 0 k
            rw [List.drop_zero, List.take_take, Nat.min_self] at this
            exact this
          have hnl : (((queue most first (n + m) d').take k).map byte).length = k * 1 := by rw [List.length_map, List.length_take, queue_len]; omega
          have HR := Lib.hid hR
          have HK5 := Lib.hid hk5
          have HOW := Lib.hid hkp
          have HNW := Lib.hid hnews
          have HNL := Lib.hid hnl
          have HBS : Hid (B ≤ w5.heap.size) := Lib.hid (Nat.le_trans HST4.out.bb hk5.size)
          clear hR hk5 hz hg hkp hnews hnl hsum
          have hk0 : ((k : Int) == 0) = false := beq_eq_false_iff_ne.2 (by omega)
          have HTL : Hid (((queue most first (n + m) d').take k).length = k) := Lib.hid (by rw [List.length_take, queue_len]; omega)
          have HLM : Hid (O.length + k ≤ maxLen) := Lib.hid (by have := HL.out; unfold maxLen; omega)
          have HLB : Hid ((O.length + k) * 1 ≤ 140737488355328) := Lib.hid (by have := HL.out; omega)
          go_wp2_with fail
          have hlk := len_any w5 S D most _ _ _ HR.out
          rw [show ((n + m - k : Nat) : Int) = (n : Int) + m - k by omega] at hlk
          refine hlk.mono ?_
          clear hlk
          rintro e w' ⟨rfl, rfl⟩
          set_option maxRecDepth 10000 in
          go_wp2_with (at_builtin; refine wpList_append_own _ rfl (.tmp 117) (.tmp 118) 28 rfl B 5 i5 (.int .u8 0) 1 1 Try.underlying28 hi5 hz5 hs5 hb5 rfl (by decide) _ _ _ rfl HOW.out ⟨w4.heap.size, 0, none⟩ k k _ rfl HNL.out HNW.out (byte_one _) HLM.out HLB.out HBS.out ?_; intro o' w6 hown6 hgr6 _; have H6 := Lib.hid hown6; have G6 := Lib.hid hgr6; clear hown6 hgr6)
          go_roundw
          case rel => exact ⟨p + m, _ - m, qc - m, (first + k) % most, n + m - k, d', O ++ (queue most first (n + m) d').take k, la2, c + 1, by simp, by go_num, by rw [List.length_append, HTL.out]; omega, by rw [List.length_append, HTL.out]; have := HL.out; have := HBL.out; omega, St.take HST4.out hkn HR.out HK5.out H6.out G6.out⟩
          case measure => rw [lenOf_own H6.out, HMO.out]; have := HL.out; have := HBL.out; omega
        · subst hpa
          have hcell4 : w4.cell? ⟨pb, po + j, none⟩ = some (.int .i64 z) := (HST4.out.bel.cell (p := ⟨pb, po + j, none⟩) hpb).trans hcell
          clear hcell
          by_cases hz1 : 1 < z
          · obtain ⟨k, hk, hk1, hkn, hkz⟩ := take_k z (n + m) (by omega) hone
            have HK := Lib.hid hk
            clear hk
            go_wp2_with fail
            refine (len_any _ S D most _ _ _ HST4.out.ring).mono ?_
            rintro e w' ⟨rfl, rfl⟩
            go_wp2_with fail
            refine (take_some _ S D most _ _ _ HST4.out.ring _ k hk1 HK.out).mono ?_
            rintro e w5 ⟨rfl, hR, hk5, hz, hg⟩
            have hkp := own_keeps HST4.out.own hk5 HST4.out.sb HST4.out.db
            have hnews : ∀ j u, (((queue most first (n + m) d').take k).map byte)[j]? = some u → w5.cell? ((⟨w4.heap.size, 0, none⟩ : Addr).add j) = some u := by
              have := cells_of hg 0 k
              rw [List.drop_zero, List.take_take, Nat.min_self] at this
              exact this
            have hnl : (((queue most first (n + m) d').take k).map byte).length = k * 1 := by rw [List.length_map, List.length_take, queue_len]; omega
            have HR := Lib.hid hR
            have HK5 := Lib.hid hk5
            have HOW := Lib.hid hkp
            have HNW := Lib.hid hnews
            have HNL := Lib.hid hnl
            have HBS : Hid (B ≤ w5.heap.size) := Lib.hid (Nat.le_trans HST4.out.bb hk5.size)
            clear hR hk5 hz hg hkp hnews hnl hsum
            have hk0 : ((k : Int) == 0) = false := beq_eq_false_iff_ne.2 (by omega)
            have HTL : Hid (((queue most first (n + m) d').take k).length = k) := Lib.hid (by rw [List.length_take, queue_len]; omega)
            have HLM : Hid (O.length + k ≤ maxLen) := Lib.hid (by have := HL.out; unfold maxLen; omega)
            have HLB : Hid ((O.length + k) * 1 ≤ 140737488355328) := Lib.hid (by have := HL.out; omega)
            go_wp2_with fail
            have hlk := len_any w5 S D most _ _ _ HR.out
            rw [show ((n + m - k : Nat) : Int) = (n : Int) + m - k by omega] at hlk
            refine hlk.mono ?_
            clear hlk
            rintro e w' ⟨rfl, rfl⟩
            set_option maxRecDepth 10000 in
            go_wp2_with (at_builtin; refine wpList_append_own _ rfl (.tmp 117) (.tmp 118) 28 rfl B 5 i5 (.int .u8 0) 1 1 Try.underlying28 hi5 hz5 hs5 hb5 rfl (by decide) _ _ _ rfl HOW.out ⟨w4.heap.size, 0, none⟩ k k _ rfl HNL.out HNW.out (byte_one _) HLM.out HLB.out HBS.out ?_; intro o' w6 hown6 hgr6 _; have H6 := Lib.hid hown6; have G6 := Lib.hid hgr6; clear hown6 hgr6)
            go_roundw
            case rel => exact ⟨p + m, _ - m, qc - m, (first + k) % most, n + m - k, d', O ++ (queue most first (n + m) d').take k, la2, c + 1, by simp, by go_num, by rw [List.length_append, HTL.out]; omega, by rw [List.length_append, HTL.out]; have := HL.out; have := HBL.out; omega, St.take HST4.out hkn HR.out HK5.out H6.out G6.out⟩
            case measure => rw [lenOf_own H6.out, HMO.out]; have := HL.out; have := HBL.out; omega
          · obtain ⟨k, hk, hk1, hkn, hkz⟩ := take_k 1 (n + m) (by omega) hone
            have HK := Lib.hid hk
            clear hk
            go_wp2_with fail
            refine (len_any _ S D most _ _ _ HST4.out.ring).mono ?_
            rintro e w' ⟨rfl, rfl⟩
            go_wp2_with fail
            refine (take_some _ S D most _ _ _ HST4.out.ring _ k hk1 HK.out).mono ?_
            rintro e w5 ⟨rfl, hR, hk5, hz, hg⟩
            have hkp := own_keeps HST4.out.own hk5 HST4.out.sb HST4.out.db
            have hnews : ∀ j u, (((queue most first (n + m) d').take k).map byte)[j]? = some u → w5.cell? ((⟨w4.heap.size, 0, none⟩ : Addr).add j) = some u := by
              have := cells_of hg 0 k
              rw [List.drop_zero, List.take_take, Nat.min_self] at this
              exact this
            have hnl : (((queue most first (n + m) d').take k).map byte).length = k * 1 := by rw [List.length_map, List.length_take, queue_len]; omega
            have HR := Lib.hid hR
            have HK5 := Lib.hid hk5
            have HOW := Lib.hid hkp
            have HNW := Lib.hid hnews
            have HNL := Lib.hid hnl
            have HBS : Hid (B ≤ w5.heap.size) := Lib.hid (Nat.le_trans HST4.out.bb hk5.size)
            clear hR hk5 hz hg hkp hnews hnl hsum
            have hk0 : ((k : Int) == 0) = false := beq_eq_false_iff_ne.2 (by omega)
            have HTL : Hid (((queue most first (n + m) d').take k).length = k) := Lib.hid (by rw [List.length_take, queue_len]; omega)
            have HLM : Hid (O.length + k ≤ maxLen) := Lib.hid (by have := HL.out; unfold maxLen; omega)
            have HLB : Hid ((O.length + k) * 1 ≤ 140737488355328) := Lib.hid (by have := HL.out; omega)
            go_wp2_with fail
            have hlk := len_any w5 S D most _ _ _ HR.out
            rw [show ((n + m - k : Nat) : Int) = (n : Int) + m - k by omega] at hlk
            refine hlk.mono ?_
            clear hlk
            rintro e w' ⟨rfl, rfl⟩
            set_option maxRecDepth 10000 in
            go_wp2_with (at_builtin; refine wpList_append_own _ rfl (.tmp 117) (.tmp 118) 28 rfl B 5 i5 (.int .u8 0) 1 1 Try.underlying28 hi5 hz5 hs5 hb5 rfl (by decide) _ _ _ rfl HOW.out ⟨w4.heap.size, 0, none⟩ k k _ rfl HNL.out HNW.out (byte_one _) HLM.out HLB.out HBS.out ?_; intro o' w6 hown6 hgr6 _; have H6 := Lib.hid hown6; have G6 := Lib.hid hgr6; clear hown6 hgr6)
            go_roundw
            case rel => exact ⟨p + m, _ - m, qc - m, (first + k) % most, n + m - k, d', O ++ (queue most first (n + m) d').take k, la2, c + 1, by simp, by go_num, by rw [List.length_append, HTL.out]; omega, by rw [List.length_append, HTL.out]; have := HL.out; have := HBL.out; omega, St.take HST4.out hkn HR.out HK5.out H6.out G6.out⟩
            case measure => rw [lenOf_own H6.out, HMO.out]; have := HL.out; have := HBL.out; omega
    · have hO2 : O = L := by
        have := HST.out.all
        rw [show n = 0 by omega, queue_zero, List.drop_of_length_le (by have := HL.out; have := HST.out.ple; omega)] at this
        simpa using this
      have hc1 := conv_own wr B u10 O HST.out.own
      have hc2 := conv_src wr a blen bcap L D ((HS.out D (by have := HST.out.wd; omega)).old HO.out HST.out.bel)
      rw [hO2] at hc1
      have K := Lib.hid HST.out.bel
      clear hO2
      have hq0 : q = 0 := by omega
      have hn0 : n = 0 := by omega
      subst hn0
      subst hq0
      clear hgo
      go_wp2_with (go_at_call 9; refine (len_any _ S D most _ _ _ HST.out.ring).mono ?_; rintro e w' ⟨rfl, rfl⟩)
      go_ret
      exact ⟨rfl, K.out⟩
end Go.Proofs.Ytbhipgiaifbpfaa
