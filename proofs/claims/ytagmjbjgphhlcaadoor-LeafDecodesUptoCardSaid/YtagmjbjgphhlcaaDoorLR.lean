/- Bytes below 128 are the same either way: the walk. -/
import Derived.Test.YtagmjbjgphhlcaaDoorLQ
set_option linter.unusedVariables false
namespace Go.Proofs.YtagmjbjgphhlcaaDoor
open Go.RowKit

theorem and_all : ∀ n : Fin 256, bits .and .u8 (n.val : Int) 127 = ((n.val % 128 : Nat) : Int) := by decide +kernel
theorem and_run (c : UInt8) : bits .and .u8 (c.toNat : Int) 127 = ((c &&& 127).toNat : Int) := by
  rw [and127]; exact and_all ⟨c.toNat, c.toNat_lt⟩
/-- a row of bytes in a block of the call's own -/
def OwnRow (w : World) (base : Nat) (a : Option Addr) (l : List UInt8) : Prop :=
  l = [] ∨ ∃ g cu, a = some ⟨g, 0, none⟩ ∧ base ≤ g ∧ w.heap[g]? = some (.cells cu 5 (0, 0)) ∧ l.length ≤ cu.size ∧ ∀ j (hj : j < l.length), cu[j]? = some (.int .u8 l[j].toNat)
theorem ownRow_of {w : World} {base : Nat} {v : Value} {l : List UInt8} (h : OwnB w base v l) : ∃ a c, v = .slice a l.length c ∧ OwnRow w base a l ∧ l.length ≤ c ∧ c ≤ 9223372036854775807 ∧ (a = none → l = [] ∧ c = 0) := by
  obtain ⟨a, c, rfl, _, hs⟩ := own_src h
  refine ⟨a, c, rfl, ?_, hs.cap, hs.big, hs.nil⟩
  rcases h.2 with ⟨_, h0⟩ | ⟨g, cap, cu, hv, hbg, hgg, h1, h2, h3, h4⟩
  · left; exact List.eq_nil_of_length_eq_zero h0
  · right
    simp only [Value.slice.injEq] at hv
    obtain ⟨rfl, -, rfl⟩ := hv
    refine ⟨g, cu, rfl, hbg, hgg, by omega, fun j hj => ?_⟩
    have hcl := h.cells (g := g) rfl j (.int .u8 l[j].toNat) (by simp [Lib.byteCells, hj])
    rw [Lib.add_plain, Nat.zero_add, Lib.cell_of_heap hgg] at hcl
    exact hcl
theorem OwnRow.src {w : World} {base : Nat} {a : Option Addr} {c : Nat} {l : List UInt8} (h : OwnRow w base a l) (h1 : l.length ≤ c) (h2 : c ≤ 9223372036854775807) (h3 : a = none → l = [] ∧ c = 0) : Src w a c l := by
  refine ⟨?_, h1, h2, h3⟩
  rcases h with h | ⟨g, cu, rfl, hg, hcu, hsz, hall⟩
  · exact .inl h
  · refine .inr ⟨g, 0, rfl, (Array.getElem?_eq_some_iff.1 hcu).1, fun j hj => ?_⟩
    rw [Nat.zero_add, Lib.cell_of_heap hcu]; exact hall j hj
theorem blk_set' {w : World} {g : Nat} {cu : Array Value} (h : w.heap[g]? = some (.cells cu 5 (0, 0))) (k : Nat) (v : Value) : (w.setCell ⟨g, k, none⟩ v).heap[g]? = some (.cells (cu.setIfInBounds k v) 5 (0, 0)) := by
  simp [World.setCell, Array.getElem?_modify, h]
theorem OwnRow.set {w : World} {base g : Nat} {cu : Array Value} {l : List UInt8} (hg : base ≤ g) (hcu : w.heap[g]? = some (.cells cu 5 (0, 0))) (hsz : l.length ≤ cu.size) (hall : ∀ j (hj : j < l.length), cu[j]? = some (.int .u8 l[j].toNat)) (k : Nat) (hk : k < l.length) (x : UInt8) :
    OwnRow (w.setCell ⟨g, k, none⟩ (.int .u8 x.toNat)) base (some ⟨g, 0, none⟩) (l.set k x) := by
  right
  refine ⟨g, _, rfl, hg, blk_set' hcu k _, by simp; exact hsz, fun j hj => ?_⟩
  have hj' : j < l.length := by simpa using hj
  rw [Array.getElem?_setIfInBounds]
  by_cases e : k = j
  · subst e; simp; omega
  · rw [if_neg e, hall j hj']; simp [e]
def lowTo (l : List UInt8) (k : Nat) : List UInt8 := low (l.take k) ++ l.drop k
theorem lowTo_len (l : List UInt8) (k : Nat) : (lowTo l k).length = l.length := by unfold lowTo low; simp; omega
theorem lowTo_at (l : List UInt8) (k : Nat) (hk : k < l.length) : (lowTo l k)[k]'(by rw [lowTo_len]; exact hk) = l[k] := by
  unfold lowTo low
  rw [List.getElem_append_right (by simp; omega)]
  simp; congr 1; omega
theorem lowTo_step (l : List UInt8) (k : Nat) (hk : k < l.length) : lowTo l (k + 1) = (lowTo l k).set k (l[k] &&& 127) := by
  unfold lowTo low
  apply List.ext_getElem
  · simp; omega
  · intro i h1 h2
    simp only [List.getElem_set, List.getElem_append, List.length_map, List.length_take, List.getElem_map, List.getElem_take, List.getElem_drop]
    by_cases e : k = i
    · subst e
      rw [dif_pos (by omega), if_pos rfl]
    · by_cases hi : i < k
      · have a1 : i < min (k + 1) l.length := by omega
        have a2 : i < min k l.length := by omega
        simp [e, a1, a2]
      · have a1 : ¬ i < min (k + 1) l.length := by omega
        have a2 : ¬ i < min k l.length := by omega
        simp only [e, a1, a2, dif_neg, if_neg, not_false_iff]
        congr 1
        omega
theorem lowTo_all (l : List UInt8) : lowTo l l.length = low l := by unfold lowTo; simp
theorem lowTo_zero (l : List UInt8) : lowTo l 0 = l := by unfold lowTo low; simp

set_option maxHeartbeats 16000000 in
set_option maxRecDepth 100000 in
theorem leafPlain_walk (w : World) (a1 : Option Addr) (c1 : Nat) (la : List UInt8) (h1 : Src w a1 c1 la) (hl1 : la.length ≤ 1048576) :
    Calls Tryd.prog 9 #[.slice a1 la.length c1] w fun e w' => e = .returned (.bool true) ∧ Below w.heap.size w w' := by
  have H1 := Lib.hid h1
  have hll : (low la).length = la.length := by simp [low]
  obtain ⟨n, hn⟩ : ∃ n, la.length = n := ⟨_, rfl⟩
  have HN := Lib.hid hn
  have hdl := dcd_len la
  rw [hn] at hll hdl hl1 ⊢
  obtain ⟨L, T, S0, hdlow, henc, hdb, hcl, hcb, hTn, hT3, hlt⟩ : ∃ L T S0 : ByteArray, (∀ wx a c, Src wx a c (low la) → Calls Tryd.prog 15 #[.slice a n c] wx fun e w' => e = .returned (.string L) ∧ Below wx.heap.size wx w') ∧ EncG L n (low la) true ∧
      (∀ wx, Below w.heap.size w wx → Calls Tryd.prog 15 #[.slice a1 n c1] wx fun e w' => e = .returned (.string T) ∧ Below wx.heap.size wx w') ∧ ConG n (low la) L ∧
      (∀ wx, Below w.heap.size w wx → (convert 29 9 (.slice a1 n c1)).run Tryd.prog wx = .ok (.string S0) wx) ∧ n ≤ T.size ∧ T.size ≤ 3 * n ∧ ((L = S0 ∧ T.size = n) ∨ ((L.toList == S0.toList) = false ∧ n < T.size)) := by
    refine ⟨⟨(low la).toArray⟩, ⟨(dcd la).toArray⟩, ⟨la.toArray⟩, fun wx a c h => ?_, fun wx => ?_, fun wx hb => ?_, ?_, fun wx hb => ?_, by rw [size_mk]; omega, by rw [size_mk]; omega, ?_⟩
    · have := ldecode_any a c (low la) wx h (by omega)
      rw [dcd_of_low, hll] at this; exact this
    · have hz : (⟨(low la).toArray⟩ : ByteArray).size ≤ 4194304 := by rw [size_mk]; omega
      refine (lencode_any _ wx hz).mono fun e w' he => ?_
      rw [data_mk] at he
      have := encSays_is (encR_some (encL_low la)) he
      rw [hll] at this; exact this
    · have := ldecode_any a1 c1 la wx (h1.below hb) (by omega)
      rw [hn] at this; exact this
    · have := conG_of (low la); rw [hll] at this; exact this
    · have := conv_src wx a1 c1 la (h1.below hb)
      rw [hn] at this; exact this
    · rw [size_mk]
      by_cases e : low la = la
      · left; exact ⟨by rw [e], by have := hdl.2.2; rcases Nat.lt_or_ge n (dcd la).length with h | h; exact absurd e (this.1 h); omega⟩
      · right
        refine ⟨?_, hdl.2.2.2 e⟩
        rw [toList_data', toList_data', data_mk, data_mk]
        simpa using e
  have HDL := Lib.hid hdlow
  have HEN := Lib.hid henc
  have HDB := Lib.hid hdb
  have HCL := Lib.hid hcl
  have HCB := Lib.hid hcb
  clear h1 hll hn hdl hdlow henc hdb hcl hcb
  have hTb : T.size ≤ 3145728 := by omega
  have hT3i : (T.size : Int) ≤ 3 * (n : Int) := by omega
  have hn3 : 3 * (n : Int) ≤ 9223372036854775807 := by omega
  go_enter Tryd.func9, Tryd.ntmps9
  go_wp2_with fail
  refine (shown_any _).mono ?_; rintro e w1 ⟨rfl, hb⟩
  have HB := Lib.hid hb
  have HE := Lib.hid (fun C hC => made_empty w1 w.heap.size hb.size C hC)
  clear hb
  go_wp2_with (at_builtin; refine app_bytes rfl _ _ rfl w.heap.size _ [] rfl (HE.out _ rfl) a1 c1 n la HN.out rfl ?s1 ?n1 ?b1 ?_)
  case s1 => exact H1.out.below (HB.out.alloc HB.out.size _)
  case n1 => have := HN.out; first | (simp only [List.length_nil]; omega) | omega
  case b1 => have := HB.out.size; first | (simp; omega) | omega
  intro v2 w2 hown2 hb2 _
  obtain ⟨a2, c2, rfl, hr2, hc2, hc3, hnil⟩ := ownRow_of hown2
  have hn2 : la.length = n := HN.out
  rw [hn2]
  rw [hn2] at hc2
  have HR2 := Lib.hid hr2
  have HB2 : Hid (Below w.heap.size w w2) := Lib.hid ((HB.out.alloc HB.out.size _).trans hb2.out)
  have HNIL := Lib.hid hnil
  clear hown2 hb2 hr2 hn2 hnil
  go_wp2_with fail
  go_loopw [5] (fun i wr => ∃ k : Nat, k ≤ n ∧ i = .int .i64 k ∧ OwnRow wr w.heap.size a2 (lowTo la k) ∧ Below w.heap.size w wr) (fun i _ => n - (intOf i).toNat)
  case atStart => exact ⟨0, by omega, rfl, by rw [lowTo_zero]; exact HR2.out, HB2.out⟩
  case round =>
    obtain ⟨k, hk, rfl, hrow, hb⟩ := hrel
    have HB3 := Lib.hid hb
    clear hb
    by_cases hk2 : k < n
    · have hkl : k < la.length := by rw [HN.out]; exact hk2
      have hkt : k < (lowTo la k).length := by rw [lowTo_len]; exact hkl
      rcases hrow with h0 | ⟨g, cu, rfl, hg, hcu, hsz, hall⟩
      · rw [h0] at hkt; simp at hkt
      have hcell : wr.cell? ⟨g, k, none⟩ = some (.int .u8 la[k].toNat) := by
        rw [Lib.cell_of_heap hcu, hall k hkt, lowTo_at la k hkl]
      have hfrz : wr.frozen? ⟨g, k, none⟩ = false := Lib.frozen_of_heap hcu _
      have hset := OwnRow.set hg hcu hsz hall k hkt (la[k] &&& 127)
      rw [← lowTo_step la k hkl, ← and_run] at hset
      have hbs := HB3.out.setCell (p := ⟨g, k, none⟩) hg (.int .u8 (bits .and .u8 (la[k].toNat : Int) 127))
      have hx255 : (la[k].toNat : Int) ≤ 255 := by have := la[k].toNat_lt; omega
      obtain ⟨x, hx⟩ : ∃ x : Int, x = (la[k].toNat : Int) := ⟨_, rfl⟩
      have hx0 : 0 ≤ x := by omega
      rw [← hx] at hcell hset hbs hx255
      have HS := Lib.hid hset
      have HBS := Lib.hid hbs
      clear hset hbs hx hcu hall hkl hkt hsz
      go_wp2
      go_roundw
      case rel => exact ⟨k + 1, by omega, by go_num, HS.out, HBS.out⟩
      case measure => simp [intOf]; omega
    · have hkn : k = la.length := by rw [HN.out]; omega
      rw [hkn, lowTo_all] at hrow
      have hsr : Src wr a2 c2 (low la) := hrow.src (by have : (low la).length = n := by { rw [← HN.out]; simp [low] }; omega) hc3 (fun e => by have := HNIL.out e; exact ⟨by rw [this.1]; rfl, this.2⟩)
      have HS := Lib.hid hsr
      clear hsr hrow hkn
      go_wp2_with fail
      refine (HDL.out _ _ _ HS.out).mono ?_; rintro e w4 ⟨rfl, hb⟩
      have HB4 := Lib.hid (HB3.out.trans (hb.mono HB3.out.size))
      have HS4 := Lib.hid (HS.out.below hb)
      clear hb
      have k1 := HCL.out w4 _ _ HS4.out
      go_wp2_with fail
      clear k1
      refine (HEN.out w4).mono ?_; rintro e w5 ⟨a5, c5, rfl, hs5, hb⟩
      have HB5 := Lib.hid (HB4.out.trans (hb.mono HB4.out.size))
      have HS5 := Lib.hid (HS4.out.below hb)
      have P5 := Lib.hid hs5
      clear hb hs5
      go_wp2_with fail
      refine (HDB.out _ HB5.out).mono ?_; rintro e w6 ⟨rfl, hb⟩
      have HB6 := Lib.hid (HB5.out.trans (hb.mono HB5.out.size))
      have k1 := HCL.out w6 _ _ (HS5.out.below hb)
      have k2 := HCL.out w6 _ _ (P5.out.below hb)
      have k3 := HCB.out w6 HB6.out
      clear hb
      rcases hlt with ⟨rfl, hTe⟩ | ⟨hne, hTl⟩
      · have hTd : decide (n < T.size) = false := by simp; omega
        clear hTe
        go_wp2
        go_ret
        exact ⟨rfl, HB6.out⟩
      · have hTle : (n : Int) < T.size := by omega
        have hne2 : (L.toList != S0.toList) = true := by simp only [bne, hne, Bool.not_false]
        go_wp2
        go_ret
        exact ⟨rfl, HB6.out⟩
end Go.Proofs.YtagmjbjgphhlcaaDoor
