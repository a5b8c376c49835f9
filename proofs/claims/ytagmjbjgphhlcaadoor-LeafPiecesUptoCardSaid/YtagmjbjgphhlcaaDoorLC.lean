/- Bytes as characters, and back: the program's and the document's. -/
import Derived.Test.YtagmjbjgphhlcaaDoorLB
import Derived.Test.YtagmjbjgphhlcaaDoorZ
import Derived.Deep.OwnRows
set_option linter.unusedVariables false
namespace Go.Proofs.YtagmjbjgphhlcaaDoor
open Go.RowKit

theorem blk_set {w : World} {g : Nat} {cu : Array Value} {t : TypeId} (h : w.heap[g]? = some (.cells cu t (0, 0))) (k : Nat) (v : Value) : (w.setCell ⟨g, k, none⟩ v).heap[g]? = some (.cells (cu.setIfInBounds k v) t (0, 0)) := by
  simp [World.setCell, Array.getElem?_modify, h]
theorem Src.at {w : World} {a : Option Addr} {c : Nat} {l : List UInt8} (h : Src w a c l) (k : Nat) (hk : k < l.length) : ∃ b o, a = some ⟨b, o, none⟩ ∧ b < w.heap.size ∧ w.cell? ⟨b, o + k, none⟩ = some (.int .u8 l[k].toNat) := by
  rcases h.bytes with rfl | ⟨b, o, he, hb, hr⟩
  · simp at hk
  · exact ⟨b, o, he, hb, hr k hk⟩
theorem hown_below {w w' : World} {base : Nat} {v : Value} {l : List UInt8} (h : OwnB w base v l) (hb : Below w.heap.size w w') : OwnB w' base v l := by
  refine ⟨h.1, ?_⟩
  rcases h.2 with h | ⟨g, cap, cur, h1, h2, h3, h4⟩
  · exact .inl h
  · exact .inr ⟨g, cap, cur, h1, h2, (hb.block g (Array.getElem?_eq_some_iff.1 h3).1).trans h3, h4⟩
theorem info_r : (Tryd.prog.info? 21).map (fun i => (i.zero, i.size, i.bytes)) = some (some (.int .i32 0), 1, 4) := by kernel_rfl

set_option maxHeartbeats 4000000 in
theorem ldecode_any (a : Option Addr) (c : Nat) (l : List UInt8) (w : World) (hs : Src w a c l) (hlen : l.length ≤ 35184372088832) :
    Calls Tryd.prog 15 #[.slice a l.length c] w fun e w' => e = .returned (.string ⟨(dcd l).toArray⟩) ∧ Below w.heap.size w w' := by
  have HS := Lib.hid hs
  have hmk : ∀ W : World, (Instr.makeSlice 38 (.int .i64 l.length) (.int .i64 l.length)).run Tryd.prog W = .ok (.slice (some ⟨W.heap.size, 0, none⟩) l.length l.length) (W.alloc (.cells (madeCells #[.int .i32 0] l.length) 21)) := fun W =>
    run_make_row' 38 21 (.int .i32 0) 4 Tryd.underlying38 info_r rfl .i64 .i64 l.length (by omega) (by omega) W
  have hms : (madeCells #[Value.int .i32 0] l.length).size = l.length := by simp [madeCells]
  have he : ∀ (wx : World) (cu : Array Value) (b : Nat), wx.heap[b]? = some (.cells cu 21 (0, 0)) → cu.size = l.length → (∀ j (hj : j < l.length), cu[j]? = some (.int .i32 (cpi l[j]))) →
      Calls Tryd.prog 25 #[.slice (some ⟨b, 0, none⟩) l.length l.length] wx fun e w' => e = .returned (.string ⟨(dcd l).toArray⟩) ∧ Below wx.heap.size wx w' := fun wx cu b h1 h2 h3 => by
    have hn : Nums wx (some ⟨b, 0, none⟩) (l.map cpi) := fun j hj => by
      have hj' : j < l.length := by simpa using hj
      refine ⟨b, 0, rfl, (Array.getElem?_eq_some_iff.1 h1).1, ?_⟩
      rw [Nat.zero_add, Lib.cell_of_heap h1, h3 j hj']
      simp
    have := encode_any (some ⟨b, 0, none⟩) l.length (l.map cpi) wx hn (by simpa using hlen)
    rw [List.length_map] at this
    exact this
  generalize (ByteArray.mk (dcd l).toArray) = X at he ⊢
  generalize hM : madeCells #[Value.int .i32 0] l.length = M at hmk hms
  have HE := Lib.hid he
  have HMK := Lib.hid hmk
  have h0 : (w.alloc (.cells M 21)).heap[w.heap.size]? = some (.cells M 21 (0, 0)) := by
    show (w.heap.push _)[w.heap.size]? = _; simp
  have H0 := Lib.hid h0
  have hb0 : Below w.heap.size w (w.alloc (.cells M 21)) := (Below.refl _ _).alloc (Nat.le_refl _) _
  have HB0 := Lib.hid hb0
  have hsz0 : w.heap.size < (w.alloc (.cells M 21)).heap.size := by simp
  have HZ0 := Lib.hid hsz0
  clear hs hM he h0 hb0 hsz0 hmk
  have hmk := HMK.out
  go_enter Tryd.func15, Tryd.ntmps15
  go_wp2
  clear hmk
  go_loopw [11] (fun i wr => ∃ (k : Nat) (cu : Array Value), k ≤ l.length ∧ i = .int .i64 k ∧ wr.heap[w.heap.size]? = some (.cells cu 21 (0, 0)) ∧ cu.size = l.length ∧ (∀ j (hj : j < l.length), j < k → cu[j]? = some (.int .i32 (cpi l[j]))) ∧ Below w.heap.size w wr ∧ w.heap.size < wr.heap.size) (fun i _ => l.length - (intOf i).toNat)
  case atStart => exact ⟨0, M, by omega, rfl, H0.out, hms, fun j _ h => by omega, HB0.out, HZ0.out⟩
  case round =>
    obtain ⟨k, cu, hk, rfl, hcu, hsz, hall, hb, hlt0⟩ := hrel
    by_cases hlt : k < l.length
    · obtain ⟨sb, so, rfl, hsb, hcell⟩ := HS.out.at k hlt
      have hcell2 := (hb.cell (p := ⟨sb, so + k, none⟩) hsb).trans hcell
      have hch : ∀ wx, Calls Tryd.prog 13 #[.int .u8 l[k].toNat] wx fun e w' => e = .returned (.int .i32 (cpi l[k])) ∧ Below wx.heap.size wx w' := fun wx => char_any l[k].toNat l[k].toNat_lt wx
      have hnext : ∀ j (hj : j < l.length), j < k + 1 → (cu.setIfInBounds k (.int .i32 (cpi l[k])))[j]? = some (.int .i32 (cpi l[j])) := fun j hj h => by
        rw [Array.getElem?_setIfInBounds]
        by_cases he : k = j
        · subst he; simp [hsz, hlt]
        · rw [if_neg he]; exact hall j hj (by omega)
      generalize l[k].toNat = x at hcell2 hch
      generalize cpi l[k] = y at hch hnext
      have HCH := Lib.hid hch
      have HN := Lib.hid hnext
      have HCU := Lib.hid hcu
      have HB := Lib.hid hb
      clear hcell hch hnext hcu hb hall
      go_wp2_with fail
      refine (HCH.out _).mono ?_; rintro e w1 ⟨rfl, hb⟩
      have hcu1 : w1.heap[w.heap.size]? = some (.cells cu 21 (0, 0)) := (hb.block _ hlt0).trans HCU.out
      have k1 : w1.cell? ⟨w.heap.size, k, none⟩ = some (cu[k]'(by omega)) := by
        rw [Lib.cell_of_heap hcu1, Array.getElem?_eq_getElem (by omega)]
      have k3 : w1.frozen? ⟨w.heap.size, k, none⟩ = false := Lib.frozen_of_heap hcu1 _
      have HCU1 := Lib.hid hcu1
      have HB1 : Hid (Below w.heap.size w w1) := Lib.hid (HB.out.trans (hb.mono HB.out.size))
      have HZ1 : Hid (w.heap.size < w1.heap.size) := Lib.hid (Nat.lt_of_lt_of_le hlt0 hb.size)
      clear hcu1 hb hlt0
      go_wp2
      go_roundw
      case rel => exact ⟨k + 1, _, by omega, by go_num, blk_set HCU1.out _ _, by rw [Array.size_setIfInBounds]; exact hsz, HN.out, HB1.out.setCell (p := ⟨w.heap.size, k, none⟩) (Nat.le_refl _) _, by simpa [World.setCell] using HZ1.out⟩
      case measure => simp [intOf]; omega
    · have hec := HE.out wr cu w.heap.size hcu hsz (fun j hj => hall j hj (by omega))
      have HEC := Lib.hid hec
      have HB := Lib.hid hb
      clear hec hcu hall hb
      go_wp2_with fail
      refine HEC.out.mono ?_; rintro e w1 ⟨rfl, hb⟩
      have HB1 : Hid (Below w.heap.size w w1) := Lib.hid (HB.out.trans (hb.mono HB.out.size))
      clear hb
      go_wp2
      go_ret
      exact ⟨rfl, HB1.out⟩

theorem rdcd_step (l : List UInt8) (k : Nat) (hk : k < l.length) : dcd (l.take k) ++ enc (cpi l[k]) = dcd (l.take (k + 1)) := (dcd_snoc l k hk).symm

set_option maxHeartbeats 4000000 in
set_option maxRecDepth 100000 in
theorem rdecode_any (a : Option Addr) (c : Nat) (l : List UInt8) (w : World) (hs : Src w a c l) (hlen : l.length ≤ 35184372088832) :
    Calls Tryd.prog 18 #[.slice a l.length c] w fun e w' => e = .returned (.string ⟨(dcd l).toArray⟩) ∧ Below w.heap.size w w' := by
  have HS := Lib.hid hs
  obtain ⟨D, hD⟩ : ∃ D, D = dcd l := ⟨_, rfl⟩
  rw [← hD]
  have HD := Lib.hid hD
  clear hs hD
  go_enter Tryd.func18, Tryd.ntmps18
  go_wp2_with fail
  go_loopw [3, 4] (fun v i wr => ∃ k : Nat, k ≤ l.length ∧ i = .int .i64 k ∧ OwnB wr w.heap.size v (dcd (l.take k)) ∧ Below w.heap.size w wr) (fun _ i _ => l.length - (intOf i).toNat)
  case atStart => exact ⟨0, by omega, rfl, World.ownsRow_nil _ _ _ _, Below.refl _ _⟩
  case round =>
    obtain ⟨k, hk, rfl, hown, hb⟩ := hrel
    by_cases hlt : k < l.length
    · obtain ⟨sb, so, rfl, hsb, hcell⟩ := HS.out.at k hlt
      have hcell2 := (hb.cell (p := ⟨sb, so + k, none⟩) hsb).trans hcell
      obtain ⟨y, hy, hyc, hel⟩ : ∃ y, cpi l[k] = y ∧ isChar y ∧ (enc y).length ≤ 3 := ⟨_, rfl, cpi_char _, (enc_cpi_len _).2.2⟩
      have hch : ∀ wx, Calls Tryd.prog 14 #[.int .u8 l[k].toNat] wx fun e w' => e = .returned (.int .i64 y) ∧ Below wx.heap.size wx w' := fun wx => by rw [← hy]; exact rchar_any l[k].toNat l[k].toNat_lt wx
      have hby : ∀ wx, Calls Tryd.prog 27 #[.int .i64 y] wx fun e w' => e = .returned (.slice (some ⟨wx.heap.size, 0, none⟩) (enc y).length (enc y).length) ∧ wx.alloc (.cells (Lib.byteCells (enc y)).toArray 5) = w' := fun wx =>
        (bytes_any y hyc wx).mono fun e w' ⟨h1, h2⟩ => ⟨h1, h2.symm⟩
      have hstep := rdcd_step l k hlt
      rw [hy] at hstep
      have hdl := (dcd_len (l.take k)).2.1
      rw [List.length_take] at hdl
      clear hy hyc
      generalize l[k].toNat = x at hcell2 hch
      have hsr : ∀ wx : World, Src (wx.alloc (.cells (Lib.byteCells (enc y)).toArray 5)) (some ⟨wx.heap.size, 0, none⟩) (enc y).length (enc y) := fun wx => lit_src (enc y) wx (by omega)
      have HCH := Lib.hid hch
      have HBY := Lib.hid hby
      have HST := Lib.hid hstep
      have HSR := Lib.hid hsr
      have HO := Lib.hid hown
      have HB := Lib.hid hb
      clear hcell hch hby hstep hsr hown hb
      go_wp2_with fail
      refine (HCH.out _).mono ?_; rintro e w1 ⟨rfl, hb⟩
      have HB1 : Hid (Below w.heap.size w w1) := Lib.hid (HB.out.trans (hb.mono HB.out.size))
      have HO1 : Hid (OwnB w1 w.heap.size _ (dcd (l.take k))) := Lib.hid (hown_below HO.out hb)
      have HSZ : Hid (w.heap.size ≤ (w1.alloc (.cells (Lib.byteCells (enc y)).toArray 5)).heap.size) := Lib.hid (by have := HB1.out.size; simp; omega)
      have HO2 : Hid (OwnB (w1.alloc (.cells (Lib.byteCells (enc y)).toArray 5)) w.heap.size _ (dcd (l.take k))) := Lib.hid (World.ownsRow.alloc HO1.out _)
      clear hb
      go_wp2_with fail
      refine (HBY.out _).mono ?_; rintro e w2 ⟨rfl, rfl⟩
      go_wp2_with (at_builtin; refine app_bytes rfl _ _ rfl w.heap.size _ (dcd (l.take k)) rfl HO2.out _ (enc y).length _ (enc y) rfl rfl (HSR.out _) ?n2 HSZ.out ?_)
      case n2 => omega
      intro v3 w3 hown3 hb3 _
      have HO3 : Hid (OwnB w3 w.heap.size v3 (dcd (l.take (k + 1)))) := Lib.hid (by rw [← HST.out]; exact hown3)
      have HB3 : Hid (Below w.heap.size w w3) := Lib.hid ((HB1.out.alloc HB1.out.size _).trans hb3.out)
      clear hown3 hb3
      go_wp2
      go_roundw
      case rel => exact ⟨k + 1, by omega, by go_num, HO3.out, HB3.out⟩
      case measure => simp [intOf]; omega
    · have hjl : l.take k = l := List.take_of_length_le (by omega)
      rw [hjl, ← HD.out] at hown
      obtain ⟨a3, c3, rfl, _, hs3⟩ := own_src hown
      have hcv := conv_src wr a3 c3 D hs3
      have HB2 := Lib.hid hb
      clear hb hown hs3 hjl
      go_wp2
      go_ret
      exact ⟨rfl, HB2.out⟩
end Go.Proofs.YtagmjbjgphhlcaaDoor
