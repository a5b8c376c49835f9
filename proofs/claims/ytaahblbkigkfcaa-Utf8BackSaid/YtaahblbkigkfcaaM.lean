/- Characters that are written are read as themselves: the walk. -/
import Derived.Test.YtaahblbkigkfcaaL
import Derived.ArgAppend
set_option linter.unusedVariables false
namespace Go.Proofs.Ytaahblbkigkfcaa
open Go.RowKit

theorem pc_hi (y : UInt8) (h : 128 ≤ y.toNat) : pc [y] = (1, false) := by
  unfold pc
  simp only [List.headD_cons]
  by_cases h1 : y.toNat ≤ 193
  · rw [beg_eq0 (.inl ⟨h, h1⟩)]; rfl
  by_cases h2 : y.toNat ≤ 223
  · rw [beg_eq2 (by omega) h2]; simp [scan, bad]
  by_cases h3 : y.toNat ≤ 239
  · rw [beg_eq3 (by omega) h3]; simp [scan, bad]
  by_cases h4 : y.toNat ≤ 244
  · rw [beg_eq4 (by omega) h4]; simp [scan, bad]
  · rw [beg_eq0 (.inr (by omega))]; rfl
theorem flt_odd (r : List Int) (y : UInt8) (h : 128 ≤ y.toNat) : flt (encs r ++ [y]) = (encs r).length := by
  have h1 : pcs [y] = [([y], false)] := by
    rw [pcs_cons _ (by simp), pc_hi y h]; simp [pcs_nil]
  have h2 : (encs r).length = ((r.map fun x => (enc x, true)).flatMap (·.1)).length := by
    rw [← pcs_encs', pcs_join]
  unfold flt
  rw [pcs_encs, h1, h2]
  congr 2
  induction r with
  | nil => simp
  | cons x r ih => simp only [List.map_cons, List.cons_append, List.takeWhile_cons, if_true]; rw [ih (by rw [← pcs_encs', pcs_join])]
theorem or_hi : ∀ n : Fin 256, 128 ≤ bits .or .u8 (n.val : Int) 128 ∧ bits .or .u8 (n.val : Int) 128 ≤ 255 := by decide +kernel
theorem or_run (y : Int) (h0 : 0 ≤ y) (h1 : y ≤ 255) : ∃ z : UInt8, 128 ≤ z.toNat ∧ bits .or .u8 y 128 = z.toNat := by
  obtain ⟨n, rfl⟩ := Int.eq_ofNat_of_zero_le h0
  obtain ⟨g1, g2⟩ := or_hi ⟨n, by omega⟩
  have g1 : 128 ≤ bits .or .u8 (n : Int) 128 := g1
  have g2 : bits .or .u8 (n : Int) 128 ≤ 255 := g2
  refine ⟨UInt8.ofNat (bits .or .u8 (n : Int) 128).toNat, ?_, ?_⟩
  · rw [UInt8.toNat_ofNat']; omega
  · rw [UInt8.toNat_ofNat']; omega

/-- a text's bytes, and how they lie -/
theorem conv_blk (X : ByteArray) (hX : X.size ≤ 9223372036854775807) : ∃ (WF : World → World) (cf : World → Nat), (∀ w, (convert 9 22 (.string X)).run Try.prog w = .ok (.slice (some ⟨w.heap.size, 0, none⟩) X.size (cf w)) (WF w)) ∧ (∀ w, Below w.heap.size w (WF w)) ∧ (∀ w, Src (WF w) (some ⟨w.heap.size, 0, none⟩) (cf w) X.data.toList) ∧
    ∀ w, ∃ f1 f2, (WF w).heap[w.heap.size]? = some (.cells (bytesRow X (cf w)) 5 (f1, f2)) ∧ cf w ≤ f1 := by
  refine ⟨fun w => w.drew.alloc (.cells (bytesRow X (grownCap w X.size 0 5)) 5 ((bytesRow X (grownCap w X.size 0 5)).size, (bytesRow X (grownCap w X.size 0 5)).size + 1)), fun w => grownCap w X.size 0 5, fun w => run_bytes_of_string (P := Try.prog) w 9 22 5 X Try.underlying9 Try.underlying22 Try.underlying5, fun w => ((Below.refl _ _).drew).alloc (Nat.le_refl _) _, fun w => ?_, fun w => ⟨(bytesRow X (grownCap w X.size 0 5)).size, (bytesRow X (grownCap w X.size 0 5)).size + 1, ?_, ?_⟩⟩
  · obtain ⟨WF, cf, h1, h2, h3⟩ := conv_str' X hX
    have e1 := h1 w
    have e2 := run_bytes_of_string (P := Try.prog) w 9 22 5 X Try.underlying9 Try.underlying22 Try.underlying5
    have e3 := e1.symm.trans e2
    simp only [Result.ok.injEq, Value.slice.injEq] at e3
    have := h3 w
    rw [e3.1.2.2, e3.2] at this
    exact this
  · show (w.heap.push _)[w.heap.size]? = _
    simp
  · show _ ≤ (bytesRow X (grownCap w X.size 0 5)).size
    unfold bytesRow
    have hs : X.size = X.data.size := rfl
    simp only [Array.size_append, Array.size_map, Array.size_replicate]; omega

theorem app_one {w : World} {ops : Array Oper} {rest : List Oper} {o : Oper} {a : Act} {Q : Exit → Act → World → Prop} (hgd : o.guard = none) (s x : Operand)
    (ho : o.op = .call { callee := .builtin .append, args := #[s, x], argTypes := #[22, 22] }) (base B n cap : Nat) (X : ByteArray) (f1 f2 : Nat) (hblk : w.heap[B]? = some (.cells (bytesRow X cap) 5 (f1, f2))) (hf : cap ≤ f1)
    (hl : X.size = n) (hnc : n ≤ cap) (hcap : cap ≤ 9223372036854775807) (hs : a.eval s = .slice (some ⟨B, 0, none⟩) n cap) (ad : Addr) (c : Nat) (y : UInt8) (hx : a.eval x = .slice (some ad) 1 c) (hy : w.cell? ad = some (.int .u8 y.toNat)) (hn : n + 1 ≤ 140737488355328) (hB : base ≤ B) (hbase : base ≤ w.heap.size)
    (h : ∀ v' w' a' c', v' = .slice a' (n + 1) c' → Src w' a' c' (X.data.toList ++ [y]) → Hid (Below base w w') → wpList Try.prog ops Q rest (a.put o.dst v') w') : wpList Try.prog ops Q (o :: rest) a w := by
  subst hl
  obtain ⟨i0, hi, hz0, hz1, hz2⟩ := info_parts info5
  have hXs : X.size = X.data.size := rfl
  have hbl : (Lib.byteCells X.data.toList).length = X.size := by simp [Lib.byteCells]
  have hbs : (bytesRow X cap).size = cap := by unfold bytesRow; simp only [Array.size_append, Array.size_map, Array.size_replicate]; omega
  have hcell : ∀ j (hj : j < X.data.toList.length), w.cell? ⟨B, 0 + j, none⟩ = some (.int .u8 (X.data.toList[j]).toNat) := fun j hj => by
    have hj' : j < X.data.size := by simpa using hj
    rw [Lib.cell_of_heap hblk, Nat.zero_add]
    unfold bytesRow
    rw [Array.getElem?_append_left (by simpa using hj'), Array.getElem?_eq_getElem (by simpa using hj')]
    simp
  have hlt : B < w.heap.size := (Array.getElem?_eq_some_iff.1 hblk).1
  refine wpList_append_arg w hgd s x 22 ho 5 i0 (.int .u8 0) 1 1 Try.underlying22 hi hz0 hz1 hz2 rfl (by decide) B 0 X.size cap (Lib.byteCells X.data.toList) hs (by rw [hbl]; omega) ?_ ad 1 c [.int .u8 y.toNat] hx rfl ?_ (by intro u hu; simp at hu; subst hu; rfl) ?_ (by unfold maxLen; omega) (by omega) ?_ ?_
  · intro j u hj
    obtain ⟨hjl, rfl⟩ := List.getElem?_eq_some_iff.1 hj
    rw [hcell j (by simpa [Lib.byteCells] using hjl)]
    simp [Lib.byteCells]
  · intro j u hj
    match j, hj with
    | 0, hj => simp at hj; subst hj; simpa [Addr.add] using hy
  · intro hr j hj
    have hj0 : j = 0 := by simp at hj; omega
    subst hj0
    refine ⟨?_, ?_⟩
    · rw [Lib.cell_of_heap hblk, Array.getElem?_eq_getElem (by rw [hbs]; omega)]; rfl
    · unfold World.frozen?
      rw [show w.heap[(⟨B, 0 + X.size * 1 + 0, none⟩ : Addr).block]? = _ from hblk]
      simp; omega
  · intro hr
    have hset : w.setCells B (0 + X.size * 1) [.int .u8 y.toNat] = w.setCell ⟨B, X.size, none⟩ (.int .u8 y.toNat) := by
      simp [World.setCells]
    rw [hset]
    have hb1 : Below base w (w.setCell ⟨B, X.size, none⟩ (.int .u8 y.toNat)) := (Below.refl _ _).setCell (p := ⟨B, X.size, none⟩) hB _
    refine h _ _ _ _ rfl ⟨.inr ⟨B, 0, rfl, by simpa using hlt, ?_⟩, by simp; omega, hcap, fun h => by cases h⟩ (Lib.hid hb1)
    intro j hj
    rw [Nat.zero_add]
    have hj' : j < X.size + 1 := by simpa using hj
    by_cases e : j = X.size
    · subst e
      have hold : ∃ v, w.cell? ⟨B, X.size, none⟩ = some v := by rw [Lib.cell_of_heap hblk]; exact ⟨_, Array.getElem?_eq_getElem (by rw [hbs]; omega)⟩
      obtain ⟨v0, hv0⟩ := hold
      rw [World.cell?_setCell_same _ _ _ hv0]
      rw [List.getElem_append_right (by simp)]; simp
    · have hj2 : j < X.data.toList.length := by simp; omega
      rw [World.cell?_setCell_other _ _ _ _ (by first | (simp; done) | (simp; omega))]
      have := hcell j hj2
      rw [Nat.zero_add] at this
      rw [this, List.getElem_append_left hj2]
  · intro hr v' w' hown hgrow
    have hown2 : w'.ownsRow w.heap.size 5 1 v' (X.size + 1) (Lib.byteCells (X.data.toList ++ [y])) := by
      rw [show Lib.byteCells (X.data.toList ++ [y]) = Lib.byteCells X.data.toList ++ [.int .u8 y.toNat] by simp [Lib.byteCells]]
      exact hown
    obtain ⟨a', c', hv, hlen, hsr⟩ := own_src hown2
    have hb1 : Below base w w' := (Below.refl _ _).grown hgrow hbase (fun k hk => by cases hk)
    exact h v' w' a' c' (by rw [hv, hlen]) hsr (Lib.hid hb1)

theorem lit_one (x : Int) (wx : World) (C : Array Value) (hC : C = #[.int .i32 x]) : Nums (wx.alloc (.cells C 21)) (some ⟨wx.heap.size, 0, none⟩) [x] := by
  subst hC; exact lit_nums [x] wx
theorem i32_run (x : Int) (h1 : -2147483648 ≤ x) (h2 : x ≤ 2147483647) (W : World) : (convert 21 3 (.int .i32 x)).run Try.prog W = .ok (.int .i64 x) W := by
  have := Try.underlying21
  have := Try.underlying3
  go_simp
  exact IntWalk.i64_in x (by omega)

set_option maxHeartbeats 8000000 in
theorem back_walk (w : World) (a1 : Option Addr) (c1 : Nat) (l : List Int) (y : Int) (h1 : Nums w a1 l) (hl1 : l.length ≤ 35184372087808) (hb32 : ∀ x ∈ l, -2147483648 ≤ x ∧ x ≤ 2147483647) (hy0 : 0 ≤ y) (hy1 : y ≤ 255) :
    Calls Try.prog 8 #[.slice a1 l.length c1, .int .u8 y] w fun e w' => e = .returned (.bool true) ∧ Below w.heap.size w w' := by
  have HN := Lib.hid h1
  have H32 := Lib.hid hb32
  clear h1 hb32
  obtain ⟨z, hz, hor⟩ := or_run y hy0 hy1
  have HZ := Lib.hid hz
  clear hz
  go_enter Try.func8, Try.ntmps8
  go_wp2_with fail
  refine (shown_any _).mono ?_; rintro e w1 ⟨rfl, hb⟩
  have HB1 := Lib.hid hb
  clear hb
  go_wp2_with fail
  go_loopw [6, 7] (fun v i wr => ∃ j : Nat, j ≤ l.length ∧ i = .int .i64 j ∧ OwnN wr w.heap.size v ((l.take j).filter chB) ∧ Below w.heap.size w wr) (fun _ i _ => l.length - (intOf i).toNat)
  case atStart => exact ⟨0, by omega, rfl, World.ownsRow_nil _ _ _ _, HB1.out⟩
  case round =>
    obtain ⟨j, hj, rfl, hown, hb⟩ := hrel
    by_cases hlt : j < l.length
    · obtain ⟨sb, so, rfl, hsb, hcell⟩ := HN.out j hlt
      have hcell2 := (hb.cell (p := ⟨sb, so + j, none⟩) hsb).trans hcell
      obtain ⟨hx1, hx2⟩ := H32.out _ (List.getElem_mem hlt)
      have hstep : (l.take (j + 1)).filter chB = (l.take j).filter chB ++ [l[j]].filter chB := by
        rw [List.take_succ_eq_append_getElem hlt, List.filter_append]
      have HFL : Hid (((l.take j).filter chB).length ≤ j) := Lib.hid (by have := List.length_filter_le chB (l.take j); simp only [List.length_take] at this; omega)
      generalize l[j] = x at hcell2 hx1 hx2 hstep
      have hch := char_any x
      have hcv := i32_run x hx1 hx2
      have HCH := Lib.hid hch
      have HO := Lib.hid hown
      have HB := Lib.hid hb
      have HOA : Hid (OwnN (wr.alloc (.cells #[.int .i32 x] 21)) w.heap.size _ ((l.take j).filter chB)) := Lib.hid (World.ownsRow.alloc hown _)
      have HNS := Lib.hid (lit_one x wr _ rfl)
      have HSZ : Hid (w.heap.size ≤ (wr.alloc (.cells #[.int .i32 x] 21)).heap.size) := Lib.hid (by have := hb.size; simp; omega)
      clear hown hb hcell hch
      cases hcb : chB x
      · rw [hcb] at HCH
        have HST : Hid ((l.take (j + 1)).filter chB = (l.take j).filter chB) := Lib.hid (by rw [hstep]; simp [hcb])
        clear hcb hstep
        go_wp2_with fail
        refine (HCH.out _).mono ?_; rintro e w2 ⟨rfl, rfl⟩
        go_wp2
        go_roundw
        case rel => exact ⟨j + 1, by omega, by go_num, by rw [HST.out]; exact HO.out, HB.out⟩
        case measure => simp [intOf]; omega
      · rw [hcb] at HCH
        have HST : Hid ((l.take (j + 1)).filter chB = (l.take j).filter chB ++ [x]) := Lib.hid (by rw [hstep]; simp [hcb])
        clear hcb hstep
        go_wp2_with fail
        refine (HCH.out _).mono ?_; rintro e w2 ⟨rfl, rfl⟩
        go_wp2_with (at_builtin; refine app_nums rfl _ _ rfl w.heap.size _ ((l.take j).filter chB) rfl HOA.out _ 1 1 [x] rfl rfl HNS.out (fun h => by cases h) ?n2 HSZ.out ?_)
        case n2 => have := HFL.out; simp only [List.length_cons, List.length_nil]; omega
        intro v3 w3 hown3 hb3 _
        have HO3 : Hid (OwnN w3 w.heap.size v3 ((l.take (j + 1)).filter chB)) := Lib.hid (by rw [HST.out]; simpa using hown3)
        have HB3 : Hid (Below w.heap.size w w3) := Lib.hid ((HB.out.alloc HB.out.size _).trans hb3.out)
        clear hown3 hb3
        go_wp2
        go_roundw
        case rel => exact ⟨j + 1, by omega, by go_num, HO3.out, HB3.out⟩
        case measure => simp [intOf]; omega
    · have hjl : l.take j = l := List.take_of_length_le (by omega)
      rw [hjl] at hown
      have hlen : (l.filter chB).length ≤ 35184372087808 := by have := List.length_filter_le chB l; omega
      have hall : ∀ x ∈ l.filter chB, isChar x := fun x hx => by have := (List.mem_filter.1 hx).2; exact of_decide_eq_true this
      obtain ⟨a2, c2, rfl, hn2, _, _⟩ := ownN_src hown
      have hrr := rns_encs _ hall
      have hok := ok_encs (l.filter chB)
      have hfo := flt_ok _ hok
      have hod := fun y h => flt_odd (l.filter chB) y h
      have hel := encs_len (l.filter chB)
      have henc := fun wx (hn : Nums wx a2 (l.filter chB)) => encode_any a2 c2 (l.filter chB) wx hn (by omega)
      have hrl : (rns (encs (l.filter chB))).length = (l.filter chB).length := by have := congrArg List.length hrr; simpa using this
      obtain ⟨WF, cf, hcv, hwb, hws, hblk⟩ := conv_blk ⟨(encs (l.filter chB)).toArray⟩ (by show (encs (l.filter chB)).toArray.size ≤ _; simp; omega)
      have hXs : (ByteArray.mk (encs (l.filter chB)).toArray).size = (encs (l.filter chB)).length := by show (encs (l.filter chB)).toArray.size = _; simp
      have hcl : ∀ wx, cf wx ≤ 9223372036854775807 := fun wx => (hws wx).big
      have hXd : (ByteArray.mk (encs (l.filter chB)).toArray).data.toList = encs (l.filter chB) := by simp
      rw [hXd] at hws
      have hrun : ∀ wx B, B = wx.heap.size → Calls Try.prog 14 #[.slice (some ⟨B, 0, none⟩) (ByteArray.mk (encs (l.filter chB)).toArray).size (cf wx)] (WF wx) fun e w' => ∃ a c, e = .returned (.slice a (l.filter chB).length c) ∧ Nums w' a (l.filter chB) ∧ Below (WF wx).heap.size (WF wx) w' := fun wx B hB => by
        subst hB
        have hs := hws wx
        rw [hXs]
        refine (runes_big _ (cf wx) _ (WF wx) hs.bytes hs.cap (by omega) (by rw [ok_dec _ hok]; omega) (by omega) hs.big).mono ?_
        rintro e w' ⟨v, rfl, ho, hb2⟩
        obtain ⟨a, c, rfl, _, hn, _⟩ := own_nums ho
        rw [hrr] at hn
        rw [hrl]
        exact ⟨a, c, rfl, hn, hb2⟩
      have hfx : ∀ wx B, B = wx.heap.size → Calls Try.prog 15 #[.slice (some ⟨B, 0, none⟩) (ByteArray.mk (encs (l.filter chB)).toArray).size (cf wx)] (WF wx) fun e w' => e = .returned (.int .i64 (ByteArray.mk (encs (l.filter chB)).toArray).size) ∧ WF wx = w' := fun wx B hB => by
        subst hB
        have hs := hws wx
        rw [hXs]
        have := flt_any _ (cf wx) _ (WF wx) hs.bytes hs.cap hs.big
        rw [hfo] at this
        exact this
      have hodd : ∀ wx a c, Src wx a c (encs (l.filter chB) ++ [z]) → Calls Try.prog 15 #[.slice a ((ByteArray.mk (encs (l.filter chB)).toArray).size + 1) c] wx fun e w' => e = .returned (.int .i64 (ByteArray.mk (encs (l.filter chB)).toArray).size) ∧ wx = w' := fun wx a c hs => by
        rw [hXs]
        have := flt_any a c _ wx hs.bytes hs.cap hs.big
        rw [hod z HZ.out, List.length_append] at this
        exact this
      have hlr : ∀ wx aa cc, Nums wx aa (l.filter chB) → Nums wx a2 (l.filter chB) → Calls Try.prog 17 #[.slice aa (l.filter chB).length cc, .slice a2 (l.filter chB).length c2] wx fun e w' => e = .returned (.bool true) ∧ Below wx.heap.size wx w' := fun wx aa cc h1 h2 => lrunes_any aa a2 cc c2 _ wx h1 h2 (by omega)
      have hXb : (ByteArray.mk (encs (l.filter chB)).toArray).size ≤ 140737488351232 := by rw [hXs]; omega
      rw [← hXd] at hws hodd
      generalize l.filter chB = L at henc hn2 hrun hlr hlen hws hfx hodd hXb hcv hblk
      generalize (ByteArray.mk (encs L).toArray) = X at henc hrun hws hfx hodd hXb hcv hblk
      generalize L.length = m at henc hrun hlr hlen
      have HENC := Lib.hid henc
      have HRUN := Lib.hid hrun
      have HFX := Lib.hid hfx
      have HODD := Lib.hid hodd
      have HLR := Lib.hid hlr
      have HWB := Lib.hid hwb
      have HBLK := Lib.hid hblk
      have HWS := Lib.hid hws
      have HN2 := Lib.hid hn2
      have HB2 := Lib.hid hb
      have HCL := Lib.hid hcl
      clear henc hrun hfx hodd hlr hwb hblk hws hn2 hb hown hall hrr hok hfo hod hel hrl hXs hXd hcl hjl
      go_wp2_with fail
      refine (HENC.out _ HN2.out).mono ?_; rintro e w3 ⟨rfl, hb⟩
      have HB3 : Hid (Below w.heap.size w w3) := Lib.hid (HB2.out.trans (hb.mono HB2.out.size))
      have HN3 : Hid (Nums w3 a2 L) := Lib.hid (HN2.out.below (Nat.le_refl _) hb)
      clear hb
      go_wp2_with fail
      refine (HRUN.out _ _ ?_).mono ?_; rfl; rintro e w4 ⟨a4, c4, rfl, hn4, hb⟩
      have HB4 : Hid (Below w3.heap.size w3 w4) := Lib.hid ((HWB.out w3).trans (hb.mono (HWB.out w3).size))
      have HB4w : Hid (Below w.heap.size w w4) := Lib.hid (HB3.out.trans (HB4.out.mono HB3.out.size))
      have HN4 := Lib.hid hn4
      have HM4 : Hid (Nums w4 a2 L) := Lib.hid (HN3.out.below (Nat.le_refl _) HB4.out)
      clear hb hn4
      obtain ⟨f1, f2, hbk, hf⟩ := HBLK.out w4
      have hbk2 : ((WF w4).alloc (.cells #[.int .u8 z.toNat] 5)).heap[w4.heap.size]? = some (.cells (bytesRow X (cf w4)) 5 (f1, f2)) := (Lib.alloc_old _ _ _ (Array.getElem?_eq_some_iff.1 hbk).1).trans hbk
      have hyc : ((WF w4).alloc (.cells #[.int .u8 z.toNat] 5)).cell? ⟨(WF w4).heap.size, 0, none⟩ = some (.int .u8 z.toNat) := by
        have : ((WF w4).alloc (.cells #[.int .u8 z.toNat] 5)).heap[(WF w4).heap.size]? = some (.cells #[.int .u8 z.toNat] 5 (0, 0)) := by show ((WF w4).heap.push _)[(WF w4).heap.size]? = _; simp
        rw [Lib.cell_of_heap this]; rfl
      have HBK := Lib.hid hbk2
      have HYC := Lib.hid hyc
      have HCAP : Hid (X.size ≤ cf w4) := Lib.hid (by have := (HWS.out w4).cap; simpa using this)
      have HSZ2 : Hid (w4.heap.size ≤ ((WF w4).alloc (.cells #[.int .u8 z.toNat] 5)).heap.size) := Lib.hid (by have := (HWB.out w4).size; simp; omega)
      have HF1 := Lib.hid hf
      clear hbk hbk2 hyc hf
      go_wp2_with (at_builtin; refine app_one rfl _ _ rfl w4.heap.size w4.heap.size X.size (cf w4) X f1 f2 HBK.out HF1.out rfl HCAP.out (HCL.out w4) rfl ⟨(WF w4).heap.size, 0, none⟩ 1 z rfl HYC.out ?nn (Nat.le_refl _) HSZ2.out ?_)
      case nn => omega
      intro v5 w5 a5 c5 hv5 hs5 hb5
      subst hv5
      have HB5 : Hid (Below w4.heap.size w4 w5) := Lib.hid (((HWB.out w4).alloc (HWB.out w4).size _).trans hb5.out)
      have HB5w : Hid (Below w.heap.size w w5) := Lib.hid (HB4w.out.trans (HB5.out.mono HB4w.out.size))
      have HN5 : Hid (Nums w5 a4 L) := Lib.hid (HN4.out.below (Nat.le_refl _) HB5.out)
      have HM5 : Hid (Nums w5 a2 L) := Lib.hid (HM4.out.below (Nat.le_refl _) HB5.out)
      have HS5 := Lib.hid hs5
      clear hs5 hb5 hor
      go_wp2_with fail
      refine (HLR.out _ _ _ HN5.out HM5.out).mono ?_; rintro e w6 ⟨rfl, hb⟩
      have HB6w : Hid (Below w.heap.size w w6) := Lib.hid (HB5w.out.trans (hb.mono HB5w.out.size))
      have HS6 : Hid (Src w6 a5 c5 (X.data.toList ++ [z])) := Lib.hid (HS5.out.below hb)
      clear hb
      go_wp2_with fail
      refine (HFX.out _ _ ?_).mono ?_; rfl; rintro e w7 ⟨rfl, rfl⟩
      have HS7 : Hid (Src (WF w6) a5 c5 (X.data.toList ++ [z])) := Lib.hid (HS6.out.below (HWB.out w6))
      have HB7w : Hid (Below w.heap.size w (WF w6)) := Lib.hid (HB6w.out.trans ((HWB.out w6).mono HB6w.out.size))
      go_wp2_with fail
      refine (HODD.out _ _ _ HS7.out).mono ?_; rintro e w8 ⟨rfl, rfl⟩
      go_wp2
      go_ret
      exact ⟨rfl, HB7w.out⟩
end Go.Proofs.Ytaahblbkigkfcaa
