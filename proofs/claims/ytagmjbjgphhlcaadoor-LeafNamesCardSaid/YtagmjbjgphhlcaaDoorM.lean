/- Characters that are written are read as themselves: the walk. -/
import Derived.Test.YtagmjbjgphhlcaaDoorL
import Derived.ArgAppend
set_option linter.unusedVariables false
namespace Go.Proofs.YtagmjbjgphhlcaaDoor
open Go.RowKit

theorem pc_hi (y : UInt8) (h : 128 ≤ y.toNat) : pc [y] = (1, false) := by
  unfold pc
  simp only [List.headD_cons]
  by_cases h1 : y.toNat ≤ 193
  · rw [beg_eq0 (.inl ⟨h, h1⟩)]; rfl
  by_cases h2 : y.toNat ≤ 223
  · rw [beg_eq2 (by omega) h2]; simp [scan, bad]
  by_cases h3 : y.toNat ≤ 239
  · rw [beg_eq3 (by omega) h3]; simp [scan, bad]
  by_cases h4 : y.toNat ≤ 244
  · rw [beg_eq4 (by omega) h4]; simp [scan, bad]
  · rw [beg_eq0 (.inr (by omega))]; rfl
theorem flt_odd (r : List Int) (y : UInt8) (h : 128 ≤ y.toNat) : flt (encs r ++ [y]) = (encs r).length := by
  have h1 : pcs [y] = [([y], false)] := by
    rw [pcs_cons _ (by simp), pc_hi y h]; simp [pcs_nil]
  have h2 : (encs r).length = ((r.map fun x => (enc x, true)).flatMap (·.1)).length := by
    rw [← pcs_encs', pcs_join]
  unfold flt
  rw [pcs_encs, h1, h2]
  congr 2
  induction r with
  | nil => simp
  | cons x r ih => simp only [List.map_cons, List.cons_append, List.takeWhile_cons, if_true]; rw [ih (by rw [← pcs_encs', pcs_join])]
theorem or_hi : ∀ n : Fin 256, 128 ≤ bits .or .u8 (n.val : Int) 128 ∧ bits .or .u8 (n.val : Int) 128 ≤ 255 := by decide +kernel
theorem or_run (y : Int) (h0 : 0 ≤ y) (h1 : y ≤ 255) : ∃ z : UInt8, 128 ≤ z.toNat ∧ bits .or .u8 y 128 = z.toNat := by
  obtain ⟨n, rfl⟩ := Int.eq_ofNat_of_zero_le h0
  obtain ⟨g1, g2⟩ := or_hi ⟨n, by omega⟩
  have g1 : 128 ≤ bits .or .u8 (n : Int) 128 := g1
  have g2 : bits .or .u8 (n : Int) 128 ≤ 255 := g2
  refine ⟨UInt8.ofNat (bits .or .u8 (n : Int) 128).toNat, ?_, ?_⟩
  · rw [UInt8.toNat_ofNat']; omega
  · rw [UInt8.toNat_ofNat']; omega

/-- a text's bytes, and how they lie -/
theorem conv_blk (X : ByteArray) (hX : X.size ≤ 9223372036854775807) : ∃ (WF : World → World) (cf : World → Nat), (∀ w, (convert 9 29 (.string X)).run Tryd.prog w = .ok (.slice (some ⟨w.heap.size, 0, none⟩) X.size (cf w)) (WF w)) ∧ (∀ w, Below w.heap.size w (WF w)) ∧ (∀ w, Src (WF w) (some ⟨w.heap.size, 0, none⟩) (cf w) X.data.toList) ∧
    ∀ w, ∃ f1 f2, (WF w).heap[w.heap.size]? = some (.cells (bytesRow X (cf w)) 5 (f1, f2)) ∧ cf w ≤ f1 := by
  refine ⟨fun w => w.drew.alloc (.cells (bytesRow X (grownCap w X.size 0 5)) 5 ((bytesRow X (grownCap w X.size 0 5)).size, (bytesRow X (grownCap w X.size 0 5)).size + 1)), fun w => grownCap w X.size 0 5, fun w => run_bytes_of_string (P := Tryd.prog) w 9 29 5 X Tryd.underlying9 Tryd.underlying29 Tryd.underlying5, fun w => ((Below.refl _ _).drew).alloc (Nat.le_refl _) _, fun w => ?_, fun w => ⟨(bytesRow X (grownCap w X.size 0 5)).size, (bytesRow X (grownCap w X.size 0 5)).size + 1, ?_, ?_⟩⟩
  · obtain ⟨WF, cf, h1, h2, h3⟩ := conv_str' X hX
    have e1 := h1 w
    have e2 := run_bytes_of_string (P := Tryd.prog) w 9 29 5 X Tryd.underlying9 Tryd.underlying29 Tryd.underlying5
    have e3 := e1.symm.trans e2
    simp only [Result.ok.injEq, Value.slice.injEq] at e3
    have := h3 w
    rw [e3.1.2.2, e3.2] at this
    exact this
  · show (w.heap.push _)[w.heap.size]? = _
    simp
  · show _ ≤ (bytesRow X (grownCap w X.size 0 5)).size
    unfold bytesRow
    have hs : X.size = X.data.size := rfl
    simp only [Array.size_append, Array.size_map, Array.size_replicate]; omega

theorem app_one {w : World} {ops : Array Oper} {rest : List Oper} {o : Oper} {a : Act} {Q : Exit → Act → World → Prop} (hgd : o.guard = none) (s x : Operand)
    (ho : o.op = .call { callee := .builtin .append, args := #[s, x], argTypes := #[29, 29] }) (base B n cap : Nat) (X : ByteArray) (f1 f2 : Nat) (hblk : w.heap[B]? = some (.cells (bytesRow X cap) 5 (f1, f2))) (hf : cap ≤ f1)
    (hl : X.size = n) (hnc : n ≤ cap) (hcap : cap ≤ 9223372036854775807) (hs : a.eval s = .slice (some ⟨B, 0, none⟩) n cap) (ad : Addr) (c : Nat) (y : UInt8) (hx : a.eval x = .slice (some ad) 1 c) (hy : w.cell? ad = some (.int .u8 y.toNat)) (hn : n + 1 ≤ 140737488355328) (hB : base ≤ B) (hbase : base ≤ w.heap.size)
    (h : ∀ v' w' a' c', v' = .slice a' (n + 1) c' → Src w' a' c' (X.data.toList ++ [y]) → Hid (Below base w w') → wpList Tryd.prog ops Q rest (a.put o.dst v') w') : wpList Tryd.prog ops Q (o :: rest) a w := by
  subst hl
  obtain ⟨i0, hi, hz0, hz1, hz2⟩ := info_parts info5
  have hXs : X.size = X.data.size := rfl
  have hbl : (Lib.byteCells X.data.toList).length = X.size := by simp [Lib.byteCells]
  have hbs : (bytesRow X cap).size = cap := by unfold bytesRow; simp only [Array.size_append, Array.size_map, Array.size_replicate]; omega
  have hcell : ∀ j (hj : j < X.data.toList.length), w.cell? ⟨B, 0 + j, none⟩ = some (.int .u8 (X.data.toList[j]).toNat) := fun j hj => by
    have hj' : j < X.data.size := by simpa using hj
    rw [Lib.cell_of_heap hblk, Nat.zero_add]
    unfold bytesRow
    rw [Array.getElem?_append_left (by simpa using hj'), Array.getElem?_eq_getElem (by simpa using hj')]
    simp
  have hlt : B < w.heap.size := (Array.getElem?_eq_some_iff.1 hblk).1
  refine wpList_append_arg w hgd s x 29 ho 5 i0 (.int .u8 0) 1 1 Tryd.underlying29 hi hz0 hz1 hz2 rfl (by decide) B 0 X.size cap (Lib.byteCells X.data.toList) hs (by rw [hbl]; omega) ?_ ad 1 c [.int .u8 y.toNat] hx rfl ?_ (by intro u hu; simp at hu; subst hu; rfl) ?_ (by unfold maxLen; omega) (by omega) ?_ ?_
  · intro j u hj
    obtain ⟨hjl, rfl⟩ := List.getElem?_eq_some_iff.1 hj
    rw [hcell j (by simpa [Lib.byteCells] using hjl)]
    simp [Lib.byteCells]
  · intro j u hj
    match j, hj with
    | 0, hj => simp at hj; subst hj; simpa [Addr.add] using hy
  · intro hr j hj
    have hj0 : j = 0 := by simp at hj; omega
    subst hj0
    refine ⟨?_, ?_⟩
    · rw [Lib.cell_of_heap hblk, Array.getElem?_eq_getElem (by rw [hbs]; omega)]; rfl
    · unfold World.frozen?
      rw [show w.heap[(⟨B, 0 + X.size * 1 + 0, none⟩ : Addr).block]? = _ from hblk]
      simp; omega
  · intro hr
    have hset : w.setCells B (0 + X.size * 1) [.int .u8 y.toNat] = w.setCell ⟨B, X.size, none⟩ (.int .u8 y.toNat) := by
      simp [World.setCells]
    rw [hset]
    have hb1 : Below base w (w.setCell ⟨B, X.size, none⟩ (.int .u8 y.toNat)) := (Below.refl _ _).setCell (p := ⟨B, X.size, none⟩) hB _
    refine h _ _ _ _ rfl ⟨.inr ⟨B, 0, rfl, by simpa using hlt, ?_⟩, by simp; omega, hcap, fun h => by cases h⟩ (Lib.hid hb1)
    intro j hj
    rw [Nat.zero_add]
    have hj' : j < X.size + 1 := by simpa using hj
    by_cases e : j = X.size
    · subst e
      have hold : ∃ v, w.cell? ⟨B, X.size, none⟩ = some v := by rw [Lib.cell_of_heap hblk]; exact ⟨_, Array.getElem?_eq_getElem (by rw [hbs]; omega)⟩
      obtain ⟨v0, hv0⟩ := hold
      rw [World.cell?_setCell_same _ _ _ hv0]
      rw [List.getElem_append_right (by simp)]; simp
    · have hj2 : j < X.data.toList.length := by simp; omega
      rw [World.cell?_setCell_other _ _ _ _ (by first | (simp; done) | (simp; omega))]
      have := hcell j hj2
      rw [Nat.zero_add] at this
      rw [this, List.getElem_append_left hj2]
  · intro hr v' w' hown hgrow
    have hown2 : w'.ownsRow w.heap.size 5 1 v' (X.size + 1) (Lib.byteCells (X.data.toList ++ [y])) := by
      rw [show Lib.byteCells (X.data.toList ++ [y]) = Lib.byteCells X.data.toList ++ [.int .u8 y.toNat] by simp [Lib.byteCells]]
      exact hown
    obtain ⟨a', c', hv, hlen, hsr⟩ := own_src hown2
    have hb1 : Below base w w' := (Below.refl _ _).grown hgrow hbase (fun k hk => by cases hk)
    exact h v' w' a' c' (by rw [hv, hlen]) hsr (Lib.hid hb1)

theorem lit_one (x : Int) (wx : World) (C : Array Value) (hC : C = #[.int .i32 x]) : Nums (wx.alloc (.cells C 21)) (some ⟨wx.heap.size, 0, none⟩) [x] := by
  subst hC; exact lit_nums [x] wx
theorem i32_run (x : Int) (h1 : -2147483648 ≤ x) (h2 : x ≤ 2147483647) (W : World) : (convert 21 3 (.int .i32 x)).run Tryd.prog W = .ok (.int .i64 x) W := by
  have := Tryd.underlying21
  have := Tryd.underlying3
  go_simp
  exact IntWalk.i64_in x (by omega)

end Go.Proofs.YtagmjbjgphhlcaaDoor
