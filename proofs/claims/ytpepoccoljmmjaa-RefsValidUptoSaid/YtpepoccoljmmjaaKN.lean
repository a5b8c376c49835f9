/- Rows of numbers, written as characters. -/
import Derived.Test.YtpepoccoljmmjaaRV
import Derived.Test.YtpepoccoljmmjaaRL
import Derived.ArgAppend
import Derived.Lib.OthersKept
set_option linter.unusedVariables false
namespace Go.Proofs.Ytpepoccoljmmjaa
open Go.RowKit

def c32 (n : Nat) : Value := .int .i32 n

theorem info21 : (Try.prog.info? 21).map (fun i => (i.zero, i.size, i.bytes)) = some (some (.int .i32 0), 1, 4) := by kernel_rfl

/-- numbers that a slice shows -/
def Nums (w : World) (a : Option Addr) (l : List Int) : Prop := ∀ j (h : j < l.length), ∃ b o, a = some ⟨b, o, none⟩ ∧ b < w.heap.size ∧ w.cell? ⟨b, o + j, none⟩ = some (.int .i32 l[j])

theorem Nums.below {w w' : World} {a : Option Addr} {l : List Int} {B : Nat} (h : Nums w a l) (hB : w.heap.size ≤ B) (hb : Below B w w') : Nums w' a l :=
  fun j hj => by
    obtain ⟨b, o, h1, h2, h3⟩ := h j hj
    exact ⟨b, o, h1, Nat.lt_of_lt_of_le h2 hb.size, (hb.cell (p := ⟨b, o + j, none⟩) (by simp; omega)).trans h3⟩

theorem encs_snoc (l : List Int) (j : Nat) (hj : j < l.length) : encs (l.take (j + 1)) = encs (l.take j) ++ enc l[j] := by
  rw [List.take_succ_eq_append_getElem hj, encs_append]; simp [encs]

theorem lit_nums (l : List Int) (wx : World) : Nums (wx.alloc (.cells (l.map (Value.int .i32)).toArray 21)) (some ⟨wx.heap.size, 0, none⟩) l := by
  intro j hj
  have hb : (wx.alloc (.cells (l.map (Value.int .i32)).toArray 21)).heap[wx.heap.size]? = some (.cells (l.map (Value.int .i32)).toArray 21 (0, 0)) := by
    show (wx.heap.push _)[wx.heap.size]? = _; simp
  refine ⟨_, _, rfl, by simp, ?_⟩
  rw [Lib.cell_of_heap hb]
  simp [hj]

theorem rns_len (l : List UInt8) : (rns l).length ≤ l.length ∧ l.length ≤ 4 * (rns l).length := by
  induction l using len_ind with
  | _ l ih =>
    by_cases h : l = []
    · subst h; simp [rns_nil]
    · have hb := pc_bd l h
      have h4 := pc_le4 l
      rw [rns_cons l h, List.length_cons]
      have := ih (l.drop (pc l).1) (by simp only [List.length_drop]; omega)
      simp only [List.length_drop] at this; omega

theorem own_nums {w : World} {base n : Nat} {v : Value} {l : List Nat} (h : w.ownsRow base 21 1 v n (l.map c32)) : ∃ a c, v = .slice a l.length c ∧ n = l.length ∧ Nums w a (l.map fun n : Nat => (n : Int)) ∧ l.length ≤ c := by
  have hn : n = l.length := by have := h.1; rw [List.length_map] at this; omega
  subst hn
  rcases h.2 with ⟨rfl, h0⟩ | ⟨g, cap, cur, rfl, hb, hg, h1, h2, h3, h4⟩
  · have : l = [] := List.eq_nil_of_length_eq_zero h0
    subst this
    exact ⟨none, 0, rfl, rfl, fun j hj => by simp at hj, by simp⟩
  · refine ⟨_, cap, rfl, rfl, fun j hj => ⟨g, 0, rfl, (Array.getElem?_eq_some_iff.1 hg).1, ?_⟩, h1⟩
    have hj' : j < l.length := by simpa using hj
    have := h.cells (g := g) rfl j (.int .i32 l[j]) (by simp [c32, hj'])
    rw [Lib.add_plain] at this
    rw [this]; simp

def i32s (l : List Int) : List Value := l.map (Value.int .i32)

/-- a row of numbers of the call's own -/
def OwnN (w : World) (base : Nat) (v : Value) (l : List Int) : Prop := w.ownsRow base 21 1 v l.length (i32s l)

theorem ownN_src {w : World} {base : Nat} {v : Value} {l : List Int} (h : OwnN w base v l) : ∃ a c, v = .slice a l.length c ∧ Nums w a l ∧ l.length ≤ c ∧ (a = none → l = [] ∧ c = 0) := by
  rcases h.2 with ⟨rfl, h0⟩ | ⟨g, cap, cur, rfl, hb, hg, h1, h2, h3, h4⟩
  · have : l = [] := List.eq_nil_of_length_eq_zero h0
    subst this
    exact ⟨none, 0, rfl, fun j hj => by simp at hj, by simp, fun _ => ⟨rfl, rfl⟩⟩
  · refine ⟨_, cap, rfl, fun j hj => ⟨g, 0, rfl, (Array.getElem?_eq_some_iff.1 hg).1, ?_⟩, h1, fun h => by cases h⟩
    have := World.ownsRow.cells h (g := g) rfl j (.int .i32 l[j]) (by simp [i32s, hj])
    rw [Lib.add_plain] at this
    exact this

theorem app_nums {w : World} {ops : Array Oper} {rest : List Oper} {o : Oper} {a : Act} {Q : Exit → Act → World → Prop} (hgd : o.guard = none) (s x : Operand)
    (ho : o.op = .call { callee := .builtin .append, args := #[s, x], argTypes := #[65, 65] }) (base : Nat) (v : Value) (xs : List Int) (hs : a.eval s = v) (hown : OwnN w base v xs)
    (ad : Option Addr) (c m : Nat) (l : List Int) (hm : l.length = m) (hx : a.eval x = .slice ad m c) (hsrc : Nums w ad l) (hnil : ad = none → l = [] ∧ c = 0) (hn : xs.length + l.length ≤ 35184372088832) (hbase : base ≤ w.heap.size)
    (h : ∀ v' w', OwnN w' base v' (xs ++ l) → Hid (Below base w w') → Hid (w.grownBy w' v.ownBlock) → wpList Try.prog ops Q rest (a.put o.dst v') w') : wpList Try.prog ops Q (o :: rest) a w := by
  subst hm
  obtain ⟨i0, hi, hz0, hz1, hz2⟩ := info_parts info21
  cases ad with
  | none =>
    obtain ⟨rfl, rfl⟩ := hnil rfl
    refine wpList_append_own_none hgd s x 65 ho base 21 i0 1 Try.underlying65 hi v _ _ hs hown hx ?_
    exact h v w (by rw [List.append_nil]; exact hown) (Lib.hid (Below.refl _ _)) (Lib.hid ⟨rfl, rfl, rfl, Nat.le_refl _, fun _ _ _ => rfl⟩)
  | some ad =>
    refine wpList_append_own w hgd s x 65 ho base 21 i0 (.int .i32 0) 1 4 Try.underlying65 hi hz0 hz1 hz2 rfl (by decide) v _ _ hs hown ad l.length c (i32s l) hx (by simp [i32s]) ?_ ?_ (by unfold maxLen; omega) (by omega) hbase ?_
    · intro j u hj
      obtain ⟨hjl, rfl⟩ := List.getElem?_eq_some_iff.1 hj
      have hjl' : j < l.length := by simpa [i32s] using hjl
      obtain ⟨b, o, he, _, hr⟩ := hsrc j hjl'
      cases he
      rw [Lib.add_plain, hr]
      simp [i32s]
    · intro u hu; simp only [i32s, List.mem_map] at hu; obtain ⟨x, _, rfl⟩ := hu; rfl
    · intro v' w' h1 h2 _
      refine h v' w' ?_ (Lib.hid ((Below.refl _ _).grown h2 hbase (fun k hk => (World.ownsRow.lt hown k hk).1))) (Lib.hid h2)
      unfold OwnN
      rw [List.length_append, show i32s (xs ++ l) = i32s xs ++ i32s l by simp [i32s]]
      exact h1

theorem made_emptyN (w : World) (base : Nat) (h : base ≤ w.heap.size) (C : Array Value) (hC : C = #[]) : OwnN (w.alloc (.cells C 21)) base (.slice (some ⟨w.heap.size, 0, none⟩) 0 0) [] := by
  subst hC
  exact World.ownsRow_made w #[] 0 h (by unfold maxLen; omega) (by simp)

theorem pc_hi (y : UInt8) (h : 128 ≤ y.toNat) : pc [y] = (1, false) := by
  unfold pc
  simp only [List.headD_cons]
  by_cases h1 : y.toNat ≤ 193
  · rw [beg_eq0 (.inl ⟨h, h1⟩)]; rfl
  by_cases h2 : y.toNat ≤ 223
  · rw [beg_eq2 (by omega) h2]; simp [scan, bad]
  by_cases h3 : y.toNat ≤ 239
  · rw [beg_eq3 (by omega) h3]; simp [scan, bad]
  by_cases h4 : y.toNat ≤ 244
  · rw [beg_eq4 (by omega) h4]; simp [scan, bad]
  · rw [beg_eq0 (.inr (by omega))]; rfl

theorem flt_odd (r : List Int) (y : UInt8) (h : 128 ≤ y.toNat) : flt (encs r ++ [y]) = (encs r).length := by
  have h1 : pcs [y] = [([y], false)] := by
    rw [pcs_cons _ (by simp), pc_hi y h]; simp [pcs_nil]
  have h2 : (encs r).length = ((r.map fun x => (enc x, true)).flatMap (·.1)).length := by
    rw [← pcs_encs', pcs_join]
  unfold flt
  rw [pcs_encs, h1, h2]
  congr 2
  induction r with
  | nil => simp
  | cons x r ih => simp only [List.map_cons, List.cons_append, List.takeWhile_cons, if_true]; rw [ih (by rw [← pcs_encs', pcs_join])]

theorem or_hi : ∀ n : Fin 256, 128 ≤ bits .or .u8 (n.val : Int) 128 ∧ bits .or .u8 (n.val : Int) 128 ≤ 255 := by decide +kernel

theorem or_run (y : Int) (h0 : 0 ≤ y) (h1 : y ≤ 255) : ∃ z : UInt8, 128 ≤ z.toNat ∧ bits .or .u8 y 128 = z.toNat := by
  obtain ⟨n, rfl⟩ := Int.eq_ofNat_of_zero_le h0
  obtain ⟨g1, g2⟩ := or_hi ⟨n, by omega⟩
  have g1 : 128 ≤ bits .or .u8 (n : Int) 128 := g1
  have g2 : bits .or .u8 (n : Int) 128 ≤ 255 := g2
  refine ⟨UInt8.ofNat (bits .or .u8 (n : Int) 128).toNat, ?_, ?_⟩
  · rw [UInt8.toNat_ofNat']; omega
  · rw [UInt8.toNat_ofNat']; omega

/-- a text's bytes, and how they lie -/
theorem conv_blk (X : ByteArray) (hX : X.size ≤ 9223372036854775807) : ∃ (WF : World → World) (cf : World → Nat), (∀ w, (convert 9 33 (.string X)).run Try.prog w = .ok (.slice (some ⟨w.heap.size, 0, none⟩) X.size (cf w)) (WF w)) ∧ (∀ w, Below w.heap.size w (WF w)) ∧ (∀ w, Src (WF w) (some ⟨w.heap.size, 0, none⟩) (cf w) X.data.toList) ∧
    ∀ w, ∃ f1 f2, (WF w).heap[w.heap.size]? = some (.cells (bytesRow X (cf w)) 5 (f1, f2)) ∧ cf w ≤ f1 := by
  refine ⟨fun w => w.drew.alloc (.cells (bytesRow X (grownCap w X.size 0 5)) 5 ((bytesRow X (grownCap w X.size 0 5)).size, (bytesRow X (grownCap w X.size 0 5)).size + 1)), fun w => grownCap w X.size 0 5, fun w => run_bytes_of_string (P := Try.prog) w 9 33 5 X Try.underlying9 Try.underlying33 Try.underlying5, fun w => ((Below.refl _ _).drew).alloc (Nat.le_refl _) _, fun w => ?_, fun w => ⟨(bytesRow X (grownCap w X.size 0 5)).size, (bytesRow X (grownCap w X.size 0 5)).size + 1, ?_, ?_⟩⟩
  · obtain ⟨WF, cf, h1, h2, h3⟩ := conv_str' X hX
    have e1 := h1 w
    have e2 := run_bytes_of_string (P := Try.prog) w 9 33 5 X Try.underlying9 Try.underlying33 Try.underlying5
    have e3 := e1.symm.trans e2
    simp only [Result.ok.injEq, Value.slice.injEq] at e3
    have := h3 w
    rw [e3.1.2.2, e3.2] at this
    exact this
  · show (w.heap.push _)[w.heap.size]? = _
    simp
  · show _ ≤ (bytesRow X (grownCap w X.size 0 5)).size
    unfold bytesRow
    have hs : X.size = X.data.size := rfl
    simp only [Array.size_append, Array.size_map, Array.size_replicate]; omega

theorem app_one {w : World} {ops : Array Oper} {rest : List Oper} {o : Oper} {a : Act} {Q : Exit → Act → World → Prop} (hgd : o.guard = none) (s x : Operand)
    (ho : o.op = .call { callee := .builtin .append, args := #[s, x], argTypes := #[33, 33] }) (base B n cap : Nat) (X : ByteArray) (f1 f2 : Nat) (hblk : w.heap[B]? = some (.cells (bytesRow X cap) 5 (f1, f2))) (hf : cap ≤ f1)
    (hl : X.size = n) (hnc : n ≤ cap) (hcap : cap ≤ 9223372036854775807) (hs : a.eval s = .slice (some ⟨B, 0, none⟩) n cap) (ad : Addr) (c : Nat) (y : UInt8) (hx : a.eval x = .slice (some ad) 1 c) (hy : w.cell? ad = some (.int .u8 y.toNat)) (hn : n + 1 ≤ 140737488355328) (hB : base ≤ B) (hbase : base ≤ w.heap.size)
    (h : ∀ v' w' a' c', v' = .slice a' (n + 1) c' → Src w' a' c' (X.data.toList ++ [y]) → Hid (Below base w w') → wpList Try.prog ops Q rest (a.put o.dst v') w') : wpList Try.prog ops Q (o :: rest) a w := by
  subst hl
  obtain ⟨i0, hi, hz0, hz1, hz2⟩ := info_parts info5
  have hXs : X.size = X.data.size := rfl
  have hbl : (Lib.byteCells X.data.toList).length = X.size := by simp [Lib.byteCells]
  have hbs : (bytesRow X cap).size = cap := by unfold bytesRow; simp only [Array.size_append, Array.size_map, Array.size_replicate]; omega
  have hcell : ∀ j (hj : j < X.data.toList.length), w.cell? ⟨B, 0 + j, none⟩ = some (.int .u8 (X.data.toList[j]).toNat) := fun j hj => by
    have hj' : j < X.data.size := by simpa using hj
    rw [Lib.cell_of_heap hblk, Nat.zero_add]
    unfold bytesRow
    rw [Array.getElem?_append_left (by simpa using hj'), Array.getElem?_eq_getElem (by simpa using hj')]
    simp
  have hlt : B < w.heap.size := (Array.getElem?_eq_some_iff.1 hblk).1
  refine wpList_append_arg w hgd s x 33 ho 5 i0 (.int .u8 0) 1 1 Try.underlying33 hi hz0 hz1 hz2 rfl (by decide) B 0 X.size cap (Lib.byteCells X.data.toList) hs (by rw [hbl]; omega) ?_ ad 1 c [.int .u8 y.toNat] hx rfl ?_ (by intro u hu; simp at hu; subst hu; rfl) ?_ (by unfold maxLen; omega) (by omega) ?_ ?_
  · intro j u hj
    obtain ⟨hjl, rfl⟩ := List.getElem?_eq_some_iff.1 hj
    rw [hcell j (by simpa [Lib.byteCells] using hjl)]
    simp [Lib.byteCells]
  · intro j u hj
    match j, hj with
    | 0, hj => simp at hj; subst hj; simpa [Addr.add] using hy
  · intro hr j hj
    have hj0 : j = 0 := by simp at hj; omega
    subst hj0
    refine ⟨?_, ?_⟩
    · rw [Lib.cell_of_heap hblk, Array.getElem?_eq_getElem (by rw [hbs]; omega)]; rfl
    · unfold World.frozen?
      rw [show w.heap[(⟨B, 0 + X.size * 1 + 0, none⟩ : Addr).block]? = _ from hblk]
      simp; omega
  · intro hr
    have hset : w.setCells B (0 + X.size * 1) [.int .u8 y.toNat] = w.setCell ⟨B, X.size, none⟩ (.int .u8 y.toNat) := by
      simp [World.setCells]
    rw [hset]
    have hb1 : Below base w (w.setCell ⟨B, X.size, none⟩ (.int .u8 y.toNat)) := (Below.refl _ _).setCell (p := ⟨B, X.size, none⟩) hB _
    refine h _ _ _ _ rfl ⟨.inr ⟨B, 0, rfl, by simpa using hlt, ?_⟩, by simp; omega, hcap, fun h => by cases h⟩ (Lib.hid hb1)
    intro j hj
    rw [Nat.zero_add]
    have hj' : j < X.size + 1 := by simpa using hj
    by_cases e : j = X.size
    · subst e
      have hold : ∃ v, w.cell? ⟨B, X.size, none⟩ = some v := by rw [Lib.cell_of_heap hblk]; exact ⟨_, Array.getElem?_eq_getElem (by rw [hbs]; omega)⟩
      obtain ⟨v0, hv0⟩ := hold
      rw [World.cell?_setCell_same _ _ _ hv0]
      rw [List.getElem_append_right (by simp)]; simp
    · have hj2 : j < X.data.toList.length := by simp; omega
      rw [World.cell?_setCell_other _ _ _ _ (by first | (simp; done) | (simp; omega))]
      have := hcell j hj2
      rw [Nat.zero_add] at this
      rw [this, List.getElem_append_left hj2]
  · intro hr v' w' hown hgrow
    have hown2 : w'.ownsRow w.heap.size 5 1 v' (X.size + 1) (Lib.byteCells (X.data.toList ++ [y])) := by
      rw [show Lib.byteCells (X.data.toList ++ [y]) = Lib.byteCells X.data.toList ++ [.int .u8 y.toNat] by simp [Lib.byteCells]]
      exact hown
    obtain ⟨a', c', hv, hlen, hsr⟩ := own_src hown2
    have hb1 : Below base w w' := (Below.refl _ _).grown hgrow hbase (fun k hk => by cases hk)
    exact h v' w' a' c' (by rw [hv, hlen]) hsr (Lib.hid hb1)

theorem lit_one (x : Int) (wx : World) (C : Array Value) (hC : C = #[.int .i32 x]) : Nums (wx.alloc (.cells C 21)) (some ⟨wx.heap.size, 0, none⟩) [x] := by
  subst hC; exact lit_nums [x] wx

theorem i32_run (x : Int) (h1 : -2147483648 ≤ x) (h2 : x ≤ 2147483647) (W : World) : (convert 21 3 (.int .i32 x)).run Try.prog W = .ok (.int .i64 x) W := by
  have := Try.underlying21
  have := Try.underlying3
  go_simp
  exact IntWalk.i64_in x (by omega)

theorem ofInt_run8 (x : Int) (W : World) : (convert 21 9 (.int .i32 x)).run Try.prog W = .ok (.string (Utf8.encode x)) W := by
  exact run_convert_int_string (P := Try.prog) W 21 9 .i32 x (by rw [Try.underlying21]; rfl) Try.underlying9

set_option maxHeartbeats 4000000 in
theorem refenc_any (a : Option Addr) (c : Nat) (l : List Int) (w : World) (hr : Nums w a l) (hbig : l.length ≤ 35184372088832) (hb32 : ∀ x ∈ l, -2147483648 ≤ x ∧ x ≤ 2147483647) :
    Calls Try.prog 46 #[.slice a l.length c] w fun e w' => e = .returned (.string ⟨(encs l).toArray⟩) ∧ Below w.heap.size w w' := by
  have HN := Lib.hid hr
  have H32 := Lib.hid hb32
  obtain ⟨E, hE⟩ : ∃ E, E = encs l := ⟨_, rfl⟩
  rw [← hE]
  have HE := Lib.hid hE
  clear hr hE hb32
  go_enter Try.func46, Try.ntmps46
  go_wp2_with fail
  go_loopw [3, 4] (fun v i wr => ∃ j : Nat, j ≤ l.length ∧ i = .int .i64 j ∧ wr.ownsRow w.heap.size 5 1 v (encs (l.take j)).length (Lib.byteCells (encs (l.take j))) ∧ Below w.heap.size w wr) (fun _ i _ => l.length - (intOf i).toNat)
  case atStart => exact ⟨0, by omega, rfl, by have := World.ownsRow_nil w w.heap.size 5 1; exact this, Below.refl _ _⟩
  case round =>
    obtain ⟨j, hj, rfl, hown, hb⟩ := hrel
    by_cases hlt : j < l.length
    · obtain ⟨sb, so, rfl, hsb, hcell⟩ := HN.out j hlt
      have hcell2 := (hb.cell (p := ⟨sb, so + j, none⟩) hsb).trans hcell
      have hx := H32.out _ (List.getElem_mem hlt)
      have hstep := encs_snoc l j hlt
      have hel := encs_len (l.take j)
      rw [List.length_take] at hel
      have hel2 := enc_len l[j]
      generalize l[j] = x at hcell2 hx hstep hel2
      have hby : ∀ wx, Calls Try.prog 26 #[.int .i64 (fixi x)] wx fun e w' => e = .returned (.slice (some ⟨wx.heap.size, 0, none⟩) (enc x).length (enc x).length) ∧ wx.alloc (.cells (Lib.byteCells (enc x)).toArray 5) = w' := fun wx => by
        have := bytes_any (fixi x) (fixi_char x) wx
        rw [enc_fix] at this
        exact this.mono fun e w' ⟨h1, h2⟩ => ⟨h1, h2.symm⟩
      obtain ⟨hx1, hx2⟩ := hx
      have hch := uchar_any x
      have hsr := lit_src (enc x) wr (by omega)
      have hown2 := hown.alloc (.cells (Lib.byteCells (enc x)).toArray 5)
      have hb2 : Below w.heap.size w (wr.alloc (.cells (Lib.byteCells (enc x)).toArray 5)) := hb.alloc hb.size _
      have hwsz : w.heap.size ≤ (wr.alloc (.cells (Lib.byteCells (enc x)).toArray 5)).heap.size := hb2.size
      have HBY := Lib.hid hby
      have HST := Lib.hid hstep
      have HCH := Lib.hid hch
      have HSR := Lib.hid hsr
      have HO2 := Lib.hid hown2
      have HB2 := Lib.hid hb2
      have HSZ := Lib.hid hwsz
      clear hown hb hcell hstep hby hch hsr hown2 hb2 hwsz
      have hfx : fixi x = if chB x = true then x else 65533 := rfl
      have HFX := Lib.hid hfx
      clear hfx
      cases hcb : chB x
      · have HF : Hid (fixi x = 65533) := Lib.hid (by rw [HFX.out, hcb]; rfl)
        rw [hcb] at HCH
        rw [HF.out] at HBY
        clear hcb HFX
        go_wp2_with fail
        refine (HCH.out _).mono ?_; rintro e w2 ⟨rfl, rfl⟩
        go_wp2_with fail
        refine (HBY.out _).mono ?_; rintro e w2 ⟨rfl, rfl⟩
        go_wp2_with (at_builtin; refine app_bytes rfl _ _ rfl w.heap.size _ (encs (l.take j)) rfl HO2.out _ (enc x).length _ (enc x) rfl rfl HSR.out ?n2 HSZ.out ?_)
        case n2 => omega
        intro v3 w3 hown3 hb3 _
        have HO3 : Hid (w3.ownsRow w.heap.size 5 1 v3 (encs (l.take (j + 1))).length (Lib.byteCells (encs (l.take (j + 1))))) := Lib.hid (by rw [HST.out]; exact hown3)
        have HB3 := Lib.hid (HB2.out.trans hb3.out)
        clear hown3 hb3
        go_wp2
        go_roundw
        case rel => exact ⟨j + 1, by omega, by go_num, HO3.out, HB3.out⟩
        case measure => simp [intOf]; omega
      · have HF : Hid (fixi x = x) := Lib.hid (by rw [HFX.out, hcb]; rfl)
        rw [hcb] at HCH
        rw [HF.out] at HBY
        clear hcb HFX
        go_wp2_with fail
        refine (HCH.out _).mono ?_; rintro e w2 ⟨rfl, rfl⟩
        go_wp2_with fail
        refine (HBY.out _).mono ?_; rintro e w2 ⟨rfl, rfl⟩
        go_wp2_with (at_builtin; refine app_bytes rfl _ _ rfl w.heap.size _ (encs (l.take j)) rfl HO2.out _ (enc x).length _ (enc x) rfl rfl HSR.out ?n2 HSZ.out ?_)
        case n2 => omega
        intro v3 w3 hown3 hb3 _
        have HO3 : Hid (w3.ownsRow w.heap.size 5 1 v3 (encs (l.take (j + 1))).length (Lib.byteCells (encs (l.take (j + 1))))) := Lib.hid (by rw [HST.out]; exact hown3)
        have HB3 := Lib.hid (HB2.out.trans hb3.out)
        clear hown3 hb3
        go_wp2
        go_roundw
        case rel => exact ⟨j + 1, by omega, by go_num, HO3.out, HB3.out⟩
        case measure => simp [intOf]; omega
    · have hjl : l.take j = l := List.take_of_length_le (by omega)
      rw [hjl, ← HE.out] at hown
      obtain ⟨a3, c3, rfl, _, hs3⟩ := own_src hown
      have hcv := conv_src wr a3 c3 E hs3
      have HB2 := Lib.hid hb
      clear hb hown hs3 hjl
      go_wp2
      go_ret
      exact ⟨rfl, HB2.out⟩

end Go.Proofs.Ytpepoccoljmmjaa
