/- Texts put behind a row of bytes of the call's own, wherever it came from. -/
import Derived.Test.YthkgaaibhjkngaaGreatDoorK
import Derived.ArgAppend
import Derived.Lib.LazyBuf
set_option linter.unusedVariables false
namespace Go.Proofs.YthkgaaibhjkngaaGreatDoor
open Go.RowKit

/-- a row of bytes whose cells, up to the capacity, may be written -/
def OwnC (w : World) (base : Nat) (v : Value) (l : List UInt8) : Prop :=
  ∃ g c, v = .slice (some ⟨g, 0, none⟩) l.length c ∧ base ≤ g ∧ g < w.heap.size ∧ l.length ≤ c ∧ c ≤ 9223372036854775807 ∧
    (∀ j (hj : j < l.length), w.cell? ⟨g, j, none⟩ = some (.int .u8 l[j].toNat)) ∧ (∀ j, j < c → (w.cell? ⟨g, j, none⟩).isSome = true ∧ w.frozen? ⟨g, j, none⟩ = false)
theorem ownC_below {w w' : World} {base : Nat} {v : Value} {l : List UInt8} (h : OwnC w base v l) (hb : Below w.heap.size w w') : OwnC w' base v l := by
  obtain ⟨g, c, h1, h2, h3, h4, h5, h6, h7⟩ := h
  exact ⟨g, c, h1, h2, Nat.lt_of_lt_of_le h3 hb.size, h4, h5, fun j hj => (hb.cell (p := ⟨g, j, none⟩) h3).trans (h6 j hj), fun j hj => by
    rw [hb.cell (p := ⟨g, j, none⟩) h3, hb.frozen (p := ⟨g, j, none⟩) h3]; exact h7 j hj⟩
theorem ownC_src {w : World} {base : Nat} {v : Value} {l : List UInt8} (h : OwnC w base v l) : ∃ a c, v = .slice a l.length c ∧ Src w a c l := by
  obtain ⟨g, c, h1, h2, h3, h4, h5, h6, h7⟩ := h
  exact ⟨_, c, h1, .inr ⟨g, 0, rfl, h3, fun j hj => by rw [Nat.zero_add]; exact h6 j hj⟩, h4, h5, fun h => by cases h⟩
theorem conv_own (X : ByteArray) (hX : X.size ≤ 9223372036854775807) (W : World) : ∃ W3 cap, (convert 9 45 (.string X)).run Tryz.prog W = .ok (.slice (some ⟨W.heap.size, 0, none⟩) X.size cap) W3 ∧ Below W.heap.size W W3 ∧ OwnC W3 W.heap.size (.slice (some ⟨W.heap.size, 0, none⟩) X.size cap) X.data.toList := by
  refine ⟨_, _, run_bytes_of_string (P := Tryz.prog) W 9 45 5 X Tryz.underlying9 Tryz.underlying45 Tryz.underlying5, ((Below.refl _ _).drew).alloc (Nat.le_refl _) _, ?_⟩
  have hge := grownCap_ge W X.size 0 5
  have hle := grownCap_le_maxLen W X.size 0 5 (by unfold maxLen; omega)
  unfold maxLen at hle
  generalize grownCap W X.size 0 5 = cap at hge hle
  have hbs : (bytesRow X cap).size = cap := by
    have hXs : X.size = X.data.size := rfl
    unfold bytesRow; simp only [Array.size_append, Array.size_map, Array.size_replicate]; omega
  have hrow := BRow.start W X cap
  have hb : (W.drew.alloc (.cells (bytesRow X cap) 5 ((bytesRow X cap).size, (bytesRow X cap).size + 1))).heap[W.heap.size]? = some (.cells (bytesRow X cap) 5 ((bytesRow X cap).size, (bytesRow X cap).size + 1)) := by
    show (W.heap.push _)[W.heap.size]? = _; simp
  refine ⟨W.heap.size, cap, by rw [len_data], Nat.le_refl _, by simp, by rw [len_data]; exact hge, hle, fun j hj => (hrow j hj).1, fun j hj => ⟨?_, ?_⟩⟩
  · rw [Lib.cell_of_heap hb, Array.getElem?_eq_getElem (by rw [hbs]; exact hj)]; rfl
  · unfold World.frozen?
    simp only [hb]
    simp only [decide_eq_false_iff_not, Bool.and_eq_false_iff]; omega

theorem run_room_text (w : World) (g n c : Nat) (s : ByteArray) (ty : TypeId) (hroom : n + s.size ≤ c) (hall : ∀ j, j < c → (w.cell? ⟨g, j, none⟩).isSome = true ∧ w.frozen? ⟨g, j, none⟩ = false) :
    (Builtin.append_ #[45, 9] ty #[.slice (some ⟨g, 0, none⟩) n c, .string s]).run Tryz.prog w = .ok (.slice (some ⟨g, 0, none⟩) (n + s.size) c) (w.setCells g n (Lib.strCells s)) := by
  obtain ⟨i0, hi, hz0, hz1, hz2⟩ := info_parts info5
  have hf := Lib.run_firstCells_string (P := Tryz.prog) w 1 s
  have hst := run_storeCells_cells (P := Tryz.prog) g n (Lib.strCells s) 0 w (fun j hj => by rw [Lib.strCells_length] at hj; simpa using (hall (n + j) (by omega)).1) (fun j hj => by rw [Lib.strCells_length] at hj; simpa using (hall (n + j) (by omega)).2) (Lib.strCells_oneCell s)
  simp only [Nat.add_zero] at hst
  simp [Builtin.append_, run_underlying Tryz.underlying45, run_underlying Tryz.underlying9, sizeOf, typeInfo, hi, hz1, Builtin.lenOf, hroom, hf, Addr.add_lit, hst]

theorem strs_get (s : ByteArray) (j : Nat) (hj : j < (Lib.strCells s).length) : (Lib.strCells s)[j] = .int .u8 (s.data.toList[j]'(by rw [Lib.strCells_length] at hj; simpa using hj)).toNat := by
  simp [Lib.strCells]
theorem app_text {w : World} {ops : Array Oper} {rest : List Oper} {o : Oper} {a : Act} {Q : Exit → Act → World → Prop} (hgd : o.guard = none) (sl x : Operand)
    (ho : o.op = .call { callee := .builtin .append, args := #[sl, x], argTypes := #[45, 9] }) (base : Nat) (v : Value) (l : List UInt8) (hs : a.eval sl = v) (hown : OwnC w base v l)
    (s : ByteArray) (hx : a.eval x = .string s) (hn : l.length + s.size ≤ 140737488355328) (hbase : base ≤ w.heap.size)
    (h : ∀ v' w', OwnC w' base v' (l ++ s.data.toList) → Hid (Below base w w') → Hid (∀ q : Addr, q.block < w.heap.size → (∀ g n c, v = .slice (some ⟨g, 0, none⟩) n c → q.block ≠ g) → w'.cell? q = w.cell? q) → wpList Tryz.prog ops Q rest (a.put o.dst v') w') : wpList Tryz.prog ops Q (o :: rest) a w := by
  obtain ⟨g, c, rfl, hbg, hlt, hlc, hcm, hcell, hall⟩ := hown
  have hsl : s.data.toList.length = s.size := by simp
  have hll : (l ++ s.data.toList).length = l.length + s.size := by rw [List.length_append, hsl]
  obtain ⟨v', w', hr, hown', hb', hk'⟩ : ∃ v' w', (Builtin.append_ #[45, 9] o.type #[.slice (some ⟨g, 0, none⟩) l.length c, .string s]).run Tryz.prog w = .ok v' w' ∧ OwnC w' base v' (l ++ s.data.toList) ∧ Below base w w' ∧ (∀ q : Addr, q.block < w.heap.size → (∀ g' n c', Value.slice (some ⟨g, 0, none⟩) l.length c = .slice (some ⟨g', 0, none⟩) n c' → q.block ≠ g') → w'.cell? q = w.cell? q) := by
    by_cases hroom : l.length + s.size ≤ c
    · refine ⟨_, _, run_room_text w g l.length c s o.type hroom hall, ?_, Go.below_setCells hbg _ _ _ (Below.refl _ _), fun q _ hq => World.cell?_setCells_out g (Lib.strCells s) l.length w q (fun e _ => absurd e (hq g _ _ rfl))⟩
      have hin := World.cell?_setCells_in g (Lib.strCells s) l.length w (fun j hj => by rw [Lib.strCells_length] at hj; exact (hall _ (by omega)).1)
      have hout := fun j (hj : j < l.length) => World.cell?_setCells_out g (Lib.strCells s) l.length w ⟨g, j, none⟩ (fun _ _ => .inl hj)
      refine ⟨g, c, by rw [hll], hbg, Nat.lt_of_lt_of_le hlt (Go.below_setCells hbg (Lib.strCells s) l.length w (Below.refl base w)).size, by omega, hcm, fun j hj => ?_, fun j hj => ⟨?_, ?_⟩⟩
      · by_cases e : j < l.length
        · rw [hout j e, hcell j e, List.getElem_append_left e]
        · obtain ⟨i, rfl⟩ : ∃ i, j = l.length + i := ⟨j - l.length, by omega⟩
          have hi : i < (Lib.strCells s).length := by rw [Lib.strCells_length]; omega
          rw [hin i hi, strs_get s i hi, List.getElem_append_right (by omega)]
          simp
      · by_cases e : j < l.length
        · rw [hout j e]; exact (hall j hj).1
        · by_cases e2 : j < l.length + s.size
          · obtain ⟨i, rfl⟩ : ∃ i, j = l.length + i := ⟨j - l.length, by omega⟩
            rw [hin i (by rw [Lib.strCells_length]; omega)]; rfl
          · rw [World.cell?_setCells_out g (Lib.strCells s) l.length w ⟨g, j, none⟩ (fun _ _ => .inr (by rw [Lib.strCells_length]; simp only; omega))]
            exact (hall j hj).1
      · rw [World.frozen?_setCells]; exact (hall j hj).2
    · obtain ⟨i0, hi, hz0, hz1, hz2⟩ := info_parts info5
      have hbl : (Lib.byteCells l).length = l.length := by simp [Lib.byteCells]
      have hrg := Lib.run_append_grow_string (P := Tryz.prog) w 45 9 o.type 5 i0 (.int .u8 0) Tryz.underlying45 Tryz.underlying9 hi hz0 ⟨g, 0, none⟩ l.length c (Lib.byteCells l) (by rw [hbl, hz1]; omega) (fun j u hj => by
        obtain ⟨hjl, rfl⟩ := List.getElem?_eq_some_iff.1 hj
        have hjl' : j < l.length := by simpa [Lib.byteCells] using hjl
        rw [Lib.add_plain, Nat.zero_add, hcell j hjl']
        simp [Lib.byteCells]) s (by omega) (by omega) (by rw [hz2]; exact growslice_fits (by omega) (by omega))
      refine ⟨_, _, hrg, ?_, ((Below.refl _ _).drew).alloc (by simpa using hbase) _, fun q hq _ => (((Below.refl w.heap.size w).drew).alloc (by simp) _).cell (p := q) hq⟩
      have hge := grownCap_ge w (l.length + s.size) c 5
      have hle := grownCap_le_maxLen w (l.length + s.size) c 5 (by unfold maxLen; omega)
      unfold maxLen at hle
      generalize grownCap w (l.length + s.size) c 5 = cap at hge hle
      have hz3 : (Value.int IntKind.u8 0).cells.size = 1 := rfl
      have hrs : ((Lib.byteCells l).toArray ++ (Lib.strCells s).toArray ++ Builtin.zeroCells (Value.int IntKind.u8 0).cells (cap - (l.length + s.size))).size = cap := by
        simp only [Array.size_append, List.size_toArray, size_zeroCells, hz3, hbl, Lib.strCells_length]; omega
      generalize hrow : (Lib.byteCells l).toArray ++ (Lib.strCells s).toArray ++ Builtin.zeroCells (Value.int IntKind.u8 0).cells (cap - (l.length + s.size)) = row at hrs
      have hb : (w.drew.alloc (.cells row 5)).heap[w.heap.size]? = some (.cells row 5 (0, 0)) := by
        show (w.heap.push _)[w.heap.size]? = _; simp
      refine ⟨w.heap.size, cap, by rw [hll], hbase, by simp, by omega, hle, fun j hj => ?_, fun j hj => ⟨?_, Lib.frozen_of_heap hb _⟩⟩
      · rw [Lib.cell_of_heap hb, ← hrow, Array.getElem?_append_left (by simp only [Array.size_append, List.size_toArray, hbl, Lib.strCells_length]; omega)]
        by_cases e : j < l.length
        · rw [Array.getElem?_append_left (by simp [hbl]; exact e), List.getElem_append_left e]
          simp [Lib.byteCells, e]
        · rw [Array.getElem?_append_right (by simp [hbl]; omega), List.getElem_append_right (by omega)]
          have hi2 : j - l.length < s.data.toList.length := by rw [hsl]; omega
          simp only [List.size_toArray, hbl, List.getElem?_toArray, Lib.strCells, List.getElem?_map]
          rw [List.getElem?_eq_getElem hi2]; rfl
      · rw [Lib.cell_of_heap hb, Array.getElem?_eq_getElem (by rw [hrs]; exact hj)]; rfl
  refine wpList_plain hgd fun K hK => ?_
  unfold Oper.wp execOp
  simp only [ho, resolve, invoke, builtin, Sem.run_bind, Sem.run_pure, Result.andThen_ok, List.map_toArray, List.map_cons, List.map_nil, hs, hx, hr]
  exact hK _ _ (h v' w' hown' (Lib.hid hb') (Lib.hid hk'))
end Go.Proofs.YthkgaaibhjkngaaGreatDoor
