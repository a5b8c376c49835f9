/- Bytes that are handed in; bytes put behind others; texts. -/
import Derived.Test.YtpepoccoljmmjaaC
import Derived.Test.YtpepoccoljmmjaaW
import Derived.Lib.OthersKept
import Derived.Laws.AppendOwnNone
set_option linter.unusedVariables false
namespace Go.Proofs.Ytpepoccoljmmjaa
open Go.RowKit

theorem sl_from (b o len cap lo : Nat) (hl : lo ≤ len) (hc : len ≤ cap) :
    ∃ o', (∀ W : World, (Instr.slice 33 (.slice (some ⟨b, o, none⟩) len cap) (some (.int .i64 lo)) none none).run Try.prog W = .ok (.slice (some ⟨b, o', none⟩) (len - lo) (cap - lo)) W) ∧ (lo < len → o' = o + lo) := by
  have h1 : lo ≤ cap := by omega
  by_cases h : cap = lo
  · refine ⟨o, fun W => ?_, fun h => by omega⟩
    subst h
    go_simp
  · refine ⟨o + lo, fun W => ?_, fun _ => rfl⟩
    go_simp

theorem sl_to (b o len cap hi : Nat) (h : hi ≤ len) (hc : len ≤ cap) (W : World) : (Instr.slice 33 (.slice (some ⟨b, o, none⟩) len cap) none (some (.int .i64 hi)) none).run Try.prog W = .ok (.slice (some ⟨b, o, none⟩) hi cap) W := by
  have h1 : hi ≤ cap := by omega
  go_simp

theorem Row.from {w : World} {b o o' lo : Nat} {l : List UInt8} (h : Row w b o l) (ho : lo < l.length → o' = o + lo) : Row w b o' (l.drop lo) := by
  rcases Nat.lt_or_ge lo l.length with h1 | h1
  · rw [ho h1]; exact h.drop lo
  · rw [List.drop_eq_nil_iff.2 h1]; intro j hj; simp at hj

/-- bytes that a slice shows -/
def Bytes (w : World) (a : Option Addr) (l : List UInt8) : Prop := l = [] ∨ ∃ b o, a = some ⟨b, o, none⟩ ∧ b < w.heap.size ∧ Row w b o l

theorem Bytes.below {w w' : World} {a : Option Addr} {l : List UInt8} (h : Bytes w a l) (hb : Below w.heap.size w w') : Bytes w' a l := by
  rcases h with h | ⟨b, o, h1, h2, h3⟩
  · exact .inl h
  · exact .inr ⟨b, o, h1, Nat.lt_of_lt_of_le h2 hb.size, h3.below hb h2⟩

theorem dec_le (l : List UInt8) : (dec l).length ≤ 3 * l.length := by
  induction l using len_ind with
  | _ l ih =>
    by_cases h : l = []
    · subst h; simp [dec_nil]
    · have hb := pc_bd l h
      rw [dec_cons l h, List.length_append]
      have := ih (l.drop (pc l).1) (by simp only [List.length_drop]; omega)
      simp only [List.length_drop] at this
      split
      · simp only [List.length_take]; omega
      · simp only [fffd, List.length_cons, List.length_nil]; omega

theorem own_mono {w : World} {base base' : Nat} {e : TypeId} {size : Nat} {v : Value} {n : Nat} {xs : List Value} (h : w.ownsRow base e size v n xs) (hb : base' ≤ base) : w.ownsRow base' e size v n xs := by
  refine ⟨h.1, ?_⟩
  rcases h.2 with h | ⟨g, cap, cur, h1, h2, h3⟩
  · exact .inl h
  · exact .inr ⟨g, cap, cur, h1, by omega, h3⟩

theorem own_iter {w : World} {base k : Nat} {e : TypeId} {size : Nat} {v : Value} {n : Nat} {xs : List Value} (h : w.ownsRow base e size v n xs) (hk : k < base) (s : ByteArray) (pos : Nat) : (w.iterAt k s pos).ownsRow base e size v n xs := by
  refine ⟨h.1, ?_⟩
  rcases h.2 with h | ⟨g, cap, cur, h1, h2, h3, h4⟩
  · exact .inl h
  · exact .inr ⟨g, cap, cur, h1, h2, (Lib.iterAt_other w k g s pos (by omega)).trans h3, h4⟩

theorem own_slice {w : World} {base : Nat} {e : TypeId} {size : Nat} {v : Value} {n : Nat} {xs : List Value} (h : w.ownsRow base e size v n xs) : ∃ a c, v = .slice a n c := by
  rcases h.2 with ⟨rfl, rfl⟩ | ⟨g, cap, cur, rfl, _⟩
  · exact ⟨_, _, rfl⟩
  · exact ⟨_, _, rfl⟩

theorem lit_bytes (l : List UInt8) (wx : World) : Bytes (wx.alloc (.cells (Lib.byteCells l).toArray 5)) (some ⟨wx.heap.size, 0, none⟩) l := by
  refine .inr ⟨_, _, rfl, by simp, ?_⟩
  intro j hj
  have hb : (wx.alloc (.cells (Lib.byteCells l).toArray 5)).heap[wx.heap.size]? = some (.cells (Lib.byteCells l).toArray 5 (0, 0)) := by
    show (wx.heap.push _)[wx.heap.size]? = _; simp
  rw [Lib.cell_of_heap hb]
  simp [Lib.byteCells, hj]

theorem own_one {w : World} {base n : Nat} {e : TypeId} {v x : Value} {r : List Value} (h : w.ownsRow base e 1 v n (x :: r)) : ∃ g cap, v = .slice (some ⟨g, 0, none⟩) n cap ∧ w.cell? ⟨g, 0, none⟩ = some x ∧ g < w.heap.size ∧ n ≤ cap := by
  have hlen := h.1
  rcases h.2 with ⟨_, h0⟩ | ⟨g, cap, cur, rfl, hb, hg, hn, _⟩
  · simp only [List.length_cons] at hlen; omega
  · refine ⟨g, cap, rfl, ?_, (Array.getElem?_eq_some_iff.1 hg).1, hn⟩
    have := h.cells (g := g) rfl 0 x (by simp)
    simpa [Addr.add] using this

/-- bytes that a slice shows, however it lies -/
structure Src (w : World) (a : Option Addr) (c : Nat) (l : List UInt8) : Prop where
  bytes : Bytes w a l
  cap : l.length ≤ c
  big : c ≤ 9223372036854775807
  nil : a = none → l = [] ∧ c = 0

theorem Src.below {w w' : World} {a : Option Addr} {c : Nat} {l : List UInt8} (h : Src w a c l) (hb : Below w.heap.size w w') : Src w' a c l := ⟨h.bytes.below hb, h.cap, h.big, h.nil⟩

theorem Src.below' {w w' : World} {a : Option Addr} {c B : Nat} {l : List UInt8} (h : Src w a c l) (hB : w.heap.size ≤ B) (hb : Below B w w') : Src w' a c l := h.below (hb.mono hB)

theorem own_src {w : World} {base n : Nat} {v : Value} {l : List UInt8} (h : w.ownsRow base 5 1 v n (Lib.byteCells l)) : ∃ a c, v = .slice a l.length c ∧ n = l.length ∧ Src w a c l := by
  have hn : n = l.length := by have := h.1; rw [Lib.byteCells_length] at this; omega
  subst hn
  rcases h.2 with ⟨rfl, h0⟩ | ⟨g, cap, cur, rfl, hb, hg, h1, h2, h3, h4⟩
  · have : l = [] := List.eq_nil_of_length_eq_zero h0
    subst this
    exact ⟨none, 0, rfl, rfl, .inl rfl, by simp, by omega, fun _ => ⟨rfl, rfl⟩⟩
  · refine ⟨_, cap, rfl, rfl, .inr ⟨g, 0, rfl, (Array.getElem?_eq_some_iff.1 hg).1, ?_⟩, h1, by unfold maxLen at h2; omega, fun h => by cases h⟩
    intro j hj
    have := h.cells (g := g) rfl j (.int .u8 l[j].toNat) (by simp [Lib.byteCells, hj])
    rw [Lib.add_plain] at this
    exact this

/-- a row of bytes of the call's own -/
def OwnB (w : World) (base : Nat) (v : Value) (l : List UInt8) : Prop := w.ownsRow base 5 1 v l.length (Lib.byteCells l)

theorem app_bytes {w : World} {ops : Array Oper} {rest : List Oper} {o : Oper} {a : Act} {Q : Exit → Act → World → Prop} (hgd : o.guard = none) (s x : Operand)
    (ho : o.op = .call { callee := .builtin .append, args := #[s, x], argTypes := #[33, 33] }) (base : Nat) (v : Value) (xs : List UInt8) (hs : a.eval s = v) (hown : w.ownsRow base 5 1 v xs.length (Lib.byteCells xs))
    (ad : Option Addr) (c m : Nat) (l : List UInt8) (hm : l.length = m) (hx : a.eval x = .slice ad m c) (hsrc : Src w ad c l) (hn : xs.length + l.length ≤ 140737488355328) (hbase : base ≤ w.heap.size)
    (h : ∀ v' w', OwnB w' base v' (xs ++ l) → Hid (Below base w w') → Hid (w.grownBy w' v.ownBlock) → wpList Try.prog ops Q rest (a.put o.dst v') w') : wpList Try.prog ops Q (o :: rest) a w := by
  subst hm
  obtain ⟨i0, hi, hz0, hz1, hz2⟩ := info_parts info5
  cases ad with
  | none =>
    obtain ⟨rfl, rfl⟩ := hsrc.nil rfl
    refine wpList_append_own_none hgd s x 33 ho base 5 i0 1 Try.underlying33 hi v _ _ hs hown hx ?_
    have h2 := h v w (by unfold OwnB; simpa using hown) (Lib.hid (Below.refl _ _)) (Lib.hid ⟨rfl, rfl, rfl, Nat.le_refl _, fun _ _ _ => rfl⟩)
    exact h2
  | some ad =>
    refine wpList_append_own w hgd s x 33 ho base 5 i0 (.int .u8 0) 1 1 Try.underlying33 hi hz0 hz1 hz2 rfl (by decide) v _ _ hs hown ad l.length c (Lib.byteCells l) hx (by simp [Lib.byteCells]) ?_ ?_ (by unfold maxLen; omega) (by omega) hbase ?_
    · intro j u hj
      obtain ⟨hjl, rfl⟩ := List.getElem?_eq_some_iff.1 hj
      have hjl' : j < l.length := by simpa [Lib.byteCells] using hjl
      rcases hsrc.bytes with rfl | ⟨b, o, he, _, hr⟩
      · simp at hjl'
      · cases he
        rw [Lib.add_plain, hr j hjl']
        simp [Lib.byteCells]
    · intro u hu; simp only [Lib.byteCells, List.mem_map] at hu; obtain ⟨x, _, rfl⟩ := hu; rfl
    · intro v' w' h1 h2 _
      refine h v' w' ?_ (Lib.hid ((Below.refl _ _).grown h2 hbase (fun k hk => (hown.lt k hk).1))) (Lib.hid h2)
      unfold OwnB
      rw [List.length_append]
      rw [show Lib.byteCells (xs ++ l) = Lib.byteCells xs ++ Lib.byteCells l by simp [Lib.byteCells]]
      exact h1

theorem made_empty (w : World) (base : Nat) (h : base ≤ w.heap.size) (C : Array Value) (hC : C = #[]) : (w.alloc (.cells C 5)).ownsRow base 5 1 (.slice (some ⟨w.heap.size, 0, none⟩) 0 0) ([] : List UInt8).length (Lib.byteCells []) := by
  subst hC
  exact World.ownsRow_made w #[] 0 h (by unfold maxLen; omega) (by simp)

theorem dec_len (l : List UInt8) : (dec l).length ≤ 3 * l.length := by
  induction l using len_ind with
  | _ l ih =>
    by_cases h : l = []
    · subst h; simp [dec_nil]
    · have hb := pc_bd l h
      rw [dec_cons l h, List.length_append]
      have := ih (l.drop (pc l).1) (by simp only [List.length_drop]; omega)
      simp only [List.length_drop] at this
      split
      · simp only [List.length_take]; omega
      · simp only [fffd, List.length_cons, List.length_nil]; omega

theorem scan_le (l : List UInt8) (want : Nat) : ∀ f n lo hi, n + f = max want 1 → (scan l want f n lo hi).1 ≤ max want 1
  | 0, n, lo, hi, h => by simp only [scan]; omega
  | f + 1, n, lo, hi, h => by
    simp only [scan]
    split
    · show n ≤ _; omega
    · exact scan_le l want f (n + 1) 128 191 (by omega)

theorem pc_le4 (l : List UInt8) : (pc l).1 ≤ 4 := by
  unfold pc
  have h4 := beg_le (l.headD 0).toNat
  have := scan_le l (beg (l.headD 0).toNat).1 ((beg (l.headD 0).toNat).1 - 1) 1 (beg (l.headD 0).toNat).2.1 (beg (l.headD 0).toNat).2.2 (by omega)
  omega

theorem dec_good (p r : List UInt8) (h : good p = true) : dec (p ++ r) = p ++ dec r := by
  unfold dec; rw [pcs_good_cons p r h, List.flatMap_cons]; rfl

theorem dec_take (l : List UInt8) : dec (l.take (flt l)) = l.take (flt l) := by
  induction l using len_ind with
  | _ l ih =>
    by_cases h : l = []
    · subst h; simp [dec_nil]
    · have hb := pc_bd l h
      rw [flt_cons l h]
      split
      · rename_i ho
        rw [List.take_add, dec_good _ _ (good_pc l h ho), ih _ (by simp only [List.length_drop]; omega)]
      · simp [dec_nil]

theorem dec_eq (l : List UInt8) : dec l = l ↔ flt l = l.length := by
  constructor
  · intro h
    have := flt_dec l
    rw [h] at this
    exact this
  · intro h
    have := dec_flt l
    rw [if_pos h, h] at this
    simpa using this

theorem slice_hi (a : Option Addr) (len cap hi : Nat) (h : hi ≤ len) (hc : len ≤ cap) (W : World) : (Instr.slice 33 (.slice a len cap) none (some (.int .i64 hi)) none).run Try.prog W = .ok (.slice a hi cap) W := by
  have h1 : hi ≤ cap := by omega
  go_simp

theorem Src.take {w : World} {a : Option Addr} {c : Nat} {l : List UInt8} (h : Src w a c l) (k : Nat) : Src w a c (l.take k) := by
  refine ⟨?_, by have := h.cap; simp only [List.length_take]; omega, h.big, fun e => ⟨by rw [(h.nil e).1]; simp, (h.nil e).2⟩⟩
  rcases h.bytes with e | ⟨b, o, e1, e2, e3⟩
  · left; rw [e]; simp
  · exact .inr ⟨b, o, e1, e2, e3.take k⟩

theorem conv_src (w : World) (a : Option Addr) (c : Nat) (l : List UInt8) (h : Src w a c l) : (convert 33 9 (.slice a l.length c)).run Try.prog w = .ok (.string ⟨l.toArray⟩) w := by
  cases a with
  | none =>
    obtain ⟨rfl, rfl⟩ := h.nil rfl
    rw [run_convert_bytes_string w 33 9 5 none _ 0 Try.underlying33 Try.underlying5 Try.underlying9]
    rfl
  | some x =>
    refine run_convert_bytes_back (P := Try.prog) w 33 9 5 x c l Try.underlying33 Try.underlying5 Try.underlying9 (fun j hj => ?_)
    rcases h.bytes with rfl | ⟨b, o, he, _, hr⟩
    · simp at hj
    · cases he
      rw [Lib.add_plain, hr j hj]

/-- a text's bytes -/
theorem conv_str (X : ByteArray) (hX : X.size ≤ 9223372036854775807) : ∃ (WF : World → World) (cf : World → Nat), (∀ w, (convert 9 33 (.string X)).run Try.prog w = .ok (.slice (some ⟨w.heap.size, 0, none⟩) X.size (cf w)) (WF w)) ∧ (∀ w, Below w.heap.size w (WF w)) ∧ ∀ w, cf w ≤ 9223372036854775807 → Src (WF w) (some ⟨w.heap.size, 0, none⟩) (cf w) X.data.toList := by
  refine ⟨fun w => w.drew.alloc (.cells (bytesRow X (grownCap w X.size 0 5)) 5 ((bytesRow X (grownCap w X.size 0 5)).size, (bytesRow X (grownCap w X.size 0 5)).size + 1)), fun w => grownCap w X.size 0 5, fun w => ?_, fun w => ((Below.refl _ _).drew).alloc (Nat.le_refl _) _, fun w hc => ?_⟩
  · exact run_bytes_of_string (P := Try.prog) w 9 33 5 X Try.underlying9 Try.underlying33 Try.underlying5
  · refine ⟨.inr ⟨_, 0, rfl, by simp, ?_⟩, by have := grownCap_ge w X.size 0 5; simpa using this, hc, fun h => by cases h⟩
    intro j hj
    have hj' : j < X.data.size := by simpa using hj
    rw [Nat.zero_add]
    have hb : (w.drew.alloc (.cells (bytesRow X (grownCap w X.size 0 5)) 5 ((bytesRow X (grownCap w X.size 0 5)).size, (bytesRow X (grownCap w X.size 0 5)).size + 1))).heap[w.heap.size]? = some (.cells (bytesRow X (grownCap w X.size 0 5)) 5 ((bytesRow X (grownCap w X.size 0 5)).size, (bytesRow X (grownCap w X.size 0 5)).size + 1)) := by
      show (w.heap.push _)[w.heap.size]? = _
      simp
    unfold World.cell?
    simp only [hb]
    unfold bytesRow
    rw [Array.getElem?_append_left (by simpa using hj'), Array.getElem?_eq_getElem (by simpa using hj')]
    simp

theorem cap_ok (X : ByteArray) (w : World) (hX : X.size ≤ maxLen) : grownCap w X.size 0 5 ≤ 9223372036854775807 := by
  have := grownCap_le_maxLen w X.size 0 5 hX
  unfold maxLen at this; omega

theorem conv_str' (X : ByteArray) (hX : X.size ≤ 9223372036854775807) : ∃ (WF : World → World) (cf : World → Nat), (∀ w, (convert 9 33 (.string X)).run Try.prog w = .ok (.slice (some ⟨w.heap.size, 0, none⟩) X.size (cf w)) (WF w)) ∧ (∀ w, Below w.heap.size w (WF w)) ∧ ∀ w, Src (WF w) (some ⟨w.heap.size, 0, none⟩) (cf w) X.data.toList := by
  obtain ⟨WF, cf, h1, h2, h3⟩ : ∃ (WF : World → World) (cf : World → Nat), (∀ w, (convert 9 33 (.string X)).run Try.prog w = .ok (.slice (some ⟨w.heap.size, 0, none⟩) X.size (cf w)) (WF w)) ∧ (∀ w, Below w.heap.size w (WF w)) ∧ ∀ w, cf w ≤ 9223372036854775807 → Src (WF w) (some ⟨w.heap.size, 0, none⟩) (cf w) X.data.toList := conv_str X hX
  refine ⟨WF, cf, h1, h2, fun w => h3 w ?_⟩
  have e1 := h1 w
  have e2 := run_bytes_of_string (P := Try.prog) w 9 33 5 X Try.underlying9 Try.underlying33 Try.underlying5
  have e3 := e1.symm.trans e2
  simp only [Result.ok.injEq, Value.slice.injEq] at e3
  rw [e3.1.2.2]
  exact cap_ok X w (by unfold maxLen; omega)

end Go.Proofs.Ytpepoccoljmmjaa
