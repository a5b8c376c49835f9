/- Attributes that are copied and written anew. -/
import Derived.Test.YtopmahhlebkjiaaU
import Derived.Test.YtopmahhlebkjiaaL
import Derived.Laws.AppendOwnNone
import Derived.Lib.SliceRun
namespace Go.Proofs.Ytopmahhlebkjiaa
open Go.RowKit

abbrev AL := List (ByteArray × ByteArray)
def flat (l : AL) : List Value := l.flatMap fun p => [.string p.1, .string p.2]
theorem flat_cons (p : ByteArray × ByteArray) (l : AL) : flat (p :: l) = .string p.1 :: .string p.2 :: flat l := rfl
theorem flat_append (a b : AL) : flat (a ++ b) = flat a ++ flat b := by simp [flat]
theorem flat_len (l : AL) : (flat l).length = l.length * 2 := by
  induction l with
  | nil => rfl
  | cons p r ih => rw [flat_cons, List.length_cons, List.length_cons, List.length_cons, ih]; omega
theorem flat_at : ∀ (l : AL) (j : Nat) (h : j < l.length), (flat l)[j * 2]? = some (.string l[j].1) ∧ (flat l)[j * 2 + 1]? = some (.string l[j].2)
  | p :: r, 0, _ => ⟨rfl, rfl⟩
  | p :: r, j + 1, h => by
    have := flat_at r j (by simpa using h)
    rw [flat_cons, show (j + 1) * 2 = (j * 2) + 1 + 1 by omega]
    simpa using this
theorem flat_get (l : AL) (k : Nat) (u : Value) (h : (flat l)[k]? = some u) : ∃ j, ∃ hj : j < l.length, (k = j * 2 ∧ u = .string l[j].1) ∨ (k = j * 2 + 1 ∧ u = .string l[j].2) := by
  have hk : k < l.length * 2 := by rw [← flat_len]; exact (List.getElem?_eq_some_iff.1 h).1
  have hj : k / 2 < l.length := by omega
  obtain ⟨h1, h2⟩ := flat_at l (k / 2) hj
  refine ⟨k / 2, hj, ?_⟩
  rcases Nat.mod_two_eq_zero_or_one k with e | e
  · left
    have : k / 2 * 2 = k := by omega
    rw [this] at h1
    exact ⟨this.symm, by rw [h] at h1; exact Option.some.inj h1⟩
  · right
    have : k / 2 * 2 + 1 = k := by omega
    rw [this] at h2
    exact ⟨this.symm, by rw [h] at h2; exact Option.some.inj h2⟩
theorem flat_one (l : AL) : ∀ u ∈ flat l, u.oneCell' = true := by
  intro u hu
  obtain ⟨k, hk, rfl⟩ := List.getElem_of_mem hu
  obtain ⟨j, hj, ⟨_, h⟩ | ⟨_, h⟩⟩ := flat_get l k _ (List.getElem?_eq_getElem hk) <;> rw [h] <;> rfl

/-- attributes that a slice shows -/
structure SrcA (w : World) (a : Option Addr) (c : Nat) (l : AL) : Prop where
  at_ : ∀ j (h : j < l.length), ∃ b o, a = some ⟨b, o, none⟩ ∧ b < w.heap.size ∧ w.cell? ⟨b, o + j * 2, none⟩ = some (.string l[j].1) ∧ w.cell? ⟨b, o + j * 2 + 1, none⟩ = some (.string l[j].2)
  cap : l.length ≤ c
  nil : a = none → l = [] ∧ c = 0
theorem SrcA.below {w w' : World} {a : Option Addr} {c B : Nat} {l : AL} (h : SrcA w a c l) (hB : w.heap.size ≤ B) (hb : Below B w w') : SrcA w' a c l :=
  ⟨fun j hj => by
    obtain ⟨b, o, h1, h2, h3, h4⟩ := h.at_ j hj
    exact ⟨b, o, h1, Nat.lt_of_lt_of_le h2 hb.size, (hb.cell (p := ⟨b, o + j * 2, none⟩) (by simp; omega)).trans h3, (hb.cell (p := ⟨b, o + j * 2 + 1, none⟩) (by simp; omega)).trans h4⟩, h.cap, h.nil⟩

def OwnA (w : World) (base : Nat) (v : Value) (l : AL) : Prop := w.ownsRow base 31 2 v l.length (flat l)
theorem ownA_src {w : World} {base : Nat} {v : Value} {l : AL} (h : OwnA w base v l) : ∃ a c, v = .slice a l.length c ∧ SrcA w a c l ∧ (∀ x, a = some x → x = ⟨x.block, 0, none⟩ ∧ base ≤ x.block) := by
  rcases h.2 with ⟨rfl, h0⟩ | ⟨g, cap, cur, rfl, hb, hg, h1, h2, h3, h4⟩
  · have : l = [] := List.eq_nil_of_length_eq_zero h0
    subst this
    exact ⟨none, 0, rfl, ⟨fun j hj => by simp at hj, by simp, fun _ => ⟨rfl, rfl⟩⟩, fun x hx => by cases hx⟩
  · refine ⟨some ⟨g, 0, none⟩, cap, rfl, ⟨fun j hj => ?_, h1, fun h => by cases h⟩, fun x hx => by cases hx; exact ⟨rfl, hb⟩⟩
    obtain ⟨f1, f2⟩ := flat_at l j hj
    have c1 := World.ownsRow.cells h (g := g) rfl _ _ f1
    have c2 := World.ownsRow.cells h (g := g) rfl _ _ f2
    rw [Go.WideShapes.add_plain] at c1 c2
    exact ⟨g, 0, rfl, (Array.getElem?_eq_some_iff.1 hg).1, c1, c2⟩
theorem ownA_mono {w : World} {base base' : Nat} {v : Value} {l : AL} (h : OwnA w base v l) (hb : base' ≤ base) : OwnA w base' v l := by
  refine ⟨h.1, ?_⟩
  rcases h.2 with h | ⟨g, cap, cur, h1, h2, h3⟩
  · exact .inl h
  · exact .inr ⟨g, cap, cur, h1, by omega, h3⟩
theorem ownA_below {w w' : World} {base B : Nat} {v : Value} {l : AL} (h : OwnA w base v l) (hB : w.heap.size ≤ B) (hb : Below B w w') : OwnA w' base v l := by
  refine ⟨h.1, ?_⟩
  rcases h.2 with h | ⟨g, cap, cur, h1, h2, h3, h4⟩
  · exact .inl h
  · exact .inr ⟨g, cap, cur, h1, h2, (hb.block g (by have := (Array.getElem?_eq_some_iff.1 h3).1; omega)).trans h3, h4⟩

/-- a cell of a row of the call's own is written -/
theorem ownA_set {w : World} {base g n cap : Nat} {l : AL} (h : OwnA w base (.slice (some ⟨g, 0, none⟩) n cap) l) (j : Nat) (hj : j < l.length) (x : ByteArray) :
    OwnA (w.setCell ⟨g, j * 2, none⟩ (.string x)) base (.slice (some ⟨g, 0, none⟩) n cap) (l.set j (x, l[j].2)) ∧ w.frozen? ⟨g, j * 2, none⟩ = false ∧ base ≤ g := by
  rcases h.2 with ⟨h0, _⟩ | ⟨g', cap', cur, hv, hb, hg, h1, h2, h3, h4⟩
  · cases h0
  · simp only [Value.slice.injEq, Option.some.injEq, Addr.mk.injEq] at hv
    obtain ⟨⟨rfl, _, _⟩, rfl, rfl⟩ := hv
    have hfl := flat_len l
    have hsz : j * 2 < cur.size := by rw [h3]; omega
    refine ⟨⟨by rw [flat_len, List.length_set], .inr ⟨g, cap, cur.setIfInBounds (j * 2) (.string x), by rw [List.length_set], hb, ?_, by rw [List.length_set]; exact h1, h2, by rw [Array.size_setIfInBounds]; exact h3, ?_⟩⟩, ?_, hb⟩
    · have : (w.setCell ⟨g, j * 2, none⟩ (.string x)).heap[g]? = some (.cells (cur.setIfInBounds (j * 2) (.string x)) 31 (0, 0)) := by
        simp [World.setCell, Array.getElem?_modify, hg]
      exact this
    · rw [List.length_set, Array.toList_setIfInBounds, List.take_set, h4]
      apply List.ext_getElem
      · rw [List.length_set, flat_len, flat_len, List.length_set]
      · intro k h5 h6
        have hk : k < (flat l).length := by simpa using h5
        rw [List.getElem_set]
        obtain ⟨i, hi, hh⟩ := flat_get (l.set j (x, l[j].2)) k _ (List.getElem?_eq_getElem h6)
        have hi' : i < l.length := by simpa using hi
        obtain ⟨f1, f2⟩ := flat_at l i hi'
        rcases hh with ⟨rfl, e⟩ | ⟨rfl, e⟩
        · rw [e, List.getElem_set]
          rw [List.getElem?_eq_getElem hk] at f1
          by_cases ej : j = i
          · subst ej; simp
          · rw [if_neg (by omega), if_neg ej]; exact Option.some.inj f1
        · rw [e, List.getElem_set]
          rw [List.getElem?_eq_getElem hk] at f2
          by_cases ej : j = i
          · subst ej; rw [if_neg (by omega), if_pos rfl]; exact Option.some.inj f2
          · rw [if_neg (by omega), if_neg ej]; exact Option.some.inj f2
    · unfold World.frozen?
      rw [show w.heap[(⟨g, j * 2, none⟩ : Addr).block]? = _ from hg]
      simp

theorem info31 : (Try.prog.info? 31).map (fun i => (i.zero, i.size, i.bytes)) = some (some (.agg #[.string ⟨#[]⟩, .string ⟨#[]⟩]), 2, 32) := by kernel_rfl

theorem app_attrs {w : World} {ops : Array Oper} {rest : List Oper} {o : Oper} {a : Act} {Q : Exit → Act → World → Prop} (hgd : o.guard = none) (s x : Operand)
    (ho : o.op = .call { callee := .builtin .append, args := #[s, x], argTypes := #[22, 22] }) (base : Nat) (v : Value) (xs : AL) (hs : a.eval s = v) (hown : OwnA w base v xs)
    (ad : Option Addr) (c m : Nat) (l : AL) (hm : l.length = m) (hx : a.eval x = .slice ad m c) (hsrc : SrcA w ad c l) (hn : (xs.length + l.length) * 32 ≤ 140737488355328) (hbase : base ≤ w.heap.size)
    (h : ∀ v' w', OwnA w' base v' (xs ++ l) → Hid (Below base w w') → Hid (w.grownBy w' v.ownBlock) → wpList Try.prog ops Q rest (a.put o.dst v') w') : wpList Try.prog ops Q (o :: rest) a w := by
  subst hm
  obtain ⟨i0, hi, hz0, hz1, hz2⟩ := info_parts info31
  cases ad with
  | none =>
    obtain ⟨rfl, rfl⟩ := hsrc.nil rfl
    refine wpList_append_own_none hgd s x 22 ho base 31 i0 2 Try.underlying22 hi v _ _ hs hown hx ?_
    exact h v w (by rw [List.append_nil]; exact hown) (Lib.hid (Below.refl _ _)) (Lib.hid ⟨rfl, rfl, rfl, Nat.le_refl _, fun _ _ _ => rfl⟩)
  | some ad =>
    refine wpList_append_own w hgd s x 22 ho base 31 i0 (.agg #[.string ⟨#[]⟩, .string ⟨#[]⟩]) 2 32 Try.underlying22 hi hz0 hz1 hz2 rfl (by decide) v _ _ hs hown ad l.length c (flat l) hx (flat_len l) ?_ (flat_one l) (by unfold maxLen; omega) hn hbase ?_
    · intro k u hk
      obtain ⟨j, hj, hh⟩ := flat_get l k u hk
      obtain ⟨b, o, he, _, h1, h2⟩ := hsrc.at_ j hj
      cases he
      rw [Go.WideShapes.add_plain]
      rcases hh with ⟨rfl, rfl⟩ | ⟨rfl, rfl⟩
      · exact h1
      · rw [← Nat.add_assoc]; exact h2
    · intro v' w' h1 h2 _
      refine h v' w' ?_ (Lib.hid ((Below.refl _ _).grown h2 hbase (fun k hk => (World.ownsRow.lt hown k hk).1))) (Lib.hid h2)
      unfold OwnA
      rw [List.length_append, flat_append]
      exact h1
theorem made_emptyA (w : World) (base : Nat) (h : base ≤ w.heap.size) (C : Array Value) (hC : C = #[]) : OwnA (w.alloc (.cells C 31)) base (.slice (some ⟨w.heap.size, 0, none⟩) 0 0) [] := by
  subst hC
  exact World.ownsRow_made w #[] 0 h (by unfold maxLen; omega) (by simp)
theorem one_src (w : World) (C : Array Value) (p : ByteArray × ByteArray) (hC : C = #[.string p.1, .string p.2]) : SrcA (w.alloc (.cells C 31)) (some ⟨w.heap.size, 0, none⟩) 1 [p] := by
  subst hC
  refine ⟨fun j hj => ?_, by simp, fun h => by cases h⟩
  obtain rfl : j = 0 := by simp at hj; omega
  have hb : (w.alloc (.cells #[.string p.1, .string p.2] 31)).heap[w.heap.size]? = some (.cells #[.string p.1, .string p.2] 31 (0, 0)) := by show (w.heap.push _)[w.heap.size]? = _; simp
  refine ⟨w.heap.size, 0, rfl, by simp, ?_, ?_⟩ <;> (unfold World.cell?; simp only [hb]; rfl)

set_option maxHeartbeats 2000000 in
theorem clone_any (a : Option Addr) (c : Nat) (l : AL) (w : World) (h : SrcA w a c l) (hn : l.length * 32 ≤ 140737488355328) :
    Calls Try.prog 25 #[.slice a l.length c] w fun e w' => ∃ v, e = .returned v ∧ OwnA w' w.heap.size v l ∧ Below w.heap.size w w' := by
  have H := Lib.hid h
  cases a with
  | none =>
    obtain ⟨rfl, rfl⟩ := h.nil rfl
    have hq : ∀ W : World, (binOp .eql 22 (.slice none 0 0) (.slice none 0 0)).run Try.prog W = .ok (.bool true) W := fun W => Lib.run_eql_slice_nil W 22 31 none 0 0 0 0 Try.underlying22
    clear h
    go_enter Try.func25, Try.ntmps25
    go_wp2
    go_ret
    exact ⟨_, rfl, World.ownsRow_nil _ _ _ _, Below.refl _ _⟩
  | some ad =>
    have HE := Lib.hid (fun C hC => made_emptyA w w.heap.size (Nat.le_refl _) C hC)
    have hq : ∀ W : World, (binOp .eql 22 (.slice (some ad) l.length c) (.slice none 0 0)).run Try.prog W = .ok (.bool false) W := fun W => Lib.run_eql_slice_nil W 22 31 (some ad) _ _ 0 0 Try.underlying22
    clear h
    go_enter Try.func25, Try.ntmps25
    go_wp2_with (at_builtin; refine app_attrs rfl _ _ rfl w.heap.size _ [] rfl (HE.out _ rfl) _ c _ l rfl rfl ?s1 ?n1 ?b1 ?_)
    case s1 => exact H.out.below (Nat.le_refl _) ((Below.refl _ _).alloc (Nat.le_refl _) _)
    case n1 => simp only [List.length_nil]; omega
    case b1 => first | (simp; done) | (simp; omega)
    intro v2 w2 hown2 hb2 _
    have HO : Hid (OwnA w2 w.heap.size v2 l) := Lib.hid (by simpa using hown2)
    have HB := Lib.hid (((Below.refl _ _).alloc (Nat.le_refl _) _).trans hb2.out)
    clear hown2 hb2
    go_wp2
    go_ret
    exact ⟨_, rfl, HO.out, HB.out⟩

def adj (space : Int) (p : ByteArray × ByteArray) : ByteArray × ByteArray := (atn space p.1, p.2)
def part (space : Int) (l : AL) (j : Nat) : AL := (l.take j).map (adj space) ++ l.drop j
theorem part_len (space : Int) (l : AL) (j : Nat) : (part space l j).length = l.length := by unfold part; simp; omega
theorem part_at (space : Int) (l : AL) (j : Nat) (hj : j < l.length) : (part space l j)[j]'(by rw [part_len]; exact hj) = l[j] := by
  unfold part
  rw [List.getElem_append_right (by simp; omega)]
  simp only [List.length_map, List.length_take, List.getElem_drop]
  congr 1; omega
theorem part_step (space : Int) (l : AL) (j : Nat) (hj : j < l.length) : part space l (j + 1) = (part space l j).set j (atn space l[j].1, l[j].2) := by
  unfold part
  apply List.ext_getElem
  · simp; omega
  · intro i h1 h2
    simp only [List.getElem_set, List.getElem_append, List.length_map, List.length_take, List.getElem_map, List.getElem_take, List.getElem_drop]
    by_cases e : j = i
    · subst e
      rw [dif_pos (by omega), if_pos rfl]; rfl
    · by_cases hi : i < j
      · have a1 : i < min (j + 1) l.length := by omega
        have a2 : i < min j l.length := by omega
        simp [e, a1, a2]
      · have a1 : ¬ i < min (j + 1) l.length := by omega
        have a2 : ¬ i < min j l.length := by omega
        simp only [e, a1, a2, dif_neg, if_neg, not_false_iff]
        congr 1
        omega
theorem part_all (space : Int) (l : AL) : part space l l.length = l.map (adj space) := by unfold part; simp

set_option maxHeartbeats 4000000 in
theorem attrs_any (space : Int) (a : Option Addr) (c : Nat) (l : AL) (w : World) (h : SrcA w a c l) (hn : l.length * 32 ≤ 140737488355328) :
    Calls Try.prog 16 #[.int .i64 space, .slice a l.length c] w fun e w' => ∃ v, e = .returned v ∧ OwnA w' w.heap.size v (l.map (adj space)) ∧ Below w.heap.size w w' := by
  have hcl := clone_any a c l w h hn
  have HC := Lib.hid hcl
  have hbig : l.length ≤ 9223372036854775807 := by omega
  clear h hcl
  go_enter Try.func16, Try.ntmps16
  go_wp2_with fail
  refine HC.out.mono ?_; rintro e w1 ⟨v, rfl, hown, hb⟩
  obtain ⟨a2, c2, rfl, hs2, ha2⟩ := ownA_src hown
  have hown0 : OwnA w1 w.heap.size (.slice a2 l.length c2) (part space l 0) := by simpa [part] using hown
  have HO := Lib.hid hown0
  have HB := Lib.hid hb
  have HA2 := Lib.hid ha2
  have HS2 := Lib.hid hs2
  clear hown hown0 hs2 ha2 hb
  go_wp2
  go_loopw [11] (fun i wr => ∃ j : Nat, j ≤ l.length ∧ i = .int .i64 j ∧ OwnA wr w.heap.size (.slice a2 l.length c2) (part space l j) ∧ Below w.heap.size w wr) (fun i _ => l.length - (intOf i).toNat)
  case atStart => exact ⟨0, by omega, rfl, HO.out, HB.out⟩
  case round =>
    obtain ⟨j, hj, rfl, hown, hb⟩ := hrel
    by_cases hlt : j < l.length
    · obtain ⟨b0, o0, hab, _⟩ := HS2.out.at_ j hlt
      obtain ⟨hx1, hx2⟩ := HA2.out _ hab
      simp only [Addr.mk.injEq] at hx1
      obtain ⟨_, rfl, _⟩ := hx1
      subst hab
      have hjp : j < (part space l j).length := by rw [part_len]; exact hlt
      obtain ⟨hset, hfr, hbg⟩ := ownA_set hown j hjp (atn space l[j].1)
      rw [part_at space l j hlt, ← part_step space l j hlt] at hset
      obtain ⟨a3, c3, he3, hs3, _⟩ := ownA_src hown
      rw [part_len] at he3
      simp only [Value.slice.injEq] at he3
      obtain ⟨rfl, _, rfl⟩ := he3
      obtain ⟨b4, o4, he4, hlt4, hc4, _⟩ := hs3.at_ j hjp
      simp only [Option.some.injEq, Addr.mk.injEq] at he4
      obtain ⟨rfl, rfl, _⟩ := he4
      rw [part_at space l j hlt, Nat.zero_add] at hc4
      have hnm := attrName_any space l[j].1
      generalize l[j].1 = s at hset hc4 hnm
      generalize atn space s = r at hset hnm
      have hbs : Below w.heap.size w (wr.setCell ⟨b0, j * 2, none⟩ (.string r)) := hb.setCell (p := ⟨b0, j * 2, none⟩) hbg _
      have HN := Lib.hid hnm
      have HSe := Lib.hid hset
      have HBs := Lib.hid hbs
      clear hset hnm hbs hown hb hs3 hx2
      go_wp2_with fail
      refine (HN.out _).mono ?_; rintro e w2 ⟨rfl, rfl⟩
      go_wp2
      go_roundw
      case rel => exact ⟨j + 1, by omega, by go_num, HSe.out, HBs.out⟩
      case measure => simp [intOf]; omega
    · have hjl : j = l.length := by omega
      subst hjl
      rw [part_all] at hown
      have HO2 := Lib.hid hown
      have HB2 := Lib.hid hb
      clear hown hb
      go_wp2
      go_ret
      exact ⟨_, rfl, HO2.out, HB2.out⟩

set_option maxHeartbeats 4000000 in
theorem same_any (a1 a2 : Option Addr) (c1 c2 : Nat) (l : AL) (w : World) (h1 : SrcA w a1 c1 l) (h2 : SrcA w a2 c2 l) (hbig : l.length * 32 ≤ 140737488355328) :
    Calls Try.prog 17 #[.slice a1 l.length c1, .slice a2 l.length c2] w fun e w' => e = .returned (.bool true) ∧ Below w.heap.size w w' := by
  have H1 := Lib.hid h1
  have H2 := Lib.hid h2
  have hb63 : l.length ≤ 9223372036854775807 := by omega
  clear h1 h2
  go_enter Try.func17, Try.ntmps17
  go_wp2
  go_loopw [5] (fun i wr => ∃ j : Nat, j ≤ l.length ∧ i = .int .i64 j ∧ Below w.heap.size w wr) (fun i _ => l.length - (intOf i).toNat)
  case atStart => exact ⟨0, by omega, rfl, Below.refl _ _⟩
  case round =>
    obtain ⟨j, hj, rfl, hb⟩ := hrel
    by_cases hlt : j < l.length
    · obtain ⟨b1, o1, rfl, hb1, p1, q1⟩ := H1.out.at_ j hlt
      obtain ⟨b2, o2, rfl, hb2, p2, q2⟩ := H2.out.at_ j hlt
      have d1 := (hb.cell (p := ⟨b1, o1 + j * 2, none⟩) hb1).trans p1
      have d2 := (hb.cell (p := ⟨b2, o2 + j * 2, none⟩) hb2).trans p2
      have f1 := (hb.cell (p := ⟨b1, o1 + j * 2 + 1, none⟩) hb1).trans q1
      have f2 := (hb.cell (p := ⟨b2, o2 + j * 2 + 1, none⟩) hb2).trans q2
      have HB := Lib.hid hb
      clear p1 p2 q1 q2 hb
      generalize l[j].1 = x at d1 d2
      generalize l[j].2 = y at f1 f2
      go_wp2
      go_quiet (fail)
      go_wp2
      go_roundw
      case rel => exact ⟨j + 1, by omega, by go_num, HB.out.trans ⟨rfl, rfl, rfl, Nat.le_refl _, fun _ _ => rfl⟩⟩
      case measure => simp [intOf]; omega
    · have HB := Lib.hid hb
      clear hb
      go_wp2
      go_ret
      exact ⟨rfl, HB.out⟩
end Go.Proofs.Ytopmahhlebkjiaa
