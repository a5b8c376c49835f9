/- The document's answer for names with their large letters. -/
import Derived.Test.YtopmahhlebkjiaaX
namespace Go.Proofs.Ytopmahhlebkjiaa
open Go.RowKit

theorem eSmall : ∀ x ∈ eNames, x.size ≤ 1000 := by decide
theorem aSmall : ∀ x ∈ aNames, x.size ≤ 1000 := by decide
theorem dSmall : ∀ x ∈ dNames, x.size ≤ 1000 := by decide

set_option maxHeartbeats 2000000 in
theorem refname_any (space : Int) (s : ByteArray) (w : World) : Calls Try.prog 19 #[.int .i64 space, .string s] w fun e w' => e = .returned (.string (nam space s)) ∧ Below w.heap.size w w' := by
  by_cases h1 : space = 1
  · subst h1
    rw [show nam 1 s = look s eNames by simp [nam]]
    have hin : ∀ (C : Array Value) (wx : World) (D : Nat), D = wx.heap.size → C = (List.map Value.string eNames).toArray → Calls Try.prog 24 #[.string s, .slice (some ⟨D, 0, none⟩) 10 10] (wx.alloc (.cells C 9)) fun e w' => e = .returned (.string (look s eNames)) ∧ Below wx.heap.size wx w' := fun C wx D hD hC => by
      subst hD
      exact (large_any s _ 10 10 _ _ (words_new wx C _ hC _) rfl (by omega) eSmall).mono fun e w' ⟨h1, h2⟩ => ⟨h1, ((Below.refl _ _).alloc (Nat.le_refl _) _).trans (h2.mono (by simp))⟩
    generalize look s eNames = r at hin
    have HI := Lib.hid hin
    clear hin
    go_enter Try.func19, Try.ntmps19
    go_wp2_with fail
    refine (HI.out _ _ _ rfl rfl).mono ?_; rintro e w1 ⟨rfl, hb⟩
    have HB := Lib.hid hb
    clear hb
    go_wp2
    go_ret
    exact ⟨rfl, HB.out⟩
  · have hb : (space == 1) = false := beq_eq_false_iff_ne.2 h1
    rw [show nam space s = s by simp [nam, h1]]
    clear h1
    go_enter Try.func19, Try.ntmps19
    go_wp2
    go_ret
    exact ⟨rfl, Below.refl _ _⟩

/-- one attribute in a block -/
structure HasA (w : World) (B : Nat) (p : ByteArray × ByteArray) : Prop where
  blk : w.heap[B]? = some (.cells #[.string p.1, .string p.2] 31 (0, 0))
theorem HasA.below {w w' : World} {B : Nat} {p : ByteArray × ByteArray} (h : HasA w B p) (hb : Below w.heap.size w w') : HasA w' B p := ⟨(hb.block B (Array.getElem?_eq_some_iff.1 h.blk).1).trans h.blk⟩
theorem HasA.cells {w : World} {B : Nat} {p : ByteArray × ByteArray} (h : HasA w B p) : w.cell? ⟨B, 0, none⟩ = some (.string p.1) ∧ w.cell? ⟨B, 1, none⟩ = some (.string p.2) ∧ w.frozen? ⟨B, 0, none⟩ = false ∧ B < w.heap.size := by
  have := h.blk
  refine ⟨by unfold World.cell?; simp only [this]; rfl, by unfold World.cell?; simp only [this]; rfl, by unfold World.frozen?; simp only [this]; simp, (Array.getElem?_eq_some_iff.1 this).1⟩
theorem HasA.new (w : World) (x y : ByteArray) : HasA (w.alloc (.cells #[.string x, .string y] 31 (0, 0))) w.heap.size (x, y) := ⟨by show (w.heap.push _)[w.heap.size]? = _; simp⟩
theorem HasA.set {w : World} {B : Nat} {p : ByteArray × ByteArray} (h : HasA w B p) (x : ByteArray) : HasA (w.setCell ⟨B, 0, none⟩ (.string x)) B (x, p.2) :=
  ⟨by simp [World.setCell, Array.getElem?_modify, h.blk]⟩

theorem words_set (wx : World) (C : Array Value) (L : List ByteArray) (s : ByteArray) (D n : Nat) (hD : D = wx.heap.size) (hC : C = (L.map Value.string).toArray) (hn : L.length = n) (hb : n ≤ 1000) (hs : ∀ x ∈ L, x.size ≤ 1000) :
    Calls Try.prog 24 #[.string s, .slice (some ⟨D, 0, none⟩) n n] (wx.alloc (.cells C 9)) fun e w' => e = .returned (.string (look s L)) ∧ Below wx.heap.size wx w' := by
  subst hD
  exact (large_any s _ n n _ _ (words_new wx C _ hC _) hn hb hs).mono fun e w' ⟨h1, h2⟩ => ⟨h1, ((Below.refl _ _).alloc (Nat.le_refl _) _).trans (h2.mono (by simp))⟩

theorem map_snoc (space : Int) (l : AL) (j : Nat) (hj : j < l.length) : (l.take (j + 1)).map (adj space) = (l.take j).map (adj space) ++ [adj space l[j]] := by
  rw [List.take_succ_eq_append_getElem hj, List.map_append]; rfl
theorem ownA_set_other {w : World} {base : Nat} {v : Value} {l : AL} (h : OwnA w base v l) (A o : Nat) (hA : A < base) (x : Value) : OwnA (w.setCell ⟨A, o, none⟩ x) base v l := by
  refine ⟨h.1, ?_⟩
  rcases h.2 with h | ⟨g, cap, cur, h1, h2, h3, h4⟩
  · exact .inl h
  · exact .inr ⟨g, cap, cur, h1, h2, (Below.heap_setCell _ _ _ _ (by simp; omega)).trans h3, h4⟩

set_option maxHeartbeats 8000000 in
theorem refattrs_any (space : Int) (a : Option Addr) (c : Nat) (l : AL) (w : World) (h : SrcA w a c l) (hn : l.length * 32 ≤ 140737488355328) :
    Calls Try.prog 15 #[.int .i64 space, .slice a l.length c] w fun e w' => ∃ v, e = .returned v ∧ OwnA w' w.heap.size v (l.map (adj space)) ∧ Below w.heap.size w w' := by
  have H := Lib.hid h
  have hbig : l.length ≤ 9223372036854775807 := by omega
  clear h
  by_cases h1 : space = 1
  · subst h1
    go_enter Try.func15, Try.ntmps15
    go_wp2
    go_loopw [5, 6] (fun v i wr => ∃ (j : Nat) (vv : Value), j ≤ l.length ∧ vv = v ∧ i = .int .i64 j ∧ OwnA wr w.heap.size vv ((l.take j).map (adj 1)) ∧ Below w.heap.size w wr) (fun _ i _ => l.length - (intOf i).toNat)
    case atStart => exact ⟨0, _, by omega, rfl, rfl, World.ownsRow_nil _ _ _ _, Below.refl _ _⟩
    case round =>
      obtain ⟨j, v, hj, rfl, rfl, hown, hb⟩ := hrel
      by_cases hlt : j < l.length
      · obtain ⟨b1, o1, hab, hb1, p1, q1⟩ := H.out.at_ j hlt
        subst hab
        have d1 := (hb.cell (p := ⟨b1, o1 + j * 2, none⟩) hb1).trans p1
        have f1 := (hb.cell (p := ⟨b1, o1 + j * 2 + 1, none⟩) hb1).trans q1
        have hst := map_snoc 1 l j hlt
        have hlen : ((l.take j).map (adj 1)).length = j := by simp; omega
        rw [show adj 1 l[j] = (atn 1 l[j].1, l[j].2) from rfl] at hst
        generalize l[j].1 = x at d1 hst
        generalize l[j].2 = y at f1 hst
        have HST := Lib.hid hst
        have HO := Lib.hid hown
        have HB := Lib.hid hb
        have HLEN := Lib.hid hlen
        have HNew := Lib.hid (HasA.new wr x y)
        have HBn : Hid (Below wr.heap.size wr (wr.alloc (.cells #[.string x, .string y] 31 (0, 0)))) := Lib.hid ((Below.refl _ _).alloc (Nat.le_refl _) _)
        clear p1 q1 hst hown hb hlen
        have HC : Hid (∀ (C : Array Value) (D : Nat), D = (wr.alloc (.cells #[.string x, .string y] 31 (0, 0))).heap.size → C = (List.map Value.string aNames).toArray → Calls Try.prog 24 #[.string x, .slice (some ⟨D, 0, none⟩) 11 11] ((wr.alloc (.cells #[.string x, .string y] 31 (0, 0))).alloc (.cells C 9)) fun e w' => e = .returned (.string (atn 1 x)) ∧ Below (wr.alloc (.cells #[.string x, .string y] 31 (0, 0))).heap.size (wr.alloc (.cells #[.string x, .string y] 31 (0, 0))) w') := Lib.hid fun C D hD hC => by
          rw [show atn 1 x = look x aNames by simp [atn]]
          exact words_set _ C aNames x D 11 hD hC rfl (by omega) aSmall
        generalize atn 1 x = r at HST HC
        go_wp2_with fail
        refine (HC.out _ _ (by simp) rfl).mono ?_; rintro e w2 ⟨rfl, hb2⟩
        have hA2 := HNew.out.below hb2
        obtain ⟨c0, c1, c2, c3⟩ := hA2.cells
        have HA3 := Lib.hid (hA2.set r)
        have HB3 : Hid (Below wr.heap.size wr (w2.setCell ⟨wr.heap.size, 0, none⟩ (.string r))) := Lib.hid ((HBn.out.trans (hb2.mono HBn.out.size)).setCell (p := ⟨wr.heap.size, 0, none⟩) (Nat.le_refl _) _)
        have HO3 : Hid (OwnA (w2.setCell ⟨wr.heap.size, 0, none⟩ (.string r)) w.heap.size v ((l.take j).map (adj 1))) := Lib.hid (ownA_below HO.out (Nat.le_refl _) HB3.out)
        obtain ⟨e0, e1, _, _⟩ := HA3.out.cells
        clear hA2 hb2
        go_wp2_with (at_builtin; refine app_attrs rfl _ _ rfl w.heap.size _ ((l.take j).map (adj 1)) rfl (HO3.out.alloc _) _ 1 1 [(r, y)] rfl rfl ?src ?n2 ?b2 ?_)
        case src => have h1 := one_src (w2.setCell ⟨wr.heap.size, 0, none⟩ (.string r)) _ (r, y) rfl; simpa using h1
        case n2 => have := HLEN.out; simp only [List.length_cons, List.length_nil]; omega
        case b2 => have h1 := HB3.out.size; have h2 := HB.out.size; simp; omega
        intro v2 w4 hown4 hb4 _
        have HO4 : Hid (OwnA w4 w.heap.size v2 ((l.take (j + 1)).map (adj 1))) := Lib.hid (by rw [HST.out]; simpa using hown4)
        have HB4 : Hid (Below w.heap.size w w4) := Lib.hid (((HB.out.trans (HB3.out.mono HB.out.size)).alloc (by have h1 := HB3.out.size; have h2 := HB.out.size; omega) _).trans hb4.out)
        clear hown4 hb4
        go_wp2
        go_roundw
        case rel => exact ⟨j + 1, _, by omega, rfl, by go_num, HO4.out, HB4.out⟩
        case measure => simp [intOf]; omega
      · have hjl : l.take j = l := List.take_of_length_le (by omega)
        rw [hjl] at hown
        have HO2 := Lib.hid hown
        have HB2 := Lib.hid hb
        clear hown hb hjl
        go_wp2
        go_ret
        exact ⟨_, rfl, HO2.out, HB2.out⟩
  by_cases h2 : space = 2
  · subst h2
    clear h1
    go_enter Try.func15, Try.ntmps15
    go_wp2
    go_loopw [5, 6] (fun v i wr => ∃ (j : Nat) (vv : Value), j ≤ l.length ∧ vv = v ∧ i = .int .i64 j ∧ OwnA wr w.heap.size vv ((l.take j).map (adj 2)) ∧ Below w.heap.size w wr) (fun _ i _ => l.length - (intOf i).toNat)
    case atStart => exact ⟨0, _, by omega, rfl, rfl, World.ownsRow_nil _ _ _ _, Below.refl _ _⟩
    case round =>
      obtain ⟨j, v, hj, rfl, rfl, hown, hb⟩ := hrel
      by_cases hlt : j < l.length
      · obtain ⟨b1, o1, hab, hb1, p1, q1⟩ := H.out.at_ j hlt
        subst hab
        have d1 := (hb.cell (p := ⟨b1, o1 + j * 2, none⟩) hb1).trans p1
        have f1 := (hb.cell (p := ⟨b1, o1 + j * 2 + 1, none⟩) hb1).trans q1
        have hst := map_snoc 2 l j hlt
        have hlen : ((l.take j).map (adj 2)).length = j := by simp; omega
        rw [show adj 2 l[j] = (atn 2 l[j].1, l[j].2) from rfl] at hst
        generalize l[j].1 = x at d1 hst
        generalize l[j].2 = y at f1 hst
        have HST := Lib.hid hst
        have HO := Lib.hid hown
        have HB := Lib.hid hb
        have HLEN := Lib.hid hlen
        have HNew := Lib.hid (HasA.new wr x y)
        have HBn : Hid (Below wr.heap.size wr (wr.alloc (.cells #[.string x, .string y] 31 (0, 0)))) := Lib.hid ((Below.refl _ _).alloc (Nat.le_refl _) _)
        clear p1 q1 hst hown hb hlen
        have HC : Hid (∀ (C : Array Value) (D : Nat), D = (wr.alloc (.cells #[.string x, .string y] 31 (0, 0))).heap.size → C = (List.map Value.string dNames).toArray → Calls Try.prog 24 #[.string x, .slice (some ⟨D, 0, none⟩) 1 1] ((wr.alloc (.cells #[.string x, .string y] 31 (0, 0))).alloc (.cells C 9)) fun e w' => e = .returned (.string (atn 2 x)) ∧ Below (wr.alloc (.cells #[.string x, .string y] 31 (0, 0))).heap.size (wr.alloc (.cells #[.string x, .string y] 31 (0, 0))) w') := Lib.hid fun C D hD hC => by
          rw [show atn 2 x = look x dNames by simp [atn]]
          exact words_set _ C dNames x D 1 hD hC rfl (by omega) dSmall
        generalize atn 2 x = r at HST HC
        go_wp2_with fail
        refine (HC.out _ _ (by simp) rfl).mono ?_; rintro e w2 ⟨rfl, hb2⟩
        have hA2 := HNew.out.below hb2
        obtain ⟨c0, c1, c2, c3⟩ := hA2.cells
        have HA3 := Lib.hid (hA2.set r)
        have HB3 : Hid (Below wr.heap.size wr (w2.setCell ⟨wr.heap.size, 0, none⟩ (.string r))) := Lib.hid ((HBn.out.trans (hb2.mono HBn.out.size)).setCell (p := ⟨wr.heap.size, 0, none⟩) (Nat.le_refl _) _)
        have HO3 : Hid (OwnA (w2.setCell ⟨wr.heap.size, 0, none⟩ (.string r)) w.heap.size v ((l.take j).map (adj 2))) := Lib.hid (ownA_below HO.out (Nat.le_refl _) HB3.out)
        obtain ⟨e0, e1, _, _⟩ := HA3.out.cells
        clear hA2 hb2
        go_wp2_with (at_builtin; refine app_attrs rfl _ _ rfl w.heap.size _ ((l.take j).map (adj 2)) rfl (HO3.out.alloc _) _ 1 1 [(r, y)] rfl rfl ?src ?n2 ?b2 ?_)
        case src => have h1 := one_src (w2.setCell ⟨wr.heap.size, 0, none⟩ (.string r)) _ (r, y) rfl; simpa using h1
        case n2 => have := HLEN.out; simp only [List.length_cons, List.length_nil]; omega
        case b2 => have h1 := HB3.out.size; have h2 := HB.out.size; simp; omega
        intro v2 w4 hown4 hb4 _
        have HO4 : Hid (OwnA w4 w.heap.size v2 ((l.take (j + 1)).map (adj 2))) := Lib.hid (by rw [HST.out]; simpa using hown4)
        have HB4 : Hid (Below w.heap.size w w4) := Lib.hid (((HB.out.trans (HB3.out.mono HB.out.size)).alloc (by have h1 := HB3.out.size; have h2 := HB.out.size; omega) _).trans hb4.out)
        clear hown4 hb4
        go_wp2
        go_roundw
        case rel => exact ⟨j + 1, _, by omega, rfl, by go_num, HO4.out, HB4.out⟩
        case measure => simp [intOf]; omega
      · have hjl : l.take j = l := List.take_of_length_le (by omega)
        rw [hjl] at hown
        have HO2 := Lib.hid hown
        have HB2 := Lib.hid hb
        clear hown hb hjl
        go_wp2
        go_ret
        exact ⟨_, rfl, HO2.out, HB2.out⟩
  have HSP := Lib.hid (And.intro h1 h2)
  have b1 : (space == 1) = false := beq_eq_false_iff_ne.2 h1
  have b2 : (space == 2) = false := beq_eq_false_iff_ne.2 h2
  clear h1 h2
  go_enter Try.func15, Try.ntmps15
  go_wp2
  go_loopw [5, 6] (fun v i wr => ∃ (j : Nat) (vv : Value), j ≤ l.length ∧ vv = v ∧ i = .int .i64 j ∧ OwnA wr w.heap.size vv ((l.take j).map (adj space)) ∧ Below w.heap.size w wr) (fun _ i _ => l.length - (intOf i).toNat)
  case atStart => exact ⟨0, _, by omega, rfl, rfl, World.ownsRow_nil _ _ _ _, Below.refl _ _⟩
  case round =>
    obtain ⟨j, v, hj, rfl, rfl, hown, hb⟩ := hrel
    by_cases hlt : j < l.length
    · obtain ⟨b1, o1, hab, hb1, p1, q1⟩ := H.out.at_ j hlt
      subst hab
      have d1 := (hb.cell (p := ⟨b1, o1 + j * 2, none⟩) hb1).trans p1
      have f1 := (hb.cell (p := ⟨b1, o1 + j * 2 + 1, none⟩) hb1).trans q1
      have hst := map_snoc space l j hlt
      have hlen : ((l.take j).map (adj space)).length = j := by simp; omega
      rw [show adj space l[j] = (atn space l[j].1, l[j].2) from rfl] at hst
      generalize l[j].1 = x at d1 hst
      generalize l[j].2 = y at f1 hst
      have HST := Lib.hid hst
      have HO := Lib.hid hown
      have HB := Lib.hid hb
      have HLEN := Lib.hid hlen
      have HNew := Lib.hid (HasA.new wr x y)
      have HBn : Hid (Below wr.heap.size wr (wr.alloc (.cells #[.string x, .string y] 31 (0, 0)))) := Lib.hid ((Below.refl _ _).alloc (Nat.le_refl _) _)
      clear p1 q1 hst hown hb hlen
      have HA3 := HNew
      have HB3 := HBn
      have HO3 : Hid (OwnA (wr.alloc (.cells #[.string x, .string y] 31 (0, 0))) w.heap.size v ((l.take j).map (adj space))) := Lib.hid (ownA_below HO.out (Nat.le_refl _) HB3.out)
      have HST : Hid ((l.take (j + 1)).map (adj space) = (l.take j).map (adj space) ++ [(x, y)]) := Lib.hid (by rw [HST.out]; simp [atn, HSP.out.1, HSP.out.2])
      go_wp2_with (at_builtin; refine app_attrs rfl _ _ rfl w.heap.size _ ((l.take j).map (adj space)) rfl (HO3.out.alloc _) _ 1 1 [(x, y)] rfl rfl ?src ?n2 ?b2 ?_)
      case src => have h1 := one_src (wr.alloc (.cells #[.string x, .string y] 31 (0, 0))) _ (x, y) rfl; simpa using h1
      case n2 => have := HLEN.out; simp only [List.length_cons, List.length_nil]; omega
      case b2 => have h1 := HB3.out.size; have h2 := HB.out.size; simp; omega
      intro v2 w4 hown4 hb4 _
      have HO4 : Hid (OwnA w4 w.heap.size v2 ((l.take (j + 1)).map (adj space))) := Lib.hid (by rw [HST.out]; simpa using hown4)
      have HB4 : Hid (Below w.heap.size w w4) := Lib.hid (((HB.out.trans (HB3.out.mono HB.out.size)).alloc (by have h1 := HB3.out.size; have h2 := HB.out.size; omega) _).trans hb4.out)
      clear hown4 hb4
      go_wp2
      go_roundw
      case rel => exact ⟨j + 1, _, by omega, rfl, by go_num, HO4.out, HB4.out⟩
      case measure => simp [intOf]; omega
    · have hjl : l.take j = l := List.take_of_length_le (by omega)
      rw [hjl] at hown
      have HO2 := Lib.hid hown
      have HB2 := Lib.hid hb
      clear hown hb hjl
      go_wp2
      go_ret
      exact ⟨_, rfl, HO2.out, HB2.out⟩
end Go.Proofs.Ytopmahhlebkjiaa
