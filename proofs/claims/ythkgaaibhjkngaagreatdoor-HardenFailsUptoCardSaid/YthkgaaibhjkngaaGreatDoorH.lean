/- The members of a list: plain lists, and the program's. -/
import Derived.Test.YthkgaaibhjkngaaGreatDoorG
set_option linter.unusedVariables false
namespace Go.Proofs.YthkgaaibhjkngaaGreatDoor
open Go.RowKit

theorem lstF_fuel : ∀ (f g : Nat) (l : List UInt8), l.length ≤ f → l.length ≤ g → lstF f l = lstF g l
  | 0, 0, _, _, _ => rfl
  | 0, g + 1, l, h, _ => by have : l = [] := List.eq_nil_of_length_eq_zero (by omega); subst this; rfl
  | f + 1, 0, l, _, h => by have : l = [] := List.eq_nil_of_length_eq_zero (by omega); subst this; rfl
  | f + 1, g + 1, l, hf, hg => by
    simp only [lstF]
    split
    · rfl
    · rename_i hl
      have hpos : 0 < l.length := by cases l; contradiction; simp
      cases hc : cut l with
      | none => rfl
      | some n =>
        simp only
        rw [lstF_fuel f g (l.drop (n + 1)) (by rw [List.length_drop]; omega) (by rw [List.length_drop]; omega)]
theorem lst_nil : lst [] = some [] := rfl
theorem lst_step (l : List UInt8) (h : l ≠ []) : (cut l = none → lst l = none) ∧ ∀ n, cut l = some n → lst l = (lst (l.drop (n + 1))).map fun m => if trim (l.take n) = [] then m else trim (l.take n) :: m := by
  have hpos : 0 < l.length := by cases l; contradiction; simp
  obtain ⟨f, hf⟩ : ∃ f, l.length = f + 1 := ⟨l.length - 1, by omega⟩
  unfold lst
  rw [hf]
  simp only [lstF]
  rw [if_neg h]
  refine ⟨fun hc => by rw [hc], fun n hc => ?_⟩
  rw [hc]
  simp only
  rw [lstF_fuel f _ (l.drop (n + 1)) (by rw [List.length_drop]; omega) (Nat.le_refl _)]

def mk (l : List UInt8) : ByteArray := ⟨l.toArray⟩
theorem mk_list (l : List UInt8) : (mk l).data.toList = l := by simp [mk]
def strs (l : List ByteArray) : List Value := l.map Value.string
def OwnS (w : World) (base : Nat) (v : Value) (l : List ByteArray) : Prop := w.ownsRow base 9 1 v l.length (strs l)
structure SrcS (w : World) (a : Option Addr) (c : Nat) (l : List ByteArray) : Prop where
  at_ : ∀ j (h : j < l.length), ∃ b o, a = some ⟨b, o, none⟩ ∧ b < w.heap.size ∧ w.cell? ⟨b, o + j, none⟩ = some (.string l[j])
  cap : l.length ≤ c
  nil : a = none → l = [] ∧ c = 0
theorem SrcS.below {w w' : World} {a : Option Addr} {c : Nat} {l : List ByteArray} (h : SrcS w a c l) (hb : Below w.heap.size w w') : SrcS w' a c l :=
  ⟨fun j hj => by
    obtain ⟨b, o, h1, h2, h3⟩ := h.at_ j hj
    exact ⟨b, o, h1, Nat.lt_of_lt_of_le h2 hb.size, (hb.cell (p := ⟨b, o + j, none⟩) h2).trans h3⟩, h.cap, h.nil⟩
theorem ownS_src {w : World} {base : Nat} {v : Value} {l : List ByteArray} (h : OwnS w base v l) : ∃ a c, v = .slice a l.length c ∧ SrcS w a c l := by
  rcases h.2 with ⟨rfl, h0⟩ | ⟨g, cap, cur, rfl, hb, hg, h1, h2, h3, h4⟩
  · have : l = [] := List.eq_nil_of_length_eq_zero h0
    subst this
    exact ⟨none, 0, rfl, ⟨fun j hj => by simp at hj, by simp, fun _ => ⟨rfl, rfl⟩⟩⟩
  · refine ⟨some ⟨g, 0, none⟩, cap, rfl, ⟨fun j hj => ?_, h1, fun h => by cases h⟩⟩
    have c1 := World.ownsRow.cells h (g := g) rfl j (.string l[j]) (by simp [strs, hj])
    rw [Lib.add_plain] at c1
    exact ⟨g, 0, rfl, (Array.getElem?_eq_some_iff.1 hg).1, c1⟩
theorem ownS_below {w w' : World} {base : Nat} {v : Value} {l : List ByteArray} (h : OwnS w base v l) (hb : Below w.heap.size w w') : OwnS w' base v l := by
  refine ⟨h.1, ?_⟩
  rcases h.2 with h | ⟨g, cap, cur, h1, h2, h3, h4⟩
  · exact .inl h
  · exact .inr ⟨g, cap, cur, h1, h2, (hb.block g (Array.getElem?_eq_some_iff.1 h3).1).trans h3, h4⟩
theorem info9 : (Tryz.prog.info? 9).map (fun i => (i.zero, i.size, i.bytes)) = some (some (.string ⟨#[]⟩), 1, 16) := by kernel_rfl
theorem app_str {w : World} {ops : Array Oper} {rest : List Oper} {o : Oper} {a : Act} {Q : Exit → Act → World → Prop} (hgd : o.guard = none) (s x : Operand)
    (ho : o.op = .call { callee := .builtin .append, args := #[s, x], argTypes := #[75, 75] }) (base : Nat) (v : Value) (xs : List ByteArray) (hs : a.eval s = v) (hown : OwnS w base v xs)
    (ad : Addr) (m : ByteArray) (hx : a.eval x = .slice (some ad) 1 1) (hc : w.cell? ad = some (.string m)) (hn : (xs.length + 1) * 16 ≤ 140737488355328) (hbase : base ≤ w.heap.size)
    (h : ∀ v' w', OwnS w' base v' (xs ++ [m]) → Hid (Below base w w') → wpList Tryz.prog ops Q rest (a.put o.dst v') w') : wpList Tryz.prog ops Q (o :: rest) a w := by
  obtain ⟨i0, hi, hz0, hz1, hz2⟩ := info_parts info9
  refine wpList_append_own w hgd s x 75 ho base 9 i0 (.string ⟨#[]⟩) 1 16 Tryz.underlying75 hi hz0 hz1 hz2 rfl (by decide) v _ _ hs hown ad 1 1 [.string m] hx rfl ?_ ?_ (by unfold maxLen; omega) hn hbase ?_
  · intro k u hk
    cases k with
    | zero =>
      simp only [List.getElem?_cons_zero, Option.some.injEq] at hk
      subst hk
      have : ad.add 0 = ad := by unfold Addr.add; split <;> simp_all
      rw [this]; exact hc
    | succ k => simp at hk
  · intro u hu; simp only [List.mem_singleton] at hu; subst hu; rfl
  · intro v' w' h1 h2 _
    refine h v' w' ?_ (Lib.hid ((Below.refl _ _).grown h2 hbase (fun k hk => (World.ownsRow.lt hown k hk).1)))
    unfold OwnS
    rw [List.length_append]
    rw [show strs (xs ++ [m]) = strs xs ++ [.string m] by simp [strs]]
    exact h1
theorem lit_str (m : ByteArray) (wx : World) : (wx.alloc (.cells #[.string m] 9)).cell? ⟨wx.heap.size, 0, none⟩ = some (.string m) := by
  have hb : (wx.alloc (.cells #[.string m] 9)).heap[wx.heap.size]? = some (.cells #[.string m] 9 (0, 0)) := by
    show (wx.heap.push _)[wx.heap.size]? = _; simp
  rw [Lib.cell_of_heap hb]; rfl

def ListSays (R : Option (List (List UInt8))) (w : World) (e : Ending) (w' : World) : Prop :=
  Below w.heap.size w w' ∧ match R with
    | none => e = .returned (.tuple #[.slice none 0 0, .int .i64 5])
    | some ms => ∃ v, e = .returned (.tuple #[v, .int .i64 0]) ∧ OwnS w' w.heap.size v (ms.map mk)
theorem listSays_none {R : Option (List (List UInt8))} {w w' : World} (h : R = none) (hb : Below w.heap.size w w') : ListSays R w (.returned (.tuple #[.slice none 0 0, .int .i64 5])) w' := by
  subst h; exact ⟨hb, rfl⟩
theorem listSays_some {R : Option (List (List UInt8))} {w w' : World} {ms : List (List UInt8)} {v : Value} (h : R = some ms) (ho : OwnS w' w.heap.size v (ms.map mk)) (hb : Below w.heap.size w w') : ListSays R w (.returned (.tuple #[v, .int .i64 0])) w' := by
  subst h; exact ⟨hb, v, rfl, ho⟩
def strLen : Value → Nat
  | .string s => s.size
  | _ => 0

set_option maxHeartbeats 8000000 in
set_option maxRecDepth 100000 in
theorem list_any (X : ByteArray) (w : World) (hs : X.size ≤ 1073741824) :
    Calls Tryz.prog 100 #[.string X] w (ListSays (lst X.data.toList) w) := by
  obtain ⟨R, hR⟩ : ∃ R, R = lst X.data.toList := ⟨_, rfl⟩
  rw [← hR]
  have HR := Lib.hid hR
  clear hR
  go_enter Tryz.func100, Tryz.ntmps100
  go_wp2_with fail
  go_loopw [0, 4] (fun s v wr => ∃ (S : ByteArray) (acc : List (List UInt8)), s = .string S ∧ S.size ≤ X.size ∧ acc.length + S.size ≤ X.size ∧ OwnS wr w.heap.size v (acc.map mk) ∧ R = (lst S.data.toList).map (acc ++ ·) ∧ Below w.heap.size w wr) (fun s _ _ => strLen s)
  case atStart => exact ⟨X, [], rfl, Nat.le_refl _, by simp, World.ownsRow_nil _ _ _ _, by rw [HR.out]; cases lst X.data.toList <;> simp, Below.refl _ _⟩
  case round =>
    obtain ⟨S, acc, rfl, hsz, hal, hown, hRS, hb⟩ := hrel
    have HB := Lib.hid hb
    rcases Nat.eq_zero_or_pos S.size with h0 | h0
    · have hx := empty_beq h0
      subst hx
      have HV : Hid (R = some acc) := Lib.hid (by rw [hRS]; show (lst []).map _ = _; rw [lst_nil]; simp)
      have HO := Lib.hid hown
      obtain ⟨a3, c3, hv3, _⟩ := ownS_src hown
      subst hv3
      clear hRS hb hown h0
      go_wp2
      go_ret2
      exact listSays_some HV.out HO.out HB.out
    · obtain ⟨hn1, hn2, hn3⟩ := nonempty_beq h0
      obtain ⟨st1, st2⟩ := lst_step _ hn3
      have hp := fun wx => piece_any S wx (by omega)
      cases hc : cut S.data.toList with
      | none =>
        have HV : Hid (R = none) := Lib.hid (by rw [hRS, st1 hc]; rfl)
        rw [hc] at hp
        have HP : Hid (∀ wx, Calls Tryz.prog 124 #[.string S] wx fun e w' => e = .returned (.tuple #[.int .i64 0, .int .i64 5]) ∧ Below wx.heap.size wx w') := Lib.hid hp
        clear hRS hb hown hn3 st1 st2 hp hc
        go_wp2_with fail
        refine (HP.out _).mono ?_; rintro e w1 ⟨rfl, hb⟩
        have HB1 := Lib.hid (HB.out.trans (hb.mono HB.out.size))
        clear hb
        go_wp2
        go_ret2
        exact listSays_none HV.out HB1.out
      | some n =>
        have hn := cut_le _ n hc
        rw [len_data] at hn
        rw [hc] at hp
        have HP : Hid (∀ wx, Calls Tryz.prog 124 #[.string S] wx fun e w' => e = .returned (.tuple #[.int .i64 n, .int .i64 0]) ∧ Below wx.heap.size wx w') := Lib.hid hp
        have hst := st2 n hc
        have hte : (S.extract 0 n).data.toList = S.data.toList.take n := by rw [ext_list S 0 n hn]; simp
        have htr := fun wx => trim_any (S.extract 0 n) wx (by rw [ext_size S 0 n hn]; omega)
        rw [hte] at htr
        obtain ⟨t, ht⟩ : ∃ t, t = trim (S.data.toList.take n) := ⟨_, rfl⟩
        rw [← ht] at htr hst
        have htl : t.length ≤ S.size := by rw [ht]; have := trim_len (S.data.toList.take n); rw [List.length_take, len_data] at this; omega
        have HTR : Hid (∀ wx, Calls Tryz.prog 113 #[.string (S.extract 0 n)] wx fun e w' => e = .returned (.string (mk t)) ∧ Below wx.heap.size wx w') := Lib.hid htr
        -- the rest
        obtain ⟨N, S', hmin, hS', hSz⟩ : ∃ (N : Nat) (S' : ByteArray), (min ((n : Int) + 1) (S.size : Int) = (N : Int) ∧ N ≤ S.size ∧ S.extract N S.size = S') ∧ S'.data.toList = S.data.toList.drop (n + 1) ∧ S'.size < S.size := by
          by_cases e : n < S.size
          · refine ⟨n + 1, _, ⟨by omega, by omega, rfl⟩, by rw [ext_drop], by rw [ext_size S _ _ (Nat.le_refl _)]; omega⟩
          · refine ⟨S.size, _, ⟨by omega, by omega, rfl⟩, ?_, by rw [ext_size S _ _ (Nat.le_refl _)]; omega⟩
            rw [ext_drop, List.drop_eq_nil_iff.2 (by rw [len_data]; exact Nat.le_refl _), List.drop_eq_nil_iff.2 (by rw [len_data]; omega)]
        obtain ⟨hm1, hm2, hm3⟩ := hmin
        rw [← hS'] at hst
        have HST := Lib.hid hst
        have HM3 := Lib.hid hm3
        have HM1 := Lib.hid hm1
        have HRS := Lib.hid hRS
        have HO := Lib.hid hown
        have hn0 : (0 : Int) ≤ (n : Int) := by omega
        have hn4 : (n : Int) + 1 ≤ 9223372036854775807 := by omega
        clear hRS hb hown hn3 st1 st2 hp hc hte htr ht hst hm1 hm3 hS'
        by_cases he : t = []
        · have het : mk t = ⟨#[]⟩ := by rw [he]; rfl
          have HV : Hid (R = (lst S'.data.toList).map (acc ++ ·)) := Lib.hid (by rw [HRS.out, HST.out, Option.map_map, he]; rfl)
          rw [het] at HTR
          clear het he htl HST HRS
          go_wp2_with fail
          refine (HP.out _).mono ?_; rintro e w1 ⟨rfl, hb⟩
          have HB1 := Lib.hid (HB.out.trans (hb.mono HB.out.size))
          have HO1 := Lib.hid (ownS_below HO.out hb)
          clear hb
          go_wp2_with fail
          refine (HTR.out _).mono ?_; rintro e w2 ⟨rfl, hb⟩
          have HB2 := Lib.hid (HB1.out.trans (hb.mono HB1.out.size))
          have HO2 := Lib.hid (ownS_below HO1.out hb)
          clear hb
          have hm1 := HM1.out
          go_wp2
          go_roundw
          case rel => exact ⟨S', acc, by rw [HM3.out], by omega, by omega, HO2.out, HV.out, HB2.out⟩
          case measure => simp only [strLen]; rw [HM3.out]; omega
        · have hpos : 0 < (mk t).size := by
            show 0 < (ByteArray.mk t.toArray).size
            rw [size_mk]; cases t; exact absurd rfl he; simp
          obtain ⟨g1, g2, _⟩ := nonempty_beq hpos
          have HV : Hid (R = (lst S'.data.toList).map ((acc ++ [t]) ++ ·)) := Lib.hid (by rw [HRS.out, HST.out, Option.map_map]; congr 1; funext m; simp [he])
          clear hpos he htl HST HRS
          have hmap : (acc ++ [t]).map mk = acc.map mk ++ [mk t] := by simp
          generalize mk t = T at HTR g1 g2 hmap
          have HMAP := Lib.hid hmap
          clear hmap
          go_wp2_with fail
          refine (HP.out _).mono ?_; rintro e w1 ⟨rfl, hb⟩
          have HB1 := Lib.hid (HB.out.trans (hb.mono HB.out.size))
          have HO1 := Lib.hid (ownS_below HO.out hb)
          clear hb
          go_wp2_with fail
          refine (HTR.out _).mono ?_; rintro e w2 ⟨rfl, hb⟩
          have HB2 := Lib.hid (HB1.out.trans (hb.mono HB1.out.size))
          have HO2 : Hid (OwnS (w2.alloc (.cells #[.string T] 9)) w.heap.size _ (acc.map mk)) := Lib.hid (World.ownsRow.alloc (ownS_below HO1.out hb) _)
          have HC2 := Lib.hid (lit_str T w2)
          have HZ : Hid (w.heap.size ≤ (w2.alloc (.cells #[.string T] 9)).heap.size) := Lib.hid (by have := HB2.out.size; simp; omega)
          clear hb
          go_wp2_with (at_builtin; refine app_str rfl _ _ rfl w.heap.size _ (acc.map mk) rfl HO2.out _ T rfl HC2.out ?n2 HZ.out ?_)
          case n2 => rw [List.length_map]; omega
          intro v3 w3 hown3 hb3
          have HO3 : Hid (OwnS w3 w.heap.size v3 ((acc ++ [t]).map mk)) := Lib.hid (by rw [HMAP.out]; exact hown3)
          have HB3 : Hid (Below w.heap.size w w3) := Lib.hid ((HB2.out.alloc HB2.out.size _).trans hb3.out)
          clear hown3 hb3 g1 g2
          have hm1 := HM1.out
          go_wp2
          go_roundw
          case rel => exact ⟨S', acc ++ [t], by rw [HM3.out], by omega, by simp; omega, HO3.out, HV.out, HB3.out⟩
          case measure => simp only [strLen]; rw [HM3.out]; omega
end Go.Proofs.YthkgaaibhjkngaaGreatDoor
