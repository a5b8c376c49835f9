/- All references replaced; a text as it must be written: the document's answers. -/
import Derived.Test.YtpepoccoljmmjaaRU
import Derived.Lib.AppendStr
set_option linter.unusedVariables false
namespace Go.Proofs.Ytpepoccoljmmjaa
open Go.RowKit Go.Shelf

theorem strCells_bytes (s : ByteArray) : Lib.strCells s = Lib.byteCells s.data.toList := by simp [Lib.strCells, Lib.byteCells]

theorem app_bstr {w : World} {ops : Array Oper} {rest : List Oper} {o : Oper} {a : Act} {Q : Exit → Act → World → Prop} (hgd : o.guard = none) (sl x : Operand)
    (ho : o.op = .call { callee := .builtin .append, args := #[sl, x], argTypes := #[33, 9] }) (base : Nat) (v : Value) (l : List UInt8) (hs : a.eval sl = v) (hown : OwnB w base v l)
    (s : ByteArray) (hx : a.eval x = .string s) (hn : l.length + s.size ≤ 140737488355328) (hbase : base ≤ w.heap.size)
    (h : ∀ v' w', OwnB w' base v' (l ++ s.data.toList) → Hid (Below base w w') → Hid (w.grownBy w' v.ownBlock) → wpList Try.prog ops Q rest (a.put o.dst v') w') : wpList Try.prog ops Q (o :: rest) a w := by
  obtain ⟨i0, hi, hz0, hz1, hz2⟩ := info_parts info5
  refine Lib.wpList_append_own_string w hgd sl x 33 9 ho base 5 i0 Try.underlying33 Try.underlying9 hi hz0 hz1 hz2 v l.length (Lib.byteCells l) hs hown s hx (by unfold maxLen; omega) hn hbase ?_
  intro v' w' h1 h2 _
  refine h v' w' ?_ (Lib.hid ((Below.refl _ _).grown h2 hbase (fun k hk => (World.ownsRow.lt hown k hk).1))) (Lib.hid h2)
  unfold OwnB
  rw [List.length_append, len_data]
  rw [show Lib.byteCells (l ++ s.data.toList) = Lib.byteCells l ++ Lib.strCells s by rw [strCells_bytes]; simp [Lib.byteCells]]
  exact h1

theorem hown_below {w w' : World} {base : Nat} {v : Value} {l : List UInt8} (h : OwnB w base v l) (hb : Below w.heap.size w w') : OwnB w' base v l :=
  World.ownsRow.kept h (row := none) ⟨hb.os, hb.tape, hb.output, hb.size, fun k hk _ => hb.block k hk⟩ (Classical.em _)
theorem alls_at (q : Bool) (l : Bs) (i : Nat) (hi : i < l.length) : ((tk q (l.drop i)).2 = 0 → alls q (l.drop i) = l[i] :: alls q (l.drop (i + 1))) ∧ ((tk q (l.drop i)).2 ≠ 0 → alls q (l.drop i) = (tk q (l.drop i)).1 ++ alls q (l.drop (i + (tk q (l.drop i)).2)) ∧ i + (tk q (l.drop i)).2 ≤ l.length) ∧ (l[i] ≠ 38 → tk q (l.drop i) = ([], 0)) := by
  have hd : l.drop i = l[i] :: l.drop (i + 1) := List.drop_eq_getElem_cons hi
  refine ⟨fun h => ?_, fun h => ⟨?_, ?_⟩, fun h => ?_⟩
  · conv => lhs; rw [hd]
    exact rep_miss (by rw [← hd]; exact h)
  · have := rep_hit (f := tk q) (l := l.drop i) (by rw [hd]; exact List.cons_ne_nil _ _) h
    rw [List.drop_drop] at this
    exact this
  · have := tk_le q (l.drop i)
    rw [List.length_drop] at this; omega
  · rw [hd]; exact tk_amp h

set_option maxRecDepth 10000 in
set_option maxHeartbeats 8000000 in
theorem rall_any (X : ByteArray) (q : Bool) (w : World) (hs : X.size ≤ 140737488355328) (htot : (alls q X.data.toList).length ≤ 140737488355328) :
    Calls Try.prog 22 #[.string X, .bool q] w fun e w' => e = .returned (.string (bs (alls q X.data.toList))) ∧ Below w.heap.size w w' := by
  have hll := len_data X
  obtain ⟨E, hE⟩ : ∃ E, E = alls q X.data.toList := ⟨_, rfl⟩
  rw [← hE] at htot ⊢
  have htk : ∀ i, i < X.size → ∀ wx, Calls Try.prog 18 #[.string (X.extract i X.size), .bool q] wx fun e w' => e = .returned (.tuple #[.string (bs (tk q (X.data.toList.drop i)).1), .int .i64 ((tk q (X.data.toList.drop i)).2 : Nat)]) ∧ Below wx.heap.size wx w' := fun i hi wx => by
    have := rtake_any (X.extract i X.size) q wx (by rw [ext_size _ _ _ (Nat.le_refl _)]; omega)
    rwa [ext_drop] at this
  obtain ⟨l, hl⟩ : ∃ l, l = X.data.toList := ⟨_, rfl⟩
  rw [← hl] at htk hll hE
  have hby : ∀ i (hi : i < X.size), ∃ h : i < l.length, X[i] = l[i] := by subst hl; exact fun i hi => ⟨by omega, byte_at X i hi⟩
  have hat := fun i (hi : i < X.size) => alls_at q l i (by omega)
  have hnil : alls q (l.drop l.length) = [] := by rw [List.drop_eq_nil_of_le (Nat.le_refl _)]; rfl
  have HE := Lib.hid hE
  have HT := Lib.hid htot
  have HTK := Lib.hid htk
  have HBY := Lib.hid hby
  have HAT := Lib.hid hat
  have HNI := Lib.hid hnil
  clear hE htot htk hby hat hnil hl
  go_enter Try.func22, Try.ntmps22
  go_wp2_with fail
  go_loopw [5, 6] (fun v i wr => ∃ (k : Nat) (acc : Bs), k ≤ X.size ∧ i = .int .i64 k ∧ acc ++ alls q (l.drop k) = E ∧ OwnB wr w.heap.size v acc ∧ Below w.heap.size w wr) (fun _ i _ => X.size - (intOf i).toNat)
  case atStart => exact ⟨0, [], by omega, rfl, HE.out.symm, World.ownsRow_nil _ _ _ _, Below.refl _ _⟩
  case round =>
    obtain ⟨k, acc, hk, rfl, hacc, hown, hb⟩ := hrel
    have htot := HT.out
    have hlen : acc.length + (alls q (l.drop k)).length = E.length := by rw [← hacc, List.length_append]
    by_cases hlt : k < X.size
    · obtain ⟨hkl, hxk⟩ := HBY.out k hlt
      obtain ⟨a1, a2, a3⟩ := HAT.out k hlt
      obtain ⟨c, n, hcn⟩ : ∃ c n, tk q (l.drop k) = (c, n) := ⟨_, _, rfl⟩
      rw [hcn] at a1 a2 a3
      simp only at a1 a2
      rw [← hxk] at a1 a3
      by_cases h38 : X[k] = 38
      · have g : ((X[k].toNat : Int) == 38) = true := by rw [h38]; rfl
        have htk := HTK.out k hlt
        rw [hcn] at htk
        simp only at htk
        have HK := Lib.hid htk
        by_cases hn0 : n = 0
        · have e1 := a1 hn0
          rw [e1] at hacc hlen
          simp only [List.length_cons] at hlen
          subst hn0
          have hsr : ∀ wx : World, Src (wx.alloc (.cells #[.int .u8 X[k].toNat] 5)) (some ⟨wx.heap.size, 0, none⟩) 1 [X[k]] := fun wx => lit_src [X[k]] wx (by simp)
          have HR : Hid ((acc ++ [X[k]]) ++ alls q (l.drop (k + 1)) = E) := Lib.hid (by rw [← hacc]; simp)
          have HSR := Lib.hid hsr
          have HB := Lib.hid hb
          have HO := Lib.hid hown
          clear a1 a2 a3 hcn htk e1 hacc hb hown hsr hxk h38
          go_wp2_with fail
          refine (HK.out _).mono ?_; rintro e w2 ⟨rfl, hb2⟩
          have HB2 := Lib.hid (HB.out.trans (hb2.mono HB.out.size))
          have HO2 : Hid (OwnB (w2.alloc (.cells #[.int .u8 X[k].toNat] 5)) w.heap.size _ acc) := Lib.hid (World.ownsRow.alloc (hown_below HO.out hb2) _)
          have HSZ : Hid (w.heap.size ≤ (w2.alloc (.cells #[.int .u8 X[k].toNat] 5)).heap.size) := Lib.hid (by have := HB2.out.size; simp; omega)
          clear hb2
          go_wp2_with (at_builtin; refine app_bytes rfl _ _ rfl w.heap.size _ acc rfl HO2.out _ 1 1 [X[k]] rfl rfl (HSR.out _) ?n2 HSZ.out ?_)
          case n2 => simp only [List.length_cons, List.length_nil]; omega
          intro v3 w3 hown3 hb3 hgr
          have HO3 := Lib.hid hown3
          have HB3 : Hid (Below w.heap.size w w3) := Lib.hid ((HB2.out.alloc HB2.out.size _).trans hb3.out)
          clear hown3 hb3
          go_wp2
          go_roundw
          case rel => exact ⟨k + 1, _, by omega, by go_num, HR.out, HO3.out, HB3.out⟩
          case measure => simp [intOf]; omega
        · obtain ⟨e1, e2⟩ := a2 hn0
          rw [e1] at hacc hlen
          rw [List.length_append] at hlen
          have gn : ((n : Int) == 0) = false := by rw [beq_eq_false_iff_ne]; omega
          have hcs : (bs c).size = c.length := size_mk c
          have hcl : (bs c).data.toList = c := data_mk c
          have HR : Hid ((acc ++ (bs c).data.toList) ++ alls q (l.drop (k + n)) = E) := Lib.hid (by rw [← hacc, hcl]; simp)
          have HB := Lib.hid hb
          have HO := Lib.hid hown
          have HN : Hid (acc.length + (bs c).size ≤ 140737488355328) := Lib.hid (by rw [hcs]; omega)
          have hn1 : 1 ≤ n := by omega
          have HE2 : Hid (k + n ≤ X.size) := Lib.hid (by omega)
          have hbd : n ≤ X.size := by omega
          generalize bs c = C at HK HR HN
          clear a1 a2 a3 hcn htk e1 e2 hacc hb hown hxk h38 hcs hcl hlen hn0
          go_wp2_with fail
          refine (HK.out _).mono ?_; rintro e w2 ⟨rfl, hb2⟩
          have HB2 := Lib.hid (HB.out.trans (hb2.mono HB.out.size))
          have HO2 := Lib.hid (hown_below HO.out hb2)
          clear hb2
          go_wp2_with (at_builtin; refine app_bstr rfl _ _ rfl w.heap.size _ acc rfl HO2.out C rfl HN.out HB2.out.size ?_)
          intro v3 w3 hown3 hb3 hgr
          have HO3 := Lib.hid hown3
          have HB3 : Hid (Below w.heap.size w w3) := Lib.hid (HB2.out.trans hb3.out)
          clear hown3 hb3
          go_wp2
          go_roundw
          case rel => exact ⟨k + n, _, HE2.out, by go_num, HR.out, HO3.out, HB3.out⟩
          case measure => have := HE2.out; simp [intOf]; omega
      · have g : ((X[k].toNat : Int) == 38) = false := by
          rw [beq_eq_false_iff_ne]; intro e; exact h38 (UInt8.toNat_inj.1 (by simpa using (by omega : X[k].toNat = 38)))
        have hn0 : n = 0 := (Prod.mk.inj (a3 h38)).2
        have e1 := a1 hn0
        rw [e1] at hacc hlen
        simp only [List.length_cons] at hlen
        have hsr : ∀ wx : World, Src (wx.alloc (.cells #[.int .u8 X[k].toNat] 5)) (some ⟨wx.heap.size, 0, none⟩) 1 [X[k]] := fun wx => lit_src [X[k]] wx (by simp)
        have HR : Hid ((acc ++ [X[k]]) ++ alls q (l.drop (k + 1)) = E) := Lib.hid (by rw [← hacc]; simp)
        have HSR := Lib.hid hsr
        have HB := Lib.hid hb
        have HO2 : Hid (OwnB (wr.alloc (.cells #[.int .u8 X[k].toNat] 5)) w.heap.size _ acc) := Lib.hid (World.ownsRow.alloc hown _)
        have HSZ : Hid (w.heap.size ≤ (wr.alloc (.cells #[.int .u8 X[k].toNat] 5)).heap.size) := Lib.hid (by have := hb.size; simp; omega)
        clear a1 a2 a3 hcn e1 hacc hb hown hsr hxk h38 hn0
        go_wp2_with (at_builtin; refine app_bytes rfl _ _ rfl w.heap.size _ acc rfl HO2.out _ 1 1 [X[k]] rfl rfl (HSR.out _) ?n2 HSZ.out ?_)
        case n2 => simp only [List.length_cons, List.length_nil]; omega
        intro v3 w3 hown3 hb3 hgr
        have HO3 := Lib.hid hown3
        have HB3 : Hid (Below w.heap.size w w3) := Lib.hid ((HB.out.alloc HB.out.size _).trans hb3.out)
        clear hown3 hb3
        go_wp2
        go_roundw
        case rel => exact ⟨k + 1, _, by omega, by go_num, HR.out, HO3.out, HB3.out⟩
        case measure => simp [intOf]; omega
    · have hkl : k = l.length := by omega
      subst hkl
      rw [HNI.out, List.append_nil] at hacc
      rw [hacc] at hown
      obtain ⟨a3, c3, rfl, hs3, hcv⟩ := conv_own hown
      have HB := Lib.hid hb
      clear hb hown hs3 hacc hlen htot
      generalize E.length = n at hcv
      go_wp2
      go_ret
      exact ⟨rfl, HB.out⟩

theorem esc_at (q : Bool) (l : Bs) (i : Nat) (hi : i < l.length) : (sgn q (l.drop i)).2 = 0 → esc q (l.drop i) = l[i] :: esc q (l.drop (i + 1)) := fun h => by
  have hd : l.drop i = l[i] :: l.drop (i + 1) := List.drop_eq_getElem_cons hi
  conv => lhs; rw [hd]
  exact rep_miss (by rw [← hd]; exact h)
theorem esc_hit (q : Bool) (l : Bs) (i : Nat) (hi : i < l.length) (c : Bs) (n : Nat) (hs : sgn q (l.drop i) = (c, n)) (hn : n ≠ 0) : esc q (l.drop i) = c ++ esc q (l.drop (i + n)) ∧ i + n ≤ l.length := by
  have hd : l.drop i = l[i] :: l.drop (i + 1) := List.drop_eq_getElem_cons hi
  have := rep_hit (f := sgn q) (l := l.drop i) (by rw [hd]; exact List.cons_ne_nil _ _) (by rw [hs]; exact hn)
  rw [hs, List.drop_drop] at this
  have h2 := sgn_le q l[i] (l.drop (i + 1))
  rw [← hd, hs, List.length_drop] at h2
  exact ⟨this, by simp only at h2; omega⟩

set_option maxRecDepth 10000 in
set_option maxHeartbeats 8000000 in
theorem rescape_any (X : ByteArray) (q : Bool) (w : World) (hs : X.size ≤ 140737488355328) (htot : (esc q X.data.toList).length ≤ 140737488355328) :
    Calls Try.prog 24 #[.string X, .bool q] w fun e w' => e = .returned (.string (bs (esc q X.data.toList))) ∧ Below w.heap.size w w' := by
  have hll := len_data X
  obtain ⟨E, hE⟩ : ∃ E, E = esc q X.data.toList := ⟨_, rfl⟩
  rw [← hE] at htot ⊢
  have hnb : ∀ i, i < X.size → ∀ wx, Calls Try.prog 31 #[.string (X.extract i X.size), .string ⟨#[194, 160]⟩] wx fun e w' => e = .returned (.bool (Lib.hasPrefix (X.data.toList.drop i) [194, 160])) ∧ wx = w' := fun i hi wx => by
    have := rbeg_lit (X.extract i X.size) ⟨#[194, 160]⟩ [194, 160] rfl wx (by rw [ext_size _ _ _ (Nat.le_refl _)]; omega) (by decide)
    rwa [ext_drop] at this
  obtain ⟨l, hl⟩ : ∃ l, l = X.data.toList := ⟨_, rfl⟩
  rw [← hl] at hnb hll hE
  have hby : ∀ i (hi : i < X.size), ∃ h : i < l.length, X[i] = l[i] := by subst hl; exact fun i hi => ⟨by omega, byte_at X i hi⟩
  have hsg : ∀ i (hi : i < l.length), sgn q (l.drop i) = if l[i].toNat = 38 then ([38, 97, 109, 112, 59], 1) else if l[i].toNat = 60 then ([38, 108, 116, 59], 1) else if l[i].toNat = 62 then ([38, 103, 116, 59], 1) else if l[i].toNat = 34 ∧ q = true then ([38, 113, 117, 111, 116, 59], 1) else if Lib.hasPrefix (l.drop i) [194, 160] = true then ([38, 110, 98, 115, 112, 59], 2) else ([], 0) := fun i hi => by
    have hd : l.drop i = l[i] :: l.drop (i + 1) := List.drop_eq_getElem_cons hi
    have := sgn_cons q l[i] (l.drop (i + 1))
    rw [← hd] at this; exact this
  have hnil : esc q (l.drop l.length) = [] := by rw [List.drop_eq_nil_of_le (Nat.le_refl _)]; rfl
  have HE := Lib.hid hE
  have HT := Lib.hid htot
  have HNB := Lib.hid hnb
  have HBY := Lib.hid hby
  have HSG := Lib.hid hsg
  have HNI := Lib.hid hnil
  clear hE htot hnb hby hsg hnil hl
  go_enter Try.func24, Try.ntmps24
  go_wp2_with fail
  go_loopw [5, 6] (fun v i wr => ∃ (k : Nat) (acc : Bs), k ≤ X.size ∧ i = .int .i64 k ∧ acc ++ esc q (l.drop k) = E ∧ OwnB wr w.heap.size v acc ∧ Below w.heap.size w wr) (fun _ i _ => X.size - (intOf i).toNat)
  case atStart => exact ⟨0, [], by omega, rfl, HE.out.symm, World.ownsRow_nil _ _ _ _, Below.refl _ _⟩
  case round =>
    obtain ⟨k, acc, hk, rfl, hacc, hown, hb⟩ := hrel
    have htot := HT.out
    have hlen : acc.length + (esc q (l.drop k)).length = E.length := by rw [← hacc, List.length_append]
    by_cases hlt : k < X.size
    · obtain ⟨hkl, hxk⟩ := HBY.out k hlt
      have hsg := HSG.out k hkl
      rw [← hxk] at hsg
      have hnb := HNB.out k hlt
      by_cases c0 : X[k].toNat = 38
      · rw [if_pos c0] at hsg
        have g0 : ((X[k].toNat : Int) == 38) = true := by simp [c0]
        obtain ⟨e1, e2⟩ := esc_hit q l k hkl [38, 97, 109, 112, 59] 1 hsg (by omega)
        rw [e1] at hacc hlen
        rw [List.length_append] at hlen
        simp only [List.length_cons, List.length_nil] at hlen
        have HR : Hid ((acc ++ (⟨#[38, 97, 109, 112, 59]⟩ : ByteArray).data.toList) ++ esc q (l.drop (k + 1)) = E) := Lib.hid (by rw [← hacc]; simp)
        have HO := Lib.hid hown
        have HB := Lib.hid hb
        have HN : Hid (acc.length + (⟨#[38, 97, 109, 112, 59]⟩ : ByteArray).size ≤ 140737488355328) := Lib.hid (by show acc.length + 5 ≤ _; omega)
        have HE2 : Hid (k + 1 ≤ X.size) := Lib.hid (by omega)
        clear hsg hnb hacc hown hb hxk e1 e2 hkl c0
        go_wp2_with (at_builtin; refine app_bstr rfl _ _ rfl w.heap.size _ acc rfl HO.out ⟨#[38, 97, 109, 112, 59]⟩ rfl HN.out HB.out.size ?_)
        intro v3 w3 hown3 hb3 hgr
        have HO3 := Lib.hid hown3
        have HB3 : Hid (Below w.heap.size w w3) := Lib.hid (HB.out.trans hb3.out)
        clear hown3 hb3
        go_wp2
        go_roundw
        case rel => exact ⟨k + 1, _, HE2.out, by go_num, HR.out, HO3.out, HB3.out⟩
        case measure => have := HE2.out; simp [intOf]; omega
      rw [if_neg c0] at hsg
      have g0 : ((X[k].toNat : Int) == 38) = false := by rw [beq_eq_false_iff_ne]; omega
      by_cases c1 : X[k].toNat = 60
      · rw [if_pos c1] at hsg
        have g1 : ((X[k].toNat : Int) == 60) = true := by simp [c1]
        obtain ⟨e1, e2⟩ := esc_hit q l k hkl [38, 108, 116, 59] 1 hsg (by omega)
        rw [e1] at hacc hlen
        rw [List.length_append] at hlen
        simp only [List.length_cons, List.length_nil] at hlen
        have HR : Hid ((acc ++ (⟨#[38, 108, 116, 59]⟩ : ByteArray).data.toList) ++ esc q (l.drop (k + 1)) = E) := Lib.hid (by rw [← hacc]; simp)
        have HO := Lib.hid hown
        have HB := Lib.hid hb
        have HN : Hid (acc.length + (⟨#[38, 108, 116, 59]⟩ : ByteArray).size ≤ 140737488355328) := Lib.hid (by show acc.length + 4 ≤ _; omega)
        have HE2 : Hid (k + 1 ≤ X.size) := Lib.hid (by omega)
        clear hsg hnb hacc hown hb hxk e1 e2 hkl c0 c1
        go_wp2_with (at_builtin; refine app_bstr rfl _ _ rfl w.heap.size _ acc rfl HO.out ⟨#[38, 108, 116, 59]⟩ rfl HN.out HB.out.size ?_)
        intro v3 w3 hown3 hb3 hgr
        have HO3 := Lib.hid hown3
        have HB3 : Hid (Below w.heap.size w w3) := Lib.hid (HB.out.trans hb3.out)
        clear hown3 hb3
        go_wp2
        go_roundw
        case rel => exact ⟨k + 1, _, HE2.out, by go_num, HR.out, HO3.out, HB3.out⟩
        case measure => have := HE2.out; simp [intOf]; omega
      rw [if_neg c1] at hsg
      have g1 : ((X[k].toNat : Int) == 60) = false := by rw [beq_eq_false_iff_ne]; omega
      by_cases c2 : X[k].toNat = 62
      · rw [if_pos c2] at hsg
        have g2 : ((X[k].toNat : Int) == 62) = true := by simp [c2]
        obtain ⟨e1, e2⟩ := esc_hit q l k hkl [38, 103, 116, 59] 1 hsg (by omega)
        rw [e1] at hacc hlen
        rw [List.length_append] at hlen
        simp only [List.length_cons, List.length_nil] at hlen
        have HR : Hid ((acc ++ (⟨#[38, 103, 116, 59]⟩ : ByteArray).data.toList) ++ esc q (l.drop (k + 1)) = E) := Lib.hid (by rw [← hacc]; simp)
        have HO := Lib.hid hown
        have HB := Lib.hid hb
        have HN : Hid (acc.length + (⟨#[38, 103, 116, 59]⟩ : ByteArray).size ≤ 140737488355328) := Lib.hid (by show acc.length + 4 ≤ _; omega)
        have HE2 : Hid (k + 1 ≤ X.size) := Lib.hid (by omega)
        clear hsg hnb hacc hown hb hxk e1 e2 hkl c0 c1 c2
        go_wp2_with (at_builtin; refine app_bstr rfl _ _ rfl w.heap.size _ acc rfl HO.out ⟨#[38, 103, 116, 59]⟩ rfl HN.out HB.out.size ?_)
        intro v3 w3 hown3 hb3 hgr
        have HO3 := Lib.hid hown3
        have HB3 : Hid (Below w.heap.size w w3) := Lib.hid (HB.out.trans hb3.out)
        clear hown3 hb3
        go_wp2
        go_roundw
        case rel => exact ⟨k + 1, _, HE2.out, by go_num, HR.out, HO3.out, HB3.out⟩
        case measure => have := HE2.out; simp [intOf]; omega
      rw [if_neg c2] at hsg
      have g2 : ((X[k].toNat : Int) == 62) = false := by rw [beq_eq_false_iff_ne]; omega
      generalize hnbk : Lib.hasPrefix (l.drop k) [194, 160] = nb at hnb hsg
      have HNBK := Lib.hid hnb
      clear hnbk
      by_cases c3 : X[k].toNat = 34
      · have g3 : ((X[k].toNat : Int) == 34) = true := by simp [c3]
        cases q
        · rw [if_neg (by simp)] at hsg
          cases nb
          · rw [if_neg (by simp)] at hsg
            have e1 := esc_at false l k hkl (by rw [hsg]; try rfl)
            rw [e1, ← hxk] at hacc
            rw [e1] at hlen
            simp only [List.length_cons] at hlen
            have hsr : ∀ wx : World, Src (wx.alloc (.cells #[.int .u8 X[k].toNat] 5)) (some ⟨wx.heap.size, 0, none⟩) 1 [X[k]] := fun wx => lit_src [X[k]] wx (by simp)
            have HR : Hid ((acc ++ [X[k]]) ++ esc false (l.drop (k + 1)) = E) := Lib.hid (by rw [← hacc]; simp)
            have HSR := Lib.hid hsr
            have HB := Lib.hid hb
            have HO2 : Hid (OwnB (wr.alloc (.cells #[.int .u8 X[k].toNat] 5)) w.heap.size _ acc) := Lib.hid (World.ownsRow.alloc hown _)
            have HSZ : Hid (w.heap.size ≤ (wr.alloc (.cells #[.int .u8 X[k].toNat] 5)).heap.size) := Lib.hid (by have := hb.size; simp; omega)
            clear e1 hsr
            clear hsg hnb hacc hown hb hxk hkl c0 c1 c2 c3
            go_wp2_with fail
            refine (HNBK.out _).mono ?_; rintro e w2 ⟨rfl, rfl⟩
            go_wp2_with (at_builtin; refine app_bytes rfl _ _ rfl w.heap.size _ acc rfl HO2.out _ 1 1 [X[k]] rfl rfl (HSR.out _) ?n2 HSZ.out ?_)
            case n2 => simp only [List.length_cons, List.length_nil]; omega
            intro v3 w3 hown3 hb3 hgr
            have HO3 := Lib.hid hown3
            have HB3 : Hid (Below w.heap.size w w3) := Lib.hid ((HB.out.alloc HB.out.size _).trans hb3.out)
            clear hown3 hb3
            go_wp2
            go_roundw
            case rel => exact ⟨k + 1, _, by omega, by go_num, HR.out, HO3.out, HB3.out⟩
            case measure => simp [intOf]; omega
          · rw [if_pos rfl] at hsg
            obtain ⟨e1, e2⟩ := esc_hit false l k hkl [38, 110, 98, 115, 112, 59] 2 hsg (by omega)
            rw [e1] at hacc hlen
            rw [List.length_append] at hlen
            simp only [List.length_cons, List.length_nil] at hlen
            have HR : Hid ((acc ++ (⟨#[38, 110, 98, 115, 112, 59]⟩ : ByteArray).data.toList) ++ esc false (l.drop (k + 2)) = E) := Lib.hid (by rw [← hacc]; simp)
            have HO := Lib.hid hown
            have HB := Lib.hid hb
            have HN : Hid (acc.length + (⟨#[38, 110, 98, 115, 112, 59]⟩ : ByteArray).size ≤ 140737488355328) := Lib.hid (by show acc.length + 6 ≤ _; omega)
            have HE2 : Hid (k + 2 ≤ X.size) := Lib.hid (by omega)
            clear hsg hnb hacc hown hb hxk e1 e2 hkl c0 c1 c2 c3
            go_wp2_with fail
            refine (HNBK.out _).mono ?_; rintro e w2 ⟨rfl, rfl⟩
            go_wp2_with (at_builtin; refine app_bstr rfl _ _ rfl w.heap.size _ acc rfl HO.out ⟨#[38, 110, 98, 115, 112, 59]⟩ rfl HN.out HB.out.size ?_)
            intro v3 w3 hown3 hb3 hgr
            have HO3 := Lib.hid hown3
            have HB3 : Hid (Below w.heap.size w w3) := Lib.hid (HB.out.trans hb3.out)
            clear hown3 hb3
            go_wp2
            go_roundw
            case rel => exact ⟨k + 2, _, HE2.out, by go_num, HR.out, HO3.out, HB3.out⟩
            case measure => have := HE2.out; simp [intOf]; omega
        · rw [if_pos ⟨c3, rfl⟩] at hsg
          obtain ⟨e1, e2⟩ := esc_hit true l k hkl [38, 113, 117, 111, 116, 59] 1 hsg (by omega)
          rw [e1] at hacc hlen
          rw [List.length_append] at hlen
          simp only [List.length_cons, List.length_nil] at hlen
          have HR : Hid ((acc ++ (⟨#[38, 113, 117, 111, 116, 59]⟩ : ByteArray).data.toList) ++ esc true (l.drop (k + 1)) = E) := Lib.hid (by rw [← hacc]; simp)
          have HO := Lib.hid hown
          have HB := Lib.hid hb
          have HN : Hid (acc.length + (⟨#[38, 113, 117, 111, 116, 59]⟩ : ByteArray).size ≤ 140737488355328) := Lib.hid (by show acc.length + 6 ≤ _; omega)
          have HE2 : Hid (k + 1 ≤ X.size) := Lib.hid (by omega)
          clear hsg hnb hacc hown hb hxk e1 e2 hkl HNBK c0 c1 c2 c3
          go_wp2_with (at_builtin; refine app_bstr rfl _ _ rfl w.heap.size _ acc rfl HO.out ⟨#[38, 113, 117, 111, 116, 59]⟩ rfl HN.out HB.out.size ?_)
          intro v3 w3 hown3 hb3 hgr
          have HO3 := Lib.hid hown3
          have HB3 : Hid (Below w.heap.size w w3) := Lib.hid (HB.out.trans hb3.out)
          clear hown3 hb3
          go_wp2
          go_roundw
          case rel => exact ⟨k + 1, _, HE2.out, by go_num, HR.out, HO3.out, HB3.out⟩
          case measure => have := HE2.out; simp [intOf]; omega
      · rw [if_neg (fun h => c3 h.1)] at hsg
        have g3 : ((X[k].toNat : Int) == 34) = false := by rw [beq_eq_false_iff_ne]; omega
        cases nb
        · rw [if_neg (by simp)] at hsg
          have e1 := esc_at q l k hkl (by rw [hsg]; try rfl)
          rw [e1, ← hxk] at hacc
          rw [e1] at hlen
          simp only [List.length_cons] at hlen
          have hsr : ∀ wx : World, Src (wx.alloc (.cells #[.int .u8 X[k].toNat] 5)) (some ⟨wx.heap.size, 0, none⟩) 1 [X[k]] := fun wx => lit_src [X[k]] wx (by simp)
          have HR : Hid ((acc ++ [X[k]]) ++ esc q (l.drop (k + 1)) = E) := Lib.hid (by rw [← hacc]; simp)
          have HSR := Lib.hid hsr
          have HB := Lib.hid hb
          have HO2 : Hid (OwnB (wr.alloc (.cells #[.int .u8 X[k].toNat] 5)) w.heap.size _ acc) := Lib.hid (World.ownsRow.alloc hown _)
          have HSZ : Hid (w.heap.size ≤ (wr.alloc (.cells #[.int .u8 X[k].toNat] 5)).heap.size) := Lib.hid (by have := hb.size; simp; omega)
          clear e1 hsr
          clear hsg hnb hacc hown hb hxk hkl c0 c1 c2 c3
          go_wp2_with fail
          refine (HNBK.out _).mono ?_; rintro e w2 ⟨rfl, rfl⟩
          go_wp2_with (at_builtin; refine app_bytes rfl _ _ rfl w.heap.size _ acc rfl HO2.out _ 1 1 [X[k]] rfl rfl (HSR.out _) ?n2 HSZ.out ?_)
          case n2 => simp only [List.length_cons, List.length_nil]; omega
          intro v3 w3 hown3 hb3 hgr
          have HO3 := Lib.hid hown3
          have HB3 : Hid (Below w.heap.size w w3) := Lib.hid ((HB.out.alloc HB.out.size _).trans hb3.out)
          clear hown3 hb3
          go_wp2
          go_roundw
          case rel => exact ⟨k + 1, _, by omega, by go_num, HR.out, HO3.out, HB3.out⟩
          case measure => simp [intOf]; omega
        · rw [if_pos rfl] at hsg
          obtain ⟨e1, e2⟩ := esc_hit q l k hkl [38, 110, 98, 115, 112, 59] 2 hsg (by omega)
          rw [e1] at hacc hlen
          rw [List.length_append] at hlen
          simp only [List.length_cons, List.length_nil] at hlen
          have HR : Hid ((acc ++ (⟨#[38, 110, 98, 115, 112, 59]⟩ : ByteArray).data.toList) ++ esc q (l.drop (k + 2)) = E) := Lib.hid (by rw [← hacc]; simp)
          have HO := Lib.hid hown
          have HB := Lib.hid hb
          have HN : Hid (acc.length + (⟨#[38, 110, 98, 115, 112, 59]⟩ : ByteArray).size ≤ 140737488355328) := Lib.hid (by show acc.length + 6 ≤ _; omega)
          have HE2 : Hid (k + 2 ≤ X.size) := Lib.hid (by omega)
          clear hsg hnb hacc hown hb hxk e1 e2 hkl c0 c1 c2 c3
          go_wp2_with fail
          refine (HNBK.out _).mono ?_; rintro e w2 ⟨rfl, rfl⟩
          go_wp2_with (at_builtin; refine app_bstr rfl _ _ rfl w.heap.size _ acc rfl HO.out ⟨#[38, 110, 98, 115, 112, 59]⟩ rfl HN.out HB.out.size ?_)
          intro v3 w3 hown3 hb3 hgr
          have HO3 := Lib.hid hown3
          have HB3 : Hid (Below w.heap.size w w3) := Lib.hid (HB.out.trans hb3.out)
          clear hown3 hb3
          go_wp2
          go_roundw
          case rel => exact ⟨k + 2, _, HE2.out, by go_num, HR.out, HO3.out, HB3.out⟩
          case measure => have := HE2.out; simp [intOf]; omega
    · have hkl : k = l.length := by omega
      subst hkl
      rw [HNI.out, List.append_nil] at hacc
      rw [hacc] at hown
      obtain ⟨a3, c3, rfl, hs3, hcv⟩ := conv_own hown
      have HB := Lib.hid hb
      clear hb hown hs3 hacc hlen htot
      generalize E.length = n at hcv
      go_wp2
      go_ret
      exact ⟨rfl, HB.out⟩
end Go.Proofs.Ytpepoccoljmmjaa
