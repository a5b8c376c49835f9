/- Bytes that are handed in; bytes put behind others; where a character begins, texts may be cut: the walk. -/
import Derived.Test.YtaahblbkigkfcaaF
import Derived.Laws.AppendOwnNone
set_option linter.unusedVariables false
namespace Go.Proofs.Ytaahblbkigkfcaa
open Go.RowKit

/-- bytes that a slice shows, however it lies -/
structure Src (w : World) (a : Option Addr) (c : Nat) (l : List UInt8) : Prop where
  bytes : Bytes w a l
  cap : l.length ≤ c
  big : c ≤ 9223372036854775807
  nil : a = none → l = [] ∧ c = 0
theorem Src.below {w w' : World} {a : Option Addr} {c : Nat} {l : List UInt8} (h : Src w a c l) (hb : Below w.heap.size w w') : Src w' a c l := ⟨h.bytes.below hb, h.cap, h.big, h.nil⟩
theorem Src.below' {w w' : World} {a : Option Addr} {c B : Nat} {l : List UInt8} (h : Src w a c l) (hB : w.heap.size ≤ B) (hb : Below B w w') : Src w' a c l := h.below (hb.mono hB)

theorem own_src {w : World} {base n : Nat} {v : Value} {l : List UInt8} (h : w.ownsRow base 5 1 v n (Lib.byteCells l)) : ∃ a c, v = .slice a l.length c ∧ n = l.length ∧ Src w a c l := by
  have hn : n = l.length := by have := h.1; rw [Lib.byteCells_length] at this; omega
  subst hn
  rcases h.2 with ⟨rfl, h0⟩ | ⟨g, cap, cur, rfl, hb, hg, h1, h2, h3, h4⟩
  · have : l = [] := List.eq_nil_of_length_eq_zero h0
    subst this
    exact ⟨none, 0, rfl, rfl, .inl rfl, by simp, by omega, fun _ => ⟨rfl, rfl⟩⟩
  · refine ⟨_, cap, rfl, rfl, .inr ⟨g, 0, rfl, (Array.getElem?_eq_some_iff.1 hg).1, ?_⟩, h1, by unfold maxLen at h2; omega, fun h => by cases h⟩
    intro j hj
    have := h.cells (g := g) rfl j (.int .u8 l[j].toNat) (by simp [Lib.byteCells, hj])
    rw [Lib.add_plain] at this
    exact this

/-- a row of bytes of the call's own -/
def OwnB (w : World) (base : Nat) (v : Value) (l : List UInt8) : Prop := w.ownsRow base 5 1 v l.length (Lib.byteCells l)
theorem app_bytes {w : World} {ops : Array Oper} {rest : List Oper} {o : Oper} {a : Act} {Q : Exit → Act → World → Prop} (hgd : o.guard = none) (s x : Operand)
    (ho : o.op = .call { callee := .builtin .append, args := #[s, x], argTypes := #[22, 22] }) (base : Nat) (v : Value) (xs : List UInt8) (hs : a.eval s = v) (hown : w.ownsRow base 5 1 v xs.length (Lib.byteCells xs))
    (ad : Option Addr) (c m : Nat) (l : List UInt8) (hm : l.length = m) (hx : a.eval x = .slice ad m c) (hsrc : Src w ad c l) (hn : xs.length + l.length ≤ 140737488355328) (hbase : base ≤ w.heap.size)
    (h : ∀ v' w', OwnB w' base v' (xs ++ l) → Hid (Below base w w') → Hid (w.grownBy w' v.ownBlock) → wpList Try.prog ops Q rest (a.put o.dst v') w') : wpList Try.prog ops Q (o :: rest) a w := by
  subst hm
  obtain ⟨i0, hi, hz0, hz1, hz2⟩ := info_parts info5
  cases ad with
  | none =>
    obtain ⟨rfl, rfl⟩ := hsrc.nil rfl
    refine wpList_append_own_none hgd s x 22 ho base 5 i0 1 Try.underlying22 hi v _ _ hs hown hx ?_
    have h2 := h v w (by unfold OwnB; simpa using hown) (Lib.hid (Below.refl _ _)) (Lib.hid ⟨rfl, rfl, rfl, Nat.le_refl _, fun _ _ _ => rfl⟩)
    exact h2
  | some ad =>
    refine wpList_append_own w hgd s x 22 ho base 5 i0 (.int .u8 0) 1 1 Try.underlying22 hi hz0 hz1 hz2 rfl (by decide) v _ _ hs hown ad l.length c (Lib.byteCells l) hx (by simp [Lib.byteCells]) ?_ ?_ (by unfold maxLen; omega) (by omega) hbase ?_
    · intro j u hj
      obtain ⟨hjl, rfl⟩ := List.getElem?_eq_some_iff.1 hj
      have hjl' : j < l.length := by simpa [Lib.byteCells] using hjl
      rcases hsrc.bytes with rfl | ⟨b, o, he, _, hr⟩
      · simp at hjl'
      · cases he
        rw [Lib.add_plain, hr j hjl']
        simp [Lib.byteCells]
    · intro u hu; simp only [Lib.byteCells, List.mem_map] at hu; obtain ⟨x, _, rfl⟩ := hu; rfl
    · intro v' w' h1 h2 _
      refine h v' w' ?_ (Lib.hid ((Below.refl _ _).grown h2 hbase (fun k hk => (hown.lt k hk).1))) (Lib.hid h2)
      unfold OwnB
      rw [List.length_append]
      rw [show Lib.byteCells (xs ++ l) = Lib.byteCells xs ++ Lib.byteCells l by simp [Lib.byteCells]]
      exact h1

theorem made_empty (w : World) (base : Nat) (h : base ≤ w.heap.size) (C : Array Value) (hC : C = #[]) : (w.alloc (.cells C 5)).ownsRow base 5 1 (.slice (some ⟨w.heap.size, 0, none⟩) 0 0) ([] : List UInt8).length (Lib.byteCells []) := by
  subst hC
  exact World.ownsRow_made w #[] 0 h (by unfold maxLen; omega) (by simp)

theorem dec_len (l : List UInt8) : (dec l).length ≤ 3 * l.length := by
  induction l using len_ind with
  | _ l ih =>
    by_cases h : l = []
    · subst h; simp [dec_nil]
    · have hb := pc_bd l h
      rw [dec_cons l h, List.length_append]
      have := ih (l.drop (pc l).1) (by simp only [List.length_drop]; omega)
      simp only [List.length_drop] at this
      split
      · simp only [List.length_take]; omega
      · simp only [fffd, List.length_cons, List.length_nil]; omega

set_option maxHeartbeats 4000000 in
theorem joins_walk (w : World) (a1 a2 : Option Addr) (c1 c2 : Nat) (la lb : List UInt8) (h1 : Src w a1 c1 la) (h2 : Src w a2 c2 lb) (hl1 : la.length ≤ 1048576) (hl2 : lb.length ≤ 1048576) :
    Calls Try.prog 9 #[.slice a1 la.length c1, .slice a2 lb.length c2] w fun e w' => e = .returned (.bool true) ∧ Below w.heap.size w w' := by
  have H1 := Lib.hid h1
  have H2 := Lib.hid h2
  have hrest : ∀ hs : starts lb, ∃ X Y : ByteArray, (∀ wx, Below w.heap.size w wx → Calls Try.prog 13 #[.slice a1 la.length c1] wx fun e w' => e = .returned (.string X) ∧ Below wx.heap.size wx w') ∧ (∀ wx, Below w.heap.size w wx → Calls Try.prog 13 #[.slice a2 lb.length c2] wx fun e w' => e = .returned (.string Y) ∧ Below wx.heap.size wx w') ∧
      (∀ wx a c, Src wx a c (la ++ lb) → Calls Try.prog 13 #[.slice a (la ++ lb).length c] wx fun e w' => e = .returned (.string (X ++ Y)) ∧ Below wx.heap.size wx w') ∧ X.size ≤ 3145728 ∧ Y.size ≤ 3145728 := fun hs => by
    refine ⟨⟨(dec la).toArray⟩, ⟨(dec lb).toArray⟩, fun wx hb => dec_any a1 c1 la wx (h1.below hb).bytes h1.cap (by omega) h1.big, fun wx hb => dec_any a2 c2 lb wx (h2.below hb).bytes h2.cap (by omega) h2.big, fun wx a c hsr => ?_, ?_, ?_⟩
    · have := dec_any a c (la ++ lb) wx hsr.bytes hsr.cap (by simp only [List.length_append]; omega) hsr.big
      rw [dec_append la lb hs] at this
      refine this.mono ?_; rintro e w' ⟨rfl, hb⟩
      exact ⟨by congr 2, hb⟩
    · have := dec_len la; show (dec la).toArray.size ≤ _; simp; omega
    · have := dec_len lb; show (dec lb).toArray.size ≤ _; simp; omega
  obtain ⟨n, hn⟩ : ∃ n, la.length = n := ⟨_, rfl⟩
  obtain ⟨m, hm⟩ : ∃ m, lb.length = m := ⟨_, rfl⟩
  rw [hn, hm]
  rw [hn] at hrest hl1
  rw [hm] at hrest hl2
  have HN := Lib.hid hn
  have HM := Lib.hid hm
  have hcell : 0 < m → ∃ b o, a2 = some ⟨b, o, none⟩ ∧ b < w.heap.size ∧ ∃ y : Nat, y < 256 ∧ w.cell? ⟨b, o, none⟩ = some (.int .u8 y) ∧ (y < 128 ∨ 191 < y → starts lb) := fun h0 => by
    rcases h2.bytes with rfl | ⟨b, o, he, hlt, hr⟩
    · simp at hm; omega
    · refine ⟨b, o, he, hlt, lb[0].toNat, lb[0].toNat_lt, by have := hr 0 (by omega); simpa using this, fun hy c hc => ?_⟩
      have : c = lb[0] := by rw [List.head?_eq_getElem?, List.getElem?_eq_getElem (by omega)] at hc; exact (Option.some.inj hc).symm
      rw [this]; exact hy
  clear h1 h2 hn
  by_cases h0 : m = 0
  · subst h0
    have hst : starts lb := by intro c hc; rw [List.eq_nil_of_length_eq_zero hm] at hc; simp at hc
    clear hcell hm
    obtain ⟨X, Y, hA, hB, hC, hX, hY⟩ := hrest hst
    obtain ⟨q, hq⟩ : ∃ q, (la ++ lb).length = q := ⟨_, rfl⟩
    rw [hq] at hC
    have HQ := Lib.hid hq
    have GA := Lib.hid hA
    have GB := Lib.hid hB
    have GC : Hid (∀ wx a c, Src wx a c (la ++ lb) → Calls Try.prog 13 #[.slice a q c] wx fun e w' => e = .returned (.string (X ++ Y)) ∧ Below wx.heap.size wx w') := Lib.hid hC
    clear hst hq hA hB hC hrest
    go_enter Try.func9, Try.ntmps9
    go_wp2_with fail
    refine (shown_any _).mono ?_; rintro e w1 ⟨rfl, hb⟩
    have hbase : w.heap.size ≤ w1.heap.size := hb.size
    have HB := Lib.hid hb
    have HE := Lib.hid (fun C hC => made_empty w1 w.heap.size hb.size C hC)
    clear hb
    go_wp2_with (at_builtin; refine app_bytes rfl _ _ rfl w.heap.size _ [] rfl (HE.out _ rfl) a1 c1 n la HN.out rfl ?s1 ?n1 ?b1 ?_)
    case s1 => exact H1.out.below (HB.out.alloc HB.out.size _)
    case n1 => have := HN.out; first | (simp only [List.length_nil]; omega) | omega
    case b1 => first | (simp; omega) | omega
    intro v2 w2 hown2 hb2 _
    have hown2 : w2.ownsRow w.heap.size 5 1 v2 la.length (Lib.byteCells la) := by simpa [OwnB] using hown2
    have HO2 := Lib.hid hown2
    have HB2 := Lib.hid ((HB.out.alloc HB.out.size _).trans hb2.out)
    clear hown2 hb2
    go_wp2_with (at_builtin; refine app_bytes rfl _ _ rfl w.heap.size _ la rfl HO2.out _ c2 0 lb HM.out rfl ?s2 ?n2 ?b2 ?_)
    case s2 => exact H2.out.below HB2.out
    case n2 => have := HN.out; have := HM.out; omega
    case b2 => exact HB2.out.size
    intro v3 w3 hown3 hb3 _
    obtain ⟨a3, c3, rfl, _, hs3⟩ := own_src hown3
    have HB3 := Lib.hid (HB2.out.trans hb3.out)
    have HS3 := Lib.hid hs3
    have hq : (la ++ lb).length = q := HQ.out
    rw [hq]
    clear hown3 hb3 hs3 hq
    go_wp2_with fail
    refine (GC.out w3 a3 c3 HS3.out).mono ?_; rintro e w4 ⟨rfl, hb4⟩
    have HB4 := Lib.hid (HB3.out.trans (hb4.mono HB3.out.size))
    clear hb4
    go_wp2_with fail
    refine (GA.out _ HB4.out).mono ?_; rintro e w5 ⟨rfl, hb5⟩
    have HB5 := Lib.hid (HB4.out.trans (hb5.mono HB4.out.size))
    clear hb5
    go_wp2_with fail
    refine (GB.out _ HB5.out).mono ?_; rintro e w6 ⟨rfl, hb6⟩
    have HB6 := Lib.hid (HB5.out.trans (hb6.mono HB5.out.size))
    clear hb6
    go_wp2
    go_ret
    exact ⟨rfl, HB6.out⟩
  · have hpos : 0 < m := by omega
    obtain ⟨b, o, rfl, hlt, y, hy, hc, hst⟩ := hcell hpos
    obtain ⟨yi, hyi⟩ : ∃ yi : Int, yi = (y : Int) := ⟨_, rfl⟩
    rw [← hyi] at hc
    have HC := Lib.hid hc
    clear hcell hc hm h0
    by_cases g1 : y < 128
    · have k1 : yi < 128 := by omega
      have hst2 := hst (.inl g1)
      clear hst hyi hy g1
      obtain ⟨X, Y, hA, hB, hC, hX, hY⟩ := hrest hst2
      obtain ⟨q, hq⟩ : ∃ q, (la ++ lb).length = q := ⟨_, rfl⟩
      rw [hq] at hC
      have HQ := Lib.hid hq
      have GA := Lib.hid hA
      have GB := Lib.hid hB
      have GC : Hid (∀ wx a c, Src wx a c (la ++ lb) → Calls Try.prog 13 #[.slice a q c] wx fun e w' => e = .returned (.string (X ++ Y)) ∧ Below wx.heap.size wx w') := Lib.hid hC
      clear hst2 hq hA hB hC hrest
      go_enter Try.func9, Try.ntmps9
      go_wp2_with fail
      refine (shown_any _).mono ?_; rintro e w1 ⟨rfl, hb⟩
      have hbase : w.heap.size ≤ w1.heap.size := hb.size
      have HB := Lib.hid hb
      have HE := Lib.hid (fun C hC => made_empty w1 w.heap.size hb.size C hC)
      have hc := (hb.cell (p := ⟨b, o, none⟩) hlt).trans HC.out
      clear hb
      go_wp2_with (at_builtin; refine app_bytes rfl _ _ rfl w.heap.size _ [] rfl (HE.out _ rfl) a1 c1 n la HN.out rfl ?s1 ?n1 ?b1 ?_)
      case s1 => exact H1.out.below (HB.out.alloc HB.out.size _)
      case n1 => have := HN.out; first | (simp only [List.length_nil]; omega) | omega
      case b1 => first | (simp; omega) | omega
      intro v2 w2 hown2 hb2 _
      have hown2 : w2.ownsRow w.heap.size 5 1 v2 la.length (Lib.byteCells la) := by simpa [OwnB] using hown2
      have HO2 := Lib.hid hown2
      have HB2 := Lib.hid ((HB.out.alloc HB.out.size _).trans hb2.out)
      clear hown2 hb2 hc
      go_wp2_with (at_builtin; refine app_bytes rfl _ _ rfl w.heap.size _ la rfl HO2.out _ c2 m lb HM.out rfl ?s2 ?n2 ?b2 ?_)
      case s2 => exact H2.out.below HB2.out
      case n2 => have := HN.out; have := HM.out; omega
      case b2 => exact HB2.out.size
      intro v3 w3 hown3 hb3 _
      obtain ⟨a3, c3, rfl, _, hs3⟩ := own_src hown3
      have HB3 := Lib.hid (HB2.out.trans hb3.out)
      have HS3 := Lib.hid hs3
      have hq : (la ++ lb).length = q := HQ.out
      rw [hq]
      clear hown3 hb3 hs3 hq
      go_wp2_with fail
      refine (GC.out w3 a3 c3 HS3.out).mono ?_; rintro e w4 ⟨rfl, hb4⟩
      have HB4 := Lib.hid (HB3.out.trans (hb4.mono HB3.out.size))
      clear hb4
      go_wp2_with fail
      refine (GA.out _ HB4.out).mono ?_; rintro e w5 ⟨rfl, hb5⟩
      have HB5 := Lib.hid (HB4.out.trans (hb5.mono HB4.out.size))
      clear hb5
      go_wp2_with fail
      refine (GB.out _ HB5.out).mono ?_; rintro e w6 ⟨rfl, hb6⟩
      have HB6 := Lib.hid (HB5.out.trans (hb6.mono HB5.out.size))
      clear hb6
      go_wp2
      go_ret
      exact ⟨rfl, HB6.out⟩
    by_cases g2 : 191 < y
    · have k1 : 192 ≤ yi := by omega
      have k2 : 128 ≤ yi := by omega
      have hst2 := hst (.inr g2)
      clear hst hyi hy g1 g2
      obtain ⟨X, Y, hA, hB, hC, hX, hY⟩ := hrest hst2
      obtain ⟨q, hq⟩ : ∃ q, (la ++ lb).length = q := ⟨_, rfl⟩
      rw [hq] at hC
      have HQ := Lib.hid hq
      have GA := Lib.hid hA
      have GB := Lib.hid hB
      have GC : Hid (∀ wx a c, Src wx a c (la ++ lb) → Calls Try.prog 13 #[.slice a q c] wx fun e w' => e = .returned (.string (X ++ Y)) ∧ Below wx.heap.size wx w') := Lib.hid hC
      clear hst2 hq hA hB hC hrest
      go_enter Try.func9, Try.ntmps9
      go_wp2_with fail
      refine (shown_any _).mono ?_; rintro e w1 ⟨rfl, hb⟩
      have hbase : w.heap.size ≤ w1.heap.size := hb.size
      have HB := Lib.hid hb
      have HE := Lib.hid (fun C hC => made_empty w1 w.heap.size hb.size C hC)
      have hc := (hb.cell (p := ⟨b, o, none⟩) hlt).trans HC.out
      clear hb
      go_wp2_with (at_builtin; refine app_bytes rfl _ _ rfl w.heap.size _ [] rfl (HE.out _ rfl) a1 c1 n la HN.out rfl ?s1 ?n1 ?b1 ?_)
      case s1 => exact H1.out.below (HB.out.alloc HB.out.size _)
      case n1 => have := HN.out; first | (simp only [List.length_nil]; omega) | omega
      case b1 => first | (simp; omega) | omega
      intro v2 w2 hown2 hb2 _
      have hown2 : w2.ownsRow w.heap.size 5 1 v2 la.length (Lib.byteCells la) := by simpa [OwnB] using hown2
      have HO2 := Lib.hid hown2
      have HB2 := Lib.hid ((HB.out.alloc HB.out.size _).trans hb2.out)
      clear hown2 hb2 hc
      go_wp2_with (at_builtin; refine app_bytes rfl _ _ rfl w.heap.size _ la rfl HO2.out _ c2 m lb HM.out rfl ?s2 ?n2 ?b2 ?_)
      case s2 => exact H2.out.below HB2.out
      case n2 => have := HN.out; have := HM.out; omega
      case b2 => exact HB2.out.size
      intro v3 w3 hown3 hb3 _
      obtain ⟨a3, c3, rfl, _, hs3⟩ := own_src hown3
      have HB3 := Lib.hid (HB2.out.trans hb3.out)
      have HS3 := Lib.hid hs3
      have hq : (la ++ lb).length = q := HQ.out
      rw [hq]
      clear hown3 hb3 hs3 hq
      go_wp2_with fail
      refine (GC.out w3 a3 c3 HS3.out).mono ?_; rintro e w4 ⟨rfl, hb4⟩
      have HB4 := Lib.hid (HB3.out.trans (hb4.mono HB3.out.size))
      clear hb4
      go_wp2_with fail
      refine (GA.out _ HB4.out).mono ?_; rintro e w5 ⟨rfl, hb5⟩
      have HB5 := Lib.hid (HB4.out.trans (hb5.mono HB4.out.size))
      clear hb5
      go_wp2_with fail
      refine (GB.out _ HB5.out).mono ?_; rintro e w6 ⟨rfl, hb6⟩
      have HB6 := Lib.hid (HB5.out.trans (hb6.mono HB5.out.size))
      clear hb6
      go_wp2
      go_ret
      exact ⟨rfl, HB6.out⟩
    have k1 : yi < 192 := by omega
    have k2 : 128 ≤ yi := by omega
    clear hst hyi hy g1 g2 hrest
    go_enter Try.func9, Try.ntmps9
    go_wp2_with fail
    refine (shown_any _).mono ?_; rintro e w1 ⟨rfl, hb⟩
    have HB := Lib.hid hb
    have hc := (hb.cell (p := ⟨b, o, none⟩) hlt).trans HC.out
    clear hb
    go_wp2
    go_ret
    exact ⟨rfl, HB.out⟩
end Go.Proofs.Ytaahblbkigkfcaa
