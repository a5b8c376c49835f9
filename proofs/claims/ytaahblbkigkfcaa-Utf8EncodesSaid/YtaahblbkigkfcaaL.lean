/- Numbers are written as characters: the walk. -/
import Derived.Test.YtaahblbkigkfcaaK
set_option linter.unusedVariables false
namespace Go.Proofs.Ytaahblbkigkfcaa
open Go.RowKit

def i32s (l : List Int) : List Value := l.map (Value.int .i32)
/-- a row of numbers of the call's own -/
def OwnN (w : World) (base : Nat) (v : Value) (l : List Int) : Prop := w.ownsRow base 21 1 v l.length (i32s l)
theorem ownN_src {w : World} {base : Nat} {v : Value} {l : List Int} (h : OwnN w base v l) : ∃ a c, v = .slice a l.length c ∧ Nums w a l ∧ l.length ≤ c ∧ (a = none → l = [] ∧ c = 0) := by
  rcases h.2 with ⟨rfl, h0⟩ | ⟨g, cap, cur, rfl, hb, hg, h1, h2, h3, h4⟩
  · have : l = [] := List.eq_nil_of_length_eq_zero h0
    subst this
    exact ⟨none, 0, rfl, fun j hj => by simp at hj, by simp, fun _ => ⟨rfl, rfl⟩⟩
  · refine ⟨_, cap, rfl, fun j hj => ⟨g, 0, rfl, (Array.getElem?_eq_some_iff.1 hg).1, ?_⟩, h1, fun h => by cases h⟩
    have := World.ownsRow.cells h (g := g) rfl j (.int .i32 l[j]) (by simp [i32s, hj])
    rw [Lib.add_plain] at this
    exact this

theorem app_nums {w : World} {ops : Array Oper} {rest : List Oper} {o : Oper} {a : Act} {Q : Exit → Act → World → Prop} (hgd : o.guard = none) (s x : Operand)
    (ho : o.op = .call { callee := .builtin .append, args := #[s, x], argTypes := #[26, 26] }) (base : Nat) (v : Value) (xs : List Int) (hs : a.eval s = v) (hown : OwnN w base v xs)
    (ad : Option Addr) (c m : Nat) (l : List Int) (hm : l.length = m) (hx : a.eval x = .slice ad m c) (hsrc : Nums w ad l) (hnil : ad = none → l = [] ∧ c = 0) (hn : xs.length + l.length ≤ 35184372088832) (hbase : base ≤ w.heap.size)
    (h : ∀ v' w', OwnN w' base v' (xs ++ l) → Hid (Below base w w') → Hid (w.grownBy w' v.ownBlock) → wpList Try.prog ops Q rest (a.put o.dst v') w') : wpList Try.prog ops Q (o :: rest) a w := by
  subst hm
  obtain ⟨i0, hi, hz0, hz1, hz2⟩ := info_parts info21
  cases ad with
  | none =>
    obtain ⟨rfl, rfl⟩ := hnil rfl
    refine wpList_append_own_none hgd s x 26 ho base 21 i0 1 Try.underlying26 hi v _ _ hs hown hx ?_
    exact h v w (by rw [List.append_nil]; exact hown) (Lib.hid (Below.refl _ _)) (Lib.hid ⟨rfl, rfl, rfl, Nat.le_refl _, fun _ _ _ => rfl⟩)
  | some ad =>
    refine wpList_append_own w hgd s x 26 ho base 21 i0 (.int .i32 0) 1 4 Try.underlying26 hi hz0 hz1 hz2 rfl (by decide) v _ _ hs hown ad l.length c (i32s l) hx (by simp [i32s]) ?_ ?_ (by unfold maxLen; omega) (by omega) hbase ?_
    · intro j u hj
      obtain ⟨hjl, rfl⟩ := List.getElem?_eq_some_iff.1 hj
      have hjl' : j < l.length := by simpa [i32s] using hjl
      obtain ⟨b, o, he, _, hr⟩ := hsrc j hjl'
      cases he
      rw [Lib.add_plain, hr]
      simp [i32s]
    · intro u hu; simp only [i32s, List.mem_map] at hu; obtain ⟨x, _, rfl⟩ := hu; rfl
    · intro v' w' h1 h2 _
      refine h v' w' ?_ (Lib.hid ((Below.refl _ _).grown h2 hbase (fun k hk => (World.ownsRow.lt hown k hk).1))) (Lib.hid h2)
      unfold OwnN
      rw [List.length_append, show i32s (xs ++ l) = i32s xs ++ i32s l by simp [i32s]]
      exact h1
theorem made_emptyN (w : World) (base : Nat) (h : base ≤ w.heap.size) (C : Array Value) (hC : C = #[]) : OwnN (w.alloc (.cells C 21)) base (.slice (some ⟨w.heap.size, 0, none⟩) 0 0) [] := by
  subst hC
  exact World.ownsRow_made w #[] 0 h (by unfold maxLen; omega) (by simp)

set_option maxHeartbeats 4000000 in
theorem encodes_walk (w : World) (a1 : Option Addr) (c1 : Nat) (l : List Int) (h1 : Nums w a1 l) (hnil : a1 = none → l = [] ∧ c1 = 0) (hl1 : l.length ≤ 35184372088832) (hb32 : ∀ x ∈ l, -2147483648 ≤ x ∧ x ≤ 2147483647) :
    Calls Try.prog 4 #[.slice a1 l.length c1] w fun e w' => e = .returned (.bool true) ∧ Below w.heap.size w w' := by
  have henc : ∀ wx a c, Nums wx a l → Calls Try.prog 21 #[.slice a l.length c] wx fun e w' => e = .returned (.string ⟨(encs l).toArray⟩) ∧ Below wx.heap.size wx w' := fun wx a c hn => encode_any a c l wx hn (by omega)
  have href : ∀ wx, Below w.heap.size w wx → Calls Try.prog 22 #[.slice a1 l.length c1] wx fun e w' => e = .returned (.string ⟨(encs l).toArray⟩) ∧ Below wx.heap.size wx w' := fun wx hb => refenc_any a1 c1 l wx (h1.below (Nat.le_refl _) hb) (by omega) hb32
  have hrun : ∀ wx a c, Nums wx a l → Below w.heap.size w wx → Calls Try.prog 17 #[.slice a l.length c, .slice a1 l.length c1] wx fun e w' => e = .returned (.bool true) ∧ Below wx.heap.size wx w' := fun wx a c hn hb => lrunes_any a a1 c c1 l wx hn (h1.below (Nat.le_refl _) hb) (by omega)
  generalize (ByteArray.mk (encs l).toArray) = X at henc href
  obtain ⟨n, hn⟩ : ∃ n, l.length = n := ⟨_, rfl⟩
  rw [hn] at henc href hrun hl1 ⊢
  have HN := Lib.hid hn
  have H1 := Lib.hid h1
  have HNil := Lib.hid hnil
  have HE := Lib.hid henc
  have HF := Lib.hid href
  have HR := Lib.hid hrun
  clear h1 hnil henc href hrun hb32 hn
  go_enter Try.func4, Try.ntmps4
  go_wp2_with fail
  refine (shown_any _).mono ?_; rintro e w1 ⟨rfl, hb⟩
  have hbase : w.heap.size ≤ w1.heap.size := hb.size
  have HB := Lib.hid hb
  have HM := Lib.hid (fun C hC => made_emptyN w1 w.heap.size hb.size C hC)
  clear hb
  go_wp2_with (at_builtin; refine app_nums rfl _ _ rfl w.heap.size _ [] rfl (HM.out _ rfl) a1 c1 n l HN.out rfl ?s1 HNil.out ?n1 ?b1 ?_)
  case s1 => exact H1.out.below (Nat.le_refl _) (HB.out.alloc HB.out.size _)
  case n1 => have := HN.out; simp only [List.length_nil]; omega
  case b1 => first | (simp; omega) | omega
  intro v2 w2 hown2 hb2 _
  have hown2 : OwnN w2 w.heap.size v2 l := by simpa using hown2
  obtain ⟨a2, c2, rfl, hn2, _, _⟩ := ownN_src hown2
  have HN2 := Lib.hid hn2
  have HB2 := Lib.hid ((HB.out.alloc HB.out.size _).trans hb2.out)
  rw [HN.out]
  clear hown2 hb2 hn2
  go_wp2_with fail
  refine (HE.out w2 a2 c2 HN2.out).mono ?_; rintro e w3 ⟨rfl, hb⟩
  have HB3 := Lib.hid (HB2.out.trans (hb.mono HB2.out.size))
  have HN3 := Lib.hid (HN2.out.below (Nat.le_refl _) hb)
  clear hb
  go_wp2_with fail
  refine (HF.out w3 HB3.out).mono ?_; rintro e w4 ⟨rfl, hb⟩
  have HB4 := Lib.hid (HB3.out.trans (hb.mono HB3.out.size))
  have HN4 := Lib.hid (HN3.out.below (Nat.le_refl _) hb)
  clear hb
  go_wp2_with fail
  refine (HR.out w4 a2 c2 HN4.out HB4.out).mono ?_; rintro e w5 ⟨rfl, hb⟩
  have HB5 := Lib.hid (HB4.out.trans (hb.mono HB4.out.size))
  clear hb
  go_wp2
  go_ret
  exact ⟨rfl, HB5.out⟩
end Go.Proofs.Ytaahblbkigkfcaa
