/- Harden: what goes no further than the next hop. -/
import Derived.Test.YthkgaaibhjkngaaGreatDoorHC
import Derived.Maps.AppendAt
set_option linter.unusedVariables false
namespace Go.Proofs.YthkgaaibhjkngaaGreatDoor
open Go.RowKit

theorem lit_flds (l : AL) (C : Array Value) (hC : C = (flat l).toArray) (wx : World) : SrcA (wx.alloc (.cells C 37)) (some ⟨wx.heap.size, 0, none⟩) l.length l := by
  refine ⟨fun j hj => ?_, Nat.le_refl _, fun h => by cases h⟩
  obtain ⟨h1, h2⟩ := flat_at l j hj
  refine ⟨_, 0, rfl, by simp, ?_, ?_⟩
  · rw [(at_alloc wx C 37 _).1, hC, Nat.zero_add, List.getElem?_toArray]; exact h1
  · rw [(at_alloc wx C 37 _).1, hC, Nat.zero_add, List.getElem?_toArray]; exact h2
theorem lit_strl (l : List ByteArray) (C : Array Value) (hC : C = (strs l).toArray) (wx : World) : SrcS (wx.alloc (.cells C 9)) (some ⟨wx.heap.size, 0, none⟩) l.length l := by
  refine ⟨fun j hj => ?_, Nat.le_refl _, fun h => by cases h⟩
  refine ⟨_, 0, rfl, by simp, ?_⟩
  rw [(at_alloc wx C 9 _).1, hC, Nat.zero_add, List.getElem?_toArray]
  simp [strs, hj]
theorem lit_ownS (w : World) (base : Nat) (l : List ByteArray) (C : Array Value) (hC : C = (strs l).toArray) (h : base ≤ w.heap.size) (hl : l.length ≤ 1000) : OwnS (w.alloc (.cells C 9)) base (.slice (some ⟨w.heap.size, 0, none⟩) l.length l.length) l := by
  subst hC
  refine ⟨by simp [strs], .inr ⟨w.heap.size, l.length, (strs l).toArray, rfl, h, by show (w.heap.push _)[w.heap.size]? = _; simp, Nat.le_refl _, by unfold maxLen; omega, by simp [strs], ?_⟩⟩
  rw [Nat.mul_one, List.take_of_length_le (by simp [strs])]
theorem srcS_grown {w w' : World} {a : Option Addr} {c : Nat} {l : List ByteArray} {row : Option Nat} (h : SrcS w a c l) (hg : w.grownBy w' row) (hne : ∀ b o, a = some ⟨b, o, none⟩ → row ≠ some b) : SrcS w' a c l :=
  ⟨fun j hj => by
    obtain ⟨b, o, h1, h2, h3⟩ := h.at_ j hj
    exact ⟨b, o, h1, Nat.lt_of_lt_of_le h2 hg.size, (grown_far hg b _ h2 (hne b o h1)).trans h3⟩, h.cap, h.nil⟩
theorem ownS_far {w : World} {base : Nat} {v : Value} {l : List ByteArray} (h : OwnS w base v l) : ∃ a c, v = .slice a l.length c ∧ SrcS w a c l ∧ ∀ b o, a = some ⟨b, o, none⟩ → base ≤ b ∧ b < w.heap.size := by
  rcases h.2 with ⟨rfl, h0⟩ | ⟨g, cap, cur, rfl, hb, hg, h1, h2, h3, h4⟩
  · have : l = [] := List.eq_nil_of_length_eq_zero h0
    subst this
    exact ⟨none, 0, rfl, ⟨fun j hj => by simp at hj, by simp, fun _ => ⟨rfl, rfl⟩⟩, fun b o e => by cases e⟩
  · obtain ⟨a, c, he, hs⟩ := ownS_src h
    cases he
    exact ⟨_, _, rfl, hs, fun b o e => by cases e; exact ⟨hb, (Array.getElem?_eq_some_iff.1 hg).1⟩⟩
/-- one string appended; where the row lies then -/
theorem app_str_at {w : World} {ops : Array Oper} {rest : List Oper} {o : Oper} {a : Act} {Q : Exit → Act → World → Prop} (hgd : o.guard = none) (s x : Operand)
    (ho : o.op = .call { callee := .builtin .append, args := #[s, x], argTypes := #[75, 75] }) (base : Nat) (v : Value) (xs : List ByteArray) (hs : a.eval s = v) (hown : OwnS w base v xs)
    (ad : Addr) (m : ByteArray) (hx : a.eval x = .slice (some ad) 1 1) (hc : w.cell? ad = some (.string m)) (hn : (xs.length + 1) * 16 ≤ 140737488355328) (hbase : base ≤ w.heap.size)
    (h : ∀ v' w', OwnS w' base v' (xs ++ [m]) → Hid (Below base w w') → Hid (w.grownBy w' v.ownBlock) → (v'.ownBlock = v.ownBlock ∨ v'.ownBlock = some w.heap.size) → wpList Tryz.prog ops Q rest (a.put o.dst v') w') : wpList Tryz.prog ops Q (o :: rest) a w := by
  obtain ⟨i0, hi, hz0, hz1, hz2⟩ := info_parts info9
  refine wpList_append_own_at w hgd s x 75 ho base 9 i0 (.string ⟨#[]⟩) 1 16 Tryz.underlying75 hi hz0 hz1 hz2 rfl (by decide) v _ _ hs hown ad 1 1 [.string m] hx rfl ?_ ?_ (by unfold maxLen; omega) hn hbase ?_
  · intro k u hk
    cases k with
    | zero =>
      simp only [List.getElem?_cons_zero, Option.some.injEq] at hk
      subst hk
      have : ad.add 0 = ad := by unfold Addr.add; split <;> simp_all
      rw [this]; exact hc
    | succ k => simp at hk
  · intro u hu; simp only [List.mem_singleton] at hu; subst hu; rfl
  · intro v' w' h1 h2 _ h3
    refine h v' w' ?_ (Lib.hid ((Below.refl _ _).grown h2 hbase (fun k hk => (World.ownsRow.lt hown k hk).1))) (Lib.hid h2) h3
    unfold OwnS
    rw [List.length_append]
    rw [show strs (xs ++ [m]) = strs xs ++ [.string m] by simp [strs]]
    exact h1

def hop8 : List ByteArray := [⟨#[67, 111, 110, 110, 101, 99, 116, 105, 111, 110]⟩, ⟨#[75, 101, 101, 112, 45, 65, 108, 105, 118, 101]⟩, ⟨#[80, 114, 111, 120, 121, 45, 67, 111, 110, 110, 101, 99, 116, 105, 111, 110]⟩, ⟨#[84, 69]⟩, ⟨#[84, 114, 97, 105, 108, 101, 114]⟩, ⟨#[84, 114, 97, 110, 115, 102, 101, 114, 45, 69, 110, 99, 111, 100, 105, 110, 103]⟩, ⟨#[85, 112, 103, 114, 97, 100, 101]⟩, ⟨#[67, 111, 110, 116, 101, 110, 116, 45, 76, 101, 110, 103, 116, 104]⟩]
def kHost : ByteArray := ⟨#[104, 111, 115, 116]⟩
def memsF (l : AL) (X : ByteArray) : List ByteArray := match memF (allF l X) with
  | none => []
  | some ms => ms.map mk
def hopF (l : AL) : List ByteArray := hop8 ++ (memsF l ⟨#[99, 111, 110, 110, 101, 99, 116, 105, 111, 110]⟩).filter fun m => !sameB m kHost
theorem memsF_bsz (l : AL) (X : ByteArray) : bsz (memsF l X) ≤ asz l := by
  unfold memsF
  cases q : memF (allF l X) with
  | none => simp [bsz]
  | some ms =>
    have h1 := memF_msz _ ms q
    have h2 := allF_bsz l X
    show bsz (ms.map mk) ≤ _
    rw [bsz_mk]; omega
theorem filter_bsz (P : ByteArray → Bool) (l : List ByteArray) : bsz (l.filter P) ≤ bsz l := by
  induction l with
  | nil => simp
  | cons p r ih => rw [List.filter_cons]; split <;> simp only [bsz] <;> omega
theorem hopF_bsz (l : AL) : bsz (hopF l) ≤ 200 + asz l := by
  have h1 := memsF_bsz l ⟨#[99, 111, 110, 110, 101, 99, 116, 105, 111, 110]⟩
  have h2 := filter_bsz (fun m => !sameB m kHost) (memsF l ⟨#[99, 111, 110, 110, 101, 99, 116, 105, 111, 110]⟩)
  have h3 : bsz hop8 ≤ 200 := by decide
  unfold hopF
  rw [bsz_app]; omega
theorem mems_any (l : AL) (X : ByteArray) (a : Option Addr) (n c : Nat) (w : World) (hn : l.length = n) (hs : SrcA w a c l) (hz : asz l ≤ 1073741824) (hX : X.size ≤ 1073741824) :
    Calls Tryz.prog 58 #[.slice a n c, .string X] w fun e w' => Below w.heap.size w w' ∧ ∃ v k, e = .returned (.tuple #[v, .int .i64 k]) ∧ OwnS w' w.heap.size v (memsF l X) := by
  refine (members_any l X a n c w hn hs hz hX).mono fun e w' h => ?_
  unfold ListSays at h
  unfold memsF
  cases q : memF (allF l X) with
  | none => rw [q] at h; exact ⟨h.1, _, _, h.2, World.ownsRow_nil _ _ _ _⟩
  | some ms => rw [q] at h; obtain ⟨h1, v, h2, h3⟩ := h; exact ⟨h1, v, _, h2, h3⟩
theorem filt_take (P : ByteArray → Bool) (l : List ByteArray) (k : Nat) (hk : k < l.length) : (l.take (k + 1)).filter P = (l.take k).filter P ++ (if P l[k] = true then [l[k]] else []) := by
  rw [List.take_succ_eq_append_getElem hk, List.filter_append]
  congr 1
  cases h : P l[k] <;> simp [h]

set_option maxHeartbeats 8000000 in
set_option maxRecDepth 100000 in
theorem hop_any (l : AL) (a : Option Addr) (n c : Nat) (w : World) (hn : l.length = n) (hs : SrcA w a c l) (hz : asz l ≤ 16777216) :
    Calls Tryz.prog 99 #[.slice a n c] w (StrsSays (hopF l) w) := by
  obtain ⟨wA, hA⟩ : ∃ wA, wA = w.alloc (.cells #[.string ⟨#[67, 111, 110, 110, 101, 99, 116, 105, 111, 110]⟩, .string ⟨#[75, 101, 101, 112, 45, 65, 108, 105, 118, 101]⟩, .string ⟨#[80, 114, 111, 120, 121, 45, 67, 111, 110, 110, 101, 99, 116, 105, 111, 110]⟩, .string ⟨#[84, 69]⟩, .string ⟨#[84, 114, 97, 105, 108, 101, 114]⟩, .string ⟨#[84, 114, 97, 110, 115, 102, 101, 114, 45, 69, 110, 99, 111, 100, 105, 110, 103]⟩, .string ⟨#[85, 112, 103, 114, 97, 100, 101]⟩, .string ⟨#[67, 111, 110, 116, 101, 110, 116, 45, 76, 101, 110, 103, 116, 104]⟩] 9) := ⟨_, rfl⟩
  have hbA : Below w.heap.size w wA := by rw [hA]; exact (Below.refl _ _).alloc (Nat.le_refl _) _
  have hm := mems_any l ⟨#[99, 111, 110, 110, 101, 99, 116, 105, 111, 110]⟩ a n c wA hn (hs.below (Nat.le_refl _) hbA) (by omega) (by decide)
  have hz2 := memsF_bsz l ⟨#[99, 111, 110, 110, 101, 99, 116, 105, 111, 110]⟩
  have hF : hopF l = hop8 ++ (memsF l ⟨#[99, 111, 110, 110, 101, 99, 116, 105, 111, 110]⟩).filter fun m => !sameB m kHost := rfl
  have ho : OwnS wA w.heap.size (.slice (some ⟨w.heap.size, 0, none⟩) 8 8) hop8 := by rw [hA]; exact lit_ownS w w.heap.size hop8 _ rfl (Nat.le_refl _) (by decide)
  obtain ⟨R, hR⟩ : ∃ R, R = hopF l := ⟨_, rfl⟩
  rw [← hR] at hF ⊢
  generalize memsF l ⟨#[99, 111, 110, 110, 101, 99, 116, 105, 111, 110]⟩ = L at hm hz2 hF
  have hgA : w.heap.size < wA.heap.size := by rw [hA]; simp
  have h8 : hop8.length = 8 := rfl
  generalize hop8 = T at hF ho h8
  have HM := Lib.hid hm
  have HO := Lib.hid ho
  have HF := Lib.hid hF
  have HA := Lib.hid hA
  have HBA := Lib.hid hbA
  have H8 := Lib.hid h8
  have HZ := Lib.hid (Nat.le_trans hz2 hz)
  clear hm ho hF hA hbA hn hs hz hz2 hR h8
  go_enter Tryz.func99, Tryz.ntmps99
  go_wp2_with fail
  rw [← HA.out]
  refine HM.out.mono ?_; rintro e w1 ⟨hb, v, k, rfl, hown⟩
  obtain ⟨a1, c1, hv, hsrc, hfar⟩ := ownS_far hown
  have hnl := bsz_len L
  have hz := HZ.out
  obtain ⟨n1, hn1⟩ : ∃ n1, L.length = n1 := ⟨_, rfl⟩
  rw [hn1] at hv hnl
  subst hv
  have hnb : n1 ≤ 16777216 := by omega
  have HB1 : Hid (Below w.heap.size w w1) := Lib.hid (HBA.out.trans (hb.mono HBA.out.size))
  have HO1 := Lib.hid (ownS_below HO.out hb)
  have HS1 := Lib.hid hsrc
  have HN := Lib.hid hn1
  have HFR := Lib.hid hfar
  have hw1 : wA.heap.size ≤ w1.heap.size := hb.size
  clear hb hown hsrc hn1 hnl hz hfar
  go_wp2_with fail
  go_loopw [3, 16] (fun v i wr => ∃ k : Nat, k ≤ n1 ∧ i = .int .i64 k ∧ OwnS wr w.heap.size v (T ++ (L.take k).filter fun m => !sameB m kHost) ∧ SrcS wr a1 c1 L ∧ (∀ b o, a1 = some ⟨b, o, none⟩ → b < wr.heap.size ∧ v.ownBlock ≠ some b) ∧ Below w.heap.size w wr) (fun _ i _ => n1 - (intOf i).toNat)
  case atStart => exact ⟨0, by omega, rfl, by simpa using HO1.out, HS1.out, fun b o e => ⟨(HFR.out b o e).2, fun h => by have := (HFR.out b o e).1; simp [Value.ownBlock] at h; omega⟩, HB1.out⟩
  case round =>
    obtain ⟨k, hk, rfl, hown, hsr, hfr, hb⟩ := hrel
    have HB := Lib.hid hb
    have HSR := Lib.hid hsr
    have HFR2 := Lib.hid hfr
    by_cases hlt : k < n1
    case neg =>
      have hkn : k = L.length := by rw [HN.out]; omega
      rw [hkn, List.take_length, ← HF.out] at hown
      have HO := Lib.hid hown
      obtain ⟨a3, c3, hv3, _⟩ := ownS_src hown
      subst hv3
      clear hb hown hkn hsr hfr
      go_wp2
      go_ret
      exact strsSays HB.out HO.out
    case pos =>
      have hkl : k < L.length := by rw [HN.out]; exact hlt
      obtain ⟨b0, o0, rfl, hb0, d1⟩ := hsr.at_ k hkl
      have hat := bsz_at L k hkl
      have hz := HZ.out
      have hstep := filt_take (fun m => !sameB m kHost) L k hkl
      have hcl : ((L.take k).filter fun m => !sameB m kHost).length ≤ k := by
        have := List.length_filter_le (fun m => !sameB m kHost) (L.take k)
        rw [List.length_take] at this; omega
      generalize L[k] = Nm at d1 hat hstep
      obtain ⟨cur, hcur⟩ : ∃ cur, (L.take k).filter (fun m => !sameB m kHost) = cur := ⟨_, rfl⟩
      rw [hcur] at hstep hcl hown
      have hsm : ∀ wx, Calls Tryz.prog 61 #[.string Nm, .string ⟨#[104, 111, 115, 116]⟩] wx fun e w' => e = .returned (.bool (sameB Nm kHost)) ∧ Below wx.heap.size wx w' := fun wx => same_any Nm ⟨#[104, 111, 115, 116]⟩ wx (by omega) (by decide)
      have HO := Lib.hid hown
      cases q : sameB Nm kHost with
      | true =>
        rw [q] at hsm hstep
        simp only [Bool.not_true, Bool.false_eq_true, if_false, List.append_nil] at hstep
        have HSM := Lib.hid hsm
        have HST := Lib.hid hstep
        clear hsm hstep q hcur hkl hown hb hat hz hcl hsr hfr
        go_wp2_with fail
        refine (HSM.out _).mono ?_; rintro e w2 ⟨rfl, hb⟩
        have HB2 : Hid (Below w.heap.size w w2) := Lib.hid (HB.out.trans (hb.mono HB.out.size))
        have HO2 : Hid (OwnS w2 w.heap.size _ (T ++ (L.take (k + 1)).filter fun m => !sameB m kHost)) := Lib.hid (by rw [HST.out]; exact ownS_below HO.out hb)
        have HS2 := Lib.hid (HSR.out.below hb)
        have HF2 := Lib.hid (fun b o e => show b < w2.heap.size ∧ _ from ⟨Nat.lt_of_lt_of_le (HFR2.out b o e).1 hb.size, (HFR2.out b o e).2⟩)
        clear hb
        go_wp2
        go_roundw
        case rel => exact ⟨k + 1, by omega, by go_num, HO2.out, HS2.out, HF2.out, HB2.out⟩
        case measure => simp [intOf]; omega
      | false =>
        rw [q] at hsm hstep
        simp only [Bool.not_false, if_true] at hstep
        have HSM := Lib.hid hsm
        have HST := Lib.hid hstep
        clear hsm hstep q hcur hkl hown hb hat hz hsr hfr
        go_wp2_with fail
        refine (HSM.out _).mono ?_; rintro e w2 ⟨rfl, hb⟩
        have HB2 : Hid (Below w.heap.size w w2) := Lib.hid (HB.out.trans (hb.mono HB.out.size))
        have HO2 : Hid (OwnS (w2.alloc (.cells #[.string Nm] 9)) w.heap.size _ (T ++ cur)) := Lib.hid (ownS_alloc (ownS_below HO.out hb) _)
        have HS2 : Hid (SrcS (w2.alloc (.cells #[.string Nm] 9)) _ c1 L) := Lib.hid ((HSR.out.below hb).below ((Below.refl _ _).alloc (Nat.le_refl _) _))
        have HF2 := Lib.hid (fun b o e => show b < w2.heap.size ∧ _ from ⟨Nat.lt_of_lt_of_le (HFR2.out b o e).1 hb.size, (HFR2.out b o e).2⟩)
        have HZ2 : Hid (w.heap.size ≤ (w2.alloc (.cells #[.string Nm] 9)).heap.size) := Lib.hid (by have := HB2.out.size; simp; omega)
        have HTL : Hid ((T ++ cur).length ≤ 16777300) := Lib.hid (by rw [List.length_append, H8.out]; omega)
        clear hb hcl
        go_wp2_with (at_builtin; refine app_str_at rfl _ _ rfl w.heap.size _ (T ++ cur) rfl HO2.out _ Nm rfl (lit_str Nm w2) ?n2 HZ2.out ?_)
        case n2 => have := HTL.out; omega
        intro v3 w3 hown3 hb3 hg3 hat3
        have HO3 : Hid (OwnS w3 w.heap.size v3 (T ++ (L.take (k + 1)).filter fun m => !sameB m kHost)) := Lib.hid (by rw [HST.out]; exact hown3)
        have HB3 : Hid (Below w.heap.size w w3) := Lib.hid ((HB2.out.alloc HB2.out.size _).trans hb3.out)
        have HS3 := Lib.hid (srcS_grown HS2.out hg3.out (fun b o e => (HF2.out b o e).2))
        have HF3 := Lib.hid (fun b o e => show b < w3.heap.size ∧ v3.ownBlock ≠ some b from ⟨by
          have h1 := (HF2.out b o e).1
          have h2 := hg3.out.size
          simp at h2; omega, by
          rcases hat3 with h | h
          · rw [h]; exact (HF2.out b o e).2
          · rw [h]; have h1 := (HF2.out b o e).1; simp; omega⟩)
        clear hown3 hb3 hg3 hat3
        go_wp2
        go_roundw
        case rel => exact ⟨k + 1, by omega, by go_num, HO3.out, HS3.out, HF3.out, HB3.out⟩
        case measure => simp [intOf]; omega

theorem hwo_any (l : AL) (ns : List ByteArray) (a b : Option Addr) (n c m d : Nat) (w : World) (hn : l.length = n) (hm : ns.length = m) (hs : SrcA w a c l) (hs2 : SrcS w b d ns) (hz : asz l ≤ 16777216) (hz2 : bsz ns ≤ 1000) :
    Calls Tryz.prog 56 #[.slice a n c, .slice b m d] w (FldsSays (woF l (hopF l ++ ns)) w) := by
  have h1 := hop_any l a n c w hn hs hz
  have hz3 := hopF_bsz l
  generalize hopF l = T at h1 hz3 ⊢
  have hnb : ns.length ≤ 1000 := by have := bsz_len ns; omega
  have htb : T.length ≤ 16777416 := by have := bsz_len T; omega
  have hW := fun (b : Option Addr) d m wx (hb : Below w.heap.size w wx) (hl : (T ++ ns).length = m) (hs2 : SrcS wx b d (T ++ ns)) => without_any l (T ++ ns) a b n c m d wx hn hl (hs.below (Nat.le_refl _) hb) hs2 (by omega) (by rw [bsz_app]; omega)
  generalize woF l (T ++ ns) = R at hW ⊢
  have H1 := Lib.hid h1
  have HW := Lib.hid hW
  have HS2 := Lib.hid hs2
  have HM := Lib.hid hm
  clear h1 hW hs2 hs hz hz2 hz3 hn hm
  go_enter Tryz.func56, Tryz.ntmps56
  go_wp2_with fail
  refine H1.out.mono ?_; rintro e w1 ⟨hb, v, rfl, hown⟩
  have HB1 := Lib.hid hb
  have HO1 := Lib.hid hown
  have HS3 := Lib.hid (HS2.out.below hb)
  clear hb hown
  go_wp2_with (at_builtin; refine app_strs rfl _ _ rfl w.heap.size _ T rfl HO1.out _ _ m ns HM.out rfl HS3.out ?n2 HB1.out.size ?_)
  case n2 => omega
  intro v3 w3 hown3 hb3 hg3
  obtain ⟨a3, c3, hv3, hsrc⟩ := ownS_src hown3
  obtain ⟨m3, hm3⟩ : ∃ m3, (T ++ ns).length = m3 := ⟨_, rfl⟩
  rw [hm3] at hv3
  subst hv3
  have HB3 : Hid (Below w.heap.size w w3) := Lib.hid (HB1.out.trans hb3.out)
  have HS4 := Lib.hid hsrc
  have HM3 := Lib.hid hm3
  clear hown3 hb3 hg3 hsrc hm3
  go_wp2_with fail
  refine (HW.out _ _ _ _ HB3.out HM3.out HS4.out).mono ?_; rintro e w4 ⟨hb, v, rfl, hown⟩
  have HB4 : Hid (Below w.heap.size w w4) := Lib.hid (HB3.out.trans (hb.mono HB3.out.size))
  have HO4 := Lib.hid (ownF_mono hown HB3.out.size)
  clear hb hown
  go_wp2
  go_ret
  exact fldsSays HB4.out HO4.out
end Go.Proofs.YthkgaaibhjkngaaGreatDoor
