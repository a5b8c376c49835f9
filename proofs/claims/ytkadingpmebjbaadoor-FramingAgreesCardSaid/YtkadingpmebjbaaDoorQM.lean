/- FramingAgrees. -/
import Derived.Test.YtkadingpmebjbaaDoorQL
set_option linter.unusedVariables false
namespace Go.Proofs.YtkadingpmebjbaaDoor
open Go.RowKit

def NumsI (w : World) (a : Option Addr) (l : List Int) : Prop := ∀ j (h : j < l.length), ∃ b o, a = some ⟨b, o, none⟩ ∧ b < w.heap.size ∧ w.cell? ⟨b, o + j, none⟩ = some (.int .i64 l[j])
theorem numsI_at {w w' : World} {a : Option Addr} {l : List Int} (h : NumsI w a l) (k : Nat) (hk : k < l.length) (hb : Below w.heap.size w w') :
    ∃ b o, a = some ⟨b, o, none⟩ ∧ b < w'.heap.size ∧ w'.cell? ⟨b, o + k, none⟩ = some (.int .i64 l[k]) ∧ w'.cell? ⟨b, o, none⟩ = some (.int .i64 (l.headD 0)) := by
  obtain ⟨b, o, h1, h2, h3⟩ := h k hk
  obtain ⟨b', o', h1', h2', h3'⟩ := h 0 (by omega)
  rw [h1] at h1'
  simp only [Option.some.injEq, Addr.mk.injEq] at h1'
  obtain ⟨rfl, rfl, _⟩ := h1'
  have e : l[0]'(by omega) = l.headD 0 := by cases l with | nil => simp at hk | cons _ _ => rfl
  rw [e, Nat.add_zero] at h3'
  exact ⟨b, o, h1, Nat.lt_of_lt_of_le h2 hb.size, (hb.cell (p := ⟨b, o + k, none⟩) h2).trans h3, (hb.cell (p := ⟨b, o, none⟩) h2).trans h3'⟩
def allS (l : List Int) (k : Nat) : Bool := (l.take k).all (· == l.headD 0)
theorem allS_step (l : List Int) (k : Nat) (hk : k < l.length) : allS l (k + 1) = (allS l k && (l[k] == l.headD 0)) := by
  unfold allS
  rw [List.take_succ_eq_append_getElem hk, List.all_append]; simp
theorem aloneF_take (l : List Int) (k : Nat) (hk : k < l.length) : aloneF (l.take (k + 1)) = aloneF (l.take k) ++ [(cl1, mk (dstr l[k]))] := by
  unfold aloneF
  rw [List.take_succ_eq_append_getElem hk, List.map_append]; rfl
theorem txtN_take (l : List Int) (k : Nat) (hk : k < l.length) : txtN (l.take (k + 1)) = if k = 0 then dstr l[k] else txtN (l.take k) ++ gap ++ dstr l[k] := by
  rw [List.take_succ_eq_append_getElem hk, txtN_snoc]
  by_cases h : k = 0
  · subst h; simp
  · rw [if_neg h, if_neg]; intro e; rw [List.take_eq_nil_iff] at e; rcases e with e | e; exact h e; rw [e] at hk; simp at hk
theorem aloneF_asz (L : List Int) (h : ∀ z ∈ L, z ≤ 9223372036854775807) : asz (aloneF L) ≤ 40 * L.length := by
  induction L with
  | nil => simp [aloneF, asz]
  | cons z r ih =>
    have h1 := dstr_len z (h z (by simp))
    have h2 := ih fun y hy => h y (by simp [hy])
    have e1 : (mk (dstr z)).size = (dstr z).length := size_mk _
    have e2 : cl1.size = 14 := rfl
    unfold aloneF at h2 ⊢
    simp only [List.map_cons, asz, e1, e2, List.length_cons]; omega
theorem aloneF_len (L : List Int) : (aloneF L).length = L.length := by unfold aloneF; rw [List.length_map]

/-- what the three calls say of fields that have lengths alone -/
def Three (m : AL) (n : Nat) (ka kb kc ja jb jc : Int) : Prop :=
  (∀ (a : Option Addr) c wx, SrcA wx a c m → Calls Tryd.prog 37 #[.agg #[.string ⟨#[]⟩, .string ⟨#[]⟩, .slice a n c]] wx fun e w' => e = .returned (.tuple #[.agg #[.int .i64 ka, .int .i64 kb], .int .i64 kc]) ∧ Below wx.heap.size wx w') ∧
  (∀ (a : Option Addr) c wx, SrcA wx a c m → Calls Tryd.prog 38 #[.string ⟨#[71, 69, 84]⟩, .agg #[.int .i64 200, .string ⟨#[]⟩, .slice a n c]] wx fun e w' => e = .returned (.tuple #[.agg #[.int .i64 ka, .int .i64 kb], .int .i64 kc]) ∧ Below wx.heap.size wx w') ∧
  (∀ (a : Option Addr) c wx, SrcA wx a c m → Calls Tryd.prog 38 #[.string ⟨#[72, 69, 65, 68]⟩, .agg #[.int .i64 200, .string ⟨#[]⟩, .slice a n c]] wx fun e w' => e = .returned (.tuple #[.agg #[.int .i64 ja, .int .i64 jb], .int .i64 jc]) ∧ Below wx.heap.size wx w')
theorem three_any (m : AL) (n : Nat) (hn : m.length = n) (hz : asz m ≤ 1073741824) (h1 : allF m kTE = []) (h2 : 0 < (allF m kCL).length) :
    Three m n (agr (flen m) false).kind (agr (flen m) false).len (agr (flen m) false).code (agr (flen m) true).kind (agr (flen m) true).len (agr (flen m) true).code := by
  have e1 := agr_body m false 0 h1 h2
  have e2 := agr_body m false 3 h1 h2
  have e3 := agr_body m true 3 h1 h2
  have n1 : nob ⟨#[71, 69, 84]⟩ 200 = false := by decide
  have n2 : nob ⟨#[72, 69, 65, 68]⟩ 200 = true := by decide
  refine ⟨fun a c wx hs => ?_, fun a c wx hs => ?_, fun a c wx hs => ?_⟩
  · have := greq_any m ⟨#[]⟩ ⟨#[]⟩ a n c wx hn hs hz
    rw [e1] at this; exact this
  · have := gresp_any m ⟨#[71, 69, 84]⟩ ⟨#[]⟩ 200 a n c wx hn hs hz
    rw [n1, e2] at this; exact this
  · have := gresp_any m ⟨#[72, 69, 65, 68]⟩ ⟨#[]⟩ 200 a n c wx hn hs hz
    rw [n2, e3] at this; exact this
/-- the three ways -/
def Ways (l : List Int) (k : Nat) (ka kb kc ja jb jc : Int) : Prop :=
  (allS l k = false ∧ ka = 0 ∧ kb = 0 ∧ kc = 20 ∧ ja = 0 ∧ jb = 0 ∧ jc = 20) ∨
  (allS l k = true ∧ 8192 < l.headD 0 ∧ ka = 0 ∧ kb = 0 ∧ kc = 23 ∧ ja = 0 ∧ jb = 0 ∧ jc = 0) ∨
  (allS l k = true ∧ ¬ 8192 < l.headD 0 ∧ ka = 1 ∧ kb = l.headD 0 ∧ kc = 0 ∧ ja = 0 ∧ jb = 0 ∧ jc = 0)
theorem ways_any (l : List Int) (k : Nat) (F : Option Int) (z : Int) (L : List Int) (hl : l.take k = z :: L) (hz : l.headD 0 = z) (hF : F = if L.all (· == z) = true then some z else none) :
    Ways l k (agr F false).kind (agr F false).len (agr F false).code (agr F true).kind (agr F true).len (agr F true).code := by
  have ha : allS l k = L.all (· == z) := by unfold allS; rw [hl, hz]; simp
  unfold Ways
  rw [ha, hz]
  cases hq : L.all (· == z) with
  | false => rw [hq] at hF; subst hF; left; simp [agr]
  | true =>
    rw [hq] at hF
    subst hF
    by_cases h : 8192 < z
    · right; left; simp [agr, h]
    · right; right; simp [agr, h]
theorem head_take (l : List Int) (k : Nat) (h0 : 0 < k) (hk : k ≤ l.length) : ∃ z L, l.take k = z :: L ∧ l.headD 0 = z := by
  cases l with
  | nil => simp at hk; omega
  | cons z r => cases k with
    | zero => omega
    | succ k => exact ⟨z, r.take k, rfl, rfl⟩

set_option maxHeartbeats 64000000 in
set_option maxRecDepth 100000 in
theorem framingAgrees_any (l : List Int) (alone : Bool) (na : Option Addr) (n nc : Nat) (w : World) (hn : l.length = n) (hs : NumsI w na l) (hnb : n ≤ 9223372036854775807) (hcap : n ≤ nc)
    (hv : ∀ z ∈ l, -9223372036854775808 ≤ z ∧ z ≤ 9223372036854775807) (ht : TabP w) :
    Calls Tryd.prog 10 #[.slice na n nc, .bool alone] w fun e w' => e = .returned (.bool true) ∧ Below w.heap.size w w' := by
  have H0 := Lib.hid fun wx => shown6_any wx
  have HS := Lib.hid hs
  have HN := Lib.hid hn
  have HV := Lib.hid hv
  have HT := Lib.hid ht
  clear hs hn hv ht
  go_enter Tryd.func10, Tryd.ntmps10
  go_wp2_with fail
  refine (H0.out _).mono ?_; rintro e w1 ⟨rfl, hb⟩
  have HB1 := Lib.hid hb
  clear hb
  go_wp2_with fail
  go_loopw [6, 7, 8, 9] (fun v s t i wr => ∃ (k : Nat) (T : ByteArray), k ≤ n ∧ k ≤ 12 ∧ i = .int .i64 k ∧ s = .bool (allS l k) ∧ t = .string T ∧ (alone = false → T.data.toList = txtN (l.take k)) ∧ T.size ≤ 400 ∧ (∀ j (hj : j < l.length), j < k → 0 ≤ l[j]) ∧ OwnF wr w1.heap.size v (if alone = true then aloneF (l.take k) else []) ∧ Below w1.heap.size w1 wr) (fun _ _ _ i _ => n - (intOf i).toNat)
  case atStart => exact ⟨0, ⟨#[]⟩, by omega, by omega, rfl, rfl, rfl, fun _ => rfl, by decide, fun j _ h => by omega, by cases alone <;> exact World.ownsRow_nil _ _ _ _, Below.refl _ _⟩
  case round =>
    obtain ⟨k, T, hk, hk12, rfl, rfl, rfl, hT, hTs, hpos, hown, hb⟩ := hrel
    have HB := Lib.hid hb
    have HBw := Lib.hid (app_below HB1.out hb)
    have HP := Lib.hid hpos
    by_cases hlt : k < n ∧ k < 12
    case pos =>
      obtain ⟨hkn, hk2⟩ := hlt
      have hkl : k < l.length := by rw [HN.out]; exact hkn
      obtain ⟨b0, o0, rfl, hb0, c1, c0⟩ := numsI_at HS.out k hkl HBw.out
      have hzb := HV.out _ (List.getElem_mem hkl)
      have hst := allS_step l k hkl
      have hat := aloneF_take l k hkl
      have htt := txtN_take l k hkl
      have htl := txtN_len (l.take (k + 1)) (fun z hz => (HV.out z (List.mem_of_mem_take hz)).2)
      rw [List.length_take] at htl
      have hpn : 0 ≤ l[k] → ∀ j (hj : j < l.length), j < k + 1 → 0 ≤ l[j] := fun h j hj hlt => by
        by_cases e : j = k
        · subst e; exact h
        · exact HP.out j hj (by omega)
      have HPN := Lib.hid hpn
      obtain ⟨z0, hz0⟩ : ∃ z0, l.headD 0 = z0 := ⟨_, rfl⟩
      rw [hz0] at c0 hst
      clear hpn
      generalize l[k] = z at c1 hzb hst hat htt HPN
      obtain ⟨hz1, hz2⟩ := hzb
      by_cases hzn : z < 0
      · clear hT hpos hown hb hkl hst hat htt htl hz0
        go_wp2
        go_ret
        exact ⟨rfl, HBw.out⟩
      · have hz0' : 0 ≤ z := by omega
        have HPN2 := Lib.hid (HPN.out hz0')
        have hdl := dstr_len z hz2
        have hdg := digits_any z hz0' hz2 wr (HT.out.below HBw.out)
        have hdz : (mk (dstr z)).size = (dstr z).length := size_mk _
        have hdd : (mk (dstr z)).data.toList = dstr z := mk_list _
        generalize mk (dstr z) = D at hdg hat hdz hdd
        have hDs : D.size ≤ 19 := by omega
        have HDG := Lib.hid hdg
        have HAT := Lib.hid hat
        have HTT := Lib.hid htt
        have HDD := Lib.hid hdd
        have HTL := Lib.hid htl
        have HO := Lib.hid hown
        have HTE := Lib.hid hT
        obtain ⟨sm, hsm⟩ : ∃ sm, allS l k = sm := ⟨_, rfl⟩
        rw [hsm] at hst ⊢
        clear hT hpos hown hb hkl hat htt htl hz0 hdg hdl hdz hdd HPN hsm
        by_cases hzz : z = z0
        all_goals
          have hst2 : allS l (k + 1) = (if z = z0 then sm else false) := by rw [hst]; by_cases e : z = z0 <;> cases sm <;> simp [e]
          have hzq : (z == z0) = decide (z = z0) := rfl
          first | rw [if_pos hzz] at hst2 | rw [if_neg hzz] at hst2
          first | (have hq1 : (z == z0) = true := by simp [hzz]) | (have hq1 : (z == z0) = false := by simp [hzz])
          have HST := Lib.hid hst2
          clear hst hst2 hzz hzq
          cases sm
          all_goals
            go_wp2_with fail
            refine HDG.out.mono ?_; rintro e w2 ⟨rfl, hb⟩
            have c1' := (hb.cell (p := ⟨b0, o0 + k, none⟩) hb0).trans c1
            have c0' := (hb.cell (p := ⟨b0, o0, none⟩) hb0).trans c0
            have HB2 := Lib.hid (HB.out.trans (hb.mono HB.out.size))
            have HO2 := Lib.hid (ownF_below HO.out (Nat.le_refl _) hb)
            clear hb
            go_wp2_with fail
            go_quiet (fail)
            have HB3 := Lib.hid (HB2.out.trans (below_drewN w2 nq))
            have HO3 := Lib.hid (ownF_below HO2.out (Nat.le_refl _) (below_drewN w2 nq))
            obtain ⟨wq, hwq⟩ : ∃ wq, wq = w2.drewN nq := ⟨_, rfl⟩
            rw [← hwq] at HB3 HO3 ⊢
            clear hwq c1' c0'
            cases alone
            case true =>
              have HO4 : Hid (OwnF (wq.alloc (.cells #[.string ⟨#[67, 111, 110, 116, 101, 110, 116, 45, 76, 101, 110, 103, 116, 104]⟩, .string D] 47)) w1.heap.size _ (aloneF (l.take k))) := Lib.hid (ownF_alloc HO3.out _)
              have HL := Lib.hid (lit_fld ⟨#[67, 111, 110, 116, 101, 110, 116, 45, 76, 101, 110, 103, 116, 104]⟩ D wq)
              have HB4 : Hid (Below w1.heap.size w1 (wq.alloc (.cells #[.string ⟨#[67, 111, 110, 116, 101, 110, 116, 45, 76, 101, 110, 103, 116, 104]⟩, .string D] 47))) := Lib.hid (HB3.out.alloc HB3.out.size _)
              have hlen : (aloneF (l.take k)).length ≤ 12 := by rw [aloneF_len, List.length_take]; omega
              have HLE := Lib.hid hlen
              clear hlen
              go_wp2_with (at_builtin; refine app_flds rfl _ _ rfl w1.heap.size _ (aloneF (l.take k)) rfl HO4.out _ 1 1 [(cl1, D)] rfl rfl HL.out ?n2 HB4.out.size ?_)
              case n2 => have := HLE.out; show (_ + 1) * 32 ≤ _; omega
              intro v5 w5 hown5 hb5 _
              have HO5 : Hid (OwnF w5 w1.heap.size v5 (aloneF (l.take (k + 1)))) := Lib.hid (by rw [HAT.out]; exact hown5)
              have HB5 := Lib.hid (HB4.out.trans hb5.out)
              clear hown5 hb5
              go_wp2
              go_roundw
              case rel => exact ⟨k + 1, D, by omega, by omega, by go_num, by rw [HST.out], rfl, (fun h => by cases h), by omega, HPN2.out, HO5.out, HB5.out⟩
              case measure => simp [intOf]; omega
            case false =>
              have hT2 := HTE.out rfl
              by_cases hk0 : k = 0
              · have hTn : T = ⟨#[]⟩ := by
                  apply ByteArray.ext; rw [← Array.toArray_toList (xs := T.data), hT2, hk0]; rfl
                have HT2 : Hid (D.data.toList = txtN (l.take (k + 1))) := Lib.hid (by rw [HTT.out, if_pos hk0, HDD.out])
                subst hTn
                clear hT2
                go_wp2
                go_roundw
                case rel => exact ⟨k + 1, D, by omega, by omega, by go_num, by rw [HST.out], rfl, fun _ => HT2.out, by omega, HPN2.out, HO3.out, HB3.out⟩
                case measure => simp [intOf]; omega
              · have hTp : 0 < T.size := by
                  rw [← len_data, hT2]
                  cases k with
                  | zero => exact absurd rfl hk0
                  | succ j =>
                    have hne : l.take (j + 1) ≠ [] := by intro e; rw [List.take_eq_nil_iff] at e; rcases e with e | e; omega; have := HN.out; rw [e] at this; simp at this; omega
                    cases hq : l.take (j + 1) with
                    | nil => exact absurd hq hne
                    | cons y r =>
                      have := dstr_ne y
                      show 0 < (dstr y ++ restN r).length
                      rw [List.length_append]
                      have : 0 < (dstr y).length := List.length_pos_iff.2 this
                      omega
                obtain ⟨t1, t2, _⟩ := nonempty_beq hTp
                have hTl : T.size ≤ 288 := by
                  have h24 := txtN_len (l.take k) (fun z hz => (HV.out z (List.mem_of_mem_take hz)).2)
                  rw [← hT2, len_data, List.length_take] at h24; omega
                have HT2 : Hid (((T ++ (⟨#[32, 44, 44, 32, 48]⟩ : ByteArray)) ++ D).data.toList = txtN (l.take (k + 1))) := Lib.hid (by rw [HTT.out, if_neg hk0, cat_list, cat_list, HDD.out, hT2]; rfl)
                have z1 : (T ++ (⟨#[32, 44, 44, 32, 48]⟩ : ByteArray)).size = T.size + 5 := cat_size _ _
                have y1 : ¬ 9223372036854775807 < T.size + (⟨#[32, 44, 44, 32, 48]⟩ : ByteArray).size := by have : (⟨#[32, 44, 44, 32, 48]⟩ : ByteArray).size = 5 := rfl; omega
                have y2 : ¬ 9223372036854775807 < (T ++ (⟨#[32, 44, 44, 32, 48]⟩ : ByteArray)).size + D.size := by omega
                have HSZ : Hid (((T ++ (⟨#[32, 44, 44, 32, 48]⟩ : ByteArray)) ++ D).size ≤ 400) := Lib.hid (by rw [cat_size, z1]; omega)
                clear hT2 hTp z1 hk0
                go_wp2
                go_roundw
                case rel => exact ⟨k + 1, _, by omega, by omega, by go_num, by rw [HST.out], rfl, fun _ => HT2.out, HSZ.out, HPN2.out, HO3.out, HB3.out⟩
                case measure => simp [intOf]; omega
    case neg =>
      have hcase : ¬ k < n ∨ (k < n ∧ ¬ k < 12) := by
        by_cases h : k < n
        · exact .inr ⟨h, fun h2 => hlt ⟨h, h2⟩⟩
        · exact .inl h
      clear hlt
      by_cases hn0 : n = 0
      · have hk0 : k = 0 := by omega
        subst hn0
        subst hk0
        clear hT hpos hown hb hcase
        go_wp2
        go_ret
        exact ⟨rfl, HBw.out⟩
      · have e0 : ((n : Int) == 0) = false := by simp; omega
        have hk0 : 0 < k := by omega
        have hkl : k ≤ l.length := by rw [HN.out]; exact hk
        obtain ⟨z0, L, htk, hz0⟩ := head_take l k hk0 hkl
        have hall : ∀ y ∈ z0 :: L, 0 ≤ y ∧ y ≤ 9223372036854775807 := fun y hy => by
          rw [← htk] at hy
          obtain ⟨j, hj, rfl⟩ := List.getElem_of_mem hy
          rw [List.length_take] at hj
          rw [List.getElem_take]
          exact ⟨hpos j (by omega) (by omega), (HV.out _ (List.getElem_mem _)).2⟩
        obtain ⟨b0, o0, rfl, hb0, cx, c0⟩ := numsI_at HS.out 0 (by omega) HBw.out
        clear cx
        rw [hz0] at c0
        have hz01 := hall z0 (by simp)
        have hzl : z0 ≤ 9223372036854775807 := hz01.2
        obtain ⟨m, mn, ka, kb, kc, ja, jb, jc, h3, hway, hmv⟩ : ∃ (m : AL) (mn : Nat) (ka kb kc ja jb jc : Int), Three m mn ka kb kc ja jb jc ∧ Ways l k ka kb kc ja jb jc ∧ m.length = mn ∧ (alone = true → m = aloneF (l.take k)) ∧ (alone = false → m = [(kCL, T)] ∧ mn = 1) := by
          cases alone with
          | true =>
            have hln := alone_len z0 L hall
            have h3 := three_any (aloneF (z0 :: L)) _ rfl (by have := aloneF_asz (z0 :: L) (fun z hz => (hall z hz).2); have h2 : (z0 :: L).length ≤ 12 := by rw [← htk, List.length_take]; omega
                                                              omega) (alone_te _) (by rw [alone_cl]; simp)
            exact ⟨_, _, _, _, _, _, _, _, h3, ways_any l k _ z0 L htk hz0 hln, rfl, fun _ => by rw [htk], fun h => by cases h⟩
          | false =>
            have hT2 := hT rfl
            rw [htk] at hT2
            have hln := text_len T z0 L hT2 hall
            have h3 := three_any [(kCL, T)] 1 rfl (by have : kCL.size = 14 := rfl; simp only [asz, this]; omega) (text_te _) (by rw [text_cl]; simp)
            exact ⟨_, _, _, _, _, _, _, _, h3, ways_any l k _ z0 L htk hz0 hln, rfl, (fun h => by cases h), fun _ => ⟨rfl, rfl⟩⟩
        obtain ⟨hml, hm1, hm2⟩ := hmv
        unfold Ways at hway
        rw [hz0] at hway
        have HML := Lib.hid hml
        have H31 := Lib.hid h3.1
        have H32 := Lib.hid h3.2.1
        have H33 := Lib.hid h3.2.2
        have HO := Lib.hid hown
        have HM1 := Lib.hid hm1
        have HM2 := Lib.hid hm2
        obtain ⟨sm, hsm⟩ : ∃ sm, allS l k = sm := ⟨_, rfl⟩
        rw [hsm] at hway ⊢
        clear hT hpos hown hb hkl htk hall hz0 hz01 h3 hml hm1 hm2 hsm hn0
        rcases hway with ⟨rfl, rfl, rfl, rfl, rfl, rfl, rfl⟩ | ⟨rfl, hbig, rfl, rfl, rfl, rfl, rfl, rfl⟩ | ⟨rfl, hbig, rfl, rfl, rfl, rfl, rfl, rfl⟩
        · rcases hcase with hka | ⟨hka, hkb⟩
          · cases alone
            case true =>
              have hm := HM1.out rfl
              have hO := HO.out
              simp only [if_true] at hO
              rw [← hm] at hO
              obtain ⟨am, cm, rfl, hsm⟩ := flds_one _ _ _ _ hO
              rw [HML.out]
              have HSM := Lib.hid hsm
              have HBS := Lib.hid (Below.refl wr.heap.size wr)
              have hc0 := c0
              clear hm hO hsm HM1 HM2 HO
              go_wp2_with fail
              refine (H31.out _ _ _ HSM.out).mono ?_; rintro e w4 ⟨rfl, hb⟩
              have HE4 := Lib.hid hb
              clear hb
              have HS4 := Lib.hid ((HSM.out.below (Nat.le_refl _) HE4.out).below (Nat.le_refl _) (one_grow w4 (.cells #[.int .i64 0, .int .i64 0] 55)))
              go_wp2_with fail
              refine (H32.out _ _ _ HS4.out).mono ?_; rintro e w5 ⟨rfl, hb⟩
              have HF5 := Lib.hid hb
              have HE5 := Lib.hid (box_next HE4.out hb)
              clear hb
              have HS5 := Lib.hid ((HSM.out.below (Nat.le_refl _) HE5.out).below (Nat.le_refl _) (one_grow w5 (.cells #[.int .i64 0, .int .i64 0] 55)))
              go_wp2_with fail
              refine (H33.out _ _ _ HS5.out).mono ?_; rintro e w6 ⟨rfl, hb⟩
              have HG6 := Lib.hid hb
              have HF6 := Lib.hid (box_next HF5.out hb)
              have HE6 := Lib.hid (box_next HE5.out hb)
              clear hb
              have HR := Lib.hid (HBS.out.trans (HE6.out.mono HBS.out.size))
              have HE := Lib.hid (app_below HBw.out HR.out)
              go_wp2
              go_ret
              exact ⟨rfl, HE.out.alloc HE.out.size _⟩
            case false =>
              obtain ⟨hm, hmn⟩ := HM2.out rfl
              have HSM : Hid (SrcA (wr.alloc (.cells #[.string ⟨#[99, 111, 110, 116, 101, 110, 116, 45, 108, 101, 110, 103, 116, 104]⟩, .string T] 47)) (some ⟨wr.heap.size, 0, none⟩) 1 m) := Lib.hid (by rw [hm]; exact lit_fld _ T wr)
              have HBS := Lib.hid (one_grow wr (.cells #[.string ⟨#[99, 111, 110, 116, 101, 110, 116, 45, 108, 101, 110, 103, 116, 104]⟩, .string T] 47))
              subst hmn
              have hO := HO.out
              simp only [Bool.false_eq_true, if_false] at hO
              obtain ⟨am, cm, rfl, _⟩ := flds_one _ _ _ _ hO
              clear hm hO HM1 HM2 HO
              go_wp2_with fail
              refine (H31.out _ _ _ HSM.out).mono ?_; rintro e w4 ⟨rfl, hb⟩
              have HE4 := Lib.hid hb
              clear hb
              have HS4 := Lib.hid ((HSM.out.below (Nat.le_refl _) HE4.out).below (Nat.le_refl _) (one_grow w4 (.cells #[.int .i64 0, .int .i64 0] 55)))
              go_wp2_with fail
              refine (H32.out _ _ _ HS4.out).mono ?_; rintro e w5 ⟨rfl, hb⟩
              have HF5 := Lib.hid hb
              have HE5 := Lib.hid (box_next HE4.out hb)
              clear hb
              have HS5 := Lib.hid ((HSM.out.below (Nat.le_refl _) HE5.out).below (Nat.le_refl _) (one_grow w5 (.cells #[.int .i64 0, .int .i64 0] 55)))
              go_wp2_with fail
              refine (H33.out _ _ _ HS5.out).mono ?_; rintro e w6 ⟨rfl, hb⟩
              have HG6 := Lib.hid hb
              have HF6 := Lib.hid (box_next HF5.out hb)
              have HE6 := Lib.hid (box_next HE5.out hb)
              clear hb
              have HR := Lib.hid (HBS.out.trans (HE6.out.mono HBS.out.size))
              have HE := Lib.hid (app_below HBw.out HR.out)
              go_wp2
              go_ret
              exact ⟨rfl, HE.out.alloc HE.out.size _⟩
          · cases alone
            case true =>
              have hm := HM1.out rfl
              have hO := HO.out
              simp only [if_true] at hO
              rw [← hm] at hO
              obtain ⟨am, cm, rfl, hsm⟩ := flds_one _ _ _ _ hO
              rw [HML.out]
              have HSM := Lib.hid hsm
              have HBS := Lib.hid (Below.refl wr.heap.size wr)
              have hc0 := c0
              clear hm hO hsm HM1 HM2 HO
              go_wp2_with fail
              refine (H31.out _ _ _ HSM.out).mono ?_; rintro e w4 ⟨rfl, hb⟩
              have HE4 := Lib.hid hb
              clear hb
              have HS4 := Lib.hid ((HSM.out.below (Nat.le_refl _) HE4.out).below (Nat.le_refl _) (one_grow w4 (.cells #[.int .i64 0, .int .i64 0] 55)))
              go_wp2_with fail
              refine (H32.out _ _ _ HS4.out).mono ?_; rintro e w5 ⟨rfl, hb⟩
              have HF5 := Lib.hid hb
              have HE5 := Lib.hid (box_next HE4.out hb)
              clear hb
              have HS5 := Lib.hid ((HSM.out.below (Nat.le_refl _) HE5.out).below (Nat.le_refl _) (one_grow w5 (.cells #[.int .i64 0, .int .i64 0] 55)))
              go_wp2_with fail
              refine (H33.out _ _ _ HS5.out).mono ?_; rintro e w6 ⟨rfl, hb⟩
              have HG6 := Lib.hid hb
              have HF6 := Lib.hid (box_next HF5.out hb)
              have HE6 := Lib.hid (box_next HE5.out hb)
              clear hb
              have HR := Lib.hid (HBS.out.trans (HE6.out.mono HBS.out.size))
              have HE := Lib.hid (app_below HBw.out HR.out)
              go_wp2
              go_ret
              exact ⟨rfl, HE.out.alloc HE.out.size _⟩
            case false =>
              obtain ⟨hm, hmn⟩ := HM2.out rfl
              have HSM : Hid (SrcA (wr.alloc (.cells #[.string ⟨#[99, 111, 110, 116, 101, 110, 116, 45, 108, 101, 110, 103, 116, 104]⟩, .string T] 47)) (some ⟨wr.heap.size, 0, none⟩) 1 m) := Lib.hid (by rw [hm]; exact lit_fld _ T wr)
              have HBS := Lib.hid (one_grow wr (.cells #[.string ⟨#[99, 111, 110, 116, 101, 110, 116, 45, 108, 101, 110, 103, 116, 104]⟩, .string T] 47))
              subst hmn
              have hO := HO.out
              simp only [Bool.false_eq_true, if_false] at hO
              obtain ⟨am, cm, rfl, _⟩ := flds_one _ _ _ _ hO
              clear hm hO HM1 HM2 HO
              go_wp2_with fail
              refine (H31.out _ _ _ HSM.out).mono ?_; rintro e w4 ⟨rfl, hb⟩
              have HE4 := Lib.hid hb
              clear hb
              have HS4 := Lib.hid ((HSM.out.below (Nat.le_refl _) HE4.out).below (Nat.le_refl _) (one_grow w4 (.cells #[.int .i64 0, .int .i64 0] 55)))
              go_wp2_with fail
              refine (H32.out _ _ _ HS4.out).mono ?_; rintro e w5 ⟨rfl, hb⟩
              have HF5 := Lib.hid hb
              have HE5 := Lib.hid (box_next HE4.out hb)
              clear hb
              have HS5 := Lib.hid ((HSM.out.below (Nat.le_refl _) HE5.out).below (Nat.le_refl _) (one_grow w5 (.cells #[.int .i64 0, .int .i64 0] 55)))
              go_wp2_with fail
              refine (H33.out _ _ _ HS5.out).mono ?_; rintro e w6 ⟨rfl, hb⟩
              have HG6 := Lib.hid hb
              have HF6 := Lib.hid (box_next HF5.out hb)
              have HE6 := Lib.hid (box_next HE5.out hb)
              clear hb
              have HR := Lib.hid (HBS.out.trans (HE6.out.mono HBS.out.size))
              have HE := Lib.hid (app_below HBw.out HR.out)
              go_wp2
              go_ret
              exact ⟨rfl, HE.out.alloc HE.out.size _⟩
        · rcases hcase with hka | ⟨hka, hkb⟩
          · cases alone
            case true =>
              have hm := HM1.out rfl
              have hO := HO.out
              simp only [if_true] at hO
              rw [← hm] at hO
              obtain ⟨am, cm, rfl, hsm⟩ := flds_one _ _ _ _ hO
              rw [HML.out]
              have HSM := Lib.hid hsm
              have HBS := Lib.hid (Below.refl wr.heap.size wr)
              have hc0 := c0
              clear hm hO hsm HM1 HM2 HO
              go_wp2_with fail
              refine (H31.out _ _ _ HSM.out).mono ?_; rintro e w4 ⟨rfl, hb⟩
              have HE4 := Lib.hid hb
              clear hb
              have HS4 := Lib.hid ((HSM.out.below (Nat.le_refl _) HE4.out).below (Nat.le_refl _) (one_grow w4 (.cells #[.int .i64 0, .int .i64 0] 55)))
              go_wp2_with fail
              refine (H32.out _ _ _ HS4.out).mono ?_; rintro e w5 ⟨rfl, hb⟩
              have HF5 := Lib.hid hb
              have HE5 := Lib.hid (box_next HE4.out hb)
              clear hb
              have HS5 := Lib.hid ((HSM.out.below (Nat.le_refl _) HE5.out).below (Nat.le_refl _) (one_grow w5 (.cells #[.int .i64 0, .int .i64 0] 55)))
              go_wp2_with fail
              refine (H33.out _ _ _ HS5.out).mono ?_; rintro e w6 ⟨rfl, hb⟩
              have HG6 := Lib.hid hb
              have HF6 := Lib.hid (box_next HF5.out hb)
              have HE6 := Lib.hid (box_next HE5.out hb)
              clear hb
              have HR := Lib.hid (HBS.out.trans (HE6.out.mono HBS.out.size))
              have HE := Lib.hid (app_below HBw.out HR.out)
              have d0 := ((one_grow w6 (.cells #[.int .i64 0, .int .i64 0] 55)).cell (p := ⟨b0, o0, none⟩) (Nat.lt_of_lt_of_le hb0 HR.out.size)).trans ((HR.out.cell (p := ⟨b0, o0, none⟩) hb0).trans c0)
              go_wp2
              go_ret
              exact ⟨rfl, HE.out.alloc HE.out.size _⟩
            case false =>
              obtain ⟨hm, hmn⟩ := HM2.out rfl
              have HSM : Hid (SrcA (wr.alloc (.cells #[.string ⟨#[99, 111, 110, 116, 101, 110, 116, 45, 108, 101, 110, 103, 116, 104]⟩, .string T] 47)) (some ⟨wr.heap.size, 0, none⟩) 1 m) := Lib.hid (by rw [hm]; exact lit_fld _ T wr)
              have HBS := Lib.hid (one_grow wr (.cells #[.string ⟨#[99, 111, 110, 116, 101, 110, 116, 45, 108, 101, 110, 103, 116, 104]⟩, .string T] 47))
              subst hmn
              have hO := HO.out
              simp only [Bool.false_eq_true, if_false] at hO
              obtain ⟨am, cm, rfl, _⟩ := flds_one _ _ _ _ hO
              clear hm hO HM1 HM2 HO
              go_wp2_with fail
              refine (H31.out _ _ _ HSM.out).mono ?_; rintro e w4 ⟨rfl, hb⟩
              have HE4 := Lib.hid hb
              clear hb
              have HS4 := Lib.hid ((HSM.out.below (Nat.le_refl _) HE4.out).below (Nat.le_refl _) (one_grow w4 (.cells #[.int .i64 0, .int .i64 0] 55)))
              go_wp2_with fail
              refine (H32.out _ _ _ HS4.out).mono ?_; rintro e w5 ⟨rfl, hb⟩
              have HF5 := Lib.hid hb
              have HE5 := Lib.hid (box_next HE4.out hb)
              clear hb
              have HS5 := Lib.hid ((HSM.out.below (Nat.le_refl _) HE5.out).below (Nat.le_refl _) (one_grow w5 (.cells #[.int .i64 0, .int .i64 0] 55)))
              go_wp2_with fail
              refine (H33.out _ _ _ HS5.out).mono ?_; rintro e w6 ⟨rfl, hb⟩
              have HG6 := Lib.hid hb
              have HF6 := Lib.hid (box_next HF5.out hb)
              have HE6 := Lib.hid (box_next HE5.out hb)
              clear hb
              have HR := Lib.hid (HBS.out.trans (HE6.out.mono HBS.out.size))
              have HE := Lib.hid (app_below HBw.out HR.out)
              have d0 := ((one_grow w6 (.cells #[.int .i64 0, .int .i64 0] 55)).cell (p := ⟨b0, o0, none⟩) (Nat.lt_of_lt_of_le hb0 HR.out.size)).trans ((HR.out.cell (p := ⟨b0, o0, none⟩) hb0).trans c0)
              go_wp2
              go_ret
              exact ⟨rfl, HE.out.alloc HE.out.size _⟩
          · cases alone
            case true =>
              have hm := HM1.out rfl
              have hO := HO.out
              simp only [if_true] at hO
              rw [← hm] at hO
              obtain ⟨am, cm, rfl, hsm⟩ := flds_one _ _ _ _ hO
              rw [HML.out]
              have HSM := Lib.hid hsm
              have HBS := Lib.hid (Below.refl wr.heap.size wr)
              have hc0 := c0
              clear hm hO hsm HM1 HM2 HO
              go_wp2_with fail
              refine (H31.out _ _ _ HSM.out).mono ?_; rintro e w4 ⟨rfl, hb⟩
              have HE4 := Lib.hid hb
              clear hb
              have HS4 := Lib.hid ((HSM.out.below (Nat.le_refl _) HE4.out).below (Nat.le_refl _) (one_grow w4 (.cells #[.int .i64 0, .int .i64 0] 55)))
              go_wp2_with fail
              refine (H32.out _ _ _ HS4.out).mono ?_; rintro e w5 ⟨rfl, hb⟩
              have HF5 := Lib.hid hb
              have HE5 := Lib.hid (box_next HE4.out hb)
              clear hb
              have HS5 := Lib.hid ((HSM.out.below (Nat.le_refl _) HE5.out).below (Nat.le_refl _) (one_grow w5 (.cells #[.int .i64 0, .int .i64 0] 55)))
              go_wp2_with fail
              refine (H33.out _ _ _ HS5.out).mono ?_; rintro e w6 ⟨rfl, hb⟩
              have HG6 := Lib.hid hb
              have HF6 := Lib.hid (box_next HF5.out hb)
              have HE6 := Lib.hid (box_next HE5.out hb)
              clear hb
              have HR := Lib.hid (HBS.out.trans (HE6.out.mono HBS.out.size))
              have HE := Lib.hid (app_below HBw.out HR.out)
              have d0 := ((one_grow w6 (.cells #[.int .i64 0, .int .i64 0] 55)).cell (p := ⟨b0, o0, none⟩) (Nat.lt_of_lt_of_le hb0 HR.out.size)).trans ((HR.out.cell (p := ⟨b0, o0, none⟩) hb0).trans c0)
              go_wp2
              go_ret
              exact ⟨rfl, HE.out.alloc HE.out.size _⟩
            case false =>
              obtain ⟨hm, hmn⟩ := HM2.out rfl
              have HSM : Hid (SrcA (wr.alloc (.cells #[.string ⟨#[99, 111, 110, 116, 101, 110, 116, 45, 108, 101, 110, 103, 116, 104]⟩, .string T] 47)) (some ⟨wr.heap.size, 0, none⟩) 1 m) := Lib.hid (by rw [hm]; exact lit_fld _ T wr)
              have HBS := Lib.hid (one_grow wr (.cells #[.string ⟨#[99, 111, 110, 116, 101, 110, 116, 45, 108, 101, 110, 103, 116, 104]⟩, .string T] 47))
              subst hmn
              have hO := HO.out
              simp only [Bool.false_eq_true, if_false] at hO
              obtain ⟨am, cm, rfl, _⟩ := flds_one _ _ _ _ hO
              clear hm hO HM1 HM2 HO
              go_wp2_with fail
              refine (H31.out _ _ _ HSM.out).mono ?_; rintro e w4 ⟨rfl, hb⟩
              have HE4 := Lib.hid hb
              clear hb
              have HS4 := Lib.hid ((HSM.out.below (Nat.le_refl _) HE4.out).below (Nat.le_refl _) (one_grow w4 (.cells #[.int .i64 0, .int .i64 0] 55)))
              go_wp2_with fail
              refine (H32.out _ _ _ HS4.out).mono ?_; rintro e w5 ⟨rfl, hb⟩
              have HF5 := Lib.hid hb
              have HE5 := Lib.hid (box_next HE4.out hb)
              clear hb
              have HS5 := Lib.hid ((HSM.out.below (Nat.le_refl _) HE5.out).below (Nat.le_refl _) (one_grow w5 (.cells #[.int .i64 0, .int .i64 0] 55)))
              go_wp2_with fail
              refine (H33.out _ _ _ HS5.out).mono ?_; rintro e w6 ⟨rfl, hb⟩
              have HG6 := Lib.hid hb
              have HF6 := Lib.hid (box_next HF5.out hb)
              have HE6 := Lib.hid (box_next HE5.out hb)
              clear hb
              have HR := Lib.hid (HBS.out.trans (HE6.out.mono HBS.out.size))
              have HE := Lib.hid (app_below HBw.out HR.out)
              have d0 := ((one_grow w6 (.cells #[.int .i64 0, .int .i64 0] 55)).cell (p := ⟨b0, o0, none⟩) (Nat.lt_of_lt_of_le hb0 HR.out.size)).trans ((HR.out.cell (p := ⟨b0, o0, none⟩) hb0).trans c0)
              go_wp2
              go_ret
              exact ⟨rfl, HE.out.alloc HE.out.size _⟩
        · rcases hcase with hka | ⟨hka, hkb⟩
          · cases alone
            case true =>
              have hm := HM1.out rfl
              have hO := HO.out
              simp only [if_true] at hO
              rw [← hm] at hO
              obtain ⟨am, cm, rfl, hsm⟩ := flds_one _ _ _ _ hO
              rw [HML.out]
              have HSM := Lib.hid hsm
              have HBS := Lib.hid (Below.refl wr.heap.size wr)
              have hc0 := c0
              clear hm hO hsm HM1 HM2 HO
              go_wp2_with fail
              refine (H31.out _ _ _ HSM.out).mono ?_; rintro e w4 ⟨rfl, hb⟩
              have HE4 := Lib.hid hb
              clear hb
              have HS4 := Lib.hid ((HSM.out.below (Nat.le_refl _) HE4.out).below (Nat.le_refl _) (one_grow w4 (.cells #[.int .i64 1, .int .i64 kb] 55)))
              go_wp2_with fail
              refine (H32.out _ _ _ HS4.out).mono ?_; rintro e w5 ⟨rfl, hb⟩
              have HF5 := Lib.hid hb
              have HE5 := Lib.hid (box_next HE4.out hb)
              clear hb
              have HS5 := Lib.hid ((HSM.out.below (Nat.le_refl _) HE5.out).below (Nat.le_refl _) (one_grow w5 (.cells #[.int .i64 1, .int .i64 kb] 55)))
              go_wp2_with fail
              refine (H33.out _ _ _ HS5.out).mono ?_; rintro e w6 ⟨rfl, hb⟩
              have HG6 := Lib.hid hb
              have HF6 := Lib.hid (box_next HF5.out hb)
              have HE6 := Lib.hid (box_next HE5.out hb)
              clear hb
              have HR := Lib.hid (HBS.out.trans (HE6.out.mono HBS.out.size))
              have HE := Lib.hid (app_below HBw.out HR.out)
              have d0 := ((one_grow w6 (.cells #[.int .i64 0, .int .i64 0] 55)).cell (p := ⟨b0, o0, none⟩) (Nat.lt_of_lt_of_le hb0 HR.out.size)).trans ((HR.out.cell (p := ⟨b0, o0, none⟩) hb0).trans c0)
              have q0 := ((res_cells _ _ _ _ HF6.out 0).2 (.cells #[.int .i64 0, .int .i64 0] 55)).1
              have q1 := ((res_cells _ _ _ _ HF6.out 1).2 (.cells #[.int .i64 0, .int .i64 0] 55)).1
              have r0 := ((res_cells _ _ _ _ HG6.out 0).2 (.cells #[.int .i64 0, .int .i64 0] 55)).1
              have r1 := ((res_cells _ _ _ _ HG6.out 1).2 (.cells #[.int .i64 0, .int .i64 0] 55)).1
              go_wp2_with fail
              go_quiet (fail)
              go_wp2
              go_ret
              exact ⟨rfl, (HE.out.alloc HE.out.size _).trans (below_drewN _ _)⟩
            case false =>
              obtain ⟨hm, hmn⟩ := HM2.out rfl
              have HSM : Hid (SrcA (wr.alloc (.cells #[.string ⟨#[99, 111, 110, 116, 101, 110, 116, 45, 108, 101, 110, 103, 116, 104]⟩, .string T] 47)) (some ⟨wr.heap.size, 0, none⟩) 1 m) := Lib.hid (by rw [hm]; exact lit_fld _ T wr)
              have HBS := Lib.hid (one_grow wr (.cells #[.string ⟨#[99, 111, 110, 116, 101, 110, 116, 45, 108, 101, 110, 103, 116, 104]⟩, .string T] 47))
              subst hmn
              have hO := HO.out
              simp only [Bool.false_eq_true, if_false] at hO
              obtain ⟨am, cm, rfl, _⟩ := flds_one _ _ _ _ hO
              clear hm hO HM1 HM2 HO
              go_wp2_with fail
              refine (H31.out _ _ _ HSM.out).mono ?_; rintro e w4 ⟨rfl, hb⟩
              have HE4 := Lib.hid hb
              clear hb
              have HS4 := Lib.hid ((HSM.out.below (Nat.le_refl _) HE4.out).below (Nat.le_refl _) (one_grow w4 (.cells #[.int .i64 1, .int .i64 kb] 55)))
              go_wp2_with fail
              refine (H32.out _ _ _ HS4.out).mono ?_; rintro e w5 ⟨rfl, hb⟩
              have HF5 := Lib.hid hb
              have HE5 := Lib.hid (box_next HE4.out hb)
              clear hb
              have HS5 := Lib.hid ((HSM.out.below (Nat.le_refl _) HE5.out).below (Nat.le_refl _) (one_grow w5 (.cells #[.int .i64 1, .int .i64 kb] 55)))
              go_wp2_with fail
              refine (H33.out _ _ _ HS5.out).mono ?_; rintro e w6 ⟨rfl, hb⟩
              have HG6 := Lib.hid hb
              have HF6 := Lib.hid (box_next HF5.out hb)
              have HE6 := Lib.hid (box_next HE5.out hb)
              clear hb
              have HR := Lib.hid (HBS.out.trans (HE6.out.mono HBS.out.size))
              have HE := Lib.hid (app_below HBw.out HR.out)
              have d0 := ((one_grow w6 (.cells #[.int .i64 0, .int .i64 0] 55)).cell (p := ⟨b0, o0, none⟩) (Nat.lt_of_lt_of_le hb0 HR.out.size)).trans ((HR.out.cell (p := ⟨b0, o0, none⟩) hb0).trans c0)
              have q0 := ((res_cells _ _ _ _ HF6.out 0).2 (.cells #[.int .i64 0, .int .i64 0] 55)).1
              have q1 := ((res_cells _ _ _ _ HF6.out 1).2 (.cells #[.int .i64 0, .int .i64 0] 55)).1
              have r0 := ((res_cells _ _ _ _ HG6.out 0).2 (.cells #[.int .i64 0, .int .i64 0] 55)).1
              have r1 := ((res_cells _ _ _ _ HG6.out 1).2 (.cells #[.int .i64 0, .int .i64 0] 55)).1
              go_wp2_with fail
              go_quiet (fail)
              go_wp2
              go_ret
              exact ⟨rfl, (HE.out.alloc HE.out.size _).trans (below_drewN _ _)⟩
          · cases alone
            case true =>
              have hm := HM1.out rfl
              have hO := HO.out
              simp only [if_true] at hO
              rw [← hm] at hO
              obtain ⟨am, cm, rfl, hsm⟩ := flds_one _ _ _ _ hO
              rw [HML.out]
              have HSM := Lib.hid hsm
              have HBS := Lib.hid (Below.refl wr.heap.size wr)
              have hc0 := c0
              clear hm hO hsm HM1 HM2 HO
              go_wp2_with fail
              refine (H31.out _ _ _ HSM.out).mono ?_; rintro e w4 ⟨rfl, hb⟩
              have HE4 := Lib.hid hb
              clear hb
              have HS4 := Lib.hid ((HSM.out.below (Nat.le_refl _) HE4.out).below (Nat.le_refl _) (one_grow w4 (.cells #[.int .i64 1, .int .i64 kb] 55)))
              go_wp2_with fail
              refine (H32.out _ _ _ HS4.out).mono ?_; rintro e w5 ⟨rfl, hb⟩
              have HF5 := Lib.hid hb
              have HE5 := Lib.hid (box_next HE4.out hb)
              clear hb
              have HS5 := Lib.hid ((HSM.out.below (Nat.le_refl _) HE5.out).below (Nat.le_refl _) (one_grow w5 (.cells #[.int .i64 1, .int .i64 kb] 55)))
              go_wp2_with fail
              refine (H33.out _ _ _ HS5.out).mono ?_; rintro e w6 ⟨rfl, hb⟩
              have HG6 := Lib.hid hb
              have HF6 := Lib.hid (box_next HF5.out hb)
              have HE6 := Lib.hid (box_next HE5.out hb)
              clear hb
              have HR := Lib.hid (HBS.out.trans (HE6.out.mono HBS.out.size))
              have HE := Lib.hid (app_below HBw.out HR.out)
              have d0 := ((one_grow w6 (.cells #[.int .i64 0, .int .i64 0] 55)).cell (p := ⟨b0, o0, none⟩) (Nat.lt_of_lt_of_le hb0 HR.out.size)).trans ((HR.out.cell (p := ⟨b0, o0, none⟩) hb0).trans c0)
              have q0 := ((res_cells _ _ _ _ HF6.out 0).2 (.cells #[.int .i64 0, .int .i64 0] 55)).1
              have q1 := ((res_cells _ _ _ _ HF6.out 1).2 (.cells #[.int .i64 0, .int .i64 0] 55)).1
              have r0 := ((res_cells _ _ _ _ HG6.out 0).2 (.cells #[.int .i64 0, .int .i64 0] 55)).1
              have r1 := ((res_cells _ _ _ _ HG6.out 1).2 (.cells #[.int .i64 0, .int .i64 0] 55)).1
              go_wp2_with fail
              go_quiet (fail)
              go_wp2
              go_ret
              exact ⟨rfl, (HE.out.alloc HE.out.size _).trans (below_drewN _ _)⟩
            case false =>
              obtain ⟨hm, hmn⟩ := HM2.out rfl
              have HSM : Hid (SrcA (wr.alloc (.cells #[.string ⟨#[99, 111, 110, 116, 101, 110, 116, 45, 108, 101, 110, 103, 116, 104]⟩, .string T] 47)) (some ⟨wr.heap.size, 0, none⟩) 1 m) := Lib.hid (by rw [hm]; exact lit_fld _ T wr)
              have HBS := Lib.hid (one_grow wr (.cells #[.string ⟨#[99, 111, 110, 116, 101, 110, 116, 45, 108, 101, 110, 103, 116, 104]⟩, .string T] 47))
              subst hmn
              have hO := HO.out
              simp only [Bool.false_eq_true, if_false] at hO
              obtain ⟨am, cm, rfl, _⟩ := flds_one _ _ _ _ hO
              clear hm hO HM1 HM2 HO
              go_wp2_with fail
              refine (H31.out _ _ _ HSM.out).mono ?_; rintro e w4 ⟨rfl, hb⟩
              have HE4 := Lib.hid hb
              clear hb
              have HS4 := Lib.hid ((HSM.out.below (Nat.le_refl _) HE4.out).below (Nat.le_refl _) (one_grow w4 (.cells #[.int .i64 1, .int .i64 kb] 55)))
              go_wp2_with fail
              refine (H32.out _ _ _ HS4.out).mono ?_; rintro e w5 ⟨rfl, hb⟩
              have HF5 := Lib.hid hb
              have HE5 := Lib.hid (box_next HE4.out hb)
              clear hb
              have HS5 := Lib.hid ((HSM.out.below (Nat.le_refl _) HE5.out).below (Nat.le_refl _) (one_grow w5 (.cells #[.int .i64 1, .int .i64 kb] 55)))
              go_wp2_with fail
              refine (H33.out _ _ _ HS5.out).mono ?_; rintro e w6 ⟨rfl, hb⟩
              have HG6 := Lib.hid hb
              have HF6 := Lib.hid (box_next HF5.out hb)
              have HE6 := Lib.hid (box_next HE5.out hb)
              clear hb
              have HR := Lib.hid (HBS.out.trans (HE6.out.mono HBS.out.size))
              have HE := Lib.hid (app_below HBw.out HR.out)
              have d0 := ((one_grow w6 (.cells #[.int .i64 0, .int .i64 0] 55)).cell (p := ⟨b0, o0, none⟩) (Nat.lt_of_lt_of_le hb0 HR.out.size)).trans ((HR.out.cell (p := ⟨b0, o0, none⟩) hb0).trans c0)
              have q0 := ((res_cells _ _ _ _ HF6.out 0).2 (.cells #[.int .i64 0, .int .i64 0] 55)).1
              have q1 := ((res_cells _ _ _ _ HF6.out 1).2 (.cells #[.int .i64 0, .int .i64 0] 55)).1
              have r0 := ((res_cells _ _ _ _ HG6.out 0).2 (.cells #[.int .i64 0, .int .i64 0] 55)).1
              have r1 := ((res_cells _ _ _ _ HG6.out 1).2 (.cells #[.int .i64 0, .int .i64 0] 55)).1
              go_wp2_with fail
              go_quiet (fail)
              go_wp2
              go_ret
              exact ⟨rfl, (HE.out.alloc HE.out.size _).trans (below_drewN _ _)⟩
end Go.Proofs.YtkadingpmebjbaaDoor
