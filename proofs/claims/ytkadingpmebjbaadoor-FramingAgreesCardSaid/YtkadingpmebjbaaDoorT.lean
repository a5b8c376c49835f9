/- A media type's text: the program's. -/
import Derived.Test.YtkadingpmebjbaaDoorN
set_option linter.unusedVariables false
namespace Go.Proofs.YtkadingpmebjbaaDoor
open Go.RowKit

abbrev PL := List (List UInt8 × List UInt8)
def okP (p : List UInt8 × List UInt8) : Bool := isSmall p.1 && p.2.all qb
def oneP (p : List UInt8 × List UInt8) : List UInt8 := [59, 32] ++ p.1 ++ [61] ++ (if isTok p.2 = true then p.2 else quote p.2)
theorem textP_take (ps : PL) (k : Nat) (hk : k < ps.length) : textP (ps.take (k + 1)) = textP (ps.take k) ++ oneP ps[k] := by
  unfold textP
  rw [List.take_succ_eq_append_getElem hk, List.flatMap_append]; simp [oneP]
def psz : PL → Nat
  | [] => 0
  | p :: r => p.1.length + 2 * p.2.length + 5 + psz r
theorem oneP_len (p : List UInt8 × List UInt8) : (oneP p).length ≤ p.1.length + 2 * p.2.length + 5 := by
  unfold oneP
  have := quote_len p.2
  split <;> simp only [List.length_append, List.length_cons, List.length_nil] <;> omega
theorem psz_take (ps : PL) : ∀ k (hk : k < ps.length), psz (ps.take k) + (ps[k].1.length + 2 * ps[k].2.length + 5) ≤ psz ps := by
  induction ps with
  | nil => intro k hk; simp at hk
  | cons p r ih =>
    intro k hk
    cases k with
    | zero => simp only [List.take_zero, psz, List.getElem_cons_zero]; omega
    | succ k =>
      have := ih k (by simpa using hk)
      simp only [List.take_succ_cons, psz, List.getElem_cons_succ]; omega
theorem textP_len (ps : PL) : (textP ps).length ≤ psz ps := by
  induction ps with
  | nil => simp [textP]
  | cons p r ih =>
    have e : textP (p :: r) = oneP p ++ textP r := by simp [textP, oneP]
    have := oneP_len p
    rw [e, List.length_append]
    simp only [psz]; omega
theorem textM_first {ty sub : List UInt8} {ps : PL} (h : isSmall ty = false ∨ isSmall sub = false) : textM ty sub ps = [] := by
  unfold textM; rcases h with h | h <;> simp [h]
theorem textM_bad {ty sub : List UInt8} {ps : PL} (k : Nat) (hk : k < ps.length) (h : okP ps[k] = false) : textM ty sub ps = [] := by
  unfold textM
  rw [if_neg]
  intro hc
  simp only [Bool.and_eq_true, List.all_eq_true] at hc
  have := hc.2 _ (List.getElem_mem hk)
  unfold okP at h
  simp only [this.1, Bool.true_and] at h
  have h2 : ps[k].2.all qb = true := by rw [List.all_eq_true]; exact this.2
  rw [h2] at h; cases h
theorem textM_good {ty sub : List UInt8} {ps : PL} (h1 : isSmall ty = true) (h2 : isSmall sub = true) (h : ∀ j (hj : j < ps.length), okP ps[j] = true) : textM ty sub ps = ty ++ [47] ++ sub ++ textP ps := by
  unfold textM
  rw [if_pos]
  simp only [h1, h2, Bool.and_eq_true, List.all_eq_true, true_and]
  intro p hp
  obtain ⟨j, hj, rfl⟩ := List.getElem_of_mem hp
  have := h j hj
  unfold okP at this
  simpa using this
theorem app_list2 (A B : ByteArray) : (A ++ B).data.toList = A.data.toList ++ B.data.toList := by simp [ByteArray.data_append]
theorem app_size2 (A B : ByteArray) : (A ++ B).size = A.size + B.size := by simp [ByteArray.size_append]

theorem ownC_mono {w : World} {base base' : Nat} {v : Value} {l : List UInt8} (h : OwnC w base v l) (hb : base' ≤ base) : OwnC w base' v l := by
  obtain ⟨g, c, h1, h2, h3⟩ := h
  exact ⟨g, c, h1, by omega, h3⟩
set_option maxHeartbeats 16000000 in
set_option maxRecDepth 100000 in
theorem text_any (T S : ByteArray) (ps : PL) (av : Option Addr) (an ac : Nat) (w : World) (han : ps.length = an) (hav : SrcA w av ac (ps.map mk2)) (hs : T.size + S.size + psz ps ≤ 1073741824) (hsp : ∀ j (hj : j < ps.length), ps[j].1.length + ps[j].2.length ≤ 1073741824) (hpl : ps.length ≤ 1073741824) :
    Calls Tryd.prog 16 #[.agg #[.string T, .string S, .slice av an ac]] w fun e w' => e = .returned (.string (mk (textM T.data.toList S.data.toList ps))) ∧ Below w.heap.size w w' := by
  have ht := fun wx => small_any T wx (by omega)
  have hu := fun wx => small_any S wx (by omega)
  obtain ⟨R, hR⟩ : ∃ R, R = mk (textM T.data.toList S.data.toList ps) := ⟨_, rfl⟩
  rw [← hR]
  cases h1 : isSmall T.data.toList with
  | false =>
    rw [h1] at ht
    have HT := Lib.hid ht
    have HV : Hid (R = ⟨#[]⟩) := Lib.hid (by rw [hR, textM_first (.inl h1)]; rfl)
    clear ht hu hR h1 hav hsp
    go_enter Tryd.func16, Tryd.ntmps16
    go_wp2_with fail
    refine (HT.out _).mono ?_; rintro e w1 ⟨rfl, hb⟩
    have HB : Hid (Below w.heap.size w w1) := Lib.hid (((Below.refl _ _).alloc (Nat.le_refl _) _).trans (hb.mono (by simp)))
    clear hb
    go_wp2
    go_ret
    exact ⟨ret_str HV.out.symm, HB.out⟩
  | true =>
  rw [h1] at ht
  have HT := Lib.hid ht
  cases h2 : isSmall S.data.toList with
  | false =>
    rw [h2] at hu
    have HU := Lib.hid hu
    have HV : Hid (R = ⟨#[]⟩) := Lib.hid (by rw [hR, textM_first (.inr h2)]; rfl)
    clear ht hu hR h1 h2 hav hsp
    go_enter Tryd.func16, Tryd.ntmps16
    go_wp2_with fail
    refine (HT.out _).mono ?_; rintro e w1 ⟨rfl, hb⟩
    have m1 := (res_cells w w1 _ _ hb 1).1.1
    have HB : Hid (Below w.heap.size w w1) := Lib.hid (((Below.refl _ _).alloc (Nat.le_refl _) _).trans (hb.mono (by simp)))
    clear hb
    go_wp2_with fail
    refine (HU.out _).mono ?_; rintro e w2 ⟨rfl, hb⟩
    have HB2 := Lib.hid (HB.out.trans (hb.mono HB.out.size))
    clear hb
    go_wp2
    go_ret
    exact ⟨ret_str HV.out.symm, HB2.out⟩
  | true =>
  rw [h2] at hu
  have HU := Lib.hid hu
  obtain ⟨head, hhead⟩ : ∃ head, head = T.data.toList ++ [47] ++ S.data.toList := ⟨_, rfl⟩
  have hheadl : head.length = T.size + 1 + S.size := by rw [hhead]; simp only [List.length_append, len_data, List.length_cons, List.length_nil]
  have hgood : (∀ j (hj : j < ps.length), okP ps[j] = true) → R = mk (head ++ textP ps) := fun h => by rw [hR, textM_good h1 h2 h, hhead]
  have hbad : ∀ k (hk : k < ps.length), okP ps[k] = false → R = ⟨#[]⟩ := fun k hk h => by rw [hR, textM_bad k hk h]; rfl
  have hcat : ((T ++ (⟨#[47]⟩ : ByteArray)) ++ S).data.toList = head := by rw [app_list2, app_list2, hhead]
  have hcs1 : (T ++ (⟨#[47]⟩ : ByteArray)).size = T.size + 1 := app_size2 _ _
  have hcs2 : ((T ++ (⟨#[47]⟩ : ByteArray)) ++ S).size = T.size + 1 + S.size := by rw [app_size2, hcs1]
  have hcv := fun W => conv_own ((T ++ (⟨#[47]⟩ : ByteArray)) ++ S) (by omega) W
  rw [hcat] at hcv
  have HGOOD := Lib.hid hgood
  have HBAD := Lib.hid hbad
  have HCV := Lib.hid hcv
  have HAV := Lib.hid hav
  have HSP := Lib.hid hsp
  have hn1 : ¬ 9223372036854775807 < T.size + (⟨#[47]⟩ : ByteArray).size := by have : (⟨#[47]⟩ : ByteArray).size = 1 := rfl; omega
  have hn2 : ¬ 9223372036854775807 < (T ++ (⟨#[47]⟩ : ByteArray)).size + S.size := by omega
  clear ht hu hR h1 h2 hav hsp hgood hbad hcv hhead hcat
  go_enter Tryd.func16, Tryd.ntmps16
  go_wp2_with fail
  refine (HT.out _).mono ?_; rintro e w1 ⟨rfl, hb⟩
  have m0 := (res_cells w w1 _ _ hb 0).1.1
  have m1 := (res_cells w w1 _ _ hb 1).1.1
  have m2 := (res_cells w w1 _ _ hb 2).1.1
  have HB : Hid (Below (w.alloc (.cells #[.string T, .string S, .slice av an ac] 24)).heap.size (w.alloc (.cells #[.string T, .string S, .slice av an ac] 24)) w1) := Lib.hid hb
  clear hb
  go_wp2_with fail
  refine (HU.out _).mono ?_; rintro e w2 ⟨rfl, hb⟩
  have hb2 := HB.out.trans (hb.mono HB.out.size)
  have HB2 := Lib.hid hb2
  clear hb m0 m1 m2
  have m0 := (res_cells w w2 _ _ hb2 0).1.1
  have m1 := (res_cells w w2 _ _ hb2 1).1.1
  have m2 := (res_cells w w2 _ _ hb2 2).1.1
  clear hb2
  obtain ⟨w3, cap, hrun, hb3, hown3⟩ := HCV.out w2
  have hb3' := HB2.out.trans (hb3.mono HB2.out.size)
  have HB3 : Hid (Below w.heap.size w w3) := Lib.hid (((Below.refl _ _).alloc (Nat.le_refl _) _).trans (hb3'.mono (by simp)))
  have HO3 := Lib.hid hown3
  have g2 := (res_cells w w3 _ _ hb3' 2).1.1
  have hz3 : w.heap.size ≤ w2.heap.size := by have := HB2.out.size; simp at this; omega
  have HZ3 := Lib.hid hz3
  clear hb3 hb3' hown3 hz3
  have HA3 : Hid (OwnC w3 w.heap.size (.slice (some ⟨w2.heap.size, 0, none⟩) (T.size + 1 + S.size) cap) (head ++ textP (ps.take 0))) := Lib.hid (by rw [← hcs2]; simpa [textP] using ownC_mono HO3.out HZ3.out)
  go_wp2_with fail
  clear hrun m0 m1 m2 g2
  go_loopw [3, 26] (fun v i wr => ∃ k : Nat, k ≤ an ∧ i = .int .i64 k ∧ OwnC wr w.heap.size v (head ++ textP (ps.take k)) ∧ Below w.heap.size w wr ∧ ∀ j (hj : j < ps.length), j < k → okP ps[j] = true) (fun _ i _ => an - (intOf i).toNat)
  case atStart => exact ⟨0, by omega, rfl, HA3.out, HB3.out, fun j _ h => by omega⟩
  case round =>
    obtain ⟨k, hk, rfl, hown, hb, hall⟩ := hrel
    have HBR := Lib.hid hb
    have HALL := Lib.hid hall
    have htl := textP_len (ps.take k)
    by_cases hlt : k < an
    case neg =>
      have hk2 : k = ps.length := by omega
      have HV : Hid (R = mk (head ++ textP ps)) := Lib.hid (HGOOD.out (fun j hj => hall j hj (by omega)))
      rw [hk2, List.take_length] at hown
      obtain ⟨fin, hfin⟩ : ∃ fin, head ++ textP ps = fin := ⟨_, rfl⟩
      rw [hfin] at hown HV
      obtain ⟨a5, c5, rfl, hs5⟩ := ownC_src hown
      have hcv := conv_src wr a5 c5 _ hs5
      rw [show (⟨fin.toArray⟩ : ByteArray) = R from HV.out.symm] at hcv
      clear hb hall hown hs5 htl hfin
      go_wp2
      go_ret
      exact ⟨rfl, HBR.out⟩
    case pos =>
      have hkp : k < ps.length := by omega
      have hpz := psz_take ps k hkp
      obtain ⟨b0, o0, hav, hb0, hc1, hc2⟩ := HAV.out.at_ k (by simpa using hkp)
      subst hav
      have hsp := HSP.out k hkp
      obtain ⟨p, hp⟩ : ∃ p, p = ps[k] := ⟨_, rfl⟩
      have hstep := textP_take ps k hkp
      have hbadk := HBAD.out k hkp
      rw [← hp] at hpz hsp hstep hbadk
      have hc1 : w.cell? ⟨b0, o0 + k * 2, none⟩ = some (.string (mk p.1)) := by rw [hc1, List.getElem_map, ← hp]; rfl
      have hc2 : w.cell? ⟨b0, o0 + k * 2 + 1, none⟩ = some (.string (mk p.2)) := by rw [hc2, List.getElem_map, ← hp]; rfl
      have d1 := (hb.cell (p := ⟨b0, o0 + k * 2, none⟩) hb0).trans hc1
      have d2 := (hb.cell (p := ⟨b0, o0 + k * 2 + 1, none⟩) hb0).trans hc2
      have hNs : (mk p.1).size = p.1.length := size_mk _
      have hVs : (mk p.2).size = p.2.length := size_mk _
      have hsm := fun wx => small_any (mk p.1) wx (by omega)
      have hal := fun wx => allQ_any (mk p.2) wx (by omega)
      have htk := fun wx => token_any (mk p.2) wx (by omega)
      have hqu := fun wx => quote_any (mk p.2) wx (by omega)
      rw [mk_list] at hsm hal htk hqu
      have hqs : (mk (quote p.2)).size = (quote p.2).length := size_mk _
      have hql := quote_len p.2
      obtain ⟨Nm, hNm⟩ : ∃ Nm, Nm = mk p.1 := ⟨_, rfl⟩
      obtain ⟨Vl, hVl⟩ : ∃ Vl, Vl = mk p.2 := ⟨_, rfl⟩
      obtain ⟨Qt, hQt⟩ : ∃ Qt, Qt = mk (quote p.2) := ⟨_, rfl⟩
      have hNl : Nm.data.toList = p.1 := by rw [hNm]; exact mk_list _
      have hVd : Vl.data.toList = p.2 := by rw [hVl]; exact mk_list _
      have hQd : Qt.data.toList = quote p.2 := by rw [hQt]; exact mk_list _
      have hqu2 : ∀ wx, Calls Tryd.prog 54 #[.string (mk p.2)] wx fun e w' => e = .returned (.string (mk (quote p.2))) ∧ Below wx.heap.size wx w' := hqu
      rw [← hNm] at d1 hsm hNs
      rw [← hVl] at d2 hal htk hqu2 hVs
      rw [← hQt] at hqu2 hqs
      have HQU := Lib.hid hqu2
      have HC := Lib.hid hown
      obtain ⟨rg, rc, hvr, hrb, hrlt, _⟩ := hown
      subst hvr
      clear hb hall hqu hqu2 hNm hVl hQt hc1 hc2
      cases q1 : isSmall p.1 with
      | false =>
        rw [q1] at hsm
        have HSM := Lib.hid hsm
        have HV : Hid (R = ⟨#[]⟩) := Lib.hid (hbadk (by unfold okP; rw [q1]; rfl))
        clear hsm hal htk hbadk q1 hpz hsp hstep hp
        go_wp2_with fail
        refine (HSM.out _).mono ?_; rintro e w4 ⟨rfl, hb⟩
        have HB4 : Hid (Below w.heap.size w w4) := Lib.hid ((HBR.out.alloc HBR.out.size _).trans (hb.mono (by have := HBR.out.size; simp; omega)))
        clear hb
        go_wp2
        go_ret
        exact ⟨ret_str HV.out.symm, HB4.out⟩
      | true =>
        rw [q1] at hsm
        have HSM := Lib.hid hsm
        cases q2 : p.2.all qb with
        | false =>
          rw [q2] at hal
          have HAL := Lib.hid hal
          have HV : Hid (R = ⟨#[]⟩) := Lib.hid (hbadk (by unfold okP; rw [q1, q2]; rfl))
          clear hsm hal htk hbadk q1 q2 hpz hsp hstep hp
          go_wp2_with fail
          refine (HSM.out _).mono ?_; rintro e w4 ⟨rfl, hb⟩
          have n1 := (res_cells wr w4 _ _ hb 1).1.1
          have HB4 : Hid (Below w.heap.size w w4) := Lib.hid ((HBR.out.alloc HBR.out.size _).trans (hb.mono (by have := HBR.out.size; simp; omega)))
          clear hb
          go_wp2_with fail
          refine (HAL.out _).mono ?_; rintro e w5 ⟨rfl, rfl⟩
          go_wp2
          go_ret
          exact ⟨ret_str HV.out.symm, HB4.out⟩
        | true =>
        rw [q2] at hal
        have HAL := Lib.hid hal
        have HOK : Hid (∀ j (hj : j < ps.length), j < k + 1 → okP ps[j] = true) := Lib.hid fun j hj h => by
          by_cases e : j = k
          · subst e; rw [← hp]; unfold okP; rw [q1, q2]; rfl
          · exact HALL.out j hj (by omega)
        obtain ⟨cur, hcur⟩ : ∃ cur, cur = head ++ textP (ps.take k) := ⟨_, rfl⟩
        obtain ⟨pre, hpre⟩ : ∃ pre, ((⟨#[59, 32]⟩ : ByteArray) ++ Nm) ++ ⟨#[61]⟩ = pre := ⟨_, rfl⟩
        have hpl : pre.data.toList = [59, 32] ++ p.1 ++ [61] := by rw [← hpre, app_list2, app_list2, hNl]
        have hps0 : ((⟨#[59, 32]⟩ : ByteArray) ++ Nm).size = 2 + Nm.size := app_size2 _ _
        have hps : pre.size = 2 + Nm.size + 1 := by rw [← hpre, app_size2, hps0]; rfl
        have hn3 : ¬ 9223372036854775807 < (⟨#[59, 32]⟩ : ByteArray).size + Nm.size := by have : (⟨#[59, 32]⟩ : ByteArray).size = 2 := rfl; omega
        have hn4 : ¬ 9223372036854775807 < ((⟨#[59, 32]⟩ : ByteArray) ++ Nm).size + (⟨#[61]⟩ : ByteArray).size := by have : (⟨#[61]⟩ : ByteArray).size = 1 := rfl; omega
        have hcl : cur.length ≤ 3000000000 := by rw [hcur, List.length_append, hheadl]; omega
        have hcl1 : cur.length + pre.size ≤ 140737488355328 := by omega
        have hcl2 : (cur ++ pre.data.toList).length + Vl.size ≤ 140737488355328 := by rw [List.length_append, len_data]; omega
        have hcl3 : (cur ++ pre.data.toList).length + Qt.size ≤ 140737488355328 := by rw [List.length_append, len_data]; omega
        have HN1 : Hid (isTok p.2 = true → cur ++ pre.data.toList ++ Vl.data.toList = head ++ textP (ps.take (k + 1))) := Lib.hid fun e => by
          rw [hstep, hcur, hpl, hVd]; unfold oneP; rw [if_pos e]; simp
        have HN2 : Hid (isTok p.2 = false → cur ++ pre.data.toList ++ Qt.data.toList = head ++ textP (ps.take (k + 1))) := Lib.hid fun e => by
          rw [hstep, hcur, hpl, hQd]; unfold oneP; rw [if_neg (by rw [e]; simp)]; simp
        rw [← hcur] at HC
        have HPRE := Lib.hid hpre
        have HCUR := Lib.hid (congrArg List.length hcur)
        have HC1 := Lib.hid hcl1
        have HC2 := Lib.hid hcl2
        have HC3 := Lib.hid hcl3
        have hlenv : (head ++ textP (ps.take k)).length = cur.length := by rw [hcur]
        rw [hlenv]
        clear hsm hal hbadk q1 q2 hpz hsp hstep hp hpre hps hps0 hcl hcl1 hcl2 hcl3 hpl hlenv hcur HCUR hVd hQd hNl
        go_wp2_with fail
        refine (HSM.out _).mono ?_; rintro e w4 ⟨rfl, hb⟩
        have n0 := (res_cells wr w4 _ _ hb 0).1.1
        have n1 := (res_cells wr w4 _ _ hb 1).1.1
        have hbr : Below wr.heap.size wr w4 := ((Below.refl _ _).alloc (Nat.le_refl _) _).trans (hb.mono (by simp))
        have HB4 : Hid (Below w.heap.size w w4) := Lib.hid (HBR.out.trans (hbr.mono HBR.out.size))
        have HC4 := Lib.hid (ownC_below HC.out hbr)
        have hz4 : wr.heap.size < w4.heap.size := by have := hb.size; simp at this; omega
        clear hb hbr
        go_wp2_with fail
        refine (HAL.out _).mono ?_; rintro e w5 ⟨rfl, rfl⟩
        have hpre := HPRE.out
        go_wp2_with (at_builtin; refine app_text rfl _ _ rfl w.heap.size _ cur rfl HC4.out _ rfl ?n5 HB4.out.size ?_)
        case n5 => first | exact HC1.out | (rw [HPRE.out]; exact HC1.out)
        intro v5 w5 hown5 hb5 hk5
        have n5 := (hk5.out ⟨wr.heap.size, 1, none⟩ hz4 (by simp; omega)).trans n1
        clear n0 n1 hpre
        have HB5 : Hid (Below w.heap.size w w5) := Lib.hid (HB4.out.trans hb5.out)
        obtain ⟨nx, hnx⟩ : ∃ nx, cur ++ pre.data.toList = nx := ⟨_, rfl⟩
        rw [hnx] at hown5 HN1 HN2 HC2 HC3
        have HC5 := Lib.hid hown5
        clear hown5 hb5 hk5 hnx
        cases q3 : isTok p.2 with
        | true =>
          rw [q3] at htk
          have HTK := Lib.hid htk
          have HNX := Lib.hid (HN1.out q3)
          clear htk q3
          go_wp2_with fail
          refine (HTK.out _).mono ?_; rintro e w6 ⟨rfl, rfl⟩
          go_wp2_with (at_builtin; refine app_text rfl _ _ rfl w.heap.size _ nx rfl HC5.out Vl rfl ?n6 HB5.out.size ?_)
          case n6 => exact HC2.out
          intro v6 w6 hown6 hb6 _
          have HB6 : Hid (Below w.heap.size w w6) := Lib.hid (HB5.out.trans hb6.out)
          rw [HNX.out] at hown6
          have HO6 := Lib.hid hown6
          clear hown6 hb6
          go_wp2
          go_roundw
          case rel => exact ⟨k + 1, by omega, by go_num, HO6.out, HB6.out, HOK.out⟩
          case measure => simp [intOf]; omega
        | false =>
          rw [q3] at htk
          have HTK := Lib.hid htk
          have HNX := Lib.hid (HN2.out q3)
          clear htk q3
          go_wp2_with fail
          refine (HTK.out _).mono ?_; rintro e w6 ⟨rfl, rfl⟩
          go_wp2_with fail
          refine (HQU.out _).mono ?_; rintro e w6 ⟨rfl, hb⟩
          have HB6 : Hid (Below w.heap.size w w6) := Lib.hid (HB5.out.trans (hb.mono HB5.out.size))
          have HC6 := Lib.hid (ownC_below HC5.out hb)
          clear hb
          go_wp2_with (at_builtin; refine app_text rfl _ _ rfl w.heap.size _ nx rfl HC6.out Qt rfl ?n6 HB6.out.size ?_)
          case n6 => exact HC3.out
          intro v7 w7 hown7 hb7 _
          have HB7 : Hid (Below w.heap.size w w7) := Lib.hid (HB6.out.trans hb7.out)
          rw [HNX.out] at hown7
          have HO7 := Lib.hid hown7
          clear hown7 hb7
          go_wp2
          go_roundw
          case rel => exact ⟨k + 1, by omega, by go_num, HO7.out, HB7.out, HOK.out⟩
          case measure => simp [intOf]; omega
end Go.Proofs.YtkadingpmebjbaaDoor
