/- An encoding's label: the document's search. -/
import Derived.Test.YtagmjbjgphhlcaaDoorLH
set_option linter.unusedVariables false
namespace Go.Proofs.YtagmjbjgphhlcaaDoor
open Go.RowKit

theorem word_of (l : List UInt8) (a b : Nat) (ha : a ≤ b) (hb : b ≤ l.length) (h1 : ∀ j (hj : j < l.length), j < a → spB l[j] = true) (h2 : ∀ j (hj : j < l.length), b ≤ j → spB l[j] = true)
    (h3 : ∀ h : a < l.length, spB l[a] = false) (h4 : ∀ h : a < b, spB (l[b - 1]'(by omega)) = false) : Lib.trimS l spaces = (l.take b).drop a := by
  unfold Lib.trimS
  rcases Nat.lt_or_ge a l.length with h | h
  · have hab : a < b := by
      rcases Nat.lt_or_ge a b with h' | h'
      · exact h'
      · have e1 := h3 h; have e2 := h2 a h h'; rw [e1] at e2; cases e2
    rw [Lib.trimRightS_take l spaces b hb, Lib.trimLeftS_drop (l.take b) spaces a (by rw [List.length_take]; omega)]
    · intro j x hj hx
      rw [List.getElem?_take, if_pos (by omega)] at hx
      obtain ⟨hl, rfl⟩ := List.getElem?_eq_some_iff.1 hx
      exact h1 j hl hj
    · intro x hx
      rw [List.getElem?_take, if_pos (by omega)] at hx
      obtain ⟨hl, rfl⟩ := List.getElem?_eq_some_iff.1 hx
      exact h3 h
    · intro j x hj hx
      obtain ⟨hl, rfl⟩ := List.getElem?_eq_some_iff.1 hx
      exact h2 j hl hj
    · intro x _ hx
      obtain ⟨hl, rfl⟩ := List.getElem?_eq_some_iff.1 hx
      exact h4 hab
  · obtain rfl : a = b := by omega
    obtain rfl : a = l.length := by omega
    rw [Lib.trimRightS_take l spaces 0 (by omega)]
    · simp [Lib.trimLeftS_nil]
    · intro j x _ hx
      obtain ⟨hl, rfl⟩ := List.getElem?_eq_some_iff.1 hx
      exact h1 j hl hl
    · intro x hh; omega

theorem labsC_1 : labsC 1 = labs1 := rfl
theorem labsC_2 : labsC 2 = labs2 := rfl
theorem labsC_3 : labsC 3 = labs3 := rfl
theorem any_false {L : List (List UInt8)} {l : List UInt8} (h : ∀ x ∈ L, x ≠ l) : L.any (l == ·) = false := by
  rw [List.any_eq_false]; intro x hx; have := h x hx; simp; exact fun e => this e.symm
theorem any_true {L : List (List UInt8)} {l : List UInt8} (h : l ∈ L) : L.any (l == ·) = true := by
  rw [List.any_eq_true]; exact ⟨l, h, by simp⟩
theorem lab_hit (l : List UInt8) (c : Nat) (h1 : 1 ≤ c) (h3 : c ≤ 3) (hn : ∀ d, 1 ≤ d → d < c → ∀ x ∈ labsC d, x ≠ l) (hm : l ∈ labsC c) : labOf l = c := by
  have hc : c = 1 ∨ c = 2 ∨ c = 3 := by omega
  unfold labOf
  rcases hc with rfl | rfl | rfl
  · rw [any_true (labsC_1 ▸ hm)]; rfl
  · rw [any_false (labsC_1 ▸ hn 1 (by omega) (by omega)), any_true (labsC_2 ▸ hm)]; rfl
  · rw [any_false (labsC_1 ▸ hn 1 (by omega) (by omega)), any_false (labsC_2 ▸ hn 2 (by omega) (by omega)), any_true (labsC_3 ▸ hm)]; rfl
theorem lab_miss (l : List UInt8) (hn : ∀ d, 1 ≤ d → d < 4 → ∀ x ∈ labsC d, x ≠ l) : labOf l = 0 := by
  unfold labOf
  rw [any_false (labsC_1 ▸ hn 1 (by omega) (by omega)), any_false (labsC_2 ▸ hn 2 (by omega) (by omega)), any_false (labsC_3 ▸ hn 3 (by omega) (by omega))]; rfl
theorem LsB_len (c : Nat) : (LsB c).length = (labsC c).length := by simp [LsB]
theorem LsB_at (c j : Nat) (hj : j < (LsB c).length) : (LsB c)[j].data.toList = (labsC c)[j]'(by rw [← LsB_len]; exact hj) := by simp [LsB]
theorem byte_at (X : ByteArray) (k : Nat) (h : k < X.size) : X[k] = X.data.toList[k]'(by simpa using h) := by simp; rfl

set_option maxHeartbeats 8000000 in
set_option maxRecDepth 100000 in
theorem rlabel_walk (X : ByteArray) (w : World) (hs : X.size ≤ 9223372036854775807) (sp : Nat → Bool) (r : Nat) (U : ByteArray)
    (hsp : ∀ k (h : k < X.size) wx, Calls Tryd.prog 30 #[.int .u8 X[k].toNat] wx fun e w' => e = .returned (.bool (sp k)) ∧ wx = w')
    (hlow : ∀ a b wx, a ≤ b → b ≤ X.size → (∀ j, j < a → sp j = true) → (∀ j, b ≤ j → j < X.size → sp j = true) → (a < X.size → sp a = false) → (a < b → sp (b - 1) = false) → Calls Tryd.prog 31 #[.string (X.extract a b)] wx fun e w' => e = .returned (.string U) ∧ Below wx.heap.size wx w')
    (hhit : ∀ c, 1 ≤ c → c ≤ 3 → (∀ d, 1 ≤ d → d < c → ∀ j (hj : j < (LsB d).length), ((LsB d)[j].toList == U.toList) = false) → ∀ j (hj : j < (LsB c).length), ((LsB c)[j].toList == U.toList) = true → r = c)
    (hmiss : (∀ d, 1 ≤ d → d < 4 → ∀ j (hj : j < (LsB d).length), ((LsB d)[j].toList == U.toList) = false) → r = 0) :
    Calls Tryd.prog 21 #[.string X] w fun e w' => e = .returned (.int .i64 r) ∧ Below w.heap.size w w' := by
  have HSP := Lib.hid hsp
  have HLOW := Lib.hid hlow
  have HHIT := Lib.hid hhit
  have HMISS := Lib.hid hmiss
  clear hsp hlow hhit hmiss
  go_enter Tryd.func21, Tryd.ntmps21
  go_wp2_with fail
  go_loop [3] (fun i => ∃ a : Nat, a ≤ X.size ∧ i = .int .i64 a ∧ ∀ j, j < a → sp j = true) (fun i => X.size - (intOf i).toNat)
  case atStart => exact ⟨0, by omega, rfl, fun j h => by omega⟩
  case round =>
    obtain ⟨a, ha, rfl, hall⟩ := hrel
    have HA := Lib.hid hall
    clear hall
    have hcase : (a < X.size ∧ sp a = true) ∨ (a < X.size ∧ sp a = false) ∨ ¬ a < X.size := by
      rcases Nat.lt_or_ge a X.size with h | h
      · cases hb : sp a
        · exact .inr (.inl ⟨h, rfl⟩)
        · exact .inl ⟨h, rfl⟩
      · exact .inr (.inr (by omega))
    rcases hcase with ⟨hlt, hb⟩ | ⟨hlt, hb⟩ | hlt
    · have hc := HSP.out a hlt
      rw [hb] at hc
      have HC := Lib.hid hc
      have HN : Hid (∀ j, j < a + 1 → sp j = true) := Lib.hid fun j h => by
        by_cases e : j = a
        · subst e; exact hb
        · exact HA.out j (by omega)
      clear hc hb
      go_wp2_with fail
      refine (HC.out _).mono ?_; rintro e w1 ⟨rfl, rfl⟩
      go_wp2
      go_round
      case rel => exact ⟨a + 1, by omega, by go_num, HN.out⟩
      case measure => simp [intOf]; omega
    all_goals
      first
        | (have hc := HSP.out a hlt
           rw [hb] at hc
           have HC := Lib.hid hc
           have HAF : Hid (a < X.size → sp a = false) := Lib.hid fun _ => hb
           clear hc hb)
        | have HAF : Hid (a < X.size → sp a = false) := Lib.hid fun h => absurd h hlt
      go_wp2_with (refine (HC.out _).mono ?_; rintro e w1 ⟨rfl, rfl⟩)
      go_loop [4] (fun i => ∃ b : Nat, a ≤ b ∧ b ≤ X.size ∧ i = .int .i64 b ∧ ∀ j, b ≤ j → j < X.size → sp j = true) (fun i => (intOf i).toNat)
      case atStart => exact ⟨X.size, by omega, by omega, rfl, fun j h1 h2 => by omega⟩
      case round =>
        obtain ⟨b, hab, hbn, rfl, hall⟩ := hrel
        have HBA := Lib.hid hall
        clear hall
        have hcase2 : (∃ m, b = m + 1 ∧ a < b ∧ sp m = true) ∨ (∃ m, b = m + 1 ∧ a < b ∧ sp m = false) ∨ ¬ a < b := by
          rcases Nat.lt_or_ge a b with h | h
          · cases hb : sp (b - 1)
            · exact .inr (.inl ⟨b - 1, by omega, h, hb⟩)
            · exact .inl ⟨b - 1, by omega, h, hb⟩
          · exact .inr (.inr (by omega))
        rcases hcase2 with ⟨m, hm, hlb, hb⟩ | ⟨m, hm, hlb, hb⟩ | hlb
        · try (exfalso; omega)
          all_goals
            subst hm
            have hc := HSP.out m (by omega)
            rw [hb] at hc
            have HC2 := Lib.hid hc
            have HN2 : Hid (∀ j, m ≤ j → j < X.size → sp j = true) := Lib.hid fun j h1 h2 => by
              by_cases e : j = m
              · subst e; exact hb
              · exact HBA.out j (by omega) h2
            clear hc hb
            go_wp2_with fail
            refine (HC2.out _).mono ?_; rintro e w1 ⟨rfl, rfl⟩
            go_wp2
            go_round
            case rel => exact ⟨m, by omega, by omega, by go_num, HN2.out⟩
            case measure => simp [intOf]
        all_goals (try (exfalso; omega))
        all_goals
          first
            | (subst hm
               have hc := HSP.out m (by omega)
               rw [hb] at hc
               have HC2 := Lib.hid hc
               have HBF : Hid (a < m + 1 → sp (m + 1 - 1) = false) := Lib.hid fun _ => hb
               clear hc hb)
            | have HBF : Hid (a < b → sp (b - 1) = false) := Lib.hid fun h => absurd h hlb
          have hlw := fun wx => HLOW.out a _ wx hab hbn HA.out HBA.out HAF.out HBF.out
          have HLW := Lib.hid hlw
          clear hlw
          go_wp2_with (refine (HC2.out _).mono ?_; rintro e w1 ⟨rfl, rfl⟩)
          refine (HLW.out _).mono ?_; rintro e w1 ⟨rfl, hb1⟩
          have HB1 := Lib.hid hb1
          clear hb1 HLW HLOW HSP
          go_wp2_with fail
          go_loopw [6] (fun i wr => ∃ c : Nat, 1 ≤ c ∧ c ≤ 4 ∧ i = .int .i64 c ∧ (∀ d, 1 ≤ d → d < c → ∀ j (hj : j < (LsB d).length), ((LsB d)[j].toList == U.toList) = false) ∧ Below w.heap.size w wr) (fun i _ => 4 - (intOf i).toNat)
          case atStart => exact ⟨1, by omega, by omega, rfl, fun d h1 h2 => by omega, HB1.out⟩
          case round =>
            obtain ⟨c, hc1, hc4, rfl, hno, hb⟩ := hrel
            rename_i wr2
            have HNO := Lib.hid hno
            have HBC := Lib.hid hb
            clear hno hb
            by_cases hc3 : c ≤ 3
            · have hlc := fun wx => labels_any c hc1 hc3 wx
              have hlen : (LsB c).length ≤ 11 := by
                have h : c = 1 ∨ c = 2 ∨ c = 3 := by omega
                rcases h with rfl | rfl | rfl <;> decide
              have HHC := Lib.hid (HHIT.out c hc1 hc3 HNO.out)
              have hnext : (∀ j (hj : j < (LsB c).length), ((LsB c)[j].toList == U.toList) = false) → ∀ d, 1 ≤ d → d < c + 1 → ∀ j (hj : j < (LsB d).length), ((LsB d)[j].toList == U.toList) = false := fun h d h1 h2 => by
                by_cases e : d = c
                · subst e; exact h
                · exact HNO.out d h1 (by omega)
              have HNX := Lib.hid hnext
              clear hnext HNO
              generalize LsB c = Ls at hlc hlen HHC HNX
              have HLC := Lib.hid hlc
              clear hlc
              go_wp2_with fail
              refine (HLC.out _).mono ?_; rintro e w3 ⟨B, rfl, hcells, hB, hb3⟩
              have HCE := Lib.hid hcells
              have HB3 : Hid (Below w.heap.size w w3) := Lib.hid (HBC.out.trans (hb3.mono HBC.out.size))
              clear hcells hb3
              go_wp2_with fail
              go_loop [8] (fun i => ∃ j : Nat, j ≤ Ls.length ∧ i = .int .i64 j ∧ ∀ k (hk : k < Ls.length), k < j → (Ls[k].toList == U.toList) = false) (fun i => Ls.length - (intOf i).toNat)
              case atStart => exact ⟨0, by omega, rfl, fun k hk h => by omega⟩
              case round =>
                obtain ⟨j, hj, rfl, hall⟩ := hrel
                have HAL := Lib.hid hall
                clear hall
                by_cases hlj : j < Ls.length
                · have hce := HCE.out j hlj
                  have HH := Lib.hid (HHC.out j hlj)
                  have HNJ : Hid ((Ls[j].toList == U.toList) = false → ∀ k (hk : k < Ls.length), k < j + 1 → (Ls[k].toList == U.toList) = false) := Lib.hid fun h k hk h2 => by
                    by_cases e : k = j
                    · subst e; exact h
                    · exact HAL.out k hk (by omega)
                  generalize Ls[j] = Y at hce HH HNJ
                  cases hy : (Y.toList == U.toList) with
                  | true =>
                    have HV := Lib.hid (HH.out hy)
                    clear HH HNJ
                    go_wp2
                    go_ret
                    exact ⟨ret_int (by rw [HV.out]), HB3.out⟩
                  | false =>
                    have HV := Lib.hid (HNJ.out hy)
                    clear HH HNJ
                    go_wp2
                    go_round
                    case rel => exact ⟨j + 1, by omega, by go_num, HV.out⟩
                    case measure => simp [intOf]; omega
                · have HV := Lib.hid (HNX.out (fun k hk => HAL.out k hk (by omega)))
                  clear HNX HAL
                  go_wp2
                  go_roundw
                  case rel => exact ⟨c + 1, by omega, by omega, by go_num, HV.out, HB3.out⟩
                  case measure => simp [intOf]; omega
            · obtain rfl : c = 4 := by omega
              have HV := Lib.hid (HMISS.out HNO.out)
              clear HNO
              go_wp2
              go_ret
              exact ⟨ret_int (by rw [HV.out]; rfl), HBC.out⟩

theorem ext_list (X : ByteArray) (a b : Nat) (h : b ≤ X.size) : (X.extract a b).data.toList = (X.data.toList.take b).drop a := by
  rw [ByteArray.data_extract, Array.toList_extract, List.drop_take]
theorem LsB_beq (c j : Nat) (hj : j < (LsB c).length) (U : ByteArray) : ((LsB c)[j].toList == U.toList) = ((labsC c)[j]'(by rw [← LsB_len]; exact hj) == U.data.toList) := by
  rw [toList_data', toList_data', LsB_at]
theorem beq_false_ne {a b : List UInt8} (h : (a == b) = false) : a ≠ b := by intro e; subst e; simp at h
theorem rlabel_any (X : ByteArray) (w : World) (hs : X.size ≤ 9223372036854775807) :
    Calls Tryd.prog 21 #[.string X] w fun e w' => e = .returned (.int .i64 (labOf (wordOf X.data.toList) : Nat)) ∧ Below w.heap.size w w' := by
  have hx : X.data.toList.length = X.size := by simp
  refine rlabel_walk X w hs (fun k => spB (X.data.toList.getD k 0)) (labOf (wordOf X.data.toList)) ⟨(wordOf X.data.toList).toArray⟩ ?_ ?_ ?_ ?_
  · intro k h wx
    have e : X[k] = X.data.toList.getD k 0 := by rw [byte_at X k h, List.getD_eq_getElem?_getD, List.getElem?_eq_getElem (by omega)]; rfl
    rw [e]; exact space_any _ wx
  · intro a b wx hab hb h1 h2 h3 h4
    have hd : ∀ j (hj : j < X.data.toList.length), X.data.toList[j] = X.data.toList.getD j 0 := fun j hj => by rw [List.getD_eq_getElem?_getD, List.getElem?_eq_getElem hj]; rfl
    have hw := word_of X.data.toList a b hab (by omega) (fun j hj h => by rw [hd j hj]; exact h1 j h) (fun j hj h => by rw [hd j hj]; exact h2 j h (by omega)) (fun h => by rw [hd a h]; exact h3 (by omega)) (fun h => by rw [hd (b - 1) (by omega)]; exact h4 h)
    have hr := reflower_any (X.extract a b) wx (by have : (X.extract a b).size ≤ X.size := by { rw [ByteArray.size_extract]; omega }; omega)
    rw [ext_list X a b hb, ← hw] at hr
    exact hr
  · intro c h1 h3 hn j hj he
    rw [LsB_beq] at he
    refine lab_hit _ c h1 h3 (fun d hd1 hd2 x hx2 => ?_) ?_
    · obtain ⟨i, hi, rfl⟩ := List.getElem_of_mem hx2
      have := hn d hd1 hd2 i (by rw [LsB_len]; exact hi)
      rw [LsB_beq] at this
      simpa using beq_false_ne this
    · have := eq_of_beq he
      have h2 : (⟨(wordOf X.data.toList).toArray⟩ : ByteArray).data.toList = wordOf X.data.toList := by simp
      rw [h2] at this
      rw [← this]; exact List.getElem_mem _
  · intro hn
    refine lab_miss _ (fun d hd1 hd2 x hx2 => ?_)
    obtain ⟨i, hi, rfl⟩ := List.getElem_of_mem hx2
    have := hn d hd1 hd2 i (by rw [LsB_len]; exact hi)
    rw [LsB_beq] at this
    simpa using beq_false_ne this
end Go.Proofs.YtagmjbjgphhlcaaDoor
