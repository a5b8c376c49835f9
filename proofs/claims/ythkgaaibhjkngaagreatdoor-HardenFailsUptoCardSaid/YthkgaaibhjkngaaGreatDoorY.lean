/- The members of a list: the document's answer. -/
import Derived.Test.YthkgaaibhjkngaaGreatDoorX
set_option linter.unusedVariables false
namespace Go.Proofs.YthkgaaibhjkngaaGreatDoor
open Go.RowKit

/-- the list's members, with some bytes of the next one behind us -/
def lstB (sub : List UInt8) (k : Nat) (acc : List (List UInt8)) : Option (List (List UInt8)) :=
  match cutA sub k with
  | none => none
  | some n => (lst (sub.drop (n + 1))).map fun m => acc ++ (if trim (sub.take n) = [] then m else trim (sub.take n) :: m)
theorem lstB_zero (sub : List UInt8) (acc : List (List UInt8)) : lstB sub 0 acc = (lst sub).map (acc ++ ·) := by
  unfold lstB
  rw [cutA_zero]
  by_cases h : sub = []
  · subst h
    show (lst []).map _ = (lst []).map _
    rw [lst_nil]; rfl
  · obtain ⟨h1, h2⟩ := lst_step sub h
    cases hc : cut sub with
    | none => simp only; rw [h1 hc]; rfl
    | some n => simp only; rw [h2 n hc, Option.map_map]; congr 1
def nextAcc (acc : List (List UInt8)) (m : List UInt8) : List (List UInt8) := if m = [] then acc else acc ++ [m]
theorem lstB_here (sub : List UInt8) (k : Nat) (acc : List (List UInt8)) (h : cutA sub k = some k) : lstB sub k acc = (lst (sub.drop (k + 1))).map (nextAcc acc (trim (sub.take k)) ++ ·) := by
  unfold lstB nextAcc
  rw [h]
  simp only
  congr 1
  funext m
  split <;> simp
theorem lstB_step (sub : List UInt8) (k : Nat) (acc : List (List UInt8)) (hk : k < sub.length) :
    ((sub.getD k 0).toNat = 44 → lstB sub k acc = lstB (sub.drop (k + 1)) 0 (nextAcc acc (trim (sub.take k)))) ∧
    ((sub.getD k 0).toNat = 34 → (unq (sub.drop k) = none → lstB sub k acc = none) ∧ ∀ x, unq (sub.drop k) = some x → lstB sub k acc = lstB sub (k + x.2) acc) ∧
    ((sub.getD k 0).toNat ≠ 44 → (sub.getD k 0).toNat ≠ 34 → lstB sub k acc = lstB sub (k + 1) acc) := by
  obtain ⟨r1, r2, r3⟩ := cutA_step sub k hk
  refine ⟨fun h => ?_, fun h => ⟨fun hu => ?_, fun x hu => ?_⟩, fun h1 h2 => ?_⟩
  · rw [lstB_here sub k acc (r1 h), lstB_zero]
  · unfold lstB; rw [(r2 h).1 hu]
  · unfold lstB; rw [(r2 h).2 x hu]
  · unfold lstB; rw [r3 h1 h2]
theorem lstB_end (sub : List UInt8) (k : Nat) (acc : List (List UInt8)) (hk : sub.length = k) : lstB sub k acc = some (nextAcc acc (trim sub)) := by
  rw [lstB_here sub k acc (cutA_end sub k (by omega)), List.drop_eq_nil_iff.2 (by omega), lst_nil, List.take_of_length_le (by omega)]
  simp
theorem nextAcc_len (acc : List (List UInt8)) (m : List UInt8) : (nextAcc acc m).length ≤ acc.length + 1 := by unfold nextAcc; split <;> simp

set_option maxHeartbeats 16000000 in
set_option maxRecDepth 100000 in
theorem rList_any (X : ByteArray) (w : World) (hs : X.size ≤ 1073741824) :
    Calls Tryz.prog 103 #[.string X] w (ListSays (lst X.data.toList) w) := by
  have hll := len_data X
  obtain ⟨l, hl⟩ : ∃ l, X.data.toList = l := ⟨_, rfl⟩
  have hat : ∀ k (h : k < X.size), X[k] = l.getD k 0 := fun k h => by rw [← hl]; exact byte_getD X k h
  have hun : ∀ k wx, Calls Tryz.prog 125 #[.string (X.extract k X.size)] wx (UnqSays (unq (l.drop k)) wx) := fun k wx => by
    have := rUnquote_any (X.extract k X.size) wx (by rw [ext_size X k _ (Nat.le_refl _)]; omega)
    rw [ext_drop, hl] at this; exact this
  have htr : ∀ fr i, fr ≤ i → i ≤ X.size → ∀ wx, Calls Tryz.prog 119 #[.string (X.extract fr i)] wx fun e w' => e = .returned (.string (mk (trim ((l.drop fr).take (i - fr))))) ∧ wx = w' := fun fr i hf h wx => by
    have := rTrim_any (X.extract fr i) wx (by rw [ext_size X _ _ h]; omega)
    rw [ext_list X fr _ h, hl, List.drop_take] at this; exact this
  rw [hl] at hll ⊢
  obtain ⟨R, hR⟩ : ∃ R, R = lst l := ⟨_, rfl⟩
  rw [← hR]
  have HR : Hid (R = lstB (l.drop 0) 0 []) := Lib.hid (by rw [List.drop_zero, lstB_zero, hR]; cases lst l <;> simp)
  have HAT := Lib.hid hat
  have HUN := Lib.hid hun
  have HLL := Lib.hid hll
  have HTR := Lib.hid htr
  clear hat hl hll hR hun htr
  go_enter Tryz.func103, Tryz.ntmps103
  go_wp2_with fail
  go_loopw [4, 5, 6] (fun v f i wr => ∃ (fr j : Nat) (acc : List (List UInt8)), fr ≤ j ∧ f = .int .i64 fr ∧ i = .int .i64 j ∧ acc.length ≤ fr ∧ OwnS wr w.heap.size v (acc.map mk) ∧ Below w.heap.size w wr ∧ ((j ≤ X.size ∧ R = lstB (l.drop fr) (j - fr) acc) ∨ (j = X.size + 1 ∧ R = some acc))) (fun _ _ i _ => X.size + 1 - (intOf i).toNat)
  case atStart => exact ⟨0, 0, [], by omega, rfl, rfl, by simp, World.ownsRow_nil _ _ _ _, Below.refl _ _, .inl ⟨by omega, HR.out⟩⟩
  case round =>
    obtain ⟨fr, i, acc, hfi, rfl, rfl, hal, hown, hb, hor⟩ := hrel
    have HB := Lib.hid hb
    have HO := Lib.hid hown
    rcases hor with ⟨hle, hRk⟩ | ⟨hend, hV⟩
    case inr =>
      have HV := Lib.hid hV
      obtain ⟨a3, c3, hv3, _⟩ := ownS_src hown
      subst hv3
      clear hb hown hV
      go_wp2
      go_ret2
      exact listSays_some HV.out HO.out HB.out
    case inl =>
    have htr := HTR.out fr i hfi hle
    obtain ⟨m, hm⟩ : ∃ m, m = trim ((l.drop fr).take (i - fr)) := ⟨_, rfl⟩
    rw [← hm] at htr
    by_cases hlt : i < X.size
    case neg =>
      have hie : i = X.size := by omega
      have HNEW : Hid ((i + 1 ≤ X.size ∧ R = lstB (l.drop (i + 1)) (i + 1 - (i + 1)) (nextAcc acc m)) ∨ (i + 1 = X.size + 1 ∧ R = some (nextAcc acc m))) := Lib.hid (.inr ⟨by omega, by
        have hll := HLL.out
        have hdl : (l.drop fr).length = i - fr := by rw [List.length_drop]; omega
        rw [hRk, lstB_end _ _ _ hdl, hm, List.take_of_length_le (by omega)]⟩)
      have e0 : ((i : Int) == (X.size : Int)) = true := by simp [hie]
      clear hRk hm hie

      by_cases ht : m = []
      · have het : mk m = ⟨#[]⟩ := by rw [ht]; rfl
        have hna : nextAcc acc m = acc := by unfold nextAcc; rw [if_pos ht]
        rw [het] at htr
        rw [hna] at HNEW
        have HT := Lib.hid htr
        clear het hna ht htr hb hown
        go_wp2_with fail
        refine (HT.out _).mono ?_; rintro e w1 ⟨rfl, rfl⟩
        clear e0
        go_wp2
        go_roundw
        case rel => exact ⟨i + 1, i + 1, acc, Nat.le_refl _, by go_num, by go_num, by omega, HO.out, HB.out, HNEW.out⟩
        case measure => simp [intOf]; omega
      · have hpos : 0 < (mk m).size := by
          show 0 < (ByteArray.mk m.toArray).size
          rw [size_mk]; cases m; exact absurd rfl ht; simp
        obtain ⟨g1, g2, _⟩ := nonempty_beq hpos
        have hna : nextAcc acc m = acc ++ [m] := by unfold nextAcc; rw [if_neg ht]
        rw [hna] at HNEW
        have hmap : (acc ++ [m]).map mk = acc.map mk ++ [mk m] := by simp
        have hal2 : (acc ++ [m]).length ≤ i + 1 := by simp; omega
        have HAL2 := Lib.hid hal2
        generalize mk m = T at htr g1 g2 hmap
        have HMAP := Lib.hid hmap
        have HT := Lib.hid htr
        clear hna ht htr hpos hmap hb hown hal2
        go_wp2_with fail
        refine (HT.out _).mono ?_; rintro e w1 ⟨rfl, rfl⟩
        have HO2 : Hid (OwnS (wr.alloc (.cells #[.string T] 9)) w.heap.size _ (acc.map mk)) := Lib.hid (World.ownsRow.alloc HO.out _)
        have HC2 := Lib.hid (lit_str T wr)
        have HZ : Hid (w.heap.size ≤ (wr.alloc (.cells #[.string T] 9)).heap.size) := Lib.hid (by have := HB.out.size; simp; omega)
        clear e0
        go_wp2_with (at_builtin; refine app_str rfl _ _ rfl w.heap.size _ (acc.map mk) rfl HO2.out _ T rfl HC2.out ?n2 HZ.out ?_)
        case n2 => rw [List.length_map]; omega
        intro v3 w3 hown3 hb3
        have HO3 : Hid (OwnS w3 w.heap.size v3 ((acc ++ [m]).map mk)) := Lib.hid (by rw [HMAP.out]; exact hown3)
        have HB3 : Hid (Below w.heap.size w w3) := Lib.hid ((HB.out.alloc HB.out.size _).trans hb3.out)
        clear hown3 hb3 g1 g2
        go_wp2
        go_roundw
        case rel => exact ⟨i + 1, i + 1, acc ++ [m], Nat.le_refl _, by go_num, by go_num, HAL2.out, HO3.out, HB3.out, HNEW.out⟩
        case measure => simp [intOf]; omega
    case pos =>
      have hll := HLL.out
      have hdl : i - fr < (l.drop fr).length := by rw [List.length_drop]; omega
      obtain ⟨r1, r2, r3⟩ := lstB_step (l.drop fr) (i - fr) acc hdl
      have hgd : (l.drop fr).getD (i - fr) 0 = X[i] := by
        rw [HAT.out i hlt, List.getD_eq_getElem?_getD, List.getElem?_drop, List.getD_eq_getElem?_getD, show fr + (i - fr) = i by omega]
      have hdd : (l.drop fr).drop (i - fr) = l.drop i := by rw [List.drop_drop, show fr + (i - fr) = i by omega]
      have hdd1 : (l.drop fr).drop (i - fr + 1) = l.drop (i + 1) := by rw [List.drop_drop, show fr + (i - fr + 1) = i + 1 by omega]
      rw [hgd] at r1 r2 r3
      rw [hdd] at r2
      rw [hdd1, ← hm] at r1
      have e0 : ((i : Int) == (X.size : Int)) = false := by have : (i : Int) ≠ (X.size : Int) := by omega
                                                            simpa using this
      by_cases q2 : (X[i]).toNat = 34
      · have e2 : ((X[i].toNat : Int) == 34) = true := by simp; omega
        obtain ⟨s1, s2⟩ := r2 q2
        have hu := HUN.out i
        cases hq : unq (l.drop i) with
        | none =>
          rw [hq] at hu
          have HV := Lib.hid (hRk.trans (s1 hq))
          have HU := Lib.hid hu
          clear r1 r2 r3 q2 hRk hb s1 s2 hu hq hgd hdd hdd1 hm htr hown hll hdl
          go_wp2_with fail
          refine (HU.out _).mono ?_; rintro e w1 ⟨rfl, hb⟩
          have HB1 := Lib.hid (HB.out.trans (hb.mono HB.out.size))
          clear hb
          go_wp2
          go_ret2
          exact listSays_none HV.out HB1.out
        | some x =>
          rw [hq] at hu
          have HV := Lib.hid (hRk.trans (s2 x hq))
          have HU := Lib.hid hu
          have hx := unq_len _ x hq
          rw [List.length_drop] at hx
          obtain ⟨x1, n⟩ := x
          have hx2 : 2 ≤ n ∧ i + n ≤ X.size := by simp only at hx; omega
          obtain ⟨hxa, hxb⟩ := hx2
          have HV2 : Hid ((i + n ≤ X.size ∧ R = lstB (l.drop fr) (i + n - fr) acc) ∨ (i + n = X.size + 1 ∧ R = some acc)) := Lib.hid (.inl ⟨hxb, by rw [show i + n - fr = i - fr + n by omega]; exact HV.out⟩)
          have HU2 : Hid (∀ wx, Calls Tryz.prog 125 #[.string (X.extract i X.size)] wx fun e w' => e = .returned (.tuple #[.string ⟨x1.toArray⟩, .int .i64 n, .int .i64 0]) ∧ Below wx.heap.size wx w') := Lib.hid fun wx => HU.out wx
          clear r1 r2 r3 q2 hRk hb s1 s2 hu hq hx HV HU hgd hdd hdd1 hm htr hown hll hdl
          go_wp2_with fail
          refine (HU2.out _).mono ?_; rintro e w1 ⟨rfl, hb⟩
          have HB1 := Lib.hid (HB.out.trans (hb.mono HB.out.size))
          have HO1 := Lib.hid (ownS_below HO.out hb)
          clear hb
          go_wp2
          go_roundw
          case rel => exact ⟨fr, i + n, acc, by omega, by go_num, by go_num, hal, HO1.out, HB1.out, HV2.out⟩
          case measure => simp [intOf]; omega
      have e2 : ((X[i].toNat : Int) == 34) = false := by simp; omega
      by_cases q1 : (X[i]).toNat = 44
      · have e1 : ((X[i].toNat : Int) == 44) = true := by simp; omega
        have HNEW : Hid ((i + 1 ≤ X.size ∧ R = lstB (l.drop (i + 1)) (i + 1 - (i + 1)) (nextAcc acc m)) ∨ (i + 1 = X.size + 1 ∧ R = some (nextAcc acc m))) := Lib.hid (.inl ⟨by omega, by
          rw [hRk, r1 q1, Nat.sub_self]⟩)
        clear r1 r2 r3 q1 q2 hRk hgd hdd hdd1 hm hll hdl

        by_cases ht : m = []
        · have het : mk m = ⟨#[]⟩ := by rw [ht]; rfl
          have hna : nextAcc acc m = acc := by unfold nextAcc; rw [if_pos ht]
          rw [het] at htr
          rw [hna] at HNEW
          have HT := Lib.hid htr
          clear het hna ht htr hb hown
          go_wp2_with fail
          refine (HT.out _).mono ?_; rintro e w1 ⟨rfl, rfl⟩
          clear e0 e1 e2
          go_wp2
          go_roundw
          case rel => exact ⟨i + 1, i + 1, acc, Nat.le_refl _, by go_num, by go_num, by omega, HO.out, HB.out, HNEW.out⟩
          case measure => simp [intOf]; omega
        · have hpos : 0 < (mk m).size := by
            show 0 < (ByteArray.mk m.toArray).size
            rw [size_mk]; cases m; exact absurd rfl ht; simp
          obtain ⟨g1, g2, _⟩ := nonempty_beq hpos
          have hna : nextAcc acc m = acc ++ [m] := by unfold nextAcc; rw [if_neg ht]
          rw [hna] at HNEW
          have hmap : (acc ++ [m]).map mk = acc.map mk ++ [mk m] := by simp
          have hal2 : (acc ++ [m]).length ≤ i + 1 := by simp; omega
          have HAL2 := Lib.hid hal2
          generalize mk m = T at htr g1 g2 hmap
          have HMAP := Lib.hid hmap
          have HT := Lib.hid htr
          clear hna ht htr hpos hmap hb hown hal2
          go_wp2_with fail
          refine (HT.out _).mono ?_; rintro e w1 ⟨rfl, rfl⟩
          have HO2 : Hid (OwnS (wr.alloc (.cells #[.string T] 9)) w.heap.size _ (acc.map mk)) := Lib.hid (World.ownsRow.alloc HO.out _)
          have HC2 := Lib.hid (lit_str T wr)
          have HZ : Hid (w.heap.size ≤ (wr.alloc (.cells #[.string T] 9)).heap.size) := Lib.hid (by have := HB.out.size; simp; omega)
          clear e0 e1 e2
          go_wp2_with (at_builtin; refine app_str rfl _ _ rfl w.heap.size _ (acc.map mk) rfl HO2.out _ T rfl HC2.out ?n2 HZ.out ?_)
          case n2 => rw [List.length_map]; omega
          intro v3 w3 hown3 hb3
          have HO3 : Hid (OwnS w3 w.heap.size v3 ((acc ++ [m]).map mk)) := Lib.hid (by rw [HMAP.out]; exact hown3)
          have HB3 : Hid (Below w.heap.size w w3) := Lib.hid ((HB.out.alloc HB.out.size _).trans hb3.out)
          clear hown3 hb3 g1 g2
          go_wp2
          go_roundw
          case rel => exact ⟨i + 1, i + 1, acc ++ [m], Nat.le_refl _, by go_num, by go_num, HAL2.out, HO3.out, HB3.out, HNEW.out⟩
          case measure => simp [intOf]; omega
      · have e1 : ((X[i].toNat : Int) == 44) = false := by simp; omega
        have HV : Hid ((i + 1 ≤ X.size ∧ R = lstB (l.drop fr) (i + 1 - fr) acc) ∨ (i + 1 = X.size + 1 ∧ R = some acc)) := Lib.hid (.inl ⟨by omega, by rw [show i + 1 - fr = i - fr + 1 by omega, hRk]; exact r3 q1 q2⟩)
        clear r1 r2 r3 q1 q2 hRk hgd hdd hdd1 hm hll hdl htr hb hown
        go_wp2
        go_roundw
        case rel => exact ⟨fr, i + 1, acc, by omega, by go_num, by go_num, hal, HO.out, HB.out, HV.out⟩
        case measure => simp [intOf]; omega
end Go.Proofs.YthkgaaibhjkngaaGreatDoor
