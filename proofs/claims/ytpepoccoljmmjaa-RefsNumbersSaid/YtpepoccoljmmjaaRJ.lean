/- A text as it must be written: the program's. -/
import Derived.Test.YtpepoccoljmmjaaRI
set_option linter.unusedVariables false
namespace Go.Proofs.Ytpepoccoljmmjaa
open Go.RowKit Go.Shelf

theorem sgn_cons (q : Bool) (c : UInt8) (r : Bs) : sgn q (c :: r) = if c.toNat = 38 then ([38, 97, 109, 112, 59], 1) else if c.toNat = 60 then ([38, 108, 116, 59], 1) else if c.toNat = 62 then ([38, 103, 116, 59], 1) else if c.toNat = 34 ∧ q = true then ([38, 113, 117, 111, 116, 59], 1) else if Lib.hasPrefix (c :: r) [194, 160] = true then ([38, 110, 98, 115, 112, 59], 2) else ([], 0) := by
  have e : ∀ k : UInt8, (c.toNat = k.toNat) = (c = k) := fun k => propext UInt8.toNat_inj
  have e1 := e 38; have e2 := e 60; have e3 := e 62; have e4 := e 34
  simp only [show (38 : UInt8).toNat = 38 from rfl, show (60 : UInt8).toNat = 60 from rfl, show (62 : UInt8).toNat = 62 from rfl, show (34 : UInt8).toNat = 34 from rfl] at e1 e2 e3 e4
  simp only [e1, e2, e3, e4]
  unfold sgn
  split
  · rename_i h; cases h; rfl
  · rename_i h; cases h; rfl
  · rename_i h; cases h; rfl
  · rename_i h; cases h; cases q <;> simp [Lib.hasPrefix, List.isPrefixOf]
  · rename_i r' h; cases h
    cases r with
    | nil => simp [Lib.hasPrefix, List.isPrefixOf]
    | cons d r => 
      by_cases hd : d = 160
      · subst hd; simp [Lib.hasPrefix, List.isPrefixOf]
      · have : ((160 : UInt8) == d) = false := by simp; exact fun h => hd h.symm
        simp [Lib.hasPrefix, List.isPrefixOf, hd, this]
  · rename_i h1 h2 h3 h4 h5
    have n1 : c ≠ 38 := fun h => h1 r (by rw [h])
    have n2 : c ≠ 60 := fun h => h2 r (by rw [h])
    have n3 : c ≠ 62 := fun h => h3 r (by rw [h])
    have n4 : c ≠ 34 := fun h => h4 r (by rw [h])
    have n5 : c ≠ 194 := fun h => h5 r (by rw [h])
    have n6 : Lib.hasPrefix (c :: r) [194, 160] = false := by
      unfold Lib.hasPrefix; rw [List.isPrefixOf_cons_cons]
      have : ((194 : UInt8) == c) = false := by simp; exact fun h => n5 h.symm
      rw [this]; rfl
    rw [if_neg n1, if_neg n2, if_neg n3, if_neg (fun h => n4 h.1), n6]; rfl
theorem hasp_nb (X : ByteArray) (w : World) : Calls Try.prog 34 #[.string X, .string ⟨#[194, 160]⟩] w fun e w' => e = .returned (.bool (Lib.hasPrefix X.data.toList [194, 160])) ∧ w = w' := by
  refine (hasp_any X ⟨#[194, 160]⟩ w).mono ?_; rintro e w' ⟨rfl, rfl⟩; exact ⟨rfl, rfl⟩

set_option maxHeartbeats 4000000 in
theorem escaped_any (X : ByteArray) (q : Bool) (w : World) (hs : X.size ≤ 140737488355328) (h0 : 0 < X.size) :
    Calls Try.prog 45 #[.string X, .bool q] w fun e w' => e = .returned (.tuple #[.string (bs (sgn q X.data.toList).1), .int .i64 ((sgn q X.data.toList).2 : Nat)]) ∧ w = w' := by
  have hll := len_data X
  have hx : X.data.toList = X[0] :: X.data.toList.drop 1 := by
    rw [byte_at X 0 h0]
    have : X.data.toList.drop 0 = X.data.toList[0]'(by omega) :: X.data.toList.drop (0 + 1) := List.drop_eq_getElem_cons (by omega)
    simpa using this
  obtain ⟨F, hF⟩ : ∃ F, F = sgn q X.data.toList := ⟨_, rfl⟩
  rw [← hF]
  have hnb := hasp_nb X w
  have hs2 := sgn_cons q X[0] (X.data.toList.drop 1)
  rw [← hx] at hs2
  rw [hs2] at hF
  clear hs2 hx hll
  generalize Lib.hasPrefix X.data.toList [194, 160] = nb at hnb hF
  have HNB := Lib.hid hnb
  clear hnb
  obtain ⟨x, hxx⟩ : ∃ x : Int, x = (X[0].toNat : Int) := ⟨_, rfl⟩
  by_cases h1 : X[0].toNat = 38
  · have HV : Hid (F = ([38, 97, 109, 112, 59], 1)) := Lib.hid (by rw [hF, if_pos h1])
    have g1 : ((X[0].toNat : Int) == 38) = true := by simp [h1]
    clear hF h1 hxx
    go_enter Try.func45, Try.ntmps45
    go_wp2
    go_ret2
    exact ⟨ret_si' (by rw [HV.out]; rfl) (by rw [HV.out]; rfl), rfl⟩
  have g1 : ((X[0].toNat : Int) == 38) = false := by rw [beq_eq_false_iff_ne]; omega
  rw [if_neg h1] at hF
  by_cases h2 : X[0].toNat = 60
  · have HV : Hid (F = ([38, 108, 116, 59], 1)) := Lib.hid (by rw [hF, if_pos h2])
    have g2 : ((X[0].toNat : Int) == 60) = true := by simp [h2]
    clear hF h1 hxx h2
    go_enter Try.func45, Try.ntmps45
    go_wp2
    go_ret2
    exact ⟨ret_si' (by rw [HV.out]; rfl) (by rw [HV.out]; rfl), rfl⟩
  have g2 : ((X[0].toNat : Int) == 60) = false := by rw [beq_eq_false_iff_ne]; omega
  rw [if_neg h2] at hF
  by_cases h3 : X[0].toNat = 62
  · have HV : Hid (F = ([38, 103, 116, 59], 1)) := Lib.hid (by rw [hF, if_pos h3])
    have g3 : ((X[0].toNat : Int) == 62) = true := by simp [h3]
    clear hF h1 hxx h2 h3
    go_enter Try.func45, Try.ntmps45
    go_wp2
    go_ret2
    exact ⟨ret_si' (by rw [HV.out]; rfl) (by rw [HV.out]; rfl), rfl⟩
  have g3 : ((X[0].toNat : Int) == 62) = false := by rw [beq_eq_false_iff_ne]; omega
  rw [if_neg h3] at hF
  by_cases h4 : X[0].toNat = 34
  · have g4 : ((X[0].toNat : Int) == 34) = true := by simp [h4]
    cases q
    · rw [if_neg (by simp)] at hF
      cases nb
      · have HV : Hid (F = ([], 0)) := Lib.hid (by rw [hF]; rfl)
        clear hF h1 hxx h2 h3 h4
        go_enter Try.func45, Try.ntmps45
        go_wp2_with fail
        refine HNB.out.mono ?_; rintro e w1 ⟨rfl, rfl⟩
        go_wp2
        go_ret2
        exact ⟨ret_si' (by rw [HV.out]; rfl) (by rw [HV.out]; rfl), rfl⟩
      · have HV : Hid (F = ([38, 110, 98, 115, 112, 59], 2)) := Lib.hid (by rw [hF]; rfl)
        clear hF h1 hxx h2 h3 h4
        go_enter Try.func45, Try.ntmps45
        go_wp2_with fail
        refine HNB.out.mono ?_; rintro e w1 ⟨rfl, rfl⟩
        go_wp2
        go_ret2
        exact ⟨ret_si' (by rw [HV.out]; rfl) (by rw [HV.out]; rfl), rfl⟩
    · have HV : Hid (F = ([38, 113, 117, 111, 116, 59], 1)) := Lib.hid (by rw [hF, if_pos ⟨h4, rfl⟩])
      clear hF h1 hxx h2 h3 h4
      go_enter Try.func45, Try.ntmps45
      go_wp2
      go_ret2
      exact ⟨ret_si' (by rw [HV.out]; rfl) (by rw [HV.out]; rfl), rfl⟩
  have g4 : ((X[0].toNat : Int) == 34) = false := by rw [beq_eq_false_iff_ne]; omega
  rw [if_neg (fun h => h4 h.1)] at hF
  cases nb
  · have HV : Hid (F = ([], 0)) := Lib.hid (by rw [hF]; rfl)
    clear hF h1 hxx h2 h3 h4
    go_enter Try.func45, Try.ntmps45
    go_wp2_with fail
    refine HNB.out.mono ?_; rintro e w1 ⟨rfl, rfl⟩
    go_wp2
    go_ret2
    exact ⟨ret_si' (by rw [HV.out]; rfl) (by rw [HV.out]; rfl), rfl⟩
  · have HV : Hid (F = ([38, 110, 98, 115, 112, 59], 2)) := Lib.hid (by rw [hF]; rfl)
    clear hF h1 hxx h2 h3 h4
    go_enter Try.func45, Try.ntmps45
    go_wp2_with fail
    refine HNB.out.mono ?_; rintro e w1 ⟨rfl, rfl⟩
    go_wp2
    go_ret2
    exact ⟨ret_si' (by rw [HV.out]; rfl) (by rw [HV.out]; rfl), rfl⟩

theorem sgn_le (q : Bool) (c : UInt8) (r : Bs) : (sgn q (c :: r)).2 ≤ (c :: r).length := by
  rw [sgn_cons]
  split; simp
  split; simp
  split; simp
  split; simp
  split
  · rename_i h; exact (prefix_take h).1
  · simp

set_option maxRecDepth 10000 in
set_option maxHeartbeats 4000000 in
theorem escape_any (X : ByteArray) (q : Bool) (w : World) (hs : X.size ≤ 140737488355328) (htot : (esc q X.data.toList).length ≤ 140737488355328) :
    Calls Try.prog 23 #[.string X, .bool q] w fun e w' => e = .returned (.string (bs (esc q X.data.toList))) ∧ Below w.heap.size w w' := by
  have hI0 : IsB w.heap.size w.heap.size [] (w.alloc (.cells #[.pointer none, .slice none 0 0] 57)) := Lib.IsBuilderF.of (Lib.fresh_isBuilder 57 5 w)
  have hb0 : Below w.heap.size w (w.alloc (.cells #[.pointer none, .slice none 0 0] 57)) := (Below.refl _ _).alloc (Nat.le_refl _) _
  have HI0 := Lib.hid hI0
  have HB0 := Lib.hid hb0
  have hll := len_data X
  obtain ⟨E, hE⟩ : ∃ E, E = esc q X.data.toList := ⟨_, rfl⟩
  rw [← hE] at htot ⊢
  obtain ⟨l, hl⟩ : ∃ l, l = X.data.toList := ⟨_, rfl⟩
  rw [← hl] at hE hll
  have hes : ∀ i, i < X.size → ∀ wx, Calls Try.prog 45 #[.string (X.extract i X.size), .bool q] wx fun e w' => e = .returned (.tuple #[.string (bs (sgn q (l.drop i)).1), .int .i64 ((sgn q (l.drop i)).2 : Nat)]) ∧ wx = w' := fun i hi wx => by
    have hz : (X.extract i X.size).size = X.size - i := ext_size _ _ _ (Nat.le_refl _)
    have := escaped_any (X.extract i X.size) q wx (by omega) (by omega)
    rwa [ext_drop, ← hl] at this
  have hext : ∀ d i, d ≤ i → i ≤ X.size → (X.extract d i).data.toList = (l.take i).drop d ∧ (X.extract d i).size = i - d := fun d i h1 h2 => ⟨by rw [ext_list _ _ _ h2, hl], ext_size _ _ _ h2⟩
  have hstep : ∀ i, i < X.size → (sgn q (l.drop i)).2 ≤ X.size - i ∧ ((sgn q (l.drop i)).2 = 0 → ∀ d, d ≤ i → (l.take i).drop d ++ esc q (l.drop i) = (l.take (i + 1)).drop d ++ esc q (l.drop (i + 1))) ∧ ((sgn q (l.drop i)).2 ≠ 0 → esc q (l.drop i) = (sgn q (l.drop i)).1 ++ esc q (l.drop (i + (sgn q (l.drop i)).2))) := fun i hi => by
    have hil : i < l.length := by omega
    have hd : l.drop i = l[i] :: l.drop (i + 1) := List.drop_eq_getElem_cons hil
    refine ⟨?_, fun h0 d hd' => ?_, fun h0 => ?_⟩
    · have := sgn_le q l[i] (l.drop (i + 1))
      rw [← hd, List.length_drop] at this; omega
    · have h1 : esc q (l.drop i) = l[i] :: esc q (l.drop (i + 1)) := by
        conv => lhs; rw [hd]
        unfold esc
        exact rep_miss (by rw [← hd]; exact h0)
      rw [h1, List.take_succ_eq_append_getElem hil, List.drop_append_of_le_length (by rw [List.length_take]; omega)]
      simp
    · have := rep_hit (f := sgn q) (l := l.drop i) (by rw [hd]; exact List.cons_ne_nil _ _) h0
      rw [List.drop_drop] at this
      exact this
  have hend : ∀ d, d ≤ X.size → (l.take X.size).drop d = l.drop d := fun d h => by rw [List.take_of_length_le (by omega)]
  have hnil : esc q (l.drop X.size) = [] := by rw [List.drop_eq_nil_of_le (by omega)]; exact rep_nil _ _
  have htl : ∀ d i, d ≤ i → i ≤ X.size → ((l.take i).drop d).length = i - d := fun d i h1 h2 => by rw [List.length_drop, List.length_take]; omega
  have HE := Lib.hid hE
  have HT := Lib.hid htot
  have HES := Lib.hid hes
  have HX := Lib.hid hext
  have HST := Lib.hid hstep
  have HEN := Lib.hid hend
  have HNI := Lib.hid hnil
  have HTL := Lib.hid htl
  clear hI0 hb0 hE htot hes hext hstep hend hnil htl hl hll
  go_enter Try.func23, Try.ntmps23
  go_wp2_with fail
  go_loopw [6, 7] (fun dv iv wr => ∃ (d i : Nat) (acc : Bs), dv = .int .i64 d ∧ iv = .int .i64 i ∧ d ≤ i ∧ i ≤ X.size ∧ acc ++ ((l.take i).drop d ++ esc q (l.drop i)) = E ∧ IsB w.heap.size w.heap.size acc wr ∧ Below w.heap.size w wr) (fun _ iv _ => X.size - (intOf iv).toNat)
  case atStart => exact ⟨0, 0, [], rfl, rfl, Nat.le_refl _, by omega, by simpa using HE.out.symm, HI0.out, HB0.out⟩
  case round =>
    obtain ⟨d, i, acc, rfl, rfl, hdi, hiX, hacc, hI, hb⟩ := hrel
    have htot := HT.out
    have hlen : acc.length + ((i - d) + (esc q (l.drop i)).length) = E.length := by rw [← hacc, List.length_append, List.length_append, HTL.out d i hdi hiX]
    by_cases hlt : i < X.size
    · have hes := HES.out i hlt
      obtain ⟨s1, s2, s3⟩ := HST.out i hlt
      obtain ⟨c, n, hcn⟩ : ∃ c n, sgn q (l.drop i) = (c, n) := ⟨_, _, rfl⟩
      rw [hcn] at hes s1 s2 s3
      simp only at hes s1 s2 s3
      by_cases h0 : n = 0
      · have hacc2 : acc ++ ((l.take (i + 1)).drop d ++ esc q (l.drop (i + 1))) = E := by rw [← s2 h0 d hdi]; exact hacc
        subst h0
        have H := Lib.hid hes
        have HA := Lib.hid hacc2
        have HI := Lib.hid hI
        have HB := Lib.hid hb
        clear hes s1 s2 s3 hcn hacc hacc2 hlen htot hI hb
        go_wp2_with fail
        refine (H.out _).mono ?_; rintro e w1 ⟨rfl, rfl⟩
        go_wp2
        go_roundw
        case rel => exact ⟨d, i + 1, acc, rfl, by go_num, by omega, by omega, HA.out, HI.out, HB.out⟩
        case measure => simp [intOf]; omega
      · have hst := s3 h0
        obtain ⟨x1, x2⟩ := HX.out d i hdi hiX
        rw [hst] at hacc hlen
        rw [List.length_append] at hlen
        have hws := ws_any _ _ acc (X.extract d i) _ hI (by rw [x2]; omega) hb.size
        rw [x1] at hws
        have hws2 : ∀ w2, IsB w.heap.size w.heap.size (acc ++ (l.take i).drop d) w2 → w.heap.size ≤ w2.heap.size → Calls Try.prog 43 #[.pointer (some ⟨w.heap.size, 0, none⟩), .string (bs c)] w2 fun e w' => e = .returned (.tuple #[.int .i64 (bs c).size, .nilIface]) ∧ IsB w.heap.size w.heap.size ((acc ++ (l.take i).drop d) ++ c) w' ∧ Below w.heap.size w2 w' := fun w2 hI2 hs2 => by
          have := ws_any _ _ (acc ++ (l.take i).drop d) (bs c) w2 hI2 (by rw [show (bs c).size = c.length from size_mk c, List.length_append, HTL.out d i hdi hiX]; omega) hs2
          rwa [show (bs c).data.toList = c from data_mk c] at this
        have hrel : (acc ++ (l.take i).drop d ++ c) ++ ((l.take (i + n)).drop (i + n) ++ esc q (l.drop (i + n))) = E := by
          rw [← hacc, show (l.take (i + n)).drop (i + n) = [] from List.drop_eq_nil_of_le (by rw [List.length_take]; omega)]; simp
        generalize acc ++ (l.take i).drop d = acc2 at hws hws2 hrel
        have g0 : ((n : Int) == 0) = false := by rw [beq_eq_false_iff_ne]; omega
        have H := Lib.hid hes
        have HW := Lib.hid hws
        have HW2 := Lib.hid hws2
        have HR := Lib.hid hrel
        have HB := Lib.hid hb
        have hn1 : 1 ≤ n := by omega
        have HS1 : Hid (i + n ≤ X.size) := Lib.hid (by omega)
        clear hes s2 s3 hcn hacc hlen htot hI hb hst x1 x2 hws hws2 hrel h0
        go_wp2_with fail
        refine (H.out _).mono ?_; rintro e w1 ⟨rfl, rfl⟩
        go_wp2_with fail
        refine HW.out.mono ?_; rintro e w2 ⟨rfl, hI2, hb2⟩
        have HI2 := Lib.hid hI2
        have HB2 := Lib.hid (HB.out.trans hb2)
        clear hI2 hb2
        go_wp2_with fail
        refine (HW2.out _ HI2.out HB2.out.size).mono ?_; rintro e w3 ⟨rfl, hI3, hb3⟩
        have HI3 := Lib.hid hI3
        have HB3 := Lib.hid (HB2.out.trans hb3)
        clear hI3 hb3
        go_wp2
        go_roundw
        case rel => exact ⟨i + n, i + n, _, by go_num, by go_num, Nat.le_refl _, HS1.out, HR.out, HI3.out, HB3.out⟩
        case measure => have := HS1.out; simp [intOf]; omega
    · obtain rfl : i = X.size := by omega
      obtain ⟨x1, x2⟩ := HX.out d X.size hdi (Nat.le_refl _)
      rw [HNI.out, List.append_nil] at hacc
      rw [HNI.out] at hlen
      have hws := ws_any _ _ acc (X.extract d X.size) _ hI (by rw [x2]; simp at hlen; omega) hb.size
      rw [x1, hacc] at hws
      have HW := Lib.hid hws
      have HB := Lib.hid hb
      clear hws hb hI hacc hlen htot x1 x2
      go_wp2_with fail
      refine HW.out.mono ?_; rintro e w2 ⟨rfl, hI2, hb2⟩
      have hs2 := str_any w.heap.size w.heap.size E w2 hI2 (Nat.le_trans HB.out.size hb2.size)
      have HS := Lib.hid hs2
      have HB2 := Lib.hid (HB.out.trans hb2)
      clear hI2 hb2 hs2
      go_wp2_with fail
      refine HS.out.mono ?_; rintro e w3 ⟨rfl, hb3⟩
      have HB3 := Lib.hid (HB2.out.trans hb3)
      clear hb3
      go_wp2
      go_ret
      exact ⟨rfl, HB3.out⟩
end Go.Proofs.Ytpepoccoljmmjaa
