/- A character may be told by its number: the walk. -/
import Derived.Test.YtpepoccoljmmjaaWN
set_option linter.unusedVariables false
namespace Go.Proofs.Ytpepoccoljmmjaa
open Go.RowKit Go.Shelf

theorem and7 (z : Int) : ∃ k : Nat, k ≤ 7 ∧ bits .and .i64 z 7 = k := by
  have h : (BitVec.ofInt 64 z &&& BitVec.ofInt 64 7).toNat ≤ 7 := by
    rw [BitVec.toNat_and]
    exact Nat.and_le_right
  refine ⟨(BitVec.ofInt 64 z &&& BitVec.ofInt 64 7).toNat, h, ?_⟩
  show IntKind.wrap .i64 ((BitVec.ofInt 64 z &&& BitVec.ofInt 64 7).toNat : Int) = _
  exact IntWalk.i64_in _ (by omega)

theorem ext_one (D : ByteArray) (i : Nat) (h : i < D.size) : (D.extract i (i + 1)).data.toList = [D.data.toList.getD i 0] := by
  rw [ext_list _ _ _ (by omega), getD_at' (by rw [len_data]; exact h)]
  have hl : i < D.data.toList.length := by rw [len_data]; exact h
  rw [List.take_succ_eq_append_getElem hl, List.drop_append_of_le_length (by rw [List.length_take]; omega), List.drop_eq_nil_of_le (by rw [List.length_take]; omega)]; rfl
theorem num_step (D T : ByteArray) (h : Bool) (b n k C : Nat) (hb : (b : Int) = bse h) (hb1 : 1 ≤ b) (hD : ∀ i, i < b → i < D.size ∧ dg h (D.data.toList.getD i 0) = (i : Nat)) (hn : n = C / b ^ k)
    (h1 : T.data.toList.length = k) (h2 : plv h T.data.toList = (C % b ^ k : Nat)) (h3 : ∀ c ∈ T.data.toList, 0 ≤ dg h c) :
    n / b = C / b ^ (k + 1) ∧ (D.extract (n % b) (n % b + 1) ++ T).data.toList.length = k + 1 ∧ plv h (D.extract (n % b) (n % b + 1) ++ T).data.toList = (C % b ^ (k + 1) : Nat) ∧ ∀ c ∈ (D.extract (n % b) (n % b + 1) ++ T).data.toList, 0 ≤ dg h c := by
  obtain ⟨d1, d2⟩ := digits_step (C := C) (k := k) (v := n) (b := b) (by omega) hn
  obtain ⟨e1, e2⟩ := hD (n % b) (Nat.mod_lt _ (by omega))
  rw [cat_list, ext_one D _ e1]
  refine ⟨d2, by simp [h1], ?_, fun c hc => ?_⟩
  · rw [List.singleton_append, plv_cons, e2, h1, h2, ← hb, ← d1]
    push_cast; rfl
  · rcases List.mem_append.1 hc with hc | hc
    · have : c = D.data.toList.getD (n % b) 0 := by simpa using hc
      rw [this, e2]; omega
    · exact h3 c hc

set_option maxRecDepth 10000 in
set_option maxHeartbeats 8000000 in
theorem numbers_walk (c z : Int) (cl lg : Bool) (w : World) (hm : MaxLen w) (hlo : -2147483648 ≤ c) (hhi : c ≤ 2147483647) :
    Calls Try.prog 9 #[.int .i32 c, .int .i64 z, .bool cl, .bool lg] w fun e w' => e = .returned (.bool true) ∧ Below w.heap.size w w' := by
  have hsh := shown_any w hm
  have hc := fun wx => uchar_any c wx
  have HSH := Lib.hid hsh
  clear hsh hm
  by_cases hch : isChar c
  rotate_left
  · have hn := fun wx => number_any c wx
    rw [numC_bad (.inr hch)] at hn
    rw [chB_no hch] at hc
    have hn2 : ∀ wx, Calls Try.prog 15 #[.int .i64 c] wx fun e w' => e = .returned (.string ⟨#[239, 191, 189]⟩) ∧ Below wx.heap.size wx w' := hn
    have HC := Lib.hid hc
    have HN := Lib.hid hn2
    clear hc hn hn2 hch
    go_enter Try.func9, Try.ntmps9
    go_wp2_with fail
    refine HSH.out.mono ?_; rintro e w1 ⟨rfl, hb⟩
    have HB := Lib.hid hb
    clear hb
    go_wp2_with fail
    refine (HC.out _).mono ?_; rintro e w2 ⟨rfl, rfl⟩
    go_wp2_with fail
    refine (HN.out _).mono ?_; rintro e w2 ⟨rfl, hb⟩
    have HB2 := Lib.hid (HB.out.trans (hb.mono HB.out.size))
    clear hb
    go_wp2
    go_ret
    exact ⟨rfl, HB2.out⟩
  have hc0 : 0 ≤ c := by unfold isChar at hch; omega
  have hcm : c ≤ 1114111 := by unfold isChar at hch; omega
  rw [chB_yes hch] at hc
  by_cases hsp : c = 0 ∨ (128 ≤ c ∧ c < 160)
  · have HC := Lib.hid hc
    clear hc hch
    rcases hsp with rfl | ⟨q1, q2⟩
    · go_enter Try.func9, Try.ntmps9
      go_wp2_with fail
      refine HSH.out.mono ?_; rintro e w1 ⟨rfl, hb⟩
      have HB := Lib.hid hb
      clear hb
      go_wp2_with fail
      refine (HC.out _).mono ?_; rintro e w2 ⟨rfl, rfl⟩
      go_wp2
      go_ret
      exact ⟨rfl, HB.out⟩
    · have g0 : (c == 0) = false := by rw [beq_eq_false_iff_ne]; omega
      go_enter Try.func9, Try.ntmps9
      go_wp2_with fail
      refine HSH.out.mono ?_; rintro e w1 ⟨rfl, hb⟩
      have HB := Lib.hid hb
      clear hb
      go_wp2_with fail
      refine (HC.out _).mono ?_; rintro e w2 ⟨rfl, rfl⟩
      go_wp2
      go_ret
      exact ⟨rfl, HB.out⟩
  have g0 : (c == 0) = false := by rw [beq_eq_false_iff_ne]; omega
  have hpl : c < 128 ∨ (128 ≤ c ∧ 160 ≤ c) := by omega
  obtain ⟨k7, hk7, hz7⟩ := and7 z
  have hn := fun wx => number_any c wx
  have hby := fun wx => bytes_any c hch wx
  have hnc : numC c = enc c := numC_plain (by omega) (by omega)
  rw [hnc] at hn
  have hcv := fun wx => src_lit (n := c) wx
  obtain ⟨C, hC⟩ : ∃ C : Nat, (C : Int) = c := ⟨c.toNat, by omega⟩
  have hCm : C ≤ 1114111 := by omega
  have hC0 : 0 < C := by omega
  obtain ⟨PD, hPD⟩ : ∃ PD : ByteArray, PD = (⟨#[48, 48, 48, 48, 48, 48, 48, 48, 48]⟩ : ByteArray).extract 0 k7 := ⟨_, rfl⟩
  have hPDl : PD.data.toList = List.replicate k7 48 := by
    rw [hPD, ext_list _ _ _ (by show k7 ≤ 9; omega), List.drop_zero]
    show (List.replicate 9 48).take k7 = _
    rw [List.take_replicate, Nat.min_eq_left (by omega)]
  have hPDs : PD.size = k7 := by rw [← len_data, hPDl, List.length_replicate]
  have hd10 : ∀ i, i < 10 → i < (⟨#[48, 49, 50, 51, 52, 53, 54, 55, 56, 57]⟩ : ByteArray).size ∧ dg false ((⟨#[48, 49, 50, 51, 52, 53, 54, 55, 56, 57]⟩ : ByteArray).data.toList.getD i 0) = (i : Nat) := by decide +kernel
  have hdl : ∀ i, i < 16 → i < (⟨#[48, 49, 50, 51, 52, 53, 54, 55, 56, 57, 97, 98, 99, 100, 101, 102]⟩ : ByteArray).size ∧ dg true ((⟨#[48, 49, 50, 51, 52, 53, 54, 55, 56, 57, 97, 98, 99, 100, 101, 102]⟩ : ByteArray).data.toList.getD i 0) = (i : Nat) := by decide +kernel
  have hdu : ∀ i, i < 16 → i < (⟨#[48, 49, 50, 51, 52, 53, 54, 55, 56, 57, 65, 66, 67, 68, 69, 70]⟩ : ByteArray).size ∧ dg true ((⟨#[48, 49, 50, 51, 52, 53, 54, 55, 56, 57, 65, 66, 67, 68, 69, 70]⟩ : ByteArray).data.toList.getD i 0) = (i : Nat) := by decide +kernel
  -- what is taken
  have htk : ∀ (q : Bool) (X0 T U : Bs) (k m : Nat) (E : Bs), (T.length = k ∧ plv false T = (C : Nat) ∧ ∀ c ∈ T, 0 ≤ dg false c) → (U.length = m ∧ plv true U = (C : Nat) ∧ ∀ c ∈ U, 0 ≤ dg true c) → k ≤ 7 → m ≤ 6 → 1 ≤ k → 1 ≤ m → (E = [] ∨ E = [59]) →
      (∀ (S : ByteArray) (q : Bool) (wx : World), S.data.toList = 38 :: 35 :: (List.replicate k7 48 ++ T ++ (E ++ [122])) → Calls Try.prog 17 #[.string S, .bool q] wx fun e w' => e = .returned (.tuple #[.string (bs (enc c)), .int .i64 ((2 + k7 + k + E.length : Nat))]) ∧ Below wx.heap.size wx w') ∧
      (∀ x, X0 = [x] → isX x = true → ∀ (S : ByteArray) (q : Bool) (wx : World), S.data.toList = 38 :: 35 :: (X0 ++ (List.replicate k7 48 ++ U ++ (E ++ [122]))) → Calls Try.prog 17 #[.string S, .bool q] wx fun e w' => e = .returned (.tuple #[.string (bs (enc c)), .int .i64 ((3 + k7 + m + E.length : Nat))]) ∧ Below wx.heap.size wx w') := fun q X0 T U k m E hT hU hk hm hk1 hm1 hE => by
    have hdig : ∀ (h : Bool) (L : Bs), (∀ c ∈ L, 0 ≤ dg h c) → ∀ c ∈ List.replicate k7 48 ++ L, 0 ≤ dg h c := fun h L hL c hc => by
      rcases List.mem_append.1 hc with hc | hc
      · rw [List.eq_of_mem_replicate hc]; cases h <;> decide
      · exact hL c hc
    have hnc2 : numC (C : Nat) = enc c := by rw [hC]; exact hnc
    refine ⟨fun S q wx hS => ?_, fun x hX0 hx S q wx hS => ?_⟩
    · have ht := tkN_num false [] (List.replicate k7 48 ++ T) E C (.inl ⟨rfl, rfl⟩) (by intro e; have := congrArg List.length e; rw [List.length_append, List.length_nil, hT.1] at this; omega) (by rw [List.length_append, List.length_replicate, hT.1]; omega) (hdig false T hT.2.2) (by rw [plv_noughts]; exact hT.2.1) hCm hE
      have hS2 : S.size ≤ 4611686018427387904 := by rw [← len_data, hS]; rcases hE with rfl | rfl <;> simp <;> omega
      have := take_any S q wx hS2
      rw [hS, tk_sharp, show List.replicate k7 48 ++ T ++ (E ++ [122]) = [] ++ (List.replicate k7 48 ++ T ++ (E ++ [122])) from rfl, ht, hnc2] at this
      simp only [List.length_append, List.length_replicate, hT.1, List.length_nil] at this
      rw [show 2 + 0 + (k7 + k) + E.length = 2 + k7 + k + E.length by omega] at this
      exact this
    · have ht := tkN_num true X0 (List.replicate k7 48 ++ U) E C (.inr ⟨rfl, x, hX0, hx⟩) (by intro e; have := congrArg List.length e; rw [List.length_append, List.length_nil, hU.1] at this; omega) (by rw [List.length_append, List.length_replicate, hU.1]; omega) (hdig true U hU.2.2) (by rw [plv_noughts]; exact hU.2.1) hCm hE
      have hS2 : S.size ≤ 4611686018427387904 := by rw [← len_data, hS, hX0]; rcases hE with rfl | rfl <;> simp <;> omega
      have := take_any S q wx hS2
      rw [hS, tk_sharp, ht, hnc2] at this
      simp only [List.length_append, List.length_replicate, hU.1, hX0, List.length_cons, List.length_nil] at this
      rw [show 2 + (0 + 1) + (k7 + m) + E.length = 3 + k7 + m + E.length by omega] at this
      exact this
  clear hnc
  generalize hEC : enc c = EC at hn hby hcv htk
  clear hEC
  obtain ⟨W, hW⟩ : ∃ W, W = bs EC := ⟨_, rfl⟩
  rw [← hW] at hn hcv htk
  clear hW
  generalize EC.length = ec at hby hcv
  generalize (Lib.byteCells EC).toArray = ECC at hby hcv
  have HC := Lib.hid hc
  have HN := Lib.hid hn
  have HBY := Lib.hid hby
  have HCV := Lib.hid hcv
  have HCC := Lib.hid hC
  have HPD := Lib.hid hPD
  have HPDL := Lib.hid hPDl
  have HD10 := Lib.hid hd10
  have HTK := Lib.hid htk
  clear hc hn hby hcv hPD hPDl hd10 htk hC hch hsp
  cases lg
  · have HD16 := Lib.hid hdl
    clear hdl hdu
    cases cl
    · rcases hpl with hpl | ⟨hpl, hpl2⟩
      all_goals
        go_enter Try.func9, Try.ntmps9
        go_wp2_with fail
        refine HSH.out.mono ?_; rintro e w1 ⟨rfl, hb⟩
        have HB := Lib.hid hb
        clear hb
        go_wp2_with fail
        refine (HC.out _).mono ?_; rintro e w2 ⟨rfl, rfl⟩
        go_wp2_with fail
        rw [← HPD.out]
        go_loop [12, 13] (fun t v => ∃ (T : ByteArray) (k n : Nat), t = .string T ∧ v = .int .i64 n ∧ k ≤ 7 ∧ T.size = k ∧ Hid (n = C / 10 ^ k) ∧ n ≤ 1114111 ∧ Hid (T.data.toList.length = k ∧ plv false T.data.toList = (C % 10 ^ k : Nat) ∧ ∀ c ∈ T.data.toList, 0 ≤ dg false c)) (fun _ v => (intOf v).toNat)
        case atStart => exact ⟨⟨#[]⟩, 0, C, rfl, by rw [HCC.out], by omega, rfl, Lib.hid (by simp), by omega, Lib.hid ⟨rfl, by rw [Nat.pow_zero, Nat.mod_one]; rfl, fun c hc => by cases hc⟩⟩
        case round =>
          obtain ⟨T, k, n, rfl, rfl, hk, hTs, hn, hnm, hT⟩ := hrel
          by_cases hlt : 0 < n
          · have hstep := num_step ⟨#[48, 49, 50, 51, 52, 53, 54, 55, 56, 57]⟩ T false 10 n k C rfl (by omega) HD10.out hn.out hT.out.1 hT.out.2.1 hT.out.2.2
            have hk6 : k < 7 := digits_few (b := 10) (by omega) hn.out hlt (by omega)
            have e1 : ((n : Int) % 10).toNat = n % 10 := by omega
            have e2 : ((n : Int) % 10 + 1).toNat = n % 10 + 1 := by omega
            have hz : ((⟨#[48, 49, 50, 51, 52, 53, 54, 55, 56, 57]⟩ : ByteArray).extract (n % 10) (n % 10 + 1) ++ T).size = k + 1 := by rw [← len_data]; exact hstep.2.1
            have E1 := Lib.hid e1
            have E2 := Lib.hid e2
            have HZ := Lib.hid hz
            have HST := Lib.hid hstep
            have hlt' : 0 < (n : Int) := by omega
            have hnm2 : (n : Int) ≤ 1114111 := by omega
            clear hstep e1 e2 hz
            go_wp2
            try rw [E1.out, E2.out]
            go_round
            case rel => exact ⟨_, k + 1, n / 10, rfl, by congr 1, by omega, HZ.out, Lib.hid HST.out.1, by omega, Lib.hid HST.out.2⟩
            case measure => simp [intOf]; omega
          · have hn0 : n = 0 := by omega
            subst hn0
            have hT1 := hT.out
            have hCk : C < 10 ^ k := by
              refine Nat.lt_of_not_le fun hle => ?_
              have := Nat.div_pos hle (Nat.pow_pos (by omega))
              rw [← hn.out] at this; omega
            rw [Nat.mod_eq_of_lt hCk] at hT1
            have hk1 : 1 ≤ k := by
              refine Nat.pos_of_ne_zero fun e => ?_
              subst e; rw [Nat.pow_zero] at hCk; omega
            have HT1 := Lib.hid hT1
            have hk0 : T.size = k := hTs
            clear hn hT hT1 hCk hTs hnm hlt
            go_wp2_with fail
            go_loop [16, 17] (fun t v => ∃ (T : ByteArray) (k n : Nat), t = .string T ∧ v = .int .i64 n ∧ k ≤ 6 ∧ T.size = k ∧ Hid (n = C / 16 ^ k) ∧ n ≤ 1114111 ∧ Hid (T.data.toList.length = k ∧ plv true T.data.toList = (C % 16 ^ k : Nat) ∧ ∀ c ∈ T.data.toList, 0 ≤ dg true c)) (fun _ v => (intOf v).toNat)
            case atStart => exact ⟨⟨#[]⟩, 0, C, rfl, by rw [HCC.out], by omega, rfl, Lib.hid (by simp), by omega, Lib.hid ⟨rfl, by rw [Nat.pow_zero, Nat.mod_one]; rfl, fun c hc => by cases hc⟩⟩
            case round =>
              obtain ⟨U, m, n, rfl, rfl, hm, hUs, hn, hnm, hU⟩ := hrel
              by_cases hlt : 0 < n
              · have hstep := num_step ⟨#[48, 49, 50, 51, 52, 53, 54, 55, 56, 57, 97, 98, 99, 100, 101, 102]⟩ U true 16 n m C rfl (by omega) HD16.out hn.out hU.out.1 hU.out.2.1 hU.out.2.2
                have hm6 : m < 6 := digits_few (b := 16) (by omega) hn.out hlt (by omega)
                have e1 : ((n : Int) % 16).toNat = n % 16 := by omega
                have e2 : ((n : Int) % 16 + 1).toNat = n % 16 + 1 := by omega
                have hz : ((⟨#[48, 49, 50, 51, 52, 53, 54, 55, 56, 57, 97, 98, 99, 100, 101, 102]⟩ : ByteArray).extract (n % 16) (n % 16 + 1) ++ U).size = m + 1 := by rw [← len_data]; exact hstep.2.1
                have E1 := Lib.hid e1
                have E2 := Lib.hid e2
                have HZ := Lib.hid hz
                have HST := Lib.hid hstep
                have hlt' : 0 < (n : Int) := by omega
                have hnm2 : (n : Int) ≤ 1114111 := by omega
                clear hstep e1 e2 hz
                go_wp2
                try rw [E1.out, E2.out]
                go_round
                case rel => exact ⟨_, m + 1, n / 16, rfl, by congr 1, by omega, HZ.out, Lib.hid HST.out.1, by omega, Lib.hid HST.out.2⟩
                case measure => simp [intOf]; omega
              · have hn0 : n = 0 := by omega
                subst hn0
                have hU1 := hU.out
                have hCm : C < 16 ^ m := by
                  refine Nat.lt_of_not_le fun hle => ?_
                  have := Nat.div_pos hle (Nat.pow_pos (by omega))
                  rw [← hn.out] at this; omega
                rw [Nat.mod_eq_of_lt hCm] at hU1
                have hm1 : 1 ≤ m := by
                  refine Nat.pos_of_ne_zero fun e => ?_
                  subst e; rw [Nat.pow_zero] at hCm; omega
                have HT2 := Lib.hid (HTK.out true [120] T.data.toList U.data.toList k m [] HT1.out hU1 hk hm hk1 hm1 (by simp))
                have y1 : (⟨#[38, 35]⟩ ++ PD : ByteArray).size = 2 + k7 := by rw [cat_size, hPDs]; rfl
                have y2 : (⟨#[38, 35]⟩ ++ PD ++ T : ByteArray).size = 2 + k7 + k := by rw [cat_size, y1, hk0]
                have x1 : (⟨#[38, 35]⟩ ++ ⟨#[120]⟩ : ByteArray).size = 3 := rfl
                have x2 : (⟨#[38, 35]⟩ ++ ⟨#[120]⟩ ++ PD : ByteArray).size = 3 + k7 := by rw [cat_size, hPDs]; rfl
                have x3 : (⟨#[38, 35]⟩ ++ ⟨#[120]⟩ ++ PD ++ U : ByteArray).size = 3 + k7 + m := by rw [cat_size, x2, hUs]

                simp only [List.length_nil, List.length_cons, Nat.add_zero, Nat.zero_add] at HT2
                clear hn hU hU1 hCm hnm hlt
                go_wp2_with fail
                refine (HBY.out _).mono ?_; rintro e w3 ⟨rfl, hw3⟩
                have hcv := HCV.out w1
                rw [← hw3] at hcv
                have HB3 : Hid (Below w.heap.size w w3) := Lib.hid (by rw [hw3]; exact HB.out.alloc HB.out.size _)
                clear hw3
                go_wp2_with fail
                refine (HT2.out.1 _ _ _ (by simp [ByteArray.data_append, HPDL.out])).mono ?_; rintro e w4 ⟨rfl, hb⟩
                have HB4 := Lib.hid (HB3.out.trans (hb.mono HB3.out.size))
                clear hb
                go_wp2_with fail
                refine (HT2.out.2 _ rfl (by decide) _ _ _ (by simp [ByteArray.data_append, HPDL.out])).mono ?_; rintro e w5 ⟨rfl, hb⟩
                have HB5 := Lib.hid (HB4.out.trans (hb.mono HB4.out.size))
                clear hb
                go_wp2_with fail
                refine (HN.out _).mono ?_; rintro e w6 ⟨rfl, hb⟩
                have HB6 := Lib.hid (HB5.out.trans (hb.mono HB5.out.size))
                clear hb
                go_wp2
                go_ret
                exact ⟨rfl, HB6.out⟩
    · rcases hpl with hpl | ⟨hpl, hpl2⟩
      all_goals
        go_enter Try.func9, Try.ntmps9
        go_wp2_with fail
        refine HSH.out.mono ?_; rintro e w1 ⟨rfl, hb⟩
        have HB := Lib.hid hb
        clear hb
        go_wp2_with fail
        refine (HC.out _).mono ?_; rintro e w2 ⟨rfl, rfl⟩
        go_wp2_with fail
        rw [← HPD.out]
        go_loop [12, 13] (fun t v => ∃ (T : ByteArray) (k n : Nat), t = .string T ∧ v = .int .i64 n ∧ k ≤ 7 ∧ T.size = k ∧ Hid (n = C / 10 ^ k) ∧ n ≤ 1114111 ∧ Hid (T.data.toList.length = k ∧ plv false T.data.toList = (C % 10 ^ k : Nat) ∧ ∀ c ∈ T.data.toList, 0 ≤ dg false c)) (fun _ v => (intOf v).toNat)
        case atStart => exact ⟨⟨#[]⟩, 0, C, rfl, by rw [HCC.out], by omega, rfl, Lib.hid (by simp), by omega, Lib.hid ⟨rfl, by rw [Nat.pow_zero, Nat.mod_one]; rfl, fun c hc => by cases hc⟩⟩
        case round =>
          obtain ⟨T, k, n, rfl, rfl, hk, hTs, hn, hnm, hT⟩ := hrel
          by_cases hlt : 0 < n
          · have hstep := num_step ⟨#[48, 49, 50, 51, 52, 53, 54, 55, 56, 57]⟩ T false 10 n k C rfl (by omega) HD10.out hn.out hT.out.1 hT.out.2.1 hT.out.2.2
            have hk6 : k < 7 := digits_few (b := 10) (by omega) hn.out hlt (by omega)
            have e1 : ((n : Int) % 10).toNat = n % 10 := by omega
            have e2 : ((n : Int) % 10 + 1).toNat = n % 10 + 1 := by omega
            have hz : ((⟨#[48, 49, 50, 51, 52, 53, 54, 55, 56, 57]⟩ : ByteArray).extract (n % 10) (n % 10 + 1) ++ T).size = k + 1 := by rw [← len_data]; exact hstep.2.1
            have E1 := Lib.hid e1
            have E2 := Lib.hid e2
            have HZ := Lib.hid hz
            have HST := Lib.hid hstep
            have hlt' : 0 < (n : Int) := by omega
            have hnm2 : (n : Int) ≤ 1114111 := by omega
            clear hstep e1 e2 hz
            go_wp2
            try rw [E1.out, E2.out]
            go_round
            case rel => exact ⟨_, k + 1, n / 10, rfl, by congr 1, by omega, HZ.out, Lib.hid HST.out.1, by omega, Lib.hid HST.out.2⟩
            case measure => simp [intOf]; omega
          · have hn0 : n = 0 := by omega
            subst hn0
            have hT1 := hT.out
            have hCk : C < 10 ^ k := by
              refine Nat.lt_of_not_le fun hle => ?_
              have := Nat.div_pos hle (Nat.pow_pos (by omega))
              rw [← hn.out] at this; omega
            rw [Nat.mod_eq_of_lt hCk] at hT1
            have hk1 : 1 ≤ k := by
              refine Nat.pos_of_ne_zero fun e => ?_
              subst e; rw [Nat.pow_zero] at hCk; omega
            have HT1 := Lib.hid hT1
            have hk0 : T.size = k := hTs
            clear hn hT hT1 hCk hTs hnm hlt
            go_wp2_with fail
            go_loop [16, 17] (fun t v => ∃ (T : ByteArray) (k n : Nat), t = .string T ∧ v = .int .i64 n ∧ k ≤ 6 ∧ T.size = k ∧ Hid (n = C / 16 ^ k) ∧ n ≤ 1114111 ∧ Hid (T.data.toList.length = k ∧ plv true T.data.toList = (C % 16 ^ k : Nat) ∧ ∀ c ∈ T.data.toList, 0 ≤ dg true c)) (fun _ v => (intOf v).toNat)
            case atStart => exact ⟨⟨#[]⟩, 0, C, rfl, by rw [HCC.out], by omega, rfl, Lib.hid (by simp), by omega, Lib.hid ⟨rfl, by rw [Nat.pow_zero, Nat.mod_one]; rfl, fun c hc => by cases hc⟩⟩
            case round =>
              obtain ⟨U, m, n, rfl, rfl, hm, hUs, hn, hnm, hU⟩ := hrel
              by_cases hlt : 0 < n
              · have hstep := num_step ⟨#[48, 49, 50, 51, 52, 53, 54, 55, 56, 57, 97, 98, 99, 100, 101, 102]⟩ U true 16 n m C rfl (by omega) HD16.out hn.out hU.out.1 hU.out.2.1 hU.out.2.2
                have hm6 : m < 6 := digits_few (b := 16) (by omega) hn.out hlt (by omega)
                have e1 : ((n : Int) % 16).toNat = n % 16 := by omega
                have e2 : ((n : Int) % 16 + 1).toNat = n % 16 + 1 := by omega
                have hz : ((⟨#[48, 49, 50, 51, 52, 53, 54, 55, 56, 57, 97, 98, 99, 100, 101, 102]⟩ : ByteArray).extract (n % 16) (n % 16 + 1) ++ U).size = m + 1 := by rw [← len_data]; exact hstep.2.1
                have E1 := Lib.hid e1
                have E2 := Lib.hid e2
                have HZ := Lib.hid hz
                have HST := Lib.hid hstep
                have hlt' : 0 < (n : Int) := by omega
                have hnm2 : (n : Int) ≤ 1114111 := by omega
                clear hstep e1 e2 hz
                go_wp2
                try rw [E1.out, E2.out]
                go_round
                case rel => exact ⟨_, m + 1, n / 16, rfl, by congr 1, by omega, HZ.out, Lib.hid HST.out.1, by omega, Lib.hid HST.out.2⟩
                case measure => simp [intOf]; omega
              · have hn0 : n = 0 := by omega
                subst hn0
                have hU1 := hU.out
                have hCm : C < 16 ^ m := by
                  refine Nat.lt_of_not_le fun hle => ?_
                  have := Nat.div_pos hle (Nat.pow_pos (by omega))
                  rw [← hn.out] at this; omega
                rw [Nat.mod_eq_of_lt hCm] at hU1
                have hm1 : 1 ≤ m := by
                  refine Nat.pos_of_ne_zero fun e => ?_
                  subst e; rw [Nat.pow_zero] at hCm; omega
                have HT2 := Lib.hid (HTK.out true [120] T.data.toList U.data.toList k m [59] HT1.out hU1 hk hm hk1 hm1 (by simp))
                have y1 : (⟨#[38, 35]⟩ ++ PD : ByteArray).size = 2 + k7 := by rw [cat_size, hPDs]; rfl
                have y2 : (⟨#[38, 35]⟩ ++ PD ++ T : ByteArray).size = 2 + k7 + k := by rw [cat_size, y1, hk0]
                have x1 : (⟨#[38, 35]⟩ ++ ⟨#[120]⟩ : ByteArray).size = 3 := rfl
                have x2 : (⟨#[38, 35]⟩ ++ ⟨#[120]⟩ ++ PD : ByteArray).size = 3 + k7 := by rw [cat_size, hPDs]; rfl
                have x3 : (⟨#[38, 35]⟩ ++ ⟨#[120]⟩ ++ PD ++ U : ByteArray).size = 3 + k7 + m := by rw [cat_size, x2, hUs]
                have y3 : (⟨#[38, 35]⟩ ++ PD ++ T ++ ⟨#[59]⟩ : ByteArray).size = 2 + k7 + k + 1 := by rw [cat_size, y2]; rfl
                have x4 : (⟨#[38, 35]⟩ ++ ⟨#[120]⟩ ++ PD ++ U ++ ⟨#[59]⟩ : ByteArray).size = 3 + k7 + m + 1 := by rw [cat_size, x3]; rfl
                simp only [List.length_nil, List.length_cons, Nat.add_zero, Nat.zero_add] at HT2
                clear hn hU hU1 hCm hnm hlt
                go_wp2_with fail
                refine (HBY.out _).mono ?_; rintro e w3 ⟨rfl, hw3⟩
                have hcv := HCV.out w1
                rw [← hw3] at hcv
                have HB3 : Hid (Below w.heap.size w w3) := Lib.hid (by rw [hw3]; exact HB.out.alloc HB.out.size _)
                clear hw3
                go_wp2_with fail
                refine (HT2.out.1 _ _ _ (by simp [ByteArray.data_append, HPDL.out])).mono ?_; rintro e w4 ⟨rfl, hb⟩
                have HB4 := Lib.hid (HB3.out.trans (hb.mono HB3.out.size))
                clear hb
                go_wp2_with fail
                refine (HT2.out.2 _ rfl (by decide) _ _ _ (by simp [ByteArray.data_append, HPDL.out])).mono ?_; rintro e w5 ⟨rfl, hb⟩
                have HB5 := Lib.hid (HB4.out.trans (hb.mono HB4.out.size))
                clear hb
                go_wp2_with fail
                refine (HN.out _).mono ?_; rintro e w6 ⟨rfl, hb⟩
                have HB6 := Lib.hid (HB5.out.trans (hb.mono HB5.out.size))
                clear hb
                go_wp2
                go_ret
                exact ⟨rfl, HB6.out⟩
  · have HD16 := Lib.hid hdu
    clear hdl hdu
    cases cl
    · rcases hpl with hpl | ⟨hpl, hpl2⟩
      all_goals
        go_enter Try.func9, Try.ntmps9
        go_wp2_with fail
        refine HSH.out.mono ?_; rintro e w1 ⟨rfl, hb⟩
        have HB := Lib.hid hb
        clear hb
        go_wp2_with fail
        refine (HC.out _).mono ?_; rintro e w2 ⟨rfl, rfl⟩
        go_wp2_with fail
        rw [← HPD.out]
        go_loop [12, 13] (fun t v => ∃ (T : ByteArray) (k n : Nat), t = .string T ∧ v = .int .i64 n ∧ k ≤ 7 ∧ T.size = k ∧ Hid (n = C / 10 ^ k) ∧ n ≤ 1114111 ∧ Hid (T.data.toList.length = k ∧ plv false T.data.toList = (C % 10 ^ k : Nat) ∧ ∀ c ∈ T.data.toList, 0 ≤ dg false c)) (fun _ v => (intOf v).toNat)
        case atStart => exact ⟨⟨#[]⟩, 0, C, rfl, by rw [HCC.out], by omega, rfl, Lib.hid (by simp), by omega, Lib.hid ⟨rfl, by rw [Nat.pow_zero, Nat.mod_one]; rfl, fun c hc => by cases hc⟩⟩
        case round =>
          obtain ⟨T, k, n, rfl, rfl, hk, hTs, hn, hnm, hT⟩ := hrel
          by_cases hlt : 0 < n
          · have hstep := num_step ⟨#[48, 49, 50, 51, 52, 53, 54, 55, 56, 57]⟩ T false 10 n k C rfl (by omega) HD10.out hn.out hT.out.1 hT.out.2.1 hT.out.2.2
            have hk6 : k < 7 := digits_few (b := 10) (by omega) hn.out hlt (by omega)
            have e1 : ((n : Int) % 10).toNat = n % 10 := by omega
            have e2 : ((n : Int) % 10 + 1).toNat = n % 10 + 1 := by omega
            have hz : ((⟨#[48, 49, 50, 51, 52, 53, 54, 55, 56, 57]⟩ : ByteArray).extract (n % 10) (n % 10 + 1) ++ T).size = k + 1 := by rw [← len_data]; exact hstep.2.1
            have E1 := Lib.hid e1
            have E2 := Lib.hid e2
            have HZ := Lib.hid hz
            have HST := Lib.hid hstep
            have hlt' : 0 < (n : Int) := by omega
            have hnm2 : (n : Int) ≤ 1114111 := by omega
            clear hstep e1 e2 hz
            go_wp2
            try rw [E1.out, E2.out]
            go_round
            case rel => exact ⟨_, k + 1, n / 10, rfl, by congr 1, by omega, HZ.out, Lib.hid HST.out.1, by omega, Lib.hid HST.out.2⟩
            case measure => simp [intOf]; omega
          · have hn0 : n = 0 := by omega
            subst hn0
            have hT1 := hT.out
            have hCk : C < 10 ^ k := by
              refine Nat.lt_of_not_le fun hle => ?_
              have := Nat.div_pos hle (Nat.pow_pos (by omega))
              rw [← hn.out] at this; omega
            rw [Nat.mod_eq_of_lt hCk] at hT1
            have hk1 : 1 ≤ k := by
              refine Nat.pos_of_ne_zero fun e => ?_
              subst e; rw [Nat.pow_zero] at hCk; omega
            have HT1 := Lib.hid hT1
            have hk0 : T.size = k := hTs
            clear hn hT hT1 hCk hTs hnm hlt
            go_wp2_with fail
            go_loop [16, 17] (fun t v => ∃ (T : ByteArray) (k n : Nat), t = .string T ∧ v = .int .i64 n ∧ k ≤ 6 ∧ T.size = k ∧ Hid (n = C / 16 ^ k) ∧ n ≤ 1114111 ∧ Hid (T.data.toList.length = k ∧ plv true T.data.toList = (C % 16 ^ k : Nat) ∧ ∀ c ∈ T.data.toList, 0 ≤ dg true c)) (fun _ v => (intOf v).toNat)
            case atStart => exact ⟨⟨#[]⟩, 0, C, rfl, by rw [HCC.out], by omega, rfl, Lib.hid (by simp), by omega, Lib.hid ⟨rfl, by rw [Nat.pow_zero, Nat.mod_one]; rfl, fun c hc => by cases hc⟩⟩
            case round =>
              obtain ⟨U, m, n, rfl, rfl, hm, hUs, hn, hnm, hU⟩ := hrel
              by_cases hlt : 0 < n
              · have hstep := num_step ⟨#[48, 49, 50, 51, 52, 53, 54, 55, 56, 57, 65, 66, 67, 68, 69, 70]⟩ U true 16 n m C rfl (by omega) HD16.out hn.out hU.out.1 hU.out.2.1 hU.out.2.2
                have hm6 : m < 6 := digits_few (b := 16) (by omega) hn.out hlt (by omega)
                have e1 : ((n : Int) % 16).toNat = n % 16 := by omega
                have e2 : ((n : Int) % 16 + 1).toNat = n % 16 + 1 := by omega
                have hz : ((⟨#[48, 49, 50, 51, 52, 53, 54, 55, 56, 57, 65, 66, 67, 68, 69, 70]⟩ : ByteArray).extract (n % 16) (n % 16 + 1) ++ U).size = m + 1 := by rw [← len_data]; exact hstep.2.1
                have E1 := Lib.hid e1
                have E2 := Lib.hid e2
                have HZ := Lib.hid hz
                have HST := Lib.hid hstep
                have hlt' : 0 < (n : Int) := by omega
                have hnm2 : (n : Int) ≤ 1114111 := by omega
                clear hstep e1 e2 hz
                go_wp2
                try rw [E1.out, E2.out]
                go_round
                case rel => exact ⟨_, m + 1, n / 16, rfl, by congr 1, by omega, HZ.out, Lib.hid HST.out.1, by omega, Lib.hid HST.out.2⟩
                case measure => simp [intOf]; omega
              · have hn0 : n = 0 := by omega
                subst hn0
                have hU1 := hU.out
                have hCm : C < 16 ^ m := by
                  refine Nat.lt_of_not_le fun hle => ?_
                  have := Nat.div_pos hle (Nat.pow_pos (by omega))
                  rw [← hn.out] at this; omega
                rw [Nat.mod_eq_of_lt hCm] at hU1
                have hm1 : 1 ≤ m := by
                  refine Nat.pos_of_ne_zero fun e => ?_
                  subst e; rw [Nat.pow_zero] at hCm; omega
                have HT2 := Lib.hid (HTK.out true [88] T.data.toList U.data.toList k m [] HT1.out hU1 hk hm hk1 hm1 (by simp))
                have y1 : (⟨#[38, 35]⟩ ++ PD : ByteArray).size = 2 + k7 := by rw [cat_size, hPDs]; rfl
                have y2 : (⟨#[38, 35]⟩ ++ PD ++ T : ByteArray).size = 2 + k7 + k := by rw [cat_size, y1, hk0]
                have x1 : (⟨#[38, 35]⟩ ++ ⟨#[88]⟩ : ByteArray).size = 3 := rfl
                have x2 : (⟨#[38, 35]⟩ ++ ⟨#[88]⟩ ++ PD : ByteArray).size = 3 + k7 := by rw [cat_size, hPDs]; rfl
                have x3 : (⟨#[38, 35]⟩ ++ ⟨#[88]⟩ ++ PD ++ U : ByteArray).size = 3 + k7 + m := by rw [cat_size, x2, hUs]

                simp only [List.length_nil, List.length_cons, Nat.add_zero, Nat.zero_add] at HT2
                clear hn hU hU1 hCm hnm hlt
                go_wp2_with fail
                refine (HBY.out _).mono ?_; rintro e w3 ⟨rfl, hw3⟩
                have hcv := HCV.out w1
                rw [← hw3] at hcv
                have HB3 : Hid (Below w.heap.size w w3) := Lib.hid (by rw [hw3]; exact HB.out.alloc HB.out.size _)
                clear hw3
                go_wp2_with fail
                refine (HT2.out.1 _ _ _ (by simp [ByteArray.data_append, HPDL.out])).mono ?_; rintro e w4 ⟨rfl, hb⟩
                have HB4 := Lib.hid (HB3.out.trans (hb.mono HB3.out.size))
                clear hb
                go_wp2_with fail
                refine (HT2.out.2 _ rfl (by decide) _ _ _ (by simp [ByteArray.data_append, HPDL.out])).mono ?_; rintro e w5 ⟨rfl, hb⟩
                have HB5 := Lib.hid (HB4.out.trans (hb.mono HB4.out.size))
                clear hb
                go_wp2_with fail
                refine (HN.out _).mono ?_; rintro e w6 ⟨rfl, hb⟩
                have HB6 := Lib.hid (HB5.out.trans (hb.mono HB5.out.size))
                clear hb
                go_wp2
                go_ret
                exact ⟨rfl, HB6.out⟩
    · rcases hpl with hpl | ⟨hpl, hpl2⟩
      all_goals
        go_enter Try.func9, Try.ntmps9
        go_wp2_with fail
        refine HSH.out.mono ?_; rintro e w1 ⟨rfl, hb⟩
        have HB := Lib.hid hb
        clear hb
        go_wp2_with fail
        refine (HC.out _).mono ?_; rintro e w2 ⟨rfl, rfl⟩
        go_wp2_with fail
        rw [← HPD.out]
        go_loop [12, 13] (fun t v => ∃ (T : ByteArray) (k n : Nat), t = .string T ∧ v = .int .i64 n ∧ k ≤ 7 ∧ T.size = k ∧ Hid (n = C / 10 ^ k) ∧ n ≤ 1114111 ∧ Hid (T.data.toList.length = k ∧ plv false T.data.toList = (C % 10 ^ k : Nat) ∧ ∀ c ∈ T.data.toList, 0 ≤ dg false c)) (fun _ v => (intOf v).toNat)
        case atStart => exact ⟨⟨#[]⟩, 0, C, rfl, by rw [HCC.out], by omega, rfl, Lib.hid (by simp), by omega, Lib.hid ⟨rfl, by rw [Nat.pow_zero, Nat.mod_one]; rfl, fun c hc => by cases hc⟩⟩
        case round =>
          obtain ⟨T, k, n, rfl, rfl, hk, hTs, hn, hnm, hT⟩ := hrel
          by_cases hlt : 0 < n
          · have hstep := num_step ⟨#[48, 49, 50, 51, 52, 53, 54, 55, 56, 57]⟩ T false 10 n k C rfl (by omega) HD10.out hn.out hT.out.1 hT.out.2.1 hT.out.2.2
            have hk6 : k < 7 := digits_few (b := 10) (by omega) hn.out hlt (by omega)
            have e1 : ((n : Int) % 10).toNat = n % 10 := by omega
            have e2 : ((n : Int) % 10 + 1).toNat = n % 10 + 1 := by omega
            have hz : ((⟨#[48, 49, 50, 51, 52, 53, 54, 55, 56, 57]⟩ : ByteArray).extract (n % 10) (n % 10 + 1) ++ T).size = k + 1 := by rw [← len_data]; exact hstep.2.1
            have E1 := Lib.hid e1
            have E2 := Lib.hid e2
            have HZ := Lib.hid hz
            have HST := Lib.hid hstep
            have hlt' : 0 < (n : Int) := by omega
            have hnm2 : (n : Int) ≤ 1114111 := by omega
            clear hstep e1 e2 hz
            go_wp2
            try rw [E1.out, E2.out]
            go_round
            case rel => exact ⟨_, k + 1, n / 10, rfl, by congr 1, by omega, HZ.out, Lib.hid HST.out.1, by omega, Lib.hid HST.out.2⟩
            case measure => simp [intOf]; omega
          · have hn0 : n = 0 := by omega
            subst hn0
            have hT1 := hT.out
            have hCk : C < 10 ^ k := by
              refine Nat.lt_of_not_le fun hle => ?_
              have := Nat.div_pos hle (Nat.pow_pos (by omega))
              rw [← hn.out] at this; omega
            rw [Nat.mod_eq_of_lt hCk] at hT1
            have hk1 : 1 ≤ k := by
              refine Nat.pos_of_ne_zero fun e => ?_
              subst e; rw [Nat.pow_zero] at hCk; omega
            have HT1 := Lib.hid hT1
            have hk0 : T.size = k := hTs
            clear hn hT hT1 hCk hTs hnm hlt
            go_wp2_with fail
            go_loop [16, 17] (fun t v => ∃ (T : ByteArray) (k n : Nat), t = .string T ∧ v = .int .i64 n ∧ k ≤ 6 ∧ T.size = k ∧ Hid (n = C / 16 ^ k) ∧ n ≤ 1114111 ∧ Hid (T.data.toList.length = k ∧ plv true T.data.toList = (C % 16 ^ k : Nat) ∧ ∀ c ∈ T.data.toList, 0 ≤ dg true c)) (fun _ v => (intOf v).toNat)
            case atStart => exact ⟨⟨#[]⟩, 0, C, rfl, by rw [HCC.out], by omega, rfl, Lib.hid (by simp), by omega, Lib.hid ⟨rfl, by rw [Nat.pow_zero, Nat.mod_one]; rfl, fun c hc => by cases hc⟩⟩
            case round =>
              obtain ⟨U, m, n, rfl, rfl, hm, hUs, hn, hnm, hU⟩ := hrel
              by_cases hlt : 0 < n
              · have hstep := num_step ⟨#[48, 49, 50, 51, 52, 53, 54, 55, 56, 57, 65, 66, 67, 68, 69, 70]⟩ U true 16 n m C rfl (by omega) HD16.out hn.out hU.out.1 hU.out.2.1 hU.out.2.2
                have hm6 : m < 6 := digits_few (b := 16) (by omega) hn.out hlt (by omega)
                have e1 : ((n : Int) % 16).toNat = n % 16 := by omega
                have e2 : ((n : Int) % 16 + 1).toNat = n % 16 + 1 := by omega
                have hz : ((⟨#[48, 49, 50, 51, 52, 53, 54, 55, 56, 57, 65, 66, 67, 68, 69, 70]⟩ : ByteArray).extract (n % 16) (n % 16 + 1) ++ U).size = m + 1 := by rw [← len_data]; exact hstep.2.1
                have E1 := Lib.hid e1
                have E2 := Lib.hid e2
                have HZ := Lib.hid hz
                have HST := Lib.hid hstep
                have hlt' : 0 < (n : Int) := by omega
                have hnm2 : (n : Int) ≤ 1114111 := by omega
                clear hstep e1 e2 hz
                go_wp2
                try rw [E1.out, E2.out]
                go_round
                case rel => exact ⟨_, m + 1, n / 16, rfl, by congr 1, by omega, HZ.out, Lib.hid HST.out.1, by omega, Lib.hid HST.out.2⟩
                case measure => simp [intOf]; omega
              · have hn0 : n = 0 := by omega
                subst hn0
                have hU1 := hU.out
                have hCm : C < 16 ^ m := by
                  refine Nat.lt_of_not_le fun hle => ?_
                  have := Nat.div_pos hle (Nat.pow_pos (by omega))
                  rw [← hn.out] at this; omega
                rw [Nat.mod_eq_of_lt hCm] at hU1
                have hm1 : 1 ≤ m := by
                  refine Nat.pos_of_ne_zero fun e => ?_
                  subst e; rw [Nat.pow_zero] at hCm; omega
                have HT2 := Lib.hid (HTK.out true [88] T.data.toList U.data.toList k m [59] HT1.out hU1 hk hm hk1 hm1 (by simp))
                have y1 : (⟨#[38, 35]⟩ ++ PD : ByteArray).size = 2 + k7 := by rw [cat_size, hPDs]; rfl
                have y2 : (⟨#[38, 35]⟩ ++ PD ++ T : ByteArray).size = 2 + k7 + k := by rw [cat_size, y1, hk0]
                have x1 : (⟨#[38, 35]⟩ ++ ⟨#[88]⟩ : ByteArray).size = 3 := rfl
                have x2 : (⟨#[38, 35]⟩ ++ ⟨#[88]⟩ ++ PD : ByteArray).size = 3 + k7 := by rw [cat_size, hPDs]; rfl
                have x3 : (⟨#[38, 35]⟩ ++ ⟨#[88]⟩ ++ PD ++ U : ByteArray).size = 3 + k7 + m := by rw [cat_size, x2, hUs]
                have y3 : (⟨#[38, 35]⟩ ++ PD ++ T ++ ⟨#[59]⟩ : ByteArray).size = 2 + k7 + k + 1 := by rw [cat_size, y2]; rfl
                have x4 : (⟨#[38, 35]⟩ ++ ⟨#[88]⟩ ++ PD ++ U ++ ⟨#[59]⟩ : ByteArray).size = 3 + k7 + m + 1 := by rw [cat_size, x3]; rfl
                simp only [List.length_nil, List.length_cons, Nat.add_zero, Nat.zero_add] at HT2
                clear hn hU hU1 hCm hnm hlt
                go_wp2_with fail
                refine (HBY.out _).mono ?_; rintro e w3 ⟨rfl, hw3⟩
                have hcv := HCV.out w1
                rw [← hw3] at hcv
                have HB3 : Hid (Below w.heap.size w w3) := Lib.hid (by rw [hw3]; exact HB.out.alloc HB.out.size _)
                clear hw3
                go_wp2_with fail
                refine (HT2.out.1 _ _ _ (by simp [ByteArray.data_append, HPDL.out])).mono ?_; rintro e w4 ⟨rfl, hb⟩
                have HB4 := Lib.hid (HB3.out.trans (hb.mono HB3.out.size))
                clear hb
                go_wp2_with fail
                refine (HT2.out.2 _ rfl (by decide) _ _ _ (by simp [ByteArray.data_append, HPDL.out])).mono ?_; rintro e w5 ⟨rfl, hb⟩
                have HB5 := Lib.hid (HB4.out.trans (hb.mono HB4.out.size))
                clear hb
                go_wp2_with fail
                refine (HN.out _).mono ?_; rintro e w6 ⟨rfl, hb⟩
                have HB6 := Lib.hid (HB5.out.trans (hb.mono HB5.out.size))
                clear hb
                go_wp2
                go_ret
                exact ⟨rfl, HB6.out⟩
end Go.Proofs.Ytpepoccoljmmjaa
