/- NumOver, way by way: the walks of its law. -/
import Derived.Test.YtlgoalhcllgkcaaDoorL
import Derived.Test.YtlgoalhcllgkcaaDoorCards
import Derived.Test.YtlgoalhcllgkcaaDoorTie
namespace Go.Proofs.YtlgoalhcllgkcaaDoor
open Go.ChangeShapes Go.WideShapes Go.ChangeAt Go.RowKit
open Go.ChangeMaps (open_string shut_string)

theorem dg_digit (d : Nat) (h : d < 10) : dg ((UInt8.ofNat (48 + d)).toNat : Int) = d := by
  have : (UInt8.ofNat (48 + d)).toNat = 48 + d := by rw [UInt8.toNat_ofNat']; omega
  rw [this]; unfold dg; rw [if_pos (by omega)]; omega
theorem dg_x : dg ((120 : UInt8).toNat : Int) = -1 := by decide

theorem meant_x (l : List UInt8) : meant 10 (l ++ [120]) = (0, 2) := by
  unfold meant
  rw [if_pos]
  right
  intro h
  have := (h 120 (by simp)).1
  rw [dg_x] at this
  omega
theorem meant_one (d : Nat) (h : d < 10) : meant 10 [UInt8.ofNat (48 + d)] = ((d : Int), 0) := by
  have hv : val 10 [UInt8.ofNat (48 + d)] = d := by simp only [val, List.foldl_cons, List.foldl_nil, dg_digit d h]; omega
  have := meant_ok 10 [UInt8.ofNat (48 + d)] (by simp) (by intro c hc; rw [List.mem_singleton.1 hc, dg_digit d h]; omega) (by rw [hv]; unfold most; omega)
  rw [this, hv]
theorem meant_bad (l : List UInt8) (hg : ¬ good 10 l) (c : UInt8) : meant 10 l = (0, 2) ∧ meant 10 (l ++ [c]) = (0, 2) := by
  constructor
  · unfold meant; rw [if_pos (.inr hg)]
  · unfold meant; rw [if_pos (.inr fun h => hg ((good_snoc ..).1 h).1)]
theorem meant_more_over (l : List UInt8) (hl : l ≠ []) (hg : good 10 l) (ho : most < val 10 l) (d : Nat) (h : d < 10) : meant 10 l = (0, 3) ∧ meant 10 (l ++ [UInt8.ofNat (48 + d)]) = (0, 3) := by
  have hg2 : good 10 (l ++ [UInt8.ofNat (48 + d)]) := (good_snoc ..).2 ⟨hg, by rw [dg_digit d h]; omega, by rw [dg_digit d h]; omega⟩
  constructor
  · exact meant_over 10 (by decide) l hl hg l.length (by rw [List.take_length]; exact ho)
  · refine meant_over 10 (by decide) _ (by simp) hg2 l.length ?_
    rw [List.take_left]; exact ho
theorem meant_more (l : List UInt8) (hl : l ≠ []) (hg : good 10 l) (ho : ¬ most < val 10 l) (d : Nat) (h : d < 10) :
    meant 10 l = (val 10 l, 0) ∧ meant 10 (l ++ [UInt8.ofNat (48 + d)]) = if most < val 10 l * 10 + d then (0, 3) else (val 10 l * 10 + d, 0) := by
  have hg2 : good 10 (l ++ [UInt8.ofNat (48 + d)]) := (good_snoc ..).2 ⟨hg, by rw [dg_digit d h]; omega, by rw [dg_digit d h]; omega⟩
  have hv : val 10 (l ++ [UInt8.ofNat (48 + d)]) = val 10 l * 10 + d := by rw [val_snoc, dg_digit d h]
  constructor
  · exact meant_ok 10 l hl hg (by omega)
  · split
    · rename_i hlt
      exact meant_over 10 (by decide) _ (by simp) hg2 (l ++ [UInt8.ofNat (48 + d)]).length (by rw [List.take_length, hv]; exact hlt)
    · rename_i hlt
      rw [meant_ok 10 _ (by simp) hg2 (by rw [hv]; omega), hv]

theorem app_list (s x : ByteArray) : (s ++ x).data.toList = s.data.toList ++ x.data.toList := by simp

theorem digits_small (d : Nat) (h : d < 10) (c : UInt8) (hc : c = UInt8.ofNat (48 + d)) (w : World) :
    Calls Tryd.prog 12 #[.int .i64 d] w fun e w' => e = .returned (.string ⟨#[c]⟩) ∧ w' = w := by
  have hs := Tryd.strconv_FormatInt_10_small d (by omega) w
  rw [Lib.decDigits_one h, ← hc] at hs
  have h18 : Calls Tryd.prog 18 #[.int .i64 d, .int .i64 10] w fun e w' => e = .returned (.string ⟨#[c]⟩) ∧ w' = w := by
    have HS := Lib.hid hs
    clear hs hc
    go_enter Tryd.func18, Tryd.ntmps18
    go_wp2_with fail
    refine (HS.out).mono ?_
    rintro e w' ⟨rfl, rfl⟩
    go_wp2
    go_ret
    exact ⟨rfl, rfl⟩
  have H18 := Lib.hid h18
  clear hs h18 hc
  go_enter Tryd.func12, Tryd.ntmps12
  go_wp2_with fail
  refine (H18.out).mono ?_
  rintro e w' ⟨rfl, rfl⟩
  go_wp2
  go_ret
  exact ⟨rfl, rfl⟩

/- the walks -/
set_option maxHeartbeats 1000000 in
theorem noAP (s : ByteArray) (more : Int) (d : Nat) (c : UInt8)  (w : World) (hs : s.size ≤ 140737488351232) (hm0 : 0 ≤ more) (hm1 : more ≤ 9223372036854775807) (hd : more % 10 = d) (hd9 : d < 10) (hc : c = UInt8.ofNat (48 + d))  (hne : s.toList.isEmpty = false)
    (h1 : meant 10 s.data.toList = (0, 2)) (h2 : meant 10 (s.data.toList ++ [c]) = (0, 2)) (ht : Tabs w) :
    Calls Tryd.prog 6 #[.string s, .int .i64 more] w fun e w' => e = .returned (.bool true) ∧ Below w.heap.size w w' := by
  have h3 := meant_x s.data.toList
  have HT := Lib.hid ht
  have H1 := Lib.hid h1
  have H2 := Lib.hid h2
  have H3 := Lib.hid h3
  have HD := Lib.hid hd
  have HC := Lib.hid hc
  clear ht h1 h2 h3 hd hc

  go_enter Tryd.func6, Tryd.ntmps6
  go_wp2_with fail
  refine (shown_any _ HT.out).mono ?_; rintro e w1 ⟨rfl, hb⟩; have HB := Lib.hid hb; clear hb
  go_wp2_with fail
  refine (decimal_any _ _ (by unfold maxLen; omega)).mono ?_; rintro e w2 ⟨rfl, rfl⟩; rw [H1.out]
  go_wp2_with fail
  rw [HD.out]
  refine (digits_small d hd9 c HC.out _).mono ?_; rintro e w2 ⟨rfl, rfl⟩
  go_wp2_with fail
  refine (decimal_any _ _ (by rw [ByteArray.size_append]; show s.size + 1 ≤ maxLen; unfold maxLen; omega)).mono ?_; rintro e w3 ⟨rfl, rfl⟩
  rw [app_list, show (ByteArray.mk #[c]).data.toList = [c] from rfl, H2.out]
  go_wp2_with fail
  refine (decimal_any _ _ (by rw [ByteArray.size_append]; show s.size + 1 ≤ maxLen; unfold maxLen; omega)).mono ?_; rintro e w3 ⟨rfl, rfl⟩
  rw [app_list, show (ByteArray.mk #[120]).data.toList = [120] from rfl, H3.out]
  go_wp2
  go_ret
  exact ⟨rfl, HB.out⟩
set_option maxHeartbeats 1000000 in
theorem noAN (s : ByteArray) (more : Int) (d : Nat) (c : UInt8)  (w : World) (hs : s.size ≤ 140737488351232) (hm0 : more < 0) (hm1 : -9223372036854775808 ≤ more) (hd : -((more + 1).tmod 10) = d) (hd9 : d < 10) (hc : c = UInt8.ofNat (48 + d))  (hne : s.toList.isEmpty = false)
    (h1 : meant 10 s.data.toList = (0, 2)) (h2 : meant 10 (s.data.toList ++ [c]) = (0, 2)) (ht : Tabs w) :
    Calls Tryd.prog 6 #[.string s, .int .i64 more] w fun e w' => e = .returned (.bool true) ∧ Below w.heap.size w w' := by
  have h3 := meant_x s.data.toList
  have HT := Lib.hid ht
  have H1 := Lib.hid h1
  have H2 := Lib.hid h2
  have H3 := Lib.hid h3
  have HD := Lib.hid hd
  have HC := Lib.hid hc
  clear ht h1 h2 h3 hd hc

  go_enter Tryd.func6, Tryd.ntmps6
  go_wp2_with fail
  refine (shown_any _ HT.out).mono ?_; rintro e w1 ⟨rfl, hb⟩; have HB := Lib.hid hb; clear hb
  go_wp2_with fail
  refine (decimal_any _ _ (by unfold maxLen; omega)).mono ?_; rintro e w2 ⟨rfl, rfl⟩; rw [H1.out]
  go_wp2_with fail
  rw [HD.out]
  refine (digits_small d hd9 c HC.out _).mono ?_; rintro e w2 ⟨rfl, rfl⟩
  go_wp2_with fail
  refine (decimal_any _ _ (by rw [ByteArray.size_append]; show s.size + 1 ≤ maxLen; unfold maxLen; omega)).mono ?_; rintro e w3 ⟨rfl, rfl⟩
  rw [app_list, show (ByteArray.mk #[c]).data.toList = [c] from rfl, H2.out]
  go_wp2_with fail
  refine (decimal_any _ _ (by rw [ByteArray.size_append]; show s.size + 1 ≤ maxLen; unfold maxLen; omega)).mono ?_; rintro e w3 ⟨rfl, rfl⟩
  rw [app_list, show (ByteArray.mk #[120]).data.toList = [120] from rfl, H3.out]
  go_wp2
  go_ret
  exact ⟨rfl, HB.out⟩
set_option maxHeartbeats 1000000 in
theorem noBP (s : ByteArray) (more : Int) (d : Nat) (c : UInt8)  (w : World) (hs : s.size ≤ 140737488351232) (hm0 : 0 ≤ more) (hm1 : more ≤ 9223372036854775807) (hd : more % 10 = d) (hd9 : d < 10) (hc : c = UInt8.ofNat (48 + d))  (hne : s.toList.isEmpty = true)
    (h1 : meant 10 s.data.toList = (0, 2)) (h2 : meant 10 (s.data.toList ++ [c]) = ((d : Int), 0)) (ht : Tabs w) :
    Calls Tryd.prog 6 #[.string s, .int .i64 more] w fun e w' => e = .returned (.bool true) ∧ Below w.heap.size w w' := by
  have h3 := meant_x s.data.toList
  have HT := Lib.hid ht
  have H1 := Lib.hid h1
  have H2 := Lib.hid h2
  have H3 := Lib.hid h3
  have HD := Lib.hid hd
  have HC := Lib.hid hc
  clear ht h1 h2 h3 hd hc

  go_enter Tryd.func6, Tryd.ntmps6
  go_wp2_with fail
  refine (shown_any _ HT.out).mono ?_; rintro e w1 ⟨rfl, hb⟩; have HB := Lib.hid hb; clear hb
  go_wp2_with fail
  refine (decimal_any _ _ (by unfold maxLen; omega)).mono ?_; rintro e w2 ⟨rfl, rfl⟩; rw [H1.out]
  go_wp2_with fail
  rw [HD.out]
  refine (digits_small d hd9 c HC.out _).mono ?_; rintro e w2 ⟨rfl, rfl⟩
  go_wp2_with fail
  refine (decimal_any _ _ (by rw [ByteArray.size_append]; show s.size + 1 ≤ maxLen; unfold maxLen; omega)).mono ?_; rintro e w3 ⟨rfl, rfl⟩
  rw [app_list, show (ByteArray.mk #[c]).data.toList = [c] from rfl, H2.out]
  go_wp2_with fail
  refine (decimal_any _ _ (by rw [ByteArray.size_append]; show s.size + 1 ≤ maxLen; unfold maxLen; omega)).mono ?_; rintro e w3 ⟨rfl, rfl⟩
  rw [app_list, show (ByteArray.mk #[120]).data.toList = [120] from rfl, H3.out]
  go_wp2
  go_ret
  exact ⟨rfl, HB.out⟩
set_option maxHeartbeats 1000000 in
theorem noBN (s : ByteArray) (more : Int) (d : Nat) (c : UInt8)  (w : World) (hs : s.size ≤ 140737488351232) (hm0 : more < 0) (hm1 : -9223372036854775808 ≤ more) (hd : -((more + 1).tmod 10) = d) (hd9 : d < 10) (hc : c = UInt8.ofNat (48 + d))  (hne : s.toList.isEmpty = true)
    (h1 : meant 10 s.data.toList = (0, 2)) (h2 : meant 10 (s.data.toList ++ [c]) = ((d : Int), 0)) (ht : Tabs w) :
    Calls Tryd.prog 6 #[.string s, .int .i64 more] w fun e w' => e = .returned (.bool true) ∧ Below w.heap.size w w' := by
  have h3 := meant_x s.data.toList
  have HT := Lib.hid ht
  have H1 := Lib.hid h1
  have H2 := Lib.hid h2
  have H3 := Lib.hid h3
  have HD := Lib.hid hd
  have HC := Lib.hid hc
  clear ht h1 h2 h3 hd hc

  go_enter Tryd.func6, Tryd.ntmps6
  go_wp2_with fail
  refine (shown_any _ HT.out).mono ?_; rintro e w1 ⟨rfl, hb⟩; have HB := Lib.hid hb; clear hb
  go_wp2_with fail
  refine (decimal_any _ _ (by unfold maxLen; omega)).mono ?_; rintro e w2 ⟨rfl, rfl⟩; rw [H1.out]
  go_wp2_with fail
  rw [HD.out]
  refine (digits_small d hd9 c HC.out _).mono ?_; rintro e w2 ⟨rfl, rfl⟩
  go_wp2_with fail
  refine (decimal_any _ _ (by rw [ByteArray.size_append]; show s.size + 1 ≤ maxLen; unfold maxLen; omega)).mono ?_; rintro e w3 ⟨rfl, rfl⟩
  rw [app_list, show (ByteArray.mk #[c]).data.toList = [c] from rfl, H2.out]
  go_wp2_with fail
  refine (decimal_any _ _ (by rw [ByteArray.size_append]; show s.size + 1 ≤ maxLen; unfold maxLen; omega)).mono ?_; rintro e w3 ⟨rfl, rfl⟩
  rw [app_list, show (ByteArray.mk #[120]).data.toList = [120] from rfl, H3.out]
  go_wp2
  go_ret
  exact ⟨rfl, HB.out⟩
set_option maxHeartbeats 1000000 in
theorem noCP (s : ByteArray) (more : Int) (d : Nat) (c : UInt8)  (w : World) (hs : s.size ≤ 140737488351232) (hm0 : 0 ≤ more) (hm1 : more ≤ 9223372036854775807) (hd : more % 10 = d) (hd9 : d < 10) (hc : c = UInt8.ofNat (48 + d))  (hne : s.toList.isEmpty = false)
    (h1 : meant 10 s.data.toList = (0, 3)) (h2 : meant 10 (s.data.toList ++ [c]) = (0, 3)) (ht : Tabs w) :
    Calls Tryd.prog 6 #[.string s, .int .i64 more] w fun e w' => e = .returned (.bool true) ∧ Below w.heap.size w w' := by
  have h3 := meant_x s.data.toList
  have HT := Lib.hid ht
  have H1 := Lib.hid h1
  have H2 := Lib.hid h2
  have H3 := Lib.hid h3
  have HD := Lib.hid hd
  have HC := Lib.hid hc
  clear ht h1 h2 h3 hd hc

  go_enter Tryd.func6, Tryd.ntmps6
  go_wp2_with fail
  refine (shown_any _ HT.out).mono ?_; rintro e w1 ⟨rfl, hb⟩; have HB := Lib.hid hb; clear hb
  go_wp2_with fail
  refine (decimal_any _ _ (by unfold maxLen; omega)).mono ?_; rintro e w2 ⟨rfl, rfl⟩; rw [H1.out]
  go_wp2_with fail
  rw [HD.out]
  refine (digits_small d hd9 c HC.out _).mono ?_; rintro e w2 ⟨rfl, rfl⟩
  go_wp2_with fail
  refine (decimal_any _ _ (by rw [ByteArray.size_append]; show s.size + 1 ≤ maxLen; unfold maxLen; omega)).mono ?_; rintro e w3 ⟨rfl, rfl⟩
  rw [app_list, show (ByteArray.mk #[c]).data.toList = [c] from rfl, H2.out]
  go_wp2_with fail
  refine (decimal_any _ _ (by rw [ByteArray.size_append]; show s.size + 1 ≤ maxLen; unfold maxLen; omega)).mono ?_; rintro e w3 ⟨rfl, rfl⟩
  rw [app_list, show (ByteArray.mk #[120]).data.toList = [120] from rfl, H3.out]
  go_wp2
  go_ret
  exact ⟨rfl, HB.out⟩
set_option maxHeartbeats 1000000 in
theorem noCN (s : ByteArray) (more : Int) (d : Nat) (c : UInt8)  (w : World) (hs : s.size ≤ 140737488351232) (hm0 : more < 0) (hm1 : -9223372036854775808 ≤ more) (hd : -((more + 1).tmod 10) = d) (hd9 : d < 10) (hc : c = UInt8.ofNat (48 + d))  (hne : s.toList.isEmpty = false)
    (h1 : meant 10 s.data.toList = (0, 3)) (h2 : meant 10 (s.data.toList ++ [c]) = (0, 3)) (ht : Tabs w) :
    Calls Tryd.prog 6 #[.string s, .int .i64 more] w fun e w' => e = .returned (.bool true) ∧ Below w.heap.size w w' := by
  have h3 := meant_x s.data.toList
  have HT := Lib.hid ht
  have H1 := Lib.hid h1
  have H2 := Lib.hid h2
  have H3 := Lib.hid h3
  have HD := Lib.hid hd
  have HC := Lib.hid hc
  clear ht h1 h2 h3 hd hc

  go_enter Tryd.func6, Tryd.ntmps6
  go_wp2_with fail
  refine (shown_any _ HT.out).mono ?_; rintro e w1 ⟨rfl, hb⟩; have HB := Lib.hid hb; clear hb
  go_wp2_with fail
  refine (decimal_any _ _ (by unfold maxLen; omega)).mono ?_; rintro e w2 ⟨rfl, rfl⟩; rw [H1.out]
  go_wp2_with fail
  rw [HD.out]
  refine (digits_small d hd9 c HC.out _).mono ?_; rintro e w2 ⟨rfl, rfl⟩
  go_wp2_with fail
  refine (decimal_any _ _ (by rw [ByteArray.size_append]; show s.size + 1 ≤ maxLen; unfold maxLen; omega)).mono ?_; rintro e w3 ⟨rfl, rfl⟩
  rw [app_list, show (ByteArray.mk #[c]).data.toList = [c] from rfl, H2.out]
  go_wp2_with fail
  refine (decimal_any _ _ (by rw [ByteArray.size_append]; show s.size + 1 ≤ maxLen; unfold maxLen; omega)).mono ?_; rintro e w3 ⟨rfl, rfl⟩
  rw [app_list, show (ByteArray.mk #[120]).data.toList = [120] from rfl, H3.out]
  go_wp2
  go_ret
  exact ⟨rfl, HB.out⟩
set_option maxHeartbeats 1000000 in
theorem noDP (s : ByteArray) (more : Int) (d : Nat) (c : UInt8) (n : Int) (w : World) (hs : s.size ≤ 140737488351232) (hm0 : 0 ≤ more) (hm1 : more ≤ 9223372036854775807) (hd : more % 10 = d) (hd9 : d < 10) (hc : c = UInt8.ofNat (48 + d)) (hn0 : 0 ≤ n) (hn : n < 922337203685477580) (hne : s.toList.isEmpty = false)
    (h1 : meant 10 s.data.toList = (n, 0)) (h2 : meant 10 (s.data.toList ++ [c]) = (10 * n + d, 0)) (ht : Tabs w) :
    Calls Tryd.prog 6 #[.string s, .int .i64 more] w fun e w' => e = .returned (.bool true) ∧ Below w.heap.size w w' := by
  have h3 := meant_x s.data.toList
  have HT := Lib.hid ht
  have H1 := Lib.hid h1
  have H2 := Lib.hid h2
  have H3 := Lib.hid h3
  have HD := Lib.hid hd
  have HC := Lib.hid hc
  clear ht h1 h2 h3 hd hc

  go_enter Tryd.func6, Tryd.ntmps6
  go_wp2_with fail
  refine (shown_any _ HT.out).mono ?_; rintro e w1 ⟨rfl, hb⟩; have HB := Lib.hid hb; clear hb
  go_wp2_with fail
  refine (decimal_any _ _ (by unfold maxLen; omega)).mono ?_; rintro e w2 ⟨rfl, rfl⟩; rw [H1.out]
  go_wp2_with fail
  rw [HD.out]
  refine (digits_small d hd9 c HC.out _).mono ?_; rintro e w2 ⟨rfl, rfl⟩
  go_wp2_with fail
  refine (decimal_any _ _ (by rw [ByteArray.size_append]; show s.size + 1 ≤ maxLen; unfold maxLen; omega)).mono ?_; rintro e w3 ⟨rfl, rfl⟩
  rw [app_list, show (ByteArray.mk #[c]).data.toList = [c] from rfl, H2.out]
  go_wp2_with fail
  refine (decimal_any _ _ (by rw [ByteArray.size_append]; show s.size + 1 ≤ maxLen; unfold maxLen; omega)).mono ?_; rintro e w3 ⟨rfl, rfl⟩
  rw [app_list, show (ByteArray.mk #[120]).data.toList = [120] from rfl, H3.out]
  go_wp2
  go_ret
  exact ⟨rfl, HB.out⟩
set_option maxHeartbeats 1000000 in
theorem noDN (s : ByteArray) (more : Int) (d : Nat) (c : UInt8) (n : Int) (w : World) (hs : s.size ≤ 140737488351232) (hm0 : more < 0) (hm1 : -9223372036854775808 ≤ more) (hd : -((more + 1).tmod 10) = d) (hd9 : d < 10) (hc : c = UInt8.ofNat (48 + d)) (hn0 : 0 ≤ n) (hn : n < 922337203685477580) (hne : s.toList.isEmpty = false)
    (h1 : meant 10 s.data.toList = (n, 0)) (h2 : meant 10 (s.data.toList ++ [c]) = (10 * n + d, 0)) (ht : Tabs w) :
    Calls Tryd.prog 6 #[.string s, .int .i64 more] w fun e w' => e = .returned (.bool true) ∧ Below w.heap.size w w' := by
  have h3 := meant_x s.data.toList
  have HT := Lib.hid ht
  have H1 := Lib.hid h1
  have H2 := Lib.hid h2
  have H3 := Lib.hid h3
  have HD := Lib.hid hd
  have HC := Lib.hid hc
  clear ht h1 h2 h3 hd hc

  go_enter Tryd.func6, Tryd.ntmps6
  go_wp2_with fail
  refine (shown_any _ HT.out).mono ?_; rintro e w1 ⟨rfl, hb⟩; have HB := Lib.hid hb; clear hb
  go_wp2_with fail
  refine (decimal_any _ _ (by unfold maxLen; omega)).mono ?_; rintro e w2 ⟨rfl, rfl⟩; rw [H1.out]
  go_wp2_with fail
  rw [HD.out]
  refine (digits_small d hd9 c HC.out _).mono ?_; rintro e w2 ⟨rfl, rfl⟩
  go_wp2_with fail
  refine (decimal_any _ _ (by rw [ByteArray.size_append]; show s.size + 1 ≤ maxLen; unfold maxLen; omega)).mono ?_; rintro e w3 ⟨rfl, rfl⟩
  rw [app_list, show (ByteArray.mk #[c]).data.toList = [c] from rfl, H2.out]
  go_wp2_with fail
  refine (decimal_any _ _ (by rw [ByteArray.size_append]; show s.size + 1 ≤ maxLen; unfold maxLen; omega)).mono ?_; rintro e w3 ⟨rfl, rfl⟩
  rw [app_list, show (ByteArray.mk #[120]).data.toList = [120] from rfl, H3.out]
  go_wp2
  go_ret
  exact ⟨rfl, HB.out⟩
set_option maxHeartbeats 1000000 in
theorem noEP (s : ByteArray) (more : Int) (d : Nat) (c : UInt8) (n : Int) (w : World) (hs : s.size ≤ 140737488351232) (hm0 : 0 ≤ more) (hm1 : more ≤ 9223372036854775807) (hd : more % 10 = d) (hd9 : d < 10) (hc : c = UInt8.ofNat (48 + d)) (hn : n = 922337203685477580) (h7 : d ≤ 7) (hne : s.toList.isEmpty = false)
    (h1 : meant 10 s.data.toList = (n, 0)) (h2 : meant 10 (s.data.toList ++ [c]) = (10 * n + d, 0)) (ht : Tabs w) :
    Calls Tryd.prog 6 #[.string s, .int .i64 more] w fun e w' => e = .returned (.bool true) ∧ Below w.heap.size w w' := by
  have h3 := meant_x s.data.toList
  have HT := Lib.hid ht
  have H1 := Lib.hid h1
  have H2 := Lib.hid h2
  have H3 := Lib.hid h3
  have HD := Lib.hid hd
  have HC := Lib.hid hc
  clear ht h1 h2 h3 hd hc
  subst hn
  have h7' : (d : Int) ≤ 7 := by omega
  go_enter Tryd.func6, Tryd.ntmps6
  go_wp2_with fail
  refine (shown_any _ HT.out).mono ?_; rintro e w1 ⟨rfl, hb⟩; have HB := Lib.hid hb; clear hb
  go_wp2_with fail
  refine (decimal_any _ _ (by unfold maxLen; omega)).mono ?_; rintro e w2 ⟨rfl, rfl⟩; rw [H1.out]
  go_wp2_with fail
  rw [HD.out]
  refine (digits_small d hd9 c HC.out _).mono ?_; rintro e w2 ⟨rfl, rfl⟩
  go_wp2_with fail
  refine (decimal_any _ _ (by rw [ByteArray.size_append]; show s.size + 1 ≤ maxLen; unfold maxLen; omega)).mono ?_; rintro e w3 ⟨rfl, rfl⟩
  rw [app_list, show (ByteArray.mk #[c]).data.toList = [c] from rfl, H2.out]
  go_wp2_with fail
  refine (decimal_any _ _ (by rw [ByteArray.size_append]; show s.size + 1 ≤ maxLen; unfold maxLen; omega)).mono ?_; rintro e w3 ⟨rfl, rfl⟩
  rw [app_list, show (ByteArray.mk #[120]).data.toList = [120] from rfl, H3.out]
  go_wp2
  go_ret
  exact ⟨rfl, HB.out⟩
set_option maxHeartbeats 1000000 in
theorem noEN (s : ByteArray) (more : Int) (d : Nat) (c : UInt8) (n : Int) (w : World) (hs : s.size ≤ 140737488351232) (hm0 : more < 0) (hm1 : -9223372036854775808 ≤ more) (hd : -((more + 1).tmod 10) = d) (hd9 : d < 10) (hc : c = UInt8.ofNat (48 + d)) (hn : n = 922337203685477580) (h7 : d ≤ 7) (hne : s.toList.isEmpty = false)
    (h1 : meant 10 s.data.toList = (n, 0)) (h2 : meant 10 (s.data.toList ++ [c]) = (10 * n + d, 0)) (ht : Tabs w) :
    Calls Tryd.prog 6 #[.string s, .int .i64 more] w fun e w' => e = .returned (.bool true) ∧ Below w.heap.size w w' := by
  have h3 := meant_x s.data.toList
  have HT := Lib.hid ht
  have H1 := Lib.hid h1
  have H2 := Lib.hid h2
  have H3 := Lib.hid h3
  have HD := Lib.hid hd
  have HC := Lib.hid hc
  clear ht h1 h2 h3 hd hc
  subst hn
  have h7' : (d : Int) ≤ 7 := by omega
  go_enter Tryd.func6, Tryd.ntmps6
  go_wp2_with fail
  refine (shown_any _ HT.out).mono ?_; rintro e w1 ⟨rfl, hb⟩; have HB := Lib.hid hb; clear hb
  go_wp2_with fail
  refine (decimal_any _ _ (by unfold maxLen; omega)).mono ?_; rintro e w2 ⟨rfl, rfl⟩; rw [H1.out]
  go_wp2_with fail
  rw [HD.out]
  refine (digits_small d hd9 c HC.out _).mono ?_; rintro e w2 ⟨rfl, rfl⟩
  go_wp2_with fail
  refine (decimal_any _ _ (by rw [ByteArray.size_append]; show s.size + 1 ≤ maxLen; unfold maxLen; omega)).mono ?_; rintro e w3 ⟨rfl, rfl⟩
  rw [app_list, show (ByteArray.mk #[c]).data.toList = [c] from rfl, H2.out]
  go_wp2_with fail
  refine (decimal_any _ _ (by rw [ByteArray.size_append]; show s.size + 1 ≤ maxLen; unfold maxLen; omega)).mono ?_; rintro e w3 ⟨rfl, rfl⟩
  rw [app_list, show (ByteArray.mk #[120]).data.toList = [120] from rfl, H3.out]
  go_wp2
  go_ret
  exact ⟨rfl, HB.out⟩
set_option maxHeartbeats 1000000 in
theorem noFP (s : ByteArray) (more : Int) (d : Nat) (c : UInt8) (n : Int) (w : World) (hs : s.size ≤ 140737488351232) (hm0 : 0 ≤ more) (hm1 : more ≤ 9223372036854775807) (hd : more % 10 = d) (hd9 : d < 10) (hc : c = UInt8.ofNat (48 + d)) (hn : n = 922337203685477580) (h7 : 7 < d) (hne : s.toList.isEmpty = false)
    (h1 : meant 10 s.data.toList = (n, 0)) (h2 : meant 10 (s.data.toList ++ [c]) = (0, 3)) (ht : Tabs w) :
    Calls Tryd.prog 6 #[.string s, .int .i64 more] w fun e w' => e = .returned (.bool true) ∧ Below w.heap.size w w' := by
  have h3 := meant_x s.data.toList
  have HT := Lib.hid ht
  have H1 := Lib.hid h1
  have H2 := Lib.hid h2
  have H3 := Lib.hid h3
  have HD := Lib.hid hd
  have HC := Lib.hid hc
  clear ht h1 h2 h3 hd hc
  subst hn
  have h7' : (7 : Int) < d := by omega
  go_enter Tryd.func6, Tryd.ntmps6
  go_wp2_with fail
  refine (shown_any _ HT.out).mono ?_; rintro e w1 ⟨rfl, hb⟩; have HB := Lib.hid hb; clear hb
  go_wp2_with fail
  refine (decimal_any _ _ (by unfold maxLen; omega)).mono ?_; rintro e w2 ⟨rfl, rfl⟩; rw [H1.out]
  go_wp2_with fail
  rw [HD.out]
  refine (digits_small d hd9 c HC.out _).mono ?_; rintro e w2 ⟨rfl, rfl⟩
  go_wp2_with fail
  refine (decimal_any _ _ (by rw [ByteArray.size_append]; show s.size + 1 ≤ maxLen; unfold maxLen; omega)).mono ?_; rintro e w3 ⟨rfl, rfl⟩
  rw [app_list, show (ByteArray.mk #[c]).data.toList = [c] from rfl, H2.out]
  go_wp2_with fail
  refine (decimal_any _ _ (by rw [ByteArray.size_append]; show s.size + 1 ≤ maxLen; unfold maxLen; omega)).mono ?_; rintro e w3 ⟨rfl, rfl⟩
  rw [app_list, show (ByteArray.mk #[120]).data.toList = [120] from rfl, H3.out]
  go_wp2
  go_ret
  exact ⟨rfl, HB.out⟩
set_option maxHeartbeats 1000000 in
theorem noFN (s : ByteArray) (more : Int) (d : Nat) (c : UInt8) (n : Int) (w : World) (hs : s.size ≤ 140737488351232) (hm0 : more < 0) (hm1 : -9223372036854775808 ≤ more) (hd : -((more + 1).tmod 10) = d) (hd9 : d < 10) (hc : c = UInt8.ofNat (48 + d)) (hn : n = 922337203685477580) (h7 : 7 < d) (hne : s.toList.isEmpty = false)
    (h1 : meant 10 s.data.toList = (n, 0)) (h2 : meant 10 (s.data.toList ++ [c]) = (0, 3)) (ht : Tabs w) :
    Calls Tryd.prog 6 #[.string s, .int .i64 more] w fun e w' => e = .returned (.bool true) ∧ Below w.heap.size w w' := by
  have h3 := meant_x s.data.toList
  have HT := Lib.hid ht
  have H1 := Lib.hid h1
  have H2 := Lib.hid h2
  have H3 := Lib.hid h3
  have HD := Lib.hid hd
  have HC := Lib.hid hc
  clear ht h1 h2 h3 hd hc
  subst hn
  have h7' : (7 : Int) < d := by omega
  go_enter Tryd.func6, Tryd.ntmps6
  go_wp2_with fail
  refine (shown_any _ HT.out).mono ?_; rintro e w1 ⟨rfl, hb⟩; have HB := Lib.hid hb; clear hb
  go_wp2_with fail
  refine (decimal_any _ _ (by unfold maxLen; omega)).mono ?_; rintro e w2 ⟨rfl, rfl⟩; rw [H1.out]
  go_wp2_with fail
  rw [HD.out]
  refine (digits_small d hd9 c HC.out _).mono ?_; rintro e w2 ⟨rfl, rfl⟩
  go_wp2_with fail
  refine (decimal_any _ _ (by rw [ByteArray.size_append]; show s.size + 1 ≤ maxLen; unfold maxLen; omega)).mono ?_; rintro e w3 ⟨rfl, rfl⟩
  rw [app_list, show (ByteArray.mk #[c]).data.toList = [c] from rfl, H2.out]
  go_wp2_with fail
  refine (decimal_any _ _ (by rw [ByteArray.size_append]; show s.size + 1 ≤ maxLen; unfold maxLen; omega)).mono ?_; rintro e w3 ⟨rfl, rfl⟩
  rw [app_list, show (ByteArray.mk #[120]).data.toList = [120] from rfl, H3.out]
  go_wp2
  go_ret
  exact ⟨rfl, HB.out⟩
set_option maxHeartbeats 1000000 in
theorem noGP (s : ByteArray) (more : Int) (d : Nat) (c : UInt8) (n : Int) (w : World) (hs : s.size ≤ 140737488351232) (hm0 : 0 ≤ more) (hm1 : more ≤ 9223372036854775807) (hd : more % 10 = d) (hd9 : d < 10) (hc : c = UInt8.ofNat (48 + d)) (hn : 922337203685477580 < n) (hne : s.toList.isEmpty = false)
    (h1 : meant 10 s.data.toList = (n, 0)) (h2 : meant 10 (s.data.toList ++ [c]) = (0, 3)) (ht : Tabs w) :
    Calls Tryd.prog 6 #[.string s, .int .i64 more] w fun e w' => e = .returned (.bool true) ∧ Below w.heap.size w w' := by
  have h3 := meant_x s.data.toList
  have HT := Lib.hid ht
  have H1 := Lib.hid h1
  have H2 := Lib.hid h2
  have H3 := Lib.hid h3
  have HD := Lib.hid hd
  have HC := Lib.hid hc
  clear ht h1 h2 h3 hd hc
  have hn' : (n == 922337203685477580) = false := beq_eq_false_iff_ne.2 (by omega)
  go_enter Tryd.func6, Tryd.ntmps6
  go_wp2_with fail
  refine (shown_any _ HT.out).mono ?_; rintro e w1 ⟨rfl, hb⟩; have HB := Lib.hid hb; clear hb
  go_wp2_with fail
  refine (decimal_any _ _ (by unfold maxLen; omega)).mono ?_; rintro e w2 ⟨rfl, rfl⟩; rw [H1.out]
  go_wp2_with fail
  rw [HD.out]
  refine (digits_small d hd9 c HC.out _).mono ?_; rintro e w2 ⟨rfl, rfl⟩
  go_wp2_with fail
  refine (decimal_any _ _ (by rw [ByteArray.size_append]; show s.size + 1 ≤ maxLen; unfold maxLen; omega)).mono ?_; rintro e w3 ⟨rfl, rfl⟩
  rw [app_list, show (ByteArray.mk #[c]).data.toList = [c] from rfl, H2.out]
  go_wp2_with fail
  refine (decimal_any _ _ (by rw [ByteArray.size_append]; show s.size + 1 ≤ maxLen; unfold maxLen; omega)).mono ?_; rintro e w3 ⟨rfl, rfl⟩
  rw [app_list, show (ByteArray.mk #[120]).data.toList = [120] from rfl, H3.out]
  go_wp2
  go_ret
  exact ⟨rfl, HB.out⟩
set_option maxHeartbeats 1000000 in
theorem noGN (s : ByteArray) (more : Int) (d : Nat) (c : UInt8) (n : Int) (w : World) (hs : s.size ≤ 140737488351232) (hm0 : more < 0) (hm1 : -9223372036854775808 ≤ more) (hd : -((more + 1).tmod 10) = d) (hd9 : d < 10) (hc : c = UInt8.ofNat (48 + d)) (hn : 922337203685477580 < n) (hne : s.toList.isEmpty = false)
    (h1 : meant 10 s.data.toList = (n, 0)) (h2 : meant 10 (s.data.toList ++ [c]) = (0, 3)) (ht : Tabs w) :
    Calls Tryd.prog 6 #[.string s, .int .i64 more] w fun e w' => e = .returned (.bool true) ∧ Below w.heap.size w w' := by
  have h3 := meant_x s.data.toList
  have HT := Lib.hid ht
  have H1 := Lib.hid h1
  have H2 := Lib.hid h2
  have H3 := Lib.hid h3
  have HD := Lib.hid hd
  have HC := Lib.hid hc
  clear ht h1 h2 h3 hd hc
  have hn' : (n == 922337203685477580) = false := beq_eq_false_iff_ne.2 (by omega)
  go_enter Tryd.func6, Tryd.ntmps6
  go_wp2_with fail
  refine (shown_any _ HT.out).mono ?_; rintro e w1 ⟨rfl, hb⟩; have HB := Lib.hid hb; clear hb
  go_wp2_with fail
  refine (decimal_any _ _ (by unfold maxLen; omega)).mono ?_; rintro e w2 ⟨rfl, rfl⟩; rw [H1.out]
  go_wp2_with fail
  rw [HD.out]
  refine (digits_small d hd9 c HC.out _).mono ?_; rintro e w2 ⟨rfl, rfl⟩
  go_wp2_with fail
  refine (decimal_any _ _ (by rw [ByteArray.size_append]; show s.size + 1 ≤ maxLen; unfold maxLen; omega)).mono ?_; rintro e w3 ⟨rfl, rfl⟩
  rw [app_list, show (ByteArray.mk #[c]).data.toList = [c] from rfl, H2.out]
  go_wp2_with fail
  refine (decimal_any _ _ (by rw [ByteArray.size_append]; show s.size + 1 ≤ maxLen; unfold maxLen; omega)).mono ?_; rintro e w3 ⟨rfl, rfl⟩
  rw [app_list, show (ByteArray.mk #[120]).data.toList = [120] from rfl, H3.out]
  go_wp2
  go_ret
  exact ⟨rfl, HB.out⟩
end Go.Proofs.YtlgoalhcllgkcaaDoor
