/- The reference Media. -/
import Derived.Test.YthkgaaibhjkngaaDoorBE
set_option linter.unusedVariables false
namespace Go.Proofs.YthkgaaibhjkngaaDoor
open Go.RowKit
set_option maxHeartbeats 8000000 in
set_option maxRecDepth 100000 in
theorem rmedia_any (X : ByteArray) (w : World) (hs : X.size ≤ 1073741824) :
    Calls Tryd.prog 59 #[.string X] w (MediaSays (media X.data.toList) w) := by
  have htr := fun wx => rTrim_any X wx (by omega)
  have htl := trim_len X.data.toList
  rw [len_data] at htl
  obtain ⟨R, hR⟩ : ∃ R, R = media X.data.toList := ⟨_, rfl⟩
  rw [← hR]
  unfold media at hR
  obtain ⟨t, ht⟩ : ∃ t, trim X.data.toList = t := ⟨_, rfl⟩
  rw [ht] at htr htl hR
  obtain ⟨S, hS⟩ : ∃ S : ByteArray, S = ⟨t.toArray⟩ := ⟨_, rfl⟩
  rw [← hS] at htr
  have hSl : S.data.toList = t := by rw [hS]
  have hSs : S.size = t.length := by rw [hS]; exact size_mk t
  have htk := fun wx => word_any S wx (by omega)
  rw [hSl] at htk
  have hat : ∀ k (h : k < S.size), S[k] = t.getD k 0 := fun k h => by rw [← hSl]; exact byte_getD S k h
  obtain ⟨n, hn⟩ : ∃ n, tok t = n := ⟨_, rfl⟩
  have hnt := tok_le t
  rw [hn] at htk hR hnt
  have hout : (n = 0 ∨ (n ≠ 0 ∧ (n = S.size ∨ (∃ h : n < S.size, ((S[n].toNat : Int) != 47) = true ∧ ((S[n].toNat : Int) == 47) = false)))) → R = none → Calls Tryd.prog 59 #[.string X] w (MediaSays R w) := by
    intro hc hRn
    have HV := Lib.hid hRn
    have HTR := Lib.hid htr
    have HTK := Lib.hid htk
    have hSn : S.size ≤ 1073741824 := by omega
    have hb0 := (BoxAt.new w (.string ⟨#[]⟩) (.string ⟨#[]⟩) (.slice none 0 0) 99)
    have HB : Hid (Below w.heap.size w (w.alloc (.cells #[.string ⟨#[]⟩, .string ⟨#[]⟩, .slice none 0 0] 99))) := Lib.hid ((Below.refl _ _).alloc (Nat.le_refl _) _)
    obtain ⟨_, r0, r1, r2, rf⟩ := hb0
    clear hRn hR hn hnt hat hSl hSs hS ht htl htr htk rf
    rcases hc with e | ⟨hn0, e | ⟨hlt, e3, e4⟩⟩
    · have e1 : ((n : Int) == 0) = true := by simp [e]
      clear e
      go_enter Tryd.func59, Tryd.ntmps59
      go_wp2_with fail
      refine (HTR.out _).mono ?_; rintro e w1 ⟨rfl, rfl⟩
      go_wp2_with fail
      refine (HTK.out _).mono ?_; rintro e w2 ⟨rfl, rfl⟩
      go_wp2
      exact bodyPost_ret (v := .tuple #[.agg #[.string ⟨#[]⟩, .string ⟨#[]⟩, .slice none 0 0], .int .i64 6]) (by simp [results, Tryd.results59, go_sem]) rfl
        (mediaSays_none HV.out HB.out)
    · have e1 : ((n : Int) == 0) = false := by have : (n : Int) ≠ 0 := by omega
                                               simpa using this
      have e2 : ((n : Int) == (S.size : Int)) = true := by simp [e]
      clear e
      go_enter Tryd.func59, Tryd.ntmps59
      go_wp2_with fail
      refine (HTR.out _).mono ?_; rintro e w1 ⟨rfl, rfl⟩
      go_wp2_with fail
      refine (HTK.out _).mono ?_; rintro e w2 ⟨rfl, rfl⟩
      go_wp2
      exact bodyPost_ret (v := .tuple #[.agg #[.string ⟨#[]⟩, .string ⟨#[]⟩, .slice none 0 0], .int .i64 6]) (by simp [results, Tryd.results59, go_sem]) rfl
        (mediaSays_none HV.out HB.out)
    · have e1 : ((n : Int) == 0) = false := by have : (n : Int) ≠ 0 := by omega
                                               simpa using this
      have e2 : ((n : Int) == (S.size : Int)) = false := by have : (n : Int) ≠ (S.size : Int) := by omega
                                                            simpa using this
      go_enter Tryd.func59, Tryd.ntmps59
      go_wp2_with fail
      refine (HTR.out _).mono ?_; rintro e w1 ⟨rfl, rfl⟩
      go_wp2_with fail
      refine (HTK.out _).mono ?_; rintro e w2 ⟨rfl, rfl⟩
      go_wp2
      exact bodyPost_ret (v := .tuple #[.agg #[.string ⟨#[]⟩, .string ⟨#[]⟩, .slice none 0 0], .int .i64 6]) (by simp [results, Tryd.results59, go_sem]) rfl
        (mediaSays_none HV.out HB.out)
  by_cases e0 : n = 0
  · exact hout (.inl e0) (by rw [hR, if_pos (.inl e0)])
  by_cases c1 : n = S.size
  · exact hout (.inr ⟨e0, .inl c1⟩) (by rw [hR, if_pos (.inr (.inl (by omega)))])
  have hlt : n < S.size := by omega
  by_cases h47 : (t.getD n 0).toNat = 47
  case neg =>
    refine hout (.inr ⟨e0, .inr ⟨hlt, ?_, ?_⟩⟩) (by rw [hR, if_pos (.inr (.inr h47))])
    · rw [← hat n hlt] at h47; simp; omega
    · rw [← hat n hlt] at h47; simp; omega
  clear hout
  rw [if_neg (by omega)] at hR
  rw [← hat n hlt] at h47
  have hex : (S.extract (n + 1) S.size).data.toList = t.drop (n + 1) := by rw [ext_drop, hSl]
  have hexs := ext_size S (n + 1) S.size (Nat.le_refl _)
  have htk2 := fun wx => word_any (S.extract (n + 1) S.size) wx (by rw [hexs]; omega)
  rw [hex] at htk2
  obtain ⟨k, hk⟩ : ∃ k, tok (t.drop (n + 1)) = k := ⟨_, rfl⟩
  have hkl := tok_le (t.drop (n + 1))
  rw [hk, List.length_drop] at hkl
  rw [hk] at htk2 hR
  have hSn : S.size ≤ 1073741824 := by omega
  by_cases c4 : k = 0
  · have HV : Hid (R = none) := Lib.hid (by rw [hR, if_pos c4])
    have e1 : ((n : Int) == 0) = false := by simpa using e0
    have e2 : ((n : Int) == (S.size : Int)) = false := by have : (n : Int) ≠ (S.size : Int) := by omega
                                                          simpa using this
    have e3 : ((S[n].toNat : Int) != 47) = false := by simp; omega
    have e4 : ((S[n].toNat : Int) == 47) = true := by simp; omega
    have e5 : ((k : Int) == 0) = true := by simp [c4]
    have HTR := Lib.hid htr
    have HTK := Lib.hid htk
    have HTK2 := Lib.hid htk2
    have hb0 := (BoxAt.new w (.string ⟨#[]⟩) (.string ⟨#[]⟩) (.slice none 0 0) 99)
    have HB : Hid (Below w.heap.size w (w.alloc (.cells #[.string ⟨#[]⟩, .string ⟨#[]⟩, .slice none 0 0] 99))) := Lib.hid ((Below.refl _ _).alloc (Nat.le_refl _) _)
    obtain ⟨_, r0, r1, r2, rf⟩ := hb0
    clear hR hn hnt htk hat hSl hSs hS ht htl htr e0 h47 hex hexs htk2 hk hkl c4 c1 rf
    go_enter Tryd.func59, Tryd.ntmps59
    go_wp2_with fail
    refine (HTR.out _).mono ?_; rintro e w1 ⟨rfl, rfl⟩
    go_wp2_with fail
    refine (HTK.out _).mono ?_; rintro e w2 ⟨rfl, rfl⟩
    go_wp2_with fail
    refine (HTK2.out _).mono ?_; rintro e w2 ⟨rfl, rfl⟩
    go_wp2
    exact bodyPost_ret (v := .tuple #[.agg #[.string ⟨#[]⟩, .string ⟨#[]⟩, .slice none 0 0], .int .i64 6]) (by simp [results, Tryd.results59, go_sem]) rfl
      (mediaSays_none HV.out HB.out)
  rw [if_neg c4] at hR
  have hlo := fun wx => rLower_any (S.extract 0 n) wx (by rw [ext_size S 0 n (by omega)]; omega)
  rw [ext_list S 0 n (by omega), hSl, List.drop_zero] at hlo
  have hn2 : ((n : Int) + 1 + (k : Int)).toNat = n + 1 + k := by omega
  have hlo2 := fun wx => rLower_any (S.extract (n + 1) ((n : Int) + 1 + (k : Int)).toNat) wx (by rw [hn2, ext_size S _ _ (by omega)]; omega)
  have e2 : (S.extract (n + 1) ((n : Int) + 1 + (k : Int)).toNat).data.toList = (t.drop (n + 1)).take k := by
    rw [hn2, ext_list S _ _ (by omega), hSl, List.drop_take]; congr 1; omega
  rw [e2] at hlo2
  refine rmedia_go X S _ _ ((t.take n).map lwr) (((t.drop (n + 1)).take k).map lwr) R n k w rfl rfl hSn hlt e0 c4 (by omega) h47 htr htk htk2 hlo hlo2 ?_
  rw [hR, ext_drop, hSl, List.drop_drop]
end Go.Proofs.YthkgaaibhjkngaaDoor
