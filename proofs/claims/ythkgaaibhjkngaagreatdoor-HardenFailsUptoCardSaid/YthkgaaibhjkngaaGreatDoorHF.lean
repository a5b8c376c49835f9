/- Harden: what kind a response is. -/
import Derived.Test.YthkgaaibhjkngaaGreatDoorHE
set_option linter.unusedVariables false
namespace Go.Proofs.YthkgaaibhjkngaaGreatDoor
open Go.RowKit

theorem media_sub (l : List UInt8) (x) (h : media l = some x) : x.2.1.length ≤ l.length := by
  unfold media at h
  split at h
  · cases h
  · split at h
    · cases h
    · simp only [Option.map_eq_some_iff] at h
      obtain ⟨ps, _, rfl⟩ := h
      have := trim_len l
      simp only [List.length_map, List.length_take, List.length_drop]; omega
abbrev KR := Bool × ByteArray × Int
def kindM (l : AL) (r : List ByteArray) (x : Option (List UInt8 × List UInt8 × List (List UInt8 × List UInt8))) : KR :=
  if r ≠ [] then (false, ⟨#[]⟩, 6) else match x with
  | none => (false, ⟨#[]⟩, 6)
  | some x => if (x.2.1 == [120, 109, 108]) = true ∨ sfx x.2.1 = true then (false, ⟨#[]⟩, 6)
    else if (x.1 == [116, 101, 120, 116]) = true ∧ (x.2.1 == [104, 116, 109, 108]) = true then (if encF l = true then (false, ⟨#[]⟩, 25) else (true, chs (x.2.2.map mk2), 0))
    else (false, ⟨#[]⟩, 0)
def kindF (l : AL) : KR := match allF l ⟨#[99, 111, 110, 116, 101, 110, 116, 45, 116, 121, 112, 101]⟩ with
  | [] => (false, ⟨#[]⟩, 0)
  | t :: r => kindM l r (media t.data.toList)
def KindSays (R : KR) (w : World) (e : Ending) (w' : World) : Prop := e = .returned (.tuple #[.bool R.1, .string R.2.1, .int .i64 R.2.2]) ∧ Below w.heap.size w w'
theorem kindSays {R : KR} {b : Bool} {s : ByteArray} {k : Int} {w w' : World} (h : R = (b, s, k)) (hb : Below w.heap.size w w') : KindSays R w (.returned (.tuple #[.bool b, .string s, .int .i64 k])) w' := by
  subst h; exact ⟨rfl, hb⟩
theorem mk_toList (l : List UInt8) : (mk l).toList = l := by rw [toList_data', mk_list]

set_option maxHeartbeats 8000000 in
set_option maxRecDepth 100000 in
theorem kind_any (l : AL) (st : Int) (rs : ByteArray) (a : Option Addr) (n c : Nat) (w : World) (hn : l.length = n) (hs : SrcA w a c l) (hz : asz l ≤ 1073741824) :
    Calls Tryz.prog 53 #[.agg #[.int .i64 st, .string rs, .slice a n c]] w (KindSays (kindF l) w) := by
  have hall := fun wx (hb : Below w.heap.size w wx) => all_any l ⟨#[99, 111, 110, 116, 101, 110, 116, 45, 116, 121, 112, 101]⟩ a n c wx hn (hs.below (Nat.le_refl _) hb) hz (by decide)
  have henc := fun wx (hb : Below w.heap.size w wx) => encF_any l a n c wx hn (hs.below (Nat.le_refl _) hb) hz
  have hbz := allF_bsz l ⟨#[99, 111, 110, 116, 101, 110, 116, 45, 116, 121, 112, 101]⟩
  obtain ⟨R, hR⟩ : ∃ R, R = kindF l := ⟨_, rfl⟩
  rw [← hR]
  unfold kindF at hR
  generalize allF l ⟨#[99, 111, 110, 116, 101, 110, 116, 45, 116, 121, 112, 101]⟩ = ts at hall hbz hR
  have HALL := Lib.hid hall
  have HENC := Lib.hid henc
  have HBA : Hid (Below w.heap.size w (w.alloc (.cells #[.int .i64 st, .string rs, .slice a n c] 26))) := Lib.hid ((Below.refl _ _).alloc (Nat.le_refl _) _)
  clear hall henc hs hn
  cases ts with
  | nil =>
    have HV : Hid (R = (false, ⟨#[]⟩, 0)) := Lib.hid hR
    clear hR
    go_enter Tryz.func53, Tryz.ntmps53
    go_wp2_with fail
    refine (HALL.out _ HBA.out).mono ?_; rintro e w1 ⟨hb, v, rfl, hown⟩
    obtain ⟨a1, c1, rfl, hsrc⟩ := ownS_src hown
    have HB1 := Lib.hid (HBA.out.trans (hb.mono HBA.out.size))
    clear hb hown hsrc
    go_wp2
    exact bodyPost_ret (v := .tuple #[.bool false, .string ⟨#[]⟩, .int .i64 0]) (by simp [results, Tryz.results53, go_sem]) rfl (kindSays HV.out HB1.out)
  | cons t r =>
    have htz : t.size ≤ 1073741824 := by simp only [bsz] at hbz; omega
    have hrl : r.length ≤ 1073741824 := by have := bsz_len r; simp only [bsz] at hbz; omega
    have hmed := fun wx => media_any t wx htz
    replace hR : R = kindM l r (media t.data.toList) := hR
    have hms := fun x (h : media t.data.toList = some x) => media_sub t.data.toList x h
    rw [len_data] at hms
    generalize media t.data.toList = M at hmed hR hms
    have HT : Hid (∀ (a : Option Addr) c wx, SrcS wx a c (t :: r) → ∃ b o, a = some ⟨b, o, none⟩ ∧ b < wx.heap.size ∧ wx.cell? ⟨b, o, none⟩ = some (.string t)) := Lib.hid fun a c wx h => h.at_ 0 (by simp)
    obtain ⟨N1, hN1⟩ : ∃ N1, (t :: r).length = N1 := ⟨_, rfl⟩
    have HN1 := Lib.hid hN1
    have hn1 : N1 = r.length + 1 := by rw [← hN1]; rfl
    have hr1 : r ≠ [] ↔ 1 < N1 := by rw [hn1]; cases r <;> simp
    have hn0 : 0 < N1 := by omega
    have hnb : N1 ≤ 1073741825 := by omega
    have hsb : ∀ x, M = some x → x.2.1.length ≤ 1073741824 := fun x h => Nat.le_trans (hms x h) htz
    clear hbz htz hrl hN1 hn1 hms
    unfold kindM at hR
    cases M with
    | none =>
      have HV : Hid (R = (false, ⟨#[]⟩, 6)) := Lib.hid (by rw [hR]; split <;> rfl)
      have HM : Hid (∀ wx, Calls Tryz.prog 94 #[.string t] wx fun e w' => Below wx.heap.size wx w' ∧ e = .returned (.tuple #[.agg #[.string ⟨#[]⟩, .string ⟨#[]⟩, .slice none 0 0], .int .i64 6])) := Lib.hid hmed
      clear hR hmed hsb
      by_cases hone : 1 < N1 <;>
      ( clear hr1
        go_enter Tryz.func53, Tryz.ntmps53
        go_wp2_with fail
        refine (HALL.out _ HBA.out).mono ?_; rintro e w1 ⟨hb, v, rfl, hown⟩
        obtain ⟨a1, c1, hv, hsrc⟩ := ownS_src hown
        rw [HN1.out] at hv
        subst hv
        obtain ⟨b0, o0, rfl, hb0, d1⟩ := HT.out _ _ _ hsrc
        have HB1 := Lib.hid (HBA.out.trans (hb.mono HBA.out.size))
        clear hb hown hsrc
        go_wp2_with fail
        refine (HM.out _).mono ?_; rintro e w2 ⟨hb, rfl⟩
        have HB2 := Lib.hid (HB1.out.trans (hb.mono HB1.out.size))
        clear hb
        go_wp2
        exact bodyPost_ret (v := .tuple #[.bool false, .string ⟨#[]⟩, .int .i64 6]) (by simp [results, Tryz.results53, go_sem]) rfl (kindSays HV.out (HB2.out.alloc HB2.out.size _)))
    | some x =>
      obtain ⟨ty, sub, ps⟩ := x
      obtain ⟨A, hA⟩ : ∃ A, A = mk ty := ⟨_, rfl⟩
      obtain ⟨B, hB⟩ : ∃ B, B = mk sub := ⟨_, rfl⟩
      have hAl : A.toList = ty := by rw [hA, mk_toList]
      have hBl : B.toList = sub := by rw [hB, mk_toList]
      have hBd : B.data.toList = sub := by rw [hB, mk_list]
      obtain ⟨P, hP⟩ : ∃ P, P = ps.map mk2 := ⟨_, rfl⟩
      have hmed2 : ∀ wx, Calls Tryz.prog 94 #[.string t] wx fun e w' => Below wx.heap.size wx w' ∧ ∃ v, e = .returned (.tuple #[.agg #[.string A, .string B, v], .int .i64 0]) ∧ OwnA w' wx.heap.size v P := by rw [hA, hB, hP]; exact hmed
      have HM := Lib.hid hmed2
      have hBs : B.size ≤ 9223372036854775807 := by have := hsb _ rfl; rw [hB]; simp only [mk, size_mk]; simp only at this; omega
      simp only [← hP, ← hAl, ← hBl] at hR
      have hsf := fun wx => hasSuffix_any B wx hBs
      rw [hBd, ← hBl] at hsf
      clear hmed hmed2 hA hB hAl hBl hBd hP hsb hBs
      by_cases hone : 1 < N1
      · have HV : Hid (R = (false, ⟨#[]⟩, 6)) := Lib.hid (by rw [hR, if_pos (hr1.2 hone)])
        clear hR hr1 hsf
        go_enter Tryz.func53, Tryz.ntmps53
        go_wp2_with fail
        refine (HALL.out _ HBA.out).mono ?_; rintro e w1 ⟨hb, v, rfl, hown⟩
        obtain ⟨a1, c1, hv, hsrc⟩ := ownS_src hown
        rw [HN1.out] at hv
        subst hv
        obtain ⟨b0, o0, rfl, hb0, d1⟩ := HT.out _ _ _ hsrc
        have HB1 := Lib.hid (HBA.out.trans (hb.mono HBA.out.size))
        clear hb hown hsrc
        go_wp2_with fail
        refine (HM.out _).mono ?_; rintro e w2 ⟨hb, v, rfl, hown⟩
        obtain ⟨a2, c2, rfl, _, _⟩ := ownA_src hown
        have HB2 := Lib.hid (HB1.out.trans (hb.mono HB1.out.size))
        clear hb hown
        go_wp2
        exact bodyPost_ret (v := .tuple #[.bool false, .string ⟨#[]⟩, .int .i64 6]) (by simp [results, Tryz.results53, go_sem]) rfl (kindSays HV.out (HB2.out.alloc HB2.out.size _))
      · have hN : N1 = 1 := by omega
        subst hN
        have hr0 : r = [] := by
          cases r with
          | nil => rfl
          | cons u v => exact absurd (hr1.1 (by simp)) hone
        rw [if_neg (by simp [hr0])] at hR
        clear hr1 hone hn0 hnb hr0
        have HSF0 := Lib.hid hsf
        clear hsf
        cases hx : (B.toList == [120, 109, 108]) with
        | true =>
          have HV : Hid (R = (false, ⟨#[]⟩, 6)) := Lib.hid (by rw [hR, if_pos (.inl hx)])
          clear hR HSF0
          go_enter Tryz.func53, Tryz.ntmps53
          go_wp2_with fail
          refine (HALL.out _ HBA.out).mono ?_; rintro e w1 ⟨hb, v, rfl, hown⟩
          obtain ⟨a1, c1, hv, hsrc⟩ := ownS_src hown
          rw [HN1.out] at hv
          subst hv
          obtain ⟨b0, o0, rfl, hb0, d1⟩ := HT.out _ _ _ hsrc
          have p2 := (res_cells w w1 _ _ hb 2).1.1
          have HB1 := Lib.hid (HBA.out.trans (hb.mono HBA.out.size))
          have hz1 : w.heap.size < w1.heap.size := by have := hb.size; simp at this; omega
          clear hb hown hsrc
          go_wp2_with fail
          refine (HM.out _).mono ?_; rintro e w2 ⟨hb, v, rfl, hown⟩
          obtain ⟨a2, c2, rfl, hsrc2, _⟩ := ownA_src hown
          have hlA := ownA_len hown
          have q2 := (hb.cell (p := ⟨w.heap.size, 2, none⟩) hz1).trans p2
          have hz2 : w.heap.size < w2.heap.size := Nat.lt_of_lt_of_le hz1 hb.size
          have HB2 := Lib.hid (HB1.out.trans (hb.mono HB1.out.size))
          have HS2 := Lib.hid hsrc2
          have HLA := Lib.hid hlA
          have HBE : Hid (Below w.heap.size w (w2.alloc (.cells #[.string A, .string B, .slice a2 P.length c2] 109))) := Lib.hid (HB2.out.alloc HB2.out.size _)
          clear hb hown hsrc2 p2 hlA
          go_wp2
          exact bodyPost_ret (v := .tuple #[.bool false, .string ⟨#[]⟩, .int .i64 6]) (by simp [results, Tryz.results53, go_sem]) rfl (kindSays HV.out HBE.out)
        | false =>
          cases hy : sfx B.toList with
          | true =>
            have HV : Hid (R = (false, ⟨#[]⟩, 6)) := Lib.hid (by rw [hR, if_pos (.inr hy)])
            have HSF := HSF0
            rw [hy] at HSF
            clear hR hy HSF0
            go_enter Tryz.func53, Tryz.ntmps53
            go_wp2_with fail
            refine (HALL.out _ HBA.out).mono ?_; rintro e w1 ⟨hb, v, rfl, hown⟩
            obtain ⟨a1, c1, hv, hsrc⟩ := ownS_src hown
            rw [HN1.out] at hv
            subst hv
            obtain ⟨b0, o0, rfl, hb0, d1⟩ := HT.out _ _ _ hsrc
            have p2 := (res_cells w w1 _ _ hb 2).1.1
            have HB1 := Lib.hid (HBA.out.trans (hb.mono HBA.out.size))
            have hz1 : w.heap.size < w1.heap.size := by have := hb.size; simp at this; omega
            clear hb hown hsrc
            go_wp2_with fail
            refine (HM.out _).mono ?_; rintro e w2 ⟨hb, v, rfl, hown⟩
            obtain ⟨a2, c2, rfl, hsrc2, _⟩ := ownA_src hown
            have hlA := ownA_len hown
            have q2 := (hb.cell (p := ⟨w.heap.size, 2, none⟩) hz1).trans p2
            have hz2 : w.heap.size < w2.heap.size := Nat.lt_of_lt_of_le hz1 hb.size
            have HB2 := Lib.hid (HB1.out.trans (hb.mono HB1.out.size))
            have HS2 := Lib.hid hsrc2
            have HLA := Lib.hid hlA
            have HBE : Hid (Below w.heap.size w (w2.alloc (.cells #[.string A, .string B, .slice a2 P.length c2] 109))) := Lib.hid (HB2.out.alloc HB2.out.size _)
            clear hb hown hsrc2 p2 hlA
            go_wp2_with fail
            refine (HSF.out _).mono ?_; rintro e w3 ⟨rfl, rfl⟩
            go_wp2
            exact bodyPost_ret (v := .tuple #[.bool false, .string ⟨#[]⟩, .int .i64 6]) (by simp [results, Tryz.results53, go_sem]) rfl (kindSays HV.out HBE.out)
          | false =>
            rw [if_neg (by rw [hx, hy]; simp)] at hR
            have HSF := HSF0
            rw [hy] at HSF
            clear hy HSF0
            cases ht : (A.toList == [116, 101, 120, 116]) with
            | false =>
              have HV : Hid (R = (false, ⟨#[]⟩, 0)) := Lib.hid (by rw [hR, if_neg (by rw [ht]; simp)])
              clear hR
              go_enter Tryz.func53, Tryz.ntmps53
              go_wp2_with fail
              refine (HALL.out _ HBA.out).mono ?_; rintro e w1 ⟨hb, v, rfl, hown⟩
              obtain ⟨a1, c1, hv, hsrc⟩ := ownS_src hown
              rw [HN1.out] at hv
              subst hv
              obtain ⟨b0, o0, rfl, hb0, d1⟩ := HT.out _ _ _ hsrc
              have p2 := (res_cells w w1 _ _ hb 2).1.1
              have HB1 := Lib.hid (HBA.out.trans (hb.mono HBA.out.size))
              have hz1 : w.heap.size < w1.heap.size := by have := hb.size; simp at this; omega
              clear hb hown hsrc
              go_wp2_with fail
              refine (HM.out _).mono ?_; rintro e w2 ⟨hb, v, rfl, hown⟩
              obtain ⟨a2, c2, rfl, hsrc2, _⟩ := ownA_src hown
              have hlA := ownA_len hown
              have q2 := (hb.cell (p := ⟨w.heap.size, 2, none⟩) hz1).trans p2
              have hz2 : w.heap.size < w2.heap.size := Nat.lt_of_lt_of_le hz1 hb.size
              have HB2 := Lib.hid (HB1.out.trans (hb.mono HB1.out.size))
              have HS2 := Lib.hid hsrc2
              have HLA := Lib.hid hlA
              have HBE : Hid (Below w.heap.size w (w2.alloc (.cells #[.string A, .string B, .slice a2 P.length c2] 109))) := Lib.hid (HB2.out.alloc HB2.out.size _)
              clear hb hown hsrc2 p2 hlA
              go_wp2_with fail
              refine (HSF.out _).mono ?_; rintro e w3 ⟨rfl, rfl⟩
              go_wp2
              exact bodyPost_ret (v := .tuple #[.bool false, .string ⟨#[]⟩, .int .i64 0]) (by simp [results, Tryz.results53, go_sem]) rfl (kindSays HV.out HBE.out)
            | true =>
              cases hh : (B.toList == [104, 116, 109, 108]) with
              | false =>
                have HV : Hid (R = (false, ⟨#[]⟩, 0)) := Lib.hid (by rw [hR, if_neg (by rw [hh]; simp)])
                clear hR
                go_enter Tryz.func53, Tryz.ntmps53
                go_wp2_with fail
                refine (HALL.out _ HBA.out).mono ?_; rintro e w1 ⟨hb, v, rfl, hown⟩
                obtain ⟨a1, c1, hv, hsrc⟩ := ownS_src hown
                rw [HN1.out] at hv
                subst hv
                obtain ⟨b0, o0, rfl, hb0, d1⟩ := HT.out _ _ _ hsrc
                have p2 := (res_cells w w1 _ _ hb 2).1.1
                have HB1 := Lib.hid (HBA.out.trans (hb.mono HBA.out.size))
                have hz1 : w.heap.size < w1.heap.size := by have := hb.size; simp at this; omega
                clear hb hown hsrc
                go_wp2_with fail
                refine (HM.out _).mono ?_; rintro e w2 ⟨hb, v, rfl, hown⟩
                obtain ⟨a2, c2, rfl, hsrc2, _⟩ := ownA_src hown
                have hlA := ownA_len hown
                have q2 := (hb.cell (p := ⟨w.heap.size, 2, none⟩) hz1).trans p2
                have hz2 : w.heap.size < w2.heap.size := Nat.lt_of_lt_of_le hz1 hb.size
                have HB2 := Lib.hid (HB1.out.trans (hb.mono HB1.out.size))
                have HS2 := Lib.hid hsrc2
                have HLA := Lib.hid hlA
                have HBE : Hid (Below w.heap.size w (w2.alloc (.cells #[.string A, .string B, .slice a2 P.length c2] 109))) := Lib.hid (HB2.out.alloc HB2.out.size _)
                clear hb hown hsrc2 p2 hlA
                go_wp2_with fail
                refine (HSF.out _).mono ?_; rintro e w3 ⟨rfl, rfl⟩
                go_wp2
                exact bodyPost_ret (v := .tuple #[.bool false, .string ⟨#[]⟩, .int .i64 0]) (by simp [results, Tryz.results53, go_sem]) rfl (kindSays HV.out HBE.out)
              | true =>
                rw [if_pos ⟨ht, hh⟩] at hR
                cases hc : encF l with
                | true =>
                  have HV : Hid (R = (false, ⟨#[]⟩, 25)) := Lib.hid (by rw [hR, if_pos hc])
                  have HENC2 := HENC
                  rw [hc] at HENC2
                  clear hR hc HENC
                  go_enter Tryz.func53, Tryz.ntmps53
                  go_wp2_with fail
                  refine (HALL.out _ HBA.out).mono ?_; rintro e w1 ⟨hb, v, rfl, hown⟩
                  obtain ⟨a1, c1, hv, hsrc⟩ := ownS_src hown
                  rw [HN1.out] at hv
                  subst hv
                  obtain ⟨b0, o0, rfl, hb0, d1⟩ := HT.out _ _ _ hsrc
                  have p2 := (res_cells w w1 _ _ hb 2).1.1
                  have HB1 := Lib.hid (HBA.out.trans (hb.mono HBA.out.size))
                  have hz1 : w.heap.size < w1.heap.size := by have := hb.size; simp at this; omega
                  clear hb hown hsrc
                  go_wp2_with fail
                  refine (HM.out _).mono ?_; rintro e w2 ⟨hb, v, rfl, hown⟩
                  obtain ⟨a2, c2, rfl, hsrc2, _⟩ := ownA_src hown
                  have hlA := ownA_len hown
                  have q2 := (hb.cell (p := ⟨w.heap.size, 2, none⟩) hz1).trans p2
                  have hz2 : w.heap.size < w2.heap.size := Nat.lt_of_lt_of_le hz1 hb.size
                  have HB2 := Lib.hid (HB1.out.trans (hb.mono HB1.out.size))
                  have HS2 := Lib.hid hsrc2
                  have HLA := Lib.hid hlA
                  have HBE : Hid (Below w.heap.size w (w2.alloc (.cells #[.string A, .string B, .slice a2 P.length c2] 109))) := Lib.hid (HB2.out.alloc HB2.out.size _)
                  clear hb hown hsrc2 p2 hlA
                  go_wp2_with fail
                  refine (HSF.out _).mono ?_; rintro e w3 ⟨rfl, rfl⟩
                  go_wp2_with fail
                  refine (HENC2.out _ HBE.out).mono ?_; rintro e w3 ⟨rfl, hb⟩
                  have HB3 := Lib.hid (HBE.out.trans (hb.mono HBE.out.size))
                  clear hb
                  go_wp2
                  exact bodyPost_ret (v := .tuple #[.bool false, .string ⟨#[]⟩, .int .i64 25]) (by simp [results, Tryz.results53, go_sem]) rfl (kindSays HV.out HB3.out)
                | false =>
                  have HV : Hid (R = (true, chs P, 0)) := Lib.hid (by rw [hR, if_neg (by rw [hc]; simp)])
                  have HENC2 := HENC
                  rw [hc] at HENC2
                  clear hR hc HENC
                  go_enter Tryz.func53, Tryz.ntmps53
                  go_wp2_with fail
                  refine (HALL.out _ HBA.out).mono ?_; rintro e w1 ⟨hb, v, rfl, hown⟩
                  obtain ⟨a1, c1, hv, hsrc⟩ := ownS_src hown
                  rw [HN1.out] at hv
                  subst hv
                  obtain ⟨b0, o0, rfl, hb0, d1⟩ := HT.out _ _ _ hsrc
                  have p2 := (res_cells w w1 _ _ hb 2).1.1
                  have HB1 := Lib.hid (HBA.out.trans (hb.mono HBA.out.size))
                  have hz1 : w.heap.size < w1.heap.size := by have := hb.size; simp at this; omega
                  clear hb hown hsrc
                  go_wp2_with fail
                  refine (HM.out _).mono ?_; rintro e w2 ⟨hb, v, rfl, hown⟩
                  obtain ⟨a2, c2, rfl, hsrc2, _⟩ := ownA_src hown
                  have hlA := ownA_len hown
                  have q2 := (hb.cell (p := ⟨w.heap.size, 2, none⟩) hz1).trans p2
                  have hz2 : w.heap.size < w2.heap.size := Nat.lt_of_lt_of_le hz1 hb.size
                  have HB2 := Lib.hid (HB1.out.trans (hb.mono HB1.out.size))
                  have HS2 := Lib.hid hsrc2
                  have HLA := Lib.hid hlA
                  have HBE : Hid (Below w.heap.size w (w2.alloc (.cells #[.string A, .string B, .slice a2 P.length c2] 109))) := Lib.hid (HB2.out.alloc HB2.out.size _)
                  clear hb hown hsrc2 p2 hlA
                  go_wp2_with fail
                  refine (HSF.out _).mono ?_; rintro e w3 ⟨rfl, rfl⟩
                  go_wp2_with fail
                  refine (HENC2.out _ HBE.out).mono ?_; rintro e w3 ⟨rfl, hb⟩
                  have HB3 := Lib.hid (HBE.out.trans (hb.mono HBE.out.size))
                  have r0 := (res_cells w2 w3 _ _ hb 0).1.1
                  have r1 := (res_cells w2 w3 _ _ hb 1).1.1
                  have r2 := (res_cells w2 w3 _ _ hb 2).1.1
                  have HS3 := Lib.hid ((HS2.out.below (Nat.le_refl _) ((Below.refl _ _).alloc (Nat.le_refl _) _)).below (Nat.le_refl _) hb)
                  clear hb
                  go_wp2_with fail
                  refine (charset_any A B P a2 P.length c2 _ rfl HS3.out HLA.out).mono ?_; rintro e w4 ⟨rfl, hb⟩
                  have HB4 := Lib.hid (HB3.out.trans (hb.mono HB3.out.size))
                  clear hb
                  go_wp2
                  exact bodyPost_ret (v := .tuple #[.bool true, .string (chs P), .int .i64 0]) (by simp [results, Tryz.results53, go_sem]) rfl (kindSays HV.out HB4.out)
end Go.Proofs.YthkgaaibhjkngaaGreatDoor
