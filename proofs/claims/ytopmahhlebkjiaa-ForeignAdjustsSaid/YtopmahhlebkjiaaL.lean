/- The document's points. -/
import Derived.Test.YtopmahhlebkjiaaK
namespace Go.Proofs.Ytopmahhlebkjiaa
open Go.RowKit

theorem words_new (w : World) (C : Array Value) (L : List ByteArray) (hC : C = (L.map Value.string).toArray) (fr : Nat × Nat) : Words (w.alloc (.cells C 9 fr)) w.heap.size L := by
  refine ⟨by simp, fun j hj => ?_⟩
  subst hC
  have hb : (w.alloc (.cells (L.map Value.string).toArray 9 fr)).heap[w.heap.size]? = some (.cells (L.map Value.string).toArray 9 fr) := by show (w.heap.push _)[w.heap.size]? = _; simp
  generalize w.alloc (.cells (L.map Value.string).toArray 9 fr) = W at hb
  unfold World.cell?
  rw [show W.heap[(⟨w.heap.size, j, none⟩ : Addr).block]? = _ from hb]
  simp [hj]
theorem beq_sym (a b : List UInt8) : (a == b) = (b == a) := by
  rw [Bool.eq_iff_iff, beq_iff_eq, beq_iff_eq]; exact eq_comm
theorem inl_svg (s : ByteArray) : inl s [⟨#[102, 111, 114, 101, 105, 103, 110, 79, 98, 106, 101, 99, 116]⟩, ⟨#[100, 101, 115, 99]⟩, ⟨#[116, 105, 116, 108, 101]⟩] = ptSvg s.toList := by
  simp only [inl, List.any_cons, List.any_nil, Bool.or_false, ptSvg, Lib.toList_data, beq_sym s.data.toList]
theorem inl_math (s : ByteArray) : inl s [⟨#[109, 105]⟩, ⟨#[109, 111]⟩, ⟨#[109, 110]⟩, ⟨#[109, 115]⟩, ⟨#[109, 116, 101, 120, 116]⟩] = ptMath s.toList := by
  simp only [inl, List.any_cons, List.any_nil, Bool.or_false, ptMath, Lib.toList_data, beq_sym s.data.toList]
theorem inl_page (v : ByteArray) : inl ⟨(v.data.toList.map low).toArray⟩ [⟨#[116, 101, 120, 116, 47, 104, 116, 109, 108]⟩, ⟨#[97, 112, 112, 108, 105, 99, 97, 116, 105, 111, 110, 47, 120, 104, 116, 109, 108, 43, 120, 109, 108]⟩] = page v := by
  simp only [inl, List.any_cons, List.any_nil, Bool.or_false, page, Lib.toList_data, beq_sym (v.data.toList.map low)]

theorem ann_at (l : List (ByteArray × ByteArray)) (j : Nat) (hj : j < l.length) (hf : fidx l = j) : ann l = if page l[j].2 = true then 2 else 0 := by
  unfold ann; rw [if_neg (by omega), hf]
  simp [List.getD_eq_getElem?_getD, List.getElem?_eq_getElem hj]

set_option maxHeartbeats 2000000 in
theorem refpoint_any (space : Int) (s : ByteArray) (w : World) (a : Option Addr) (n c : Nat) (l : List (ByteArray × ByteArray)) (h : Attrs w a n l) :
    Calls Try.prog 10 #[.int .i64 space, .string s, .slice a n c] w fun e w' => e = .returned (.int .i64 (pt space s.toList l)) ∧ Below w.heap.size w w' := by
  generalize hr : pt space s.toList l = r
  by_cases e1 : space = 1
  · subst e1
    have hin : ∀ (C : Array Value) (wx : World), C = (List.map Value.string [⟨#[102, 111, 114, 101, 105, 103, 110, 79, 98, 106, 101, 99, 116]⟩, ⟨#[100, 101, 115, 99]⟩, ⟨#[116, 105, 116, 108, 101]⟩]).toArray → Calls Try.prog 22 #[.string s, .slice (some ⟨wx.heap.size, 0, none⟩) 3 3] (wx.alloc (.cells C 9)) fun e w' => e = .returned (.bool (ptSvg s.toList)) ∧ wx.alloc (.cells C 9) = w' := fun C wx hC => by
      rw [← inl_svg]; exact in_any s _ 3 3 _ _ (words_new wx C _ hC _) rfl (by omega)
    cases hs : ptSvg s.toList
    · rw [hs] at hin
      have HV : Hid (r = 0) := Lib.hid (by rw [← hr]; simp [pt, hs])
      have HI := Lib.hid hin
      clear h hr hin hs
      go_enter Try.func10, Try.ntmps10
      go_wp2_with (go_at_call 22; refine (HI.out _ _ rfl).mono ?_; rintro e w' ⟨rfl, rfl⟩)
      go_ret
      exact ⟨ret_int HV.out.symm, (Below.refl _ _).alloc (Nat.le_refl _) _⟩
    · rw [hs] at hin
      have HV : Hid (r = 2) := Lib.hid (by rw [← hr]; simp [pt, hs])
      have HI := Lib.hid hin
      clear h hr hin hs
      go_enter Try.func10, Try.ntmps10
      go_wp2_with (go_at_call 22; refine (HI.out _ _ rfl).mono ?_; rintro e w' ⟨rfl, rfl⟩)
      go_ret
      exact ⟨ret_int HV.out.symm, (Below.refl _ _).alloc (Nat.le_refl _) _⟩
  by_cases e2 : space = 2
  · subst e2
    clear e1
    have hin : ∀ (C : Array Value) (wx : World), C = (List.map Value.string [⟨#[109, 105]⟩, ⟨#[109, 111]⟩, ⟨#[109, 110]⟩, ⟨#[109, 115]⟩, ⟨#[109, 116, 101, 120, 116]⟩]).toArray → Calls Try.prog 22 #[.string s, .slice (some ⟨wx.heap.size, 0, none⟩) 5 5] (wx.alloc (.cells C 9)) fun e w' => e = .returned (.bool (ptMath s.toList)) ∧ wx.alloc (.cells C 9) = w' := fun C wx hC => by
      rw [← inl_math]; exact in_any s _ 5 5 _ _ (words_new wx C _ hC _) rfl (by omega)
    cases hs : ptMath s.toList
    · rw [hs] at hin
      have HI := Lib.hid hin
      cases ha : isAnn s.toList
      · have hb : (s.toList == [97, 110, 110, 111, 116, 97, 116, 105, 111, 110, 45, 120, 109, 108]) = false := ha
        have HV : Hid (r = 0) := Lib.hid (by rw [← hr]; simp [pt, hs, ha])
        clear h hr hin hs ha
        go_enter Try.func10, Try.ntmps10
        go_wp2_with (go_at_call 22; refine (HI.out _ _ rfl).mono ?_; rintro e w' ⟨rfl, rfl⟩)
        go_ret
        exact ⟨ret_int HV.out.symm, (Below.refl _ _).alloc (Nat.le_refl _) _⟩
      · have hb : (s.toList == [97, 110, 110, 111, 116, 97, 116, 105, 111, 110, 45, 120, 109, 108]) = true := ha
        have HV : Hid (r = ann l) := Lib.hid (by rw [← hr]; simp [pt, hs, ha])
        have hbig := h.big
        have HA := Lib.hid h
        have HN := Lib.hid h.len
        clear h hr hin hs ha
        go_enter Try.func10, Try.ntmps10
        go_wp2_with (go_at_call 22; refine (HI.out _ _ rfl).mono ?_; rintro e w' ⟨rfl, rfl⟩)
        go_loopw [7] (fun t wr => ∃ j : Nat, j ≤ n ∧ t = .int .i64 j ∧ (∀ i (hi : i < j) (hl : i < l.length), isEnc (l[i]'hl).1 = false) ∧ Below w.heap.size w wr) (fun t _ => n - (intOf t).toNat)
        case atStart => exact ⟨0, by omega, rfl, fun i hi => by omega, (Below.refl _ _).alloc (Nat.le_refl _) _⟩
        case round =>
          obtain ⟨j, hj, rfl, hno, hbl⟩ := hrel
          by_cases hlt : j < n
          · have hjl : j < l.length := by rw [HN.out]; exact hlt
            obtain ⟨b, o, haa, hbb, h1, h2⟩ := HA.out.at_ j hjl
            subst haa
            have c1 := (hbl.cell (p := ⟨b, o + j * 2, none⟩) hbb).trans h1
            have c2 := (hbl.cell (p := ⟨b, o + j * 2 + 1, none⟩) hbb).trans h2
            have hsm := HA.out.small j hjl
            have hfa : isEnc l[j].1 = true → ann l = if page l[j].2 = true then 2 else 0 := fun ht => ann_at l j hjl (fidx_at l j hjl (fun i hi => hno i hi _) ht)
            have hnx : isEnc l[j].1 = false → ∀ i (hi : i < j + 1) (hl : i < l.length), isEnc (l[i]'hl).1 = false := fun hf i hi hl => by
              by_cases e : i = j
              · subst e; exact hf
              · exact hno i (by omega) hl
            generalize l[j].1 = nm at c1 hfa hnx
            generalize l[j].2 = vl at c2 hsm hfa
            have hlow : ∀ wx, Calls Try.prog 20 #[.string vl] wx fun e w' => e = .returned (.string ⟨(vl.data.toList.map low).toArray⟩) ∧ Below wx.heap.size wx w' := fun wx => reflower_any vl wx hsm
            have hpg : ∀ (C : Array Value) (wx : World), C = (List.map Value.string [⟨#[116, 101, 120, 116, 47, 104, 116, 109, 108]⟩, ⟨#[97, 112, 112, 108, 105, 99, 97, 116, 105, 111, 110, 47, 120, 104, 116, 109, 108, 43, 120, 109, 108]⟩]).toArray → Calls Try.prog 22 #[.string ⟨(vl.data.toList.map low).toArray⟩, .slice (some ⟨wx.heap.size, 0, none⟩) 2 2] (wx.alloc (.cells C 9)) fun e w' => e = .returned (.bool (page vl)) ∧ wx.alloc (.cells C 9) = w' := fun C wx hC => by
              rw [← inl_page]; exact in_any _ _ 2 2 _ _ (words_new wx C _ hC _) rfl (by omega)
            generalize (ByteArray.mk (vl.data.toList.map low).toArray) = Z at hlow hpg
            have HL := Lib.hid hlow
            have HB := Lib.hid hbl
            have HX := Lib.hid hnx
            clear h1 h2 hno hlow hnx hbl
            cases hnm : (nm.toList == sEncoding)
            · have hn2 : (nm.toList == [101, 110, 99, 111, 100, 105, 110, 103]) = false := hnm
              have HY : Hid (∀ i (hi : i < j + 1) (hl : i < l.length), isEnc (l[i]'hl).1 = false) := Lib.hid (HX.out hnm)
              clear hnm hfa hpg
              go_wp2
              go_roundw
              case rel => exact ⟨j + 1, by omega, by go_num, HY.out, HB.out⟩
              case measure => simp [intOf]; omega
            · have hn2 : (nm.toList == [101, 110, 99, 111, 100, 105, 110, 103]) = true := hnm
              have hann := hfa hnm
              cases hp : page vl
              · rw [hp] at hpg hann
                have HR : Hid (r = 0) := Lib.hid (by rw [HV.out, hann]; simp)
                have HG := Lib.hid hpg
                clear hnm hfa hpg hann hp
                go_wp2_with (first | (go_at_call 20; refine (HL.out _).mono ?_; rintro e w2 ⟨rfl, hb2⟩; have HB2 := Lib.hid (HB.out.trans (hb2.mono HB.out.size)); clear hb2) | (go_at_call 22; refine (HG.out _ _ rfl).mono ?_; rintro e w' ⟨rfl, rfl⟩))
                go_ret
                exact ⟨ret_int HR.out.symm, HB2.out.alloc HB2.out.size _⟩
              · rw [hp] at hpg hann
                have HR : Hid (r = 2) := Lib.hid (by rw [HV.out, hann]; simp)
                have HG := Lib.hid hpg
                clear hnm hfa hpg hann hp
                go_wp2_with (first | (go_at_call 20; refine (HL.out _).mono ?_; rintro e w2 ⟨rfl, hb2⟩; have HB2 := Lib.hid (HB.out.trans (hb2.mono HB.out.size)); clear hb2) | (go_at_call 22; refine (HG.out _ _ rfl).mono ?_; rintro e w' ⟨rfl, rfl⟩))
                go_ret
                exact ⟨ret_int HR.out.symm, HB2.out.alloc HB2.out.size _⟩
          · have hn : ann l = 0 := by unfold ann; rw [fidx_none l fun i hi => hno i (by have := HN.out; omega) hi]; rfl
            have HR : Hid (r = 0) := Lib.hid (by rw [HV.out, hn])
            have HB := Lib.hid hbl
            clear hn hno hbl
            go_wp2
            go_ret
            exact ⟨ret_int HR.out.symm, HB.out⟩
    · rw [hs] at hin
      have HV : Hid (r = 1) := Lib.hid (by rw [← hr]; simp [pt, hs])
      have HI := Lib.hid hin
      clear h hr hin hs
      go_enter Try.func10, Try.ntmps10
      go_wp2_with (go_at_call 22; refine (HI.out _ _ rfl).mono ?_; rintro e w' ⟨rfl, rfl⟩)
      go_ret
      exact ⟨ret_int HV.out.symm, (Below.refl _ _).alloc (Nat.le_refl _) _⟩
  have b1 : (space == 1) = false := beq_eq_false_iff_ne.2 e1
  have b2 : (space == 2) = false := beq_eq_false_iff_ne.2 e2
  have HV : Hid (r = 0) := Lib.hid (by rw [← hr]; simp [pt, e1, e2])
  clear h hr
  go_enter Try.func10, Try.ntmps10
  go_wp2
  go_ret
  exact ⟨ret_int HV.out.symm, by first | exact Below.refl _ _ | exact (Below.refl _ _).alloc (Nat.le_refl _) _⟩
end Go.Proofs.Ytopmahhlebkjiaa
