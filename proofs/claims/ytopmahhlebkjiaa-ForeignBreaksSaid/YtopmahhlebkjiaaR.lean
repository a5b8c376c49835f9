/- The document's answer for marks that end drawings and formulas. -/
import Derived.Test.YtopmahhlebkjiaaQ
import Derived.Test.YtopmahhlebkjiaaL
namespace Go.Proofs.Ytopmahhlebkjiaa
open Go.RowKit

theorem inl_cfs (s : ByteArray) : inl s [⟨#[99, 111, 108, 111, 114]⟩, ⟨#[102, 97, 99, 101]⟩, ⟨#[115, 105, 122, 101]⟩] = isCfs s := by
  simp only [inl, List.any_cons, List.any_nil, Bool.or_false, isCfs, Lib.toList_data, beq_flip s.data.toList]
theorem anyC_succ (l : List (ByteArray × ByteArray)) (j : Nat) (hj : j < l.length) : anyC (l.take (j + 1)) = (anyC (l.take j) || isCfs l[j].1) := by
  unfold anyC
  rw [List.take_succ_eq_append_getElem hj, List.any_append]
  simp

set_option maxHeartbeats 1000000 in
theorem refbreaks_any (kind : Int) (mn : ByteArray) (a : Option Addr) (n c : Nat) (sf : Bool) (tx : ByteArray) (l : List (ByteArray × ByteArray)) (w : World) (h : Attrs w a n l) :
    Calls Try.prog 14 #[.agg #[.int .i64 kind, .string mn, .slice a n c, .bool sf, .string tx]] w fun e w' => e = .returned (.bool (brk kind mn l)) ∧ Below w.heap.size w w' := by
  have h0 : HasM _ _ _ _ _ _ _ := HasM.new w kind mn (.slice a n c) sf tx
  have hb0 : Below w.heap.size w (w.alloc (.cells #[.int .i64 kind, .string mn, .slice a n c, .bool sf, .string tx] 24 (0, 0))) := (Below.refl _ _).alloc (Nat.le_refl _) _
  generalize hr : brk kind mn l = r
  have H0 := Lib.hid h0
  have B0 := Lib.hid hb0
  have HA := Lib.hid h
  have HN := Lib.hid h.len
  have hbig := h.big
  clear h h0 hb0
  by_cases k3 : kind = 3
  · subst k3
    have hin : ∀ (C : Array Value) (wx : World) (D : Nat), wx.heap.size = D → C = (List.map Value.string [⟨#[98, 114]⟩, ⟨#[112]⟩]).toArray → Calls Try.prog 22 #[.string mn, .slice (some ⟨D, 0, none⟩) 2 2] (wx.alloc (.cells C 9)) fun e w' => e = .returned (.bool r) ∧ wx.alloc (.cells C 9) = w' := fun C wx D hD hC => by
      subst hD
      rw [← hr, show brk 3 mn l = inl mn [⟨#[98, 114]⟩, ⟨#[112]⟩] by simp [brk]]; exact in_any mn _ 2 2 _ _ (words_new wx C _ hC _) rfl (by omega)
    have HI := Lib.hid hin
    clear hr hin
    go_enter Try.func14, Try.ntmps14
    go_wp2_with (go_at_call 22; refine (HI.out _ _ _ (by simp) rfl).mono ?_; rintro e w' ⟨rfl, rfl⟩)
    go_ret
    exact ⟨rfl, B0.out.alloc B0.out.size _⟩
  by_cases k2 : kind = 2
  · subst k2
    clear k3
    have hr2 : r = brs mn l := by rw [← hr]; simp [brk]
    have HV := Lib.hid hr2
    clear hr hr2
    go_enter Try.func14, Try.ntmps14
    go_wp2
    go_loopw [3, 4] (fun t i wr => ∃ j : Nat, j ≤ n ∧ i = .int .i64 j ∧ t = .bool (anyC (l.take j)) ∧ HasM wr w.heap.size 2 mn (.slice a n c) sf tx ∧ Below w.heap.size w wr) (fun _ i _ => n - (intOf i).toNat)
    case atStart => exact ⟨0, by omega, rfl, rfl, H0.out, B0.out⟩
    case round =>
      obtain ⟨j, hj, rfl, rfl, hm, hb⟩ := hrel
      obtain ⟨c0, c1, c2, c3, c4⟩ := hm.cells
      have HM := Lib.hid hm
      have HB := Lib.hid hb
      clear hm
      by_cases hlt : j < n
      · have hjl : j < l.length := by rw [HN.out]; exact hlt
        obtain ⟨b, o, haa, hbb, h1, h2⟩ := HA.out.at_ j hjl
        subst haa
        have d1 := (hb.cell (p := ⟨b, o + j * 2, none⟩) hbb).trans h1
        have hs := anyC_succ l j hjl
        clear h1 h2 hb
        generalize l[j].1 = nm at d1 hs
        generalize anyC (l.take j) = z at hs
        have HS := Lib.hid hs
        clear hs
        cases z
        · have hin : ∀ (C : Array Value) (wx : World), C = (List.map Value.string [⟨#[99, 111, 108, 111, 114]⟩, ⟨#[102, 97, 99, 101]⟩, ⟨#[115, 105, 122, 101]⟩]).toArray → Calls Try.prog 22 #[.string nm, .slice (some ⟨wx.heap.size, 0, none⟩) 3 3] (wx.alloc (.cells C 9)) fun e w' => e = .returned (.bool (isCfs nm)) ∧ wx.alloc (.cells C 9) = w' := fun C wx hC => by
            rw [← inl_cfs]; exact in_any nm _ 3 3 _ _ (words_new wx C _ hC _) rfl (by omega)
          have HI := Lib.hid hin
          clear hin
          go_wp2_with (go_at_call 22; refine (HI.out _ _ rfl).mono ?_; rintro e w' ⟨rfl, rfl⟩)
          go_roundw
          case rel => exact ⟨j + 1, by omega, by go_num, by rw [HS.out]; rfl, HM.out.below ((Below.refl _ _).alloc (Nat.le_refl _) _), HB.out.alloc HB.out.size _⟩
          case measure => simp [intOf]; omega
        · go_wp2
          go_roundw
          case rel => exact ⟨j + 1, by omega, by go_num, by rw [HS.out]; rfl, HM.out, HB.out⟩
          case measure => simp [intOf]; omega
      · have hjn : l.take j = l := List.take_of_length_le (by have := HN.out; omega)
        rw [hjn]
        clear hjn hb
        have hv := HV.out
        unfold brs isFont at hv
        have hin : ∀ (C : Array Value) (wx : World), C = (List.map Value.string many).toArray → Calls Try.prog 22 #[.string mn, .slice (some ⟨wx.heap.size, 0, none⟩) 44 44] (wx.alloc (.cells C 9)) fun e w' => e = .returned (.bool (isMany mn)) ∧ wx.alloc (.cells C 9) = w' := fun C wx hC => in_any mn _ 44 44 _ _ (words_new wx C _ hC _) rfl (by omega)
        generalize isMany mn = m0 at hin hv
        generalize anyC l = z at hv
        have HI := Lib.hid hin
        have hlt0 : w.heap.size < wr.heap.size := (Array.getElem?_eq_some_iff.1 HM.out.blk).1
        clear hin HV HA
        have HC0 : Hid (∀ o, (wr.alloc o).cell? ⟨w.heap.size, 1, none⟩ = some (.string mn)) := Lib.hid fun o => (HM.out.below ((Below.refl _ _).alloc (Nat.le_refl _) o)).cells.2.1
        cases m0
        · cases hf : (mn.toList == [102, 111, 110, 116])
          · rw [hf] at hv
            have HR := Lib.hid hv
            clear hv
            go_wp2_with (go_at_call 22; refine (HI.out _ _ rfl).mono ?_; rintro e w' ⟨rfl, rfl⟩)
            go_ret
            exact ⟨ret_bool (by rw [HR.out]; rfl), HB.out.alloc HB.out.size _⟩
          · rw [hf] at hv
            have HR := Lib.hid hv
            clear hv
            go_wp2_with (go_at_call 22; refine (HI.out _ _ rfl).mono ?_; rintro e w' ⟨rfl, rfl⟩)
            go_ret
            exact ⟨ret_bool (by rw [HR.out]; simp), HB.out.alloc HB.out.size _⟩
        · have HR := Lib.hid hv
          clear hv
          go_wp2_with (go_at_call 22; refine (HI.out _ _ rfl).mono ?_; rintro e w' ⟨rfl, rfl⟩)
          go_ret
          exact ⟨ret_bool (by rw [HR.out]; rfl), HB.out.alloc HB.out.size _⟩
  have b2 : (kind == 2) = false := beq_eq_false_iff_ne.2 k2
  have b3 : (kind == 3) = false := beq_eq_false_iff_ne.2 k3
  have d2 : (kind != 2) = true := by simp [bne, b2]
  have HV : Hid (r = false) := Lib.hid (by rw [← hr]; simp [brk, k2, k3])
  obtain ⟨c0, c1, c2, c3, c4⟩ := H0.out.cells
  clear hr
  go_enter Try.func14, Try.ntmps14
  go_wp2
  go_ret
  exact ⟨ret_bool HV.out.symm, B0.out⟩
end Go.Proofs.Ytopmahhlebkjiaa
