/- FramingOthers. -/
import Derived.Test.YtkadingpmebjbaaDoorQJ
import Derived.Test.YtkadingpmebjbaaDoorQI
set_option linter.unusedVariables false
namespace Go.Proofs.YtkadingpmebjbaaDoor
open Go.RowKit

def cl1 : ByteArray := ⟨#[67, 111, 110, 116, 101, 110, 116, 45, 76, 101, 110, 103, 116, 104]⟩
def te1 : ByteArray := ⟨#[84, 114, 97, 110, 115, 102, 101, 114, 45, 69, 110, 99, 111, 100, 105, 110, 103]⟩
def cl2 : ByteArray := ⟨#[99, 79, 78, 84, 69, 78, 84, 45, 108, 69, 78, 71, 84, 72]⟩
def te2 : ByteArray := ⟨#[84, 82, 65, 78, 83, 70, 69, 82, 45, 101, 110, 99, 111, 100, 105, 110, 103]⟩
theorem cl1_low : cl1.data.toList.map lwr = kCL.data.toList.map lwr := by kernel_rfl
theorem te1_low : te1.data.toList.map lwr = kTE.data.toList.map lwr := by kernel_rfl
theorem same_cl1 (n : ByteArray) : sameB n cl1 = sameB n kCL := by unfold sameB; rw [cl1_low]
theorem same_te1 (n : ByteArray) : sameB n te1 = sameB n kTE := by unfold sameB; rw [te1_low]
theorem c_c : sameB cl2 kCL = true := by kernel_rfl
theorem c_t : sameB cl2 kTE = false := by kernel_rfl
theorem t_c : sameB te2 kCL = false := by kernel_rfl
theorem t_t : sameB te2 kTE = true := by kernel_rfl
def oth1 (p : ByteArray × ByteArray) : AL := (if sameB p.1 cl1 = true then [(cl2, p.2)] else []) ++ (if sameB p.1 te1 = true then [(te2, p.2)] else [])
def oth (l : AL) : AL := l.flatMap oth1
theorem oth_take (l : AL) (k : Nat) (hk : k < l.length) : oth (l.take (k + 1)) = oth (l.take k) ++ oth1 l[k] := by
  unfold oth
  rw [List.take_succ_eq_append_getElem hk, List.flatMap_append]; simp
theorem allF_app (a b : AL) (X : ByteArray) : allF (a ++ b) X = allF a X ++ allF b X := by unfold allF; simp
theorem allF_one (p : ByteArray × ByteArray) (X : ByteArray) : allF [p] X = if sameB p.1 X = true then [p.2] else [] := by
  unfold allF
  cases h : sameB p.1 X <;> simp [h]
theorem oth_cl (l : AL) : allF (oth l) kCL = allF l kCL := by
  induction l with
  | nil => rfl
  | cons p r ih =>
    have e : oth (p :: r) = oth1 p ++ oth r := by simp [oth]
    rw [e, allF_app, ih, show p :: r = [p] ++ r from rfl, allF_app]
    congr 1
    unfold oth1
    rw [allF_app, allF_one p, same_cl1]
    have e2 : allF (if sameB p.1 te1 = true then [(te2, p.2)] else []) kCL = [] := by
      split
      · rw [allF_one]; simp only [t_c]; simp
      · rfl
    rw [e2, List.append_nil]
    split
    · rw [allF_one]; simp only [c_c]; simp
    · rfl
theorem oth_te (l : AL) : allF (oth l) kTE = allF l kTE := by
  induction l with
  | nil => rfl
  | cons p r ih =>
    have e : oth (p :: r) = oth1 p ++ oth r := by simp [oth]
    rw [e, allF_app, ih, show p :: r = [p] ++ r from rfl, allF_app]
    congr 1
    unfold oth1
    rw [allF_app, allF_one p, same_te1]
    have e2 : allF (if sameB p.1 cl1 = true then [(cl2, p.2)] else []) kTE = [] := by
      split
      · rw [allF_one]; simp only [c_t]; simp
      · rfl
    rw [e2, List.nil_append]
    split
    · rw [allF_one]; simp only [t_t]; simp
    · rfl
theorem oth_body (l : AL) (nb : Bool) (opn : Int) : fbody (oth l) nb opn = fbody l nb opn := by
  have e : fread (oth l) = fread l := by unfold fread fchk flen; rw [oth_cl, oth_te]
  unfold fbody; rw [e]
theorem oth_asz (l : AL) : asz (oth l) ≤ 10 * asz l := by
  induction l with
  | nil => simp [oth, asz]
  | cons p r ih =>
    have e : oth (p :: r) = oth1 p ++ oth r := by simp [oth]
    have e1 : cl2.size = 14 := rfl
    have e2 : te2.size = 17 := rfl
    rw [e, asz_app]
    unfold oth1
    rw [asz_app]
    have h1 : asz (if sameB p.1 cl1 = true then [(cl2, p.2)] else []) ≤ p.2.size + 18 := by split <;> simp [asz, e1]; omega
    have h2 : asz (if sameB p.1 te1 = true then [(te2, p.2)] else []) ≤ p.2.size + 21 := by split <;> simp [asz, e2]; omega
    simp only [asz]; omega
theorem cnt_one (p : ByteArray × ByteArray) (X : ByteArray) : (allF [p] X).length = if sameB p.1 X = true then 1 else 0 := by
  rw [allF_one]; split <;> rfl
theorem oth_len (l : AL) : (oth l).length ≤ 10 * asz l := by have := oth_asz l; have := asz_len (oth l); omega
theorem ownF_far {w : World} {base : Nat} {v : Value} {l : AL} (h : OwnF w base v l) (b : Nat) (hb : b < base) : v.ownBlock ≠ some b := fun e => by
  have := (World.ownsRow.lt h b e).1; omega
theorem srcA_grown {w w' : World} {a : Option Addr} {c : Nat} {l : AL} {row : Option Nat} (h : SrcA w a c l) (hg : w.grownBy w' row) (hne : ∀ b o, a = some ⟨b, o, none⟩ → row ≠ some b) : SrcA w' a c l :=
  ⟨fun j hj => by
    obtain ⟨b, o, h1, h2, h3, h4⟩ := h.at_ j hj
    exact ⟨b, o, h1, Nat.lt_of_lt_of_le h2 hg.size, (grown_far hg b _ h2 (hne b o h1)).trans h3, (grown_far hg b _ h2 (hne b o h1)).trans h4⟩, h.cap, h.nil⟩

set_option maxHeartbeats 64000000 in
set_option maxRecDepth 100000 in
theorem framingOthers_any (l : AL) (M : ByteArray) (st : Int) (av : Option Addr) (n c : Nat) (w : World) (hn : l.length = n) (hs : SrcA w av c l) (hz : asz l ≤ 67108864) :
    Calls Tryd.prog 11 #[.slice av n c, .string M, .int .i64 st] w fun e w' => e = .returned (.bool true) ∧ Below w.heap.size w w' := by
  have hnl := asz_len l
  have hnb : n ≤ 67108864 := by omega
  have hoz := oth_asz l
  obtain ⟨om, hom⟩ : ∃ om, (oth l).length = om := ⟨_, rfl⟩
  have h1 := fun (a : Option Addr) c wx (hs : SrcA wx a c l) => greq_any l ⟨#[]⟩ ⟨#[]⟩ a n c wx hn hs (by omega)
  have h2 := fun (a : Option Addr) c wx (hs : SrcA wx a c l) => gresp_any l M ⟨#[]⟩ st a n c wx hn hs (by omega)
  have h3 := fun (a : Option Addr) c wx (hs : SrcA wx a c (oth l)) => greq_any (oth l) M ⟨#[63]⟩ a om c wx hom hs (by omega)
  have h4 := fun (a : Option Addr) c wx (hs : SrcA wx a c (oth l)) => gresp_any (oth l) M ⟨#[63]⟩ st a om c wx hom hs (by omega)
  simp only [oth_body] at h3 h4
  generalize fbody l false 0 = R1 at h1 h3
  generalize fbody l (nob M st) 3 = R2 at h2 h4
  obtain ⟨ka, kb, kc⟩ := R1
  obtain ⟨ja, jb, jc⟩ := R2
  have H1 : Hid (∀ (a : Option Addr) c wx, SrcA wx a c l → Calls Tryd.prog 37 #[.agg #[.string ⟨#[]⟩, .string ⟨#[]⟩, .slice a n c]] wx fun e w' => e = .returned (.tuple #[.agg #[.int .i64 ka, .int .i64 kb], .int .i64 kc]) ∧ Below wx.heap.size wx w') := Lib.hid h1
  have H2 : Hid (∀ (a : Option Addr) c wx, SrcA wx a c l → Calls Tryd.prog 38 #[.string M, .agg #[.int .i64 st, .string ⟨#[]⟩, .slice a n c]] wx fun e w' => e = .returned (.tuple #[.agg #[.int .i64 ja, .int .i64 jb], .int .i64 jc]) ∧ Below wx.heap.size wx w') := Lib.hid h2
  have H3 : Hid (∀ (a : Option Addr) c wx, SrcA wx a c (oth l) → Calls Tryd.prog 37 #[.agg #[.string M, .string ⟨#[63]⟩, .slice a om c]] wx fun e w' => e = .returned (.tuple #[.agg #[.int .i64 ka, .int .i64 kb], .int .i64 kc]) ∧ Below wx.heap.size wx w') := Lib.hid h3
  have H4 : Hid (∀ (a : Option Addr) c wx, SrcA wx a c (oth l) → Calls Tryd.prog 38 #[.string M, .agg #[.int .i64 st, .string ⟨#[63]⟩, .slice a om c]] wx fun e w' => e = .returned (.tuple #[.agg #[.int .i64 ja, .int .i64 jb], .int .i64 jc]) ∧ Below wx.heap.size wx w') := Lib.hid h4
  have H0 := Lib.hid fun wx => shown6_any wx
  have HS := Lib.hid hs
  have HN := Lib.hid hn
  have HZ := Lib.hid hz
  have HOM := Lib.hid hom
  clear h1 h2 h3 h4 hs hn hz hom hnl hoz
  go_enter Tryd.func11, Tryd.ntmps11
  go_wp2_with fail
  refine (H0.out _).mono ?_; rintro e w1 ⟨rfl, hb⟩
  have HB1 := Lib.hid hb
  clear hb
  go_wp2_with fail
  go_loopw [8, 9] (fun v i wr => ∃ k : Nat, k ≤ n ∧ i = .int .i64 k ∧ OwnF wr w1.heap.size v (oth (l.take k)) ∧ Below w1.heap.size w1 wr) (fun _ i _ => n - (intOf i).toNat)
  case atStart => exact ⟨0, by omega, rfl, World.ownsRow_nil _ _ _ _, Below.refl _ _⟩
  case round =>
    obtain ⟨k, hk, rfl, hown, hb⟩ := hrel
    have HB := Lib.hid hb
    by_cases hlt : k < n
    case neg =>
      have hkn : k = l.length := by rw [HN.out]; omega
      rw [hkn, List.take_length] at hown
      obtain ⟨a3, c3, rfl, hs3⟩ := flds_one _ _ _ _ hown
      rw [HOM.out]
      have HS3 := Lib.hid hs3
      have HBw := Lib.hid (app_below HB1.out hb)
      have HA3 := Lib.hid (HS.out.below (Nat.le_refl _) HBw.out)
      clear hb hown hs3 hkn
      go_wp2_with fail
      refine (H1.out _ _ _ HA3.out).mono ?_; rintro e w4 ⟨rfl, hb⟩
      have HB4 := Lib.hid hb
      clear hb
      have HS4 := Lib.hid ((HS3.out.below (Nat.le_refl _) HB4.out).below (Nat.le_refl _) (one_grow w4 (.cells #[.int .i64 ka, .int .i64 kb] 55)))
      go_wp2_with fail
      refine (H3.out _ _ _ HS4.out).mono ?_; rintro e w5 ⟨rfl, hb⟩
      have HE5 := Lib.hid hb
      have HB5 := Lib.hid (box_next HB4.out hb)
      clear hb
      have HA5 := Lib.hid ((HA3.out.below (Nat.le_refl _) HB5.out).below (Nat.le_refl _) (one_grow w5 (.cells #[.int .i64 ka, .int .i64 kb] 55)))
      go_wp2_with fail
      refine (H2.out _ _ _ HA5.out).mono ?_; rintro e w6 ⟨rfl, hb⟩
      have HF6 := Lib.hid hb
      have HE6 := Lib.hid (box_next HE5.out hb)
      have HB6 := Lib.hid (box_next HB5.out hb)
      clear hb
      have HS6 := Lib.hid ((HS3.out.below (Nat.le_refl _) HB6.out).below (Nat.le_refl _) (one_grow w6 (.cells #[.int .i64 ja, .int .i64 jb] 55)))
      go_wp2_with fail
      refine (H4.out _ _ _ HS6.out).mono ?_; rintro e w7 ⟨rfl, hb⟩
      have HG7 := Lib.hid hb
      have HF7 := Lib.hid (box_next HF6.out hb)
      have HE7 := Lib.hid (box_next HE6.out hb)
      have HB7 := Lib.hid (box_next HB6.out hb)
      clear hb
      have p0 := ((res_cells _ _ _ _ HE7.out 0).2 (.cells #[.int .i64 ja, .int .i64 jb] 55)).1
      have p1 := ((res_cells _ _ _ _ HE7.out 1).2 (.cells #[.int .i64 ja, .int .i64 jb] 55)).1
      have q0 := ((res_cells _ _ _ _ HF7.out 0).2 (.cells #[.int .i64 ja, .int .i64 jb] 55)).1
      have q1 := ((res_cells _ _ _ _ HF7.out 1).2 (.cells #[.int .i64 ja, .int .i64 jb] 55)).1
      have r0 := ((res_cells _ _ _ _ HG7.out 0).2 (.cells #[.int .i64 ja, .int .i64 jb] 55)).1
      have r1 := ((res_cells _ _ _ _ HG7.out 1).2 (.cells #[.int .i64 ja, .int .i64 jb] 55)).1
      have HE := Lib.hid (app_below HBw.out HB7.out)
      go_wp2
      go_ret
      exact ⟨rfl, HE.out.alloc HE.out.size _⟩
    case pos =>
      have hkl : k < l.length := by rw [HN.out]; exact hlt
      have HBw := Lib.hid (app_below HB1.out hb)
      obtain ⟨b0, o0, rfl, hb0w, y1, y2⟩ := HS.out.at_ k hkl
      have d1 := (HBw.out.cell (p := ⟨b0, o0 + k * 2, none⟩) hb0w).trans y1
      have d2 := (HBw.out.cell (p := ⟨b0, o0 + k * 2 + 1, none⟩) hb0w).trans y2
      clear y1 y2
      have hb0 : b0 < wr.heap.size := Nat.lt_of_lt_of_le hb0w HBw.out.size
      have HNB := Lib.hid (ownF_far hown b0 (Nat.lt_of_lt_of_le hb0w HB1.out.size))
      have hz := HZ.out
      have hat := asz_at l k hkl
      have hstep := oth_take l k hkl
      have hcl := oth_len (l.take k)
      have htk := asz_take_le l k
      obtain ⟨p, hp⟩ : ∃ p, p = l[k] := ⟨_, rfl⟩
      rw [← hp] at d1 d2 hat hstep
      obtain ⟨Nm, Vl⟩ := p
      simp only at d1 d2 hat
      obtain ⟨cur, hcur⟩ : ∃ cur, oth (l.take k) = cur := ⟨_, rfl⟩
      rw [hcur] at hstep hcl hown
      have hcn : cur.length ≤ 671088640 := by omega
      have hc1 := fun (a : Option Addr) c wx (hs : SrcA wx a c [(Nm, Vl)]) => count_any [(Nm, Vl)] cl1 a 1 c wx rfl hs (by simp only [asz]; omega) (by decide)
      have hc2 := fun (a : Option Addr) c wx (hs : SrcA wx a c [(Nm, Vl)]) => count_any [(Nm, Vl)] te1 a 1 c wx rfl hs (by simp only [asz]; omega) (by decide)
      rw [cnt_one] at hc1 hc2
      unfold oth1 at hstep
      simp only at hc1 hc2 hstep
      have hO : OwnF (wr.alloc (.cells #[.string Nm, .string Vl] 47)) w1.heap.size _ cur := ownF_alloc hown _
      have hS := lit_fld Nm Vl wr
      have hne := ownF_ne hown wr.heap.size (Nat.le_refl _)
      have HO := Lib.hid hO
      have HSo := Lib.hid hS
      have HNE := Lib.hid hne
      have HBo : Hid (Below w1.heap.size w1 (wr.alloc (.cells #[.string Nm, .string Vl] 47))) := Lib.hid (hb.alloc hb.size _)
      have hD2 := d2
      have HD2 := Lib.hid hD2
      generalize sameB Nm cl1 = q1 at hc1 hstep
      generalize sameB Nm te1 = q2 at hc2 hstep
      clear hb hown hkl hat hz hcl htk hp hcur hO hS hne hD2
      cases q1
      case false =>
        cases q2
        case false =>
          have HC1 : Hid (∀ (a : Option Addr) c wx, SrcA wx a c [(Nm, Vl)] → Calls Tryd.prog 28 #[.slice a 1 c, .string ⟨#[67, 111, 110, 116, 101, 110, 116, 45, 76, 101, 110, 103, 116, 104]⟩] wx fun e w' => e = .returned (.int .i64 0) ∧ Below wx.heap.size wx w') := Lib.hid hc1
          have HC2 : Hid (∀ (a : Option Addr) c wx, SrcA wx a c [(Nm, Vl)] → Calls Tryd.prog 28 #[.slice a 1 c, .string ⟨#[84, 114, 97, 110, 115, 102, 101, 114, 45, 69, 110, 99, 111, 100, 105, 110, 103]⟩] wx fun e w' => e = .returned (.int .i64 0) ∧ Below wx.heap.size wx w') := Lib.hid hc2
          have HST := Lib.hid hstep
          clear hc1 hc2 hstep
          go_wp2_with fail
          refine (HC1.out _ _ _ HSo.out).mono ?_; rintro e w2 ⟨rfl, hb⟩
          have hb2 := (Below.refl wr.heap.size wr).alloc (Nat.le_refl _) (.cells #[.string Nm, .string Vl] 47) |>.trans (hb.mono (by simp))
          have m2 := (hb2.cell (p := ⟨b0, o0 + k * 2 + 1, none⟩) hb0).trans HD2.out
          have HB2 := Lib.hid (HBo.out.trans (hb.mono HBo.out.size))
          have HO2 := Lib.hid (ownF_below HO.out (Nat.le_refl _) hb)
          have HS2 := Lib.hid (HSo.out.below (Nat.le_refl _) hb)
          have hb0b : b0 < w2.heap.size := Nat.lt_of_lt_of_le hb0 hb2.size
          have hlt2 : wr.heap.size < w2.heap.size := by have := hb.size; simp at this; omega
          have HR2 := Lib.hid hb2
          clear hb hb2
          go_wp2_with fail
          refine (HC2.out _ _ _ HS2.out).mono ?_; rintro e w4 ⟨rfl, hb⟩
          have m4 := (hb.cell (p := ⟨b0, o0 + k * 2 + 1, none⟩) (by first | exact hb0b | exact hb0c)).trans m2
          have HB4 := Lib.hid (HB2.out.trans (hb.mono HB2.out.size))
          have HO4 := Lib.hid (ownF_below HO2.out (Nat.le_refl _) hb)
          clear hb m2
          have HO5 : Hid (OwnF w4 w1.heap.size _ (oth (l.take (k + 1)))) := Lib.hid (by rw [HST.out]; simpa using HO4.out)
          clear m4
          go_wp2
          go_roundw
          case rel => exact ⟨k + 1, by omega, by go_num, HO5.out, HB4.out⟩
          case measure => simp [intOf]; omega
        case true =>
          have HC1 : Hid (∀ (a : Option Addr) c wx, SrcA wx a c [(Nm, Vl)] → Calls Tryd.prog 28 #[.slice a 1 c, .string ⟨#[67, 111, 110, 116, 101, 110, 116, 45, 76, 101, 110, 103, 116, 104]⟩] wx fun e w' => e = .returned (.int .i64 0) ∧ Below wx.heap.size wx w') := Lib.hid hc1
          have HC2 : Hid (∀ (a : Option Addr) c wx, SrcA wx a c [(Nm, Vl)] → Calls Tryd.prog 28 #[.slice a 1 c, .string ⟨#[84, 114, 97, 110, 115, 102, 101, 114, 45, 69, 110, 99, 111, 100, 105, 110, 103]⟩] wx fun e w' => e = .returned (.int .i64 1) ∧ Below wx.heap.size wx w') := Lib.hid hc2
          have HST := Lib.hid hstep
          clear hc1 hc2 hstep
          go_wp2_with fail
          refine (HC1.out _ _ _ HSo.out).mono ?_; rintro e w2 ⟨rfl, hb⟩
          have hb2 := (Below.refl wr.heap.size wr).alloc (Nat.le_refl _) (.cells #[.string Nm, .string Vl] 47) |>.trans (hb.mono (by simp))
          have m2 := (hb2.cell (p := ⟨b0, o0 + k * 2 + 1, none⟩) hb0).trans HD2.out
          have HB2 := Lib.hid (HBo.out.trans (hb.mono HBo.out.size))
          have HO2 := Lib.hid (ownF_below HO.out (Nat.le_refl _) hb)
          have HS2 := Lib.hid (HSo.out.below (Nat.le_refl _) hb)
          have hb0b : b0 < w2.heap.size := Nat.lt_of_lt_of_le hb0 hb2.size
          have hlt2 : wr.heap.size < w2.heap.size := by have := hb.size; simp at this; omega
          have HR2 := Lib.hid hb2
          clear hb hb2
          go_wp2_with fail
          refine (HC2.out _ _ _ HS2.out).mono ?_; rintro e w4 ⟨rfl, hb⟩
          have m4 := (hb.cell (p := ⟨b0, o0 + k * 2 + 1, none⟩) (by first | exact hb0b | exact hb0c)).trans m2
          have HB4 := Lib.hid (HB2.out.trans (hb.mono HB2.out.size))
          have HO4 := Lib.hid (ownF_below HO2.out (Nat.le_refl _) hb)
          clear hb m2
          have HO4a : Hid (OwnF (w4.alloc (.cells #[.string ⟨#[84, 82, 65, 78, 83, 70, 69, 82, 45, 101, 110, 99, 111, 100, 105, 110, 103]⟩, .string Vl] 47)) w1.heap.size _ cur) := Lib.hid (ownF_alloc HO4.out _)
          have HL4 := Lib.hid (lit_fld ⟨#[84, 82, 65, 78, 83, 70, 69, 82, 45, 101, 110, 99, 111, 100, 105, 110, 103]⟩ Vl w4)
          have HB4a : Hid (Below w1.heap.size w1 (w4.alloc (.cells #[.string ⟨#[84, 82, 65, 78, 83, 70, 69, 82, 45, 101, 110, 99, 111, 100, 105, 110, 103]⟩, .string Vl] 47))) := Lib.hid (HB4.out.alloc HB4.out.size _)
          go_wp2_with (at_builtin; refine app_flds rfl _ _ rfl w1.heap.size _ cur rfl HO4a.out _ 1 1 [(te2, Vl)] rfl rfl HL4.out ?n4 HB4a.out.size ?_)
          case n4 => first | (show (_ + 1) * 32 ≤ _; omega) | (rw [List.length_append]; show (_ + 1 + 1) * 32 ≤ _; omega)
          intro v5 w5 hown5 hb5 _
          have HO5 : Hid (OwnF w5 w1.heap.size v5 (oth (l.take (k + 1)))) := Lib.hid (by rw [HST.out]; simpa using hown5)
          have HB5 := Lib.hid (HB4a.out.trans hb5.out)
          clear hown5 hb5 m4
          go_wp2
          go_roundw
          case rel => exact ⟨k + 1, by omega, by go_num, HO5.out, HB5.out⟩
          case measure => simp [intOf]; omega
      case true =>
        cases q2
        case false =>
          have HC1 : Hid (∀ (a : Option Addr) c wx, SrcA wx a c [(Nm, Vl)] → Calls Tryd.prog 28 #[.slice a 1 c, .string ⟨#[67, 111, 110, 116, 101, 110, 116, 45, 76, 101, 110, 103, 116, 104]⟩] wx fun e w' => e = .returned (.int .i64 1) ∧ Below wx.heap.size wx w') := Lib.hid hc1
          have HC2 : Hid (∀ (a : Option Addr) c wx, SrcA wx a c [(Nm, Vl)] → Calls Tryd.prog 28 #[.slice a 1 c, .string ⟨#[84, 114, 97, 110, 115, 102, 101, 114, 45, 69, 110, 99, 111, 100, 105, 110, 103]⟩] wx fun e w' => e = .returned (.int .i64 0) ∧ Below wx.heap.size wx w') := Lib.hid hc2
          have HST := Lib.hid hstep
          clear hc1 hc2 hstep
          go_wp2_with fail
          refine (HC1.out _ _ _ HSo.out).mono ?_; rintro e w2 ⟨rfl, hb⟩
          have hb2 := (Below.refl wr.heap.size wr).alloc (Nat.le_refl _) (.cells #[.string Nm, .string Vl] 47) |>.trans (hb.mono (by simp))
          have m2 := (hb2.cell (p := ⟨b0, o0 + k * 2 + 1, none⟩) hb0).trans HD2.out
          have HB2 := Lib.hid (HBo.out.trans (hb.mono HBo.out.size))
          have HO2 := Lib.hid (ownF_below HO.out (Nat.le_refl _) hb)
          have HS2 := Lib.hid (HSo.out.below (Nat.le_refl _) hb)
          have hb0b : b0 < w2.heap.size := Nat.lt_of_lt_of_le hb0 hb2.size
          have hlt2 : wr.heap.size < w2.heap.size := by have := hb.size; simp at this; omega
          have HR2 := Lib.hid hb2
          clear hb hb2
          have HO2a : Hid (OwnF (w2.alloc (.cells #[.string ⟨#[99, 79, 78, 84, 69, 78, 84, 45, 108, 69, 78, 71, 84, 72]⟩, .string Vl] 47)) w1.heap.size _ cur) := Lib.hid (ownF_alloc HO2.out _)
          have HL2 := Lib.hid (lit_fld ⟨#[99, 79, 78, 84, 69, 78, 84, 45, 108, 69, 78, 71, 84, 72]⟩ Vl w2)
          have HB2a : Hid (Below w1.heap.size w1 (w2.alloc (.cells #[.string ⟨#[99, 79, 78, 84, 69, 78, 84, 45, 108, 69, 78, 71, 84, 72]⟩, .string Vl] 47))) := Lib.hid (HB2.out.alloc HB2.out.size _)
          have HS2a := Lib.hid (HS2.out.below (Nat.le_refl _) (one_grow w2 (.cells #[.string ⟨#[99, 79, 78, 84, 69, 78, 84, 45, 108, 69, 78, 71, 84, 72]⟩, .string Vl] 47)))
          go_wp2_with (at_builtin; refine app_flds rfl _ _ rfl w1.heap.size _ cur rfl HO2a.out _ 1 1 [(cl2, Vl)] rfl rfl HL2.out ?n2 HB2a.out.size ?_)
          case n2 => show (_ + 1) * 32 ≤ _; omega
          intro v3 w3 hown3 hb3 hg3
          have HS3 := Lib.hid (srcA_grown HS2a.out hg3.out (fun b o e => by cases e; exact HNE.out))
          have hb0c : b0 < w3.heap.size := by have := hg3.out.size; simp at this; omega
          have HO3 := Lib.hid hown3
          have HB3 := Lib.hid (HB2a.out.trans hb3.out)
          have m3 := (grown_far hg3.out b0 (o0 + k * 2 + 1) (by simp; omega) HNB.out).trans (((Below.refl w2.heap.size w2).alloc (Nat.le_refl _) (.cells #[.string ⟨#[99, 79, 78, 84, 69, 78, 84, 45, 108, 69, 78, 71, 84, 72]⟩, .string Vl] 47)).cell (p := ⟨b0, o0 + k * 2 + 1, none⟩) hb0b |>.trans m2)
          clear hown3 hb3 hg3 m2
          go_wp2_with fail
          refine (HC2.out _ _ _ HS3.out).mono ?_; rintro e w4 ⟨rfl, hb⟩
          have m4 := (hb.cell (p := ⟨b0, o0 + k * 2 + 1, none⟩) (by first | exact hb0b | exact hb0c)).trans m3
          have HB4 := Lib.hid (HB3.out.trans (hb.mono HB3.out.size))
          have HO4 := Lib.hid (ownF_below HO3.out (Nat.le_refl _) hb)
          clear hb m3
          have HO5 : Hid (OwnF w4 w1.heap.size _ (oth (l.take (k + 1)))) := Lib.hid (by rw [HST.out]; simpa using HO4.out)
          clear m4
          go_wp2
          go_roundw
          case rel => exact ⟨k + 1, by omega, by go_num, HO5.out, HB4.out⟩
          case measure => simp [intOf]; omega
        case true =>
          have HC1 : Hid (∀ (a : Option Addr) c wx, SrcA wx a c [(Nm, Vl)] → Calls Tryd.prog 28 #[.slice a 1 c, .string ⟨#[67, 111, 110, 116, 101, 110, 116, 45, 76, 101, 110, 103, 116, 104]⟩] wx fun e w' => e = .returned (.int .i64 1) ∧ Below wx.heap.size wx w') := Lib.hid hc1
          have HC2 : Hid (∀ (a : Option Addr) c wx, SrcA wx a c [(Nm, Vl)] → Calls Tryd.prog 28 #[.slice a 1 c, .string ⟨#[84, 114, 97, 110, 115, 102, 101, 114, 45, 69, 110, 99, 111, 100, 105, 110, 103]⟩] wx fun e w' => e = .returned (.int .i64 1) ∧ Below wx.heap.size wx w') := Lib.hid hc2
          have HST := Lib.hid hstep
          clear hc1 hc2 hstep
          go_wp2_with fail
          refine (HC1.out _ _ _ HSo.out).mono ?_; rintro e w2 ⟨rfl, hb⟩
          have hb2 := (Below.refl wr.heap.size wr).alloc (Nat.le_refl _) (.cells #[.string Nm, .string Vl] 47) |>.trans (hb.mono (by simp))
          have m2 := (hb2.cell (p := ⟨b0, o0 + k * 2 + 1, none⟩) hb0).trans HD2.out
          have HB2 := Lib.hid (HBo.out.trans (hb.mono HBo.out.size))
          have HO2 := Lib.hid (ownF_below HO.out (Nat.le_refl _) hb)
          have HS2 := Lib.hid (HSo.out.below (Nat.le_refl _) hb)
          have hb0b : b0 < w2.heap.size := Nat.lt_of_lt_of_le hb0 hb2.size
          have hlt2 : wr.heap.size < w2.heap.size := by have := hb.size; simp at this; omega
          have HR2 := Lib.hid hb2
          clear hb hb2
          have HO2a : Hid (OwnF (w2.alloc (.cells #[.string ⟨#[99, 79, 78, 84, 69, 78, 84, 45, 108, 69, 78, 71, 84, 72]⟩, .string Vl] 47)) w1.heap.size _ cur) := Lib.hid (ownF_alloc HO2.out _)
          have HL2 := Lib.hid (lit_fld ⟨#[99, 79, 78, 84, 69, 78, 84, 45, 108, 69, 78, 71, 84, 72]⟩ Vl w2)
          have HB2a : Hid (Below w1.heap.size w1 (w2.alloc (.cells #[.string ⟨#[99, 79, 78, 84, 69, 78, 84, 45, 108, 69, 78, 71, 84, 72]⟩, .string Vl] 47))) := Lib.hid (HB2.out.alloc HB2.out.size _)
          have HS2a := Lib.hid (HS2.out.below (Nat.le_refl _) (one_grow w2 (.cells #[.string ⟨#[99, 79, 78, 84, 69, 78, 84, 45, 108, 69, 78, 71, 84, 72]⟩, .string Vl] 47)))
          go_wp2_with (at_builtin; refine app_flds rfl _ _ rfl w1.heap.size _ cur rfl HO2a.out _ 1 1 [(cl2, Vl)] rfl rfl HL2.out ?n2 HB2a.out.size ?_)
          case n2 => show (_ + 1) * 32 ≤ _; omega
          intro v3 w3 hown3 hb3 hg3
          have HS3 := Lib.hid (srcA_grown HS2a.out hg3.out (fun b o e => by cases e; exact HNE.out))
          have hb0c : b0 < w3.heap.size := by have := hg3.out.size; simp at this; omega
          have HO3 := Lib.hid hown3
          have HB3 := Lib.hid (HB2a.out.trans hb3.out)
          have m3 := (grown_far hg3.out b0 (o0 + k * 2 + 1) (by simp; omega) HNB.out).trans (((Below.refl w2.heap.size w2).alloc (Nat.le_refl _) (.cells #[.string ⟨#[99, 79, 78, 84, 69, 78, 84, 45, 108, 69, 78, 71, 84, 72]⟩, .string Vl] 47)).cell (p := ⟨b0, o0 + k * 2 + 1, none⟩) hb0b |>.trans m2)
          clear hown3 hb3 hg3 m2
          go_wp2_with fail
          refine (HC2.out _ _ _ HS3.out).mono ?_; rintro e w4 ⟨rfl, hb⟩
          have m4 := (hb.cell (p := ⟨b0, o0 + k * 2 + 1, none⟩) (by first | exact hb0b | exact hb0c)).trans m3
          have HB4 := Lib.hid (HB3.out.trans (hb.mono HB3.out.size))
          have HO4 := Lib.hid (ownF_below HO3.out (Nat.le_refl _) hb)
          clear hb m3
          have HO4a : Hid (OwnF (w4.alloc (.cells #[.string ⟨#[84, 82, 65, 78, 83, 70, 69, 82, 45, 101, 110, 99, 111, 100, 105, 110, 103]⟩, .string Vl] 47)) w1.heap.size _ (cur ++ [(cl2, Vl)])) := Lib.hid (ownF_alloc HO4.out _)
          have HL4 := Lib.hid (lit_fld ⟨#[84, 82, 65, 78, 83, 70, 69, 82, 45, 101, 110, 99, 111, 100, 105, 110, 103]⟩ Vl w4)
          have HB4a : Hid (Below w1.heap.size w1 (w4.alloc (.cells #[.string ⟨#[84, 82, 65, 78, 83, 70, 69, 82, 45, 101, 110, 99, 111, 100, 105, 110, 103]⟩, .string Vl] 47))) := Lib.hid (HB4.out.alloc HB4.out.size _)
          go_wp2_with (at_builtin; refine app_flds rfl _ _ rfl w1.heap.size _ (cur ++ [(cl2, Vl)]) rfl HO4a.out _ 1 1 [(te2, Vl)] rfl rfl HL4.out ?n4 HB4a.out.size ?_)
          case n4 => first | (show (_ + 1) * 32 ≤ _; omega) | (rw [List.length_append]; show (_ + 1 + 1) * 32 ≤ _; omega)
          intro v5 w5 hown5 hb5 _
          have HO5 : Hid (OwnF w5 w1.heap.size v5 (oth (l.take (k + 1)))) := Lib.hid (by rw [HST.out]; simpa using hown5)
          have HB5 := Lib.hid (HB4a.out.trans hb5.out)
          clear hown5 hb5 m4
          go_wp2
          go_roundw
          case rel => exact ⟨k + 1, by omega, by go_num, HO5.out, HB5.out⟩
          case measure => simp [intOf]; omega
end Go.Proofs.YtkadingpmebjbaaDoor
