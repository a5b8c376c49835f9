/- FramingBoth. -/
import Derived.Test.YtkadingpmebjbaaDoorQH
set_option linter.unusedVariables false
namespace Go.Proofs.YtkadingpmebjbaaDoor
open Go.RowKit

theorem allF_pos {l : AL} {X : ByteArray} {p : ByteArray × ByteArray} (h : p ∈ l) (hs : sameB p.1 X = true) : 0 < (allF l X).length := by
  unfold allF
  rw [List.length_map, List.length_pos_iff_exists_mem]
  exact ⟨p, List.mem_filter.2 ⟨h, hs⟩⟩
theorem fbody_both {l : AL} {nb : Bool} {opn : Int} (h1 : 0 < (allF l kTE).length) (h2 : 0 < (allF l kCL).length) : fbody l nb opn = ⟨0, 0, 19⟩ := by
  unfold fbody fread
  rw [if_pos h1, if_pos h2]
  simp
theorem srcA_take {w : World} {a : Option Addr} {c : Nat} {l : AL} (h : SrcA w a c l) (k : Nat) : SrcA w a c (l.take k) :=
  ⟨fun j hj => by
    rw [List.length_take] at hj
    obtain ⟨b, o, h1, h2, h3, h4⟩ := h.at_ j (by omega)
    rw [List.getElem_take]
    exact ⟨b, o, h1, h2, h3, h4⟩, by have := h.cap; rw [List.length_take]; omega, fun e => ⟨by rw [(h.nil e).1]; simp, (h.nil e).2⟩⟩
theorem srcA_drop {w : World} {b o c : Nat} {l : AL} (h : SrcA w (some ⟨b, o, none⟩) c l) (k : Nat) (hk : k ≤ l.length) : SrcA w (some ⟨b, o + k * 2, none⟩) (c - k) (l.drop k) :=
  ⟨fun j hj => by
    rw [List.length_drop] at hj
    obtain ⟨b', o', h1, h2, h3, h4⟩ := h.at_ (k + j) (by omega)
    simp only [Option.some.injEq, Addr.mk.injEq] at h1
    obtain ⟨rfl, rfl, _⟩ := h1
    rw [List.getElem_drop]
    exact ⟨b, _, rfl, h2, by rw [← h3]; congr 2; omega, by rw [← h4]; congr 2; omega⟩, by have := h.cap; rw [List.length_drop]; omega, fun e => by cases e⟩
def kCL2 : ByteArray := ⟨#[67, 111, 110, 116, 101, 110, 116, 45, 76, 69, 78, 71, 84, 72]⟩
theorem same_cl2 : sameB kCL2 kCL = true := by kernel_rfl
theorem same_te : sameB kTE kTE = true := by kernel_rfl

theorem slice_hiF (a : Option Addr) (len cap hi : Nat) (h : hi ≤ len) (hc : len ≤ cap) (W : World) : (Instr.slice 34 (.slice a len cap) none (some (.int .i64 hi)) none).run Tryd.prog W = .ok (.slice a hi cap) W := by
  have h1 : hi ≤ cap := by omega
  go_simp
theorem slice_loF (a : Option Addr) (l : AL) (n c lo : Nat) (w : World) (hn : l.length = n) (h : SrcA w a c l) (hlo : lo ≤ n) : ∃ a', (∀ W : World, (Instr.slice 34 (.slice a n c) (some (.int .i64 lo)) none none).run Tryd.prog W = .ok (.slice a' (n - lo) (c - lo)) W) ∧ SrcA w a' (c - lo) (l.drop lo) := by
  subst hn
  have hc := h.cap
  cases a with
  | none =>
    obtain ⟨rfl, rfl⟩ := h.nil rfl
    have h0 : lo = 0 := by simpa using hlo
    subst h0
    exact ⟨none, fun W => by simp only [List.length_nil]; go_simp, by simpa using h⟩
  | some x =>
    by_cases hl0 : l.length = 0
    · have h0 : lo = 0 := by omega
      subst h0
      refine ⟨some x, fun W => ?_, by simpa using h⟩
      obtain ⟨b, o, sp⟩ := x
      rw [hl0]
      by_cases hc0 : c = 0
      · subst hc0; go_simp
      · go_simp
    · obtain ⟨b, o, he, hb, _⟩ := h.at_ 0 (by omega)
      cases he
      by_cases hcl : lo = c
      · subst hcl
        have hll : lo = l.length := by omega
        refine ⟨some ⟨b, o, none⟩, fun W => ?_, ?_⟩
        · have h1 : l.length - lo = 0 := by omega
          have h2 : lo - lo = 0 := by omega
          rw [h1, h2, hll]
          go_simp
        · have h2 : l.drop lo = [] := List.drop_eq_nil_iff.2 (by omega)
          rw [h2]
          exact ⟨fun j hj => by simp at hj, by simp, fun e => by cases e⟩
      · refine ⟨some ⟨b, o + lo * 2, none⟩, fun W => ?_, srcA_drop h lo hlo⟩
        have h1 : lo < c := by omega
        have h3 : lo ≤ c := by omega
        have h4 : ¬ c = lo := by omega
        go_simp

/-- the fields with both added -/
def fboth (l : AL) (k : Nat) (L C : ByteArray) : AL := ((l.take k ++ [(kCL2, L)]) ++ l.drop k) ++ [(kTE, C)]
theorem fboth_len (l : AL) (k : Nat) (L C : ByteArray) (hk : k ≤ l.length) : (fboth l k L C).length = l.length + 2 := by
  unfold fboth; simp; omega
theorem fboth_asz (l : AL) (k : Nat) (L C : ByteArray) : asz (fboth l k L C) = asz l + L.size + C.size + 39 := by
  have e : asz l = asz (l.take k) + asz (l.drop k) := by rw [← asz_app, List.take_append_drop]
  have e1 : kCL2.size = 14 := rfl
  have e2 : kTE.size = 17 := rfl
  unfold fboth
  rw [asz_app, asz_app, asz_app]
  simp only [asz, e1, e2]; omega
theorem fboth_body (l : AL) (k : Nat) (L C : ByteArray) (nb : Bool) (opn : Int) : fbody (fboth l k L C) nb opn = ⟨0, 0, 19⟩ :=
  fbody_both (allF_pos (p := (kTE, C)) (by unfold fboth; simp) same_te) (allF_pos (p := (kCL2, L)) (by unfold fboth; simp) same_cl2)

set_option maxHeartbeats 32000000 in
set_option maxRecDepth 100000 in
theorem framingBoth_any (l : AL) (L C M : ByteArray) (at_ st : Int) (av : Option Addr) (n c : Nat) (w : World) (hn : l.length = n) (hs : SrcA w av c l) (hz : asz l + L.size + C.size ≤ 536870912)
    (ha0 : -9223372036854775808 ≤ at_) (ha1 : at_ ≤ 9223372036854775807) :
    Calls Tryd.prog 9 #[.slice av n c, .string L, .string C, .int .i64 at_, .string M, .int .i64 st] w fun e w' => e = .returned (.bool true) ∧ Below w.heap.size w w' := by
  have hnl := asz_len l
  have hnb : n ≤ 1073741824 := by omega
  have H0 := Lib.hid fun wx => shown6_any wx
  have HS := Lib.hid hs
  have HN := Lib.hid hn
  have hcap : n ≤ c := by have := hs.cap; omega
  have hcase : ∃ k : Nat, k ≤ n ∧ ((at_ < 0 ∧ -((at_ + 1).tmod ((n : Int) + 1)) = (k : Int)) ∨ (¬ at_ < 0 ∧ at_ % ((n : Int) + 1) = (k : Int))) := by
    by_cases h : at_ < 0
    · have h1 := Int.emod_nonneg (-(at_ + 1)) (show (n : Int) + 1 ≠ 0 by omega)
      have h2 := Int.emod_lt_of_pos (-(at_ + 1)) (show 0 < (n : Int) + 1 by omega)
      have h3 : -((at_ + 1).tmod ((n : Int) + 1)) = -(at_ + 1) % ((n : Int) + 1) := by rw [← Int.neg_tmod, Int.tmod_eq_emod_of_nonneg (by omega)]
      exact ⟨(-(at_ + 1) % ((n : Int) + 1)).toNat, by omega, .inl ⟨h, by rw [h3]; omega⟩⟩
    · have h1 := Int.emod_nonneg at_ (show (n : Int) + 1 ≠ 0 by omega)
      have h2 := Int.emod_lt_of_pos at_ (show 0 < (n : Int) + 1 by omega)
      exact ⟨(at_ % ((n : Int) + 1)).toNat, by omega, .inr ⟨h, by omega⟩⟩
  obtain ⟨k, hk, hcase⟩ := hcase
  have hhi := slice_hiF av n c k hk hcap
  obtain ⟨a', hlo, hdr⟩ := slice_loF av l n c k w hn hs hk
  have HD := Lib.hid hdr
  have hkl : k ≤ l.length := by omega
  have hml := fboth_len l k L C hkl
  have hmz := fboth_asz l k L C
  rw [hn] at hml
  have h1 := fun (a : Option Addr) c wx (hs : SrcA wx a c (fboth l k L C)) => greq_any (fboth l k L C) ⟨#[]⟩ ⟨#[]⟩ a (n + 2) c wx hml hs (by omega)
  have h2 := fun (a : Option Addr) c wx (hs : SrcA wx a c (fboth l k L C)) => gresp_any (fboth l k L C) M ⟨#[]⟩ st a (n + 2) c wx hml hs (by omega)
  simp only [fboth_body] at h1 h2
  have H1 : Hid (∀ (a : Option Addr) c wx, SrcA wx a c (fboth l k L C) → Calls Tryd.prog 37 #[.agg #[.string ⟨#[]⟩, .string ⟨#[]⟩, .slice a (n + 2) c]] wx fun e w' => e = .returned (.tuple #[.agg #[.int .i64 0, .int .i64 0], .int .i64 19]) ∧ Below wx.heap.size wx w') := Lib.hid h1
  have H2 : Hid (∀ (a : Option Addr) c wx, SrcA wx a c (fboth l k L C) → Calls Tryd.prog 38 #[.string M, .agg #[.int .i64 st, .string ⟨#[]⟩, .slice a (n + 2) c]] wx fun e w' => e = .returned (.tuple #[.agg #[.int .i64 0, .int .i64 0], .int .i64 19]) ∧ Below wx.heap.size wx w') := Lib.hid h2
  have HTL : Hid ((l.take k).length = k) := Lib.hid (by rw [List.length_take]; omega)
  have HDL : Hid ((l.drop k).length = n - k) := Lib.hid (by rw [List.length_drop]; omega)
  have HML := Lib.hid hml
  clear hn hs hnl hdr hcap hkl hml hmz h1 h2
  rcases hcase with ⟨hneg, hm⟩ | ⟨hneg, hm⟩
  all_goals
    go_enter Tryd.func9, Tryd.ntmps9
    go_wp2_with fail
    refine (H0.out _).mono ?_; rintro e w1 ⟨rfl, hb⟩
    have HB1 := Lib.hid hb
    clear hb
    have HBa : Hid (Below w.heap.size w (w1.alloc (.cells #[] 47))) := Lib.hid (HB1.out.alloc HB1.out.size _)
    have HS1 := Lib.hid (srcA_take (HS.out.below (Nat.le_refl _) HBa.out) k)
    have HM1 := Lib.hid (made_flds w1 w1.heap.size (Nat.le_refl _) #[] rfl)
    have HL1 : Hid (Below w1.heap.size w1 (w1.alloc (.cells #[] 47))) := Lib.hid (one_grow _ _)
    go_wp2_with (at_builtin; refine app_flds rfl _ _ rfl w1.heap.size _ [] rfl HM1.out av c k (l.take k) HTL.out rfl HS1.out ?n1 HL1.out.size ?_)
    case n1 => rw [HTL.out]; simp; omega
    intro v2 w2 hown2 hb2 _
    have HL2 : Hid (Below w1.heap.size w1 w2) := Lib.hid (HL1.out.trans hb2.out)
    have HO2 : Hid (OwnF (w2.alloc (.cells #[.string ⟨#[67, 111, 110, 116, 101, 110, 116, 45, 76, 69, 78, 71, 84, 72]⟩, .string L] 47)) w1.heap.size v2 (l.take k)) := Lib.hid (ownF_alloc hown2 _)
    have HLt := Lib.hid (lit_fld ⟨#[67, 111, 110, 116, 101, 110, 116, 45, 76, 69, 78, 71, 84, 72]⟩ L w2)
    have HL2a : Hid (Below w1.heap.size w1 (w2.alloc (.cells #[.string ⟨#[67, 111, 110, 116, 101, 110, 116, 45, 76, 69, 78, 71, 84, 72]⟩, .string L] 47))) := Lib.hid (HL2.out.alloc HL2.out.size _)
    clear hown2 hb2 hhi
    go_wp2_with (at_builtin; refine app_flds rfl _ _ rfl w1.heap.size _ (l.take k) rfl HO2.out _ 1 1 [(kCL2, L)] rfl rfl HLt.out ?n2 HL2a.out.size ?_)
    case n2 => rw [HTL.out]; show (_ + 1) * 32 ≤ _; omega
    intro v3 w3 hown3 hb3 _
    have HL3 : Hid (Below w1.heap.size w1 w3) := Lib.hid (HL2a.out.trans hb3.out)
    have HO3 := Lib.hid hown3
    have HD3 := Lib.hid (HD.out.below (Nat.le_refl _) (app_below HB1.out HL3.out))
    have HLN : Hid ((l.take k ++ [(kCL2, L)]).length = k + 1) := Lib.hid (by rw [List.length_append, HTL.out]; rfl)
    clear hown3 hb3
    go_wp2_with (at_builtin; refine app_flds rfl _ _ rfl w1.heap.size _ (l.take k ++ [(kCL2, L)]) rfl HO3.out a' (c - k) (n - k) (l.drop k) HDL.out rfl HD3.out ?n3 HL3.out.size ?_)
    case n3 => rw [HLN.out, HDL.out]; omega
    intro v4 w4 hown4 hb4 _
    have HL4 : Hid (Below w1.heap.size w1 w4) := Lib.hid (HL3.out.trans hb4.out)
    have HO4 : Hid (OwnF (w4.alloc (.cells #[.string ⟨#[116, 114, 97, 110, 115, 102, 101, 114, 45, 101, 110, 99, 111, 100, 105, 110, 103]⟩, .string C] 47)) w1.heap.size v4 (l.take k ++ [(kCL2, L)] ++ l.drop k)) := Lib.hid (ownF_alloc (by simpa using hown4) _)
    have HLt4 := Lib.hid (lit_fld ⟨#[116, 114, 97, 110, 115, 102, 101, 114, 45, 101, 110, 99, 111, 100, 105, 110, 103]⟩ C w4)
    have HL4a : Hid (Below w1.heap.size w1 (w4.alloc (.cells #[.string ⟨#[116, 114, 97, 110, 115, 102, 101, 114, 45, 101, 110, 99, 111, 100, 105, 110, 103]⟩, .string C] 47))) := Lib.hid (HL4.out.alloc HL4.out.size _)
    have HLN4 : Hid ((l.take k ++ [(kCL2, L)] ++ l.drop k).length = n + 1) := Lib.hid (by rw [List.length_append, HLN.out, HDL.out]; omega)
    clear hown4 hb4 hlo
    go_wp2_with (at_builtin; refine app_flds rfl _ _ rfl w1.heap.size _ (l.take k ++ [(kCL2, L)] ++ l.drop k) rfl HO4.out _ 1 1 [(kTE, C)] rfl rfl HLt4.out ?n4 HL4a.out.size ?_)
    case n4 => rw [HLN4.out]; show (_ + 1) * 32 ≤ _; omega
    intro v5 w5 hown5 hb5 _
    have HB5 : Hid (Below w.heap.size w w5) := Lib.hid (app_below HB1.out (HL4a.out.trans hb5.out))
    have hown5 : OwnF w5 w1.heap.size v5 (fboth l k L C) := by unfold fboth; simpa using hown5
    obtain ⟨a5, c5, rfl, hs5⟩ := flds_one _ _ _ _ hown5
    rw [HML.out]
    have HS5 := Lib.hid hs5
    clear hown5 hb5 hs5 hm
    go_wp2_with fail
    refine (H1.out _ _ _ HS5.out).mono ?_; rintro e w6 ⟨rfl, hb⟩
    have HB6 := Lib.hid hb
    have HS6 := Lib.hid ((HS5.out.below (Nat.le_refl _) hb).below (Nat.le_refl _) (one_grow w6 (.cells #[.int .i64 0, .int .i64 0] 55)))
    clear hb
    go_wp2_with fail
    refine (H2.out _ _ _ HS6.out).mono ?_; rintro e w7 ⟨rfl, hb⟩
    have HB7 := Lib.hid (app_below HB5.out (app_below HB6.out (one_below _ _ _ hb)))
    clear hb
    go_wp2
    go_ret
    exact ⟨rfl, HB7.out.alloc HB7.out.size _⟩
end Go.Proofs.YtkadingpmebjbaaDoor
