/- Of a text in UTF-8 comes a text in UTF-8: the walk. -/
import Derived.Test.YtpepoccoljmmjaaWV
set_option linter.unusedVariables false
namespace Go.Proofs.Ytpepoccoljmmjaa
open Go.RowKit Go.Shelf

set_option maxRecDepth 10000 in
set_option maxHeartbeats 8000000 in
theorem valid_walk (w : World) (a : Option Addr) (c : Nat) (l : Bs) (q : Bool) (hm : MaxLen w) (h : Src w a c l) (hl : l.length ≤ 1048576) :
    Calls Try.prog 11 #[.slice a l.length c, .bool q] w fun e w' => e = .returned (.bool true) ∧ Below w.heap.size w w' := by
  have hsh := shown_any w hm
  have hdl := dec_le l
  obtain ⟨S, hS⟩ : ∃ S : ByteArray, S = ⟨(dec l).toArray⟩ := ⟨_, rfl⟩
  have hSl : S.data.toList = dec l := by rw [hS]
  have hSs : S.size = (dec l).length := by rw [← hSl, len_data]
  have hd : ∀ wx, Src wx a c l → Calls Try.prog 27 #[.slice a l.length c] wx fun e w' => e = .returned (.string S) ∧ Below wx.heap.size wx w' := fun wx hx => by rw [hS]; exact refdec_any a c l wx hx (by omega)
  have hal := alls_len q S.data.toList
  have hel := esc_len q S.data.toList
  rw [len_data] at hal hel
  have hA := fun wx => all_any S q wx (by omega) (by omega)
  have hE := fun wx => escape_any S q wx (by omega) (by omega)
  have hok : AllOk S.data.toList := by rw [hSl]; exact dec_ok l
  have ho1 := flt_ok _ (alls_ok q hok)
  have ho2 := flt_ok _ (esc_ok q hok)
  have key : ∀ L : Bs, flt L = L.length → L.length ≤ 134217728 → ∃ (T : ByteArray) (WF : World → World) (cf : World → Nat), T = bs L ∧ (∀ w, (convert 9 33 (.string T)).run Try.prog w = .ok (.slice (some ⟨w.heap.size, 0, none⟩) T.size (cf w)) (WF w)) ∧ (∀ w, Below w.heap.size w (WF w)) ∧ ∀ w, Calls Try.prog 28 #[.slice (some ⟨w.heap.size, 0, none⟩) T.size (cf w)] (WF w) fun e w' => e = .returned (.int .i64 T.size) ∧ WF w = w' := fun L hL hlen => by
    have hTl : (bs L).data.toList = L := data_mk _
    have hTs : (bs L).size = L.length := size_mk L
    obtain ⟨WF, cf, h1, h2, h3⟩ := conv_str' (bs L) (by omega)
    refine ⟨bs L, WF, cf, rfl, h1, h2, fun w => ?_⟩
    have h4 := h3 w
    rw [hTl] at h4
    have := reffault_any _ _ L (WF w) h4 hlen
    rw [hL] at this
    rw [hTs]
    exact this
  obtain ⟨T, WF, cf, hT, t1, t2, t3⟩ := key _ ho1 (by omega)
  obtain ⟨U, WG, cg, hU, u1, u2, u3⟩ := key _ ho2 (by omega)
  rw [← hT] at hA
  rw [← hU] at hE
  have HSH := Lib.hid hsh
  have HD := Lib.hid hd
  have HA := Lib.hid hA
  have HE := Lib.hid hE
  have HS := Lib.hid h
  have T2 := Lib.hid t2
  have T3 := Lib.hid t3
  have U2 := Lib.hid u2
  have U3 := Lib.hid u3
  clear hsh hdl hS hSl hSs hd hal hel hA hE hok ho1 ho2 key hT hU t2 t3 u2 u3 hm h
  go_enter Try.func11, Try.ntmps11
  go_wp2_with fail
  refine HSH.out.mono ?_; rintro e w1 ⟨rfl, hb⟩
  have HB := Lib.hid hb
  have HS1 := Lib.hid (HS.out.below hb)
  clear hb
  go_wp2_with fail
  refine (HD.out _ HS1.out).mono ?_; rintro e w2 ⟨rfl, hb⟩
  have HB2 := Lib.hid (HB.out.trans (hb.mono HB.out.size))
  clear hb
  go_wp2_with fail
  refine (HA.out _).mono ?_; rintro e w3 ⟨rfl, hb⟩
  have HB3 := Lib.hid (HB2.out.trans (hb.mono HB2.out.size))
  clear hb
  go_wp2_with fail
  refine (HE.out _).mono ?_; rintro e w4 ⟨rfl, hb⟩
  have HB4 := Lib.hid (HB3.out.trans (hb.mono HB3.out.size))
  clear hb
  go_wp2_with fail
  refine (T3.out _).mono ?_; rintro e w5 ⟨rfl, hw5⟩
  have HB5 : Hid (Below w.heap.size w w5) := Lib.hid (by rw [← hw5]; exact HB4.out.trans ((T2.out _).mono HB4.out.size))
  clear hw5
  go_wp2_with fail
  refine (U3.out _).mono ?_; rintro e w6 ⟨rfl, hw6⟩
  have HB6 : Hid (Below w.heap.size w w6) := Lib.hid (by rw [← hw6]; exact HB5.out.trans ((U2.out _).mono HB5.out.size))
  clear hw6
  go_wp2
  go_ret
  exact ⟨rfl, HB6.out⟩
end Go.Proofs.Ytpepoccoljmmjaa
