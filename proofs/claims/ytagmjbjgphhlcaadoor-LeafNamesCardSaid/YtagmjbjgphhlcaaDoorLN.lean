/- No byte is lost; bytes below 128: the walks. -/
import Derived.Test.YtagmjbjgphhlcaaDoorLJ
set_option linter.unusedVariables false
namespace Go.Proofs.YtagmjbjgphhlcaaDoor
open Go.RowKit

theorem encSays_is {s b : List UInt8} {ok : Bool} {w : World} (h : encR s = (b, ok)) {e : Ending} {w' : World} (he : EncSays s w e w') :
    ∃ a c, e = .returned (.tuple #[.slice a b.length c, .bool ok]) ∧ Src w' a c b ∧ Below w.heap.size w w' := by
  unfold EncSays at he; rw [h] at he; exact he
theorem data_mk (l : List UInt8) : (ByteArray.mk l.toArray).data.toList = l := by simp
theorem size_mk (l : List UInt8) : (ByteArray.mk l.toArray).size = l.length := by show l.toArray.size = _; simp

set_option maxHeartbeats 4000000 in
set_option maxRecDepth 100000 in
theorem leafBack_walk (w : World) (a1 : Option Addr) (c1 : Nat) (la : List UInt8) (h1 : Src w a1 c1 la) (hl1 : la.length ≤ 1048576) :
    Calls Tryd.prog 6 #[.slice a1 la.length c1] w fun e w' => e = .returned (.bool true) ∧ Below w.heap.size w w' := by
  have hdl := (dcd_len la).2.1
  have hsz := size_mk (dcd la)
  have hdec : ∀ wx, Below w.heap.size w wx → Calls Tryd.prog 15 #[.slice a1 la.length c1] wx fun e w' => e = .returned (.string ⟨(dcd la).toArray⟩) ∧ Below wx.heap.size wx w' := fun wx hb => ldecode_any a1 c1 la wx (h1.below hb) (by omega)
  have henc : ∀ wx, Calls Tryd.prog 16 #[.string ⟨(dcd la).toArray⟩] wx fun e w' => ∃ a c, e = .returned (.tuple #[.slice a la.length c, .bool true]) ∧ Src w' a c la ∧ Below wx.heap.size wx w' := fun wx => by
    refine (lencode_any ⟨(dcd la).toArray⟩ wx (by omega)).mono fun e w' he => ?_
    rw [data_mk] at he
    exact encSays_is (encR_some (encL_dcd la)) he
  obtain ⟨WF, cf, hcv, hwb, hws⟩ := conv_str' ⟨(dcd la).toArray⟩ (by omega)
  rw [data_mk] at hws
  have hru : ∀ wx : World, ∀ B, wx.heap.size = B → Calls Tryd.prog 22 #[.slice (some ⟨B, 0, none⟩) (ByteArray.mk (dcd la).toArray).size (cf wx)] (WF wx) fun e w' => ∃ a' c', e = .returned (.slice a' la.length c') ∧ Below wx.heap.size wx w' := fun wx B hB => by
    subst hB
    have hr := refrunes_any (some ⟨wx.heap.size, 0, none⟩) (cf wx) (dcd la) (WF wx) (hws wx) (by omega)
    rw [rns_len_dcd] at hr
    rw [hsz]
    refine hr.mono ?_
    rintro e w' ⟨a', c', rfl, hn, hb⟩
    exact ⟨a', c', rfl, (hwb wx).trans (hb.mono (hwb wx).size)⟩
  have hfa : ∀ wx : World, ∀ B, wx.heap.size = B → Calls Tryd.prog 23 #[.slice (some ⟨B, 0, none⟩) (ByteArray.mk (dcd la).toArray).size (cf wx)] (WF wx) fun e w' => e = .returned (.int .i64 (ByteArray.mk (dcd la).toArray).size) ∧ Below wx.heap.size wx w' := fun wx B hB => by
    subst hB
    have hr := reffault_any (some ⟨wx.heap.size, 0, none⟩) (cf wx) (dcd la) (WF wx) (hws wx) (by omega)
    rw [flt_dcd] at hr
    rw [hsz]
    refine hr.mono ?_
    rintro e w' ⟨rfl, rfl⟩
    exact ⟨rfl, hwb wx⟩
  have hcs : ∀ wx a c, Src wx a c la → (convert 29 9 (.slice a la.length c)).run Tryd.prog wx = .ok (.string ⟨la.toArray⟩) wx := fun wx a c h => conv_src wx a c la h
  have hc1 : ∀ wx, Below w.heap.size w wx → (convert 29 9 (.slice a1 la.length c1)).run Tryd.prog wx = .ok (.string ⟨la.toArray⟩) wx := fun wx hb => conv_src wx a1 c1 la (h1.below hb)
  generalize (ByteArray.mk la.toArray) = S0 at hcs hc1
  have hXs : (ByteArray.mk (dcd la).toArray).size ≤ 4194304 := by omega
  clear hsz hws
  generalize (ByteArray.mk (dcd la).toArray) = X at hdec henc hcv hru hfa hXs
  clear hdl h1
  have hsrc : ∀ wx a c, Src wx a c la → Hid (Src wx a c la) := fun wx a c h => Lib.hid h
  obtain ⟨n, hn⟩ : ∃ n, la.length = n := ⟨_, rfl⟩
  rw [hn] at hdec henc hru hcs hc1 hl1 ⊢
  have HD := Lib.hid hdec
  have HE := Lib.hid henc
  have HR := Lib.hid hru
  have HF := Lib.hid hfa
  have HCS := Lib.hid hcs
  have HC1 := Lib.hid hc1
  have HCV := Lib.hid hcv
  clear hdec henc hru hfa hcs hc1 hn hcv hwb hsrc
  go_enter Tryd.func6, Tryd.ntmps6
  go_wp2_with fail
  refine (shown_any _).mono ?_; rintro e w1 ⟨rfl, hb⟩
  have B1 := Lib.hid hb
  clear hb
  go_wp2_with fail
  refine (HD.out _ B1.out).mono ?_; rintro e w2 ⟨rfl, hb⟩
  have B2 := Lib.hid (B1.out.trans (hb.mono B1.out.size))
  clear hb
  go_wp2_with fail
  refine (HE.out _).mono ?_; rintro e w3 ⟨a3, c3, rfl, hs3, hb⟩
  have B3 := Lib.hid (B2.out.trans (hb.mono B2.out.size))
  have S3 := Lib.hid hs3
  clear hb hs3
  have hcv := HCV.out w3
  go_wp2_with fail
  clear hcv
  refine (HR.out w3 _ rfl).mono ?_; rintro e w4 ⟨a4, c4, rfl, hb⟩
  have B4 := Lib.hid (B3.out.trans (hb.mono B3.out.size))
  have S4 := Lib.hid (S3.out.below hb)
  clear hb
  have k1 := HCS.out w4 _ _ S4.out
  have k2 := HC1.out w4 B4.out
  have k3 := HCV.out w4
  go_wp2_with fail
  clear k1 k2 k3
  refine (HF.out w4 _ rfl).mono ?_; rintro e w5 ⟨rfl, hb⟩
  have B5 := Lib.hid (B4.out.trans (hb.mono B4.out.size))
  clear hb
  go_wp2
  go_ret
  exact ⟨rfl, B5.out⟩
end Go.Proofs.YtagmjbjgphhlcaaDoor
