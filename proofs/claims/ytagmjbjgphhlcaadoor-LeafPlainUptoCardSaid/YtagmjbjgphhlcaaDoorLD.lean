/- Characters as bytes: the program's and the document's. -/
import Derived.Test.YtagmjbjgphhlcaaDoorLC
set_option linter.unusedVariables false
namespace Go.Proofs.YtagmjbjgphhlcaaDoor
open Go.RowKit

def encR (s : List UInt8) : List UInt8 × Bool := match encL (rns s) with | some b => (b, true) | none => ([], false)
theorem encR_some {s b : List UInt8} (h : encL (rns s) = some b) : encR s = (b, true) := by unfold encR; rw [h]
theorem encR_none {s : List UInt8} (h : encL (rns s) = none) : encR s = ([], false) := by unfold encR; rw [h]
def EncSays (s : List UInt8) (w : World) (e : Ending) (w' : World) : Prop :=
  ∃ a c, e = .returned (.tuple #[.slice a (encR s).1.length c, .bool (encR s).2]) ∧ Src w' a c (encR s).1 ∧ Below w.heap.size w w'
theorem encSays_some {s b : List UInt8} {w w' : World} {a : Option Addr} {c n : Nat} (h : encR s = (b, true)) (hn : n = b.length) (hs : Src w' a c b) (hb : Below w.heap.size w w') : EncSays s w (.returned (.tuple #[.slice a n c, .bool true])) w' := by
  subst hn; unfold EncSays; rw [h]; exact ⟨a, c, rfl, hs, hb⟩
theorem src_nil (w : World) : Src w none 0 [] := ⟨.inl rfl, by simp, by omega, fun _ => ⟨rfl, rfl⟩⟩
theorem encSays_none {s : List UInt8} {w w' : World} (h : encR s = ([], false)) (hb : Below w.heap.size w w') : EncSays s w (.returned (.tuple #[.slice none 0 0, .bool false])) w' := by
  unfold EncSays; rw [h]; exact ⟨none, 0, rfl, src_nil _, hb⟩

theorem encR_round (s : List UInt8) (k : Nat) (acc : List UInt8) (hk : k < (rns s).length) (ha : encL ((rns s).take k) = some acc) :
    (byt (rns s)[k] = none → encR s = ([], false)) ∧ ∀ c, byt (rns s)[k] = some c → c < 256 ∧ encL ((rns s).take (k + 1)) = some (acc ++ [UInt8.ofNat c]) :=
  ⟨fun h => encR_none (encL_stop hk h), fun c h => ⟨(byt_is h).1, encL_snoc hk ha h⟩⟩

set_option maxHeartbeats 4000000 in
set_option maxRecDepth 100000 in
theorem lencode_any (X : ByteArray) (w : World) (hlen : X.size ≤ 4194304) :
    Calls Tryd.prog 16 #[.string X] w (EncSays X.data.toList w) := by
  have hXl : X.data.toList.length = X.size := by simp
  obtain ⟨s, hs⟩ : ∃ s, X.data.toList = s := ⟨_, rfl⟩
  rw [hs] at hXl ⊢
  obtain ⟨WF, cf, hcv, hwb, hws⟩ := conv_str' X (by omega)
  rw [hs] at hws
  have hle := rns_le s
  have hrl := (rns_len s).1
  have hru : ∀ wx : World, ∀ B, wx.heap.size = B → Calls Tryd.prog 26 #[.slice (some ⟨B, 0, none⟩) X.size (cf wx)] (WF wx) fun e w' => ∃ a' c', e = .returned (.slice a' (rns s).length c') ∧ Nums w' a' (ints (rns s)) ∧ Below wx.heap.size wx w' := fun wx B hB => by
    subst hB
    have h := hws wx
    have hr := runes_any (some ⟨wx.heap.size, 0, none⟩) (cf wx) s (WF wx) h.bytes h.cap (by omega) h.big
    rw [hXl] at hr
    refine hr.mono ?_
    rintro e w' ⟨v, rfl, ho, hb⟩
    obtain ⟨a', c', rfl, _, hn, _⟩ := own_nums ho
    exact ⟨a', c', rfl, hn, (hwb wx).trans (hb.mono (hwb wx).size)⟩
  have hrd := encR_round s
  have hend : ∀ k acc, k = (rns s).length → encL ((rns s).take k) = some acc → encR s = (acc, true) := fun k acc hk h => by
    subst hk; rw [List.take_length] at h; exact encR_some h
  have hnl : ∀ acc k, encL ((rns s).take k) = some acc → acc.length ≤ k := fun acc k h => by
    have := encL_len h; rw [List.length_take] at this; omega
  generalize rns s = R at hle hrl hru hrd hend hnl
  have HLE := Lib.hid hle
  have HRU := Lib.hid hru
  have HRD := Lib.hid hrd
  have HEND := Lib.hid hend
  have HNL := Lib.hid hnl
  clear hle hru hrd hend hws hs hwb hnl
  go_enter Tryd.func16, Tryd.ntmps16
  go_wp2_with fail
  clear hcv
  refine (HRU.out w _ rfl).mono ?_; rintro e w1 ⟨a', c', rfl, hn, hb⟩
  have HN := Lib.hid hn
  have HB0 := Lib.hid hb
  clear hn hb
  go_wp2_with fail
  go_loopw [4, 13] (fun v i wr => ∃ (k : Nat) (acc : List UInt8), k ≤ R.length ∧ i = .int .i64 k ∧ encL (R.take k) = some acc ∧ OwnB wr w1.heap.size v acc ∧ Below w1.heap.size w1 wr ∧ Below w.heap.size w wr) (fun _ i _ => R.length - (intOf i).toNat)
  case atStart => exact ⟨0, [], by omega, rfl, rfl, World.ownsRow_nil _ _ _ _, Below.refl _ _, HB0.out⟩
  case round =>
    obtain ⟨k, acc, hk, rfl, hacc, hown, hb1, hb⟩ := hrel
    by_cases hlt : k < R.length
    · have hki : k < (ints R).length := by simpa [ints] using hlt
      obtain ⟨sb, so, rfl, hsb, hcell⟩ := HN.out k hki
      have hcell2 := (hb1.cell (p := ⟨sb, so + k, none⟩) hsb).trans hcell
      have hval : (ints R)[k] = ((R[k] : Nat) : Int) := by simp [ints]
      rw [hval] at hcell2
      have hx := HLE.out R[k] (List.getElem_mem hlt)
      obtain ⟨hno, hyes⟩ := HRD.out k acc hlt hacc
      have hal := HNL.out acc k hacc
      generalize R[k] = x at hcell2 hx hno hyes
      have hbc := fun wx => byte_any (x : Int) wx (by omega) (by omega)
      have HB1 := Lib.hid hb1
      have HB := Lib.hid hb
      have HO := Lib.hid hown
      clear hcell hb1 hb hown hval hki hx
      cases hbx : byt (x : Int) with
      | none =>
        have hc0 : ∀ wx, Calls Tryd.prog 11 #[.int .i32 x] wx fun e w' => e = .returned (.tuple #[.int .u8 0, .bool false]) ∧ Below wx.heap.size wx w' := fun wx => (hbc wx).mono fun e w' h => by
          unfold ByteSays bytV bytB at h; rw [hbx] at h; exact h
        have HE := Lib.hid (hno hbx)
        have HC := Lib.hid hc0
        clear hno hyes hbc hbx hacc hc0
        go_wp2_with fail
        refine (HC.out _).mono ?_; rintro e w2 ⟨rfl, hb2⟩
        have HB2 := Lib.hid (HB.out.trans (hb2.mono HB.out.size))
        clear hb2
        go_wp2
        go_ret2
        exact encSays_none HE.out HB2.out
      | some c =>
        obtain ⟨hc, hnx⟩ := hyes c hbx
        obtain ⟨cb, hcb, hcv⟩ : ∃ cb : UInt8, UInt8.ofNat c = cb ∧ (cb.toNat : Int) = ((c : Nat) : Int) := ⟨_, rfl, by rw [UInt8.toNat_ofNat']; omega⟩
        have hc0 : ∀ wx, Calls Tryd.prog 11 #[.int .i32 x] wx fun e w' => e = .returned (.tuple #[.int .u8 cb.toNat, .bool true]) ∧ Below wx.heap.size wx w' := fun wx => (hbc wx).mono fun e w' h => by
          unfold ByteSays bytV bytB at h; rw [hbx] at h; rw [hcv]; exact h
        rw [hcb] at hnx
        have hsr : ∀ wx : World, Src (wx.alloc (.cells #[.int .u8 cb.toNat] 5)) (some ⟨wx.heap.size, 0, none⟩) 1 [cb] := fun wx => lit_src [cb] wx (by simp)
        have HNX := Lib.hid hnx
        have HC := Lib.hid hc0
        have HSR := Lib.hid hsr
        clear hno hyes hbc hbx hacc hc0 hcb hcv hnx hc hsr
        go_wp2_with fail
        refine (HC.out _).mono ?_; rintro e w2 ⟨rfl, hb2⟩
        have HB2 : Hid (Below w.heap.size w w2) := Lib.hid (HB.out.trans (hb2.mono HB.out.size))
        have HC2 : Hid (Below w1.heap.size w1 w2) := Lib.hid (HB1.out.trans (hb2.mono HB1.out.size))
        have HO2 : Hid (OwnB (w2.alloc (.cells #[.int .u8 cb.toNat] 5)) w1.heap.size _ acc) := Lib.hid (World.ownsRow.alloc (hown_below HO.out hb2) _)
        have HSZ : Hid (w1.heap.size ≤ (w2.alloc (.cells #[.int .u8 cb.toNat] 5)).heap.size) := Lib.hid (by have := HC2.out.size; simp; omega)
        clear hb2
        go_wp2_with (at_builtin; refine app_bytes rfl _ _ rfl w1.heap.size _ acc rfl HO2.out _ 1 1 [cb] rfl rfl (HSR.out _) ?n2 HSZ.out ?_)
        case n2 => simp only [List.length_cons, List.length_nil]; omega
        intro v3 w3 hown3 hb3 hgr
        have HO3 := Lib.hid hown3
        have HC3 : Hid (Below w1.heap.size w1 w3) := Lib.hid ((HC2.out.alloc HC2.out.size _).trans hb3.out)
        have HB3 : Hid (Below w.heap.size w w3) := Lib.hid (HB0.out.trans (HC3.out.mono HB0.out.size))
        clear hown3 hb3
        go_wp2
        go_roundw
        case rel => exact ⟨k + 1, _, by omega, by go_num, HNX.out, HO3.out, HC3.out, HB3.out⟩
        case measure => simp [intOf]; omega
    · have HE := Lib.hid (HEND.out k acc (by omega) hacc)
      obtain ⟨a3, c3, rfl, _, hs3⟩ := own_src hown
      have HS3 := Lib.hid hs3
      have HB := Lib.hid hb
      clear hown hb hb1 hs3 hacc
      go_wp2
      go_ret2
      exact encSays_some HE.out rfl HS3.out HB.out
set_option maxHeartbeats 4000000 in
set_option maxRecDepth 100000 in
theorem rencode_any (X : ByteArray) (w : World) (hlen : X.size ≤ 4194304) :
    Calls Tryd.prog 17 #[.string X] w (EncSays X.data.toList w) := by
  have hXl : X.data.toList.length = X.size := by simp
  obtain ⟨s, hs⟩ : ∃ s, X.data.toList = s := ⟨_, rfl⟩
  rw [hs] at hXl ⊢
  obtain ⟨WF, cf, hcv, hwb, hws⟩ := conv_str' X (by omega)
  rw [hs] at hws
  have hle := rns_le s
  have hrl := (rns_len s).1
  have hru : ∀ wx : World, ∀ B, wx.heap.size = B → Calls Tryd.prog 22 #[.slice (some ⟨B, 0, none⟩) X.size (cf wx)] (WF wx) fun e w' => ∃ a' c', e = .returned (.slice a' (rns s).length c') ∧ Nums w' a' (ints (rns s)) ∧ Below wx.heap.size wx w' := fun wx B hB => by
    subst hB
    have hr := refrunes_any (some ⟨wx.heap.size, 0, none⟩) (cf wx) s (WF wx) (hws wx) (by omega)
    rw [hXl] at hr
    refine hr.mono ?_
    rintro e w' ⟨a', c', rfl, hn, hb⟩
    exact ⟨a', c', rfl, hn, (hwb wx).trans (hb.mono (hwb wx).size)⟩
  have hrd := encR_round s
  have hend : ∀ k acc, k = (rns s).length → encL ((rns s).take k) = some acc → encR s = (acc, true) := fun k acc hk h => by
    subst hk; rw [List.take_length] at h; exact encR_some h
  have hnl : ∀ acc k, encL ((rns s).take k) = some acc → acc.length ≤ k := fun acc k h => by
    have := encL_len h; rw [List.length_take] at this; omega
  generalize rns s = R at hle hrl hru hrd hend hnl
  have HLE := Lib.hid hle
  have HRU := Lib.hid hru
  have HRD := Lib.hid hrd
  have HEND := Lib.hid hend
  have HNL := Lib.hid hnl
  clear hle hru hrd hend hws hs hwb hnl
  go_enter Tryd.func17, Tryd.ntmps17
  go_wp2_with fail
  clear hcv
  refine (HRU.out w _ rfl).mono ?_; rintro e w1 ⟨a', c', rfl, hn, hb⟩
  have HN := Lib.hid hn
  have HB0 := Lib.hid hb
  clear hn hb
  go_wp2_with fail
  go_loopw [5, 6] (fun v i wr => ∃ (k : Nat) (acc : List UInt8), k ≤ R.length ∧ i = .int .i64 k ∧ encL (R.take k) = some acc ∧ OwnB wr w1.heap.size v acc ∧ Below w1.heap.size w1 wr ∧ Below w.heap.size w wr) (fun _ i _ => R.length - (intOf i).toNat)
  case atStart => exact ⟨0, [], by omega, rfl, rfl, World.ownsRow_nil _ _ _ _, Below.refl _ _, HB0.out⟩
  case round =>
    obtain ⟨k, acc, hk, rfl, hacc, hown, hb1, hb⟩ := hrel
    by_cases hlt : k < R.length
    · have hki : k < (ints R).length := by simpa [ints] using hlt
      obtain ⟨sb, so, rfl, hsb, hcell⟩ := HN.out k hki
      have hcell2 := (hb1.cell (p := ⟨sb, so + k, none⟩) hsb).trans hcell
      have hval : (ints R)[k] = ((R[k] : Nat) : Int) := by simp [ints]
      rw [hval] at hcell2
      have hx := HLE.out R[k] (List.getElem_mem hlt)
      obtain ⟨hno, hyes⟩ := HRD.out k acc hlt hacc
      have hal := HNL.out acc k hacc
      generalize R[k] = x at hcell2 hx hno hyes
      have hbc := fun wx => rbyte_any (x : Int) wx
      have hx0 : 0 ≤ (x : Int) := by omega
      have hx1 : (x : Int) ≤ 1114111 := by omega
      have hi32 := i32_run (x : Int) (by omega) (by omega)
      have HB1 := Lib.hid hb1
      have HB := Lib.hid hb
      have HO := Lib.hid hown
      clear hcell hb1 hb hown hval hki hx
      cases hbx : byt (x : Int) with
      | none =>
        have hc0 : ∀ wx, Calls Tryd.prog 12 #[.int .i64 x] wx fun e w' => e = .returned (.int .i64 (-1)) ∧ Below wx.heap.size wx w' := fun wx => (hbc wx).mono fun e w' h => by
          unfold rbyV at h; rw [hbx] at h; exact h
        have HE := Lib.hid (hno hbx)
        have HC := Lib.hid hc0
        clear hno hyes hbc hbx hacc hc0
        go_wp2_with fail
        refine (HC.out _).mono ?_; rintro e w2 ⟨rfl, hb2⟩
        have HB2 := Lib.hid (HB.out.trans (hb2.mono HB.out.size))
        clear hb2
        go_wp2
        go_ret2
        exact encSays_none HE.out HB2.out
      | some c =>
        obtain ⟨hc, hnx⟩ := hyes c hbx
        obtain ⟨cb, hcb, hcv⟩ : ∃ cb : UInt8, UInt8.ofNat c = cb ∧ (cb.toNat : Int) = ((c : Nat) : Int) := ⟨_, rfl, by rw [UInt8.toNat_ofNat']; omega⟩
        have hc0 : ∀ wx, Calls Tryd.prog 12 #[.int .i64 x] wx fun e w' => e = .returned (.int .i64 cb.toNat) ∧ Below wx.heap.size wx w' := fun wx => (hbc wx).mono fun e w' h => by
          unfold rbyV at h; rw [hbx] at h; rw [hcv]; exact h
        rw [hcb] at hnx
        have hsr : ∀ wx : World, Src (wx.alloc (.cells #[.int .u8 cb.toNat] 5)) (some ⟨wx.heap.size, 0, none⟩) 1 [cb] := fun wx => lit_src [cb] wx (by simp)
        have HNX := Lib.hid hnx
        have HC := Lib.hid hc0
        have HSR := Lib.hid hsr
        have hc0n : 0 ≤ (cb.toNat : Int) := by omega
        have hc255 : (cb.toNat : Int) ≤ 255 := by have := cb.toNat_lt; omega
        clear hno hyes hbc hbx hacc hc0 hcb hcv hnx hc hsr
        go_wp2_with fail
        refine (HC.out _).mono ?_; rintro e w2 ⟨rfl, hb2⟩
        have HB2 : Hid (Below w.heap.size w w2) := Lib.hid (HB.out.trans (hb2.mono HB.out.size))
        have HC2 : Hid (Below w1.heap.size w1 w2) := Lib.hid (HB1.out.trans (hb2.mono HB1.out.size))
        have HO2 : Hid (OwnB (w2.alloc (.cells #[.int .u8 cb.toNat] 5)) w1.heap.size _ acc) := Lib.hid (World.ownsRow.alloc (hown_below HO.out hb2) _)
        have HSZ : Hid (w1.heap.size ≤ (w2.alloc (.cells #[.int .u8 cb.toNat] 5)).heap.size) := Lib.hid (by have := HC2.out.size; simp; omega)
        clear hb2
        go_wp2_with (at_builtin; refine app_bytes rfl _ _ rfl w1.heap.size _ acc rfl HO2.out _ 1 1 [cb] rfl rfl (HSR.out _) ?n2 HSZ.out ?_)
        case n2 => simp only [List.length_cons, List.length_nil]; omega
        intro v3 w3 hown3 hb3 hgr
        have HO3 := Lib.hid hown3
        have HC3 : Hid (Below w1.heap.size w1 w3) := Lib.hid ((HC2.out.alloc HC2.out.size _).trans hb3.out)
        have HB3 : Hid (Below w.heap.size w w3) := Lib.hid (HB0.out.trans (HC3.out.mono HB0.out.size))
        clear hown3 hb3
        go_wp2
        go_roundw
        case rel => exact ⟨k + 1, _, by omega, by go_num, HNX.out, HO3.out, HC3.out, HB3.out⟩
        case measure => simp [intOf]; omega
    · have HE := Lib.hid (HEND.out k acc (by omega) hacc)
      obtain ⟨a3, c3, rfl, _, hs3⟩ := own_src hown
      have HS3 := Lib.hid hs3
      have HB := Lib.hid hb
      clear hown hb hb1 hs3 hacc
      go_wp2
      go_ret2
      exact encSays_some HE.out rfl HS3.out HB.out
end Go.Proofs.YtagmjbjgphhlcaaDoor
