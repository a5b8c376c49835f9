/- Points: what an element is one for. -/
import Derived.Test.YtopmahhlebkjiaaB
namespace Go.Proofs.Ytopmahhlebkjiaa
open Go.RowKit

theorem fidx_cases (l : List (ByteArray × ByteArray)) : fidx l = -1 ∨ ∃ j : Nat, fidx l = j ∧ j < l.length := by
  unfold fidx
  cases h : l.findIdx? (fun a => isEnc a.1) with
  | none => exact .inl rfl
  | some j => exact .inr ⟨j, rfl, (List.findIdx?_eq_some_iff_getElem.1 h).1⟩

/-- what the first encoding says -/
def page (v : ByteArray) : Bool := v.data.toList.map low == [116, 101, 120, 116, 47, 104, 116, 109, 108] || v.data.toList.map low == [97, 112, 112, 108, 105, 99, 97, 116, 105, 111, 110, 47, 120, 104, 116, 109, 108, 43, 120, 109, 108]
def ann (l : List (ByteArray × ByteArray)) : Int := if fidx l < 0 then 0 else if page (l.getD (fidx l).toNat (ByteArray.empty, ByteArray.empty)).2 = true then 2 else 0
theorem ann_vals (l : List (ByteArray × ByteArray)) : ann l = 0 ∨ ann l = 2 := by
  unfold ann; split
  · exact .inl rfl
  · split
    · exact .inr rfl
    · exact .inl rfl

set_option maxHeartbeats 1000000 in
theorem ann_any (w : World) (a : Option Addr) (n c : Nat) (l : List (ByteArray × ByteArray)) (h : Attrs w a n l) :
    Calls Try.prog 21 #[.slice a n c] w fun e w' => e = .returned (.int .i64 (ann l)) ∧ Below w.heap.size w w' := by
  have hi := index_any w a n c l h
  have hn := h.len
  have hb := h.big
  rcases fidx_cases l with hf | ⟨j, hf, hj⟩
  · have ha : ann l = 0 := by unfold ann; rw [if_pos (by omega)]
    rw [hf] at hi
    rw [ha]
    have HI := Lib.hid hi
    clear hi h hf ha hn
    go_enter Try.func21, Try.ntmps21
    go_wp2_with (go_at_call 28; refine (HI.out).mono ?_; rintro e w' ⟨rfl, hb⟩; have HB := Lib.hid hb; clear hb)
    go_ret
    exact ⟨rfl, HB.out⟩
  · obtain ⟨b, o, hao, hbl, h1, h2⟩ := h.at_ j hj
    have hsm := h.small j hj
    have ha : ann l = if page l[j].2 = true then 2 else 0 := by
      unfold ann; rw [if_neg (by omega), hf]
      simp [List.getD_eq_getElem?_getD, List.getElem?_eq_getElem hj]
    rw [hf] at hi
    generalize l[j].2 = v at h2 hsm ha
    generalize ann l = r at ha ⊢
    subst hao
    have hjn : j < n := by omega
    have HI := Lib.hid hi
    have HC := Lib.hid h2
    obtain ⟨Z, hZ⟩ : ∃ Z, Z = v.data.toList.map low := ⟨_, rfl⟩
    have hlow : ∀ w, Calls Try.prog 30 #[.string v] w fun e w' => e = .returned (.string ⟨Z.toArray⟩) ∧ Below w.heap.size w w' := fun w => by rw [hZ]; exact lower_any v w hsm
    have hpg : page v = (Z == [116, 101, 120, 116, 47, 104, 116, 109, 108] || Z == [97, 112, 112, 108, 105, 99, 97, 116, 105, 111, 110, 47, 120, 104, 116, 109, 108, 43, 120, 109, 108]) := by unfold page; rw [hZ]
    have HLo := Lib.hid hlow
    have hzt : (ByteArray.mk Z.toArray).toList = Z := by rw [Lib.toList_data]
    clear hi h hf hn h1 h2 hlow hZ
    cases h1 : (Z == [116, 101, 120, 116, 47, 104, 116, 109, 108])
    · cases h2 : (Z == [97, 112, 112, 108, 105, 99, 97, 116, 105, 111, 110, 47, 120, 104, 116, 109, 108, 43, 120, 109, 108])
      · have HP : Hid (r = 0) := Lib.hid (by rw [ha, hpg]; simp [h1, h2])
        clear hpg ha
        go_enter Try.func21, Try.ntmps21
        go_wp2_with fail
        refine (HI.out).mono ?_; rintro e w2 ⟨rfl, hb2⟩
        have hc := (hb2.cell (p := ⟨b, o + j * 2 + 1, none⟩) hbl).trans HC.out
        have HB := Lib.hid hb2
        clear hb2
        go_wp2_with fail
        refine (HLo.out _).mono ?_; rintro e w3 ⟨rfl, hb3⟩
        have HB3 := Lib.hid (HB.out.trans (hb3.mono HB.out.size))
        clear hb3
        go_wp2
        go_ret
        exact ⟨ret_int HP.out.symm, HB3.out⟩
      · have HP : Hid (r = 2) := Lib.hid (by rw [ha, hpg]; simp [h1, h2])
        clear hpg ha
        go_enter Try.func21, Try.ntmps21
        go_wp2_with fail
        refine (HI.out).mono ?_; rintro e w2 ⟨rfl, hb2⟩
        have hc := (hb2.cell (p := ⟨b, o + j * 2 + 1, none⟩) hbl).trans HC.out
        have HB := Lib.hid hb2
        clear hb2
        go_wp2_with fail
        refine (HLo.out _).mono ?_; rintro e w3 ⟨rfl, hb3⟩
        have HB3 := Lib.hid (HB.out.trans (hb3.mono HB.out.size))
        clear hb3
        go_wp2
        go_ret
        exact ⟨ret_int HP.out.symm, HB3.out⟩
    · have HP : Hid (r = 2) := Lib.hid (by rw [ha, hpg]; simp [h1])
      clear hpg ha
      go_enter Try.func21, Try.ntmps21
      go_wp2_with fail
      refine (HI.out).mono ?_; rintro e w2 ⟨rfl, hb2⟩
      have hc := (hb2.cell (p := ⟨b, o + j * 2 + 1, none⟩) hbl).trans HC.out
      have HB := Lib.hid hb2
      clear hb2
      go_wp2_with fail
      refine (HLo.out _).mono ?_; rintro e w3 ⟨rfl, hb3⟩
      have HB3 := Lib.hid (HB.out.trans (hb3.mono HB.out.size))
      clear hb3
      go_wp2
      go_ret
      exact ⟨ret_int HP.out.symm, HB3.out⟩
end Go.Proofs.Ytopmahhlebkjiaa
