/- The first fault; the characters' bytes. -/
import Derived.Test.YtagmjbjgphhlcaaDoorC
set_option linter.unusedVariables false
namespace Go.Proofs.YtagmjbjgphhlcaaDoor
open Go.RowKit

theorem sl_from (b o len cap lo : Nat) (hl : lo ≤ len) (hc : len ≤ cap) :
    ∃ o', (∀ W : World, (Instr.slice 29 (.slice (some ⟨b, o, none⟩) len cap) (some (.int .i64 lo)) none none).run Tryd.prog W = .ok (.slice (some ⟨b, o', none⟩) (len - lo) (cap - lo)) W) ∧ (lo < len → o' = o + lo) := by
  have h1 : lo ≤ cap := by omega
  by_cases h : cap = lo
  · refine ⟨o, fun W => ?_, fun h => by omega⟩
    subst h
    go_simp
  · refine ⟨o + lo, fun W => ?_, fun _ => rfl⟩
    go_simp
theorem sl_to (b o len cap hi : Nat) (h : hi ≤ len) (hc : len ≤ cap) (W : World) : (Instr.slice 29 (.slice (some ⟨b, o, none⟩) len cap) none (some (.int .i64 hi)) none).run Tryd.prog W = .ok (.slice (some ⟨b, o, none⟩) hi cap) W := by
  have h1 : hi ≤ cap := by omega
  go_simp
theorem Row.from {w : World} {b o o' lo : Nat} {l : List UInt8} (h : Row w b o l) (ho : lo < l.length → o' = o + lo) : Row w b o' (l.drop lo) := by
  rcases Nat.lt_or_ge lo l.length with h1 | h1
  · rw [ho h1]; exact h.drop lo
  · rw [List.drop_eq_nil_iff.2 h1]; intro j hj; simp at hj

theorem fault_nil (c : Nat) (w : World) (a : Option Addr) : Calls Tryd.prog 55 #[.slice a 0 c] w fun e w' => e = .returned (.int .i64 0) ∧ w = w' := by
  go_enter Tryd.func55, Tryd.ntmps55
  go_wp2
  go_loop [3] (fun i => i = .int .i64 0) (fun i => 0)
  case atStart => rfl
  case round =>
    obtain rfl := hrel
    go_wp2
    go_ret
    exact ⟨rfl, rfl⟩

set_option maxHeartbeats 2000000 in
theorem fault_any (l : List UInt8) (b o c : Nat) (w : World) (hr : Row w b o l) (hc : l.length ≤ c) (hbig : c ≤ 9223372036854775807) :
    Calls Tryd.prog 55 #[.slice (some ⟨b, o, none⟩) l.length c] w fun e w' => e = .returned (.int .i64 (flt l)) ∧ w = w' := by
  obtain ⟨f, hf⟩ : ∃ f, f = flt l := ⟨_, rfl⟩
  rw [← hf]
  have hrel0 : 0 + flt (l.drop 0) = f := by simp [hf]
  have HR := Lib.hid hr
  have H0 := Lib.hid hrel0
  clear hr hf hrel0
  go_enter Tryd.func55, Tryd.ntmps55
  go_wp2
  go_loop [3] (fun i => ∃ k : Nat, k ≤ l.length ∧ i = .int .i64 k ∧ k + flt (l.drop k) = f) (fun i => l.length - (intOf i).toNat)
  case atStart => exact ⟨0, by omega, rfl, H0.out⟩
  case round =>
    obtain ⟨k, hk, rfl, hkf⟩ := hrel
    by_cases hlt : k < l.length
    · have hne : l.drop k ≠ [] := by intro h; have := List.drop_eq_nil_iff.1 h; omega
      obtain ⟨o', hsl, ho'⟩ := sl_from b o l.length c k hk hc
      have hrow := HR.out.from ho'
      have hpb := pc_bd (l.drop k) hne
      have hpc : ∀ w', w = w' → Calls Tryd.prog 57 #[.slice (some ⟨b, o', none⟩) (l.length - k) (c - k)] w' fun e w' => e = .returned (.tuple #[.int .i64 (pc (l.drop k)).1, .bool (pc (l.drop k)).2]) ∧ w = w' := fun w' hw => by
        subst hw
        have := piece_any (l.drop k) b o' (c - k) w hne hrow (by simp only [List.length_drop]; omega)
        rw [List.length_drop] at this
        exact this
      have hstep := flt_cons (l.drop k) hne
      rw [List.drop_drop] at hstep
      rw [List.length_drop] at hpb
      generalize (pc (l.drop k)).1 = n at hpc hpb hstep
      generalize (pc (l.drop k)).2 = ok at hpc hstep
      generalize flt (l.drop k) = fk at hkf hstep
      have HS := Lib.hid hstep
      have HK := Lib.hid hkf
      have HP := Lib.hid hpc
      clear hstep hkf hpc hrow ho' hne
      cases ok
      · go_wp2_with fail
        refine (HP.out _ rfl).mono ?_; rintro e w' ⟨rfl, rfl⟩
        go_wp2
        go_ret
        exact ⟨ret_int (by have h1 := HS.out; have h2 := HK.out; simp at h1; omega), rfl⟩
      · go_wp2_with fail
        refine (HP.out _ rfl).mono ?_; rintro e w' ⟨rfl, rfl⟩
        go_wp2
        go_round
        case rel => exact ⟨k + n, by omega, by go_num, by have h1 := HS.out; have h2 := HK.out; simp only [if_true] at h1; omega⟩
        case measure => simp [intOf]; omega
    · have hkl : k = l.length := by omega
      subst hkl
      have HK : Hid ((l.length : Int) = f) := Lib.hid (by rw [List.drop_length, flt_nil] at hkf; omega)
      clear hkf hlt
      go_wp2
      go_ret
      exact ⟨ret_int HK.out, rfl⟩

set_option maxHeartbeats 2000000 in
theorem decode_big (B b sb : Nat) (l acc : List UInt8) (so c : Nat) (w : World) (hI : IsB B b acc w) (hr : Row w sb so l) (hsb : sb < B) (hBw : B ≤ w.heap.size) (hc : l.length ≤ c) (hlen : l.length ≤ 140737488355328) (hbig : c ≤ 9223372036854775807) (htot : (acc ++ dec l).length ≤ 140737488355328) :
    Calls Tryd.prog 47 #[.pointer (some ⟨b, 0, none⟩), .slice (some ⟨sb, so, none⟩) l.length c] w fun e w' => e = .returned (.tuple #[]) ∧ IsB B b (acc ++ dec l) w' ∧ Below B w w' := by
  have H0 := Lib.hid hI
  have HR := Lib.hid hr
  clear hI hr
  go_enter Tryd.func47, Tryd.ntmps47
  go_wp2
  go_loopw [1] (fun v wr => ∃ (m done : List UInt8) (o' c' : Nat), v = .slice (some ⟨sb, o', none⟩) m.length c' ∧ m.length ≤ c' ∧ c' ≤ c ∧ m.length ≤ l.length ∧ Row w sb o' m ∧ (done ++ dec m).length ≤ 140737488355328 ∧ IsB B b done wr ∧ Below B w wr ∧ done ++ dec m = acc ++ dec l) (fun v _ => match v with | .slice _ n _ => n | _ => 0)
  case atStart => exact ⟨l, acc, so, c, rfl, hc, by omega, by omega, HR.out, htot, H0.out, Below.refl _ _, rfl⟩
  case round =>
    obtain ⟨m, done, o', c', rfl, hmc, hcc, hml, hrm, hdl, hI, hb, heq⟩ := hrel
    have hmi : m.length ≤ 140737488355328 := by omega
    by_cases hm : 0 < m.length
    · have hne : m ≠ [] := by intro h; subst h; simp at hm
      have hrw := hrm.below hb hsb
      have hfl := flt_le m
      have hdf := dec_flt m
      have hfd : done.length + (m.take (flt m)).length ≤ 140737488355328 := by
        rw [hdf] at hdl
        simp only [List.length_append] at hdl ⊢
        omega
      have hfault : Calls Tryd.prog 55 #[.slice (some ⟨sb, o', none⟩) m.length c'] wr fun e w' => e = .returned (.int .i64 (flt m)) ∧ wr = w' := fault_any m sb o' c' wr hrw hmc (by omega)
      have hwrite : Calls Tryd.prog 56 #[.pointer (some ⟨b, 0, none⟩), .slice (some ⟨sb, o', none⟩) (flt m) c'] wr fun e w' => (∃ v, e = .returned v) ∧ IsB B b (done ++ m.take (flt m)) w' ∧ Below B wr w' := by
        have := wr_any B b done (m.take (flt m)) sb o' c' wr hI (hrw.take _) hsb hfd (by have := hb.size; omega)
        rw [List.length_take, Nat.min_eq_left hfl] at this
        exact this
      have hst : ∀ W, (Instr.slice 29 (.slice (some ⟨sb, o', none⟩) m.length c') none (some (.int .i64 (flt m))) none).run Tryd.prog W = .ok (.slice (some ⟨sb, o', none⟩) (flt m) c') W := sl_to sb o' m.length c' (flt m) hfl hmc
      obtain ⟨o2, hsf, ho2⟩ := sl_from sb o' m.length c' (flt m) hfl hmc
      have hrow2 := hrm.from ho2
      have hml2 : (m.drop (flt m)).length = m.length - flt m := List.length_drop
      by_cases hfe : flt m = m.length
      · rw [if_pos hfe] at hdf
        have HQ : Hid ((done ++ m.take (flt m)) ++ dec (m.drop (flt m)) = acc ++ dec l) := Lib.hid (by rw [← heq, hdf, List.drop_eq_nil_iff.2 (by omega), dec_nil]; simp)
        have HD : Hid (((done ++ m.take (flt m)) ++ dec (m.drop (flt m))).length ≤ 140737488355328) := Lib.hid (by rw [HQ.out]; exact htot)
        generalize done ++ m.take (flt m) = done2 at hwrite HQ HD
        generalize m.drop (flt m) = m2 at hrow2 hml2 HQ HD
        rw [hfe] at hfault hwrite hst hsf hml2
        have hml3 : m.length - m.length = 0 := by omega
        rw [hml3] at hsf hml2
        have HF := Lib.hid hfault
        have HW := Lib.hid hwrite
        have HR2 := Lib.hid hrow2
        have HM2 := Lib.hid hml2
        have HB := Lib.hid hb
        clear hfd heq hdf hfault hwrite hrow2 ho2 hfl hfe hml2 hml3 hI hrw hrm hdl hne hb
        go_wp2_with fail
        refine HF.out.mono ?_; rintro e w1 ⟨rfl, rfl⟩
        go_wp2_with fail
        refine HW.out.mono ?_; rintro e w2 ⟨⟨_, rfl⟩, hI2, hb2⟩
        have HI2 := Lib.hid hI2
        have HB2 := Lib.hid (HB.out.trans hb2)
        clear hI2 hb2
        go_wp2
        go_roundw
        case rel => exact ⟨m2, done2, o2, c' - m.length, by rw [HM2.out], by have := HM2.out; omega, by omega, by have := HM2.out; omega, HR2.out, HD.out, HI2.out, HB2.out, HQ.out⟩
        case measure => simp; omega
      · have hlt : flt m < m.length := by omega
        have hne2 : m.drop (flt m) ≠ [] := by intro h; rw [h] at hml2; simp at hml2; omega
        rw [if_neg hfe] at hdf
        have hpb := pc_bd _ hne2
        have hpc : ∀ wx, Below B w wx → Calls Tryd.prog 57 #[.slice (some ⟨sb, o2, none⟩) (m.length - flt m) (c' - flt m)] wx fun e w' => e = .returned (.tuple #[.int .i64 (pc (m.drop (flt m))).1, .bool (pc (m.drop (flt m))).2]) ∧ wx = w' := fun wx hbx => by
          have := piece_any (m.drop (flt m)) sb o2 (c' - flt m) wx hne2 (hrow2.below hbx hsb) (by omega)
          rw [hml2] at this
          exact this
        obtain ⟨o3, hs3, ho3⟩ := sl_from sb o2 (m.length - flt m) (c' - flt m) (pc (m.drop (flt m))).1 (by omega) (by omega)
        have hrow3 := hrow2.from (lo := (pc (m.drop (flt m))).1) (o' := o3) (fun h => ho3 (by omega))
        have hml3 : ((m.drop (flt m)).drop (pc (m.drop (flt m))).1).length = m.length - flt m - (pc (m.drop (flt m))).1 := by rw [List.length_drop, hml2]
        have HQ : Hid ((done ++ m.take (flt m) ++ (ByteArray.mk #[239, 191, 189]).data.toList) ++ dec ((m.drop (flt m)).drop (pc (m.drop (flt m))).1) = acc ++ dec l) := Lib.hid (by
          rw [← heq, hdf, List.drop_drop]; simp [fffd])
        have HD : Hid (((done ++ m.take (flt m) ++ (ByteArray.mk #[239, 191, 189]).data.toList) ++ dec ((m.drop (flt m)).drop (pc (m.drop (flt m))).1)).length ≤ 140737488355328) := Lib.hid (by rw [HQ.out]; exact htot)
        have hw3 : (done ++ m.take (flt m)).length + 3 ≤ 140737488355328 := by
          have h := HD.out
          rw [List.length_append, List.length_append (bs := (ByteArray.mk #[239, 191, 189]).data.toList), show (ByteArray.mk #[239, 191, 189]).data.toList.length = 3 from rfl] at h
          omega
        have hws : ∀ wx, IsB B b (done ++ m.take (flt m)) wx → Below B w wx → Calls Tryd.prog 34 #[.pointer (some ⟨b, 0, none⟩), .string ⟨#[239, 191, 189]⟩] wx fun e w' => e = .returned (.tuple #[.int .i64 (ByteArray.mk #[239, 191, 189]).size, .nilIface]) ∧ IsB B b (done ++ m.take (flt m) ++ (ByteArray.mk #[239, 191, 189]).data.toList) w' ∧ Below B wx w' := fun wx hi hbx => ws_any B b _ ⟨#[239, 191, 189]⟩ wx hi (by rw [show (ByteArray.mk #[239, 191, 189]).size = 3 from rfl]; exact hw3) (by have := hbx.size; omega)
        generalize (done ++ m.take (flt m) ++ (ByteArray.mk #[239, 191, 189]).data.toList) = done3 at HQ HD hws
        generalize done ++ m.take (flt m) = done2 at hwrite hws
        generalize (m.drop (flt m)).drop (pc (m.drop (flt m))).1 = m3 at HQ HD hrow3 hml3
        generalize (pc (m.drop (flt m))).1 = n3 at hpb hpc hs3 hml3
        generalize (pc (m.drop (flt m))).2 = ok3 at hpc
        rw [hml2] at hpb
        generalize flt m = n at hfault hwrite hst hsf hlt hpc hs3 hml3 hpb
        have HF := Lib.hid hfault
        have HW := Lib.hid hwrite
        have HS := Lib.hid hws
        have HP := Lib.hid hpc
        have HR3 := Lib.hid hrow3
        have HM3 := Lib.hid hml3
        have HB := Lib.hid hb
        have hgt : 0 < m.length - n := by omega
        clear hfd hw3 heq hdf hfault hwrite hws hpc hrow2 hrow3 ho2 ho3 hfl hfe hml2 hml3 hI hrw hrm hdl hne hne2 hb
        go_wp2_with fail
        refine HF.out.mono ?_; rintro e w1 ⟨rfl, rfl⟩
        go_wp2_with fail
        refine HW.out.mono ?_; rintro e w2 ⟨⟨_, rfl⟩, hI2, hb2⟩
        have HI2 := Lib.hid hI2
        have HB2 := Lib.hid (HB.out.trans hb2)
        clear hI2 hb2
        go_wp2_with fail
        refine (HS.out _ HI2.out HB2.out).mono ?_; rintro e w3 ⟨rfl, hI3, hb3⟩
        have HI3 := Lib.hid hI3
        have HB3 := Lib.hid (HB2.out.trans hb3)
        clear hI3 hb3
        go_wp2_with fail
        refine (HP.out _ HB3.out).mono ?_; rintro e w4 ⟨rfl, rfl⟩
        go_wp2
        go_roundw
        case rel => exact ⟨m3, done3, o3, c' - n - n3, by rw [HM3.out], by have := HM3.out; omega, by omega, by have := HM3.out; omega, HR3.out, HD.out, HI3.out, HB3.out, HQ.out⟩
        case measure => simp; omega
    · have h0 : m = [] := List.eq_nil_of_length_eq_zero (by omega)
      subst h0
      have HQ : Hid (done = acc ++ dec l) := Lib.hid (by rw [← heq, dec_nil, List.append_nil])
      have HI2 := Lib.hid hI
      have HB2 := Lib.hid hb
      clear hI hb heq hrm hm
      go_wp2
      go_end0
      exact ⟨rfl, by rw [← HQ.out]; exact HI2.out, HB2.out⟩

/-- nothing to write -/
theorem decode_nil (B b : Nat) (acc : List UInt8) (a : Option Addr) (c : Nat) (w : World) (hI : IsB B b acc w) :
    Calls Tryd.prog 47 #[.pointer (some ⟨b, 0, none⟩), .slice a 0 c] w fun e w' => e = .returned (.tuple #[]) ∧ w = w' := by
  have H0 := Lib.hid hI
  clear hI
  go_enter Tryd.func47, Tryd.ntmps47
  go_wp2
  go_loop [1] (fun v => v = .slice a 0 c) (fun v => 0)
  case atStart => rfl
  case round =>
    obtain rfl := hrel
    go_wp2
    go_end0
    exact ⟨rfl, rfl⟩

/-- bytes that a slice shows -/
def Bytes (w : World) (a : Option Addr) (l : List UInt8) : Prop := l = [] ∨ ∃ b o, a = some ⟨b, o, none⟩ ∧ b < w.heap.size ∧ Row w b o l
theorem Bytes.below {w w' : World} {a : Option Addr} {l : List UInt8} (h : Bytes w a l) (hb : Below w.heap.size w w') : Bytes w' a l := by
  rcases h with h | ⟨b, o, h1, h2, h3⟩
  · exact .inl h
  · exact .inr ⟨b, o, h1, Nat.lt_of_lt_of_le h2 hb.size, h3.below hb h2⟩

set_option maxHeartbeats 2000000 in
theorem dec_big (a : Option Addr) (c : Nat) (l : List UInt8) (w : World) (hr : Bytes w a l) (hc : l.length ≤ c) (hlen : l.length ≤ 140737488355328) (htot : (dec l).length ≤ 140737488355328) (hbig : c ≤ 9223372036854775807) :
    Calls Tryd.prog 36 #[.slice a l.length c] w fun e w' => e = .returned (.string ⟨(dec l).toArray⟩) ∧ Below w.heap.size w w' := by
  have hI0 : IsB w.heap.size w.heap.size [] (w.alloc (.cells #[.pointer none, .slice none 0 0] 57)) := Lib.IsBuilderF.of (Lib.fresh_isBuilder 57 5 w)
  have hb0 : Below w.heap.size w (w.alloc (.cells #[.pointer none, .slice none 0 0] 57)) := (Below.refl _ _).alloc (Nat.le_refl _) _
  have hd : Calls Tryd.prog 47 #[.pointer (some ⟨w.heap.size, 0, none⟩), .slice a l.length c] (w.alloc (.cells #[.pointer none, .slice none 0 0] 57)) fun e w' => e = .returned (.tuple #[]) ∧ IsB w.heap.size w.heap.size (dec l) w' ∧ Below w.heap.size w w' := by
    rcases hr with rfl | ⟨b, o, rfl, hlt, hr⟩
    · refine (decode_nil _ _ [] a c _ hI0).mono ?_; rintro e w' ⟨rfl, rfl⟩
      rw [dec_nil]
      exact ⟨rfl, hI0, hb0⟩
    · refine (decode_big _ _ b l [] o c _ hI0 (hr.below hb0 hlt) hlt (by simp) hc hlen hbig (by simpa using htot)).mono ?_; rintro e w' ⟨rfl, h1, h2⟩
      exact ⟨rfl, h1, hb0.trans h2⟩
  have HD := Lib.hid hd
  generalize dec l = d at HD
  clear hI0 hb0 hd hr
  go_enter Tryd.func36, Tryd.ntmps36
  go_wp2_with fail
  refine HD.out.mono ?_; rintro e w1 ⟨rfl, hI, hb⟩
  have HB := Lib.hid hb
  have HS := str_any w.heap.size w.heap.size d w1 hI (by have := hb.size; omega)
  clear hI hb
  go_wp2_with fail
  refine HS.mono ?_; rintro e w2 ⟨rfl, hb2⟩
  have HB2 := Lib.hid (HB.out.trans hb2)
  clear hb2
  go_wp2
  go_ret
  exact ⟨rfl, HB2.out⟩
theorem dec_le (l : List UInt8) : (dec l).length ≤ 3 * l.length := by
  induction l using len_ind with
  | _ l ih =>
    by_cases h : l = []
    · subst h; simp [dec_nil]
    · have hb := pc_bd l h
      rw [dec_cons l h, List.length_append]
      have := ih (l.drop (pc l).1) (by simp only [List.length_drop]; omega)
      simp only [List.length_drop] at this
      split
      · simp only [List.length_take]; omega
      · simp only [fffd, List.length_cons, List.length_nil]; omega
theorem dec_any (a : Option Addr) (c : Nat) (l : List UInt8) (w : World) (hr : Bytes w a l) (hc : l.length ≤ c) (hlen : l.length ≤ 4194304) (hbig : c ≤ 9223372036854775807) :
    Calls Tryd.prog 36 #[.slice a l.length c] w fun e w' => e = .returned (.string ⟨(dec l).toArray⟩) ∧ Below w.heap.size w w' :=
  dec_big a c l w hr hc (by omega) (by have := dec_le l; omega) hbig
theorem flt_any (a : Option Addr) (c : Nat) (l : List UInt8) (w : World) (hr : Bytes w a l) (hc : l.length ≤ c) (hbig : c ≤ 9223372036854775807) :
    Calls Tryd.prog 55 #[.slice a l.length c] w fun e w' => e = .returned (.int .i64 (flt l)) ∧ w = w' := by
  rcases hr with rfl | ⟨b, o, rfl, hlt, hr⟩
  · rw [flt_nil]; exact fault_nil c w a
  · exact fault_any l b o c w hr hc hbig
end Go.Proofs.YtagmjbjgphhlcaaDoor
