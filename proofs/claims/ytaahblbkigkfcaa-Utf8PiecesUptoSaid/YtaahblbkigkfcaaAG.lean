/- A text that is written while later blocks are kept. -/
import Derived.Test.YtaahblbkigkfcaaD
set_option linter.unusedVariables false
namespace Go.Proofs.Ytaahblbkigkfcaa
open Go.RowKit

/-- these blocks are as they were -/
structure Kp (p : Nat → Prop) (w w' : World) : Prop where
  os : w'.os = w.os
  tape : w'.tape = w.tape
  output : w'.output = w.output
  size : w.heap.size ≤ w'.heap.size
  block : ∀ k, p k → w'.heap[k]? = w.heap[k]?
theorem Kp.refl (p : Nat → Prop) (w : World) : Kp p w w := ⟨rfl, rfl, rfl, Nat.le_refl _, fun _ _ => rfl⟩
theorem Kp.trans {p : Nat → Prop} {a b c : World} (h : Kp p a b) (k : Kp p b c) : Kp p a c :=
  ⟨k.os.trans h.os, k.tape.trans h.tape, k.output.trans h.output, Nat.le_trans h.size k.size, fun i hi => (k.block i hi).trans (h.block i hi)⟩
theorem Kp.sub {p q : Nat → Prop} {w w' : World} (h : Kp p w w') (hq : ∀ k, q k → p k) : Kp q w w' := ⟨h.os, h.tape, h.output, h.size, fun k hk => h.block k (hq k hk)⟩
theorem Kp.of {B : Nat} {p : Nat → Prop} {w w' : World} (h : Below B w w') (hp : ∀ k, p k → k < B) : Kp p w w' := ⟨h.os, h.tape, h.output, h.size, fun k hk => h.block k (hp k hk)⟩
theorem Kp.to {B : Nat} {p : Nat → Prop} {w w' : World} (h : Kp p w w') (hp : ∀ k, k < B → p k) : Below B w w' := ⟨h.os, h.tape, h.output, h.size, fun k hk => h.block k (hp k hk)⟩
theorem Kp.setCell {p : Nat → Prop} {a w : World} (h : Kp p a w) {x : Addr} (hx : ¬ p x.block) (u : Value) : Kp p a (w.setCell x u) :=
  h.trans ⟨rfl, rfl, rfl, by simp [World.setCell], fun k hk => Below.heap_setCell _ _ _ _ (fun e => hx (e ▸ hk))⟩
theorem Kp.grown {p : Nat → Prop} {a w w' : World} {row : Option Nat} (h : Kp p a w) (hg : w.grownBy w' row) (hB : ∀ k, p k → k < w.heap.size) (hr : ∀ k, row = some k → ¬ p k) : Kp p a w' :=
  h.trans ⟨hg.os, hg.tape, hg.output, hg.size, fun k hk => hg.block k (hB k hk) (fun e => hr k e.symm hk)⟩
theorem Row.kp {w w' : World} {p : Nat → Prop} {b o : Nat} {l : List UInt8} (h : Row w b o l) (hb : Kp p w w') (hp : p b) : Row w' b o l :=
  fun j hj => (World.cell?_of_block (w := w) (a := ⟨b, o + j, none⟩) (hb.block b hp)).trans (h j hj)

/-- below N, but for the writer's own block -/
def KD (N b : Nat) : Nat → Prop := fun k => k < N ∧ k ≠ b
theorem not_kd (N b : Nat) : ¬ KD N b b := fun h => h.2 rfl

def AtK (N b : Nat) (p : Value) (l : List UInt8) (w : World) : Prop :=
  b < N ∧ N ≤ w.heap.size ∧ ∃ v, w.heap[b]? = some (.cells #[p, v] 46 (0, 0)) ∧ w.ownsRowF N 5 1 v (Lib.byteCells l).length (Lib.byteCells l)
def IsK (N b : Nat) (l : List UInt8) (w : World) : Prop := AtK N b (.pointer none) l w ∨ AtK N b (.pointer (some ⟨b, 0, none⟩)) l w
theorem ownF_set {N b : Nat} {w : World} {v u : Value} {n : Nat} {xs : List Value} (h : w.ownsRowF N 5 1 v n xs) (hb : b < N) (i : Nat) : (w.setCell ⟨b, i, none⟩ u).ownsRowF N 5 1 v n xs :=
  h.kept (row := some b) ⟨rfl, rfl, rfl, by simp [World.setCell], fun k _ hk => Below.heap_setCell _ _ _ _ (fun e => hk (by simp [e]))⟩ (Or.inr (fun e => by have := (h.lt b e).1; omega))

theorem cc_k (N b : Nat) (l : List UInt8) (w : World) (h : IsK N b l w) :
    Calls Try.prog 39 #[.pointer (some ⟨b, 0, none⟩)] w fun e w' => e = .returned (.tuple #[]) ∧ AtK N b (.pointer (some ⟨b, 0, none⟩)) l w' ∧ Kp (KD N b) w w' := by
  rcases h with ⟨h1, h2, v, h3, h4⟩ | ⟨h1, h2, v, h3, h4⟩
  · refine (cc_fresh b w (by rw [Lib.cell_of_heap h3]; rfl) (by simp [World.shape?, h3]) (Lib.frozen_of_heap h3 0)).mono ?_
    rintro e w' ⟨rfl, rfl⟩
    refine ⟨rfl, ⟨h1, by simp [World.setCell]; omega, v, ?_, ownF_set h4 h1 0⟩, (Kp.refl _ _).setCell (x := ⟨b, 0, none⟩) (not_kd N b) _⟩
    simp [World.setCell, Array.getElem?_modify, h3]
  · refine (cc_used b w (by rw [Lib.cell_of_heap h3]; rfl)).mono ?_
    rintro e w' ⟨rfl, rfl⟩
    exact ⟨rfl, ⟨h1, h2, v, h3, h4⟩, Kp.refl _ _⟩

theorem left_k {N b : Nat} {l m : List UInt8} {v v' : Value} {w w1 w2 : World} (hB : b < N) (hN : N ≤ w1.heap.size) (hbk : w1.heap[b]? = some (.cells #[.pointer (some ⟨b, 0, none⟩), v] 46 (0, 0))) (hown : w1.ownsRowF N 5 1 v (Lib.byteCells l).length (Lib.byteCells l))
    (hb1 : Kp (KD N b) w w1) (hown' : w2.ownsRowF N 5 1 v' (l.length + m.length) (Lib.byteCells l ++ Lib.byteCells m)) (hgrow : w1.grownBy w2 v.ownBlock) :
    w2.cell? ⟨b, 0, none⟩ = some (.pointer (some ⟨b, 0, none⟩)) ∧ w2.cell? ⟨b, 1, none⟩ = some v ∧ w2.frozen? ⟨b, 1, none⟩ = false ∧ (∃ ao n c, v' = .slice ao n c) ∧
      IsK N b (l ++ m) (w2.setCell ⟨b, 1, none⟩ v') ∧ Kp (KD N b) w (w2.setCell ⟨b, 1, none⟩ v') := by
  have hlt : b < w1.heap.size := (Array.getElem?_eq_some_iff.1 hbk).1
  have hne : v.ownBlock ≠ some b := fun e => by have := (hown.lt b e).1; omega
  have hb2 : w2.heap[b]? = some (.cells #[.pointer (some ⟨b, 0, none⟩), v] 46 (0, 0)) := by
    rw [hgrow.block b hlt (fun e => hne e.symm)]; exact hbk
  refine ⟨by rw [Lib.cell_of_heap hb2]; rfl, by rw [Lib.cell_of_heap hb2]; rfl, Lib.frozen_of_heap hb2 1, ?_, .inr ⟨hB, by have := hgrow.size; simp [World.setCell]; omega, v', by simp [World.setCell, Array.getElem?_modify, hb2], ?_⟩, ?_⟩
  · rcases hown'.2 with ⟨hv, _⟩ | ⟨g, cap, cur, fz, hv, _⟩
    · exact ⟨_, _, _, hv⟩
    · exact ⟨_, _, _, hv⟩
  · have e : Lib.byteCells (l ++ m) = Lib.byteCells l ++ Lib.byteCells m := by simp [Lib.byteCells]
    rw [e, List.length_append, Lib.byteCells_length, Lib.byteCells_length]; exact ownF_set hown' hB 1
  · exact (hb1.grown hgrow (fun k hk => Nat.lt_of_lt_of_le hk.1 hN) (fun k hk hkd => by have := (hown.lt k hk).1; have := hkd.1; omega)).setCell (x := ⟨b, 1, none⟩) (not_kd N b) _

set_option maxHeartbeats 2000000 in
theorem ws_k (N b : Nat) (l : List UInt8) (s : ByteArray) (w : World) (h : IsK N b l w) (hlen : l.length + s.size ≤ 140737488355328) :
    Calls Try.prog 33 #[.pointer (some ⟨b, 0, none⟩), .string s] w fun e w' => e = .returned (.tuple #[.int .i64 s.size, .nilIface]) ∧ IsK N b (l ++ s.data.toList) w' ∧ Kp (KD N b) w w' := by
  obtain ⟨i0, hi, hz0, hz1, hz2⟩ := info_parts info5
  have hcc := cc_k N b l w h
  clear h
  go_enter Try.func33, Try.ntmps33
  go_wp2_with fail
  refine hcc.mono ?_
  rintro e w1 ⟨rfl, h1, hb1⟩
  obtain ⟨hB, hN, v, hbk, hown⟩ := h1
  have c0 : w1.cell? ⟨b, 0, none⟩ = some (.pointer (some ⟨b, 0, none⟩)) := by rw [Lib.cell_of_heap hbk]; rfl
  have c1 : w1.cell? ⟨b, 1, none⟩ = some v := by rw [Lib.cell_of_heap hbk]; rfl
  go_wp2_with (at_builtin; refine Lib.wpList_append_own_stringF _ rfl _ _ 22 9 rfl N 5 i0 Try.underlying22 Try.underlying9 hi hz0 hz1 hz2 _ _ _ rfl hown s rfl ?c3 ?c4 ?c5 ?_)
  case c3 => rw [Lib.byteCells_length]; unfold maxLen; omega
  case c4 => rw [Lib.byteCells_length]; omega
  case c5 => omega
  intro v' w2 hown' hgrow _
  rw [Lib.byteCells_length, Lib.strCells_eq, show s.size = s.data.toList.length by simp] at hown'
  obtain ⟨d0, d1, f1, ⟨ao, n', cap, rfl⟩, hI, hbel⟩ := left_k hB hN hbk hown hb1 hown' hgrow
  have HI := Lib.hid hI
  have HB := Lib.hid hbel
  clear hI hbel hown' hgrow hown hbk hb1 c0 c1 hcc
  go_wp2
  go_ret2
  exact ⟨rfl, HI.out, HB.out⟩

set_option maxHeartbeats 2000000 in
theorem wr_k (N b : Nat) (l m : List UInt8) (sb so c : Nat) (w : World) (h : IsK N b l w) (hr : Row w sb so m) (hsb : KD N b sb) (hlen : l.length + m.length ≤ 140737488355328) :
    Calls Try.prog 37 #[.pointer (some ⟨b, 0, none⟩), .slice (some ⟨sb, so, none⟩) m.length c] w fun e w' => (∃ v, e = .returned v) ∧ IsK N b (l ++ m) w' ∧ Kp (KD N b) w w' := by
  obtain ⟨i0, hi, hz0, hz1, hz2⟩ := info_parts info5
  have hcc := cc_k N b l w h
  clear h
  go_enter Try.func37, Try.ntmps37
  go_wp2_with fail
  refine hcc.mono ?_
  rintro e w1 ⟨rfl, h1, hb1⟩
  obtain ⟨hB, hN, v, hbk, hown⟩ := h1
  have hr1 := hr.kp hb1 hsb
  have c0 : w1.cell? ⟨b, 0, none⟩ = some (.pointer (some ⟨b, 0, none⟩)) := by rw [Lib.cell_of_heap hbk]; rfl
  have c1 : w1.cell? ⟨b, 1, none⟩ = some v := by rw [Lib.cell_of_heap hbk]; rfl
  go_wp2_with (at_builtin; refine wpList_append_ownF _ rfl _ _ 22 rfl N 5 i0 (.int .u8 0) 1 1 Try.underlying22 hi hz0 hz1 hz2 rfl (by decide) _ _ _ rfl hown ⟨sb, so, none⟩ m.length c (Lib.byteCells m) rfl ?c0 ?c1 ?c2 ?c3 ?c4 ?c5 ?_)
  case c0 => simp [Lib.byteCells]
  case c1 =>
    intro j u hj
    obtain ⟨hjl, rfl⟩ := List.getElem?_eq_some_iff.1 hj
    have hjl' : j < m.length := by simpa [Lib.byteCells] using hjl
    rw [Lib.add_plain, hr1 j hjl']
    simp [Lib.byteCells]
  case c2 => intro u hu; simp only [Lib.byteCells, List.mem_map] at hu; obtain ⟨x, _, rfl⟩ := hu; rfl
  case c3 => rw [Lib.byteCells_length]; unfold maxLen; omega
  case c4 => rw [Lib.byteCells_length]; omega
  case c5 => omega
  intro v' w2 hown' hgrow _
  rw [Lib.byteCells_length] at hown'
  obtain ⟨d0, d1, f1, ⟨ao, n', cap, rfl⟩, hI, hbel⟩ := left_k hB hN hbk hown hb1 hown' hgrow
  have HI := Lib.hid hI
  have HB := Lib.hid hbel
  clear hI hbel hown' hgrow hown hbk hb1 c0 c1 hcc hr hr1
  go_wp2
  go_ret2
  exact ⟨⟨_, rfl⟩, HI.out, HB.out⟩

set_option maxHeartbeats 2000000 in
theorem decode_k (N b sb : Nat) (l acc : List UInt8) (so c : Nat) (w : World) (hI : IsK N b acc w) (hr : Row w sb so l) (hsb : KD N b sb) (hc : l.length ≤ c) (hlen : l.length ≤ 140737488355328) (hbig : c ≤ 9223372036854775807) (htot : (acc ++ dec l).length ≤ 140737488355328) :
    Calls Try.prog 29 #[.pointer (some ⟨b, 0, none⟩), .slice (some ⟨sb, so, none⟩) l.length c] w fun e w' => e = .returned (.tuple #[]) ∧ IsK N b (acc ++ dec l) w' ∧ Kp (KD N b) w w' := by
  have H0 := Lib.hid hI
  have HR := Lib.hid hr
  clear hI hr
  go_enter Try.func29, Try.ntmps29
  go_wp2
  go_loopw [1] (fun v wr => ∃ (m done : List UInt8) (o' c' : Nat), v = .slice (some ⟨sb, o', none⟩) m.length c' ∧ m.length ≤ c' ∧ c' ≤ c ∧ m.length ≤ l.length ∧ Row w sb o' m ∧ (done ++ dec m).length ≤ 140737488355328 ∧ IsK N b done wr ∧ Kp (KD N b) w wr ∧ done ++ dec m = acc ++ dec l) (fun v _ => match v with | .slice _ n _ => n | _ => 0)
  case atStart => exact ⟨l, acc, so, c, rfl, hc, by omega, by omega, HR.out, htot, H0.out, Kp.refl _ _, rfl⟩
  case round =>
    obtain ⟨m, done, o', c', rfl, hmc, hcc, hml, hrm, hdl, hI, hb, heq⟩ := hrel
    have hmi : m.length ≤ 140737488355328 := by omega
    by_cases hm : 0 < m.length
    · have hne : m ≠ [] := by intro h; subst h; simp at hm
      have hrw := hrm.kp hb hsb
      have hfl := flt_le m
      have hdf := dec_flt m
      have hfd : done.length + (m.take (flt m)).length ≤ 140737488355328 := by
        rw [hdf] at hdl
        simp only [List.length_append] at hdl ⊢
        omega
      have hfault : Calls Try.prog 15 #[.slice (some ⟨sb, o', none⟩) m.length c'] wr fun e w' => e = .returned (.int .i64 (flt m)) ∧ wr = w' := fault_any m sb o' c' wr hrw hmc (by omega)
      have hwrite : Calls Try.prog 37 #[.pointer (some ⟨b, 0, none⟩), .slice (some ⟨sb, o', none⟩) (flt m) c'] wr fun e w' => (∃ v, e = .returned v) ∧ IsK N b (done ++ m.take (flt m)) w' ∧ Kp (KD N b) wr w' := by
        have := wr_k N b done (m.take (flt m)) sb o' c' wr hI (hrw.take _) hsb hfd
        rw [List.length_take, Nat.min_eq_left hfl] at this
        exact this
      have hst : ∀ W, (Instr.slice 22 (.slice (some ⟨sb, o', none⟩) m.length c') none (some (.int .i64 (flt m))) none).run Try.prog W = .ok (.slice (some ⟨sb, o', none⟩) (flt m) c') W := sl_to sb o' m.length c' (flt m) hfl hmc
      obtain ⟨o2, hsf, ho2⟩ := sl_from sb o' m.length c' (flt m) hfl hmc
      have hrow2 := hrm.from ho2
      have hml2 : (m.drop (flt m)).length = m.length - flt m := List.length_drop
      by_cases hfe : flt m = m.length
      · rw [if_pos hfe] at hdf
        have HQ : Hid ((done ++ m.take (flt m)) ++ dec (m.drop (flt m)) = acc ++ dec l) := Lib.hid (by rw [← heq, hdf, List.drop_eq_nil_iff.2 (by omega), dec_nil]; simp)
        have HD : Hid (((done ++ m.take (flt m)) ++ dec (m.drop (flt m))).length ≤ 140737488355328) := Lib.hid (by rw [HQ.out]; exact htot)
        generalize done ++ m.take (flt m) = done2 at hwrite HQ HD
        generalize m.drop (flt m) = m2 at hrow2 hml2 HQ HD
        rw [hfe] at hfault hwrite hst hsf hml2
        have hml3 : m.length - m.length = 0 := by omega
        rw [hml3] at hsf hml2
        have HF := Lib.hid hfault
        have HW := Lib.hid hwrite
        have HR2 := Lib.hid hrow2
        have HM2 := Lib.hid hml2
        have HB := Lib.hid hb
        clear hfd heq hdf hfault hwrite hrow2 ho2 hfl hfe hml2 hml3 hI hrw hrm hdl hne hb
        go_wp2_with fail
        refine HF.out.mono ?_; rintro e w1 ⟨rfl, rfl⟩
        go_wp2_with fail
        refine HW.out.mono ?_; rintro e w2 ⟨⟨_, rfl⟩, hI2, hb2⟩
        have HI2 := Lib.hid hI2
        have HB2 := Lib.hid (HB.out.trans hb2)
        clear hI2 hb2
        go_wp2
        go_roundw
        case rel => exact ⟨m2, done2, o2, c' - m.length, by rw [HM2.out], by have := HM2.out; omega, by omega, by have := HM2.out; omega, HR2.out, HD.out, HI2.out, HB2.out, HQ.out⟩
        case measure => simp; omega
      · have hlt : flt m < m.length := by omega
        have hne2 : m.drop (flt m) ≠ [] := by intro h; rw [h] at hml2; simp at hml2; omega
        rw [if_neg hfe] at hdf
        have hpb := pc_bd _ hne2
        have hpc : ∀ wx, Kp (KD N b) w wx → Calls Try.prog 31 #[.slice (some ⟨sb, o2, none⟩) (m.length - flt m) (c' - flt m)] wx fun e w' => e = .returned (.tuple #[.int .i64 (pc (m.drop (flt m))).1, .bool (pc (m.drop (flt m))).2]) ∧ wx = w' := fun wx hbx => by
          have := piece_any (m.drop (flt m)) sb o2 (c' - flt m) wx hne2 (hrow2.kp hbx hsb) (by omega)
          rw [hml2] at this
          exact this
        obtain ⟨o3, hs3, ho3⟩ := sl_from sb o2 (m.length - flt m) (c' - flt m) (pc (m.drop (flt m))).1 (by omega) (by omega)
        have hrow3 := hrow2.from (lo := (pc (m.drop (flt m))).1) (o' := o3) (fun h => ho3 (by omega))
        have hml3 : ((m.drop (flt m)).drop (pc (m.drop (flt m))).1).length = m.length - flt m - (pc (m.drop (flt m))).1 := by rw [List.length_drop, hml2]
        have HQ : Hid ((done ++ m.take (flt m) ++ (ByteArray.mk #[239, 191, 189]).data.toList) ++ dec ((m.drop (flt m)).drop (pc (m.drop (flt m))).1) = acc ++ dec l) := Lib.hid (by
          rw [← heq, hdf, List.drop_drop]; simp [fffd])
        have HD : Hid (((done ++ m.take (flt m) ++ (ByteArray.mk #[239, 191, 189]).data.toList) ++ dec ((m.drop (flt m)).drop (pc (m.drop (flt m))).1)).length ≤ 140737488355328) := Lib.hid (by rw [HQ.out]; exact htot)
        have hw3 : (done ++ m.take (flt m)).length + 3 ≤ 140737488355328 := by
          have h := HD.out
          rw [List.length_append, List.length_append (bs := (ByteArray.mk #[239, 191, 189]).data.toList), show (ByteArray.mk #[239, 191, 189]).data.toList.length = 3 from rfl] at h
          omega
        have hws : ∀ wx, IsK N b (done ++ m.take (flt m)) wx → Kp (KD N b) w wx → Calls Try.prog 33 #[.pointer (some ⟨b, 0, none⟩), .string ⟨#[239, 191, 189]⟩] wx fun e w' => e = .returned (.tuple #[.int .i64 (ByteArray.mk #[239, 191, 189]).size, .nilIface]) ∧ IsK N b (done ++ m.take (flt m) ++ (ByteArray.mk #[239, 191, 189]).data.toList) w' ∧ Kp (KD N b) wx w' := fun wx hi hbx => ws_k N b _ ⟨#[239, 191, 189]⟩ wx hi (by rw [show (ByteArray.mk #[239, 191, 189]).size = 3 from rfl]; exact hw3)
        generalize (done ++ m.take (flt m) ++ (ByteArray.mk #[239, 191, 189]).data.toList) = done3 at HQ HD hws
        generalize done ++ m.take (flt m) = done2 at hwrite hws
        generalize (m.drop (flt m)).drop (pc (m.drop (flt m))).1 = m3 at HQ HD hrow3 hml3
        generalize (pc (m.drop (flt m))).1 = n3 at hpb hpc hs3 hml3
        generalize (pc (m.drop (flt m))).2 = ok3 at hpc
        rw [hml2] at hpb
        generalize flt m = n at hfault hwrite hst hsf hlt hpc hs3 hml3 hpb
        have HF := Lib.hid hfault
        have HW := Lib.hid hwrite
        have HS := Lib.hid hws
        have HP := Lib.hid hpc
        have HR3 := Lib.hid hrow3
        have HM3 := Lib.hid hml3
        have HB := Lib.hid hb
        have hgt : 0 < m.length - n := by omega
        clear hfd hw3 heq hdf hfault hwrite hws hpc hrow2 hrow3 ho2 ho3 hfl hfe hml2 hml3 hI hrw hrm hdl hne hne2 hb
        go_wp2_with fail
        refine HF.out.mono ?_; rintro e w1 ⟨rfl, rfl⟩
        go_wp2_with fail
        refine HW.out.mono ?_; rintro e w2 ⟨⟨_, rfl⟩, hI2, hb2⟩
        have HI2 := Lib.hid hI2
        have HB2 := Lib.hid (HB.out.trans hb2)
        clear hI2 hb2
        go_wp2_with fail
        refine (HS.out _ HI2.out HB2.out).mono ?_; rintro e w3 ⟨rfl, hI3, hb3⟩
        have HI3 := Lib.hid hI3
        have HB3 := Lib.hid (HB2.out.trans hb3)
        clear hI3 hb3
        go_wp2_with fail
        refine (HP.out _ HB3.out).mono ?_; rintro e w4 ⟨rfl, rfl⟩
        go_wp2
        go_roundw
        case rel => exact ⟨m3, done3, o3, c' - n - n3, by rw [HM3.out], by have := HM3.out; omega, by omega, by have := HM3.out; omega, HR3.out, HD.out, HI3.out, HB3.out, HQ.out⟩
        case measure => simp; omega
    · have h0 : m = [] := List.eq_nil_of_length_eq_zero (by omega)
      subst h0
      have HQ : Hid (done = acc ++ dec l) := Lib.hid (by rw [← heq, dec_nil, List.append_nil])
      have HI2 := Lib.hid hI
      have HB2 := Lib.hid hb
      clear hI hb heq hrm hm
      go_wp2
      go_end0
      exact ⟨rfl, by rw [← HQ.out]; exact HI2.out, HB2.out⟩

theorem decode_nil_k (N b : Nat) (acc : List UInt8) (a : Option Addr) (c : Nat) (w : World) (hI : IsK N b acc w) :
    Calls Try.prog 29 #[.pointer (some ⟨b, 0, none⟩), .slice a 0 c] w fun e w' => e = .returned (.tuple #[]) ∧ w = w' := by
  have H0 := Lib.hid hI
  clear hI
  go_enter Try.func29, Try.ntmps29
  go_wp2
  go_loop [1] (fun v => v = .slice a 0 c) (fun v => 0)
  case atStart => rfl
  case round =>
    obtain rfl := hrel
    go_wp2
    go_end0
    exact ⟨rfl, rfl⟩

end Go.Proofs.Ytaahblbkigkfcaa
