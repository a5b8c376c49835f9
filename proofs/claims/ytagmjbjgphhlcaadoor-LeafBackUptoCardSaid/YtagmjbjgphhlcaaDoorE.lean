/- The characters of bytes; numbers written as characters. -/
import Derived.Test.YtagmjbjgphhlcaaDoorD
import Derived.Test.YtagmjbjgphhlcaaDoorW
import Derived.Lib.OthersKept
set_option linter.unusedVariables false
namespace Go.Proofs.YtagmjbjgphhlcaaDoor
open Go.RowKit

def c32 (n : Nat) : Value := .int .i32 n
theorem info21 : (Tryd.prog.info? 21).map (fun i => (i.zero, i.size, i.bytes)) = some (some (.int .i32 0), 1, 4) := by kernel_rfl
theorem own_mono {w : World} {base base' : Nat} {e : TypeId} {size : Nat} {v : Value} {n : Nat} {xs : List Value} (h : w.ownsRow base e size v n xs) (hb : base' ≤ base) : w.ownsRow base' e size v n xs := by
  refine ⟨h.1, ?_⟩
  rcases h.2 with h | ⟨g, cap, cur, h1, h2, h3⟩
  · exact .inl h
  · exact .inr ⟨g, cap, cur, h1, by omega, h3⟩
theorem own_iter {w : World} {base k : Nat} {e : TypeId} {size : Nat} {v : Value} {n : Nat} {xs : List Value} (h : w.ownsRow base e size v n xs) (hk : k < base) (s : ByteArray) (pos : Nat) : (w.iterAt k s pos).ownsRow base e size v n xs := by
  refine ⟨h.1, ?_⟩
  rcases h.2 with h | ⟨g, cap, cur, h1, h2, h3, h4⟩
  · exact .inl h
  · exact .inr ⟨g, cap, cur, h1, h2, (Lib.iterAt_other w k g s pos (by omega)).trans h3, h4⟩
theorem own_slice {w : World} {base : Nat} {e : TypeId} {size : Nat} {v : Value} {n : Nat} {xs : List Value} (h : w.ownsRow base e size v n xs) : ∃ a c, v = .slice a n c := by
  rcases h.2 with ⟨rfl, rfl⟩ | ⟨g, cap, cur, rfl, _⟩
  · exact ⟨_, _, rfl⟩
  · exact ⟨_, _, rfl⟩

set_option maxHeartbeats 2000000 in
theorem runes_big (a : Option Addr) (c : Nat) (l : List UInt8) (w : World) (hr : Bytes w a l) (hc : l.length ≤ c) (hlen : l.length ≤ 140737488355328) (htot : (dec l).length ≤ 140737488355328) (hlen2 : (rns l).length ≤ 35184372088832) (hbig : c ≤ 9223372036854775807) :
    Calls Tryd.prog 26 #[.slice a l.length c] w fun e w' => ∃ v, e = .returned v ∧ w'.ownsRow w.heap.size 21 1 v (rns l).length ((rns l).map c32) ∧ Below w.heap.size w w' := by
  obtain ⟨i0, hi, hz0, hz1, hz2⟩ := info_parts info21
  have hd := dec_big a c l w hr hc hlen htot hbig
  have hall := dec_ok l
  have hrd := rns_dec l
  generalize dec l = d at hd hall hrd htot
  generalize rns l = R at hrd hlen2
  have HD := Lib.hid hd
  have HA := Lib.hid hall
  have HR := Lib.hid hrd
  clear hd hall hrd hr
  go_enter Tryd.func26, Tryd.ntmps26
  go_wp2_with fail
  refine HD.out.mono ?_; rintro e w1 ⟨rfl, hb⟩
  have HB := Lib.hid hb
  have hbs := hb.size
  clear hb
  obtain ⟨s, hs⟩ : ∃ s : ByteArray, s = ⟨d.toArray⟩ := ⟨_, rfl⟩
  have hsd : s.data.toList = d := by rw [hs]
  rw [← hs]
  have HS := Lib.hid hsd
  have hsz : s.size = d.length := by rw [← hsd]; simp
  have HZ := Lib.hid hsz
  clear hs hsd hsz
  obtain ⟨K, hK⟩ : ∃ K, K = w1.heap.size := ⟨_, rfl⟩
  go_wp2_with fail
  rw [← hK]
  have HK := Lib.hid hK
  have HW := Lib.hid (show w.heap.size ≤ K by omega)
  clear hK hbs
  go_loopw [3] (fun v wr => ∃ (pos : Nat) (acc : List Nat), pos ≤ d.length ∧ wr.heap[K]? = some (.stringIter s pos) ∧ wr.ownsRow (K + 1) 21 1 v acc.length (acc.map c32) ∧ Below w.heap.size w wr ∧ acc ++ rns (d.drop pos) = R ∧ AllOk (d.drop pos)) (fun v wr => s.size - wr.iterPos K)
  case atStart =>
    refine ⟨0, [], by omega, ?_, World.ownsRow_nil _ _ _ _, HB.out.alloc HB.out.size _, by simpa using HR.out, by simpa using HA.out⟩
    have := World.iter_heap w1 s 0
    rw [← HK.out] at this
    exact this
  case round =>
    obtain ⟨pos, acc, hpos, hit, hown, hbel, hacc, hok⟩ := hrel
    have hwsz : K < wr.heap.size := (Array.getElem?_eq_some_iff.1 hit).1
    have hss := HZ.out
    by_cases hp : pos < s.size
    · have hne : d.drop pos ≠ [] := by intro h; have := List.drop_eq_nil_iff.1 h; omega
      have hnx : ∀ ty, (Instr.next (.pointer (some ⟨K, 0, none⟩)) true ty).run Tryd.prog wr = _ := fun ty => Lib.run_next_any_at wr K s pos ty hit hp
      have hdc := decode_chr s pos
      rw [HS.out] at hdc
      obtain ⟨hr1, hr2, hr3, hr4⟩ := ok_round _ hne hok
      have hr5 := chr_le (d.drop pos)
      rw [List.drop_drop] at hr1 hr2
      rw [List.length_drop] at hr4
      rw [hdc] at hnx
      generalize (chr (d.drop pos)).1 = x at hnx hr1 hr5
      generalize (chr (d.drop pos)).2 = n at hnx hr1 hr2 hr3 hr4
      have hit2 := Lib.iterAt_heap wr K s pos (pos + n) hit
      have hbel2 := Lib.below_iterAt hbel (k := K) HW.out s (pos + n)
      have hown2 := own_iter hown (Nat.lt_succ_self K) s (pos + n)
      have hsz2 : (wr.iterAt K s (pos + n)).heap.size = wr.heap.size := Lib.iterAt_size _ _ _ _
      have hal : acc.length < 35184372088832 := by have := congrArg List.length hacc; rw [hr1] at this; simp at this; omega
      have hacc2 : (acc ++ [x]) ++ rns (d.drop (pos + n)) = R := by rw [← hacc, hr1]; simp
      have HI := Lib.hid hit2
      have HBe := Lib.hid hbel2
      have HO := Lib.hid hown2
      have HAc := Lib.hid hacc2
      have HOk := Lib.hid hr2
      have HIt := Lib.hid hit
      have hpn : pos + n ≤ d.length := by omega
      clear hit hit2 hbel hbel2 hown hown2 hacc hacc2 hr1 hr2 hok hdc hne hss
      generalize wr.iterAt K s (pos + n) = w2 at hnx HI HBe HO hsz2
      have hsz3 : K + 1 ≤ w2.heap.size := by omega
      clear hsz2
      go_wp2_with (at_builtin; refine wpList_append_own _ rfl _ _ 38 rfl (K + 1) 21 i0 (.int .i32 0) 1 4 Tryd.underlying38 hi hz0 hz1 hz2 rfl (by decide) _ _ _ rfl (HO.out.alloc _) ⟨w2.heap.size, 0, none⟩ 1 1 [.int .i32 x] rfl rfl ?c1 ?c2 ?c3 ?c4 ?c5 ?_)
      case c1 =>
        intro j u hj
        match j, hj with
        | 0, hj => simp at hj; subst hj; simp [Addr.add]
      case c2 => intro u hu; simp at hu; subst hu; rfl
      case c3 => unfold maxLen; omega
      case c4 => omega
      case c5 => simp; omega
      intro v' w3 hown3 hgrow _
      have hb3 : Below w.heap.size w w3 := ((HBe.out.alloc (by have := HBe.out.size; omega) _).grown hgrow (by have := HBe.out.size; simp; omega) (fun k hk => by have := (HO.out.lt k hk).1; have := HW.out; omega))
      have hit3 : w3.heap[K]? = some (.stringIter s (pos + n)) := by
        rw [hgrow.block K (by simp; omega) (fun e => by have := (HO.out.lt K e.symm).1; omega), Lib.alloc_old w2 _ K (by omega)]
        exact HI.out
      have H1 := Lib.hid hb3
      have H2 := Lib.hid hit3
      have H3 := Lib.hid hown3
      clear hb3 hit3 hown3 hgrow hnx
      go_wp2
      go_roundw
      case rel => exact ⟨pos + n, acc ++ [x], hpn, H2.out, by have := H3.out; simpa [c32] using this, H1.out, HAc.out, HOk.out⟩
      case measure =>
        simp only [World.iterPos, H2.out, HIt.out]
        omega
    · have hnx : ∀ ty, (Instr.next (.pointer (some ⟨K, 0, none⟩)) true ty).run Tryd.prog wr = _ := fun ty => Lib.run_next_end_at wr K s pos ty hit hp
      rw [List.drop_eq_nil_iff.2 (by omega), rns_nil, List.append_nil] at hacc
      subst hacc
      have HO := Lib.hid hown
      have HBe := Lib.hid hbel
      clear hown hbel hit hok
      go_wp2
      go_ret
      exact ⟨_, rfl, own_mono HO.out (by have := HW.out; omega), HBe.out⟩

theorem runes_any (a : Option Addr) (c : Nat) (l : List UInt8) (w : World) (hr : Bytes w a l) (hc : l.length ≤ c) (hlen : l.length ≤ 4194304) (hbig : c ≤ 9223372036854775807) :
    Calls Tryd.prog 26 #[.slice a l.length c] w fun e w' => ∃ v, e = .returned v ∧ w'.ownsRow w.heap.size 21 1 v (rns l).length ((rns l).map c32) ∧ Below w.heap.size w w' := by
  have hlen2 : (rns l).length ≤ 4194304 := by
    have h1 : ∀ m : List UInt8, (rns m).length ≤ m.length := by
      intro m
      induction m using len_ind with
      | _ m ih =>
        by_cases h : m = []
        · subst h; simp [rns_nil]
        · have hb := pc_bd m h
          rw [rns_cons m h, List.length_cons]
          have := ih (m.drop (pc m).1) (by simp only [List.length_drop]; omega)
          simp only [List.length_drop] at this; omega
    have := h1 l; omega
  exact runes_big a c l w hr hc (by omega) (by have := dec_le l; omega) (by omega) hbig

/-- numbers that a slice shows -/
def Nums (w : World) (a : Option Addr) (l : List Int) : Prop := ∀ j (h : j < l.length), ∃ b o, a = some ⟨b, o, none⟩ ∧ b < w.heap.size ∧ w.cell? ⟨b, o + j, none⟩ = some (.int .i32 l[j])
theorem Nums.below {w w' : World} {a : Option Addr} {l : List Int} {B : Nat} (h : Nums w a l) (hB : w.heap.size ≤ B) (hb : Below B w w') : Nums w' a l :=
  fun j hj => by
    obtain ⟨b, o, h1, h2, h3⟩ := h j hj
    exact ⟨b, o, h1, Nat.lt_of_lt_of_le h2 hb.size, (hb.cell (p := ⟨b, o + j, none⟩) (by simp; omega)).trans h3⟩

theorem ofInt_run (x : Int) (W : World) : (convert 21 9 (.int .i32 x)).run Tryd.prog W = .ok (.string (Utf8.encode x)) W := by
  exact run_convert_int_string (P := Tryd.prog) W 21 9 .i32 x (by rw [Tryd.underlying21]; rfl) Tryd.underlying9

theorem encs_snoc (l : List Int) (j : Nat) (hj : j < l.length) : encs (l.take (j + 1)) = encs (l.take j) ++ enc l[j] := by
  rw [List.take_succ_eq_append_getElem hj, encs_append]; simp [encs]

set_option maxHeartbeats 2000000 in
theorem encode_any (a : Option Addr) (c : Nat) (l : List Int) (w : World) (hr : Nums w a l) (hbig : l.length ≤ 35184372088832) :
    Calls Tryd.prog 25 #[.slice a l.length c] w fun e w' => e = .returned (.string ⟨(encs l).toArray⟩) ∧ Below w.heap.size w w' := by
  have hI0 : IsB w.heap.size w.heap.size [] (w.alloc (.cells #[.pointer none, .slice none 0 0] 57)) := Lib.IsBuilderF.of (Lib.fresh_isBuilder 57 5 w)
  have hb0 : Below w.heap.size w (w.alloc (.cells #[.pointer none, .slice none 0 0] 57)) := (Below.refl _ _).alloc (Nat.le_refl _) _
  have HI0 := Lib.hid hI0
  have HB0 := Lib.hid hb0
  have HN := Lib.hid hr
  obtain ⟨E, hE⟩ : ∃ E, E = encs l := ⟨_, rfl⟩
  rw [← hE]
  have HE := Lib.hid hE
  clear hI0 hb0 hr hE
  go_enter Tryd.func25, Tryd.ntmps25
  go_wp2_with fail
  go_loopw [8] (fun i wr => ∃ j : Nat, j ≤ l.length ∧ i = .int .i64 j ∧ IsB w.heap.size w.heap.size (encs (l.take j)) wr ∧ Below w.heap.size w wr) (fun i _ => l.length - (intOf i).toNat)
  case atStart => exact ⟨0, by omega, rfl, by simpa [encs] using HI0.out, HB0.out⟩
  case round =>
    obtain ⟨j, hj, rfl, hI, hb⟩ := hrel
    by_cases hlt : j < l.length
    · obtain ⟨sb, so, rfl, hsb, hcell⟩ := HN.out j hlt
      have hcell2 := (hb.cell (p := ⟨sb, so + j, none⟩) hsb).trans hcell
      have hstep := encs_snoc l j hlt
      have hel := encs_len (l.take j)
      rw [List.length_take] at hel
      have hel2 := enc_len l[j]
      have hws : Calls Tryd.prog 34 #[.pointer (some ⟨w.heap.size, 0, none⟩), .string (Utf8.encode l[j])] wr fun e w' => e = .returned (.tuple #[.int .i64 (Utf8.encode l[j]).size, .nilIface]) ∧ IsB w.heap.size w.heap.size (encs (l.take (j + 1))) w' ∧ Below w.heap.size wr w' := by
        rw [hstep]
        exact ws_any _ _ _ _ wr hI (by rw [show (Utf8.encode l[j]).size = (enc l[j]).length by simp [enc]]; omega) hb.size
      have hcv := ofInt_run l[j] wr
      generalize l[j] = x at hcell2 hws hcv
      have HW := Lib.hid hws
      have HB := Lib.hid hb
      clear hI hb hcell hstep hel hel2 hws
      go_wp2_with fail
      refine HW.out.mono ?_; rintro e w2 ⟨rfl, hI2, hb2⟩
      have HI2 := Lib.hid hI2
      have HB2 := Lib.hid (HB.out.trans hb2)
      clear hI2 hb2
      go_wp2
      go_roundw
      case rel => exact ⟨j + 1, by omega, by go_num, HI2.out, HB2.out⟩
      case measure => simp [intOf]; omega
    · have hjl : l.take j = l := List.take_of_length_le (by omega)
      rw [hjl, ← HE.out] at hI
      have hs := str_any w.heap.size w.heap.size E wr hI hb.size
      have HS := Lib.hid hs
      have HB := Lib.hid hb
      clear hI hb hs hjl
      go_wp2_with fail
      refine HS.out.mono ?_; rintro e w2 ⟨rfl, hb2⟩
      have HB2 := Lib.hid (HB.out.trans hb2)
      clear hb2
      go_wp2
      go_ret
      exact ⟨rfl, HB2.out⟩
end Go.Proofs.YtagmjbjgphhlcaaDoor
