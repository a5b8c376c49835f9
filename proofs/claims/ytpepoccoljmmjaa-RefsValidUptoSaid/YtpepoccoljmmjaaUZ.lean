/- The document's answers for a row of bytes. -/
import Derived.Test.YtpepoccoljmmjaaUY
set_option linter.unusedVariables false
namespace Go.Proofs.Ytpepoccoljmmjaa
open Go.RowKit

theorem rd_val_le (t : List UInt8) : (rd t).2.1 ≤ 1114111 := by
  unfold rd
  simp only
  split
  · exact chr_le _
  · omega

theorem rns_rd (t : List UInt8) (h : t ≠ []) : rns t = (rd t).2.1 :: rns (t.drop (rd t).1) := by rw [rns_cons t h]; rfl

theorem flt_rd (t : List UInt8) (h : t ≠ []) : flt t = if (rd t).2.2 = true then (rd t).1 + flt (t.drop (rd t).1) else 0 := flt_cons t h

theorem rd_bd (t : List UInt8) (h : t ≠ []) : 1 ≤ (rd t).1 ∧ (rd t).1 ≤ t.length := pc_bd t h

theorem to32_run (x : Int) (h1 : 0 ≤ x) (h2 : x ≤ 1114111) (W : World) : (convert 3 21 (.int .i64 x)).run Try.prog W = .ok (.int .i32 x) W := by
  have := Try.underlying21
  have := Try.underlying3
  go_simp
  exact IntWalk.i32_in x (by omega)

theorem rns_le (l : List UInt8) : ∀ x ∈ rns l, x ≤ 1114111 := by
  induction l using len_ind with
  | _ l ih =>
    by_cases h : l = []
    · subst h; simp [rns_nil]
    · have hb := rd_bd l h
      rw [rns_rd l h]
      intro x hx
      rcases List.mem_cons.1 hx with rfl | hx
      · exact rd_val_le l
      · exact ih _ (by simp only [List.length_drop]; omega) x hx

def ints (l : List Nat) : List Int := l.map fun n : Nat => (n : Int)

set_option maxHeartbeats 4000000 in
theorem refrunes_any (a : Option Addr) (c : Nat) (l : List UInt8) (w : World) (hs : Src w a c l) (hlen : l.length ≤ 134217728) :
    Calls Try.prog 47 #[.slice a l.length c] w fun e w' => ∃ a' c', e = .returned (.slice a' (rns l).length c') ∧ Nums w' a' (ints (rns l)) ∧ Below w.heap.size w w' := by
  have HS := Lib.hid hs
  have hrl := (rns_len l).1
  obtain ⟨R, hR⟩ : ∃ R, R = rns l := ⟨_, rfl⟩
  rw [← hR] at hrl ⊢
  have HR := Lib.hid hR
  clear hs hR
  go_enter Try.func47, Try.ntmps47
  go_wp2_with fail
  go_loopw [3, 4] (fun v i wr => ∃ (pos : Nat) (acc : List Nat), pos ≤ l.length ∧ i = .int .i64 pos ∧ OwnN wr w.heap.size v (ints acc) ∧ acc ++ rns (l.drop pos) = R ∧ Below w.heap.size w wr) (fun _ i _ => l.length - (intOf i).toNat)
  case atStart => exact ⟨0, [], by omega, rfl, World.ownsRow_nil _ _ _ _, by rw [HR.out]; rfl, Below.refl _ _⟩
  case round =>
    obtain ⟨pos, acc, hpos, rfl, hown, hacc, hb⟩ := hrel
    by_cases hlt : pos < l.length
    · have hne : l ≠ [] := by intro h; subst h; simp at hlt
      have hne2 : l.drop pos ≠ [] := by intro h; have := List.drop_eq_nil_iff.1 h; omega
      have hpc : ∀ W, wr = W → Calls Try.prog 48 #[.slice a l.length c, .int .i64 pos] W fun e w' => e = .returned (.tuple #[.int .i64 (rd (l.drop pos)).1, .int .i64 (rd (l.drop pos)).2.1, .bool (rd (l.drop pos)).2.2]) ∧ W = w' := fun W hW => by
        subst hW
        rcases HS.out.bytes with h | ⟨sb, so, rfl, hsb, hrow⟩
        · exact absurd h hne
        · exact rpiece_any l sb so c wr (hrow.below hb hsb) HS.out.cap hlen pos hlt
      have hrr := rns_rd _ hne2
      have hbd := rd_bd _ hne2
      have hvl := rd_val_le (l.drop pos)
      rw [List.drop_drop] at hrr
      rw [List.length_drop] at hbd
      rw [hrr] at hacc
      generalize (rd (l.drop pos)).1 = n at hpc hacc hbd
      generalize (rd (l.drop pos)).2.1 = v at hpc hacc hvl
      generalize (rd (l.drop pos)).2.2 = ok at hpc
      have hv0 : (0 : Int) ≤ v := by omega
      have hcv := to32_run (v : Int) hv0 (by omega)
      have hal : acc.length + 1 ≤ R.length := by rw [← hacc]; simp
      have HP := Lib.hid hpc
      have HAc : Hid ((acc ++ [v]) ++ rns (l.drop (pos + n)) = R) := Lib.hid (by rw [← hacc]; simp)
      have HOA : Hid (OwnN (wr.alloc (.cells #[.int .i32 v] 21)) w.heap.size _ (ints acc)) := Lib.hid (World.ownsRow.alloc hown _)
      have HNS := Lib.hid (lit_one (v : Int) wr _ rfl)
      have HSZ : Hid (w.heap.size ≤ (wr.alloc (.cells #[.int .i32 v] 21)).heap.size) := Lib.hid (by have := hb.size; simp; omega)
      have HB := Lib.hid hb
      clear hown hb hpc hrr hacc hne2 hne
      go_wp2_with fail
      refine (HP.out _ rfl).mono ?_; rintro e w2 ⟨rfl, rfl⟩
      go_wp2_with (at_builtin; refine app_nums rfl _ _ rfl w.heap.size _ (ints acc) rfl HOA.out _ 1 1 [(v : Int)] rfl rfl HNS.out (fun h => by cases h) ?n2 HSZ.out ?_)
      case n2 => simp only [ints, List.length_map, List.length_cons, List.length_nil]; omega
      intro v3 w3 hown3 hb3 _
      have HO3 : Hid (OwnN w3 w.heap.size v3 (ints (acc ++ [v]))) := Lib.hid (by rw [show ints (acc ++ [v]) = ints acc ++ [(v : Int)] by simp [ints]]; exact hown3)
      have HB3 : Hid (Below w.heap.size w w3) := Lib.hid ((HB.out.alloc HB.out.size _).trans hb3.out)
      clear hown3 hb3
      go_wp2
      go_roundw
      case rel => exact ⟨pos + n, acc ++ [v], by omega, by go_num, HO3.out, HAc.out, HB3.out⟩
      case measure => simp [intOf]; omega
    · rw [List.drop_eq_nil_iff.2 (by omega), rns_nil, List.append_nil] at hacc
      subst hacc
      obtain ⟨a3, c3, rfl, hn3, _, _⟩ := ownN_src hown
      have hln : (ints acc).length = acc.length := by simp [ints]
      rw [hln]
      have HN3 := Lib.hid hn3
      have HB := Lib.hid hb
      clear hown hb hn3 hln
      go_wp2
      go_ret
      exact ⟨_, _, rfl, HN3.out, HB.out⟩

set_option maxHeartbeats 4000000 in
theorem reffault_any (a : Option Addr) (c : Nat) (l : List UInt8) (w : World) (hs : Src w a c l) (hlen : l.length ≤ 134217728) :
    Calls Try.prog 28 #[.slice a l.length c] w fun e w' => e = .returned (.int .i64 (flt l)) ∧ w = w' := by
  have HS := Lib.hid hs
  obtain ⟨f, hf⟩ : ∃ f, f = flt l := ⟨_, rfl⟩
  rw [← hf]
  have H0 : Hid (0 + flt (l.drop 0) = f) := Lib.hid (by simp [hf])
  clear hs hf
  go_enter Try.func28, Try.ntmps28
  go_wp2_with fail
  go_loop [3] (fun i => ∃ k : Nat, k ≤ l.length ∧ i = .int .i64 k ∧ k + flt (l.drop k) = f) (fun i => l.length - (intOf i).toNat)
  case atStart => exact ⟨0, by omega, rfl, H0.out⟩
  case round =>
    obtain ⟨k, hk, rfl, hkf⟩ := hrel
    by_cases hlt : k < l.length
    · have hne : l ≠ [] := by intro h; subst h; simp at hlt
      have hne2 : l.drop k ≠ [] := by intro h; have := List.drop_eq_nil_iff.1 h; omega
      have hpc : ∀ W, w = W → Calls Try.prog 48 #[.slice a l.length c, .int .i64 k] W fun e w' => e = .returned (.tuple #[.int .i64 (rd (l.drop k)).1, .int .i64 (rd (l.drop k)).2.1, .bool (rd (l.drop k)).2.2]) ∧ W = w' := fun W hW => by
        subst hW
        rcases HS.out.bytes with h | ⟨sb, so, rfl, hsb, hrow⟩
        · exact absurd h hne
        · exact rpiece_any l sb so c w hrow HS.out.cap hlen k hlt
      have hstep := flt_rd _ hne2
      have hbd := rd_bd _ hne2
      rw [List.drop_drop] at hstep
      rw [List.length_drop] at hbd
      generalize (rd (l.drop k)).1 = n at hpc hstep hbd
      generalize (rd (l.drop k)).2.1 = v at hpc
      generalize (rd (l.drop k)).2.2 = ok at hpc hstep
      generalize flt (l.drop k) = fk at hkf hstep
      have HSt := Lib.hid hstep
      have HK := Lib.hid hkf
      have HP := Lib.hid hpc
      clear hstep hkf hpc hne hne2
      cases ok
      · go_wp2_with fail
        refine (HP.out _ rfl).mono ?_; rintro e w' ⟨rfl, rfl⟩
        go_wp2
        go_ret
        exact ⟨ret_int (by have h1 := HSt.out; have h2 := HK.out; simp at h1; omega), rfl⟩
      · go_wp2_with fail
        refine (HP.out _ rfl).mono ?_; rintro e w' ⟨rfl, rfl⟩
        go_wp2
        go_round
        case rel => exact ⟨k + n, by omega, by go_num, by have h1 := HSt.out; have h2 := HK.out; simp only [if_true] at h1; omega⟩
        case measure => simp [intOf]; omega
    · have hkl : k = l.length := by omega
      subst hkl
      have HK : Hid ((l.length : Int) = f) := Lib.hid (by rw [List.drop_length, flt_nil] at hkf; omega)
      clear hkf hlt
      go_wp2
      go_ret
      exact ⟨ret_int HK.out, rfl⟩

set_option maxHeartbeats 2000000 in
theorem refdec_any (a : Option Addr) (c : Nat) (l : List UInt8) (w : World) (hs : Src w a c l) (hlen : l.length ≤ 134217728) :
    Calls Try.prog 27 #[.slice a l.length c] w fun e w' => e = .returned (.string ⟨(dec l).toArray⟩) ∧ Below w.heap.size w w' := by
  have h1 := refrunes_any a c l w hs hlen
  have h2 : ∀ wx a' c', Nums wx a' (ints (rns l)) → Calls Try.prog 46 #[.slice a' (rns l).length c'] wx fun e w' => e = .returned (.string ⟨(dec l).toArray⟩) ∧ Below wx.heap.size wx w' := fun wx a' c' hn => by
    have hil : (ints (rns l)).length = (rns l).length := by simp [ints]
    have := refenc_any a' c' (ints (rns l)) wx hn (by rw [hil]; have := (rns_len l).1; omega) (fun x hx => by
      obtain ⟨y, hy, rfl⟩ := List.mem_map.1 hx
      have := rns_le l y hy
      omega)
    rw [hil, show encs (ints (rns l)) = dec l from encs_rns l] at this
    exact this
  generalize ints (rns l) = I at h1 h2
  generalize (rns l).length = R at h1 h2
  generalize (ByteArray.mk (dec l).toArray) = X at h2
  have H1 := Lib.hid h1
  have H2 := Lib.hid h2
  clear h1 h2 hs
  go_enter Try.func27, Try.ntmps27
  go_wp2_with fail
  refine H1.out.mono ?_; rintro e w2 ⟨a', c', rfl, hn, hb⟩
  have HB := Lib.hid hb
  have HN := Lib.hid hn
  clear hb hn
  go_wp2_with fail
  refine (H2.out _ _ _ HN.out).mono ?_; rintro e w3 ⟨rfl, hb⟩
  have HB3 : Hid (Below w.heap.size w w3) := Lib.hid (HB.out.trans (hb.mono HB.out.size))
  clear hb
  go_wp2
  go_ret
  exact ⟨rfl, HB3.out⟩

end Go.Proofs.Ytpepoccoljmmjaa
