/- Where no reference stands, nothing is changed: the walk. -/
import Derived.Test.YtpepoccoljmmjaaRK
import Derived.Test.YtpepoccoljmmjaaRL
import Derived.Deep.RegionHeld3
set_option linter.unusedVariables false
namespace Go.Proofs.Ytpepoccoljmmjaa
open Go.RowKit Go.Shelf

def noAmp (l : Bs) : Bs := l.filter (fun c => decide (c ≠ 38))
theorem noAmp_snoc (l : Bs) (k : Nat) (h : k < l.length) : noAmp (l.take (k + 1)) = noAmp (l.take k) ++ (if l[k] = 38 then [] else [l[k]]) := by
  unfold noAmp
  rw [List.take_succ_eq_append_getElem h, List.filter_append]
  by_cases hc : l[k] = 38
  · simp [hc]
  · simp [hc]
theorem noAmp_none (q : Bool) (l : Bs) : alls q (noAmp l) = noAmp l := alls_none q _ fun c hc => by
  unfold noAmp at hc
  simpa using (List.mem_filter.1 hc).2
theorem noAmp_len (l : Bs) : (noAmp l).length ≤ l.length := List.length_filter_le _ _
theorem below_drew {B : Nat} {w w' : World} (h : Below B w w') : Below B w w'.drew := h.drew

set_option maxRecDepth 10000 in
set_option maxHeartbeats 8000000 in
theorem plain_walk (X Y : ByteArray) (q : Bool) (w : World) (hm : MaxLen w) (hs : X.size ≤ 1048576) (hs2 : Y.size ≤ 1048576) :
    Calls Try.prog 8 #[.string X, .string Y, .bool q] w fun e w' => e = .returned (.bool true) ∧ Below w.heap.size w w' := by
  have hsh := shown_any w hm
  have hll := len_data X
  have hll2 := len_data Y
  have hA := alls_len q X.data.toList
  have hB := alls_len q Y.data.toList
  have hcX := fun wx => all_any X q wx (by omega) (by omega)
  have hcY := fun wx => all_any Y q wx (by omega) (by omega)
  obtain ⟨TA, hTA⟩ : ∃ T, T = bs (alls q X.data.toList) := ⟨_, rfl⟩
  obtain ⟨TB, hTB⟩ : ∃ T, T = bs (alls q Y.data.toList) := ⟨_, rfl⟩
  rw [← hTA] at hcX
  rw [← hTB] at hcY
  have hTAl : TA.data.toList = alls q X.data.toList := by rw [hTA]; exact data_mk _
  have hTBl : TB.data.toList = alls q Y.data.toList := by rw [hTB]; exact data_mk _
  have hTAs : TA.size ≤ 6291456 := by rw [← len_data, hTAl]; omega
  have hTBs : TB.size ≤ 6291456 := by rw [← len_data, hTBl]; omega
  have hz1 : (X ++ (⟨#[60]⟩ : ByteArray)).size = X.size + 1 := cat_size _ _
  have hz2 : (X ++ (⟨#[60]⟩ : ByteArray) ++ Y).size = X.size + 1 + Y.size := by rw [cat_size, hz1]
  have hz3 : (TA ++ (⟨#[60]⟩ : ByteArray)).size = TA.size + 1 := cat_size _ _
  have hz4 : (TA ++ (⟨#[60]⟩ : ByteArray) ++ TB).size = TA.size + 1 + TB.size := by rw [cat_size, hz3]
  have hl2 : (X ++ (⟨#[60]⟩ : ByteArray) ++ Y).data.toList = X.data.toList ++ 60 :: Y.data.toList := by rw [cat_list, cat_list]; simp
  have hcZ : ∀ wx, Calls Try.prog 21 #[.string (X ++ (⟨#[60]⟩ : ByteArray) ++ Y), .bool q] wx fun e w' => e = .returned (.string (TA ++ (⟨#[60]⟩ : ByteArray) ++ TB)) ∧ Below wx.heap.size wx w' := fun wx => by
    have h1 := alls_lt q Y.data.toList _ X.data.toList (Nat.le_refl _)
    have h2 : alls q (X ++ (⟨#[60]⟩ : ByteArray) ++ Y).data.toList = alls q X.data.toList ++ 60 :: alls q Y.data.toList := by rw [hl2]; exact h1
    have := all_any (X ++ (⟨#[60]⟩ : ByteArray) ++ Y) q wx (by omega) (by rw [h2, List.length_append, List.length_cons]; omega)
    rw [h2, show bs (alls q X.data.toList ++ 60 :: alls q Y.data.toList) = TA ++ (⟨#[60]⟩ : ByteArray) ++ TB by
      rw [← hTAl, ← hTBl, ← mk_data (TA ++ (⟨#[60]⟩ : ByteArray) ++ TB), cat_list, cat_list]; simp [bs]] at this
    exact this
  obtain ⟨l, hl⟩ : ∃ l, l = X.data.toList := ⟨_, rfl⟩
  rw [← hl] at hll
  have hby : ∀ k (hk : k < X.size), ∃ h : k < l.length, X[k] = l[k] := fun k hk => ⟨by omega, by rw [byte_at X k hk]; simp only [hl]⟩
  have hno : ∀ wx, Calls Try.prog 21 #[.string ⟨(noAmp l).toArray⟩, .bool q] wx fun e w' => e = .returned (.string ⟨(noAmp l).toArray⟩) ∧ Below wx.heap.size wx w' := fun wx => by
    have hn := noAmp_len l
    have hd : (⟨(noAmp l).toArray⟩ : ByteArray).data.toList = noAmp l := data_mk _
    have := all_any ⟨(noAmp l).toArray⟩ q wx (by rw [size_mk]; omega) (by rw [hd, noAmp_none]; omega)
    rwa [hd, noAmp_none] at this
  have hnl := noAmp_len l
  have hnk : ∀ k, (noAmp (l.take k)).length ≤ l.length := fun k => by have := noAmp_len (l.take k); rw [List.length_take] at this; omega
  have HSH := Lib.hid hsh
  have HX := Lib.hid hcX
  have HY := Lib.hid hcY
  have HZ := Lib.hid hcZ
  have HNO := Lib.hid hno
  have HBY := Lib.hid hby
  have HNK := Lib.hid hnk
  clear hsh hcX hcY hcZ hno hby hTA hTB hTAl hTBl hl2 hm hA hB hll2 hl
  go_enter Try.func8, Try.ntmps8
  go_wp2_with fail
  refine HSH.out.mono ?_; rintro e w1 ⟨rfl, hb⟩
  have HB0 := Lib.hid hb
  clear hb
  go_wp2_with fail
  go_loopw [8, 9] (fun v i wr => ∃ k : Nat, k ≤ l.length ∧ i = .int .i64 k ∧ OwnB wr w1.heap.size v (noAmp (l.take k)) ∧ Below w1.heap.size w1 wr ∧ Below w.heap.size w wr) (fun _ i _ => l.length - (intOf i).toNat)
  case atStart => exact ⟨0, by omega, rfl, World.ownsRow_nil _ _ _ _, Below.refl _ _, HB0.out⟩
  case round =>
    obtain ⟨k, hk, rfl, hown, hb1, hb⟩ := hrel
    by_cases hlt : k < X.size
    · obtain ⟨hkl, hxk⟩ := HBY.out k hlt
      have hst := noAmp_snoc l k hkl
      by_cases hc : l[k] = 38
      · rw [if_pos hc, List.append_nil] at hst
        have g : ((X[k].toNat : Int) == 38) = true := by rw [hxk, hc]; rfl
        have g2 : ((X[k].toNat : Int) != 38) = false := by rw [hxk, hc]; rfl
        rw [← hst] at hown
        have HO := Lib.hid hown
        have HB1 := Lib.hid hb1
        have HB := Lib.hid hb
        clear hown hb1 hb hst hc hxk
        go_wp2
        go_roundw
        case rel => exact ⟨k + 1, by omega, by go_num, HO.out, HB1.out, HB.out⟩
        case measure => simp [intOf]; omega
      · rw [if_neg hc] at hst
        have hne : (X[k].toNat : Int) ≠ 38 := fun e => hc (by rw [← hxk]; exact UInt8.toNat_inj.1 (by simpa using (by omega : X[k].toNat = 38)))
        have g : ((X[k].toNat : Int) == 38) = false := by rw [beq_eq_false_iff_ne]; exact hne
        have g2 : ((X[k].toNat : Int) != 38) = true := by simp only [bne, g]; rfl
        rw [← hxk] at hst
        have hsr : Src (wr.alloc (.cells #[.int .u8 X[k].toNat] 5)) (some ⟨wr.heap.size, 0, none⟩) 1 [X[k]] := lit_src [X[k]] wr (by simp)
        have hal := HNK.out k
        obtain ⟨acc, hacc⟩ : ∃ acc, acc = noAmp (l.take k) := ⟨_, rfl⟩
        rw [← hacc] at hown hst hal
        have HST := Lib.hid hst
        have HO2 : Hid (OwnB (wr.alloc (.cells #[.int .u8 X[k].toNat] 5)) w1.heap.size _ acc) := Lib.hid (World.ownsRow.alloc hown _)
        have HSZ : Hid (w1.heap.size ≤ (wr.alloc (.cells #[.int .u8 X[k].toNat] 5)).heap.size) := Lib.hid (by have := hb1.size; simp; omega)
        have HSR := Lib.hid hsr
        have HC2 := Lib.hid hb1
        clear hown hb1 hb hst hc hxk hne hsr hacc
        go_wp2_with (at_builtin; refine app_bytes rfl _ _ rfl w1.heap.size _ acc rfl HO2.out _ 1 1 [X[k]] rfl rfl HSR.out ?n2 HSZ.out ?_)
        case n2 => simp only [List.length_cons, List.length_nil]; omega
        intro v3 w3 hown3 hb3 hgr
        have HO3 := Lib.hid hown3
        have HC3 : Hid (Below w1.heap.size w1 w3) := Lib.hid ((HC2.out.alloc HC2.out.size _).trans hb3.out)
        have HB3 : Hid (Below w.heap.size w w3) := Lib.hid (HB0.out.trans (HC3.out.mono HB0.out.size))
        clear hown3 hb3
        go_wp2
        go_roundw
        case rel => exact ⟨k + 1, by omega, by go_num, by rw [HST.out]; exact HO3.out, HC3.out, HB3.out⟩
        case measure => simp [intOf]; omega
    · obtain rfl : k = l.length := by omega
      rw [List.take_length] at hown
      obtain ⟨a3, c3, rfl, _, hs3⟩ := own_src hown
      have hcv : ∀ wx, Below wr.heap.size wr wx → (convert 33 9 (.slice a3 (noAmp l).length c3)).run Try.prog wx = .ok (.string ⟨(noAmp l).toArray⟩) wx := fun wx h => conv_src wx a3 c3 _ (hs3.below h)
      have HB := Lib.hid hb
      obtain ⟨O, hO⟩ : ∃ O : ByteArray, O = ⟨(noAmp l).toArray⟩ := ⟨_, rfl⟩
      rw [← hO] at hcv
      have HNO2 : Hid (∀ wx, Calls Try.prog 21 #[.string O, .bool q] wx fun e w' => e = .returned (.string O) ∧ Below wx.heap.size wx w') := Lib.hid (by rw [hO]; exact HNO.out)
      generalize (noAmp l).length = n at hcv hnl
      have GA := Lib.hid fun wx (h : Below wr.heap.size wr wx ∧ (convert 33 9 (.slice a3 n c3)).run Try.prog wx = .ok (.string O) wx) => HNO2.out wx
      have GZ := Lib.hid fun wx (h : Below wr.heap.size wr wx ∧ (convert 33 9 (.slice a3 n c3)).run Try.prog wx = .ok (.string O) wx) => HZ.out wx
      have GX := Lib.hid fun wx (h : Below wr.heap.size wr wx ∧ (convert 33 9 (.slice a3 n c3)).run Try.prog wx = .ok (.string O) wx) => HX.out wx
      have GY := Lib.hid fun wx (h : Below wr.heap.size wr wx ∧ (convert 33 9 (.slice a3 n c3)).run Try.prog wx = .ok (.string O) wx) => HY.out wx
      have KD : Hid (Below wr.heap.size wr wr.drew ∧ (convert 33 9 (.slice a3 n c3)).run Try.prog wr.drew = .ok (.string O) wr.drew) := Lib.hid ⟨(Below.refl _ _).drew, hcv _ (Below.refl _ _).drew⟩
      have KT : Hid (∀ wx wy, (Below wr.heap.size wr wx ∧ (convert 33 9 (.slice a3 n c3)).run Try.prog wx = .ok (.string O) wx) → Below wx.heap.size wx wy → (Below wr.heap.size wr wy ∧ (convert 33 9 (.slice a3 n c3)).run Try.prog wy = .ok (.string O) wy)) := Lib.hid fun wx wy h hb => ⟨h.1.trans (hb.mono h.1.size), hcv _ (h.1.trans (hb.mono h.1.size))⟩
      have KE := Lib.hid fun wx (h : Below wr.heap.size wr wx ∧ (convert 33 9 (.slice a3 n c3)).run Try.prog wx = .ok (.string O) wx) => HB.out.trans (h.1.mono HB.out.size)
      clear hown hb hb1 hs3 hcv hO HNO hk
      have g1 : ¬ 9223372036854775807 < TA.size + 1 := by omega
      have g2 : ¬ 9223372036854775807 < TA.size + 1 + TB.size := by omega
      go_wp2_with fail
      go_region_held3 (fun w' => Below wr.heap.size wr w' ∧ (convert 33 9 (.slice a3 n c3)).run Try.prog w' = .ok (.string O) w') (first | exact KD.out | exact KT.out _ _ (by assumption) (by assumption) | assumption)
        (first
          | (go_at_call_of 21 (Value.string O); refine (GA.out _ ?_).mono ?_; assumption; rintro e w' ⟨rfl, hb⟩)
          | (go_at_call_of 21 (Value.string (X ++ (⟨#[60]⟩ : ByteArray) ++ Y)); refine (GZ.out _ ?_).mono ?_; assumption; rintro e w' ⟨rfl, hb⟩)
          | (go_at_call_of 21 (Value.string X); refine (GX.out _ ?_).mono ?_; assumption; rintro e w' ⟨rfl, hb⟩)
          | (go_at_call_of 21 (Value.string Y); refine (GY.out _ ?_).mono ?_; assumption; rintro e w' ⟨rfl, hb⟩))
      go_wp2
      go_ret
      exact ⟨rfl, KE.out _ (by assumption)⟩
end Go.Proofs.Ytpepoccoljmmjaa
