/- An encoding's name is a label of it, however it is written: the walk. -/
import Derived.Test.YtagmjbjgphhlcaaDoorLV
import Derived.Deep.RegionHeld3
set_option linter.unusedVariables false
namespace Go.Proofs.YtagmjbjgphhlcaaDoor
open Go.RowKit

/-- bools that a slice shows -/
def Bools (w : World) (a : Option Addr) (n : Nat) (B : Nat → Bool) : Prop := ∀ j, j < n → ∃ b o, a = some ⟨b, o, none⟩ ∧ b < w.heap.size ∧ w.cell? ⟨b, o + j, none⟩ = some (.bool (B j))
def LabIs (S : ByteArray) (v : Int) : Prop := S.size ≤ 9223372036854775807 ∧ ((labOf (wordOf S.data.toList) : Nat) : Int) = v

set_option maxHeartbeats 16000000 in
set_option maxRecDepth 100000 in
theorem names_none (w : World) (c x y : Int) (a2 : Option Addr) (n2 c2 : Nat) (hc : c < 1 ∨ 3 < c) :
    Calls Tryd.prog 7 #[.int .i64 c, .slice a2 n2 c2, .int .i64 x, .int .i64 y] w fun e w' => e = .returned (.bool true) ∧ Below w.heap.size w w' := by
  have hn := fun wx => name_any c wx
  have HV : nameOf c = ⟨#[]⟩ := by unfold nameOf; rw [if_neg (by omega), if_neg (by omega), if_neg (by omega)]
  rw [HV] at hn
  have HN := Lib.hid hn
  clear hn HV
  rcases hc with hc | hc
  · go_enter Tryd.func7, Tryd.ntmps7
    go_wp2_with fail
    refine (shown_any _).mono ?_; rintro e w1 ⟨rfl, hb⟩
    have B1 := Lib.hid hb
    clear hb
    go_wp2_with fail
    refine (HN.out _).mono ?_; rintro e w2 ⟨rfl, rfl⟩
    go_wp2
    go_ret
    exact ⟨rfl, B1.out⟩
  · have hc1 : 1 ≤ c := by omega
    go_enter Tryd.func7, Tryd.ntmps7
    go_wp2_with fail
    refine (shown_any _).mono ?_; rintro e w1 ⟨rfl, hb⟩
    have B1 := Lib.hid hb
    clear hb
    go_wp2_with fail
    refine (HN.out _).mono ?_; rintro e w2 ⟨rfl, rfl⟩
    go_wp2
    go_ret
    exact ⟨rfl, B1.out⟩

set_option maxHeartbeats 16000000 in
set_option maxRecDepth 100000 in
theorem names_some (w : World) (N : ByteArray) (c x y : Int) (a2 : Option Addr) (n2 c2 : Nat) (B2 : Nat → Bool) (h2 : Bools w a2 n2 B2) (hn2 : n2 ≤ 9223372036854775807)
    (hnm : ∀ wx, Calls Tryd.prog 19 #[.int .i64 c] wx fun e w' => e = .returned (.string N) ∧ wx = w') (hN1 : 1 ≤ N.size) (hN2 : N.size ≤ 12)
    (hlab : ∀ B : List UInt8, B.map lwr = N.data.toList.map lwr → B.length = N.size → (∀ k1 k2 (h1 : k1 < sps.length) (h2 : k2 < sps.length), LabIs ((sps[k1] ++ ⟨B.toArray⟩) ++ sps[k2]) c) ∧ LabIs ((⟨#[120]⟩ : ByteArray) ++ ⟨B.toArray⟩) 0 ∧ LabIs ((⟨B.toArray⟩ : ByteArray) ++ ⟨#[32, 46]⟩) 0) :
    Calls Tryd.prog 7 #[.int .i64 c, .slice a2 n2 c2, .int .i64 x, .int .i64 y] w fun e w' => e = .returned (.bool true) ∧ Below w.heap.size w w' := by
  have H2 := Lib.hid h2
  have HNM := Lib.hid hnm
  have HLAB := Lib.hid hlab
  obtain ⟨L, hL⟩ : ∃ L, L = N.data.toList := ⟨_, rfl⟩
  have hLl : L.length = N.size := by rw [hL]; simp
  have hne : (N.toList == []) = false := by
    rw [toList_data', ← hL]
    cases L with
    | nil => simp at hLl; omega
    | cons a r => rfl
  rw [← hL] at HLAB
  obtain ⟨Q, hQ⟩ : ∃ Q : World → Prop, Q = fun _ => True := ⟨_, rfl⟩
  clear h2 hnm hlab
  have hblk : ∀ W : World, ∃ W3 cap, (convert 9 29 (.string N)).run Tryd.prog W = .ok (.slice (some ⟨W.heap.size, 0, none⟩) N.size cap) W3 ∧ BRow W.heap.size W3 L ∧ Below W.heap.size W W3 ∧ W.heap.size < W3.heap.size := fun W => by
    refine ⟨_, _, run_bytes_of_string (P := Tryd.prog) W 9 29 5 N Tryd.underlying9 Tryd.underlying29 Tryd.underlying5, ?_, ((Below.refl _ _).drew).alloc (Nat.le_refl _) _, by simp⟩
    rw [hL]; exact BRow.start W N _
  have HBLK := Lib.hid hblk
  have HLL := Lib.hid hLl
  clear hblk hL hLl
  go_enter Tryd.func7, Tryd.ntmps7
  go_wp2_with fail
  refine (shown_any _).mono ?_; rintro e w1 ⟨rfl, hb⟩
  have B1 := Lib.hid hb
  clear hb
  go_wp2_with fail
  refine (HNM.out _).mono ?_; rintro e w2 ⟨rfl, rfl⟩
  obtain ⟨W3, cap, hcv, hrow, hb3, hsz3⟩ := HBLK.out w1
  have HROW := Lib.hid hrow
  have HB3 := Lib.hid hb3
  have HSZ3 := Lib.hid hsz3
  clear hrow hb3 hsz3
  go_wp2_with fail
  clear hcv
  obtain ⟨D, hD⟩ : ∃ D, D = w1.heap.size := ⟨_, rfl⟩
  have HD := Lib.hid hD
  rw [← hD]
  have HROW' : Hid (BRow D W3 L) := Lib.hid (by rw [HD.out]; exact HROW.out)
  have HDW : Hid (D < W3.heap.size) := Lib.hid (by rw [HD.out]; exact HSZ3.out)
  clear hD
  go_loopw [12] (fun i wr => ∃ (k : Nat) (B : List UInt8), k ≤ N.size ∧ i = .int .i64 k ∧ BRow D wr B ∧ B.length = N.size ∧ B.map lwr = L.map lwr ∧ Below w1.heap.size w1 wr ∧ D < wr.heap.size) (fun i _ => N.size - (intOf i).toNat)
  case atStart => exact ⟨0, L, by omega, rfl, HROW'.out, HLL.out, rfl, HB3.out, HDW.out⟩
  case round =>
    obtain ⟨k, B, hk, rfl, hrow, hBl, hBm, hb, hDw⟩ := hrel
    have HR := Lib.hid hrow
    have HBL := Lib.hid hBl
    have HBM := Lib.hid hBm
    have HB := Lib.hid hb
    have HDw := Lib.hid hDw
    clear hrow hBl hBm hb hDw
    have hcase : (k < N.size ∧ k < n2) ∨ (k < N.size ∧ ¬ k < n2) ∨ ¬ k < N.size := by omega
    rcases hcase with ⟨hk1, hk2⟩ | hx
    · obtain ⟨sb, so, rfl, hsb, hcell⟩ := H2.out k hk2
      have hcell2 := ((B1.out.trans (HB.out.mono B1.out.size)).cell (p := ⟨sb, so + k, none⟩) hsb).trans hcell
      have hkB : k < B.length := by rw [HBL.out]; exact hk1
      cases hturn : B2 k with
      | false =>
        rw [hturn] at hcell2
        clear hcell hturn hkB
        go_wp2
        go_roundw
        case rel => exact ⟨k + 1, B, by omega, by go_num, HR.out, HBL.out, HBM.out, HB.out, HDw.out⟩
        case measure => simp [intOf]; omega
      | true =>
        rw [hturn] at hcell2
        obtain ⟨hbc, hbf⟩ := HR.out k hkB
        have hset := HR.out.set k hkB (B[k] ^^^ 32)
        rw [← xor_run] at hset
        have hlw : (65 ≤ B[k].toNat ∧ B[k].toNat ≤ 90 ∨ 97 ≤ B[k].toNat ∧ B[k].toNat ≤ 122) → (B.set k (B[k] ^^^ 32)).map lwr = L.map lwr := fun h => (set_lwr B k hkB _ (lwr_flip _ h)).trans HBM.out
        have hlen : (B.set k (B[k] ^^^ 32)).length = N.size := by rw [List.length_set]; exact HBL.out
        have hbs := HB.out.setCell (p := ⟨D, k, none⟩) (by rw [HD.out]; exact Nat.le_refl _) (.int .u8 (bits .xor .u8 (B[k].toNat : Int) 32))
        have hds : D < (wr.setCell ⟨D, k, none⟩ (.int .u8 (bits .xor .u8 (B[k].toNat : Int) 32))).heap.size := by simpa [World.setCell] using HDw.out
        obtain ⟨B', hB'⟩ : ∃ B', B' = B.set k (B[k] ^^^ 32) := ⟨_, rfl⟩
        rw [← hB'] at hset hlw hlen
        obtain ⟨z, hz⟩ : ∃ z : Int, z = (B[k].toNat : Int) := ⟨_, rfl⟩
        have hz0 : 0 ≤ z := by omega
        have hz1 : z ≤ 255 := by have := B[k].toNat_lt; omega
        have hlw2 : (65 ≤ z ∧ z ≤ 90 ∨ 97 ≤ z ∧ z ≤ 122) → B'.map lwr = L.map lwr := fun h => hlw (by omega)
        rw [← hz] at hbc hset hbs hds
        have HSET := Lib.hid hset
        have HLW := Lib.hid hlw2
        have HLEN := Lib.hid hlen
        have HBS := Lib.hid hbs
        have HDS := Lib.hid hds
        clear hcell hturn hkB hset hlw hlw2 hlen hbs hds hB' hz
        have hzc : (97 ≤ z ∧ z ≤ 122) ∨ (97 ≤ z ∧ 122 < z) ∨ (z < 97 ∧ 65 ≤ z ∧ z ≤ 90) ∨ (z < 97 ∧ 65 ≤ z ∧ 90 < z) ∨ (z < 97 ∧ z < 65) := by omega
        rcases hzc with ⟨g1, g2⟩ | ⟨g1, g2⟩ | ⟨g1, g2, g3⟩ | ⟨g1, g2, g3⟩ | ⟨g1, g2⟩
        · go_wp2
          go_roundw
          case rel => exact ⟨k + 1, B', by omega, by go_num, HSET.out, HLEN.out, HLW.out (.inr ⟨g1, g2⟩), HBS.out, HDS.out⟩
          case measure => simp [intOf]; omega
        · have g3 : 90 < z := by omega
          have g4 : 65 ≤ z := by omega
          go_wp2
          go_roundw
          case rel => exact ⟨k + 1, B, by omega, by go_num, HR.out, HBL.out, HBM.out, HB.out, HDw.out⟩
          case measure => simp [intOf]; omega
        · go_wp2
          go_roundw
          case rel => exact ⟨k + 1, B', by omega, by go_num, HSET.out, HLEN.out, HLW.out (.inl ⟨g2, g3⟩), HBS.out, HDS.out⟩
          case measure => simp [intOf]; omega
        · go_wp2
          go_roundw
          case rel => exact ⟨k + 1, B, by omega, by go_num, HR.out, HBL.out, HBM.out, HB.out, HDw.out⟩
          case measure => simp [intOf]; omega
        · go_wp2
          go_roundw
          case rel => exact ⟨k + 1, B, by omega, by go_num, HR.out, HBL.out, HBM.out, HB.out, HDw.out⟩
          case measure => simp [intOf]; omega
    · obtain ⟨hl1, hl2, hl3⟩ := HLAB.out B HBM.out HBL.out
      have hBs : (ByteArray.mk B.toArray).size ≤ 12 := by rw [size_mk, HBL.out]; exact hN2
      have hcvb : ∀ wx, Below wr.heap.size wr wx → (convert 29 9 (.slice (some ⟨D, 0, none⟩) N.size cap)).run Tryd.prog wx = .ok (.string ⟨B.toArray⟩) wx := fun wx hb => by
        have hc := run_convert_bytes_back (P := Tryd.prog) wx 29 9 5 ⟨D, 0, none⟩ cap B Tryd.underlying29 Tryd.underlying5 Tryd.underlying9 (fun i hi => by
          rw [Lib.add_plain, show 0 + i = i by omega]; exact (hb.cell (p := ⟨D, i, none⟩) HDw.out).trans (HR.out i hi).1)
        rw [HBL.out] at hc; exact hc
      generalize (ByteArray.mk B.toArray) = Bs at hl1 hl2 hl3 hBs hcvb
      have HL1 := Lib.hid hl1
      have HL2 := Lib.hid hl2
      have HL3 := Lib.hid hl3
      have HCVB := Lib.hid hcvb
      clear hl1 hl2 hl3 hcvb
      have k0 := HCVB.out wr (Below.refl _ _)
      have k1 : ∀ C, (convert 29 9 (.slice (some ⟨D, 0, none⟩) N.size cap)).run Tryd.prog (wr.alloc (.cells C 9)) = .ok (.string Bs) (wr.alloc (.cells C 9)) := fun C => HCVB.out _ ((Below.refl _ _).alloc (Nat.le_refl _) _)
      rcases hx with ⟨hk1, hk2⟩ | hk1
      all_goals
        go_wp2_with fail
        clear k0 k1
        obtain ⟨E, hE⟩ : ∃ E, E = wr.heap.size := ⟨_, rfl⟩
        have hcells0 : ∀ j (hj : j < sps.length), (wr.alloc (.cells (sps.map Value.string).toArray 9)).cell? ⟨E, j, none⟩ = some (.string sps[j]) := fun j hj => by rw [hE]; exact strs_cells wr sps j hj
        have hal0 : Below wr.heap.size wr (wr.alloc (.cells (sps.map Value.string).toArray 9)) := (Below.refl _ _).alloc (Nat.le_refl _) _
        have hE50 : E < (wr.alloc (.cells (sps.map Value.string).toArray 9)).heap.size := by rw [hE]; simp
        rw [← hE]
        generalize hw5 : World.alloc wr _ = w5
        have hcells : ∀ j (hj : j < sps.length), w5.cell? ⟨E, j, none⟩ = some (.string sps[j]) := by rw [← hw5]; exact hcells0
        have hal : Below wr.heap.size wr w5 := by rw [← hw5]; exact hal0
        have hE5 : E < w5.heap.size := by rw [← hw5]; exact hE50
        obtain ⟨k1, hk1, hbit1⟩ := and3 x
        obtain ⟨k2, hk2, hbit2⟩ := and3 y
        have hs1 : k1 < sps.length := by have : sps.length = 4 := rfl; omega
        have hs2 : k2 < sps.length := by have : sps.length = 4 := rfl; omega
        have hszs : ∀ j (hj : j < sps.length), sps[j].size ≤ 3 := by decide
        have hc1 := hcells k1 hs1
        have hc2 := hcells k2 hs2
        have hp1 := hszs k1 hs1
        have hp2 := hszs k2 hs2
        have hla := HL1.out k1 k2 hs1 hs2
        generalize sps[k1] = P1 at hc1 hp1 hla
        generalize sps[k2] = P2 at hc2 hp2 hla
        have HC1 := Lib.hid hc1
        have HC2 := Lib.hid hc2
        have HAL := Lib.hid hal
        have HE5 := Lib.hid hE5
        have HA1 : Hid (∀ wx, Calls Tryd.prog 20 #[.string (P1 ++ Bs ++ P2)] wx fun e w' => e = .returned (.int .i64 c) ∧ Below wx.heap.size wx w') := Lib.hid fun wx => by
          have := label_any (P1 ++ Bs ++ P2) wx hla.1
          rw [hla.2] at this; exact this
        have HA2 : Hid (∀ wx, Calls Tryd.prog 20 #[.string ((⟨#[120]⟩ : ByteArray) ++ Bs)] wx fun e w' => e = .returned (.int .i64 0) ∧ Below wx.heap.size wx w') := Lib.hid fun wx => by
          have := label_any ((⟨#[120]⟩ : ByteArray) ++ Bs) wx HL2.out.1
          rw [HL2.out.2] at this; exact this
        have HA3 : Hid (∀ wx, Calls Tryd.prog 20 #[.string (Bs ++ (⟨#[32, 46]⟩ : ByteArray))] wx fun e w' => e = .returned (.int .i64 0) ∧ Below wx.heap.size wx w') := Lib.hid fun wx => by
          have := label_any (Bs ++ (⟨#[32, 46]⟩ : ByteArray)) wx HL3.out.1
          rw [HL3.out.2] at this; exact this
        have hia1 : ∀ W, (Instr.indexAt 35 (.slice (some ⟨E, 0, none⟩) 4 4) (.int .i64 k1)).run Tryd.prog W = .ok (.pointer (some ⟨E, k1, none⟩)) W := by
          intro W
          have g1 : (0 : Int) ≤ (k1 : Int) := by omega
          have g2 : (k1 : Int) < 4 := by omega
          clear hw5 hbit1 hbit2 hE
          go_simp
        have hia2 : ∀ W, (Instr.indexAt 35 (.slice (some ⟨E, 0, none⟩) 4 4) (.int .i64 k2)).run Tryd.prog W = .ok (.pointer (some ⟨E, k2, none⟩)) W := by
          intro W
          have g1 : (0 : Int) ≤ (k2 : Int) := by omega
          have g2 : (k2 : Int) < 4 := by omega
          clear hw5 hbit1 hbit2 hE
          go_simp
        have K6 : Hid (∀ wx, Below w5.heap.size w5 wx → (convert 29 9 (.slice (some ⟨D, 0, none⟩) N.size cap)).run Tryd.prog wx = .ok (.string Bs) wx ∧ wx.cell? ⟨E, k1, none⟩ = some (.string P1) ∧ wx.cell? ⟨E, k2, none⟩ = some (.string P2)) := Lib.hid fun wx hb =>
          ⟨HCVB.out wx (HAL.out.trans (hb.mono HAL.out.size)), (hb.cell (p := ⟨E, k1, none⟩) HE5.out).trans HC1.out, (hb.cell (p := ⟨E, k2, none⟩) HE5.out).trans HC2.out⟩
        have KD : Hid (Below w5.heap.size w5 w5.drew ∧ (convert 29 9 (.slice (some ⟨D, 0, none⟩) N.size cap)).run Tryd.prog w5.drew = .ok (.string Bs) w5.drew ∧ w5.drew.cell? ⟨E, k1, none⟩ = some (.string P1) ∧ w5.drew.cell? ⟨E, k2, none⟩ = some (.string P2)) := Lib.hid ⟨(Below.refl _ _).drew, K6.out _ (Below.refl _ _).drew⟩
        have KT : Hid (∀ wx wy, (Below w5.heap.size w5 wx ∧ (convert 29 9 (.slice (some ⟨D, 0, none⟩) N.size cap)).run Tryd.prog wx = .ok (.string Bs) wx ∧ wx.cell? ⟨E, k1, none⟩ = some (.string P1) ∧ wx.cell? ⟨E, k2, none⟩ = some (.string P2)) → Below wx.heap.size wx wy → (Below w5.heap.size w5 wy ∧ (convert 29 9 (.slice (some ⟨D, 0, none⟩) N.size cap)).run Tryd.prog wy = .ok (.string Bs) wy ∧ wy.cell? ⟨E, k1, none⟩ = some (.string P1) ∧ wy.cell? ⟨E, k2, none⟩ = some (.string P2))) := Lib.hid fun wx wy hS hb => by
          have h2 := hS.1.trans (hb.mono hS.1.size)
          exact ⟨h2, K6.out _ h2⟩
        have KE : Hid (∀ wx, (Below w5.heap.size w5 wx ∧ (convert 29 9 (.slice (some ⟨D, 0, none⟩) N.size cap)).run Tryd.prog wx = .ok (.string Bs) wx ∧ wx.cell? ⟨E, k1, none⟩ = some (.string P1) ∧ wx.cell? ⟨E, k2, none⟩ = some (.string P2)) → Below w.heap.size w wx) := Lib.hid fun wx hS => by
          have h5 : Below w.heap.size w w5 := B1.out.trans ((HB.out.trans (HAL.out.mono HB.out.size)).mono B1.out.size)
          exact h5.trans (hS.1.mono h5.size)
        have n1 : ¬ 9223372036854775807 < P1.size + Bs.size := by omega
        have n2 : ¬ 9223372036854775807 < P1.size + Bs.size + P2.size := by omega
        have n3 : ¬ 9223372036854775807 < Bs.size + 2 := by omega
        clear hw5 hE hcells hal hE5 hcells0 hal0 hE50 hc1 hc2 hla hszs hs1 hs2 hk1 hk2
        go_region_held3 (fun w' => Below w5.heap.size w5 w' ∧ (convert 29 9 (.slice (some ⟨D, 0, none⟩) N.size cap)).run Tryd.prog w' = .ok (.string Bs) w' ∧ w'.cell? ⟨E, k1, none⟩ = some (.string P1) ∧ w'.cell? ⟨E, k2, none⟩ = some (.string P2)) (first | exact KD.out | exact KT.out _ _ (by assumption) hb)
          (first
            | (go_at_call_of 20 (Value.string (P1 ++ Bs ++ P2)); refine (HA1.out _).mono ?_; rintro e w' ⟨rfl, hb⟩)
            | (go_at_call_of 20 (Value.string ((⟨#[120]⟩ : ByteArray) ++ Bs)); refine (HA2.out _).mono ?_; rintro e w' ⟨rfl, hb⟩)
            | (go_at_call_of 20 (Value.string (Bs ++ (⟨#[32, 46]⟩ : ByteArray))); refine (HA3.out _).mono ?_; rintro e w' ⟨rfl, hb⟩))
        go_wp2
        go_ret
        exact ⟨rfl, KE.out _ (by assumption)⟩
end Go.Proofs.YtagmjbjgphhlcaaDoor
