/- ForeignNames: the walk. -/
import Derived.Test.YtopmahhlebkjiaaY
import Derived.Lib.Builder
namespace Go.Proofs.Ytopmahhlebkjiaa
open Go.RowKit

theorem SrcA.front {w : World} {a : Option Addr} {c : Nat} {l m : AL} (h : SrcA w a c (l ++ m)) : SrcA w a c l := by
  refine ⟨fun j hj => ?_, by have := h.cap; simp at this; omega, fun e => ⟨by have := (h.nil e).1; simp at this; exact this.1, (h.nil e).2⟩⟩
  have h1 := h.at_ j (by simp; omega)
  rw [List.getElem_append_left hj] at h1
  exact h1
theorem slice22_hi (a : Option Addr) (len cap hi : Nat) (h : hi ≤ len) (hc : len ≤ cap) (W : World) : (Instr.slice 22 (.slice a len cap) none (some (.int .i64 hi)) none).run Try.prog W = .ok (.slice a hi cap) W := by
  have h1 : hi ≤ cap := by omega
  go_simp

theorem blk_set {w : World} {g : Nat} {cu : Array Value} {t : TypeId} (h : w.heap[g]? = some (.cells cu t (0, 0))) (k : Nat) (v : Value) : (w.setCell ⟨g, k, none⟩ v).heap[g]? = some (.cells (cu.setIfInBounds k v) t (0, 0)) := by
  simp [World.setCell, Array.getElem?_modify, h]
set_option maxHeartbeats 8000000 in
theorem names_walk (space : Int) (s : ByteArray) (w : World) (a : Option Addr) (c : Nat) (l : AL) (h : SrcA w a c l) (hn : l.length * 32 ≤ 140737488351232) :
    Calls Try.prog 5 #[.int .i64 space, .string s, .slice a l.length c] w fun e w' => e = .returned (.bool true) ∧ Below w.heap.size w w' := by
  have hat : ∀ wx a c, SrcA wx a c l → Calls Try.prog 16 #[.int .i64 space, .slice a l.length c] wx fun e w' => ∃ a' c', e = .returned (.slice a' l.length c') ∧ OwnA w' wx.heap.size (.slice a' l.length c') (l.map (adj space)) ∧ Below wx.heap.size wx w' := fun wx a c hs => (attrs_any space a c l wx hs (by omega)).mono fun e w' ⟨v, h1, h2, h3⟩ => by
    obtain ⟨a', c', rfl, _, _⟩ := ownA_src h2
    rw [List.length_map] at h1 h2
    exact ⟨a', c', h1, h2, h3⟩
  have href : ∀ wx, Below w.heap.size w wx → Calls Try.prog 15 #[.int .i64 space, .slice a l.length c] wx fun e w' => ∃ a' c', e = .returned (.slice a' l.length c') ∧ SrcA w' a' c' (l.map (adj space)) ∧ Below wx.heap.size wx w' := fun wx hb => (refattrs_any space a c l wx (h.below (Nat.le_refl _) hb) (by omega)).mono fun e w' ⟨v, h1, h2, h3⟩ => by
    obtain ⟨a', c', rfl, h4, _⟩ := ownA_src h2
    rw [List.length_map] at h1
    exact ⟨a', c', h1, h4, h3⟩
  have hsm : ∀ wx a1 c1 a2 c2, SrcA wx a1 c1 (l.map (adj space)) → SrcA wx a2 c2 (l.map (adj space)) → Calls Try.prog 17 #[.slice a1 l.length c1, .slice a2 l.length c2] wx fun e w' => e = .returned (.bool true) ∧ Below wx.heap.size wx w' := fun wx a1 c1 a2 c2 h1 h2 => by
    have := same_any a1 a2 c1 c2 _ wx h1 h2 (by simp; omega)
    rw [List.length_map] at this
    exact this
  have hsl : ∀ wx a1 c1, SrcA wx a1 c1 l → Below w.heap.size w wx → Calls Try.prog 17 #[.slice a1 l.length c1, .slice a l.length c] wx fun e w' => e = .returned (.bool true) ∧ Below wx.heap.size wx w' := fun wx a1 c1 h1 hb => same_any a1 a c1 c l wx h1 (h.below (Nat.le_refl _) hb) (by omega)
  have hlm : (l.map (adj space)).length = l.length := by simp
  generalize l.map (adj space) = M at hat href hsm hlm
  obtain ⟨n, hnn⟩ : ∃ n, l.length = n := ⟨_, rfl⟩
  rw [hnn] at hat href hsm hsl hn hlm ⊢
  have hname := name_any space s
  have hrname := refname_any space s
  generalize nam space s = r at hname hrname
  have HN := Lib.hid hnn
  have HLM := Lib.hid hlm
  have H := Lib.hid h
  have HAT := Lib.hid hat
  have HREF := Lib.hid href
  have HSM := Lib.hid hsm
  have HSL := Lib.hid hsl
  have HNA := Lib.hid hname
  have HRN := Lib.hid hrname
  have hn63 : n ≤ 9223372036854775806 := by omega
  clear h hat href hsm hsl hlm hname hrname hnn
  go_enter Try.func5, Try.ntmps5
  go_wp2_with fail
  refine (shown_any _).mono ?_; rintro e w1 ⟨rfl, hb⟩
  have hbase : w.heap.size ≤ w1.heap.size := hb.size
  have HB := Lib.hid hb
  have HM := Lib.hid (fun C hC => made_emptyA w1 w.heap.size hb.size C hC)
  clear hb
  go_wp2_with (at_builtin; refine app_attrs rfl _ _ rfl w.heap.size _ [] rfl (HM.out _ rfl) a c n l HN.out rfl ?s1 ?n1 ?b1 ?_)
  case s1 => exact H.out.below (Nat.le_refl _) (HB.out.alloc HB.out.size _)
  case n1 => have := HN.out; simp only [List.length_nil]; omega
  case b1 => first | (simp; done) | (simp; omega)
  intro v2 w2 hown2 hb2 _
  have HO2 : Hid (OwnA w2 w.heap.size v2 l) := Lib.hid (by simpa using hown2)
  have HB2 := Lib.hid ((HB.out.alloc HB.out.size _).trans hb2.out)
  have hbs2 : w.heap.size ≤ w2.heap.size := HB2.out.size
  clear hown2 hb2
  go_wp2_with (at_builtin; refine app_attrs rfl _ _ rfl w.heap.size _ l rfl (ownA_below HO2.out (Nat.le_refl _) ((Below.refl _ _).alloc (Nat.le_refl _) _)) _ 1 1 [(⟨#[33]⟩, ⟨#[]⟩)] rfl rfl (one_src _ _ (⟨#[33]⟩, ⟨#[]⟩) rfl) ?n2 ?b2 ?_)
  case n2 => have := HN.out; simp only [List.length_cons, List.length_nil]; omega
  case b2 => first | (simp; done) | (simp; omega)
  intro v3 w3 hown3 hb3 _
  have hown3 : OwnA w3 w.heap.size v3 (l ++ [(⟨#[33]⟩, ⟨#[]⟩)]) := by simpa using hown3
  have HB3 := Lib.hid ((HB2.out.alloc HB2.out.size _).trans hb3.out)
  obtain ⟨a3, c3, rfl, hs3, ha3⟩ := ownA_src hown3
  obtain ⟨g3, o3, rfl, hg3, hbang, _⟩ := hs3.at_ n (by have := HN.out; simp; omega)
  obtain ⟨hx1, _⟩ := ha3 _ rfl
  simp only [Addr.mk.injEq] at hx1
  obtain ⟨_, rfl, _⟩ := hx1
  have hlen3 : (l ++ [((⟨#[33]⟩ : ByteArray), (⟨#[]⟩ : ByteArray))]).length = n + 1 := by have := HN.out; simp; omega
  rw [hlen3]
  have hget : (l ++ [((⟨#[33]⟩ : ByteArray), (⟨#[]⟩ : ByteArray))])[n]'(by omega) = (⟨#[33]⟩, ⟨#[]⟩) := by
    rw [List.getElem_append_right (by have := HN.out; omega)]; simp
  rw [hget, Nat.zero_add] at hbang
  have hc3 : n + 1 ≤ c3 := by have := hs3.cap; omega
  have HS3 := Lib.hid hs3.front
  have HBANG := Lib.hid (fun wx (hb : Below w3.heap.size w3 wx) => (hb.cell (p := ⟨g3, n * 2, none⟩) hg3).trans hbang)
  have HSH : Hid (∀ W : World, (Instr.slice 22 (.slice (some ⟨g3, 0, none⟩) (n + 1) c3) none (some (.int .i64 n)) none).run Try.prog W = .ok (.slice (some ⟨g3, 0, none⟩) n c3) W) := Lib.hid (slice22_hi _ _ _ _ (by omega) hc3)
  clear hown3 hb3 hs3 ha3 hg3 hbang hget hlen3
  go_wp2_with fail
  refine (HREF.out _ HB3.out).mono ?_; rintro e w4 ⟨a4, c4, rfl, hs4, hb4⟩
  have HS4 := Lib.hid hs4
  have HB4 := Lib.hid hb4
  clear hs4 hb4
  have hsh := HSH.out
  go_wp2_with fail
  go_loopw [10] (fun t wr => ∃ k : Nat, k ≤ 2 ∧ t = .int .i64 k ∧ Below w4.heap.size w4 wr) (fun t _ => 2 - (intOf t).toNat)
  case atStart => exact ⟨0, by omega, rfl, Below.refl _ _⟩
  case round =>
    obtain ⟨k, hk, rfl, hb⟩ := hrel
    by_cases hlt : k < 2
    · obtain ⟨wo, rfl⟩ : ∃ wo : World, wo = wr := ⟨_, rfl⟩
      have HBr := Lib.hid hb
      have H3r : Hid (SrcA wo (some ⟨g3, 0, none⟩) c3 l) := Lib.hid ((HS3.out.below (Nat.le_refl _) HB4.out).below (Nat.le_refl _) hb)
      have H4r : Hid (SrcA wo a4 c4 M) := Lib.hid (HS4.out.below (Nat.le_refl _) hb)
      clear hb
      go_wp2_with fail
      refine (HAT.out _ _ _ H3r.out).mono ?_; rintro e w5 ⟨a5, c5, rfl, hown5, hb5⟩
      obtain ⟨a5', c5', he5, hs5, ha5⟩ := ownA_src hown5
      simp only [Value.slice.injEq] at he5
      obtain ⟨rfl, hmid, rfl⟩ := he5
      clear hmid
      have HO5 := Lib.hid hown5
      have HS5 := Lib.hid hs5
      have HB5 := Lib.hid hb5
      have H45 : Hid (SrcA w5 a4 c4 M) := Lib.hid (H4r.out.below (Nat.le_refl _) hb5)
      clear hown5 hs5 ha5 hb5
      go_wp2_with fail
      refine (HSM.out _ _ _ _ _ HS5.out H45.out).mono ?_; rintro e w6 ⟨rfl, hb6⟩
      have HO6 : Hid (OwnA w6 wo.heap.size (.slice a5 n c5) M) := Lib.hid (ownA_below HO5.out (Nat.le_refl _) hb6)
      have HB6 : Hid (Below wo.heap.size wo w6) := Lib.hid (HB5.out.trans (hb6.mono HB5.out.size))
      clear hb6
      go_wp2_with (at_builtin; refine app_attrs rfl _ _ rfl wo.heap.size _ M rfl (ownA_below HO6.out (Nat.le_refl _) ((Below.refl _ _).alloc (Nat.le_refl _) _)) _ 1 1 [(⟨#[]⟩, ⟨#[]⟩)] rfl rfl (one_src _ _ (⟨#[]⟩, ⟨#[]⟩) rfl) ?n7 ?b7 ?_)
      case n7 => have := HLM.out; simp only [List.length_cons, List.length_nil]; omega
      case b7 => have := HB6.out.size; first | (simp; done) | (simp; omega)
      intro v7 w7 hown7 hb7 _
      have hown7 : OwnA w7 wo.heap.size v7 (M ++ [(⟨#[]⟩, ⟨#[]⟩)]) := by simpa using hown7
      have HB7 : Hid (Below wo.heap.size wo w7) := Lib.hid ((HB6.out.alloc HB6.out.size _).trans hb7.out)
      obtain ⟨g7, c7, rfl, hg7, cur, hcur, hcs, hcc⟩ : ∃ g c, v7 = .slice (some ⟨g, 0, none⟩) (n + 1) c ∧ wo.heap.size ≤ g ∧ ∃ cur, w7.heap[g]? = some (.cells cur 31 (0, 0)) ∧ cur.size = c * 2 ∧ n + 1 ≤ c := by
        have hl : (M ++ [((⟨#[]⟩ : ByteArray), (⟨#[]⟩ : ByteArray))]).length = n + 1 := by have := HLM.out; simp; omega
        rcases hown7.2 with ⟨_, h0⟩ | ⟨g, cap, cur, hv, hb, hg, h1, h2, h3, h4⟩
        · omega
        · exact ⟨g, cap, by rw [hv, hl], hb, cur, hg, h3, by omega⟩
      have HC7 := Lib.hid hcur
      clear hown7 hb7 hcur
      go_wp2_with fail
      go_loopw [13] (fun i wy => ∃ (j : Nat) (cu : Array Value), j ≤ n + 1 ∧ i = .int .i64 j ∧ wy.heap[g7]? = some (.cells cu 31 (0, 0)) ∧ cu.size = c7 * 2 ∧ Below wo.heap.size wo wy) (fun i _ => n + 1 - (intOf i).toNat)
      case atStart => exact ⟨0, cur, by omega, rfl, HC7.out, hcs, HB7.out⟩
      case round =>
        obtain ⟨j, cu, hj, rfl, hcu, hcz, hby⟩ := hrel
        by_cases hjn : j < n + 1
        · have k1 : wr.cell? ⟨g7, j * 2, none⟩ = some (cu[j * 2]'(by omega)) := by
            rw [Lib.cell_of_heap hcu, Array.getElem?_eq_getElem (by omega)]
          have k2 : wr.cell? ⟨g7, j * 2 + 1, none⟩ = some (cu[j * 2 + 1]'(by omega)) := by
            rw [Lib.cell_of_heap hcu, Array.getElem?_eq_getElem (by omega)]
          have k3 : wr.frozen? ⟨g7, j * 2, none⟩ = false := Lib.frozen_of_heap hcu _
          have k4 : wr.frozen? ⟨g7, j * 2 + 1, none⟩ = false := Lib.frozen_of_heap hcu _
          have HCU := Lib.hid hcu
          have HBY := Lib.hid hby
          clear hcu hby
          go_wp2_with fail
          go_roundw
          case rel => exact ⟨j + 1, _, by omega, by go_num, blk_set (blk_set HCU.out _ _) _ _, by rw [Array.size_setIfInBounds, Array.size_setIfInBounds]; exact hcz, (HBY.out.setCell (p := ⟨g7, j * 2, none⟩) hg7 _).setCell (p := ⟨g7, j * 2 + 1, none⟩) hg7 _⟩
          case measure => simp [intOf]; omega
        · have HBY := Lib.hid hby
          clear hby hcu
          go_wp2_with fail
          go_roundw
          case rel => exact ⟨k + 1, by omega, by go_num, HBr.out.trans (HBY.out.mono HBr.out.size)⟩
          case measure => simp [intOf]; omega
    · obtain rfl : k = 2 := by omega
      have HBr := Lib.hid hb
      have HBt : Hid (Below w.heap.size w wr) := Lib.hid ((HB3.out.trans (HB4.out.mono HB3.out.size)).trans (hb.mono (HB3.out.trans (HB4.out.mono HB3.out.size)).size))
      have HB3r : Hid (Below w3.heap.size w3 wr) := Lib.hid (HB4.out.trans (hb.mono HB4.out.size))
      have H3r : Hid (SrcA wr (some ⟨g3, 0, none⟩) c3 l) := Lib.hid ((HS3.out.below (Nat.le_refl _) HB4.out).below (Nat.le_refl _) hb)
      clear hb hlt
      go_wp2_with fail
      refine (HSL.out _ _ _ H3r.out HBt.out).mono ?_; rintro e w8 ⟨rfl, hb8⟩
      have hbang := HBANG.out w8 (HB3r.out.trans (hb8.mono HB3r.out.size))
      have HB8 : Hid (Below w.heap.size w w8) := Lib.hid (HBt.out.trans (hb8.mono HBt.out.size))
      clear hb8
      go_wp2_with fail
      refine (HNA.out _).mono ?_; rintro e w9 ⟨rfl, rfl⟩
      go_wp2_with fail
      refine (HRN.out _).mono ?_; rintro e w9 ⟨rfl, hb9⟩
      have HB9 : Hid (Below w.heap.size w w9) := Lib.hid (HB8.out.trans (hb9.mono HB8.out.size))
      clear hb9 hbang
      go_wp2
      go_ret
      exact ⟨rfl, HB9.out⟩
end Go.Proofs.Ytopmahhlebkjiaa
