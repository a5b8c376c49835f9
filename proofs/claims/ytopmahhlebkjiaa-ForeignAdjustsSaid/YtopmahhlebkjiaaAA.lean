/- ForeignAdjusts: the walk. -/
import Derived.Test.YtopmahhlebkjiaaZ
import Derived.Deep.RegionHeld3
namespace Go.Proofs.Ytopmahhlebkjiaa
open Go.RowKit

theorem low_low (c : UInt8) : low (low c) = low c := by
  unfold low
  split
  · rename_i h
    rw [if_neg]
    rw [UInt8.toNat_ofNat']; omega
  · rfl
theorem map_low_low (l : List UInt8) : (l.map low).map low = l.map low := by
  rw [List.map_map]; apply List.map_congr_left; intro x _; exact low_low x
theorem look_cases (word : ByteArray) (L : List ByteArray) : look word L = word ∨ (look word L ∈ L ∧ (look word L).data.toList.map low = word.data.toList) := by
  unfold look
  cases h : L.find? (fun s => s.data.toList.map low == word.data.toList) with
  | none => exact .inl rfl
  | some s => exact .inr ⟨List.mem_of_find?_eq_some h, by have := List.find?_some h; simpa using this⟩
theorem look_low (word : ByteArray) (L : List ByteArray) : (look word L).data.toList.map low = word.data.toList.map low := by
  rcases look_cases word L with h | ⟨_, h⟩
  · rw [h]
  · rw [← h, map_low_low]
theorem look_look (word : ByteArray) (L : List ByteArray) (hL : ∀ x ∈ L, ∀ y ∈ L, (y.data.toList.map low == x.data.toList) = false) : look (look word L) L = look word L := by
  rcases look_cases word L with h | ⟨hm, _⟩
  · rw [h]; exact h
  · exact look_none fun i hi => hL _ hm _ (List.getElem_mem hi)
theorem look_size (word : ByteArray) (L : List ByteArray) (hL : ∀ x ∈ L, x.size ≤ 1000) (hw : word.size ≤ 9223372036854775807) : (look word L).size ≤ 9223372036854775807 := by
  rcases look_cases word L with h | ⟨hm, _⟩
  · rw [h]; exact hw
  · have := hL _ hm; omega
theorem eDistinct : ∀ x ∈ eNames, ∀ y ∈ eNames, (y.data.toList.map low == x.data.toList) = false := by decide
theorem aDistinct : ∀ x ∈ aNames, ∀ y ∈ aNames, (y.data.toList.map low == x.data.toList) = false := by decide
theorem dDistinct : ∀ x ∈ dNames, ∀ y ∈ dNames, (y.data.toList.map low == x.data.toList) = false := by decide
theorem nam_low (sp : Int) (s : ByteArray) : (nam sp s).data.toList.map low = s.data.toList.map low := by
  unfold nam; split
  · exact look_low _ _
  · rfl
theorem nam_nam (sp : Int) (s : ByteArray) : nam sp (nam sp s) = nam sp s := by
  unfold nam; split
  · exact look_look _ _ eDistinct
  · rfl
theorem nam_size (sp : Int) (s : ByteArray) (h : s.size ≤ 9223372036854775807) : (nam sp s).size ≤ 9223372036854775807 := by
  unfold nam; split
  · exact look_size _ _ eSmall h
  · exact h
theorem atn_low (sp : Int) (s : ByteArray) : (atn sp s).data.toList.map low = s.data.toList.map low := by
  unfold atn; split
  · exact look_low _ _
  · split
    · exact look_low _ _
    · rfl
theorem atn_atn (sp : Int) (s : ByteArray) : atn sp (atn sp s) = atn sp s := by
  unfold atn; split
  · exact look_look _ _ aDistinct
  · split
    · exact look_look _ _ dDistinct
    · rfl
theorem atn_size (sp : Int) (s : ByteArray) (h : s.size ≤ 9223372036854775807) : (atn sp s).size ≤ 9223372036854775807 := by
  unfold atn; split
  · exact look_size _ _ aSmall h
  · split
    · exact look_size _ _ dSmall h
    · exact h
theorem adj_adj (sp : Int) (l : AL) : (l.map (adj sp)).map (adj sp) = l.map (adj sp) := by
  rw [List.map_map]; apply List.map_congr_left; intro x _; simp only [Function.comp, adj, atn_atn]

set_option maxHeartbeats 8000000 in
theorem adjusts_walk (space : Int) (s : ByteArray) (w : World) (a : Option Addr) (c : Nat) (l : AL) (h : SrcA w a c l) (hn : l.length * 32 ≤ 140737488351232) (hss : s.size ≤ 9223372036854775807) (hsz : ∀ p ∈ l, p.1.size ≤ 9223372036854775807) :
    Calls Try.prog 6 #[.int .i64 space, .string s, .slice a l.length c] w fun e w' => e = .returned (.bool true) ∧ Below w.heap.size w w' := by
  have hat : ∀ wx, Below w.heap.size w wx → Calls Try.prog 16 #[.int .i64 space, .slice a l.length c] wx fun e w' => ∃ a' c', e = .returned (.slice a' l.length c') ∧ SrcA w' a' c' (l.map (adj space)) ∧ Below wx.heap.size wx w' := fun wx hb => (attrs_any space a c l wx (h.below (Nat.le_refl _) hb) (by omega)).mono fun e w' ⟨v, h1, h2, h3⟩ => by
    obtain ⟨a', c', rfl, h4, _⟩ := ownA_src h2
    rw [List.length_map] at h1
    exact ⟨a', c', h1, h4, h3⟩
  have hat2 : ∀ wx a1 c1, SrcA wx a1 c1 (l.map (adj space)) → Calls Try.prog 16 #[.int .i64 space, .slice a1 l.length c1] wx fun e w' => ∃ a' c', e = .returned (.slice a' l.length c') ∧ SrcA w' a' c' (l.map (adj space)) ∧ Below wx.heap.size wx w' := fun wx a1 c1 hs => by
    have := attrs_any space a1 c1 _ wx hs (by simp; omega)
    rw [List.length_map] at this
    refine this.mono fun e w' ⟨v, h1, h2, h3⟩ => ?_
    rw [adj_adj] at h2
    obtain ⟨a', c', rfl, h4, _⟩ := ownA_src h2
    rw [List.length_map] at h1
    exact ⟨a', c', h1, h4, h3⟩
  have hsm : ∀ wx a1 c1 a2 c2, SrcA wx a1 c1 (l.map (adj space)) → SrcA wx a2 c2 (l.map (adj space)) → Calls Try.prog 17 #[.slice a1 l.length c1, .slice a2 l.length c2] wx fun e w' => e = .returned (.bool true) ∧ Below wx.heap.size wx w' := fun wx a1 c1 a2 c2 h1 h2 => by
    have := same_any a1 a2 c1 c2 _ wx h1 h2 (by simp; omega)
    rw [List.length_map] at this
    exact this
  have hel : ∀ j (hj : j < l.length) wx a1 c1, SrcA wx a1 c1 (l.map (adj space)) → ∃ b o, a1 = some ⟨b, o, none⟩ ∧ b < wx.heap.size ∧ wx.cell? ⟨b, o + j * 2, none⟩ = some (.string (atn space l[j].1)) ∧ wx.cell? ⟨b, o + j * 2 + 1, none⟩ = some (.string l[j].2) := fun j hj wx a1 c1 hs => by
    obtain ⟨b, o, h1, h2, h3, h4⟩ := hs.at_ j (by simpa using hj)
    simp only [List.getElem_map, adj] at h3 h4
    exact ⟨b, o, h1, h2, h3, h4⟩
  obtain ⟨n, hnn⟩ : ∃ n, l.length = n := ⟨_, rfl⟩
  rw [hnn] at hat hat2 hsm hn ⊢
  generalize l.map (adj space) = M at hat hat2 hsm hel
  have hname := name_any space s
  have hname2 := name_any space (nam space s)
  rw [nam_nam] at hname2
  have hlo1 := fun wx => reflower_any s wx hss
  have hlo2 := fun wx => reflower_any (nam space s) wx (nam_size space s hss)
  rw [nam_low] at hlo2
  have hsame : space ≠ 1 → nam space s = s := fun h => by unfold nam; rw [if_neg h]
  generalize nam space s = r at hname hname2 hlo2 hsame
  generalize (ByteArray.mk (s.data.toList.map low).toArray) = Z at hlo1 hlo2
  have HN := Lib.hid hnn
  have H := Lib.hid h
  have HAT := Lib.hid hat
  have HAT2 := Lib.hid hat2
  have HSM := Lib.hid hsm
  have HEL := Lib.hid hel
  have HNA := Lib.hid hname
  have HNB := Lib.hid hname2
  have HL1 := Lib.hid hlo1
  have HL2 := Lib.hid hlo2
  have HSZ := Lib.hid hsz
  have hn63 : n ≤ 9223372036854775806 := by omega
  clear h hat hat2 hsm hel hname hname2 hlo1 hlo2 hnn hsz hss
  by_cases h1 : space = 1
  · subst h1
    clear hsame
    go_enter Try.func6, Try.ntmps6
    go_wp2_with fail
    refine (shown_any _).mono ?_; rintro e w1 ⟨rfl, hb⟩
    have HB := Lib.hid hb
    clear hb
    go_wp2_with fail
    refine (HNA.out _).mono ?_; rintro e w2 ⟨rfl, rfl⟩
    go_wp2_with fail
    refine (HAT.out _ HB.out).mono ?_; rintro e w2 ⟨a2, c2, rfl, hs2, hb⟩
    have HB2 : Hid (Below w.heap.size w w2) := Lib.hid (HB.out.trans (hb.mono HB.out.size))
    have HS2 := Lib.hid hs2
    clear hb hs2
    go_wp2_with fail
    refine (HL2.out _).mono ?_; rintro e w3 ⟨rfl, hb⟩
    have HB3 : Hid (Below w.heap.size w w3) := Lib.hid (HB2.out.trans (hb.mono HB2.out.size))
    have HS3 : Hid (SrcA w3 a2 c2 M) := Lib.hid (HS2.out.below (Nat.le_refl _) hb)
    clear hb
    go_wp2_with fail
    refine (HL1.out _).mono ?_; rintro e w4 ⟨rfl, hb⟩
    have HB4 : Hid (Below w.heap.size w w4) := Lib.hid (HB3.out.trans (hb.mono HB3.out.size))
    have HS4 : Hid (SrcA w4 a2 c2 M) := Lib.hid (HS3.out.below (Nat.le_refl _) hb)
    clear hb
    go_wp2_with fail
    refine (HNB.out _).mono ?_; rintro e w5 ⟨rfl, rfl⟩
    go_wp2_with fail
    go_loopw [10] (fun i wr => ∃ j : Nat, j ≤ n ∧ i = .int .i64 j ∧ Below w4.heap.size w4 wr) (fun i _ => n - (intOf i).toNat)
    case atStart => exact ⟨0, by omega, rfl, Below.refl _ _⟩
    case round =>
      obtain ⟨j, hj, rfl, hb⟩ := hrel
      by_cases hlt : j < n
      · have hjl : j < l.length := by rw [HN.out]; exact hlt
        have HBw : Hid (Below w.heap.size w wr) := Lib.hid (HB4.out.trans (hb.mono HB4.out.size))
        obtain ⟨b2, o2, he2, hb2, p1, p2⟩ := HEL.out j hjl wr a2 c2 (HS4.out.below (Nat.le_refl _) hb)
        obtain ⟨b1, o1, he1, hb1, q1, q2⟩ := (H.out.below (Nat.le_refl _) HBw.out).at_ j hjl
        subst he1 he2
        have hsz := HSZ.out _ (List.getElem_mem hjl)
        have hla := fun wx => reflower_any l[j].1 wx hsz
        have hlb := fun wx => reflower_any (atn 1 l[j].1) wx (atn_size 1 _ hsz)
        rw [atn_low] at hlb
        generalize l[j].1 = x at p1 q1 hla hlb
        generalize l[j].2 = y at p2 q2
        generalize atn 1 x = x' at p1 hlb
        generalize (ByteArray.mk (x.data.toList.map low).toArray) = Z2 at hla hlb
        have HLA := Lib.hid hla
        have HLB := Lib.hid hlb
        have KD : Hid (wr.drew.cell? ⟨b2, o2 + j * 2, none⟩ = some (.string x') ∧ wr.drew.cell? ⟨b2, o2 + j * 2 + 1, none⟩ = some (.string y) ∧ wr.drew.cell? ⟨b1, o1 + j * 2, none⟩ = some (.string x) ∧ wr.drew.cell? ⟨b1, o1 + j * 2 + 1, none⟩ = some (.string y) ∧ Below wr.heap.size wr wr.drew) := Lib.hid ⟨p1, p2, q1, q2, (Below.refl _ _).drew⟩
        have KT : Hid (∀ wx wy, (wx.cell? ⟨b2, o2 + j * 2, none⟩ = some (.string x') ∧ wx.cell? ⟨b2, o2 + j * 2 + 1, none⟩ = some (.string y) ∧ wx.cell? ⟨b1, o1 + j * 2, none⟩ = some (.string x) ∧ wx.cell? ⟨b1, o1 + j * 2 + 1, none⟩ = some (.string y) ∧ Below wr.heap.size wr wx) → Below wx.heap.size wx wy → wy.cell? ⟨b2, o2 + j * 2, none⟩ = some (.string x') ∧ wy.cell? ⟨b2, o2 + j * 2 + 1, none⟩ = some (.string y) ∧ wy.cell? ⟨b1, o1 + j * 2, none⟩ = some (.string x) ∧ wy.cell? ⟨b1, o1 + j * 2 + 1, none⟩ = some (.string y) ∧ Below wr.heap.size wr wy) := Lib.hid fun wx wy hs hbb => by
          have hq := hs.2.2.2.2.trans (hbb.mono hs.2.2.2.2.size)
          exact ⟨(hq.cell (p := ⟨b2, o2 + j * 2, none⟩) hb2).trans p1, (hq.cell (p := ⟨b2, o2 + j * 2 + 1, none⟩) hb2).trans p2, (hq.cell (p := ⟨b1, o1 + j * 2, none⟩) hb1).trans q1, (hq.cell (p := ⟨b1, o1 + j * 2 + 1, none⟩) hb1).trans q2, hq⟩
        have HBr := Lib.hid hb
        have hj0 : (0 : Int) ≤ (j : Int) := by omega
        have hj1 : (j : Int) < (n : Int) := by omega
        clear p1 p2 q1 q2 hla hlb hb hsz
        go_wp2_with fail
        refine wp_region_noPanic ?_
        refine wp_region_held_drew (S := fun w' => w'.cell? ⟨b2, o2 + j * 2, none⟩ = some (.string x') ∧ w'.cell? ⟨b2, o2 + j * 2 + 1, none⟩ = some (.string y) ∧ w'.cell? ⟨b1, o1 + j * 2, none⟩ = some (.string x) ∧ w'.cell? ⟨b1, o1 + j * 2 + 1, none⟩ = some (.string y) ∧ Below wr.heap.size wr w') (by kernel_rfl) ?hS0a (fun hHeld => ?restSa)
        case hS0a => exact KD.out
        refine wpAnyH_take (i := 0) (oi := { dst := some 51, op := Op.move (Operand.tmp 9), type := 22, pos := _, after := #[], guard := none }) (v := ?v0a) rfl (by kernel_rfl) (by kernel_rfl) (by kernel_rfl) (fun _ _ _ h => h) (Or.inl ⟨by rfl, ?hy0a⟩) (by assumption) ?rest0a
        case hy0a => ((intro w' hSw; (try dsimp only at hSw); go_simp) <;> with_reducible rfl)
        (try simp only [Act.put, List.setIfInBounds_toArray, List.set_cons_zero, List.set_cons_succ])
        refine wpAnyH_take (i := 1) (oi := { dst := some 52, op := Op.move (Operand.tmp 10), type := 3, pos := _, after := #[], guard := none }) (v := ?v1a) rfl (by kernel_rfl) (by kernel_rfl) (by kernel_rfl) (fun _ _ _ h => h) (Or.inl ⟨by rfl, ?hy1a⟩) (by assumption) ?rest1a
        case hy1a => ((intro w' hSw; (try dsimp only at hSw); go_simp) <;> with_reducible rfl)
        (try simp only [Act.put, List.setIfInBounds_toArray, List.set_cons_zero, List.set_cons_succ])
        refine wpAnyH_take (i := 2) (oi := { dst := some 53, op := Op.indexAddr 22 (Operand.tmp 51) (Operand.tmp 52), type := 0, pos := _, after := #[{ on := 0, ground := Ground.data }, { on := 1, ground := Ground.data }], guard := none }) (v := ?v2a) rfl (by kernel_rfl) (by kernel_rfl) (by kernel_rfl) (fun _ _ _ h => h) (Or.inl ⟨by rfl, ?hy2a⟩) (by assumption) ?rest2a
        case hy2a => ((intro w' hSw; (try dsimp only at hSw); go_simp) <;> with_reducible rfl)
        (try simp only [Act.put, List.setIfInBounds_toArray, List.set_cons_zero, List.set_cons_succ])
        refine wpAnyH_take (i := 3) (oi := { dst := some 54, op := Op.fieldAddr 31 (Operand.tmp 53) 1, type := 0, pos := _, after := #[{ on := 2, ground := Ground.data }], guard := none }) (v := ?v3a) rfl (by kernel_rfl) (by kernel_rfl) (by kernel_rfl) (fun _ _ _ h => h) (Or.inl ⟨by rfl, ?hy3a⟩) (by assumption) ?rest3a
        case hy3a => ((intro w' hSw; (try dsimp only at hSw); go_simp) <;> with_reducible rfl)
        (try simp only [Act.put, List.setIfInBounds_toArray, List.set_cons_zero, List.set_cons_succ])
        refine wpAnyH_take (i := 4) (oi := { dst := some 55, op := Op.load 9 (Operand.tmp 54), type := 9, pos := _, after := #[{ on := 3, ground := Ground.data }], guard := none }) (v := ?v4a) rfl (by kernel_rfl) (by kernel_rfl) (by kernel_rfl) (fun _ _ _ h => h) (Or.inl ⟨by rfl, ?hy4a⟩) (by assumption) ?rest4a
        case hy4a => ((intro w' hSw; (try dsimp only at hSw); go_simp) <;> with_reducible rfl)
        (try simp only [Act.put, List.setIfInBounds_toArray, List.set_cons_zero, List.set_cons_succ])
        refine wpAnyH_take (i := 5) (oi := { dst := some 56, op := Op.move (Operand.tmp 2), type := 22, pos := _, after := #[], guard := none }) (v := ?v5a) rfl (by kernel_rfl) (by kernel_rfl) (by kernel_rfl) (fun _ _ _ h => h) (Or.inl ⟨by rfl, ?hy5a⟩) (by assumption) ?rest5a
        case hy5a => ((intro w' hSw; (try dsimp only at hSw); go_simp) <;> with_reducible rfl)
        (try simp only [Act.put, List.setIfInBounds_toArray, List.set_cons_zero, List.set_cons_succ])
        refine wpAnyH_take (i := 6) (oi := { dst := some 57, op := Op.move (Operand.tmp 10), type := 3, pos := _, after := #[], guard := none }) (v := ?v6a) rfl (by kernel_rfl) (by kernel_rfl) (by kernel_rfl) (fun _ _ _ h => h) (Or.inl ⟨by rfl, ?hy6a⟩) (by assumption) ?rest6a
        case hy6a => ((intro w' hSw; (try dsimp only at hSw); go_simp) <;> with_reducible rfl)
        (try simp only [Act.put, List.setIfInBounds_toArray, List.set_cons_zero, List.set_cons_succ])
        refine wpAnyH_take (i := 7) (oi := { dst := some 58, op := Op.indexAddr 22 (Operand.tmp 56) (Operand.tmp 57), type := 0, pos := _, after := #[{ on := 5, ground := Ground.data }, { on := 6, ground := Ground.data }], guard := none }) (v := ?v7a) rfl (by kernel_rfl) (by kernel_rfl) (by kernel_rfl) (fun _ _ _ h => h) (Or.inl ⟨by rfl, ?hy7a⟩) (by assumption) ?rest7a
        case hy7a => ((intro w' hSw; (try dsimp only at hSw); go_simp) <;> with_reducible rfl)
        (try simp only [Act.put, List.setIfInBounds_toArray, List.set_cons_zero, List.set_cons_succ])
        refine wpAnyH_take (i := 8) (oi := { dst := some 59, op := Op.fieldAddr 31 (Operand.tmp 58) 1, type := 0, pos := _, after := #[{ on := 7, ground := Ground.data }], guard := none }) (v := ?v8a) rfl (by kernel_rfl) (by kernel_rfl) (by kernel_rfl) (fun _ _ _ h => h) (Or.inl ⟨by rfl, ?hy8a⟩) (by assumption) ?rest8a
        case hy8a => ((intro w' hSw; (try dsimp only at hSw); go_simp) <;> with_reducible rfl)
        (try simp only [Act.put, List.setIfInBounds_toArray, List.set_cons_zero, List.set_cons_succ])
        refine wpAnyH_take (i := 9) (oi := { dst := some 60, op := Op.load 9 (Operand.tmp 59), type := 9, pos := _, after := #[{ on := 8, ground := Ground.data }], guard := none }) (v := ?v9a) rfl (by kernel_rfl) (by kernel_rfl) (by kernel_rfl) (fun _ _ _ h => h) (Or.inl ⟨by rfl, ?hy9a⟩) (by assumption) ?rest9a
        case hy9a => ((intro w' hSw; (try dsimp only at hSw); go_simp) <;> with_reducible rfl)
        (try simp only [Act.put, List.setIfInBounds_toArray, List.set_cons_zero, List.set_cons_succ])
        refine wpAnyH_take (i := 10) (oi := { dst := some 61, op := Op.binOp BinOp.neq 9 (Operand.tmp 55) (Operand.tmp 60) 9, type := 4, pos := _, after := #[{ on := 4, ground := Ground.data }, { on := 9, ground := Ground.data }], guard := none }) (v := ?v10a) rfl (by kernel_rfl) (by kernel_rfl) (by kernel_rfl) (fun _ _ _ h => h) (Or.inl ⟨by rfl, ?hy10a⟩) (by assumption) ?rest10a
        case hy10a => ((intro w' hSw; (try dsimp only at hSw); go_simp) <;> with_reducible rfl)
        (try simp only [Act.put, List.setIfInBounds_toArray, List.set_cons_zero, List.set_cons_succ])
        refine wpAnyH_take (i := 11) (oi := { dst := some 62, op := Op.move (Operand.tmp 61), type := 4, pos := _, after := #[{ on := 10, ground := Ground.data }], guard := none }) (v := ?v11a) rfl (by kernel_rfl) (by kernel_rfl) (by kernel_rfl) (fun _ _ _ h => h) (Or.inl ⟨by rfl, ?hy11a⟩) (by assumption) ?rest11a
        case hy11a => ((intro w' hSw; (try dsimp only at hSw); go_simp) <;> with_reducible rfl)
        (try simp only [Act.put, List.setIfInBounds_toArray, List.set_cons_zero, List.set_cons_succ])
        refine wpAnyH_take (i := 12) (oi := { dst := some 63, op := Op.move (Operand.tmp 9), type := 22, pos := _, after := #[{ on := 11, ground := Ground.guard }], guard := some (11, false) }) (v := ?v12a) rfl (by kernel_rfl) (by kernel_rfl) (by kernel_rfl) (fun _ _ _ h => h) (Or.inl ⟨by rfl, ?hy12a⟩) (by assumption) ?rest12a
        case hy12a => ((intro w' hSw; (try dsimp only at hSw); go_simp) <;> with_reducible rfl)
        (try simp only [Act.put, List.setIfInBounds_toArray, List.set_cons_zero, List.set_cons_succ])
        refine wpAnyH_take (i := 13) (oi := { dst := some 64, op := Op.move (Operand.tmp 10), type := 3, pos := _, after := #[{ on := 11, ground := Ground.guard }], guard := some (11, false) }) (v := ?v13a) rfl (by kernel_rfl) (by kernel_rfl) (by kernel_rfl) (fun _ _ _ h => h) (Or.inl ⟨by rfl, ?hy13a⟩) (by assumption) ?rest13a
        case hy13a => ((intro w' hSw; (try dsimp only at hSw); go_simp) <;> with_reducible rfl)
        (try simp only [Act.put, List.setIfInBounds_toArray, List.set_cons_zero, List.set_cons_succ])
        refine wpAnyH_take (i := 14) (oi := { dst := some 65, op := Op.indexAddr 22 (Operand.tmp 63) (Operand.tmp 64), type := 0, pos := _, after := #[{ on := 12, ground := Ground.data }, { on := 13, ground := Ground.data }, { on := 11, ground := Ground.guard }], guard := some (11, false) }) (v := ?v14a) rfl (by kernel_rfl) (by kernel_rfl) (by kernel_rfl) (fun _ _ _ h => h) (Or.inl ⟨by rfl, ?hy14a⟩) (by assumption) ?rest14a
        case hy14a => ((intro w' hSw; (try dsimp only at hSw); go_simp) <;> with_reducible rfl)
        (try simp only [Act.put, List.setIfInBounds_toArray, List.set_cons_zero, List.set_cons_succ])
        refine wpAnyH_take (i := 15) (oi := { dst := some 66, op := Op.fieldAddr 31 (Operand.tmp 65) 0, type := 0, pos := _, after := #[{ on := 14, ground := Ground.data }, { on := 11, ground := Ground.guard }], guard := some (11, false) }) (v := ?v15a) rfl (by kernel_rfl) (by kernel_rfl) (by kernel_rfl) (fun _ _ _ h => h) (Or.inl ⟨by rfl, ?hy15a⟩) (by assumption) ?rest15a
        case hy15a => ((intro w' hSw; (try dsimp only at hSw); go_simp) <;> with_reducible rfl)
        (try simp only [Act.put, List.setIfInBounds_toArray, List.set_cons_zero, List.set_cons_succ])
        refine wpAnyH_take (i := 16) (oi := { dst := some 67, op := Op.load 9 (Operand.tmp 66), type := 9, pos := _, after := #[{ on := 15, ground := Ground.data }, { on := 11, ground := Ground.guard }], guard := some (11, false) }) (v := ?v16a) rfl (by kernel_rfl) (by kernel_rfl) (by kernel_rfl) (fun _ _ _ h => h) (Or.inl ⟨by rfl, ?hy16a⟩) (by assumption) ?rest16a
        case hy16a => ((intro w' hSw; (try dsimp only at hSw); go_simp) <;> with_reducible rfl)
        (try simp only [Act.put, List.setIfInBounds_toArray, List.set_cons_zero, List.set_cons_succ])
        refine wpAnyH_take (i := 18) (oi := { dst := some 69, op := Op.move (Operand.tmp 2), type := 22, pos := _, after := #[{ on := 11, ground := Ground.guard }], guard := some (11, false) }) (v := ?v18a) rfl (by kernel_rfl) (by kernel_rfl) (by kernel_rfl) (fun _ _ _ h => h) (Or.inl ⟨by rfl, ?hy18a⟩) (by assumption) ?rest18a
        case hy18a => ((intro w' hSw; (try dsimp only at hSw); go_simp) <;> with_reducible rfl)
        (try simp only [Act.put, List.setIfInBounds_toArray, List.set_cons_zero, List.set_cons_succ])
        refine wpAnyH_take (i := 19) (oi := { dst := some 70, op := Op.move (Operand.tmp 10), type := 3, pos := _, after := #[{ on := 11, ground := Ground.guard }], guard := some (11, false) }) (v := ?v19a) rfl (by kernel_rfl) (by kernel_rfl) (by kernel_rfl) (fun _ _ _ h => h) (Or.inl ⟨by rfl, ?hy19a⟩) (by assumption) ?rest19a
        case hy19a => ((intro w' hSw; (try dsimp only at hSw); go_simp) <;> with_reducible rfl)
        (try simp only [Act.put, List.setIfInBounds_toArray, List.set_cons_zero, List.set_cons_succ])
        refine wpAnyH_take (i := 20) (oi := { dst := some 71, op := Op.indexAddr 22 (Operand.tmp 69) (Operand.tmp 70), type := 0, pos := _, after := #[{ on := 18, ground := Ground.data }, { on := 19, ground := Ground.data }, { on := 11, ground := Ground.guard }], guard := some (11, false) }) (v := ?v20a) rfl (by kernel_rfl) (by kernel_rfl) (by kernel_rfl) (fun _ _ _ h => h) (Or.inl ⟨by rfl, ?hy20a⟩) (by assumption) ?rest20a
        case hy20a => ((intro w' hSw; (try dsimp only at hSw); go_simp) <;> with_reducible rfl)
        (try simp only [Act.put, List.setIfInBounds_toArray, List.set_cons_zero, List.set_cons_succ])
        refine wpAnyH_take (i := 21) (oi := { dst := some 72, op := Op.fieldAddr 31 (Operand.tmp 71) 0, type := 0, pos := _, after := #[{ on := 20, ground := Ground.data }, { on := 11, ground := Ground.guard }], guard := some (11, false) }) (v := ?v21a) rfl (by kernel_rfl) (by kernel_rfl) (by kernel_rfl) (fun _ _ _ h => h) (Or.inl ⟨by rfl, ?hy21a⟩) (by assumption) ?rest21a
        case hy21a => ((intro w' hSw; (try dsimp only at hSw); go_simp) <;> with_reducible rfl)
        (try simp only [Act.put, List.setIfInBounds_toArray, List.set_cons_zero, List.set_cons_succ])
        refine wpAnyH_take (i := 22) (oi := { dst := some 73, op := Op.load 9 (Operand.tmp 72), type := 9, pos := _, after := #[{ on := 21, ground := Ground.data }, { on := 11, ground := Ground.guard }], guard := some (11, false) }) (v := ?v22a) rfl (by kernel_rfl) (by kernel_rfl) (by kernel_rfl) (fun _ _ _ h => h) (Or.inl ⟨by rfl, ?hy22a⟩) (by assumption) ?rest22a
        case hy22a => ((intro w' hSw; (try dsimp only at hSw); go_simp) <;> with_reducible rfl)
        (try simp only [Act.put, List.setIfInBounds_toArray, List.set_cons_zero, List.set_cons_succ])
        refine wpAnyH_ready (rs := [17]) (by kernel_rfl) (by simp) ?_
        refine AllReadyH.cons (o := { dst := some 68, op := Op.call { callee := Callee.value (Operand.func 20), args := #[Operand.tmp 67], argTypes := #[9] }, type := 9, pos := _, after := #[{ on := 16, ground := Ground.data }, { on := 11, ground := Ground.chain }, { on := 11, ground := Ground.guard }], guard := some (11, false) }) rfl (fun K hK => ?_) AllReadyH.nil
        go_simp
        refine (HLB.out _).mono ?_; rintro e w' ⟨rfl, hb⟩
        (try go_wp2_with fail)
        refine hK.out _ _ ?kp17a (fun hHeld => ?rest17a)
        case kp17a => exact KT.out _ _ (by assumption) (by assumption)
        clear hK K
        (try simp only [Act.put, List.setIfInBounds_toArray, List.set_cons_zero, List.set_cons_succ])
        refine wpAnyH_ready (rs := [23]) (by kernel_rfl) (by simp) ?_
        refine AllReadyH.cons (o := { dst := some 74, op := Op.call { callee := Callee.value (Operand.func 20), args := #[Operand.tmp 73], argTypes := #[9] }, type := 9, pos := _, after := #[{ on := 22, ground := Ground.data }, { on := 17, ground := Ground.chain }, { on := 11, ground := Ground.guard }], guard := some (11, false) }) rfl (fun K hK => ?_) AllReadyH.nil
        go_simp
        refine (HLA.out _).mono ?_; rintro e w' ⟨rfl, hb⟩
        (try go_wp2_with fail)
        refine hK.out _ _ ?kp23a (fun hHeld => ?rest23a)
        case kp23a => exact KT.out _ _ (by assumption) (by assumption)
        clear hK K
        (try simp only [Act.put, List.setIfInBounds_toArray, List.set_cons_zero, List.set_cons_succ])
        refine wpAnyH_take (i := 24) (oi := { dst := some 75, op := Op.binOp BinOp.neq 9 (Operand.tmp 68) (Operand.tmp 74) 9, type := 4, pos := _, after := #[{ on := 17, ground := Ground.data }, { on := 23, ground := Ground.data }, { on := 11, ground := Ground.guard }], guard := some (11, false) }) (v := ?v24a) rfl (by kernel_rfl) (by kernel_rfl) (by kernel_rfl) (fun _ _ _ h => h) (Or.inl ⟨by rfl, ?hy24a⟩) (by assumption) ?rest24a
        case hy24a => ((intro w' hSw; (try dsimp only at hSw); go_simp) <;> with_reducible rfl)
        (try simp only [Act.put, List.setIfInBounds_toArray, List.set_cons_zero, List.set_cons_succ])
        refine wpAnyH_take (i := 25) (oi := { dst := some 76, op := Op.pick (Operand.tmp 62) (Operand.const (Value.bool true)) (Operand.tmp 75), type := 4, pos := _, after := #[{ on := 11, ground := Ground.data }, { on := 24, ground := Ground.data }], guard := none }) (v := ?v25a) rfl (by kernel_rfl) (by kernel_rfl) (by kernel_rfl) (fun _ _ _ h => h) (Or.inl ⟨by rfl, ?hy25a⟩) (by assumption) ?rest25a
        case hy25a => ((intro w' hSw; (try dsimp only at hSw); go_simp) <;> with_reducible rfl)
        (try simp only [Act.put, List.setIfInBounds_toArray, List.set_cons_zero, List.set_cons_succ])
        refine wpAnyH_take (i := 26) (oi := { dst := some 77, op := Op.move (Operand.tmp 76), type := 4, pos := _, after := #[{ on := 25, ground := Ground.data }, { on := 23, ground := Ground.chain }], guard := none }) (v := ?v26a) rfl (by kernel_rfl) (by kernel_rfl) (by kernel_rfl) (fun _ _ _ h => h) (Or.inl ⟨by rfl, ?hy26a⟩) (by assumption) ?rest26a
        case hy26a => ((intro w' hSw; (try dsimp only at hSw); go_simp) <;> with_reducible rfl)
        (try simp only [Act.put, List.setIfInBounds_toArray, List.set_cons_zero, List.set_cons_succ])
        refine wpAnyH_take (i := 27) (oi := { dst := some 78, op := Op.move (Operand.tmp 0), type := 3, pos := _, after := #[{ on := 26, ground := Ground.guard }], guard := some (26, false) }) (v := ?v27a) rfl (by kernel_rfl) (by kernel_rfl) (by kernel_rfl) (fun _ _ _ h => h) (Or.inl ⟨by rfl, ?hy27a⟩) (by assumption) ?rest27a
        case hy27a => ((intro w' hSw; (try dsimp only at hSw); go_simp) <;> with_reducible rfl)
        (try simp only [Act.put, List.setIfInBounds_toArray, List.set_cons_zero, List.set_cons_succ])
        refine wpAnyH_take (i := 28) (oi := { dst := some 79, op := Op.binOp BinOp.eql 3 (Operand.tmp 78) (Operand.const (Value.int IntKind.i64 0)) 3, type := 4, pos := _, after := #[{ on := 27, ground := Ground.data }, { on := 26, ground := Ground.guard }], guard := some (26, false) }) (v := ?v28a) rfl (by kernel_rfl) (by kernel_rfl) (by kernel_rfl) (fun _ _ _ h => h) (Or.inl ⟨by rfl, ?hy28a⟩) (by assumption) ?rest28a
        case hy28a => ((intro w' hSw; (try dsimp only at hSw); go_simp) <;> with_reducible rfl)
        (try simp only [Act.put, List.setIfInBounds_toArray, List.set_cons_zero, List.set_cons_succ])
        refine wpAnyH_take (i := 29) (oi := { dst := some 80, op := Op.move (Operand.tmp 79), type := 4, pos := _, after := #[{ on := 28, ground := Ground.data }, { on := 26, ground := Ground.chain }, { on := 26, ground := Ground.guard }], guard := some (26, false) }) (v := ?v29a) rfl (by kernel_rfl) (by kernel_rfl) (by kernel_rfl) (fun _ _ _ h => h) (Or.inl ⟨by rfl, ?hy29a⟩) (by assumption) ?rest29a
        case hy29a => ((intro w' hSw; (try dsimp only at hSw); go_simp) <;> with_reducible rfl)
        (try simp only [Act.put, List.setIfInBounds_toArray, List.set_cons_zero, List.set_cons_succ])
        refine wpAnyH_take (i := 30) (oi := { dst := some 81, op := Op.move (Operand.tmp 9), type := 22, pos := _, after := #[{ on := 29, ground := Ground.guard }], guard := some (29, true) }) (v := undef) rfl (by kernel_rfl) (by kernel_rfl) (by kernel_rfl) (fun _ _ _ h => h) (Or.inr ⟨by rfl, rfl⟩) (by assumption) ?rest30a
        (try simp only [Act.put, List.setIfInBounds_toArray, List.set_cons_zero, List.set_cons_succ])
        refine wpAnyH_take (i := 31) (oi := { dst := some 82, op := Op.move (Operand.tmp 10), type := 3, pos := _, after := #[{ on := 29, ground := Ground.guard }], guard := some (29, true) }) (v := undef) rfl (by kernel_rfl) (by kernel_rfl) (by kernel_rfl) (fun _ _ _ h => h) (Or.inr ⟨by rfl, rfl⟩) (by assumption) ?rest31a
        (try simp only [Act.put, List.setIfInBounds_toArray, List.set_cons_zero, List.set_cons_succ])
        refine wpAnyH_take (i := 32) (oi := { dst := some 83, op := Op.indexAddr 22 (Operand.tmp 81) (Operand.tmp 82), type := 0, pos := _, after := #[{ on := 30, ground := Ground.data }, { on := 31, ground := Ground.data }, { on := 29, ground := Ground.guard }], guard := some (29, true) }) (v := undef) rfl (by kernel_rfl) (by kernel_rfl) (by kernel_rfl) (fun _ _ _ h => h) (Or.inr ⟨by rfl, rfl⟩) (by assumption) ?rest32a
        (try simp only [Act.put, List.setIfInBounds_toArray, List.set_cons_zero, List.set_cons_succ])
        refine wpAnyH_take (i := 33) (oi := { dst := some 84, op := Op.load 31 (Operand.tmp 83), type := 31, pos := _, after := #[{ on := 32, ground := Ground.data }, { on := 29, ground := Ground.guard }], guard := some (29, true) }) (v := undef) rfl (by kernel_rfl) (by kernel_rfl) (by kernel_rfl) (fun _ _ _ h => h) (Or.inr ⟨by rfl, rfl⟩) (by assumption) ?rest33a
        (try simp only [Act.put, List.setIfInBounds_toArray, List.set_cons_zero, List.set_cons_succ])
        refine wpAnyH_take (i := 34) (oi := { dst := some 85, op := Op.move (Operand.tmp 2), type := 22, pos := _, after := #[{ on := 29, ground := Ground.guard }], guard := some (29, true) }) (v := undef) rfl (by kernel_rfl) (by kernel_rfl) (by kernel_rfl) (fun _ _ _ h => h) (Or.inr ⟨by rfl, rfl⟩) (by assumption) ?rest34a
        (try simp only [Act.put, List.setIfInBounds_toArray, List.set_cons_zero, List.set_cons_succ])
        refine wpAnyH_take (i := 35) (oi := { dst := some 86, op := Op.move (Operand.tmp 10), type := 3, pos := _, after := #[{ on := 29, ground := Ground.guard }], guard := some (29, true) }) (v := undef) rfl (by kernel_rfl) (by kernel_rfl) (by kernel_rfl) (fun _ _ _ h => h) (Or.inr ⟨by rfl, rfl⟩) (by assumption) ?rest35a
        (try simp only [Act.put, List.setIfInBounds_toArray, List.set_cons_zero, List.set_cons_succ])
        refine wpAnyH_take (i := 36) (oi := { dst := some 87, op := Op.indexAddr 22 (Operand.tmp 85) (Operand.tmp 86), type := 0, pos := _, after := #[{ on := 34, ground := Ground.data }, { on := 35, ground := Ground.data }, { on := 29, ground := Ground.guard }], guard := some (29, true) }) (v := undef) rfl (by kernel_rfl) (by kernel_rfl) (by kernel_rfl) (fun _ _ _ h => h) (Or.inr ⟨by rfl, rfl⟩) (by assumption) ?rest36a
        (try simp only [Act.put, List.setIfInBounds_toArray, List.set_cons_zero, List.set_cons_succ])
        refine wpAnyH_take (i := 37) (oi := { dst := some 88, op := Op.load 31 (Operand.tmp 87), type := 31, pos := _, after := #[{ on := 36, ground := Ground.data }, { on := 29, ground := Ground.guard }], guard := some (29, true) }) (v := undef) rfl (by kernel_rfl) (by kernel_rfl) (by kernel_rfl) (fun _ _ _ h => h) (Or.inr ⟨by rfl, rfl⟩) (by assumption) ?rest37a
        (try simp only [Act.put, List.setIfInBounds_toArray, List.set_cons_zero, List.set_cons_succ])
        refine wpAnyH_take (i := 38) (oi := { dst := some 89, op := Op.binOp BinOp.neq 31 (Operand.tmp 84) (Operand.tmp 88) 31, type := 4, pos := _, after := #[{ on := 33, ground := Ground.data }, { on := 37, ground := Ground.data }, { on := 29, ground := Ground.guard }], guard := some (29, true) }) (v := undef) rfl (by kernel_rfl) (by kernel_rfl) (by kernel_rfl) (fun _ _ _ h => h) (Or.inr ⟨by rfl, rfl⟩) (by assumption) ?rest38a
        (try simp only [Act.put, List.setIfInBounds_toArray, List.set_cons_zero, List.set_cons_succ])
        refine wpAnyH_take (i := 39) (oi := { dst := some 90, op := Op.pick (Operand.tmp 80) (Operand.tmp 89) (Operand.const (Value.bool false)), type := 4, pos := _, after := #[{ on := 29, ground := Ground.data }, { on := 38, ground := Ground.data }, { on := 26, ground := Ground.guard }], guard := some (26, false) }) (v := ?v39a) rfl (by kernel_rfl) (by kernel_rfl) (by kernel_rfl) (fun _ _ _ h => h) (Or.inl ⟨by rfl, ?hy39a⟩) (by assumption) ?rest39a
        case hy39a => ((intro w' hSw; (try dsimp only at hSw); go_simp) <;> with_reducible rfl)
        (try simp only [Act.put, List.setIfInBounds_toArray, List.set_cons_zero, List.set_cons_succ])
        refine wpAnyH_take (i := 40) (oi := { dst := some 91, op := Op.pick (Operand.tmp 77) (Operand.const (Value.bool true)) (Operand.tmp 90), type := 4, pos := _, after := #[{ on := 26, ground := Ground.data }, { on := 39, ground := Ground.data }], guard := none }) (v := ?v40a) rfl (by kernel_rfl) (by kernel_rfl) (by kernel_rfl) (fun _ _ _ h => h) (Or.inl ⟨by rfl, ?hy40a⟩) (by assumption) ?rest40a
        case hy40a => ((intro w' hSw; (try dsimp only at hSw); go_simp) <;> with_reducible rfl)
        (try simp only [Act.put, List.setIfInBounds_toArray, List.set_cons_zero, List.set_cons_succ])
        refine wpAnyH_done (by kernel_rfl) ?_ _
        refine NoPanic.normal ?_
        all_goals
          have HE5 := Lib.hid (And.right (And.right (And.right (And.right (by assumption : _ ∧ _ ∧ _ ∧ _ ∧ Below wr.heap.size wr _)))))
          go_wp2
          go_roundw
          case rel => exact ⟨j + 1, by omega, by go_num, HBr.out.trans (HE5.out.mono HBr.out.size)⟩
          case measure => simp [intOf]; omega
      · have HBt : Hid (Below w.heap.size w wr) := Lib.hid (HB4.out.trans (hb.mono HB4.out.size))
        have HSr : Hid (SrcA wr a2 c2 M) := Lib.hid (HS4.out.below (Nat.le_refl _) hb)
        clear hb
        go_wp2_with fail
        refine (HAT2.out _ _ _ HSr.out).mono ?_; rintro e w6 ⟨a6, c6, rfl, hs6, hb⟩
        have HB6 : Hid (Below w.heap.size w w6) := Lib.hid (HBt.out.trans (hb.mono HBt.out.size))
        have HS6 := Lib.hid hs6
        have HSo : Hid (SrcA w6 a2 c2 M) := Lib.hid (HSr.out.below (Nat.le_refl _) hb)
        clear hb hs6
        go_wp2_with fail
        refine (HSM.out _ _ _ _ _ HS6.out HSo.out).mono ?_; rintro e w7 ⟨rfl, hb⟩
        have HB7 : Hid (Below w.heap.size w w7) := Lib.hid (HB6.out.trans (hb.mono HB6.out.size))
        clear hb
        go_wp2
        go_ret
        exact ⟨rfl, HB7.out⟩
  have hrs := hsame h1
  subst hrs
  clear hsame
  have d1 : (space != 1) = true := by simp [bne, beq_eq_false_iff_ne.2 h1]
  clear h1
  by_cases h0 : space = 0
  · subst h0
    go_enter Try.func6, Try.ntmps6
    go_wp2_with fail
    refine (shown_any _).mono ?_; rintro e w1 ⟨rfl, hb⟩
    have HB := Lib.hid hb
    clear hb
    go_wp2_with fail
    refine (HNA.out _).mono ?_; rintro e w2 ⟨rfl, rfl⟩
    go_wp2_with fail
    refine (HAT.out _ HB.out).mono ?_; rintro e w2 ⟨a2, c2, rfl, hs2, hb⟩
    have HB2 : Hid (Below w.heap.size w w2) := Lib.hid (HB.out.trans (hb.mono HB.out.size))
    have HS2 := Lib.hid hs2
    clear hb hs2
    go_wp2_with fail
    refine (HL2.out _).mono ?_; rintro e w3 ⟨rfl, hb⟩
    have HB3 : Hid (Below w.heap.size w w3) := Lib.hid (HB2.out.trans (hb.mono HB2.out.size))
    have HS3 : Hid (SrcA w3 a2 c2 M) := Lib.hid (HS2.out.below (Nat.le_refl _) hb)
    clear hb
    go_wp2_with fail
    refine (HL1.out _).mono ?_; rintro e w4 ⟨rfl, hb⟩
    have HB4 : Hid (Below w.heap.size w w4) := Lib.hid (HB3.out.trans (hb.mono HB3.out.size))
    have HS4 : Hid (SrcA w4 a2 c2 M) := Lib.hid (HS3.out.below (Nat.le_refl _) hb)
    clear hb
    go_wp2_with fail
    refine (HNB.out _).mono ?_; rintro e w5 ⟨rfl, rfl⟩
    go_wp2_with fail
    go_loopw [10] (fun i wr => ∃ j : Nat, j ≤ n ∧ i = .int .i64 j ∧ Below w4.heap.size w4 wr) (fun i _ => n - (intOf i).toNat)
    case atStart => exact ⟨0, by omega, rfl, Below.refl _ _⟩
    case round =>
      obtain ⟨j, hj, rfl, hb⟩ := hrel
      by_cases hlt : j < n
      · have hjl : j < l.length := by rw [HN.out]; exact hlt
        have HBw : Hid (Below w.heap.size w wr) := Lib.hid (HB4.out.trans (hb.mono HB4.out.size))
        obtain ⟨b2, o2, he2, hb2, p1, p2⟩ := HEL.out j hjl wr a2 c2 (HS4.out.below (Nat.le_refl _) hb)
        obtain ⟨b1, o1, he1, hb1, q1, q2⟩ := (H.out.below (Nat.le_refl _) HBw.out).at_ j hjl
        subst he1 he2
        have hsz := HSZ.out _ (List.getElem_mem hjl)
        have hla := fun wx => reflower_any l[j].1 wx hsz
        have hlb := fun wx => reflower_any (atn 0 l[j].1) wx (atn_size 0 _ hsz)
        rw [atn_low] at hlb
        rw [show atn 0 l[j].1 = l[j].1 by simp [atn]] at p1 hlb
        generalize l[j].1 = x at p1 q1 hla hlb
        generalize l[j].2 = y at p2 q2
        generalize (ByteArray.mk (x.data.toList.map low).toArray) = Z2 at hla hlb
        have HLA := Lib.hid hla
        have HLB := Lib.hid hlb
        have KD : Hid (wr.drew.cell? ⟨b2, o2 + j * 2, none⟩ = some (.string x) ∧ wr.drew.cell? ⟨b2, o2 + j * 2 + 1, none⟩ = some (.string y) ∧ wr.drew.cell? ⟨b1, o1 + j * 2, none⟩ = some (.string x) ∧ wr.drew.cell? ⟨b1, o1 + j * 2 + 1, none⟩ = some (.string y) ∧ Below wr.heap.size wr wr.drew) := Lib.hid ⟨p1, p2, q1, q2, (Below.refl _ _).drew⟩
        have KT : Hid (∀ wx wy, (wx.cell? ⟨b2, o2 + j * 2, none⟩ = some (.string x) ∧ wx.cell? ⟨b2, o2 + j * 2 + 1, none⟩ = some (.string y) ∧ wx.cell? ⟨b1, o1 + j * 2, none⟩ = some (.string x) ∧ wx.cell? ⟨b1, o1 + j * 2 + 1, none⟩ = some (.string y) ∧ Below wr.heap.size wr wx) → Below wx.heap.size wx wy → wy.cell? ⟨b2, o2 + j * 2, none⟩ = some (.string x) ∧ wy.cell? ⟨b2, o2 + j * 2 + 1, none⟩ = some (.string y) ∧ wy.cell? ⟨b1, o1 + j * 2, none⟩ = some (.string x) ∧ wy.cell? ⟨b1, o1 + j * 2 + 1, none⟩ = some (.string y) ∧ Below wr.heap.size wr wy) := Lib.hid fun wx wy hs hbb => by
          have hq := hs.2.2.2.2.trans (hbb.mono hs.2.2.2.2.size)
          exact ⟨(hq.cell (p := ⟨b2, o2 + j * 2, none⟩) hb2).trans p1, (hq.cell (p := ⟨b2, o2 + j * 2 + 1, none⟩) hb2).trans p2, (hq.cell (p := ⟨b1, o1 + j * 2, none⟩) hb1).trans q1, (hq.cell (p := ⟨b1, o1 + j * 2 + 1, none⟩) hb1).trans q2, hq⟩
        have HBr := Lib.hid hb
        have hj0 : (0 : Int) ≤ (j : Int) := by omega
        have hj1 : (j : Int) < (n : Int) := by omega
        clear p1 p2 q1 q2 hla hlb hb hsz
        go_wp2_with fail
        go_region_held3 (fun w' => w'.cell? ⟨b2, o2 + j * 2, none⟩ = some (.string x) ∧ w'.cell? ⟨b2, o2 + j * 2 + 1, none⟩ = some (.string y) ∧ w'.cell? ⟨b1, o1 + j * 2, none⟩ = some (.string x) ∧ w'.cell? ⟨b1, o1 + j * 2 + 1, none⟩ = some (.string y) ∧ Below wr.heap.size wr w') (first | exact KD.out | exact KT.out _ _ (by assumption) hb)
          (first
            | (go_at_call_of 20 (Value.string x); refine (HLB.out _).mono ?_; rintro e w' ⟨rfl, hb⟩)
            | (go_at_call 20; refine (HLA.out _).mono ?_; rintro e w' ⟨rfl, hb⟩))
        all_goals
          have HE5 := Lib.hid (And.right (And.right (And.right (And.right (by assumption : _ ∧ _ ∧ _ ∧ _ ∧ Below wr.heap.size wr _)))))
          go_wp2
          go_roundw
          case rel => exact ⟨j + 1, by omega, by go_num, HBr.out.trans (HE5.out.mono HBr.out.size)⟩
          case measure => simp [intOf]; omega
      · have HBt : Hid (Below w.heap.size w wr) := Lib.hid (HB4.out.trans (hb.mono HB4.out.size))
        have HSr : Hid (SrcA wr a2 c2 M) := Lib.hid (HS4.out.below (Nat.le_refl _) hb)
        clear hb
        go_wp2_with fail
        refine (HAT2.out _ _ _ HSr.out).mono ?_; rintro e w6 ⟨a6, c6, rfl, hs6, hb⟩
        have HB6 : Hid (Below w.heap.size w w6) := Lib.hid (HBt.out.trans (hb.mono HBt.out.size))
        have HS6 := Lib.hid hs6
        have HSo : Hid (SrcA w6 a2 c2 M) := Lib.hid (HSr.out.below (Nat.le_refl _) hb)
        clear hb hs6
        go_wp2_with fail
        refine (HSM.out _ _ _ _ _ HS6.out HSo.out).mono ?_; rintro e w7 ⟨rfl, hb⟩
        have HB7 : Hid (Below w.heap.size w w7) := Lib.hid (HB6.out.trans (hb.mono HB6.out.size))
        clear hb
        go_wp2
        go_ret
        exact ⟨rfl, HB7.out⟩
  have b0 : (space == 0) = false := beq_eq_false_iff_ne.2 h0
  clear h0
  go_enter Try.func6, Try.ntmps6
  go_wp2_with fail
  refine (shown_any _).mono ?_; rintro e w1 ⟨rfl, hb⟩
  have HB := Lib.hid hb
  clear hb
  go_wp2_with fail
  refine (HNA.out _).mono ?_; rintro e w2 ⟨rfl, rfl⟩
  go_wp2_with fail
  refine (HAT.out _ HB.out).mono ?_; rintro e w2 ⟨a2, c2, rfl, hs2, hb⟩
  have HB2 : Hid (Below w.heap.size w w2) := Lib.hid (HB.out.trans (hb.mono HB.out.size))
  have HS2 := Lib.hid hs2
  clear hb hs2
  go_wp2_with fail
  refine (HL2.out _).mono ?_; rintro e w3 ⟨rfl, hb⟩
  have HB3 : Hid (Below w.heap.size w w3) := Lib.hid (HB2.out.trans (hb.mono HB2.out.size))
  have HS3 : Hid (SrcA w3 a2 c2 M) := Lib.hid (HS2.out.below (Nat.le_refl _) hb)
  clear hb
  go_wp2_with fail
  refine (HL1.out _).mono ?_; rintro e w4 ⟨rfl, hb⟩
  have HB4 : Hid (Below w.heap.size w w4) := Lib.hid (HB3.out.trans (hb.mono HB3.out.size))
  have HS4 : Hid (SrcA w4 a2 c2 M) := Lib.hid (HS3.out.below (Nat.le_refl _) hb)
  clear hb
  go_wp2_with fail
  refine (HNB.out _).mono ?_; rintro e w5 ⟨rfl, rfl⟩
  go_wp2_with fail
  go_loopw [10] (fun i wr => ∃ j : Nat, j ≤ n ∧ i = .int .i64 j ∧ Below w4.heap.size w4 wr) (fun i _ => n - (intOf i).toNat)
  case atStart => exact ⟨0, by omega, rfl, Below.refl _ _⟩
  case round =>
    obtain ⟨j, hj, rfl, hb⟩ := hrel
    by_cases hlt : j < n
    · have hjl : j < l.length := by rw [HN.out]; exact hlt
      have HBw : Hid (Below w.heap.size w wr) := Lib.hid (HB4.out.trans (hb.mono HB4.out.size))
      obtain ⟨b2, o2, he2, hb2, p1, p2⟩ := HEL.out j hjl wr a2 c2 (HS4.out.below (Nat.le_refl _) hb)
      obtain ⟨b1, o1, he1, hb1, q1, q2⟩ := (H.out.below (Nat.le_refl _) HBw.out).at_ j hjl
      subst he1 he2
      have hsz := HSZ.out _ (List.getElem_mem hjl)
      have hla := fun wx => reflower_any l[j].1 wx hsz
      have hlb := fun wx => reflower_any (atn space l[j].1) wx (atn_size space _ hsz)
      rw [atn_low] at hlb
      generalize l[j].1 = x at p1 q1 hla hlb
      generalize l[j].2 = y at p2 q2
      generalize atn space x = x' at p1 hlb
      generalize (ByteArray.mk (x.data.toList.map low).toArray) = Z2 at hla hlb
      have HLA := Lib.hid hla
      have HLB := Lib.hid hlb
      have KD : Hid (wr.drew.cell? ⟨b2, o2 + j * 2, none⟩ = some (.string x') ∧ wr.drew.cell? ⟨b2, o2 + j * 2 + 1, none⟩ = some (.string y) ∧ wr.drew.cell? ⟨b1, o1 + j * 2, none⟩ = some (.string x) ∧ wr.drew.cell? ⟨b1, o1 + j * 2 + 1, none⟩ = some (.string y) ∧ Below wr.heap.size wr wr.drew) := Lib.hid ⟨p1, p2, q1, q2, (Below.refl _ _).drew⟩
      have KT : Hid (∀ wx wy, (wx.cell? ⟨b2, o2 + j * 2, none⟩ = some (.string x') ∧ wx.cell? ⟨b2, o2 + j * 2 + 1, none⟩ = some (.string y) ∧ wx.cell? ⟨b1, o1 + j * 2, none⟩ = some (.string x) ∧ wx.cell? ⟨b1, o1 + j * 2 + 1, none⟩ = some (.string y) ∧ Below wr.heap.size wr wx) → Below wx.heap.size wx wy → wy.cell? ⟨b2, o2 + j * 2, none⟩ = some (.string x') ∧ wy.cell? ⟨b2, o2 + j * 2 + 1, none⟩ = some (.string y) ∧ wy.cell? ⟨b1, o1 + j * 2, none⟩ = some (.string x) ∧ wy.cell? ⟨b1, o1 + j * 2 + 1, none⟩ = some (.string y) ∧ Below wr.heap.size wr wy) := Lib.hid fun wx wy hs hbb => by
        have hq := hs.2.2.2.2.trans (hbb.mono hs.2.2.2.2.size)
        exact ⟨(hq.cell (p := ⟨b2, o2 + j * 2, none⟩) hb2).trans p1, (hq.cell (p := ⟨b2, o2 + j * 2 + 1, none⟩) hb2).trans p2, (hq.cell (p := ⟨b1, o1 + j * 2, none⟩) hb1).trans q1, (hq.cell (p := ⟨b1, o1 + j * 2 + 1, none⟩) hb1).trans q2, hq⟩
      have HBr := Lib.hid hb
      have hj0 : (0 : Int) ≤ (j : Int) := by omega
      have hj1 : (j : Int) < (n : Int) := by omega
      clear p1 p2 q1 q2 hla hlb hb hsz
      go_wp2_with fail
      refine wp_region_noPanic ?_
      refine wp_region_held_drew (S := fun w' => w'.cell? ⟨b2, o2 + j * 2, none⟩ = some (.string x') ∧ w'.cell? ⟨b2, o2 + j * 2 + 1, none⟩ = some (.string y) ∧ w'.cell? ⟨b1, o1 + j * 2, none⟩ = some (.string x) ∧ w'.cell? ⟨b1, o1 + j * 2 + 1, none⟩ = some (.string y) ∧ Below wr.heap.size wr w') (by kernel_rfl) ?hS0b (fun hHeld => ?restSb)
      case hS0b => exact KD.out
      refine wpAnyH_take (i := 0) (oi := { dst := some 51, op := Op.move (Operand.tmp 9), type := 22, pos := _, after := #[], guard := none }) (v := ?v0b) rfl (by kernel_rfl) (by kernel_rfl) (by kernel_rfl) (fun _ _ _ h => h) (Or.inl ⟨by rfl, ?hy0b⟩) (by assumption) ?rest0b
      case hy0b => ((intro w' hSw; (try dsimp only at hSw); go_simp) <;> with_reducible rfl)
      (try simp only [Act.put, List.setIfInBounds_toArray, List.set_cons_zero, List.set_cons_succ])
      refine wpAnyH_take (i := 1) (oi := { dst := some 52, op := Op.move (Operand.tmp 10), type := 3, pos := _, after := #[], guard := none }) (v := ?v1b) rfl (by kernel_rfl) (by kernel_rfl) (by kernel_rfl) (fun _ _ _ h => h) (Or.inl ⟨by rfl, ?hy1b⟩) (by assumption) ?rest1b
      case hy1b => ((intro w' hSw; (try dsimp only at hSw); go_simp) <;> with_reducible rfl)
      (try simp only [Act.put, List.setIfInBounds_toArray, List.set_cons_zero, List.set_cons_succ])
      refine wpAnyH_take (i := 2) (oi := { dst := some 53, op := Op.indexAddr 22 (Operand.tmp 51) (Operand.tmp 52), type := 0, pos := _, after := #[{ on := 0, ground := Ground.data }, { on := 1, ground := Ground.data }], guard := none }) (v := ?v2b) rfl (by kernel_rfl) (by kernel_rfl) (by kernel_rfl) (fun _ _ _ h => h) (Or.inl ⟨by rfl, ?hy2b⟩) (by assumption) ?rest2b
      case hy2b => ((intro w' hSw; (try dsimp only at hSw); go_simp) <;> with_reducible rfl)
      (try simp only [Act.put, List.setIfInBounds_toArray, List.set_cons_zero, List.set_cons_succ])
      refine wpAnyH_take (i := 3) (oi := { dst := some 54, op := Op.fieldAddr 31 (Operand.tmp 53) 1, type := 0, pos := _, after := #[{ on := 2, ground := Ground.data }], guard := none }) (v := ?v3b) rfl (by kernel_rfl) (by kernel_rfl) (by kernel_rfl) (fun _ _ _ h => h) (Or.inl ⟨by rfl, ?hy3b⟩) (by assumption) ?rest3b
      case hy3b => ((intro w' hSw; (try dsimp only at hSw); go_simp) <;> with_reducible rfl)
      (try simp only [Act.put, List.setIfInBounds_toArray, List.set_cons_zero, List.set_cons_succ])
      refine wpAnyH_take (i := 4) (oi := { dst := some 55, op := Op.load 9 (Operand.tmp 54), type := 9, pos := _, after := #[{ on := 3, ground := Ground.data }], guard := none }) (v := ?v4b) rfl (by kernel_rfl) (by kernel_rfl) (by kernel_rfl) (fun _ _ _ h => h) (Or.inl ⟨by rfl, ?hy4b⟩) (by assumption) ?rest4b
      case hy4b => ((intro w' hSw; (try dsimp only at hSw); go_simp) <;> with_reducible rfl)
      (try simp only [Act.put, List.setIfInBounds_toArray, List.set_cons_zero, List.set_cons_succ])
      refine wpAnyH_take (i := 5) (oi := { dst := some 56, op := Op.move (Operand.tmp 2), type := 22, pos := _, after := #[], guard := none }) (v := ?v5b) rfl (by kernel_rfl) (by kernel_rfl) (by kernel_rfl) (fun _ _ _ h => h) (Or.inl ⟨by rfl, ?hy5b⟩) (by assumption) ?rest5b
      case hy5b => ((intro w' hSw; (try dsimp only at hSw); go_simp) <;> with_reducible rfl)
      (try simp only [Act.put, List.setIfInBounds_toArray, List.set_cons_zero, List.set_cons_succ])
      refine wpAnyH_take (i := 6) (oi := { dst := some 57, op := Op.move (Operand.tmp 10), type := 3, pos := _, after := #[], guard := none }) (v := ?v6b) rfl (by kernel_rfl) (by kernel_rfl) (by kernel_rfl) (fun _ _ _ h => h) (Or.inl ⟨by rfl, ?hy6b⟩) (by assumption) ?rest6b
      case hy6b => ((intro w' hSw; (try dsimp only at hSw); go_simp) <;> with_reducible rfl)
      (try simp only [Act.put, List.setIfInBounds_toArray, List.set_cons_zero, List.set_cons_succ])
      refine wpAnyH_take (i := 7) (oi := { dst := some 58, op := Op.indexAddr 22 (Operand.tmp 56) (Operand.tmp 57), type := 0, pos := _, after := #[{ on := 5, ground := Ground.data }, { on := 6, ground := Ground.data }], guard := none }) (v := ?v7b) rfl (by kernel_rfl) (by kernel_rfl) (by kernel_rfl) (fun _ _ _ h => h) (Or.inl ⟨by rfl, ?hy7b⟩) (by assumption) ?rest7b
      case hy7b => ((intro w' hSw; (try dsimp only at hSw); go_simp) <;> with_reducible rfl)
      (try simp only [Act.put, List.setIfInBounds_toArray, List.set_cons_zero, List.set_cons_succ])
      refine wpAnyH_take (i := 8) (oi := { dst := some 59, op := Op.fieldAddr 31 (Operand.tmp 58) 1, type := 0, pos := _, after := #[{ on := 7, ground := Ground.data }], guard := none }) (v := ?v8b) rfl (by kernel_rfl) (by kernel_rfl) (by kernel_rfl) (fun _ _ _ h => h) (Or.inl ⟨by rfl, ?hy8b⟩) (by assumption) ?rest8b
      case hy8b => ((intro w' hSw; (try dsimp only at hSw); go_simp) <;> with_reducible rfl)
      (try simp only [Act.put, List.setIfInBounds_toArray, List.set_cons_zero, List.set_cons_succ])
      refine wpAnyH_take (i := 9) (oi := { dst := some 60, op := Op.load 9 (Operand.tmp 59), type := 9, pos := _, after := #[{ on := 8, ground := Ground.data }], guard := none }) (v := ?v9b) rfl (by kernel_rfl) (by kernel_rfl) (by kernel_rfl) (fun _ _ _ h => h) (Or.inl ⟨by rfl, ?hy9b⟩) (by assumption) ?rest9b
      case hy9b => ((intro w' hSw; (try dsimp only at hSw); go_simp) <;> with_reducible rfl)
      (try simp only [Act.put, List.setIfInBounds_toArray, List.set_cons_zero, List.set_cons_succ])
      refine wpAnyH_take (i := 10) (oi := { dst := some 61, op := Op.binOp BinOp.neq 9 (Operand.tmp 55) (Operand.tmp 60) 9, type := 4, pos := _, after := #[{ on := 4, ground := Ground.data }, { on := 9, ground := Ground.data }], guard := none }) (v := ?v10b) rfl (by kernel_rfl) (by kernel_rfl) (by kernel_rfl) (fun _ _ _ h => h) (Or.inl ⟨by rfl, ?hy10b⟩) (by assumption) ?rest10b
      case hy10b => ((intro w' hSw; (try dsimp only at hSw); go_simp) <;> with_reducible rfl)
      (try simp only [Act.put, List.setIfInBounds_toArray, List.set_cons_zero, List.set_cons_succ])
      refine wpAnyH_take (i := 11) (oi := { dst := some 62, op := Op.move (Operand.tmp 61), type := 4, pos := _, after := #[{ on := 10, ground := Ground.data }], guard := none }) (v := ?v11b) rfl (by kernel_rfl) (by kernel_rfl) (by kernel_rfl) (fun _ _ _ h => h) (Or.inl ⟨by rfl, ?hy11b⟩) (by assumption) ?rest11b
      case hy11b => ((intro w' hSw; (try dsimp only at hSw); go_simp) <;> with_reducible rfl)
      (try simp only [Act.put, List.setIfInBounds_toArray, List.set_cons_zero, List.set_cons_succ])
      refine wpAnyH_take (i := 12) (oi := { dst := some 63, op := Op.move (Operand.tmp 9), type := 22, pos := _, after := #[{ on := 11, ground := Ground.guard }], guard := some (11, false) }) (v := ?v12b) rfl (by kernel_rfl) (by kernel_rfl) (by kernel_rfl) (fun _ _ _ h => h) (Or.inl ⟨by rfl, ?hy12b⟩) (by assumption) ?rest12b
      case hy12b => ((intro w' hSw; (try dsimp only at hSw); go_simp) <;> with_reducible rfl)
      (try simp only [Act.put, List.setIfInBounds_toArray, List.set_cons_zero, List.set_cons_succ])
      refine wpAnyH_take (i := 13) (oi := { dst := some 64, op := Op.move (Operand.tmp 10), type := 3, pos := _, after := #[{ on := 11, ground := Ground.guard }], guard := some (11, false) }) (v := ?v13b) rfl (by kernel_rfl) (by kernel_rfl) (by kernel_rfl) (fun _ _ _ h => h) (Or.inl ⟨by rfl, ?hy13b⟩) (by assumption) ?rest13b
      case hy13b => ((intro w' hSw; (try dsimp only at hSw); go_simp) <;> with_reducible rfl)
      (try simp only [Act.put, List.setIfInBounds_toArray, List.set_cons_zero, List.set_cons_succ])
      refine wpAnyH_take (i := 14) (oi := { dst := some 65, op := Op.indexAddr 22 (Operand.tmp 63) (Operand.tmp 64), type := 0, pos := _, after := #[{ on := 12, ground := Ground.data }, { on := 13, ground := Ground.data }, { on := 11, ground := Ground.guard }], guard := some (11, false) }) (v := ?v14b) rfl (by kernel_rfl) (by kernel_rfl) (by kernel_rfl) (fun _ _ _ h => h) (Or.inl ⟨by rfl, ?hy14b⟩) (by assumption) ?rest14b
      case hy14b => ((intro w' hSw; (try dsimp only at hSw); go_simp) <;> with_reducible rfl)
      (try simp only [Act.put, List.setIfInBounds_toArray, List.set_cons_zero, List.set_cons_succ])
      refine wpAnyH_take (i := 15) (oi := { dst := some 66, op := Op.fieldAddr 31 (Operand.tmp 65) 0, type := 0, pos := _, after := #[{ on := 14, ground := Ground.data }, { on := 11, ground := Ground.guard }], guard := some (11, false) }) (v := ?v15b) rfl (by kernel_rfl) (by kernel_rfl) (by kernel_rfl) (fun _ _ _ h => h) (Or.inl ⟨by rfl, ?hy15b⟩) (by assumption) ?rest15b
      case hy15b => ((intro w' hSw; (try dsimp only at hSw); go_simp) <;> with_reducible rfl)
      (try simp only [Act.put, List.setIfInBounds_toArray, List.set_cons_zero, List.set_cons_succ])
      refine wpAnyH_take (i := 16) (oi := { dst := some 67, op := Op.load 9 (Operand.tmp 66), type := 9, pos := _, after := #[{ on := 15, ground := Ground.data }, { on := 11, ground := Ground.guard }], guard := some (11, false) }) (v := ?v16b) rfl (by kernel_rfl) (by kernel_rfl) (by kernel_rfl) (fun _ _ _ h => h) (Or.inl ⟨by rfl, ?hy16b⟩) (by assumption) ?rest16b
      case hy16b => ((intro w' hSw; (try dsimp only at hSw); go_simp) <;> with_reducible rfl)
      (try simp only [Act.put, List.setIfInBounds_toArray, List.set_cons_zero, List.set_cons_succ])
      refine wpAnyH_take (i := 18) (oi := { dst := some 69, op := Op.move (Operand.tmp 2), type := 22, pos := _, after := #[{ on := 11, ground := Ground.guard }], guard := some (11, false) }) (v := ?v18b) rfl (by kernel_rfl) (by kernel_rfl) (by kernel_rfl) (fun _ _ _ h => h) (Or.inl ⟨by rfl, ?hy18b⟩) (by assumption) ?rest18b
      case hy18b => ((intro w' hSw; (try dsimp only at hSw); go_simp) <;> with_reducible rfl)
      (try simp only [Act.put, List.setIfInBounds_toArray, List.set_cons_zero, List.set_cons_succ])
      refine wpAnyH_take (i := 19) (oi := { dst := some 70, op := Op.move (Operand.tmp 10), type := 3, pos := _, after := #[{ on := 11, ground := Ground.guard }], guard := some (11, false) }) (v := ?v19b) rfl (by kernel_rfl) (by kernel_rfl) (by kernel_rfl) (fun _ _ _ h => h) (Or.inl ⟨by rfl, ?hy19b⟩) (by assumption) ?rest19b
      case hy19b => ((intro w' hSw; (try dsimp only at hSw); go_simp) <;> with_reducible rfl)
      (try simp only [Act.put, List.setIfInBounds_toArray, List.set_cons_zero, List.set_cons_succ])
      refine wpAnyH_take (i := 20) (oi := { dst := some 71, op := Op.indexAddr 22 (Operand.tmp 69) (Operand.tmp 70), type := 0, pos := _, after := #[{ on := 18, ground := Ground.data }, { on := 19, ground := Ground.data }, { on := 11, ground := Ground.guard }], guard := some (11, false) }) (v := ?v20b) rfl (by kernel_rfl) (by kernel_rfl) (by kernel_rfl) (fun _ _ _ h => h) (Or.inl ⟨by rfl, ?hy20b⟩) (by assumption) ?rest20b
      case hy20b => ((intro w' hSw; (try dsimp only at hSw); go_simp) <;> with_reducible rfl)
      (try simp only [Act.put, List.setIfInBounds_toArray, List.set_cons_zero, List.set_cons_succ])
      refine wpAnyH_take (i := 21) (oi := { dst := some 72, op := Op.fieldAddr 31 (Operand.tmp 71) 0, type := 0, pos := _, after := #[{ on := 20, ground := Ground.data }, { on := 11, ground := Ground.guard }], guard := some (11, false) }) (v := ?v21b) rfl (by kernel_rfl) (by kernel_rfl) (by kernel_rfl) (fun _ _ _ h => h) (Or.inl ⟨by rfl, ?hy21b⟩) (by assumption) ?rest21b
      case hy21b => ((intro w' hSw; (try dsimp only at hSw); go_simp) <;> with_reducible rfl)
      (try simp only [Act.put, List.setIfInBounds_toArray, List.set_cons_zero, List.set_cons_succ])
      refine wpAnyH_take (i := 22) (oi := { dst := some 73, op := Op.load 9 (Operand.tmp 72), type := 9, pos := _, after := #[{ on := 21, ground := Ground.data }, { on := 11, ground := Ground.guard }], guard := some (11, false) }) (v := ?v22b) rfl (by kernel_rfl) (by kernel_rfl) (by kernel_rfl) (fun _ _ _ h => h) (Or.inl ⟨by rfl, ?hy22b⟩) (by assumption) ?rest22b
      case hy22b => ((intro w' hSw; (try dsimp only at hSw); go_simp) <;> with_reducible rfl)
      (try simp only [Act.put, List.setIfInBounds_toArray, List.set_cons_zero, List.set_cons_succ])
      refine wpAnyH_ready (rs := [17]) (by kernel_rfl) (by simp) ?_
      refine AllReadyH.cons (o := { dst := some 68, op := Op.call { callee := Callee.value (Operand.func 20), args := #[Operand.tmp 67], argTypes := #[9] }, type := 9, pos := _, after := #[{ on := 16, ground := Ground.data }, { on := 11, ground := Ground.chain }, { on := 11, ground := Ground.guard }], guard := some (11, false) }) rfl (fun K hK => ?_) AllReadyH.nil
      go_simp
      refine (HLB.out _).mono ?_; rintro e w' ⟨rfl, hb⟩
      (try go_wp2_with fail)
      refine hK.out _ _ ?kp17b (fun hHeld => ?rest17b)
      case kp17b => exact KT.out _ _ (by assumption) (by assumption)
      clear hK K
      (try simp only [Act.put, List.setIfInBounds_toArray, List.set_cons_zero, List.set_cons_succ])
      refine wpAnyH_ready (rs := [23]) (by kernel_rfl) (by simp) ?_
      refine AllReadyH.cons (o := { dst := some 74, op := Op.call { callee := Callee.value (Operand.func 20), args := #[Operand.tmp 73], argTypes := #[9] }, type := 9, pos := _, after := #[{ on := 22, ground := Ground.data }, { on := 17, ground := Ground.chain }, { on := 11, ground := Ground.guard }], guard := some (11, false) }) rfl (fun K hK => ?_) AllReadyH.nil
      go_simp
      refine (HLA.out _).mono ?_; rintro e w' ⟨rfl, hb⟩
      (try go_wp2_with fail)
      refine hK.out _ _ ?kp23b (fun hHeld => ?rest23b)
      case kp23b => exact KT.out _ _ (by assumption) (by assumption)
      clear hK K
      (try simp only [Act.put, List.setIfInBounds_toArray, List.set_cons_zero, List.set_cons_succ])
      refine wpAnyH_take (i := 24) (oi := { dst := some 75, op := Op.binOp BinOp.neq 9 (Operand.tmp 68) (Operand.tmp 74) 9, type := 4, pos := _, after := #[{ on := 17, ground := Ground.data }, { on := 23, ground := Ground.data }, { on := 11, ground := Ground.guard }], guard := some (11, false) }) (v := ?v24b) rfl (by kernel_rfl) (by kernel_rfl) (by kernel_rfl) (fun _ _ _ h => h) (Or.inl ⟨by rfl, ?hy24b⟩) (by assumption) ?rest24b
      case hy24b => ((intro w' hSw; (try dsimp only at hSw); go_simp) <;> with_reducible rfl)
      (try simp only [Act.put, List.setIfInBounds_toArray, List.set_cons_zero, List.set_cons_succ])
      refine wpAnyH_take (i := 25) (oi := { dst := some 76, op := Op.pick (Operand.tmp 62) (Operand.const (Value.bool true)) (Operand.tmp 75), type := 4, pos := _, after := #[{ on := 11, ground := Ground.data }, { on := 24, ground := Ground.data }], guard := none }) (v := ?v25b) rfl (by kernel_rfl) (by kernel_rfl) (by kernel_rfl) (fun _ _ _ h => h) (Or.inl ⟨by rfl, ?hy25b⟩) (by assumption) ?rest25b
      case hy25b => ((intro w' hSw; (try dsimp only at hSw); go_simp) <;> with_reducible rfl)
      (try simp only [Act.put, List.setIfInBounds_toArray, List.set_cons_zero, List.set_cons_succ])
      refine wpAnyH_take (i := 26) (oi := { dst := some 77, op := Op.move (Operand.tmp 76), type := 4, pos := _, after := #[{ on := 25, ground := Ground.data }, { on := 23, ground := Ground.chain }], guard := none }) (v := ?v26b) rfl (by kernel_rfl) (by kernel_rfl) (by kernel_rfl) (fun _ _ _ h => h) (Or.inl ⟨by rfl, ?hy26b⟩) (by assumption) ?rest26b
      case hy26b => ((intro w' hSw; (try dsimp only at hSw); go_simp) <;> with_reducible rfl)
      (try simp only [Act.put, List.setIfInBounds_toArray, List.set_cons_zero, List.set_cons_succ])
      refine wpAnyH_take (i := 27) (oi := { dst := some 78, op := Op.move (Operand.tmp 0), type := 3, pos := _, after := #[{ on := 26, ground := Ground.guard }], guard := some (26, false) }) (v := ?v27b) rfl (by kernel_rfl) (by kernel_rfl) (by kernel_rfl) (fun _ _ _ h => h) (Or.inl ⟨by rfl, ?hy27b⟩) (by assumption) ?rest27b
      case hy27b => ((intro w' hSw; (try dsimp only at hSw); go_simp) <;> with_reducible rfl)
      (try simp only [Act.put, List.setIfInBounds_toArray, List.set_cons_zero, List.set_cons_succ])
      refine wpAnyH_take (i := 28) (oi := { dst := some 79, op := Op.binOp BinOp.eql 3 (Operand.tmp 78) (Operand.const (Value.int IntKind.i64 0)) 3, type := 4, pos := _, after := #[{ on := 27, ground := Ground.data }, { on := 26, ground := Ground.guard }], guard := some (26, false) }) (v := ?v28b) rfl (by kernel_rfl) (by kernel_rfl) (by kernel_rfl) (fun _ _ _ h => h) (Or.inl ⟨by rfl, ?hy28b⟩) (by assumption) ?rest28b
      case hy28b => ((intro w' hSw; (try dsimp only at hSw); go_simp) <;> with_reducible rfl)
      (try simp only [Act.put, List.setIfInBounds_toArray, List.set_cons_zero, List.set_cons_succ])
      refine wpAnyH_take (i := 29) (oi := { dst := some 80, op := Op.move (Operand.tmp 79), type := 4, pos := _, after := #[{ on := 28, ground := Ground.data }, { on := 26, ground := Ground.chain }, { on := 26, ground := Ground.guard }], guard := some (26, false) }) (v := ?v29b) rfl (by kernel_rfl) (by kernel_rfl) (by kernel_rfl) (fun _ _ _ h => h) (Or.inl ⟨by rfl, ?hy29b⟩) (by assumption) ?rest29b
      case hy29b => ((intro w' hSw; (try dsimp only at hSw); go_simp) <;> with_reducible rfl)
      (try simp only [Act.put, List.setIfInBounds_toArray, List.set_cons_zero, List.set_cons_succ])
      refine wpAnyH_take (i := 30) (oi := { dst := some 81, op := Op.move (Operand.tmp 9), type := 22, pos := _, after := #[{ on := 29, ground := Ground.guard }], guard := some (29, true) }) (v := undef) rfl (by kernel_rfl) (by kernel_rfl) (by kernel_rfl) (fun _ _ _ h => h) (Or.inr ⟨by rfl, rfl⟩) (by assumption) ?rest30b
      (try simp only [Act.put, List.setIfInBounds_toArray, List.set_cons_zero, List.set_cons_succ])
      refine wpAnyH_take (i := 31) (oi := { dst := some 82, op := Op.move (Operand.tmp 10), type := 3, pos := _, after := #[{ on := 29, ground := Ground.guard }], guard := some (29, true) }) (v := undef) rfl (by kernel_rfl) (by kernel_rfl) (by kernel_rfl) (fun _ _ _ h => h) (Or.inr ⟨by rfl, rfl⟩) (by assumption) ?rest31b
      (try simp only [Act.put, List.setIfInBounds_toArray, List.set_cons_zero, List.set_cons_succ])
      refine wpAnyH_take (i := 32) (oi := { dst := some 83, op := Op.indexAddr 22 (Operand.tmp 81) (Operand.tmp 82), type := 0, pos := _, after := #[{ on := 30, ground := Ground.data }, { on := 31, ground := Ground.data }, { on := 29, ground := Ground.guard }], guard := some (29, true) }) (v := undef) rfl (by kernel_rfl) (by kernel_rfl) (by kernel_rfl) (fun _ _ _ h => h) (Or.inr ⟨by rfl, rfl⟩) (by assumption) ?rest32b
      (try simp only [Act.put, List.setIfInBounds_toArray, List.set_cons_zero, List.set_cons_succ])
      refine wpAnyH_take (i := 33) (oi := { dst := some 84, op := Op.load 31 (Operand.tmp 83), type := 31, pos := _, after := #[{ on := 32, ground := Ground.data }, { on := 29, ground := Ground.guard }], guard := some (29, true) }) (v := undef) rfl (by kernel_rfl) (by kernel_rfl) (by kernel_rfl) (fun _ _ _ h => h) (Or.inr ⟨by rfl, rfl⟩) (by assumption) ?rest33b
      (try simp only [Act.put, List.setIfInBounds_toArray, List.set_cons_zero, List.set_cons_succ])
      refine wpAnyH_take (i := 34) (oi := { dst := some 85, op := Op.move (Operand.tmp 2), type := 22, pos := _, after := #[{ on := 29, ground := Ground.guard }], guard := some (29, true) }) (v := undef) rfl (by kernel_rfl) (by kernel_rfl) (by kernel_rfl) (fun _ _ _ h => h) (Or.inr ⟨by rfl, rfl⟩) (by assumption) ?rest34b
      (try simp only [Act.put, List.setIfInBounds_toArray, List.set_cons_zero, List.set_cons_succ])
      refine wpAnyH_take (i := 35) (oi := { dst := some 86, op := Op.move (Operand.tmp 10), type := 3, pos := _, after := #[{ on := 29, ground := Ground.guard }], guard := some (29, true) }) (v := undef) rfl (by kernel_rfl) (by kernel_rfl) (by kernel_rfl) (fun _ _ _ h => h) (Or.inr ⟨by rfl, rfl⟩) (by assumption) ?rest35b
      (try simp only [Act.put, List.setIfInBounds_toArray, List.set_cons_zero, List.set_cons_succ])
      refine wpAnyH_take (i := 36) (oi := { dst := some 87, op := Op.indexAddr 22 (Operand.tmp 85) (Operand.tmp 86), type := 0, pos := _, after := #[{ on := 34, ground := Ground.data }, { on := 35, ground := Ground.data }, { on := 29, ground := Ground.guard }], guard := some (29, true) }) (v := undef) rfl (by kernel_rfl) (by kernel_rfl) (by kernel_rfl) (fun _ _ _ h => h) (Or.inr ⟨by rfl, rfl⟩) (by assumption) ?rest36b
      (try simp only [Act.put, List.setIfInBounds_toArray, List.set_cons_zero, List.set_cons_succ])
      refine wpAnyH_take (i := 37) (oi := { dst := some 88, op := Op.load 31 (Operand.tmp 87), type := 31, pos := _, after := #[{ on := 36, ground := Ground.data }, { on := 29, ground := Ground.guard }], guard := some (29, true) }) (v := undef) rfl (by kernel_rfl) (by kernel_rfl) (by kernel_rfl) (fun _ _ _ h => h) (Or.inr ⟨by rfl, rfl⟩) (by assumption) ?rest37b
      (try simp only [Act.put, List.setIfInBounds_toArray, List.set_cons_zero, List.set_cons_succ])
      refine wpAnyH_take (i := 38) (oi := { dst := some 89, op := Op.binOp BinOp.neq 31 (Operand.tmp 84) (Operand.tmp 88) 31, type := 4, pos := _, after := #[{ on := 33, ground := Ground.data }, { on := 37, ground := Ground.data }, { on := 29, ground := Ground.guard }], guard := some (29, true) }) (v := undef) rfl (by kernel_rfl) (by kernel_rfl) (by kernel_rfl) (fun _ _ _ h => h) (Or.inr ⟨by rfl, rfl⟩) (by assumption) ?rest38b
      (try simp only [Act.put, List.setIfInBounds_toArray, List.set_cons_zero, List.set_cons_succ])
      refine wpAnyH_take (i := 39) (oi := { dst := some 90, op := Op.pick (Operand.tmp 80) (Operand.tmp 89) (Operand.const (Value.bool false)), type := 4, pos := _, after := #[{ on := 29, ground := Ground.data }, { on := 38, ground := Ground.data }, { on := 26, ground := Ground.guard }], guard := some (26, false) }) (v := ?v39b) rfl (by kernel_rfl) (by kernel_rfl) (by kernel_rfl) (fun _ _ _ h => h) (Or.inl ⟨by rfl, ?hy39b⟩) (by assumption) ?rest39b
      case hy39b => ((intro w' hSw; (try dsimp only at hSw); go_simp) <;> with_reducible rfl)
      (try simp only [Act.put, List.setIfInBounds_toArray, List.set_cons_zero, List.set_cons_succ])
      refine wpAnyH_take (i := 40) (oi := { dst := some 91, op := Op.pick (Operand.tmp 77) (Operand.const (Value.bool true)) (Operand.tmp 90), type := 4, pos := _, after := #[{ on := 26, ground := Ground.data }, { on := 39, ground := Ground.data }], guard := none }) (v := ?v40b) rfl (by kernel_rfl) (by kernel_rfl) (by kernel_rfl) (fun _ _ _ h => h) (Or.inl ⟨by rfl, ?hy40b⟩) (by assumption) ?rest40b
      case hy40b => ((intro w' hSw; (try dsimp only at hSw); go_simp) <;> with_reducible rfl)
      (try simp only [Act.put, List.setIfInBounds_toArray, List.set_cons_zero, List.set_cons_succ])
      refine wpAnyH_done (by kernel_rfl) ?_ _
      refine NoPanic.normal ?_
      all_goals
        have HE5 := Lib.hid (And.right (And.right (And.right (And.right (by assumption : _ ∧ _ ∧ _ ∧ _ ∧ Below wr.heap.size wr _)))))
        go_wp2
        go_roundw
        case rel => exact ⟨j + 1, by omega, by go_num, HBr.out.trans (HE5.out.mono HBr.out.size)⟩
        case measure => simp [intOf]; omega
    · have HBt : Hid (Below w.heap.size w wr) := Lib.hid (HB4.out.trans (hb.mono HB4.out.size))
      have HSr : Hid (SrcA wr a2 c2 M) := Lib.hid (HS4.out.below (Nat.le_refl _) hb)
      clear hb
      go_wp2_with fail
      refine (HAT2.out _ _ _ HSr.out).mono ?_; rintro e w6 ⟨a6, c6, rfl, hs6, hb⟩
      have HB6 : Hid (Below w.heap.size w w6) := Lib.hid (HBt.out.trans (hb.mono HBt.out.size))
      have HS6 := Lib.hid hs6
      have HSo : Hid (SrcA w6 a2 c2 M) := Lib.hid (HSr.out.below (Nat.le_refl _) hb)
      clear hb hs6
      go_wp2_with fail
      refine (HSM.out _ _ _ _ _ HS6.out HSo.out).mono ?_; rintro e w7 ⟨rfl, hb⟩
      have HB7 : Hid (Below w.heap.size w w7) := Lib.hid (HB6.out.trans (hb.mono HB6.out.size))
      clear hb
      go_wp2
      go_ret
      exact ⟨rfl, HB7.out⟩
end Go.Proofs.Ytopmahhlebkjiaa
