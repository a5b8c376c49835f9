/- LexJoined. -/
import Derived.Test.YtlbempnhpcofmaaDoorP
import Derived.Deep.RegionHeld3
set_option linter.unusedVariables false
namespace Go.Proofs.YtlbempnhpcofmaaDoor
open Go.RowKit

def NumsI (w : World) (a : Option Addr) (l : List Int) : Prop := ∀ j (h : j < l.length), ∃ b o, a = some ⟨b, o, none⟩ ∧ b < w.heap.size ∧ w.cell? ⟨b, o + j, none⟩ = some (.int .i64 l[j])
def msz : List (List UInt8) → Nat
  | [] => 0
  | m :: r => m.length + 8 + msz r
theorem msz_take (ms : List (List UInt8)) : ∀ k (hk : k < ms.length), msz (ms.take k) + ms[k].length + 8 ≤ msz ms := by
  induction ms with
  | nil => intro k hk; simp at hk
  | cons m r ih =>
    intro k hk
    cases k with
    | zero => simp only [List.take_zero, msz, List.getElem_cons_zero]; omega
    | succ k =>
      have := ih k (by simpa using hk)
      simp only [List.take_succ_cons, msz, List.getElem_cons_succ]; omega
theorem mem1_len (p : Noisy) : (mem1 p).length ≤ p.1.length + 7 := by
  obtain ⟨m, b1, b2, b3⟩ := p
  unfold mem1 sp1 cms sp2
  cases b1 <;> cases b2 <;> cases b3 <;> simp
theorem joinR_len (r : List Noisy) : (joinR r).length ≤ msz (r.map (·.1)) := by
  induction r with
  | nil => simp [joinR]
  | cons p r ih =>
    have := mem1_len p
    simp only [joinR, List.length_cons, List.length_append, List.map_cons, msz]; omega
theorem join_len (ps : List Noisy) : (join ps).length ≤ msz (ps.map (·.1)) := by
  cases ps with
  | nil => simp [join]
  | cons p r =>
    have := mem1_len p
    have := joinR_len r
    simp only [join, List.length_append, List.map_cons, msz]; omega
theorem lstF_total : ∀ (f : Nat) (l : List UInt8) (ms : List (List UInt8)), lstF f l = some ms → (l = [] → ms = []) ∧ msz ms ≤ 8 * (l.length + 1)
  | 0, l, ms, h => by simp only [lstF, Option.some.injEq] at h; subst h; exact ⟨fun _ => rfl, by simp [msz]⟩
  | f + 1, l, ms, h => by
    simp only [lstF] at h
    split at h
    · simp only [Option.some.injEq] at h; subst h; exact ⟨fun _ => rfl, by simp [msz]⟩
    · rename_i hl
      refine ⟨fun e => absurd e hl, ?_⟩
      cases hc : cut l with
      | none => rw [hc] at h; simp at h
      | some n =>
        rw [hc] at h
        simp only at h
        have hcl := cut_le l n hc
        have htl := trim_len (l.take n)
        rw [List.length_take] at htl
        cases hr : lstF f (l.drop (n + 1)) with
        | none => rw [hr] at h; simp at h
        | some m' =>
          rw [hr] at h
          obtain ⟨i1, i2⟩ := lstF_total f _ m' hr
          simp only [Option.map_some, Option.some.injEq] at h
          rw [List.length_drop] at i2
          have hm0 : n = l.length → m' = [] := fun e => i1 (List.drop_eq_nil_iff.2 (by omega))
          subst h
          by_cases e : n = l.length
          · have := hm0 e
            subst this
            split
            · simp [msz]
            · simp only [msz]; omega
          · split
            · omega
            · simp only [msz]; omega
theorem lst_total (l : List UInt8) (ms : List (List UInt8)) (h : lst l = some ms) : msz ms ≤ 8 * (l.length + 1) := (lstF_total _ _ _ h).2

set_option maxHeartbeats 64000000 in
set_option maxRecDepth 100000 in
theorem lexJoined_any (X : ByteArray) (na : Option Addr) (nc nn : Nat) (ns : List Int) (w : World) (hx : X.size ≤ 2097152) (hns : NumsI w na ns) (hnn : ns.length = nn) (hnb : nn ≤ 9223372036854775807) :
    Calls Tryd.prog 8 #[.string X, .slice na nn nc] w fun e w' => e = .returned (.bool true) ∧ Below w.heap.size w w' := by
  have H0 := Lib.hid fun wx => shown_any wx
  have hl := fun wx => list_any X wx (by omega)
  cases hR : lst X.data.toList with
  | none =>
    rw [hR] at hl
    have HL : Hid (∀ wx, Calls Tryd.prog 24 #[.string X] wx fun e w' => Below wx.heap.size wx w' ∧ e = .returned (.tuple #[.slice none 0 0, .int .i64 5])) := Lib.hid hl
    clear hl hR hns
    go_enter Tryd.func8, Tryd.ntmps8
    go_wp2_with fail
    refine (H0.out _).mono ?_; rintro e w0 ⟨rfl, hb⟩
    have B0 := Lib.hid hb
    clear hb
    go_wp2_with fail
    refine (HL.out _).mono ?_; rintro e w1 ⟨hb, rfl⟩
    have B1 := Lib.hid (B0.out.trans (hb.mono B0.out.size))
    clear hb
    go_wp2
    go_ret
    exact ⟨rfl, B1.out⟩
  | some ms =>
    rw [hR] at hl
    have HL : Hid (∀ wx, Calls Tryd.prog 24 #[.string X] wx fun e w' => Below wx.heap.size wx w' ∧ ∃ v, e = .returned (.tuple #[v, .int .i64 0]) ∧ OwnS w' wx.heap.size v (ms.map mk)) := Lib.hid hl
    have hmem := lst_members _ _ hR
    have htot := lst_total _ _ hR
    have hmsl := lst_len _ _ hR
    rw [len_data] at htot hmsl
    obtain ⟨n, hn⟩ : ∃ n, ms.length = n := ⟨_, rfl⟩
    have HMEM := Lib.hid hmem
    have HNS := Lib.hid hns
    have HN := Lib.hid hn
    have HNN := Lib.hid hnn
    have hnb2 : n ≤ 2097152 := by omega
    clear hl hR hmem hns hmsl hn hnn
    go_enter Tryd.func8, Tryd.ntmps8
    go_wp2_with fail
    refine (H0.out _).mono ?_; rintro e w0 ⟨rfl, hb⟩
    have B0 := Lib.hid hb
    clear hb
    go_wp2_with fail
    refine (HL.out _).mono ?_; rintro e w1 ⟨hb, v, rfl, hown⟩
    have B1 := Lib.hid (B0.out.trans (hb.mono B0.out.size))
    obtain ⟨a, c, hv, hsrc⟩ := ownS_src hown
    rw [List.length_map, HN.out] at hv
    subst hv
    have HS1 := Lib.hid hsrc
    clear hb hown hsrc
    go_wp2_with fail
    go_loopw [8, 9] (fun t i wr => ∃ (k : Nat) (ps : List Noisy) (T : ByteArray), k ≤ n ∧ i = .int .i64 k ∧ ps.length = k ∧ ps.map (·.1) = ms.take k ∧ t = .string T ∧ T.data.toList = join ps ∧ Below w1.heap.size w1 wr) (fun _ i _ => n - (intOf i).toNat)
    case atStart => exact ⟨0, [], ⟨#[]⟩, by omega, rfl, rfl, by simp, rfl, rfl, Below.refl _ _⟩
    case round =>
      obtain ⟨k, ps, T, hk, rfl, hpl, hpm, rfl, hT, hb⟩ := hrel
      have HB := Lib.hid hb
      by_cases hlt : k < n
      · have hkm : k < ms.length := by rw [HN.out]; exact hlt
        have hz := msz_take ms k hkm
        have hjl := join_len ps
        rw [hpm] at hjl
        obtain ⟨b1, o1, rfl, hb1, hc1⟩ := HS1.out.at_ k (by simpa using hkm)
        have d1 := (hb.cell (p := ⟨b1, o1 + k, none⟩) hb1).trans hc1
        rw [List.getElem_map] at d1
        have hTs : T.size = (join ps).length := by rw [← hT]; exact (len_data T).symm
        have hmemk := HMEM.out _ (List.getElem_mem hkm)
        obtain ⟨m, hm⟩ : ∃ m, m = ms[k] := ⟨_, rfl⟩
        rw [← hm] at d1 hmemk hz
        obtain ⟨S, hS⟩ : ∃ S, S = mk m := ⟨_, rfl⟩
        rw [← hS] at d1
        have hSs : S.size = m.length := by rw [hS]; exact size_mk m
        have hSl : S.data.toList = m := by rw [hS]; exact mk_list m
        have hS0 : 0 < S.size := by rw [hSs]; have := hmemk.1; cases m; exact absurd rfl this; simp
        have htr := fun wx => trim_any S wx (by omega)
        rw [hSl, trim_self hmemk] at htr
        have HTR : Hid (∀ wx, Calls Tryd.prog 17 #[.string S] wx fun e w' => e = .returned (.string S) ∧ Below wx.heap.size wx w') := Lib.hid (by rw [hS]; rw [hS] at htr; exact htr)
        obtain ⟨g1, g2, _⟩ := nonempty_beq hS0
        have s1 : ¬ 9223372036854775807 < T.size + 1 := by omega
        have u1 : ¬ 9223372036854775807 < T.size + 1 + S.size := by omega
        have v1 : ¬ 9223372036854775807 < T.size + 1 + S.size + 2 := by omega
        have s2 : ¬ 9223372036854775807 < T.size + 2 := by omega
        have u2 : ¬ 9223372036854775807 < T.size + 2 + S.size := by omega
        have v2 : ¬ 9223372036854775807 < T.size + 2 + S.size + 2 := by omega
        have s3 : ¬ 9223372036854775807 < T.size + 3 := by omega
        have u3 : ¬ 9223372036854775807 < T.size + 3 + S.size := by omega
        have v3 : ¬ 9223372036854775807 < T.size + 3 + S.size + 2 := by omega
        have s4 : ¬ 9223372036854775807 < T.size + 4 := by omega
        have u4 : ¬ 9223372036854775807 < T.size + 4 + S.size := by omega
        have v4 : ¬ 9223372036854775807 < T.size + 4 + S.size + 2 := by omega
        have s5 : ¬ 9223372036854775807 < T.size + 5 := by omega
        have u5 : ¬ 9223372036854775807 < T.size + 5 + S.size := by omega
        have v5 : ¬ 9223372036854775807 < T.size + 5 + S.size + 2 := by omega
        have s6 : ¬ 9223372036854775807 < T.size + 6 := by omega
        have u6 : ¬ 9223372036854775807 < T.size + 6 + S.size := by omega
        have v6 : ¬ 9223372036854775807 < T.size + 6 + S.size + 2 := by omega
        have u0 : ¬ 9223372036854775807 < T.size + S.size := by omega
        have v0 : ¬ 9223372036854775807 < T.size + S.size + 2 := by omega
        by_cases hz0 : 0 < nn
        · have hmod : k % nn < nn := Nat.mod_lt _ hz0
          obtain ⟨b2, o2, rfl, hb2, hc2⟩ := HNS.out (k % nn) (by rw [HNN.out]; exact hmod)
          have hrem : (k : Int).tmod (nn : Int) = ((k % nn : Nat) : Int) := by rw [Int.tmod_eq_emod_of_nonneg (by omega)]; rfl
          obtain ⟨q, hq⟩ : ∃ q, k % nn = q := ⟨_, rfl⟩
          obtain ⟨nv, hnv⟩ : ∃ nv, ns[k % nn]'(by rw [HNN.out]; exact hmod) = nv := ⟨_, rfl⟩
          rw [hnv] at hc2
          rw [hq] at hmod hc2 hrem
          have hbw := B1.out.trans (hb.mono B1.out.size)
          have d2 := (hbw.cell (p := ⟨b2, o2 + q, none⟩) hb2).trans hc2
          have HT := Lib.hid hT
          have HSL := Lib.hid hSl
          have HPM : Hid (∀ x : Bool × Bool × Bool, (ps ++ [((m, x) : Noisy)]).map (fun q : Noisy => q.1) = ms.take (k + 1)) := Lib.hid fun x => by
            rw [List.map_append, hpm, List.take_succ_eq_append_getElem hkm, ← hm]; rfl
          have HP0 : Hid (¬ 0 < k → ps = []) := Lib.hid fun h => List.eq_nil_of_length_eq_zero (by omega)
          have HP1 : Hid (0 < k → ps ≠ []) := Lib.hid fun h e => by rw [e] at hpl; simp at hpl; omega
          have HPL : Hid (∀ x : Noisy, (ps ++ [x]).length = k + 1) := Lib.hid fun x => by simp [hpl]
          have hb1r : b1 < wr.heap.size := Nat.lt_of_lt_of_le hb1 hb.size
          have hia : ∀ W, (Instr.indexAt 29 (.slice (some ⟨b1, o1, none⟩) n c) (.int .i64 k)).run Tryd.prog W = .ok (.pointer (some ⟨b1, o1 + k, none⟩)) W := by
            intro W
            have g1 : (0 : Int) ≤ (k : Int) := by omega
            have g2 : (k : Int) < n := by omega
            clear hT hpm hb hjl hz
            go_simp
          have D1 := Lib.hid d1
          have KD : Hid (Below wr.heap.size wr wr.drew ∧ wr.drew.cell? ⟨b1, o1 + k, none⟩ = some (.string S)) := Lib.hid ⟨(Below.refl _ _).drew, d1⟩
          have KT : Hid (∀ wx wy, (Below wr.heap.size wr wx ∧ wx.cell? ⟨b1, o1 + k, none⟩ = some (.string S)) → Below wx.heap.size wx wy → (Below wr.heap.size wr wy ∧ wy.cell? ⟨b1, o1 + k, none⟩ = some (.string S))) := Lib.hid fun wx wy hS hb =>
            ⟨hS.1.trans (hb.mono hS.1.size), (hb.cell (p := ⟨b1, o1 + k, none⟩) (Nat.lt_of_lt_of_le hb1r hS.1.size)).trans hS.2⟩
          have KE : Hid (∀ wx, (Below wr.heap.size wr wx ∧ wx.cell? ⟨b1, o1 + k, none⟩ = some (.string S)) → Below w1.heap.size w1 wx) := Lib.hid fun wx hS => HB.out.trans (hS.1.mono HB.out.size)
          clear hbw hc2 hq hnv hc1 hb htr hz hjl hpm hpl hT hTs hmemk hm hS hSl hkm
          have HNX : Hid (∀ T' : ByteArray, T'.data.toList = join ps ++ (if ps = [] then [] else [44]) ++ mem1 (m, bits BinOp.and IntKind.i64 nv 1 == 1, bits BinOp.and IntKind.i64 nv 2 == 2, bits BinOp.and IntKind.i64 nv 4 == 4) → T'.data.toList = join (ps ++ [(m, bits BinOp.and IntKind.i64 nv 1 == 1, bits BinOp.and IntKind.i64 nv 2 == 2, bits BinOp.and IntKind.i64 nv 4 == 4)])) := Lib.hid fun T' h => by rw [join_snoc]; exact h
          by_cases hk0 : 0 < k <;> cases e1 : (bits BinOp.and IntKind.i64 nv 1 == 1) <;> cases e2 : (bits BinOp.and IntKind.i64 nv 2 == 2) <;> cases e4 : (bits BinOp.and IntKind.i64 nv 4 == 4)
          all_goals
            go_wp2_with fail
            go_region_held3 (fun w' => Below wr.heap.size wr w' ∧ w'.cell? ⟨b1, o1 + k, none⟩ = some (.string S)) (first | exact KD.out | exact KT.out _ _ (by assumption) hb)
              (first
                | (go_at_call_of 17 (Value.string S); refine (HTR.out _).mono ?_; rintro e w' ⟨rfl, hb⟩))
            go_wp2
            go_roundw
            case rel =>
              have hps := HP0.out
              have hps1 := HP1.out
              refine ⟨k + 1, _, _, by omega, by go_num, HPL.out _, HPM.out (bits BinOp.and IntKind.i64 nv 1 == 1, bits BinOp.and IntKind.i64 nv 2 == 2, bits BinOp.and IntKind.i64 nv 4 == 4), rfl, HNX.out _ ?_, KE.out _ (by assumption)⟩
              simp [mem1, sp1, cms, sp2, e1, e2, e4, HT.out, HSL.out, hk0] at hps hps1 ⊢
              try simp [hps]
              try simp [hps1]
            case measure => simp [intOf]; omega
        · have HT := Lib.hid hT
          have HSL := Lib.hid hSl
          have HPM : Hid (∀ x : Bool × Bool × Bool, (ps ++ [((m, x) : Noisy)]).map (fun q : Noisy => q.1) = ms.take (k + 1)) := Lib.hid fun x => by
            rw [List.map_append, hpm, List.take_succ_eq_append_getElem hkm, ← hm]; rfl
          have HP0 : Hid (¬ 0 < k → ps = []) := Lib.hid fun h => List.eq_nil_of_length_eq_zero (by omega)
          have HP1 : Hid (0 < k → ps ≠ []) := Lib.hid fun h e => by rw [e] at hpl; simp at hpl; omega
          have HPL : Hid (∀ x : Noisy, (ps ++ [x]).length = k + 1) := Lib.hid fun x => by simp [hpl]
          have hb1r : b1 < wr.heap.size := Nat.lt_of_lt_of_le hb1 hb.size
          have hia : ∀ W, (Instr.indexAt 29 (.slice (some ⟨b1, o1, none⟩) n c) (.int .i64 k)).run Tryd.prog W = .ok (.pointer (some ⟨b1, o1 + k, none⟩)) W := by
            intro W
            have g1 : (0 : Int) ≤ (k : Int) := by omega
            have g2 : (k : Int) < n := by omega
            clear hT hpm hb hjl hz
            go_simp
          have D1 := Lib.hid d1
          have KD : Hid (Below wr.heap.size wr wr.drew ∧ wr.drew.cell? ⟨b1, o1 + k, none⟩ = some (.string S)) := Lib.hid ⟨(Below.refl _ _).drew, d1⟩
          have KT : Hid (∀ wx wy, (Below wr.heap.size wr wx ∧ wx.cell? ⟨b1, o1 + k, none⟩ = some (.string S)) → Below wx.heap.size wx wy → (Below wr.heap.size wr wy ∧ wy.cell? ⟨b1, o1 + k, none⟩ = some (.string S))) := Lib.hid fun wx wy hS hb =>
            ⟨hS.1.trans (hb.mono hS.1.size), (hb.cell (p := ⟨b1, o1 + k, none⟩) (Nat.lt_of_lt_of_le hb1r hS.1.size)).trans hS.2⟩
          have KE : Hid (∀ wx, (Below wr.heap.size wr wx ∧ wx.cell? ⟨b1, o1 + k, none⟩ = some (.string S)) → Below w1.heap.size w1 wx) := Lib.hid fun wx hS => HB.out.trans (hS.1.mono HB.out.size)
          clear hx hc1 hb htr hz hjl hpm hpl hT hTs hmemk hm hS hSl hkm
          have HNX : Hid (∀ T' : ByteArray, T'.data.toList = join ps ++ (if ps = [] then [] else [44]) ++ mem1 (m, bits BinOp.and IntKind.i64 (k : Int) 1 == 1, bits BinOp.and IntKind.i64 (k : Int) 2 == 2, bits BinOp.and IntKind.i64 (k : Int) 4 == 4) → T'.data.toList = join (ps ++ [(m, bits BinOp.and IntKind.i64 (k : Int) 1 == 1, bits BinOp.and IntKind.i64 (k : Int) 2 == 2, bits BinOp.and IntKind.i64 (k : Int) 4 == 4)])) := Lib.hid fun T' h => by rw [join_snoc]; exact h
          by_cases hk0 : 0 < k <;> cases e1 : (bits BinOp.and IntKind.i64 (k : Int) 1 == 1) <;> cases e2 : (bits BinOp.and IntKind.i64 (k : Int) 2 == 2) <;> cases e4 : (bits BinOp.and IntKind.i64 (k : Int) 4 == 4)
          all_goals
            go_wp2_with fail
            go_region_held3 (fun w' => Below wr.heap.size wr w' ∧ w'.cell? ⟨b1, o1 + k, none⟩ = some (.string S)) (first | exact KD.out | exact KT.out _ _ (by assumption) hb)
              (first
                | (go_at_call_of 17 (Value.string S); refine (HTR.out _).mono ?_; rintro e w' ⟨rfl, hb⟩))
            go_wp2
            go_roundw
            case rel =>
              have hps := HP0.out
              have hps1 := HP1.out
              refine ⟨k + 1, _, _, by omega, by go_num, HPL.out _, HPM.out (bits BinOp.and IntKind.i64 (k : Int) 1 == 1, bits BinOp.and IntKind.i64 (k : Int) 2 == 2, bits BinOp.and IntKind.i64 (k : Int) 4 == 4), rfl, HNX.out _ ?_, KE.out _ (by assumption)⟩
              simp [mem1, sp1, cms, sp2, e1, e2, e4, HT.out, HSL.out, hk0] at hps hps1 ⊢
              try simp [hps]
              try simp [hps1]
            case measure => simp [intOf]; omega
      · have hk2 : k = n := by omega
        have hpm2 : ps.map (·.1) = ms := by rw [hpm, List.take_of_length_le (by rw [HN.out]; omega)]
        have hjl := join_len ps
        rw [hpm2] at hjl
        have hTs : T.size = (join ps).length := by rw [← hT]; exact (len_data T).symm
        have hlj := lst_joined ps (fun q hq => HMEM.out _ (by rw [← hpm2]; exact List.mem_map_of_mem hq))
        rw [hpm2, ← hT] at hlj
        have hl2 := fun wx => list_any T wx (by omega)
        rw [hlj] at hl2
        have HL2 : Hid (∀ wx, Calls Tryd.prog 24 #[.string T] wx fun e w' => Below wx.heap.size wx w' ∧ ∃ v, e = .returned (.tuple #[v, .int .i64 0]) ∧ OwnS w' wx.heap.size v (ms.map mk)) := Lib.hid hl2
        clear hl2 hlj hTs hjl hpm2 hpm hpl hT hk2 hb
        go_wp2_with fail
        refine (HL2.out _).mono ?_; rintro e w2 ⟨hb, v2, rfl, hown2⟩
        obtain ⟨a2, c2, hv2, hsrc2⟩ := ownS_src hown2
        rw [List.length_map, HN.out] at hv2
        subst hv2
        have hb12 := HB.out.trans (hb.mono HB.out.size)
        have B2 := Lib.hid (B1.out.trans (hb12.mono B1.out.size))
        have HSE := Lib.hid (sameList_eq a a2 n c c2 (ms.map mk) w2 (by rw [List.length_map]; exact HN.out) (HS1.out.below hb12) hsrc2 (by omega))
        clear hb hb12 hown2 hsrc2
        go_wp2_with fail
        refine HSE.out.mono ?_; rintro e w3 ⟨rfl, hb⟩
        have B3 := Lib.hid (B2.out.trans (hb.mono B2.out.size))
        clear hb
        go_wp2
        go_ret
        exact ⟨rfl, B3.out⟩
end Go.Proofs.YtlbempnhpcofmaaDoor
