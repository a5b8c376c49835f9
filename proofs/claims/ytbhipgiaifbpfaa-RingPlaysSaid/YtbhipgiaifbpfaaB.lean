/- A ring in memory: looking at its bytes. -/
import Derived.Test.YtbhipgiaifbpfaaA
import Derived.Lib.ItoaWalk
namespace Go.Proofs.Ytbhipgiaifbpfaa
open Go.RowKit

theorem Ring.S_lt {w : World} {S D most first n : Nat} {d : List UInt8} (h : Ring w S D most first n d) : S < w.heap.size := (Array.getElem?_eq_some_iff.1 h.str).1
theorem Ring.D_lt {w : World} {S D most first n : Nat} {d : List UInt8} (h : Ring w S D most first n d) : D < w.heap.size := (Array.getElem?_eq_some_iff.1 h.dat).1

theorem slice_lo (D most lo : Nat) (h : lo < most) (W : World) : (Instr.slice 28 (.slice (some ⟨D, 0, none⟩) most most) (some (.int .i64 lo)) none none).run Try.prog W = .ok (.slice (some ⟨D, lo, none⟩) (most - lo) (most - lo)) W := by
  have h1 : lo ≤ most := by omega
  have h2 : ¬ most = lo := by omega
  go_simp
theorem slice_hi (a : Option Addr) (len cap hi : Nat) (h : hi ≤ len) (hc : len ≤ cap) (W : World) : (Instr.slice 28 (.slice a len cap) none (some (.int .i64 hi)) none).run Try.prog W = .ok (.slice a hi cap) W := by
  have h1 : hi ≤ cap := by omega
  go_simp
theorem slice_lohi (a : Option Addr) (len cap lo hi : Nat) (hl : lo ≤ hi) (h : hi ≤ len) (hc : len ≤ cap) (W : World) : ∃ a', (Instr.slice 28 (.slice a len cap) (some (.int .i64 lo)) (some (.int .i64 hi)) none).run Try.prog W = .ok (.slice a' (hi - lo) (cap - lo)) W ∧ (lo < cap → ∀ x, a = some x → a' = some (x.add lo)) := by
  have h1 : hi ≤ cap := by omega
  go_simp
  intro h2 x hx
  rw [if_neg (by omega), hx]; rfl
/-- copy as one step of a region that draws, the world written out -/
theorem step_copy_row {P : Program} {ops : Array Oper} {o : Oper} {a : Act} {w : World} {K : Act → World → Prop} {Q : Exit → Act → World → Prop} {E : Prop} (hgd : o.guard = none) (d s : Operand) (dT sT : TypeId)
    (ho : o.op = .call { callee := .builtin .copy, args := #[d, s], argTypes := #[dT, sT] }) (elem : TypeId) (hu : P.underlying dT = some (.slice elem)) (hsz : (P.info? elem).map (·.size) = some 1)
    (dp sp : Option Addr) (dLen dCap sLen sCap : Nat) (hd : a.eval d = .slice dp dLen dCap) (hs : a.eval s = .slice sp sLen sCap)
    (g off : Nat) (cur : List Value) (t : TypeId) (hg : w.heap[g]? = some (.cells cur.toArray t (0, 0))) (cs : List Value) (hn : cs.length = Nat.min sLen dLen)
    (hpos : 0 < cs.length → dp = some ⟨g, off, none⟩ ∧ ∃ ad, sp = some ad ∧ ∀ j v, cs[j]? = some v → w.cell? (ad.add j) = some v)
    (hfit : off + cs.length ≤ cur.length) (h1 : ∀ v ∈ cs, v.oneCell' = true)
    (h : K (a.put o.dst (goInt cs.length)) (w.setRow g (splice cur off cs).toArray)) :
    if Region.wanted o (yielded ops a.tmps) = true then Oper.wp P o a w K Q else E := by
  have hw : Region.wanted o (yielded ops a.tmps) = true := by simp [Region.wanted, hgd]
  rw [if_pos hw]
  by_cases h0 : cs.length = 0
  · obtain rfl : cs = [] := List.eq_nil_of_length_eq_zero h0
    have hrun := run_copy_none (P := P) w dT sT o.type elem dp sp dLen dCap sLen sCap hu hsz (by simpa using hn.symm)
    have he : w.setRow g (splice cur off []).toArray = w := by
      have := setRow_self w g cur.toArray t (0, 0) hg
      simpa [splice] using this
    rw [he] at h
    unfold Oper.wp
    simp [execOp, ho, resolve, invoke, builtin, hd, hs, hrun, Result.andThen]
    exact h
  · obtain ⟨rfl, ad, rfl, hsrc⟩ := hpos (by omega)
    have hrun := run_copy_row (P := P) w dT sT o.type elem g off dLen dCap ad sLen sCap cur.toArray t cs hu hsz hg hn hsrc (by simpa using hfit) h1
    unfold Oper.wp
    simp [execOp, ho, resolve, invoke, builtin, hd, hs, hrun, Result.andThen]
    have : splice cur off cs = cur.take off ++ (cs ++ cur.drop (off + cs.length)) := rfl
    rw [this] at h
    have h' : K (a.put o.dst (goInt cs.length)) (w.setRow g (cur.take off ++ (cs ++ cur.drop (off + cs.length))).toArray) := h
    exact h'

theorem byte_one (l : List UInt8) : ∀ v ∈ l.map byte, v.oneCell' = true := by
  intro v hv
  obtain ⟨b, _, rfl⟩ := List.mem_map.1 hv
  rfl

/-- the queue's bytes, the oldest first -/
def queue (most first n : Nat) (d : List UInt8) : List UInt8 := (List.range n).map fun j => d.getD ((first + j) % most) 0

theorem peek_none (w : World) (S D most first n : Nat) (d : List UInt8) (h : Ring w S D most first n d) (req : Int) (hr : req < 1 ∨ n = 0) :
    Calls Try.prog 12 #[.pointer (some ⟨S, 0, none⟩), .int .i64 req] w fun e w' => e = .returned (.slice none 0 0) ∧ w = w' := by
  have c2 := h.c2
  have hn := h.cnt
  have ht := h.top
  clear h
  go_enter Try.func12, Try.ntmps12
  go_wp2
  all_goals (go_ret; exact ⟨rfl, rfl⟩)

theorem mod_at {most x : Nat} (h1 : x < 2 * most) : x % most = if x < most then x else x - most := by
  split
  · rename_i h; exact Nat.mod_eq_of_lt h
  · rename_i h
    rw [Nat.mod_eq_sub_mod (by omega), Nat.mod_eq_of_lt (by omega)]

theorem queue_take {most first n k c1 : Nat} {d : List UInt8} (hl : d.length = most) (hf : first < most) (hk : k ≤ n) (hn : n ≤ most) (hc : c1 = min k (most - first)) :
    (d.drop first).take c1 ++ d.take (k - c1) = (queue most first n d).take k := by
  apply List.ext_getElem
  · simp [queue]; omega
  · intro i h1 h2
    simp [queue] at h1 h2
    simp only [queue, List.getElem_take, List.getElem_map, List.getElem_range]
    rw [mod_at (by omega)]
    by_cases hi : i < c1
    · rw [List.getElem_append_left (by simp; omega), if_pos (by omega)]
      simp [List.getD]
      rw [List.getElem?_eq_getElem (by omega)]; rfl
    · rw [List.getElem_append_right (by simp; omega), if_neg (by omega)]
      simp [List.getD]
      rw [List.getElem?_eq_getElem (by omega)]
      simp only [Option.getD_some]
      congr 1
      omega

theorem size5 : (Try.prog.info? 5).map (·.size) = some 1 := by kernel_rfl
theorem add_at (b o j : Nat) : (⟨b, o, none⟩ : Addr).add j = ⟨b, o + j, none⟩ := by
  unfold Addr.add
  split
  · rename_i h; subst h; rfl
  · rfl
theorem cells_of {w : World} {D : Nat} {d : List UInt8} (h : w.heap[D]? = some (.cells (d.map byte).toArray 5 (0, 0))) (off m : Nat) :
    ∀ j v, (((d.drop off).take m).map byte)[j]? = some v → w.cell? ((⟨D, off, none⟩ : Addr).add j) = some v := by
  intro j v hv
  rw [add_at]
  unfold World.cell?
  simp only [h]
  by_cases hj : j < m
  · simp [hj] at hv ⊢
    exact hv
  · simp [List.getElem?_take, hj] at hv
theorem cell_heap {w w' : World} {b o : Nat} (h : w'.heap[b]? = w.heap[b]?) : w'.cell? ⟨b, o, none⟩ = w.cell? ⟨b, o, none⟩ := by
  unfold World.cell?; simp only [h]

theorem splice_two {α : Type} (Z X Y : List α) (k c : Nat) (hZ : Z.length = k) (hX : X.length = c) (hY : c + Y.length = k) : splice (splice Z 0 X) c Y = X ++ Y := by
  unfold splice
  subst hX
  simp
  omega

theorem peek_some (w : World) (S D most first n : Nat) (d : List UInt8) (h : Ring w S D most first n d) (req : Int) (k : Nat) (hk : 1 ≤ k) (hr : (if (n : Int) < req then (n : Int) else req) = (k : Int)) :
    Calls Try.prog 12 #[.pointer (some ⟨S, 0, none⟩), .int .i64 req] w fun e w' => e = .returned (.slice (some ⟨w.heap.size, 0, none⟩) k k) ∧ Below w.heap.size w w' ∧ w'.heap.size = w.heap.size + 1 ∧ w'.heap[w.heap.size]? = some (.cells (((queue most first n d).take k).map byte).toArray 5 (0, 0)) := by
  have c0 := h.c0
  have c1 := h.c1
  have c2 := h.c2
  have hn := h.cnt
  have ht := h.top
  have hf := h.fst
  have hS : S < w.heap.size := h.S_lt
  have hD : D < w.heap.size := h.D_lt
  have hkn : k ≤ n := by split at hr <;> omega
  have hle : first ≤ most := by omega
  have hne : ¬ most = first := by omega
  have hmk := make28 k (by omega)
  have hdat := h.dat
  have hlen := h.len
  obtain ⟨c, hc⟩ : ∃ c, c = min k (most - first) := ⟨_, rfl⟩
  have hq := queue_take hlen hf hkn hn hc
  -- the first copy's facts
  have hg0 : (w.alloc (.cells (Array.replicate k (byte 0)) 5)).drew.heap[w.heap.size]? = some (.cells (List.replicate k (byte 0)).toArray 5 (0, 0)) := by
    show (w.alloc (.cells (Array.replicate k (byte 0)) 5)).heap[w.heap.size]? = _
    rw [heap_alloc_last]; simp
  have hdat0 : (w.alloc (.cells (Array.replicate k (byte 0)) 5)).drew.heap[D]? = some (.cells (d.map byte).toArray 5 (0, 0)) := by
    show (w.alloc (.cells (Array.replicate k (byte 0)) 5)).heap[D]? = _
    rw [Below.heap_alloc _ _ _ hD]; exact hdat
  have hpos1 := cells_of hdat0 first c
  have hl1 : (((d.drop first).take c).map byte).length = c := by simp; omega
  obtain ⟨cs1, hcs1⟩ : ∃ cs1, cs1 = ((d.drop first).take c).map byte := ⟨_, rfl⟩
  have hone1 : ∀ v ∈ cs1, v.oneCell' = true := by rw [hcs1]; exact byte_one _
  rw [← hcs1] at hpos1 hl1
  have hck : c ≤ k := by omega
  have hcm : c ≤ most - first := by omega
  have G0 := Lib.hid hg0
  have P1 := Lib.hid hpos1
  have L1 := Lib.hid hl1
  have Q := Lib.hid hq
  have N1 : Hid (cs1.length = Nat.min (most - first) k) := Lib.hid (by rw [hl1, hc, Nat.min_comm])
  have O1 := Lib.hid hone1
  have F1 : Hid (0 + cs1.length ≤ (List.replicate k (byte 0)).length) := Lib.hid (by rw [hl1]; simp; omega)
  have C1 := Lib.hid hcs1
  have DT := Lib.hid hdat0
  have C0 := Lib.hid c0
  have HC := Lib.hid hc
  have DL := Lib.hid hlen
  have DD := Lib.hid hdat
  clear h hdat hdat0 hq hg0 hpos1 hl1 hone1 hcs1 hc hlen
  go_enter Try.func12, Try.ntmps12
  go_wp2
  go_region_law (refine step_copy_row rfl (.tmp 17) (.tmp 26) 28 28 rfl 5 Try.underlying28 size5 _ _ _ _ _ _ rfl rfl w.heap.size 0 (List.replicate k (byte 0)) 5 G0.out cs1 N1.out (fun _ => ⟨rfl, _, rfl, P1.out⟩) F1.out O1.out ?_)
  all_goals
    rw [L1.out]
    go_wp2
    go_name_world W1 hW1
    have e1 : ∀ b, b < w.heap.size → W1.heap[b]? = w.heap[b]? := fun b hb => by
      rw [← hW1]
      exact (setRow_other _ _ _ _ (by omega)).trans (Below.heap_alloc _ _ _ hb)
    have g1 : W1.heap[w.heap.size]? = some (.cells (splice (List.replicate k (byte 0)) 0 cs1).toArray 5 (0, 0)) := by
      rw [← hW1]; exact setRow_heap _ _ _ _ _ _ G0.out
    have s1 : W1.heap.size = w.heap.size + 1 := by rw [← hW1]; simp
    have b1 : Below w.heap.size w W1 := by rw [← hW1]; exact below_setRow (((Below.refl _ _).alloc (Nat.le_refl _) _).drew) (Nat.le_refl _) _
    have c0' : W1.cell? ⟨S, 0, none⟩ = some (.slice (some ⟨D, 0, none⟩) most most) := (cell_heap (e1 S hS)).trans C0.out
    have hdat1 : W1.heap[D]? = some (.cells (d.map byte).toArray 5 (0, 0)) := (e1 D hD).trans DD.out
    have hpos2 := cells_of hdat1 0 (k - c)
    have hl2 : (((d.drop 0).take (k - c)).map byte).length = k - c := by have := DL.out; simp; omega
    obtain ⟨cs2, hcs2⟩ : ∃ cs2, cs2 = ((d.drop 0).take (k - c)).map byte := ⟨_, rfl⟩
    have hone2 : ∀ v ∈ cs2, v.oneCell' = true := by rw [hcs2]; exact byte_one _
    rw [← hcs2] at hpos2 hl2
    have hlsp : (splice (List.replicate k (byte 0)) 0 cs1).length = k := by rw [length_splice _ _ _ (by simpa using F1.out)]; simp
    have hfin : splice (splice (List.replicate k (byte 0)) 0 cs1) c cs2 = ((queue most first n d).take k).map byte := by
      rw [← Q.out, List.map_append, ← C1.out, show (List.take (k - c) d).map byte = cs2 by rw [hcs2]; simp]
      exact splice_two _ _ _ k c (by simp) L1.out (by rw [hl2]; omega)
    have G1 := Lib.hid g1
    have E1 := Lib.hid e1
    have S1 := Lib.hid s1
    have B1 := Lib.hid b1
    have P2 := Lib.hid hpos2
    have O2 := Lib.hid hone2
    have L2 := Lib.hid hl2
    have F2 : Hid (c + cs2.length ≤ (splice (List.replicate k (byte 0)) 0 cs1).length) := Lib.hid (by rw [hlsp, hl2]; omega)
    have FIN := Lib.hid hfin
    clear hW1 e1 g1 s1 b1 hdat1 hpos2 hl2 hone2 hcs2 hlsp hfin c0 c1 c2
    have N2 : Hid (cs2.length = Nat.min most (k - c)) := Lib.hid (by rw [L2.out]; exact (Nat.min_eq_right (by omega)).symm)
    by_cases hkc : k = c
    · have Z0 : Hid (cs2.length = 0) := Lib.hid (by rw [L2.out]; omega)
      have N3 : Hid (cs2.length = Nat.min most 0) := Lib.hid (by rw [Z0.out]; exact (Nat.min_zero _).symm)
      subst hkc
      go_region_law (refine step_copy_row rfl (.tmp 30) (.tmp 34) 28 28 rfl 5 Try.underlying28 size5 _ _ _ _ _ _ rfl rfl w.heap.size k _ 5 G1.out cs2 N3.out (fun h => absurd h (by rw [Z0.out]; simp)) F2.out O2.out ?_)
      all_goals
        go_wp2
        go_ret
        exact ⟨rfl, below_setRow B1.out.drew (Nat.le_refl _) _, by rw [setRow_size]; exact S1.out, by rw [← FIN.out]; exact setRow_heap _ _ _ _ _ _ G1.out⟩
    · have hck2 : c < k := by omega
      go_region_law (refine step_copy_row rfl (.tmp 30) (.tmp 34) 28 28 rfl 5 Try.underlying28 size5 _ _ _ _ _ _ rfl rfl w.heap.size c _ 5 G1.out cs2 N2.out (fun _ => ⟨rfl, _, rfl, P2.out⟩) F2.out O2.out ?_)
      all_goals
        go_wp2
        go_ret
        exact ⟨rfl, below_setRow B1.out.drew (Nat.le_refl _) _, by rw [setRow_size]; exact S1.out, by rw [← FIN.out]; exact setRow_heap _ _ _ _ _ _ G1.out⟩
end Go.Proofs.Ytbhipgiaifbpfaa
