/- What is certain is told. -/
import Derived.Test.YtaahblbkigkfcaaAI
set_option linter.unusedVariables false
namespace Go.Proofs.Ytaahblbkigkfcaa
open Go.RowKit

/-- what is left at the end -/
theorem feed_end {base D N : Nat} {w0 w3 w4 w6 : World} {v v2 vb : Value} {r m : List UInt8} (hBD : base ≤ D) (hDN : D < N) (hN3 : N ≤ w3.heap.size) (hbk3 : w3.heap[D]? = some (.cells #[v] 58 (0, 0)))
    (hg : w3.grownBy w4 none) (ho2 : OwnB w4 w3.heap.size v2 r) (hF : w3.ownsRowF N 5 1 vb (Lib.byteCells m).length (Lib.byteCells m)) (hb3 : Below base w0 w3)
    (hk6 : Kp (KS (w4.setCell ⟨D, 0, none⟩ v2).heap.size vb) (w4.setCell ⟨D, 0, none⟩ v2) w6) : DecAt w6 base D r ∧ Below base w0 w6 := by
  have hsz : (w4.setCell ⟨D, 0, none⟩ v2).heap.size = w4.heap.size := by simp [World.setCell]
  have h34 := hg.size
  have hbk4 : w4.heap[D]? = some (.cells #[v] 58 (0, 0)) := by rw [hg.block D (by omega) (by simp)]; exact hbk3
  have hbk5 : (w4.setCell ⟨D, 0, none⟩ v2).heap[D]? = some (.cells #[v2] 58 (0, 0)) := by simp [World.setCell, Array.getElem?_modify, hbk4]
  have hk5 : Kp (fun k => k ≠ D) w4 (w4.setCell ⟨D, 0, none⟩ v2) := (Kp.refl _ _).setCell (x := ⟨D, 0, none⟩) (fun h => h rfl) _
  have ho5 : OwnB (w4.setCell ⟨D, 0, none⟩ v2) w3.heap.size v2 r := ho2.kp hk5 (fun k hk e => by have := (World.ownsRow.lt ho2 k hk).1; omega)
  have ho6 : OwnB w6 w3.heap.size v2 r := ho5.kp hk6 (fun k hk => ⟨(World.ownsRow.lt ho5 k hk).2, fun e => by
    have h1 := (hF.lt k e).2
    have h2 := (World.ownsRow.lt ho5 k hk).1
    omega⟩)
  refine ⟨⟨hBD, v2, (hk6.block D ⟨by omega, fun e => by have := (hF.lt D e).1; omega⟩).trans hbk5, own_mono ho6 (by omega)⟩, ?_⟩
  refine hb3.trans (Below.trans ((Below.refl _ _).grown hg (by omega) (fun k hk => by cases hk)) (((Below.refl _ _).setCell (p := ⟨D, 0, none⟩) hBD v2).trans (hk6.to (fun k hk => ⟨by omega, fun e => by have := (hF.lt k e).1; omega⟩))))

set_option maxHeartbeats 8000000 in
theorem feed_any (base D : Nat) (h x : List UInt8) (a : Option Addr) (c : Nat) (w : World) (hd : DecAt w base D h) (hs : Src w a c x) (hlen : h.length + x.length ≤ 4194304) :
    Calls Try.prog 24 #[.pointer (some ⟨D, 0, none⟩), .slice a x.length c] w fun e w' => e = .returned (.string ⟨(dec ((h ++ x).take (tl (h ++ x)))).toArray⟩) ∧ DecAt w' base D ((h ++ x).drop (tl (h ++ x))) ∧ Below base w w' := by
  have hDlt := hd.lt
  obtain ⟨hBD, v, hbk, hown⟩ := hd
  obtain ⟨S, hS⟩ : ∃ S, S = w.heap.size := ⟨_, rfl⟩
  have hbk0 : (w.alloc (.cells #[.pointer none, .slice none 0 0] 46)).heap[D]? = some (.cells #[v] 58 (0, 0)) := (Lib.alloc_old w _ D hDlt).trans hbk
  have hS0 : (w.alloc (.cells #[.pointer none, .slice none 0 0] 46)).heap[S]? = some (.cells #[.pointer none, .slice none 0 0] 46 (0, 0)) := by rw [hS]; show (w.heap.push _)[w.heap.size]? = _; simp
  have c0 : (w.alloc (.cells #[.pointer none, .slice none 0 0] 46)).cell? ⟨D, 0, none⟩ = some v := by rw [Lib.cell_of_heap hbk0]; rfl
  have hown0 : OwnB (w.alloc (.cells #[.pointer none, .slice none 0 0] 46)) base v h := World.ownsRow.alloc hown _
  have hb0 : Below w.heap.size w (w.alloc (.cells #[.pointer none, .slice none 0 0] 46)) := (Below.refl _ _).alloc (Nat.le_refl _) _
  have hs0 := hs.below hb0
  have hbase : base ≤ (w.alloc (.cells #[.pointer none, .slice none 0 0] 46)).heap.size := by have := hb0.size; omega
  have hneD := Lib.ownBlock_neF (World.ownsRowF_of hown0) hbk0 (by decide)
  have hneS := Lib.ownBlock_neF (World.ownsRowF_of hown0) hS0 (by decide)
  obtain ⟨L, hL⟩ : ∃ L, L = h ++ x := ⟨_, rfl⟩
  rw [← hL]
  have hLl : L.length = h.length + x.length := by rw [hL, List.length_append]
  obtain ⟨n, hn⟩ : ∃ n, n = tl L := ⟨_, rfl⟩
  have hnl : n ≤ L.length := by rw [hn]; exact tl_le L
  rw [← hn]
  obtain ⟨m, hm⟩ : ∃ m, m = dec (L.take n) := ⟨_, rfl⟩
  obtain ⟨r, hr⟩ : ∃ r, r = L.drop n := ⟨_, rfl⟩
  rw [← hm, ← hr]
  have HM := Lib.hid hm
  have HRR := Lib.hid hr
  have HBD := Lib.hid hBD
  have HBK := Lib.hid hbk0
  have HS0 := Lib.hid hS0
  have HO := Lib.hid hown0
  have HX := Lib.hid hs0
  have HB := Lib.hid hbase
  have HB0 := Lib.hid (hb0.mono (show base ≤ w.heap.size by omega))
  have HND := Lib.hid hneD
  have HNS := Lib.hid hneS
  have HL := Lib.hid hL
  have HN := Lib.hid hn
  have HS := Lib.hid hS
  have HDL := Lib.hid hDlt
  have HLL := Lib.hid hLl
  clear hm hr hLl hBD hbk hown hbk0 hS0 hown0 hb0 hs0 hs hbase hneD hneS hL hn hS hDlt
  go_enter Try.func24, Try.ntmps24
  go_wp2_with (at_builtin; refine app_bytes rfl _ _ rfl base _ h rfl HO.out a c x.length x rfl rfl HX.out ?n1 HB.out ?_)
  case n1 => omega
  intro v1 w2 ho1 hb1 hg1
  rw [← HL.out] at ho1
  have hsz0 := HS.out
  have hsz2 : w.heap.size < w2.heap.size := by have := hg1.out.size; simp at this; omega
  have hbk2 : w2.heap[D]? = some (.cells #[v] 58 (0, 0)) := by
    rw [hg1.out.block D (by have := HDL.out; simp; omega) (fun e => HND.out e.symm)]; exact HBK.out
  have hS2 : w2.heap[S]? = some (.cells #[.pointer none, .slice none 0 0] 46 (0, 0)) := by
    rw [hg1.out.block S (by simp; omega) (fun e => HNS.out e.symm)]; exact HS0.out
  have hne2 := Lib.ownBlock_neF (World.ownsRowF_of ho1) hS2 (by decide)
  have hlt2 := fun k => World.ownsRow.lt ho1 k
  obtain ⟨a1, c1, rfl, _, hs1⟩ := own_src ho1
  have ha1 : ∀ sb so, a1 = some ⟨sb, so, none⟩ → KD w2.heap.size S sb := fun sb so e => by
    subst e
    exact ⟨(hlt2 sb rfl).2, fun e2 => hne2 (by rw [e2]; rfl)⟩
  have hI : IsK w2.heap.size S [] w2 := .inl ⟨by omega, Nat.le_refl _, .slice none 0 0, hS2, World.ownsRowF_of (World.ownsRow_nil _ _ _ _)⟩
  have htail := tail_src a1 c1 L w2 hs1
  rw [← HN.out] at htail
  have hLl := HLL.out
  have hdl : (dec (L.take n)).length ≤ 140737488355328 := by have := dec_le (L.take n); simp only [List.length_take] at this; omega
  have hdec : Calls Try.prog 29 #[.pointer (some ⟨S, 0, none⟩), .slice a1 n c1] w2 fun e w' => e = .returned (.tuple #[]) ∧ IsK w2.heap.size S (dec (L.take n)) w' ∧ Kp (KD w2.heap.size S) w2 w' := by
    have := decode_src_k w2.heap.size S a1 c1 (L.take n) [] w2 hI (hs1.take n) ha1 (by simp only [List.length_take]; omega) (by simpa using hdl)
    rw [List.length_take, Nat.min_eq_left hnl] at this
    exact this
  have hst := slice_hi a1 L.length c1 n hnl hs1.cap
  obtain ⟨a2, hsl, hs2, hab⟩ := slice_lo a1 L c1 n w2 hs1 hnl
  have ha2 : ∀ sb so, a2 = some ⟨sb, so, none⟩ → KD w2.heap.size S sb := fun sb so e => by
    obtain ⟨o', e2⟩ := hab sb so e
    exact ha1 sb o' e2
  have hrl : (L.drop n).length ≤ 4194304 := by simp only [List.length_drop]; omega
  have hb2 : Below base w w2 := HB0.out.trans hb1.out
  rw [← HM.out] at hdec
  rw [← HRR.out] at hsl hs2 hrl
  have HT := Lib.hid htail
  have HD := Lib.hid hdec
  have HR := Lib.hid hs2
  have HA2 := Lib.hid ha2
  have HBK2 := Lib.hid hbk2
  have HB2 := Lib.hid hb2
  have HSZ2 := Lib.hid hsz2
  rw [HS.out] at HD HA2
  clear hLl hsz0 hsz2 hbk2 hS2 hne2 hlt2 hs1 ha1 hI htail hdl hdec hs2 hab ha2 hb2 ho1 hb1 hg1
  go_wp2_with fail
  refine HT.out.mono ?_; rintro e w3 ⟨rfl, rfl⟩
  go_wp2_with fail
  refine HD.out.mono ?_; rintro e w3 ⟨rfl, hI3, hk3⟩
  have hbk3 : w3.heap[D]? = some (.cells #[v] 58 (0, 0)) := (hk3.block D ⟨by have := HDL.out; have := HSZ2.out; omega, by have := HDL.out; omega⟩).trans HBK2.out
  have hs3 := HR.out.kp hk3 HA2.out
  have hsz3 : w2.heap.size ≤ w3.heap.size := hk3.size
  have hb3 : Below base w w3 := HB2.out.trans (hk3.to (fun k hk => by
    have h1 := HDL.out
    have h2 := HBD.out
    have h3 := HSZ2.out
    exact ⟨by omega, by omega⟩))
  have HI3 := Lib.hid hI3
  have HBK3 := Lib.hid hbk3
  have HS3 := Lib.hid hs3
  have HSZ3 := Lib.hid hsz3
  have HB3 := Lib.hid hb3
  clear hI3 hk3 hbk3 hs3 hsz3 hb3
  go_wp2_with (at_builtin; refine app_bytes rfl _ _ rfl w3.heap.size _ [] rfl (World.ownsRow_nil _ _ _ _) a2 (c1 - n) r.length r rfl rfl HS3.out ?n2 (Nat.le_refl _) ?_)
  case n2 => simp only [List.length_nil]; omega
  intro v2 w4 ho2 hb4 hg4
  obtain ⟨a3, c3, rfl, _, _⟩ := own_src ho2
  have hbk4 : w4.heap[D]? = some (.cells #[v] 58 (0, 0)) := by
    rw [hg4.out.block D (by have := (Array.getElem?_eq_some_iff.1 HBK3.out).1; omega) (by simp [Value.ownBlock])]; exact HBK3.out
  have c4 : w4.cell? ⟨D, 0, none⟩ = some v := by rw [Lib.cell_of_heap hbk4]; rfl
  have f4 : w4.frozen? ⟨D, 0, none⟩ = false := Lib.frozen_of_heap hbk4 0
  obtain ⟨p, vb, hSN, hSN3, hS3, hF3⟩ : ∃ p vb, w.heap.size < w2.heap.size ∧ w2.heap.size ≤ w3.heap.size ∧ w3.heap[w.heap.size]? = some (.cells #[p, vb] 46 (0, 0)) ∧ w3.ownsRowF w2.heap.size 5 1 vb (Lib.byteCells m).length (Lib.byteCells m) := by
    have h0 := HS.out
    rcases HI3.out with ⟨h1, h2, vb, h3, h4⟩ | ⟨h1, h2, vb, h3, h4⟩
    · exact ⟨_, vb, h1, h2, h3, h4⟩
    · exact ⟨_, vb, h1, h2, h3, h4⟩
  have hDl := HDL.out
  have hS5 : (w4.setCell ⟨D, 0, none⟩ (.slice a3 r.length c3)).heap[w.heap.size]? = some (.cells #[p, vb] 46 (0, 0)) := by
    rw [Below.heap_setCell _ _ _ _ (by simp; omega), hg4.out.block _ (by omega) (by simp [Value.ownBlock])]; exact hS3
  have hF5 : (w4.setCell ⟨D, 0, none⟩ (.slice a3 r.length c3)).ownsRowF w2.heap.size 5 1 vb (Lib.byteCells m).length (Lib.byteCells m) := ownF_set (hF3.kept hg4.out (by cases hv : vb.ownBlock <;> simp [Value.ownBlock])) (by omega) 0
  have hstr := str_k w2.heap.size w.heap.size m _ p vb hSN hS5 hF5
  have hend := fun w6 hk6 => feed_end (w6 := w6) HBD.out (show D < w2.heap.size by omega) hSN3 HBK3.out hg4.out ho2 hF3 HB3.out hk6
  have HSTR := Lib.hid hstr
  have HEND := Lib.hid hend
  clear ho2 hb4 hg4 hbk4 hSN hSN3 hS3 hF3 hDl hS5 hF5 hstr hend
  go_wp2_with fail
  refine HSTR.out.mono ?_; rintro e w6 ⟨rfl, hk6⟩
  have HE := Lib.hid (HEND.out w6 hk6)
  clear hk6
  go_wp2
  go_ret
  exact ⟨rfl, HE.out.1, HE.out.2⟩
end Go.Proofs.Ytaahblbkigkfcaa
