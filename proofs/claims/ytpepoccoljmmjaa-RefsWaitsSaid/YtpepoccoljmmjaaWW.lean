/- What can't be told yet is known: plain lists, and the walk. -/
import Derived.Test.YtpepoccoljmmjaaRK
set_option linter.unusedVariables false
namespace Go.Proofs.Ytpepoccoljmmjaa
open Go.RowKit Go.Shelf

theorem digs_append {h : Bool} {m b : Bs} (hlt : (digs h m).length < m.length) : digs h (m ++ b) = digs h m := by
  have h1 := digs_pre h m
  have h2 := digs_all h m
  have h16 := (digs_len h m).2
  rw [show digs h m = (m ++ b).take (digs h m).length by rw [List.take_append_of_le_length (by omega)]; exact h1]
  have hk : ((m ++ b).take (digs h m).length).length = (digs h m).length := by rw [List.length_take, List.length_append]; omega
  refine digs_is (by rw [List.length_append]; omega) h16 (fun j hj => ?_) ?_
  · rw [List.getElem_append_left (by omega)]
    have : m[j]'(by omega) = (digs h m)[j]'hj := by
      have e : (digs h m)[j]? = (m.take (digs h m).length)[j]? := congrArg (·[j]?) h1
      rw [List.getElem?_take_of_lt hj, List.getElem?_eq_getElem hj, List.getElem?_eq_getElem (by omega)] at e
      exact (Option.some.inj e).symm
    rw [this]; exact h2 _ (List.getElem_mem _)
  · by_cases h3 : (digs h m).length = 16
    · exact .inr (.inl h3)
    · refine .inr (.inr ⟨by rw [List.length_append]; omega, ?_⟩)
      rw [List.getElem_append_left hlt]
      refine Int.lt_of_not_ge fun hge => ?_
      have h4 : digs h m = m.take ((digs h m).length + 1) ∨ True := .inr trivial
      -- one more digit would have been taken
      have hd : (m.take 16).takeWhile (fun c => decide (0 ≤ dg h c)) = digs h m := rfl
      have hsplit : m.take 16 = digs h m ++ (m.take 16).drop (digs h m).length := by
        conv => lhs; rw [← List.take_append_drop (digs h m).length (m.take 16), List.take_take, Nat.min_eq_left (by omega), ← h1]
      have hlt2 : (digs h m).length < (m.take 16).length := by rw [List.length_take]; omega
      have hdrop : (m.take 16).drop (digs h m).length = m[(digs h m).length] :: (m.take 16).drop ((digs h m).length + 1) := by
        rw [List.drop_eq_getElem_cons hlt2, List.getElem_take]
      have hw : (digs h m).length = ((m.take 16).takeWhile (fun c => decide (0 ≤ dg h c))).length := rfl
      rw [hsplit, hdrop, List.takeWhile_append_of_pos (fun c hc => decide_eq_true (h2 c hc)), List.takeWhile_cons_of_pos (by simpa using hge)] at hw
      simp at hw
theorem hexB_append {r b : Bs} (h : r ≠ []) : hexB (r ++ b) = hexB r := by cases r; exact absurd rfl h; rfl
theorem nbg_append {r b : Bs} (h : r ≠ []) : nbg (r ++ b) = nbg r := by unfold nbg; rw [hexB_append h]
theorem head_drop_append {m b : Bs} {k : Nat} (h : k < m.length) : ((m ++ b).drop k).head? = (m.drop k).head? := by
  rw [List.drop_append_of_le_length (by omega), List.drop_eq_getElem_cons h]; rfl
theorem tkN_wait {r b : Bs} (h : decide (nbg r + (ndig r).length = r.length) = false) : tkN (r ++ b) = tkN r := by
  have h' : nbg r + (ndig r).length ≠ r.length := of_decide_eq_false h
  have hr : r ≠ [] := by rintro rfl; exact h' rfl
  have hn1 : nbg r ≤ r.length := by unfold nbg; split; (· cases r; exact absurd rfl hr; simp); omega
  have hle : (ndig r).length ≤ (r.drop (nbg r)).length := (digs_len _ _).1
  rw [List.length_drop] at hle
  have hnd : ndig (r ++ b) = ndig r := by
    unfold ndig
    rw [hexB_append hr, nbg_append hr, List.drop_append_of_le_length hn1]
    exact digs_append (by show (ndig r).length < _; rw [List.length_drop]; omega)
  unfold tkN
  rw [hnd, hexB_append hr, nbg_append hr, head_drop_append (by omega)]
theorem fnd_wait {r b : Bs} (h : moreN r = false) : fnd (r ++ b) = fnd r ∧ ((fnd r).2 = r.length → r[(fnd r).2 - 1]? = some 59) ∧ r ≠ [] := by
  have hno : ∀ e ∈ tabN, ¬ r <+: e.1 := fun e he hp => by
    have : moreN r = true := List.any_eq_true.2 ⟨e, he, List.isPrefixOf_iff_prefix.2 hp⟩
    rw [h] at this; cases this
  have hr : r ≠ [] := by
    rintro rfl
    exact hno ([97, 109, 112], [38], true) (by decide +kernel) (List.nil_prefix)
  have hlong : ∀ m, r.length < m → m ≤ (r ++ b).length → nm ((r ++ b).take m) = [] := fun m h1 h2 => Decidable.not_not.1 fun hne => by
    obtain ⟨e, he, hx⟩ := nm_ne hne
    have hpre : r <+: (r ++ b).take m := by
      rw [List.take_append, List.take_of_length_le (by omega)]; exact List.prefix_append _ _
    have hlen : ((r ++ b).take m).length = m := by rw [List.length_take]; omega
    rcases hx with hx | ⟨_, hx⟩
    · rw [hx] at hpre hlen
      rcases List.prefix_concat_iff.1 hpre with hp | hp
      · rw [← hp] at hlen; omega
      · exact hno e he hp
    · rw [hx] at hpre; exact hno e he hpre
  have hsame : ∀ m, m ≤ r.length → (r ++ b).take m = r.take m := fun m h1 => List.take_append_of_le_length h1
  refine ⟨?_, fun hn => ?_, hr⟩
  · rcases fnd_is r with ⟨h1, h2⟩ | ⟨k, h0, h1, h2, h3, h4, h5⟩
    · rw [h1]
      apply fnd_none
      intro m h6 h7
      by_cases h8 : r.length < m
      · exact hlong m h8 h7
      · rw [hsame m (by omega)]; exact h2 m h6 (by omega)
    · rw [h4, ← hsame k h1]
      refine fnd_some h0 (by rw [List.length_append]; omega) (by rw [hsame k h1]; exact h3) fun m h6 h7 => ?_
      by_cases h8 : r.length < m
      · exact hlong m h8 h7
      · rw [hsame m (by omega)]; exact h5 m h6 (by omega)
  · rcases fnd_is r with ⟨h1, h2⟩ | ⟨k, h0, h1, h2, h3, h4, h5⟩
    · rw [h1] at hn
      exact absurd (List.length_eq_zero_iff.1 hn.symm) hr
    · rw [h4] at hn ⊢
      simp only at hn ⊢
      rw [hn, List.take_length] at h3
      obtain ⟨e, he, hx⟩ := nm_ne h3
      rcases hx with hx | ⟨_, hx⟩
      · rw [hn]
        rw [hx]; simp
      · exact absurd (by rw [hx]; exact List.prefix_refl _) (hno e he)
theorem tk_wait {q : Bool} {l b : Bs} (hl : l ≠ []) (h : more l = false) : tk q (l ++ b) = tk q l := by
  cases l with
  | nil => exact absurd rfl hl
  | cons c r =>
    by_cases hc : c = 38
    · subst hc
      unfold more at h
      simp only at h
      show tk q (38 :: (r ++ b)) = _
      unfold tk
      simp only
      by_cases h35 : r.head? = some 35
      · rw [if_pos h35] at h
        obtain ⟨r', rfl⟩ : ∃ r', r = 35 :: r' := by cases r with | nil => simp at h35 | cons d r' => exact ⟨r', by simp at h35; rw [h35]⟩
        rw [if_pos (by rfl), if_pos (by rfl)]
        exact tkN_wait h
      · rw [if_neg h35] at h
        obtain ⟨h1, h2, h3⟩ := fnd_wait (b := b) h
        have hh : (r ++ b).head? = r.head? := by cases r; exact absurd rfl h3; rfl
        have hng : (fnd r).2 ≠ 0 → nogo q (r ++ b) (fnd r).2 = nogo q r (fnd r).2 := fun h0 => by
          have hle := (fnd_le r).1
          unfold nogo
          rw [List.getElem?_append_left (by omega : (fnd r).2 - 1 < r.length)]
          by_cases he : (fnd r).2 = r.length
          · rw [h2 he]; simp
          · rw [List.getElem?_append_left (by omega : (fnd r).2 < r.length)]
        rw [hh, if_neg h35, if_neg h35, h1]
        by_cases h0 : (fnd r).2 = 0
        · rw [if_pos (.inl h0), if_pos (.inl h0)]
        · rw [hng h0]
    · rw [List.cons_append, tk_amp hc, tk_amp hc]

set_option maxRecDepth 10000 in
set_option maxHeartbeats 4000000 in
theorem waits_walk (X Y : ByteArray) (q : Bool) (w : World) (hm : MaxLen w) (hs : X.size ≤ 140737488355328) (hs2 : Y.size ≤ 140737488355328) :
    Calls Try.prog 7 #[.string X, .string Y, .bool q] w fun e w' => e = .returned (.bool true) ∧ Below w.heap.size w w' := by
  have hsh := shown_any w hm
  have hll := len_data X
  have hmr : ∀ wx, MaxLen wx → Calls Try.prog 19 #[.string X] wx fun e w' => e = .returned (.bool (more X.data.toList)) ∧ wx = w' := fun wx h => more_any X wx (by omega) h
  have hz : (X ++ Y).size = X.size + Y.size := cat_size _ _
  have ht := fun wx => take_any X q wx (by omega)
  have ht2 := fun wx => take_any (X ++ Y) q wx (by omega)
  have hle := tk_le q X.data.toList
  rw [hll] at hle
  by_cases h0 : X.size = 0
  · have HSH := Lib.hid hsh
    clear hsh hmr ht ht2 hle hll hz
    have g0 : ((X.size : Int) == 0) = true := by simp [h0]
    go_enter Try.func7, Try.ntmps7
    go_wp2_with fail
    refine HSH.out.mono ?_; rintro e w1 ⟨rfl, hb⟩
    have HB := Lib.hid hb
    clear hb
    go_wp2
    go_ret
    exact ⟨rfl, HB.out⟩
  have g0 : ((X.size : Int) == 0) = false := by rw [beq_eq_false_iff_ne]; omega
  cases hmo : more X.data.toList
  · have hne : X.data.toList ≠ [] := fun e => h0 (by rw [← hll, e]; rfl)
    have hw := tk_wait (q := q) (b := Y.data.toList) hne hmo
    rw [← cat_list] at hw
    rw [hmo] at hmr
    rw [hw] at ht2
    obtain ⟨T, n, hcn⟩ : ∃ T n, (bs (tk q X.data.toList).1, (tk q X.data.toList).2) = (T, n) := ⟨_, _, rfl⟩
    simp only [Prod.mk.injEq] at hcn
    obtain ⟨e1, e2⟩ := hcn
    rw [e1, e2] at ht ht2
    rw [e2] at hle
    have HSH := Lib.hid hsh
    have HMR := Lib.hid hmr
    have HT := Lib.hid ht
    have HT2 := Lib.hid ht2
    have HM := Lib.hid hm
    clear hsh hmr ht ht2 hw hmo hne hll e1 e2 hm h0
    go_enter Try.func7, Try.ntmps7
    go_wp2_with fail
    refine HSH.out.mono ?_; rintro e w1 ⟨rfl, hb⟩
    have HB := Lib.hid hb
    have HM1 := Lib.hid (HM.out.below hb)
    clear hb
    go_wp2_with fail
    refine (HMR.out _ HM1.out).mono ?_; rintro e w2 ⟨rfl, rfl⟩
    go_wp2_with fail
    refine (HT.out _).mono ?_; rintro e w2 ⟨rfl, hb⟩
    have HB2 := Lib.hid (HB.out.trans (hb.mono HB.out.size))
    clear hb
    go_wp2_with fail
    refine (HT2.out _).mono ?_; rintro e w3 ⟨rfl, hb⟩
    have HB3 := Lib.hid (HB2.out.trans (hb.mono HB2.out.size))
    clear hb
    go_wp2
    go_ret
    exact ⟨rfl, HB3.out⟩
  · rw [hmo] at hmr
    have HSH := Lib.hid hsh
    have HMR := Lib.hid hmr
    have HM := Lib.hid hm
    clear hsh hmr ht ht2 hmo hll hm hle h0 hz
    go_enter Try.func7, Try.ntmps7
    go_wp2_with fail
    refine HSH.out.mono ?_; rintro e w1 ⟨rfl, hb⟩
    have HB := Lib.hid hb
    have HM1 := Lib.hid (HM.out.below hb)
    clear hb
    go_wp2_with fail
    refine (HMR.out _ HM1.out).mono ?_; rintro e w2 ⟨rfl, rfl⟩
    go_wp2
    go_ret
    exact ⟨rfl, HB.out⟩
end Go.Proofs.Ytpepoccoljmmjaa
