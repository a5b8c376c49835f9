/- ForeignBreaks: for every mark the law's function returns true. No condition. -/
import Derived.Test.YtopmahhlebkjiaaR
import Derived.Test.YtopmahhlebkjiaaN
namespace Go.Proofs.Ytopmahhlebkjiaa
open Go.ChangeShapes Go.WideShapes Go.ChangeAt Go.RowKit Go.Deep Go.Joins
open Go.ChangeMaps (open_string shut_string)

set_option maxHeartbeats 4000000 in
theorem brk_walk (w : World) (a : Option Addr) (n c : Nat) (l : List (ByteArray × ByteArray)) (h : Attrs w a n l) (kind : Int) (mn : ByteArray) (sf : Bool) (tx : ByteArray) :
    Calls Try.prog 4 #[.agg #[.int .i64 kind, .string mn, .slice a n c, .bool sf, .string tx]] w fun e w' => e = .returned (.bool true) ∧ Below w.heap.size w w' := by
  have h1 : ∀ wx, Below w.heap.size w wx → Calls Try.prog 13 #[.agg #[.int .i64 kind, .string mn, .slice a n c, .bool sf, .string tx]] wx fun e w' => e = .returned (.bool (brk kind mn l)) ∧ Below wx.heap.size wx w' := fun wx hb => breaks_any kind mn a n c sf tx l wx (h.below hb)
  have h2 : ∀ wx, Below w.heap.size w wx → Calls Try.prog 14 #[.agg #[.int .i64 kind, .string mn, .slice a n c, .bool sf, .string tx]] wx fun e w' => e = .returned (.bool (brk kind mn l)) ∧ Below wx.heap.size wx w' := fun wx hb => refbreaks_any kind mn a n c sf tx l wx (h.below hb)
  generalize brk kind mn l = r at h1 h2
  have h0 : HasM _ _ _ _ _ _ _ := HasM.new w kind mn (.slice a n c) sf tx
  have hb0 : Below w.heap.size w (w.alloc (.cells #[.int .i64 kind, .string mn, .slice a n c, .bool sf, .string tx] 24 (0, 0))) := (Below.refl _ _).alloc (Nat.le_refl _) _
  have H0 := Lib.hid h0
  have B0 := Lib.hid hb0
  have HA := Lib.hid h1
  have HB := Lib.hid h2
  clear h h1 h2 h0 hb0
  go_enter Try.func4, Try.ntmps4
  go_wp2_with fail
  refine (shown_any _).mono ?_; rintro e w1 ⟨rfl, hb⟩
  have H1 := Lib.hid (H0.out.below hb)
  have B1 := Lib.hid (B0.out.trans (hb.mono B0.out.size))
  clear hb
  have GA := Lib.hid fun wx (h : Below w1.heap.size w1 wx ∧ wx.cell? ⟨w.heap.size, 0, none⟩ = some (.int .i64 kind) ∧ wx.cell? ⟨w.heap.size, 1, none⟩ = some (.string mn) ∧ wx.cell? ⟨w.heap.size, 2, none⟩ = some (.slice a n c) ∧ wx.cell? ⟨w.heap.size, 3, none⟩ = some (.bool sf) ∧ wx.cell? ⟨w.heap.size, 4, none⟩ = some (.string tx)) => HA.out wx (B1.out.trans (h.1.mono B1.out.size))
  have GB := Lib.hid fun wx (h : Below w1.heap.size w1 wx ∧ wx.cell? ⟨w.heap.size, 0, none⟩ = some (.int .i64 kind) ∧ wx.cell? ⟨w.heap.size, 1, none⟩ = some (.string mn) ∧ wx.cell? ⟨w.heap.size, 2, none⟩ = some (.slice a n c) ∧ wx.cell? ⟨w.heap.size, 3, none⟩ = some (.bool sf) ∧ wx.cell? ⟨w.heap.size, 4, none⟩ = some (.string tx)) => HB.out wx (B1.out.trans (h.1.mono B1.out.size))
  have KD : Hid (Below w1.heap.size w1 w1.drew ∧ w1.drew.cell? ⟨w.heap.size, 0, none⟩ = some (.int .i64 kind) ∧ w1.drew.cell? ⟨w.heap.size, 1, none⟩ = some (.string mn) ∧ w1.drew.cell? ⟨w.heap.size, 2, none⟩ = some (.slice a n c) ∧ w1.drew.cell? ⟨w.heap.size, 3, none⟩ = some (.bool sf) ∧ w1.drew.cell? ⟨w.heap.size, 4, none⟩ = some (.string tx)) := Lib.hid (keepS H1.out (Below.refl _ _).drew)
  have KT : Hid (∀ wx wy, (Below w1.heap.size w1 wx ∧ wx.cell? ⟨w.heap.size, 0, none⟩ = some (.int .i64 kind) ∧ wx.cell? ⟨w.heap.size, 1, none⟩ = some (.string mn) ∧ wx.cell? ⟨w.heap.size, 2, none⟩ = some (.slice a n c) ∧ wx.cell? ⟨w.heap.size, 3, none⟩ = some (.bool sf) ∧ wx.cell? ⟨w.heap.size, 4, none⟩ = some (.string tx)) → Below wx.heap.size wx wy → Below w1.heap.size w1 wy ∧ wy.cell? ⟨w.heap.size, 0, none⟩ = some (.int .i64 kind) ∧ wy.cell? ⟨w.heap.size, 1, none⟩ = some (.string mn) ∧ wy.cell? ⟨w.heap.size, 2, none⟩ = some (.slice a n c) ∧ wy.cell? ⟨w.heap.size, 3, none⟩ = some (.bool sf) ∧ wy.cell? ⟨w.heap.size, 4, none⟩ = some (.string tx)) := Lib.hid fun wx wy hs hb => keepS H1.out (hs.1.trans (hb.mono hs.1.size))
  have KE := Lib.hid fun wx (h : Below w1.heap.size w1 wx ∧ wx.cell? ⟨w.heap.size, 0, none⟩ = some (.int .i64 kind) ∧ wx.cell? ⟨w.heap.size, 1, none⟩ = some (.string mn) ∧ wx.cell? ⟨w.heap.size, 2, none⟩ = some (.slice a n c) ∧ wx.cell? ⟨w.heap.size, 3, none⟩ = some (.bool sf) ∧ wx.cell? ⟨w.heap.size, 4, none⟩ = some (.string tx)) => B1.out.trans (h.1.mono B1.out.size)
  obtain ⟨c0, c1, c2, c3, c4⟩ := H1.out.cells
  clear HA HB H0 B0
  go_wp2_with fail
  clear c0 c1 c2 c3 c4
  go_region_held3 (fun w' => Below w1.heap.size w1 w' ∧ w'.cell? ⟨w.heap.size, 0, none⟩ = some (.int .i64 kind) ∧ w'.cell? ⟨w.heap.size, 1, none⟩ = some (.string mn) ∧ w'.cell? ⟨w.heap.size, 2, none⟩ = some (.slice a n c) ∧ w'.cell? ⟨w.heap.size, 3, none⟩ = some (.bool sf) ∧ w'.cell? ⟨w.heap.size, 4, none⟩ = some (.string tx)) (first | exact KD.out | exact KT.out _ _ (by assumption) hb)
    (first
      | (go_at_call 13; refine (GA.out _ ?_).mono ?_; assumption; rintro e w' ⟨rfl, hb⟩)
      | (go_at_call 14; refine (GB.out _ ?_).mono ?_; assumption; rintro e w' ⟨rfl, hb⟩))
  go_wp2
  go_ret
  exact ⟨rfl, KE.out _ (by assumption)⟩

set_option maxRecDepth 100000 in
theorem foreignBreaks_lifted (os : Os) (started : os.Started) (H : Type) (enc : TypeId × Value → H) :
    ReturnsInHanded {} Try.checked os 4 .any (Rows.foreignBreaksSpec.pre6 enc Try.prog Try.f4 Rows.foreignBreaksRow.domain false) (Rows.foreignBreaksSpec.post enc Try.prog Try.f4 false true false false) := by
  refine returnsInHanded_of_change (C := Try.checked) own started (by kernel_rfl) Try.func4
    (ChangeSpec.witness6 (enc := enc) (C := Try.checked) false ⟨#[], #[.agg #[.int .i64 0, .string ⟨#[]⟩, .slice none 0 0, .bool false, .string ⟨#[]⟩]], []⟩ 8 (by kernel_rfl) (by kernel_rfl) (by kernel_rfl) (by kernel_rfl)) ?_
  intro W base args ds gs before hval0 hW hcnd _
  have hval : ∀ (j : Nat) t v, Try.f4.params[j]? = some t → args[j]? = some v → Value.okWide Try.prog W .any base t v := hval0
  have hW' := hW
  obtain ⟨p, q, hA0, hV, rfl, hfz, hnd⟩ := hW
  have hA : DataW.TrodAll enc Try.prog W 0 (fun _ => true) true Try.f4.params.toList args.toList ds p := hA0
  rw [Try.params4] at hA hval
  obtain ⟨v0, d0, rfl, rfl, h0⟩ := trodAll_one hA
  obtain ⟨rfl, rfl⟩ := trodVars_none hV
  have k0 := h0
  have lt0 : ∀ x ∈ p, x.block < W.heap.size := by obtain ⟨m, hm⟩ := k0; exact DataW.trod_lt m _ _ _ hm
  obtain ⟨e0, e1, e2, e3, e4, y0, y1, y2, y3, y4, nf, rfl, hd0, hp0, t0, t1, t2, t3, t4⟩ := open_agg5 Try.underlying24 (by kernel_rfl) (by kernel_rfl) (hval 0 24 v0 rfl rfl) h0
  obtain ⟨kind, q0, _, _⟩ := DataW.trod_int Try.underlying3 t0
  obtain ⟨mn, q1, _, _⟩ := DataW.trod_string Try.underlying9 t1
  obtain ⟨sf, q3, _⟩ := DataW.trod_bool Try.underlying4 t3
  obtain ⟨tx, q4, _, _⟩ := DataW.trod_string Try.underlying9 t4
  obtain ⟨ma, mlen, mcap, ml, q2, hat⟩ := attrs_in t2
  simp at q0 q1 q3 q4
  subst q0 q1 q2 q3 q4
  clear hA0 hval0
  refine (brk_walk W ma mlen mcap ml hat kind mn sf tx).mono fun e W' ⟨he, bel⟩ => ?_
  subst he
  exact ⟨_, rfl, _, _, _, [], _, [], hW', trodAll_mk1 (shut_bool Try.underlying4 _), (trodAll_cons_mk (Below.trod laidOut (by kernel_rfl) (of_decide_eq_true (by kernel_rfl)) k0 bel lt0) trodAll_mk0), rfl, bel.frame _, fun h => by cases h⟩

theorem foreignBreaks_holds : Rows.ForeignBreaksSaid :=
  OpenClaim.holds_of_wide 4 Try.f4 rfl rfl rfl rfl rfl rfl rfl ⟨rfl, rfl, rfl, rfl, rfl⟩ rfl rfl rfl rfl rfl (by kernel_rfl) Try.func4 (by kernel_rfl)
    (of_decide_eq_true (by kernel_rfl)) (by unfold Func.isWrapper; first | (rw [if_pos (by decide +kernel)]; kernel_rfl) | (rw [if_neg (by decide +kernel)]; exact ⟨rfl, rfl⟩))
    (fun os started H enc _ => foreignBreaks_lifted os started H enc)
end Go.Proofs.Ytopmahhlebkjiaa
