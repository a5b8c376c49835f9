/- HardenPages: for every response, length and body the law's function returns true. Conditions: what is handed in, and the library's tables, are together of bulk at most 1048576 (the second form of the statement); the tables are those that the card ties to the program's text. -/
import Derived.Test.YthkgaaibhjkngaaDoorHN
import Derived.Test.YthkgaaibhjkngaaDoorHV
import Derived.Test.YthkgaaibhjkngaaDoorHM
import Derived.Carry
set_option linter.unusedVariables false
namespace Go.Proofs.YthkgaaibhjkngaaDoor
section
open Go.RowKit

theorem allF_app (a b : AL) (X : ByteArray) : allF (a ++ b) X = allF a X ++ allF b X := by unfold allF; simp
theorem allF_nil (X : ByteArray) : allF [] X = [] := rfl
theorem allF_one (p : ByteArray × ByteArray) (X : ByteArray) : allF [p] X = if sameB p.1 X = true then [p.2] else [] := by
  unfold allF
  cases h : sameB p.1 X <;> simp [h]
theorem all_wo (l : AL) (ns : List ByteArray) (X m : ByteArray) (hm : m ∈ ns) (h : sameB X m = true) : allF (woF l ns) X = [] := by
  unfold allF woF
  rw [List.map_eq_nil_iff, List.filter_eq_nil_iff]
  intro p hp hs
  rw [List.mem_filter] at hp
  have h1 : inF p.1 ns = true := by
    unfold inF; rw [List.any_eq_true]
    refine ⟨m, hm, ?_⟩
    unfold sameB at h hs ⊢
    rw [decide_eq_true_eq] at h hs ⊢
    exact hs.trans h
  rw [h1] at hp; simp at hp
theorem mem_hop (l : AL) (m : ByteArray) (h : (hop8.any fun x => decide (x = m)) = true) (ns : List ByteArray) : m ∈ hopF l ++ ns := by
  rw [List.any_eq_true] at h
  obtain ⟨x, hx, he⟩ := h
  obtain rfl := of_decide_eq_true he
  unfold hopF
  exact List.mem_append_left _ (List.mem_append_left _ hx)
theorem mem_more (l : AL) (m : ByteArray) (ns : List ByteArray) (h : (ns.any fun x => decide (x = m)) = true) : m ∈ hopF l ++ ns := by
  rw [List.any_eq_true] at h
  obtain ⟨x, hx, he⟩ := h
  obtain rfl := of_decide_eq_true he
  exact List.mem_append_right _ hx
theorem fLen_all (z : Int) (X : ByteArray) (b : Bool) (h : sameB kLen X = b) : allF [fLen z] X = if b = true then [mk (dstr z)] else [] := by rw [allF_one]; subst h; rfl
theorem opt_all (c : Prop) [Decidable c] (p : ByteArray × ByteArray) (X : ByteArray) (h : sameB p.1 X = false) : allF (if c then [p] else []) X = [] := by
  split
  · rw [allF_one, h]; rfl
  · rfl
theorem opt_yes (c : Prop) [Decidable c] (p : ByteArray × ByteArray) (X : ByteArray) (h : sameB p.1 X = true) : allF (if c then [p] else []) X = if c then [p.2] else [] := by
  split
  · rw [allF_one, h]; rfl
  · rfl

theorem page_ct (l : AL) (z : Int) (last : Bool) : allF (pageF l z last) ⟨#[99, 111, 110, 116, 101, 110, 116, 45, 116, 121, 112, 101]⟩ = [fCTH.2] := by
  unfold pageF
  rw [allF_app, allF_app, allF_app, all_wo l _ _ ⟨#[67, 111, 110, 116, 101, 110, 116, 45, 84, 121, 112, 101]⟩ (mem_more _ _ _ (by kernel_rfl)) (by kernel_rfl), opt_all _ _ _ (show sameB kLen ⟨#[99, 111, 110, 116, 101, 110, 116, 45, 116, 121, 112, 101]⟩ = false by kernel_rfl), opt_all _ _ _ (show sameB fClos.1 ⟨#[99, 111, 110, 116, 101, 110, 116, 45, 116, 121, 112, 101]⟩ = false by kernel_rfl)]
  kernel_rfl
theorem page_cs (l : AL) (z : Int) (last : Bool) : allF (pageF l z last) ⟨#[99, 111, 110, 116, 101, 110, 116, 45, 115, 101, 99, 117, 114, 105, 116, 121, 45, 112, 111, 108, 105, 99, 121]⟩ = [fCSP.2] := by
  unfold pageF
  rw [allF_app, allF_app, allF_app, all_wo l _ _ ⟨#[67, 111, 110, 116, 101, 110, 116, 45, 83, 101, 99, 117, 114, 105, 116, 121, 45, 80, 111, 108, 105, 99, 121]⟩ (mem_more _ _ _ (by kernel_rfl)) (by kernel_rfl), opt_all _ _ _ (show sameB kLen ⟨#[99, 111, 110, 116, 101, 110, 116, 45, 115, 101, 99, 117, 114, 105, 116, 121, 45, 112, 111, 108, 105, 99, 121]⟩ = false by kernel_rfl), opt_all _ _ _ (show sameB fClos.1 ⟨#[99, 111, 110, 116, 101, 110, 116, 45, 115, 101, 99, 117, 114, 105, 116, 121, 45, 112, 111, 108, 105, 99, 121]⟩ = false by kernel_rfl)]
  kernel_rfl
theorem page_xo (l : AL) (z : Int) (last : Bool) : allF (pageF l z last) ⟨#[120, 45, 99, 111, 110, 116, 101, 110, 116, 45, 116, 121, 112, 101, 45, 111, 112, 116, 105, 111, 110, 115]⟩ = [kNos] := by
  unfold pageF
  rw [allF_app, allF_app, allF_app, all_wo l _ _ ⟨#[88, 45, 67, 111, 110, 116, 101, 110, 116, 45, 84, 121, 112, 101, 45, 79, 112, 116, 105, 111, 110, 115]⟩ (mem_more _ _ _ (by kernel_rfl)) (by kernel_rfl), opt_all _ _ _ (show sameB kLen ⟨#[120, 45, 99, 111, 110, 116, 101, 110, 116, 45, 116, 121, 112, 101, 45, 111, 112, 116, 105, 111, 110, 115]⟩ = false by kernel_rfl), opt_all _ _ _ (show sameB fClos.1 ⟨#[120, 45, 99, 111, 110, 116, 101, 110, 116, 45, 116, 121, 112, 101, 45, 111, 112, 116, 105, 111, 110, 115]⟩ = false by kernel_rfl)]
  kernel_rfl
theorem page_ce (l : AL) (z : Int) (last : Bool) : allF (pageF l z last) ⟨#[99, 111, 110, 116, 101, 110, 116, 45, 101, 110, 99, 111, 100, 105, 110, 103]⟩ = [] := by
  unfold pageF
  rw [allF_app, allF_app, allF_app, all_wo l _ _ ⟨#[67, 111, 110, 116, 101, 110, 116, 45, 69, 110, 99, 111, 100, 105, 110, 103]⟩ (mem_more _ _ _ (by kernel_rfl)) (by kernel_rfl), opt_all _ _ _ (show sameB kLen ⟨#[99, 111, 110, 116, 101, 110, 116, 45, 101, 110, 99, 111, 100, 105, 110, 103]⟩ = false by kernel_rfl), opt_all _ _ _ (show sameB fClos.1 ⟨#[99, 111, 110, 116, 101, 110, 116, 45, 101, 110, 99, 111, 100, 105, 110, 103]⟩ = false by kernel_rfl)]
  kernel_rfl
theorem page_te (l : AL) (z : Int) (last : Bool) : allF (pageF l z last) ⟨#[116, 114, 97, 110, 115, 102, 101, 114, 45, 101, 110, 99, 111, 100, 105, 110, 103]⟩ = [] := by
  unfold pageF
  rw [allF_app, allF_app, allF_app, all_wo l _ _ ⟨#[84, 114, 97, 110, 115, 102, 101, 114, 45, 69, 110, 99, 111, 100, 105, 110, 103]⟩ (mem_hop _ _ (by kernel_rfl) _) (by kernel_rfl), opt_all _ _ _ (show sameB kLen ⟨#[116, 114, 97, 110, 115, 102, 101, 114, 45, 101, 110, 99, 111, 100, 105, 110, 103]⟩ = false by kernel_rfl), opt_all _ _ _ (show sameB fClos.1 ⟨#[116, 114, 97, 110, 115, 102, 101, 114, 45, 101, 110, 99, 111, 100, 105, 110, 103]⟩ = false by kernel_rfl)]
  kernel_rfl
theorem page_cl (l : AL) (z : Int) (last : Bool) : (allF (pageF l z last) ⟨#[99, 111, 110, 116, 101, 110, 116, 45, 108, 101, 110, 103, 116, 104]⟩).length = if 0 ≤ z then 1 else 0 := by
  unfold pageF
  rw [allF_app, allF_app, allF_app, all_wo l _ _ ⟨#[67, 111, 110, 116, 101, 110, 116, 45, 76, 101, 110, 103, 116, 104]⟩ (mem_hop _ _ (by kernel_rfl) _) (by kernel_rfl), opt_yes _ _ _ (show sameB (fLen z).1 ⟨#[99, 111, 110, 116, 101, 110, 116, 45, 108, 101, 110, 103, 116, 104]⟩ = true from (show sameB kLen ⟨#[99, 111, 110, 116, 101, 110, 116, 45, 108, 101, 110, 103, 116, 104]⟩ = true by kernel_rfl)), opt_all _ _ _ (show sameB fClos.1 ⟨#[99, 111, 110, 116, 101, 110, 116, 45, 108, 101, 110, 103, 116, 104]⟩ = false by kernel_rfl)]
  rw [show allF [fCTH, fCSP, fSniff] ⟨#[99, 111, 110, 116, 101, 110, 116, 45, 108, 101, 110, 103, 116, 104]⟩ = [] by kernel_rfl]
  split <;> simp
theorem page_co (l : AL) (z : Int) (last : Bool) : allF (pageF l z last) ⟨#[99, 111, 110, 110, 101, 99, 116, 105, 111, 110]⟩ = if last = true then [kClos] else [] := by
  unfold pageF
  rw [allF_app, allF_app, allF_app, all_wo l _ _ ⟨#[67, 111, 110, 110, 101, 99, 116, 105, 111, 110]⟩ (mem_hop _ _ (by kernel_rfl) _) (by kernel_rfl), opt_all _ _ _ (show sameB kLen ⟨#[99, 111, 110, 110, 101, 99, 116, 105, 111, 110]⟩ = false by kernel_rfl), opt_yes _ _ _ (show sameB fClos.1 ⟨#[99, 111, 110, 110, 101, 99, 116, 105, 111, 110]⟩ = true by kernel_rfl)]
  rw [show allF [fCTH, fCSP, fSniff] ⟨#[99, 111, 110, 110, 101, 99, 116, 105, 111, 110]⟩ = [] by kernel_rfl]
  rfl
theorem keeps_of (X : AL) (last : Bool) (h : allF X ⟨#[99, 111, 110, 110, 101, 99, 116, 105, 111, 110]⟩ = if last = true then [kClos] else []) : keepsF X = !last := by
  unfold keepsF
  rw [h]
  cases last <;> kernel_rfl
theorem page_kind (l : AL) (z : Int) (last : Bool) : kindF (pageF l z last) = (true, ⟨#[117, 116, 102, 45, 56]⟩, 0) := by
  have he : encF (pageF l z last) = false := by unfold encF; rw [page_ce]; rfl
  unfold kindF
  rw [page_ct]
  have hm : media fCTH.2.data.toList = some ([116, 101, 120, 116], [104, 116, 109, 108], [([99, 104, 97, 114, 115, 101, 116], [117, 116, 102, 45, 56])]) := by kernel_rfl
  show kindM _ [] (media fCTH.2.data.toList) = _
  rw [hm]
  unfold kindM
  rw [if_neg (by simp)]
  simp only
  rw [if_neg (by decide +kernel), if_pos (by decide +kernel), if_neg (by rw [he]; simp)]
  kernel_rfl
theorem mid_all (k L : Int) (X : ByteArray) (h1 : sameB kLen X = false) (h2 : sameB fTE.1 X = false) : allF (midF k L) X = [] := by
  unfold midF
  split
  · exact opt_all _ _ _ h1
  · exact opt_all _ _ _ h2
theorem plain_xo (l : AL) (k L : Int) (last : Bool) : allF (plainF l k L last) ⟨#[120, 45, 99, 111, 110, 116, 101, 110, 116, 45, 116, 121, 112, 101, 45, 111, 112, 116, 105, 111, 110, 115]⟩ = [kNos] := by
  unfold plainF
  rw [allF_app, allF_app, allF_app, all_wo l _ _ ⟨#[88, 45, 67, 111, 110, 116, 101, 110, 116, 45, 84, 121, 112, 101, 45, 79, 112, 116, 105, 111, 110, 115]⟩ (mem_more _ _ _ (by kernel_rfl)) (by kernel_rfl), mid_all _ _ _ (by kernel_rfl) (by kernel_rfl), opt_all _ _ _ (show sameB fClos.1 ⟨#[120, 45, 99, 111, 110, 116, 101, 110, 116, 45, 116, 121, 112, 101, 45, 111, 112, 116, 105, 111, 110, 115]⟩ = false by kernel_rfl)]
  kernel_rfl
theorem plain_co (l : AL) (k L : Int) (last : Bool) : allF (plainF l k L last) ⟨#[99, 111, 110, 110, 101, 99, 116, 105, 111, 110]⟩ = if last = true then [kClos] else [] := by
  unfold plainF
  rw [allF_app, allF_app, allF_app, all_wo l _ _ ⟨#[67, 111, 110, 110, 101, 99, 116, 105, 111, 110]⟩ (mem_hop _ _ (by kernel_rfl) _) (by kernel_rfl), mid_all _ _ _ (by kernel_rfl) (by kernel_rfl), opt_yes _ _ _ (show sameB fClos.1 ⟨#[99, 111, 110, 110, 101, 99, 116, 105, 111, 110]⟩ = true by kernel_rfl)]
  rw [show allF [fSniff] ⟨#[99, 111, 110, 110, 101, 99, 116, 105, 111, 110]⟩ = [] by kernel_rfl]
  rfl
theorem plain_te (l : AL) (k L : Int) (last : Bool) : (allF (plainF l k L last) ⟨#[116, 114, 97, 110, 115, 102, 101, 114, 45, 101, 110, 99, 111, 100, 105, 110, 103]⟩).length = if k = 2 ∨ k = 3 then 1 else 0 := by
  unfold plainF
  rw [allF_app, allF_app, allF_app, all_wo l _ _ ⟨#[84, 114, 97, 110, 115, 102, 101, 114, 45, 69, 110, 99, 111, 100, 105, 110, 103]⟩ (mem_hop _ _ (by kernel_rfl) _) (by kernel_rfl), opt_all _ _ _ (show sameB fClos.1 ⟨#[116, 114, 97, 110, 115, 102, 101, 114, 45, 101, 110, 99, 111, 100, 105, 110, 103]⟩ = false by kernel_rfl), show allF [fSniff] ⟨#[116, 114, 97, 110, 115, 102, 101, 114, 45, 101, 110, 99, 111, 100, 105, 110, 103]⟩ = [] by kernel_rfl]
  unfold midF
  by_cases h1 : k = 1
  · rw [if_pos h1, opt_all _ _ _ (show sameB kLen ⟨#[116, 114, 97, 110, 115, 102, 101, 114, 45, 101, 110, 99, 111, 100, 105, 110, 103]⟩ = false by kernel_rfl), if_neg (by omega)]; rfl
  · rw [if_neg h1, opt_yes _ _ _ (show sameB fTE.1 ⟨#[116, 114, 97, 110, 115, 102, 101, 114, 45, 101, 110, 99, 111, 100, 105, 110, 103]⟩ = true by kernel_rfl)]
    split <;> simp
theorem plain_cl (l : AL) (k L : Int) (last : Bool) : (allF (plainF l k L last) ⟨#[99, 111, 110, 116, 101, 110, 116, 45, 108, 101, 110, 103, 116, 104]⟩).length = if k = 1 ∧ 0 ≤ L then 1 else 0 := by
  unfold plainF
  rw [allF_app, allF_app, allF_app, all_wo l _ _ ⟨#[67, 111, 110, 116, 101, 110, 116, 45, 76, 101, 110, 103, 116, 104]⟩ (mem_hop _ _ (by kernel_rfl) _) (by kernel_rfl), opt_all _ _ _ (show sameB fClos.1 ⟨#[99, 111, 110, 116, 101, 110, 116, 45, 108, 101, 110, 103, 116, 104]⟩ = false by kernel_rfl), show allF [fSniff] ⟨#[99, 111, 110, 116, 101, 110, 116, 45, 108, 101, 110, 103, 116, 104]⟩ = [] by kernel_rfl]
  unfold midF
  by_cases h1 : k = 1
  · rw [if_pos h1, opt_yes _ _ _ (show sameB (fLen L).1 ⟨#[99, 111, 110, 116, 101, 110, 116, 45, 108, 101, 110, 103, 116, 104]⟩ = true from (show sameB kLen ⟨#[99, 111, 110, 116, 101, 110, 116, 45, 108, 101, 110, 103, 116, 104]⟩ = true by kernel_rfl))]
    by_cases h2 : 0 ≤ L
    · rw [if_pos h2, if_pos ⟨h1, h2⟩]; rfl
    · rw [if_neg h2, if_neg (fun h => h2 h.2)]; rfl
  · rw [if_neg h1, opt_all _ _ _ (show sameB fTE.1 ⟨#[99, 111, 110, 116, 101, 110, 116, 45, 108, 101, 110, 103, 116, 104]⟩ = false by kernel_rfl), if_neg (fun h => h1 h.1)]; rfl
theorem len_asz (z : Int) (h1 : z ≤ 9223372036854775807) : asz [fLen z] ≤ 40 := by
  have e : asz [fLen z] = 14 + (mk (dstr z)).size + 4 + 0 := rfl
  have := dstr_len z h1
  rw [e, mk_size]; omega
theorem opt_asz (c : Prop) [Decidable c] (x : AL) (n : Nat) (h : asz x ≤ n) : asz (if c then x else []) ≤ n := by split; exact h; exact Nat.zero_le _
theorem page_asz (l : AL) (z : Int) (last : Bool) (h1 : z ≤ 9223372036854775807) : asz (pageF l z last) ≤ asz l + 400 := by
  unfold pageF
  rw [asz_app, asz_app, asz_app]
  have a1 := woF_asz l (hopF l ++ pageN)
  have a2 := opt_asz (0 ≤ z) [fLen z] 40 (len_asz z h1)
  have a3 := opt_asz (last = true) [fClos] 40 (by decide)
  have a4 : asz [fCTH, fCSP, fSniff] ≤ 300 := by decide
  omega
theorem plain_asz (l : AL) (k L : Int) (last : Bool) (h1 : L ≤ 9223372036854775807) : asz (plainF l k L last) ≤ asz l + 400 := by
  unfold plainF
  rw [asz_app, asz_app, asz_app]
  have a1 := woF_asz l (hopF l ++ [kCTO])
  have a2 : asz (midF k L) ≤ 40 := by
    unfold midF
    split
    · exact opt_asz _ _ _ (len_asz L h1)
    · exact opt_asz _ _ _ (by decide)
  have a3 := opt_asz (last = true) [fClos] 40 (by decide)
  have a4 : asz [fSniff] ≤ 300 := by decide
  omega

set_option maxHeartbeats 64000000 in
set_option maxRecDepth 100000 in
theorem hardenPages_any (st : Int) (rs : ByteArray) (z k L : Int) (last : Bool) (l : AL) (a : Option Addr) (n c : Nat) (w : World) (hn : l.length = n) (hs : SrcA w a c l) (hz : asz l ≤ 8388608) (h1 : z ≤ 9223372036854775807) (h2 : L ≤ 9223372036854775807) (ht : TabP w) :
    Calls Tryd.prog 8 #[.agg #[.int .i64 st, .string rs, .slice a n c], .int .i64 z, .agg #[.int .i64 k, .int .i64 L], .bool last] w fun e w' => e = .returned (.bool true) ∧ Below w.heap.size w w' := by
  have hx := fun wx (hb : Below w.heap.size w wx) => shown21_any wx (ht.below hb)
  have hp := fun wx (hb : Below w.heap.size w wx) => page_any l st rs z last a n c wx hn (hs.below (Nat.le_refl _) hb) (by omega) h1 (ht.below hb)
  have hq := fun wx (hb : Below w.heap.size w wx) => plain_any l st rs k L last a n c wx hn (hs.below (Nat.le_refl _) hb) (by omega) h2 (ht.below hb)
  have az1 := page_asz l z last h1
  have az2 := plain_asz l k L last h2
  have f1 := page_ct l z last
  have f2 := page_cs l z last
  have f3 := page_xo l z last
  have f4 := page_te l z last
  have f5 := page_cl l z last
  have f6 := keeps_of _ last (page_co l z last)
  have f7 := page_kind l z last
  have g1 := plain_xo l k L last
  have g2 := plain_te l k L last
  have g3 := plain_cl l k L last
  have g4 := keeps_of _ last (plain_co l k L last)
  generalize pageF l z last = X at hp az1 f1 f2 f3 f4 f5 f6 f7
  generalize plainF l k L last = Y at hq az2 g1 g2 g3 g4
  have HX := Lib.hid hx
  have HP : Hid (∀ wx, Below w.heap.size w wx → Calls Tryd.prog 26 #[.agg #[.int .i64 st, .string rs, .slice a n c], .int .i64 z, .bool last] wx fun e w' => Below wx.heap.size wx w' ∧ ∃ v, e = .returned (.agg #[.int .i64 st, .string rs, v]) ∧ OwnF w' wx.heap.size v X) := Lib.hid hp
  have HQ : Hid (∀ wx, Below w.heap.size w wx → Calls Tryd.prog 27 #[.agg #[.int .i64 st, .string rs, .slice a n c], .agg #[.int .i64 k, .int .i64 L], .bool last] wx fun e w' => Below wx.heap.size wx w' ∧ ∃ v, e = .returned (.agg #[.int .i64 st, .string rs, v]) ∧ OwnF w' wx.heap.size v Y) := Lib.hid hq
  have zX : asz X ≤ 1073741824 := by omega
  have zY : asz Y ≤ 1073741824 := by omega
  obtain ⟨wA, hA⟩ : ∃ wA, wA = (w.alloc (.cells #[.int .i64 st, .string rs, .slice a n c] 39)).alloc (.cells #[.int .i64 k, .int .i64 L] 62) := ⟨_, rfl⟩
  obtain ⟨wA1, hA1⟩ : ∃ wA1, wA1 = w.alloc (.cells #[.int .i64 st, .string rs, .slice a n c] 39) := ⟨_, rfl⟩
  have hA2 : wA = wA1.alloc (.cells #[.int .i64 k, .int .i64 L] 62) := by rw [hA1]; exact hA
  have sA1 : wA1.heap.size = w.heap.size + 1 := by rw [hA1]; simp
  have bA1 : Below w.heap.size w wA1 := by rw [hA1]; exact (Below.refl _ _).alloc (Nat.le_refl _) _
  have bA2 : Below wA1.heap.size wA1 wA := by rw [hA2]; exact (Below.refl _ _).alloc (Nat.le_refl _) _
  have m1 : ∀ j, wA1.cell? ⟨w.heap.size, j, none⟩ = (#[Value.int .i64 st, .string rs, .slice a n c])[j]? := fun j => by rw [hA1]; exact (at_alloc w _ _ j).1
  have m2 : ∀ j, wA.cell? ⟨wA1.heap.size, j, none⟩ = (#[Value.int .i64 k, .int .i64 L])[j]? := fun j => by rw [hA2]; exact (at_alloc wA1 _ _ j).1
  have m3 : ∀ j, wA.cell? ⟨w.heap.size, j, none⟩ = (#[Value.int .i64 st, .string rs, .slice a n c])[j]? := fun j => (bA2.cell (p := ⟨w.heap.size, j, none⟩) (by simp; omega)).trans (m1 j)
  rw [sA1] at m2
  have sA : wA.heap.size = w.heap.size + 1 + 1 := by rw [hA2]; simp [sA1]
  have KA : Hid (∀ wx, Below wA.heap.size wA wx → wx.cell? ⟨w.heap.size, 0, none⟩ = some (.int .i64 st) ∧ wx.cell? ⟨w.heap.size, 1, none⟩ = some (.string rs) ∧ wx.cell? ⟨w.heap.size, 2, none⟩ = some (.slice a n c) ∧ wx.cell? ⟨w.heap.size + 1, 0, none⟩ = some (.int .i64 k) ∧ wx.cell? ⟨w.heap.size + 1, 1, none⟩ = some (.int .i64 L)) := Lib.hid fun wx hb =>
    ⟨(hb.cell (p := ⟨w.heap.size, 0, none⟩) (by simp; omega)).trans (m3 0), (hb.cell (p := ⟨w.heap.size, 1, none⟩) (by simp; omega)).trans (m3 1), (hb.cell (p := ⟨w.heap.size, 2, none⟩) (by simp; omega)).trans (m3 2), (hb.cell (p := ⟨w.heap.size + 1, 0, none⟩) (by simp; omega)).trans (m2 0), (hb.cell (p := ⟨w.heap.size + 1, 1, none⟩) (by simp; omega)).trans (m2 1)⟩
  have HA := Lib.hid hA
  have SA := Lib.hid sA
  have HBA : Hid (Below w.heap.size w wA) := Lib.hid (bA1.trans (bA2.mono bA1.size))
  have hc1 : (z ≥ 0) = (0 ≤ z) := rfl
  clear hx hp hq az1 az2 hn hs hz h1 h2 ht hA hA1 hA2 sA1 bA1 bA2 m1 m2 m3 sA hc1
  have HALLX := fun (A : ByteArray) (hA : A.size ≤ 1073741824) (a : Option Addr) c wx (hs : SrcA wx a c X) => all_any X A a X.length c wx rfl hs zX hA
  have HALLY := fun (A : ByteArray) (hA : A.size ≤ 1073741824) (a : Option Addr) c wx (hs : SrcA wx a c Y) => all_any Y A a Y.length c wx rfl hs zY hA
  have HCX := fun (A : ByteArray) (hA : A.size ≤ 1073741824) (a : Option Addr) c wx (hs : SrcA wx a c X) => count_any X A a X.length c wx rfl hs zX hA
  have HCY := fun (A : ByteArray) (hA : A.size ≤ 1073741824) (a : Option Addr) c wx (hs : SrcA wx a c Y) => count_any Y A a Y.length c wx rfl hs zY hA
  have HKX := fun (a : Option Addr) c wx (hs : SrcA wx a c X) => kind_any X st rs a X.length c wx rfl hs zX
  have HPX := fun (a : Option Addr) c wx (hs : SrcA wx a c X) => keepsF_any X a X.length c wx rfl hs zX
  have HPY := fun (a : Option Addr) c wx (hs : SrcA wx a c Y) => keepsF_any Y a Y.length c wx rfl hs zY
  have A1 := HALLX ⟨#[99, 111, 110, 116, 101, 110, 116, 45, 116, 121, 112, 101]⟩ (by decide)
  have A2 := HALLX ⟨#[99, 111, 110, 116, 101, 110, 116, 45, 115, 101, 99, 117, 114, 105, 116, 121, 45, 112, 111, 108, 105, 99, 121]⟩ (by decide)
  have A3 := HALLX ⟨#[120, 45, 99, 111, 110, 116, 101, 110, 116, 45, 116, 121, 112, 101, 45, 111, 112, 116, 105, 111, 110, 115]⟩ (by decide)
  have A4 := HALLY ⟨#[120, 45, 99, 111, 110, 116, 101, 110, 116, 45, 116, 121, 112, 101, 45, 111, 112, 116, 105, 111, 110, 115]⟩ (by decide)
  have N1 := HCX ⟨#[99, 111, 110, 116, 101, 110, 116, 45, 108, 101, 110, 103, 116, 104]⟩ (by decide)
  have N2 := HCX ⟨#[116, 114, 97, 110, 115, 102, 101, 114, 45, 101, 110, 99, 111, 100, 105, 110, 103]⟩ (by decide)
  have N3 := HCY ⟨#[116, 114, 97, 110, 115, 102, 101, 114, 45, 101, 110, 99, 111, 100, 105, 110, 103]⟩ (by decide)
  have N4 := HCY ⟨#[99, 111, 110, 116, 101, 110, 116, 45, 108, 101, 110, 103, 116, 104]⟩ (by decide)
  rw [f1] at A1
  rw [f2] at A2
  rw [f3] at A3
  rw [g1] at A4
  rw [f5] at N1
  rw [f4] at N2
  rw [g2] at N3
  rw [g3] at N4
  rw [f7] at HKX
  rw [f6] at HPX
  rw [g4] at HPY
  obtain ⟨nx, hnx⟩ : ∃ nx, X.length = nx := ⟨_, rfl⟩
  obtain ⟨ny, hny⟩ : ∃ ny, Y.length = ny := ⟨_, rfl⟩
  simp only [hnx] at A1 A2 A3 N1 N2 HKX HPX
  simp only [hny] at A4 N3 N4 HPY
  have HNX := Lib.hid hnx
  have HNY := Lib.hid hny
  obtain ⟨e1, he1⟩ : ∃ e1 : Nat, (if 0 ≤ z then 1 else 0) = e1 := ⟨_, rfl⟩
  obtain ⟨e3, he3⟩ : ∃ e3 : Nat, (if k = 2 ∨ k = 3 then 1 else 0) = e3 := ⟨_, rfl⟩
  obtain ⟨e4, he4⟩ : ∃ e4 : Nat, (if k = 1 ∧ 0 ≤ L then 1 else 0) = e4 := ⟨_, rfl⟩
  have HE1v := Lib.hid he1
  have HE3 := Lib.hid he3
  have HE4 := Lib.hid he4
  rw [he1] at N1
  rw [he3] at N3
  rw [he4] at N4
  have i1 : e1 ≤ 1 := by rw [← he1]; split <;> omega
  have i2 : e3 + e4 ≤ 1 := by
    rw [← he3, ← he4]
    by_cases h : k = 2 ∨ k = 3
    · rw [if_pos h, if_neg (by omega)]; omega
    · rw [if_neg h]; split <;> omega
  clear HALLX HALLY HCX HCY f1 f2 f3 f4 f5 f6 f7 g1 g2 g3 g4 zX zY hnx hny he1 he3 he4
  go_enter Tryd.func8, Tryd.ntmps8
  go_wp2_with fail
  rw [← HA.out]
  refine (HX.out _ HBA.out).mono ?_; rintro e w1 ⟨rfl, hb⟩
  have HE1 : Hid (Below wA.heap.size wA w1) := Lib.hid hb
  clear hb
  obtain ⟨p0, p1, p2, p3, p4⟩ := KA.out _ HE1.out
  have zw : w.heap.size + 1 < w1.heap.size := by have := HE1.out.size; have := SA.out; omega
  go_wp2_with fail
  refine (HP.out _ (HBA.out.trans (HE1.out.mono HBA.out.size))).mono ?_; rintro e w2 ⟨hb, v, rfl, hown⟩
  obtain ⟨ax, cx, hvx, hsx, hfar⟩ := ownF_src hown
  rw [HNX.out] at hvx
  subst hvx
  have HE2 : Hid (Below wA.heap.size wA w2) := Lib.hid (HE1.out.trans (hb.mono HE1.out.size))
  have HSX := Lib.hid hsx
  clear hb hown hfar hsx p0 p1 p2 p3 p4
  obtain ⟨p0, p1, p2, p3, p4⟩ := KA.out _ HE2.out
  have zw2 : w.heap.size + 1 < w2.heap.size := by have := HE2.out.size; have := SA.out; omega
  have zv2 : w.heap.size < w2.heap.size := by omega
  go_wp2_with fail
  obtain ⟨wX, hX⟩ : ∃ wX, wX = w2.alloc (.cells #[.int .i64 st, .string rs, .slice ax nx cx] 39) := ⟨_, rfl⟩
  have bX : Below w2.heap.size w2 wX := by rw [hX]; exact (Below.refl _ _).alloc (Nat.le_refl _) _
  have mX : ∀ j, wX.cell? ⟨w2.heap.size, j, none⟩ = (#[Value.int .i64 st, .string rs, .slice ax nx cx])[j]? := fun j => by rw [hX]; exact (at_alloc w2 _ _ j).1
  have sX : wX.heap.size = w2.heap.size + 1 := by rw [hX]; simp
  have HEX : Hid (Below wA.heap.size wA wX) := Lib.hid (HE2.out.trans (bX.mono HE2.out.size))
  have HX2 := Lib.hid hX
  have HSX2 := Lib.hid (HSX.out.below (Nat.le_refl _) bX)
  have MX := Lib.hid mX
  have SX := Lib.hid sX
  clear hX bX mX sX
  rw [← HX2.out]
  refine (HQ.out _ (HBA.out.trans (HEX.out.mono HBA.out.size))).mono ?_; rintro e w3 ⟨hb, v, rfl, hown⟩
  obtain ⟨ay, cy, hvy, hsy, hfar⟩ := ownF_src hown
  rw [HNY.out] at hvy
  subst hvy
  obtain ⟨gx, hgx⟩ : ∃ gx, gx = w2.heap.size := ⟨_, rfl⟩
  have MX2 : Hid (∀ j, wX.cell? ⟨gx, j, none⟩ = (#[Value.int .i64 st, .string rs, .slice ax nx cx])[j]?) := Lib.hid (by rw [hgx]; exact MX.out)
  have SX2 : Hid (gx < wX.heap.size) := Lib.hid (by rw [hgx, SX.out]; omega)
  rw [← hgx]
  clear hgx MX SX zw2 zv2
  have HEW3 : Hid (Below wA.heap.size wA w3) := Lib.hid (HEX.out.trans (hb.mono HEX.out.size))
  have HSX3 := Lib.hid (HSX2.out.below (Nat.le_refl _) hb)
  have HSY := Lib.hid hsy
  have MX3 : Hid (∀ j, w3.cell? ⟨gx, j, none⟩ = (#[Value.int .i64 st, .string rs, .slice ax nx cx])[j]?) := Lib.hid fun j => (hb.cell (p := ⟨gx, j, none⟩) SX2.out).trans (MX2.out j)
  have SX3 : Hid (gx < w3.heap.size) := Lib.hid (Nat.lt_of_lt_of_le SX2.out hb.size)
  clear hb hown hfar hsy p0 p1 p2 p3 p4 HSX HSX2 MX2 SX2
  obtain ⟨wD, hD⟩ : ∃ wD, wD = w3.alloc (.cells #[.int .i64 st, .string rs, .slice ay ny cy] 39) := ⟨_, rfl⟩
  have bD : Below w3.heap.size w3 wD := by rw [hD]; exact (Below.refl _ _).alloc (Nat.le_refl _) _
  have mD : ∀ j, wD.cell? ⟨w3.heap.size, j, none⟩ = (#[Value.int .i64 st, .string rs, .slice ay ny cy])[j]? := fun j => by rw [hD]; exact (at_alloc w3 _ _ j).1
  have sD : wD.heap.size = w3.heap.size + 1 := by rw [hD]; simp
  have HED : Hid (Below wA.heap.size wA wD) := Lib.hid (HEW3.out.trans (bD.mono HEW3.out.size))
  have HDD := Lib.hid hD
  have HSXD := Lib.hid (HSX3.out.below (Nat.le_refl _) bD)
  have HSYD := Lib.hid (HSY.out.below (Nat.le_refl _) bD)
  have HWD : Hid (Below w.heap.size w wD) := Lib.hid (HBA.out.trans (HED.out.mono HBA.out.size))
  have z0 : gx < wD.heap.size := by have := SX3.out; omega
  have z1 : w3.heap.size < wD.heap.size := by omega
  have z2 : w.heap.size + 1 < wD.heap.size := by have := HED.out.size; have := SA.out; omega
  have mXD : ∀ j, wD.cell? ⟨gx, j, none⟩ = (#[Value.int .i64 st, .string rs, .slice ax nx cx])[j]? := fun j => (bD.cell (p := ⟨gx, j, none⟩) SX3.out).trans (MX3.out j)
  obtain ⟨gy, hgy⟩ : ∃ gy, gy = w3.heap.size := ⟨_, rfl⟩
  rw [← hgy] at mD z1
  have hk0 := KA.out _ HED.out
  have KX : Hid (∀ wx, Below wD.heap.size wD wx → wx.cell? ⟨gx, 0, none⟩ = some (.int .i64 st) ∧ wx.cell? ⟨gx, 1, none⟩ = some (.string rs) ∧ wx.cell? ⟨gx, 2, none⟩ = some (.slice ax nx cx) ∧ wx.cell? ⟨gy, 2, none⟩ = some (.slice ay ny cy) ∧ wx.cell? ⟨w.heap.size + 1, 0, none⟩ = some (.int .i64 k)) := Lib.hid fun wx hb =>
    ⟨(hb.cell (p := ⟨gx, 0, none⟩) z0).trans (mXD 0), (hb.cell (p := ⟨gx, 1, none⟩) z0).trans (mXD 1), (hb.cell (p := ⟨gx, 2, none⟩) z0).trans (mXD 2), (hb.cell (p := ⟨gy, 2, none⟩) z1).trans (mD 2), (hb.cell (p := ⟨w.heap.size + 1, 0, none⟩) z2).trans hk0.2.2.2.1⟩
  have HD3 : Hid (Below wD.heap.size wD wD) := Lib.hid (Below.refl _ _)
  have HGY := Lib.hid hgy
  have GX := Lib.hid fun wx (hb : Below wD.heap.size wD wx) => HSXD.out.below (Nat.le_refl _) hb
  have GY := Lib.hid fun wx (hb : Below wD.heap.size wD wx) => HSYD.out.below (Nat.le_refl _) hb
  have HA1 := Lib.hid fun wx (hb : Below wD.heap.size wD wx) => A1 _ _ _ (GX.out wx hb)
  have HA2 := Lib.hid fun wx (hb : Below wD.heap.size wD wx) => A2 _ _ _ (GX.out wx hb)
  have HA3 := Lib.hid fun wx (hb : Below wD.heap.size wD wx) => A3 _ _ _ (GX.out wx hb)
  have HA4 := Lib.hid fun wx (hb : Below wD.heap.size wD wx) => A4 _ _ _ (GY.out wx hb)
  have HN1 := Lib.hid fun wx (hb : Below wD.heap.size wD wx) => N1 _ _ _ (GX.out wx hb)
  have HN2 := Lib.hid fun wx (hb : Below wD.heap.size wD wx) => N2 _ _ _ (GX.out wx hb)
  have HN3 := Lib.hid fun wx (hb : Below wD.heap.size wD wx) => N3 _ _ _ (GY.out wx hb)
  have HN4 := Lib.hid fun wx (hb : Below wD.heap.size wD wx) => N4 _ _ _ (GY.out wx hb)
  have HKK := Lib.hid fun wx (hb : Below wD.heap.size wD wx) => HKX _ _ _ (GX.out wx hb)
  have HPP := Lib.hid fun wx (hb : Below wD.heap.size wD wx) => HPX _ _ _ (GX.out wx hb)
  have HPQ := Lib.hid fun wx (hb : Below wD.heap.size wD wx) => HPY _ _ _ (GY.out wx hb)
  clear hD bD mD sD z0 z1 z2 mXD hk0 hgy A1 A2 A3 A4 N1 N2 N3 N4 HKX HPX HPY
  obtain ⟨x0, x1, x2, y2, bk⟩ := KX.out _ HD3.out
  go_upto_region 4 with fail
  rw [← HDD.out, ← HGY.out]
  go_wp2_with fail
  refine (HA1.out _ HD3.out).mono ?_; rintro e w4 ⟨hb, v, rfl, hown⟩
  have HD4 : Hid (Below wD.heap.size wD w4) := Lib.hid (HD3.out.trans (hb.mono HD3.out.size))
  obtain ⟨a4, c4, hv4, hsrc4⟩ := ownS_src hown
  have hv4 : v = .slice a4 1 c4 := hv4
  subst hv4
  obtain ⟨b4, o4, rfl, hbb4, t4⟩ := hsrc4.at_ 0 (by decide)
  replace t4 : w4.cell? ⟨b4, o4, none⟩ = some (.string ⟨#[116, 101, 120, 116, 47, 104, 116, 109, 108, 59, 32, 99, 104, 97, 114, 115, 101, 116, 61, 117, 116, 102, 45, 56]⟩) := t4
  clear hsrc4 hown
  clear hb
  clear x0 x1 x2 y2 bk
  obtain ⟨x0, x1, x2, y2, bk⟩ := KX.out _ HD4.out
  -- HD4.out
  go_wp2_with fail
  refine (HA2.out _ HD4.out).mono ?_; rintro e w5 ⟨hb, v, rfl, hown⟩
  have HD5 : Hid (Below wD.heap.size wD w5) := Lib.hid (HD4.out.trans (hb.mono HD4.out.size))
  obtain ⟨a5, c5, hv5, hsrc5⟩ := ownS_src hown
  have hv5 : v = .slice a5 1 c5 := hv5
  subst hv5
  obtain ⟨b5, o5, rfl, hbb5, t5⟩ := hsrc5.at_ 0 (by decide)
  replace t5 : w5.cell? ⟨b5, o5, none⟩ = some (.string ⟨#[100, 101, 102, 97, 117, 108, 116, 45, 115, 114, 99, 32, 39, 110, 111, 110, 101, 39, 59, 32, 98, 97, 115, 101, 45, 117, 114, 105, 32, 39, 110, 111, 110, 101, 39, 59, 32, 102, 111, 114, 109, 45, 97, 99, 116, 105, 111, 110, 32, 39, 110, 111, 110, 101, 39, 59, 32, 115, 97, 110, 100, 98, 111, 120]⟩) := t5
  clear hsrc5 hown
  replace t4 := (hb.cell (p := ⟨b4, o4, none⟩) hbb4).trans t4
  replace hbb4 := Nat.lt_of_lt_of_le hbb4 hb.size
  clear hb
  clear x0 x1 x2 y2 bk
  obtain ⟨x0, x1, x2, y2, bk⟩ := KX.out _ HD5.out
  -- HD5.out
  go_wp2_with fail
  refine (HA3.out _ HD5.out).mono ?_; rintro e w6 ⟨hb, v, rfl, hown⟩
  have HD6 : Hid (Below wD.heap.size wD w6) := Lib.hid (HD5.out.trans (hb.mono HD5.out.size))
  obtain ⟨a6, c6, hv6, hsrc6⟩ := ownS_src hown
  have hv6 : v = .slice a6 1 c6 := hv6
  subst hv6
  obtain ⟨b6, o6, rfl, hbb6, t6⟩ := hsrc6.at_ 0 (by decide)
  replace t6 : w6.cell? ⟨b6, o6, none⟩ = some (.string ⟨#[110, 111, 115, 110, 105, 102, 102]⟩) := t6
  clear hsrc6 hown
  replace t4 := (hb.cell (p := ⟨b4, o4, none⟩) hbb4).trans t4
  replace hbb4 := Nat.lt_of_lt_of_le hbb4 hb.size
  replace t5 := (hb.cell (p := ⟨b5, o5, none⟩) hbb5).trans t5
  replace hbb5 := Nat.lt_of_lt_of_le hbb5 hb.size
  clear hb
  clear x0 x1 x2 y2 bk
  obtain ⟨x0, x1, x2, y2, bk⟩ := KX.out _ HD6.out
  -- HD6.out
  go_wp2_with fail
  refine (HKK.out _ HD6.out).mono ?_; rintro e w7 ⟨rfl, hb⟩
  have HD7 : Hid (Below wD.heap.size wD w7) := Lib.hid (HD6.out.trans (hb.mono HD6.out.size))
  clear hb
  clear x0 x1 x2 y2 bk
  obtain ⟨x0, x1, x2, y2, bk⟩ := KX.out _ HD7.out
  -- HD7.out
  go_wp2_with fail
  refine (HPP.out _ HD7.out).mono ?_; rintro e w8 ⟨rfl, hb⟩
  have HD8 : Hid (Below wD.heap.size wD w8) := Lib.hid (HD7.out.trans (hb.mono HD7.out.size))
  clear hb
  clear x0 x1 x2 y2 bk
  obtain ⟨x0, x1, x2, y2, bk⟩ := KX.out _ HD8.out
  -- HD8.out
  go_wp2_with fail
  refine (HPQ.out _ HD8.out).mono ?_; rintro e w9 ⟨rfl, hb⟩
  have HD9 : Hid (Below wD.heap.size wD w9) := Lib.hid (HD8.out.trans (hb.mono HD8.out.size))
  clear hb
  clear x0 x1 x2 y2 bk
  obtain ⟨x0, x1, x2, y2, bk⟩ := KX.out _ HD9.out
  -- HD9.out
  go_wp2_with fail
  refine (HN1.out _ HD9.out).mono ?_; rintro e w10 ⟨rfl, hb⟩
  have HD10 : Hid (Below wD.heap.size wD w10) := Lib.hid (HD9.out.trans (hb.mono HD9.out.size))
  clear hb
  clear x0 x1 x2 y2 bk
  obtain ⟨x0, x1, x2, y2, bk⟩ := KX.out _ HD10.out
  -- HD10.out
  go_wp2_with fail
  refine (HN2.out _ HD10.out).mono ?_; rintro e w11 ⟨rfl, hb⟩
  have HD11 : Hid (Below wD.heap.size wD w11) := Lib.hid (HD10.out.trans (hb.mono HD10.out.size))
  clear hb
  clear x0 x1 x2 y2 bk
  obtain ⟨x0, x1, x2, y2, bk⟩ := KX.out _ HD11.out
  -- HD11.out
  by_cases h0 : 0 ≤ z
  · have e1v : e1 = 1 := by rw [← HE1v.out, if_pos h0]
    subst e1v
    go_wp2_with fail
    refine (HA4.out _ HD11.out).mono ?_; rintro e w12 ⟨hb, v, rfl, hown⟩
    have HD12 : Hid (Below wD.heap.size wD w12) := Lib.hid (HD11.out.trans (hb.mono HD11.out.size))
    obtain ⟨a12, c12, hv12, hsrc12⟩ := ownS_src hown
    have hv12 : v = .slice a12 1 c12 := hv12
    subst hv12
    obtain ⟨b12, o12, rfl, hbb12, t12⟩ := hsrc12.at_ 0 (by decide)
    replace t12 : w12.cell? ⟨b12, o12, none⟩ = some (.string ⟨#[110, 111, 115, 110, 105, 102, 102]⟩) := t12
    clear hsrc12 hown
    clear hb
    clear x0 x1 x2 y2 bk
    obtain ⟨x0, x1, x2, y2, bk⟩ := KX.out _ HD12.out
    -- HD12.out
    go_wp2_with fail
    refine (HN3.out _ HD12.out).mono ?_; rintro e w13 ⟨rfl, hb⟩
    have HD13 : Hid (Below wD.heap.size wD w13) := Lib.hid (HD12.out.trans (hb.mono HD12.out.size))
    replace t12 := (hb.cell (p := ⟨b12, o12, none⟩) hbb12).trans t12
    replace hbb12 := Nat.lt_of_lt_of_le hbb12 hb.size
    clear hb
    clear x0 x1 x2 y2 bk
    obtain ⟨x0, x1, x2, y2, bk⟩ := KX.out _ HD13.out
    -- HD13.out
    go_wp2_with fail
    refine (HN4.out _ HD13.out).mono ?_; rintro e w14 ⟨rfl, hb⟩
    have HD14 : Hid (Below wD.heap.size wD w14) := Lib.hid (HD13.out.trans (hb.mono HD13.out.size))
    replace t12 := (hb.cell (p := ⟨b12, o12, none⟩) hbb12).trans t12
    replace hbb12 := Nat.lt_of_lt_of_le hbb12 hb.size
    clear hb
    clear x0 x1 x2 y2 bk
    obtain ⟨x0, x1, x2, y2, bk⟩ := KX.out _ HD14.out
    -- HD14.out
    by_cases k2 : k = 2
    · have e3v : e3 = 1 := by rw [← HE3.out, if_pos (.inl k2)]
      have e4v : e4 = 0 := by rw [← HE4.out, if_neg (by omega)]
      subst e3v e4v k2
      go_wp2
      go_ret
      exact ⟨ret_bool (by first | rfl | simp | (simp; omega)), HWD.out.trans (HD14.out.mono HWD.out.size)⟩
    · by_cases k3 : k = 3
      · have e3v : e3 = 1 := by rw [← HE3.out, if_pos (.inr k3)]
        have e4v : e4 = 0 := by rw [← HE4.out, if_neg (by omega)]
        subst e3v e4v k3
        go_wp2
        go_ret
        exact ⟨ret_bool (by first | rfl | simp | (simp; omega)), HWD.out.trans (HD14.out.mono HWD.out.size)⟩
      · have e3v : e3 = 0 := by rw [← HE3.out, if_neg (by omega)]
        have q2 : (k == 2) = false := by simp [k2]
        have q3 : (k == 3) = false := by simp [k3]
        have i5 : (e4 : Int) ≤ 1 := by omega
        subst e3v
        clear k2 k3
        go_wp2
        go_ret
        exact ⟨ret_bool (by first | rfl | simp | (simp; omega)), HWD.out.trans (HD14.out.mono HWD.out.size)⟩
  · have e1v : e1 = 0 := by rw [← HE1v.out, if_neg h0]
    subst e1v
    go_wp2_with fail
    refine (HA4.out _ HD11.out).mono ?_; rintro e w12 ⟨hb, v, rfl, hown⟩
    have HD12 : Hid (Below wD.heap.size wD w12) := Lib.hid (HD11.out.trans (hb.mono HD11.out.size))
    obtain ⟨a12, c12, hv12, hsrc12⟩ := ownS_src hown
    have hv12 : v = .slice a12 1 c12 := hv12
    subst hv12
    obtain ⟨b12, o12, rfl, hbb12, t12⟩ := hsrc12.at_ 0 (by decide)
    replace t12 : w12.cell? ⟨b12, o12, none⟩ = some (.string ⟨#[110, 111, 115, 110, 105, 102, 102]⟩) := t12
    clear hsrc12 hown
    clear hb
    clear x0 x1 x2 y2 bk
    obtain ⟨x0, x1, x2, y2, bk⟩ := KX.out _ HD12.out
    -- HD12.out
    go_wp2_with fail
    refine (HN3.out _ HD12.out).mono ?_; rintro e w13 ⟨rfl, hb⟩
    have HD13 : Hid (Below wD.heap.size wD w13) := Lib.hid (HD12.out.trans (hb.mono HD12.out.size))
    replace t12 := (hb.cell (p := ⟨b12, o12, none⟩) hbb12).trans t12
    replace hbb12 := Nat.lt_of_lt_of_le hbb12 hb.size
    clear hb
    clear x0 x1 x2 y2 bk
    obtain ⟨x0, x1, x2, y2, bk⟩ := KX.out _ HD13.out
    -- HD13.out
    go_wp2_with fail
    refine (HN4.out _ HD13.out).mono ?_; rintro e w14 ⟨rfl, hb⟩
    have HD14 : Hid (Below wD.heap.size wD w14) := Lib.hid (HD13.out.trans (hb.mono HD13.out.size))
    replace t12 := (hb.cell (p := ⟨b12, o12, none⟩) hbb12).trans t12
    replace hbb12 := Nat.lt_of_lt_of_le hbb12 hb.size
    clear hb
    clear x0 x1 x2 y2 bk
    obtain ⟨x0, x1, x2, y2, bk⟩ := KX.out _ HD14.out
    -- HD14.out
    by_cases k2 : k = 2
    · have e3v : e3 = 1 := by rw [← HE3.out, if_pos (.inl k2)]
      have e4v : e4 = 0 := by rw [← HE4.out, if_neg (by omega)]
      subst e3v e4v k2
      go_wp2
      go_ret
      exact ⟨ret_bool (by first | rfl | simp | (simp; omega)), HWD.out.trans (HD14.out.mono HWD.out.size)⟩
    · by_cases k3 : k = 3
      · have e3v : e3 = 1 := by rw [← HE3.out, if_pos (.inr k3)]
        have e4v : e4 = 0 := by rw [← HE4.out, if_neg (by omega)]
        subst e3v e4v k3
        go_wp2
        go_ret
        exact ⟨ret_bool (by first | rfl | simp | (simp; omega)), HWD.out.trans (HD14.out.mono HWD.out.size)⟩
      · have e3v : e3 = 0 := by rw [← HE3.out, if_neg (by omega)]
        have q2 : (k == 2) = false := by simp [k2]
        have q3 : (k == 3) = false := by simp [k3]
        have i5 : (e4 : Int) ≤ 1 := by omega
        subst e3v
        clear k2 k3
        go_wp2
        go_ret
        exact ⟨ret_bool (by first | rfl | simp | (simp; omega)), HWD.out.trans (HD14.out.mono HWD.out.size)⟩
end
open Go.ChangeShapes Go.WideShapes Go.ChangeAt Go.RowKit

set_option maxRecDepth 100000 in
theorem body_in {H : Type} {enc : TypeId × Value → H} {W : World} {r : Reach} {b0 : Nat} {v : Value} {d : DataW H} {p : List MemPlace} (hv : Value.okWide Tryd.prog W r b0 62 v) (h : DataW.Trod enc Tryd.prog W 0 (fun _ => true) true 62 v d p) :
    ∃ (k L : Int), v = .agg #[.int .i64 k, .int .i64 L] ∧ L ≤ 9223372036854775807 := by
  obtain ⟨v0, v1, y0, y1, n, rfl, rfl, _, h0, h1⟩ := Go.Joins.open_agg2 Tryd.underlying62 (by kernel_rfl) (by kernel_rfl) hv h
  obtain ⟨k, e0, x0, _⟩ := DataW.trod_int Tryd.underlying3 h0
  obtain ⟨L, e1, x1, w1⟩ := DataW.trod_int Tryd.underlying2 h1
  simp only [List.cons.injEq, and_true] at e0 e1
  subst e0 e1
  exact ⟨k, L, rfl, (bounds_i64 w1).2⟩

set_option maxRecDepth 100000 in
theorem hardenPages_lifted (os : Os) (started : os.Started) (H : Type) (enc : TypeId × Value → H) (F : Stop.Interp) :
    ReturnsInHanded {} Tryd.checked os 8 .any (fun w args => ((Rows.OpenSpec.upto Rows.hardenPagesSpec).pre enc Tryd.checked.prog Tryd.f8 [] false w args ∧ Lies5 w) ∧ sizedMet enc Tryd.checked.prog Tryd.f8 (Rows.OpenSpec.upto Rows.hardenPagesSpec) false w args)
      (((Rows.OpenSpec.upto Rows.hardenPagesSpec).at F).post enc Tryd.checked.prog Tryd.f8 false true false false) := by
  refine upto_frame5 started (by kernel_rfl) Tryd.func8 #[.agg #[.int .i64 0, .string ⟨#[]⟩, .slice none 0 0], .int .i64 0, .agg #[.int .i64 0, .int .i64 0], .bool false] 8 (World.shaped_of_ZipB (by kernel_rfl) (by kernel_rfl)) (by kernel_rfl) (x := ([.agg [.lit (.int .i64 0), .lit (.string []), .nil], .lit (.int .i64 0), .agg [.lit (.int .i64 0), .lit (.int .i64 0)], .lit (.bool false)], [], [])) (by kernel_rfl) (by kernel_rfl) (by kernel_rfl) ?_
  intro W base args ds gs before hval0 hW hk hlaid
  have hval : ∀ (j : Nat) t v, Tryd.f8.params[j]? = some t → args[j]? = some v → Value.okWide Tryd.prog W .any base t v := hval0
  have hW' := hW
  obtain ⟨p, q, hA0, hV, rfl, hfz, hnd⟩ := hW
  have hA : DataW.TrodAll enc Tryd.prog W 0 (fun _ => true) true Tryd.f8.params.toList args.toList ds p := hA0
  rw [Tryd.params8] at hA hval
  obtain ⟨v0, v1, v2, v3, d0, d1, d2, d3, p0, p1, p2, p3, rfl, rfl, rfl, h0, h1, h2, h3⟩ := trodAll_four hA
  obtain ⟨rfl, rfl⟩ := trodVars_none hV
  have b0 : Rows.uptoBulk d0 ≤ 1048576 := small_of hk (by simp)
  have k0 := h0
  have k1 := h1
  have k2 := h2
  have k3 := h3
  have lt0 : ∀ x ∈ p0, x.block < W.heap.size := by obtain ⟨m, hm⟩ := k0; exact DataW.trod_lt m _ _ _ hm
  have lt1 : ∀ x ∈ p1, x.block < W.heap.size := by obtain ⟨m, hm⟩ := k1; exact DataW.trod_lt m _ _ _ hm
  have lt2 : ∀ x ∈ p2, x.block < W.heap.size := by obtain ⟨m, hm⟩ := k2; exact DataW.trod_lt m _ _ _ hm
  have lt3 : ∀ x ∈ p3, x.block < W.heap.size := by obtain ⟨m, hm⟩ := k3; exact DataW.trod_lt m _ _ _ hm
  obtain ⟨t0, r0, a0, c0, l0, rfl, s0, z0⟩ := resp_in (hval 0 39 v0 rfl rfl) h0 b0
  obtain ⟨a1, rfl, rfl, rfl, w1⟩ := open_int Tryd.underlying3 (hval 1 3 v1 rfl rfl) h1
  obtain ⟨a2, b2, rfl, w2⟩ := body_in (hval 2 62 v2 rfl rfl) h2
  obtain ⟨a3, rfl⟩ := okWide_bool Tryd.underlying4 (hval 3 4 v3 rfl rfl)
  clear hA0 hval0
  refine (hardenPages_any t0 r0 a1 a2 b2 a3 l0 a0 l0.length c0 W rfl s0 (by omega) (bounds_i64 w1).2 w2 (tabP_of_laid hlaid)).mono fun e W' ⟨he, bel⟩ => ?_
  subst he
  exact ⟨_, rfl, _, _, _, [], _, [], hW', trodAll_mk1 (shut_bool Tryd.underlying4 _), (trodAll_cons_mk (Below.trod laidOut (by kernel_rfl) (of_decide_eq_true (by kernel_rfl)) k0 bel lt0) (trodAll_cons_mk (Below.trod laidOut (by kernel_rfl) (of_decide_eq_true (by kernel_rfl)) k1 bel lt1) (trodAll_cons_mk (Below.trod laidOut (by kernel_rfl) (of_decide_eq_true (by kernel_rfl)) k2 bel lt2) (trodAll_cons_mk (Below.trod laidOut (by kernel_rfl) (of_decide_eq_true (by kernel_rfl)) k3 bel lt3) trodAll_mk0)))), rfl, bel.frame _, fun h => by cases h⟩

theorem hardenPages_holds : Rows.HardenPagesUptoSaid :=
  OpenClaim.holds_of_cond 8 Tryd.f8 rfl rfl rfl rfl rfl rfl rfl ⟨rfl, rfl, rfl, rfl, rfl⟩ rfl rfl rfl rfl rfl (by kernel_rfl) Tryd.func8 (by kernel_rfl)
    (of_decide_eq_true (by kernel_rfl)) (by unfold Func.isWrapper; first | (rw [if_pos (by decide +kernel)]; kernel_rfl) | (rw [if_neg (by decide +kernel)]; exact ⟨rfl, rfl⟩))
    (fun os started H enc _ F => hardenPages_lifted os started H enc F)

theorem hardenPages_card : Rows.HardenPagesUptoCardSaid :=
  Claim7.holds_tied_plain_at .later [] [.data, .data, .data, .data, .pinned] true (true, "cb3c5a5bf07fd853aa512299b82274128f965bd1a5621474bd9ef51926421413") true
    hardenPages_holds (fun _ h => by cases h) (by kernel_rfl) (fun _ h => by cases h) hardenPagesUpto_row_tie rfl ⟨rfl, rfl⟩ (by kernel_rfl) rfl
    (fun f fn hf hfn => by
      obtain rfl : f = 8 := Option.some.inj ((show Tryd.prog.funcNamed "colander/colanderlaw21.HardenPages" = some 8 by kernel_rfl).symm.trans hf) |>.symm
      obtain rfl : fn = Tryd.f8 := (Option.some.inj (Tryd.func8.symm.trans hfn)).symm
      exact ⟨by kernel_rfl, fun j t ht => by
        rw [Tryd.params8] at ht
        have hm : t ∈ [39, 3, 62, 4] := by simpa using Array.mem_of_getElem? ht
        have hall : ([39, 3, 62, 4].all fun u => !Tryd.prog.wantsStandIn u) = true := by kernel_rfl
        exact (show Tryd.prog.wantsStandIn t = false by simpa using List.all_eq_true.1 hall t hm)⟩)
    (by kernel_rfl)
end Go.Proofs.YthkgaaibhjkngaaDoor
