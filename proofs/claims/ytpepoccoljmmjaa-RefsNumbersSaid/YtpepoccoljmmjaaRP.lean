/- The document's table of names. -/
import Derived.Test.YtpepoccoljmmjaaRJ
import Derived.Great.BuildSlice
set_option linter.unusedVariables false
namespace Go.Proofs.Ytpepoccoljmmjaa
open Go.RowKit Go.Shelf

def isCharB (n : Nat) : Bool := decide (n < 55296) || (decide (57344 ≤ n) && decide (n ≤ 1114111))
/-- a name, its characters' numbers, whether it may stand without its end -/
def tabR : List (Bs × Nat × Nat × Bool) := [([97, 109, 112], 38, 0, true), ([65, 77, 80], 38, 0, true), ([108, 116], 60, 0, true), ([76, 84], 60, 0, true), ([103, 116], 62, 0, true), ([113, 117, 111, 116], 34, 0, true), ([110, 98, 115, 112], 160, 0, true), ([99, 111, 112, 121], 169, 0, true), ([114, 101, 103], 174, 0, true), ([110, 111, 116], 172, 0, true), ([112, 97, 114, 97], 182, 0, true), ([116, 105, 109, 101, 115], 215, 0, true), ([100, 105, 118, 105, 100, 101], 247, 0, true), ([101, 97, 99, 117, 116, 101], 233, 0, true), ([69, 84, 72], 208, 0, true), ([115, 122, 108, 105, 103], 223, 0, true), ([97, 112, 111, 115], 39, 0, false), ([110, 111, 116, 105, 110], 8713, 0, false), ([99, 111, 112, 121, 115, 114], 8471, 0, false), ([112, 97, 114, 97, 108, 108, 101, 108], 8741, 0, false), ([116, 105, 109, 101, 115, 98], 8864, 0, false), ([108, 116, 105, 109, 101, 115], 8905, 0, false), ([103, 116, 100, 111, 116], 8919, 0, false), ([104, 101, 108, 108, 105, 112], 8230, 0, false), ([110, 100, 97, 115, 104], 8211, 0, false), ([109, 100, 97, 115, 104], 8212, 0, false), ([108, 115, 113, 117, 111], 8216, 0, false), ([114, 115, 113, 117, 111], 8217, 0, false), ([108, 100, 113, 117, 111], 8220, 0, false), ([114, 100, 113, 117, 111], 8221, 0, false), ([101, 117, 114, 111], 8364, 0, false), ([116, 114, 97, 100, 101], 8482, 0, false), ([108, 97, 114, 114], 8592, 0, false), ([114, 97, 114, 114], 8594, 0, false), ([84, 97, 98], 9, 0, false), ([78, 101, 119, 76, 105, 110, 101], 10, 0, false), ([99, 111, 108, 111, 110], 58, 0, false), ([115, 111, 108], 47, 0, false), ([113, 117, 101, 115, 116], 63, 0, false), ([108, 112, 97, 114], 40, 0, false), ([122, 119, 106], 8205, 0, false), ([78, 111, 116, 69, 113, 117, 97, 108, 84, 105, 108, 100, 101], 8770, 824, false), ([84, 104, 105, 99, 107, 83, 112, 97, 99, 101], 8287, 8202, false), ([110, 118, 108, 116], 60, 8402, false)]

theorem tabR_is : tabN = tabR.map fun x => (x.1, enc x.2.1 ++ (if 0 < x.2.2.1 then enc x.2.2.1 else []), x.2.2.2) := by decide +kernel
theorem tabR_len : tabR.length = 44 := rfl
theorem tabR_ok : ∀ x ∈ tabR, isCharB x.2.1 = true ∧ isCharB x.2.2.1 = true ∧ x.1.length ≤ 13 := by decide +kernel
def rowCells (x : Bs × Nat × Nat × Bool) : List Value := [.string (bs x.1), .int .i64 (x.2.1 : Nat), .int .i64 (x.2.2.1 : Nat), .bool x.2.2.2]
def tabCells : Array Value := (tabR.flatMap rowCells).toArray
theorem flat_at {α : Type} (f : α → List Value) (hf : ∀ x, (f x).length = 4) : ∀ (l : List α) (j k : Nat) (hj : j < l.length) (hk : k < 4), (l.flatMap f)[4 * j + k]? = (f l[j])[k]?
  | [], j, k, hj, _ => by simp at hj
  | x :: l, 0, k, _, hk => by
    rw [List.flatMap_cons, List.getElem?_append_left (by rw [hf]; omega)]; simp
  | x :: l, j + 1, k, hj, hk => by
    rw [List.flatMap_cons, List.getElem?_append_right (by rw [hf]; omega), hf, show 4 * (j + 1) + k - 4 = 4 * j + k by omega]
    exact flat_at f hf l j k (by simpa using hj) hk
theorem tab_at (w : World) (j k : Nat) (hj : j < 44) (hk : k < 4) : (w.alloc (.cells tabCells 44)).cell? ⟨w.heap.size, 4 * j + k, none⟩ = (rowCells (tabR[j]'hj))[k]? := by
  have hb : (w.alloc (.cells tabCells 44)).heap[w.heap.size]? = some (.cells tabCells 44 (0, 0)) := by
    show (w.heap.push _)[w.heap.size]? = _; simp
  rw [Lib.cell_of_heap hb]
  unfold tabCells
  rw [List.getElem?_toArray]
  exact flat_at rowCells (fun _ => rfl) tabR j k hj hk

theorem infoNm : (Try.prog.info? 44).map (fun i => (i.zero, i.size, i.bytes)) = some (some (.agg #[.string ⟨#[]⟩, .int .i64 0, .int .i64 0, .bool false]), 4, 40) := by kernel_rfl
set_option maxRecDepth 1000000 in
set_option maxHeartbeats 20000000 in
theorem names_any (w : World) : Calls Try.prog 30 #[] w fun e w' => e = .returned (.slice (some ⟨w.heap.size, 0, none⟩) 44 44) ∧ w' = w.alloc (.cells tabCells 44) := by
  obtain ⟨i0, hi, hz0, hz1, hz2⟩ := info_parts infoNm
  obtain ⟨TC, hTC⟩ : ∃ TC, TC = tabCells := ⟨_, rfl⟩
  rw [← hTC]
  go_enter Try.func30, Try.ntmps30
  go_upto_region 1 with (fail)
  apply wp_region_lit
  refine wpList_buildTo rfl 44 _ rfl (some 1) rfl #[.string ⟨#[97, 109, 112]⟩, .int .i64 38, .int .i64 0, .bool true] (by kernel_rfl) ?_
  refine wpList_buildTo rfl 44 _ rfl (some 2) rfl #[.string ⟨#[65, 77, 80]⟩, .int .i64 38, .int .i64 0, .bool true] (by kernel_rfl) ?_
  refine wpList_buildTo rfl 44 _ rfl (some 3) rfl #[.string ⟨#[108, 116]⟩, .int .i64 60, .int .i64 0, .bool true] (by kernel_rfl) ?_
  refine wpList_buildTo rfl 44 _ rfl (some 4) rfl #[.string ⟨#[76, 84]⟩, .int .i64 60, .int .i64 0, .bool true] (by kernel_rfl) ?_
  refine wpList_buildTo rfl 44 _ rfl (some 5) rfl #[.string ⟨#[103, 116]⟩, .int .i64 62, .int .i64 0, .bool true] (by kernel_rfl) ?_
  refine wpList_buildTo rfl 44 _ rfl (some 6) rfl #[.string ⟨#[113, 117, 111, 116]⟩, .int .i64 34, .int .i64 0, .bool true] (by kernel_rfl) ?_
  refine wpList_buildTo rfl 44 _ rfl (some 7) rfl #[.string ⟨#[110, 98, 115, 112]⟩, .int .i64 160, .int .i64 0, .bool true] (by kernel_rfl) ?_
  refine wpList_buildTo rfl 44 _ rfl (some 8) rfl #[.string ⟨#[99, 111, 112, 121]⟩, .int .i64 169, .int .i64 0, .bool true] (by kernel_rfl) ?_
  refine wpList_buildTo rfl 44 _ rfl (some 9) rfl #[.string ⟨#[114, 101, 103]⟩, .int .i64 174, .int .i64 0, .bool true] (by kernel_rfl) ?_
  refine wpList_buildTo rfl 44 _ rfl (some 10) rfl #[.string ⟨#[110, 111, 116]⟩, .int .i64 172, .int .i64 0, .bool true] (by kernel_rfl) ?_
  refine wpList_buildTo rfl 44 _ rfl (some 11) rfl #[.string ⟨#[112, 97, 114, 97]⟩, .int .i64 182, .int .i64 0, .bool true] (by kernel_rfl) ?_
  refine wpList_buildTo rfl 44 _ rfl (some 12) rfl #[.string ⟨#[116, 105, 109, 101, 115]⟩, .int .i64 215, .int .i64 0, .bool true] (by kernel_rfl) ?_
  refine wpList_buildTo rfl 44 _ rfl (some 13) rfl #[.string ⟨#[100, 105, 118, 105, 100, 101]⟩, .int .i64 247, .int .i64 0, .bool true] (by kernel_rfl) ?_
  refine wpList_buildTo rfl 44 _ rfl (some 14) rfl #[.string ⟨#[101, 97, 99, 117, 116, 101]⟩, .int .i64 233, .int .i64 0, .bool true] (by kernel_rfl) ?_
  refine wpList_buildTo rfl 44 _ rfl (some 15) rfl #[.string ⟨#[69, 84, 72]⟩, .int .i64 208, .int .i64 0, .bool true] (by kernel_rfl) ?_
  refine wpList_buildTo rfl 44 _ rfl (some 16) rfl #[.string ⟨#[115, 122, 108, 105, 103]⟩, .int .i64 223, .int .i64 0, .bool true] (by kernel_rfl) ?_
  refine wpList_buildTo rfl 44 _ rfl (some 17) rfl #[.string ⟨#[97, 112, 111, 115]⟩, .int .i64 39, .int .i64 0, .bool false] (by kernel_rfl) ?_
  refine wpList_buildTo rfl 44 _ rfl (some 18) rfl #[.string ⟨#[110, 111, 116, 105, 110]⟩, .int .i64 8713, .int .i64 0, .bool false] (by kernel_rfl) ?_
  refine wpList_buildTo rfl 44 _ rfl (some 19) rfl #[.string ⟨#[99, 111, 112, 121, 115, 114]⟩, .int .i64 8471, .int .i64 0, .bool false] (by kernel_rfl) ?_
  refine wpList_buildTo rfl 44 _ rfl (some 20) rfl #[.string ⟨#[112, 97, 114, 97, 108, 108, 101, 108]⟩, .int .i64 8741, .int .i64 0, .bool false] (by kernel_rfl) ?_
  refine wpList_buildTo rfl 44 _ rfl (some 21) rfl #[.string ⟨#[116, 105, 109, 101, 115, 98]⟩, .int .i64 8864, .int .i64 0, .bool false] (by kernel_rfl) ?_
  refine wpList_buildTo rfl 44 _ rfl (some 22) rfl #[.string ⟨#[108, 116, 105, 109, 101, 115]⟩, .int .i64 8905, .int .i64 0, .bool false] (by kernel_rfl) ?_
  refine wpList_buildTo rfl 44 _ rfl (some 23) rfl #[.string ⟨#[103, 116, 100, 111, 116]⟩, .int .i64 8919, .int .i64 0, .bool false] (by kernel_rfl) ?_
  refine wpList_buildTo rfl 44 _ rfl (some 24) rfl #[.string ⟨#[104, 101, 108, 108, 105, 112]⟩, .int .i64 8230, .int .i64 0, .bool false] (by kernel_rfl) ?_
  refine wpList_buildTo rfl 44 _ rfl (some 25) rfl #[.string ⟨#[110, 100, 97, 115, 104]⟩, .int .i64 8211, .int .i64 0, .bool false] (by kernel_rfl) ?_
  refine wpList_buildTo rfl 44 _ rfl (some 26) rfl #[.string ⟨#[109, 100, 97, 115, 104]⟩, .int .i64 8212, .int .i64 0, .bool false] (by kernel_rfl) ?_
  refine wpList_buildTo rfl 44 _ rfl (some 27) rfl #[.string ⟨#[108, 115, 113, 117, 111]⟩, .int .i64 8216, .int .i64 0, .bool false] (by kernel_rfl) ?_
  refine wpList_buildTo rfl 44 _ rfl (some 28) rfl #[.string ⟨#[114, 115, 113, 117, 111]⟩, .int .i64 8217, .int .i64 0, .bool false] (by kernel_rfl) ?_
  refine wpList_buildTo rfl 44 _ rfl (some 29) rfl #[.string ⟨#[108, 100, 113, 117, 111]⟩, .int .i64 8220, .int .i64 0, .bool false] (by kernel_rfl) ?_
  refine wpList_buildTo rfl 44 _ rfl (some 30) rfl #[.string ⟨#[114, 100, 113, 117, 111]⟩, .int .i64 8221, .int .i64 0, .bool false] (by kernel_rfl) ?_
  refine wpList_buildTo rfl 44 _ rfl (some 31) rfl #[.string ⟨#[101, 117, 114, 111]⟩, .int .i64 8364, .int .i64 0, .bool false] (by kernel_rfl) ?_
  refine wpList_buildTo rfl 44 _ rfl (some 32) rfl #[.string ⟨#[116, 114, 97, 100, 101]⟩, .int .i64 8482, .int .i64 0, .bool false] (by kernel_rfl) ?_
  refine wpList_buildTo rfl 44 _ rfl (some 33) rfl #[.string ⟨#[108, 97, 114, 114]⟩, .int .i64 8592, .int .i64 0, .bool false] (by kernel_rfl) ?_
  refine wpList_buildTo rfl 44 _ rfl (some 34) rfl #[.string ⟨#[114, 97, 114, 114]⟩, .int .i64 8594, .int .i64 0, .bool false] (by kernel_rfl) ?_
  refine wpList_buildTo rfl 44 _ rfl (some 35) rfl #[.string ⟨#[84, 97, 98]⟩, .int .i64 9, .int .i64 0, .bool false] (by kernel_rfl) ?_
  refine wpList_buildTo rfl 44 _ rfl (some 36) rfl #[.string ⟨#[78, 101, 119, 76, 105, 110, 101]⟩, .int .i64 10, .int .i64 0, .bool false] (by kernel_rfl) ?_
  refine wpList_buildTo rfl 44 _ rfl (some 37) rfl #[.string ⟨#[99, 111, 108, 111, 110]⟩, .int .i64 58, .int .i64 0, .bool false] (by kernel_rfl) ?_
  refine wpList_buildTo rfl 44 _ rfl (some 38) rfl #[.string ⟨#[115, 111, 108]⟩, .int .i64 47, .int .i64 0, .bool false] (by kernel_rfl) ?_
  refine wpList_buildTo rfl 44 _ rfl (some 39) rfl #[.string ⟨#[113, 117, 101, 115, 116]⟩, .int .i64 63, .int .i64 0, .bool false] (by kernel_rfl) ?_
  refine wpList_buildTo rfl 44 _ rfl (some 40) rfl #[.string ⟨#[108, 112, 97, 114]⟩, .int .i64 40, .int .i64 0, .bool false] (by kernel_rfl) ?_
  refine wpList_buildTo rfl 44 _ rfl (some 41) rfl #[.string ⟨#[122, 119, 106]⟩, .int .i64 8205, .int .i64 0, .bool false] (by kernel_rfl) ?_
  refine wpList_buildTo rfl 44 _ rfl (some 42) rfl #[.string ⟨#[78, 111, 116, 69, 113, 117, 97, 108, 84, 105, 108, 100, 101]⟩, .int .i64 8770, .int .i64 824, .bool false] (by kernel_rfl) ?_
  refine wpList_buildTo rfl 44 _ rfl (some 43) rfl #[.string ⟨#[84, 104, 105, 99, 107, 83, 112, 97, 99, 101]⟩, .int .i64 8287, .int .i64 8202, .bool false] (by kernel_rfl) ?_
  refine wpList_buildTo rfl 44 _ rfl (some 44) rfl #[.string ⟨#[110, 118, 108, 116]⟩, .int .i64 60, .int .i64 8402, .bool false] (by kernel_rfl) ?_
  refine wpList_buildSlice rfl 41 44 44 _ rfl TC i0 (.agg #[.string ⟨#[]⟩, .int .i64 0, .int .i64 0, .bool false]) Try.underlying41 hi hz0 (by rw [hz1]; decide) (by rw [hz1]; decide) (by rw [hz1, hTC]; kernel_rfl) ?_
  clear hi hz0 hz1 hz2 hTC
  go_wp2
  go_ret
  exact ⟨rfl, rfl⟩

end Go.Proofs.Ytpepoccoljmmjaa
