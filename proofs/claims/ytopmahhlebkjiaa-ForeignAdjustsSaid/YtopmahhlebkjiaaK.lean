/- The document's small letters. -/
import Derived.Test.YtopmahhlebkjiaaJ
import Derived.Lib.ItoaMem
namespace Go.Proofs.Ytopmahhlebkjiaa
open Go.RowKit

theorem small_any (c : UInt8) (w : World) :
    Calls Try.prog 27 #[.int .u8 c.toNat] w fun e w' => e = .returned (.int .u8 (low c).toNat) ∧ w = w' := by
  have h255 : (c.toNat : Int) ≤ 255 := by have := c.toNat_lt; omega
  obtain ⟨x, hx⟩ : ∃ x : Int, x = (c.toNat : Int) := ⟨_, rfl⟩
  have h0 : 0 ≤ x := by omega
  rw [← hx] at h255 ⊢
  by_cases h1 : 65 ≤ x
  · by_cases h2 : x ≤ 90
    · have hv : Hid (((low c).toNat : Int) = x - 65 + 97) := Lib.hid (by unfold low; rw [if_pos (by omega), UInt8.toNat_ofNat']; omega)
      clear hx
      go_enter Try.func27, Try.ntmps27
      go_wp2
      go_ret
      exact ⟨ret_int hv.out.symm, rfl⟩
    · have hv : Hid (((low c).toNat : Int) = x) := Lib.hid (by unfold low; rw [if_neg (by omega)]; exact hx.symm)
      clear hx
      go_enter Try.func27, Try.ntmps27
      go_wp2
      go_ret
      exact ⟨ret_int hv.out.symm, rfl⟩
  · have hv : Hid (((low c).toNat : Int) = x) := Lib.hid (by unfold low; rw [if_neg (by omega)]; exact hx.symm)
    clear hx
    go_enter Try.func27, Try.ntmps27
    go_wp2
    go_ret
    exact ⟨ret_int hv.out.symm, rfl⟩

set_option maxHeartbeats 1000000 in
theorem reflower_any (s : ByteArray) (w : World) (hs : s.size ≤ 9223372036854775807) :
    Calls Try.prog 20 #[.string s] w fun e w' => e = .returned (.string ⟨(s.data.toList.map low).toArray⟩) ∧ Below w.heap.size w w' := by
  obtain ⟨L, hL⟩ : ∃ L, L = s.data.toList := ⟨_, rfl⟩
  have hLl : L.length = s.size := by rw [hL]; simp
  have hcv := run_bytes_of_string (P := Try.prog) w 9 41 5 s Try.underlying9 Try.underlying41 Try.underlying5
  have hrow := BRow.start w s (grownCap w s.size 0 5)
  have hbel : Below w.heap.size w (w.drew.alloc (.cells (bytesRow s (grownCap w s.size 0 5)) 5 ((bytesRow s (grownCap w s.size 0 5)).size, (bytesRow s (grownCap w s.size 0 5)).size + 1))) := ((Below.refl _ _).drew).alloc (Nat.le_refl _) _
  have hsz : w.heap.size < (w.drew.alloc (.cells (bytesRow s (grownCap w s.size 0 5)) 5 ((bytesRow s (grownCap w s.size 0 5)).size, (bytesRow s (grownCap w s.size 0 5)).size + 1))).heap.size := by simp
  generalize w.drew.alloc (.cells (bytesRow s (grownCap w s.size 0 5)) 5 ((bytesRow s (grownCap w s.size 0 5)).size, (bytesRow s (grownCap w s.size 0 5)).size + 1)) = W3 at hcv hrow hbel hsz
  generalize grownCap w s.size 0 5 = cap at hcv
  have hBs : w.heap.size ≤ w.heap.size := Nat.le_refl _
  rw [← hL] at hrow
  rw [← hLl] at hcv
  rw [← hL]
  obtain ⟨B, hB⟩ : ∃ B, B = w.heap.size := ⟨_, rfl⟩
  rw [← hB] at hcv hrow
  have hBs : w.heap.size ≤ B := by omega
  have hLb : L.length ≤ 9223372036854775807 := by omega
  have HR := Lib.hid hrow
  have B3 := Lib.hid hbel
  clear hrow hbel hB hL hLl hsz
  go_enter Try.func20, Try.ntmps20
  go_wp2
  clear hcv
  go_loopw [4] (fun i wr => ∃ (j : Nat), j ≤ L.length ∧ i = .int .i64 j ∧ BRow B wr (upTo L j) ∧ Below w.heap.size w wr) (fun i _ => L.length - (intOf i).toNat)
  case atStart => exact ⟨0, by omega, rfl, by have := HR.out; simpa [upTo] using this, B3.out⟩
  case round =>
    obtain ⟨j, hj, rfl, hR, hb⟩ := hrel
    by_cases hlt : j < L.length
    · obtain ⟨c, hc⟩ : ∃ c, c = L[j] := ⟨_, rfl⟩
      have hjU : j < (upTo L j).length := by rw [upTo_len]; exact hlt
      have hcell := (hR j hjU).1
      have hfrz := (hR j hjU).2
      rw [upTo_at L j hlt, ← hc] at hcell
      have hstep := upTo_step L j hlt
      rw [← hc] at hstep
      obtain ⟨x, hx⟩ : ∃ x : Int, x = (c.toNat : Int) := ⟨_, rfl⟩
      have hx0 : 0 ≤ x := by omega
      have hx1 : x ≤ 255 := by have := c.toNat_lt; omega
      rw [← hx] at hcell
      have hsm : ∀ w, Calls Try.prog 27 #[.int .u8 x] w fun e w' => e = .returned (.int .u8 (low c).toNat) ∧ w = w' := fun w => by rw [hx]; exact small_any c w
      have hset : BRow B (wr.setCell ⟨B, j, none⟩ (.int .u8 (low c).toNat)) (upTo L (j + 1)) := by
        rw [hstep]; exact hR.set j hjU (low c)
      have hbs : Below w.heap.size w (wr.setCell ⟨B, j, none⟩ (.int .u8 (low c).toNat)) := hb.setCell (p := ⟨B, j, none⟩) hBs _
      obtain ⟨y, hy⟩ : ∃ y : Int, y = ((low c).toNat : Int) := ⟨_, rfl⟩
      rw [← hy] at hsm hset hbs
      have K1 := Lib.hid hsm
      have K2 := Lib.hid hset
      have K3 := Lib.hid hbs
      clear hstep hsm hset hbs hR hb hc hx hy
      go_wp2_with (go_at_call 27; refine (K1.out _).mono ?_; rintro e w' ⟨rfl, rfl⟩)
      go_roundw
      case rel => exact ⟨j + 1, by omega, by go_num, K2.out, K3.out⟩
      case measure => simp [intOf]; omega
    · have hjl : j = L.length := by omega
      subst hjl
      rw [upTo_all] at hR
      have hconv := run_convert_bytes_back (P := Try.prog) wr 41 9 5 ⟨B, 0, none⟩ cap (L.map low) Try.underlying41 Try.underlying5 Try.underlying9 (fun i hi => by
        rw [Lib.add_plain, show 0 + i = i by omega]; exact (hR i hi).1)
      rw [List.length_map] at hconv
      have K7 := Lib.hid hb
      obtain ⟨U, hU⟩ : ∃ U, U = L.map low := ⟨_, rfl⟩
      rw [← hU] at hconv
      have HU := Lib.hid hU
      clear hR hb hlt hU
      go_wp2
      go_ret
      exact ⟨by first | rfl | (rw [HU.out]; rfl), K7.out⟩
end Go.Proofs.Ytopmahhlebkjiaa
