/- Harden: the charset; what kind a response is. -/
import Derived.Test.YthkgaaibhjkngaaGreatDoorHD
set_option linter.unusedVariables false
namespace Go.Proofs.YthkgaaibhjkngaaGreatDoor
open Go.RowKit

/-- the first charset -/
def chs (ps : AL) : ByteArray := match ps.find? (fun p => p.1.toList == [99, 104, 97, 114, 115, 101, 116]) with
  | some p => p.2
  | none => ⟨#[]⟩
theorem chs_none (ps : AL) (h : ∀ j (hj : j < ps.length), (ps[j].1.toList == [99, 104, 97, 114, 115, 101, 116]) = false) : chs ps = ⟨#[]⟩ := by
  unfold chs
  rw [List.find?_eq_none.2 (fun x hx => by obtain ⟨j, hj, rfl⟩ := List.getElem_of_mem hx; rw [h j hj]; simp)]
theorem chs_at (ps : AL) (k : Nat) (hk : k < ps.length) (h : ∀ j (hj : j < k), ((ps[j]'(by omega)).1.toList == [99, 104, 97, 114, 115, 101, 116]) = false) (ht : (ps[k].1.toList == [99, 104, 97, 114, 115, 101, 116]) = true) : chs ps = ps[k].2 := by
  unfold chs
  have : ps.find? (fun p => p.1.toList == [99, 104, 97, 114, 115, 101, 116]) = some ps[k] := by
    rw [List.find?_eq_some_iff_getElem]
    exact ⟨ht, k, hk, rfl, fun j hj => by rw [h j hj]; rfl⟩
  rw [this]
theorem ownA_len {w : World} {base : Nat} {v : Value} {l : AL} (h : OwnA w base v l) : l.length ≤ 9223372036854775807 := by
  rcases h.2 with ⟨rfl, h0⟩ | ⟨g, cap, cur, rfl, hb, hg, h1, h2, h3, h4⟩
  · omega
  · unfold maxLen at h2; omega

set_option maxHeartbeats 4000000 in
theorem charset_any (A B : ByteArray) (ps : AL) (a : Option Addr) (n c : Nat) (w : World) (hn : ps.length = n) (hs : SrcA w a c ps) (hz : n ≤ 9223372036854775807) :
    Calls Tryz.prog 97 #[.agg #[.string A, .string B, .slice a n c]] w fun e w' => e = .returned (.string (chs ps)) ∧ Below w.heap.size w w' := by
  have hno := chs_none ps
  have hat := chs_at ps
  obtain ⟨R, hR⟩ : ∃ R, chs ps = R := ⟨_, rfl⟩
  rw [hR] at hno hat ⊢
  have HNO := Lib.hid hno
  have HAT := Lib.hid hat
  have HS := Lib.hid hs
  have HN := Lib.hid hn
  clear hno hat hR hs hn
  go_enter Tryz.func97, Tryz.ntmps97
  go_wp2_with fail
  go_loopw [8] (fun i wr => ∃ k : Nat, k ≤ n ∧ i = .int .i64 k ∧ (∀ j (hj : j < ps.length), j < k → (ps[j].1.toList == [99, 104, 97, 114, 115, 101, 116]) = false) ∧ Below w.heap.size w wr) (fun i _ => n - (intOf i).toNat)
  case atStart => exact ⟨0, by omega, rfl, fun j _ h => by omega, (Below.refl _ _).alloc (Nat.le_refl _) _⟩
  case round =>
    obtain ⟨k, hk, rfl, hall, hb⟩ := hrel
    have HB := Lib.hid hb
    by_cases hlt : k < n
    · have hkl : k < ps.length := by rw [HN.out]; exact hlt
      obtain ⟨b0, o0, rfl, hb0, d1, d2⟩ := srcA_at HS.out k hkl hb
      have hin : (ps[k].1.toList == [99, 104, 97, 114, 115, 101, 116]) = true → R = ps[k].2 := fun ht => HAT.out k hkl (fun j hj => hall j (by omega) hj) ht
      have hnx : (ps[k].1.toList == [99, 104, 97, 114, 115, 101, 116]) = false → ∀ j (hj : j < ps.length), j < k + 1 → (ps[j].1.toList == [99, 104, 97, 114, 115, 101, 116]) = false := fun hf j hj h => by
        by_cases e : j = k
        · subst e; exact hf
        · exact hall j hj (by omega)
      generalize ps[k] = p at d1 d2 hin hnx
      obtain ⟨Nm, Vl⟩ := p
      simp only at d1 d2 hin hnx
      have HI := Lib.hid hin
      have HX := Lib.hid hnx
      clear hin hnx hall hb
      cases q : (Nm.toList == [99, 104, 97, 114, 115, 101, 116]) with
      | true =>
        have HV := Lib.hid (HI.out q)
        clear HX HI
        go_wp2
        go_ret
        exact ⟨ret_str HV.out.symm, HB.out.alloc HB.out.size _⟩
      | false =>
        have HV := Lib.hid (HX.out q)
        clear HX HI
        go_wp2
        go_roundw
        case rel => exact ⟨k + 1, by omega, by go_num, HV.out, HB.out.alloc HB.out.size _⟩
        case measure => simp [intOf]; omega
    · have hk2 : k = n := by omega
      have HV := Lib.hid (HNO.out (fun j hj => hall j hj (by have := HN.out; omega)))
      clear hb hall
      go_wp2
      go_ret
      exact ⟨ret_str HV.out.symm, HB.out⟩

def sfx (l : List UInt8) : Bool := Lib.hasSuffix l [43, 120, 109, 108]
theorem hasSuffix_any (X : ByteArray) (w : World) (hs : X.size ≤ 9223372036854775807) :
    Calls Tryz.prog 95 #[.string X, .string ⟨#[43, 120, 109, 108]⟩] w fun e w' => e = .returned (.bool (sfx X.data.toList)) ∧ w = w' :=
  (Any.strings_HasSuffix Tryz.lays100 X ⟨#[43, 120, 109, 108]⟩ w hs).mono fun e w' h => ⟨h.1, h.2.symm⟩
end Go.Proofs.YthkgaaibhjkngaaGreatDoor
