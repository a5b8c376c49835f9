/- The document's answer for a number's digits. -/
import Derived.Test.YthkgaaibhjkngaaGreatDoorHA
set_option linter.unusedVariables false
namespace Go.Proofs.YthkgaaibhjkngaaGreatDoor
open Go.RowKit

def hd (n : Nat) : UInt8 := if n < 10 then UInt8.ofNat (48 + n) else UInt8.ofNat (87 + n)
def digits16 : ByteArray := ⟨#[48, 49, 50, 51, 52, 53, 54, 55, 56, 57, 97, 98, 99, 100, 101, 102]⟩
theorem d16 {i : Nat} (h : i < 16) : i < digits16.size := h
theorem digits16_at : ∀ i : Fin 16, digits16[i.val]'(d16 i.isLt) = hd i.val := by decide +kernel
theorem digits16_hd (i : Nat) (h : i < 16) : digits16[i]'(d16 h) = hd i := digits16_at ⟨i, h⟩
theorem dec_hd (i : Nat) (h : i < 10) : UInt8.ofNat (48 + i) = hd i := by unfold hd; rw [if_pos h]
def decl (n : Nat) : List UInt8 := Lib.decDigits n
theorem decl_small (n : Nat) (h : n < 10) : decl n = [hd n] := by rw [decl, Lib.decDigits_one h, dec_hd n h]
theorem decl_big (n : Nat) (h : ¬ n < 10) : decl n = decl (n / 10) ++ [hd (n % 10)] := by
  rw [decl, Lib.decDigits, dif_neg h, dec_hd _ (by omega)]; rfl
theorem conv_one (W : World) (x : UInt8) : (convert 45 9 (.slice (some ⟨W.heap.size, 0, none⟩) 1 1)).run Tryz.prog (W.alloc (.cells #[.int .u8 x.toNat] 5)) = .ok (.string ⟨#[x]⟩) (W.alloc (.cells #[.int .u8 x.toNat] 5)) :=
  run_convert_bytes_back (P := Tryz.prog) _ 45 9 5 ⟨W.heap.size, 0, none⟩ 1 [x] Tryz.underlying45 Tryz.underlying5 Tryz.underlying9 (fun i hi => by
    have : i = 0 := by simpa using hi
    subst this
    rw [Lib.add_plain, World.cell?_alloc_new]
    rfl)
theorem pow_step2 {v k b : Nat} (hb : 2 ≤ b) (hk : k ≤ 64) (hv : v < 2 ^ (64 - k)) (h : ¬ v < b) : k + 1 ≤ 64 ∧ v / b < 2 ^ (64 - (k + 1)) := by
  have h1 : k + 1 ≤ 64 := by
    rcases Nat.lt_or_ge k 64 with h' | h'
    · exact h'
    · have : k = 64 := by omega
      subst this
      simp at hv; omega
  refine ⟨h1, ?_⟩
  rw [show 64 - k = (64 - (k + 1)) + 1 by omega, Nat.pow_succ] at hv
  have : v / b ≤ v / 2 := Nat.div_le_div_left hb (by omega)
  omega
theorem app_toList (x : UInt8) (S : ByteArray) : (ByteArray.mk #[x] ++ S).data.toList = x :: S.data.toList := by simp
theorem app_size (x : UInt8) (S : ByteArray) : (ByteArray.mk #[x] ++ S).size = S.size + 1 := by rw [ByteArray.size_append]; show 1 + S.size = _; omega
theorem bytes_of {S : ByteArray} {l : List UInt8} (h : l = S.data.toList) : S = ⟨l.toArray⟩ := by rw [h]
def lead_decl (v : Nat) : List UInt8 := if v < 10 then [] else decl (v / 10)
theorem lead_decl_step (v : Nat) (h : ¬ v < 10) : lead_decl v = lead_decl (v / 10) ++ [hd (v / 10 % 10)] := by
  unfold lead_decl
  rw [if_neg h]
  split
  · rename_i h1; rw [decl_small _ h1, Nat.mod_eq_of_lt h1]; rfl
  · rename_i h1; rw [decl_big _ h1]
theorem lead_decl_start (n : Nat) : decl n = lead_decl n ++ [hd (n % 10)] := by
  unfold lead_decl
  split
  · rename_i h1; rw [decl_small _ h1, Nat.mod_eq_of_lt h1]; rfl
  · rename_i h1; rw [decl_big _ h1]

set_option maxHeartbeats 1000000 in
theorem text10 (n : Nat) (hn : n < 9223372036854775808) (w : World) :
    Calls Tryz.prog 93 #[.int .i64 n, .int .i64 10] w fun e w' => e = .returned (.string ⟨(decl n).toArray⟩) ∧ Below w.heap.size w w' := by
  have hm : n % 10 < 16 := by omega
  have hcv := conv_one
  have hn' : n < 2 ^ (64 - 1) := by omega
  have HN := Lib.hid hn'
  have HS : Hid (decl n = lead_decl n ++ [digits16[n % 10]'(d16 hm)]) := Lib.hid (by rw [digits16_hd _ hm]; exact lead_decl_start n)
  clear hn'
  go_enter Tryz.func93, Tryz.ntmps93
  go_wp2
  go_loopw [0, 6] (fun u t wr => ∃ (v : Nat) (S : ByteArray), u = .int .i64 v ∧ t = .string S ∧ decl n = lead_decl v ++ S.data.toList ∧ v < 2 ^ (64 - S.size) ∧ S.size ≤ 64 ∧ v ≤ n ∧ Below w.heap.size w wr)
    (fun u _ _ => (intOf u).toNat)
  case atStart => exact ⟨n, _, rfl, rfl, HS.out, HN.out, (by show 1 ≤ 64; decide), Nat.le_refl _, (Below.refl _ _).alloc (Nat.le_refl _) _⟩
  case round =>
    obtain ⟨v, S, rfl, rfl, hx, hv, hl, hvn, hb⟩ := hrel
    by_cases hvb : v < 10
    · have hE : S = ⟨(decl n).toArray⟩ := bytes_of (by rw [hx]; unfold lead_decl; rw [if_pos hvb]; rfl)
      have HE := Lib.hid hE
      have HB := Lib.hid hb
      clear hx hv hE hb
      go_wp2
      go_ret
      exact ⟨ret_str HE.out, HB.out⟩
    · have hm2 : v / 10 % 10 < 16 := by omega
      have hps := pow_step2 (b := 10) (by decide) hl hv hvb
      have HX : Hid (decl n = lead_decl (v / 10) ++ (digits16[v / 10 % 10]'(d16 hm2) :: S.data.toList)) := Lib.hid (by rw [hx, lead_decl_step v hvb, digits16_hd _ hm2]; simp)
      have HP := Lib.hid hps
      have HB := Lib.hid (hb.alloc hb.size (.cells #[.int .u8 (digits16[v / 10 % 10]'(d16 hm2)).toNat] 5))
      clear hx hv hps hb HS HN
      have hq : 0 ≤ (v : Int) / 10 := by omega
      have hq2 : (v : Int) / 10 ≤ 9223372036854775807 := by omega
      go_wp2
      go_roundw
      case rel => exact ⟨v / 10, _, by go_num, rfl, by rw [app_toList]; exact HX.out, by rw [app_size]; exact HP.out.2, by rw [app_size]; exact HP.out.1, by omega, HB.out⟩
      case measure => simp [intOf]; omega
theorem rdig_any (z : Int) (h0 : 0 ≤ z) (h1 : z ≤ 9223372036854775807) (w : World) :
    Calls Tryz.prog 52 #[.int .i64 z] w fun e w' => e = .returned (.string (mk (dstr z))) ∧ Below w.heap.size w w' := by
  obtain ⟨n, rfl⟩ : ∃ n : Nat, z = n := ⟨z.toNat, by omega⟩
  have ht := fun wx => text10 n (by omega) wx
  have hd : (⟨(decl n).toArray⟩ : ByteArray) = mk (dstr n) := by unfold mk dstr decl; simp
  rw [hd] at ht
  have HT := Lib.hid ht
  clear ht hd
  go_enter Tryz.func52, Tryz.ntmps52
  go_wp2_with fail
  refine (HT.out _).mono ?_; rintro e w1 ⟨rfl, hb⟩
  have HB := Lib.hid hb
  clear hb
  go_wp2
  go_ret
  exact ⟨rfl, HB.out⟩
end Go.Proofs.YthkgaaibhjkngaaGreatDoor
