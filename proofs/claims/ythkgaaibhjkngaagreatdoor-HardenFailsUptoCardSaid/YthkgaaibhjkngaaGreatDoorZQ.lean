/- Harden: every failure that is told. The document's answer for a number's digits. How a body ends: plain. How a body ends: the program's coding, length, read, measured. How a body ends: the program's read, Request and Response. How a body ends: the program's Request and Response. How a body ends: the program's Response. The document's answer: a response's text, where it is right; the five failures. The document's answer: a failure. HardenFails. HardenFails: what is told. HardenFails: for every status and ending the law's function returns true. Conditions: what is handed in, and the library's tables, are together of bulk at most 1048576 (the second form of the statement); the tables are those that the card ties to the program's text. -/
import Derived.Test.YthkgaaibhjkngaaGreatDoorHJ
import Derived.IntWalk
import Derived.Test.YthkgaaibhjkngaaGreatDoorHA
import Derived.Test.YthkgaaibhjkngaaGreatDoorFH
import Derived.Test.YthkgaaibhjkngaaGreatDoorDD
import Derived.Test.YthkgaaibhjkngaaGreatDoorFG
import Derived.Deep.RegionHeld3
import Derived.Test.YthkgaaibhjkngaaGreatDoorYY
import Derived.Test.YthkgaaibhjkngaaGreatDoorJM
import Derived.Test.YthkgaaibhjkngaaGreatDoorHN
import Derived.Carry
set_option linter.unusedVariables false
namespace Go.Proofs.YthkgaaibhjkngaaGreatDoor
open Go.RowKit

def failL (k : Int) : AL := [(⟨#[67, 111, 110, 116, 101, 110, 116, 45, 84, 121, 112, 101]⟩, ⟨#[116, 101, 120, 116, 47, 112, 108, 97, 105, 110, 59, 32, 99, 104, 97, 114, 115, 101, 116, 61, 117, 116, 102, 45, 56]⟩), fSniff, fLen k, fClos]
def failT (st k : Int) (wd : ByteArray) (bare : Bool) : ByteArray := if bare = true then bnd (resT (mk (dstr st)) wd (fText (failL k))) else bnd (resT (mk (dstr st)) wd (fText (failL k))) ++ (wd ++ (⟨#[10]⟩ : ByteArray))
def BytesSays (l : List UInt8) (w : World) (e : Ending) (w' : World) : Prop := Below w.heap.size w w' ∧ ∃ v, e = .returned v ∧ OwnC w' w.heap.size v l

set_option maxHeartbeats 8000000 in
set_option maxRecDepth 100000 in
theorem fail_any (st : Int) (wd : ByteArray) (n : Nat) (bare : Bool) (w : World) (ht : TabP w) (h0 : 200 ≤ st) (h5 : st ≤ 599) (hwd : (wd.toList == []) = false) (hn : wd.size = n) (hnb : n ≤ 100) (hc : ctl wd.data.toList = -1) (hr : (rgt (failL ((n : Int) + 1))).2 = 0) (haz : asz (failL ((n : Int) + 1)) ≤ 16777216)
    (hrs : ∀ wx, Calls Tryz.prog 66 #[.int .i64 st] wx fun e w' => e = .returned (.string wd) ∧ wx = w') :
    Calls Tryz.prog 27 #[.int .i64 st, .bool bare] w (BytesSays (failT st ((n : Int) + 1) wd bare).data.toList w) := by
  obtain ⟨k, hk⟩ : ∃ k : Int, k = (n : Int) + 1 := ⟨_, rfl⟩
  rw [← hk] at hr haz ⊢
  have hrt := fun (a : Option Addr) c wx (hb : Below w.heap.size w wx) (hs : SrcA wx a c (failL k)) => rtext_any st wd (failL k) a 4 c wx rfl hs haz h0 h5 hr hc (by omega) (ht.below hb)
  have hsz := fun wx (hb : Below w.heap.size w wx) => sized_any k (by omega) (by omega) wx (ht.below hb)
  have hsn := fun wx => sniff_any wx
  have hcl := fun wx => clos_any wx
  have hlit := fun wx => lit_flds (failL k) #[.string ⟨#[67, 111, 110, 116, 101, 110, 116, 45, 84, 121, 112, 101]⟩, .string ⟨#[116, 101, 120, 116, 47, 112, 108, 97, 105, 110, 59, 32, 99, 104, 97, 114, 115, 101, 116, 61, 117, 116, 102, 45, 56]⟩, .string kCTO, .string kNos, .string kLen, .string (mk (dstr k)), .string kConn, .string kClos] rfl wx
  have htb : (bnd (resT (mk (dstr st)) wd (fText (failL k)))).size ≤ 2048 := by unfold bnd; split; exact Nat.zero_le _; omega
  have hl4 : (failL k).length = 4 := rfl
  obtain ⟨R, hR⟩ : ∃ R, R = failT st k wd bare := ⟨_, rfl⟩
  rw [← hR]
  unfold failT at hR
  generalize bnd (resT (mk (dstr st)) wd (fText (failL k))) = T at hrt hR htb
  generalize failL k = FL at hrt hlit hl4
  simp only [hl4] at hlit
  have HSZ : Hid (∀ wx, Below w.heap.size w wx → Calls Tryz.prog 57 #[.int .i64 k] wx fun e w' => e = .returned (.agg #[.string kLen, .string (mk (dstr k))]) ∧ Below wx.heap.size wx w') := Lib.hid hsz
  have HSN : Hid (∀ wx, Calls Tryz.prog 64 #[] wx fun e w' => e = .returned (.agg #[.string kCTO, .string kNos]) ∧ Below wx.heap.size wx w') := Lib.hid hsn
  have HCL : Hid (∀ wx, Calls Tryz.prog 65 #[] wx fun e w' => e = .returned (.agg #[.string kConn, .string kClos]) ∧ Below wx.heap.size wx w') := Lib.hid hcl
  have HLIT : Hid (∀ wx : World, SrcA (wx.alloc (.cells #[.string ⟨#[67, 111, 110, 116, 101, 110, 116, 45, 84, 121, 112, 101]⟩, .string ⟨#[116, 101, 120, 116, 47, 112, 108, 97, 105, 110, 59, 32, 99, 104, 97, 114, 115, 101, 116, 61, 117, 116, 102, 45, 56]⟩, .string kCTO, .string kNos, .string kLen, .string (mk (dstr k)), .string kConn, .string kClos] 37)) (some ⟨wx.heap.size, 0, none⟩) 4 FL) := Lib.hid hlit
  generalize mk (dstr k) = DK at HSZ HLIT
  generalize kCTO = X1 at HSN HLIT
  generalize kNos = X2 at HSN HLIT
  generalize kLen = X3 at HSZ HLIT
  generalize kConn = X4 at HCL HLIT
  generalize kClos = X5 at HCL HLIT
  have HRT := Lib.hid hrt
  have HRS := Lib.hid hrs
  have j3 : (wd.size : Int) + 1 = k := by rw [hn, hk]
  rw [hk] at HSZ
  have g0 : ¬ 9223372036854775807 < n + 1 := by omega
  have g1 : ¬ 9223372036854775807 < T.size + (n + 1) := by omega
  have hRs : R.size ≤ 9223372036854775807 := by
    rw [hR]; split
    · omega
    · rw [ByteArray.size_append, ByteArray.size_append]; show T.size + (wd.size + 1) ≤ _; omega
  have HV := Lib.hid hR
  have HRZ := Lib.hid hRs
  clear hrt hsz hsn hcl hlit ht hk hr haz hrs hR hc h0 h5 htb hRs
  go_enter Tryz.func27, Tryz.ntmps27
  go_wp2_with fail
  refine (HRS.out _).mono ?_; rintro e w0 ⟨rfl, rfl⟩
  go_wp2_with fail
  refine (HSN.out _).mono ?_; rintro e w1 ⟨rfl, hb⟩
  have HB1 := Lib.hid hb
  clear hb
  go_wp2_with fail
  refine (HSZ.out _ HB1.out).mono ?_; rintro e w2 ⟨rfl, hb⟩
  have HB2 := Lib.hid (HB1.out.trans (hb.mono HB1.out.size))
  clear hb
  go_wp2_with fail
  refine (HCL.out _).mono ?_; rintro e w3 ⟨rfl, hb⟩
  have HB3 := Lib.hid (HB2.out.trans (hb.mono HB2.out.size))
  clear hb
  have HS3 := Lib.hid (HLIT.out w3)
  have HBL : Hid (Below w.heap.size w (w3.alloc (.cells #[.string ⟨#[67, 111, 110, 116, 101, 110, 116, 45, 84, 121, 112, 101]⟩, .string ⟨#[116, 101, 120, 116, 47, 112, 108, 97, 105, 110, 59, 32, 99, 104, 97, 114, 115, 101, 116, 61, 117, 116, 102, 45, 56]⟩, .string X1, .string X2, .string X3, .string DK, .string X4, .string X5] 37))) := Lib.hid (HB3.out.alloc HB3.out.size _)
  go_wp2_with fail
  refine (HRT.out _ _ _ HBL.out HS3.out).mono ?_; rintro e w4 ⟨rfl, hb⟩
  have HB4 := Lib.hid (HBL.out.trans (hb.mono HBL.out.size))
  clear hb
  obtain ⟨W3, cap, hcv, hbw, hoc⟩ := conv_own R HRZ.out w4
  have HCV := Lib.hid hcv
  have HE : Hid (Below w.heap.size w W3) := Lib.hid (HB4.out.trans (hbw.mono HB4.out.size))
  have HOC : Hid (OwnC W3 w.heap.size (.slice (some ⟨w4.heap.size, 0, none⟩) R.size cap) R.data.toList) := Lib.hid (by
    obtain ⟨g, c, q1, q2, q3⟩ := hoc
    exact ⟨g, c, q1, Nat.le_trans HB4.out.size q2, q3⟩)
  clear hcv hbw hoc
  cases bare with
  | true =>
    have HV2 : Hid (R = T) := Lib.hid (by rw [HV.out, if_pos rfl])
    rw [HV2.out] at HCV
    go_wp2_with fail
    simp only [HCV.out, Result.andThen]
    go_wp2
    go_ret
    exact ⟨HE.out, _, rfl, by have h := HOC.out; rw [HV2.out] at h ⊢; exact h⟩
  | false =>
    have HV2 : Hid (R = T ++ (wd ++ (⟨#[10]⟩ : ByteArray))) := Lib.hid (by rw [HV.out, if_neg (by decide)])
    rw [HV2.out] at HCV
    go_wp2_with fail
    simp only [HCV.out, Result.andThen]
    go_wp2
    go_ret
    exact ⟨HE.out, _, rfl, by
      have h := HOC.out
      have hsz2 : (T ++ (wd ++ (⟨#[10]⟩ : ByteArray))).size = T.size + (n + 1) := by rw [ByteArray.size_append, ByteArray.size_append, hn]; rfl
      rw [HV2.out] at h ⊢
      rw [hsz2] at h
      exact h⟩
end Go.Proofs.YthkgaaibhjkngaaGreatDoor
set_option linter.unusedVariables false
namespace Go.Proofs.YthkgaaibhjkngaaGreatDoor
open Go.RowKit

def hd (n : Nat) : UInt8 := if n < 10 then UInt8.ofNat (48 + n) else UInt8.ofNat (87 + n)
def digits16 : ByteArray := ⟨#[48, 49, 50, 51, 52, 53, 54, 55, 56, 57, 97, 98, 99, 100, 101, 102]⟩
theorem d16 {i : Nat} (h : i < 16) : i < digits16.size := h
theorem digits16_at : ∀ i : Fin 16, digits16[i.val]'(d16 i.isLt) = hd i.val := by decide +kernel
theorem digits16_hd (i : Nat) (h : i < 16) : digits16[i]'(d16 h) = hd i := digits16_at ⟨i, h⟩
theorem dec_hd (i : Nat) (h : i < 10) : UInt8.ofNat (48 + i) = hd i := by unfold hd; rw [if_pos h]
def decl (n : Nat) : List UInt8 := Lib.decDigits n
theorem decl_small (n : Nat) (h : n < 10) : decl n = [hd n] := by rw [decl, Lib.decDigits_one h, dec_hd n h]
theorem decl_big (n : Nat) (h : ¬ n < 10) : decl n = decl (n / 10) ++ [hd (n % 10)] := by
  rw [decl, Lib.decDigits, dif_neg h, dec_hd _ (by omega)]; rfl
theorem conv_one (W : World) (x : UInt8) : (convert 45 9 (.slice (some ⟨W.heap.size, 0, none⟩) 1 1)).run Tryz.prog (W.alloc (.cells #[.int .u8 x.toNat] 5)) = .ok (.string ⟨#[x]⟩) (W.alloc (.cells #[.int .u8 x.toNat] 5)) :=
  run_convert_bytes_back (P := Tryz.prog) _ 45 9 5 ⟨W.heap.size, 0, none⟩ 1 [x] Tryz.underlying45 Tryz.underlying5 Tryz.underlying9 (fun i hi => by
    have : i = 0 := by simpa using hi
    subst this
    rw [Lib.add_plain, World.cell?_alloc_new]
    rfl)
theorem pow_step2 {v k b : Nat} (hb : 2 ≤ b) (hk : k ≤ 64) (hv : v < 2 ^ (64 - k)) (h : ¬ v < b) : k + 1 ≤ 64 ∧ v / b < 2 ^ (64 - (k + 1)) := by
  have h1 : k + 1 ≤ 64 := by
    rcases Nat.lt_or_ge k 64 with h' | h'
    · exact h'
    · have : k = 64 := by omega
      subst this
      simp at hv; omega
  refine ⟨h1, ?_⟩
  rw [show 64 - k = (64 - (k + 1)) + 1 by omega, Nat.pow_succ] at hv
  have : v / b ≤ v / 2 := Nat.div_le_div_left hb (by omega)
  omega
theorem app_toList (x : UInt8) (S : ByteArray) : (ByteArray.mk #[x] ++ S).data.toList = x :: S.data.toList := by simp
theorem app_size (x : UInt8) (S : ByteArray) : (ByteArray.mk #[x] ++ S).size = S.size + 1 := by rw [ByteArray.size_append]; show 1 + S.size = _; omega
theorem bytes_of {S : ByteArray} {l : List UInt8} (h : l = S.data.toList) : S = ⟨l.toArray⟩ := by rw [h]
def lead_decl (v : Nat) : List UInt8 := if v < 10 then [] else decl (v / 10)
theorem lead_decl_step (v : Nat) (h : ¬ v < 10) : lead_decl v = lead_decl (v / 10) ++ [hd (v / 10 % 10)] := by
  unfold lead_decl
  rw [if_neg h]
  split
  · rename_i h1; rw [decl_small _ h1, Nat.mod_eq_of_lt h1]; rfl
  · rename_i h1; rw [decl_big _ h1]
theorem lead_decl_start (n : Nat) : decl n = lead_decl n ++ [hd (n % 10)] := by
  unfold lead_decl
  split
  · rename_i h1; rw [decl_small _ h1, Nat.mod_eq_of_lt h1]; rfl
  · rename_i h1; rw [decl_big _ h1]

set_option maxHeartbeats 1000000 in
theorem text10 (n : Nat) (hn : n < 9223372036854775808) (w : World) :
    Calls Tryz.prog 93 #[.int .i64 n, .int .i64 10] w fun e w' => e = .returned (.string ⟨(decl n).toArray⟩) ∧ Below w.heap.size w w' := by
  have hm : n % 10 < 16 := by omega
  have hcv := conv_one
  have hn' : n < 2 ^ (64 - 1) := by omega
  have HN := Lib.hid hn'
  have HS : Hid (decl n = lead_decl n ++ [digits16[n % 10]'(d16 hm)]) := Lib.hid (by rw [digits16_hd _ hm]; exact lead_decl_start n)
  clear hn'
  go_enter Tryz.func93, Tryz.ntmps93
  go_wp2
  go_loopw [0, 6] (fun u t wr => ∃ (v : Nat) (S : ByteArray), u = .int .i64 v ∧ t = .string S ∧ decl n = lead_decl v ++ S.data.toList ∧ v < 2 ^ (64 - S.size) ∧ S.size ≤ 64 ∧ v ≤ n ∧ Below w.heap.size w wr)
    (fun u _ _ => (intOf u).toNat)
  case atStart => exact ⟨n, _, rfl, rfl, HS.out, HN.out, (by show 1 ≤ 64; decide), Nat.le_refl _, (Below.refl _ _).alloc (Nat.le_refl _) _⟩
  case round =>
    obtain ⟨v, S, rfl, rfl, hx, hv, hl, hvn, hb⟩ := hrel
    by_cases hvb : v < 10
    · have hE : S = ⟨(decl n).toArray⟩ := bytes_of (by rw [hx]; unfold lead_decl; rw [if_pos hvb]; rfl)
      have HE := Lib.hid hE
      have HB := Lib.hid hb
      clear hx hv hE hb
      go_wp2
      go_ret
      exact ⟨ret_str HE.out, HB.out⟩
    · have hm2 : v / 10 % 10 < 16 := by omega
      have hps := pow_step2 (b := 10) (by decide) hl hv hvb
      have HX : Hid (decl n = lead_decl (v / 10) ++ (digits16[v / 10 % 10]'(d16 hm2) :: S.data.toList)) := Lib.hid (by rw [hx, lead_decl_step v hvb, digits16_hd _ hm2]; simp)
      have HP := Lib.hid hps
      have HB := Lib.hid (hb.alloc hb.size (.cells #[.int .u8 (digits16[v / 10 % 10]'(d16 hm2)).toNat] 5))
      clear hx hv hps hb HS HN
      have hq : 0 ≤ (v : Int) / 10 := by omega
      have hq2 : (v : Int) / 10 ≤ 9223372036854775807 := by omega
      go_wp2
      go_roundw
      case rel => exact ⟨v / 10, _, by go_num, rfl, by rw [app_toList]; exact HX.out, by rw [app_size]; exact HP.out.2, by rw [app_size]; exact HP.out.1, by omega, HB.out⟩
      case measure => simp [intOf]; omega
theorem rdig_any (z : Int) (h0 : 0 ≤ z) (h1 : z ≤ 9223372036854775807) (w : World) :
    Calls Tryz.prog 52 #[.int .i64 z] w fun e w' => e = .returned (.string (mk (dstr z))) ∧ Below w.heap.size w w' := by
  obtain ⟨n, rfl⟩ : ∃ n : Nat, z = n := ⟨z.toNat, by omega⟩
  have ht := fun wx => text10 n (by omega) wx
  have hd : (⟨(decl n).toArray⟩ : ByteArray) = mk (dstr n) := by unfold mk dstr decl; simp
  rw [hd] at ht
  have HT := Lib.hid ht
  clear ht hd
  go_enter Tryz.func52, Tryz.ntmps52
  go_wp2_with fail
  refine (HT.out _).mono ?_; rintro e w1 ⟨rfl, hb⟩
  have HB := Lib.hid hb
  clear hb
  go_wp2
  go_ret
  exact ⟨rfl, HB.out⟩
end Go.Proofs.YthkgaaibhjkngaaGreatDoor
set_option linter.unusedVariables false
namespace Go.Proofs.YthkgaaibhjkngaaGreatDoor
open Go.RowKit

theorem app_low {w w1 w2 : World} (h1 : Below w.heap.size w w1) (h2 : Below w1.heap.size w1 w2) : Below w.heap.size w w2 := h1.trans (h2.mono h1.size)
theorem strs_one' (l : List ByteArray) (v : Value) (w : World) (B : Nat) (h : OwnS w B v l) : ∃ a c, v = .slice a l.length c ∧ SrcS w a c l ∧ True := by
  obtain ⟨a, c, rfl, hs⟩ := ownS_src h
  exact ⟨a, c, rfl, hs, trivial⟩
def kTE : ByteArray := ⟨#[116, 114, 97, 110, 115, 102, 101, 114, 45, 101, 110, 99, 111, 100, 105, 110, 103]⟩
def kCL : ByteArray := ⟨#[99, 111, 110, 116, 101, 110, 116, 45, 108, 101, 110, 103, 116, 104]⟩
def kCh : ByteArray := ⟨#[99, 104, 117, 110, 107, 101, 100]⟩
theorem lstF_size : ∀ (f : Nat) (l : List UInt8) (ms : List (List UInt8)), lstF f l = some ms → ∀ m ∈ ms, m.length ≤ l.length
  | 0, l, ms, h => by simp only [lstF, Option.some.injEq] at h; subst h; simp
  | f + 1, l, ms, h => by
    simp only [lstF] at h
    split at h
    · simp only [Option.some.injEq] at h; subst h; simp
    · cases hc : cut l with
      | none => rw [hc] at h; simp at h
      | some n =>
        rw [hc] at h
        simp only at h
        cases hr : lstF f (l.drop (n + 1)) with
        | none => rw [hr] at h; simp at h
        | some m =>
          rw [hr] at h
          have ih := lstF_size f _ m hr
          have ht := trim_len (l.take n)
          rw [List.length_take] at ht
          simp only [Option.map_some, Option.some.injEq] at h
          rw [List.length_drop] at ih
          subst h
          intro x hx
          split at hx
          · have := ih x hx; omega
          · rcases List.mem_cons.1 hx with rfl | hx
            · omega
            · have := ih x hx; omega
theorem memF_size (vs : List ByteArray) : ∀ ms, memF vs = some ms → ∀ m ∈ ms, m.length ≤ bsz vs := by
  induction vs with
  | nil => intro ms h; simp only [memF, Option.some.injEq] at h; subst h; simp
  | cons v r ih =>
    intro ms h
    simp only [memF] at h
    cases hl : lst v.data.toList with
    | none => rw [hl] at h; simp at h
    | some a =>
      rw [hl] at h
      simp only [Option.map_eq_some_iff] at h
      obtain ⟨b, hb, rfl⟩ := h
      intro m hm
      simp only [bsz]
      rcases List.mem_append.1 hm with hm | hm
      · have := lstF_size _ _ _ hl m hm; rw [len_data] at this; omega
      · have := ih b hb m hm; omega
theorem meant_is (s : List UInt8) : ((Num.meant 10 s).2 = 0 ∧ 0 ≤ (Num.meant 10 s).1 ∧ (Num.meant 10 s).1 ≤ 9223372036854775807) ∨ ((Num.meant 10 s).1 = 0 ∧ ((Num.meant 10 s).2 = 2 ∨ (Num.meant 10 s).2 = 3)) := by
  unfold Num.meant
  split
  · right; exact ⟨rfl, .inl rfl⟩
  · rename_i h
    split
    · right; exact ⟨rfl, .inr rfl⟩
    · rename_i h2
      left
      have hg : Num.good 10 s := Classical.byContradiction fun hh => h (.inr hh)
      refine ⟨rfl, Num.val_nonneg 10 (by decide) s hg, ?_⟩
      unfold Num.most at h2
      simp only; omega
/-- the one number that all tell -/
noncomputable def lenF : List (List UInt8) → Int → Option Int
  | [], cur => some cur
  | s :: r, cur => if (Num.meant 10 s).2 ≠ 0 ∨ (0 ≤ cur ∧ (Num.meant 10 s).1 ≠ cur) then none else lenF r (Num.meant 10 s).1
theorem lenF_bad (ms : List (List UInt8)) (k : Nat) (cur : Int) (hk : k < ms.length) (h : (Num.meant 10 ms[k]).2 ≠ 0 ∨ (0 ≤ cur ∧ (Num.meant 10 ms[k]).1 ≠ cur)) : lenF (ms.drop k) cur = none := by
  rw [drop_cons ms k hk]; simp only [lenF]; rw [if_pos h]
theorem lenF_next (ms : List (List UInt8)) (k : Nat) (cur : Int) (hk : k < ms.length) (h : ¬ ((Num.meant 10 ms[k]).2 ≠ 0 ∨ (0 ≤ cur ∧ (Num.meant 10 ms[k]).1 ≠ cur))) : lenF (ms.drop k) cur = lenF (ms.drop (k + 1)) (Num.meant 10 ms[k]).1 := by
  rw [drop_cons ms k hk]; simp only [lenF]; rw [if_neg h]
theorem lenF_end (ms : List (List UInt8)) (k : Nat) (cur : Int) (hk : ms.length ≤ k) : lenF (ms.drop k) cur = some cur := by
  rw [List.drop_eq_nil_iff.2 hk]; rfl
noncomputable def lenM (ms : List (List UInt8)) : Option Int := if ms = [] then none else lenF ms (-1)
noncomputable def flen (l : AL) : Option Int := (memF (allF l kCL)).bind lenM
theorem lenF_pos : ∀ (ms : List (List UInt8)) (cur n : Int), lenF ms cur = some n → (ms ≠ [] ∨ 0 ≤ cur ∧ cur ≤ 9223372036854775807) → 0 ≤ n ∧ n ≤ 9223372036854775807
  | [], cur, n, h, hc => by
    simp only [lenF, Option.some.injEq] at h
    subst h
    rcases hc with hc | hc
    · exact absurd rfl hc
    · exact hc
  | s :: r, cur, n, h, _ => by
    simp only [lenF] at h
    split at h
    · cases h
    · rename_i hb
      refine lenF_pos r _ n h (.inr ?_)
      rcases meant_is s with h1 | h1
      · exact h1.2
      · exfalso; apply hb; left; rcases h1.2 with e | e <;> rw [e] <;> decide
theorem flen_pos (l : AL) (n : Int) (h : flen l = some n) : 0 ≤ n ∧ n ≤ 9223372036854775807 := by
  unfold flen at h
  rw [Option.bind_eq_some_iff] at h
  obtain ⟨ms, _, h⟩ := h
  unfold lenM at h
  split at h
  · cases h
  · rename_i hne
    exact lenF_pos ms _ n h (.inl hne)
/-- do the transfer codings say chunked alone? -/
def chkM : Option (List (List UInt8)) → Bool
  | some [m] => sameB (mk m) kCh
  | _ => false
def fchk (l : AL) : Bool := chkM (memF (allF l kTE))
structure Rd where
  ch : Bool
  len : Int
  code : Int
/-- what fields tell of a body -/
noncomputable def fread (l : AL) : Rd :=
  if 0 < (allF l kTE).length then
    if 0 < (allF l kCL).length then ⟨false, -1, 19⟩ else ⟨true, -1, if fchk l = true then 0 else 21⟩
  else if 0 < (allF l kCL).length then (match flen l with | none => ⟨false, -1, 20⟩ | some n => ⟨false, n, 0⟩) else ⟨false, -1, 0⟩
structure Bd where
  kind : Int
  len : Int
  code : Int
/-- how a body ends -/
noncomputable def fbody (l : AL) (none : Bool) (opn : Int) : Bd :=
  if (fread l).code ≠ 0 then ⟨0, 0, (fread l).code⟩
  else if none = true then ⟨0, 0, 0⟩
  else if (fread l).ch = true then ⟨2, 0, 0⟩
  else if 0 ≤ (fread l).len then (if 8192 < (fread l).len then ⟨0, 0, 23⟩ else ⟨1, (fread l).len, 0⟩)
  else ⟨opn, 0, 0⟩
/-- has the response no body, whatever its fields say? -/
def nob (M : ByteArray) (st : Int) : Bool := decide (M.data.toList = [72, 69, 65, 68]) || (decide (st = 204) || decide (st = 304))
end Go.Proofs.YthkgaaibhjkngaaGreatDoor
set_option linter.unusedVariables false
namespace Go.Proofs.YthkgaaibhjkngaaGreatDoor
open Go.RowKit

theorem chkM_no {R : Option (List (List UInt8))} (h : ∀ m, R ≠ some [m]) : chkM R = false := by
  cases R with
  | none => rfl
  | some ms => cases ms with
    | nil => rfl
    | cons m r => cases r with
      | nil => exact absurd rfl (h m)
      | cons _ _ => rfl
set_option maxHeartbeats 8000000 in
set_option maxRecDepth 100000 in
theorem coding_any (l : AL) (av : Option Addr) (n c : Nat) (w : World) (hn : l.length = n) (hs : SrcA w av c l) (hz : asz l ≤ 1073741824) :
    Calls Tryz.prog 109 #[.slice av n c] w fun e w' => e = .returned (.int .i64 (if fchk l = true then 0 else 21)) ∧ Below w.heap.size w w' := by
  have hm := members_any l kTE av n c w hn hs hz (by decide)
  have hbz := allF_bsz l kTE
  have hml := memF_len (allF l kTE)
  have hsz := memF_size (allF l kTE)
  unfold fchk
  generalize allF l kTE = vs at hm hbz hml hsz ⊢
  cases hq : memF vs with
  | none =>
    rw [hq] at hm
    have HM : Hid (Calls Tryz.prog 58 #[.slice av n c, .string ⟨#[116, 114, 97, 110, 115, 102, 101, 114, 45, 101, 110, 99, 111, 100, 105, 110, 103]⟩] w fun e w' => Below w.heap.size w w' ∧ e = .returned (.tuple #[.slice none 0 0, .int .i64 5])) := Lib.hid hm
    clear hm hq hml hsz hbz hs hn hz
    go_enter Tryz.func109, Tryz.ntmps109
    go_wp2_with fail
    refine HM.out.mono ?_; rintro e w1 ⟨hb, rfl⟩
    have HB := Lib.hid hb
    clear hb
    go_wp2
    go_ret
    exact ⟨rfl, HB.out⟩
  | some ms =>
    rw [hq] at hm
    have hl := hml ms hq
    have hsm := hsz ms hq
    obtain ⟨k1, hk1⟩ : ∃ k1, ms.length = k1 := ⟨_, rfl⟩
    have HM : Hid (Calls Tryz.prog 58 #[.slice av n c, .string ⟨#[116, 114, 97, 110, 115, 102, 101, 114, 45, 101, 110, 99, 111, 100, 105, 110, 103]⟩] w fun e w' => Below w.heap.size w w' ∧ ∃ a c, e = .returned (.tuple #[.slice a k1 c, .int .i64 0]) ∧ SrcS w' a c (ms.map mk)) := Lib.hid (hm.mono fun e w' ⟨h1, v, h2, h3⟩ => by
      obtain ⟨a, c, h4, h5, _⟩ := strs_one' _ _ _ _ h3
      rw [List.length_map, hk1] at h4
      exact ⟨h1, a, c, by rw [h2, h4], h5⟩)
    by_cases h1 : k1 = 1
    · obtain ⟨m, rfl⟩ : ∃ m, ms = [m] := by
        cases ms with
        | nil => simp at hk1; omega
        | cons m r => cases r with
          | nil => exact ⟨m, rfl⟩
          | cons _ _ => simp at hk1; omega
      have hms := hsm m (by simp)
      have hse : ∀ wx, Calls Tryz.prog 61 #[.string (mk m), .string ⟨#[99, 104, 117, 110, 107, 101, 100]⟩] wx fun e w' => e = .returned (.bool (sameB (mk m) kCh)) ∧ Below wx.heap.size wx w' := fun wx => same_any (mk m) kCh wx (by rw [show (mk m).size = m.length from size_mk _]; omega) (by decide)
      have hchk : chkM (some [m]) = sameB (mk m) kCh := rfl
      rw [hchk]
      subst h1
      have e1 : ((1 : Int) != 1) = false := rfl
      obtain ⟨T, hT⟩ : ∃ T, mk m = T := ⟨_, rfl⟩
      have hcell : ∀ wx (a : Option Addr) c, SrcS wx a c ([m].map mk) → ∃ b o, a = some ⟨b, o, none⟩ ∧ b < wx.heap.size ∧ wx.cell? ⟨b, o, none⟩ = some (.string T) := fun wx a c h => by
        obtain ⟨b, o, e1, e2, e3⟩ := h.at_ 0 (by simp)
        exact ⟨b, o, e1, e2, by rw [← hT]; simpa using e3⟩
      rw [hT] at hse ⊢
      have HC := Lib.hid hcell
      cases q : sameB T kCh with
      | true =>
        rw [q] at hse
        have HSE := Lib.hid hse
        clear hm hq hml hsz hbz hs hn hz hl hsm hk1 hms hse hchk hT hcell q
        go_enter Tryz.func109, Tryz.ntmps109
        go_wp2_with fail
        refine HM.out.mono ?_; rintro e w1 ⟨hb, a1, c1, rfl, hs1⟩
        obtain ⟨b1, o1, rfl, hb1, hc1⟩ := HC.out _ _ _ hs1
        have HB := Lib.hid hb
        clear hb hs1
        go_wp2_with fail
        refine (HSE.out _).mono ?_; rintro e w2 ⟨rfl, hb⟩
        have HB2 := Lib.hid (app_low HB.out hb)
        clear hb
        go_wp2
        go_ret
        exact ⟨rfl, HB2.out⟩
      | false =>
        rw [q] at hse
        have HSE := Lib.hid hse
        clear hm hq hml hsz hbz hs hn hz hl hsm hk1 hms hse hchk hT hcell q
        go_enter Tryz.func109, Tryz.ntmps109
        go_wp2_with fail
        refine HM.out.mono ?_; rintro e w1 ⟨hb, a1, c1, rfl, hs1⟩
        obtain ⟨b1, o1, rfl, hb1, hc1⟩ := HC.out _ _ _ hs1
        have HB := Lib.hid hb
        clear hb hs1
        go_wp2_with fail
        refine (HSE.out _).mono ?_; rintro e w2 ⟨rfl, hb⟩
        have HB2 := Lib.hid (app_low HB.out hb)
        clear hb
        go_wp2
        go_ret
        exact ⟨rfl, HB2.out⟩
    · have hno : chkM (some ms) = false := chkM_no fun m e => by injection e with e; rw [e] at hk1; simp at hk1; omega
      rw [hno]
      have e1 : ((k1 : Int) != 1) = true := by simp; omega
      have e2 : ((k1 : Int) == 1) = false := by simp; omega
      clear hm hq hml hsz hbz hs hn hz hl hsm hk1 hno h1
      go_enter Tryz.func109, Tryz.ntmps109
      go_wp2_with fail
      refine HM.out.mono ?_; rintro e w1 ⟨hb, a1, c1, rfl, hs1⟩
      have HB := Lib.hid hb
      clear hb hs1
      go_wp2
      go_ret
      exact ⟨rfl, HB.out⟩

def LenSays (R : Option Int) (z : Int) (w : World) (e : Ending) (w' : World) : Prop :=
  Below w.heap.size w w' ∧ match R with
    | none => e = .returned (.tuple #[.int .i64 z, .int .i64 20])
    | some n => e = .returned (.tuple #[.int .i64 n, .int .i64 0])
theorem lenSays_none {R : Option Int} {z : Int} {w w' : World} (h : R = none) (hb : Below w.heap.size w w') : LenSays R z w (.returned (.tuple #[.int .i64 z, .int .i64 20])) w' := by
  subst h; exact ⟨hb, rfl⟩
theorem lenSays_some {R : Option Int} {z n : Int} {w w' : World} (h : R = some n) (hb : Below w.heap.size w w') : LenSays R z w (.returned (.tuple #[.int .i64 n, .int .i64 0])) w' := by
  subst h; exact ⟨hb, rfl⟩
theorem mk_at (ms : List (List UInt8)) (k : Nat) (h : k < ms.length) : (ms.map mk)[k]'(by simpa using h) = mk ms[k] := by simp

set_option maxHeartbeats 8000000 in
set_option maxRecDepth 100000 in
theorem length_any (l : AL) (av : Option Addr) (n c : Nat) (w : World) (hn : l.length = n) (hs : SrcA w av c l) (hz : asz l ≤ 1073741824) :
    Calls Tryz.prog 110 #[.slice av n c] w (LenSays (flen l) (-1) w) := by
  have hm := members_any l kCL av n c w hn hs hz (by decide)
  have hbz := allF_bsz l kCL
  have hml := memF_len (allF l kCL)
  have hsz := memF_size (allF l kCL)
  obtain ⟨R, hR⟩ : ∃ R, R = flen l := ⟨_, rfl⟩
  rw [← hR]
  unfold flen at hR
  generalize allF l kCL = vs at hm hbz hml hsz hR
  cases hq : memF vs with
  | none =>
    rw [hq] at hm hR
    have HV : Hid (R = none) := Lib.hid hR
    have HM : Hid (Calls Tryz.prog 58 #[.slice av n c, .string ⟨#[99, 111, 110, 116, 101, 110, 116, 45, 108, 101, 110, 103, 116, 104]⟩] w fun e w' => Below w.heap.size w w' ∧ e = .returned (.tuple #[.slice none 0 0, .int .i64 5])) := Lib.hid hm
    clear hm hq hml hsz hbz hs hn hz hR
    go_enter Tryz.func110, Tryz.ntmps110
    go_wp2_with fail
    refine HM.out.mono ?_; rintro e w1 ⟨hb, rfl⟩
    have HB := Lib.hid hb
    clear hb
    go_wp2
    go_ret2
    exact lenSays_none HV.out HB.out
  | some ms =>
    rw [hq] at hm hR
    simp only [Option.bind_some] at hR
    have hl := hml ms hq
    have hsm := hsz ms hq
    obtain ⟨k1, hk1⟩ : ∃ k1, ms.length = k1 := ⟨_, rfl⟩
    have HM : Hid (Calls Tryz.prog 58 #[.slice av n c, .string ⟨#[99, 111, 110, 116, 101, 110, 116, 45, 108, 101, 110, 103, 116, 104]⟩] w fun e w' => Below w.heap.size w w' ∧ ∃ a c, e = .returned (.tuple #[.slice a k1 c, .int .i64 0]) ∧ SrcS w' a c (ms.map mk)) := Lib.hid (hm.mono fun e w' ⟨h1, v, h2, h3⟩ => by
      obtain ⟨a, c, h4, h5, _⟩ := strs_one' _ _ _ _ h3
      rw [List.length_map, hk1] at h4
      exact ⟨h1, a, c, by rw [h2, h4], h5⟩)
    by_cases h0 : k1 = 0
    · have hnil : ms = [] := List.eq_nil_of_length_eq_zero (by omega)
      have HV : Hid (R = none) := Lib.hid (by rw [hR, hnil]; rfl)
      subst h0
      clear hm hq hml hsz hbz hs hn hz hR hl hsm hk1 hnil
      go_enter Tryz.func110, Tryz.ntmps110
      go_wp2_with fail
      refine HM.out.mono ?_; rintro e w1 ⟨hb, a1, c1, rfl, hs1⟩
      have HB := Lib.hid hb
      clear hb hs1
      go_wp2
      go_ret2
      exact lenSays_none HV.out HB.out
    · have hne : ms ≠ [] := fun e => by rw [e] at hk1; simp at hk1; omega
      have HV : Hid (R = lenF (ms.drop 0) (-1)) := Lib.hid (by rw [hR, List.drop_zero]; unfold lenM; rw [if_neg hne])
      have e1 : ((k1 : Int) == 0) = false := by simp; omega
      have hkb : k1 ≤ 1073741824 := by omega
      have HK := Lib.hid hk1
      have HSM : Hid (∀ m ∈ ms, m.length ≤ 1073741824) := Lib.hid fun m hm => by have := hsm m hm; omega
      clear hm hq hml hsz hbz hs hn hz hR hl hsm hk1 hne h0
      go_enter Tryz.func110, Tryz.ntmps110
      go_wp2_with fail
      refine HM.out.mono ?_; rintro e w1 ⟨hb, a1, c1, rfl, hs1⟩
      have HB := Lib.hid hb
      have HS1 := Lib.hid hs1
      clear hb hs1
      go_wp2_with fail
      clear e1
      go_loop [6, 25] (fun v i => ∃ (k : Nat) (cur : Int), k ≤ k1 ∧ i = .int .i64 k ∧ v = .int .i64 cur ∧ -1 ≤ cur ∧ cur ≤ 9223372036854775807 ∧ R = lenF (ms.drop k) cur) (fun _ i => k1 - (intOf i).toNat)
      case atStart => exact ⟨0, -1, by omega, rfl, rfl, by omega, by omega, HV.out⟩
      case round =>
        obtain ⟨k, cur, hk, rfl, rfl, hc0, hc1, hR⟩ := hrel
        by_cases hlt : k < k1
        case neg =>
          have HV2 : Hid (R = some cur) := Lib.hid (by rw [hR]; exact lenF_end ms k cur (by rw [HK.out]; omega))
          clear hR
          go_wp2
          go_ret2
          exact lenSays_some HV2.out HB.out
        case pos =>
          have hkl : k < ms.length := by rw [HK.out]; exact hlt
          obtain ⟨b1, o1, rfl, hb1, d1⟩ := HS1.out.at_ k (by simpa using hkl)
          rw [mk_at ms k hkl] at d1
          have hsz := HSM.out _ (List.getElem_mem hkl)
          have hbad := lenF_bad ms k cur hkl
          have hnx := lenF_next ms k cur hkl
          have hmi := meant_is ms[k]
          have hde := fun wx => Num.decimal_any (mk ms[k]) wx (by rw [show (mk ms[k]).size = ms[k].length from size_mk _]; unfold maxLen; omega)
          rw [mk_list] at hde
          generalize mk ms[k] = T at d1 hde
          generalize Num.meant 10 ms[k] = mt at hbad hnx hmi hde
          obtain ⟨mv, mc⟩ := mt
          simp only at hbad hnx hmi hde
          have HDE := Lib.hid hde
          rcases hmi with ⟨hz, hm0, hm1⟩ | ⟨hz, hm0⟩
          · subst hz
            by_cases hp : 0 ≤ cur
            · by_cases he : mv = cur
              · subst he
                have HV2 := Lib.hid (hR.trans (hnx (by simp)))
                clear hbad hnx hde hR hkl hsz
                go_wp2_with fail
                refine (HDE.out _).mono ?_; rintro e w2 ⟨rfl, rfl⟩
                go_wp2
                go_round
                case rel => exact ⟨k + 1, mv, by omega, by go_num, rfl, by omega, by omega, HV2.out⟩
                case measure => simp [intOf]; omega
              · have HV2 := Lib.hid (hR.trans (hbad (.inr ⟨hp, he⟩)))
                have e2 : (mv != cur) = true := by simp [he]
                have e3 : (mv == cur) = false := by simp [he]
                clear hbad hnx hde hR hkl hsz he
                go_wp2_with fail
                refine (HDE.out _).mono ?_; rintro e w2 ⟨rfl, rfl⟩
                go_wp2
                go_ret2
                exact lenSays_none HV2.out HB.out
            · have HV2 := Lib.hid (hR.trans (hnx (by simp [hp])))
              clear hbad hnx hde hR hkl hsz
              go_wp2_with fail
              refine (HDE.out _).mono ?_; rintro e w2 ⟨rfl, rfl⟩
              go_wp2
              go_round
              case rel => exact ⟨k + 1, mv, by omega, by go_num, rfl, by omega, by omega, HV2.out⟩
              case measure => simp [intOf]; omega
          · have HV2 := Lib.hid (hR.trans (hbad (.inl (by rcases hm0 with e | e <;> rw [e] <;> decide))))
            have e2 : (mc != 0) = true := by rcases hm0 with e | e <;> rw [e] <;> rfl
            have e3 : (mc == 0) = false := by rcases hm0 with e | e <;> rw [e] <;> rfl
            clear hbad hnx hde hR hkl hsz hm0 hz
            go_wp2_with fail
            refine (HDE.out _).mono ?_; rintro e w2 ⟨rfl, rfl⟩
            go_wp2
            go_ret2
            exact lenSays_none HV2.out HB.out
end Go.Proofs.YthkgaaibhjkngaaGreatDoor
set_option linter.unusedVariables false
namespace Go.Proofs.YthkgaaibhjkngaaGreatDoor
open Go.RowKit

def RdSays (R : Rd) (w : World) (e : Ending) (w' : World) : Prop := e = .returned (.tuple #[.bool R.ch, .int .i64 R.len, .int .i64 R.code]) ∧ Below w.heap.size w w'
theorem rdSays {R : Rd} {a : Bool} {b c x y : Int} {w w' : World} (h : R = ⟨a, b, c⟩) (hx : x = b) (hy : y = c) (hb : Below w.heap.size w w') : RdSays R w (.returned (.tuple #[.bool a, .int .i64 x, .int .i64 y])) w' := by
  subst h hx hy; exact ⟨rfl, hb⟩
set_option maxHeartbeats 8000000 in
set_option maxRecDepth 100000 in
theorem read_any (l : AL) (av : Option Addr) (n c : Nat) (w : World) (hn : l.length = n) (hs : SrcA w av c l) (hz : asz l ≤ 1073741824) :
    Calls Tryz.prog 74 #[.slice av n c] w (RdSays (fread l) w) := by
  have hnb : n ≤ 1073741824 := by have := asz_len l; omega
  have hT := fun wx (hb : Below w.heap.size w wx) => count_any l kTE av n c wx hn (hs.below (Nat.le_refl _) hb) hz (by decide)
  have hC := fun wx (hb : Below w.heap.size w wx) => count_any l kCL av n c wx hn (hs.below (Nat.le_refl _) hb) hz (by decide)
  have hco := fun wx (hb : Below w.heap.size w wx) => coding_any l av n c wx hn (hs.below (Nat.le_refl _) hb) hz
  have hle := fun wx (hb : Below w.heap.size w wx) => length_any l av n c wx hn (hs.below (Nat.le_refl _) hb) hz
  have hl1 := allF_len l kTE
  have hl2 := allF_len l kCL
  obtain ⟨R, hR⟩ : ∃ R, R = fread l := ⟨_, rfl⟩
  rw [← hR]
  unfold fread at hR
  generalize (allF l kTE).length = nT at hT hR hl1
  generalize (allF l kCL).length = nC at hC hR hl2
  have hb1 : nT ≤ 1073741824 := by omega
  have hb2 : nC ≤ 1073741824 := by omega
  have HT : Hid (∀ wx, Below w.heap.size w wx → Calls Tryz.prog 33 #[.slice av n c, .string ⟨#[116, 114, 97, 110, 115, 102, 101, 114, 45, 101, 110, 99, 111, 100, 105, 110, 103]⟩] wx fun e w' => e = .returned (.int .i64 (nT : Nat)) ∧ Below wx.heap.size wx w') := Lib.hid hT
  have HC : Hid (∀ wx, Below w.heap.size w wx → Calls Tryz.prog 33 #[.slice av n c, .string ⟨#[99, 111, 110, 116, 101, 110, 116, 45, 108, 101, 110, 103, 116, 104]⟩] wx fun e w' => e = .returned (.int .i64 (nC : Nat)) ∧ Below wx.heap.size wx w') := Lib.hid hC
  by_cases h1 : 0 < nT
  · have g1 : (0 : Int) < (nT : Int) := by omega
    by_cases h2 : 0 < nC
    · have g2 : (0 : Int) < (nC : Int) := by omega
      rw [if_pos h1, if_pos h2] at hR
      have HV := Lib.hid hR
      clear hT hC hco hle hR hs hn hz hl1 hl2
      go_enter Tryz.func74, Tryz.ntmps74
      go_wp2_with fail
      refine (HT.out _ (Below.refl _ _)).mono ?_; rintro e w1 ⟨rfl, hb⟩
      have HB1 := Lib.hid hb
      clear hb
      go_wp2_with fail
      refine (HC.out _ HB1.out).mono ?_; rintro e w2 ⟨rfl, hb⟩
      have HB2 := Lib.hid (app_low HB1.out hb)
      clear hb
      go_wp2
      go_ret3
      exact rdSays HV.out rfl rfl HB2.out
    · have g2 : ¬ (0 : Int) < (nC : Int) := by omega
      rw [if_pos h1, if_neg h2] at hR
      obtain ⟨cc, hcc⟩ : ∃ cc : Int, cc = if fchk l = true then 0 else 21 := ⟨_, rfl⟩
      rw [← hcc] at hR hco
      have HV := Lib.hid hR
      have HCO := Lib.hid hco
      clear hT hC hco hle hR hs hn hz hl1 hl2 hcc
      go_enter Tryz.func74, Tryz.ntmps74
      go_wp2_with fail
      refine (HT.out _ (Below.refl _ _)).mono ?_; rintro e w1 ⟨rfl, hb⟩
      have HB1 := Lib.hid hb
      clear hb
      go_wp2_with fail
      refine (HC.out _ HB1.out).mono ?_; rintro e w2 ⟨rfl, hb⟩
      have HB2 := Lib.hid (app_low HB1.out hb)
      clear hb
      go_wp2_with fail
      refine (HCO.out _ HB2.out).mono ?_; rintro e w3 ⟨rfl, hb⟩
      have HB3 := Lib.hid (app_low HB2.out hb)
      clear hb
      go_wp2
      go_ret3
      exact rdSays HV.out rfl rfl HB3.out
  · have g1 : ¬ (0 : Int) < (nT : Int) := by omega
    by_cases h2 : 0 < nC
    · have g2 : (0 : Int) < (nC : Int) := by omega
      rw [if_neg h1, if_pos h2] at hR
      obtain ⟨lv, lc, hlv, hle2⟩ : ∃ lv lc : Int, R = ⟨false, lv, lc⟩ ∧ ∀ wx, Below w.heap.size w wx → Calls Tryz.prog 110 #[.slice av n c] wx fun e w' => e = .returned (.tuple #[.int .i64 lv, .int .i64 lc]) ∧ Below wx.heap.size wx w' := by
        cases hf : flen l with
        | none =>
          rw [hf] at hR hle
          exact ⟨-1, 20, hR, fun wx hb => (hle wx hb).mono fun e w' ⟨h1, h2⟩ => ⟨h2, h1⟩⟩
        | some m =>
          rw [hf] at hR hle
          exact ⟨m, 0, hR, fun wx hb => (hle wx hb).mono fun e w' ⟨h1, h2⟩ => ⟨h2, h1⟩⟩
      have HV := Lib.hid hlv
      have HLE := Lib.hid hle2
      clear hT hC hco hle hR hs hn hz hl1 hl2 hlv hle2
      go_enter Tryz.func74, Tryz.ntmps74
      go_wp2_with fail
      refine (HT.out _ (Below.refl _ _)).mono ?_; rintro e w1 ⟨rfl, hb⟩
      have HB1 := Lib.hid hb
      clear hb
      go_wp2_with fail
      refine (HC.out _ HB1.out).mono ?_; rintro e w2 ⟨rfl, hb⟩
      have HB2 := Lib.hid (app_low HB1.out hb)
      clear hb
      go_wp2_with fail
      refine (HLE.out _ HB2.out).mono ?_; rintro e w3 ⟨rfl, hb⟩
      have HB3 := Lib.hid (app_low HB2.out hb)
      clear hb
      go_wp2
      go_ret3
      exact rdSays HV.out rfl rfl HB3.out
    · have g2 : ¬ (0 : Int) < (nC : Int) := by omega
      rw [if_neg h1, if_neg h2] at hR
      have HV := Lib.hid hR
      clear hT hC hco hle hR hs hn hz hl1 hl2
      go_enter Tryz.func74, Tryz.ntmps74
      go_wp2_with fail
      refine (HT.out _ (Below.refl _ _)).mono ?_; rintro e w1 ⟨rfl, hb⟩
      have HB1 := Lib.hid hb
      clear hb
      go_wp2_with fail
      refine (HC.out _ HB1.out).mono ?_; rintro e w2 ⟨rfl, hb⟩
      have HB2 := Lib.hid (app_low HB1.out hb)
      clear hb
      go_wp2
      go_ret3
      exact rdSays HV.out rfl rfl HB2.out

def BdSays (R : Bd) (w : World) (e : Ending) (w' : World) : Prop := e = .returned (.tuple #[.agg #[.int .i64 R.kind, .int .i64 R.len], .int .i64 R.code]) ∧ Below w.heap.size w w'
theorem bdSays {R : Bd} {a b c x y z : Int} {w w' : World} (h : R = ⟨a, b, c⟩) (hx : x = a) (hy : y = b) (hz : z = c) (hb : Below w.heap.size w w') : BdSays R w (.returned (.tuple #[.agg #[.int .i64 x, .int .i64 y], .int .i64 z])) w' := by
  subst h hx hy hz; exact ⟨rfl, hb⟩
theorem measured_any (m : Int) (w : World) (h0 : 0 ≤ m) (h1 : m ≤ 9223372036854775807) :
    Calls Tryz.prog 75 #[.int .i64 m] w (BdSays (if 8192 < m then ⟨0, 0, 23⟩ else ⟨1, m, 0⟩) w) := by
  by_cases h : 8192 < m
  · rw [if_pos h]
    go_enter Tryz.func75, Tryz.ntmps75
    go_wp2
    exact bodyPost_ret (v := .tuple #[.agg #[.int .i64 0, .int .i64 0], .int .i64 23]) (by simp [results, Tryz.results75, go_sem]) rfl (bdSays rfl rfl rfl rfl ((Below.refl _ _).alloc (Nat.le_refl _) _))
  · rw [if_neg h]
    go_enter Tryz.func75, Tryz.ntmps75
    go_wp2
    exact bodyPost_ret (v := .tuple #[.agg #[.int .i64 1, .int .i64 m], .int .i64 0]) (by simp [results, Tryz.results75, go_sem]) rfl (bdSays rfl rfl rfl rfl ((Below.refl _ _).alloc (Nat.le_refl _) _))
end Go.Proofs.YthkgaaibhjkngaaGreatDoor
set_option linter.unusedVariables false
namespace Go.Proofs.YthkgaaibhjkngaaGreatDoor
open Go.RowKit

theorem two_cells (w w2 : World) (cs ds : Array Value) (t u : TypeId) (hb : Below ((w.alloc (.cells cs t)).alloc (.cells ds u)).heap.size ((w.alloc (.cells cs t)).alloc (.cells ds u)) w2) (j : Nat) :
    w2.cell? ⟨w.heap.size, j, none⟩ = cs[j]? ∧ w2.cell? ⟨w.heap.size + 1, j, none⟩ = ds[j]? ∧ w2.frozen? ⟨w.heap.size + 1, j, none⟩ = false := by
  have e : (w.alloc (.cells cs t)).heap.size = w.heap.size + 1 := by simp
  have h1 := (res_cells (w.alloc (.cells cs t)) w2 ds u hb j).1
  rw [e] at h1
  refine ⟨?_, h1.1, h1.2⟩
  have h2 := (res_cells w (w.alloc (.cells cs t)) cs t (Below.refl _ _) j).2 (.cells ds u)
  exact (hb.cell (p := ⟨w.heap.size, j, none⟩) (by simp; omega)).trans h2.1
theorem two_below (w w2 : World) (o1 o2 : Obj) (hb : Below ((w.alloc o1).alloc o2).heap.size ((w.alloc o1).alloc o2) w2) : Below w.heap.size w w2 :=
  (((Below.refl w.heap.size w).alloc (Nat.le_refl _) o1).alloc (by simp) o2).trans (hb.mono (by simp; omega))
theorem two_grow (w : World) (o1 o2 : Obj) : Below w.heap.size w ((w.alloc o1).alloc o2) := ((Below.refl w.heap.size w).alloc (Nat.le_refl _) o1).alloc (by simp) o2
theorem fread_pos (l : AL) : -1 ≤ (fread l).len ∧ (fread l).len ≤ 9223372036854775807 := by
  unfold fread
  split
  · split <;> simp
  · split
    · cases hf : flen l with
      | none => simp
      | some n => have := flen_pos l n hf; simp only; omega
    · simp

set_option maxHeartbeats 8000000 in
set_option maxRecDepth 100000 in
theorem greq_any (l : AL) (M T : ByteArray) (av : Option Addr) (n c : Nat) (w : World) (hn : l.length = n) (hs : SrcA w av c l) (hz : asz l ≤ 1073741824) :
    Calls Tryz.prog 31 #[.agg #[.string M, .string T, .slice av n c]] w (BdSays (fbody l false 0) w) := by
  have hr := fun wx (hb : Below w.heap.size w wx) => read_any l av n c wx hn (hs.below (Nat.le_refl _) hb) hz
  have hp := fread_pos l
  obtain ⟨R, hR⟩ : ∃ R, R = fbody l false 0 := ⟨_, rfl⟩
  rw [← hR]
  unfold fbody at hR
  generalize fread l = r at hr hp hR
  obtain ⟨ch, len, code⟩ := r
  simp only at hp hR
  have HR : Hid (∀ wx, Below w.heap.size w wx → Calls Tryz.prog 74 #[.slice av n c] wx fun e w' => e = .returned (.tuple #[.bool ch, .int .i64 len, .int .i64 code]) ∧ Below wx.heap.size wx w') := Lib.hid hr
  obtain ⟨hp0, hp1⟩ := hp
  clear hr hs hn hz
  by_cases hc : code = 0
  case neg =>
    rw [if_pos hc] at hR
    have HV := Lib.hid hR
    have e1 : (code == 0) = false := by simp [hc]
    have e2 : (code != 0) = true := by simp [hc]
    clear hR hc
    go_enter Tryz.func31, Tryz.ntmps31
    go_wp2_with fail
    refine (HR.out _ (two_grow _ _ _)).mono ?_; rintro e w1 ⟨rfl, hb⟩
    obtain ⟨_, f0, g0⟩ := two_cells _ _ _ _ _ _ hb 0
    obtain ⟨_, f1, g1⟩ := two_cells _ _ _ _ _ _ hb 1
    have HB := Lib.hid (two_below _ _ _ _ hb)
    clear hb
    go_wp2
    exact bodyPost_ret (v := .tuple #[.agg #[.int .i64 0, .int .i64 0], .int .i64 code]) (by simp [results, Tryz.results31, go_sem, f0, f1]) rfl (bdSays HV.out rfl rfl rfl ((HB.out.setCell (p := ⟨w.heap.size + 1, 0, none⟩) (by simp) _).setCell (p := ⟨w.heap.size + 1, 1, none⟩) (by simp) _))
  case pos =>
    subst hc
    rw [if_neg (by simp), if_neg (by simp)] at hR
    cases ch with
    | true =>
      rw [if_pos rfl] at hR
      have HV := Lib.hid hR
      clear hR
      go_enter Tryz.func31, Tryz.ntmps31
      go_wp2_with fail
      refine (HR.out _ (two_grow _ _ _)).mono ?_; rintro e w1 ⟨rfl, hb⟩
      obtain ⟨_, f0, g0⟩ := two_cells _ _ _ _ _ _ hb 0
      obtain ⟨_, f1, g1⟩ := two_cells _ _ _ _ _ _ hb 1
      have HB := Lib.hid (two_below _ _ _ _ hb)
      clear hb
      go_wp2
      exact bodyPost_ret (v := .tuple #[.agg #[.int .i64 2, .int .i64 0], .int .i64 0]) (by simp [results, Tryz.results31, go_sem, f0, f1]) rfl (bdSays HV.out rfl rfl rfl ((HB.out.setCell (p := ⟨w.heap.size + 1, 0, none⟩) (by simp) _).setCell (p := ⟨w.heap.size + 1, 1, none⟩) (by simp) _))
    | false =>
      rw [if_neg (by simp)] at hR
      by_cases hl : 0 ≤ len
      · rw [if_pos hl] at hR
        have hm := fun wx => measured_any len wx hl hp1
        rw [← hR] at hm
        have HM := Lib.hid hm
        clear hR hm
        go_enter Tryz.func31, Tryz.ntmps31
        go_wp2_with fail
        refine (HR.out _ (two_grow _ _ _)).mono ?_; rintro e w1 ⟨rfl, hb⟩
        have HB1 := Lib.hid hb
        clear hb
        go_wp2_with fail
        refine (HM.out _).mono ?_; rintro e w2 ⟨rfl, hb⟩
        have hb2 := app_low HB1.out hb
        obtain ⟨_, f0, g0⟩ := two_cells _ _ _ _ _ _ hb2 0
        obtain ⟨_, f1, g1⟩ := two_cells _ _ _ _ _ _ hb2 1
        have HB := Lib.hid (two_below _ _ _ _ hb2)
        clear hb hb2
        obtain ⟨ka, kb, kc⟩ := R
        go_wp2
        exact bodyPost_ret (v := .tuple #[.agg #[.int .i64 ka, .int .i64 kb], .int .i64 kc]) (by simp [results, Tryz.results31, go_sem, f0, f1]) rfl (bdSays rfl rfl rfl rfl ((HB.out.setCell (p := ⟨w.heap.size + 1, 0, none⟩) (by simp) _).setCell (p := ⟨w.heap.size + 1, 1, none⟩) (by simp) _))
      · rw [if_neg hl] at hR
        have HV := Lib.hid hR
        clear hR
        go_enter Tryz.func31, Tryz.ntmps31
        go_wp2_with fail
        refine (HR.out _ (two_grow _ _ _)).mono ?_; rintro e w1 ⟨rfl, hb⟩
        obtain ⟨_, f0, g0⟩ := two_cells _ _ _ _ _ _ hb 0
        obtain ⟨_, f1, g1⟩ := two_cells _ _ _ _ _ _ hb 1
        have HB := Lib.hid (two_below _ _ _ _ hb)
        clear hb
        go_wp2
        exact bodyPost_ret (v := .tuple #[.agg #[.int .i64 0, .int .i64 0], .int .i64 0]) (by simp [results, Tryz.results31, go_sem, f0, f1]) rfl (bdSays HV.out rfl rfl rfl ((HB.out.setCell (p := ⟨w.heap.size + 1, 0, none⟩) (by simp) _).setCell (p := ⟨w.heap.size + 1, 1, none⟩) (by simp) _))
end Go.Proofs.YthkgaaibhjkngaaGreatDoor
set_option linter.unusedVariables false
namespace Go.Proofs.YthkgaaibhjkngaaGreatDoor
open Go.RowKit

theorem head_ne {M : ByteArray} (h : M.data.toList ≠ [72, 69, 65, 68]) : (M.toList == [72, 69, 65, 68]) = false := by
  rw [toList_data']; simpa using h
theorem head_eq {M : ByteArray} (h : M.data.toList = [72, 69, 65, 68]) : (M.toList == [72, 69, 65, 68]) = true := by
  rw [toList_data']; simpa using h
theorem nob_yes {M : ByteArray} {st : Int} (h : M.data.toList = [72, 69, 65, 68] ∨ st = 204 ∨ st = 304) : nob M st = true := by
  unfold nob; simpa using h
theorem nob_no {M : ByteArray} {st : Int} (h1 : M.data.toList ≠ [72, 69, 65, 68]) (h2 : st ≠ 204) (h3 : st ≠ 304) : nob M st = false := by
  unfold nob; simp [h1, h2, h3]
set_option maxHeartbeats 16000000 in
set_option maxRecDepth 100000 in
theorem gresp_any (l : AL) (M T : ByteArray) (st : Int) (av : Option Addr) (n c : Nat) (w : World) (hn : l.length = n) (hs : SrcA w av c l) (hz : asz l ≤ 1073741824) :
    Calls Tryz.prog 30 #[.string M, .agg #[.int .i64 st, .string T, .slice av n c]] w (BdSays (fbody l (nob M st) 3) w) := by
  have hr := fun wx (hb : Below w.heap.size w wx) => read_any l av n c wx hn (hs.below (Nat.le_refl _) hb) hz
  have hp := fread_pos l
  obtain ⟨R, hR⟩ : ∃ R, R = fbody l (nob M st) 3 := ⟨_, rfl⟩
  rw [← hR]
  unfold fbody at hR
  generalize fread l = r at hr hp hR
  obtain ⟨ch, len, code⟩ := r
  simp only at hp hR
  have HR : Hid (∀ wx, Below w.heap.size w wx → Calls Tryz.prog 74 #[.slice av n c] wx fun e w' => e = .returned (.tuple #[.bool ch, .int .i64 len, .int .i64 code]) ∧ Below wx.heap.size wx w') := Lib.hid hr
  obtain ⟨hp0, hp1⟩ := hp
  clear hr hs hn hz
  by_cases hc : code = 0
  case neg =>
    rw [if_pos hc] at hR
    have e1 : (code == 0) = false := by simp [hc]
    have e2 : (code != 0) = true := by simp [hc]
    have HV := Lib.hid hR
    clear hR hc
    go_enter Tryz.func30, Tryz.ntmps30
    go_wp2_with fail
    refine (HR.out _ (two_grow _ _ _)).mono ?_; rintro e w1 ⟨rfl, hb⟩
    obtain ⟨s0, f0, g0⟩ := two_cells _ _ _ _ _ _ hb 0
    obtain ⟨_, f1, g1⟩ := two_cells _ _ _ _ _ _ hb 1
    have HB := Lib.hid (two_below _ _ _ _ hb)
    clear hb
    go_wp2
    exact bodyPost_ret (v := .tuple #[.agg #[.int .i64 0, .int .i64 0], .int .i64 code]) (by simp [results, Tryz.results30, go_sem, f0, f1]) rfl (bdSays HV.out rfl rfl rfl ((HB.out.setCell (p := ⟨w.heap.size + 1, 0, none⟩) (by simp) _).setCell (p := ⟨w.heap.size + 1, 1, none⟩) (by simp) _))
  case pos =>
    subst hc
    rw [if_neg (by simp)] at hR
    by_cases hM : M.data.toList = [72, 69, 65, 68]
    · rw [nob_yes (.inl hM), if_pos rfl] at hR
      have hm := head_eq hM
      have HV := Lib.hid hR
      clear hR hM
      go_enter Tryz.func30, Tryz.ntmps30
      go_wp2_with fail
      refine (HR.out _ (two_grow _ _ _)).mono ?_; rintro e w1 ⟨rfl, hb⟩
      obtain ⟨s0, f0, g0⟩ := two_cells _ _ _ _ _ _ hb 0
      obtain ⟨_, f1, g1⟩ := two_cells _ _ _ _ _ _ hb 1
      have HB := Lib.hid (two_below _ _ _ _ hb)
      clear hb
      go_wp2
      exact bodyPost_ret (v := .tuple #[.agg #[.int .i64 0, .int .i64 0], .int .i64 0]) (by simp [results, Tryz.results30, go_sem, f0, f1]) rfl (bdSays HV.out rfl rfl rfl ((HB.out.setCell (p := ⟨w.heap.size + 1, 0, none⟩) (by simp) _).setCell (p := ⟨w.heap.size + 1, 1, none⟩) (by simp) _))
    have hm := head_ne hM
    by_cases h2 : st = 204
    · rw [nob_yes (.inr (.inl h2)), if_pos rfl] at hR
      subst h2
      have HV := Lib.hid hR
      clear hR hM
      go_enter Tryz.func30, Tryz.ntmps30
      go_wp2_with fail
      refine (HR.out _ (two_grow _ _ _)).mono ?_; rintro e w1 ⟨rfl, hb⟩
      obtain ⟨s0, f0, g0⟩ := two_cells _ _ _ _ _ _ hb 0
      obtain ⟨_, f1, g1⟩ := two_cells _ _ _ _ _ _ hb 1
      have HB := Lib.hid (two_below _ _ _ _ hb)
      clear hb
      go_wp2
      exact bodyPost_ret (v := .tuple #[.agg #[.int .i64 0, .int .i64 0], .int .i64 0]) (by simp [results, Tryz.results30, go_sem, f0, f1]) rfl (bdSays HV.out rfl rfl rfl ((HB.out.setCell (p := ⟨w.heap.size + 1, 0, none⟩) (by simp) _).setCell (p := ⟨w.heap.size + 1, 1, none⟩) (by simp) _))
    have y2 : (st == 204) = false := by simp [h2]
    by_cases h3 : st = 304
    · rw [nob_yes (.inr (.inr h3)), if_pos rfl] at hR
      subst h3
      have HV := Lib.hid hR
      clear hR hM
      go_enter Tryz.func30, Tryz.ntmps30
      go_wp2_with fail
      refine (HR.out _ (two_grow _ _ _)).mono ?_; rintro e w1 ⟨rfl, hb⟩
      obtain ⟨s0, f0, g0⟩ := two_cells _ _ _ _ _ _ hb 0
      obtain ⟨_, f1, g1⟩ := two_cells _ _ _ _ _ _ hb 1
      have HB := Lib.hid (two_below _ _ _ _ hb)
      clear hb
      go_wp2
      exact bodyPost_ret (v := .tuple #[.agg #[.int .i64 0, .int .i64 0], .int .i64 0]) (by simp [results, Tryz.results30, go_sem, f0, f1]) rfl (bdSays HV.out rfl rfl rfl ((HB.out.setCell (p := ⟨w.heap.size + 1, 0, none⟩) (by simp) _).setCell (p := ⟨w.heap.size + 1, 1, none⟩) (by simp) _))
    have y3 : (st == 304) = false := by simp [h3]
    rw [nob_no hM h2 h3, if_neg (by simp)] at hR
    clear hM h2 h3
    cases ch with
    | true =>
      rw [if_pos rfl] at hR
      have HV := Lib.hid hR
      clear hR 
      go_enter Tryz.func30, Tryz.ntmps30
      go_wp2_with fail
      refine (HR.out _ (two_grow _ _ _)).mono ?_; rintro e w1 ⟨rfl, hb⟩
      obtain ⟨s0, f0, g0⟩ := two_cells _ _ _ _ _ _ hb 0
      obtain ⟨_, f1, g1⟩ := two_cells _ _ _ _ _ _ hb 1
      have HB := Lib.hid (two_below _ _ _ _ hb)
      clear hb
      go_wp2
      exact bodyPost_ret (v := .tuple #[.agg #[.int .i64 2, .int .i64 0], .int .i64 0]) (by simp [results, Tryz.results30, go_sem, f0, f1]) rfl (bdSays HV.out rfl rfl rfl ((HB.out.setCell (p := ⟨w.heap.size + 1, 0, none⟩) (by simp) _).setCell (p := ⟨w.heap.size + 1, 1, none⟩) (by simp) _))
    | false =>
      rw [if_neg (by simp)] at hR
      by_cases hl : 0 ≤ len
      · rw [if_pos hl] at hR
        have hm2 := fun wx => measured_any len wx hl hp1
        rw [← hR] at hm2
        have HM := Lib.hid hm2
        clear hR hm2
        go_enter Tryz.func30, Tryz.ntmps30
        go_wp2_with fail
        refine (HR.out _ (two_grow _ _ _)).mono ?_; rintro e w1 ⟨rfl, hb⟩
        have s0 := (two_cells _ _ _ _ _ _ hb 0).1
        have HB1 := Lib.hid hb
        clear hb
        go_wp2_with fail
        refine (HM.out _).mono ?_; rintro e w2 ⟨rfl, hb⟩
        have hb2 := app_low HB1.out hb
        clear s0
        obtain ⟨_, f0, g0⟩ := two_cells _ _ _ _ _ _ hb2 0
        obtain ⟨_, f1, g1⟩ := two_cells _ _ _ _ _ _ hb2 1
        have HB := Lib.hid (two_below _ _ _ _ hb2)
        clear hb hb2
        obtain ⟨ka, kb, kc⟩ := R
        go_wp2
        exact bodyPost_ret (v := .tuple #[.agg #[.int .i64 ka, .int .i64 kb], .int .i64 kc]) (by simp [results, Tryz.results30, go_sem, f0, f1]) rfl (bdSays rfl rfl rfl rfl ((HB.out.setCell (p := ⟨w.heap.size + 1, 0, none⟩) (by simp) _).setCell (p := ⟨w.heap.size + 1, 1, none⟩) (by simp) _))
      · rw [if_neg hl] at hR
        have HV := Lib.hid hR
        clear hR 
        go_enter Tryz.func30, Tryz.ntmps30
        go_wp2_with fail
        refine (HR.out _ (two_grow _ _ _)).mono ?_; rintro e w1 ⟨rfl, hb⟩
        obtain ⟨s0, f0, g0⟩ := two_cells _ _ _ _ _ _ hb 0
        obtain ⟨_, f1, g1⟩ := two_cells _ _ _ _ _ _ hb 1
        have HB := Lib.hid (two_below _ _ _ _ hb)
        clear hb
        go_wp2
        exact bodyPost_ret (v := .tuple #[.agg #[.int .i64 3, .int .i64 0], .int .i64 0]) (by simp [results, Tryz.results30, go_sem, f0, f1]) rfl (bdSays HV.out rfl rfl rfl ((HB.out.setCell (p := ⟨w.heap.size + 1, 0, none⟩) (by simp) _).setCell (p := ⟨w.heap.size + 1, 1, none⟩) (by simp) _))
end Go.Proofs.YthkgaaibhjkngaaGreatDoor
set_option linter.unusedVariables false
namespace Go.Proofs.YthkgaaibhjkngaaGreatDoor
open Go.RowKit

theorem ctl_all (X : ByteArray) (h : ctl X.data.toList = -1) (j : Nat) (hj : j < X.size) : qb X[j] = true := by
  unfold ctl at h
  split at h
  · rename_i k hk
    exfalso
    have : (k : Int) = -1 := h
    omega
  · rename_i hk
    rw [List.findIdx?_eq_none_iff] at hk
    have := hk X[j] (by rw [show X[j] = X.data.toList[j]'(by rw [len_data]; exact hj) from rfl]; exact List.getElem_mem _)
    simpa using this

set_option maxHeartbeats 8000000 in
theorem rwrong_any (X : ByteArray) (w : World) (hs : X.size ≤ 9223372036854775807) (hc : ctl X.data.toList = -1) :
    Calls Tryz.prog 51 #[.string X, .int .i64 0] w fun e w' => e = .returned (.int .i64 (-1)) ∧ w = w' := by
  have HC := Lib.hid (ctl_all X hc)
  clear hc
  go_enter Tryz.func51, Tryz.ntmps51
  go_wp2_with fail
  go_loopw [5] (fun i wr => ∃ k : Nat, k ≤ X.size ∧ i = .int .i64 k ∧ w = wr) (fun i _ => X.size - (intOf i).toNat)
  case atStart => exact ⟨0, by omega, rfl, rfl⟩
  case round =>
    obtain ⟨k, hk, rfl, rfl⟩ := hrel
    by_cases hlt : k < X.size
    · obtain ⟨C, hcq⟩ : ∃ c, X[k] = c := ⟨_, rfl⟩
      have hq := HC.out k hlt
      rw [hcq] at hq
      have hix : (X[k]? : Option UInt8) = some C := by rw [getElem?_pos X k hlt, hcq]
      have hc2 := C.toNat_lt
      rcases qb_cases C true hq with ⟨_, ⟨e1, e2⟩ | ⟨e1, e2⟩⟩ | ⟨e0, _⟩
      · have e3 : ((C.toNat : Int) == 9) = true := by simp [e1]
        have e4 : ((C.toNat : Int) == 127) = false := by simp [e1]
        go_wp2
        go_roundw
        case rel => exact ⟨k + 1, by omega, by go_num, trivial⟩
        case measure => simp [intOf]; omega
      · have e4 : ((C.toNat : Int) == 127) = false := by simp; omega
        go_wp2
        go_roundw
        case rel => exact ⟨k + 1, by omega, by go_num, trivial⟩
        case measure => simp [intOf]; omega
      · cases e0
    · go_wp2
      go_ret
      exact ⟨rfl, rfl⟩

set_option maxHeartbeats 8000000 in
set_option maxRecDepth 100000 in
theorem rrest_any (st : Int) (rs : ByteArray) (l : AL) (a : Option Addr) (n c : Nat) (w : World) (hn : l.length = n) (hs : SrcA w a c l) (hz : asz l ≤ 16777216) (h0 : 200 ≤ st) (h5 : st ≤ 599) (hr : (rgt l).2 = 0) (hc : ctl rs.data.toList = -1) (hrs : rs.size ≤ 1000) :
    Calls Tryz.prog 13 #[.agg #[.int .i64 st, .string rs, .slice a n c]] w fun e w' => e = .returned (.string (bnd (resT (mk (dstr st)) rs (fText l)))) ∧ Below w.heap.size w w' := by
  have hrg := fun wx (hb : Below w.heap.size w wx) => rRight_any l a n c wx hn (hs.below (Nat.le_refl _) hb) (by omega)
  have htx := fun wx (hb : Below w.heap.size w wx) => rftext_any l a n c wx hn (hs.below (Nat.le_refl _) hb) (by omega)
  have hdg := fun wx (hb : Below w.heap.size w wx) => rdig_any st (by omega) (by omega) wx
  have hct := fun wx => rwrong_any rs wx (by omega) hc
  have hft := fText_size l
  have hds := dstr_len st (by omega)
  rw [← mk_size] at hds
  obtain ⟨r, hrr⟩ : ∃ r, rgt l = r := ⟨_, rfl⟩
  rw [hrr] at hrg hr
  obtain ⟨r1, r2⟩ := r
  simp only at hr
  subst hr
  generalize fText l = FT at htx hft ⊢
  generalize mk (dstr st) = S at hdg hds ⊢
  have HBA : Hid (Below w.heap.size w (w.alloc (.cells #[.int .i64 st, .string rs, .slice a n c] 26))) := Lib.hid ((Below.refl _ _).alloc (Nat.le_refl _) _)
  have HR : Hid (∀ wx, Below w.heap.size w wx → Calls Tryz.prog 48 #[.slice a n c] wx fun e w' => e = .returned (.tuple #[.int .i64 r1, .int .i64 0]) ∧ Below wx.heap.size wx w') := Lib.hid hrg
  have HTX := Lib.hid htx
  have HDG := Lib.hid hdg
  have HCT := Lib.hid hct
  obtain ⟨O, hO⟩ : ∃ O, O = bnd (resT S rs FT) := ⟨_, rfl⟩
  have HO := Lib.hid hO
  rw [← hO]
  have g1 : ¬ 9223372036854775807 < 9 + S.size := by omega
  have g2 : ¬ 9223372036854775807 < 9 + S.size + 1 := by omega
  have g3 : ¬ 9223372036854775807 < 9 + S.size + 1 + rs.size := by omega
  have g4 : ¬ 9223372036854775807 < 9 + S.size + 1 + rs.size + 2 := by omega
  have g5 : ¬ 9223372036854775807 < 9 + S.size + 1 + rs.size + 2 + FT.size := by omega
  have g6 : ¬ 9223372036854775807 < 9 + S.size + 1 + rs.size + 2 + FT.size + 2 := by omega
  clear hrg htx hdg hct hs hn hz hrr hc hO
  go_enter Tryz.func13, Tryz.ntmps13
  go_wp2_with fail
  refine (HR.out _ HBA.out).mono ?_; rintro e w1 ⟨rfl, hb⟩
  have p0 : w1.cell? ⟨w.heap.size, 0, none⟩ = some (.int .i64 st) := (res_cells w w1 _ _ hb 0).1.1
  have p1 : w1.cell? ⟨w.heap.size, 1, none⟩ = some (.string rs) := (res_cells w w1 _ _ hb 1).1.1
  have p2 : w1.cell? ⟨w.heap.size, 2, none⟩ = some (.slice a n c) := (res_cells w w1 _ _ hb 2).1.1
  have hz1 : w.heap.size < w1.heap.size := by have := hb.size; simp at this; omega
  have HB1 := Lib.hid (HBA.out.trans (hb.mono HBA.out.size))
  clear hb
  go_wp2_with fail
  refine (HCT.out _).mono ?_; rintro e w2 ⟨rfl, rfl⟩
  go_wp2_with fail
  have KT : Hid (∀ x y : World, (Below w1.heap.size w1 x ∧ x.cell? ⟨w.heap.size, 0, none⟩ = some (.int .i64 st) ∧ x.cell? ⟨w.heap.size, 1, none⟩ = some (.string rs) ∧ x.cell? ⟨w.heap.size, 2, none⟩ = some (.slice a n c)) → Below x.heap.size x y →
      (Below w1.heap.size w1 y ∧ y.cell? ⟨w.heap.size, 0, none⟩ = some (.int .i64 st) ∧ y.cell? ⟨w.heap.size, 1, none⟩ = some (.string rs) ∧ y.cell? ⟨w.heap.size, 2, none⟩ = some (.slice a n c))) := Lib.hid fun x y ⟨h1, h2, h3, h4⟩ hb =>
    ⟨h1.trans (hb.mono h1.size), (hb.cell (p := ⟨w.heap.size, 0, none⟩) (Nat.lt_of_lt_of_le hz1 h1.size)).trans h2, (hb.cell (p := ⟨w.heap.size, 1, none⟩) (Nat.lt_of_lt_of_le hz1 h1.size)).trans h3, (hb.cell (p := ⟨w.heap.size, 2, none⟩) (Nat.lt_of_lt_of_le hz1 h1.size)).trans h4⟩
  have KD : Hid (Below w1.heap.size w1 w1.drew ∧ w1.drew.cell? ⟨w.heap.size, 0, none⟩ = some (.int .i64 st) ∧ w1.drew.cell? ⟨w.heap.size, 1, none⟩ = some (.string rs) ∧ w1.drew.cell? ⟨w.heap.size, 2, none⟩ = some (.slice a n c)) := Lib.hid ⟨(Below.refl _ _).drew, p0, p1, p2⟩
  have GD := Lib.hid fun wx (h : Below w1.heap.size w1 wx ∧ wx.cell? ⟨w.heap.size, 0, none⟩ = some (.int .i64 st) ∧ wx.cell? ⟨w.heap.size, 1, none⟩ = some (.string rs) ∧ wx.cell? ⟨w.heap.size, 2, none⟩ = some (.slice a n c)) => HDG.out wx (HB1.out.trans (h.1.mono HB1.out.size))
  have GT := Lib.hid fun wx (h : Below w1.heap.size w1 wx ∧ wx.cell? ⟨w.heap.size, 0, none⟩ = some (.int .i64 st) ∧ wx.cell? ⟨w.heap.size, 1, none⟩ = some (.string rs) ∧ wx.cell? ⟨w.heap.size, 2, none⟩ = some (.slice a n c)) => HTX.out wx (HB1.out.trans (h.1.mono HB1.out.size))
  have KE := Lib.hid fun wx (h : Below w1.heap.size w1 wx ∧ wx.cell? ⟨w.heap.size, 0, none⟩ = some (.int .i64 st) ∧ wx.cell? ⟨w.heap.size, 1, none⟩ = some (.string rs) ∧ wx.cell? ⟨w.heap.size, 2, none⟩ = some (.slice a n c)) => HB1.out.trans (h.1.mono HB1.out.size)
  go_region_held3 (fun w' => Below w1.heap.size w1 w' ∧ w'.cell? ⟨w.heap.size, 0, none⟩ = some (.int .i64 st) ∧ w'.cell? ⟨w.heap.size, 1, none⟩ = some (.string rs) ∧ w'.cell? ⟨w.heap.size, 2, none⟩ = some (.slice a n c)) (first | exact KD.out | exact KT.out _ _ (by assumption) (by assumption) | assumption)
    (first
      | (go_at_call 52; refine (GD.out _ ?_).mono ?_; assumption; rintro e w' ⟨rfl, hb⟩)
      | (go_at_call 50; refine (GT.out _ ?_).mono ?_; assumption; rintro e w' ⟨rfl, hb⟩))
  have HE := Lib.hid (KE.out _ (by assumption))
  by_cases hbz : 2048 < (resT S rs FT).size
  · have HO2 : Hid (O = ⟨#[]⟩) := Lib.hid (by rw [HO.out]; unfold bnd; rw [if_pos hbz])
    simp only [resT, ByteArray.size_append] at hbz
    have hbz2 : 2048 < 9 + S.size + 1 + rs.size + 2 + FT.size + 2 := hbz
    go_wp2
    go_ret
    exact ⟨by rw [HO2.out]; rfl, HE.out⟩
  · have HO2 : Hid (O = resT S rs FT) := Lib.hid (by rw [HO.out]; unfold bnd; rw [if_neg hbz])
    simp only [resT, ByteArray.size_append] at hbz
    have hbz2 : ¬ 2048 < 9 + S.size + 1 + rs.size + 2 + FT.size + 2 := hbz
    go_wp2
    go_ret
    exact ⟨by rw [HO2.out]; rfl, HE.out⟩
end Go.Proofs.YthkgaaibhjkngaaGreatDoor
set_option linter.unusedVariables false
namespace Go.Proofs.YthkgaaibhjkngaaGreatDoor
open Go.RowKit

set_option maxHeartbeats 8000000 in
set_option maxRecDepth 100000 in
theorem rfail_any (st : Int) (wd : ByteArray) (n : Nat) (bare : Bool) (w : World) (h0 : 200 ≤ st) (h5 : st ≤ 599) (hwd : (wd.toList == []) = false) (hn : wd.size = n) (hnb : n ≤ 100) (hc : ctl wd.data.toList = -1) (hr : (rgt (failL ((n : Int) + 1))).2 = 0) (haz : asz (failL ((n : Int) + 1)) ≤ 16777216)
    (hrs : ∀ wx, Calls Tryz.prog 67 #[.int .i64 st] wx fun e w' => e = .returned (.string wd) ∧ wx = w') :
    Calls Tryz.prog 28 #[.int .i64 st, .bool bare] w fun e w' => e = .returned (.string (failT st ((n : Int) + 1) wd bare)) ∧ Below w.heap.size w w' := by
  obtain ⟨k, hk⟩ : ∃ k : Int, k = (n : Int) + 1 := ⟨_, rfl⟩
  rw [← hk] at hr haz ⊢
  have hrt := fun (a : Option Addr) c wx (hs : SrcA wx a c (failL k)) => rrest_any st wd (failL k) a 4 c wx rfl hs haz h0 h5 hr hc (by omega)
  have hsz := fun wx => rdig_any k (by omega) (by omega) wx
  have hlit := fun wx => lit_flds (failL k) #[.string ⟨#[67, 111, 110, 116, 101, 110, 116, 45, 84, 121, 112, 101]⟩, .string ⟨#[116, 101, 120, 116, 47, 112, 108, 97, 105, 110, 59, 32, 99, 104, 97, 114, 115, 101, 116, 61, 117, 116, 102, 45, 56]⟩, .string kCTO, .string kNos, .string kLen, .string (mk (dstr k)), .string kConn, .string kClos] rfl wx
  have htb : (bnd (resT (mk (dstr st)) wd (fText (failL k)))).size ≤ 2048 := by unfold bnd; split; exact Nat.zero_le _; omega
  have hl4 : (failL k).length = 4 := rfl
  obtain ⟨R, hR⟩ : ∃ R, R = failT st k wd bare := ⟨_, rfl⟩
  rw [← hR]
  unfold failT at hR
  generalize bnd (resT (mk (dstr st)) wd (fText (failL k))) = T at hrt hR htb
  generalize failL k = FL at hrt hlit hl4
  simp only [hl4] at hlit
  have HSZ : Hid (∀ wx, Calls Tryz.prog 52 #[.int .i64 k] wx fun e w' => e = .returned (.string (mk (dstr k))) ∧ Below wx.heap.size wx w') := Lib.hid hsz
  have HLIT : Hid (∀ wx : World, SrcA (wx.alloc (.cells #[.string ⟨#[67, 111, 110, 116, 101, 110, 116, 45, 84, 121, 112, 101]⟩, .string ⟨#[116, 101, 120, 116, 47, 112, 108, 97, 105, 110, 59, 32, 99, 104, 97, 114, 115, 101, 116, 61, 117, 116, 102, 45, 56]⟩, .string ⟨#[88, 45, 67, 111, 110, 116, 101, 110, 116, 45, 84, 121, 112, 101, 45, 79, 112, 116, 105, 111, 110, 115]⟩, .string ⟨#[110, 111, 115, 110, 105, 102, 102]⟩, .string ⟨#[67, 111, 110, 116, 101, 110, 116, 45, 76, 101, 110, 103, 116, 104]⟩, .string (mk (dstr k)), .string ⟨#[67, 111, 110, 110, 101, 99, 116, 105, 111, 110]⟩, .string ⟨#[99, 108, 111, 115, 101]⟩] 37)) (some ⟨wx.heap.size, 0, none⟩) 4 FL) := Lib.hid hlit
  generalize mk (dstr k) = DK at HSZ HLIT
  have HRT := Lib.hid hrt
  have HRS := Lib.hid hrs
  have j3 : (wd.size : Int) + 1 = k := by rw [hn, hk]
  rw [hk] at HSZ
  have g0 : ¬ 9223372036854775807 < n + 1 := by omega
  have g1 : ¬ 9223372036854775807 < T.size + n := by omega
  have g2 : ¬ 9223372036854775807 < T.size + n + 1 := by omega
  have HV := Lib.hid hR
  clear hrt hsz hlit hk hr haz hrs hR hc h0 h5 htb
  go_enter Tryz.func28, Tryz.ntmps28
  go_wp2_with fail
  refine (HRS.out _).mono ?_; rintro e w0 ⟨rfl, rfl⟩
  go_wp2_with fail
  refine (HSZ.out _).mono ?_; rintro e w2 ⟨rfl, hb⟩
  have HB2 := Lib.hid hb
  clear hb
  have HS3 := Lib.hid (HLIT.out w2)
  have HBL : Hid (Below w.heap.size w (w2.alloc (.cells #[.string ⟨#[67, 111, 110, 116, 101, 110, 116, 45, 84, 121, 112, 101]⟩, .string ⟨#[116, 101, 120, 116, 47, 112, 108, 97, 105, 110, 59, 32, 99, 104, 97, 114, 115, 101, 116, 61, 117, 116, 102, 45, 56]⟩, .string ⟨#[88, 45, 67, 111, 110, 116, 101, 110, 116, 45, 84, 121, 112, 101, 45, 79, 112, 116, 105, 111, 110, 115]⟩, .string ⟨#[110, 111, 115, 110, 105, 102, 102]⟩, .string ⟨#[67, 111, 110, 116, 101, 110, 116, 45, 76, 101, 110, 103, 116, 104]⟩, .string DK, .string ⟨#[67, 111, 110, 110, 101, 99, 116, 105, 111, 110]⟩, .string ⟨#[99, 108, 111, 115, 101]⟩] 37))) := Lib.hid (HB2.out.alloc HB2.out.size _)
  go_wp2_with fail
  refine (HRT.out _ _ _ HS3.out).mono ?_; rintro e w4 ⟨rfl, hb⟩
  have HB4 := Lib.hid (HBL.out.trans (hb.mono HBL.out.size))
  clear hb
  cases bare with
  | true =>
    have HV2 : Hid (R = T) := Lib.hid (by rw [HV.out, if_pos rfl])
    go_wp2
    go_ret
    exact ⟨by rw [HV2.out]; rfl, HB4.out⟩
  | false =>
    have HV2 : Hid (R = T ++ wd ++ (⟨#[10]⟩ : ByteArray)) := Lib.hid (by rw [HV.out, if_neg (by decide), ByteArray.append_assoc])
    go_wp2
    go_ret
    exact ⟨by rw [HV2.out]; rfl, HB4.out⟩
theorem whyOf400 (w : World) : Calls Tryz.prog 66 #[.int .i64 400] w fun e w' => e = .returned (.string ⟨#[66, 97, 100, 32, 82, 101, 113, 117, 101, 115, 116]⟩) ∧ w = w' := by
  go_enter Tryz.func66, Tryz.ntmps66
  go_wp2
  go_ret
  exact ⟨rfl, rfl⟩
theorem whyOf408 (w : World) : Calls Tryz.prog 66 #[.int .i64 408] w fun e w' => e = .returned (.string ⟨#[82, 101, 113, 117, 101, 115, 116, 32, 84, 105, 109, 101, 111, 117, 116]⟩) ∧ w = w' := by
  go_enter Tryz.func66, Tryz.ntmps66
  go_wp2
  go_ret
  exact ⟨rfl, rfl⟩
theorem whyOf413 (w : World) : Calls Tryz.prog 66 #[.int .i64 413] w fun e w' => e = .returned (.string ⟨#[67, 111, 110, 116, 101, 110, 116, 32, 84, 111, 111, 32, 76, 97, 114, 103, 101]⟩) ∧ w = w' := by
  go_enter Tryz.func66, Tryz.ntmps66
  go_wp2
  go_ret
  exact ⟨rfl, rfl⟩
theorem whyOf502 (w : World) : Calls Tryz.prog 66 #[.int .i64 502] w fun e w' => e = .returned (.string ⟨#[66, 97, 100, 32, 71, 97, 116, 101, 119, 97, 121]⟩) ∧ w = w' := by
  go_enter Tryz.func66, Tryz.ntmps66
  go_wp2
  go_ret
  exact ⟨rfl, rfl⟩
theorem whyOf504 (w : World) : Calls Tryz.prog 66 #[.int .i64 504] w fun e w' => e = .returned (.string ⟨#[71, 97, 116, 101, 119, 97, 121, 32, 84, 105, 109, 101, 111, 117, 116]⟩) ∧ w = w' := by
  go_enter Tryz.func66, Tryz.ntmps66
  go_wp2
  go_ret
  exact ⟨rfl, rfl⟩
theorem whyOfNo (st : Int) (h1 : st ≠ 400) (h2 : st ≠ 408) (h3 : st ≠ 413) (h4 : st ≠ 502) (h5 : st ≠ 504) (w : World) : Calls Tryz.prog 66 #[.int .i64 st] w fun e w' => e = .returned (.string ⟨#[]⟩) ∧ w = w' := by
  have e1 : (st == 400) = false := by simp [h1]
  have e2 : (st == 408) = false := by simp [h2]
  have e3 : (st == 413) = false := by simp [h3]
  have e4 : (st == 502) = false := by simp [h4]
  have e5 : (st == 504) = false := by simp [h5]
  go_enter Tryz.func66, Tryz.ntmps66
  go_wp2
  go_ret
  exact ⟨rfl, rfl⟩
theorem words400 (w : World) : Calls Tryz.prog 67 #[.int .i64 400] w fun e w' => e = .returned (.string ⟨#[66, 97, 100, 32, 82, 101, 113, 117, 101, 115, 116]⟩) ∧ w = w' := by
  go_enter Tryz.func67, Tryz.ntmps67
  go_wp2
  go_ret
  exact ⟨rfl, rfl⟩
theorem words408 (w : World) : Calls Tryz.prog 67 #[.int .i64 408] w fun e w' => e = .returned (.string ⟨#[82, 101, 113, 117, 101, 115, 116, 32, 84, 105, 109, 101, 111, 117, 116]⟩) ∧ w = w' := by
  go_enter Tryz.func67, Tryz.ntmps67
  go_wp2
  go_ret
  exact ⟨rfl, rfl⟩
theorem words413 (w : World) : Calls Tryz.prog 67 #[.int .i64 413] w fun e w' => e = .returned (.string ⟨#[67, 111, 110, 116, 101, 110, 116, 32, 84, 111, 111, 32, 76, 97, 114, 103, 101]⟩) ∧ w = w' := by
  go_enter Tryz.func67, Tryz.ntmps67
  go_wp2
  go_ret
  exact ⟨rfl, rfl⟩
theorem words502 (w : World) : Calls Tryz.prog 67 #[.int .i64 502] w fun e w' => e = .returned (.string ⟨#[66, 97, 100, 32, 71, 97, 116, 101, 119, 97, 121]⟩) ∧ w = w' := by
  go_enter Tryz.func67, Tryz.ntmps67
  go_wp2
  go_ret
  exact ⟨rfl, rfl⟩
theorem words504 (w : World) : Calls Tryz.prog 67 #[.int .i64 504] w fun e w' => e = .returned (.string ⟨#[71, 97, 116, 101, 119, 97, 121, 32, 84, 105, 109, 101, 111, 117, 116]⟩) ∧ w = w' := by
  go_enter Tryz.func67, Tryz.ntmps67
  go_wp2
  go_ret
  exact ⟨rfl, rfl⟩
theorem wordsNo (st : Int) (h1 : st ≠ 400) (h2 : st ≠ 408) (h3 : st ≠ 413) (h4 : st ≠ 502) (h5 : st ≠ 504) (w : World) : Calls Tryz.prog 67 #[.int .i64 st] w fun e w' => e = .returned (.string ⟨#[]⟩) ∧ w = w' := by
  have e1 : (st == 400) = false := by simp [h1]
  have e2 : (st == 408) = false := by simp [h2]
  have e3 : (st == 413) = false := by simp [h3]
  have e4 : (st == 502) = false := by simp [h4]
  have e5 : (st == 504) = false := by simp [h5]
  go_enter Tryz.func67, Tryz.ntmps67
  go_wp2
  go_ret
  exact ⟨rfl, rfl⟩
theorem fk12_len : flen (failL 12) = some 12 := by
  have hm : memF (allF (failL 12) kCL) = some [[49, 50]] := by kernel_rfl
  have h : Num.meant 10 [49, 50] = (12, 0) := Num.meant_ok 10 _ (by simp) (by unfold Num.good; decide) (by decide)
  unfold flen
  rw [hm]
  simp [lenM, lenF, h]
theorem fk12_body : fbody (failL 12) false 3 = ⟨1, 12, 0⟩ := by
  have h1 : (allF (failL 12) kTE).length = 0 := by kernel_rfl
  have h2 : (allF (failL 12) kCL).length = 1 := by kernel_rfl
  unfold fbody fread
  rw [h1, h2, fk12_len]
  simp
theorem fk16_len : flen (failL 16) = some 16 := by
  have hm : memF (allF (failL 16) kCL) = some [[49, 54]] := by kernel_rfl
  have h : Num.meant 10 [49, 54] = (16, 0) := Num.meant_ok 10 _ (by simp) (by unfold Num.good; decide) (by decide)
  unfold flen
  rw [hm]
  simp [lenM, lenF, h]
theorem fk16_body : fbody (failL 16) false 3 = ⟨1, 16, 0⟩ := by
  have h1 : (allF (failL 16) kTE).length = 0 := by kernel_rfl
  have h2 : (allF (failL 16) kCL).length = 1 := by kernel_rfl
  unfold fbody fread
  rw [h1, h2, fk16_len]
  simp
theorem fk18_len : flen (failL 18) = some 18 := by
  have hm : memF (allF (failL 18) kCL) = some [[49, 56]] := by kernel_rfl
  have h : Num.meant 10 [49, 56] = (18, 0) := Num.meant_ok 10 _ (by simp) (by unfold Num.good; decide) (by decide)
  unfold flen
  rw [hm]
  simp [lenM, lenF, h]
theorem fk18_body : fbody (failL 18) false 3 = ⟨1, 18, 0⟩ := by
  have h1 : (allF (failL 18) kTE).length = 0 := by kernel_rfl
  have h2 : (allF (failL 18) kCL).length = 1 := by kernel_rfl
  unfold fbody fread
  rw [h1, h2, fk18_len]
  simp
/-- a failure that is told -/
structure Told (st : Int) (wd : ByteArray) (n : Nat) : Prop where
  h0 : 200 ≤ st
  h5 : st ≤ 599
  hwd : (wd.toList == []) = false
  hn : wd.size = n
  hnb : n ≤ 100
  hc : ctl wd.data.toList = -1
  hr : (rgt (failL ((n : Int) + 1))).2 = 0
  haz : asz (failL ((n : Int) + 1)) ≤ 16777216
  hrs : ∀ wx, Calls Tryz.prog 66 #[.int .i64 st] wx fun e w' => e = .returned (.string wd) ∧ wx = w'
  hqs : ∀ wx, Calls Tryz.prog 67 #[.int .i64 st] wx fun e w' => e = .returned (.string wd) ∧ wx = w'
  parse : ∃ s : Nat, (s : Int) = st ∧ resF (failT st ((n : Int) + 1) wd true).data.toList = .ok (s, wd, failL ((n : Int) + 1))
  body : fbody (failL ((n : Int) + 1)) false 3 = ⟨1, (n : Int) + 1, 0⟩
  nob : nob ⟨#[71, 69, 84]⟩ st = false
  keep : keepsF (failL ((n : Int) + 1)) = false
  size : (failT st ((n : Int) + 1) wd true).size ≤ 2048
  some : 0 < (failT st ((n : Int) + 1) wd true).size
set_option maxRecDepth 100000 in
theorem told400 : Told 400 ⟨#[66, 97, 100, 32, 82, 101, 113, 117, 101, 115, 116]⟩ 11 where
  h0 := by decide
  h5 := by decide
  hwd := by rw [toList_data']; decide
  hn := rfl
  hnb := by decide
  hc := by kernel_rfl
  hr := by kernel_rfl
  haz := of_decide_eq_true (by kernel_rfl)
  hrs := whyOf400
  hqs := words400
  parse := ⟨400, rfl, by kernel_rfl⟩
  body := fk12_body
  nob := by decide
  keep := by kernel_rfl
  size := of_decide_eq_true (by kernel_rfl)
  some := of_decide_eq_true (by kernel_rfl)
set_option maxRecDepth 100000 in
theorem told408 : Told 408 ⟨#[82, 101, 113, 117, 101, 115, 116, 32, 84, 105, 109, 101, 111, 117, 116]⟩ 15 where
  h0 := by decide
  h5 := by decide
  hwd := by rw [toList_data']; decide
  hn := rfl
  hnb := by decide
  hc := by kernel_rfl
  hr := by kernel_rfl
  haz := of_decide_eq_true (by kernel_rfl)
  hrs := whyOf408
  hqs := words408
  parse := ⟨408, rfl, by kernel_rfl⟩
  body := fk16_body
  nob := by decide
  keep := by kernel_rfl
  size := of_decide_eq_true (by kernel_rfl)
  some := of_decide_eq_true (by kernel_rfl)
set_option maxRecDepth 100000 in
theorem told413 : Told 413 ⟨#[67, 111, 110, 116, 101, 110, 116, 32, 84, 111, 111, 32, 76, 97, 114, 103, 101]⟩ 17 where
  h0 := by decide
  h5 := by decide
  hwd := by rw [toList_data']; decide
  hn := rfl
  hnb := by decide
  hc := by kernel_rfl
  hr := by kernel_rfl
  haz := of_decide_eq_true (by kernel_rfl)
  hrs := whyOf413
  hqs := words413
  parse := ⟨413, rfl, by kernel_rfl⟩
  body := fk18_body
  nob := by decide
  keep := by kernel_rfl
  size := of_decide_eq_true (by kernel_rfl)
  some := of_decide_eq_true (by kernel_rfl)
set_option maxRecDepth 100000 in
theorem told502 : Told 502 ⟨#[66, 97, 100, 32, 71, 97, 116, 101, 119, 97, 121]⟩ 11 where
  h0 := by decide
  h5 := by decide
  hwd := by rw [toList_data']; decide
  hn := rfl
  hnb := by decide
  hc := by kernel_rfl
  hr := by kernel_rfl
  haz := of_decide_eq_true (by kernel_rfl)
  hrs := whyOf502
  hqs := words502
  parse := ⟨502, rfl, by kernel_rfl⟩
  body := fk12_body
  nob := by decide
  keep := by kernel_rfl
  size := of_decide_eq_true (by kernel_rfl)
  some := of_decide_eq_true (by kernel_rfl)
set_option maxRecDepth 100000 in
theorem told504 : Told 504 ⟨#[71, 97, 116, 101, 119, 97, 121, 32, 84, 105, 109, 101, 111, 117, 116]⟩ 15 where
  h0 := by decide
  h5 := by decide
  hwd := by rw [toList_data']; decide
  hn := rfl
  hnb := by decide
  hc := by kernel_rfl
  hr := by kernel_rfl
  haz := of_decide_eq_true (by kernel_rfl)
  hrs := whyOf504
  hqs := words504
  parse := ⟨504, rfl, by kernel_rfl⟩
  body := fk16_body
  nob := by decide
  keep := by kernel_rfl
  size := of_decide_eq_true (by kernel_rfl)
  some := of_decide_eq_true (by kernel_rfl)
end Go.Proofs.YthkgaaibhjkngaaGreatDoor
set_option linter.unusedVariables false
namespace Go.Proofs.YthkgaaibhjkngaaGreatDoor
open Go.RowKit

theorem fail_no (st : Int) (bare : Bool) (w : World) (hrs : ∀ wx, Calls Tryz.prog 66 #[.int .i64 st] wx fun e w' => e = .returned (.string ⟨#[]⟩) ∧ wx = w') :
    Calls Tryz.prog 27 #[.int .i64 st, .bool bare] w fun e w' => e = .returned (.slice none 0 0) ∧ w = w' := by
  go_enter Tryz.func27, Tryz.ntmps27
  go_wp2_with fail
  refine (hrs _).mono ?_; rintro e w0 ⟨rfl, rfl⟩
  go_wp2
  go_ret
  exact ⟨rfl, rfl⟩
theorem rfail_no (st : Int) (bare : Bool) (w : World) (hrs : ∀ wx, Calls Tryz.prog 67 #[.int .i64 st] wx fun e w' => e = .returned (.string ⟨#[]⟩) ∧ wx = w') :
    Calls Tryz.prog 28 #[.int .i64 st, .bool bare] w fun e w' => e = .returned (.string ⟨#[]⟩) ∧ w = w' := by
  go_enter Tryz.func28, Tryz.ntmps28
  go_wp2_with fail
  refine (hrs _).mono ?_; rintro e w0 ⟨rfl, rfl⟩
  go_wp2
  go_ret
  exact ⟨rfl, rfl⟩
theorem conv_nil (W : World) : (convert 45 9 (.slice none 0 0)).run Tryz.prog W = .ok (.string ⟨#[]⟩) W := conv_src W none 0 [] (by exact src_nil W)

set_option maxHeartbeats 32000000 in
set_option maxRecDepth 100000 in
theorem hardenFails_no (st : Int) (bare : Bool) (w : World) (ht : TabP w) (h1 : st ≠ 400) (h2 : st ≠ 408) (h3 : st ≠ 413) (h4 : st ≠ 502) (h5 : st ≠ 504) :
    Calls Tryz.prog 6 #[.int .i64 st, .bool bare] w fun e w' => e = .returned (.bool true) ∧ Below w.heap.size w w' := by
  have HT0 := Lib.hid ht
  have H0 := Lib.hid fun wx (hb : Below w.heap.size w wx) => shown21_any wx (HT0.out.below hb)
  have HF := Lib.hid fun wx => fail_no st bare wx (whyOfNo st h1 h2 h3 h4 h5)
  have HR := Lib.hid fun wx => rfail_no st bare wx (wordsNo st h1 h2 h3 h4 h5)
  have HC := Lib.hid conv_nil
  clear ht h1 h2 h3 h4 h5
  go_enter Tryz.func6, Tryz.ntmps6
  go_wp2_with fail
  refine (H0.out _ (Below.refl _ _)).mono ?_; rintro e w1 ⟨rfl, hb⟩
  have HB1 := Lib.hid hb
  clear hb
  go_wp2_with fail
  go_loopw [6] (fun i wr => ∃ t : Nat, t ≤ 2 ∧ i = .int .i64 t ∧ w1 = wr) (fun i _ => 2 - (intOf i).toNat)
  case atStart => exact ⟨0, by omega, rfl, rfl⟩
  case round =>
    obtain ⟨tw, htw, rfl, rfl⟩ := hrel
    by_cases hlt : tw < 2
    case neg =>
      go_wp2
      go_ret
      exact ⟨rfl, HB1.out⟩
    case pos =>
      go_wp2_with fail
      refine (HF.out _).mono ?_; rintro e w5 ⟨rfl, rfl⟩
      go_wp2_with fail
      simp only [HC.out, Result.andThen]
      go_wp2_with fail
      refine (HR.out _).mono ?_; rintro e w5 ⟨rfl, rfl⟩
      go_wp2_with fail
      go_loopw [9] (fun i wi => i = .int .i64 0 ∧ w1 = wi) (fun i _ => 0)
      case atStart => exact ⟨rfl, rfl⟩
      case round =>
        obtain ⟨rfl, rfl⟩ := hrel
        go_wp2
        go_roundw
        case rel => exact ⟨tw + 1, by omega, by go_num, trivial⟩
        case measure => simp [intOf]; omega
end Go.Proofs.YthkgaaibhjkngaaGreatDoor
set_option linter.unusedVariables false
namespace Go.Proofs.YthkgaaibhjkngaaGreatDoor
open Go.RowKit

theorem set_some9 {w : World} {p q : Addr} {u : Value} (h : (w.cell? p).isSome = true) : ((w.setCell q u).cell? p).isSome = true := by
  by_cases e : p = q
  · subst e
    obtain ⟨x, hx⟩ := Option.isSome_iff_exists.1 h
    rw [World.cell?_setCell_same _ _ _ hx]; rfl
  · rw [World.cell?_setCell_other _ _ _ _ (Ne.symm e)]; exact h
theorem kept_y (w w2 : World) (cs : Array Value) (t : TypeId) (hb : Below (w.alloc (.cells cs t)).heap.size (w.alloc (.cells cs t)) w2) (j : Nat) :
    w2.cell? ⟨w.heap.size, j, none⟩ = cs[j]? := (hb.cell (p := ⟨w.heap.size, j, none⟩) (by simp)).trans (at_alloc w cs t j).1
theorem bytes_one (l : List UInt8) (v : Value) (w : World) (B : Nat) (h : OwnC w B v l) : ∃ g c, v = .slice (some ⟨g, 0, none⟩) l.length c ∧ Src w (some ⟨g, 0, none⟩) c l ∧ B ≤ g ∧ g < w.heap.size ∧
    (∀ j, j < l.length → (w.cell? ⟨g, j, none⟩).isSome = true ∧ w.frozen? ⟨g, j, none⟩ = false) := by
  obtain ⟨g, c, h1, h2, h3, h4, h5, h6, h7⟩ := h
  refine ⟨g, c, h1, ⟨.inr ⟨g, 0, rfl, h3, fun j hj => by rw [Nat.zero_add]; exact h6 j hj⟩, h4, h5, fun h => by cases h⟩, h2, h3, fun j hj => ?_⟩
  exact h7 j (by omega)

set_option maxHeartbeats 64000000 in
set_option maxRecDepth 100000 in
theorem hardenFails_told (st : Int) (wd : ByteArray) (n : Nat) (T : Told st wd n) (bare : Bool) (w : World) (ht : TabP w) :
    Calls Tryz.prog 6 #[.int .i64 st, .bool bare] w fun e w' => e = .returned (.bool true) ∧ Below w.heap.size w w' := by
  have HT0 := Lib.hid ht
  have H0 := Lib.hid fun wx (hb : Below w.heap.size w wx) => shown21_any wx (HT0.out.below hb)
  have hF := fun (b : Bool) wx (hb : Below w.heap.size w wx) => fail_any st wd n b wx (HT0.out.below hb) T.h0 T.h5 T.hwd T.hn T.hnb T.hc T.hr T.haz T.hrs
  have hR := fun (b : Bool) wx => rfail_any st wd n b wx T.h0 T.h5 T.hwd T.hn T.hnb T.hc T.hr T.haz T.hqs
  obtain ⟨s, hs, hparse⟩ := T.parse
  have hP := fun wx => response_any (failT st ((n : Int) + 1) wd true) wx (by have := T.size; omega)
  rw [hparse] at hP
  have hG := fun (a : Option Addr) c wx (h : SrcA wx a c (failL ((n : Int) + 1))) => gresp_any (failL ((n : Int) + 1)) ⟨#[71, 69, 84]⟩ wd st a 4 c wx rfl h (by have := T.haz; omega)
  rw [T.nob, T.body] at hG
  have hK := fun (a : Option Addr) c wx (h : SrcA wx a c (failL ((n : Int) + 1))) => keepsF_any (failL ((n : Int) + 1)) a 4 c wx rfl h (by have := T.haz; omega)
  rw [T.keep] at hK
  have hft : failT st ((n : Int) + 1) wd false = failT st ((n : Int) + 1) wd true ++ (wd ++ (⟨#[10]⟩ : ByteArray)) := by simp [failT]
  have hz2 := T.size
  have hz0 := T.some
  have hwn := T.hn
  have hnb := T.hnb
  have hl4 : (failL ((n : Int) + 1)).length = 4 := rfl
  generalize failL ((n : Int) + 1) = FL at hP hG hK hl4
  obtain ⟨Q, hQ⟩ : ∃ Q, failT st ((n : Int) + 1) wd true = Q := ⟨_, rfl⟩
  have HFT : Hid (∀ wx, Below w.heap.size w wx → Calls Tryz.prog 27 #[.int .i64 st, .bool true] wx (BytesSays Q.data.toList wx)) := Lib.hid (by rw [← hQ]; exact hF true)
  rw [hQ] at hP hft hz2 hz0
  have HP : Hid (∀ wx, Calls Tryz.prog 29 #[.string Q] wx fun e w' => Below wx.heap.size wx w' ∧ ∃ v, e = .returned (.tuple #[.agg #[.int .i64 st, .string wd, v], .nilIface]) ∧ OwnF w' wx.heap.size v FL) := Lib.hid fun wx => (hP wx).mono fun e w' h => by
    obtain ⟨h1, v, h2, h3⟩ := h
    refine ⟨h1, v, ?_, h3⟩
    rw [h2, ← hs]
  have HG : Hid (∀ a c wx, SrcA wx a c FL → Calls Tryz.prog 30 #[.string ⟨#[71, 69, 84]⟩, .agg #[.int .i64 st, .string wd, .slice a 4 c]] wx fun e w' => e = .returned (.tuple #[.agg #[.int .i64 1, .int .i64 ((n : Int) + 1)], .int .i64 0]) ∧ Below wx.heap.size wx w') := Lib.hid hG
  have HK : Hid (∀ a c wx, SrcA wx a c FL → Calls Tryz.prog 19 #[.slice a 4 c] wx fun e w' => e = .returned (.bool false) ∧ Below wx.heap.size wx w') := Lib.hid hK
  have HL4 := Lib.hid hl4
  obtain ⟨R, hRR⟩ : ∃ R, failT st ((n : Int) + 1) wd bare = R := ⟨_, rfl⟩
  have HF : Hid (∀ wx, Below w.heap.size w wx → Calls Tryz.prog 27 #[.int .i64 st, .bool bare] wx (BytesSays R.data.toList wx)) := Lib.hid (by rw [← hRR]; exact hF bare)
  have HR : Hid (∀ wx, Calls Tryz.prog 28 #[.int .i64 st, .bool bare] wx fun e w' => e = .returned (.string R) ∧ Below wx.heap.size wx w') := Lib.hid (by rw [← hRR]; exact hR bare)
  have hRQ : (bare = true ∧ R = Q) ∨ (bare = false ∧ R = Q ++ (wd ++ (⟨#[10]⟩ : ByteArray))) := by
    cases bare
    · exact .inr ⟨rfl, by rw [← hRR]; exact hft⟩
    · exact .inl ⟨rfl, by rw [← hRR]; exact hQ⟩
  have hRz : R.size = Q.size + (if bare = true then 0 else n + 1) := by
    rcases hRQ with ⟨rfl, rfl⟩ | ⟨rfl, rfl⟩
    · simp
    · rw [ByteArray.size_append, ByteArray.size_append, hwn]; simp; rfl
  have hpre : R.extract 0 Q.size = Q := by
    rcases hRQ with ⟨rfl, rfl⟩ | ⟨rfl, rfl⟩
    · exact ByteArray.extract_zero_size
    · exact ByteArray.extract_append_eq_left rfl
  have hne : (R.toList == []) = false := by
    rw [toList_data']
    have : R.data.toList ≠ [] := fun h => by
      have := len_data R
      rw [h] at this
      simp at this
      omega
    simpa using this
  have HC : Hid (∀ wx a c, Src wx a c R.data.toList → (convert 45 9 (.slice a R.size c)).run Tryz.prog wx = .ok (.string R) wx) := Lib.hid fun wx a c h => by
    have := conv_src wx a c _ h
    rw [len_data] at this
    exact this
  have HCQ : Hid (∀ wx a c, Src wx a c Q.data.toList → (convert 45 9 (.slice a Q.size c)).run Tryz.prog wx = .ok (.string Q) wx) := Lib.hid fun wx a c h => by
    have := conv_src wx a c _ h
    rw [len_data] at this
    exact this
  have hpe : (!(R.extract 0 Q.size).toList == Q.toList) = false := by rw [hpre]; simp
  have HLR := Lib.hid (len_data R)
  have HLQ := Lib.hid (len_data Q)
  have hsub : bare = false → ((R.size : Int) - Q.size = (n : Int) + 1) := fun h => by rw [hRz, h]; simp; omega
  have HSUB := Lib.hid hsub
  have hle : Q.size ≤ R.size := by omega
  have hRb : R.size ≤ 3000 := by rw [hRz]; split <;> omega
  clear hRz hRQ hft hRR hF hR hP hG hK hparse hpre hl4 hQ hs T ht hsub hwn
  go_enter Tryz.func6, Tryz.ntmps6
  go_wp2_with fail
  refine (H0.out _ (Below.refl _ _)).mono ?_; rintro e w1 ⟨rfl, hb⟩
  have HB1 := Lib.hid hb
  clear hb
  go_wp2_with fail
  go_loopw [6] (fun i wr => ∃ t : Nat, t ≤ 2 ∧ i = .int .i64 t ∧ Below w.heap.size w wr) (fun i _ => 2 - (intOf i).toNat)
  case atStart => exact ⟨0, by omega, rfl, HB1.out⟩
  case round =>
    obtain ⟨tw, htw, rfl, hb⟩ := hrel
    have HBR := Lib.hid hb
    clear hb
    by_cases hlt : tw < 2
    case neg =>
      go_wp2
      go_ret
      exact ⟨rfl, HBR.out⟩
    case pos =>
      go_wp2_with fail
      refine (HF.out _ HBR.out).mono ?_; rintro e w5 ⟨hb, v5, rfl, ho⟩
      obtain ⟨g5, c5, hv5, hs5, hg5, hg5', hsl5⟩ := bytes_one _ _ _ _ ho
      rw [HLR.out] at hv5 hsl5
      subst hv5
      have HB5 := Lib.hid hb
      have HS5 := Lib.hid hsl5
      have HG5 := Lib.hid (HC.out _ _ _ hs5)
      clear hb ho hs5 hsl5
      go_wp2_with fail
      simp only [HG5.out, Result.andThen]
      go_wp2_with fail
      refine (HR.out _).mono ?_; rintro e w6 ⟨rfl, hb⟩
      have HB6 := Lib.hid (app_low HB5.out hb)
      have HS6 : Hid (∀ j, j < R.size → (w6.cell? ⟨g5, j, none⟩).isSome = true ∧ w6.frozen? ⟨g5, j, none⟩ = false) := Lib.hid fun j hj => by
        rw [hb.cell (p := ⟨g5, j, none⟩) hg5', hb.frozen (p := ⟨g5, j, none⟩) hg5']
        exact HS5.out j hj
      clear hb
      obtain ⟨wq, hwq⟩ : ∃ wq, wq = wr := ⟨_, rfl⟩
      subst hwq
      go_wp2_with fail
      go_loopw [9] (fun i wi => ∃ j : Nat, j ≤ R.size ∧ i = .int .i64 j ∧ Below wq.heap.size wq wi ∧ (∀ j, j < R.size → (wi.cell? ⟨g5, j, none⟩).isSome = true ∧ wi.frozen? ⟨g5, j, none⟩ = false)) (fun i _ => R.size - (intOf i).toNat)
      case atStart => exact ⟨0, by omega, rfl, HB6.out, HS6.out⟩
      case round =>
        obtain ⟨j, hj, rfl, hb, hsl⟩ := hrel
        have HBJ := Lib.hid hb
        have HSJ := Lib.hid hsl
        clear hb hsl
        by_cases hlt3 : j < R.size
        · obtain ⟨hc1, hf1⟩ := HSJ.out j hlt3
          obtain ⟨u, hu⟩ := Option.isSome_iff_exists.1 hc1
          clear hc1
          go_wp2
          go_roundw
          case rel => exact ⟨j + 1, by omega, by go_num, HBJ.out.setCell (p := ⟨g5, j, none⟩) hg5 _, fun i hi => ⟨set_some9 (HSJ.out i hi).1, by rw [World.frozen?_setCell]; exact (HSJ.out i hi).2⟩⟩
          case measure => simp [intOf]; omega
        · have HBW := Lib.hid (app_low HBR.out HBJ.out)
          go_wp2_with fail
          refine (HFT.out _ HBW.out).mono ?_; rintro e w7 ⟨hb, v7, rfl, ho⟩
          obtain ⟨g7, c7, hv7, hs7, _, _, _⟩ := bytes_one _ _ _ _ ho
          rw [HLQ.out] at hv7
          subst hv7
          have HB7 := Lib.hid (app_low HBW.out hb)
          have HG7 := Lib.hid (HCQ.out _ _ _ hs7)
          clear hb ho hs7
          go_wp2_with fail
          simp only [HG7.out, Result.andThen]
          go_wp2_with fail
          refine (HP.out _).mono ?_; rintro e w8 ⟨hb, v8, rfl, ho⟩
          obtain ⟨a8, c8, rfl, hs8, _⟩ := ownF_src ho
          rw [HL4.out]
          obtain ⟨wa, hwa⟩ : ∃ wa, wa = w8.alloc (.cells #[.int .i64 st, .string wd, .slice a8 4 c8] 26) := ⟨_, rfl⟩
          have hba : Below w8.heap.size w8 wa := by rw [hwa]; exact (Below.refl _ _).alloc (Nat.le_refl _) _
          have HBA := Lib.hid (app_low (app_low HB7.out hb) hba)
          have HSA := Lib.hid (hs8.below (Nat.le_refl _) hba)
          have HX : Hid (∀ wx, Below wa.heap.size wa wx → w8.heap.size < wx.heap.size ∧ wx.cell? ⟨w8.heap.size, 0, none⟩ = some (.int .i64 st) ∧ wx.cell? ⟨w8.heap.size, 1, none⟩ = some (.string wd) ∧ wx.cell? ⟨w8.heap.size, 2, none⟩ = some (.slice a8 4 c8)) := Lib.hid (by
            rw [hwa]
            exact fun wx hb => ⟨Nat.lt_of_lt_of_le (by simp) hb.size, kept_y w8 wx _ _ hb 0, kept_y w8 wx _ _ hb 1, kept_y w8 wx _ _ hb 2⟩)
          have HWA := Lib.hid hwa
          clear hb ho hs8 hba hwa
          go_wp2_with fail
          rw [← HWA.out]
          refine (HG.out _ _ _ HSA.out).mono ?_; rintro e w9 ⟨rfl, hb⟩
          have HB9 := Lib.hid (app_low HBA.out hb)
          have HS9 := Lib.hid (HSA.out.below (Nat.le_refl _) hb)
          obtain ⟨x3, x0, x1, x2⟩ := HX.out w9 hb
          have HBX := Lib.hid hb
          clear hb
          obtain ⟨wb, hwb⟩ : ∃ wb, wb = w9.alloc (.cells #[.int .i64 1, .int .i64 ((n : Int) + 1)] 40) := ⟨_, rfl⟩
          have hbb : Below w9.heap.size w9 wb := by rw [hwb]; exact (Below.refl _ _).alloc (Nat.le_refl _) _
          have HBB := Lib.hid (app_low HB9.out hbb)
          have HSB := Lib.hid (HS9.out.below (Nat.le_refl _) hbb)
          have HY : Hid (∀ wx, Below wb.heap.size wb wx → w9.heap.size < wx.heap.size ∧ wx.cell? ⟨w9.heap.size, 0, none⟩ = some (.int .i64 1) ∧ wx.cell? ⟨w9.heap.size, 1, none⟩ = some (.int .i64 ((n : Int) + 1))) := Lib.hid (by
            rw [hwb]
            exact fun wx hb => ⟨Nat.lt_of_lt_of_le (by simp) hb.size, kept_y w9 wx _ _ hb 0, kept_y w9 wx _ _ hb 1⟩)
          have HBXB := Lib.hid (app_low HBX.out hbb)
          have HWB := Lib.hid hwb
          clear hbb hwb
          cases bare with
          | true =>
            go_wp2_with fail
            rw [← HWB.out]
            refine (HK.out _ _ _ HSB.out).mono ?_; rintro e wc ⟨rfl, hb⟩
            have HBC := Lib.hid (app_low HBB.out hb)
            obtain ⟨y3, y0, y1⟩ := HY.out wc hb
            obtain ⟨x3, x0, x1, x2⟩ := HX.out wc (app_low HBXB.out hb)
            clear hb
            go_wp2
            go_roundw
            case rel => exact ⟨tw + 1, by omega, by go_num, HBC.out⟩
            case measure => simp [intOf]; omega
          | false =>
            have hsb := HSUB.out rfl
            go_wp2_with fail
            rw [← HWB.out]
            refine (HK.out _ _ _ HSB.out).mono ?_; rintro e wc ⟨rfl, hb⟩
            have HBC := Lib.hid (app_low HBB.out hb)
            obtain ⟨y3, y0, y1⟩ := HY.out wc hb
            obtain ⟨x3, x0, x1, x2⟩ := HX.out wc (app_low HBXB.out hb)
            clear hb
            go_wp2
            go_roundw
            case rel => exact ⟨tw + 1, by omega, by go_num, HBC.out⟩
            case measure => simp [intOf]; omega

theorem hardenFails_any (st : Int) (bare : Bool) (w : World) (ht : TabP w) :
    Calls Tryz.prog 6 #[.int .i64 st, .bool bare] w fun e w' => e = .returned (.bool true) ∧ Below w.heap.size w w' := by
  by_cases h1 : st = 400
  · subst h1; exact hardenFails_told _ _ _ told400 bare w ht
  by_cases h2 : st = 408
  · subst h2; exact hardenFails_told _ _ _ told408 bare w ht
  by_cases h3 : st = 413
  · subst h3; exact hardenFails_told _ _ _ told413 bare w ht
  by_cases h4 : st = 502
  · subst h4; exact hardenFails_told _ _ _ told502 bare w ht
  by_cases h5 : st = 504
  · subst h5; exact hardenFails_told _ _ _ told504 bare w ht
  exact hardenFails_no st bare w ht h1 h2 h3 h4 h5
end Go.Proofs.YthkgaaibhjkngaaGreatDoor
set_option linter.unusedVariables false
namespace Go.Proofs.YthkgaaibhjkngaaGreatDoor
open Go.ChangeShapes Go.WideShapes Go.ChangeAt Go.RowKit


set_option maxRecDepth 100000 in
theorem hardenFails_lifted (os : Os) (started : os.Started) (H : Type) (enc : TypeId × Value → H) (F : Stop.Interp) :
    ReturnsInHanded {} Tryz.checked os 6 .any (fun w args => ((Rows.OpenSpec.upto Rows.hardenFailsSpec).pre enc Tryz.checked.prog Tryz.f6 [] false w args ∧ Lies5 w) ∧ sizedMet enc Tryz.checked.prog Tryz.f6 (Rows.OpenSpec.upto Rows.hardenFailsSpec) false w args)
      (((Rows.OpenSpec.upto Rows.hardenFailsSpec).at F).post enc Tryz.checked.prog Tryz.f6 false true false false) := by
  refine upto_frame5 started (by kernel_rfl) Tryz.func6 #[.int .i64 0, .bool false] 8 (World.shaped_of_ZipB (by kernel_rfl) (by kernel_rfl)) (by kernel_rfl) (x := ([.lit (.int .i64 0), .lit (.bool false)], [], [])) (by kernel_rfl) (by kernel_rfl) (by kernel_rfl) ?_
  intro W base args ds gs before hval0 hW hk hlaid
  have hval : ∀ (j : Nat) t v, Tryz.f6.params[j]? = some t → args[j]? = some v → Value.okWide Tryz.prog W .any base t v := hval0
  have hW' := hW
  obtain ⟨p, q, hA0, hV, rfl, hfz, hnd⟩ := hW
  have hA : DataW.TrodAll enc Tryz.prog W 0 (fun _ => true) true Tryz.f6.params.toList args.toList ds p := hA0
  rw [Tryz.params6] at hA hval
  obtain ⟨v0, v1, d0, d1, p0, p1, rfl, rfl, rfl, h0, h1⟩ := trodAll_two hA
  obtain ⟨rfl, rfl⟩ := trodVars_none hV
  have b0 : Rows.uptoBulk d0 ≤ 1048576 := small_of hk (by simp)
  have b1 : Rows.uptoBulk d1 ≤ 1048576 := small_of hk (by simp)
  have k0 := h0
  have k1 := h1
  have lt0 : ∀ x ∈ p0, x.block < W.heap.size := by obtain ⟨m, hm⟩ := k0; exact DataW.trod_lt m _ _ _ hm
  have lt1 : ∀ x ∈ p1, x.block < W.heap.size := by obtain ⟨m, hm⟩ := k1; exact DataW.trod_lt m _ _ _ hm
  obtain ⟨a0, rfl, rfl, rfl, w0⟩ := open_int Tryz.underlying3 (hval 0 3 v0 rfl rfl) h0
  obtain ⟨a1, rfl⟩ := okWide_bool Tryz.underlying4 (hval 1 4 v1 rfl rfl)
  clear hA0 hval0
  refine (hardenFails_any a0 a1 W (tabP_of_laid hlaid)).mono fun e W' ⟨he, bel⟩ => ?_
  subst he
  exact ⟨_, rfl, _, _, _, [], _, [], hW', trodAll_mk1 (shut_bool Tryz.underlying4 _), (trodAll_cons_mk (Below.trod laidOut (by kernel_rfl) (of_decide_eq_true (by kernel_rfl)) k0 bel lt0) (trodAll_cons_mk (Below.trod laidOut (by kernel_rfl) (of_decide_eq_true (by kernel_rfl)) k1 bel lt1) trodAll_mk0)), rfl, bel.frame _, fun h => by cases h⟩

theorem hardenFails_holds : Rows.HardenFailsUptoSaid :=
  OpenClaim.holds_of_cond 6 Tryz.f6 rfl rfl rfl rfl rfl rfl rfl ⟨rfl, rfl, rfl, rfl, rfl⟩ rfl rfl rfl rfl rfl (by kernel_rfl) Tryz.func6 (by kernel_rfl)
    (of_decide_eq_true (by kernel_rfl)) (by unfold Func.isWrapper; first | (rw [if_pos (by decide +kernel)]; kernel_rfl) | (rw [if_neg (by decide +kernel)]; exact ⟨rfl, rfl⟩))
    (fun os started H enc _ F => hardenFails_lifted os started H enc F)

theorem hardenFails_card : Rows.HardenFailsUptoCardSaid :=
  Claim7.holds_tied_plain_at .later [] [.data, .data, .data, .data, .pinned] true (true, "0ba50fd8daff17a9c0c35a05969a33e5e1a85e596611f7a468f016ea59ad2cac") true
    hardenFails_holds (fun _ h => by cases h) (by kernel_rfl) (fun _ h => by cases h) hardenFailsUpto_row_tie rfl ⟨rfl, rfl⟩ (by kernel_rfl) rfl
    (fun f fn hf hfn => by
      obtain rfl : f = 6 := Option.some.inj ((show Tryz.prog.funcNamed "colander/colanderlaw21.HardenFails" = some 6 by kernel_rfl).symm.trans hf) |>.symm
      obtain rfl : fn = Tryz.f6 := (Option.some.inj (Tryz.func6.symm.trans hfn)).symm
      exact ⟨by kernel_rfl, fun j t ht => by
        rw [Tryz.params6] at ht
        have hm : t ∈ [3, 4] := by simpa using Array.mem_of_getElem? ht
        have hall : ([3, 4].all fun u => !Tryz.prog.wantsStandIn u) = true := by kernel_rfl
        exact (show Tryz.prog.wantsStandIn t = false by simpa using List.all_eq_true.1 hall t hm)⟩)
    (by kernel_rfl)
end Go.Proofs.YthkgaaibhjkngaaGreatDoor
