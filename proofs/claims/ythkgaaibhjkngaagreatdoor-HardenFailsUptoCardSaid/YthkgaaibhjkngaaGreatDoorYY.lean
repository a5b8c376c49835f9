/- strings.IndexAny at the two bytes of a line's end, in any text; strings.Cut at one byte. strings.IndexRune and strings.IndexAny at the two bytes of a line's end, in any text. The first place of a byte; strings.Cut at one byte. Head: the small functions. Head: host. A head's text, as plain lists: how it is read. Head: giving up; the lines of a text. Head: the beginning and the end of a text; a field. Head: the fields. Head: a request's first line. Head: a response's first line. Head: faults; what is recovered. Head: Request and Response. -/
import Derived.Test.YthkgaaibhjkngaaGreatDoorSB
import Derived.Test.YthkgaaibhjkngaaGreatDoorC
import Derived.Laws.RangeAny
import Derived.Deep.LoopGhost
import Derived.Lib.IndexBytes
import Derived.WalkMore
import Derived.Shelf.Small.Utf8
import Derived.Shelf.Strings.IndexAnyAll
import Derived.Outline
import Derived.Deep.QuietTactic
import Derived.BigQuiet
import Derived.Test.YthkgaaibhjkngaaGreatDoorHI
import Derived.Test.YthkgaaibhjkngaaGreatDoorFE
import Derived.Defers
import Derived.Test.YthkgaaibhjkngaaGreatDoorHD
import Derived.Test.YthkgaaibhjkngaaGreatDoorDD
import Derived.Recover
import Derived.Test.YthkgaaibhjkngaaGreatDoorHH
set_option linter.unusedVariables false
namespace Go.Proofs.YthkgaaibhjkngaaGreatDoor
open Go.RowKit

/-- a character of two bytes and more: none of its bytes is below 128 -/
theorem decode_in (s : ByteArray) (i : Nat) (h : i < s.size) (ha : 128 ≤ (s[i]'h).toNat) : 1 ≤ (Utf8.decode s i).2 ∧ i + (Utf8.decode s i).2 ≤ s.size ∧ ∀ j, j < (Utf8.decode s i).2 → 128 ≤ (s.get! (i + j)).toNat := by
  have h0 : s.get! (i + 0) = s[i]'h := get_at s i h
  have hn : ¬ (s[i]'h).toNat < 128 := by omega
  have c : ∀ k, (s.get! (i + k)).toNat / 64 = 2 → 128 ≤ (s.get! (i + k)).toNat := fun k hk => by omega
  have g0 : 128 ≤ (s.get! (i + 0)).toNat := by rw [h0]; exact ha
  simp only [Utf8.decode, h0, hn, if_false]
  repeat' split
  all_goals simp only [Bool.and_eq_true, decide_eq_true_eq, beq_iff_eq] at *
  all_goals refine ⟨by omega, by omega, fun j hj => ?_⟩
  all_goals rcases (by omega : j = 0 ∨ j = 1 ∨ j = 2 ∨ j = 3) with rfl | rfl | rfl | rfl
  all_goals (first | exact g0 | (exfalso; omega) | exact c 1 (by omega) | exact c 2 (by omega) | exact c 3 (by omega))
theorem decode_top (s : ByteArray) (pos : Nat) : (Utf8.decode s pos).1 ≤ 2147483647 := decode_le s pos
def encC (c : Nat) : ByteArray := if c < 0x80 then ⟨#[UInt8.ofNat c]⟩
  else if c < 0x800 then ⟨#[UInt8.ofNat (0xC0 + c / 64), UInt8.ofNat (0x80 + c % 64)]⟩
  else if c < 0x10000 then ⟨#[UInt8.ofNat (0xE0 + c / 4096), UInt8.ofNat (0x80 + c / 64 % 64), UInt8.ofNat (0x80 + c % 64)]⟩
  else ⟨#[UInt8.ofNat (0xF0 + c / 262144), UInt8.ofNat (0x80 + c / 4096 % 64), UInt8.ofNat (0x80 + c / 64 % 64), UInt8.ofNat (0x80 + c % 64)]⟩
theorem size2 (a b : UInt8) : (⟨#[a, b]⟩ : ByteArray).size = 2 := rfl
theorem size3 (a b c : UInt8) : (⟨#[a, b, c]⟩ : ByteArray).size = 3 := rfl
theorem size4 (a b c d : UInt8) : (⟨#[a, b, c, d]⟩ : ByteArray).size = 4 := rfl
theorem encC_high (c : Nat) (h1 : 128 ≤ c) (h2 : c ≤ 1114111) : 2 ≤ (encC c).size ∧ (encC c).size ≤ 4 ∧ ∀ k (hk : k < (encC c).size), 128 ≤ ((encC c)[k]'hk).toNat := by
  by_cases a : c < 0x800
  · have e : encC c = ⟨#[UInt8.ofNat (0xC0 + c / 64), UInt8.ofNat (0x80 + c % 64)]⟩ := by unfold encC; rw [if_neg (by omega), if_pos a]
    rw [e]
    refine ⟨by rw [size2]; omega, by rw [size2]; omega, fun k hk => ?_⟩
    have hk' : k < 2 := hk
    rcases (by omega : k = 0 ∨ k = 1) with rfl | rfl
    · show 128 ≤ (UInt8.ofNat (0xC0 + c / 64)).toNat
      rw [UInt8.toNat_ofNat']; omega
    · show 128 ≤ (UInt8.ofNat (0x80 + c % 64)).toNat
      rw [UInt8.toNat_ofNat']; omega
  · by_cases b : c < 0x10000
    · have e : encC c = ⟨#[UInt8.ofNat (0xE0 + c / 4096), UInt8.ofNat (0x80 + c / 64 % 64), UInt8.ofNat (0x80 + c % 64)]⟩ := by unfold encC; rw [if_neg (by omega), if_neg a, if_pos b]
      rw [e]
      refine ⟨by rw [size3]; omega, by rw [size3]; omega, fun k hk => ?_⟩
      have hk' : k < 3 := hk
      rcases (by omega : k = 0 ∨ k = 1 ∨ k = 2) with rfl | rfl | rfl
      · show 128 ≤ (UInt8.ofNat (0xE0 + c / 4096)).toNat
        rw [UInt8.toNat_ofNat']; omega
      · show 128 ≤ (UInt8.ofNat (0x80 + c / 64 % 64)).toNat
        rw [UInt8.toNat_ofNat']; omega
      · show 128 ≤ (UInt8.ofNat (0x80 + c % 64)).toNat
        rw [UInt8.toNat_ofNat']; omega
    · have e : encC c = ⟨#[UInt8.ofNat (0xF0 + c / 262144), UInt8.ofNat (0x80 + c / 4096 % 64), UInt8.ofNat (0x80 + c / 64 % 64), UInt8.ofNat (0x80 + c % 64)]⟩ := by unfold encC; rw [if_neg (by omega), if_neg a, if_neg b]
      rw [e]
      refine ⟨by rw [size4]; omega, by rw [size4]; omega, fun k hk => ?_⟩
      have hk' : k < 4 := hk
      rcases (by omega : k = 0 ∨ k = 1 ∨ k = 2 ∨ k = 3) with rfl | rfl | rfl | rfl
      · show 128 ≤ (UInt8.ofNat (0xF0 + c / 262144)).toNat
        rw [UInt8.toNat_ofNat']; omega
      · show 128 ≤ (UInt8.ofNat (0x80 + c / 4096 % 64)).toNat
        rw [UInt8.toNat_ofNat']; omega
      · show 128 ≤ (UInt8.ofNat (0x80 + c / 64 % 64)).toNat
        rw [UInt8.toNat_ofNat']; omega
      · show 128 ≤ (UInt8.ofNat (0x80 + c % 64)).toNat
        rw [UInt8.toNat_ofNat']; omega
/-- what is written of a character from 128 on: two bytes and more, each from 128 on -/
theorem enc_high (r : Int) (h : 128 ≤ r) : 2 ≤ (Utf8.encode r).size ∧ (Utf8.encode r).size ≤ 4 ∧ ∀ k (hk : k < (Utf8.encode r).size), 128 ≤ ((Utf8.encode r)[k]'hk).toNat := by
  have e : Utf8.encode r = encC (if Utf8.valid r = true then r.toNat else Utf8.runeError) := rfl
  rw [e]
  refine encC_high _ ?_ ?_
  · by_cases hv : Utf8.valid r = true
    · rw [if_pos hv]; omega
    · rw [if_neg hv]; decide
  · by_cases hv : Utf8.valid r = true
    · rw [if_pos hv]
      simp only [Utf8.valid, Bool.or_eq_true, Bool.and_eq_true, decide_eq_true_eq] at hv
      omega
    · rw [if_neg hv]; decide
def crlf : ByteArray := ⟨#[13, 10]⟩
theorem iter_below (w : World) (s : ByteArray) (p : Nat) : Below w.heap.size w (w.iter s p) := (Below.refl _ _).alloc (Nat.le_refl _) _
end Go.Proofs.YthkgaaibhjkngaaGreatDoor
set_option linter.unusedVariables false
namespace Go.Proofs.YthkgaaibhjkngaaGreatDoor
open Go.RowKit

theorem iByte_any (s : ByteArray) (c : UInt8) (w : World) :
    Calls Tryz.prog 147 #[.string s, .int .u8 c.toNat] w fun e w' => e = .returned (.int .i64 (Lib.indexByte s.data.toList c)) ∧ w = w' := by
  have := Any.strings_IndexByte Tryz.lays137 s c.toNat w
  refine this.mono fun e w' h => ⟨?_, h.2.symm⟩
  rw [h.1]
  simp
theorem vRune_any (r : Int) (w : World) : ∃ b : Bool, Calls Tryz.prog 161 #[.int .i32 r] w fun e w' => e = .returned (.bool b) ∧ w = w' :=
  ⟨_, (Any.utf8_ValidRune Tryz.lays119 r w).mono fun e w' h => ⟨h.1, h.2.symm⟩⟩
theorem drew_below (w : World) (k : Nat) : Below w.heap.size w (w.drewN k) := ⟨rfl, rfl, rfl, Nat.le_refl _, fun _ _ => rfl⟩
theorem crlf_at : (crlf.size = 2) ∧ (∀ h, (crlf[0]'h).toNat = 13) ∧ (∀ h, (crlf[1]'h).toNat = 10) := ⟨rfl, fun _ => rfl, fun _ => rfl⟩
set_option maxHeartbeats 4000000 in
set_option maxRecDepth 100000 in
/-- the character that stands for a fault -/
theorem iRune_fault (w : World) :
    Calls Tryz.prog 139 #[.string ⟨#[13, 10]⟩, .int .i32 65533] w fun e w' => e = .returned (.int .i64 (-1)) ∧ Below w.heap.size w w' := by
  have n0 := fun ty => run_next_ascii (P := Tryz.prog) w ⟨#[13, 10]⟩ 0 ty (by decide) (by decide)
  have n1 := fun ty => run_next_ascii (P := Tryz.prog) w ⟨#[13, 10]⟩ 1 ty (by decide) (by decide)
  have n2 := fun ty => run_next_end (P := Tryz.prog) w ⟨#[13, 10]⟩ 2 ty (by decide)
  have e0 : ((⟨#[13, 10]⟩ : ByteArray)[0]'(by decide)).toNat = 13 := rfl
  have e1 : ((⟨#[13, 10]⟩ : ByteArray)[1]'(by decide)).toNat = 10 := rfl
  rw [e0] at n0; rw [e1] at n1
  go_enter Tryz.func139, Tryz.ntmps139
  go_wp2
  go_loopg [5, 6] 2 (fun g _ _ wx => ∃ i : Nat, i + g = 2 ∧ wx = w.iter ⟨#[13, 10]⟩ i)
  case atStart => exact ⟨0, by omega, rfl⟩
  case round =>
    obtain ⟨i, hig, rfl⟩ := hrel
    rcases (by omega : i = 0 ∨ i = 1 ∨ i = 2) with rfl | rfl | rfl
    · obtain rfl : gk = 2 := by omega
      go_wp2
      go_roundg 1
      case measure => omega
      case rel => exact ⟨1, by omega, rfl⟩
    · obtain rfl : gk = 1 := by omega
      go_wp2
      go_roundg 0
      case measure => omega
      case rel => exact ⟨2, by omega, rfl⟩
    · go_wp2
      try rw [Exit.noGoto_ret]
      go_ret
      exact ⟨rfl, iter_below _ _ _⟩
set_option maxHeartbeats 4000000 in
set_option maxRecDepth 100000 in
/-- any other character from 128 on -/
theorem iRune_high (r : Int) (w : World) (h0 : 128 ≤ r) (h1 : r ≤ 2147483647) (hf : (r == 65533) = false) :
    Calls Tryz.prog 139 #[.string ⟨#[13, 10]⟩, .int .i32 r] w fun e w' => e = .returned (.int .i64 (-1)) ∧ Below w.heap.size w w' := by
  obtain ⟨b, hv⟩ := vRune_any r w
  have hlo : decide ((0 : Int) ≤ r) = true := decide_eq_true (by omega)
  have hhi : decide (r < 128) = false := decide_eq_false (by omega)
  cases b
  · go_enter Tryz.func139, Tryz.ntmps139
    go_wp2_with (go_at_call 161; refine hv.mono ?_; rintro e w' ⟨rfl, rfl⟩)
    try rw [Exit.noGoto_ret]
    go_ret
    exact ⟨rfl, Below.refl _ _⟩
  · have he := enc_high r h0
    have hcv : ∀ wx, (convert 21 9 (.int .i32 r)).run Tryz.prog wx = .ok (.string (Utf8.encode r)) wx := fun wx => by
      simp [convert, run_underlying Tryz.underlying21, run_underlying Tryz.underlying9, go_sem, Conv.intToString]
    generalize Utf8.encode r = T at he hcv
    obtain ⟨he1, he2, he3⟩ := he
    obtain ⟨n, hn⟩ : ∃ n, T.size = n := ⟨_, rfl⟩
    rw [hn] at he1 he2
    by_cases h2 : n = 2
    · subst h2
      have l1 : (1 : Nat) < T.size := by omega
      have hx := he3 1 l1
      obtain ⟨x, hxe⟩ : ∃ x : UInt8, T[1] = x := ⟨_, rfl⟩
      rw [hxe] at hx
      have hib := fun wx => iByte_any ⟨#[]⟩ x wx
      have hne : (((((⟨#[13, 10]⟩ : ByteArray)[1]'(by decide)).toNat : Int)) != (x.toNat : Int)) = true := by show ((10 : Int) != _) = true; simp; omega
      have hq := fun (nq : Nat) => drew_below w nq
      have HQ := Lib.hid hq
      clear hq
      clear he3
      have H2 := Lib.hid hn
      have hx2 : (T.size : Int) = 2 := by omega
      go_enter Tryz.func139, Tryz.ntmps139
      go_wp2_with (go_at_call 161; refine hv.mono ?_; rintro e w' ⟨rfl, rfl⟩)
      go_step3
      go_wp2
      refine wp_loop_rounds 1 ?_
      rw [rounds_succ]
      go_wp2
      go_step3
      go_wp2
      go_quiet (fail)
      have HB := Lib.hid (HQ.out nq)
      revert HB
      generalize w.drewN nq = w1
      intro HB
      go_wp2
      go_quiet ((go_at_call 147; exact Calls.quiet_of_same ((iByte_any _ x _).mono fun e w2 h => ⟨h.1, h.2.symm⟩)))
      go_wp2
      rw [Exit.noGoto_ret]
      simp only [Exit.inBlock, Exit.then, Exit.noGoto_ret]
      go_ret
      exact ⟨rfl, HB.out.trans ((drew_below w1 _).mono HB.out.size)⟩
    · have hge : ¬ ((n : Int) - 1 < 2) := by omega
      clear he3
      obtain ⟨z, hz⟩ : ∃ z : Int, (T.size : Int) = z := ⟨_, rfl⟩
      have hz3 : 3 ≤ z := by omega
      have hz4 : z ≤ 4 := by omega
      clear hn hge he1 he2 h2
      go_enter Tryz.func139, Tryz.ntmps139
      go_wp2_with (go_at_call 161; refine hv.mono ?_; rintro e w' ⟨rfl, rfl⟩)
      go_step3
      go_wp2
      refine wp_loop_rounds 1 ?_
      rw [rounds_succ]
      go_wp2
      try rw [Exit.noGoto_ret]
      go_ret
      exact ⟨rfl, Below.refl _ _⟩
theorem iRune_any (r : Int) (w : World) (h0 : 128 ≤ r) (h1 : r ≤ 2147483647) :
    Calls Tryz.prog 139 #[.string ⟨#[13, 10]⟩, .int .i32 r] w fun e w' => e = .returned (.int .i64 (-1)) ∧ Below w.heap.size w w' := by
  by_cases hf : r = 65533
  · subst hf; exact iRune_fault w
  · exact iRune_high r w h0 h1 (by simpa using hf)
theorem iRune_low (x : UInt8) (w : World) (h : x.toNat < 128) :
    Calls Tryz.prog 139 #[.string ⟨#[13, 10]⟩, .int .i32 x.toNat] w fun e w' => e = .returned (.int .i64 (Lib.indexByte [13, 10] x)) ∧ Below w.heap.size w w' :=
  (Any.strings_IndexRune_ascii Tryz.lays152 ⟨#[13, 10]⟩ x.toNat w (by omega) (by omega)).mono fun e w' ⟨h1, h2⟩ => ⟨by rw [h1]; simp, by rw [h2]; exact Below.refl _ _⟩
def noEol (l : List UInt8) (i : Nat) : Prop := Lib.NoAny l [13, 10] i
theorem noEol_high {s : ByteArray} {i : Nat} (h : i < s.size) (ha : 128 ≤ (s[i]'h).toNat) (hn : noEol s.data.toList i) : noEol s.data.toList (i + (Utf8.decode s i).2) := by
  obtain ⟨d1, d2, d3⟩ := decode_in s i h ha
  intro j b hj hb
  by_cases hji : j < i
  · exact hn j b hji hb
  · obtain ⟨k, rfl⟩ : ∃ k, j = i + k := ⟨j - i, by omega⟩
    have h3 := d3 k (by omega)
    have hlt : i + k < s.size := by omega
    have hg : s.get! (i + k) = b := by
      have e : s.get! (i + k) = s[i + k]'hlt := by
        have := get_at s (i + k) hlt
        simpa using this
      rw [e]
      have hd := Lib.data_getElem? s (i + k) hlt
      rw [hb] at hd
      exact (Option.some.inj hd).symm
    rw [hg] at h3
    have n1 : b ≠ 13 := fun e => by subst e; revert h3; decide
    have n2 : b ≠ 10 := fun e => by subst e; revert h3; decide
    simp [n1, n2]
def IdxSays (X : ByteArray) (w : World) (e : Ending) (w' : World) : Prop := e = .returned (.int .i64 (Lib.indexAny X.data.toList [13, 10])) ∧ Below w.heap.size w w'
def adv (w : World) (b : Nat) (s : ByteArray) (p : Nat) : World := { w with heap := w.heap.setIfInBounds b (.stringIter s p) }
theorem run_next_in {P : Program} (w : World) (b : Nat) (s : ByteArray) (pos : Nat) (ty : TypeId) (hb : w.heap[b]? = some (.stringIter s pos)) (h : pos < s.size) :
    (Instr.next (.pointer (some ⟨b, 0, none⟩)) true ty).run P w = .ok (.tuple #[.bool true, .int .i64 pos, .int .i32 (Utf8.decode s pos).1]) (adv w b s (pos + (Utf8.decode s pos).2)) := by
  simp only [Instr.next, getObj, setObj, Sem.run_bind, Sem.run, hb, Result.andThen, h, if_true]
  simp [goInt, adv]
theorem run_next_out {P : Program} (w : World) (b : Nat) (s : ByteArray) (pos : Nat) (ty : TypeId) (hb : w.heap[b]? = some (.stringIter s pos)) (h : ¬ pos < s.size) :
    (Instr.next (.pointer (some ⟨b, 0, none⟩)) true ty).run P w = .ok (.tuple #[.bool false]) w := by
  simp [Instr.next, getObj, Sem.run, hb, h]
theorem adv_is (w : World) (b : Nat) (s : ByteArray) (p : Nat) (hb : b < w.heap.size) : (adv w b s p).heap[b]? = some (.stringIter s p) ∧ Below b w (adv w b s p) := by
  refine ⟨by simp [adv, hb], rfl, rfl, rfl, by simp [adv], fun k hk => ?_⟩
  simp only [adv]
  rw [Array.getElem?_setIfInBounds_ne (by omega)]
structure Iter (w wx : World) (s : ByteArray) (i : Nat) : Prop where
  at' : wx.heap[w.heap.size]? = some (.stringIter s i)
  below : Below w.heap.size w wx
  size : w.heap.size < wx.heap.size
theorem Iter.new (w : World) (s : ByteArray) : Iter w (w.iter s 0) s 0 := ⟨World.iter_heap w s 0, iter_below w s 0, by simp [World.iter]⟩
theorem Iter.adv {w wx : World} {s : ByteArray} {i : Nat} (h : Iter w wx s i) (p : Nat) : Iter w (adv wx w.heap.size s p) s p := by
  obtain ⟨a, b⟩ := adv_is wx w.heap.size s p h.size
  exact ⟨a, h.below.trans b, by have := h.size; simp [Go.Proofs.YthkgaaibhjkngaaGreatDoor.adv]; exact this⟩
theorem Iter.keep {w wx w' : World} {s : ByteArray} {i : Nat} (h : Iter w wx s i) (hb : Below wx.heap.size wx w') : Iter w w' s i :=
  ⟨(hb.block _ h.size).trans h.at', h.below.trans (hb.mono h.below.size), Nat.lt_of_lt_of_le h.size hb.size⟩
set_option maxHeartbeats 8000000 in
set_option maxRecDepth 1000000 in
theorem iAny_short (s : ByteArray) (w : World) (h8 : s.size ≤ 8) : Calls Tryz.prog 127 #[.string s, .string ⟨#[13, 10]⟩] w (IdxSays s w) := by
  have h8z : ∀ wx, Calls Tryz.prog 140 #[.int .i64 s.size] wx fun e w' => e = .returned (.bool false) ∧ wx = w' := fun wx =>
    (Any.strings_shouldUseASCIISet { Tryz.lays153 with } s.size wx).mono fun e w' ⟨h1, h2⟩ => ⟨by rw [h1, decide_eq_false (by omega)], h2.symm⟩
  go_enter Tryz.func127, Tryz.ntmps127
  go_wp2_with (go_at_call 140; refine (h8z _).mono ?_; rintro e w' ⟨rfl, rfl⟩)
  clear h8z
  go_loopg [9, 10] s.size (fun g _ _ wx => ∃ i : Nat, i + g = s.size ∧ Iter w wx s i ∧ noEol s.data.toList i)
  case atStart => exact ⟨0, by omega, Iter.new w s, Lib.NoAny.zero _ _⟩
  case round =>
    obtain ⟨i, hig, hit, hno⟩ := hrel
    have HN := Lib.hid hno
    have HT := Lib.hid hit
    obtain ⟨wo, hwo⟩ : ∃ wo, wo = wr := ⟨_, rfl⟩
    subst hwo
    clear hno hit
    by_cases hi : i < s.size
    · have hnx := fun ty => run_next_in (P := Tryz.prog) wo w.heap.size s i ty HT.out.at' hi
      by_cases hx128 : (s[i]'hi).toNat < 128
      · obtain ⟨x, hx⟩ : ∃ x : UInt8, s[i]'hi = x := ⟨_, rfl⟩
        have hxl : s.data.toList[i]? = some x := by rw [← hx]; exact Lib.data_getElem? s i hi
        rw [decode_ascii s i hi hx128, hx] at hnx
        rw [hx] at hx128
        have Hx := Lib.hid hxl
        have HA := Lib.hid (HT.out.adv (i + 1))
        clear hxl hx
        have hcon := Lib.contains_iff_indexByte [13, 10] x
        dsimp only at hnx
        revert HA
        generalize adv wo w.heap.size s (i + 1) = W at hnx
        intro HA
        have hir := fun wx => iRune_low x wx hx128
        cases hin : ([13, 10] : List UInt8).contains x
        · rw [hin] at hcon
          have hlt : ¬ ((0 : Int) ≤ Lib.indexByte [13, 10] x) := of_decide_eq_false hcon.symm
          have HI := Lib.hid hin
          clear hcon hin
          generalize Lib.indexByte [13, 10] x = d at hlt hir
          have HR := Lib.hid hir
          clear hir
          go_wp2_with (go_at_call 139; refine (HR.out _).mono ?_; rintro e w' ⟨rfl, hb⟩)
          go_roundg (s.size - (i + 1))
          case measure => omega
          case rel => exact ⟨i + 1, by omega, HA.out.keep hb, HN.out.succ Hx.out HI.out⟩
        · rw [hin] at hcon
          have hge : (0 : Int) ≤ Lib.indexByte [13, 10] x := of_decide_eq_true hcon.symm
          have HI := Lib.hid hin
          clear hcon hin
          generalize Lib.indexByte [13, 10] x = d at hge hir
          have HR := Lib.hid hir
          clear hir
          go_wp2_with (go_at_call 139; refine (HR.out _).mono ?_; rintro e w' ⟨rfl, hb⟩)
          go_ret
          exact ⟨ret_int (Lib.indexAny_hit HN.out Hx.out HI.out).symm, (HA.out.keep hb).below⟩
      · have hh := decode_high s i hi (by omega)
        have ht := decode_top s i
        have HD := Lib.hid (decode_in s i hi (by omega))
        have HE := Lib.hid (noEol_high hi (by omega) HN.out)
        have hir := fun wx => iRune_any (Utf8.decode s i).1 wx (by omega) (by omega)
        have HA := Lib.hid (HT.out.adv (i + (Utf8.decode s i).2))
        generalize Utf8.decode s i = D at hnx hir HA HD HE
        obtain ⟨d1, d2⟩ := D
        dsimp only at hnx hir HA HD HE
        revert HA
        generalize adv wo w.heap.size s (i + d2) = W at hnx
        intro HA
        have HR := Lib.hid hir
        clear hir hh ht hx128
        go_wp2_with (go_at_call 139; refine (HR.out _).mono ?_; rintro e w' ⟨rfl, hb⟩)
        have h1 := HD.out.1
        have h2 := HD.out.2.1
        go_roundg (s.size - (i + d2))
        case measure => omega
        case rel => exact ⟨i + d2, by omega, HA.out.keep hb, HE.out⟩
    · have hnx := fun ty => run_next_out (P := Tryz.prog) wo w.heap.size s i ty HT.out.at' hi
      obtain rfl : i = s.size := by omega
      go_wp2
      go_ret
      exact ⟨ret_int (Lib.indexAny_none (by rw [← Lib.size_eq]; exact HN.out)).symm, HT.out.below⟩
set_option maxRecDepth 100000 in
theorem iAny_any (s : ByteArray) (w : World) (hs : s.size < 4294967281) : Calls Tryz.prog 127 #[.string s, .string ⟨#[13, 10]⟩] w (IdxSays s w) := by
  by_cases h8 : s.size ≤ 8
  · exact iAny_short s w h8
  · have h116 : (Tryz.prog.info? (Tryz.lays153_ren.t 116)).map (fun i => (i.zero, i.size)) = some (some (.agg (Array.replicate 256 (.bool false))), 256) := by kernel_rfl
    have hz := zero_of_info h116
    refine (Any.strings_IndexAny_long Tryz.lays153 hz.1 hz.2 s ⟨#[13, 10]⟩ w (by decide) (by omega) hs (by decide) ?_).mono fun e w' ⟨h1, h2⟩ => ⟨by rw [h1], ?_⟩
    · intro j b hj
      have hj' : ([13, 10] : List UInt8)[j]? = some b := hj
      have hm : b ∈ ([13, 10] : List UInt8) := List.mem_of_getElem? hj'
      simp at hm
      rcases hm with rfl | rfl <;> decide
    · rw [h2]; exact ((Below.refl _ _).alloc (Nat.le_refl _) _).alloc (by simp) _
end Go.Proofs.YthkgaaibhjkngaaGreatDoor
set_option linter.unusedVariables false
namespace Go.Proofs.YthkgaaibhjkngaaGreatDoor
open Go.RowKit

def posB (c : UInt8) (l : List UInt8) : Nat := l.findIdx (· == c)
theorem posB_le (c : UInt8) (l : List UInt8) : posB c l ≤ l.length := List.findIdx_le_length
theorem posB_cons (c b : UInt8) (l : List UInt8) : posB c (b :: l) = if b = c then 0 else posB c l + 1 := by
  unfold posB
  rw [List.findIdx_cons]
  by_cases h : b = c
  · subst h; simp
  · have : (b == c) = false := by simpa using h
    rw [this, if_neg h]; rfl
theorem index_pos (c : UInt8) : ∀ l : List UInt8, Lib.indexByte l c = if posB c l < l.length then (posB c l : Int) else -1
  | [] => rfl
  | b :: l => by
    have ih := index_pos c l
    rw [posB_cons]
    unfold Lib.indexByte
    by_cases h : b = c
    · subst h; simp
    · have : (b == c) = false := by simpa using h
      rw [this, if_neg h]
      simp only [Bool.false_eq_true, if_false, List.length_cons, Nat.add_lt_add_iff_right]
      by_cases h2 : posB c l < l.length
      · rw [if_pos h2] at ih
        rw [if_pos h2, ih, if_neg (by simp)]
        simp
      · rw [if_neg h2] at ih
        rw [if_neg h2, ih]
        rfl
theorem posB_at {c : UInt8} {l : List UInt8} (h : posB c l < l.length) : l[posB c l] = c := by
  have := List.findIdx_getElem (p := (· == c)) (w := h)
  exact eq_of_beq this
theorem posB_before {c : UInt8} {l : List UInt8} (j : Nat) (hj : j < posB c l) : l[j]'(by have := posB_le c l; omega) ≠ c := by
  have := List.not_of_lt_findIdx (p := (· == c)) (xs := l) hj
  simpa using this
theorem posB_app {c : UInt8} : ∀ {a : List UInt8}, (∀ x ∈ a, x ≠ c) → ∀ b, posB c (a ++ b) = a.length + posB c b
  | [], _, b => by simp
  | x :: a, h, b => by
    rw [List.cons_append, posB_cons, if_neg (h x (by simp)), posB_app (fun y hy => h y (by simp [hy]))]
    simp; omega
theorem posB_hit (c : UInt8) (r : List UInt8) : posB c (c :: r) = 0 := by rw [posB_cons, if_pos rfl]
theorem posB_none {c : UInt8} {a : List UInt8} (h : ∀ x ∈ a, x ≠ c) : posB c a = a.length := by
  have := posB_app h []
  simpa [posB] using this
theorem posB_off {c : UInt8} {l : List UInt8} (h : ¬ posB c l < l.length) : ∀ x ∈ l, x ≠ c := by
  have he : l.findIdx (· == c) = l.length := Nat.le_antisymm List.findIdx_le_length (by unfold posB at h; omega)
  rw [List.findIdx_eq_length] at he
  intro x hx
  have := he x hx
  simpa using this
theorem posB_take {c : UInt8} {l : List UInt8} : ∀ x ∈ l.take (posB c l), x ≠ c := by
  intro x hx
  obtain ⟨j, hj, rfl⟩ := List.getElem_of_mem hx
  rw [List.length_take] at hj
  rw [List.getElem_take]
  exact posB_before j (by omega)
/-- a text is what stands ahead of the byte, the byte, and the rest -/
theorem posB_split {c : UInt8} {l : List UInt8} (h : posB c l < l.length) : l = l.take (posB c l) ++ c :: l.drop (posB c l + 1) := by
  conv => lhs; rw [← List.take_append_drop (posB c l) l, List.drop_eq_getElem_cons h, posB_at h]

def one1 (c : UInt8) : ByteArray := ⟨#[c]⟩
set_option maxHeartbeats 2000000 in
set_option maxRecDepth 100000 in
theorem sIndex1_any (s : ByteArray) (c : UInt8) (w : World) (hs : s.size ≤ 9223372036854775807) :
    Calls Tryz.prog 132 #[.string s, .string ⟨#[c]⟩] w fun e w' => e = .returned (.int .i64 (if posB c s.data.toList < s.size then (posB c s.data.toList : Int) else -1)) ∧ w = w' := by
  have hix : ∀ wx, Calls Tryz.prog 151 #[.string s, .int .u8 c.toNat] wx fun e w' => e = .returned (.int .i64 (if posB c s.data.toList < s.size then (posB c s.data.toList : Int) else -1)) ∧ wx = w' := fun wx => by
    have := Any.stringslite_IndexByte { Tryz.lays137 with } s c.toNat wx
    refine this.mono fun e w' h => ⟨?_, h.2.symm⟩
    rw [h.1]
    have := index_pos c s.data.toList
    rw [len_data] at this
    simp [this]
  have hc0 : ∀ h, (⟨#[c]⟩ : ByteArray)[0]'h = c := fun _ => rfl
  by_cases he : s = ⟨#[c]⟩
  · have hz : (if posB c s.data.toList < s.size then (posB c s.data.toList : Int) else -1) = 0 := by
      subst he
      have e : posB c (⟨#[c]⟩ : ByteArray).data.toList = 0 := posB_hit c []
      rw [e]; rfl
    rw [hz]
    clear hix hz
    subst he
    have hl : ([c] == (⟨#[c]⟩ : ByteArray).toList) = true := by rw [toList_data']; simp
    go_enter Tryz.func132, Tryz.ntmps132
    go_wp2
    go_ret
    exact ⟨rfl, rfl⟩
  · generalize (if posB c s.data.toList < s.size then (posB c s.data.toList : Int) else -1) = z at hix
    have hne : ([c] == s.toList) = false := by
      have : ¬ [c] = s.toList := fun h => he (by apply ByteArray.ext; apply Array.ext'; rw [← toList_data', ← h])
      simpa using this
    clear he
    go_enter Tryz.func132, Tryz.ntmps132
    go_wp2_with (go_at_call 151; refine (hix _).mono ?_; rintro e w' ⟨rfl, rfl⟩)
    go_ret
    exact ⟨rfl, rfl⟩
set_option maxHeartbeats 2000000 in
set_option maxRecDepth 100000 in
theorem lcut_yes (s : ByteArray) (c : UInt8) (k : Nat) (w : World) (hs : s.size ≤ 9223372036854775807) (hk : posB c s.data.toList = k) (hlt : k < s.size) :
    Calls Tryz.prog 115 #[.string s, .string ⟨#[c]⟩] w fun e w' => e = .returned (.tuple #[.string (s.extract 0 k), .string (s.extract (k + 1) s.size), .bool true]) ∧ Below w.heap.size w w' := by
  have hi := fun wx => sIndex1_any s c wx hs
  rw [hk, if_pos hlt] at hi
  have HI := Lib.hid hi
  have HK := Lib.hid hk
  have h1 : (k : Int) + 1 ≤ (s.size : Int) := by omega
  have h2 : (0 : Int) ≤ (k : Int) := by omega
  have h3 : (k : Int) ≤ (s.size : Int) := by omega
  have hl : (⟨#[c]⟩ : ByteArray).size = 1 := rfl
  clear hi hk
  go_enter Tryz.func115, Tryz.ntmps115
  go_wp2_with (go_at_call 132; refine (HI.out _).mono ?_; rintro e w' ⟨rfl, rfl⟩)
  go_quiet (fail)
  go_wp2
  go_ret3
  exact ⟨rfl, drew_below w _⟩
set_option maxHeartbeats 2000000 in
set_option maxRecDepth 100000 in
theorem lcut_no (s : ByteArray) (c : UInt8) (w : World) (hs : s.size ≤ 9223372036854775807) (hlt : ¬ posB c s.data.toList < s.size) :
    Calls Tryz.prog 115 #[.string s, .string ⟨#[c]⟩] w fun e w' => e = .returned (.tuple #[.string s, .string ⟨#[]⟩, .bool false]) ∧ Below w.heap.size w w' := by
  have hi := fun wx => sIndex1_any s c wx hs
  rw [if_neg hlt] at hi
  have HI := Lib.hid hi
  clear hi hlt
  go_enter Tryz.func115, Tryz.ntmps115
  go_wp2_with (go_at_call 132; refine (HI.out _).mono ?_; rintro e w' ⟨rfl, rfl⟩)
  go_ret3
  exact ⟨rfl, Below.refl _ _⟩
set_option maxHeartbeats 2000000 in
theorem cut_yes (s : ByteArray) (c : UInt8) (k : Nat) (w : World) (hs : s.size ≤ 9223372036854775807) (hk : posB c s.data.toList = k) (hlt : k < s.size) :
    Calls Tryz.prog 84 #[.string s, .string ⟨#[c]⟩] w fun e w' => e = .returned (.tuple #[.string (s.extract 0 k), .string (s.extract (k + 1) s.size), .bool true]) ∧ Below w.heap.size w w' := by
  have HI := Lib.hid (fun wx => lcut_yes s c k wx hs hk hlt)
  clear hk
  go_enter Tryz.func84, Tryz.ntmps84
  go_wp2_with (go_at_call 115; refine (HI.out _).mono ?_; rintro e w' ⟨rfl, hb⟩)
  go_ret3
  exact ⟨rfl, hb⟩
set_option maxHeartbeats 2000000 in
theorem cut_no (s : ByteArray) (c : UInt8) (w : World) (hs : s.size ≤ 9223372036854775807) (hlt : ¬ posB c s.data.toList < s.size) :
    Calls Tryz.prog 84 #[.string s, .string ⟨#[c]⟩] w fun e w' => e = .returned (.tuple #[.string s, .string ⟨#[]⟩, .bool false]) ∧ Below w.heap.size w w' := by
  have HI := Lib.hid (fun wx => lcut_no s c wx hs hlt)
  clear hlt
  go_enter Tryz.func84, Tryz.ntmps84
  go_wp2_with (go_at_call 115; refine (HI.out _).mono ?_; rintro e w' ⟨rfl, hb⟩)
  go_ret3
  exact ⟨rfl, hb⟩
end Go.Proofs.YthkgaaibhjkngaaGreatDoor
set_option linter.unusedVariables false
namespace Go.Proofs.YthkgaaibhjkngaaGreatDoor
open Go.RowKit

def digB (c : UInt8) : Bool := decide (48 ≤ c.toNat) && decide (c.toNat ≤ 57)
def hstB (c : UInt8) : Bool := (decide (97 ≤ c.toNat) && decide (c.toNat ≤ 122)) || (decide (65 ≤ c.toNat) && decide (c.toNat ≤ 90)) || digB c || decide (c.toNat = 46) || decide (c.toNat = 45)
def tgtB (c : UInt8) : Bool := decide (33 ≤ c.toNat) && decide (c.toNat ≤ 126) && !decide (c.toNat = 35)
def madeF (p : UInt8 → Bool) (l : List UInt8) : Bool := l.all p && !l.isEmpty
def methF (m : List UInt8) : Bool := isTok m && decide (m.length ≤ 16) && !decide (m = [67, 79, 78, 78, 69, 67, 84]) && !decide (m = [84, 82, 65, 67, 69])
def tgtF (t : List UInt8) : Bool := t.all tgtB && decide (t.head? = some 47)
def hostV (v : List UInt8) : Bool := madeF hstB (v.take (posB 58 v)) && (decide (v.length ≤ posB 58 v) || (decide ((v.drop (posB 58 v + 1)).length ≤ 5) && madeF digB (v.drop (posB 58 v + 1))))
def kHst : ByteArray := ⟨#[104, 111, 115, 116]⟩
def hostF (l : AL) : Bool := match allF l kHst with | [v] => hostV v.data.toList | _ => false

theorem digit_any (c : UInt8) (w : World) : Calls Tryz.prog 86 #[.int .u8 c.toNat] w fun e w' => e = .returned (.bool (digB c)) ∧ w = w' := by
  obtain ⟨x, hx⟩ : ∃ x : Int, x = (c.toNat : Int) := ⟨_, rfl⟩
  have hd : digB c = (decide (48 ≤ x) && decide (x ≤ 57)) := by
    unfold digB; rw [hx]; congr 1 <;> (apply decide_eq_decide.2; omega)
  rw [hd, ← hx]
  clear hd hx
  rcases (by omega : x < 48 ∨ (48 ≤ x ∧ x ≤ 57) ∨ (48 ≤ x ∧ 57 < x)) with g1 | ⟨g1, g2⟩ | ⟨g1, g2⟩
  all_goals
    go_enter Tryz.func86, Tryz.ntmps86
    go_wp2
    go_ret
    exact ⟨ret_bool (by symm; first | (simp [g1, g2]; done) | (simp [g1, g2]; omega) | (simp; omega)), rfl⟩
set_option maxHeartbeats 2000000 in
theorem hostB_any (c : UInt8) (w : World) : Calls Tryz.prog 87 #[.int .u8 c.toNat] w fun e w' => e = .returned (.bool (hstB c)) ∧ w = w' := by
  have hdg := fun wx => digit_any c wx
  obtain ⟨x, hx⟩ : ∃ x : Int, x = (c.toNat : Int) := ⟨_, rfl⟩
  have hyes : (97 ≤ x ∧ x ≤ 122) ∨ (65 ≤ x ∧ x ≤ 90) ∨ (48 ≤ x ∧ x ≤ 57) ∨ x = 46 ∨ x = 45 → hstB c = true := fun h => by
    unfold hstB digB
    simp only [Bool.or_eq_true, Bool.and_eq_true, decide_eq_true_eq]
    omega
  have hno : ¬ ((97 ≤ x ∧ x ≤ 122) ∨ (65 ≤ x ∧ x ≤ 90) ∨ (48 ≤ x ∧ x ≤ 57) ∨ x = 46 ∨ x = 45) → hstB c = false := fun h => by
    unfold hstB digB
    simp only [Bool.or_eq_false_iff, Bool.and_eq_false_iff, decide_eq_false_iff_not]
    omega
  have hdv : digB c = (decide (48 ≤ x) && decide (x ≤ 57)) := by
    unfold digB; rw [hx]; congr 1 <;> (apply decide_eq_decide.2; omega)
  rw [hdv] at hdg
  rw [← hx] at hdg ⊢
  have HY := Lib.hid hyes
  have HN := Lib.hid hno
  clear hyes hno hdv hx
  have hcase : (97 ≤ x ∧ x ≤ 122) ∨ (x < 97 ∧ 65 ≤ x ∧ x ≤ 90) ∨ (x < 97 ∧ x < 65 ∧ 48 ≤ x ∧ x ≤ 57) ∨ x = 46 ∨ x = 45 ∨ (97 ≤ x ∧ 122 < x ∧ 65 ≤ x ∧ 90 < x ∧ 48 ≤ x ∧ 57 < x) ∨ (x < 97 ∧ 65 ≤ x ∧ 90 < x ∧ 48 ≤ x ∧ 57 < x) ∨ (x < 97 ∧ x < 65 ∧ 48 ≤ x ∧ 57 < x) ∨ (x < 97 ∧ x < 65 ∧ x < 48 ∧ ¬ x = 46 ∧ ¬ x = 45) := by omega
  rcases hcase with ⟨g1, g2⟩ | ⟨g1, g2, g3⟩ | ⟨g1, g2, g3, g4⟩ | g1 | g1 | ⟨g1, g2, g3, g4, g5, g6⟩ | ⟨g1, g2, g3, g4, g5⟩ | ⟨g1, g2, g3, g4⟩ | ⟨g1, g2, g3, g4, g5⟩
  · have HV := Lib.hid (HY.out (by omega))
    clear hdg
    go_enter Tryz.func87, Tryz.ntmps87
    go_wp2
    go_ret
    exact ⟨ret_bool HV.out.symm, rfl⟩
  · have HV := Lib.hid (HY.out (by omega))
    clear hdg
    go_enter Tryz.func87, Tryz.ntmps87
    go_wp2
    go_ret
    exact ⟨ret_bool HV.out.symm, rfl⟩
  · have HV := Lib.hid (HY.out (by omega))
    have hb : (decide (48 ≤ x) && decide (x ≤ 57)) = true := by simp [g3, g4]
    rw [hb] at hdg
    clear hb HY HN
    have HD := Lib.hid hdg
    clear hdg
    go_enter Tryz.func87, Tryz.ntmps87
    go_wp2_with fail
    refine (HD.out _).mono ?_; rintro e w1 ⟨rfl, rfl⟩
    go_wp2
    go_ret
    exact ⟨ret_bool HV.out.symm, rfl⟩
  · have HV := Lib.hid (HY.out (by omega))
    subst g1
    have hb : (decide (48 ≤ (46 : Int)) && decide ((46 : Int) ≤ 57)) = false := by decide
    rw [hb] at hdg
    clear hb HY HN
    have HD := Lib.hid hdg
    clear hdg
    go_enter Tryz.func87, Tryz.ntmps87
    go_wp2_with fail
    refine (HD.out _).mono ?_; rintro e w1 ⟨rfl, rfl⟩
    go_wp2
    go_ret
    exact ⟨ret_bool HV.out.symm, rfl⟩
  · have HV := Lib.hid (HY.out (by omega))
    subst g1
    have hb : (decide (48 ≤ (45 : Int)) && decide ((45 : Int) ≤ 57)) = false := by decide
    rw [hb] at hdg
    clear hb HY HN
    have HD := Lib.hid hdg
    clear hdg
    go_enter Tryz.func87, Tryz.ntmps87
    go_wp2_with fail
    refine (HD.out _).mono ?_; rintro e w1 ⟨rfl, rfl⟩
    go_wp2
    go_ret
    exact ⟨ret_bool HV.out.symm, rfl⟩
  all_goals
    have HV := Lib.hid (HN.out (by omega))
    have hb : (decide (48 ≤ x) && decide (x ≤ 57)) = false := by simp; omega
    have n1 : (x == 46) = false := by simp; omega
    have n2 : (x == 45) = false := by simp; omega
    rw [hb] at hdg
    clear hb HY HN
    have HD := Lib.hid hdg
    clear hdg
    go_enter Tryz.func87, Tryz.ntmps87
    go_wp2_with fail
    refine (HD.out _).mono ?_; rintro e w1 ⟨rfl, rfl⟩
    go_wp2
    go_ret
    first | exact ⟨ret_bool HV.out.symm, rfl⟩ | exact ⟨ret_bool (by rw [HV.out]; simp; omega), rfl⟩
theorem all_upto {p : UInt8 → Bool} {X : ByteArray} (h : ∀ j (hj : j < X.size), p X[j] = true) : X.data.toList.all p = true := by
  rw [List.all_eq_true]
  intro x hx
  obtain ⟨i, hi, rfl⟩ := List.getElem_of_mem hx
  exact h i (by rw [len_data] at hi; exact hi)
theorem all_bad {p : UInt8 → Bool} {X : ByteArray} (k : Nat) (hk : k < X.size) (h : p X[k] = false) : X.data.toList.all p = false := by
  rw [List.all_eq_false]
  exact ⟨X[k], List.getElem_mem (l := X.data.toList) (n := k) (by rw [len_data]; exact hk), by rw [h]; simp⟩
theorem empty_or (X : ByteArray) : (X.toList == []) = X.data.toList.isEmpty ∧ (X.toList != []) = !X.data.toList.isEmpty := by
  rw [toList_data']
  cases X.data.toList <;> simp
set_option maxHeartbeats 2000000 in
theorem madeD_any (X : ByteArray) (w : World) (hs : X.size ≤ 9223372036854775807) :
    Calls Tryz.prog 85 #[.string X, .func (.func 86) #[] #[]] w fun e w' => e = .returned (.bool (madeF digB X.data.toList)) ∧ w = w' := by
  obtain ⟨R, hR⟩ : ∃ R, R = madeF digB X.data.toList := ⟨_, rfl⟩
  have hbad : ∀ k (hk : k < X.size), digB X[k] = false → R = false := fun k hk h => by rw [hR]; unfold madeF; rw [all_bad k hk h]; rfl
  have hgood : (∀ j (hj : j < X.size), digB X[j] = true) → R = !X.data.toList.isEmpty := fun h => by rw [hR]; unfold madeF; rw [all_upto h]; rfl
  obtain ⟨e1, e2⟩ := empty_or X
  obtain ⟨b, hb⟩ : ∃ b, X.data.toList.isEmpty = b := ⟨_, rfl⟩
  rw [hb] at hgood e1 e2
  rw [← hR]
  have HB := Lib.hid hbad
  have HG := Lib.hid hgood
  clear hbad hgood hR hb
  go_enter Tryz.func85, Tryz.ntmps85
  go_wp2
  go_loop [5] (fun i => ∃ k : Nat, k ≤ X.size ∧ i = .int .i64 k ∧ ∀ j (hj : j < X.size), j < k → digB X[j] = true) (fun i => X.size - (intOf i).toNat)
  case atStart => exact ⟨0, by omega, rfl, fun j _ h => by omega⟩
  case round =>
    obtain ⟨k, hk, rfl, hall⟩ := hrel
    by_cases hlt : k < X.size
    · have HX : Hid (digB X[k] = true → ∀ j (hj : j < X.size), j < k + 1 → digB X[j] = true) := Lib.hid fun h j hj hjk => by
        by_cases e : j = k
        · subst e; exact h
        · exact hall j hj (by omega)
      have HF := Lib.hid (HB.out k hlt)
      have hc := fun wx => digit_any X[k] wx
      clear hall
      generalize digB X[k] = t at hc HX HF
      have HC := Lib.hid hc
      clear hc
      cases t
      · go_wp2_with fail
        refine (HC.out _).mono ?_; rintro e w1 ⟨rfl, rfl⟩
        go_wp2
        go_ret
        exact ⟨ret_bool (HF.out (by simp)).symm, rfl⟩
      · go_wp2_with fail
        refine (HC.out _).mono ?_; rintro e w1 ⟨rfl, rfl⟩
        go_wp2
        go_round
        case rel => exact ⟨k + 1, by omega, by go_num, HX.out (by simp)⟩
        case measure => simp [intOf]; omega
    · have HV := Lib.hid (HG.out fun j hj => hall j hj (by omega))
      clear hall
      cases b
      all_goals
        go_wp2
        go_ret
        exact ⟨ret_bool (by rw [HV.out]; rfl), rfl⟩
set_option maxHeartbeats 2000000 in
theorem madeH_any (X : ByteArray) (w : World) (hs : X.size ≤ 9223372036854775807) :
    Calls Tryz.prog 85 #[.string X, .func (.func 87) #[] #[]] w fun e w' => e = .returned (.bool (madeF hstB X.data.toList)) ∧ w = w' := by
  obtain ⟨R, hR⟩ : ∃ R, R = madeF hstB X.data.toList := ⟨_, rfl⟩
  have hbad : ∀ k (hk : k < X.size), hstB X[k] = false → R = false := fun k hk h => by rw [hR]; unfold madeF; rw [all_bad k hk h]; rfl
  have hgood : (∀ j (hj : j < X.size), hstB X[j] = true) → R = !X.data.toList.isEmpty := fun h => by rw [hR]; unfold madeF; rw [all_upto h]; rfl
  obtain ⟨e1, e2⟩ := empty_or X
  obtain ⟨b, hb⟩ : ∃ b, X.data.toList.isEmpty = b := ⟨_, rfl⟩
  rw [hb] at hgood e1 e2
  rw [← hR]
  have HB := Lib.hid hbad
  have HG := Lib.hid hgood
  clear hbad hgood hR hb
  go_enter Tryz.func85, Tryz.ntmps85
  go_wp2
  go_loop [5] (fun i => ∃ k : Nat, k ≤ X.size ∧ i = .int .i64 k ∧ ∀ j (hj : j < X.size), j < k → hstB X[j] = true) (fun i => X.size - (intOf i).toNat)
  case atStart => exact ⟨0, by omega, rfl, fun j _ h => by omega⟩
  case round =>
    obtain ⟨k, hk, rfl, hall⟩ := hrel
    by_cases hlt : k < X.size
    · have HX : Hid (hstB X[k] = true → ∀ j (hj : j < X.size), j < k + 1 → hstB X[j] = true) := Lib.hid fun h j hj hjk => by
        by_cases e : j = k
        · subst e; exact h
        · exact hall j hj (by omega)
      have HF := Lib.hid (HB.out k hlt)
      have hc := fun wx => hostB_any X[k] wx
      clear hall
      generalize hstB X[k] = t at hc HX HF
      have HC := Lib.hid hc
      clear hc
      cases t
      · go_wp2_with fail
        refine (HC.out _).mono ?_; rintro e w1 ⟨rfl, rfl⟩
        go_wp2
        go_ret
        exact ⟨ret_bool (HF.out (by simp)).symm, rfl⟩
      · go_wp2_with fail
        refine (HC.out _).mono ?_; rintro e w1 ⟨rfl, rfl⟩
        go_wp2
        go_round
        case rel => exact ⟨k + 1, by omega, by go_num, HX.out (by simp)⟩
        case measure => simp [intOf]; omega
    · have HV := Lib.hid (HG.out fun j hj => hall j hj (by omega))
      clear hall
      cases b
      all_goals
        go_wp2
        go_ret
        exact ⟨ret_bool (by rw [HV.out]; rfl), rfl⟩

theorem hPre_any (X : ByteArray) (w : World) : Calls Tryz.prog 83 #[.string X, .string ⟨#[47]⟩] w fun e w' => e = .returned (.bool (decide (X.data.toList.head? = some 47))) ∧ w = w' := by
  refine (Any.strings_HasPrefix Tryz.lays99 X ⟨#[47]⟩ w).mono fun e w' h => ⟨?_, h.2.symm⟩
  rw [h.1]
  congr 2
  unfold Lib.hasPrefix
  cases X.data.toList with
  | nil => rfl
  | cons a l =>
    simp only [List.isPrefixOf, List.head?_cons, Option.some.injEq, Bool.and_true]
    by_cases h : a = 47
    · subst h; rfl
    · have h2 : ¬ 47 = a := fun e => h e.symm
      simp [h, h2]
theorem tgt_cases (c : UInt8) (b : Bool) (h : tgtB c = b) : (b = true ∧ 33 ≤ (c.toNat : Int) ∧ (c.toNat : Int) ≤ 126 ∧ ¬ (c.toNat : Int) = 35) ∨ (b = false ∧ ((c.toNat : Int) < 33 ∨ (33 ≤ (c.toNat : Int) ∧ 126 < (c.toNat : Int)) ∨ (c.toNat : Int) = 35)) := by
  subst h
  unfold tgtB
  by_cases h1 : 33 ≤ c.toNat
  · by_cases h2 : c.toNat ≤ 126
    · by_cases h3 : c.toNat = 35
      · right; simp [h3]
      · left; simp [h1, h2, h3]; omega
    · right; simp [h1, h2]; omega
  · right; simp [h1]; omega
set_option maxHeartbeats 4000000 in
theorem target_any (X : ByteArray) (w : World) (hs : X.size ≤ 9223372036854775807) :
    Calls Tryz.prog 39 #[.string X] w fun e w' => e = .returned (.bool (tgtF X.data.toList)) ∧ w = w' := by
  obtain ⟨R, hR⟩ : ∃ R, R = tgtF X.data.toList := ⟨_, rfl⟩
  have hbad : ∀ k (hk : k < X.size), tgtB X[k] = false → R = false := fun k hk h => by rw [hR]; unfold tgtF; rw [all_bad k hk h]; rfl
  have hgood : (∀ j (hj : j < X.size), tgtB X[j] = true) → R = decide (X.data.toList.head? = some 47) := fun h => by rw [hR]; unfold tgtF; rw [all_upto h]; rfl
  have hpp := fun wx => hPre_any X wx
  obtain ⟨b, hb⟩ : ∃ b, decide (X.data.toList.head? = some 47) = b := ⟨_, rfl⟩
  rw [hb] at hgood hpp
  rw [← hR]
  have HB := Lib.hid hbad
  have HG := Lib.hid hgood
  have HP := Lib.hid hpp
  clear hbad hgood hR hb hpp
  go_enter Tryz.func39, Tryz.ntmps39
  go_wp2
  go_loop [3] (fun i => ∃ k : Nat, k ≤ X.size ∧ i = .int .i64 k ∧ ∀ j (hj : j < X.size), j < k → tgtB X[j] = true) (fun i => X.size - (intOf i).toNat)
  case atStart => exact ⟨0, by omega, rfl, fun j _ h => by omega⟩
  case round =>
    obtain ⟨k, hk, rfl, hall⟩ := hrel
    by_cases hlt : k < X.size
    · have HX : Hid (tgtB X[k] = true → ∀ j (hj : j < X.size), j < k + 1 → tgtB X[j] = true) := Lib.hid fun h j hj hjk => by
        by_cases e : j = k
        · subst e; exact h
        · exact hall j hj (by omega)
      have HF := Lib.hid (HB.out k hlt)
      have hq := tgt_cases X[k] (tgtB X[k]) rfl
      clear hall HB HG
      generalize hT : tgtB X[k] = t at hq HX HF
      clear hT
      rcases hq with ⟨rfl, q1, q2, q3⟩ | ⟨rfl, q1 | ⟨q1, q2⟩ | q1⟩
      · have q4 : (((X[k].toNat : Nat) : Int) == 35) = false := by simpa using q3
        clear q3
        go_wp2
        go_round
        case rel => exact ⟨k + 1, by omega, by go_num, HX.out (by simp)⟩
        case measure => simp [intOf]; omega
      · go_wp2
        go_ret
        exact ⟨ret_bool (HF.out (by simp)).symm, rfl⟩
      · go_wp2
        go_ret
        exact ⟨ret_bool (HF.out (by simp)).symm, rfl⟩
      · have q2 : 33 ≤ (X[k].toNat : Int) := by omega
        have q3 : (X[k].toNat : Int) ≤ 126 := by omega
        have q4 : (((X[k].toNat : Nat) : Int) == 35) = true := by simpa using q1
        clear q1
        go_wp2
        go_ret
        exact ⟨ret_bool (HF.out (by simp)).symm, rfl⟩
    · have HV := Lib.hid (HG.out fun j hj => hall j hj (by omega))
      clear hall
      go_wp2_with fail
      refine (HP.out _).mono ?_; rintro e w1 ⟨rfl, rfl⟩
      go_wp2
      go_ret
      exact ⟨ret_bool (by rw [HV.out]), rfl⟩
set_option maxHeartbeats 4000000 in
theorem method_any (X : ByteArray) (w : World) (hs : X.size ≤ 9223372036854775807) :
    Calls Tryz.prog 38 #[.string X] w fun e w' => e = .returned (.bool (methF X.data.toList)) ∧ w = w' := by
  have ht := fun wx => token_any X wx hs
  obtain ⟨R, hR⟩ : ∃ R, R = methF X.data.toList := ⟨_, rfl⟩
  rw [← hR]
  unfold methF at hR
  rw [len_data, ← toList_data'] at hR
  rw [← toList_data'] at ht
  generalize isTok X.toList = t at ht hR
  have HT := Lib.hid ht
  have HR := Lib.hid hR
  clear ht hR
  by_cases h16 : (X.size : Int) ≤ 16
  all_goals
    by_cases c1 : X.toList = [67, 79, 78, 78, 69, 67, 84]
    all_goals
      by_cases c2 : X.toList = [84, 82, 65, 67, 69]
      all_goals
        have HV : Hid (R = (t && decide ((X.size : Int) ≤ 16) && !decide (X.toList = [67, 79, 78, 78, 69, 67, 84]) && !decide (X.toList = [84, 82, 65, 67, 69]))) := Lib.hid (by rw [HR.out]; congr 3; apply decide_eq_decide.2; omega)
        cases t
        all_goals
          go_enter Tryz.func38, Tryz.ntmps38
          go_wp2_with fail
          refine (HT.out _).mono ?_; rintro e w1 ⟨rfl, rfl⟩
          go_wp2
          go_ret
          exact ⟨ret_bool (by rw [HV.out]; simp [h16, c1, c2]), rfl⟩
end Go.Proofs.YthkgaaibhjkngaaGreatDoor
set_option linter.unusedVariables false
namespace Go.Proofs.YthkgaaibhjkngaaGreatDoor
open Go.RowKit

theorem hostF_not {l : AL} (h : (allF l kHst).length ≠ 1) : hostF l = false := by
  unfold hostF
  match hm : allF l kHst, h with
  | [], _ => rfl
  | [v], h => exact absurd rfl h
  | a :: b :: r, _ => rfl
theorem hostF_one {l : AL} {v : ByteArray} (h : allF l kHst = [v]) : hostF l = hostV v.data.toList := by unfold hostF; rw [h]
theorem mk_take (X : ByteArray) (k : Nat) : (X.extract 0 k).data.toList = X.data.toList.take k := by simp
theorem mk_drop (X : ByteArray) (k : Nat) : (X.extract k X.size).data.toList = X.data.toList.drop k := ext_drop X k
set_option maxHeartbeats 8000000 in
set_option maxRecDepth 100000 in
theorem host_any (l : AL) (av : Option Addr) (n c : Nat) (w : World) (hn : l.length = n) (hs : SrcA w av c l) (hz : asz l ≤ 1073741824) :
    Calls Tryz.prog 40 #[.slice av n c] w fun e w' => e = .returned (.bool (hostF l)) ∧ Below w.heap.size w w' := by
  have hall := fun wx (hb : Below w.heap.size w wx) => all_any l kHst av n c wx hn (hs.below (Nat.le_refl _) hb) hz (by decide)
  have h1 := allF_bsz l kHst
  have hno := @hostF_not l
  have hon := fun v => @hostF_one l v
  generalize hostF l = R at hno hon ⊢
  generalize allF l kHst = vs at hall h1 hno hon
  obtain ⟨m, hm⟩ : ∃ m, vs.length = m := ⟨_, rfl⟩
  have HL := Lib.hid (hall w (Below.refl _ _))
  unfold kHst at HL
  have HNO := Lib.hid hno
  have HON := Lib.hid hon
  clear hall hno hon hn hs
  by_cases h1m : m = 1
  · subst h1m
    obtain ⟨v, rfl⟩ : ∃ v, vs = [v] := by
      match vs, hm with
      | [v], _ => exact ⟨v, rfl⟩
    have hv : v.size ≤ 1073741824 := by
      have := bsz_at [v] 0 (by simp)
      simp at this; omega
    have HV := Lib.hid (HON.out v rfl)
    clear HON HNO hm h1
    unfold hostV at HV
    rw [len_data] at HV
    have hmh := fun wx => madeH_any (v.extract 0 (posB 58 v.data.toList)) wx (by rw [ext_size v _ _ (by have := posB_le 58 v.data.toList; rw [len_data] at this; exact this)]; have := posB_le 58 v.data.toList; rw [len_data] at this; omega)
    have hmd := fun wx => madeD_any (v.extract (posB 58 v.data.toList + 1) v.size) wx (by rw [ext_size v _ _ (Nat.le_refl _)]; omega)
    have hpl : (v.data.toList.drop (posB 58 v.data.toList + 1)).length = v.size - (posB 58 v.data.toList + 1) := by rw [List.length_drop, len_data]
    have hps : (v.extract (posB 58 v.data.toList + 1) v.size).size = v.size - (posB 58 v.data.toList + 1) := ext_size v _ _ (Nat.le_refl _)
    have hk := posB_le 58 v.data.toList
    rw [len_data] at hk
    rw [mk_take] at hmh
    rw [mk_drop] at hmd
    rw [hpl] at HV
    have hcy := fun wx k h1 h2 => cut_yes v 58 k wx (by omega) h1 h2
    have hcn := fun wx h2 => cut_no v 58 wx (by omega) h2
    by_cases hlt : posB 58 v.data.toList < v.size
    · have HC := Lib.hid (fun wx => hcy wx _ rfl hlt)
      clear hcy hcn
      have hle : decide (v.size ≤ posB 58 v.data.toList) = false := decide_eq_false (by omega)
      rw [hle] at HV
      clear hle hpl
      generalize madeF hstB (v.data.toList.take (posB 58 v.data.toList)) = t1 at hmh HV
      generalize madeF digB (v.data.toList.drop (posB 58 v.data.toList + 1)) = t2 at hmd HV
      generalize posB 58 v.data.toList = k at *
      generalize v.extract 0 k = nm at *
      obtain ⟨q, hq⟩ : ∃ q, v.size - (k + 1) = q := ⟨_, rfl⟩
      rw [hq] at HV hps
      clear hq
      generalize v.extract (k + 1) v.size = po at *
      have hps2 : (po.size : Int) = q := by omega
      have HH := Lib.hid hmh
      have HD := Lib.hid hmd
      clear hmh hmd hps
      have h5i : ((q : Int) ≤ 5 ∧ q ≤ 5) ∨ (5 < (q : Int) ∧ ¬ q ≤ 5) := by omega
      rcases h5i with ⟨h5z, h5⟩ | ⟨h5z, h5⟩
      all_goals cases t1 <;> cases t2
      · -- True False False
        go_enter Tryz.func40, Tryz.ntmps40
        go_wp2_with fail
        refine HL.out.mono ?_; rintro e w1 ⟨hb, sv, rfl, hown⟩
        obtain ⟨a1, c1, rfl, hsr⟩ := ownS_src hown
        obtain ⟨b1, o1, ha1, hbl1, hcl⟩ := srcS_at hsr 0 (by simp) (Below.refl _ _)
        subst ha1
        have HB := Lib.hid hb
        simp only [List.getElem_cons_zero, Nat.add_zero] at hcl
        clear hb hown hsr
        go_wp2_with fail
        refine (HC.out _).mono ?_; rintro e w2 ⟨rfl, hb2⟩
        have HB2 := Lib.hid (HB.out.trans (hb2.mono HB.out.size))
        clear hb2 hcl hbl1 hk hlt hv
        go_wp2_with fail
        refine (HD.out _).mono ?_; rintro e w3 ⟨rfl, rfl⟩
        go_wp2
        go_ret
        exact ⟨ret_bool (by rw [HV.out]; simp [h5]), HB2.out⟩
      · -- True False True
        go_enter Tryz.func40, Tryz.ntmps40
        go_wp2_with fail
        refine HL.out.mono ?_; rintro e w1 ⟨hb, sv, rfl, hown⟩
        obtain ⟨a1, c1, rfl, hsr⟩ := ownS_src hown
        obtain ⟨b1, o1, ha1, hbl1, hcl⟩ := srcS_at hsr 0 (by simp) (Below.refl _ _)
        subst ha1
        have HB := Lib.hid hb
        simp only [List.getElem_cons_zero, Nat.add_zero] at hcl
        clear hb hown hsr
        go_wp2_with fail
        refine (HC.out _).mono ?_; rintro e w2 ⟨rfl, hb2⟩
        have HB2 := Lib.hid (HB.out.trans (hb2.mono HB.out.size))
        clear hb2 hcl hbl1 hk hlt hv
        go_wp2_with fail
        refine (HD.out _).mono ?_; rintro e w3 ⟨rfl, rfl⟩
        go_wp2_with fail
        refine (HH.out _).mono ?_; rintro e w4 ⟨rfl, rfl⟩
        go_wp2
        go_ret
        exact ⟨ret_bool (by rw [HV.out]; simp [h5]), HB2.out⟩
      · -- True True False
        go_enter Tryz.func40, Tryz.ntmps40
        go_wp2_with fail
        refine HL.out.mono ?_; rintro e w1 ⟨hb, sv, rfl, hown⟩
        obtain ⟨a1, c1, rfl, hsr⟩ := ownS_src hown
        obtain ⟨b1, o1, ha1, hbl1, hcl⟩ := srcS_at hsr 0 (by simp) (Below.refl _ _)
        subst ha1
        have HB := Lib.hid hb
        simp only [List.getElem_cons_zero, Nat.add_zero] at hcl
        clear hb hown hsr
        go_wp2_with fail
        refine (HC.out _).mono ?_; rintro e w2 ⟨rfl, hb2⟩
        have HB2 := Lib.hid (HB.out.trans (hb2.mono HB.out.size))
        clear hb2 hcl hbl1 hk hlt hv
        go_wp2_with fail
        refine (HD.out _).mono ?_; rintro e w3 ⟨rfl, rfl⟩
        go_wp2
        go_ret
        exact ⟨ret_bool (by rw [HV.out]; simp [h5]), HB2.out⟩
      · -- True True True
        go_enter Tryz.func40, Tryz.ntmps40
        go_wp2_with fail
        refine HL.out.mono ?_; rintro e w1 ⟨hb, sv, rfl, hown⟩
        obtain ⟨a1, c1, rfl, hsr⟩ := ownS_src hown
        obtain ⟨b1, o1, ha1, hbl1, hcl⟩ := srcS_at hsr 0 (by simp) (Below.refl _ _)
        subst ha1
        have HB := Lib.hid hb
        simp only [List.getElem_cons_zero, Nat.add_zero] at hcl
        clear hb hown hsr
        go_wp2_with fail
        refine (HC.out _).mono ?_; rintro e w2 ⟨rfl, hb2⟩
        have HB2 := Lib.hid (HB.out.trans (hb2.mono HB.out.size))
        clear hb2 hcl hbl1 hk hlt hv
        go_wp2_with fail
        refine (HD.out _).mono ?_; rintro e w3 ⟨rfl, rfl⟩
        go_wp2_with fail
        refine (HH.out _).mono ?_; rintro e w4 ⟨rfl, rfl⟩
        go_wp2
        go_ret
        exact ⟨ret_bool (by rw [HV.out]; simp [h5]), HB2.out⟩
      · -- False False False
        go_enter Tryz.func40, Tryz.ntmps40
        go_wp2_with fail
        refine HL.out.mono ?_; rintro e w1 ⟨hb, sv, rfl, hown⟩
        obtain ⟨a1, c1, rfl, hsr⟩ := ownS_src hown
        obtain ⟨b1, o1, ha1, hbl1, hcl⟩ := srcS_at hsr 0 (by simp) (Below.refl _ _)
        subst ha1
        have HB := Lib.hid hb
        simp only [List.getElem_cons_zero, Nat.add_zero] at hcl
        clear hb hown hsr
        go_wp2_with fail
        refine (HC.out _).mono ?_; rintro e w2 ⟨rfl, hb2⟩
        have HB2 := Lib.hid (HB.out.trans (hb2.mono HB.out.size))
        clear hb2 hcl hbl1 hk hlt hv
        go_wp2
        go_ret
        exact ⟨ret_bool (by rw [HV.out]; simp [h5]), HB2.out⟩
      · -- False False True
        go_enter Tryz.func40, Tryz.ntmps40
        go_wp2_with fail
        refine HL.out.mono ?_; rintro e w1 ⟨hb, sv, rfl, hown⟩
        obtain ⟨a1, c1, rfl, hsr⟩ := ownS_src hown
        obtain ⟨b1, o1, ha1, hbl1, hcl⟩ := srcS_at hsr 0 (by simp) (Below.refl _ _)
        subst ha1
        have HB := Lib.hid hb
        simp only [List.getElem_cons_zero, Nat.add_zero] at hcl
        clear hb hown hsr
        go_wp2_with fail
        refine (HC.out _).mono ?_; rintro e w2 ⟨rfl, hb2⟩
        have HB2 := Lib.hid (HB.out.trans (hb2.mono HB.out.size))
        clear hb2 hcl hbl1 hk hlt hv
        go_wp2
        go_ret
        exact ⟨ret_bool (by rw [HV.out]; simp [h5]), HB2.out⟩
      · -- False True False
        go_enter Tryz.func40, Tryz.ntmps40
        go_wp2_with fail
        refine HL.out.mono ?_; rintro e w1 ⟨hb, sv, rfl, hown⟩
        obtain ⟨a1, c1, rfl, hsr⟩ := ownS_src hown
        obtain ⟨b1, o1, ha1, hbl1, hcl⟩ := srcS_at hsr 0 (by simp) (Below.refl _ _)
        subst ha1
        have HB := Lib.hid hb
        simp only [List.getElem_cons_zero, Nat.add_zero] at hcl
        clear hb hown hsr
        go_wp2_with fail
        refine (HC.out _).mono ?_; rintro e w2 ⟨rfl, hb2⟩
        have HB2 := Lib.hid (HB.out.trans (hb2.mono HB.out.size))
        clear hb2 hcl hbl1 hk hlt hv
        go_wp2
        go_ret
        exact ⟨ret_bool (by rw [HV.out]; simp [h5]), HB2.out⟩
      · -- False True True
        go_enter Tryz.func40, Tryz.ntmps40
        go_wp2_with fail
        refine HL.out.mono ?_; rintro e w1 ⟨hb, sv, rfl, hown⟩
        obtain ⟨a1, c1, rfl, hsr⟩ := ownS_src hown
        obtain ⟨b1, o1, ha1, hbl1, hcl⟩ := srcS_at hsr 0 (by simp) (Below.refl _ _)
        subst ha1
        have HB := Lib.hid hb
        simp only [List.getElem_cons_zero, Nat.add_zero] at hcl
        clear hb hown hsr
        go_wp2_with fail
        refine (HC.out _).mono ?_; rintro e w2 ⟨rfl, hb2⟩
        have HB2 := Lib.hid (HB.out.trans (hb2.mono HB.out.size))
        clear hb2 hcl hbl1 hk hlt hv
        go_wp2
        go_ret
        exact ⟨ret_bool (by rw [HV.out]; simp [h5]), HB2.out⟩
    · have HC := Lib.hid (fun wx => hcn wx hlt)
      clear hcy hcn
      have hke : posB 58 v.data.toList = v.size := by omega
      have hle : decide (v.size ≤ posB 58 v.data.toList) = true := decide_eq_true (by omega)
      rw [hle] at HV
      have hmh2 := fun wx => madeH_any v wx (by omega)
      have htk : v.data.toList.take (posB 58 v.data.toList) = v.data.toList := by rw [hke]; exact List.take_of_length_le (by rw [len_data]; exact Nat.le_refl _)
      rw [htk] at HV
      clear hle hpl hmh hmd htk hke hps
      generalize madeF hstB v.data.toList = t1 at hmh2 HV
      have HH := Lib.hid hmh2
      clear hmh2
      cases t1
      all_goals
        go_enter Tryz.func40, Tryz.ntmps40
        go_wp2_with fail
        refine HL.out.mono ?_; rintro e w1 ⟨hb, sv, rfl, hown⟩
        obtain ⟨a1, c1, rfl, hsr⟩ := ownS_src hown
        obtain ⟨b1, o1, ha1, hbl1, hcl⟩ := srcS_at hsr 0 (by simp) (Below.refl _ _)
        subst ha1
        have HB := Lib.hid hb
        simp only [List.getElem_cons_zero, Nat.add_zero] at hcl
        clear hb hown hsr
        go_wp2_with fail
        refine (HC.out _).mono ?_; rintro e w2 ⟨rfl, hb2⟩
        have HB2 := Lib.hid (HB.out.trans (hb2.mono HB.out.size))
        clear hb2 hcl hbl1 hk hlt hv
        go_wp2_with fail
        refine (HH.out _).mono ?_; rintro e w4 ⟨rfl, rfl⟩
        go_wp2
        go_ret
        exact ⟨ret_bool (by rw [HV.out]; simp), HB2.out⟩
  · have HV := Lib.hid (HNO.out (by rw [hm]; exact h1m))
    have hmb : m ≤ 1073741824 := by have := bsz_len vs; omega
    have hm1 : ¬ (m : Int) = 1 := by omega
    have hm2 : ((m : Int) != 1) = true := by simp; omega
    have HM := Lib.hid hm
    clear HNO HON hm h1 h1m
    go_enter Tryz.func40, Tryz.ntmps40
    go_wp2_with fail
    refine HL.out.mono ?_; rintro e w1 ⟨hb, sv, rfl, hown⟩
    obtain ⟨a1, c1, rfl, hsr⟩ := ownS_src hown
    have HB := Lib.hid hb
    rw [HM.out]
    clear hb hown hsr
    go_wp2
    go_ret
    exact ⟨ret_bool HV.out.symm, HB.out⟩
end Go.Proofs.YthkgaaibhjkngaaGreatDoor
set_option linter.unusedVariables false
namespace Go.Proofs.YthkgaaibhjkngaaGreatDoor
open Go.RowKit

/-- where a text is wrong, and the error's number -/
abbrev Bad := Nat × Nat
def eolB (c : UInt8) : Bool := c == 13 || c == 10
def fiE (l : List UInt8) : Nat := l.findIdx eolB
theorem fiE_cons (b : UInt8) (l : List UInt8) : fiE (b :: l) = if eolB b = true then 0 else fiE l + 1 := by
  unfold fiE
  rw [List.findIdx_cons]
  cases eolB b <;> rfl
theorem any_eol : ∀ l : List UInt8, Lib.indexAny l [13, 10] = if fiE l < l.length then (fiE l : Int) else -1
  | [] => rfl
  | b :: l => by
    have ih := any_eol l
    have he : ([13, 10] : List UInt8).contains b = eolB b := by
      unfold eolB
      simp only [List.contains_cons, List.contains_nil, Bool.or_false]
    rw [fiE_cons]
    unfold Lib.indexAny
    rw [he]
    cases eolB b
    · simp only [Bool.false_eq_true, if_false, List.length_cons, Nat.add_lt_add_iff_right]
      by_cases h2 : fiE l < l.length
      · rw [if_pos h2] at ih
        rw [if_pos h2, ih, if_neg (by simp)]
        simp
      · rw [if_neg h2] at ih
        rw [if_neg h2, ih]
        rfl
    · simp
theorem fiE_le (l : List UInt8) : fiE l ≤ l.length := List.findIdx_le_length
theorem fiE_at {l : List UInt8} (h : fiE l < l.length) : (l.getD (fiE l) 0).toNat = 13 ∨ (l.getD (fiE l) 0).toNat = 10 := by
  have := List.findIdx_getElem (p := eolB) (w := h)
  have e : l.getD (fiE l) 0 = l[fiE l] := getD_at' h
  rw [e]
  unfold eolB at this
  simp only [Bool.or_eq_true, beq_iff_eq] at this
  rcases this with h | h
  · left; exact congrArg UInt8.toNat h
  · right; exact congrArg UInt8.toNat h
theorem fiE_before {l : List UInt8} : ∀ x ∈ l.take (fiE l), eolB x = false := by
  intro x hx
  obtain ⟨j, hj, rfl⟩ := List.getElem_of_mem hx
  rw [List.length_take] at hj
  rw [List.getElem_take]
  have := List.not_of_lt_findIdx (p := eolB) (xs := l) (i := j) (by unfold fiE at hj; omega)
  simpa using this
theorem fiE_app : ∀ {a : List UInt8}, (∀ x ∈ a, eolB x = false) → ∀ b, fiE (a ++ b) = a.length + fiE b
  | [], _, b => by simp
  | x :: a, h, b => by
    rw [List.cons_append, fiE_cons, if_neg (by rw [h x (by simp)]; simp), fiE_app (fun y hy => h y (by simp [hy]))]
    simp; omega
/-- the line that begins at a place: its length; or where it is wrong, and why -/
def nxtF (l : List UInt8) (k : Nat) : Except Bad Nat :=
  if (l.drop k).length ≤ fiE (l.drop k) then .error (l.length, 24)
  else if ((l.drop k).getD (fiE (l.drop k)) 0).toNat = 10 then .error (k + fiE (l.drop k), 10)
  else if fiE (l.drop k) + 1 = (l.drop k).length then .error (l.length, 24)
  else if ((l.drop k).getD (fiE (l.drop k) + 1) 0).toNat ≠ 10 then .error (k + fiE (l.drop k), 10)
  else .ok (fiE (l.drop k))
/-- what follows a line of that text -/
theorem nxtF_ok {l : List UInt8} {k n : Nat} (h : nxtF l k = .ok n) : k + n + 2 ≤ l.length ∧ (∀ x ∈ (l.drop k).take n, eolB x = false) ∧ l.drop k = (l.drop k).take n ++ 13 :: 10 :: l.drop (k + n + 2) := by
  unfold nxtF at h
  by_cases h1 : (l.drop k).length ≤ fiE (l.drop k)
  · rw [if_pos h1] at h; cases h
  rw [if_neg h1] at h
  by_cases h2 : ((l.drop k).getD (fiE (l.drop k)) 0).toNat = 10
  · rw [if_pos h2] at h; cases h
  rw [if_neg h2] at h
  by_cases h3 : fiE (l.drop k) + 1 = (l.drop k).length
  · rw [if_pos h3] at h; cases h
  rw [if_neg h3] at h
  by_cases h4 : ((l.drop k).getD (fiE (l.drop k) + 1) 0).toNat ≠ 10
  · rw [if_pos h4] at h; cases h
  rw [if_neg h4] at h
  cases h
  have hb := @fiE_before (l.drop k)
  have ha := fiE_at (l := l.drop k) (by omega)
  generalize hr : l.drop k = r at *
  generalize hn : fiE r = n at *
  have hlen : r.length = l.length - k := by rw [← hr, List.length_drop]
  refine ⟨by omega, hb, ?_⟩
  have e1 : r.getD n 0 = r[n]'(by omega) := getD_at' (by omega)
  have e2 : r.getD (n + 1) 0 = r[n + 1]'(by omega) := getD_at' (by omega)
  have f1 : r[n]'(by omega) = 13 := by
    rw [← e1]
    rcases ha with h | h
    · exact UInt8.toNat_inj.1 h
    · exact absurd h h2
  have f2 : r[n + 1]'(by omega) = 10 := by
    rw [← e2]; exact UInt8.toNat_inj.1 (by simpa using h4)
  have hd : l.drop (k + n + 2) = r.drop (n + 2) := by rw [← hr, List.drop_drop]; congr 1
  rw [hd]
  conv => lhs; rw [← List.take_append_drop n r, List.drop_eq_getElem_cons (by omega : n < r.length), f1, List.drop_eq_getElem_cons (by omega : n + 1 < r.length), f2]
theorem nxtF_bad {l : List UInt8} {k : Nat} {b : Bad} (h : nxtF l k = .error b) (hk : k ≤ l.length) : b.1 ≤ l.length ∧ (b.2 = 24 ∨ b.2 = 10) := by
  unfold nxtF at h
  have hlen : (l.drop k).length = l.length - k := List.length_drop
  by_cases h1 : (l.drop k).length ≤ fiE (l.drop k)
  · rw [if_pos h1] at h; cases h; exact ⟨Nat.le_refl _, .inl rfl⟩
  rw [if_neg h1] at h
  by_cases h2 : ((l.drop k).getD (fiE (l.drop k)) 0).toNat = 10
  · rw [if_pos h2] at h; cases h; exact ⟨by show k + fiE _ ≤ _; omega, .inr rfl⟩
  rw [if_neg h2] at h
  by_cases h3 : fiE (l.drop k) + 1 = (l.drop k).length
  · rw [if_pos h3] at h; cases h; exact ⟨Nat.le_refl _, .inl rfl⟩
  rw [if_neg h3] at h
  by_cases h4 : ((l.drop k).getD (fiE (l.drop k) + 1) 0).toNat ≠ 10
  · rw [if_pos h4] at h; cases h; exact ⟨by show k + fiE _ ≤ _; omega, .inr rfl⟩
  rw [if_neg h4] at h
  cases h
/-- a line stands where it was written -/
theorem nxtF_line {a line rest : List UInt8} (h : ∀ x ∈ line, eolB x = false) : nxtF (a ++ (line ++ 13 :: 10 :: rest)) a.length = .ok line.length := by
  have hd : (a ++ (line ++ 13 :: 10 :: rest)).drop a.length = line ++ 13 :: 10 :: rest := List.drop_left
  have hf : fiE (line ++ 13 :: 10 :: rest) = line.length := by
    rw [fiE_app h, fiE_cons, if_pos (by decide)]; rfl
  unfold nxtF
  rw [hd, hf]
  rw [if_neg (by simp)]
  have g0 : (line ++ 13 :: 10 :: rest).getD line.length 0 = 13 := by
    rw [List.getD_eq_getElem?_getD, List.getElem?_append_right (Nat.le_refl _)]; simp
  have g1 : (line ++ 13 :: 10 :: rest).getD (line.length + 1) 0 = 10 := by
    rw [List.getD_eq_getElem?_getD, List.getElem?_append_right (by omega)]; simp
  rw [g0, g1, if_neg (by decide), if_neg (by simp), if_neg (by decide)]

/-- the field of a line that begins at a place -/
def fieldF (line : List UInt8) (k : Nat) : Except Bad (ByteArray × ByteArray) :=
  if (line.getD 0 0).toNat = 32 ∨ (line.getD 0 0).toNat = 9 then .error (k, 9)
  else if line.length ≤ posB 58 line then .error (k, 7)
  else if (Lib.trimRightS (line.take (posB 58 line)) blanks).length < posB 58 line then .error (k + (Lib.trimRightS (line.take (posB 58 line)) blanks).length, 11)
  else if isTok (line.take (posB 58 line)) = false then .error (k, 7)
  else if 0 ≤ ctl (line.drop (posB 58 line + 1)) then .error (k + posB 58 line + 1 + (ctl (line.drop (posB 58 line + 1))).toNat, 8)
  else .ok (mk (line.take (posB 58 line)), mk (trim (line.drop (posB 58 line + 1))))
/-- all further lines: at most so many more fields -/
def rowsF (l : List UInt8) : Nat → Nat → AL → Except Bad (AL × Nat)
  | 0, k, acc => match nxtF l k with
    | .error b => .error b
    | .ok n => if n = 0 then .ok (acc, k + 2) else .error (k, 18)
  | m + 1, k, acc => match nxtF l k with
    | .error b => .error b
    | .ok n => if n = 0 then .ok (acc, k + 2) else match fieldF ((l.drop k).take n) k with
      | .error b => .error b
      | .ok f => rowsF l m (k + n + 2) (acc ++ [f])
def kVer : List UInt8 := [72, 84, 84, 80, 47, 49, 46, 49]
def qlineF (line : List UInt8) : Except Bad (ByteArray × ByteArray) :=
  if line.length ≤ posB 32 line ∨ methF (line.take (posB 32 line)) = false then .error (0, 12)
  else
    let rest := line.drop (posB 32 line + 1)
    if rest.length ≤ posB 32 rest ∨ tgtF (rest.take (posB 32 rest)) = false then .error (posB 32 line + 1, 13)
    else if rest.drop (posB 32 rest + 1) ≠ kVer then .error (posB 32 line + 1 + (posB 32 rest + 1), 14)
    else .ok (mk (line.take (posB 32 line)), mk (rest.take (posB 32 rest)))
def decF (l : List UInt8) : Nat := l.foldl (fun a c => 10 * a + (c.toNat - 48)) 0
def slineF (line : List UInt8) : Except Bad (Nat × ByteArray) :=
  if (kVer ++ [32]).isPrefixOf line = false then .error (0, 14)
  else
    let rest := line.drop 9
    if rest.length < 4 ∨ madeF digB (rest.take 3) = false ∨ (rest.getD 3 0).toNat ≠ 32 then .error (9, 15)
    else if decF (rest.take 3) < 200 ∨ 599 < decF (rest.take 3) then .error (9, 15)
    else if 0 ≤ ctl (rest.drop 4) then .error (13 + (ctl (rest.drop 4)).toNat, 8)
    else .ok (decF (rest.take 3), mk (rest.drop 4))
def reqF (l : List UInt8) : Except Bad (ByteArray × ByteArray × AL) :=
  if 2048 < l.length then .error (2048, 17) else
  match nxtF l 0 with
  | .error b => .error b
  | .ok n => match qlineF (l.take n) with
    | .error b => .error b
    | .ok (m, t) => match rowsF l 32 (n + 2) [] with
      | .error b => .error b
      | .ok (fs, k) => if k < l.length then .error (k, 1) else if hostF fs = false then .error (0, 16) else .ok (m, t, fs)
def resF (l : List UInt8) : Except Bad (Nat × ByteArray × AL) :=
  if 2048 < l.length then .error (2048, 17) else
  match nxtF l 0 with
  | .error b => .error b
  | .ok n => match slineF (l.take n) with
    | .error b => .error b
    | .ok (s, r) => match rowsF l 32 (n + 2) [] with
      | .error b => .error b
      | .ok (fs, k) => if k < l.length then .error (k, 1) else .ok (s, r, fs)
end Go.Proofs.YthkgaaibhjkngaaGreatDoor
set_option linter.unusedVariables false
namespace Go.Proofs.YthkgaaibhjkngaaGreatDoor
open Go.RowKit

def gave (b : Bad) : Ending := .panicked [{ v := .iface 116 (.agg #[.int .i64 b.1, .int .i64 b.2]), recovered := false }]
theorem give_any (a b : Int) (w : World) : Calls Tryz.prog 78 #[.int .i64 a, .int .i64 b] w fun e w' => e = .panicked [{ v := .iface 116 (.agg #[.int .i64 a, .int .i64 b]), recovered := false }] ∧ w = w' := by
  go_enter Tryz.func78, Tryz.ntmps78
  go_wp2
  exact ⟨rfl, rfl, rfl⟩
theorem gave_is (p q : Nat) : gave (p, q) = .panicked [{ v := .iface 116 (.agg #[.int .i64 p, .int .i64 q]), recovered := false }] := rfl
/-- the lines of a text, as they stand -/
structure LinesAt (w : World) (B : Nat) (X : ByteArray) (k : Nat) : Prop where
  lt : B < w.heap.size
  s : w.cell? ⟨B, 0, none⟩ = some (.string X)
  at' : w.cell? ⟨B, 1, none⟩ = some (.int .i64 k)
  f : w.frozen? ⟨B, 1, none⟩ = false
def Went (w : World) (B k : Nat) (w' : World) : Prop := Below w.heap.size (w.setCell ⟨B, 1, none⟩ (.int .i64 k)) w'
theorem set_size (w : World) (a : Addr) (v : Value) : (w.setCell a v).heap.size = w.heap.size := by simp [World.setCell]
theorem LinesAt.below {w w' : World} {B k : Nat} {X : ByteArray} (h : LinesAt w B X k) (hb : Below w.heap.size w w') : LinesAt w' B X k :=
  ⟨Nat.lt_of_lt_of_le h.lt hb.size, (hb.cell (p := ⟨B, 0, none⟩) h.lt).trans h.s, (hb.cell (p := ⟨B, 1, none⟩) h.lt).trans h.at', (hb.frozen (p := ⟨B, 1, none⟩) h.lt).trans h.f⟩
theorem LinesAt.set {w : World} {B k : Nat} {X : ByteArray} (h : LinesAt w B X k) (j : Nat) : LinesAt (w.setCell ⟨B, 1, none⟩ (.int .i64 j)) B X j := by
  refine ⟨by rw [set_size]; exact h.lt, ?_, ?_, ?_⟩
  · rw [World.cell?_setCell_other _ _ _ _ (by simp)]; exact h.s
  · exact World.cell?_setCell_same _ _ _ h.at'
  · rw [World.frozen?_setCell]; exact h.f
theorem LinesAt.went {w w' : World} {B k j : Nat} {X : ByteArray} (h : LinesAt w B X k) (g : Went w B j w') : LinesAt w' B X j :=
  (h.set j).below (by rw [set_size]; exact g)
theorem Went.size {w w' : World} {B j : Nat} (g : Went w B j w') : w.heap.size ≤ w'.heap.size := by have := Below.size g; rw [set_size] at this; exact this
theorem Went.below {w w' : World} {B j H : Nat} (g : Went w B j w') (hB : H ≤ B) (hw : H ≤ w.heap.size) : Below H w w' :=
  ((Below.refl H w).setCell (p := ⟨B, 1, none⟩) hB _).trans (Below.mono g hw)
theorem Went.more {w w1 w2 : World} {B j : Nat} (g : Went w B j w1) (hb : Below w1.heap.size w1 w2) : Went w B j w2 :=
  Below.trans g (hb.mono g.size)
theorem Went.then {w w1 w2 : World} {B j k : Nat} (g : Went w B j w1) (g2 : Went w1 B k w2) : Went w B k w2 := by
  refine Below.trans ?_ (Below.mono g2 g.size)
  refine ⟨g.os, g.tape, g.output, by rw [set_size, set_size]; exact g.size, fun i hi => ?_⟩
  have hg := g.block i hi
  by_cases hiB : i = B
  · subst hiB
    simp only [World.setCell, Array.getElem?_modify] at hg ⊢
    rw [hg]
    cases w.heap[i]? with
    | none => rfl
    | some o => cases o <;> simp
  · rw [Below.heap_setCell _ _ _ _ hiB, hg, Below.heap_setCell _ _ _ _ hiB, Below.heap_setCell _ _ _ _ hiB]
theorem Went.cell {w w' : World} {B j b o : Nat} (g : Went w B j w') (hb : b < w.heap.size) (hne : b ≠ B) : w'.cell? ⟨b, o, none⟩ = w.cell? ⟨b, o, none⟩ := by
  rw [Below.cell g (p := ⟨b, o, none⟩) hb, World.cell?_setCell_other _ _ _ _ (by intro e; injection e with e1; exact hne e1.symm)]
theorem Went.frozen {w w' : World} {B j b o : Nat} (g : Went w B j w') (hb : b < w.heap.size) : w'.frozen? ⟨b, o, none⟩ = w.frozen? ⟨b, o, none⟩ := by
  rw [Below.frozen g (p := ⟨b, o, none⟩) hb, World.frozen?_setCell]
theorem below_set {w w2 : World} (hb : Below w.heap.size w w2) (a : Addr) (v : Value) : Below w.heap.size (w.setCell a v) (w2.setCell a v) := by
  refine ⟨hb.os, hb.tape, hb.output, by rw [set_size, set_size]; exact hb.size, fun i hi => ?_⟩
  have hg := hb.block i hi
  simp only [World.setCell, Array.getElem?_modify]
  rw [hg]
theorem went_set {w w2 : World} {B j : Nat} {z : Int} (hb : Below w.heap.size w w2) (hz : z = j) : Went w B j (w2.setCell ⟨B, 1, none⟩ (.int .i64 z)) := by
  subst hz; exact below_set hb _ _
def NxtSays (X : ByteArray) (k B : Nat) (R : Except Bad Nat) (w : World) (e : Ending) (w' : World) : Prop := match R with
  | .ok n => e = .returned (.string (X.extract k (k + n))) ∧ Went w B (k + n + 2) w'
  | .error b => e = gave b ∧ Below w.heap.size w w'
theorem nxtOk {X : ByteArray} {k B n : Nat} {R : Except Bad Nat} {w w' : World} {S : ByteArray} (h : R = .ok n) (hS : S = X.extract k (k + n)) (g : Went w B (k + n + 2) w') : NxtSays X k B R w (.returned (.string S)) w' := by rw [h, hS]; exact ⟨rfl, g⟩
theorem nxtBad {X : ByteArray} {k B p q : Nat} {R : Except Bad Nat} {w w' : World} {a : Int} (h : R = .error (p, q)) (ha : a = p) (hb : Below w.heap.size w w') : NxtSays X k B R w (.panicked [{ v := .iface 116 (.agg #[.int .i64 a, .int .i64 q]), recovered := false }]) w' := by rw [h, ha]; exact ⟨rfl, hb⟩
set_option maxHeartbeats 8000000 in
set_option maxRecDepth 100000 in
theorem next_any (X : ByteArray) (B k : Nat) (w : World) (h : LinesAt w B X k) (hX : X.size ≤ 2048) (hk : k ≤ X.size) :
    Calls Tryz.prog 106 #[.pointer (some ⟨B, 0, none⟩)] w (NxtSays X k B (nxtF X.data.toList k) w) := by
  obtain ⟨R, hR⟩ : ∃ R, R = nxtF X.data.toList k := ⟨_, rfl⟩
  rw [← hR]
  unfold nxtF at hR
  obtain ⟨T, hT⟩ : ∃ T, X.extract k X.size = T := ⟨_, rfl⟩
  have hTl : X.data.toList.drop k = T.data.toList := by rw [← hT, ext_drop]
  have hTs : T.size = X.size - k := by rw [← hT, ext_size X k _ (Nat.le_refl _)]
  have hsub : ∀ m, m ≤ T.size → T.extract 0 m = X.extract k (k + m) := fun m hm => by
    rw [ext_mk T 0 m hm, ext_mk X k (k + m) (by omega), ← hTl, List.drop_zero, List.drop_take]
    congr 3; omega
  rw [hTl, len_data, len_data] at hR
  have hia := fun wx => iAny_any T wx (by omega)
  unfold IdxSays at hia
  have hae := any_eol T.data.toList
  rw [len_data] at hae
  have hat := @fiE_at T.data.toList
  have hle := fiE_le T.data.toList
  rw [len_data] at hat hle
  generalize hn : fiE T.data.toList = n at hR hae hat hle
  rw [hae] at hia
  obtain ⟨c0, c1, f1⟩ : _ ∧ _ ∧ _ := ⟨h.s, h.at', h.f⟩
  have hk0 : (0 : Int) ≤ (k : Int) := by omega
  have hk1 : (k : Int) ≤ (X.size : Int) := by omega
  have hX2 : (X.size : Int) ≤ 2048 := by omega
  have HL := Lib.hid h
  have HS := Lib.hid hsub
  have HD := Lib.hid (fun nq => drew_below w nq)
  have hTe : ∀ m : Nat, X.extract k X.size = T := fun _ => hT
  have hT1 := hT
  clear h hsub hTl hae hn hTe
  by_cases h1 : T.size ≤ n
  · rw [if_pos h1] at hR
    rw [if_neg (by omega)] at hia
    have HR := Lib.hid hR
    have HI := Lib.hid hia
    clear hR hia hat
    go_enter Tryz.func106, Tryz.ntmps106
    go_wp2
    go_quiet (fail)
    obtain ⟨w1, hw1⟩ : ∃ w1, w1 = w.drewN nq := ⟨_, rfl⟩
    have HB1 : Hid (Below w.heap.size w w1) := Lib.hid (hw1 ▸ HD.out nq)
    rw [← hw1]
    clear hw1 c0 c1 f1
    go_wp2_with fail
    refine (HI.out _).mono ?_; rintro e w2 ⟨rfl, hb⟩
    have HB := Lib.hid (HB1.out.trans (hb.mono HB1.out.size))
    have HL2 := Lib.hid (HL.out.below HB.out)
    obtain ⟨d0, d1, f1⟩ : _ ∧ _ ∧ _ := ⟨HL2.out.s, HL2.out.at', HL2.out.f⟩
    clear hb HB1
    go_wp2_with (fail)
    refine (give_any _ _ _).mono ?_; rintro e w3 ⟨rfl, rfl⟩
    go_wp2
    exact ⟨rfl, nxtBad HR.out rfl HB.out⟩
  rw [if_neg h1] at hR
  rw [if_pos (by omega)] at hia
  have hnT : n < T.size := by omega
  have hnT' : (n : Int) < (T.size : Int) := by omega
  have hn0 : (0 : Int) ≤ (n : Int) := by omega
  have HI := Lib.hid hia
  have hat2 := hat hnT
  have hby := byte_getD T n hnT
  have hq : T[n] = T.data.toList.getD n 0 := hby
  rw [← hby] at hat2 hR
  have hTX : (T.size : Int) = (X.size : Int) - (k : Int) := by omega
  have hkn : (k : Int) + (n : Int) < (X.size : Int) := by omega
  clear hia hat hby hq
  by_cases h2 : T[n].toNat = 10
  · rw [if_pos h2] at hR
    have HR := Lib.hid hR
    have h2z : ((T[n].toNat : Nat) : Int) = 10 := by omega
    clear hR hat2 h2
    go_enter Tryz.func106, Tryz.ntmps106
    go_wp2
    go_quiet (fail)
    obtain ⟨w1, hw1⟩ : ∃ w1, w1 = w.drewN nq := ⟨_, rfl⟩
    have HB1 : Hid (Below w.heap.size w w1) := Lib.hid (hw1 ▸ HD.out nq)
    rw [← hw1]
    clear hw1 c0 c1 f1
    go_wp2_with fail
    refine (HI.out _).mono ?_; rintro e w2 ⟨rfl, hb⟩
    have HB := Lib.hid (HB1.out.trans (hb.mono HB1.out.size))
    have HL2 := Lib.hid (HL.out.below HB.out)
    obtain ⟨d0, d1, f1⟩ : _ ∧ _ ∧ _ := ⟨HL2.out.s, HL2.out.at', HL2.out.f⟩
    clear hb HB1
    go_wp2_with (fail)
    refine (give_any _ _ _).mono ?_; rintro e w3 ⟨rfl, rfl⟩
    go_wp2
    exact ⟨rfl, nxtBad HR.out (by simp) HB.out⟩
  rw [if_neg h2] at hR
  have h2z : ((((T[n].toNat : Nat) : Int)) == 10) = false := by simp; omega
  have h2y : ¬ ((T[n].toNat : Nat) : Int) = 10 := by omega
  clear hat2 h2
  by_cases h3 : n + 1 = T.size
  · rw [if_pos h3] at hR
    have HR := Lib.hid hR
    have h3z : (n : Int) + 1 = (T.size : Int) := by omega
    have h3y : (((n : Int) + 1) == (T.size : Int)) = true := by simp; omega
    clear hR h3 h3z
    go_enter Tryz.func106, Tryz.ntmps106
    go_wp2
    go_quiet (fail)
    obtain ⟨w1, hw1⟩ : ∃ w1, w1 = w.drewN nq := ⟨_, rfl⟩
    have HB1 : Hid (Below w.heap.size w w1) := Lib.hid (hw1 ▸ HD.out nq)
    rw [← hw1]
    clear hw1 c0 c1 f1
    go_wp2_with fail
    refine (HI.out _).mono ?_; rintro e w2 ⟨rfl, hb⟩
    have HB := Lib.hid (HB1.out.trans (hb.mono HB1.out.size))
    have HL2 := Lib.hid (HL.out.below HB.out)
    obtain ⟨d0, d1, f1⟩ : _ ∧ _ ∧ _ := ⟨HL2.out.s, HL2.out.at', HL2.out.f⟩
    clear hb HB1
    go_wp2_with (fail)
    refine (give_any _ _ _).mono ?_; rintro e w3 ⟨rfl, rfl⟩
    go_wp2
    exact ⟨rfl, nxtBad HR.out rfl HB.out⟩
  rw [if_neg h3] at hR
  have h3y : (((n : Int) + 1) == (T.size : Int)) = false := by simp; omega
  have h3x : (n : Int) + 1 < (T.size : Int) := by omega
  have h3w : n + 1 < T.size := by omega
  have hby := byte_getD T (n + 1) h3w
  rw [← hby] at hR
  clear h3 hby
  by_cases h4 : T[n + 1].toNat ≠ 10
  · rw [if_pos h4] at hR
    have HR := Lib.hid hR
    have h4z : ((((T[n + 1].toNat : Nat) : Int)) != 10) = true := by simp; omega
    clear hR h4
    go_enter Tryz.func106, Tryz.ntmps106
    go_wp2
    go_quiet (fail)
    obtain ⟨w1, hw1⟩ : ∃ w1, w1 = w.drewN nq := ⟨_, rfl⟩
    have HB1 : Hid (Below w.heap.size w w1) := Lib.hid (hw1 ▸ HD.out nq)
    rw [← hw1]
    clear hw1 c0 c1 f1
    go_wp2_with fail
    refine (HI.out _).mono ?_; rintro e w2 ⟨rfl, hb⟩
    have HB := Lib.hid (HB1.out.trans (hb.mono HB1.out.size))
    have HL2 := Lib.hid (HL.out.below HB.out)
    obtain ⟨d0, d1, f1⟩ : _ ∧ _ ∧ _ := ⟨HL2.out.s, HL2.out.at', HL2.out.f⟩
    clear hb HB1
    go_wp2_with (fail)
    refine (give_any _ _ _).mono ?_; rintro e w3 ⟨rfl, rfl⟩
    go_wp2
    exact ⟨rfl, nxtBad HR.out (by simp) HB.out⟩
  rw [if_neg h4] at hR
  have HR := Lib.hid hR
  have h4z : ((((T[n + 1].toNat : Nat) : Int)) != 10) = false := by simp; omega
  clear hR h4
  have HZ := Lib.hid (HS.out n (by omega))
  go_enter Tryz.func106, Tryz.ntmps106
  go_wp2
  go_quiet (fail)
  obtain ⟨w1, hw1⟩ : ∃ w1, w1 = w.drewN nq := ⟨_, rfl⟩
  have HB1 : Hid (Below w.heap.size w w1) := Lib.hid (hw1 ▸ HD.out nq)
  rw [← hw1]
  clear hw1 c0 c1 f1
  go_wp2_with fail
  refine (HI.out _).mono ?_; rintro e w2 ⟨rfl, hb⟩
  have HB := Lib.hid (HB1.out.trans (hb.mono HB1.out.size))
  have HL2 := Lib.hid (HL.out.below HB.out)
  obtain ⟨d0, d1, f1⟩ : _ ∧ _ ∧ _ := ⟨HL2.out.s, HL2.out.at', HL2.out.f⟩
  clear hb HB1
  go_wp2
  go_ret
  exact nxtOk HR.out HZ.out (went_set HB.out (by omega))
end Go.Proofs.YthkgaaibhjkngaaGreatDoor
set_option linter.unusedVariables false
namespace Go.Proofs.YthkgaaibhjkngaaGreatDoor
open Go.RowKit

theorem begin_bad (X : ByteArray) (w : World) (h : 2048 < X.size) : Calls Tryz.prog 70 #[.string X] w fun e w' => e = gave (2048, 17) ∧ w = w' := by
  have hz : (2048 : Int) < (X.size : Int) := by omega
  clear h
  go_enter Tryz.func70, Tryz.ntmps70
  go_wp2_with fail
  refine (give_any _ _ _).mono ?_; rintro e w3 ⟨rfl, rfl⟩
  go_wp2
  exact ⟨rfl, rfl, rfl⟩
theorem begin_ok (X : ByteArray) (w : World) (h : X.size ≤ 2048) : Calls Tryz.prog 70 #[.string X] w fun e w' => e = .returned (.pointer (some ⟨w.heap.size, 0, none⟩)) ∧ w' = w.alloc (.cells #[.string X, .int .i64 0] 122) := by
  have hz : ¬ (2048 : Int) < (X.size : Int) := by omega
  clear h
  go_enter Tryz.func70, Tryz.ntmps70
  go_wp2
  go_ret
  exact ⟨rfl, rfl⟩
theorem lines_new (X : ByteArray) (w : World) : LinesAt (w.alloc (.cells #[.string X, .int .i64 0] 122)) w.heap.size X 0 :=
  ⟨by simp, (at_alloc w _ _ 0).1, (at_alloc w _ _ 1).1, (at_alloc w _ _ 1).2⟩
set_option maxHeartbeats 4000000 in
theorem end_bad (X : ByteArray) (B k : Nat) (w : World) (h : LinesAt w B X k) (hk : k < X.size) (hX : X.size ≤ 2048) : Calls Tryz.prog 73 #[.pointer (some ⟨B, 0, none⟩)] w fun e w' => e = gave (k, 1) ∧ Below w.heap.size w w' := by
  obtain ⟨c0, c1, f1⟩ : _ ∧ _ ∧ _ := ⟨h.s, h.at', h.f⟩
  have hz : (k : Int) < (X.size : Int) := by omega
  have HL := Lib.hid h
  have HD := Lib.hid (fun nq => drew_below w nq)
  clear h hk
  go_enter Tryz.func73, Tryz.ntmps73
  go_wp2
  go_quiet (fail)
  obtain ⟨w1, hw1⟩ : ∃ w1, w1 = w.drewN nq := ⟨_, rfl⟩
  have HB1 : Hid (Below w.heap.size w w1) := Lib.hid (hw1 ▸ HD.out nq)
  rw [← hw1]
  have HL2 := Lib.hid (HL.out.below HB1.out)
  clear hw1 c0 c1 f1
  obtain ⟨d0, d1, f1⟩ : _ ∧ _ ∧ _ := ⟨HL2.out.s, HL2.out.at', HL2.out.f⟩
  go_wp2_with fail
  refine (give_any _ _ _).mono ?_; rintro e w3 ⟨rfl, rfl⟩
  go_wp2
  exact ⟨rfl, rfl, HB1.out⟩
set_option maxHeartbeats 4000000 in
theorem end_ok (X : ByteArray) (B k : Nat) (w : World) (h : LinesAt w B X k) (hk : X.size ≤ k) : Calls Tryz.prog 73 #[.pointer (some ⟨B, 0, none⟩)] w fun e w' => e = .returned (.tuple #[]) ∧ Below w.heap.size w w' := by
  obtain ⟨c0, c1, f1⟩ : _ ∧ _ ∧ _ := ⟨h.s, h.at', h.f⟩
  have hz : ¬ (k : Int) < (X.size : Int) := by omega
  have HD := Lib.hid (fun nq => drew_below w nq)
  clear h hk
  go_enter Tryz.func73, Tryz.ntmps73
  go_wp2
  go_quiet (fail)
  obtain ⟨w1, hw1⟩ : ∃ w1, w1 = w.drewN nq := ⟨_, rfl⟩
  have HB1 : Hid (Below w.heap.size w w1) := Lib.hid (hw1 ▸ HD.out nq)
  rw [← hw1]
  clear hw1 c0 c1 f1
  go_wp2
  go_end0
  exact ⟨rfl, HB1.out⟩
theorem kept_new (w w2 : World) (cs : Array Value) (t : TypeId) (hb : Below (w.alloc (.cells cs t)).heap.size (w.alloc (.cells cs t)) w2) (j : Nat) :
    w2.cell? ⟨w.heap.size, j, none⟩ = cs[j]? ∧ w2.frozen? ⟨w.heap.size, j, none⟩ = false := by
  have h := at_alloc w cs t j
  exact ⟨(hb.cell (p := ⟨w.heap.size, j, none⟩) (by simp)).trans h.1, (hb.frozen (p := ⟨w.heap.size, j, none⟩) (by simp)).trans h.2⟩
theorem strimR_any (X : ByteArray) (w : World) (hs : X.size ≤ 9223372036854775807) :
    Calls Tryz.prog 129 #[.string X, .string ⟨#[32, 9]⟩] w fun e w' => e = .returned (.string ⟨(Lib.trimRightS X.data.toList blanks).toArray⟩) ∧ Below w.heap.size w w' :=
  Any.strings_TrimRight_laid Tryz.lays162 (by kernel_rfl) X ⟨#[32, 9]⟩ w hs (by decide) (ascii_of_all (by decide))
def FieldSays (R : Except Bad (ByteArray × ByteArray)) (w : World) (e : Ending) (w' : World) : Prop := match R with
  | .ok p => e = .returned (fld p) ∧ Below w.heap.size w w'
  | .error b => e = gave b ∧ Below w.heap.size w w'
theorem fieldOk {R : Except Bad (ByteArray × ByteArray)} {p : ByteArray × ByteArray} {a b : ByteArray} {w w' : World} (h : R = .ok p) (ha : a = p.1) (hb : b = p.2) (g : Below w.heap.size w w') : FieldSays R w (.returned (.agg #[.string a, .string b])) w' := by rw [h, ha, hb]; exact ⟨rfl, g⟩
theorem fieldBad {R : Except Bad (ByteArray × ByteArray)} {p q : Nat} {a : Int} {w w' : World} (h : R = .error (p, q)) (ha : a = p) (hb : Below w.heap.size w w') : FieldSays R w (.panicked [{ v := .iface 116 (.agg #[.int .i64 a, .int .i64 q]), recovered := false }]) w' := by rw [h, ha]; exact ⟨rfl, hb⟩
theorem trimR_len (l cs : List UInt8) : (Lib.trimRightS l cs).length ≤ l.length := by
  unfold Lib.trimRightS
  rw [List.length_reverse]
  have := (List.dropWhile_sublist (l := l.reverse) (cs.contains ·)).length_le
  rw [List.length_reverse] at this
  exact this
theorem ctl_ge (l : List UInt8) : -1 ≤ ctl l := by unfold ctl; split <;> omega
theorem ctl_lt (l : List UInt8) : ctl l < l.length ∨ ctl l = -1 := by
  unfold ctl
  split
  · rename_i k h
    have := (List.findIdx?_eq_some_iff_getElem.1 h).1
    left; omega
  · right; rfl
set_option maxHeartbeats 8000000 in
set_option maxRecDepth 100000 in
theorem field_any (X : ByteArray) (k : Nat) (w : World) (h0 : 0 < X.size) (hX : X.size ≤ 2048) (hk : k ≤ 2048) :
    Calls Tryz.prog 108 #[.string X, .int .i64 k] w (FieldSays (fieldF X.data.toList k) w) := by
  obtain ⟨R, hR⟩ : ∃ R, R = fieldF X.data.toList k := ⟨_, rfl⟩
  rw [← hR]
  unfold fieldF at hR
  have hby := byte_getD X 0 h0
  rw [← hby, len_data] at hR
  obtain ⟨wa, hwa⟩ : ∃ wa, wa = w.alloc (.cells #[.string ⟨#[]⟩, .string ⟨#[]⟩] 37) := ⟨_, rfl⟩
  have HWA := Lib.hid hwa
  have HB0 : Hid (Below w.heap.size w wa) := Lib.hid (by rw [hwa]; exact (Below.refl _ _).alloc (Nat.le_refl _) _)
  have HCE : Hid (∀ w2 j, Below wa.heap.size wa w2 → w2.cell? ⟨w.heap.size, j, none⟩ = (#[.string ⟨#[]⟩, .string ⟨#[]⟩] : Array Value)[j]? ∧ w2.frozen? ⟨w.heap.size, j, none⟩ = false) := Lib.hid (by rw [hwa]; exact fun w2 j hb => (kept_new w w2 _ _ hb j))
  have HZA : Hid (w.heap.size < wa.heap.size) := Lib.hid (by rw [hwa]; simp)
  clear hwa
  have hX2 : (X.size : Int) ≤ 2048 := by omega
  have hk2 : (k : Int) ≤ 2048 := by omega
  have hk0 : (0 : Int) ≤ (k : Int) := by omega
  have h0z : (0 : Int) < (X.size : Int) := by omega
  clear hby
  by_cases h1 : X[0].toNat = 32 ∨ X[0].toNat = 9
  · rw [if_pos h1] at hR
    have HR := Lib.hid hR
    clear hR
    have hc : ((X[0].toNat : Nat) : Int) = 32 ∨ (((((X[0].toNat : Nat) : Int)) == 32) = false ∧ ((X[0].toNat : Nat) : Int) = 9) := by
      rcases h1 with h | h
      · left; omega
      · right; refine ⟨by simp; omega, by omega⟩
    clear h1
    rcases hc with hc | ⟨hc, hd⟩
    all_goals
      go_enter Tryz.func108, Tryz.ntmps108
      go_wp2_with fail
      rw [← HWA.out]
      refine (give_any _ _ _).mono ?_; rintro e w3 ⟨rfl, rfl⟩
      go_wp2
      exact ⟨rfl, fieldBad HR.out rfl HB0.out⟩
  rw [if_neg h1] at hR
  have n32 : ((((X[0].toNat : Nat) : Int)) == 32) = false := by simp; omega
  have n9 : ((((X[0].toNat : Nat) : Int)) == 9) = false := by simp; omega
  clear h1
  have hcn := fun wx h2 => cut_no X 58 wx (by omega) h2
  have hcy := fun wx j h1 h2 => cut_yes X 58 j wx (by omega) h1 h2
  by_cases h2 : X.size ≤ posB 58 X.data.toList
  · rw [if_pos h2] at hR
    have HR := Lib.hid hR
    have HC := Lib.hid (fun wx => hcn wx (by omega))
    clear hR hcn hcy h2
    go_enter Tryz.func108, Tryz.ntmps108
    go_wp2_with fail
    rw [← HWA.out]
    refine (HC.out _).mono ?_; rintro e w1 ⟨rfl, hb⟩
    have HB1 : Hid (Below wa.heap.size wa w1) := Lib.hid hb
    clear hb
    go_wp2_with fail
    refine (give_any _ _ _).mono ?_; rintro e w3 ⟨rfl, rfl⟩
    go_wp2
    exact ⟨rfl, fieldBad HR.out rfl (HB0.out.trans (HB1.out.mono HB0.out.size))⟩
  rw [if_neg h2] at hR
  obtain ⟨p, hp⟩ : ∃ p, posB 58 X.data.toList = p := ⟨_, rfl⟩
  have HC := Lib.hid (fun wx => hcy wx p hp (by omega))
  rw [hp] at hR h2
  clear hcn hcy
  obtain ⟨NM, hNM⟩ : ∃ NM, X.extract 0 p = NM := ⟨_, rfl⟩
  obtain ⟨VL, hVL⟩ : ∃ VL, X.extract (p + 1) X.size = VL := ⟨_, rfl⟩
  have hNl : X.data.toList.take p = NM.data.toList := by rw [← hNM, mk_take]
  have hVl : X.data.toList.drop (p + 1) = VL.data.toList := by rw [← hVL, mk_drop]
  have hNs : NM.size = p := by rw [← hNM, ext_size X 0 p (by omega)]; omega
  have hVs : VL.size = X.size - (p + 1) := by rw [← hVL, ext_size X (p + 1) _ (Nat.le_refl _)]
  rw [hNl, hVl] at hR
  rw [hNM, hVL] at HC
  have hmkN : mk NM.data.toList = NM := mk_data NM
  rw [hmkN] at hR
  have htr := fun wx => strimR_any NM wx (by omega)
  have htl := trimR_len NM.data.toList blanks
  rw [len_data, hNs] at htl
  have htk := fun wx => token_any NM wx (by omega)
  have hct := fun wx => control_any VL wx (by omega)
  have htm := fun wx => trim_any VL wx (by omega)
  have hcg := ctl_ge VL.data.toList
  have hcl := ctl_lt VL.data.toList
  rw [len_data] at hcl
  have hp2 : (p : Int) < (X.size : Int) := by omega
  have hNz : (NM.size : Int) = (p : Int) := by omega
  have hVz : (VL.size : Int) < (X.size : Int) := by omega
  generalize Lib.trimRightS NM.data.toList blanks = T at hR htr htl
  generalize isTok NM.data.toList = tk at hR htk
  generalize ctl VL.data.toList = cv at hR hct hcg hcl
  have HT : Hid (∀ wx, Calls Tryz.prog 129 #[.string NM, .string ⟨#[32, 9]⟩] wx fun e w' => e = .returned (.string (mk T)) ∧ Below wx.heap.size wx w') := Lib.hid htr
  have hTs : (mk T).size = T.length := by unfold mk; exact size_mk T
  generalize mk T = TT at HT hTs
  have hTz : (TT.size : Int) = (T.length : Int) := by omega
  have HM : Hid (∀ wx, Calls Tryz.prog 113 #[.string VL] wx fun e w' => e = .returned (.string (mk (trim VL.data.toList))) ∧ Below wx.heap.size wx w') := Lib.hid htm
  generalize mk (trim VL.data.toList) = TV at HM hR
  have HK := Lib.hid htk
  have HX := Lib.hid hct
  clear htr htm htk hct hp hNM hVL hNl hVl hmkN hTs hNs hVs
  by_cases h3 : T.length < p
  · rw [if_pos h3] at hR
    have HR := Lib.hid hR
    have h3z : (TT.size : Int) < (NM.size : Int) := by omega
    clear hR h3
    go_enter Tryz.func108, Tryz.ntmps108
    go_wp2_with fail
    rw [← HWA.out]
    refine (HC.out _).mono ?_; rintro e w1 ⟨rfl, hb⟩
    have HB1 : Hid (Below wa.heap.size wa w1) := Lib.hid hb
    clear hb
    go_wp2_with fail
    refine (HT.out _).mono ?_; rintro e w2 ⟨rfl, hb⟩
    have HB2 := Lib.hid (HB1.out.trans (hb.mono HB1.out.size))
    clear hb
    go_wp2_with fail
    refine (give_any _ _ _).mono ?_; rintro e w9 ⟨rfl, rfl⟩
    go_wp2
    exact ⟨rfl, fieldBad HR.out (by omega) (HB0.out.trans (HB2.out.mono HB0.out.size))⟩
  rw [if_neg h3] at hR
  have h3z : ¬ (TT.size : Int) < (NM.size : Int) := by omega
  clear h3 hTz htl
  cases tk
  · rw [if_pos rfl] at hR
    have HR := Lib.hid hR
    clear hR
    go_enter Tryz.func108, Tryz.ntmps108
    go_wp2_with fail
    rw [← HWA.out]
    refine (HC.out _).mono ?_; rintro e w1 ⟨rfl, hb⟩
    have HB1 : Hid (Below wa.heap.size wa w1) := Lib.hid hb
    clear hb
    go_wp2_with fail
    refine (HT.out _).mono ?_; rintro e w2 ⟨rfl, hb⟩
    have HB2 := Lib.hid (HB1.out.trans (hb.mono HB1.out.size))
    clear hb
    go_wp2_with fail
    refine (HK.out _).mono ?_; rintro e w3 ⟨rfl, rfl⟩
    go_wp2_with fail
    refine (give_any _ _ _).mono ?_; rintro e w9 ⟨rfl, rfl⟩
    go_wp2
    exact ⟨rfl, fieldBad HR.out (by omega) (HB0.out.trans (HB2.out.mono HB0.out.size))⟩
  rw [if_neg (by simp)] at hR
  by_cases h4 : 0 ≤ cv
  · rw [if_pos h4] at hR
    have HR := Lib.hid hR
    have h4z : cv < (X.size : Int) := by omega
    clear hR
    go_enter Tryz.func108, Tryz.ntmps108
    go_wp2_with fail
    rw [← HWA.out]
    refine (HC.out _).mono ?_; rintro e w1 ⟨rfl, hb⟩
    have HB1 : Hid (Below wa.heap.size wa w1) := Lib.hid hb
    clear hb
    go_wp2_with fail
    refine (HT.out _).mono ?_; rintro e w2 ⟨rfl, hb⟩
    have HB2 := Lib.hid (HB1.out.trans (hb.mono HB1.out.size))
    clear hb
    go_wp2_with fail
    refine (HK.out _).mono ?_; rintro e w3 ⟨rfl, rfl⟩
    go_wp2_with fail
    refine (HX.out _).mono ?_; rintro e w3 ⟨rfl, rfl⟩
    go_wp2_with fail
    refine (give_any _ _ _).mono ?_; rintro e w9 ⟨rfl, rfl⟩
    go_wp2
    exact ⟨rfl, fieldBad HR.out (by omega) (HB0.out.trans (HB2.out.mono HB0.out.size))⟩
  · rw [if_neg h4] at hR
    have HR := Lib.hid hR
    clear hR
    go_enter Tryz.func108, Tryz.ntmps108
    go_wp2_with fail
    rw [← HWA.out]
    refine (HC.out _).mono ?_; rintro e w1 ⟨rfl, hb⟩
    have HB1 : Hid (Below wa.heap.size wa w1) := Lib.hid hb
    clear hb
    go_wp2_with fail
    refine (HT.out _).mono ?_; rintro e w2 ⟨rfl, hb⟩
    have HB2 := Lib.hid (HB1.out.trans (hb.mono HB1.out.size))
    clear hb
    go_wp2_with fail
    refine (HK.out _).mono ?_; rintro e w3 ⟨rfl, rfl⟩
    go_wp2_with fail
    refine (HX.out _).mono ?_; rintro e w3 ⟨rfl, rfl⟩
    go_wp2_with fail
    refine (HM.out _).mono ?_; rintro e w3 ⟨rfl, hb⟩
    have HB3 := Lib.hid (HB2.out.trans (hb.mono HB2.out.size))
    clear hb
    obtain ⟨a0, g0⟩ := HCE.out w3 0 HB3.out
    obtain ⟨a1, g1⟩ := HCE.out w3 1 HB3.out
    simp only [List.getElem?_toArray, List.getElem?_cons_zero, List.getElem?_cons_succ] at a0 a1
    have hz3 : w.heap.size < w3.heap.size := Nat.lt_of_lt_of_le HZA.out HB3.out.size
    have HBW : Hid (Below w.heap.size w w3) := Lib.hid (HB0.out.trans (HB3.out.mono HB0.out.size))
    go_wp2
    refine bodyPost_ret (v := fld (NM, TV)) (by simp [results, Tryz.results108, go_sem, fld, a0, a1]) rfl ?_
    exact fieldOk HR.out rfl rfl ((HBW.out.setCell (p := ⟨w.heap.size, 0, none⟩) (Nat.le_refl _) _).setCell (p := ⟨w.heap.size, 1, none⟩) (Nat.le_refl _) _)
end Go.Proofs.YthkgaaibhjkngaaGreatDoor
set_option linter.unusedVariables false
namespace Go.Proofs.YthkgaaibhjkngaaGreatDoor
open Go.RowKit

theorem went_same {w w' : World} {B k : Nat} {X : ByteArray} (h : LinesAt w B X k) (hb : Below w.heap.size w w') : Went w B k w' := by
  have h1 : Below w.heap.size (w.setCell ⟨B, 1, none⟩ (.int .i64 k)) w := by
   refine ⟨rfl, rfl, rfl, by rw [set_size]; exact Nat.le_refl _, fun i hi => ?_⟩
   by_cases hiB : i = B
   · subst hiB
     have hc := h.at'
     unfold World.cell? at hc
     simp only [World.setCell, Array.getElem?_modify]
     cases hq : w.heap[i]? with
     | none => rfl
     | some o =>
       cases o with
       | cells c e f =>
         simp only [hq, Option.isSome_none, Bool.false_eq_true, if_false] at hc
         simp only [if_true, Option.map_some, Option.isSome_none, Bool.false_eq_true, if_false, Option.some.injEq, Obj.cells.injEq, and_true]
         apply Array.ext_getElem?
         intro j
         by_cases hj : 1 = j
         · subst hj
           rw [hc, Array.getElem?_setIfInBounds_self_of_lt (Array.getElem?_eq_some_iff.1 hc).1]
         · rw [Array.getElem?_setIfInBounds_ne hj]
       | _ => rfl
   · exact (Below.heap_setCell _ _ _ _ hiB).symm
  exact Below.trans h1 hb
theorem ownF_went {w w' : World} {base B j : Nat} {v : Value} {l : AL} (h : OwnF w base v l) (hB : B < base) (g : Went w B j w') : OwnF w' base v l :=
  ownF_below (ownsRow_setCell_below h (a := ⟨B, 1, none⟩) hB _) (by rw [set_size]; exact Nat.le_refl _) g
def RowsSays (B : Nat) (R : Except Bad (AL × Nat)) (w : World) (e : Ending) (w' : World) : Prop := match R with
  | .ok p => (∃ v, e = .returned v ∧ OwnF w' w.heap.size v p.1) ∧ Went w B p.2 w'
  | .error b => e = gave b ∧ ∃ j, Went w B j w'
theorem rowsOk {R : Except Bad (AL × Nat)} {l : AL} {B k j : Nat} {v : Value} {w w' : World} (h : R = .ok (l, k)) (ho : OwnF w' w.heap.size v l) (hk : j = k) (g : Went w B j w') : RowsSays B R w (.returned v) w' := by subst hk; rw [h]; exact ⟨⟨v, rfl, ho⟩, g⟩
theorem rowsBad {R : Except Bad (AL × Nat)} {p q B j : Nat} {a : Int} {w w' : World} (h : R = .error (p, q)) (ha : a = p) (g : Went w B j w') : RowsSays B R w (.panicked [{ v := .iface 116 (.agg #[.int .i64 a, .int .i64 q]), recovered := false }]) w' := by rw [h, ha]; exact ⟨rfl, j, g⟩
theorem rowsF_bad {l : List UInt8} {k : Nat} {b : Bad} (h : nxtF l k = .error b) (m : Nat) (acc : AL) : rowsF l m k acc = .error b := by
  cases m <;> (unfold rowsF; rw [h])
theorem rowsF_end {l : List UInt8} {k : Nat} (h : nxtF l k = .ok 0) (m : Nat) (acc : AL) : rowsF l m k acc = .ok (acc, k + 2) := by
  cases m <;> (unfold rowsF; rw [h]; rfl)
theorem rowsF_full {l : List UInt8} {k n : Nat} (h : nxtF l k = .ok n) (h0 : n ≠ 0) (acc : AL) : rowsF l 0 k acc = .error (k, 18) := by
  unfold rowsF; rw [h]; simp [h0]
theorem rowsF_wrong {l : List UInt8} {k n : Nat} {b : Bad} (h : nxtF l k = .ok n) (h0 : n ≠ 0) (hf : fieldF ((l.drop k).take n) k = .error b) (m : Nat) (acc : AL) : rowsF l (m + 1) k acc = .error b := by
  unfold rowsF; rw [h]; simp [h0, hf]
theorem rowsF_more {l : List UInt8} {k n : Nat} {f : ByteArray × ByteArray} (h : nxtF l k = .ok n) (h0 : n ≠ 0) (hf : fieldF ((l.drop k).take n) k = .ok f) (m : Nat) (acc : AL) : rowsF l (m + 1) k acc = rowsF l m (k + n + 2) (acc ++ [f]) := by
  conv => lhs; unfold rowsF
  rw [h]; simp [h0, hf]
set_option maxHeartbeats 16000000 in
set_option maxRecDepth 100000 in
theorem fields_any (X : ByteArray) (B k : Nat) (w : World) (h : LinesAt w B X k) (hX : X.size ≤ 2048) (hk : k ≤ X.size) :
    Calls Tryz.prog 72 #[.pointer (some ⟨B, 0, none⟩)] w (RowsSays B (rowsF X.data.toList 32 k []) w) := by
  obtain ⟨R, hR⟩ : ∃ R, rowsF X.data.toList 32 k [] = R := ⟨_, rfl⟩
  rw [hR]
  have HL := Lib.hid h
  have HR := Lib.hid hR
  have HLT := Lib.hid h.lt
  have hG := went_same h (Below.refl _ _)
  have HG := Lib.hid hG
  clear hR h hG
  go_enter Tryz.func72, Tryz.ntmps72
  go_wp2
  go_loopg [3] 32 (fun g v wx => ∃ (acc : AL) (j : Nat), acc.length + g = 32 ∧ OwnF wx w.heap.size v acc ∧ Went w B j wx ∧ j ≤ X.size ∧ rowsF X.data.toList g j acc = R)
  case atStart => exact ⟨[], k, rfl, ownF_nil _ _, HG.out, hk, HR.out⟩
  case round =>
    obtain ⟨acc, j, hg, hown, hgo, hj, hro⟩ := hrel
    obtain ⟨wo, hwo⟩ : ∃ wo, wo = wr := ⟨_, rfl⟩
    subst hwo
    have HO := Lib.hid hown
    have HGo := Lib.hid hgo
    have HLo := Lib.hid (HL.out.went hgo)
    have HRo := Lib.hid hro
    obtain ⟨d0, d1, f1⟩ : _ ∧ _ ∧ _ := ⟨HLo.out.s, HLo.out.at', HLo.out.f⟩
    have HSZ := Lib.hid hgo.size
    have hnx := next_any X B j wo HLo.out hX hj
    have hnl := fun n => @nxtF_ok X.data.toList j n
    have hsz : acc.length ≤ 32 := by omega
    clear hown hgo hro
    cases hnr : nxtF X.data.toList j with
    | error b =>
      rw [hnr] at hnx
      obtain ⟨p, q⟩ := b
      have HB := Lib.hid ((rowsF_bad hnr gk acc).symm.trans HRo.out)
      have HN := Lib.hid hnx
      clear hnx hnr hnl
      go_wp2_with fail
      refine (HN.out).mono ?_; rintro e w1 ⟨rfl, hb⟩
      have HW := Lib.hid (HGo.out.more hb)
      clear hb
      unfold gave
      go_wp2
      exact ⟨rfl, rowsBad HB.out.symm rfl HW.out⟩
    | ok n =>
      rw [hnr] at hnx
      obtain ⟨l1, l2, l3⟩ := hnl n hnr
      rw [len_data] at l1
      obtain ⟨LN, hLN⟩ : ∃ LN, X.extract j (j + n) = LN := ⟨_, rfl⟩
      have hLs : LN.size = n := by rw [← hLN, ext_size X j _ (by omega)]; omega
      have hLl : (X.data.toList.drop j).take n = LN.data.toList := by rw [← hLN, ext_list X j _ (by omega), List.drop_take]; congr 1; omega
      have HN : Hid (Calls Tryz.prog 106 #[.pointer (some ⟨B, 0, none⟩)] wo fun e w' => e = .returned (.string LN) ∧ Went wo B (j + n + 2) w') := Lib.hid (by rw [← hLN]; exact hnx)
      clear hnx hnl l2 l3 hLN
      by_cases h0 : n = 0
      · subst h0
        obtain rfl := empty_beq hLs
        have HB := Lib.hid ((rowsF_end hnr gk acc).symm.trans HRo.out)
        clear hnr hLl hLs
        go_wp2_with fail
        refine (HN.out).mono ?_; rintro e w1 ⟨rfl, hb⟩
        have HW := Lib.hid (HGo.out.then hb)
        have HO1 := Lib.hid (ownF_went HO.out HLT.out hb)
        clear hb
        obtain ⟨a3, d3, hv3, _⟩ := ownF_src HO.out
        subst hv3
        go_wp2
        go_ret
        exact rowsOk HB.out.symm HO1.out rfl HW.out
      · obtain ⟨nb1, nb2, nb3⟩ := nonempty_beq (X := LN) (by omega)
        obtain ⟨a3, d3, hv3, _⟩ := ownF_src HO.out
        subst hv3
        cases gk with
        | zero =>
          have HB := Lib.hid ((rowsF_full hnr h0 acc).symm.trans HRo.out)
          have h32 : acc.length = 32 := by omega
          have h32z : ((acc.length : Int) == 32) = true := by simp; omega
          clear hnr hLl hLs nb3
          go_wp2_with fail
          refine (HN.out).mono ?_; rintro e w1 ⟨rfl, hb⟩
          have HW := Lib.hid (HGo.out.then hb)
          clear hb
          go_wp2_with fail
          refine (give_any _ _ _).mono ?_; rintro e w9 ⟨rfl, rfl⟩
          go_wp2
          exact ⟨rfl, rowsBad HB.out.symm rfl HW.out⟩
        | succ g =>
          have h32z : ((acc.length : Int) == 32) = false := by simp; omega
          have h32y : ¬ ((acc.length : Int) = 32) := by omega
          have hfl := fun wx => field_any LN j wx (by omega) (by omega) (by omega)
          cases hfr : fieldF LN.data.toList j with
          | error b =>
            have HB := Lib.hid ((rowsF_wrong hnr h0 (by rw [hLl]; exact hfr) g acc).symm.trans HRo.out)
            rw [hfr] at hfl
            obtain ⟨p, q⟩ := b
            have HF := Lib.hid hfl
            clear hnr hLl hLs nb3 hfl hfr
            go_wp2_with fail
            refine (HN.out).mono ?_; rintro e w1 ⟨rfl, hb⟩
            have HW := Lib.hid (HGo.out.then hb)
            clear hb
            go_wp2_with fail
            refine (HF.out _).mono ?_; rintro e w2 ⟨rfl, hb⟩
            have HW2 := Lib.hid (HW.out.more hb)
            clear hb
            unfold gave
            go_wp2
            exact ⟨rfl, rowsBad HB.out.symm rfl HW2.out⟩
          | ok f =>
            have HB := Lib.hid ((rowsF_more hnr h0 (by rw [hLl]; exact hfr) g acc).symm.trans HRo.out)
            rw [hfr] at hfl
            obtain ⟨p1, p2⟩ := f
            have HF : Hid (∀ wx, Calls Tryz.prog 108 #[.string LN, .int .i64 j] wx fun e w' => e = .returned (.agg #[.string p1, .string p2]) ∧ Below wx.heap.size wx w') := Lib.hid hfl
            clear hnr hLl hLs nb3 hfl hfr
            go_wp2_with fail
            refine (HN.out).mono ?_; rintro e w1 ⟨rfl, hb⟩
            have HW := Lib.hid (HGo.out.then hb)
            have HO1 := Lib.hid (ownF_went HO.out HLT.out hb)
            clear hb
            go_wp2_with fail
            refine (HF.out _).mono ?_; rintro e w2 ⟨rfl, hb⟩
            have HW2 := Lib.hid (HW.out.more hb)
            have HO2 : Hid (OwnF (w2.alloc (.cells #[.string p1, .string p2] 37)) w.heap.size _ acc) := Lib.hid (ownF_alloc (ownF_below HO1.out (Nat.le_refl _) hb) _)
            have HFL := Lib.hid (lit_fld p1 p2 w2)
            have HZ1 : Hid (w.heap.size ≤ (w2.alloc (.cells #[.string p1, .string p2] 37)).heap.size) := Lib.hid (by have := HW2.out.size; simp; omega)
            have HW3 := Lib.hid (HW2.out.more ((Below.refl _ _).alloc (Nat.le_refl _) (.cells #[.string p1, .string p2] 37)))
            clear hb
            go_wp2_with (at_builtin; refine app_flds rfl _ _ rfl w.heap.size _ acc rfl HO2.out _ 1 1 [(p1, p2)] rfl rfl HFL.out ?n2 HZ1.out ?_)
            case n2 => show (_ + 1) * 32 ≤ _; omega
            intro v3 w3 hown3 hb3 _
            have HO3 := Lib.hid hown3
            have HW4 : Hid (Went w B (j + n + 2) w3) := Lib.hid (Below.trans HW3.out hb3.out)
            clear hown3 hb3
            go_wp2
            go_roundg g
            case measure => omega
            case rel => exact ⟨acc ++ [(p1, p2)], j + n + 2, by simp; omega, HO3.out, HW4.out, by omega, HB.out⟩
end Go.Proofs.YthkgaaibhjkngaaGreatDoor
set_option linter.unusedVariables false
namespace Go.Proofs.YthkgaaibhjkngaaGreatDoor
open Go.RowKit

def QlSays (B C n : Nat) (R : Except Bad (ByteArray × ByteArray)) (w : World) (e : Ending) (w' : World) : Prop := match R with
  | .ok p => e = .returned (.tuple #[]) ∧ ∃ w1, Went w B (n + 2) w1 ∧ w' = (w1.setCell ⟨C, 0, none⟩ (.string p.1)).setCell ⟨C, 1, none⟩ (.string p.2)
  | .error b => e = gave b ∧ ∃ j, Went w B j w'
theorem qlOk {R : Except Bad (ByteArray × ByteArray)} {B C n : Nat} {a b : ByteArray} {w w1 : World} (h : R = .ok (a, b)) (g : Went w B (n + 2) w1) : QlSays B C n R w (.returned (.tuple #[])) ((w1.setCell ⟨C, 0, none⟩ (.string a)).setCell ⟨C, 1, none⟩ (.string b)) := by rw [h]; exact ⟨rfl, w1, g, rfl⟩
theorem qlBad {R : Except Bad (ByteArray × ByteArray)} {p q B C n j : Nat} {a : Int} {w w' : World} (h : R = .error (p, q)) (ha : a = p) (g : Went w B j w') : QlSays B C n R w (.panicked [{ v := .iface 116 (.agg #[.int .i64 a, .int .i64 q]), recovered := false }]) w' := by rw [h, ha]; exact ⟨rfl, j, g⟩
def lineR {α : Type} (l : List UInt8) (f : List UInt8 → Except Bad α) : Except Bad α := match nxtF l 0 with
  | .error b => .error b
  | .ok n => f (l.take n)
def lineN (l : List UInt8) : Nat := match nxtF l 0 with
  | .error _ => 0
  | .ok n => n
set_option maxHeartbeats 16000000 in
set_option maxRecDepth 100000 in
theorem qline_any (X : ByteArray) (B C : Nat) (w : World) (h : LinesAt w B X 0) (hX : X.size ≤ 2048) (hC : C < w.heap.size) (hne : C ≠ B) (k0 : (w.cell? ⟨C, 0, none⟩).isSome = true) (k1 : (w.cell? ⟨C, 1, none⟩).isSome = true) (g0 : w.frozen? ⟨C, 0, none⟩ = false) (g1 : w.frozen? ⟨C, 1, none⟩ = false) :
    Calls Tryz.prog 77 #[.pointer (some ⟨B, 0, none⟩), .pointer (some ⟨C, 0, none⟩)] w (QlSays B C (lineN X.data.toList) (lineR X.data.toList qlineF) w) := by
  obtain ⟨R, hR⟩ : ∃ R, lineR X.data.toList qlineF = R := ⟨_, rfl⟩
  obtain ⟨N, hN⟩ : ∃ N, lineN X.data.toList = N := ⟨_, rfl⟩
  rw [hR, hN]
  have hnx := next_any X B 0 w h hX (Nat.zero_le _)
  have HL := Lib.hid h
  have HC : Hid (∀ w1 j, Went w B j w1 → C < w1.heap.size ∧ (w1.cell? ⟨C, 0, none⟩).isSome = true ∧ (w1.cell? ⟨C, 1, none⟩).isSome = true ∧ w1.frozen? ⟨C, 0, none⟩ = false ∧ w1.frozen? ⟨C, 1, none⟩ = false) := Lib.hid fun w1 j g =>
    ⟨Nat.lt_of_lt_of_le hC g.size, by rw [g.cell hC hne]; exact k0, by rw [g.cell hC hne]; exact k1, by rw [g.frozen hC]; exact g0, by rw [g.frozen hC]; exact g1⟩
  clear k0 k1 g0 g1 hC hne h
  unfold lineR at hR
  unfold lineN at hN
  cases hnr : nxtF X.data.toList 0 with
  | error b =>
    rw [hnr] at hnx hR
    obtain ⟨p, q⟩ := b
    have HR := Lib.hid hR
    have HN := Lib.hid hnx
    have HS := Lib.hid (fun w1 (hb : Below w.heap.size w w1) => went_same HL.out hb)
    clear hnx hnr hR hN
    go_enter Tryz.func77, Tryz.ntmps77
    go_wp2_with fail
    refine (HN.out).mono ?_; rintro e w1 ⟨rfl, hb⟩
    have HW := Lib.hid (HS.out _ hb)
    clear hb
    unfold gave
    go_wp2
    exact ⟨rfl, qlBad HR.out.symm rfl HW.out⟩
  | ok n =>
    rw [hnr] at hnx hR hN
    dsimp only at hN hR
    subst hN
    obtain ⟨l1, _, _⟩ := nxtF_ok hnr
    rw [len_data] at l1
    obtain ⟨L, hL⟩ : ∃ L, X.extract 0 (0 + n) = L := ⟨_, rfl⟩
    have hLs : L.size = n := by rw [← hL, ext_size X 0 _ (by omega)]; omega
    have hLl : X.data.toList.take n = L.data.toList := by rw [← hL, mk_take]; congr 1; omega
    rw [hLl] at hR
    have HN : Hid (Calls Tryz.prog 106 #[.pointer (some ⟨B, 0, none⟩)] w fun e w' => e = .returned (.string L) ∧ Went w B (n + 2) w') := Lib.hid (by
      have e : n + 2 = 0 + n + 2 := by omega
      rw [← hL, e]; exact hnx)
    have hLb : L.size ≤ 2048 := by omega
    clear hnx hL hLl hnr hLs l1
    unfold qlineF at hR
    rw [len_data] at hR
    have hcn := fun wx h2 => cut_no L 32 wx (by omega) h2
    have hcy := fun wx j h1 h2 => cut_yes L 32 j wx (by omega) h1 h2
    by_cases h1 : L.size ≤ posB 32 L.data.toList
    · rw [if_pos (.inl h1)] at hR
      have HR := Lib.hid hR
      have HK := Lib.hid (fun wx => hcn wx (by omega))
      clear hR hcn hcy h1
      go_enter Tryz.func77, Tryz.ntmps77
      go_wp2_with fail
      refine (HN.out).mono ?_; rintro e w1 ⟨rfl, hb⟩
      have HW1 := Lib.hid hb
      clear hb
      go_wp2_with fail
      refine (HK.out _).mono ?_; rintro e w2 ⟨rfl, hb⟩
      have HW := Lib.hid (HW1.out.more hb)
      clear hb
      go_wp2_with fail
      refine (give_any _ _ _).mono ?_; rintro e w9 ⟨rfl, rfl⟩
      go_wp2
      exact ⟨rfl, qlBad HR.out.symm rfl HW.out⟩
    obtain ⟨a, ha⟩ : ∃ a, posB 32 L.data.toList = a := ⟨_, rfl⟩
    rw [ha] at hR h1
    have HK := Lib.hid (fun wx => hcy wx a ha (by omega))
    obtain ⟨M, hM⟩ : ∃ M, L.extract 0 a = M := ⟨_, rfl⟩
    obtain ⟨S, hS⟩ : ∃ S, L.extract (a + 1) L.size = S := ⟨_, rfl⟩
    have hMl : L.data.toList.take a = M.data.toList := by rw [← hM, mk_take]
    have hSl : L.data.toList.drop (a + 1) = S.data.toList := by rw [← hS, mk_drop]
    have hMs : M.size = a := by rw [← hM, ext_size L 0 a (by omega)]; omega
    have hSs : S.size = L.size - (a + 1) := by rw [← hS, ext_size L (a + 1) _ (Nat.le_refl _)]
    rw [hMl, hSl] at hR
    rw [hM, hS] at HK
    have hmkM : mk M.data.toList = M := mk_data M
    rw [hmkM] at hR
    have hme := fun wx => method_any M wx (by omega)
    have hMz : (M.size : Int) = (a : Int) := by omega
    have hab : (a : Int) < (L.size : Int) := by omega
    have hLz : (L.size : Int) ≤ 2048 := by omega
    have hSb : S.size ≤ 2048 := by omega
    have ha0 : (0 : Int) ≤ (a : Int) := by omega
    have haS : (a : Int) + 1 + (S.size : Int) = (L.size : Int) := by omega
    generalize methF M.data.toList = mb at hme hR
    have HME := Lib.hid hme
    have hnl : ¬ L.size ≤ a := h1
    clear hcn hcy ha hM hS hMl hSl hmkM hme hMs hSs
    cases mb
    · rw [if_pos (.inr rfl)] at hR
      have HR := Lib.hid hR
      clear hR h1
      go_enter Tryz.func77, Tryz.ntmps77
      go_wp2_with fail
      refine (HN.out).mono ?_; rintro e w1 ⟨rfl, hb⟩
      have HW1 := Lib.hid hb
      clear hb
      go_wp2_with fail
      refine (HK.out _).mono ?_; rintro e w2 ⟨rfl, hb⟩
      have HW := Lib.hid (HW1.out.more hb)
      clear hb
      go_wp2_with fail
      refine (HME.out _).mono ?_; rintro e w3 ⟨rfl, rfl⟩
      go_wp2_with fail
      refine (give_any _ _ _).mono ?_; rintro e w9 ⟨rfl, rfl⟩
      go_wp2
      exact ⟨rfl, qlBad HR.out.symm rfl HW.out⟩
    rw [if_neg (by simp; omega)] at hR
    dsimp only at hR
    rw [len_data] at hR
    have hcn := fun wx h2 => cut_no S 32 wx (by omega) h2
    have hcy := fun wx j h1 h2 => cut_yes S 32 j wx (by omega) h1 h2
    clear h1 hnl
    by_cases h2 : S.size ≤ posB 32 S.data.toList
    · rw [if_pos (.inl h2)] at hR
      have HR := Lib.hid hR
      have HK2 := Lib.hid (fun wx => hcn wx (by omega))
      clear hR hcn hcy h2
      go_enter Tryz.func77, Tryz.ntmps77
      go_wp2_with fail
      refine (HN.out).mono ?_; rintro e w1 ⟨rfl, hb⟩
      have HW1 := Lib.hid hb
      clear hb
      go_wp2_with fail
      refine (HK.out _).mono ?_; rintro e w2 ⟨rfl, hb⟩
      have HW2 := Lib.hid (HW1.out.more hb)
      clear hb
      go_wp2_with fail
      refine (HME.out _).mono ?_; rintro e w3 ⟨rfl, rfl⟩
      go_wp2_with fail
      refine (HK2.out _).mono ?_; rintro e w4 ⟨rfl, hb⟩
      have HW := Lib.hid (HW2.out.more hb)
      clear hb
      go_wp2_with fail
      refine (give_any _ _ _).mono ?_; rintro e w9 ⟨rfl, rfl⟩
      go_wp2
      exact ⟨rfl, qlBad HR.out.symm (by omega) HW.out⟩
    obtain ⟨b, hb⟩ : ∃ b, posB 32 S.data.toList = b := ⟨_, rfl⟩
    rw [hb] at hR h2
    have HK2 := Lib.hid (fun wx => hcy wx b hb (by omega))
    obtain ⟨T, hT⟩ : ∃ T, S.extract 0 b = T := ⟨_, rfl⟩
    obtain ⟨V, hV⟩ : ∃ V, S.extract (b + 1) S.size = V := ⟨_, rfl⟩
    have hTl : S.data.toList.take b = T.data.toList := by rw [← hT, mk_take]
    have hVl : S.data.toList.drop (b + 1) = V.data.toList := by rw [← hV, mk_drop]
    have hTs : T.size = b := by rw [← hT, ext_size S 0 b (by omega)]; omega
    rw [hTl, hVl] at hR
    rw [hT, hV] at HK2
    have hmkT : mk T.data.toList = T := mk_data T
    rw [hmkT] at hR
    have hte := fun wx => target_any T wx (by omega)
    have hTz : (T.size : Int) = (b : Int) := by omega
    have hbS : (b : Int) < (S.size : Int) := by omega
    generalize tgtF T.data.toList = tb at hte hR
    have HTE := Lib.hid hte
    clear hcn hcy hb hT hV hTl hVl hmkT hte hTs
    cases tb
    · rw [if_pos (.inr rfl)] at hR
      have HR := Lib.hid hR
      clear hR h2
      go_enter Tryz.func77, Tryz.ntmps77
      go_wp2_with fail
      refine (HN.out).mono ?_; rintro e w1 ⟨rfl, hb⟩
      have HW1 := Lib.hid hb
      clear hb
      go_wp2_with fail
      refine (HK.out _).mono ?_; rintro e w2 ⟨rfl, hb⟩
      have HW2 := Lib.hid (HW1.out.more hb)
      clear hb
      go_wp2_with fail
      refine (HME.out _).mono ?_; rintro e w3 ⟨rfl, rfl⟩
      go_wp2_with fail
      refine (HK2.out _).mono ?_; rintro e w4 ⟨rfl, hb⟩
      have HW := Lib.hid (HW2.out.more hb)
      clear hb
      go_wp2_with fail
      refine (HTE.out _).mono ?_; rintro e w5 ⟨rfl, rfl⟩
      go_wp2_with fail
      refine (give_any _ _ _).mono ?_; rintro e w9 ⟨rfl, rfl⟩
      go_wp2
      exact ⟨rfl, qlBad HR.out.symm (by omega) HW.out⟩
    rw [if_neg (by simp; omega)] at hR
    rw [← toList_data'] at hR
    unfold kVer at hR
    clear h2
    by_cases h3 : V.toList = [72, 84, 84, 80, 47, 49, 46, 49]
    · rw [if_neg (by simp [h3])] at hR
      have HR := Lib.hid hR
      have HWS := Lib.hid (fun w1 j (g : Went w B j w1) => HC.out w1 j g)
      clear hR
      go_enter Tryz.func77, Tryz.ntmps77
      go_wp2_with fail
      refine (HN.out).mono ?_; rintro e w1 ⟨rfl, hb⟩
      have HW1 := Lib.hid hb
      clear hb
      go_wp2_with fail
      refine (HK.out _).mono ?_; rintro e w2 ⟨rfl, hb⟩
      have HW2 := Lib.hid (HW1.out.more hb)
      clear hb
      go_wp2_with fail
      refine (HME.out _).mono ?_; rintro e w3 ⟨rfl, rfl⟩
      go_wp2_with fail
      refine (HK2.out _).mono ?_; rintro e w4 ⟨rfl, hb⟩
      have HW := Lib.hid (HW2.out.more hb)
      clear hb
      go_wp2_with fail
      refine (HTE.out _).mono ?_; rintro e w5 ⟨rfl, rfl⟩
      obtain ⟨z0, z1, z2, z3, z4⟩ := HC.out _ _ HW.out
      obtain ⟨y1, hy1⟩ := Option.isSome_iff_exists.1 z1
      obtain ⟨y2, hy2⟩ := Option.isSome_iff_exists.1 z2
      clear z1 z2
      go_wp2
      go_end0
      exact qlOk HR.out.symm HW.out
    · rw [if_pos (by simpa using h3)] at hR
      have h3b : (V.toList == [72, 84, 84, 80, 47, 49, 46, 49]) = false := by simpa using h3
      have HR := Lib.hid hR
      clear hR
      go_enter Tryz.func77, Tryz.ntmps77
      go_wp2_with fail
      refine (HN.out).mono ?_; rintro e w1 ⟨rfl, hb⟩
      have HW1 := Lib.hid hb
      clear hb
      go_wp2_with fail
      refine (HK.out _).mono ?_; rintro e w2 ⟨rfl, hb⟩
      have HW2 := Lib.hid (HW1.out.more hb)
      clear hb
      go_wp2_with fail
      refine (HME.out _).mono ?_; rintro e w3 ⟨rfl, rfl⟩
      go_wp2_with fail
      refine (HK2.out _).mono ?_; rintro e w4 ⟨rfl, hb⟩
      have HW := Lib.hid (HW2.out.more hb)
      clear hb
      go_wp2_with fail
      refine (HTE.out _).mono ?_; rintro e w5 ⟨rfl, rfl⟩
      go_wp2_with fail
      refine (give_any _ _ _).mono ?_; rintro e w9 ⟨rfl, rfl⟩
      go_wp2
      exact ⟨rfl, qlBad HR.out.symm (by omega) HW.out⟩
end Go.Proofs.YthkgaaibhjkngaaGreatDoor
set_option linter.unusedVariables false
namespace Go.Proofs.YthkgaaibhjkngaaGreatDoor
open Go.RowKit

theorem dg_dig {c : UInt8} (h : digB c = true) : Num.dg c.toNat = (c.toNat : Int) - 48 ∧ 0 ≤ Num.dg c.toNat ∧ Num.dg c.toNat < 10 := by
  unfold digB at h
  simp only [Bool.and_eq_true, decide_eq_true_eq] at h
  unfold Num.dg
  rw [if_pos (by omega)]
  omega
theorem dec_val : ∀ (l : List UInt8) (a : Nat), l.all digB = true → l.foldl (fun n c => n * 10 + Num.dg c.toNat) (a : Int) = ((l.foldl (fun a c => 10 * a + (c.toNat - 48)) a : Nat) : Int)
  | [], a, _ => rfl
  | c :: l, a, h => by
    simp only [List.all_cons, Bool.and_eq_true] at h
    obtain ⟨d1, d2, d3⟩ := dg_dig h.1
    rw [List.foldl_cons, List.foldl_cons, ← dec_val l _ h.2, d1]
    congr 1
    have : 48 ≤ c.toNat := by have := h.1; unfold digB at this; simp at this; exact this.1
    omega
theorem dec_le : ∀ (l : List UInt8) (a : Nat), l.all digB = true → l.foldl (fun a c => 10 * a + (c.toNat - 48)) a + 1 ≤ (a + 1) * 10 ^ l.length
  | [], a, _ => by simp
  | c :: l, a, h => by
    simp only [List.all_cons, Bool.and_eq_true] at h
    have h1 : c.toNat ≤ 57 := by have := h.1; unfold digB at this; simp at this; exact this.2
    rw [List.foldl_cons]
    have ih := dec_le l (10 * a + (c.toNat - 48)) h.2
    refine Nat.le_trans ih ?_
    rw [List.length_cons, Nat.pow_succ, Nat.mul_comm (10 ^ l.length) 10, ← Nat.mul_assoc]
    exact Nat.mul_le_mul_right _ (by omega)
theorem dec3_any (X : ByteArray) (w : World) (h3 : X.size = 3) (hd : madeF digB X.data.toList = true) :
    Calls Tryz.prog 107 #[.string X] w fun e w' => e = .returned (.tuple #[.int .i64 (decF X.data.toList : Nat), .int .i64 0]) ∧ w = w' := by
  have h := Num.decimal_any X w (by rw [h3]; decide)
  have ha : X.data.toList.all digB = true := by unfold madeF at hd; simp only [Bool.and_eq_true] at hd; exact hd.1
  have hl : X.data.toList.length = 3 := by rw [len_data]; exact h3
  have hne : X.data.toList ≠ [] := fun e => by rw [e] at hl; simp at hl
  have hg : Num.good 10 X.data.toList := fun c hc => by
    have := dg_dig (List.all_eq_true.1 ha c hc)
    exact ⟨this.2.1, this.2.2⟩
  have hv : Num.val 10 X.data.toList = ((decF X.data.toList : Nat) : Int) := dec_val X.data.toList 0 ha
  have hle := dec_le X.data.toList 0 ha
  rw [hl] at hle
  have hdl : decF X.data.toList + 1 ≤ 1000 := by unfold decF; simpa using hle
  have hm := Num.meant_ok 10 X.data.toList hne hg (by rw [hv]; unfold Num.most; omega)
  rw [hm, hv] at h
  exact h
def SlSays (B C n : Nat) (R : Except Bad (Nat × ByteArray)) (w : World) (e : Ending) (w' : World) : Prop := match R with
  | .ok p => e = .returned (.tuple #[]) ∧ ∃ w1, Went w B (n + 2) w1 ∧ w' = (w1.setCell ⟨C, 0, none⟩ (.int .i64 p.1)).setCell ⟨C, 1, none⟩ (.string p.2)
  | .error b => e = gave b ∧ ∃ j, Went w B j w'
theorem slOk {R : Except Bad (Nat × ByteArray)} {B C n a : Nat} {b : ByteArray} {w w1 : World} (h : R = .ok (a, b)) (g : Went w B (n + 2) w1) : SlSays B C n R w (.returned (.tuple #[])) ((w1.setCell ⟨C, 0, none⟩ (.int .i64 a)).setCell ⟨C, 1, none⟩ (.string b)) := by rw [h]; exact ⟨rfl, w1, g, rfl⟩
theorem slBad {R : Except Bad (Nat × ByteArray)} {p q B C n j : Nat} {a : Int} {w w' : World} (h : R = .error (p, q)) (ha : a = p) (g : Went w B j w') : SlSays B C n R w (.panicked [{ v := .iface 116 (.agg #[.int .i64 a, .int .i64 q]), recovered := false }]) w' := by rw [h, ha]; exact ⟨rfl, j, g⟩
theorem cutP_any (X : ByteArray) (w : World) : Calls Tryz.prog 105 #[.string X, .string ⟨#[72, 84, 84, 80, 47, 49, 46, 49, 32]⟩] w fun e w' => e = .returned (.tuple #[.string (if (kVer ++ [32]).isPrefixOf X.data.toList = true then mk (X.data.toList.drop 9) else X), .bool ((kVer ++ [32]).isPrefixOf X.data.toList)]) ∧ w = w' := by
  refine (Any.strings_CutPrefix Tryz.lays103 X ⟨#[72, 84, 84, 80, 47, 49, 46, 49, 32]⟩ w).mono fun e w' h => ⟨?_, h.2.symm⟩
  rw [h.1]
  have e1 : Lib.hasPrefix X.data.toList (⟨#[72, 84, 84, 80, 47, 49, 46, 49, 32]⟩ : ByteArray).data.toList = (kVer ++ [32]).isPrefixOf X.data.toList := rfl
  unfold Lib.trimPrefix
  rw [e1]
  cases (kVer ++ [32]).isPrefixOf X.data.toList
  · simp only [Bool.false_eq_true, if_false]
  · simp only [if_true]; rfl
set_option maxHeartbeats 16000000 in
set_option maxRecDepth 100000 in
theorem sline_any (X : ByteArray) (B C : Nat) (w : World) (h : LinesAt w B X 0) (hX : X.size ≤ 2048) (hC : C < w.heap.size) (hne : C ≠ B) (k0 : (w.cell? ⟨C, 0, none⟩).isSome = true) (k1 : (w.cell? ⟨C, 1, none⟩).isSome = true) (g0 : w.frozen? ⟨C, 0, none⟩ = false) (g1 : w.frozen? ⟨C, 1, none⟩ = false) :
    Calls Tryz.prog 71 #[.pointer (some ⟨B, 0, none⟩), .pointer (some ⟨C, 0, none⟩)] w (SlSays B C (lineN X.data.toList) (lineR X.data.toList slineF) w) := by
  obtain ⟨R, hR⟩ : ∃ R, lineR X.data.toList slineF = R := ⟨_, rfl⟩
  obtain ⟨N, hN⟩ : ∃ N, lineN X.data.toList = N := ⟨_, rfl⟩
  rw [hR, hN]
  have hnx := next_any X B 0 w h hX (Nat.zero_le _)
  have HL := Lib.hid h
  have HC : Hid (∀ w1 j, Went w B j w1 → C < w1.heap.size ∧ (w1.cell? ⟨C, 0, none⟩).isSome = true ∧ (w1.cell? ⟨C, 1, none⟩).isSome = true ∧ w1.frozen? ⟨C, 0, none⟩ = false ∧ w1.frozen? ⟨C, 1, none⟩ = false) := Lib.hid fun w1 j g =>
    ⟨Nat.lt_of_lt_of_le hC g.size, by rw [g.cell hC hne]; exact k0, by rw [g.cell hC hne]; exact k1, by rw [g.frozen hC]; exact g0, by rw [g.frozen hC]; exact g1⟩
  clear k0 k1 g0 g1 hC hne h
  unfold lineR at hR
  unfold lineN at hN
  cases hnr : nxtF X.data.toList 0 with
  | error b =>
    rw [hnr] at hnx hR
    obtain ⟨p, q⟩ := b
    have HR := Lib.hid hR
    have HN := Lib.hid hnx
    have HS := Lib.hid (fun w1 (hb : Below w.heap.size w w1) => went_same HL.out hb)
    clear hnx hnr hR hN
    go_enter Tryz.func71, Tryz.ntmps71
    go_wp2_with fail
    refine (HN.out).mono ?_; rintro e w1 ⟨rfl, hb⟩
    have HW := Lib.hid (HS.out _ hb)
    clear hb
    unfold gave
    go_wp2
    exact ⟨rfl, slBad HR.out.symm rfl HW.out⟩
  | ok n =>
    rw [hnr] at hnx hR hN
    dsimp only at hN hR
    subst hN
    obtain ⟨l1, _, _⟩ := nxtF_ok hnr
    rw [len_data] at l1
    obtain ⟨L, hL⟩ : ∃ L, X.extract 0 (0 + n) = L := ⟨_, rfl⟩
    have hLs : L.size = n := by rw [← hL, ext_size X 0 _ (by omega)]; omega
    have hLl : X.data.toList.take n = L.data.toList := by rw [← hL, mk_take]; congr 1; omega
    rw [hLl] at hR
    have HN : Hid (Calls Tryz.prog 106 #[.pointer (some ⟨B, 0, none⟩)] w fun e w' => e = .returned (.string L) ∧ Went w B (n + 2) w') := Lib.hid (by
      have e : n + 2 = 0 + n + 2 := by omega
      rw [← hL, e]; exact hnx)
    have hLb : L.size ≤ 2048 := by omega
    clear hnx hL hLl hnr hLs l1
    unfold slineF at hR
    have hcp := fun wx => cutP_any L wx
    obtain ⟨S, hS⟩ : ∃ S, mk (L.data.toList.drop 9) = S := ⟨_, rfl⟩
    have hSl : L.data.toList.drop 9 = S.data.toList := by rw [← hS, mk_list]
    have hSs : S.size ≤ L.size := by rw [← hS]; unfold mk; rw [size_mk, List.length_drop, len_data]; omega
    rw [hS] at hcp
    rw [hSl] at hR
    generalize (kVer ++ [32]).isPrefixOf L.data.toList = pb at hcp hR
    clear hS hSl
    cases pb
    · rw [if_pos rfl] at hR
      have HR := Lib.hid hR
      have HP : Hid (∀ wx, Calls Tryz.prog 105 #[.string L, .string ⟨#[72, 84, 84, 80, 47, 49, 46, 49, 32]⟩] wx fun e w' => e = .returned (.tuple #[.string L, .bool false]) ∧ wx = w') := Lib.hid (by simpa using hcp)
      clear hR hcp
      go_enter Tryz.func71, Tryz.ntmps71
      go_wp2_with fail
      refine (HN.out).mono ?_; rintro e w1 ⟨rfl, hb⟩
      have HW := Lib.hid hb
      clear hb
      go_wp2_with fail
      refine (HP.out _).mono ?_; rintro e w2 ⟨rfl, rfl⟩
      go_wp2_with fail
      refine (give_any _ _ _).mono ?_; rintro e w9 ⟨rfl, rfl⟩
      go_wp2
      exact ⟨rfl, slBad HR.out.symm rfl HW.out⟩
    rw [if_neg (by simp)] at hR
    dsimp only at hR
    rw [len_data] at hR
    have HP : Hid (∀ wx, Calls Tryz.prog 105 #[.string L, .string ⟨#[72, 84, 84, 80, 47, 49, 46, 49, 32]⟩] wx fun e w' => e = .returned (.tuple #[.string S, .bool true]) ∧ wx = w') := Lib.hid (by simpa using hcp)
    clear hcp
    by_cases h4 : S.size < 4
    · rw [if_pos (.inl h4)] at hR
      have HR := Lib.hid hR
      have h4z : (S.size : Int) < 4 := by omega
      clear hR h4
      go_enter Tryz.func71, Tryz.ntmps71
      go_wp2_with fail
      refine (HN.out).mono ?_; rintro e w1 ⟨rfl, hb⟩
      have HW := Lib.hid hb
      clear hb
      go_wp2_with fail
      refine (HP.out _).mono ?_; rintro e w2 ⟨rfl, rfl⟩
      go_wp2_with fail
      refine (give_any _ _ _).mono ?_; rintro e w9 ⟨rfl, rfl⟩
      go_wp2
      exact ⟨rfl, slBad HR.out.symm rfl HW.out⟩
    have h4z : ¬ (S.size : Int) < 4 := by omega
    have h4y : 3 < S.size := by omega
    have h4x : (3 : Int) < (S.size : Int) := by omega
    have h4w : (4 : Int) ≤ (S.size : Int) := by omega
    have hSz : (S.size : Int) ≤ 2048 := by omega
    obtain ⟨D, hD⟩ : ∃ D, S.extract 0 3 = D := ⟨_, rfl⟩
    have hDl : S.data.toList.take 3 = D.data.toList := by rw [← hD, mk_take]
    have hDs : D.size = 3 := by rw [← hD, ext_size S 0 3 (by omega)]
    obtain ⟨Q, hQ⟩ : ∃ Q, S.extract 4 S.size = Q := ⟨_, rfl⟩
    have hQl : S.data.toList.drop 4 = Q.data.toList := by rw [← hQ, mk_drop]
    have hQs : Q.size = S.size - 4 := by rw [← hQ, ext_size S 4 _ (Nat.le_refl _)]
    have hby := byte_getD S 3 h4y
    rw [hDl, hQl, ← hby] at hR
    have hmk : mk Q.data.toList = Q := mk_data Q
    rw [hmk] at hR
    have hmd := fun wx => madeD_any D wx (by omega)
    have hde := fun wx => dec3_any D wx hDs
    generalize hmv : madeF digB D.data.toList = mb at hmd hR hde
    have hDl2 := dec_le D.data.toList 0
    have HMD := Lib.hid hmd
    have HDE := Lib.hid hde
    clear hmd hde hDl hQl hby hmk
    cases mb
    · rw [if_pos (.inr (.inl rfl))] at hR
      have HR := Lib.hid hR
      clear hR hmv hDl2 h4 hQ hQs HDE
      go_enter Tryz.func71, Tryz.ntmps71
      go_wp2_with fail
      refine (HN.out).mono ?_; rintro e w1 ⟨rfl, hb⟩
      have HW := Lib.hid hb
      clear hb
      go_wp2_with fail
      refine (HP.out _).mono ?_; rintro e w2 ⟨rfl, rfl⟩
      go_wp2_with fail
      refine (HMD.out _).mono ?_; rintro e w3 ⟨rfl, rfl⟩
      go_wp2_with fail
      refine (give_any _ _ _).mono ?_; rintro e w9 ⟨rfl, rfl⟩
      go_wp2
      exact ⟨rfl, slBad HR.out.symm rfl HW.out⟩
    by_cases h5 : S[3].toNat ≠ 32
    · rw [if_pos (.inr (.inr h5))] at hR
      have HR := Lib.hid hR
      have h5z : ((((S[3].toNat : Nat) : Int)) != 32) = true := by simp; omega
      clear hR hmv hDl2 h4 hQ hQs HDE h5
      go_enter Tryz.func71, Tryz.ntmps71
      go_wp2_with fail
      refine (HN.out).mono ?_; rintro e w1 ⟨rfl, hb⟩
      have HW := Lib.hid hb
      clear hb
      go_wp2_with fail
      refine (HP.out _).mono ?_; rintro e w2 ⟨rfl, rfl⟩
      go_wp2_with fail
      refine (HMD.out _).mono ?_; rintro e w3 ⟨rfl, rfl⟩
      go_wp2_with fail
      refine (give_any _ _ _).mono ?_; rintro e w9 ⟨rfl, rfl⟩
      go_wp2
      exact ⟨rfl, slBad HR.out.symm rfl HW.out⟩
    rw [if_neg (by simp; exact ⟨by omega, by omega⟩)] at hR
    have h5z : ((((S[3].toNat : Nat) : Int)) != 32) = false := by simp; omega
    have HDV : Hid (∀ wx, Calls Tryz.prog 107 #[.string D] wx fun e w' => e = .returned (.tuple #[.int .i64 (decF D.data.toList : Nat), .int .i64 0]) ∧ wx = w') := Lib.hid (fun wx => HDE.out wx rfl)
    have hst := fun wx => status_any ((decF D.data.toList : Nat) : Int) wx
    generalize decF D.data.toList = N at hR HDV hst
    clear HDE hmv hDl2 h4 h5
    have hctl := fun wx => control_any Q wx (by omega)
    by_cases h6 : N < 200 ∨ 599 < N
    · rw [if_pos h6] at hR
      have HR := Lib.hid hR
      have hsv : (decide (200 ≤ (N : Int)) && decide ((N : Int) ≤ 599)) = false := by simp; omega
      rw [hsv] at hst
      have HST := Lib.hid hst
      clear hR hst hsv h6 hctl hQ hQs
      go_enter Tryz.func71, Tryz.ntmps71
      go_wp2_with fail
      refine (HN.out).mono ?_; rintro e w1 ⟨rfl, hb⟩
      have HW := Lib.hid hb
      clear hb
      go_wp2_with fail
      refine (HP.out _).mono ?_; rintro e w2 ⟨rfl, rfl⟩
      go_wp2_with fail
      refine (HMD.out _).mono ?_; rintro e w3 ⟨rfl, rfl⟩
      go_wp2_with fail
      refine (HDV.out _).mono ?_; rintro e w4 ⟨rfl, rfl⟩
      go_wp2_with fail
      refine (HST.out _).mono ?_; rintro e w5 ⟨rfl, rfl⟩
      go_wp2_with fail
      refine (give_any _ _ _).mono ?_; rintro e w9 ⟨rfl, rfl⟩
      go_wp2
      exact ⟨rfl, slBad HR.out.symm rfl HW.out⟩
    rw [if_neg h6] at hR
    have hsv : (decide (200 ≤ (N : Int)) && decide ((N : Int) ≤ 599)) = true := by simp; omega
    rw [hsv] at hst
    have HST := Lib.hid hst
    have hcg := ctl_ge Q.data.toList
    have hcl := ctl_lt Q.data.toList
    rw [len_data] at hcl
    generalize ctl Q.data.toList = cv at hR hctl hcg hcl
    have HCT := Lib.hid hctl
    have hQz : (Q.size : Int) ≤ 2048 := by omega
    clear hst hsv h6 hctl hQs
    by_cases h7 : 0 ≤ cv
    · rw [if_pos h7] at hR
      have HR := Lib.hid hR
      have h7z : cv ≤ 2048 := by omega
      clear hR
      go_enter Tryz.func71, Tryz.ntmps71
      go_wp2_with fail
      refine (HN.out).mono ?_; rintro e w1 ⟨rfl, hb⟩
      have HW := Lib.hid hb
      clear hb
      go_wp2_with fail
      refine (HP.out _).mono ?_; rintro e w2 ⟨rfl, rfl⟩
      go_wp2_with fail
      refine (HMD.out _).mono ?_; rintro e w3 ⟨rfl, rfl⟩
      go_wp2_with fail
      refine (HDV.out _).mono ?_; rintro e w4 ⟨rfl, rfl⟩
      go_wp2_with fail
      refine (HST.out _).mono ?_; rintro e w5 ⟨rfl, rfl⟩
      go_wp2_with fail
      refine (HCT.out _).mono ?_; rintro e w6 ⟨rfl, rfl⟩
      go_wp2_with fail
      refine (give_any _ _ _).mono ?_; rintro e w9 ⟨rfl, rfl⟩
      go_wp2
      exact ⟨rfl, slBad HR.out.symm (by omega) HW.out⟩
    · rw [if_neg h7] at hR
      have HR := Lib.hid hR
      clear hR
      go_enter Tryz.func71, Tryz.ntmps71
      go_wp2_with fail
      refine (HN.out).mono ?_; rintro e w1 ⟨rfl, hb⟩
      have HW := Lib.hid hb
      clear hb
      go_wp2_with fail
      refine (HP.out _).mono ?_; rintro e w2 ⟨rfl, rfl⟩
      go_wp2_with fail
      refine (HMD.out _).mono ?_; rintro e w3 ⟨rfl, rfl⟩
      go_wp2_with fail
      refine (HDV.out _).mono ?_; rintro e w4 ⟨rfl, rfl⟩
      go_wp2_with fail
      refine (HST.out _).mono ?_; rintro e w5 ⟨rfl, rfl⟩
      go_wp2_with fail
      refine (HCT.out _).mono ?_; rintro e w6 ⟨rfl, rfl⟩
      obtain ⟨z0, z1, z2, z3, z4⟩ := HC.out _ _ HW.out
      obtain ⟨y1, hy1⟩ := Option.isSome_iff_exists.1 z1
      obtain ⟨y2, hy2⟩ := Option.isSome_iff_exists.1 z2
      clear z1 z2
      go_wp2
      go_end0
      exact slOk HR.out.symm HW.out
end Go.Proofs.YthkgaaibhjkngaaGreatDoor
set_option linter.unusedVariables false
namespace Go.Proofs.YthkgaaibhjkngaaGreatDoor
open Go.RowKit

theorem fault_nil (w : World) : Calls Tryz.prog 69 #[.nilIface] w fun e w' => e = .returned .nilIface ∧ w = w' := by
  go_enter Tryz.func69, Tryz.ntmps69
  go_wp2
  go_ret
  exact ⟨rfl, rfl⟩
def FaultAt (w' : World) (g : Nat) (a b : Int) : Prop := w'.cell? ⟨g, 0, none⟩ = some (.int .i64 a) ∧ w'.cell? ⟨g, 1, none⟩ = some (.int .i64 b) ∧ g < w'.heap.size
def FaultSays (a b : Int) (w : World) (e : Ending) (w' : World) : Prop := ∃ g, e = .returned (.iface 118 (.pointer (some ⟨g, 0, none⟩))) ∧ w.heap.size ≤ g ∧ FaultAt w' g a b ∧ Below w.heap.size w w'
theorem faultSays {a b : Int} {g : Nat} {w w' : World} (h1 : w.heap.size ≤ g) (h2 : FaultAt w' g a b) (h3 : Below w.heap.size w w') : FaultSays a b w (.returned (.iface 118 (.pointer (some ⟨g, 0, none⟩)))) w' := ⟨g, rfl, h1, h2, h3⟩
set_option maxHeartbeats 4000000 in
set_option maxRecDepth 100000 in
theorem fault_wrong (a b : Int) (w : World) : Calls Tryz.prog 69 #[.iface 116 (.agg #[.int .i64 a, .int .i64 b])] w (FaultSays a b w) := by
  have hta : ∀ wx, (Instr.typeAssert (.iface 116 (.agg #[.int .i64 a, .int .i64 b])) 20 116 true).run Tryz.prog wx = .ok (.tuple #[.agg #[.int .i64 a, .int .i64 b], .bool true]) wx := fun wx => by
    simp [Instr.typeAssert, run_underlying Tryz.underlying116]
  go_enter Tryz.func69, Tryz.ntmps69
  go_wp2
  go_ret
  refine faultSays (by simp) ⟨?_, ?_, ?_⟩ ?_
  · simp [go_sem]
  · simp [go_sem]
  · simp
  · exact ((Below.refl _ _).alloc (Nat.le_refl _) _).alloc (by simp) _
/-- what lies in the boxes of the results: it may be written -/
structure Boxes (w : World) (P0 P1 : Nat) : Prop where
  a0 : ∃ v, w.cell? ⟨P0, 0, none⟩ = some v
  a1 : ∃ v, w.cell? ⟨P0, 1, none⟩ = some v
  a2 : ∃ v, w.cell? ⟨P0, 2, none⟩ = some v
  b0 : ∃ v, w.cell? ⟨P1, 0, none⟩ = some v
  f : ∀ j, w.frozen? ⟨P0, j, none⟩ = false
  g : ∀ j, w.frozen? ⟨P1, j, none⟩ = false
  p0 : P0 < w.heap.size
  p1 : P1 < w.heap.size
  ne : P1 ≠ P0
theorem Boxes.below {w w' : World} {P0 P1 : Nat} (h : Boxes w P0 P1) (hb : Below w.heap.size w w') : Boxes w' P0 P1 :=
  ⟨by rw [hb.cell (p := ⟨P0, 0, none⟩) h.p0]; exact h.a0, by rw [hb.cell (p := ⟨P0, 1, none⟩) h.p0]; exact h.a1, by rw [hb.cell (p := ⟨P0, 2, none⟩) h.p0]; exact h.a2, by rw [hb.cell (p := ⟨P1, 0, none⟩) h.p1]; exact h.b0,
   fun j => by rw [hb.frozen (p := ⟨P0, j, none⟩) h.p0]; exact h.f j, fun j => by rw [hb.frozen (p := ⟨P1, j, none⟩) h.p1]; exact h.g j, Nat.lt_of_lt_of_le h.p0 hb.size, Nat.lt_of_lt_of_le h.p1 hb.size, h.ne⟩
def zeroed (w1 : World) (P0 P1 : Nat) (z0 z1 z2 e0 : Value) : World := (((w1.setCell ⟨P0, 0, none⟩ z0).setCell ⟨P0, 1, none⟩ z1).setCell ⟨P0, 2, none⟩ z2).setCell ⟨P1, 0, none⟩ e0
set_option maxHeartbeats 4000000 in
set_option maxRecDepth 100000 in
theorem catchQ_hit (P0 P1 : Nat) (a b : Int) (older : List PanicEntry) (w : World) (h : Boxes w P0 P1) :
    CallsD Tryz.prog 76 #[.pointer (some ⟨P0, 0, none⟩), .pointer (some ⟨P1, 0, none⟩)] (.panicking ({ v := .iface 116 (.agg #[.int .i64 a, .int .i64 b]), recovered := false } :: older)) w fun e u' w' =>
      e = .returned (.tuple #[]) ∧ u' = .panicking ({ v := .iface 116 (.agg #[.int .i64 a, .int .i64 b]), recovered := true } :: older) ∧ ∃ w1 g, w.heap.size ≤ g ∧ FaultAt w1 g a b ∧ Below w.heap.size w w1 ∧ w' = zeroed w1 P0 P1 (.string ⟨#[]⟩) (.string ⟨#[]⟩) (.slice none 0 0) (.iface 118 (.pointer (some ⟨g, 0, none⟩))) := by
  refine callsD_of_wpS Tryz.func76 rfl fun c₀ cs hu => ?_
  apply wpS_seq
  apply wpS_region
  simp [wpOpsS, go_sem, recoverD, hu, Tryz.ntmps76, Exit.thenS]
  refine (fault_wrong a b w).mono ?_; rintro e w1 ⟨g, rfl, h1, h2, h3⟩
  dsimp only
  apply wpS_seq
  apply wpS_region
  simp [wpOpsS, go_sem, recoverD, Exit.thenS]
  refine wpS_cond (t := true) (by simp [Act.eval, Array.replicate]) ?_
  simp only [if_true]
  obtain ⟨⟨u0, a0⟩, ⟨u1, a1⟩, ⟨u2, a2⟩, ⟨v0, b0⟩, f, gz, p0, p1, hne⟩ := h.below h3
  have f0 := f 0; have f1 := f 1; have f2 := f 2; have g0 := gz 0
  have H1 := Lib.hid h1
  have H2 := Lib.hid h2
  have H3 := Lib.hid h3
  clear h h1 h2 h3 f gz
  apply wpS_region
  simp [wpOpsS, go_sem, bodyPostS, results, Tryz.results76, a0, a1, a2, b0, f0, f1, f2, g0]
  exact ⟨w1, g, H1.out, H2.out, H3.out, rfl⟩
theorem catchQ_idle (p q : Addr) (w : World) :
    CallsD Tryz.prog 76 #[.pointer (some p), .pointer (some q)] .returning w fun e u' w' => e = .returned (.tuple #[]) ∧ u' = .returning ∧ w' = w := by
  refine callsD_of_wpS Tryz.func76 rfl fun c₀ cs hu => ?_
  apply wpS_seq
  apply wpS_region
  simp [wpOpsS, go_sem, recoverD, hu, Tryz.ntmps76, Exit.thenS]
  refine (fault_nil w).mono ?_; rintro e w1 ⟨rfl, rfl⟩
  dsimp only
  apply wpS_seq
  apply wpS_region
  simp [wpOpsS, go_sem, recoverD, hu, Exit.thenS]
  refine wpS_cond (t := false) (by simp [Act.eval, Array.replicate]) ?_
  simp only [Bool.false_eq_true, if_false]
  refine wpS_of_wp (wp_skip ?_)
  cases c₀
  simp_all [bodyPostS, results, Tryz.results76]
set_option maxHeartbeats 4000000 in
set_option maxRecDepth 100000 in
theorem catchS_hit (P0 P1 : Nat) (a b : Int) (older : List PanicEntry) (w : World) (h : Boxes w P0 P1) :
    CallsD Tryz.prog 68 #[.pointer (some ⟨P0, 0, none⟩), .pointer (some ⟨P1, 0, none⟩)] (.panicking ({ v := .iface 116 (.agg #[.int .i64 a, .int .i64 b]), recovered := false } :: older)) w fun e u' w' =>
      e = .returned (.tuple #[]) ∧ u' = .panicking ({ v := .iface 116 (.agg #[.int .i64 a, .int .i64 b]), recovered := true } :: older) ∧ ∃ w1 g, w.heap.size ≤ g ∧ FaultAt w1 g a b ∧ Below w.heap.size w w1 ∧ w' = zeroed w1 P0 P1 (.int .i64 0) (.string ⟨#[]⟩) (.slice none 0 0) (.iface 118 (.pointer (some ⟨g, 0, none⟩))) := by
  refine callsD_of_wpS Tryz.func68 rfl fun c₀ cs hu => ?_
  apply wpS_seq
  apply wpS_region
  simp [wpOpsS, go_sem, recoverD, hu, Tryz.ntmps68, Exit.thenS]
  refine (fault_wrong a b w).mono ?_; rintro e w1 ⟨g, rfl, h1, h2, h3⟩
  dsimp only
  apply wpS_seq
  apply wpS_region
  simp [wpOpsS, go_sem, recoverD, Exit.thenS]
  refine wpS_cond (t := true) (by simp [Act.eval, Array.replicate]) ?_
  simp only [if_true]
  obtain ⟨⟨u0, a0⟩, ⟨u1, a1⟩, ⟨u2, a2⟩, ⟨v0, b0⟩, f, gz, p0, p1, hne⟩ := h.below h3
  have f0 := f 0; have f1 := f 1; have f2 := f 2; have g0 := gz 0
  have H1 := Lib.hid h1
  have H2 := Lib.hid h2
  have H3 := Lib.hid h3
  clear h h1 h2 h3 f gz
  apply wpS_region
  simp [wpOpsS, go_sem, bodyPostS, results, Tryz.results68, a0, a1, a2, b0, f0, f1, f2, g0]
  exact ⟨w1, g, H1.out, H2.out, H3.out, rfl⟩
theorem catchS_idle (p q : Addr) (w : World) :
    CallsD Tryz.prog 68 #[.pointer (some p), .pointer (some q)] .returning w fun e u' w' => e = .returned (.tuple #[]) ∧ u' = .returning ∧ w' = w := by
  refine callsD_of_wpS Tryz.func68 rfl fun c₀ cs hu => ?_
  apply wpS_seq
  apply wpS_region
  simp [wpOpsS, go_sem, recoverD, hu, Tryz.ntmps68, Exit.thenS]
  refine (fault_nil w).mono ?_; rintro e w1 ⟨rfl, rfl⟩
  dsimp only
  apply wpS_seq
  apply wpS_region
  simp [wpOpsS, go_sem, recoverD, hu, Exit.thenS]
  refine wpS_cond (t := false) (by simp [Act.eval, Array.replicate]) ?_
  simp only [Bool.false_eq_true, if_false]
  refine wpS_of_wp (wp_skip ?_)
  cases c₀
  simp_all [bodyPostS, results, Tryz.results68]
end Go.Proofs.YthkgaaibhjkngaaGreatDoor
set_option linter.unusedVariables false
namespace Go.Proofs.YthkgaaibhjkngaaGreatDoor
open Go.RowKit

theorem boxes_new (w : World) (a b c d : Value) (t u : TypeId) : Boxes ((w.alloc (.cells #[a, b, c] t)).alloc (.cells #[d] u)) w.heap.size (w.heap.size + 1) := by
  have hs : (w.alloc (.cells #[a, b, c] t)).heap.size = w.heap.size + 1 := by simp
  have h0 := fun j => kept_new w ((w.alloc (.cells #[a, b, c] t)).alloc (.cells #[d] u)) #[a, b, c] t ((Below.refl _ _).alloc (Nat.le_refl _) _) j
  have h1 := fun j => at_alloc (w.alloc (.cells #[a, b, c] t)) #[d] u j
  rw [hs] at h1
  exact ⟨⟨a, (h0 0).1⟩, ⟨b, (h0 1).1⟩, ⟨c, (h0 2).1⟩, ⟨d, (h1 0).1⟩, fun j => (h0 j).2, fun j => (h1 j).2, by simp; omega, by simp, by omega⟩
theorem zeroed_at {w1 : World} {P0 P1 : Nat} (h : Boxes w1 P0 P1) (z0 z1 z2 e0 : Value) :
    (zeroed w1 P0 P1 z0 z1 z2 e0).cell? ⟨P0, 0, none⟩ = some z0 ∧ (zeroed w1 P0 P1 z0 z1 z2 e0).cell? ⟨P0, 1, none⟩ = some z1 ∧ (zeroed w1 P0 P1 z0 z1 z2 e0).cell? ⟨P0, 2, none⟩ = some z2 ∧ (zeroed w1 P0 P1 z0 z1 z2 e0).cell? ⟨P1, 0, none⟩ = some e0 := by
  obtain ⟨⟨u0, a0⟩, ⟨u1, a1⟩, ⟨u2, a2⟩, ⟨v0, b0⟩, f, gz, p0, p1, hne⟩ := h
  have n10 : ∀ j, (⟨P1, 0, none⟩ : Addr) ≠ ⟨P0, j, none⟩ := fun j e => by injection e with e1; exact hne e1
  have b1 : ∀ (wx : World) j v, (wx.setCell ⟨P0, j, none⟩ v).cell? ⟨P1, 0, none⟩ = wx.cell? ⟨P1, 0, none⟩ := fun wx j v => World.cell?_setCell_other _ _ _ _ (by intro e; injection e with e1; exact hne e1.symm)
  unfold zeroed
  refine ⟨?_, ?_, ?_, ?_⟩
  · rw [World.cell?_setCell_other _ _ _ _ (n10 0), World.cell?_setCell_other _ _ _ _ (by simp), World.cell?_setCell_other _ _ _ _ (by simp)]
    exact World.cell?_setCell_same _ _ _ a0
  · rw [World.cell?_setCell_other _ _ _ _ (n10 1), World.cell?_setCell_other _ _ _ _ (by simp)]
    exact World.cell?_setCell_same _ _ _ (by rw [World.cell?_setCell_other _ _ _ _ (by simp)]; exact a1)
  · rw [World.cell?_setCell_other _ _ _ _ (n10 2)]
    exact World.cell?_setCell_same _ _ _ (by rw [World.cell?_setCell_other _ _ _ _ (by simp), World.cell?_setCell_other _ _ _ _ (by simp)]; exact a2)
  · exact World.cell?_setCell_same _ _ _ (by rw [b1, b1, b1]; exact b0)
theorem zeroed_far {w1 : World} {P0 P1 g : Nat} (h0 : g ≠ P0) (h1 : g ≠ P1) (z0 z1 z2 e0 : Value) (j : Nat) : (zeroed w1 P0 P1 z0 z1 z2 e0).cell? ⟨g, j, none⟩ = w1.cell? ⟨g, j, none⟩ := by
  have k0 : ∀ (wx : World) i v, (wx.setCell ⟨P0, i, none⟩ v).cell? ⟨g, j, none⟩ = wx.cell? ⟨g, j, none⟩ := fun wx i v => World.cell?_setCell_other _ _ _ _ (by intro e; injection e with e1; exact h0 e1.symm)
  have k1 : ∀ (wx : World) i v, (wx.setCell ⟨P1, i, none⟩ v).cell? ⟨g, j, none⟩ = wx.cell? ⟨g, j, none⟩ := fun wx i v => World.cell?_setCell_other _ _ _ _ (by intro e; injection e with e1; exact h1 e1.symm)
  unfold zeroed
  rw [k1, k0, k0, k0]
theorem zeroed_size (w1 : World) (P0 P1 : Nat) (z0 z1 z2 e0 : Value) : (zeroed w1 P0 P1 z0 z1 z2 e0).heap.size = w1.heap.size := by
  unfold zeroed; simp only [set_size]
theorem zeroed_below {w w1 : World} (h : Below w.heap.size w w1) (z0 z1 z2 e0 : Value) : Below w.heap.size w (zeroed w1 w.heap.size (w.heap.size + 1) z0 z1 z2 e0) := by
  unfold zeroed
  exact (((h.setCell (p := ⟨w.heap.size, 0, none⟩) (Nat.le_refl _) _).setCell (p := ⟨w.heap.size, 1, none⟩) (Nat.le_refl _) _).setCell (p := ⟨w.heap.size, 2, none⟩) (Nat.le_refl _) _).setCell (p := ⟨w.heap.size + 1, 0, none⟩) (Nat.le_succ _) _
theorem LinesAt.seto {w : World} {B k C o : Nat} {X : ByteArray} (h : LinesAt w B X k) (hC : C ≠ B) (v : Value) : LinesAt (w.setCell ⟨C, o, none⟩ v) B X k := by
  have k0 : ∀ j, (w.setCell ⟨C, o, none⟩ v).cell? ⟨B, j, none⟩ = w.cell? ⟨B, j, none⟩ := fun j => World.cell?_setCell_other _ _ _ _ (by intro e; injection e with e1; exact hC e1)
  exact ⟨by rw [set_size]; exact h.lt, by rw [k0]; exact h.s, by rw [k0]; exact h.at', by rw [World.frozen?_setCell]; exact h.f⟩
theorem some_set {w : World} {a b : Addr} (v : Value) (h : ∃ u, w.cell? a = some u) : ∃ u, (w.setCell b v).cell? a = some u := by
  obtain ⟨u, hu⟩ := h
  exact cell?_setCell_some hu
theorem Boxes.set {w : World} {P0 P1 : Nat} (h : Boxes w P0 P1) (a : Addr) (v : Value) : Boxes (w.setCell a v) P0 P1 :=
  ⟨some_set v h.a0, some_set v h.a1, some_set v h.a2, some_set v h.b0, fun j => by rw [World.frozen?_setCell]; exact h.f j, fun j => by rw [World.frozen?_setCell]; exact h.g j, by rw [set_size]; exact h.p0, by rw [set_size]; exact h.p1, h.ne⟩
theorem Boxes.went {w w' : World} {P0 P1 B j : Nat} (h : Boxes w P0 P1) (n0 : P0 ≠ B) (n1 : P1 ≠ B) (g : Went w B j w') : Boxes w' P0 P1 :=
  ⟨by rw [g.cell h.p0 n0]; exact h.a0, by rw [g.cell h.p0 n0]; exact h.a1, by rw [g.cell h.p0 n0]; exact h.a2, by rw [g.cell h.p1 n1]; exact h.b0, fun j => by rw [g.frozen h.p0]; exact h.f j, fun j => by rw [g.frozen h.p1]; exact h.g j, Nat.lt_of_lt_of_le h.p0 g.size, Nat.lt_of_lt_of_le h.p1 g.size, h.ne⟩
theorem lineN_le {l : List UInt8} {α : Type} {f : List UInt8 → Except Bad α} {x : α} (h : lineR l f = .ok x) : lineN l + 2 ≤ l.length := by
  unfold lineR at h
  unfold lineN
  cases hn : nxtF l 0 with
  | error b => rw [hn] at h; cases h
  | ok n => have := (nxtF_ok hn).1; dsimp only; omega
theorem req_bad {l : List UInt8} {b : Bad} (h : ¬ 2048 < l.length) (h2 : lineR l qlineF = .error b) : reqF l = .error b := by
  unfold reqF
  rw [if_neg h]
  unfold lineR at h2
  cases hn : nxtF l 0 with
  | error c => rw [hn] at h2; dsimp only at h2; dsimp only; injection h2 with h2; rw [h2]
  | ok n => rw [hn] at h2; dsimp only at h2; dsimp only; rw [h2]
theorem req_rows {l : List UInt8} {c : Bad} {a : ByteArray} {b : ByteArray} (h : ¬ 2048 < l.length) (h2 : lineR l qlineF = .ok (a, b)) (h3 : rowsF l 32 (lineN l + 2) [] = .error c) : reqF l = .error c := by
  unfold reqF
  rw [if_neg h]
  unfold lineR at h2
  unfold lineN at h3
  cases hn : nxtF l 0 with
  | error c => rw [hn] at h2; cases h2
  | ok n => rw [hn] at h2 h3; dsimp only at h2 h3; dsimp only; rw [h2]; dsimp only; rw [h3]
theorem req_rest {l : List UInt8} {a : ByteArray} {b : ByteArray} {fs : AL} {k : Nat} (h : ¬ 2048 < l.length) (h2 : lineR l qlineF = .ok (a, b)) (h3 : rowsF l 32 (lineN l + 2) [] = .ok (fs, k)) : reqF l = if k < l.length then .error (k, 1) else if hostF fs = false then .error (0, 16) else .ok (a, b, fs) := by
  unfold reqF
  rw [if_neg h]
  unfold lineR at h2
  unfold lineN at h3
  cases hn : nxtF l 0 with
  | error c => rw [hn] at h2; cases h2
  | ok n => rw [hn] at h2 h3; dsimp only at h2 h3; dsimp only; rw [h2]; dsimp only; rw [h3]
theorem res_bad {l : List UInt8} {b : Bad} (h : ¬ 2048 < l.length) (h2 : lineR l slineF = .error b) : resF l = .error b := by
  unfold resF
  rw [if_neg h]
  unfold lineR at h2
  cases hn : nxtF l 0 with
  | error c => rw [hn] at h2; dsimp only at h2; dsimp only; injection h2 with h2; rw [h2]
  | ok n => rw [hn] at h2; dsimp only at h2; dsimp only; rw [h2]
theorem res_rows {l : List UInt8} {c : Bad} {a : Nat} {b : ByteArray} (h : ¬ 2048 < l.length) (h2 : lineR l slineF = .ok (a, b)) (h3 : rowsF l 32 (lineN l + 2) [] = .error c) : resF l = .error c := by
  unfold resF
  rw [if_neg h]
  unfold lineR at h2
  unfold lineN at h3
  cases hn : nxtF l 0 with
  | error c => rw [hn] at h2; cases h2
  | ok n => rw [hn] at h2 h3; dsimp only at h2 h3; dsimp only; rw [h2]; dsimp only; rw [h3]
theorem res_rest {l : List UInt8} {a : Nat} {b : ByteArray} {fs : AL} {k : Nat} (h : ¬ 2048 < l.length) (h2 : lineR l slineF = .ok (a, b)) (h3 : rowsF l 32 (lineN l + 2) [] = .ok (fs, k)) : resF l = if k < l.length then .error (k, 1) else .ok (a, b, fs) := by
  unfold resF
  rw [if_neg h]
  unfold lineR at h2
  unfold lineN at h3
  cases hn : nxtF l 0 with
  | error c => rw [hn] at h2; cases h2
  | ok n => rw [hn] at h2 h3; dsimp only at h2 h3; dsimp only; rw [h2]; dsimp only; rw [h3]
theorem fieldF_len {line : List UInt8} {k : Nat} {f : ByteArray × ByteArray} (h : fieldF line k = .ok f) : f.1.size + f.2.size ≤ line.length := by
  unfold fieldF at h
  by_cases h1 : (line.getD 0 0).toNat = 32 ∨ (line.getD 0 0).toNat = 9
  · rw [if_pos h1] at h; cases h
  rw [if_neg h1] at h
  by_cases h2 : line.length ≤ posB 58 line
  · rw [if_pos h2] at h; cases h
  rw [if_neg h2] at h
  by_cases h3 : (Lib.trimRightS (line.take (posB 58 line)) blanks).length < posB 58 line
  · rw [if_pos h3] at h; cases h
  rw [if_neg h3] at h
  by_cases h4 : isTok (line.take (posB 58 line)) = false
  · rw [if_pos h4] at h; cases h
  rw [if_neg h4] at h
  by_cases h5 : 0 ≤ ctl (line.drop (posB 58 line + 1))
  · rw [if_pos h5] at h; cases h
  rw [if_neg h5] at h
  cases h
  have ht := trim_len (line.drop (posB 58 line + 1))
  rw [List.length_drop] at ht
  unfold mk
  rw [size_mk, size_mk, List.length_take]
  omega
theorem rowsF_asz {l : List UInt8} : ∀ (m k : Nat) (acc : AL) (fs : AL) (j : Nat), rowsF l m k acc = .ok (fs, j) → asz fs ≤ asz acc + 3 * (l.length - k) ∧ j ≤ l.length
  | 0, k, acc, fs, j, h => by
    unfold rowsF at h
    cases hn : nxtF l k with
    | error b => rw [hn] at h; cases h
    | ok n =>
      rw [hn] at h
      have := (nxtF_ok hn).1
      by_cases h0 : n = 0
      · simp only [h0, if_true] at h; cases h; omega
      · simp only [h0, if_false] at h; cases h
  | m + 1, k, acc, fs, j, h => by
    unfold rowsF at h
    cases hn : nxtF l k with
    | error b => rw [hn] at h; cases h
    | ok n =>
      rw [hn] at h
      have h1 := (nxtF_ok hn).1
      by_cases h0 : n = 0
      · simp only [h0, if_true] at h; cases h; omega
      · simp only [h0, if_false] at h
        cases hf : fieldF ((l.drop k).take n) k with
        | error b => rw [hf] at h; cases h
        | ok f =>
          rw [hf] at h
          dsimp only at h
          obtain ⟨g1, g2⟩ := rowsF_asz m _ _ fs j h
          have hl := fieldF_len hf
          rw [List.length_take] at hl
          rw [asz_app] at g1
          have he : asz [f] = f.1.size + f.2.size + 4 := by simp [asz]
          refine ⟨?_, g2⟩
          omega
theorem rows_asz {l : List UInt8} {X n k : Nat} {fs : AL} (hX : X ≤ 2048) (hl : l.length = X) (hn : n ≤ X) (h : rowsF l 32 n [] = .ok (fs, k)) : asz fs ≤ 16777216 ∧ k ≤ X := by
  have := rowsF_asz 32 n [] fs k h
  have h0 : asz ([] : AL) = 0 := rfl
  omega
theorem own_zeroed {w w1 : World} {fs : AL} {v : Value} (h : OwnF w1 (w.heap.size + 2) v fs) (z0 z1 z2 e0 : Value) : OwnF (zeroed w1 w.heap.size (w.heap.size + 1) z0 z1 z2 e0) (w.heap.size + 2) v fs := by
  unfold zeroed
  exact ownsRow_setCell_below (ownF_set3 h (by omega)) (a := ⟨w.heap.size + 1, 0, none⟩) (by show w.heap.size + 1 < w.heap.size + 2; omega) _
theorem req_big {l : List UInt8} (h : 2048 < l.length) : reqF l = .error (2048, 17) := by unfold reqF; rw [if_pos h]
theorem res_big {l : List UInt8} (h : 2048 < l.length) : resF l = .error (2048, 17) := by unfold resF; rw [if_pos h]
def ReqGives (R : Except Bad (ByteArray × ByteArray × AL)) (w : World) (e : Ending) (w' : World) : Prop := Below w.heap.size w w' ∧ match R with
  | .ok p => ∃ v, e = .returned (.tuple #[.agg #[.string p.1, .string p.2.1, v], .nilIface]) ∧ OwnF w' w.heap.size v p.2.2
  | .error b => ∃ g, e = .returned (.tuple #[.agg #[.string ⟨#[]⟩, .string ⟨#[]⟩, .slice none 0 0], .iface 118 (.pointer (some ⟨g, 0, none⟩))]) ∧ w.heap.size ≤ g ∧ FaultAt w' g b.1 b.2
def ResGives (R : Except Bad (Nat × ByteArray × AL)) (w : World) (e : Ending) (w' : World) : Prop := Below w.heap.size w w' ∧ match R with
  | .ok p => ∃ v, e = .returned (.tuple #[.agg #[.int .i64 p.1, .string p.2.1, v], .nilIface]) ∧ OwnF w' w.heap.size v p.2.2
  | .error b => ∃ g, e = .returned (.tuple #[.agg #[.int .i64 0, .string ⟨#[]⟩, .slice none 0 0], .iface 118 (.pointer (some ⟨g, 0, none⟩))]) ∧ w.heap.size ≤ g ∧ FaultAt w' g b.1 b.2
set_option maxHeartbeats 16000000 in
set_option maxRecDepth 100000 in
theorem request_any (X : ByteArray) (w : World) (hs : X.size ≤ 9223372036854775807) :
    Calls Tryz.prog 32 #[.string X] w (ReqGives (reqF X.data.toList) w) := by
  obtain ⟨R, hRR⟩ : ∃ R, R = reqF X.data.toList := ⟨_, rfl⟩
  rw [← hRR]
  have hmf : ∀ (fn : Fn) (first cap : Array Value) (w : World), (Instr.makeFunc fn first cap).run Tryz.prog w = .ok (.func fn first cap) w := fun _ _ _ _ => rfl
  obtain ⟨w0, hw0⟩ : ∃ w0, w0 = (w.alloc (.cells #[.string ⟨#[]⟩, .string ⟨#[]⟩, .slice none 0 0] 24)).alloc (.cells #[.nilIface] 49) := ⟨_, rfl⟩
  have HW0 := Lib.hid hw0
  have HBX0 : Hid (Boxes w0 w.heap.size (w.heap.size + 1)) := Lib.hid (by rw [hw0]; exact boxes_new w _ _ _ _ _ _)
  have HB0 : Hid (Below w.heap.size w w0) := Lib.hid (by rw [hw0]; exact ((Below.refl _ _).alloc (Nat.le_refl _) _).alloc (by simp) _)
  have hz0 : w0.heap.size = w.heap.size + 1 + 1 := by rw [hw0]; simp
  have HZ0 := Lib.hid hz0
  clear hw0
  by_cases hbig : 2048 < X.size
  · have HR := Lib.hid (hRR.trans (req_big (by rw [len_data]; exact hbig)))
    have HG := Lib.hid (fun wx => begin_bad X wx hbig)
    clear hRR hbig hz0
    go_enter_defers Tryz.func32, Tryz.ntmps32
    go_wp2_with fail
    rw [← HW0.out]
    refine (HG.out _).mono ?_; rintro e w1 ⟨rfl, rfl⟩
    unfold gave
    go_wp2
    refine leaves_cons (f := 76) (args := #[.pointer (some ⟨w.heap.size, 0, none⟩), .pointer (some ⟨w.heap.size + 1, 0, none⟩)]) (by simp) (by simp [go_sem]) ?_
    refine (catchQ_hit _ _ _ _ [] _ HBX0.out).mono ?_
    rintro e u' w'' ⟨rfl, rfl, wz, g, h1, h2, h3, rfl⟩
    have hbz := HBX0.out.below h3
    obtain ⟨r0, r1, r2, r3⟩ := zeroed_at hbz (.string ⟨#[]⟩) (.string ⟨#[]⟩) (.slice none 0 0) (.iface 118 (.pointer (some ⟨g, 0, none⟩)))
    have hpz := HBX0.out.p1
    have hfz := fun j => zeroed_far (w1 := wz) (P0 := w.heap.size) (P1 := w.heap.size + 1) (g := g) (by omega) (by omega) (.string ⟨#[]⟩) (.string ⟨#[]⟩) (.slice none 0 0) (.iface 118 (.pointer (some ⟨g, 0, none⟩))) j
    have hsz := zeroed_size wz w.heap.size (w.heap.size + 1) (.string ⟨#[]⟩) (.string ⟨#[]⟩) (.slice none 0 0) (.iface 118 (.pointer (some ⟨g, 0, none⟩)))
    have hbl : Below w.heap.size w (zeroed wz w.heap.size (w.heap.size + 1) (.string ⟨#[]⟩) (.string ⟨#[]⟩) (.slice none 0 0) (.iface 118 (.pointer (some ⟨g, 0, none⟩)))) := zeroed_below (HB0.out.trans (h3.mono HB0.out.size)) _ _ _ _
    obtain ⟨wr, hwr⟩ : ∃ wr, wr = zeroed wz w.heap.size (w.heap.size + 1) (.string ⟨#[]⟩) (.string ⟨#[]⟩) (.slice none 0 0) (.iface 118 (.pointer (some ⟨g, 0, none⟩))) := ⟨_, rfl⟩
    rw [← hwr] at r0 r1 r2 r3 hfz hsz hbl ⊢
    clear hwr
    have hgz : w.heap.size ≤ g := by omega
    simp [Leaves, settle, results, Tryz.results32, go_sem, r0, r1, r2, r3]
    exact ⟨hbl, by rw [HR.out]; exact ⟨g, rfl, hgz, (hfz 0).trans h2.1, (hfz 1).trans h2.2.1, by rw [hsz]; exact h2.2.2⟩⟩
  have hX : X.size ≤ 2048 := by omega
  have HG : Hid (∀ wx, Calls Tryz.prog 70 #[.string X] wx fun e w' => e = .returned (.pointer (some ⟨wx.heap.size, 0, none⟩)) ∧ w' = wx.alloc (.cells #[.string X, .int .i64 0] 122)) := Lib.hid (fun wx => begin_ok X wx hX)
  obtain ⟨w1, hw1⟩ : ∃ w1, w1 = w0.alloc (.cells #[.string X, .int .i64 0] 122) := ⟨_, rfl⟩
  have HW1 := Lib.hid hw1
  have HL1 : Hid (LinesAt w1 w0.heap.size X 0) := Lib.hid (by rw [hw1]; exact lines_new X w0)
  have hb01 : Below w0.heap.size w0 w1 := by rw [hw1]; exact (Below.refl _ _).alloc (Nat.le_refl _) _
  have HBX1 := Lib.hid (HBX0.out.below hb01)
  have HB1 := Lib.hid (HB0.out.trans (hb01.mono HB0.out.size))
  have HZ1 : Hid (w0.heap.size < w1.heap.size) := Lib.hid (by rw [hw1]; simp)
  -- what the first line leaves
  have HST : Hid (∀ j w2, Went w1 w0.heap.size j w2 → Boxes w2 w.heap.size (w.heap.size + 1) ∧ Below w.heap.size w w2) := Lib.hid fun j w2 g => by
    have hm := HBX1.out
    refine ⟨⟨?_, ?_, ?_, ?_, fun j => ?_, fun j => ?_, Nat.lt_of_lt_of_le hm.p0 g.size, Nat.lt_of_lt_of_le hm.p1 g.size, hm.ne⟩, HB1.out.trans (g.below (by omega) HB1.out.size)⟩
    · rw [g.cell hm.p0 (by omega)]; exact hm.a0
    · rw [g.cell hm.p0 (by omega)]; exact hm.a1
    · rw [g.cell hm.p0 (by omega)]; exact hm.a2
    · rw [g.cell hm.p1 (by omega)]; exact hm.b0
    · rw [g.frozen hm.p0]; exact hm.f j
    · rw [g.frozen hm.p1]; exact hm.g j
  have hql := qline_any X w0.heap.size w.heap.size w1 HL1.out hX HBX1.out.p0 (by omega) (by obtain ⟨v, h⟩ := HBX1.out.a0; rw [h]; rfl) (by obtain ⟨v, h⟩ := HBX1.out.a1; rw [h]; rfl) (HBX1.out.f 0) (HBX1.out.f 1)
  have hN := fun x => @lineN_le X.data.toList _ qlineF x
  rw [len_data] at hN
  obtain ⟨n, hn⟩ : ∃ n, lineN X.data.toList = n := ⟨_, rfl⟩
  have hXl : ¬ 2048 < X.data.toList.length := by rw [len_data]; omega
  have HXL := Lib.hid hXl
  clear hw1 hb01 hbig hXl
  cases hlr : lineR X.data.toList qlineF with
  | error b =>
    obtain ⟨p, q⟩ := b
    have HR := Lib.hid (hRR.trans (req_bad HXL.out hlr))
    rw [hlr] at hql
    have HQ := Lib.hid hql
    clear hRR hql hlr hN hn hz0 hX
    go_enter_defers Tryz.func32, Tryz.ntmps32
    go_wp2_with fail
    rw [← HW0.out]
    refine (HG.out _).mono ?_; rintro e w1 ⟨rfl, hw1⟩
    rw [hw1]
    clear hw1
    go_wp2_with fail
    rw [← HW1.out]
    refine HQ.out.mono ?_; rintro e w2 ⟨rfl, j, g⟩
    have HBX2 := Lib.hid (HST.out j w2 g).1
    have HB2 := Lib.hid (HST.out j w2 g).2
    clear g
    unfold gave
    go_wp2
    refine leaves_cons (f := 76) (args := #[.pointer (some ⟨w.heap.size, 0, none⟩), .pointer (some ⟨w.heap.size + 1, 0, none⟩)]) (by simp) (by simp [go_sem]) ?_
    refine (catchQ_hit _ _ _ _ [] _ HBX2.out).mono ?_
    rintro e u' w'' ⟨rfl, rfl, wz, g, h1, h2, h3, rfl⟩
    have hbz := HBX2.out.below h3
    obtain ⟨r0, r1, r2, r3⟩ := zeroed_at hbz (.string ⟨#[]⟩) (.string ⟨#[]⟩) (.slice none 0 0) (.iface 118 (.pointer (some ⟨g, 0, none⟩)))
    have hpz := HBX2.out.p1
    have hfz := fun j => zeroed_far (w1 := wz) (P0 := w.heap.size) (P1 := w.heap.size + 1) (g := g) (by omega) (by omega) (.string ⟨#[]⟩) (.string ⟨#[]⟩) (.slice none 0 0) (.iface 118 (.pointer (some ⟨g, 0, none⟩))) j
    have hsz := zeroed_size wz w.heap.size (w.heap.size + 1) (.string ⟨#[]⟩) (.string ⟨#[]⟩) (.slice none 0 0) (.iface 118 (.pointer (some ⟨g, 0, none⟩)))
    have hbl : Below w.heap.size w (zeroed wz w.heap.size (w.heap.size + 1) (.string ⟨#[]⟩) (.string ⟨#[]⟩) (.slice none 0 0) (.iface 118 (.pointer (some ⟨g, 0, none⟩)))) := zeroed_below (HB2.out.trans (h3.mono HB2.out.size)) _ _ _ _
    obtain ⟨wr, hwr⟩ : ∃ wr, wr = zeroed wz w.heap.size (w.heap.size + 1) (.string ⟨#[]⟩) (.string ⟨#[]⟩) (.slice none 0 0) (.iface 118 (.pointer (some ⟨g, 0, none⟩))) := ⟨_, rfl⟩
    rw [← hwr] at r0 r1 r2 r3 hfz hsz hbl ⊢
    clear hwr
    have hgz : w.heap.size ≤ g := by omega
    simp [Leaves, settle, results, Tryz.results32, go_sem, r0, r1, r2, r3]
    exact ⟨hbl, by rw [HR.out]; exact ⟨g, rfl, hgz, (hfz 0).trans h2.1, (hfz 1).trans h2.2.1, by rw [hsz]; exact h2.2.2⟩⟩
  | ok x =>
    obtain ⟨m, t⟩ := x
    have hn2 := hN _ hlr
    rw [hlr] at hql
    rw [hn] at hql hn2
    have hrw := fun wx (h : LinesAt wx w0.heap.size X (n + 2)) => fields_any X w0.heap.size (n + 2) wx h hX hn2
    have HQ := Lib.hid hql
    have hS3 : ∀ w2, Went w1 w0.heap.size (n + 2) w2 → ∀ w3, w3 = (w2.setCell ⟨w.heap.size, 0, none⟩ (.string m)).setCell ⟨w.heap.size, 1, none⟩ (.string t) → LinesAt w3 w0.heap.size X (n + 2) ∧ Boxes w3 w.heap.size (w.heap.size + 1) ∧ Below w.heap.size w w3 ∧ w0.heap.size < w3.heap.size ∧ w3.cell? ⟨w.heap.size, 0, none⟩ = some (.string m) ∧ w3.cell? ⟨w.heap.size, 1, none⟩ = some (.string t) := fun w2 g w3 hw3 => by
      obtain ⟨b2, bb2⟩ := HST.out _ w2 g
      subst hw3
      obtain ⟨u0, a0⟩ := b2.a0
      obtain ⟨u1, a1⟩ := b2.a1
      refine ⟨((HL1.out.went g).seto (by omega) _).seto (by omega) _, (b2.set _ _).set _ _, (bb2.setCell (p := ⟨w.heap.size, 0, none⟩) (Nat.le_refl _) _).setCell (p := ⟨w.heap.size, 1, none⟩) (Nat.le_refl _) _, by rw [set_size, set_size]; exact Nat.lt_of_lt_of_le HZ1.out g.size, ?_, ?_⟩
      · rw [World.cell?_setCell_other _ _ _ _ (by simp)]; exact World.cell?_setCell_same _ _ _ a0
      · exact World.cell?_setCell_same _ _ _ (by rw [World.cell?_setCell_other _ _ _ _ (by simp)]; exact a1)
    have HS3 := Lib.hid hS3
    clear hql hS3 hN
    cases hro : rowsF X.data.toList 32 (n + 2) [] with
    | error b =>
      obtain ⟨p, q⟩ := b
      have HR := Lib.hid (hRR.trans (req_rows HXL.out hlr (by rw [hn]; exact hro)))
      rw [hro] at hrw
      have HF := Lib.hid hrw
      clear hRR hlr hn hz0 hX hro hrw hn2
      go_enter_defers Tryz.func32, Tryz.ntmps32
      go_wp2_with fail
      rw [← HW0.out]
      refine (HG.out _).mono ?_; rintro e w1 ⟨rfl, hw1⟩
      rw [hw1]
      clear hw1
      go_wp2_with fail
      rw [← HW1.out]
      refine HQ.out.mono ?_; rintro e w3 ⟨rfl, w2, g, hw3⟩
      obtain ⟨l3, b3, bb3, z3, c0, c1⟩ := HS3.out w2 g w3 hw3
      have HL3 := Lib.hid l3
      have HBX3 := Lib.hid b3
      have HB3 := Lib.hid bb3
      have HZ3 := Lib.hid z3
      clear l3 b3 bb3 g hw3 c0 c1 z3
      go_wp2_with fail
      refine (HF.out w3 HL3.out).mono ?_; rintro e w4 ⟨rfl, j, g⟩
      have HBX4 := Lib.hid (HBX3.out.went (by have := HZ0.out; omega) (by have := HZ0.out; omega) g)
      have HB4 := Lib.hid (HB3.out.trans (g.below (by have := HZ0.out; omega) HB3.out.size))
      clear g
      unfold gave
      go_wp2
      refine leaves_cons (f := 76) (args := #[.pointer (some ⟨w.heap.size, 0, none⟩), .pointer (some ⟨w.heap.size + 1, 0, none⟩)]) (by simp) (by simp [go_sem]) ?_
      refine (catchQ_hit _ _ _ _ [] _ HBX4.out).mono ?_
      rintro e u' w'' ⟨rfl, rfl, wz, g, h1, h2, h3, rfl⟩
      have hbz := HBX4.out.below h3
      obtain ⟨r0, r1, r2, r3⟩ := zeroed_at hbz (.string ⟨#[]⟩) (.string ⟨#[]⟩) (.slice none 0 0) (.iface 118 (.pointer (some ⟨g, 0, none⟩)))
      have hpz := HBX4.out.p1
      have hfz := fun j => zeroed_far (w1 := wz) (P0 := w.heap.size) (P1 := w.heap.size + 1) (g := g) (by omega) (by omega) (.string ⟨#[]⟩) (.string ⟨#[]⟩) (.slice none 0 0) (.iface 118 (.pointer (some ⟨g, 0, none⟩))) j
      have hsz := zeroed_size wz w.heap.size (w.heap.size + 1) (.string ⟨#[]⟩) (.string ⟨#[]⟩) (.slice none 0 0) (.iface 118 (.pointer (some ⟨g, 0, none⟩)))
      have hbl : Below w.heap.size w (zeroed wz w.heap.size (w.heap.size + 1) (.string ⟨#[]⟩) (.string ⟨#[]⟩) (.slice none 0 0) (.iface 118 (.pointer (some ⟨g, 0, none⟩)))) := zeroed_below (HB4.out.trans (h3.mono HB4.out.size)) _ _ _ _
      obtain ⟨wr, hwr⟩ : ∃ wr, wr = zeroed wz w.heap.size (w.heap.size + 1) (.string ⟨#[]⟩) (.string ⟨#[]⟩) (.slice none 0 0) (.iface 118 (.pointer (some ⟨g, 0, none⟩))) := ⟨_, rfl⟩
      rw [← hwr] at r0 r1 r2 r3 hfz hsz hbl ⊢
      clear hwr
      have hgz : w.heap.size ≤ g := by omega
      simp [Leaves, settle, results, Tryz.results32, go_sem, r0, r1, r2, r3]
      exact ⟨hbl, by rw [HR.out]; exact ⟨g, rfl, hgz, (hfz 0).trans h2.1, (hfz 1).trans h2.2.1, by rw [hsz]; exact h2.2.2⟩⟩
    | ok x =>
      obtain ⟨fs, k⟩ := x
      have hR := hRR.trans (req_rest HXL.out hlr (by rw [hn]; exact hro))
      rw [len_data] at hR
      rw [hro] at hrw
      have HF := Lib.hid hrw
      have HZF := Lib.hid (rows_asz hX (len_data X) hn2 hro)
      clear hRR hlr hn hro hrw hn2
      -- behind the fields
      have hS5 : ∀ w3 w4 v, LinesAt w3 w0.heap.size X (n + 2) → Boxes w3 w.heap.size (w.heap.size + 1) → Below w.heap.size w w3 → w0.heap.size < w3.heap.size → w3.cell? ⟨w.heap.size, 0, none⟩ = some (.string m) → w3.cell? ⟨w.heap.size, 1, none⟩ = some (.string t) → OwnF w4 w3.heap.size v fs → Went w3 w0.heap.size k w4 → ∀ w5, w5 = w4.setCell ⟨w.heap.size, 2, none⟩ v →
          LinesAt w5 w0.heap.size X k ∧ Boxes w5 w.heap.size (w.heap.size + 1) ∧ Below w.heap.size w w5 ∧ OwnF w5 (w.heap.size + 2) v fs ∧ w5.cell? ⟨w.heap.size, 0, none⟩ = some (.string m) ∧ w5.cell? ⟨w.heap.size, 1, none⟩ = some (.string t) ∧ w5.cell? ⟨w.heap.size, 2, none⟩ = some v := fun w3 w4 v l3 b3 bb3 z3 c0 c1 ho g w5 hw5 => by
        subst hw5
        have b4 := b3.went (by omega) (by omega) g
        obtain ⟨u2, a2⟩ := b4.a2
        refine ⟨(l3.went g).seto (by omega) _, b4.set _ _, (bb3.trans (g.below (by omega) bb3.size)).setCell (p := ⟨w.heap.size, 2, none⟩) (Nat.le_refl _) _, ownF_mono (ownsRow_setCell_below ho (a := ⟨w.heap.size, 2, none⟩) b3.p0 _) (by omega), ?_, ?_, ?_⟩
        · rw [World.cell?_setCell_other _ _ _ _ (by simp), g.cell b3.p0 (by omega)]; exact c0
        · rw [World.cell?_setCell_other _ _ _ _ (by simp), g.cell b3.p0 (by omega)]; exact c1
        · exact World.cell?_setCell_same _ _ _ a2
      have HS5 := Lib.hid hS5
      clear hS5 hz0
      by_cases hke : k < X.size
      · rw [if_pos hke] at hR
        have HR := Lib.hid hR
        have HE := Lib.hid (fun wx (h : LinesAt wx w0.heap.size X k) => end_bad X w0.heap.size k wx h hke hX)
        clear hR hke hX
        go_enter_defers Tryz.func32, Tryz.ntmps32
        go_wp2_with fail
        rw [← HW0.out]
        refine (HG.out _).mono ?_; rintro e w1 ⟨rfl, hw1⟩
        rw [hw1]
        clear hw1
        go_wp2_with fail
        rw [← HW1.out]
        refine HQ.out.mono ?_; rintro e w3 ⟨rfl, w2, g, hw3⟩
        obtain ⟨l3, b3, bb3, z3, c0, c1⟩ := HS3.out w2 g w3 hw3
        have HK := Lib.hid (fun w4 v ho g => HS5.out w3 w4 v l3 b3 bb3 z3 c0 c1 ho g)
        have HL3 := Lib.hid l3
        have HBX3 := Lib.hid b3
        clear l3 b3 bb3 g hw3 c0 c1 z3
        go_wp2_with fail
        refine (HF.out w3 HL3.out).mono ?_; rintro e w4 ⟨⟨v, rfl, ho⟩, g⟩
        obtain ⟨w5, hw5⟩ : ∃ w5, w5 = w4.setCell ⟨w.heap.size, 2, none⟩ v := ⟨_, rfl⟩
        obtain ⟨l5, b5, bb5, o5, d0, d1, d2⟩ := HK.out w4 v ho g w5 hw5
        have hbx4 := HBX3.out.went (by have := HZ0.out; omega) (by have := HZ0.out; omega) g
        obtain ⟨u2, e2⟩ := hbx4.a2
        have e3 := hbx4.f 2
        have HL5 := Lib.hid l5
        have HBX5 := Lib.hid b5
        have HB5 := Lib.hid bb5
        have HO5 := Lib.hid o5
        have HD := Lib.hid (⟨d0, d1, d2⟩ : _ ∧ _ ∧ _)
        obtain ⟨av, cv, hvv, hsv, _⟩ := ownF_src ho
        have HVV := Lib.hid hvv
        have HW5 := Lib.hid hw5
        clear l5 b5 bb5 o5 d0 d1 d2 ho g hbx4 hsv hw5
        subst hvv
        go_wp2_with fail
        rw [← HW5.out]
        clear e2 e3
        refine (HE.out w5 HL5.out).mono ?_; rintro e w6 ⟨rfl, hb⟩
        have HBX6 := Lib.hid (HBX5.out.below hb)
        have HB6 := Lib.hid (HB5.out.trans (hb.mono HB5.out.size))
        clear hb
        unfold gave
        go_wp2
        refine leaves_cons (f := 76) (args := #[.pointer (some ⟨w.heap.size, 0, none⟩), .pointer (some ⟨w.heap.size + 1, 0, none⟩)]) (by simp) (by simp [go_sem]) ?_
        refine (catchQ_hit _ _ _ _ [] _ HBX6.out).mono ?_
        rintro e u' w'' ⟨rfl, rfl, wz, g, h1, h2, h3, rfl⟩
        have hbz := HBX6.out.below h3
        obtain ⟨r0, r1, r2, r3⟩ := zeroed_at hbz (.string ⟨#[]⟩) (.string ⟨#[]⟩) (.slice none 0 0) (.iface 118 (.pointer (some ⟨g, 0, none⟩)))
        have hpz := HBX6.out.p1
        have hfz := fun j => zeroed_far (w1 := wz) (P0 := w.heap.size) (P1 := w.heap.size + 1) (g := g) (by omega) (by omega) (.string ⟨#[]⟩) (.string ⟨#[]⟩) (.slice none 0 0) (.iface 118 (.pointer (some ⟨g, 0, none⟩))) j
        have hsz := zeroed_size wz w.heap.size (w.heap.size + 1) (.string ⟨#[]⟩) (.string ⟨#[]⟩) (.slice none 0 0) (.iface 118 (.pointer (some ⟨g, 0, none⟩)))
        have hbl : Below w.heap.size w (zeroed wz w.heap.size (w.heap.size + 1) (.string ⟨#[]⟩) (.string ⟨#[]⟩) (.slice none 0 0) (.iface 118 (.pointer (some ⟨g, 0, none⟩)))) := zeroed_below (HB6.out.trans (h3.mono HB6.out.size)) _ _ _ _
        obtain ⟨wr, hwr⟩ : ∃ wr, wr = zeroed wz w.heap.size (w.heap.size + 1) (.string ⟨#[]⟩) (.string ⟨#[]⟩) (.slice none 0 0) (.iface 118 (.pointer (some ⟨g, 0, none⟩))) := ⟨_, rfl⟩
        rw [← hwr] at r0 r1 r2 r3 hfz hsz hbl ⊢
        clear hwr
        have hgz : w.heap.size ≤ g := by omega
        simp [Leaves, settle, results, Tryz.results32, go_sem, r0, r1, r2, r3]
        exact ⟨hbl, by rw [HR.out]; exact ⟨g, rfl, hgz, (hfz 0).trans h2.1, (hfz 1).trans h2.2.1, by rw [hsz]; exact h2.2.2⟩⟩
      · rw [if_neg hke] at hR
        have HE := Lib.hid (fun wx (h : LinesAt wx w0.heap.size X k) => end_ok X w0.heap.size k wx h (by omega))
        clear hke hX
        have hho := fun wx a c (hs : SrcA wx a c fs) => host_any fs a fs.length c wx rfl hs (by have := HZF.out.1; omega)
        generalize hostF fs = hb at hR hho
        have HHO := Lib.hid hho
        clear hho
        cases hb
        · rw [if_pos rfl] at hR
          have HR := Lib.hid hR
          clear hR
          go_enter_defers Tryz.func32, Tryz.ntmps32
          go_wp2_with fail
          rw [← HW0.out]
          refine (HG.out _).mono ?_; rintro e w1 ⟨rfl, hw1⟩
          rw [hw1]
          clear hw1
          go_wp2_with fail
          rw [← HW1.out]
          refine HQ.out.mono ?_; rintro e w3 ⟨rfl, w2, g, hw3⟩
          obtain ⟨l3, b3, bb3, z3, c0, c1⟩ := HS3.out w2 g w3 hw3
          have HK := Lib.hid (fun w4 v ho g => HS5.out w3 w4 v l3 b3 bb3 z3 c0 c1 ho g)
          have HL3 := Lib.hid l3
          have HBX3 := Lib.hid b3
          clear l3 b3 bb3 g hw3 c0 c1 z3
          go_wp2_with fail
          refine (HF.out w3 HL3.out).mono ?_; rintro e w4 ⟨⟨v, rfl, ho⟩, g⟩
          obtain ⟨w5, hw5⟩ : ∃ w5, w5 = w4.setCell ⟨w.heap.size, 2, none⟩ v := ⟨_, rfl⟩
          obtain ⟨l5, b5, bb5, o5, d0, d1, d2⟩ := HK.out w4 v ho g w5 hw5
          have hbx4 := HBX3.out.went (by have := HZ0.out; omega) (by have := HZ0.out; omega) g
          obtain ⟨u2, e2⟩ := hbx4.a2
          have e3 := hbx4.f 2
          have HL5 := Lib.hid l5
          have HBX5 := Lib.hid b5
          have HB5 := Lib.hid bb5
          have HO5 := Lib.hid o5
          have HD := Lib.hid (⟨d0, d1, d2⟩ : _ ∧ _ ∧ _)
          obtain ⟨av, cv, hvv, hsv, _⟩ := ownF_src ho
          have HVV := Lib.hid hvv
          have HW5 := Lib.hid hw5
          clear l5 b5 bb5 o5 d0 d1 d2 ho g hbx4 hsv hw5
          subst hvv
          go_wp2_with fail
          rw [← HW5.out]
          clear e2 e3
          refine (HE.out w5 HL5.out).mono ?_; rintro e w6 ⟨rfl, hb⟩
          obtain ⟨d0, d1, d2⟩ := HD.out
          have hp5 := HBX5.out.p0
          have f0 := (hb.cell (p := ⟨w.heap.size, 0, none⟩) hp5).trans d0
          have f1 := (hb.cell (p := ⟨w.heap.size, 1, none⟩) hp5).trans d1
          have f2 := (hb.cell (p := ⟨w.heap.size, 2, none⟩) hp5).trans d2
          have HBX6 := Lib.hid (HBX5.out.below hb)
          have HB6 := Lib.hid (HB5.out.trans (hb.mono HB5.out.size))
          have ho6 := ownF_below HO5.out (Nat.le_refl _) hb
          have HO6 := Lib.hid ho6
          obtain ⟨a6, c6, hv6, hs6, _⟩ := ownF_src ho6
          have HS6 : Hid (SrcA w6 av cv fs) := Lib.hid (by injection hv6 with i1 i2 i3; rw [i1, i3]; exact hs6)
          clear hb ho6 hv6 hs6 d0 d1 d2 hp5
          go_wp2_with fail
          refine (HHO.out _ _ _ HS6.out).mono ?_; rintro e w7 ⟨rfl, hb⟩
          have hp6 := HBX6.out.p0
          have e0 := (hb.cell (p := ⟨w.heap.size, 0, none⟩) hp6).trans f0
          have e1 := (hb.cell (p := ⟨w.heap.size, 1, none⟩) hp6).trans f1
          have e2 := (hb.cell (p := ⟨w.heap.size, 2, none⟩) hp6).trans f2
          have hbx7 := HBX6.out.below hb
          have HBX7 := Lib.hid hbx7
          have HB7 := Lib.hid (HB6.out.trans (hb.mono HB6.out.size))
          have HO7 := Lib.hid (ownF_below HO6.out (Nat.le_refl _) hb)
          clear hb hp6 f0 f1 f2
          clear hbx7
          go_wp2_with fail
          refine (give_any _ _ _).mono ?_; rintro e w8 ⟨rfl, rfl⟩
          go_wp2
          refine leaves_cons (f := 76) (args := #[.pointer (some ⟨w.heap.size, 0, none⟩), .pointer (some ⟨w.heap.size + 1, 0, none⟩)]) (by simp) (by simp [go_sem]) ?_
          refine (catchQ_hit _ _ _ _ [] _ HBX7.out).mono ?_
          rintro e u' w'' ⟨rfl, rfl, wz, g, h1, h2, h3, rfl⟩
          have hbz := HBX7.out.below h3
          obtain ⟨r0, r1, r2, r3⟩ := zeroed_at hbz (.string ⟨#[]⟩) (.string ⟨#[]⟩) (.slice none 0 0) (.iface 118 (.pointer (some ⟨g, 0, none⟩)))
          have hpz := HBX7.out.p1
          have hfz := fun j => zeroed_far (w1 := wz) (P0 := w.heap.size) (P1 := w.heap.size + 1) (g := g) (by omega) (by omega) (.string ⟨#[]⟩) (.string ⟨#[]⟩) (.slice none 0 0) (.iface 118 (.pointer (some ⟨g, 0, none⟩))) j
          have hsz := zeroed_size wz w.heap.size (w.heap.size + 1) (.string ⟨#[]⟩) (.string ⟨#[]⟩) (.slice none 0 0) (.iface 118 (.pointer (some ⟨g, 0, none⟩)))
          have hbl : Below w.heap.size w (zeroed wz w.heap.size (w.heap.size + 1) (.string ⟨#[]⟩) (.string ⟨#[]⟩) (.slice none 0 0) (.iface 118 (.pointer (some ⟨g, 0, none⟩)))) := zeroed_below (HB7.out.trans (h3.mono HB7.out.size)) _ _ _ _
          obtain ⟨wr, hwr⟩ : ∃ wr, wr = zeroed wz w.heap.size (w.heap.size + 1) (.string ⟨#[]⟩) (.string ⟨#[]⟩) (.slice none 0 0) (.iface 118 (.pointer (some ⟨g, 0, none⟩))) := ⟨_, rfl⟩
          rw [← hwr] at r0 r1 r2 r3 hfz hsz hbl ⊢
          clear hwr
          have hgz : w.heap.size ≤ g := by omega
          simp [Leaves, settle, results, Tryz.results32, go_sem, r0, r1, r2, r3]
          exact ⟨hbl, by rw [HR.out]; exact ⟨g, rfl, hgz, (hfz 0).trans h2.1, (hfz 1).trans h2.2.1, by rw [hsz]; exact h2.2.2⟩⟩
        · rw [if_neg (by simp)] at hR
          have HR := Lib.hid hR
          clear hR
          go_enter_defers Tryz.func32, Tryz.ntmps32
          go_wp2_with fail
          rw [← HW0.out]
          refine (HG.out _).mono ?_; rintro e w1 ⟨rfl, hw1⟩
          rw [hw1]
          clear hw1
          go_wp2_with fail
          rw [← HW1.out]
          refine HQ.out.mono ?_; rintro e w3 ⟨rfl, w2, g, hw3⟩
          obtain ⟨l3, b3, bb3, z3, c0, c1⟩ := HS3.out w2 g w3 hw3
          have HK := Lib.hid (fun w4 v ho g => HS5.out w3 w4 v l3 b3 bb3 z3 c0 c1 ho g)
          have HL3 := Lib.hid l3
          have HBX3 := Lib.hid b3
          clear l3 b3 bb3 g hw3 c0 c1 z3
          go_wp2_with fail
          refine (HF.out w3 HL3.out).mono ?_; rintro e w4 ⟨⟨v, rfl, ho⟩, g⟩
          obtain ⟨w5, hw5⟩ : ∃ w5, w5 = w4.setCell ⟨w.heap.size, 2, none⟩ v := ⟨_, rfl⟩
          obtain ⟨l5, b5, bb5, o5, d0, d1, d2⟩ := HK.out w4 v ho g w5 hw5
          have hbx4 := HBX3.out.went (by have := HZ0.out; omega) (by have := HZ0.out; omega) g
          obtain ⟨u2, e2⟩ := hbx4.a2
          have e3 := hbx4.f 2
          have HL5 := Lib.hid l5
          have HBX5 := Lib.hid b5
          have HB5 := Lib.hid bb5
          have HO5 := Lib.hid o5
          have HD := Lib.hid (⟨d0, d1, d2⟩ : _ ∧ _ ∧ _)
          obtain ⟨av, cv, hvv, hsv, _⟩ := ownF_src ho
          have HVV := Lib.hid hvv
          have HW5 := Lib.hid hw5
          clear l5 b5 bb5 o5 d0 d1 d2 ho g hbx4 hsv hw5
          subst hvv
          go_wp2_with fail
          rw [← HW5.out]
          clear e2 e3
          refine (HE.out w5 HL5.out).mono ?_; rintro e w6 ⟨rfl, hb⟩
          obtain ⟨d0, d1, d2⟩ := HD.out
          have hp5 := HBX5.out.p0
          have f0 := (hb.cell (p := ⟨w.heap.size, 0, none⟩) hp5).trans d0
          have f1 := (hb.cell (p := ⟨w.heap.size, 1, none⟩) hp5).trans d1
          have f2 := (hb.cell (p := ⟨w.heap.size, 2, none⟩) hp5).trans d2
          have HBX6 := Lib.hid (HBX5.out.below hb)
          have HB6 := Lib.hid (HB5.out.trans (hb.mono HB5.out.size))
          have ho6 := ownF_below HO5.out (Nat.le_refl _) hb
          have HO6 := Lib.hid ho6
          obtain ⟨a6, c6, hv6, hs6, _⟩ := ownF_src ho6
          have HS6 : Hid (SrcA w6 av cv fs) := Lib.hid (by injection hv6 with i1 i2 i3; rw [i1, i3]; exact hs6)
          clear hb ho6 hv6 hs6 d0 d1 d2 hp5
          go_wp2_with fail
          refine (HHO.out _ _ _ HS6.out).mono ?_; rintro e w7 ⟨rfl, hb⟩
          have hp6 := HBX6.out.p0
          have e0 := (hb.cell (p := ⟨w.heap.size, 0, none⟩) hp6).trans f0
          have e1 := (hb.cell (p := ⟨w.heap.size, 1, none⟩) hp6).trans f1
          have e2 := (hb.cell (p := ⟨w.heap.size, 2, none⟩) hp6).trans f2
          have hbx7 := HBX6.out.below hb
          have HBX7 := Lib.hid hbx7
          have HB7 := Lib.hid (HB6.out.trans (hb.mono HB6.out.size))
          have HO7 := Lib.hid (ownF_below HO6.out (Nat.le_refl _) hb)
          clear hb hp6 f0 f1 f2
          obtain ⟨⟨y3, g3⟩, hg0⟩ : _ ∧ _ := ⟨hbx7.b0, hbx7.g 0⟩
          have z0 := hbx7.f 0
          have z1 := hbx7.f 1
          have z2 := hbx7.f 2
          clear hbx7
          go_wp2
          refine leaves_cons (f := 76) (args := #[.pointer (some ⟨w.heap.size, 0, none⟩), .pointer (some ⟨w.heap.size + 1, 0, none⟩)]) (by simp) (by simp [go_sem]) ?_
          refine (catchQ_idle _ _ _).mono ?_
          rintro e u' w'' ⟨rfl, rfl, rfl⟩
          obtain ⟨r0, r1, r2, r3⟩ := zeroed_at HBX7.out (.string m) (.string t) (.slice av fs.length cv) .nilIface
          have hbl := zeroed_below HB7.out (.string m) (.string t) (.slice av fs.length cv) .nilIface
          have hoz := own_zeroed HO7.out (.string m) (.string t) (.slice av fs.length cv) .nilIface
          unfold zeroed at r0 r1 r2 r3 hbl hoz
          simp [Leaves, settle, results, Tryz.results32, go_sem, r0, r1, r2, r3]
          exact ⟨hbl, by rw [HR.out]; exact ⟨_, rfl, ownF_mono hoz (by omega)⟩⟩

set_option maxHeartbeats 16000000 in
set_option maxRecDepth 100000 in
theorem response_any (X : ByteArray) (w : World) (hs : X.size ≤ 9223372036854775807) :
    Calls Tryz.prog 29 #[.string X] w (ResGives (resF X.data.toList) w) := by
  obtain ⟨R, hRR⟩ : ∃ R, R = resF X.data.toList := ⟨_, rfl⟩
  rw [← hRR]
  have hmf : ∀ (fn : Fn) (first cap : Array Value) (w : World), (Instr.makeFunc fn first cap).run Tryz.prog w = .ok (.func fn first cap) w := fun _ _ _ _ => rfl
  obtain ⟨w0, hw0⟩ : ∃ w0, w0 = (w.alloc (.cells #[.int .i64 0, .string ⟨#[]⟩, .slice none 0 0] 26)).alloc (.cells #[.nilIface] 49) := ⟨_, rfl⟩
  have HW0 := Lib.hid hw0
  have HBX0 : Hid (Boxes w0 w.heap.size (w.heap.size + 1)) := Lib.hid (by rw [hw0]; exact boxes_new w _ _ _ _ _ _)
  have HB0 : Hid (Below w.heap.size w w0) := Lib.hid (by rw [hw0]; exact ((Below.refl _ _).alloc (Nat.le_refl _) _).alloc (by simp) _)
  have hz0 : w0.heap.size = w.heap.size + 1 + 1 := by rw [hw0]; simp
  have HZ0 := Lib.hid hz0
  clear hw0
  by_cases hbig : 2048 < X.size
  · have HR := Lib.hid (hRR.trans (res_big (by rw [len_data]; exact hbig)))
    have HG := Lib.hid (fun wx => begin_bad X wx hbig)
    clear hRR hbig hz0
    go_enter_defers Tryz.func29, Tryz.ntmps29
    go_wp2_with fail
    rw [← HW0.out]
    refine (HG.out _).mono ?_; rintro e w1 ⟨rfl, rfl⟩
    unfold gave
    go_wp2
    refine leaves_cons (f := 68) (args := #[.pointer (some ⟨w.heap.size, 0, none⟩), .pointer (some ⟨w.heap.size + 1, 0, none⟩)]) (by simp) (by simp [go_sem]) ?_
    refine (catchS_hit _ _ _ _ [] _ HBX0.out).mono ?_
    rintro e u' w'' ⟨rfl, rfl, wz, g, h1, h2, h3, rfl⟩
    have hbz := HBX0.out.below h3
    obtain ⟨r0, r1, r2, r3⟩ := zeroed_at hbz (.int .i64 0) (.string ⟨#[]⟩) (.slice none 0 0) (.iface 118 (.pointer (some ⟨g, 0, none⟩)))
    have hpz := HBX0.out.p1
    have hfz := fun j => zeroed_far (w1 := wz) (P0 := w.heap.size) (P1 := w.heap.size + 1) (g := g) (by omega) (by omega) (.int .i64 0) (.string ⟨#[]⟩) (.slice none 0 0) (.iface 118 (.pointer (some ⟨g, 0, none⟩))) j
    have hsz := zeroed_size wz w.heap.size (w.heap.size + 1) (.int .i64 0) (.string ⟨#[]⟩) (.slice none 0 0) (.iface 118 (.pointer (some ⟨g, 0, none⟩)))
    have hbl : Below w.heap.size w (zeroed wz w.heap.size (w.heap.size + 1) (.int .i64 0) (.string ⟨#[]⟩) (.slice none 0 0) (.iface 118 (.pointer (some ⟨g, 0, none⟩)))) := zeroed_below (HB0.out.trans (h3.mono HB0.out.size)) _ _ _ _
    obtain ⟨wr, hwr⟩ : ∃ wr, wr = zeroed wz w.heap.size (w.heap.size + 1) (.int .i64 0) (.string ⟨#[]⟩) (.slice none 0 0) (.iface 118 (.pointer (some ⟨g, 0, none⟩))) := ⟨_, rfl⟩
    rw [← hwr] at r0 r1 r2 r3 hfz hsz hbl ⊢
    clear hwr
    have hgz : w.heap.size ≤ g := by omega
    simp [Leaves, settle, results, Tryz.results29, go_sem, r0, r1, r2, r3]
    exact ⟨hbl, by rw [HR.out]; exact ⟨g, rfl, hgz, (hfz 0).trans h2.1, (hfz 1).trans h2.2.1, by rw [hsz]; exact h2.2.2⟩⟩
  have hX : X.size ≤ 2048 := by omega
  have HG : Hid (∀ wx, Calls Tryz.prog 70 #[.string X] wx fun e w' => e = .returned (.pointer (some ⟨wx.heap.size, 0, none⟩)) ∧ w' = wx.alloc (.cells #[.string X, .int .i64 0] 122)) := Lib.hid (fun wx => begin_ok X wx hX)
  obtain ⟨w1, hw1⟩ : ∃ w1, w1 = w0.alloc (.cells #[.string X, .int .i64 0] 122) := ⟨_, rfl⟩
  have HW1 := Lib.hid hw1
  have HL1 : Hid (LinesAt w1 w0.heap.size X 0) := Lib.hid (by rw [hw1]; exact lines_new X w0)
  have hb01 : Below w0.heap.size w0 w1 := by rw [hw1]; exact (Below.refl _ _).alloc (Nat.le_refl _) _
  have HBX1 := Lib.hid (HBX0.out.below hb01)
  have HB1 := Lib.hid (HB0.out.trans (hb01.mono HB0.out.size))
  have HZ1 : Hid (w0.heap.size < w1.heap.size) := Lib.hid (by rw [hw1]; simp)
  -- what the first line leaves
  have HST : Hid (∀ j w2, Went w1 w0.heap.size j w2 → Boxes w2 w.heap.size (w.heap.size + 1) ∧ Below w.heap.size w w2) := Lib.hid fun j w2 g => by
    have hm := HBX1.out
    refine ⟨⟨?_, ?_, ?_, ?_, fun j => ?_, fun j => ?_, Nat.lt_of_lt_of_le hm.p0 g.size, Nat.lt_of_lt_of_le hm.p1 g.size, hm.ne⟩, HB1.out.trans (g.below (by omega) HB1.out.size)⟩
    · rw [g.cell hm.p0 (by omega)]; exact hm.a0
    · rw [g.cell hm.p0 (by omega)]; exact hm.a1
    · rw [g.cell hm.p0 (by omega)]; exact hm.a2
    · rw [g.cell hm.p1 (by omega)]; exact hm.b0
    · rw [g.frozen hm.p0]; exact hm.f j
    · rw [g.frozen hm.p1]; exact hm.g j
  have hql := sline_any X w0.heap.size w.heap.size w1 HL1.out hX HBX1.out.p0 (by omega) (by obtain ⟨v, h⟩ := HBX1.out.a0; rw [h]; rfl) (by obtain ⟨v, h⟩ := HBX1.out.a1; rw [h]; rfl) (HBX1.out.f 0) (HBX1.out.f 1)
  have hN := fun x => @lineN_le X.data.toList _ slineF x
  rw [len_data] at hN
  obtain ⟨n, hn⟩ : ∃ n, lineN X.data.toList = n := ⟨_, rfl⟩
  have hXl : ¬ 2048 < X.data.toList.length := by rw [len_data]; omega
  have HXL := Lib.hid hXl
  clear hw1 hb01 hbig hXl
  cases hlr : lineR X.data.toList slineF with
  | error b =>
    obtain ⟨p, q⟩ := b
    have HR := Lib.hid (hRR.trans (res_bad HXL.out hlr))
    rw [hlr] at hql
    have HQ := Lib.hid hql
    clear hRR hql hlr hN hn hz0 hX
    go_enter_defers Tryz.func29, Tryz.ntmps29
    go_wp2_with fail
    rw [← HW0.out]
    refine (HG.out _).mono ?_; rintro e w1 ⟨rfl, hw1⟩
    rw [hw1]
    clear hw1
    go_wp2_with fail
    rw [← HW1.out]
    refine HQ.out.mono ?_; rintro e w2 ⟨rfl, j, g⟩
    have HBX2 := Lib.hid (HST.out j w2 g).1
    have HB2 := Lib.hid (HST.out j w2 g).2
    clear g
    unfold gave
    go_wp2
    refine leaves_cons (f := 68) (args := #[.pointer (some ⟨w.heap.size, 0, none⟩), .pointer (some ⟨w.heap.size + 1, 0, none⟩)]) (by simp) (by simp [go_sem]) ?_
    refine (catchS_hit _ _ _ _ [] _ HBX2.out).mono ?_
    rintro e u' w'' ⟨rfl, rfl, wz, g, h1, h2, h3, rfl⟩
    have hbz := HBX2.out.below h3
    obtain ⟨r0, r1, r2, r3⟩ := zeroed_at hbz (.int .i64 0) (.string ⟨#[]⟩) (.slice none 0 0) (.iface 118 (.pointer (some ⟨g, 0, none⟩)))
    have hpz := HBX2.out.p1
    have hfz := fun j => zeroed_far (w1 := wz) (P0 := w.heap.size) (P1 := w.heap.size + 1) (g := g) (by omega) (by omega) (.int .i64 0) (.string ⟨#[]⟩) (.slice none 0 0) (.iface 118 (.pointer (some ⟨g, 0, none⟩))) j
    have hsz := zeroed_size wz w.heap.size (w.heap.size + 1) (.int .i64 0) (.string ⟨#[]⟩) (.slice none 0 0) (.iface 118 (.pointer (some ⟨g, 0, none⟩)))
    have hbl : Below w.heap.size w (zeroed wz w.heap.size (w.heap.size + 1) (.int .i64 0) (.string ⟨#[]⟩) (.slice none 0 0) (.iface 118 (.pointer (some ⟨g, 0, none⟩)))) := zeroed_below (HB2.out.trans (h3.mono HB2.out.size)) _ _ _ _
    obtain ⟨wr, hwr⟩ : ∃ wr, wr = zeroed wz w.heap.size (w.heap.size + 1) (.int .i64 0) (.string ⟨#[]⟩) (.slice none 0 0) (.iface 118 (.pointer (some ⟨g, 0, none⟩))) := ⟨_, rfl⟩
    rw [← hwr] at r0 r1 r2 r3 hfz hsz hbl ⊢
    clear hwr
    have hgz : w.heap.size ≤ g := by omega
    simp [Leaves, settle, results, Tryz.results29, go_sem, r0, r1, r2, r3]
    exact ⟨hbl, by rw [HR.out]; exact ⟨g, rfl, hgz, (hfz 0).trans h2.1, (hfz 1).trans h2.2.1, by rw [hsz]; exact h2.2.2⟩⟩
  | ok x =>
    obtain ⟨m, t⟩ := x
    have hn2 := hN _ hlr
    rw [hlr] at hql
    rw [hn] at hql hn2
    have hrw := fun wx (h : LinesAt wx w0.heap.size X (n + 2)) => fields_any X w0.heap.size (n + 2) wx h hX hn2
    have HQ := Lib.hid hql
    have hS3 : ∀ w2, Went w1 w0.heap.size (n + 2) w2 → ∀ w3, w3 = (w2.setCell ⟨w.heap.size, 0, none⟩ (.int .i64 m)).setCell ⟨w.heap.size, 1, none⟩ (.string t) → LinesAt w3 w0.heap.size X (n + 2) ∧ Boxes w3 w.heap.size (w.heap.size + 1) ∧ Below w.heap.size w w3 ∧ w0.heap.size < w3.heap.size ∧ w3.cell? ⟨w.heap.size, 0, none⟩ = some (.int .i64 m) ∧ w3.cell? ⟨w.heap.size, 1, none⟩ = some (.string t) := fun w2 g w3 hw3 => by
      obtain ⟨b2, bb2⟩ := HST.out _ w2 g
      subst hw3
      obtain ⟨u0, a0⟩ := b2.a0
      obtain ⟨u1, a1⟩ := b2.a1
      refine ⟨((HL1.out.went g).seto (by omega) _).seto (by omega) _, (b2.set _ _).set _ _, (bb2.setCell (p := ⟨w.heap.size, 0, none⟩) (Nat.le_refl _) _).setCell (p := ⟨w.heap.size, 1, none⟩) (Nat.le_refl _) _, by rw [set_size, set_size]; exact Nat.lt_of_lt_of_le HZ1.out g.size, ?_, ?_⟩
      · rw [World.cell?_setCell_other _ _ _ _ (by simp)]; exact World.cell?_setCell_same _ _ _ a0
      · exact World.cell?_setCell_same _ _ _ (by rw [World.cell?_setCell_other _ _ _ _ (by simp)]; exact a1)
    have HS3 := Lib.hid hS3
    clear hql hS3 hN
    cases hro : rowsF X.data.toList 32 (n + 2) [] with
    | error b =>
      obtain ⟨p, q⟩ := b
      have HR := Lib.hid (hRR.trans (res_rows HXL.out hlr (by rw [hn]; exact hro)))
      rw [hro] at hrw
      have HF := Lib.hid hrw
      clear hRR hlr hn hz0 hX hro hrw hn2
      go_enter_defers Tryz.func29, Tryz.ntmps29
      go_wp2_with fail
      rw [← HW0.out]
      refine (HG.out _).mono ?_; rintro e w1 ⟨rfl, hw1⟩
      rw [hw1]
      clear hw1
      go_wp2_with fail
      rw [← HW1.out]
      refine HQ.out.mono ?_; rintro e w3 ⟨rfl, w2, g, hw3⟩
      obtain ⟨l3, b3, bb3, z3, c0, c1⟩ := HS3.out w2 g w3 hw3
      have HL3 := Lib.hid l3
      have HBX3 := Lib.hid b3
      have HB3 := Lib.hid bb3
      have HZ3 := Lib.hid z3
      clear l3 b3 bb3 g hw3 c0 c1 z3
      go_wp2_with fail
      refine (HF.out w3 HL3.out).mono ?_; rintro e w4 ⟨rfl, j, g⟩
      have HBX4 := Lib.hid (HBX3.out.went (by have := HZ0.out; omega) (by have := HZ0.out; omega) g)
      have HB4 := Lib.hid (HB3.out.trans (g.below (by have := HZ0.out; omega) HB3.out.size))
      clear g
      unfold gave
      go_wp2
      refine leaves_cons (f := 68) (args := #[.pointer (some ⟨w.heap.size, 0, none⟩), .pointer (some ⟨w.heap.size + 1, 0, none⟩)]) (by simp) (by simp [go_sem]) ?_
      refine (catchS_hit _ _ _ _ [] _ HBX4.out).mono ?_
      rintro e u' w'' ⟨rfl, rfl, wz, g, h1, h2, h3, rfl⟩
      have hbz := HBX4.out.below h3
      obtain ⟨r0, r1, r2, r3⟩ := zeroed_at hbz (.int .i64 0) (.string ⟨#[]⟩) (.slice none 0 0) (.iface 118 (.pointer (some ⟨g, 0, none⟩)))
      have hpz := HBX4.out.p1
      have hfz := fun j => zeroed_far (w1 := wz) (P0 := w.heap.size) (P1 := w.heap.size + 1) (g := g) (by omega) (by omega) (.int .i64 0) (.string ⟨#[]⟩) (.slice none 0 0) (.iface 118 (.pointer (some ⟨g, 0, none⟩))) j
      have hsz := zeroed_size wz w.heap.size (w.heap.size + 1) (.int .i64 0) (.string ⟨#[]⟩) (.slice none 0 0) (.iface 118 (.pointer (some ⟨g, 0, none⟩)))
      have hbl : Below w.heap.size w (zeroed wz w.heap.size (w.heap.size + 1) (.int .i64 0) (.string ⟨#[]⟩) (.slice none 0 0) (.iface 118 (.pointer (some ⟨g, 0, none⟩)))) := zeroed_below (HB4.out.trans (h3.mono HB4.out.size)) _ _ _ _
      obtain ⟨wr, hwr⟩ : ∃ wr, wr = zeroed wz w.heap.size (w.heap.size + 1) (.int .i64 0) (.string ⟨#[]⟩) (.slice none 0 0) (.iface 118 (.pointer (some ⟨g, 0, none⟩))) := ⟨_, rfl⟩
      rw [← hwr] at r0 r1 r2 r3 hfz hsz hbl ⊢
      clear hwr
      have hgz : w.heap.size ≤ g := by omega
      simp [Leaves, settle, results, Tryz.results29, go_sem, r0, r1, r2, r3]
      exact ⟨hbl, by rw [HR.out]; exact ⟨g, rfl, hgz, (hfz 0).trans h2.1, (hfz 1).trans h2.2.1, by rw [hsz]; exact h2.2.2⟩⟩
    | ok x =>
      obtain ⟨fs, k⟩ := x
      have hR := hRR.trans (res_rest HXL.out hlr (by rw [hn]; exact hro))
      rw [len_data] at hR
      rw [hro] at hrw
      have HF := Lib.hid hrw
      have HZF := Lib.hid (rows_asz hX (len_data X) hn2 hro)
      clear hRR hlr hn hro hrw hn2
      -- behind the fields
      have hS5 : ∀ w3 w4 v, LinesAt w3 w0.heap.size X (n + 2) → Boxes w3 w.heap.size (w.heap.size + 1) → Below w.heap.size w w3 → w0.heap.size < w3.heap.size → w3.cell? ⟨w.heap.size, 0, none⟩ = some (.int .i64 m) → w3.cell? ⟨w.heap.size, 1, none⟩ = some (.string t) → OwnF w4 w3.heap.size v fs → Went w3 w0.heap.size k w4 → ∀ w5, w5 = w4.setCell ⟨w.heap.size, 2, none⟩ v →
          LinesAt w5 w0.heap.size X k ∧ Boxes w5 w.heap.size (w.heap.size + 1) ∧ Below w.heap.size w w5 ∧ OwnF w5 (w.heap.size + 2) v fs ∧ w5.cell? ⟨w.heap.size, 0, none⟩ = some (.int .i64 m) ∧ w5.cell? ⟨w.heap.size, 1, none⟩ = some (.string t) ∧ w5.cell? ⟨w.heap.size, 2, none⟩ = some v := fun w3 w4 v l3 b3 bb3 z3 c0 c1 ho g w5 hw5 => by
        subst hw5
        have b4 := b3.went (by omega) (by omega) g
        obtain ⟨u2, a2⟩ := b4.a2
        refine ⟨(l3.went g).seto (by omega) _, b4.set _ _, (bb3.trans (g.below (by omega) bb3.size)).setCell (p := ⟨w.heap.size, 2, none⟩) (Nat.le_refl _) _, ownF_mono (ownsRow_setCell_below ho (a := ⟨w.heap.size, 2, none⟩) b3.p0 _) (by omega), ?_, ?_, ?_⟩
        · rw [World.cell?_setCell_other _ _ _ _ (by simp), g.cell b3.p0 (by omega)]; exact c0
        · rw [World.cell?_setCell_other _ _ _ _ (by simp), g.cell b3.p0 (by omega)]; exact c1
        · exact World.cell?_setCell_same _ _ _ a2
      have HS5 := Lib.hid hS5
      clear hS5 hz0
      by_cases hke : k < X.size
      · rw [if_pos hke] at hR
        have HR := Lib.hid hR
        have HE := Lib.hid (fun wx (h : LinesAt wx w0.heap.size X k) => end_bad X w0.heap.size k wx h hke hX)
        clear hR hke hX
        go_enter_defers Tryz.func29, Tryz.ntmps29
        go_wp2_with fail
        rw [← HW0.out]
        refine (HG.out _).mono ?_; rintro e w1 ⟨rfl, hw1⟩
        rw [hw1]
        clear hw1
        go_wp2_with fail
        rw [← HW1.out]
        refine HQ.out.mono ?_; rintro e w3 ⟨rfl, w2, g, hw3⟩
        obtain ⟨l3, b3, bb3, z3, c0, c1⟩ := HS3.out w2 g w3 hw3
        have HK := Lib.hid (fun w4 v ho g => HS5.out w3 w4 v l3 b3 bb3 z3 c0 c1 ho g)
        have HL3 := Lib.hid l3
        have HBX3 := Lib.hid b3
        clear l3 b3 bb3 g hw3 c0 c1 z3
        go_wp2_with fail
        refine (HF.out w3 HL3.out).mono ?_; rintro e w4 ⟨⟨v, rfl, ho⟩, g⟩
        obtain ⟨w5, hw5⟩ : ∃ w5, w5 = w4.setCell ⟨w.heap.size, 2, none⟩ v := ⟨_, rfl⟩
        obtain ⟨l5, b5, bb5, o5, d0, d1, d2⟩ := HK.out w4 v ho g w5 hw5
        have hbx4 := HBX3.out.went (by have := HZ0.out; omega) (by have := HZ0.out; omega) g
        obtain ⟨u2, e2⟩ := hbx4.a2
        have e3 := hbx4.f 2
        have HL5 := Lib.hid l5
        have HBX5 := Lib.hid b5
        have HB5 := Lib.hid bb5
        have HO5 := Lib.hid o5
        have HD := Lib.hid (⟨d0, d1, d2⟩ : _ ∧ _ ∧ _)
        obtain ⟨av, cv, hvv, hsv, _⟩ := ownF_src ho
        have HVV := Lib.hid hvv
        have HW5 := Lib.hid hw5
        clear l5 b5 bb5 o5 d0 d1 d2 ho g hbx4 hsv hw5
        subst hvv
        go_wp2_with fail
        rw [← HW5.out]
        clear e2 e3
        refine (HE.out w5 HL5.out).mono ?_; rintro e w6 ⟨rfl, hb⟩
        have HBX6 := Lib.hid (HBX5.out.below hb)
        have HB6 := Lib.hid (HB5.out.trans (hb.mono HB5.out.size))
        clear hb
        unfold gave
        go_wp2
        refine leaves_cons (f := 68) (args := #[.pointer (some ⟨w.heap.size, 0, none⟩), .pointer (some ⟨w.heap.size + 1, 0, none⟩)]) (by simp) (by simp [go_sem]) ?_
        refine (catchS_hit _ _ _ _ [] _ HBX6.out).mono ?_
        rintro e u' w'' ⟨rfl, rfl, wz, g, h1, h2, h3, rfl⟩
        have hbz := HBX6.out.below h3
        obtain ⟨r0, r1, r2, r3⟩ := zeroed_at hbz (.int .i64 0) (.string ⟨#[]⟩) (.slice none 0 0) (.iface 118 (.pointer (some ⟨g, 0, none⟩)))
        have hpz := HBX6.out.p1
        have hfz := fun j => zeroed_far (w1 := wz) (P0 := w.heap.size) (P1 := w.heap.size + 1) (g := g) (by omega) (by omega) (.int .i64 0) (.string ⟨#[]⟩) (.slice none 0 0) (.iface 118 (.pointer (some ⟨g, 0, none⟩))) j
        have hsz := zeroed_size wz w.heap.size (w.heap.size + 1) (.int .i64 0) (.string ⟨#[]⟩) (.slice none 0 0) (.iface 118 (.pointer (some ⟨g, 0, none⟩)))
        have hbl : Below w.heap.size w (zeroed wz w.heap.size (w.heap.size + 1) (.int .i64 0) (.string ⟨#[]⟩) (.slice none 0 0) (.iface 118 (.pointer (some ⟨g, 0, none⟩)))) := zeroed_below (HB6.out.trans (h3.mono HB6.out.size)) _ _ _ _
        obtain ⟨wr, hwr⟩ : ∃ wr, wr = zeroed wz w.heap.size (w.heap.size + 1) (.int .i64 0) (.string ⟨#[]⟩) (.slice none 0 0) (.iface 118 (.pointer (some ⟨g, 0, none⟩))) := ⟨_, rfl⟩
        rw [← hwr] at r0 r1 r2 r3 hfz hsz hbl ⊢
        clear hwr
        have hgz : w.heap.size ≤ g := by omega
        simp [Leaves, settle, results, Tryz.results29, go_sem, r0, r1, r2, r3]
        exact ⟨hbl, by rw [HR.out]; exact ⟨g, rfl, hgz, (hfz 0).trans h2.1, (hfz 1).trans h2.2.1, by rw [hsz]; exact h2.2.2⟩⟩
      · rw [if_neg hke] at hR
        have HE := Lib.hid (fun wx (h : LinesAt wx w0.heap.size X k) => end_ok X w0.heap.size k wx h (by omega))
        clear hke hX
        have HR := Lib.hid hR
        clear hR
        go_enter_defers Tryz.func29, Tryz.ntmps29
        go_wp2_with fail
        rw [← HW0.out]
        refine (HG.out _).mono ?_; rintro e w1 ⟨rfl, hw1⟩
        rw [hw1]
        clear hw1
        go_wp2_with fail
        rw [← HW1.out]
        refine HQ.out.mono ?_; rintro e w3 ⟨rfl, w2, g, hw3⟩
        obtain ⟨l3, b3, bb3, z3, c0, c1⟩ := HS3.out w2 g w3 hw3
        have HK := Lib.hid (fun w4 v ho g => HS5.out w3 w4 v l3 b3 bb3 z3 c0 c1 ho g)
        have HL3 := Lib.hid l3
        have HBX3 := Lib.hid b3
        clear l3 b3 bb3 g hw3 c0 c1 z3
        go_wp2_with fail
        refine (HF.out w3 HL3.out).mono ?_; rintro e w4 ⟨⟨v, rfl, ho⟩, g⟩
        obtain ⟨w5, hw5⟩ : ∃ w5, w5 = w4.setCell ⟨w.heap.size, 2, none⟩ v := ⟨_, rfl⟩
        obtain ⟨l5, b5, bb5, o5, d0, d1, d2⟩ := HK.out w4 v ho g w5 hw5
        have hbx4 := HBX3.out.went (by have := HZ0.out; omega) (by have := HZ0.out; omega) g
        obtain ⟨u2, e2⟩ := hbx4.a2
        have e3 := hbx4.f 2
        have HL5 := Lib.hid l5
        have HBX5 := Lib.hid b5
        have HB5 := Lib.hid bb5
        have HO5 := Lib.hid o5
        have HD := Lib.hid (⟨d0, d1, d2⟩ : _ ∧ _ ∧ _)
        obtain ⟨av, cv, hvv, hsv, _⟩ := ownF_src ho
        have HVV := Lib.hid hvv
        have HW5 := Lib.hid hw5
        clear l5 b5 bb5 o5 d0 d1 d2 ho g hbx4 hsv hw5
        subst hvv
        go_wp2_with fail
        rw [← HW5.out]
        clear e2 e3
        refine (HE.out w5 HL5.out).mono ?_; rintro e w6 ⟨rfl, hb⟩
        obtain ⟨d0, d1, d2⟩ := HD.out
        have hp5 := HBX5.out.p0
        have f0 := (hb.cell (p := ⟨w.heap.size, 0, none⟩) hp5).trans d0
        have f1 := (hb.cell (p := ⟨w.heap.size, 1, none⟩) hp5).trans d1
        have f2 := (hb.cell (p := ⟨w.heap.size, 2, none⟩) hp5).trans d2
        have HBX6 := Lib.hid (HBX5.out.below hb)
        have HB6 := Lib.hid (HB5.out.trans (hb.mono HB5.out.size))
        have ho6 := ownF_below HO5.out (Nat.le_refl _) hb
        have HO6 := Lib.hid ho6
        obtain ⟨a6, c6, hv6, hs6, _⟩ := ownF_src ho6
        have HS6 : Hid (SrcA w6 av cv fs) := Lib.hid (by injection hv6 with i1 i2 i3; rw [i1, i3]; exact hs6)
        clear hb ho6 hv6 hs6 d0 d1 d2 hp5
        obtain ⟨w7, hw7⟩ : ∃ w7, w7 = w6 := ⟨_, rfl⟩
        rw [← hw7] at f0 f1 f2 HBX6 HB6 HO6 ⊢
        clear hw7 HS6
        have e0 := f0
        have e1 := f1
        have e2 := f2
        have HBX7 := HBX6
        have HB7 := HB6
        have HO7 := HO6
        have hbx7 := HBX7.out
        clear f0 f1 f2
        obtain ⟨⟨y3, g3⟩, hg0⟩ : _ ∧ _ := ⟨hbx7.b0, hbx7.g 0⟩
        have z0 := hbx7.f 0
        have z1 := hbx7.f 1
        have z2 := hbx7.f 2
        clear hbx7
        go_wp2
        refine leaves_cons (f := 68) (args := #[.pointer (some ⟨w.heap.size, 0, none⟩), .pointer (some ⟨w.heap.size + 1, 0, none⟩)]) (by simp) (by simp [go_sem]) ?_
        refine (catchS_idle _ _ _).mono ?_
        rintro e u' w'' ⟨rfl, rfl, rfl⟩
        obtain ⟨r0, r1, r2, r3⟩ := zeroed_at HBX7.out (.int .i64 m) (.string t) (.slice av fs.length cv) .nilIface
        have hbl := zeroed_below HB7.out (.int .i64 m) (.string t) (.slice av fs.length cv) .nilIface
        have hoz := own_zeroed HO7.out (.int .i64 m) (.string t) (.slice av fs.length cv) .nilIface
        unfold zeroed at r0 r1 r2 r3 hbl hoz
        simp [Leaves, settle, results, Tryz.results29, go_sem, r0, r1, r2, r3]
        exact ⟨hbl, by rw [HR.out]; exact ⟨_, rfl, ownF_mono hoz (by omega)⟩⟩

end Go.Proofs.YthkgaaibhjkngaaGreatDoor
