/- Numbers that agree: plain lists; digits. -/
import Derived.Test.YtkadingpmebjbaaDoorQP
import Derived.Test.YtkadingpmebjbaaDoorDS
set_option linter.unusedVariables false
namespace Go.Proofs.YtkadingpmebjbaaDoor
open Go.RowKit

theorem dg_digit (d : Nat) (h : d < 10) : Num.dg ((UInt8.ofNat (48 + d)).toNat : Int) = d := by
  rw [UInt8.toNat_ofNat', Nat.mod_eq_of_lt (by omega)]
  unfold Num.dg
  rw [if_pos (by omega)]; omega
theorem dec_good (n : Nat) : Num.good 10 (Lib.decDigits n) ∧ Num.val 10 (Lib.decDigits n) = n ∧ Lib.decDigits n ≠ [] ∧ ∀ c ∈ Lib.decDigits n, 48 ≤ c.toNat ∧ c.toNat ≤ 57 := by
  induction n using Nat.strongRecOn with
  | ind n ih =>
    by_cases h : n < 10
    · rw [Lib.decDigits_one h]
      refine ⟨fun c hc => ?_, ?_, by simp, fun c hc => ?_⟩
      · rw [List.mem_singleton] at hc; subst hc; rw [dg_digit n h]; omega
      · simp only [Num.val, List.foldl_cons, List.foldl_nil]; rw [dg_digit n h]; omega
      · rw [List.mem_singleton] at hc; subst hc; rw [UInt8.toNat_ofNat', Nat.mod_eq_of_lt (by omega)]; omega
    · obtain ⟨h1, h2, h3, h4⟩ := ih (n / 10) (by omega)
      rw [Lib.decDigits, dif_neg h]
      refine ⟨(Num.good_snoc ..).2 ⟨h1, by rw [dg_digit _ (by omega)]; omega, by rw [dg_digit _ (by omega)]; omega⟩, ?_, by simp, fun c hc => ?_⟩
      · rw [Num.val_snoc, h2, dg_digit _ (by omega)]; omega
      · rcases List.mem_append.1 hc with hc | hc
        · exact h4 c hc
        · rw [List.mem_singleton] at hc; subst hc; rw [UInt8.toNat_ofNat', Nat.mod_eq_of_lt (by omega)]; omega
def dstr (z : Int) : List UInt8 := Lib.decDigits z.toNat
theorem dstr_ne (z : Int) : dstr z ≠ [] := (dec_good _).2.2.1
theorem dstr_meant (z : Int) (h0 : 0 ≤ z) (h1 : z ≤ 9223372036854775807) : Num.meant 10 (dstr z) = (z, 0) := by
  obtain ⟨g, v, ne, _⟩ := dec_good z.toNat
  have := Num.meant_ok 10 (Lib.decDigits z.toNat) ne g (by rw [v]; unfold Num.most; omega)
  unfold dstr
  rw [this, v, Int.toNat_of_nonneg h0]
theorem dstr_meant0 (z : Int) (h0 : 0 ≤ z) (h1 : z ≤ 9223372036854775807) : Num.meant 10 (48 :: dstr z) = (z, 0) := by
  obtain ⟨g, v, ne, _⟩ := dec_good z.toNat
  have hv : Num.val 10 (48 :: Lib.decDigits z.toNat) = z.toNat := by
    rw [← v]
    show List.foldl _ _ _ = List.foldl _ _ _
    rw [List.foldl_cons]
    congr 1
  have hg : Num.good 10 (48 :: Lib.decDigits z.toNat) := fun c hc => by
    rcases List.mem_cons.1 hc with rfl | hc
    · decide
    · exact g c hc
  have := Num.meant_ok 10 (48 :: Lib.decDigits z.toNat) (by simp) hg (by rw [hv]; unfold Num.most; omega)
  unfold dstr
  rw [this, hv, Int.toNat_of_nonneg h0]
theorem digs_atoms : ∀ (x : List UInt8), (∀ c ∈ x, 32 ≤ c.toNat ∧ c.toNat ≤ 57 ∧ c.toNat ≠ 44 ∧ c.toNat ≠ 34) → Atoms x
  | [], _ => .nil
  | c :: r, h => .byte c r (h c (by simp)).2.2.1 (h c (by simp)).2.2.2 (digs_atoms r fun d hd => h d (by simp [hd]))
theorem blank_no {c : UInt8} (h : 48 ≤ c.toNat) : blanks.contains c = false := by
  rw [← blanks_is]; simp; omega
theorem tl_no_all {x : List UInt8} (h : ∀ c ∈ x, 48 ≤ c.toNat) (y : List UInt8) (hx : x ≠ []) : tl (x ++ y) = x ++ y := by
  cases x with
  | nil => exact absurd rfl hx
  | cons c r => rw [List.cons_append, tl_no c _ (blank_no (h c (by simp)))]
theorem tr_no_all {x : List UInt8} (h : ∀ c ∈ x, 48 ≤ c.toNat) : tr x = x := by
  by_cases hx : x = []
  · subst hx; rfl
  · rw [tr_is]
    have := tl_no_all (x := x.reverse) (fun c hc => h c (by simpa using hc)) [] (by simpa using hx)
    rw [List.append_nil] at this
    rw [this, List.reverse_reverse]
theorem trim_digs {x : List UInt8} (h : ∀ c ∈ x, 48 ≤ c.toNat) : trim x = x := by
  rw [trim_is]
  by_cases hx : x = []
  · subst hx; rfl
  · have := tl_no_all h [] hx
    rw [List.append_nil] at this
    rw [this, tr_no_all h]
theorem trim_pre {x : List UInt8} (h : ∀ c ∈ x, 48 ≤ c.toNat) : trim (32 :: x) = x := by
  rw [trim_is, tl_yes 32 x (by decide), ← trim_is, trim_digs h]
theorem trim_post (x : List UInt8) : trim (x ++ [32]) = trim x := by
  show Lib.trimLeftS (Lib.trimRightS (x ++ [32]) blanks) blanks = Lib.trimLeftS (Lib.trimRightS x blanks) blanks
  congr 1
  unfold Lib.trimRightS
  rw [List.reverse_append, List.reverse_cons, List.reverse_nil, List.nil_append, List.cons_append, List.nil_append, List.dropWhile_cons, if_pos (by decide)]
def gap : List UInt8 := [32, 44, 44, 32, 48]
def restN (r : List Int) : List UInt8 := r.flatMap fun z => gap ++ dstr z
def txtN : List Int → List UInt8
  | [] => []
  | z :: r => dstr z ++ restN r
theorem dstr_digs (z : Int) : ∀ c ∈ dstr z, 48 ≤ c.toNat ∧ c.toNat ≤ 57 := (dec_good _).2.2.2
theorem lst_rest : ∀ (r : List Int) (b x : List UInt8), Atoms b → trim b = x → x ≠ [] → b ≠ [] → lst (b ++ restN r) = some (x :: r.map fun z => 48 :: dstr z)
  | [], b, x, hb, ht, hx, hne => by
    show lst (b ++ []) = _
    rw [List.append_nil, lst_last b hb hne, ht, if_neg hx]; rfl
  | z :: r, b, x, hb, ht, hx, hne => by
    have e : b ++ restN (z :: r) = (b ++ [32]) ++ 44 :: ([] ++ 44 :: ((32 :: 48 :: dstr z) ++ restN r)) := by
      unfold restN gap; simp
    have ha : Atoms (b ++ [32]) := Atoms.append hb (.byte 32 [] (by decide) (by decide) .nil)
    have hd : ∀ c ∈ (48 : UInt8) :: dstr z, 48 ≤ c.toNat := fun c hc => by
      rcases List.mem_cons.1 hc with rfl | hc
      · decide
      · exact (dstr_digs z c hc).1
    have ha2 : Atoms (32 :: 48 :: dstr z) := digs_atoms _ fun c hc => by
      rcases List.mem_cons.1 hc with rfl | hc
      · decide
      · rcases List.mem_cons.1 hc with rfl | hc
        · decide
        · have := dstr_digs z c hc; omega
    have ih := lst_rest r (32 :: 48 :: dstr z) (48 :: dstr z) ha2 (trim_pre hd) (by simp) (by simp)
    rw [e, lst_comma _ _ ha, lst_comma [] _ .nil, ih, trim_post, ht]
    simp only [Option.map_some, if_neg hx, show trim [] = [] from rfl, if_true, List.map_cons]
theorem lst_txtN (z : Int) (r : List Int) : lst (txtN (z :: r)) = some (dstr z :: r.map fun z => 48 :: dstr z) :=
  lst_rest r (dstr z) (dstr z) (digs_atoms _ fun c hc => by have := dstr_digs z c hc; omega) (trim_digs fun c hc => (dstr_digs z c hc).1) (dstr_ne z) (dstr_ne z)
theorem lst_dstr (z : Int) : lst (dstr z) = some [dstr z] := by
  have := lst_txtN z []
  simpa [txtN, restN] using this
theorem txtN_snoc (l : List Int) (z : Int) : txtN (l ++ [z]) = if l = [] then dstr z else txtN l ++ gap ++ dstr z := by
  cases l with
  | nil => simp [txtN, restN]
  | cons y r => simp [txtN, restN]
theorem decDigits_len (n : Nat) (h : n < 10 ^ 19) : (Lib.decDigits n).length ≤ 19 := by
  have key : ∀ k n, n < 10 ^ (k + 1) → (Lib.decDigits n).length ≤ k + 1 := by
    intro k
    induction k with
    | zero => intro n h; rw [Lib.decDigits_one (by simpa using h)]; simp
    | succ k ih =>
      intro n h
      by_cases h10 : n < 10
      · rw [Lib.decDigits_one h10]; simp
      · rw [Lib.decDigits, dif_neg h10, List.length_append]
        have := ih (n / 10) (by rw [Nat.pow_succ] at h; omega)
        simp only [List.length_cons, List.length_nil]; omega
  exact key 18 n h
theorem dstr_len (z : Int) (h1 : z ≤ 9223372036854775807) : (dstr z).length ≤ 19 := decDigits_len _ (by omega)
theorem txtN_len (l : List Int) (h : ∀ z ∈ l, z ≤ 9223372036854775807) : (txtN l).length ≤ 24 * l.length := by
  have hr : ∀ r : List Int, (∀ z ∈ r, z ≤ 9223372036854775807) → (restN r).length ≤ 24 * r.length := by
    intro r
    induction r with
    | nil => intro _; simp [restN]
    | cons z r ih =>
      intro h
      have h1 := dstr_len z (h z (by simp))
      have h2 := ih (fun y hy => h y (by simp [hy]))
      have e : restN (z :: r) = gap ++ dstr z ++ restN r := by simp [restN]
      rw [e, List.length_append, List.length_append]
      show 5 + _ + _ ≤ _
      simp only [List.length_cons]; omega
  cases l with
  | nil => simp [txtN]
  | cons z r =>
    have h1 := dstr_len z (h z (by simp))
    have h2 := hr r (fun y hy => h y (by simp [hy]))
    show (dstr z ++ restN r).length ≤ _
    rw [List.length_append, List.length_cons]; omega

/-- lengths that are read -/
theorem lenF_eq : ∀ (ms : List (List UInt8)) (L : List Int) (cur : Int), 0 ≤ cur → ms.map (Num.meant 10) = L.map (fun z => (z, 0)) → lenF ms cur = if L.all (· == cur) = true then some cur else none
  | [], L, cur, h0, h => by
    have : L = [] := by cases L; rfl; simp at h
    subst this; simp [lenF]
  | s :: r, [], cur, h0, h => by simp at h
  | s :: r, z :: L, cur, h0, h => by
    simp only [List.map_cons, List.cons.injEq] at h
    obtain ⟨h1, h2⟩ := h
    simp only [lenF, h1, List.all_cons]
    by_cases e : z = cur
    · subst e
      rw [if_neg (by simp), lenF_eq r L z h0 h2]
      simp
    · rw [if_pos (.inr ⟨h0, e⟩)]
      simp [e]
theorem lenM_eq (s : List UInt8) (ms : List (List UInt8)) (z : Int) (L : List Int) (h0 : 0 ≤ z) (h : (s :: ms).map (Num.meant 10) = (z :: L).map (fun z => (z, 0))) : lenM (s :: ms) = if L.all (· == z) = true then some z else none := by
  simp only [List.map_cons, List.cons.injEq] at h
  unfold lenM
  rw [if_neg (by simp)]
  simp only [lenF, h.1]
  rw [if_neg (by simp)]
  exact lenF_eq ms L z h0 h.2
def aloneF (L : List Int) : AL := L.map fun z => (cl1, mk (dstr z))
theorem same_cl1c : sameB cl1 kCL = true := by kernel_rfl
theorem same_cl1t : sameB cl1 kTE = false := by kernel_rfl
theorem same_cc : sameB kCL kCL = true := by kernel_rfl
theorem same_ct : sameB kCL kTE = false := by kernel_rfl
theorem alone_te (L : List Int) : allF (aloneF L) kTE = [] := by
  unfold allF aloneF
  rw [List.map_eq_nil_iff, List.filter_eq_nil_iff]
  intro p hp
  obtain ⟨z, _, rfl⟩ := List.mem_map.1 hp
  simp [same_cl1t]
theorem alone_cl (L : List Int) : allF (aloneF L) kCL = L.map fun z => mk (dstr z) := by
  unfold allF aloneF
  rw [List.filter_eq_self.2 (fun p hp => by obtain ⟨z, _, rfl⟩ := List.mem_map.1 hp; exact same_cl1c), List.map_map]; rfl
theorem alone_mem : ∀ L : List Int, memF (L.map fun z => mk (dstr z)) = some (L.map dstr)
  | [] => rfl
  | z :: L => by
    simp only [List.map_cons, memF, mk_list, lst_dstr, alone_mem L, Option.map_some]; rfl
theorem alone_len (z : Int) (L : List Int) (h : ∀ y ∈ z :: L, 0 ≤ y ∧ y ≤ 9223372036854775807) : flen (aloneF (z :: L)) = if L.all (· == z) = true then some z else none := by
  unfold flen
  rw [alone_cl, alone_mem, Option.bind_some]
  refine lenM_eq (dstr z) (L.map dstr) z L (h z (by simp)).1 ?_
  rw [show dstr z :: L.map dstr = (z :: L).map dstr from rfl, List.map_map]
  exact List.map_congr_left fun y hy => dstr_meant y (h y hy).1 (h y hy).2
theorem text_te (T : ByteArray) : allF [(kCL, T)] kTE = [] := by rw [allF_one]; simp [same_ct]
theorem text_cl (T : ByteArray) : allF [(kCL, T)] kCL = [T] := by rw [allF_one]; simp [same_cc]
theorem text_len (T : ByteArray) (z : Int) (L : List Int) (hT : T.data.toList = txtN (z :: L)) (h : ∀ y ∈ z :: L, 0 ≤ y ∧ y ≤ 9223372036854775807) : flen [(kCL, T)] = if L.all (· == z) = true then some z else none := by
  unfold flen
  rw [text_cl]
  simp only [memF, hT, lst_txtN, Option.map_some, List.append_nil, Option.bind_some]
  refine lenM_eq (dstr z) _ z L (h z (by simp)).1 ?_
  simp only [List.map_cons, List.map_map]
  rw [dstr_meant z (h z (by simp)).1 (h z (by simp)).2]
  congr 1
  exact List.map_congr_left fun y hy => dstr_meant0 y (h y (by simp [hy])).1 (h y (by simp [hy])).2
/-- how a body ends of which lengths alone speak -/
def agr (F : Option Int) (nb : Bool) : Bd := match F with
  | none => ⟨0, 0, 20⟩
  | some z => if nb = true then ⟨0, 0, 0⟩ else if 8192 < z then ⟨0, 0, 23⟩ else ⟨1, z, 0⟩
theorem agr_body (m : AL) (nb : Bool) (opn : Int) (h1 : allF m kTE = []) (h2 : 0 < (allF m kCL).length) : fbody m nb opn = agr (flen m) nb := by
  have hp := flen_pos m
  have hr : fread m = (match flen m with | none => ⟨false, -1, 20⟩ | some n => ⟨false, n, 0⟩) := by
    unfold fread
    rw [h1, if_neg (by simp), if_pos h2]
    cases flen m <;> rfl
  unfold fbody agr
  rw [hr]
  cases hf : flen m with
  | none => simp
  | some z =>
    have := (hp z hf).1
    cases nb <;> simp [this]

structure TabP (w : World) : Prop where
  p : Lib.TabIs Tryd.prog w "internal/strconv.uint64pow10" .u64 Lib.pow10Tab
  size : 0 < w.heap.size
theorem gPow : Tryd.prog.globalNamed "internal/strconv.uint64pow10" = some 0 := by kernel_rfl
theorem TabP.below {w w' : World} (h : TabP w) (hb : Below w.heap.size w w') : TabP w' := by
  refine ⟨?_, Nat.lt_of_lt_of_le h.size hb.size⟩
  have hp := h.p
  have h0 := h.size
  unfold Lib.TabIs World.var? at *
  rw [gPow] at hp ⊢
  simp only [Option.bind_some] at hp ⊢
  rw [hb.block 0 h0]
  exact hp
theorem below_grow (w : World) (k : Nat) (os : Array Obj) : Below w.heap.size w (Sort.grow (w.drewN k) os) := by
  have h1 : Below w.heap.size w (w.drewN k) := below_drewN w k
  refine h1.trans ⟨rfl, rfl, rfl, by simp, fun i hi => ?_⟩
  show ((w.drewN k).heap ++ os)[i]? = _
  rw [Array.getElem?_append_left (by simpa using hi)]
theorem digits_any (z : Int) (h0 : 0 ≤ z) (h1 : z ≤ 9223372036854775807) (w : World) (ht : TabP w) :
    Calls Tryd.prog 41 #[.int .i64 z] w fun e w' => e = .returned (.string (mk (dstr z))) ∧ Below w.heap.size w w' := by
  have h := Go.Proofs.Any.strconv_FormatInt_10 Tryd.laysM173 z (by omega) h1 w ht.p
  rw [show Lib.itoa z = dstr z by unfold Lib.itoa dstr; rw [if_neg (by omega)]] at h
  have H : Hid (Calls Tryd.prog 82 #[.int .i64 z, .int .i64 10] w fun e w' => e = .returned (.string (mk (dstr z))) ∧ Below w.heap.size w w') := Lib.hid (h.mono fun e w' ⟨he, k, os, hw⟩ => ⟨he, by rw [hw]; exact below_grow _ _ _⟩)
  generalize mk (dstr z) = S at H ⊢
  have hneg : ¬ z < 0 := by omega
  clear h ht
  go_enter Tryd.func41, Tryd.ntmps41
  go_wp2_with (first | (go_at_call 82; refine H.out.mono ?_; rintro e w' ⟨rfl, hb⟩) | go_in)
  have HB := Lib.hid hb
  clear hb
  go_wp2
  go_ret
  exact ⟨rfl, HB.out⟩
end Go.Proofs.YtkadingpmebjbaaDoor
