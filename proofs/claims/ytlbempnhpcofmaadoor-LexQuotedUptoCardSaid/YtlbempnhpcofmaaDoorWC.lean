/- LexQuoted. -/
import Derived.Test.YtlbempnhpcofmaaDoorU
set_option linter.unusedVariables false
namespace Go.Proofs.YtlbempnhpcofmaaDoor
open Go.RowKit

theorem app_list3 (A B : ByteArray) : (A ++ B).data.toList = A.data.toList ++ B.data.toList := by simp [ByteArray.data_append]
theorem quote_head (l : List UInt8) (h : l.all qb = true) : 2 ≤ (quote l).length := by
  unfold quote; rw [if_pos h]; simp only [List.length_cons, List.length_append, List.length_nil]; omega
theorem take_succ_all (l : List UInt8) (k : Nat) (hk : k < l.length) : (l.take (k + 1)).all qb = ((l.take k).all qb && qb (l.getD k 0)) := by
  rw [List.take_succ_eq_append_getElem hk, List.all_append, getD_at' hk]; simp
theorem qb_is (c : UInt8) (x : Int) (h : x = (c.toNat : Int)) : qb c = ((decide (x = 9) || decide (32 ≤ x)) && !decide (x = 127)) := by
  subst h
  unfold qb
  have e1 : decide ((c.toNat : Int) = 9) = decide (c.toNat = 9) := decide_eq_decide.2 (by omega)
  have e2 : decide ((32 : Int) ≤ (c.toNat : Int)) = decide (32 ≤ c.toNat) := decide_eq_decide.2 (by omega)
  have e3 : decide ((c.toNat : Int) = 127) = decide (c.toNat = 127) := decide_eq_decide.2 (by omega)
  rw [e1, e2, e3]
  by_cases h9 : c.toNat = 9
  · simp [h9]
  · simp [h9]

set_option maxHeartbeats 16000000 in
set_option maxRecDepth 100000 in
theorem lexQuoted_any (X Y : ByteArray) (w : World) (hx : X.size ≤ 1073741824) (hy : Y.size ≤ 1073741824) :
    Calls Tryd.prog 7 #[.string X, .string Y] w fun e w' => e = .returned (.bool true) ∧ Below w.heap.size w w' := by
  have H0 := Lib.hid fun wx => shown_any wx
  have hll := len_data X
  obtain ⟨l, hl⟩ : ∃ l, X.data.toList = l := ⟨_, rfl⟩
  have h1 := fun wx => quote_any X wx (by omega)
  have hat : ∀ k (h : k < X.size), X[k] = l.getD k 0 := fun k h => by rw [← hl]; exact byte_getD X k h
  rw [hl] at hll h1
  obtain ⟨Q, hQ⟩ : ∃ Q : ByteArray, Q = ⟨(quote l).toArray⟩ := ⟨_, rfl⟩
  have hQl : Q.data.toList = quote l := by rw [hQ]
  have hQs : Q.size = (quote l).length := by rw [hQ]; exact size_mk _
  have hql := quote_len l
  rw [← hQ] at h1
  have H1 : Hid (∀ wx, Calls Tryd.prog 21 #[.string X] wx fun e w' => e = .returned (.string Q) ∧ Below wx.heap.size wx w') := Lib.hid h1
  have HST : Hid (∀ k (h : k < X.size), (l.take (k + 1)).all qb = ((l.take k).all qb && qb (X[k]))) := Lib.hid fun k h => by
    rw [hat k h]; exact take_succ_all l k (by omega)
  have HXL : Hid ((⟨l.toArray⟩ : ByteArray) = X) := Lib.hid (by rw [← hl])
  have HUB := Lib.hid fun wx => unquote_any (Q ++ Y) wx (by rw [ByteArray.size_append]; omega)
  have HUC := Lib.hid fun wx => unquote_any (Q.extract 0 (Q.size - 1)) wx (by rw [ext_size Q 0 _ (by omega)]; omega)
  obtain ⟨N, hN⟩ : ∃ N, N = l.length := ⟨_, rfl⟩
  have hNX : X.size = N := by omega
  obtain ⟨fine, hfine⟩ : ∃ fine : Nat → Bool, fine = fun k => (l.take k).all qb := ⟨_, rfl⟩
  have HST2 : Hid (∀ k (h : k < X.size), fine (k + 1) = (fine k && qb (X[k]))) := Lib.hid (by rw [hfine]; exact HST.out)
  have HF0 : Hid (fine 0 = true) := Lib.hid (by rw [hfine]; rfl)
  have HFN : Hid (fine X.size = l.all qb) := Lib.hid (by rw [hfine, ← hll]; simp)
  have HQ := Lib.hid hQ
  have HQL := Lib.hid hQl
  have HQS := Lib.hid hQs
  have hn1 : ¬ 9223372036854775807 < Q.size + Y.size := by omega
  have hql2 : Q.size ≤ 2147483650 := by omega
  clear h1 hat hl hQ hQl hQs hql hN hfine hll
  go_enter Tryd.func7, Tryd.ntmps7
  go_wp2_with fail
  refine (H0.out _).mono ?_; rintro e w0 ⟨rfl, hb⟩
  have B0 := Lib.hid hb
  clear hb
  go_wp2_with fail
  refine (H1.out _).mono ?_; rintro e w1 ⟨rfl, hb⟩
  have B1 := Lib.hid (B0.out.trans (hb.mono B0.out.size))
  clear hb
  go_wp2_with fail
  go_loopw [7, 8] (fun f i wr => ∃ k : Nat, k ≤ X.size ∧ i = .int .i64 k ∧ f = .bool (fine k) ∧ wr = w1) (fun _ i _ => X.size - (intOf i).toNat)
  case atStart => exact ⟨0, by omega, rfl, by rw [HF0.out], rfl⟩
  case round =>
    obtain ⟨k, hk, rfl, rfl, rfl⟩ := hrel
    by_cases hlt : k < X.size
    · have hst := HST2.out k hlt
      obtain ⟨x, hx⟩ : ∃ x : Int, x = (X[k].toNat : Int) := ⟨_, rfl⟩
      rw [qb_is _ x hx] at hst
      cases hf : fine k with
      | false =>
        rw [hf, Bool.false_and] at hst
        have HN := Lib.hid hst
        clear hst hx hf
        go_wp2
        go_roundw
        case rel => exact ⟨k + 1, by omega, by go_num, by rw [HN.out], trivial⟩
        case measure => simp [intOf]; omega
      | true =>
        rw [hf, Bool.true_and] at hst
        have hcase : x = 9 ∨ (x ≠ 9 ∧ 32 ≤ x ∧ x ≠ 127) ∨ x = 127 ∨ (x ≠ 9 ∧ x < 32) := by omega
        rcases hcase with h | ⟨h1, h2, h3⟩ | h | ⟨h1, h2⟩
        · have HN : Hid (fine (k + 1) = true) := Lib.hid (by rw [hst, h]; decide)
          have e1 : ((X[k].toNat : Int) == 9) = true := by rw [← hx]; simp [h]
          have e2 : ((X[k].toNat : Int) == 127) = false := by rw [← hx]; simp [h]
          have e3 : ((X[k].toNat : Int) != 127) = true := by rw [← hx]; simp [h]
          clear hst hx hf h
          go_wp2
          go_roundw
          case rel => exact ⟨k + 1, by omega, by go_num, by rw [HN.out], trivial⟩
          case measure => simp [intOf]; omega
        · have HN : Hid (fine (k + 1) = true) := Lib.hid (by rw [hst]; simp [h1, h2, h3])
          have e1 : ((X[k].toNat : Int) == 9) = false := by rw [← hx]; simp [h1]
          have e2 : ((X[k].toNat : Int) == 127) = false := by rw [← hx]; simp [h3]
          have e3 : ((X[k].toNat : Int) != 127) = true := by rw [← hx]; simp [h3]
          have e4 : (32 : Int) ≤ (X[k].toNat : Int) := by omega
          clear hst hx hf h1 h2 h3
          go_wp2
          go_roundw
          case rel => exact ⟨k + 1, by omega, by go_num, by rw [HN.out], trivial⟩
          case measure => simp [intOf]; omega
        · have HN : Hid (fine (k + 1) = false) := Lib.hid (by rw [hst, h]; decide)
          have e1 : ((X[k].toNat : Int) == 9) = false := by rw [← hx]; simp [h]
          have e2 : ((X[k].toNat : Int) == 127) = true := by rw [← hx]; simp [h]
          have e3 : ((X[k].toNat : Int) != 127) = false := by rw [← hx]; simp [h]
          have e4 : (32 : Int) ≤ (X[k].toNat : Int) := by omega
          clear hst hx hf h
          go_wp2
          go_roundw
          case rel => exact ⟨k + 1, by omega, by go_num, by rw [HN.out], trivial⟩
          case measure => simp [intOf]; omega
        · have HN : Hid (fine (k + 1) = false) := Lib.hid (by rw [hst]; simp [h1]; omega)
          have e1 : ((X[k].toNat : Int) == 9) = false := by rw [← hx]; simp [h1]
          have e4 : ¬ (32 : Int) ≤ (X[k].toNat : Int) := by omega
          clear hst hx hf h1 h2
          go_wp2
          go_roundw
          case rel => exact ⟨k + 1, by omega, by go_num, by rw [HN.out], trivial⟩
          case measure => simp [intOf]; omega
    · have he : k = X.size := by omega
      cases hq : l.all qb with
      | false =>
        have HF : fine k = false := by rw [he, HFN.out, hq]
        have hq0 : Q = ⟨#[]⟩ := by rw [HQ.out]; unfold quote; rw [hq]; rfl
        clear hq he
        subst hq0
        go_wp2
        go_ret
        exact ⟨rfl, B1.out⟩
      | true =>
        have HF : fine k = true := by rw [he, HFN.out, hq]
        have hqh := quote_head l hq
        have hq0 : 0 < Q.size := by rw [HQS.out]; omega
        obtain ⟨hn2, hn3, _⟩ := nonempty_beq hq0
        have hub := HUB.out
        rw [app_list3, HQL.out, unq_quote l _ hq] at hub
        have HUB2 : Hid (∀ wx, Calls Tryd.prog 19 #[.string (Q ++ Y)] wx fun e w' => e = .returned (.tuple #[.string X, .int .i64 Q.size, .int .i64 0]) ∧ Below wx.heap.size wx w') := Lib.hid (by
          intro wx
          have := hub wx
          unfold UnqSays at this
          simp only [HXL.out, ← HQS.out] at this
          exact this)
        have huc := HUC.out
        rw [ext_list Q 0 _ (by omega), List.drop_zero, HQL.out, HQS.out, unq_cut l hq, ← HQS.out] at huc
        obtain ⟨n, hn⟩ : ∃ n, Q.size = n + 1 := ⟨Q.size - 1, by omega⟩
        have hn0 : Q.size - 1 = n := by omega
        rw [hn0] at huc
        have HUC2 : Hid (∀ wx, Calls Tryd.prog 19 #[.string (Q.extract 0 n)] wx fun e w' => e = .returned (.tuple #[.string ⟨#[]⟩, .int .i64 0, .int .i64 5]) ∧ Below wx.heap.size wx w') := Lib.hid huc
        clear hub huc hq hqh hn0 he
        go_wp2_with fail
        refine (HUB2.out _).mono ?_; rintro e w2 ⟨rfl, hb⟩
        have B2 := Lib.hid (B1.out.trans (hb.mono B1.out.size))
        clear hb
        go_wp2_with fail
        refine (HUC2.out _).mono ?_; rintro e w3 ⟨rfl, hb⟩
        have B3 := Lib.hid (B2.out.trans (hb.mono B2.out.size))
        clear hb
        go_wp2
        go_ret
        exact ⟨rfl, B3.out⟩
end Go.Proofs.YtlbempnhpcofmaaDoor
