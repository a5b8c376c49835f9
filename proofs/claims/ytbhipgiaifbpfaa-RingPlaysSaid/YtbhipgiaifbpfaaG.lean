/- What the loop of RingOrder keeps. -/
import Derived.Test.YtbhipgiaifbpfaaF
namespace Go.Proofs.Ytbhipgiaifbpfaa
open Go.RowKit

theorem own_keeps {S D B : Nat} {w w' : World} {v : Value} {n : Nat} {xs : List Value} (h : w.ownsRow B 5 1 v n xs) (hk : Keeps S D w w') (hS : S < B) (hD : D < B) : w'.ownsRow B 5 1 v n xs := by
  refine ⟨h.1, ?_⟩
  rcases h.2 with hn | ⟨g, cap, cur, rfl, hb, hg, rest⟩
  · exact .inl hn
  · have hlt := (Array.getElem?_eq_some_iff.1 hg).1
    exact .inr ⟨g, cap, cur, rfl, hb, (hk.block g hlt (by omega) (by omega)).trans hg, rest⟩
theorem own_ge {B : Nat} {w : World} {v : Value} {n : Nat} {xs : List Value} (h : w.ownsRow B 5 1 v n xs) (g : Nat) (hg : v.ownBlock = some g) : B ≤ g := by
  rcases h.2 with ⟨rfl, _⟩ | ⟨g', cap, cur, rfl, hb, _⟩
  · cases hg
  · cases hg; exact hb
theorem ring_grown {w w' : World} {S D most first n B : Nat} {d : List UInt8} {row : Option Nat} (h : Ring w S D most first n d) (hg : w.grownBy w' row) (hr : ∀ g, row = some g → B ≤ g) (hS : S < B) (hD : D < B) : Ring w' S D most first n d :=
  ⟨(hg.block S h.S_lt (fun e => by have := hr S e.symm; omega)).trans h.str, (hg.block D h.D_lt (fun e => by have := hr D e.symm; omega)).trans h.dat, h.len, h.one, h.top, h.fst, h.cnt, h.ne⟩

structure St (w wr : World) (S D B most : Nat) (L : List UInt8) (p q qc first n : Nat) (d O : List UInt8) (la : Option Addr) (out : Value) : Prop where
  ring : Ring wr S D most first n d
  sb : S < B
  db : D < B
  bb : B ≤ wr.heap.size
  ws : w.heap.size ≤ S
  wd : w.heap.size ≤ D
  src : Src w la q qc (L.drop p) D
  old : ∀ x, la = some x → 0 < q → x.block < w.heap.size
  own : wr.ownsRow B 5 1 out O.length (O.map byte)
  all : O ++ queue most first n d ++ L.drop p = L
  bel : Below w.heap.size w wr
  ple : p ≤ L.length

theorem Src.old {w w' : World} {a : Option Addr} {n c : Nat} {l : List UInt8} {D : Nat} (h : Src w a n c l D) (ho : ∀ x, a = some x → 0 < n → x.block < w.heap.size) (hb : Below w.heap.size w w') : Src w' a n c l D :=
  ⟨h.len, h.cap, h.big, fun j hj => by
    obtain ⟨x, hx, hc⟩ := h.cells j hj
    refine ⟨x, hx, ?_⟩
    have hxb : (x.add j).block < w.heap.size := by have := ho x hx (by have := h.len; omega); unfold Addr.add; split <;> exact this
    rw [World.cell?_of_block (hb.block _ hxb)]; exact hc, h.away⟩
/-- what is behind the first m bytes -/
theorem Src.behind {w : World} {a : Option Addr} {q qc : Nat} {l : List UInt8} {D : Nat} (h : Src w a q qc l D) (m : Nat) (hm : m ≤ q) :
    Src w (if qc = m then a else Option.map (fun x => x.add m) a) (q - m) (qc - m) (l.drop m) D := by
  have hl := h.len
  have hc := h.cap
  refine ⟨by rw [List.length_drop, hl], by omega, by have := h.big; omega, fun j hj => ?_, fun x hx h0 => ?_⟩
  · rw [List.length_drop] at hj
    obtain ⟨x, hx, hcx⟩ := h.cells (m + j) (by omega)
    rw [if_neg (by omega), hx]
    refine ⟨x.add m, rfl, ?_⟩
    rw [Addr.add_add, hcx, List.getElem_drop]
  · rw [List.length_drop] at h0
    split at hx
    · exact h.away x hx (by omega)
    · obtain ⟨y, hy, rfl⟩ := Option.map_eq_some_iff.1 hx
      have := h.away y hy (by omega)
      unfold Addr.add; split <;> exact this
theorem old_behind {a : Option Addr} {B q qc m : Nat} (h : ∀ x, a = some x → 0 < q → x.block < B) : ∀ x, (if qc = m then a else Option.map (fun x => x.add m) a) = some x → 0 < q - m → x.block < B := by
  intro x hx h0
  split at hx
  · exact h x hx (by omega)
  · obtain ⟨y, hy, rfl⟩ := Option.map_eq_some_iff.1 hx
    have := h y hy (by omega)
    unfold Addr.add; split <;> exact this

theorem St.lens {w wr : World} {S D B most : Nat} {L : List UInt8} {p q qc first n : Nat} {d O : List UInt8} {la : Option Addr} {out : Value} (h : St w wr S D B most L p q qc first n d O la out) :
    q = L.length - p ∧ O.length + n + q = L.length := by
  have h1 := h.src.len
  have h2 := congrArg List.length h.all
  rw [List.length_drop] at h1
  rw [List.length_append, List.length_append, queue_len, List.length_drop] at h2
  have := h.ple
  omega

/-- behind a Put -/
theorem St.put {w wr wx : World} {S D B most : Nat} {L : List UInt8} {p q qc first n : Nat} {d O : List UInt8} {la : Option Addr} {out : Value} (h : St w wr S D B most L p q qc first n d O la out)
    {m : Nat} (hm : m ≤ q) {d' : List UInt8} (hR : Ring wx S D most first (n + m) d') (hk : Keeps S D wr wx) (hz : wx.heap.size = wr.heap.size) (hq : queue most first (n + m) d' = queue most first n d ++ (L.drop p).take m) :
    St w wx S D B most L (p + m) (q - m) (qc - m) first (n + m) d' O (if qc = m then la else Option.map (fun x => x.add m) la) out := by
  have hl := h.lens
  refine ⟨hR, h.sb, h.db, by rw [hz]; exact h.bb, h.ws, h.wd, by rw [← List.drop_drop]; exact h.src.behind m hm, old_behind h.old, own_keeps h.own hk h.sb h.db, ?_, h.bel.trans (hk.below h.bel.size h.ws h.wd), by have := h.ple; omega⟩
  rw [hq, ← List.drop_drop]
  simp only [List.append_assoc]
  rw [List.take_append_drop, ← List.append_assoc]
  exact h.all
/-- behind a Take and the append -/
theorem St.take {w wr wx wy : World} {S D B most : Nat} {L : List UInt8} {p q qc first n : Nat} {d O : List UInt8} {la : Option Addr} {out out' : Value} (h : St w wr S D B most L p q qc first n d O la out)
    {k : Nat} (hkn : k ≤ n) (hR : Ring wx S D most ((first + k) % most) (n - k) d) (hk : Keeps S D wr wx)
    (hown : wy.ownsRow B 5 1 out' (O.length + k) (O.map byte ++ ((queue most first n d).take k).map byte)) (hgr : wx.grownBy wy out.ownBlock) :
    St w wy S D B most L p q qc ((first + k) % most) (n - k) d (O ++ (queue most first n d).take k) la out' := by
  have hox := own_keeps h.own hk h.sb h.db
  have hRy := ring_grown hR hgr (fun g e => own_ge hox g e) h.sb h.db
  have hlen : ((queue most first n d).take k).length = k := by rw [List.length_take, queue_len]; omega
  have hB : w.heap.size ≤ B := by have := h.ws; have := h.sb; omega
  refine ⟨hRy, h.sb, h.db, Nat.le_trans h.bb (Nat.le_trans hk.size hgr.size), h.ws, h.wd, h.src, h.old, ?_, ?_, ?_, h.ple⟩
  · rw [List.length_append, hlen, List.map_append]; exact hown
  · rw [queue_drop, List.append_assoc O, List.take_append_drop]; exact h.all
  · exact (h.bel.trans (hk.below h.bel.size h.ws h.wd)).grown hgr (Nat.le_trans h.bel.size hk.size) (fun g e => Nat.le_trans hB (own_ge hox g e))
end Go.Proofs.Ytbhipgiaifbpfaa
