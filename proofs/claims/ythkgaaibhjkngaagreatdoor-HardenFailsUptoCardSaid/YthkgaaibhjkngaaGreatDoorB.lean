/- Media types: plain lists. -/
import Derived.Test.YthkgaaibhjkngaaGreatDoorA
set_option linter.unusedVariables false
namespace Go.Proofs.YthkgaaibhjkngaaGreatDoor

/-- the parameter at the beginning, where a token stands there: its name, its value, how many bytes it has -/
def prm (l : List UInt8) : Option ((List UInt8 × List UInt8) × Nat) :=
  if tok l = 0 ∨ tok l = l.length ∨ (l.getD (tok l) 0).toNat ≠ 61 then none
  else if 0 < tok (l.drop (tok l + 1)) then some (((l.take (tok l)).map lwr, (l.drop (tok l + 1)).take (tok (l.drop (tok l + 1)))), tok l + 1 + tok (l.drop (tok l + 1)))
  else match unq (l.drop (tok l + 1)) with
    | none => none
    | some x => some (((l.take (tok l)).map lwr, x.1), tok l + 1 + x.2)
theorem prm_len (l : List UInt8) (x : (List UInt8 × List UInt8) × Nat) (h : prm l = some x) : 1 ≤ x.2 ∧ x.2 ≤ l.length ∧ x.1.1.length ≤ l.length ∧ x.1.2.length ≤ l.length := by
  have hle := tok_le l
  unfold prm at h
  split at h
  · simp at h
  · rename_i hn
    split at h
    · simp only [Option.some.injEq] at h
      subst h
      have := tok_le (l.drop (tok l + 1))
      simp only [List.length_drop, List.length_map, List.length_take] at this ⊢
      omega
    · cases hu : unq (l.drop (tok l + 1)) with
      | none => rw [hu] at h; simp at h
      | some y =>
        rw [hu] at h
        simp only [Option.some.injEq] at h
        subst h
        have := unq_len _ y hu
        simp only [List.length_drop, List.length_map, List.length_take] at this ⊢
        omega
/-- what stands behind a subtype -/
def prsF : Nat → List UInt8 → Option (List (List UInt8 × List UInt8))
  | 0, _ => some []
  | f + 1, l =>
    if l = [] then some []
    else if skip l = [] ∨ ((skip l).headD 0).toNat ≠ 59 then none
    else if tok (skip (skip l).tail) = 0 then prsF f (skip (skip l).tail)
    else match prm (skip (skip l).tail) with
      | none => none
      | some x => (prsF f ((skip (skip l).tail).drop x.2)).map (x.1 :: ·)
def prs (l : List UInt8) : Option (List (List UInt8 × List UInt8)) := prsF l.length l
/-- a media type: its type, its subtype, its parameters -/
def media (l : List UInt8) : Option (List UInt8 × List UInt8 × List (List UInt8 × List UInt8)) :=
  if tok (trim l) = 0 ∨ tok (trim l) = (trim l).length ∨ ((trim l).getD (tok (trim l)) 0).toNat ≠ 47 then none
  else if tok ((trim l).drop (tok (trim l) + 1)) = 0 then none
  else (prs (((trim l).drop (tok (trim l) + 1)).drop (tok ((trim l).drop (tok (trim l) + 1))))).map fun ps =>
    (((trim l).take (tok (trim l))).map lwr, (((trim l).drop (tok (trim l) + 1)).take (tok ((trim l).drop (tok (trim l) + 1)))).map lwr, ps)

def isSmall (l : List UInt8) : Bool := isTok l && decide (l.map lwr = l)
def textP (ps : List (List UInt8 × List UInt8)) : List UInt8 := ps.flatMap fun p => [59, 32] ++ p.1 ++ [61] ++ (if isTok p.2 = true then p.2 else quote p.2)
/-- a media type's text -/
def textM (ty sub : List UInt8) (ps : List (List UInt8 × List UInt8)) : List UInt8 :=
  if isSmall ty && isSmall sub && ps.all (fun p => isSmall p.1 && p.2.all qb) then ty ++ [47] ++ sub ++ textP ps else []
end Go.Proofs.YthkgaaibhjkngaaGreatDoor
