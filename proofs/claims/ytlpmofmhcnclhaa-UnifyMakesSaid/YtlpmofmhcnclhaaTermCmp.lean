/-
  The contracts of the document's own rank, text and Compare for term.
-/
import Derived.Test.YtlpmofmhcnclhaaTermMR
import Derived.Test.YtlpmofmhcnclhaaNumA
import Derived.Deep.RegionHeld3
import Derived.Deep.QuietTactic
import Derived.BigQuiet
import Derived.Laws.Cover1
import Derived.Sort.Walk0
import Derived.Lib.Strings
namespace Go.Proofs.Ytlpmofmhcnclhaa
open Go.RowKit

/-- How two texts compare. -/
noncomputable def textV (a b : List UInt8) : Int := if a < b then -1 else if a = b then 0 else 1
def rankV (k : Int) : Int := if k = 1 then 0 else if k = 3 then 1 else if k = 2 then 2 else 3

mutual
/-- The standard order. -/
noncomputable def Tm.cmp : Tm → Tm → Int
  | .mk k s n l, .mk k' s' n' l' => if k ≠ k' then cmpV (rankV k) (rankV k') else if k = 1 ∨ k = 3 then cmpV n n' else if k = 2 then textV s.data.toList s'.data.toList
      else if l.length ≠ l'.length then cmpV l.length l'.length else if textV s.data.toList s'.data.toList ≠ 0 then textV s.data.toList s'.data.toList else Tm.cmps l l'
noncomputable def Tm.cmps : List Tm → List Tm → Int
  | [], _ => 0
  | _ :: _, [] => 0
  | t :: l, t' :: l' => if t.cmp t' ≠ 0 then t.cmp t' else Tm.cmps l l'
end
theorem Tm.cmp_eq (a b : Tm) : a.cmp b = if a.kind ≠ b.kind then cmpV (rankV a.kind) (rankV b.kind) else if a.kind = 1 ∨ a.kind = 3 then cmpV a.n b.n else if a.kind = 2 then textV a.name.data.toList b.name.data.toList
      else if a.args.length ≠ b.args.length then cmpV a.args.length b.args.length else if textV a.name.data.toList b.name.data.toList ≠ 0 then textV a.name.data.toList b.name.data.toList else Tm.cmps a.args b.args := by
  cases a; cases b
  rw [Tm.cmp]
  rfl
/-- Up to a place all are the same: so the first that differ tell it. -/
theorem cmps_hit : ∀ (l r : List Tm) (k : Nat) (h : k < l.length) (h' : k < r.length), (∀ j (h1 : j < l.length) (h2 : j < r.length), j < k → (l[j]'h1).cmp (r[j]'h2) = 0) → (l[k]'h).cmp (r[k]'h') ≠ 0 → Tm.cmps l r = (l[k]'h).cmp (r[k]'h')
  | [], _, k, h, _, _, _ => absurd h (Nat.not_lt_zero _)
  | _ :: _, [], k, _, h', _, _ => absurd h' (Nat.not_lt_zero _)
  | t :: l, t' :: l', 0, _, _, _, hn => by
    rw [Tm.cmps]
    exact if_pos hn
  | t :: l, t' :: l', k + 1, h, h', hz, hn => by
    rw [Tm.cmps, if_neg (by rw [show t.cmp t' = 0 from hz 0 (by simp) (by simp) (by omega)]; simp)]
    exact cmps_hit l l' k (by simpa using h) (by simpa using h') (fun j h1 h2 hj => hz (j + 1) (by simpa using h1) (by simpa using h2) (by omega)) hn
theorem cmps_zero : ∀ (l r : List Tm), (∀ j (h1 : j < l.length) (h2 : j < r.length), (l[j]'h1).cmp (r[j]'h2) = 0) → Tm.cmps l r = 0
  | [], _, _ => by rw [Tm.cmps]
  | _ :: _, [], _ => by rw [Tm.cmps]
  | t :: l, t' :: l', hz => by
    rw [Tm.cmps, if_neg (by rw [show t.cmp t' = 0 from hz 0 (by simp) (by simp)]; simp)]
    exact cmps_zero l l' (fun j h1 h2 => hz (j + 1) (by simpa using h1) (by simpa using h2))
theorem below_dn {B : Nat} {a w : World} (h : Below B a w) (n : Nat) : Below B a (w.drewN n) := ⟨h.os, h.tape, h.output, h.size, h.block⟩
theorem quiet_left {P : Program} {f : FuncId} {args : Array Value} {w : World} {n : Nat} {v : Value} (h : Calls P f args (w.drewN n) fun e w' => e = .returned v ∧ w.drewN n = w') : Calls P f args (w.drewN n) fun e w'' => e = .returned v ∧ ∃ m, w'' = w.drewN m :=
  h.mono fun _ _ ⟨he, hm⟩ => ⟨he, n, hm.symm⟩

end Go.Proofs.Ytlpmofmhcnclhaa
