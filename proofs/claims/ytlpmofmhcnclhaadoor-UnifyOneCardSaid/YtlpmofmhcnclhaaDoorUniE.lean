/-
  The document's own unify.
-/
import Derived.Test.YtlpmofmhcnclhaaDoorUniD
namespace Go.Proofs.YtlpmofmhcnclhaaDoor
open Go.RowKit

theorem uni_len {bs l : Bds} {n n' : Nat} {L : List (Tm × Tm)} (hn : n ≤ 2000) (h : uni bs n L = (some l, 0, n')) : l.length ≤ bs.length + (n' - n) ∧ n ≤ n' :=
  (uni_all (Φ := fun _ => True) (fun _ _ _ _ => trivial) _ bs l n n' L (Nat.le_refl _) hn (fun _ _ => trivial) (fun _ _ => ⟨trivial, trivial⟩) h).2
/-- Within the loop: k arguments are made one. -/
structure UIn (mb : Nat) (w : World) (x y : Tm) (a1 : Option Addr) (c1 : Nat) (a2 : Option Addr) (c2 : Nat) (N : Nat) (r : Option Bds × Int × Nat) (k n : Nat) (L : Bds) (la : Option Addr) (W : World) : Prop where
  ans : uni L n ((List.zip x.args y.args).drop k) = r
  le : n ≤ 2000
  len : L.length + (2000 - n) ≤ N
  unb : UnB mb n w x y a1 c1 a2 c2 W
  bds : BdsAt W (Old mb W) la L
theorem UnB.drew {mb n : Nat} {w W : World} {x y : Tm} {a1 : Option Addr} {c1 : Nat} {a2 : Option Addr} {c2 : Nat} (h : UnB mb n w x y a1 c1 a2 c2 W) : UnB mb n w x y a1 c1 a2 c2 W.drew :=
  ⟨h.bx, h.bz, h.px.turnS (Turn.drew (fun _ => False) W) fun _ _ h => h, h.py.turnS (Turn.drew (fun _ => False) W) fun _ _ h => h, h.mt, h.turn.trans (Turn.drew _ W)⟩
theorem UnB.next {mb n n' : Nat} {w W W' : World} {x y : Tm} {a1 : Option Addr} {c1 : Nat} {a2 : Option Addr} {c2 : Nat} (h : UnB mb n w x y a1 c1 a2 c2 W) (hm : mb < w.heap.size) (ht : Turn (fun j => j = mb) W W') (hmt : MtAt W' mb n') : UnB mb n' w x y a1 c1 a2 c2 W' :=
  ⟨(ht.block _ (Array.getElem?_eq_some_iff.1 h.bx).1 (by omega)).trans h.bx, (ht.block _ (Array.getElem?_eq_some_iff.1 h.bz).1 (by omega)).trans h.bz, h.px.turnS ht fun b hb => hb.2, h.py.turnS ht fun b hb => hb.2, hmt, h.turn.trans ht⟩
theorem zip_drop {l m : List Tm} {k : Nat} (h1 : k < l.length) (h2 : k < m.length) : (List.zip l m).drop k = (l[k], m[k]) :: (List.zip l m).drop (k + 1) := by
  rw [List.drop_eq_getElem_cons (by rw [List.length_zip]; omega)]
  congr 1
  simp
theorem below_turnU {n : Nat} {M : Nat → Prop} {w W W' : World} (h : Below n w W) (k : Turn M W W') (hM : ∀ j, M j → n ≤ j) (hn : n ≤ W.heap.size) : Below n w W' := h.trans (k.below hM hn)

end Go.Proofs.YtlpmofmhcnclhaaDoor
