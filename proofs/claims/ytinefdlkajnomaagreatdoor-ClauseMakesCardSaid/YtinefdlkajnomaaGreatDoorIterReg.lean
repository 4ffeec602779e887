import Derived.Test.YtinefdlkajnomaaGreatDoorIterAll
import Derived.Deep.RegionHeld3
import Derived.OrdersIn
namespace Go.Proofs.YtinefdlkajnomaaGreatDoor
open Go.RowKit
def noDefer (ops : Array Oper) : Bool := ops.all fun o => match o.op with | .defer _ => false | _ => true
theorem noDefer_at {ops : Array Oper} (h : noDefer ops = true) {i : Nat} {o : Oper} (ho : ops[i]? = some o) : ∀ c, o.op ≠ .defer c := by
 intro c hc;obtain ⟨hi, he⟩ := Array.getElem?_eq_some_iff.1 ho;unfold noDefer at h;rw [Array.all_eq_true] at h;have := h i hi;rw [he, hc] at this;cases this
theorem opIn_of {l n : Nat} {P : Program} {o : Oper} {a : Act} {w : World} {K : Act -> World -> Prop} {Q : Exit -> Act -> World -> Prop} (hd : ∀ c, o.op ≠ .defer c) (h : o.wp P a w K Q) : o.wpIn (Fence.wide.inRound l) n P a w K Q := by
 refine ⟨fun _ _ => trivial, ?_⟩;rw [Oper.semAt_plain _ _ _ hd];unfold Oper.wp at h;generalize (execOp a.eval o).run P w = r at *;cases r with
 | ok m w' =>
  cases m with
  | value v => exact h
  | skip => exact h
  | defer d => exact h
  | enter f args => exact ⟨(fun h => by cases h), CallsIn.inRound l (callsIn_wide.2 h)⟩
  | row row args => exact ⟨(fun h => by cases h), fun c cs _ => let ⟨v, w'', r, s⟩ := (show Rows P row args w' _ from h) c cs; ⟨v, w'', r, stepsIn_wide.2 s⟩⟩
  | round l f tmps assign body => exact (h : False).elim
  | _ => exact (h : False).elim
 | halt x w' =>
  cases x with
  | panic v => exact h
  | _ => exact (h : False).elim
theorem anyIn_of {l n : Nat} {P : Program} {md : Region.Mode} {ops : Array Oper} {Q : Exit -> Act -> World -> Prop} (hQ : ¬ LetsOut Q) (hd : noDefer ops = true) : ∀ (fuel : Nat) (listed : Array Bool) (a : Act) (w : World), wpAny P md ops Q fuel listed a w -> wpAnyIn (Fence.wide.inRound l) n P md ops Q fuel listed a w
 | 0, _, _, _, h => h
 | fuel + 1, listed, a, w, h => by
  refine ⟨h.1, fun i hi => ?_⟩;have h2 := h.2 i hi;unfold wpOp at h2;unfold wpOpIn;cases ho : ops[i]? with
  | none => rw [ho] at h2; exact anyIn_of hQ hd fuel _ _ _ h2
  | some o =>
   rw [ho] at h2;dsimp only at h2 ⊢;split
   · rename_i hw
     rw [if_pos hw] at h2;rcases h2 with h2 | h2
     · exact opIn_of (noDefer_at hd ho) (Oper.wp_mono (fun a w h => anyIn_of hQ hd fuel _ a w h) h2)
     · exact absurd h2.2 hQ
   · rename_i hw
     rw [if_neg hw] at h2;exact ⟨fun _ _ => trivial, anyIn_of hQ hd fuel _ _ _ h2⟩
theorem wpIn_region_held {l n id : Nat} {P : Program} {ops : Array Oper} {Q : Exit -> Act -> World -> Prop} {a : Act} {w : World} {S : World -> Prop} (hm : P.follows .mixedOrders = true) (hQ : ¬ LetsOut Q) (hd : noDefer ops = true) (hS : S w.drew)
 (h : S w.drew -> wpAnyH P .any ops Q S ops.size (Array.replicate ops.size false) a w.drew) : (Code.region id ops true).wpIn (Fence.wide.inRound l) n P Q a w :=
 wpIn_region_any hm (anyIn_of hQ hd _ _ _ _ (wpAny_of_held _ _ _ _ (h hS)))
end Go.Proofs.YtinefdlkajnomaaGreatDoor
