import Derived.Test.YtinefdlkajnomaaGreatDoorMIterAll
import Derived.Deep.RegionHeld3
import Derived.OrdersIn
namespace Go.Proofs.YtinefdlkajnomaaGreatDoor
open Go.RowKit
def fj (ops:Array Oper):Bool:=ops.all fun o=>match o.op with| .defer _=>false|_=>true
theorem noDefer_at {ops:Array Oper} (h:fj ops=true) {i:Nat} {o:Oper} (d:ops[i]?=some o): ∀c,o.op≠ .defer c:=by
 intro c hc;obtain⟨b,a⟩:=Array.getElem?_eq_some_iff.1 d;unfold fj at h;rw [Array.all_eq_true]at h;have:=h i b;rw [a,hc]at this;cases this
theorem opIn_of {l n:Nat} {P:Program} {o:Oper} {a:Act} {w:World} {K:Act->World->Prop} {Q:Exit->Act->World->Prop} (b: ∀c,o.op≠ .defer c) (h:o.wp P a w K Q):o.wpIn (Fence.wide.inRound l) n P a w K Q:=by
 refine⟨fun _ _=>trivial,?_⟩;rw [Oper.semAt_plain _ _ _ b];unfold Oper.wp at h;generalize (execOp a.eval o).run P w=r at*;cases r with
 |ok m w'=>
  cases m with
  |value v=>exact h
  |skip=>exact h
  |defer d=>exact h
  |enter f args=>exact⟨(fun h=>by cases h),CallsIn.inRound l (callsIn_wide.2 h)⟩
  |row row args=>exact⟨(fun h=>by cases h),fun c cs _=>let⟨v,w'',r,s⟩:=(show Rows P row args w' _ from h) c cs;⟨v,w'',r,stepsIn_wide.2 s⟩⟩
  |round l f tmps assign body=>exact(h:False).elim
  |_=>exact(h:False).elim
 |halt x w'=>
  cases x with
  |panic v=>exact h
  |_=>exact(h:False).elim
theorem Bx {l n:Nat} {P:Program} {md:Region.Mode} {ops:Array Oper} {Q:Exit->Act->World->Prop} (c: ¬LetsOut Q) (d:fj ops=true): ∀(fuel:Nat) (listed:Array Bool) (a:Act) (w:World),wpAny P md ops Q fuel listed a w->wpAnyIn (Fence.wide.inRound l) n P md ops Q fuel listed a w
 |0,_,_,_,h=>h
 | fuel+1,listed,a,w,h=>by
  refine⟨h.1,fun i k=>?_⟩;have b:=h.2 i k;unfold wpOp at b;unfold wpOpIn;cases g:ops[i]? with
  |none=>rw [g]at b;exact Bx c d fuel _ _ _ b
  |some o=>
   rw [g]at b;dsimp only at b⊢;split
   · rename_i j
     rw [J_ j]at b;rcases b with b|b
     · exact opIn_of (noDefer_at d g) (Oper.wp_mono (fun a w h=>Bx c d fuel _ a w h) b)
     · exact absurd b.2 c
   · rename_i j
     rw [I_ j]at b;exact⟨fun _ _=>trivial,Bx c d fuel _ _ _ b⟩
theorem Ez {l n id:Nat} {P:Program} {ops:Array Oper} {Q:Exit->Act->World->Prop} {a:Act} {w:World} {S:World->Prop} (g:P.follows .mixedOrders=true) (b: ¬LetsOut Q) (d:fj ops=true) (c:S w.drew)
 (h:S w.drew->wpAnyH P .any ops Q S ops.size (Array.replicate ops.size false) a w.drew):(Code.region id ops true).wpIn (Fence.wide.inRound l) n P Q a w:=
 wpIn_region_any g (Bx b d _ _ _ _ (wpAny_of_held _ _ _ _ (h c)))
end Go.Proofs.YtinefdlkajnomaaGreatDoor
