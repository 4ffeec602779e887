import Derived.Test.YtdjejbgokamjeaaGreatDoorRdF
import Derived.Deep.RegionHeld3
import Derived.Test.YtdjejbgokamjeaaGreatDoorIterAll
import Derived.Test.YtdjejbgokamjeaaGreatDoorTermDevAB
import Derived.Deep.DeepCutAuto
namespace Go.Proofs.YtdjejbgokamjeaaGreatDoor
open Go.RowKit
attribute [-go_sem] sliced
end Go.Proofs.YtdjejbgokamjeaaGreatDoor
namespace Go.Proofs.YtdjejbgokamjeaaGreatDoor
open Go.RowKit
theorem compB {B : Nat} {w : World} {v : Value} {s : List UInt8} {l : List Tm} {ad : Option Addr} {cap : Nat} (hs : s.length <= 10000) (hl : l.length <= cap) (hc : cap <= maxLen) (h : TArgsP w (fun b => B <= b /\ some b ≠ v.ownBlock) ad l) : TmB B w v (compT s l) ad cap :=
 ⟨in64R (x := 4) (by decide) (by decide), in64R (x := 0) (by decide) (by decide), by show (⟨s.toArray⟩ : ByteArray).size <= maxLen; rw [show (⟨s.toArray⟩ : ByteArray).size = s.length from by show s.toArray.size = _; simp]; unfold maxLen; omega, hl, hc, h⟩
theorem args1 {B : Nat} {w : World} {v : Value} {t : Tm} {ad : Option Addr} {cap : Nat} (hB : B <= w.heap.size) (hltv : ∀ k, v.ownBlock = some k -> k < w.heap.size) (ht : TmB B w v t ad cap) :
 TArgsP (w.alloc (.cells (tcells t ad cap).toArray 24)) (fun b => B <= b /\ some b ≠ v.ownBlock) (some ⟨w.heap.size, 0, none⟩) [t] := by
 obtain ⟨ad', cap', e, _, _, h3⟩ := (SevMem.one (Nat.le_refl _) hB hltv ht).slice;injection e with e1 e2 e3;rw [e1]; exact h3
end Go.Proofs.YtdjejbgokamjeaaGreatDoor
namespace Go.Proofs.YtdjejbgokamjeaaGreatDoor
open Go.RowKit
theorem RGo.cell {r : Nat} {v v' : Value} {w w' : World} (h : RGo r v w v' w') {b i : Nat} {u : Value} (hc : w.cell? ⟨b, i, none⟩ = some u) (hr : b ≠ r) (hv : some b ≠ v.ownBlock) : w'.cell? ⟨b, i, none⟩ = some u :=
 (World.cell?_of_block (w := w) (w' := w') (a := ⟨b, i, none⟩) (h.keep b (World.block_lt_of_cell? w ⟨b, i, none⟩ hc) hr hv)).trans hc
theorem TArgsP.on {B : Nat} {v : Value} {w w' : World} {ad : Option Addr} {l : List Tm} (h : TArgsP w (fun b => B <= b /\ some b ≠ v.ownBlock) ad l) (hb : Below w.heap.size w w') : TArgsP w' (fun b => B <= b /\ some b ≠ v.ownBlock) ad l :=
 h.kept (fun b _ hlt => hb.block b hlt) (fun _ hp _ => hp)
end Go.Proofs.YtdjejbgokamjeaaGreatDoor
namespace Go.Proofs.YtdjejbgokamjeaaGreatDoor
open Go.RowKit
def SeqG {α : Type} (P : Program) (g : Nat) (lb : Array Value) (encs : α -> Array Value) (At : Nat -> α -> Prop) (N n₀ : Nat) (G : World -> Prop) (w : World) : Prop :=
 ∀ (l : Nat) (J Jx : (Nat -> Prop) -> Nat -> World -> Prop) (W : World), Below w.heap.size w W -> Abides J -> Abides Jx -> (∀ M k W, J M k W -> G W) ->
  (∀ M k x W1, J M k W1 -> k < N -> At k x -> YieldAt Fence.wide 3 P l (encs x) W1 fun e W' =>
    (e = .returned (.bool true) /\ J M (k + 1) W' /\ Below n₀ W1 W' /\ Keeps M W1 W') \/ (e = .returned (.bool false) /\ Jx M (k + 1) W')) ->
  J (fun _ => False) 0 W ->
  Calls P g (#[.func (.yield l) #[] #[]] ++ lb) W fun e W' => (∃ v, e = .returned v) /\ ((∃ M, J M N W') \/ (∃ M k, k <= N /\ Jx M k W'))
theorem TArgsP.getP {w : World} {P : Nat -> Prop} {b o : Nat} {ts : List Tm} (h : TArgsP w P (some ⟨b, o, none⟩) ts) (i : Nat) (hi : i < ts.length) :
 ∃ ad cap, P b /\ w.cell? ⟨b, o + i * 4, none⟩ = some (.int .i64 (ts[i]'hi).kind) /\ w.cell? ⟨b, o + i * 4 + 1, none⟩ = some (.string (ts[i]'hi).name) /\ w.cell? ⟨b, o + i * 4 + 2, none⟩ = some (.int .i64 (ts[i]'hi).n) /\
  w.cell? ⟨b, o + i * 4 + 3, none⟩ = some (.slice ad (ts[i]'hi).args.length cap) /\ TmP w P (ts[i]'hi) ad cap := by
 induction i generalizing o ts with
 | zero =>
  rw [Nat.zero_mul, Nat.add_zero];cases h with
  | nil => cases hi
  | cons _ _ k n nm l ts ad cap hp c0 c1 c2 c3 hk hn hm hl hc ha _ => exact ⟨ad, cap, hp, c0, c1, c2, c3, ⟨hk, hn, hm, hl, hc, ha⟩⟩
 | succ i ih =>
  cases h with
  | nil => cases hi
  | cons _ _ k n nm l ts ad cap hp c0 c1 c2 c3 hk hn hm hl hc ha hr =>
   have h9 := ih hr (by simpa using hi);rw [show o + (i + 1) * 4 = o + 4 + i * 4 by omega];exact h9
theorem TArgsP.addr2 {w : World} {P : Nat -> Prop} {ad : Option Addr} {ts : List Tm} (h : TArgsP w P ad ts) (hp : 0 < ts.length) : ∃ b o, ad = some ⟨b, o, none⟩ := by
 cases h with
 | nil => cases hp
 | cons b o => exact ⟨b, o, rfl⟩
def BackAt (L : List Tm) (w : World) (P : Nat -> Prop) (k : Nat) (x : Nat × Tm × Option Addr × Nat) : Prop := x.1 + k + 1 = L.length /\ L[x.1]? = some x.2.1 /\ TmP w P x.2.1 x.2.2.1 x.2.2.2
def backv (x : Nat × Tm × Option Addr × Nat) : Array Value := #[.int .i64 (x.1 : Nat), tmv x.2.1 x.2.2.1 x.2.2.2]
def BoxAt (Bt : Nat) (ad : Option Addr) (len cap : Nat) (W : World) : Prop := W.heap[Bt]? = some (.cells #[.slice ad len cap] 22 (0, 0))
def BackI (w : World) (q B : Nat) (v : Value) (L : List Tm) (e : Tm) (M : Nat -> Prop) (k : Nat) (W : World) : Prop :=
 ∃ ad cap, Turn (fun j => j = q) w W /\ (∀ j, M j -> w.heap.size <= j) /\ W.heap[q]? = some (.cells (tcells (consT (L.drop (L.length - k)) e) ad cap).toArray 24 (0, 0)) /\
  TmP W (fun b => B <= b /\ some b ≠ v.ownBlock /\ b ≠ q /\ ¬ M b) (consT (L.drop (L.length - k)) e) ad cap
end Go.Proofs.YtdjejbgokamjeaaGreatDoor
namespace Go.Proofs.YtdjejbgokamjeaaGreatDoor
open Go.RowKit
attribute [local go_sem] Oper.semAt_some
end Go.Proofs.YtdjejbgokamjeaaGreatDoor
namespace Go.Proofs.YtdjejbgokamjeaaGreatDoor
open Go.RowKit
attribute [local go_sem] Oper.semAt_some
end Go.Proofs.YtdjejbgokamjeaaGreatDoor
namespace Go.Proofs.YtdjejbgokamjeaaGreatDoor
open Go.RowKit
end Go.Proofs.YtdjejbgokamjeaaGreatDoor
namespace Go.Proofs.YtdjejbgokamjeaaGreatDoor
open Go.RowKit
end Go.Proofs.YtdjejbgokamjeaaGreatDoor
namespace Go.Proofs.YtdjejbgokamjeaaGreatDoor
open Go.RowKit
end Go.Proofs.YtdjejbgokamjeaaGreatDoor
namespace Go.Proofs.YtdjejbgokamjeaaGreatDoor
open Go.RowKit
end Go.Proofs.YtdjejbgokamjeaaGreatDoor
namespace Go.Proofs.YtdjejbgokamjeaaGreatDoor
open Go.RowKit
end Go.Proofs.YtdjejbgokamjeaaGreatDoor
namespace Go.Proofs.YtdjejbgokamjeaaGreatDoor
open Go.RowKit
end Go.Proofs.YtdjejbgokamjeaaGreatDoor
namespace Go.Proofs.YtdjejbgokamjeaaGreatDoor
open Go.RowKit
structure WMem (B T : Nat) (w : World) (v : Value) (t : Tm) (ad : Option Addr) (cap : Nat) : Prop where
 cells : w.heap[T]? = some (.cells #[.int .i64 t.kind, .string t.name, .int .i64 t.n, .slice ad t.args.length cap] 24 (0, 0))
 tm : TmP w (fun b => B <= b /\ some b ≠ v.ownBlock /\ b ≠ T) t ad cap
 own : some T ≠ v.ownBlock
theorem WMem.go {B T r : Nat} {w w' : World} {v v' : Value} {t : Tm} {ad : Option Addr} {cap : Nat} (h : WMem B T w v t ad cap) (hr : r < B) (hT : T ≠ r) (hg : RGo r v w v' w') : WMem B T w' v' t ad cap :=
 ⟨hg.at h.cells hT h.own, TmP.kept h.tm (fun b hp hb => hg.keep b hb (by omega) hp.2.1) (fun _ hp hb => ⟨hp.1, hg.ne hb hp.2.1, hp.2.2⟩), hg.ne (Array.getElem?_eq_some_iff.1 h.cells).1 h.own⟩
theorem WMem.below {B T : Nat} {w w' : World} {v : Value} {t : Tm} {ad : Option Addr} {cap : Nat} (h : WMem B T w v t ad cap) (hb : Below w.heap.size w w') : WMem B T w' v t ad cap :=
 ⟨keptR hb h.cells, TmP.kept h.tm (fun b _ hlt => hb.block b hlt) (fun _ hp _ => hp), h.own⟩
theorem compP {w : World} {P : Nat -> Prop} {s : List UInt8} {l : List Tm} {ad : Option Addr} {cap : Nat} (hs : s.length <= 10000) (hl : l.length <= cap) (hc : cap <= maxLen) (h : TArgsP w P ad l) : TmP w P (compT s l) ad cap :=
 ⟨in64R (x := 4) (by decide) (by decide), in64R (x := 0) (by decide) (by decide), by show (⟨s.toArray⟩ : ByteArray).size <= maxLen; rw [show (⟨s.toArray⟩ : ByteArray).size = s.length from by show s.toArray.size = _; simp]; unfold maxLen; omega, hl, hc, h⟩
theorem args2T {w : World} {P : Nat -> Prop} {t u : Tm} {ad ad2 : Option Addr} {cap cap2 : Nat} (hg : P w.heap.size) (ht : TmP w P t ad cap) (hu : TmP w P u ad2 cap2) :
 TArgsP (w.alloc (.cells (tcells t ad cap ++ tcells u ad2 cap2).toArray 24)) P (some ⟨w.heap.size, 0, none⟩) [t, u] := by
 have hP : ∀ {x : Tm} {a : Option Addr} {c : Nat}, TmP w P x a c -> TmP (w.alloc (.cells (tcells t ad cap ++ tcells u ad2 cap2).toArray 24)) P x a c := fun h => TmP.kept h (fun b _ hb => Below.heap_alloc _ _ _ hb) (fun _ hp _ => hp);have hT : TRow (w.alloc (.cells (tcells t ad cap ++ tcells u ad2 cap2).toArray 24)) P (tcells t ad cap ++ (tcells u ad2 cap2 ++ [])) [t, u] := .cons t ad cap _ _ (hP ht) (.cons u ad2 cap2 _ _ (hP hu) .nil);refine hT.args w.heap.size hg (fun _ hp => hp) 0 (fun j hj => ?_);rw [Nat.zero_add, List.append_nil];exact (World.cell?_alloc_at _ _ _ _ rfl).trans (by rw [List.getElem?_toArray])
end Go.Proofs.YtdjejbgokamjeaaGreatDoor
