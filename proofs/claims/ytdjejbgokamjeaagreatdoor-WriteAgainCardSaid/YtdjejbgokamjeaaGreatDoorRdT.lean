import Derived.Test.YtdjejbgokamjeaaGreatDoorRdU
import Derived.Deep.DeepCutAuto
import Derived.Test.YtdjejbgokamjeaaGreatDoorReadPl
import Derived.Test.YtdjejbgokamjeaaGreatDoorTermDevAB
import Derived.RegionTactic
import Derived.Test.YtdjejbgokamjeaaGreatDoorChecked
import Derived.Tactics
import Derived.Tactics2
import Derived.Defers
import Derived.Recover
import Derived.Laws.Pointers
import Derived.WideLaws
import Derived.RowKit
import Derived.Test.YtdjejbgokamjeaaGreatDoorTokAH
import Derived.Test.YtdjejbgokamjeaaGreatDoorTermMk
import Derived.Deep.RegionHeld3
namespace Go.Proofs.YtdjejbgokamjeaaGreatDoor
open Go.RowKit
attribute [-go_sem] sliced
end Go.Proofs.YtdjejbgokamjeaaGreatDoor
namespace Go.Proofs.YtdjejbgokamjeaaGreatDoor
open Go.RowKit
structure WGo (r : Nat) (w : World) (v' : Value) (w' : World) : Prop where
 below : Below r w w'
 keep : ∀ b, b < w.heap.size -> b ≠ r -> w'.heap[b]? = w.heap[b]?
 own : ∀ g, v'.ownBlock = some g -> w.heap.size <= g
theorem wgo_of {r : Nat} {w wb w' : World} {v' : Value} (h1 : Below r w wb) (h2 : ∀ b, b < w.heap.size -> b ≠ r -> wb.heap[b]? = w.heap[b]?) (h : RGo r (.slice none 0 0) wb v' w') : WGo r w v' w' := by
 have hs := h1.size;refine ⟨h1.trans h.below, fun b hb hr => (h.keep b (by omega) hr (by intro e; cases e)).trans (h2 b hb hr), fun g hg => ?_⟩;rcases h.own with e | ⟨g2, e, hg2⟩
 · rw [e] at hg; cases hg
 · rw [e] at hg; have := Option.some.inj hg; omega
theorem WGo.set {r : Nat} {w w' : World} {v' : Value} (h : WGo r w v' w') {q i : Nat} (hq : w.heap.size <= q) (hr : r <= q) (u : Value) : WGo r w v' (w'.setCell ⟨q, i, none⟩ u) :=
 ⟨h.below.setCell (p := ⟨q, i, none⟩) hr u, fun b hb h1 => (Below.heap_setCell _ _ _ _ (show b ≠ q by omega)).trans (h.keep b hb h1), h.own⟩
theorem OwnStrs.up {B B' : Nat} {w : World} {v : Value} {l : List ByteArray} (h : OwnStrs B w v l) (hg : ∀ g, v.ownBlock = some g -> B' <= g) : OwnStrs B' w v l := by
 obtain ⟨hl, h0 | ⟨g, cap, cur, hv, hbg, hh, hr⟩⟩ := h
 · exact ⟨hl, .inl h0⟩
 · exact ⟨hl, .inr ⟨g, cap, cur, hv, hg g (by rw [hv]; rfl), hh, hr⟩⟩
end Go.Proofs.YtdjejbgokamjeaaGreatDoor
namespace Go.Proofs.YtdjejbgokamjeaaGreatDoor
open Go.RowKit
def CutRow (w0 : World) (T : List Tok) (e : Ending) (w' : World) : Prop :=
 ∃ g k cap, e = .returned (.tuple #[.slice (some ⟨g, k, none⟩) T.length cap, .int .i64 0, .int .i64 0]) /\ w0.heap.size <= g /\ g < w'.heap.size /\ T.length <= cap /\ cap <= maxLen /\ TokRow w' g k T /\ Below w0.heap.size w0 w'
def AttOk (w : World) (Post : Nat -> World -> World -> Prop) (w' : World) : Prop :=
 ∃ r W wc, w.heap.size + 2 <= r /\ W.heap.size = r + 1 /\ Below w.heap.size w W /\ Post r W wc /\ w' = (wc.setCell ⟨w.heap.size, 0, none⟩ (.int .i64 0)).setCell ⟨w.heap.size + 1, 0, none⟩ (.int .i64 0)
structure QPost (P Q : Nat) (t : Tm) (ns : Nms) (r : Nat) (W w' : World) : Prop where
 ex : ∃ v ad cap, OwnStrs (r + 1) w' v (nmB ns) /\ TmB (r + 1) w' v t ad cap /\ w'.heap[P]? = some (.cells #[.int .i64 t.kind, .string t.name, .int .i64 t.n, .slice ad t.args.length cap] 24 (0, 0)) /\ w'.heap[Q]? = some (.cells #[v] 36 (0, 0))
 below : ∀ N, N <= P -> N <= Q -> N <= r -> Below N W w'
def wqry (w : World) : World := ((w.alloc (.cells #[.int .i64 0, .string ⟨#[]⟩, .int .i64 0, .slice none 0 0] 24)).alloc (.cells #[.int .i64 0, .string ⟨#[]⟩, .int .i64 0, .slice none 0 0] 24)).alloc (.cells #[.slice none 0 0] 36)
def zeroT : Value := .agg #[.int .i64 0, .string ⟨#[]⟩, .int .i64 0, .slice none 0 0]
def QryGood (w : World) (t : Tm) (ns : Nms) (e : Ending) (w' : World) : Prop :=
 ∃ v ad cap, e = .returned (.tuple #[tmv t ad cap, v, .int .i64 0, .int .i64 0]) /\ OwnStrs w.heap.size w' v (nmB ns) /\ TmB w.heap.size w' v t ad cap /\ Below w.heap.size w w'
def QAll (P Q : Nat) (t : Tm) (ns : Nms) (r : Nat) (W w' : World) : Prop := QPost P Q t ns r W w' /\ ∀ b, b < W.heap.size -> b ≠ r -> b ≠ P -> b ≠ Q -> w'.heap[b]? = W.heap[b]?
theorem tokRow_of {w : World} {g : Nat} : ∀ (l : List Tok) (o : Nat), (∀ j (hj : j < l.length), TokAt w g (o + j) l[j]) -> TokRow w g (o * 4) l
 | [], o, _ => .nil _
 | t :: l, o, h => by
  have h0 := h 0 (Nat.zero_lt_succ _);rw [Nat.add_zero] at h0;refine .cons _ t l h0.kind h0.text h0.n h0.pos ?_;have := tokRow_of l (o + 1) (fun j hj => by have := h (j + 1) (Nat.succ_lt_succ hj); rw [show o + 1 + j = o + (j + 1) from by omega]; exact this);rwa [show (o + 1) * 4 = o * 4 + 4 from by omega] at this
def QueryOut (w : World) (x : Pr (Tm × Nms)) (e : Ending) (w' : World) : Prop :=
 match x with
 | .bad o er => e = .returned (.tuple #[zeroT, .slice none 0 0, .int .i64 (o : Nat), .int .i64 er]) /\ Below w.heap.size w w'
 | .ok (t, ns) => QryGood w t ns e w'
theorem WGo.rgo {r : Nat} {w w' : World} {v' : Value} (h : WGo r w v' w') : RGo r (.slice none 0 0) w (.slice none 0 0) w' := ⟨h.below, fun b h1 h2 _ => h.keep b h1 h2, .inl rfl⟩
theorem SevMem.bare {B : Nat} {w : World} {lv v : Value} {l : List Tm} (h : SevMem B w lv v l) : SevMem B w lv (.slice none 0 0) l := by
 obtain ⟨xs, h1, h2⟩ := h.ex;exact ⟨⟨xs, h1, h2.kept (fun _ _ _ => rfl) (fun b hp _ => ⟨hp.1, hp.2.1, by intro e; cases e⟩)⟩, fun k _ => by intro e; cases e⟩
theorem SevMem.nil (B : Nat) (w : World) : SevMem B w (.slice none 0 0) (.slice none 0 0) [] :=
 ⟨⟨[], World.ownsRow_nil _ _ _ _, .nil⟩, fun k hk => by cases hk⟩
theorem TmB.bare {B : Nat} {w : World} {v : Value} {t : Tm} {ad : Option Addr} {cap : Nat} (h : TmB B w v t ad cap) : TmB B w (.slice none 0 0) t ad cap :=
 TmP.kept h (fun _ _ _ => rfl) (fun b hp _ => ⟨hp.1, by intro e; cases e⟩)
def PPost (P : Nat) (l : List Tm) (r : Nat) (W w' : World) : Prop :=
 ∃ ad cap, l.length <= cap /\ cap <= maxLen /\ TArgsP w' (fun b => r + 1 <= b) ad l /\ w'.heap[P]? = some (.cells #[.slice ad l.length cap] 22 (0, 0)) /\ (∀ N, N <= P -> N <= r -> Below N W w') /\ ∀ b, b < W.heap.size -> b ≠ r -> b ≠ P -> w'.heap[b]? = W.heap[b]?
def wprg (w : World) : World := w.alloc (.cells #[.slice none 0 0] 22)
def PrgGood (w : World) (l : List Tm) (e : Ending) (w' : World) : Prop :=
 ∃ ad cap, e = .returned (.tuple #[.slice ad l.length cap, .int .i64 0, .int .i64 0]) /\ l.length <= cap /\ cap <= maxLen /\ TArgsP w' (fun b => w.heap.size <= b) ad l /\ Below w.heap.size w w'
def ProgramOut (w : World) (x : Pr (List Tm)) (e : Ending) (w' : World) : Prop :=
 match x with
 | .bad o er => e = .returned (.tuple #[.slice none 0 0, .int .i64 (o : Nat), .int .i64 er]) /\ Below w.heap.size w w'
 | .ok l => PrgGood w l e w'
def lvL : List Tm := [compT [58, 45] [atomT [97], compT [44] [atomT [98], atomT [99]]]]
def lvQ : Tm := compT [61] [varT 0, intT (-1)]
def lvU : Tm := compT [61] [atomT [45], atomT [120]]
end Go.Proofs.YtdjejbgokamjeaaGreatDoor
