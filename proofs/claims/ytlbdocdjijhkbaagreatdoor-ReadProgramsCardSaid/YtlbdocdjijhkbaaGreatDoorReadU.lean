import Derived.Test.YtlbdocdjijhkbaaGreatDoorReadR
import Derived.Deep.DeepCutAuto
namespace Go.Proofs.YtlbdocdjijhkbaaGreatDoor
open Go.RowKit
attribute [-go_sem] sliced
structure WMem (B T : Nat) (w : World) (v : Value) (t : Tm) (ad : Option Addr) (cap : Nat) : Prop where
 cells : w.heap[T]? = some (.cells #[.int .i64 t.kind, .string t.name, .int .i64 t.n, .slice ad t.args.length cap] 30 (0, 0))
 tm : TmP w (fun b => B <= b /\ some b ≠ v.ownBlock /\ b ≠ T) t ad cap
 own : some T ≠ v.ownBlock
theorem WMem.go {B T r : Nat} {w w' : World} {v v' : Value} {t : Tm} {ad : Option Addr} {cap : Nat} (h : WMem B T w v t ad cap) (hr : r < B) (hT : T ≠ r) (hg : RGo r v w v' w') : WMem B T w' v' t ad cap :=
 ⟨hg.at h.cells hT h.own, TmP.kept h.tm (fun b hp hb => hg.keep b hb (by omega) hp.2.1) (fun _ hp hb => ⟨hp.1, hg.ne hb hp.2.1, hp.2.2⟩), hg.ne (Array.getElem?_eq_some_iff.1 h.cells).1 h.own⟩
theorem WMem.below {B T : Nat} {w w' : World} {v : Value} {t : Tm} {ad : Option Addr} {cap : Nat} (h : WMem B T w v t ad cap) (hb : Below w.heap.size w w') : WMem B T w' v t ad cap :=
 ⟨keptR hb h.cells, TmP.kept h.tm (fun b _ hlt => hb.block b hlt) (fun _ hp _ => hp), h.own⟩
theorem compP {w : World} {P : Nat -> Prop} {s : List UInt8} {l : List Tm} {ad : Option Addr} {cap : Nat} (hs : s.length <= 10000) (hl : l.length <= cap) (hc : cap <= maxLen) (h : TArgsP w P ad l) : TmP w P (compT s l) ad cap :=
 ⟨in64R (x := 4) (by decide) (by decide), in64R (x := 0) (by decide) (by decide), by show (⟨s.toArray⟩ : ByteArray).size <= maxLen; rw [show (⟨s.toArray⟩ : ByteArray).size = s.length from by show s.toArray.size = _; simp]; unfold maxLen; omega, hl, hc, h⟩
theorem args2T {w : World} {P : Nat -> Prop} {t u : Tm} {ad ad2 : Option Addr} {cap cap2 : Nat} (hg : P w.heap.size) (ht : TmP w P t ad cap) (hu : TmP w P u ad2 cap2) :
 TArgsP (w.alloc (.cells (tcells t ad cap ++ tcells u ad2 cap2).toArray 30)) P (some ⟨w.heap.size, 0, none⟩) [t, u] := by
 have hP : ∀ {x : Tm} {a : Option Addr} {c : Nat}, TmP w P x a c -> TmP (w.alloc (.cells (tcells t ad cap ++ tcells u ad2 cap2).toArray 30)) P x a c := fun h => TmP.kept h (fun b _ hb => Below.heap_alloc _ _ _ hb) (fun _ hp _ => hp);have hT : TRow (w.alloc (.cells (tcells t ad cap ++ tcells u ad2 cap2).toArray 30)) P (tcells t ad cap ++ (tcells u ad2 cap2 ++ [])) [t, u] := .cons t ad cap _ _ (hP ht) (.cons u ad2 cap2 _ _ (hP hu) .nil);refine hT.args w.heap.size hg (fun _ hp => hp) 0 (fun j hj => ?_);rw [Nat.zero_add, List.append_nil];exact (World.cell?_alloc_at _ _ _ _ rfl).trans (by rw [List.getElem?_toArray])
theorem WMem.next {B T r : Nat} {w0 w : World} {v0 v : Value} {tk : List Tok} {nk : Nms} {s : List UInt8} {t u : Tm} {ad : Option Addr} {a b c d : Value} {x : ByteArray} (hm : RMem w r v tk nk) (hg : RGo r v0 w0 v w) (hr : r < T) (hT0 : w0.heap.size <= T) (hTv : some T ≠ v.ownBlock)
 (hT : w.heap[T]? = some (.cells #[a, b, c, d] 30 (0, 0))) (hc : TmP w (fun b => B <= b /\ some b ≠ v.ownBlock /\ b ≠ T) (compT s [t, u]) ad 2) (hx : (compT s [t, u]).name = x) :
 RMem ((((w.setCell ⟨T, 0, none⟩ (.int .i64 4)).setCell ⟨T, 1, none⟩ (.string x)).setCell ⟨T, 2, none⟩ (.int .i64 0)).setCell ⟨T, 3, none⟩ (.slice ad 2 2)) r v tk nk /\
 RGo r v0 w0 v ((((w.setCell ⟨T, 0, none⟩ (.int .i64 4)).setCell ⟨T, 1, none⟩ (.string x)).setCell ⟨T, 2, none⟩ (.int .i64 0)).setCell ⟨T, 3, none⟩ (.slice ad 2 2)) /\
 WMem B T ((((w.setCell ⟨T, 0, none⟩ (.int .i64 4)).setCell ⟨T, 1, none⟩ (.string x)).setCell ⟨T, 2, none⟩ (.int .i64 0)).setCell ⟨T, 3, none⟩ (.slice ad 2 2)) v (compT s [t, u]) ad 2 /\
 ∀ q, q ≠ T -> ((((w.setCell ⟨T, 0, none⟩ (.int .i64 4)).setCell ⟨T, 1, none⟩ (.string x)).setCell ⟨T, 2, none⟩ (.int .i64 0)).setCell ⟨T, 3, none⟩ (.slice ad 2 2)).heap[q]? = w.heap[q]? := by
 subst hx;have hk : ∀ q, q ≠ T -> ((((w.setCell ⟨T, 0, none⟩ (.int .i64 4)).setCell ⟨T, 1, none⟩ (.string (compT s [t, u]).name)).setCell ⟨T, 2, none⟩ (.int .i64 0)).setCell ⟨T, 3, none⟩ (.slice ad 2 2)).heap[q]? = w.heap[q]? := fun q hq => by
  rw [Below.heap_setCell _ _ _ _ (show q ≠ T from hq), Below.heap_setCell _ _ _ _ (show q ≠ T from hq), Below.heap_setCell _ _ _ _ (show q ≠ T from hq), Below.heap_setCell _ _ _ _ (show q ≠ T from hq)]
 refine ⟨(((hm.setOther hr hTv _).setOther hr hTv _).setOther hr hTv _).setOther hr hTv _, (((hg.set hT0 (by omega) _).set hT0 (by omega) _).set hT0 (by omega) _).set hT0 (by omega) _, ⟨?_, TmP.kept hc (fun b hp _ => hk b hp.2.2) (fun _ hp _ => hp), hTv⟩, hk⟩;have h1 := Lib.heap_setCell_same (i := 0) hT (.int .i64 4);have h2 := Lib.heap_setCell_same (i := 1) h1 (.string (compT s [t, u]).name);have h3 := Lib.heap_setCell_same (i := 2) h2 (.int .i64 0);have h4 := Lib.heap_setCell_same (i := 3) h3 (.slice ad 2 2);rw [h4];rfl
end Go.Proofs.YtlbdocdjijhkbaaGreatDoor
