import Derived.Test.YtinefdlkajnomaaGreatDoorCharDevAC
import Derived.Handy
import Derived.Laws.Bits64b
import Derived.Test.YtinefdlkajnomaaGreatDoorCharRef
import Derived.Lib.AppendStr
import Derived.Lib.OthersKept
import Derived.Test.YtinefdlkajnomaaGreatDoorCharM
import Derived.Test.YtinefdlkajnomaaGreatDoorShelf2
import Derived.Lib.BufferMore
import Derived.BigRegion
import Derived.RegionTactic
import Derived.Test.YtinefdlkajnomaaGreatDoorCharRHI
namespace Go.Proofs.YtinefdlkajnomaaGreatDoor
open Go.RowKit
end Go.Proofs.YtinefdlkajnomaaGreatDoor
namespace Go.Proofs.YtinefdlkajnomaaGreatDoor
open Go.RowKit
def byc (l : List UInt8) : List Value := l.map fun b => Value.int .u8 b.toNat
theorem byc_append (a b : List UInt8) : byc (a ++ b) = byc a ++ byc b := List.map_append
theorem byc_length (l : List UInt8) : (byc l).length = l.length := List.length_map _
def OwnBytes (B : Nat) (w : World) (v : Value) (l : List UInt8) : Prop := w.ownsRow B 5 1 v l.length (byc l)
theorem OwnBytes.below {B : Nat} {w w' : World} {v : Value} {l : List UInt8} (h : OwnBytes B w v l) (hb : Below w.heap.size w w') : OwnBytes B w' v l := ownsRow_below h hb
theorem OwnBytes.iter_ne {B : Nat} {w : World} {v : Value} {l : List UInt8} (h : OwnBytes B w v l) {k : Nat} {s : ByteArray} {pos : Nat} (hk : w.heap[k]? = some (.stringIter s pos)) : some k ≠ v.ownBlock := by
 intro e;obtain ⟨_, h0 | ⟨g, cap, cur, hv, _, hh, _⟩⟩ := h
 · rw [h0.1] at e; cases e
 · rw [hv] at e;have : k = g := Option.some.inj e;subst this;rw [hk] at hh;cases hh
theorem OwnBytes.iterAt {B : Nat} {w : World} {v : Value} {l : List UInt8} (h : OwnBytes B w v l) {k : Nat} {s : ByteArray} {pos : Nat} (hk : w.heap[k]? = some (.stringIter s pos)) (pos' : Nat) : OwnBytes B (w.iterAt k s pos') v l := by
 have hne := h.iter_ne hk;obtain ⟨hl, h0 | ⟨g, cap, cur, hv, hbg, hh, r⟩⟩ := h
 · exact ⟨hl, .inl h0⟩
 · refine ⟨hl, .inr ⟨g, cap, cur, hv, hbg, ?_, r⟩⟩;rw [Lib.iterAt_other w k g s pos' (fun e => hne (by rw [hv, e]; rfl))];exact hh
theorem grown_iter {B : Nat} {w w' : World} {v : Value} {l : List UInt8} (h : OwnBytes B w v l) {k : Nat} {s : ByteArray} {pos : Nat} (hk : w.heap[k]? = some (.stringIter s pos)) (hg : w.grownBy w' v.ownBlock) : w'.heap[k]? = some (.stringIter s pos) :=
 (hg.block k (Array.getElem?_eq_some_iff.1 hk).1 (h.iter_ne hk)).trans hk
theorem conv_own {B : Nat} {w : World} {v : Value} {l : List UInt8} (h : OwnBytes B w v l) :
 (convert 169 9 v).run Tryz.prog w = .ok (.string ⟨l.toArray⟩) w := by
 by_cases hl : l = []
 · subst hl;obtain ⟨_, h0 | ⟨g, cap, cur, hv, _⟩⟩ := h
   · rw [h0.1, run_convert_bytes_string w _ _ 5 none 0 0 Tryz.underlying169 Tryz.underlying5 Tryz.underlying9];rfl
   · rw [hv];exact run_convert_bytes_back (P := Tryz.prog) w 169 9 5 ⟨g, 0, none⟩ cap [] Tryz.underlying169 Tryz.underlying5 Tryz.underlying9 (fun j hj => absurd hj (Nat.not_lt_zero j))
 · have hpos : 0 < l.length := List.length_pos_iff.2 hl;obtain ⟨g, cap, rfl, _⟩ := World.ownsRow.form h hpos;refine run_convert_bytes_back (P := Tryz.prog) w 169 9 5 ⟨g, 0, none⟩ cap l Tryz.underlying169 Tryz.underlying5 Tryz.underlying9 (fun j hj => ?_);rw [show (⟨g, 0, none⟩ : Addr).add j = ⟨g, j, none⟩ from (by simp [Addr.add]; exact Eq.symm), World.ownsRow.cellAt h j (by omega)];unfold byc;rw [List.getElem?_map, List.getElem?_eq_getElem hj];rfl
theorem runeCells_encL {c : Nat} (h : Scalar c) : Lib.runeCells (c : Int) = byc (encL (c : Int)) := by
 have hu := h;unfold Scalar at hu;unfold Lib.runeCells byc;rw [encL_of h];by_cases h1 : c < 128
 · rw [if_pos h1, Lib.encodeRuneZ_one (by omega) (by omega)];simp only [List.map_cons, List.map_nil]
   rw [toNat_of c (by omega)]
 rw [if_neg h1];by_cases h2 : c < 2048
 · rw [if_pos h2, Lib.encodeRuneZ_two (by omega) (by omega)];simp only [List.map_cons, List.map_nil]
   rw [toNat_of _ (by omega), toNat_of _ (by omega)];rfl
 rw [if_neg h2];by_cases h3 : c < 65536
 · rw [if_pos h3, Lib.encodeRuneZ_three (by omega)];simp only [List.map_cons, List.map_nil]
   rw [toNat_of _ (by omega), toNat_of _ (by omega), toNat_of _ (by omega)];rfl
 · rw [if_neg h3, Lib.encodeRuneZ_four (by omega) (by omega)];simp only [List.map_cons, List.map_nil]
   rw [toNat_of _ (by omega), toNat_of _ (by omega), toNat_of _ (by omega), toNat_of _ (by omega)];rfl
def QMem (B : Nat) (w : World) (q : Nat) (a : Int) (text : List UInt8) (num : Int) (dig : Nat) : Prop :=
 B <= q /\ ∃ v, w.heap[q]? = some (.cells #[.int .i64 a, v, .int .i32 num, .int .i64 (dig : Nat)] 171 (0, 0)) /\ OwnBytes B w v text
def QKeep (B : Nat) (w w' : World) : Prop := Below B w w' /\ ∀ (k : Nat) (s : ByteArray) (pos : Nat), w.heap[k]? = some (.stringIter s pos) -> w'.heap[k]? = some (.stringIter s pos)
theorem QKeep.refl (B : Nat) (w : World) : QKeep B w w := ⟨Below.refl _ _, fun _ _ _ h => h⟩
theorem QKeep.trans {B : Nat} {a b c : World} (h : QKeep B a b) (k : QKeep B b c) : QKeep B a c := ⟨h.1.trans k.1, fun i s p hi => k.2 i s p (h.2 i s p hi)⟩
theorem QKeep.setCell {B : Nat} {w w' : World} (h : QKeep B w w') {q i : Nat} {C : Array Value} {t : TypeId} {fz : Nat × Nat} (hB : B <= q) (hq : w'.heap[q]? = some (.cells C t fz)) (u : Value) : QKeep B w (w'.setCell ⟨q, i, none⟩ u) := by
 refine ⟨h.1.setCell hB u, fun k s pos hk => ?_⟩;have h1 := h.2 k s pos hk;have hne : k ≠ q := by rintro rfl; rw [h1] at hq; cases hq
 rw [Below.heap_setCell _ _ _ _ hne];exact h1
theorem QKeep.drew {B : Nat} {w w' : World} (h : QKeep B w w') : QKeep B w w'.drew := ⟨h.1.drew, h.2⟩
theorem OwnBytes.not_q {B : Nat} {w : World} {v : Value} {l : List UInt8} (h : OwnBytes B w v l) {q : Nat} {C : Array Value} {fz : Nat × Nat} (hq : w.heap[q]? = some (.cells C 171 fz)) : some q ≠ v.ownBlock := by
 intro e;obtain ⟨_, h0 | ⟨g, cap, cur, hv, _, hh, _⟩⟩ := h
 · rw [h0.1] at e; cases e
 · rw [hv] at e;have : q = g := Option.some.inj e;subst this;rw [hq] at hh;injection hh with hh;injection hh with _ h2 _;exact absurd h2 (by decide)
theorem OwnBytes.setCell {B : Nat} {w : World} {v : Value} {l : List UInt8} (h : OwnBytes B w v l) {q i : Nat} {C : Array Value} {fz : Nat × Nat} (hq : w.heap[q]? = some (.cells C 171 fz)) (u : Value) : OwnBytes B (w.setCell ⟨q, i, none⟩ u) v l := by
 have hne := h.not_q hq;obtain ⟨hl, h0 | ⟨g, cap, cur, hv, hbg, hh, r⟩⟩ := h
 · exact ⟨hl, .inl h0⟩
 · refine ⟨hl, .inr ⟨g, cap, cur, hv, hbg, ?_, r⟩⟩;rw [Below.heap_setCell _ _ _ _ (show g ≠ q from fun e => hne (by rw [hv, e]; rfl))];exact hh
theorem OwnBytes.slice {B : Nat} {w : World} {v : Value} {l : List UInt8} (h : OwnBytes B w v l) : ∃ ad n cap, v = .slice ad n cap := by
 obtain ⟨_, h0 | ⟨g, cap, cur, hv, _⟩⟩ := h
 · exact ⟨_, _, _, h0.1⟩
 · exact ⟨_, _, _, hv⟩
theorem cells4 {w : World} {q : Nat} {a b c d : Value} {t : TypeId} (h : w.heap[q]? = some (.cells #[a, b, c, d] t (0, 0))) :
 w.cell? ⟨q, 0, none⟩ = some a /\ w.cell? ⟨q, 1, none⟩ = some b /\ w.cell? ⟨q, 2, none⟩ = some c /\ w.cell? ⟨q, 3, none⟩ = some d /\ w.frozen? ⟨q, 0, none⟩ = false /\ w.frozen? ⟨q, 1, none⟩ = false /\ w.frozen? ⟨q, 2, none⟩ = false /\ w.frozen? ⟨q, 3, none⟩ = false := by
 simp [World.cell?, World.frozen?, h]
def QOut (B q : Nat) (w : World) (o : Option (Int × List UInt8 × Int × Nat)) (e : Ending) (w' : World) : Prop :=
 match o with
 | none => e = .returned (.bool false) /\ QKeep B w w'
 | some (a, t, m, d) => e = .returned (.bool true) /\ QMem B w' q a t m d /\ QKeep B w w'
set_option maxHeartbeats 2000000 in
theorem q_lay (B q : Nat) (w : World) (a num ci : Int) (text : List UInt8) (dig c : Nat) (hci : ci = c) (hs : Scalar c) (h : QMem B w q a text num dig) (hlen : text.length <= 1000000) :
 Calls Tryz.prog 186 #[.pointer (some ⟨q, 0, none⟩), .int .i32 ci] w (QOut B q w (some (1, text ++ encL ci, num, dig))) := by
 obtain ⟨hBq, v, hq, hown⟩ := h;obtain ⟨ad, ln, cap, rfl⟩ := hown.slice;obtain ⟨c0, c1, c2, c3, f0, f1, f2, f3⟩ := cells4 hq;have hqs : q < w.heap.size := (Array.getElem?_eq_some_iff.1 hq).1;have hrc := runeCells_encL hs;rw [<- hci] at hrc;have hsc := hs;unfold Scalar at hsc;have cA := Tryz.utf8_AppendRune_plain B (.slice ad ln cap) text.length (byc text) ci (by omega) (by omega) w hown (by omega) (by omega);rw [hrc] at cA;have HA := Lib.hid cA;have HQ := Lib.hid hq;clear cA hrc hci hs hsc hq;generalize encL ci = x at *;go_enter Tryz.func186, Tryz.ntmps186;go_wp2_with fail;refine HA.out.mono ?_; rintro e w1 ⟨v', rfl, hown1, o, hg⟩;have hq0 : (w.alloc o).heap[q]? = _ := (Below.heap_alloc w o q hqs).trans HQ.out;have hownA : OwnBytes B (w.alloc o) (.slice ad ln cap) text := World.ownsRow.alloc hown o;have hq1 : w1.heap[q]? = some (.cells #[.int .i64 a, .slice ad ln cap, .int .i32 num, .int .i64 (dig : Nat)] 171 (0, 0)) := by
  rw [hg.block q (Array.getElem?_eq_some_iff.1 hq0).1 (hownA.not_q hq0)]; exact hq0
 have hown2 : OwnBytes B w1 v' (text ++ x) := by
  unfold OwnBytes;rw [List.length_append, byc_append, <- byc_length x];exact hown1
 have hkeep : QKeep B w w1 := by
  refine ⟨((Below.refl B w).alloc (by omega) o).grown hg (by simp; omega) (fun k hk => (World.ownsRow.lt hown k hk).1), fun k s pos hk => ?_⟩;have hk1 : (w.alloc o).heap[k]? = some (.stringIter s pos) := (Below.heap_alloc w o k (Array.getElem?_eq_some_iff.1 hk).1).trans hk;exact grown_iter hownA hk1 hg
 obtain ⟨ad', ln', cap', rfl⟩ := hown2.slice;obtain ⟨g0, g1, g2, g3, k0, k1, k2, k3⟩ := cells4 hq1;have HQ1 := Lib.hid hq1;have HK := Lib.hid hkeep;have HO := Lib.hid hown2;clear hq0 hownA hown1 hg hown c0 c1 c2 c3 f0 f1 f2 f3 hq1 hkeep hown2 g2 g3 k2 k3;go_wp2_with fail;go_ret;have hq2 := Lib.heap_setCell_same (i := 1) HQ1.out (.slice ad' ln' cap');have hq3 := Lib.heap_setCell_same (i := 0) hq2 (.int .i64 1);exact ⟨rfl, ⟨hBq, .slice ad' ln' cap', by simpa using hq3, (HO.out.setCell HQ1.out _).setCell hq2 _⟩, (HK.out.setCell hBq HQ1.out _).setCell hBq hq2 _⟩
theorem scalar_small (c : Nat) (h : c < 55296) : Scalar c := .inl h
theorem QMem.at {B q : Nat} {w : World} {a num : Int} {text : List UInt8} {dig : Nat} (h : QMem B w q a text num dig) (a' : Int) : QMem B (w.setCell ⟨q, 0, none⟩ (.int .i64 a')) q a' text num dig /\ QKeep B w (w.setCell ⟨q, 0, none⟩ (.int .i64 a')) := by
 obtain ⟨hBq, v, hq, hown⟩ := h;have hq2 := Lib.heap_setCell_same (i := 0) hq (.int .i64 a');exact ⟨⟨hBq, v, by simpa using hq2, hown.setCell hq _⟩, (QKeep.refl B w).setCell hBq hq _⟩
theorem QMem.number {B q : Nat} {w : World} {a num : Int} {text : List UInt8} {dig : Nat} (h : QMem B w q a text num dig) (m : Int) : QMem B (w.setCell ⟨q, 2, none⟩ (.int .i32 m)) q a text m dig /\ QKeep B w (w.setCell ⟨q, 2, none⟩ (.int .i32 m)) := by
 obtain ⟨hBq, v, hq, hown⟩ := h;have hq2 := Lib.heap_setCell_same (i := 2) hq (.int .i32 m);exact ⟨⟨hBq, v, by simpa using hq2, hown.setCell hq _⟩, (QKeep.refl B w).setCell hBq hq _⟩
theorem QMem.digits {B q : Nat} {w : World} {a num : Int} {text : List UInt8} {dig : Nat} (h : QMem B w q a text num dig) (d : Nat) : QMem B (w.setCell ⟨q, 3, none⟩ (.int .i64 (d : Nat))) q a text num d /\ QKeep B w (w.setCell ⟨q, 3, none⟩ (.int .i64 (d : Nat))) := by
 obtain ⟨hBq, v, hq, hown⟩ := h;have hq2 := Lib.heap_setCell_same (i := 3) hq (.int .i64 (d : Nat));exact ⟨⟨hBq, v, by simpa using hq2, hown.setCell hq _⟩, (QKeep.refl B w).setCell hBq hq _⟩
theorem QMem.drew {B q : Nat} {w : World} {a num : Int} {text : List UInt8} {dig : Nat} (h : QMem B w q a text num dig) : QMem B w.drew q a text num dig := h
theorem QMem.cells {B q : Nat} {w : World} {a num : Int} {text : List UInt8} {dig : Nat} (h : QMem B w q a text num dig) :
 w.cell? ⟨q, 0, none⟩ = some (.int .i64 a) /\ w.cell? ⟨q, 2, none⟩ = some (.int .i32 num) /\ w.cell? ⟨q, 3, none⟩ = some (.int .i64 (dig : Nat)) /\ w.frozen? ⟨q, 0, none⟩ = false /\ w.frozen? ⟨q, 2, none⟩ = false /\ w.frozen? ⟨q, 3, none⟩ = false := by
 obtain ⟨_, v, hq, _⟩ := h;obtain ⟨c0, _, c2, c3, f0, _, f2, f3⟩ := cells4 hq;exact ⟨c0, c2, c3, f0, f2, f3⟩
set_option maxHeartbeats 2000000 in
theorem q_takeInside (B q : Nat) (w : World) (num ci : Int) (text : List UInt8) (dig c : Nat) (hci : ci = c) (hs : Scalar c) (h : QMem B w q 1 text num dig) (hlen : text.length <= 1000000) :
 Calls Tryz.prog 185 #[.pointer (some ⟨q, 0, none⟩), .int .i32 ci] w (QOut B q w (takeR 1 text num dig ci)) := by
 have hx : takeR 1 text num dig ci = (if ci = 39 then some (2, text, num, dig) else if ci = 92 then some (3, text, num, dig) else if ci < 32 then none else some (1, text ++ encL ci, num, dig)) := rfl;rw [hx];clear hx;have HL := Lib.hid (q_lay B q w 1 num ci text dig c hci hs h hlen);obtain ⟨c0, c2, c3, f0, f2, f3⟩ := h.cells;have HM := Lib.hid h;have h0 : 0 <= ci := by omega
 clear h hs hci c2 c3 f2 f3;by_cases h1 : ci = 39
 · rw [if_pos h1];subst h1;go_enter Tryz.func185, Tryz.ntmps185;go_wp2_with fail;go_ret;exact ⟨rfl, HM.out.at 2⟩
 rw [if_neg h1];have e39 : (ci == 39) = false := by simpa using h1
 by_cases h2 : ci = 92
 · rw [if_pos h2];subst h2;clear h1;go_enter Tryz.func185, Tryz.ntmps185;go_wp2_with fail;go_ret;exact ⟨rfl, HM.out.at 3⟩
 rw [if_neg h2];have e92 : (ci == 92) = false := by simpa using h2
 by_cases h3 : ci < 32
 · rw [if_pos h3];clear h1 h2;go_enter Tryz.func185, Tryz.ntmps185;go_wp2_with fail;go_ret;exact ⟨rfl, QKeep.refl _ _⟩
 rw [if_neg h3];have h4 : 32 <= ci := by omega
 clear h1 h2 h3;go_enter Tryz.func185, Tryz.ntmps185;go_wp2_with fail;refine HL.out.mono ?_; rintro e w1 ⟨rfl, hm, hk⟩;go_wp2_with fail;go_ret;exact ⟨rfl, hm, hk⟩
set_option maxHeartbeats 2000000 in
theorem q_takeEscaped (B q : Nat) (w : World) (num ci : Int) (text : List UInt8) (dig c : Nat) (hci : ci = c) (hs : Scalar c) (h : QMem B w q 3 text num dig) (hlen : text.length <= 1000000) :
 Calls Tryz.prog 187 #[.pointer (some ⟨q, 0, none⟩), .int .i32 ci] w (QOut B q w (takeR 3 text num dig ci)) := by
 have hx : takeR 3 text num dig ci = (if ci = 92 \/ ci = 39 then some (1, text ++ encL ci, num, dig) else if ci = 110 then some (1, text ++ encL 10, num, dig) else if ci = 116 then some (1, text ++ encL 9, num, dig) else if ci = 120 then some (4, text, 0, 0) else none) := rfl;rw [hx];clear hx;have HL := Lib.hid (q_lay B q w 3 num ci text dig c hci hs h hlen);have HN := Lib.hid (q_lay B q w 3 num 10 text dig 10 rfl (scalar_small 10 (by decide)) h hlen);have HT := Lib.hid (q_lay B q w 3 num 9 text dig 9 rfl (scalar_small 9 (by decide)) h hlen);obtain ⟨c0, c2, c3, f0, f2, f3⟩ := h.cells;have HM := Lib.hid h;clear h hs hci;by_cases h1 : ci = 92 \/ ci = 39
 · rw [if_pos h1];clear HN HT;rcases h1 with rfl | rfl
   all_goals
    go_enter Tryz.func187, Tryz.ntmps187;go_wp2_with fail;refine HL.out.mono ?_; rintro e w1 ⟨rfl, hm, hk⟩;go_wp2_with fail;go_ret;exact ⟨rfl, hm, hk⟩
 rw [if_neg h1];have e92 : (ci == 92) = false := by simp; omega
 have e39 : (ci == 39) = false := by simp; omega
 clear h1 HL;by_cases h2 : ci = 110
 · rw [if_pos h2];subst h2;go_enter Tryz.func187, Tryz.ntmps187;go_wp2_with fail;refine HN.out.mono ?_; rintro e w1 ⟨rfl, hm, hk⟩;go_wp2_with fail;go_ret;exact ⟨rfl, hm, hk⟩
 rw [if_neg h2];by_cases h3 : ci = 116
 · rw [if_pos h3];subst h3;clear h2;go_enter Tryz.func187, Tryz.ntmps187;go_wp2_with fail;refine HT.out.mono ?_; rintro e w1 ⟨rfl, hm, hk⟩;go_wp2_with fail;go_ret;exact ⟨rfl, hm, hk⟩
 rw [if_neg h3];by_cases h4 : ci = 120
 · rw [if_pos h4];subst h4;clear h2 h3;go_enter Tryz.func187, Tryz.ntmps187;go_wp2_with fail;go_ret;have m1 := HM.out.at 4;have m2 := m1.1.number 0;have m3 := m2.1.digits 0;exact ⟨rfl, m3.1, (m1.2.trans m2.2).trans m3.2⟩
 rw [if_neg h4];have e110 : (ci == 110) = false := by simpa using h2
 have e116 : (ci == 116) = false := by simpa using h3
 have e120 : (ci == 120) = false := by simpa using h4
 clear h2 h3 h4;go_enter Tryz.func187, Tryz.ntmps187;go_wp2_with fail;go_ret;exact ⟨rfl, QKeep.refl _ _⟩
def hexOk (c : Int) : Bool := decide (0 <= hexC c)
def hexN (c : Int) : Int := if 0 <= hexC c then hexC c else 0
set_option maxHeartbeats 2000000 in
theorem dev_hexValue (c : Int) (w : World) :
 Calls Tryz.prog 198 #[.int .i32 c] w fun e w' => e = .returned (.tuple #[.int .i32 (hexN c), .bool (hexOk c)]) /\ w = w' := by
 unfold hexN hexOk hexC;by_cases h1 : 48 <= c /\ c <= 57
 · rw [if_pos h1, if_pos (by omega), decide_eq_true (by omega)];obtain ⟨h1a, h1b⟩ := h1;go_enter Tryz.func198, Tryz.ntmps198;go_wp2_with fail;go_ret2;exact ⟨rfl, rfl⟩
 rw [if_neg h1];by_cases h2 : 97 <= c /\ c <= 102
 · rw [if_pos h2, if_pos (by omega), decide_eq_true (by omega), show c - 87 = c - 97 + 10 by omega];obtain ⟨h2a, h2b⟩ := h2;clear h1;go_enter Tryz.func198, Tryz.ntmps198;go_wp2_with fail;go_ret2;exact ⟨rfl, rfl⟩
 rw [if_neg h2];by_cases h3 : 65 <= c /\ c <= 70
 · rw [if_pos h3, if_pos (by omega), decide_eq_true (by omega), show c - 55 = c - 65 + 10 by omega];obtain ⟨h3a, h3b⟩ := h3;clear h1 h2;go_enter Tryz.func198, Tryz.ntmps198;go_wp2_with fail;go_ret2;exact ⟨rfl, rfl⟩
 rw [if_neg h3, if_neg (by decide), decide_eq_false (by decide)];have hr : c < 48 \/ (58 <= c /\ c < 65) \/ (71 <= c /\ c < 97) \/ 103 <= c := by omega
 clear h1 h2 h3;rcases hr with hr | ⟨hr, hr2⟩ | ⟨hr, hr2⟩ | hr
 all_goals
  go_enter Tryz.func198, Tryz.ntmps198;go_wp2_with fail;go_ret2;exact ⟨rfl, rfl⟩
theorem takeR4 (text : List UInt8) (num : Int) (dig : Nat) (c : Int) : takeR 4 text num dig c = (if c = 92 then (if 0 < dig /\ Lib.validRune num = true then some (1, text ++ encL num, num, dig) else none) else if hexC c < 0 \/ dig = 6 then none else some (4, text, num * 16 + hexC c, dig + 1)) := rfl
set_option maxHeartbeats 2000000 in
theorem q_coded_end (B q : Nat) (w : World) (num : Int) (text : List UInt8) (dig : Nat) (hn0 : 0 <= num) (hd6 : dig <= 6) (h : QMem B w q 4 text num dig) (hlen : text.length <= 1000000) :
 Calls Tryz.prog 188 #[.pointer (some ⟨q, 0, none⟩), .int .i32 92] w (QOut B q w (if 0 < dig /\ Lib.validRune num = true then some (1, text ++ encL num, num, dig) else none)) := by
 have HV := Lib.hid (Tryz.utf8_ValidRune num w);obtain ⟨c0, c2, c3, f0, f2, f3⟩ := h.cells;by_cases hd : 0 < dig
 · have hd1 : (0 : Int) < (dig : Int) := by omega
   by_cases hv : Lib.validRune num = true
   · rw [if_pos ⟨hd, hv⟩];have hV := HV.out;rw [hv] at hV;have HV2 := Lib.hid hV;have hsc : Scalar num.toNat := by
      unfold Lib.validRune at hv;rw [decide_eq_true_eq] at hv;unfold Scalar;omega
     have HL := Lib.hid (q_lay B q w 4 num num text dig num.toNat (by omega) hsc h hlen);clear h hsc hv hV HV hd;go_enter Tryz.func188, Tryz.ntmps188;go_wp2_with fail;refine HV2.out.mono ?_; rintro e w' ⟨rfl, rfl⟩;go_wp2_with fail;refine HL.out.mono ?_; rintro e w1 ⟨rfl, hm, hk⟩;go_wp2_with fail;go_ret;exact ⟨rfl, hm, hk⟩
   · rw [if_neg (fun e => hv e.2)];have hV := HV.out;rw [show Lib.validRune num = false by simpa using hv] at hV;have HV2 := Lib.hid hV;clear h hv hV HV hd;go_enter Tryz.func188, Tryz.ntmps188;go_wp2_with fail;refine HV2.out.mono ?_; rintro e w' ⟨rfl, rfl⟩;go_wp2_with fail;go_ret;exact ⟨rfl, QKeep.refl _ _⟩
 · rw [if_neg (fun e => hd e.1)];obtain rfl : dig = 0 := by omega
   clear h HV hd;go_enter Tryz.func188, Tryz.ntmps188;go_wp2_with fail;go_ret;exact ⟨rfl, QKeep.refl _ _⟩
set_option maxRecDepth 100000 in
set_option maxHeartbeats 4000000 in
theorem q_takeCoded (B q : Nat) (w : World) (num ci : Int) (text : List UInt8) (dig : Nat) (hn0 : 0 <= num) (hd6 : dig <= 6) (hn5 : dig ≠ 6 -> num < 1048576) (h : QMem B w q 4 text num dig) (hlen : text.length <= 1000000) :
 Calls Tryz.prog 188 #[.pointer (some ⟨q, 0, none⟩), .int .i32 ci] w (QOut B q w (takeR 4 text num dig ci)) := by
 rw [takeR4];by_cases h1 : ci = 92
 · rw [if_pos h1];subst h1;exact q_coded_end B q w num text dig hn0 hd6 h hlen
 rw [if_neg h1];have e92 : (ci == 92) = false := by simpa using h1
 have hX := fun w => dev_hexValue ci w;obtain ⟨c0, c2, c3, f0, f2, f3⟩ := h.cells;have hrg := hexC_range ci;have HM := Lib.hid h;clear h h1 hlen;by_cases h2 : hexC ci < 0
 · rw [if_pos (.inl h2)];rw [show hexOk ci = false from decide_eq_false (by omega)] at hX;have HX := Lib.hid hX;generalize hexN ci = m at *;clear hX h2 hrg hn5;go_enter Tryz.func188, Tryz.ntmps188;go_wp2_with fail;refine (HX.out _).mono ?_; rintro e w' ⟨rfl, rfl⟩;go_wp2_with fail;go_ret;exact ⟨rfl, QKeep.refl _ _⟩
 rw [show hexOk ci = true from decide_eq_true (by omega), show hexN ci = hexC ci from if_pos (by omega)] at hX;have hm0 : 0 <= hexC ci := by omega
 have hm1 : hexC ci <= 15 := hrg.2;have HX := Lib.hid hX;clear hX hrg;by_cases h6 : dig = 6
 · rw [if_pos (.inr h6)];subst h6;clear h2 hn5;generalize hexC ci = m at *;go_enter Tryz.func188, Tryz.ntmps188;go_wp2_with fail;refine (HX.out _).mono ?_; rintro e w' ⟨rfl, rfl⟩;go_wp2_with fail;go_ret;exact ⟨rfl, QKeep.refl _ _⟩
 rw [if_neg (by omega)];have hn5' := hn5 h6;have e6 : ((dig : Int) == 6) = false := by simp; omega
 clear h2 hn5;generalize hexC ci = m at *;go_enter Tryz.func188, Tryz.ntmps188;go_wp2_with fail;refine (HX.out _).mono ?_; rintro e w' ⟨rfl, rfl⟩;go_wp2_with fail;go_region
 all_goals
  go_wp2_with fail;go_ret;have m1 := HM.out.drew.number (num * 16 + m);have m2 := m1.1.digits (dig + 1);exact ⟨rfl, m2.1, ((QKeep.refl B w).drew.trans m1.2).trans m2.2⟩
set_option maxHeartbeats 2000000 in
theorem q_take (B q : Nat) (w : World) (a num ci : Int) (text : List UInt8) (dig c : Nat) (hci : ci = c) (hs : Scalar c) (ha : 0 <= a /\ a <= 4 /\ (a = 4 -> 0 <= num /\ num < 16777216 /\ dig <= 6 /\ (dig ≠ 6 -> num < 1048576))) (h : QMem B w q a text num dig) (hlen : text.length <= 1000000) :
 Calls Tryz.prog 168 #[.pointer (some ⟨q, 0, none⟩), .int .i32 ci] w (QOut B q w (takeR a text num dig ci)) := by
 obtain ⟨ha0, ha1, ha4⟩ := ha;have hac : a = 0 \/ a = 1 \/ a = 2 \/ a = 3 \/ a = 4 := by omega
 obtain ⟨c0, c2, c3, f0, f2, f3⟩ := h.cells;clear ha0 ha1;rcases hac with rfl | rfl | rfl | rfl | rfl
 · rw [show takeR 0 text num dig ci = (if ci = 39 then some (1, text, num, dig) else none) from rfl];have HM := Lib.hid h;clear h hs hci ha4;by_cases h1 : ci = 39
   · rw [if_pos h1];subst h1;go_enter Tryz.func168, Tryz.ntmps168;go_wp2_with fail;go_ret;exact ⟨rfl, HM.out.at 1⟩
   · rw [if_neg h1];have e1 : (ci == 39) = false := by simpa using h1
     clear h1;go_enter Tryz.func168, Tryz.ntmps168;go_wp2_with fail;go_ret;exact ⟨rfl, (HM.out.at 1).2⟩
 · have HC := Lib.hid (q_takeInside B q w num ci text dig c hci hs h hlen);generalize takeR 1 text num dig ci = o at *;clear h hs hci ha4;go_enter Tryz.func168, Tryz.ntmps168;go_wp2_with fail;refine HC.out.mono ?_; intro e w1 ho;cases o with
   | none =>
    obtain ⟨rfl, hk⟩ := ho;go_wp2_with fail;go_ret;exact ⟨rfl, hk⟩
   | some y =>
    obtain ⟨rfl, hm, hk⟩ := ho;go_wp2_with fail;go_ret;exact ⟨rfl, hm, hk⟩
 · rw [show takeR 2 text num dig ci = (if ci = 39 then some (1, text ++ encL ci, num, dig) else none) from rfl];have HL := Lib.hid (q_lay B q w 2 num ci text dig c hci hs h hlen);clear h hs hci ha4;by_cases h1 : ci = 39
   · rw [if_pos h1];subst h1;go_enter Tryz.func168, Tryz.ntmps168;go_wp2_with fail;refine HL.out.mono ?_; rintro e w1 ⟨rfl, hm, hk⟩;go_wp2_with fail;go_ret;exact ⟨rfl, hm, hk⟩
   · rw [if_neg h1];have e1 : (ci == 39) = false := by simpa using h1
     clear h1;go_enter Tryz.func168, Tryz.ntmps168;go_wp2_with fail;go_ret;exact ⟨rfl, QKeep.refl _ _⟩
 · have HC := Lib.hid (q_takeEscaped B q w num ci text dig c hci hs h hlen);generalize takeR 3 text num dig ci = o at *;clear h hs hci ha4;go_enter Tryz.func168, Tryz.ntmps168;go_wp2_with fail;refine HC.out.mono ?_; intro e w1 ho;cases o with
   | none =>
    obtain ⟨rfl, hk⟩ := ho;go_wp2_with fail;go_ret;exact ⟨rfl, hk⟩
   | some y =>
    obtain ⟨rfl, hm, hk⟩ := ho;go_wp2_with fail;go_ret;exact ⟨rfl, hm, hk⟩
 · obtain ⟨hn0, hn1, hd6, hn5⟩ := ha4 rfl;have HC := Lib.hid (q_takeCoded B q w num ci text dig hn0 hd6 hn5 h hlen);generalize takeR 4 text num dig ci = o at *;clear h hs hci ha4 hn5;go_enter Tryz.func168, Tryz.ntmps168;go_wp2_with fail;refine HC.out.mono ?_; intro e w1 ho;cases o with
   | none =>
    obtain ⟨rfl, hk⟩ := ho;go_wp2_with fail;go_ret;exact ⟨rfl, hk⟩
   | some y =>
    obtain ⟨rfl, hm, hk⟩ := ho;go_wp2_with fail;go_ret;exact ⟨rfl, hm, hk⟩
set_option maxHeartbeats 2000000 in
theorem dev_broken (s : ByteArray) (ci : Int) (c n : Nat) (hci : ci = c) (w : World) (hT : Tabs w) (hd : Lib.decodeGo s = (c, n)) :
 Calls Tryz.prog 167 #[.string s, .int .i32 ci] w fun e w' => e = .returned (.bool (decide (c = 65533 /\ n = 1))) /\ Below w.heap.size w w' := by
 have cD := Tryz.utf8_DecodeRuneInString s w hT.1;rw [hd] at cD;have HD := Lib.hid cD;clear cD hT hd;by_cases h1 : c = 65533
 · by_cases h2 : n = 1
   · rw [decide_eq_true ⟨h1, h2⟩];have e1 : (ci != 65533) = false := by simp; omega
     have e2 : ((n : Int) == 1) = true := by simp; omega
     clear hci h1 h2;go_enter Tryz.func167, Tryz.ntmps167;go_wp2_with fail;refine HD.out.mono ?_; rintro e w1 ⟨rfl, hb⟩;go_wp2_with fail;go_ret;exact ⟨rfl, hb⟩
   · rw [decide_eq_false (fun h => h2 h.2)];have e1 : (ci != 65533) = false := by simp; omega
     have e2 : ((n : Int) == 1) = false := by simp; omega
     clear hci h1 h2;go_enter Tryz.func167, Tryz.ntmps167;go_wp2_with fail;refine HD.out.mono ?_; rintro e w1 ⟨rfl, hb⟩;go_wp2_with fail;go_ret;exact ⟨rfl, hb⟩
 · rw [decide_eq_false (fun h => h1 h.1)];have e1 : (ci != 65533) = true := by simp; omega
   clear hci h1 HD;go_enter Tryz.func167, Tryz.ntmps167;go_wp2_with fail;go_ret;exact ⟨rfl, Below.refl _ _⟩
theorem QMem.below {B q : Nat} {w w' : World} {a num : Int} {text : List UInt8} {dig : Nat} (h : QMem B w q a text num dig) (hb : Below w.heap.size w w') : QMem B w' q a text num dig := by
 obtain ⟨hBq, v, hq, hown⟩ := h;exact ⟨hBq, v, (hb.block q (Array.getElem?_eq_some_iff.1 hq).1).trans hq, hown.below hb⟩
theorem QMem.iterAt {B q : Nat} {w : World} {a num : Int} {text : List UInt8} {dig : Nat} (h : QMem B w q a text num dig) {k : Nat} {s : ByteArray} {pos : Nat} (hk : w.heap[k]? = some (.stringIter s pos)) (pos' : Nat) : QMem B (w.iterAt k s pos') q a text num dig := by
 obtain ⟨hBq, v, hq, hown⟩ := h;have hne : q ≠ k := by rintro rfl; rw [hk] at hq; cases hq
 exact ⟨hBq, v, by rw [Lib.iterAt_other w k q s pos' hne]; exact hq, hown.iterAt hk pos'⟩
theorem alloc_heap (w : World) (o : Obj) : (w.alloc o).heap[w.heap.size]? = some o := Array.getElem?_push_size
theorem takeR_length (a : Int) (text : List UInt8) (num : Int) (dig : Nat) (c : Int) : takeR a text num dig c = none \/ ∃ a' t' m' d', takeR a text num dig c = some (a', t', m', d') /\ t'.length <= text.length + 4 := by
 have he : ∀ r, (text ++ encL r).length <= text.length + 4 := fun r => by have := (encL_length r).2; rw [List.length_append]; omega
 have h0 : text.length <= text.length + 4 := by omega
 unfold takeR;repeat' split
 all_goals first | exact .inl rfl | exact .inr ⟨_, _, _, _, rfl, he _⟩ | exact .inr ⟨_, _, _, _, rfl, h0⟩
def RSt (s : ByteArray) (w : World) (ev : Value) (wr : World) : Prop := ∃ (pos : Nat) (a : Int) (text : List UInt8) (num : Int) (dig : Nat), ev = .int .i64 (s.size : Nat) /\ pos <= s.size /\ text.length <= 4 * pos /\ wr.heap[w.heap.size + 1]? = some (.stringIter s pos) /\ Below w.heap.size w wr /\ QMem w.heap.size wr w.heap.size a text num dig /\ QSt s.data.toList pos a text num dig
set_option maxRecDepth 100000 in
set_option maxHeartbeats 4000000 in
theorem char_Read (s : ByteArray) (w : World) (hs : s.size <= 200000) (hT : Tabs w) :
 Calls Tryz.prog 141 #[.string s] w fun e w' =>
  e = .returned (.tuple #[.string ⟨(readS s.data.toList).toArray⟩, .int .i64 (readK s.data.toList : Nat), .int .i64 (readX s.data.toList)]) /\ Below w.heap.size w w' := by
 have HT := Lib.hid hT;clear hT;go_enter Tryz.func141, Tryz.ntmps141;go_wp2_with fail;go_loopw [6] (fun ev wr => RSt s w ev wr) (fun _ wr => s.size - wr.iterPos (w.heap.size + 1))
 case atStart =>
  have hz : (w.alloc (.cells #[.int .i64 0, .slice none 0 0, .int .i32 0, .int .i64 0] 171)).heap.size = w.heap.size + 1 := by simp
  have hn : (w.alloc (.cells #[.int .i64 0, .slice none 0 0, .int .i32 0, .int .i64 0] 171)).heap[w.heap.size]? = some (.cells #[.int .i64 0, .slice none 0 0, .int .i32 0, .int .i64 0] 171 (0, 0)) := alloc_heap w _;have hb1 : Below w.heap.size w (w.alloc (.cells #[.int .i64 0, .slice none 0 0, .int .i32 0, .int .i64 0] 171)) := (Below.refl _ w).alloc (Nat.le_refl _) _;generalize (w.alloc (.cells #[.int .i64 0, .slice none 0 0, .int .i32 0, .int .i64 0] 171)) = W1 at *;have hit : (W1.iter s 0).heap[W1.heap.size]? = some (.stringIter s 0) := by simpa using World.iter_heap W1 s 0
  rw [hz] at hit;refine ⟨0, 0, [], 0, 0, rfl, Nat.zero_le _, Nat.le_refl _, hit, hb1.alloc (by omega) _, ⟨Nat.le_refl _, .slice none 0 0, ?_, World.ownsRow_nil _ _ _ _⟩, .inl ⟨rfl, rfl, rfl⟩⟩;exact (Below.heap_alloc W1 (.stringIter s 0) w.heap.size (by omega)).trans hn
 case round =>
  obtain ⟨pos, a, text, num, dig, rfl, hpos, htl, hit, hbw, hm, hst⟩ := hrel;have hsz2 : w.heap.size + 1 < wr.heap.size := (Array.getElem?_eq_some_iff.1 hit).1;have hat := hst.at;by_cases hp : pos < s.size
  · have hne := drop_ne s pos hp;have hnx : ∀ ty, (Instr.next (.pointer (some ⟨w.heap.size + 1, 0, none⟩)) true ty).run Tryz.prog wr = _ := fun ty => Lib.run_next_any_at wr (w.heap.size + 1) s pos ty hit hp;have hit2 := Lib.iterAt_heap wr (w.heap.size + 1) s pos (pos + (Utf8.decode s pos).2) hit;have hbw2 := Lib.below_iterAt hbw (k := w.heap.size + 1) (by omega) s (pos + (Utf8.decode s pos).2);have hm2 := hm.iterAt hit (pos + (Utf8.decode s pos).2);have hfit := decode_fits s pos hp;have hxz : (s.extract pos s.size).size ≠ 0 := by simp; omega
    have hdg : Lib.decodeGo (s.extract pos s.size) = Utf8.decode s pos := by rw [decodeGo_eq _ hxz, extract_drop, Lib.decodeL_drop]
    have hstep := fun hb h2 => hst.step hne hb h2;have hbad := fun hb h2 => hst.bad hne hb h2;have hshut : a = 2 -> (Lib.decodeL (s.data.toList.drop pos)).1 ≠ 39 -> readL s.data.toList = some (text, pos) := fun h1 h2 => by subst h1; exact hst.shut (.inr h2)
    have hsca := fun hb => (encL_decodeL (s.data.toList.drop pos) hne hb).1;rw [Lib.decodeL_drop] at hstep hbad hshut hsca;have HSTEP := Lib.hid hstep;have HBAD := Lib.hid hbad;have HSHUT := Lib.hid hshut;have HSCA := Lib.hid hsca;have HDG := Lib.hid hdg;have HAT := Lib.hid hat;have HWW := Lib.hid hsz2;clear hstep hbad hshut hsca hdg hxz hne hst hm hat;generalize wr.iterAt (w.heap.size + 1) s (pos + (Utf8.decode s pos).2) = W2 at hnx hit2 hbw2 hm2;have hpair : (Utf8.decode s pos) = ((Utf8.decode s pos).1, (Utf8.decode s pos).2) := rfl;rw [hpair] at HDG;clear hpair;generalize (Utf8.decode s pos).1 = c at *;generalize (Utf8.decode s pos).2 = n at *;obtain ⟨hf1, hf2⟩ := hfit;obtain ⟨ci, hci⟩ : ∃ ci : Int, (c : Int) = ci := ⟨_, rfl⟩;rw [hci] at hnx;have HCI := Lib.hid hci;by_cases hbr : a = 2 /\ c ≠ 39
    · obtain ⟨rfl, hc39⟩ := hbr;have HR := Lib.hid (read_some (HSHUT.out rfl hc39));have e39 : (ci != 39) = true := by rw [<- hci]; simp; omega
      obtain ⟨hBq, v, hq, hown⟩ := hm2;obtain ⟨ad, ln, cap, rfl⟩ := hown.slice;obtain ⟨c0, c1, c2, c3, f0, f1, f2, f3⟩ := cells4 hq;have hcv := conv_own hown;clear hci HCI HSTEP HBAD HSHUT HSCA HDG HAT hq hown hc39;go_wp2_with fail;go_ret3;exact ⟨ret_three (by rw [HR.out.1]) (by rw [HR.out.2.1]) (by rw [HR.out.2.2]), hbw2⟩
    · obtain ⟨c0, c2, c3, f0, f2, f3⟩ := hm2.cells;have hg : (a == 2) = false \/ ((a == 2) = true /\ (ci != 39) = false) := by
       by_cases h2 : a = 2
       · right; exact ⟨by simpa using h2, by rw [<- hci]; simp; omega⟩
       · left; simpa using h2
      have hB := dev_broken (s.extract pos s.size) ci c n hci.symm W2 (HT.out.on hbw2) HDG.out;have hsW := hbw2.size;by_cases hbk : c = 65533 /\ n = 1
      · rw [decide_eq_true hbk] at hB;have HB := Lib.hid hB;have HR := Lib.hid (read_none (HBAD.out hbk (fun h2 => hbr ⟨h2, by omega⟩)));clear hci HCI HSTEP HBAD HSHUT HSCA HDG HAT hbr hbk hB;rcases hg with hg | ⟨hg, hg2⟩
        all_goals
         go_wp2_with fail;refine HB.out.mono ?_; rintro e w3 ⟨rfl, hb3⟩;have hbw3 := hbw2.trans (hb3.mono hsW);clear hb3;go_wp2_with fail;go_ret3;exact ⟨ret_three (by rw [HR.out.1]) (by rw [HR.out.2.1]; rfl) (by rw [HR.out.2.2]), hbw3⟩
      · rw [decide_eq_false hbk] at hB;have HB := Lib.hid hB;have hS := HSTEP.out hbk hbr;have hsc := HSCA.out hbk;rw [hci] at hS;have HTK := Lib.hid (fun w3 hm3 => q_take w.heap.size w.heap.size w3 a num ci text dig c hci.symm hsc HAT.out hm3 (by omega));have HS := Lib.hid hS;have HM2 := Lib.hid hm2;have hel : (takeR a text num dig ci = none) \/ ∃ a' t' m' d', takeR a text num dig ci = some (a', t', m', d') /\ t'.length <= text.length + 4 := by
         exact takeR_length a text num dig ci
        clear hci HCI HSTEP HBAD HSHUT HSCA HDG HAT hbr hbk hB hS hsc hm2;generalize takeR a text num dig ci = o at *;have HEL := Lib.hid hel;clear hel;rcases hg with hg | ⟨hg, hg2⟩
        all_goals
         go_wp2_with fail;refine HB.out.mono ?_; rintro e w3 ⟨rfl, hb3⟩;have hm3 := HM2.out.below hb3;have hit3 := (hb3.block _ (Array.getElem?_eq_some_iff.1 hit2).1).trans hit2;have hbw3 := hbw2.trans (hb3.mono hsW);clear hb3;go_wp2_with fail;refine (HTK.out w3 hm3).mono ?_; intro e w4 ho;rcases HEL.out with rfl | ⟨a', t', m', d', rfl, hel⟩
         · obtain ⟨rfl, hk⟩ := ho;have hbw4 := hbw3.trans hk.1;have HR := Lib.hid (read_none HS.out);clear hk HS;go_wp2_with fail;go_ret3;exact ⟨ret_three (by rw [HR.out.1]) (by rw [HR.out.2.1]; rfl) (by rw [HR.out.2.2]), hbw4⟩
         · obtain ⟨rfl, hm4, hk⟩ := ho;have hbw4 := hbw3.trans hk.1;have hit4 := hk.2 _ _ _ hit3;have HS' : Hid (QSt s.data.toList (pos + n) a' t' m' d') := Lib.hid HS.out;clear hk HS;go_wp2_with fail;go_roundw
           case rel => exact ⟨pos + n, a', t', m', d', rfl, by omega, by omega, hit4, hbw4, hm4, HS'.out⟩
           case measure =>
            simp only [World.iterPos, hit4, hit]
            omega
  · have hnx : ∀ ty, (Instr.next (.pointer (some ⟨w.heap.size + 1, 0, none⟩)) true ty).run Tryz.prog wr = _ := fun ty => Lib.run_next_end_at wr (w.heap.size + 1) s pos ty hit hp;have hnil : s.data.toList.drop pos = [] := List.drop_eq_nil_of_le (by rw [size_list]; omega);obtain ⟨hBq, v, hq, hown⟩ := hm;obtain ⟨ad, ln, cap, rfl⟩ := hown.slice;obtain ⟨c0, c1, c2, c3, f0, f1, f2, f3⟩ := cells4 hq;have hcv := conv_own hown;obtain rfl : pos = s.size := by omega
    by_cases h2 : a = 2
    · subst h2;have HR := Lib.hid (read_some (hst.shut (.inl hnil)));clear hst hnil hq hown hat;go_wp2_with fail;go_ret3;exact ⟨ret_three (by rw [HR.out.1]) (by rw [HR.out.2.1]) (by rw [HR.out.2.2]), hbw⟩
    · have HR := Lib.hid (read_none (hst.over hnil h2));have e2 : (a != 2) = true := by simpa using h2
      clear hst hnil hq hown hat h2;go_wp2_with fail;go_ret3;exact ⟨ret_three (by rw [HR.out.1]) (by rw [HR.out.2.1]; rfl) (by rw [HR.out.2.2]), hbw⟩
end Go.Proofs.YtinefdlkajnomaaGreatDoor
