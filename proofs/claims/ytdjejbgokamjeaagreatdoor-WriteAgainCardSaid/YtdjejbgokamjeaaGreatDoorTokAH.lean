import Derived.Test.YtdjejbgokamjeaaGreatDoorCharDJ
import Derived.Test.YtdjejbgokamjeaaGreatDoorTkM
import Derived.Test.YtdjejbgokamjeaaGreatDoorShelf2
import Derived.Lib.CutLaws
import Derived.Laws.AppendOwn
import Derived.Laws.OwnMore
import Derived.Deep.AppendLies
namespace Go.Proofs.YtdjejbgokamjeaaGreatDoor
open Go.RowKit
theorem ret_intT {a b : Int} (h : a = b) : Ending.returned (.int .i64 a) = .returned (.int .i64 b) := by rw [h]
theorem ret_boolT {a b : Bool} (h : a = b) : Ending.returned (.bool a) = .returned (.bool b) := by rw [h]
def TabsT (w : World) : Prop := Tabs w /\ True
theorem TabsT.on {w w' : World} (h : TabsT w) (hb : Below w.heap.size w w') : TabsT w' := ⟨h.1.on hb, trivial⟩
def lxv (x : Lx) : Value := .agg #[.int .i64 x.kind, .string ⟨x.text.toArray⟩, .int .i64 x.n, .int .i64 0]
def lxr (x : Lx) : Value := .tuple #[lxv x, .int .i64 (x.w : Nat)]
theorem ext_drop (s : ByteArray) (n : Nat) : s.extract n s.size = ⟨(s.data.toList.drop n).toArray⟩ := by
 rw [Lib.extract_eq];congr 1
 rw [List.take_of_length_le (by rw [List.length_drop]; simp)]
theorem size_listT (s : ByteArray) : s.data.toList.length = s.size := by simp
theorem size_mk (l : List UInt8) : (⟨l.toArray⟩ : ByteArray).size = l.length := by show l.toArray.size = _; simp
theorem kept_at {w w1 : World} {q : Nat} {o : Obj} (hb : Below w.heap.size w w1) (hq : w.heap[q]? = some o) : w1.heap[q]? = some o := (hb.block q (Array.getElem?_eq_some_iff.1 hq).1).trans hq
theorem new_at (w : World) (o : Obj) : (w.alloc o).heap[w.heap.size]? = some o := by unfold World.alloc; simp
theorem past_at {w : World} {q : Nat} {o : Obj} (hq : w.heap[q]? = some o) (o2 : Obj) : (w.alloc o2).heap[q]? = some o := (Below.heap_alloc w o2 q (Array.getElem?_eq_some_iff.1 hq).1).trans hq
def tcell (k : Int) (t : List UInt8) (n at_ : Int) : Obj := .cells #[.int .i64 k, .string ⟨t.toArray⟩, .int .i64 n, .int .i64 at_] 55 (0, 0)
def zcell : Obj := .cells #[.int .i64 0, .string ⟨#[]⟩, .int .i64 0, .int .i64 0] 55 (0, 0)
theorem below_set4 {B : Nat} {a w : World} (h : Below B a w) {q : Nat} (hB : B <= q) (v0 v1 v2 v3 : Value) : Below B a ((((w.setCell ⟨q, 0, none⟩ v0).setCell ⟨q, 1, none⟩ v1).setCell ⟨q, 2, none⟩ v2).setCell ⟨q, 3, none⟩ v3) :=
 (((h.setCell (p := ⟨q, 0, none⟩) hB v0).setCell (p := ⟨q, 1, none⟩) hB v1).setCell (p := ⟨q, 2, none⟩) hB v2).setCell (p := ⟨q, 3, none⟩) hB v3
theorem below_drewN {B : Nat} {a w : World} (h : Below B a w) (n : Nat) : Below B a (w.drewN n) := ⟨h.os, h.tape, h.output, h.size, h.block⟩
theorem decodeGo_nil (s : ByteArray) (h : s.size = 0) : Lib.decodeGo s = (65533, 0) := by
 unfold Lib.decodeGo;simp [h]
theorem runeB_cases (r : List UInt8) : (r.take 2 = [39, 39] /\ runeB r = (39, 4)) \/
 (¬ r.take 2 = [39, 39] /\ ∃ c n : Nat, c <= 1114111 /\ n <= r.length /\ Lib.decodeGo ⟨r.toArray⟩ = (c, n) /\ ((c < 32 \/ c = 39 \/ c = 92 \/ (c = 65533 /\ n < 2)) /\ runeB r = (0, 0) \/ (32 <= c /\ c ≠ 39 /\ c ≠ 92 /\ ¬ (c = 65533 /\ n < 2)) /\ runeB r = ((c : Int), 2 + n))) := by
 unfold runeB;by_cases h : r.take 2 = [39, 39]
 · rw [if_pos h]; exact .inl ⟨h, rfl⟩
 rw [if_neg h];refine .inr ⟨h, ?_⟩;by_cases h0 : r = []
 · subst h0;rw [if_pos (.inl rfl)];exact ⟨65533, 0, by decide, Nat.le_refl _, decodeGo_nil _ rfl, .inl ⟨.inr (.inr (.inr ⟨rfl, by decide⟩)), rfl⟩⟩
 · have hp : 0 < r.length := List.length_pos_iff.2 h0;have hd : Lib.decodeGo ⟨r.toArray⟩ = Lib.decodeL r := by
    rw [decodeGo_eq _ (by rw [size_mk]; omega)]
   refine ⟨(Lib.decodeL r).1, (Lib.decodeL r).2, Lib.decodeL_rune r, Lib.decodeL_le r h0, hd, ?_⟩;by_cases h1 : (Lib.decodeL r).1 < 32 \/ (Lib.decodeL r).1 = 39 \/ (Lib.decodeL r).1 = 92 \/ ((Lib.decodeL r).1 = 65533 /\ (Lib.decodeL r).2 < 2)
   · exact .inl ⟨h1, if_pos (.inr h1)⟩
   · refine .inr ⟨by omega, if_neg ?_⟩;rintro (e | e)
     · exact h0 e
     · exact h1 e
def runeV (p : Int × Nat) : Value := .tuple #[.int .i32 p.1, .int .i64 (p.2 : Nat)]
theorem lex_blank5 (b : UInt8) (t : List UInt8) (h : cls (b.toNat : Int) = 5) : lexL (b :: t) = ⟨0, [], 0, 1⟩ := by
 unfold lexL;dsimp only;rw [if_pos h]
def Says (f : Nat) (args : Array Value) (w : World) (x : Lx) : Prop := ∀ W, Below w.heap.size w W -> Calls Tryz.prog f args W fun e w' => e = .returned (lxr x) /\ Below W.heap.size W w'
def tok_v (t : Tok) : Value := .agg #[.int .i64 t.kind, .string ⟨t.text.toArray⟩, .int .i64 t.n, .int .i64 (t.pos : Nat)]
def tok4 (t : Tok) : List Value := [.int .i64 t.kind, .string ⟨t.text.toArray⟩, .int .i64 t.n, .int .i64 (t.pos : Nat)]
def tokCells (l : List Tok) : List Value := l.flatMap tok4
theorem tokCells_append (a b : List Tok) : tokCells (a ++ b) = tokCells a ++ tokCells b := List.flatMap_append
def OwnToks (B : Nat) (w : World) (v : Value) (l : List Tok) : Prop := w.ownsRow B 55 4 v l.length (tokCells l)
theorem infoTok : (Tryz.prog.info? 55).map (fun i => (i.zero, i.size, i.bytes)) = some (some (.agg #[.int .i64 0, .string ⟨#[]⟩, .int .i64 0, .int .i64 0]), 4, 40) := by kernel_rfl
theorem info_parts {t : TypeId} {z : Value} {s b : Nat} (h : (Tryz.prog.info? t).map (fun i => (i.zero, i.size, i.bytes)) = some (some z, s, b)) : ∃ i, Tryz.prog.info? t = some i /\ i.zero = some z /\ i.size = s /\ i.bytes = b := by
 cases hi : Tryz.prog.info? t with
 | none => rw [hi] at h; cases h
 | some i =>
  rw [hi] at h;injection h with h;injection h with h1 h2;injection h2 with h2 h3;exact ⟨i, rfl, h1, h2, h3⟩
theorem OwnToks.below {B : Nat} {w w' : World} {v : Value} {l : List Tok} (h : OwnToks B w v l) (hb : Below w.heap.size w w') : OwnToks B w' v l := by
 obtain ⟨hl, h0 | ⟨g, cap, cur, hv, hbg, hh, r⟩⟩ := h
 · exact ⟨hl, .inl h0⟩
 · exact ⟨hl, .inr ⟨g, cap, cur, hv, hbg, (hb.block g (Array.getElem?_eq_some_iff.1 hh).1).trans hh, r⟩⟩
theorem OwnToks.mono {B B' : Nat} {w : World} {v : Value} {l : List Tok} (h : OwnToks B w v l) (hB : B' <= B) : OwnToks B' w v l := by
 obtain ⟨hl, h0 | ⟨g, cap, cur, hv, hbg, r⟩⟩ := h
 · exact ⟨hl, .inl h0⟩
 · exact ⟨hl, .inr ⟨g, cap, cur, hv, Nat.le_trans hB hbg, r⟩⟩
theorem OwnToks.setOther {B : Nat} {w : World} {v : Value} {l : List Tok} (h : OwnToks B w v l) {q i : Nat} (hq : q < B) (u : Value) : OwnToks B (w.setCell ⟨q, i, none⟩ u) v l := by
 obtain ⟨hl, h0 | ⟨g, cap, cur, hv, hbg, hh, r⟩⟩ := h
 · exact ⟨hl, .inl h0⟩
 · refine ⟨hl, .inr ⟨g, cap, cur, hv, hbg, ?_, r⟩⟩;rw [Below.heap_setCell _ _ _ _ (show g ≠ q from fun e => by omega)];exact hh
theorem OwnToks.slice {B : Nat} {w : World} {v : Value} {l : List Tok} (h : OwnToks B w v l) : ∃ ad cap, v = .slice ad l.length cap /\ l.length <= cap /\ cap <= maxLen := by
 obtain ⟨hl, ⟨rfl, h0⟩ | ⟨g, cap, cur, rfl, hbg, hh, hnc, hcm, r⟩⟩ := h
 · exact ⟨none, 0, by rw [h0], by omega, Nat.zero_le _⟩
 · exact ⟨some ⟨g, 0, none⟩, cap, rfl, hnc, hcm⟩
structure CutMem (L : Nat) (w : World) (l : List Tok) (e : Int) (t : Bool) (v : Value) : Prop where
 list : w.heap[L]? = some (.cells #[v] 48 (0, 0))
 fin : w.heap[L + 1]? = some (.cells #[.int .i64 e] 3 (0, 0))
 tight : w.heap[L + 2]? = some (.cells #[.bool t] 4 (0, 0))
 own : OwnToks (L + 4) w v l
theorem CutMem.below {L : Nat} {w w' : World} {l : List Tok} {e : Int} {t : Bool} {v : Value} (h : CutMem L w l e t v) (hb : Below w.heap.size w w') : CutMem L w' l e t v :=
 ⟨kept_at hb h.list, kept_at hb h.fin, kept_at hb h.tight, h.own.below hb⟩
theorem set1 {w : World} {q : Nat} {a : Value} {t : TypeId} (h : w.heap[q]? = some (.cells #[a] t (0, 0))) (u : Value) : (w.setCell ⟨q, 0, none⟩ u).heap[q]? = some (.cells #[u] t (0, 0)) := by
 have := Lib.heap_setCell_same (i := 0) h u;simpa using this
theorem setO {w : World} {q k : Nat} {i : Nat} {o : Obj} (h : w.heap[k]? = some o) (hne : k ≠ q) (u : Value) : (w.setCell ⟨q, i, none⟩ u).heap[k]? = some o := by
 rw [Below.heap_setCell _ _ _ _ hne]; exact h
def CutKeep (L : Nat) (w w' : World) : Prop := Below L w w' /\ ∀ s pos, w.heap[L + 3]? = some (.stringIter s pos) -> w'.heap[L + 3]? = some (.stringIter s pos)
theorem CutKeep.trans {L : Nat} {a b c : World} (h : CutKeep L a b) (k : CutKeep L b c) : CutKeep L a c := ⟨h.1.trans k.1, fun s p hi => k.2 s p (h.2 s p hi)⟩
theorem CutKeep.below {L : Nat} {a b : World} (h : Below a.heap.size a b) (hL : L <= a.heap.size) : CutKeep L a b := ⟨h.mono hL, fun _ _ hi => kept_at h hi⟩
theorem CutKeep.set {L : Nat} (w : World) {q i : Nat} (h1 : L <= q) (h2 : q ≠ L + 3) (u : Value) : CutKeep L w (w.setCell ⟨q, i, none⟩ u) :=
 ⟨(Below.refl _ _).setCell (p := ⟨q, i, none⟩) h1 u, fun _ _ hi => setO hi (by omega) u⟩
theorem OwnToks.big {B : Nat} {w : World} {v : Value} {l : List Tok} (h : OwnToks B w v l) {k : Nat} (hk : k < B) : some k ≠ v.ownBlock := fun e => by
 have := (World.ownsRow.lt h k e.symm).1;omega
theorem CutMem.grow {L : Nat} {w w1 w3 : World} {l : List Tok} {e : Int} {t : Bool} {v v3 : Value} (h : CutMem L w1 l e t v) (hk : CutKeep L w w1) (hL : L + 4 <= w1.heap.size) (x : Tok)
 (hown : w3.ownsRow (L + 4) 55 4 v3 (l.length + 1) (tokCells l ++ tok4 x)) (hg : w1.grownBy w3 v.ownBlock) :
 CutMem L (w3.setCell ⟨L, 0, none⟩ v3) (l ++ [x]) e t v3 /\ CutKeep L w (w3.setCell ⟨L, 0, none⟩ v3) /\ (∀ k o, L + 4 <= k -> some k ≠ v.ownBlock -> w1.heap[k]? = some o -> (w3.setCell ⟨L, 0, none⟩ v3).heap[k]? = some o) /\ w3.heap[L]? = some (.cells #[v] 48 (0, 0)) := by
 have keep : ∀ k o, some k ≠ v.ownBlock -> w1.heap[k]? = some o -> w3.heap[k]? = some o := fun k o hne ho => by
  rw [hg.block k (Array.getElem?_eq_some_iff.1 ho).1 hne]; exact ho
 have hB : ∀ k, k < L + 4 -> some k ≠ v.ownBlock := fun k hk => h.own.big hk;have hlist := keep _ _ (hB L (by omega)) h.list;have hown4 : OwnToks (L + 4) w3 v3 (l ++ [x]) := by
  unfold OwnToks;rw [List.length_append, tokCells_append];exact hown
 refine ⟨⟨set1 hlist _, setO (keep _ _ (hB _ (by omega)) h.fin) (by omega) _, setO (keep _ _ (hB _ (by omega)) h.tight) (by omega) _, hown4.setOther (by omega) _⟩, ?_, ?_, hlist⟩
 · refine CutKeep.trans (b := w3) ?_ (CutKeep.set w3 (Nat.le_refl _) (by omega) v3);refine hk.trans ⟨(Below.refl L w1).grown hg (by omega) (fun k hk => Nat.le_trans (by omega) (World.ownsRow.lt h.own k hk).1), fun s pos hi => keep _ _ (hB _ (by omega)) hi⟩
 · intro k o hk hne ho;exact setO (keep _ _ hne ho) (by omega) _
def CutOut (L : Nat) (w : World) (l : List Tok) (e : Int) (t : Bool) (w' : World) : Prop := (∃ v, CutMem L w' l e t v) /\ CutKeep L w w'
theorem CutMem.iterAt {L : Nat} {w : World} {l : List Tok} {e : Int} {t : Bool} {v : Value} (h : CutMem L w l e t v) (s : ByteArray) (pos' : Nat) : CutMem L (w.iterAt (L + 3) s pos') l e t v := by
 refine ⟨?_, ?_, ?_, ?_⟩
 · rw [Lib.iterAt_other w (L + 3) L s pos' (by omega)]; exact h.list
 · rw [Lib.iterAt_other w (L + 3) (L + 1) s pos' (by omega)]; exact h.fin
 · rw [Lib.iterAt_other w (L + 3) (L + 2) s pos' (by omega)]; exact h.tight
 · obtain ⟨hl, h0 | ⟨g, cap, cur, hv, hbg, hh, r⟩⟩ := h.own
   · exact ⟨hl, .inl h0⟩
   · exact ⟨hl, .inr ⟨g, cap, cur, hv, hbg, by rw [Lib.iterAt_other w (L + 3) g s pos' (by omega)]; exact hh, r⟩⟩
def CutAns (B : Nat) (src : List UInt8) (e : Ending) (w' : World) : Prop :=
 (4096 < src.length /\ e = .returned (.tuple #[.slice none 0 0, .int .i64 0, .int .i64 2])) \/
 (src.length <= 4096 /\ ((∃ o : Nat, cutL src 0 false = .bad o /\ e = .returned (.tuple #[.slice none 0 0, .int .i64 (o : Nat), .int .i64 50])) \/
   ∃ T v, cutL src 0 false = .good T /\ e = .returned (.tuple #[v, .int .i64 0, .int .i64 0]) /\ OwnToks B w' v T))
def CSt (s : ByteArray) (w wr : World) : Prop := ∃ (pos e : Nat) (l : List Tok) (tg : Bool) (v : Value), pos <= e /\ e <= s.size /\ l.length <= e /\ wr.heap[w.heap.size + 3]? = some (.stringIter s pos) /\ Below w.heap.size w wr /\ w.heap.size + 4 <= wr.heap.size /\
 CutMem w.heap.size wr l (e : Nat) tg v /\ Hits (s.data.toList.drop pos) (e - pos) /\ cutL s.data.toList 0 false = (cutL (s.data.toList.drop e) e tg).pre l
theorem tokCells_at : ∀ (l : List Tok) (j : Nat) (hj : j < l.length) (i : Nat), i < 4 -> (tokCells l)[j * 4 + i]? = (tok4 l[j])[i]?
 | [], j, hj, _, _ => absurd hj (Nat.not_lt_zero _)
 | t :: l, 0, _, i, hi => by
  show (tok4 t ++ tokCells l)[0 * 4 + i]? = _
  rw [Nat.zero_mul, Nat.zero_add, List.getElem?_append_left (show i < (tok4 t).length from hi), List.getElem_cons_zero]
 | t :: l, j + 1, hj, i, hi => by
  show (tok4 t ++ tokCells l)[(j + 1) * 4 + i]? = _
  rw [List.getElem?_append_right (show (tok4 t).length <= (j + 1) * 4 + i by show 4 <= _; omega), show (j + 1) * 4 + i - (tok4 t).length = j * 4 + i from by show (j + 1) * 4 + i - 4 = _; omega, List.getElem_cons_succ];exact tokCells_at l j (by rw [List.length_cons] at hj; omega) i hi
structure TokAt (w : World) (g : Nat) (j : Nat) (t : Tok) : Prop where
 kind : w.cell? ⟨g, j * 4, none⟩ = some (.int .i64 t.kind)
 text : w.cell? ⟨g, j * 4 + 1, none⟩ = some (.string ⟨t.text.toArray⟩)
 n : w.cell? ⟨g, j * 4 + 2, none⟩ = some (.int .i64 t.n)
 pos : w.cell? ⟨g, j * 4 + 3, none⟩ = some (.int .i64 (t.pos : Nat))
theorem OwnToks.view {B : Nat} {w : World} {v : Value} {l : List Tok} (h : OwnToks B w v l) : ∃ ad cap, v = .slice ad l.length cap /\ l.length <= cap /\ cap <= maxLen /\ ∀ j (hj : j < l.length), ∃ g, ad = some ⟨g, 0, none⟩ /\ B <= g /\ TokAt w g j l[j] := by
 have h9 := h;obtain ⟨hl, ⟨rfl, h0⟩ | ⟨g, cap, cur, rfl, hbg, hh, hnc, hcm, r⟩⟩ := h
 · refine ⟨none, 0, by rw [h0], by omega, Nat.zero_le _, fun j hj => by omega⟩
 · refine ⟨some ⟨g, 0, none⟩, cap, rfl, hnc, hcm, fun j hj => ⟨g, rfl, hbg, ?_⟩⟩;have hc : ∀ i, i < 4 -> w.cell? ⟨g, j * 4 + i, none⟩ = (tok4 l[j])[i]? := fun i hi => by
    rw [World.ownsRow.cellAt h9 (j * 4 + i) (by omega), tokCells_at l j hj i hi]
   exact ⟨hc 0 (by decide), hc 1 (by decide), hc 2 (by decide), hc 3 (by decide)⟩
theorem TokAt.on {w w' : World} {g j : Nat} {t : Tok} (h : TokAt w g j t) (hb : Below w.heap.size w w') : TokAt w' g j t :=
 ⟨(hb.cell (p := ⟨g, _, none⟩) (cell_in h.kind)).trans h.kind, (hb.cell (p := ⟨g, _, none⟩) (cell_in h.text)).trans h.text, (hb.cell (p := ⟨g, _, none⟩) (cell_in h.n)).trans h.n, (hb.cell (p := ⟨g, _, none⟩) (cell_in h.pos)).trans h.pos⟩
def exSrc : List UInt8 := [102, 111, 111, 40, 88, 44, 32, 39, 97, 32, 98, 39, 41, 46]
def exToks : List Tok := [⟨1, [102, 111, 111], 0, 0⟩, ⟨7, [40], 0, 3⟩, ⟨4, [88], 0, 4⟩, ⟨6, [44], 0, 5⟩, ⟨2, [97, 32, 98], 0, 7⟩, ⟨6, [41], 0, 12⟩, ⟨8, [46], 0, 13⟩, ⟨9, [], 0, 14⟩]
end Go.Proofs.YtdjejbgokamjeaaGreatDoor
