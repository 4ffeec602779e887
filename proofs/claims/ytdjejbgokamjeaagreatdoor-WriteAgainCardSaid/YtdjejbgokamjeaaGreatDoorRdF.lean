import Derived.Test.YtdjejbgokamjeaaGreatDoorReadM
import Derived.Test.YtdjejbgokamjeaaGreatDoorOpsGJ
import Derived.Laws.Panics
import Derived.Lib.BufferMore
import Derived.Test.YtdjejbgokamjeaaGreatDoorShelf5
import Derived.Lib.Bytealg
import Derived.Test.YtdjejbgokamjeaaGreatDoorTermMk
namespace Go.Proofs.YtdjejbgokamjeaaGreatDoor
open Go.RowKit
theorem keptR {w w1 : World} {q : Nat} {o : Obj} (hb : Below w.heap.size w w1) (hq : w.heap[q]? = some o) : w1.heap[q]? = some o := (hb.block q (Array.getElem?_eq_some_iff.1 hq).1).trans hq
theorem setOR {w : World} {q k : Nat} {i : Nat} {o : Obj} (h : w.heap[k]? = some o) (hne : k ≠ q) (u : Value) : (w.setCell ⟨q, i, none⟩ u).heap[k]? = some o := by
 rw [Below.heap_setCell _ _ _ _ hne]; exact h
def tokv (t : Tok) : Value := .agg #[.int .i64 t.kind, .string ⟨t.text.toArray⟩, .int .i64 t.n, .int .i64 (t.pos : Nat)]
theorem text_is (l m : List UInt8) : ((⟨l.toArray⟩ : ByteArray).toList == m) = (l == m) := by rw [ByteArray.toList_eq]
inductive TokRow (w : World) (g : Nat) : Nat -> List Tok -> Prop where
 | nil (k : Nat) : TokRow w g k []
 | cons (k : Nat) (t : Tok) (l : List Tok) : w.cell? ⟨g, k, none⟩ = some (.int .i64 t.kind) -> w.cell? ⟨g, k + 1, none⟩ = some (.string ⟨t.text.toArray⟩) -> w.cell? ⟨g, k + 2, none⟩ = some (.int .i64 t.n) -> w.cell? ⟨g, k + 3, none⟩ = some (.int .i64 (t.pos : Nat)) -> TokRow w g (k + 4) l -> TokRow w g k (t :: l)
theorem TokRow.kept {w w' : World} {g k : Nat} {ts : List Tok} (h : TokRow w g k ts) (hb : g < w.heap.size -> w'.heap[g]? = w.heap[g]?) : TokRow w' g k ts := by
 have keep : ∀ (o : Nat) (v : Value), w.cell? ⟨g, o, none⟩ = some v -> w'.cell? ⟨g, o, none⟩ = some v := fun o v hc =>
  (World.cell?_of_block (w := w) (w' := w') (a := ⟨g, o, none⟩) (hb (World.block_lt_of_cell? w ⟨g, o, none⟩ hc))).trans hc
 induction h with
 | nil k => exact .nil k
 | cons k t l c0 c1 c2 c3 _ ih => exact .cons k t l (keep _ _ c0) (keep _ _ c1) (keep _ _ c2) (keep _ _ c3) ih
theorem TokRow.first {w : World} {g k : Nat} {ts : List Tok} (h : TokRow w g k ts) (hp : 1 <= ts.length) :
 w.cell? ⟨g, k, none⟩ = some (.int .i64 (fstT ts).kind) /\ w.cell? ⟨g, k + 1, none⟩ = some (.string ⟨(fstT ts).text.toArray⟩) /\ w.cell? ⟨g, k + 2, none⟩ = some (.int .i64 (fstT ts).n) /\ w.cell? ⟨g, k + 3, none⟩ = some (.int .i64 ((fstT ts).pos : Nat)) /\ TokRow w g (k + 4) ts.tail := by
 cases h with
 | nil => simp at hp
 | cons k t l c0 c1 c2 c3 h => exact ⟨c0, c1, c2, c3, h⟩
theorem OwnStrs.kept {B : Nat} {w w' : World} {v : Value} {l : List ByteArray} (h : OwnStrs B w v l) (hb : ∀ b, v.ownBlock = some b -> b < w.heap.size -> w'.heap[b]? = w.heap[b]?) : OwnStrs B w' v l := by
 obtain ⟨hl, h0 | ⟨g, cap, cur, hv, hbg, hh, r⟩⟩ := h
 · exact ⟨hl, .inl h0⟩
 · exact ⟨hl, .inr ⟨g, cap, cur, hv, hbg, (hb g (by rw [hv]; rfl) (Array.getElem?_eq_some_iff.1 hh).1).trans hh, r⟩⟩
theorem OwnStrs.lt {B : Nat} {w : World} {v : Value} {l : List ByteArray} (h : OwnStrs B w v l) : ∀ k, v.ownBlock = some k -> B <= k /\ k < w.heap.size := World.ownsRow.lt h
def nmB (ns : Nms) : List ByteArray := ns.map fun s => ⟨s.toArray⟩
structure RGo (r : Nat) (v : Value) (w : World) (v' : Value) (w' : World) : Prop where
 below : Below r w w'
 keep : ∀ b, b < w.heap.size -> b ≠ r -> some b ≠ v.ownBlock -> w'.heap[b]? = w.heap[b]?
 own : v'.ownBlock = v.ownBlock \/ ∃ g, v'.ownBlock = some g /\ w.heap.size <= g
theorem RGo.refl (r : Nat) (v : Value) (w : World) : RGo r v w v w := ⟨Below.refl _ _, fun _ _ _ _ => rfl, .inl rfl⟩
theorem RGo.trans {r : Nat} {v v1 v2 : Value} {w w1 w2 : World} (h : RGo r v w v1 w1) (k : RGo r v1 w1 v2 w2) : RGo r v w v2 w2 := by
 refine ⟨h.below.trans k.below, fun b hb hr hv => ?_, ?_⟩
 · rw [k.keep b (Nat.lt_of_lt_of_le hb h.below.size) hr ?_, h.keep b hb hr hv];rcases h.own with e | ⟨g, e, hg⟩
   · rw [e]; exact hv
   · rw [e]; intro e2; have := Option.some.inj e2; omega
 · rcases k.own with e | ⟨g, e, hg⟩
   · rw [e]; exact h.own
   · exact .inr ⟨g, e, Nat.le_trans h.below.size hg⟩
theorem RGo.of_below {r : Nat} {v : Value} {w w' : World} (h : Below w.heap.size w w') (hr : r <= w.heap.size) : RGo r v w v w' := ⟨h.mono hr, fun b hb _ _ => h.block b hb, .inl rfl⟩
theorem RGo.at {r : Nat} {v v' : Value} {w w' : World} (h : RGo r v w v' w') {b : Nat} {o : Obj} (ho : w.heap[b]? = some o) (hr : b ≠ r) (hv : some b ≠ v.ownBlock) : w'.heap[b]? = some o :=
 (h.keep b (Array.getElem?_eq_some_iff.1 ho).1 hr hv).trans ho
theorem RGo.set {r : Nat} {v v' : Value} {w w' : World} (h : RGo r v w v' w') {q i : Nat} (hq : w.heap.size <= q) (hr : r <= q) (u : Value) : RGo r v w v' (w'.setCell ⟨q, i, none⟩ u) :=
 ⟨h.below.setCell (p := ⟨q, i, none⟩) hr u, fun b hb h1 h2 => (Below.heap_setCell _ _ _ _ (show b ≠ q by omega)).trans (h.keep b hb h1 h2), h.own⟩
theorem RGo.drew {r : Nat} {v v' : Value} {w w' : World} (h : RGo r v w v' w') : RGo r v w v' w'.drew := ⟨h.below.drew, h.keep, h.own⟩
theorem RGo.alloc {r : Nat} {v v' : Value} {w w' : World} (h : RGo r v w v' w') (hr : r < w.heap.size) (o : Obj) : RGo r v w v' (w'.alloc o) := by
 have hs := h.below.size;exact ⟨h.below.alloc (by omega) o, fun b hb h1 h2 => (Below.heap_alloc _ _ _ (by omega)).trans (h.keep b hb h1 h2), h.own⟩
theorem RGo.ne {r : Nat} {v v' : Value} {w w' : World} (h : RGo r v w v' w') {b : Nat} (hb : b < w.heap.size) (hv : some b ≠ v.ownBlock) : some b ≠ v'.ownBlock := by
 rcases h.own with e | ⟨g, e, hg⟩
 · rw [e]; exact hv
 · rw [e]; intro e2; have := Option.some.inj e2; omega
def TmB (B : Nat) (w : World) (v : Value) (t : Tm) (ad : Option Addr) (cap : Nat) : Prop := TmP w (fun b => B <= b /\ some b ≠ v.ownBlock) t ad cap
theorem TmB.go {r B : Nat} {v v' : Value} {w w' : World} {t : Tm} {ad : Option Addr} {cap : Nat} (h : TmB B w v t ad cap) (hr : r < B) (hg : RGo r v w v' w') : TmB B w' v' t ad cap :=
 TmP.kept h (fun b hp hb => hg.keep b hb (by omega) hp.2) (fun _ hp hb => ⟨hp.1, hg.ne hb hp.2⟩)
theorem TmB.mono {B B' : Nat} {v : Value} {w : World} {t : Tm} {ad : Option Addr} {cap : Nat} (h : TmB B w v t ad cap) (hB : B' <= B) : TmB B' w v t ad cap :=
 TmP.kept h (fun _ _ _ => rfl) (fun _ hp _ => ⟨by omega, hp.2⟩)
theorem TmB.below {B : Nat} {v : Value} {w w' : World} {t : Tm} {ad : Option Addr} {cap : Nat} (h : TmB B w v t ad cap) (hb : Below w.heap.size w w') : TmB B w' v t ad cap :=
 TmP.kept h (fun b _ hlt => hb.block b hlt) (fun _ hp _ => hp)
theorem TmB.set {B q i : Nat} {v : Value} {w : World} {t : Tm} {ad : Option Addr} {cap : Nat} (h : TmB B w v t ad cap) (hq : q < B) (u : Value) : TmB B (w.setCell ⟨q, i, none⟩ u) v t ad cap :=
 TmP.kept h (fun b hp _ => Below.heap_setCell _ _ _ _ (show b ≠ q by omega)) (fun _ hp _ => hp)
theorem cellsR2 {w : World} {q : Nat} {a b : Value} {t : TypeId} (h : w.heap[q]? = some (.cells #[a, b] t (0, 0))) :
 w.cell? ⟨q, 0, none⟩ = some a /\ w.cell? ⟨q, 1, none⟩ = some b /\ w.frozen? ⟨q, 0, none⟩ = false /\ w.frozen? ⟨q, 1, none⟩ = false := by
 simp [World.cell?, World.frozen?, h]
theorem sliced_tok (g k n cap : Nat) (h : 2 <= cap) : sliced (some ⟨g, k, none⟩) 1 (n + 1) cap 4 = .slice (some ⟨g, k + 4, none⟩) n (cap - 1) := by
 unfold sliced;rw [Nat.add_sub_cancel];have h1 : ¬ cap = 1 := by omega
 simp [h1, Addr.add]
attribute [-go_sem] sliced
theorem tok_field0 (a b c d : Value) (W : World) : (Instr.field 55 (.agg #[a, b, c, d]) 0).run Tryz.prog W = .ok a W := by kernel_rfl
theorem tok_field3 (a b c d : Value) (W : World) : (Instr.field 55 (.agg #[a, b, c, d]) 3).run Tryz.prog W = .ok d W := by kernel_rfl
structure FMem (w : World) (r : Nat) (v : Value) (ts : List Tok) (ns : Nms) (er : Int) (at_ : Int) : Prop where
 ex : ∃ g k cap, g < r /\ w.heap[r]? = some (.cells #[.slice (some ⟨g, k, none⟩) ts.length cap, v, .int .i64 er, .int .i64 at_] 53 (0, 0)) /\ ts.length <= cap /\ cap <= maxLen /\ TokRow w g k ts
 names : OwnStrs (r + 1) w v (nmB ns)
theorem FMem.lt {w : World} {r : Nat} {v : Value} {ts : List Tok} {ns : Nms} {er at_ : Int} (h : FMem w r v ts ns er at_) : r < w.heap.size := by
 obtain ⟨g, k, cap, _, hr, _⟩ := h.ex;exact (Array.getElem?_eq_some_iff.1 hr).1
theorem FMem.below {w w' : World} {r : Nat} {v : Value} {ts : List Tok} {ns : Nms} {er at_ : Int} (h : FMem w r v ts ns er at_) (hb : Below w.heap.size w w') : FMem w' r v ts ns er at_ := by
 have hlt := h.lt;obtain ⟨g, k, cap, hg, hr, hl, hc, ht⟩ := h.ex;exact ⟨⟨g, k, cap, hg, keptR hb hr, hl, hc, ht.kept (fun hs => hb.block g hs)⟩, h.names.below hb⟩
theorem FMem.new_ne {w : World} {r : Nat} {v : Value} {ts : List Tok} {ns : Nms} {er at_ : Int} (h : FMem w r v ts ns er at_) {b : Nat} (hb : w.heap.size <= b) : b ≠ r /\ some b ≠ v.ownBlock :=
 ⟨by have := h.lt; omega, fun e => by have := (h.names.lt b e.symm).2; omega⟩
theorem FMem.setOther {w : World} {r : Nat} {v : Value} {ts : List Tok} {ns : Nms} {er at_ : Int} (h : FMem w r v ts ns er at_) {q i : Nat} (hq : r < q) (hv : some q ≠ v.ownBlock) (u : Value) : FMem (w.setCell ⟨q, i, none⟩ u) r v ts ns er at_ := by
 obtain ⟨g, k, cap, hg, hr, hl, hc, ht⟩ := h.ex;refine ⟨⟨g, k, cap, hg, setOR hr (by omega) u, hl, hc, ht.kept (fun _ => Below.heap_setCell _ _ _ _ (show g ≠ q by omega))⟩, h.names.kept (fun b hb _ => Below.heap_setCell _ _ _ _ (show b ≠ q from fun e => hv (by rw [hb, e])))⟩
theorem cellsF4 {w : World} {q : Nat} {a b c d : Value} {t : TypeId} (h : w.heap[q]? = some (.cells #[a, b, c, d] t (0, 0))) :
 w.cell? ⟨q, 0, none⟩ = some a /\ w.cell? ⟨q, 1, none⟩ = some b /\ w.cell? ⟨q, 2, none⟩ = some c /\ w.cell? ⟨q, 3, none⟩ = some d /\ w.frozen? ⟨q, 0, none⟩ = false /\ w.frozen? ⟨q, 1, none⟩ = false /\ w.frozen? ⟨q, 2, none⟩ = false /\ w.frozen? ⟨q, 3, none⟩ = false := by
 simp [World.cell?, World.frozen?, h]
set_option maxHeartbeats 1000000 in
theorem rf_goes (w : World) (r : Nat) (v : Value) (ts : List Tok) (ns : Nms) (er at_ : Int) (h : FMem w r v ts ns er at_) :
 Calls Tryz.prog 24 #[.pointer (some ⟨r, 0, none⟩)] w fun e w' => e = .returned (.bool (er == 0)) /\ Below w.heap.size w w' := by
 obtain ⟨g, k, cap, _, hr, _⟩ := h.ex;obtain ⟨_, _, c2, _⟩ := cellsF4 hr;clear h hr;go_enter Tryz.func24, Tryz.ntmps24;go_wp2_with fail;go_ret;exact ⟨rfl, Below.refl _ _⟩
set_option maxHeartbeats 1000000 in
theorem rf_next (w : World) (r : Nat) (v : Value) (ts : List Tok) (ns : Nms) (er at_ : Int) (h : FMem w r v ts ns er at_) (hf : 1 <= ts.length) :
 Calls Tryz.prog 25 #[.pointer (some ⟨r, 0, none⟩)] w fun e w' => e = .returned (tokv (fstT ts)) /\ Below w.heap.size w w' := by
 have HB := Lib.hid (fun o : Obj => (Below.refl w.heap.size w).alloc (Nat.le_refl _) o);have hlt := h.lt;obtain ⟨g, k, cap, hg, hr, hl, hc, ht⟩ := h.ex;obtain ⟨c0, c1, c2, c3, _⟩ := ht.first hf;obtain ⟨r0, _⟩ := cellsF4 hr;have hl1 : (0 : Int) < (ts.length : Int) := by omega
 have hgl : g < w.heap.size := by omega
 unfold tokv;clear h hr ht hc;generalize (⟨(fstT ts).text.toArray⟩ : ByteArray) = u at *;generalize (fstT ts).kind = a at *;generalize (fstT ts).n = b at *;generalize (fstT ts).pos = d at *;generalize ts.length = L at *;go_enter Tryz.func25, Tryz.ntmps25;go_wp2_with fail;exact bodyPost_ret (v := .agg #[.int .i64 a, .string u, .int .i64 b, .int .i64 (d : Nat)]) (by simp [results, Tryz.results25, go_sem]) rfl ⟨rfl, HB.out _⟩
set_option maxHeartbeats 1000000 in
theorem rf_step (w : World) (r : Nat) (v : Value) (ts : List Tok) (ns : Nms) (at_ : Int) (h : FMem w r v ts ns 0 at_) (hf : 2 <= ts.length) :
 Calls Tryz.prog 38 #[.pointer (some ⟨r, 0, none⟩)] w fun e w' => e = .returned (.tuple #[]) /\ FMem w' r v ts.tail ns 0 at_ /\ RGo r v w v w' := by
 have HG := Lib.hid (rf_goes w r v ts ns 0 at_ h);have HH := Lib.hid h;have hlt := h.lt;obtain ⟨n, hn⟩ : ∃ n, ts.length = n + 1 := ⟨ts.length - 1, by omega⟩;have HN : Hid (ts.tail.length = n) := Lib.hid (by rw [List.length_tail]; omega);clear h;go_enter Tryz.func38, Tryz.ntmps38;go_wp2_with fail;refine HG.out.mono ?_; rintro e w1 ⟨rfl, hb1⟩;have HH1 := Lib.hid (HH.out.below hb1);have HB1 := Lib.hid hb1;clear hb1 HG;obtain ⟨g, k, cap, hg, hr, hl, hc, ht⟩ := HH1.out.ex;obtain ⟨_, _, _, _, ht2⟩ := ht.first (by omega);obtain ⟨r0, _, _, _, z0, _⟩ := cellsF4 hr;have hsl := sliced_tok g k n cap (by omega);have HR := Lib.hid hr;have HT := Lib.hid ht2;rw [hn] at r0;have hl0 : (1 : Int) < ((n + 1 : Nat) : Int) := by omega
 have hl1 : (1 : Int) <= ((n + 1 : Nat) : Int) := by omega
 have hl2 : ((n + 1 : Nat) : Int) <= (cap : Int) := by omega
 clear hr ht ht2;go_wp2_with fail;go_end0;have hh := Lib.heap_setCell_same (i := 0) HR.out (.slice (some ⟨g, k + 4, none⟩) n (cap - 1));refine ⟨rfl, ⟨⟨g, k + 4, cap - 1, hg, ?_, ?_, by omega, HT.out.kept (fun _ => Below.heap_setCell _ _ _ _ (show g ≠ r by omega))⟩, ?_⟩, ⟨(HB1.out.mono (Nat.le_of_lt hlt)).setCell (p := ⟨r, 0, none⟩) (Nat.le_refl _) _, fun b hb h1 _ => (Below.heap_setCell _ _ _ _ h1).trans (HB1.out.block b hb), .inl rfl⟩⟩
 · rw [HN.out]; simpa using hh
 · rw [HN.out]; omega
 · exact HH1.out.names.kept (fun b hb _ => Below.heap_setCell _ _ _ _ (show b ≠ r by have := (HH1.out.names.lt b hb).1; omega))
set_option maxHeartbeats 1000000 in
theorem rf_stay (w : World) (r : Nat) (v : Value) (ts : List Tok) (ns : Nms) (er at_ : Int) (h : FMem w r v ts ns er at_) (he : er ≠ 0) :
 Calls Tryz.prog 38 #[.pointer (some ⟨r, 0, none⟩)] w fun e w' => e = .returned (.tuple #[]) /\ Below w.heap.size w w' := by
 have hG := rf_goes w r v ts ns er at_ h;rw [beq_eq_false_iff_ne.2 he] at hG;have HG := Lib.hid hG;clear h hG;go_enter Tryz.func38, Tryz.ntmps38;go_wp2_with fail;refine HG.out.mono ?_; rintro e w1 ⟨rfl, hb1⟩;have HB1 := Lib.hid hb1;clear hb1;go_wp2_with fail;go_end0;exact ⟨rfl, HB1.out⟩
set_option maxHeartbeats 1000000 in
theorem rf_fail (w : World) (r : Nat) (v : Value) (ts : List Tok) (ns : Nms) (at_ : Int) (h : FMem w r v ts ns 0 at_) (hf : 1 <= ts.length) :
 Calls Tryz.prog 28 #[.pointer (some ⟨r, 0, none⟩)] w fun e w' => e = .returned (.tuple #[]) /\ FMem w' r v ts ns 60 ((fstT ts).pos : Nat) /\ RGo r v w v w' := by
 have HH := Lib.hid h;have hlt := h.lt;obtain ⟨g, k, cap, hg, hr, hl, hc, ht⟩ := h.ex;obtain ⟨c0, c1, c2, c3, _⟩ := ht.first hf;obtain ⟨r0, _, r2, r3, _, _, z2, z3⟩ := cellsF4 hr;have HR := Lib.hid hr;have HT := Lib.hid ht;have hl1 : (0 : Int) < (ts.length : Int) := by omega
 have hgr : g ≠ r := by omega
 clear h hr ht;generalize (⟨(fstT ts).text.toArray⟩ : ByteArray) = u at *;generalize (fstT ts).kind = a at *;generalize (fstT ts).n = b at *;generalize (fstT ts).pos = d at *;generalize hL : ts.length = L at *;go_enter Tryz.func28, Tryz.ntmps28;go_wp2_with fail;go_end0;refine ⟨rfl, ⟨⟨g, k, cap, hg, ?_, by omega, hc, (HT.out.kept (fun _ => Below.heap_setCell _ _ _ _ hgr)).kept (fun _ => Below.heap_setCell _ _ _ _ hgr)⟩, ?_⟩, ⟨((Below.refl _ _).setCell (p := ⟨r, 2, none⟩) (Nat.le_refl _) _).setCell (p := ⟨r, 3, none⟩) (Nat.le_refl _) _, fun b hb h1 _ => (Below.heap_setCell _ _ _ _ h1).trans (Below.heap_setCell _ _ _ _ h1), .inl rfl⟩⟩
 · have h1 := Lib.heap_setCell_same (i := 2) HR.out (.int .i64 60);have h2 := Lib.heap_setCell_same (i := 3) h1 (.int .i64 (d : Nat));rw [hL]; simpa using h2
 · have hne : ∀ b, v.ownBlock = some b -> b ≠ r := fun b hb => by have := (HH.out.names.lt b hb).1; omega
   exact (HH.out.names.kept (fun b hb _ => Below.heap_setCell _ _ _ _ (hne b hb))).kept (fun b hb _ => Below.heap_setCell _ _ _ _ (hne b hb))
set_option maxHeartbeats 1000000 in
theorem rf_failed (w : World) (r : Nat) (v : Value) (ts : List Tok) (ns : Nms) (er at_ : Int) (h : FMem w r v ts ns er at_) (he : er ≠ 0) :
 Calls Tryz.prog 28 #[.pointer (some ⟨r, 0, none⟩)] w fun e w' => e = .returned (.tuple #[]) /\ Below w.heap.size w w' := by
 obtain ⟨g, k, cap, _, hr, _⟩ := h.ex;obtain ⟨_, _, c2, _⟩ := cellsF4 hr;have hn : (er == 0) = false := beq_eq_false_iff_ne.2 he;clear h hr;go_enter Tryz.func28, Tryz.ntmps28;go_wp2_with fail;go_end0;exact ⟨rfl, Below.refl _ _⟩
set_option maxHeartbeats 1000000 in
theorem rf_isPunct (t : Tok) (l : List UInt8) (w : World) :
 Calls Tryz.prog 54 #[tokv t, .string ⟨l.toArray⟩] w fun e w' => e = .returned (.bool (t.isP l)) /\ Below w.heap.size w w' := by
 have HB := Lib.hid (fun o : Obj => (Below.refl w.heap.size w).alloc (Nat.le_refl _) o);have ht := text_is t.text l;have HE : Hid (t.isP l = (t.kind == 6 && (⟨t.text.toArray⟩ : ByteArray).toList == l)) := Lib.hid (by rw [ht]; rfl);have ht2 : ((⟨t.text.toArray⟩ : ByteArray).toList == (⟨l.toArray⟩ : ByteArray).toList) = ((⟨t.text.toArray⟩ : ByteArray).toList == l) := by rw [ByteArray.toList_eq (bs := ⟨l.toArray⟩)]
 rw [HE.out];unfold tokv;clear ht HE;generalize (⟨t.text.toArray⟩ : ByteArray) = u at *;generalize (⟨l.toArray⟩ : ByteArray) = x at *;cases e1 : (u.toList == l) with
 | true =>
  rw [e1] at ht2;cases e2 : (t.kind == 6) with
  | true =>
   go_enter Tryz.func54, Tryz.ntmps54;go_wp2_with fail;go_ret;exact ⟨rfl, HB.out _⟩
  | false =>
   go_enter Tryz.func54, Tryz.ntmps54;go_wp2_with fail;go_ret;exact ⟨rfl, HB.out _⟩
 | false =>
  rw [e1] at ht2;cases e2 : (t.kind == 6) with
  | true =>
   go_enter Tryz.func54, Tryz.ntmps54;go_wp2_with fail;go_ret;exact ⟨rfl, HB.out _⟩
  | false =>
   go_enter Tryz.func54, Tryz.ntmps54;go_wp2_with fail;go_ret;exact ⟨rfl, HB.out _⟩
set_option maxHeartbeats 1000000 in
theorem rf_isAtom (t : Tok) (w : World) :
 Calls Tryz.prog 53 #[tokv t] w fun e w' => e = .returned (.bool t.isAtom) /\ Below w.heap.size w w' := by
 have HB := Lib.hid (fun o : Obj => (Below.refl w.heap.size w).alloc (Nat.le_refl _) o);have HE : Hid (t.isAtom = (t.kind == 1 || t.kind == 2 || t.kind == 3)) := Lib.hid rfl;rw [HE.out];unfold tokv;clear HE;generalize (⟨t.text.toArray⟩ : ByteArray) = u at *;cases e1 : (t.kind == 1) <;> cases e2 : (t.kind == 2) <;> cases e3 : (t.kind == 3)
 all_goals
  go_enter Tryz.func53, Tryz.ntmps53;go_wp2_with fail;go_ret;exact ⟨rfl, HB.out _⟩
set_option maxHeartbeats 1000000 in
theorem rf_need (w : World) (r : Nat) (v : Value) (ts : List Tok) (ns : Nms) (at_ : Int) (l : List UInt8) (x : ByteArray) (hx : x = ⟨l.toArray⟩) (h : FMem w r v ts ns 0 at_) (hf : Fine ts) (hp : (fstT ts).isP l = true) :
 Calls Tryz.prog 95 #[.pointer (some ⟨r, 0, none⟩), .string x] w fun e w' => e = .returned (.tuple #[]) /\ FMem w' r v ts.tail ns 0 at_ /\ RGo r v w v w' := by
 subst hx;have HF := Lib.hid hf;have HP := Lib.hid (fun W => rf_isPunct (fstT ts) l W);rw [hp] at HP;have h2 : 2 <= ts.length := hf.two (by rw [(isP_kind hp).1]; decide);have HH := Lib.hid h;have hlt := h.lt;clear h hf hp;generalize (⟨l.toArray⟩ : ByteArray) = x at *;go_enter Tryz.func95, Tryz.ntmps95;go_wp2_with fail;refine (rf_goes w r v ts ns 0 at_ HH.out).mono ?_; rintro e w1 ⟨rfl, hb1⟩;have HB1 := Lib.hid hb1;clear hb1;go_wp2_with fail;refine (rf_next w1 r v ts ns 0 at_ (HH.out.below HB1.out) HF.out.pos).mono ?_; rintro e w2 ⟨rfl, hb2⟩;have HB2 := Lib.hid (HB1.out.trans (hb2.mono HB1.out.size));clear hb2 HB1;generalize tokv (fstT ts) = tv at *;go_wp2_with fail;refine (HP.out _).mono ?_; rintro e w3 ⟨rfl, hb3⟩;have HB3 := Lib.hid (HB2.out.trans (hb3.mono HB2.out.size));clear hb3 HB2;go_wp2_with fail;refine (rf_step w3 r v ts ns at_ (HH.out.below HB3.out) h2).mono ?_; rintro e w4 ⟨rfl, hm4, hg4⟩;have HM4 := Lib.hid hm4;have HG4 := Lib.hid ((RGo.of_below HB3.out (Nat.le_of_lt hlt)).trans hg4);clear hm4 hg4;go_wp2_with fail;go_end0;exact ⟨rfl, HM4.out, HG4.out⟩
set_option maxHeartbeats 1000000 in
theorem rf_needs (w : World) (r : Nat) (v : Value) (ts : List Tok) (ns : Nms) (at_ : Int) (l : List UInt8) (x : ByteArray) (hx : x = ⟨l.toArray⟩) (h : FMem w r v ts ns 0 at_) (hf : Fine ts) (hp : (fstT ts).isP l = false) :
 Calls Tryz.prog 95 #[.pointer (some ⟨r, 0, none⟩), .string x] w fun e w' => e = .returned (.tuple #[]) /\ FMem w' r v ts ns 60 ((fstT ts).pos : Nat) /\ RGo r v w v w' := by
 subst hx;have HF := Lib.hid hf;have HP := Lib.hid (fun W => rf_isPunct (fstT ts) l W);rw [hp] at HP;have HH := Lib.hid h;have hlt := h.lt;clear h hf hp;generalize (⟨l.toArray⟩ : ByteArray) = x at *;go_enter Tryz.func95, Tryz.ntmps95;go_wp2_with fail;refine (rf_goes w r v ts ns 0 at_ HH.out).mono ?_; rintro e w1 ⟨rfl, hb1⟩;have HB1 := Lib.hid hb1;clear hb1;go_wp2_with fail;refine (rf_next w1 r v ts ns 0 at_ (HH.out.below HB1.out) HF.out.pos).mono ?_; rintro e w2 ⟨rfl, hb2⟩;have HB2 := Lib.hid (HB1.out.trans (hb2.mono HB1.out.size));clear hb2 HB1;generalize tokv (fstT ts) = tv at *;go_wp2_with fail;refine (HP.out _).mono ?_; rintro e w3 ⟨rfl, hb3⟩;have HB3 := Lib.hid (HB2.out.trans (hb3.mono HB2.out.size));clear hb3 HB2;go_wp2_with fail;refine (rf_fail w3 r v ts ns at_ (HH.out.below HB3.out) HF.out.pos).mono ?_; rintro e w4 ⟨rfl, hm4, hg4⟩;have HM4 := Lib.hid hm4;have HG4 := Lib.hid ((RGo.of_below HB3.out (Nat.le_of_lt hlt)).trans hg4);clear hm4 hg4;go_wp2_with fail;refine (rf_stay w4 r v ts ns 60 _ HM4.out (by decide)).mono ?_; rintro e w5 ⟨rfl, hb5⟩;have HB5 := Lib.hid hb5;clear hb5;go_wp2_with fail;go_end0;exact ⟨rfl, HM4.out.below HB5.out, HG4.out.trans (RGo.of_below HB5.out (Nat.le_of_lt HM4.out.lt))⟩
set_option maxHeartbeats 1000000 in
theorem rf_needed (w : World) (r : Nat) (v : Value) (ts : List Tok) (ns : Nms) (er at_ : Int) (x : ByteArray) (h : FMem w r v ts ns er at_) (he : er ≠ 0) :
 Calls Tryz.prog 95 #[.pointer (some ⟨r, 0, none⟩), .string x] w fun e w' => e = .returned (.tuple #[]) /\ Below w.heap.size w w' := by
 have hG := rf_goes w r v ts ns er at_ h;rw [beq_eq_false_iff_ne.2 he] at hG;have HG := Lib.hid hG;have HH := Lib.hid h;clear h hG;go_enter Tryz.func95, Tryz.ntmps95;go_wp2_with fail;refine HG.out.mono ?_; rintro e w1 ⟨rfl, hb1⟩;have HB1 := Lib.hid hb1;clear hb1;go_wp2_with fail;refine (rf_stay w1 r v ts ns er at_ (HH.out.below HB1.out) he).mono ?_; rintro e w2 ⟨rfl, hb2⟩;have HB2 := Lib.hid (HB1.out.trans (hb2.mono HB1.out.size));clear hb2;go_wp2_with fail;go_end0;exact ⟨rfl, HB2.out⟩
theorem cellsR4 {w : World} {q : Nat} {a b c d : Value} {t : TypeId} (h : w.heap[q]? = some (.cells #[a, b, c, d] t (0, 0))) :
 w.cell? ⟨q, 0, none⟩ = some a /\ w.cell? ⟨q, 1, none⟩ = some b /\ w.cell? ⟨q, 2, none⟩ = some c /\ w.cell? ⟨q, 3, none⟩ = some d /\ w.frozen? ⟨q, 0, none⟩ = false /\ w.frozen? ⟨q, 1, none⟩ = false /\ w.frozen? ⟨q, 2, none⟩ = false /\ w.frozen? ⟨q, 3, none⟩ = false := by
 simp [World.cell?, World.frozen?, h]
theorem newR (w : World) (o : Obj) : (w.alloc o).heap[w.heap.size]? = some o := by unfold World.alloc; simp
theorem pastR {w : World} {q : Nat} {o : Obj} (hq : w.heap[q]? = some o) (o2 : Obj) : (w.alloc o2).heap[q]? = some o := (Below.heap_alloc w o2 q (Array.getElem?_eq_some_iff.1 hq).1).trans hq
theorem opAns_some (r : R) : opAns (some r) = .tuple #[.agg #[.int .i64 r.p, .string r.k], .bool true] := rfl
theorem opAns_shape (E : Option R) : ∃ (p : Int) (k : ByteArray) (b : Bool), opAns E = .tuple #[.agg #[.int .i64 p, .string k], .bool b] /\ b = E.isSome := by
 cases E with
 | none => exact ⟨0, ⟨#[]⟩, false, rfl, rfl⟩
 | some r => exact ⟨r.p, r.k, true, rfl, rfl⟩
set_option maxHeartbeats 1000000 in
theorem rf_peek (w : World) (r : Nat) (v : Value) (ts : List Tok) (ns : Nms) (er at_ : Int) (h : FMem w r v ts ns er at_) (hf : 2 <= ts.length) :
 Calls Tryz.prog 97 #[.pointer (some ⟨r, 0, none⟩)] w fun e w' => e = .returned (tokv (fstT ts.tail)) /\ Below w.heap.size w w' := by
 have HB := Lib.hid (fun o : Obj => (Below.refl w.heap.size w).alloc (Nat.le_refl _) o);have hlt := h.lt;obtain ⟨g, k, cap, hg, hr, hl, hc, ht⟩ := h.ex;obtain ⟨_, _, _, _, ht2⟩ := ht.first (by omega);obtain ⟨c0, c1, c2, c3, _⟩ := ht2.first (by rw [List.length_tail]; omega);obtain ⟨r0, _⟩ := cellsF4 hr;have hl1 : (1 : Int) < (ts.length : Int) := by omega
 have hl2 : min (1 : Int) ((ts.length : Int) - 1) = 1 := by omega
 have hl3 : (ts.length : Int) <= 9223372036854775807 := by unfold maxLen at hc; omega
 have hgl : g < w.heap.size := by omega
 unfold tokv;clear h hr ht hc ht2;generalize (⟨(fstT ts.tail).text.toArray⟩ : ByteArray) = u at *;generalize (fstT ts.tail).kind = a at *;generalize (fstT ts.tail).n = b at *;generalize (fstT ts.tail).pos = d at *;generalize ts.length = L at *;go_enter Tryz.func97, Tryz.ntmps97;go_wp2_with fail;go_region
 go_wp2_with fail;exact bodyPost_ret (v := .agg #[.int .i64 a, .string u, .int .i64 b, .int .i64 (d : Nat)]) (by simp [results, Tryz.results97, go_sem]) rfl ⟨rfl, (HB.out _).drew⟩
set_option maxRecDepth 100000 in
set_option maxHeartbeats 4000000 in
theorem rf_alone (t c : Tok) (w : World) :
 Calls Tryz.prog 100 #[tokv t, tokv c] w fun e w' => e = .returned (.bool (aloneT t c)) /\ Below w.heap.size w w' := by
 have HB := Lib.hid (fun o o2 : Obj => ((Below.refl w.heap.size w).alloc (Nat.le_refl _) o).alloc (by simp) o2);have HA := Lib.hid (fun W => rf_isAtom t W);have HO2 := Lib.hid (fun W => ref_Prefix ⟨t.text.toArray⟩ W);have HO3 := Lib.hid (fun W => ref_Infix ⟨t.text.toArray⟩ W);have hdef : aloneT t c = if t.kind == 8 || t.kind == 9 then true else if t.kind == 6 then t.text == [41] || t.text == [93] || t.text == [125] || t.text == [44] || t.text == [124] else t.isAtom && (opR t.text 3).isSome && (opR t.text 2).isNone && !(c.kind == 7) := rfl;rw [<- text_is t.text [41], <- text_is t.text [93], <- text_is t.text [125], <- text_is t.text [44], <- text_is t.text [124]] at hdef;obtain ⟨p2, k2, b2, hE2, hb2⟩ := opAns_shape (findR tabR ⟨t.text.toArray⟩ 2);obtain ⟨p3, k3, b3, hE3, hb3⟩ := opAns_shape (findR tabR ⟨t.text.toArray⟩ 3);unfold opR at hdef;rw [<- hb3, show (findR tabR ⟨t.text.toArray⟩ 2).isNone = !b2 by rw [hb2]; cases findR tabR ⟨t.text.toArray⟩ 2 <;> rfl] at hdef;rw [hE2] at HO2;rw [hE3] at HO3;generalize aloneT t c = res at *;generalize t.isAtom = ba at *;have HD := Lib.hid hdef;clear hdef hb2 hb3 hE2 hE3;unfold tokv at *;generalize (⟨t.text.toArray⟩ : ByteArray) = u at *;generalize (⟨c.text.toArray⟩ : ByteArray) = u2 at *;generalize t.kind = a at *;generalize t.n = n at *;generalize t.pos = po at *;generalize c.kind = a2 at *;generalize c.n = n2 at *;generalize c.pos = po2 at *;have HQ0 := Lib.hid (pastR (newR w (.cells #[.int .i64 a, .string u, .int .i64 n, .int .i64 (po : Nat)] 55)) (.cells #[.int .i64 a2, .string u2, .int .i64 n2, .int .i64 (po2 : Nat)] 55));have HQ1 := Lib.hid (newR (w.alloc (.cells #[.int .i64 a, .string u, .int .i64 n, .int .i64 (po : Nat)] 55)) (.cells #[.int .i64 a2, .string u2, .int .i64 n2, .int .i64 (po2 : Nat)] 55));cases e8 : (a == 8) with
 | true =>
  have hr : res = true := by rw [HD.out, e8]; rfl
  rw [hr];clear HD hr;go_enter Tryz.func100, Tryz.ntmps100;go_wp2_with fail;go_ret;exact ⟨rfl, HB.out _ _⟩
 | false =>
 cases e9 : (a == 9) with
 | true =>
  have hr : res = true := by rw [HD.out, e8, e9]; rfl
  rw [hr];clear HD hr;go_enter Tryz.func100, Tryz.ntmps100;go_wp2_with fail;go_ret;exact ⟨rfl, HB.out _ _⟩
 | false =>
 cases e6 : (a == 6) with
 | true =>
  have hr : Hid (res = (u.toList == [41] || u.toList == [93] || u.toList == [125] || u.toList == [44] || u.toList == [124])) := Lib.hid (by rw [HD.out, e8, e9, e6]; rfl);rw [hr.out];clear HD hr HO2 HO3 HA;cases x1 : (u.toList == [41]) <;> cases x2 : (u.toList == [93]) <;> cases x3 : (u.toList == [125]) <;> cases x4 : (u.toList == [44]) <;> cases x5 : (u.toList == [124])
  all_goals
   first
   | (exfalso; simp_all; done)
   | (go_enter Tryz.func100, Tryz.ntmps100
      go_wp2_with fail;go_ret;exact ⟨rfl, HB.out _ _⟩)
 | false =>
 have hr : Hid (res = (ba && b3 && !b2 && !(a2 == 7))) := Lib.hid (by rw [HD.out, e8, e9, e6]; rfl);rw [hr.out];clear HD hr;cases ba with
 | false =>
  rw [show (false && b3 && !b2 && !(a2 == 7)) = false by simp];go_enter Tryz.func100, Tryz.ntmps100;go_wp2_with fail;refine (HA.out _).mono ?_; rintro e w1 ⟨rfl, hb1⟩;have HB1 := Lib.hid ((HB.out _ _).trans (hb1.mono (by simp; omega)));clear hb1;go_wp2_with fail;go_ret;exact ⟨rfl, HB1.out⟩
 | true =>
 cases e7 : (a2 == 7) with
 | true =>
  rw [show (true && b3 && !b2 && !true) = false by simp];go_enter Tryz.func100, Tryz.ntmps100;go_wp2_with fail;refine (HA.out _).mono ?_; rintro e w1 ⟨rfl, hb1⟩;obtain ⟨d0, _⟩ := cellsR4 (keptR hb1 HQ1.out);rw [World.size_alloc] at d0;have HB1 := Lib.hid ((HB.out _ _).trans (hb1.mono (by simp; omega)));clear hb1;go_wp2_with fail;go_ret;exact ⟨rfl, HB1.out⟩
 | false =>
  have hres : (true && b3 && !b2 && !false) = (b3 && !b2) := by cases b3 <;> cases b2 <;> rfl
  rw [hres];clear hres;cases b3 <;> cases b2
  all_goals
   go_enter Tryz.func100, Tryz.ntmps100;go_wp2_with fail;refine (HA.out _).mono ?_; rintro e w1 ⟨rfl, hb1⟩;obtain ⟨d0, _⟩ := cellsR4 (keptR hb1 HQ1.out);rw [World.size_alloc] at d0;obtain ⟨_, d1, _⟩ := cellsR4 (keptR hb1 HQ0.out);have H0 := Lib.hid (keptR hb1 HQ0.out);have HB1 := Lib.hid ((HB.out _ _).trans (hb1.mono (by simp; omega)));clear hb1;go_wp2_with fail;refine (HO3.out _).mono ?_; rintro e w2 ⟨rfl, hb2⟩;have h0 := keptR hb2 H0.out;have HB2 := Lib.hid (HB1.out.trans (hb2.mono HB1.out.size));obtain ⟨_, d1, _⟩ := cellsR4 (pastR h0 (.cells #[.int .i64 p3, .string k3] 93));clear hb2 h0 d0;go_wp2_with fail;refine (HO2.out _).mono ?_; rintro e w3 ⟨rfl, hb3⟩;have HB4 := Lib.hid ((HB2.out.alloc HB2.out.size (.cells #[.int .i64 p3, .string k3] 93)).trans (hb3.mono (by have := HB2.out.size; simp; omega)));clear hb3;go_wp2_with fail;go_ret;exact ⟨rfl, HB4.out.alloc HB4.out.size _⟩
theorem idxGo_is (s : List UInt8) : ∀ (ns : Nms) (i : Int), idxGo ⟨s.toArray⟩ (nmB ns) i = if s ∈ ns then i + (ns.idxOf s : Nat) else -1
 | [], i => rfl
 | x :: ns, i => by
  show (if (⟨s.toArray⟩ : ByteArray).toList == (⟨x.toArray⟩ : ByteArray).toList then i else idxGo ⟨s.toArray⟩ (nmB ns) (i + 1)) = _
  rw [ByteArray.toList_eq, ByteArray.toList_eq];show (if s == x then i else idxGo ⟨s.toArray⟩ (nmB ns) (i + 1)) = _
  by_cases hx : s = x
  · subst hx;rw [if_pos (by simp), if_pos (by simp), List.idxOf_cons_self]; simp
  · have h1 : (s == x) = false := by simpa using hx
    rw [h1, if_neg (by decide), idxGo_is s ns (i + 1)];by_cases hm : s ∈ ns
    · rw [if_pos hm, if_pos (List.mem_cons_of_mem _ hm), List.idxOf_cons, beq_eq_false_iff_ne.2 (fun e => hx e.symm)];show i + 1 + _ = i + ((ns.idxOf s + 1 : Nat) : Int)
      omega
    · rw [if_neg hm, if_neg (by simp [hm, hx])]
theorem nmB_len (ns : Nms) : (nmB ns).length = ns.length := List.length_map _
theorem nmB_snoc (ns : Nms) (s : List UInt8) : nmB (ns ++ [s]) = nmB ns ++ [⟨s.toArray⟩] := by unfold nmB; rw [List.map_append]; rfl
theorem leafR (w : World) (B : Nat) (v : Value) {k n : Int} {s : ByteArray} (hk : In64 k) (hn : In64 n) (hs : s.size <= maxLen) : TmB B w v (.mk k s n []) none 0 := ⟨hk, hn, hs, Nat.le_refl _, Nat.zero_le _, .nil _⟩
theorem info_partsR {t : TypeId} {z : Value} {s b : Nat} (h : (Tryz.prog.info? t).map (fun i => (i.zero, i.size, i.bytes)) = some (some z, s, b)) : ∃ i, Tryz.prog.info? t = some i /\ i.zero = some z /\ i.size = s /\ i.bytes = b := by
 cases hi : Tryz.prog.info? t with
 | none => rw [hi] at h; cases h
 | some i =>
  rw [hi] at h;simp only [Option.map_some, Option.some.injEq, Prod.mk.injEq] at h
  exact ⟨i, rfl, h.1, h.2.1, h.2.2⟩
theorem in64R {x : Int} (h0 : -1000 <= x) (h1 : x <= 1000) : In64 x := ⟨by omega, by omega⟩
def FIs {α : Type} (a0 : Int) (x : Rd α) (t : α) (ts : List Tok) (ns : Nms) (er at_ : Int) : Prop :=
 match x with
 | .bad o => er = 60 /\ at_ = (o : Nat)
 | .ok t0 ts0 ns0 => t = t0 /\ ts = ts0 /\ ns = ns0 /\ er = 0 /\ at_ = a0
def FOut (r : Nat) (v : Value) (w : World) (a0 : Int) (x : Rd Tm) (e : Ending) (w' : World) : Prop :=
 ∃ t ts ns er at_ v' ad cap, e = .returned (tmv t ad cap) /\ FMem w' r v' ts ns er at_ /\ RGo r v w v' w' /\ TmB w.heap.size w' v' t ad cap /\ FIs a0 x t ts ns er at_
def FOut2 (r : Nat) (v : Value) (w : World) (a0 : Int) (x : Rd (Tm × Int)) (e : Ending) (w' : World) : Prop :=
 ∃ t p ts ns er at_ v' ad cap, e = .returned (.tuple #[tmv t ad cap, .int .i64 p]) /\ FMem w' r v' ts ns er at_ /\ RGo r v w v' w' /\ TmB w.heap.size w' v' t ad cap /\ FIs a0 x (t, p) ts ns er at_
theorem FMem.set4 {r q : Nat} {v' : Value} {w3 : World} {ts : List Tok} {ns : Nms} {er at_ : Int} (hm : FMem w3 r v' ts ns er at_) (hq : r < q) (hv : some q ≠ v'.ownBlock) (u0 u1 u2 u3 : Value) :
 FMem ((((w3.setCell ⟨q, 0, none⟩ u0).setCell ⟨q, 1, none⟩ u1).setCell ⟨q, 2, none⟩ u2).setCell ⟨q, 3, none⟩ u3) r v' ts ns er at_ :=
 (((hm.setOther hq hv u0).setOther hq hv u1).setOther hq hv u2).setOther hq hv u3
theorem FOut.fin {r q B : Nat} {v v' : Value} {w w3 : World} {a0 : Int} {x : Rd Tm} {t : Tm} {ts : List Tok} {ns : Nms} {er at_ : Int} {ad : Option Addr} {cap : Nat} {e : Ending} (he : e = .returned (tmv t ad cap)) (hm : FMem w3 r v' ts ns er at_) (hg : RGo r v w v' w3) (ht : TmB B w3 v' t ad cap) (hi : FIs a0 x t ts ns er at_) (hlt : r < w.heap.size) (hq : w.heap.size <= q) (hB : q < B) (hv : some q ≠ v'.ownBlock) (u0 u1 u2 u3 : Value) :
 FOut r v w a0 x e ((((w3.setCell ⟨q, 0, none⟩ u0).setCell ⟨q, 1, none⟩ u1).setCell ⟨q, 2, none⟩ u2).setCell ⟨q, 3, none⟩ u3) :=
 ⟨t, ts, ns, er, at_, v', ad, cap, he, hm.set4 (by omega) hv _ _ _ _, (((hg.set hq (by omega) u0).set hq (by omega) u1).set hq (by omega) u2).set hq (by omega) u3, ((((ht.set hB u0).set hB u1).set hB u2).set hB u3).mono (by omega), hi⟩
theorem FOut2.fin {r q B : Nat} {v v' : Value} {w w3 : World} {a0 : Int} {x : Rd (Tm × Int)} {t : Tm} {p : Int} {ts : List Tok} {ns : Nms} {er at_ : Int} {ad : Option Addr} {cap : Nat} {e : Ending} (he : e = .returned (.tuple #[tmv t ad cap, .int .i64 p])) (hm : FMem w3 r v' ts ns er at_) (hg : RGo r v w v' w3) (ht : TmB B w3 v' t ad cap) (hi : FIs a0 x (t, p) ts ns er at_) (hlt : r < w.heap.size) (hq : w.heap.size <= q) (hB : q < B) (hv : some q ≠ v'.ownBlock) (u0 u1 u2 u3 : Value) :
 FOut2 r v w a0 x e ((((w3.setCell ⟨q, 0, none⟩ u0).setCell ⟨q, 1, none⟩ u1).setCell ⟨q, 2, none⟩ u2).setCell ⟨q, 3, none⟩ u3) :=
 ⟨t, p, ts, ns, er, at_, v', ad, cap, he, hm.set4 (by omega) hv _ _ _ _, (((hg.set hq (by omega) u0).set hq (by omega) u1).set hq (by omega) u2).set hq (by omega) u3, ((((ht.set hB u0).set hB u1).set hB u2).set hB u3).mono (by omega), hi⟩
theorem FMem.grow {w w3 : World} {r : Nat} {v v3 : Value} {ts : List Tok} {ns : Nms} {er at_ : Int} (h : FMem w r v ts ns er at_) (s : List UInt8) (o : Obj)
 (hown : w3.ownsRow (r + 1) 9 1 v3 (ns.length + 1) (strs (nmB ns) ++ [.string ⟨s.toArray⟩])) (hg : (w.alloc o).grownBy w3 v.ownBlock) (hnew : v3.ownBlock = v.ownBlock \/ ∃ g, v3.ownBlock = some g /\ w.heap.size <= g) :
 FMem (w3.setCell ⟨r, 1, none⟩ v3) r v3 ts (ns ++ [s]) er at_ /\ RGo r v w v3 (w3.setCell ⟨r, 1, none⟩ v3) /\ w3.cell? ⟨r, 1, none⟩ = some v /\ w3.frozen? ⟨r, 1, none⟩ = false := by
 have hlt := h.lt;have hne : some r ≠ v.ownBlock := fun e => by have := (h.names.lt r e.symm).1; omega
 obtain ⟨g, k, cap, hgr, hr, hl, hc, ht⟩ := h.ex;have hneg : some g ≠ v.ownBlock := fun e => by have := (h.names.lt g e.symm).1; omega
 have keep : ∀ b, b < w.heap.size -> some b ≠ v.ownBlock -> w3.heap[b]? = w.heap[b]? := fun b hb hv => by
  rw [hg.block b (by rw [World.size_alloc]; omega) hv, Below.heap_alloc w o b hb]
 have hr3 := (keep r hlt hne).trans hr;have hr4 := Lib.heap_setCell_same (i := 1) hr3 v3;have hown2 : OwnStrs (r + 1) w3 v3 (nmB (ns ++ [s])) := by
  rw [nmB_snoc];exact OwnStrs.snoc hown (by rw [List.length_append, nmB_len]; rfl) rfl
 have hb : Below r w w3 := ((Below.refl r w).alloc (by omega) o).grown hg (by rw [World.size_alloc]; omega) (fun i hi => by have := (h.names.lt i hi).1; omega);refine ⟨⟨⟨g, k, cap, hgr, by simpa using hr4, hl, hc, ht.kept (fun hs => ?_)⟩, hown2.kept (fun b hb _ => Below.heap_setCell _ _ _ _ (show b ≠ r by have := (hown2.lt b hb).1; omega))⟩, ⟨hb.setCell (p := ⟨r, 1, none⟩) (Nat.le_refl _) v3, fun b hb h1 h2 => ?_, hnew⟩, (cellsF4 hr3).2.1, (cellsF4 hr3).2.2.2.2.2.1⟩
 · rw [Below.heap_setCell _ _ _ _ (show g ≠ r by omega), keep g hs hneg]
 · rw [Below.heap_setCell _ _ _ _ h1, keep b hb h2]
theorem text_is2 (l : List UInt8) (m : List UInt8) : (l == (⟨m.toArray⟩ : ByteArray).toList) = (l == m) := by rw [ByteArray.toList_eq]
def varS (ts : List Tok) (ns : Nms) : Rd Tm :=
 if (fstT ts).text ∈ ns /\ (fstT ts).text ≠ [95] then .ok (varT (ns.idxOf (fstT ts).text)) ts ns
 else if ns.length = 200 then .bad (fstT ts).pos
 else .ok (varT ns.length) ts (ns ++ [(fstT ts).text])
theorem varS_step (ts : List Tok) (ns : Nms) : varR ts ns = (varS ts ns).bind fun t ts' ns' => .ok t ts'.tail ns' := by
 unfold varR varS;split
 · rfl
 split <;> rfl
set_option maxRecDepth 100000 in
set_option maxHeartbeats 4000000 in
theorem rf_variable (w : World) (r : Nat) (v : Value) (ts : List Tok) (ns : Nms) (at_ : Int) (h : FMem w r v ts ns 0 at_) (hf : Fine ts) (hn : ns.length <= 200) :
 Calls Tryz.prog 74 #[.pointer (some ⟨r, 0, none⟩), .string ⟨(fstT ts).text.toArray⟩] w fun e w' => FOut r v w at_ (varS ts ns) e w' := by
 obtain ⟨X, hX⟩ : ∃ X, varS ts ns = X := ⟨_, rfl⟩;rw [hX];have hfp := hf.pos;have hlt := h.lt;have HB := Lib.hid (fun o : Obj => (Below.refl w.heap.size w).alloc (Nat.le_refl _) o);have HQ := Lib.hid (newR w (.cells #[.int .i64 0, .string ⟨#[]⟩, .int .i64 0, .slice none 0 0] 24));have hm0 := h.below (HB.out (.cells #[.int .i64 0, .string ⟨#[]⟩, .int .i64 0, .slice none 0 0] 24));have hnew := h.new_ne (Nat.le_refl _);obtain ⟨adv, capv, hvv, hvl, hvc, hcell⟩ := hm0.names.view;rw [nmB_len] at hvv hvl;subst hvv;obtain ⟨g0, k0, cap0, _, hr0, _⟩ := hm0.ex;obtain ⟨_, r1, _, _, _, z1, _⟩ := cellsF4 hr0;have HC : Hid (∀ j (hj : j < ns.length), ∃ g, adv = some ⟨g, 0, none⟩ /\ _ = some (Value.string ((nmB ns)[j]'(by rw [nmB_len]; exact hj)))) := Lib.hid (fun j hj => hcell j (by rw [nmB_len]; exact hj));have HM0 := Lib.hid hm0;have heq := text_is (fstT ts).text [95];have hi0 := idxGo_is (fstT ts).text ns 0;have hmem : ∀ k (hk : k < ns.length), ((nmB ns)[k]'(by rw [nmB_len]; exact hk)).toList = ns[k] := fun k hk => by
  unfold nmB; rw [List.getElem_map, ByteArray.toList_eq]
 have HMEM := Lib.hid hmem;clear h hm0 hr0 hcell hmem;by_cases hA : (fstT ts).text ∈ ns /\ (fstT ts).text ≠ [95]
 · have HV : Hid (X = .ok (varT (ns.idxOf (fstT ts).text)) ts ns) := Lib.hid (by rw [<- hX]; unfold varS; rw [if_pos hA]);have h95 : ((fstT ts).text == [95]) = false := by simpa using hA.2
   rw [h95] at heq;rw [if_pos hA.1] at hi0;have hlt0 : ns.idxOf (fstT ts).text < ns.length := List.idxOf_lt_length_of_mem hA.1;clear hA h95 hX HMEM;generalize ns.idxOf (fstT ts).text = N at *;generalize (⟨(fstT ts).text.toArray⟩ : ByteArray) = u at *;have HE : Hid (idxGo u (nmB ns) 0 = (N : Int)) := Lib.hid (by rw [hi0]; omega);clear hi0;go_enter Tryz.func74, Tryz.ntmps74;go_wp2_with fail;go_loop [12] (fun iv => ∃ k : Nat, k <= ns.length /\ iv = .int .i64 k /\ Hid (idxGo u ((nmB ns).drop k) k = (N : Int))) (fun iv => ns.length - (intOf iv).toNat)
   case atStart => exact ⟨0, Nat.zero_le _, rfl, HE⟩
   case round =>
    obtain ⟨k, hk, rfl, HL⟩ := hrel;by_cases hlt1 : k < ns.length
    · obtain ⟨g, rfl, c0⟩ := HC.out k hlt1;have hsn := Lib.hid (idxGo_drop u (nmB ns) k (by rw [nmB_len]; exact hlt1));generalize (nmB ns)[k]'(by rw [nmB_len]; exact hlt1) = x at *;cases hx : (x.toList == u.toList) with
      | true =>
       have HR : Hid ((N : Int) = k) := Lib.hid (HL.out.symm.trans (by rw [hsn.out, show (u.toList == x.toList) = true by rw [<- hx, Bool.beq_comm]]; rfl));have hNk : N = k := by have := HR.out; omega
       subst hNk;clear hsn HL HR;go_wp2_with fail;refine (ref_Var1 N _).mono ?_; rintro e w1 ⟨rfl, hb1⟩;obtain ⟨d0, d1, d2, d3, e0, e1, e2, e3⟩ := cellsR4 (keptR hb1 HQ.out);have HB1 := Lib.hid hb1;clear hb1 r1 z1;go_wp2_with fail;refine bodyPost_ret (v := .agg #[.int .i64 1, .string ⟨#[]⟩, .int .i64 N, .slice none 0 0]) (by simp [results, Tryz.results74, go_sem, d0, d1, d2, d3]) rfl ?_;exact FOut.fin (x := X) (a0 := at_) (t := varT N) (B := w.heap.size + 1) rfl (HM0.out.below HB1.out) (RGo.of_below ((HB.out _).trans (HB1.out.mono (by simp))) (Nat.le_of_lt hlt)) (leafR _ _ _ (in64R (by decide) (by decide)) (in64R (by omega) (by omega)) (Nat.zero_le _)) (by rw [HV.out]; exact ⟨rfl, rfl, rfl, rfl, rfl⟩) hlt (Nat.le_refl _) (by omega) hnew.2 _ _ _ _
      | false =>
       have HN : Hid (idxGo u ((nmB ns).drop (k + 1)) ((k + 1 : Nat) : Int) = (N : Int)) := Lib.hid (by rw [<- HL.out, hsn.out, show (u.toList == x.toList) = false by rw [<- hx, Bool.beq_comm]]; rfl);clear hsn HL;go_wp2_with fail;go_round
       case rel => exact ⟨k + 1, by omega, by go_num, HN⟩
       case measure => simp [intOf]; omega
    · have hR := HL.out;rw [List.drop_eq_nil_of_le (by rw [nmB_len]; omega)] at hR;exact absurd (show (-1 : Int) = (N : Int) from hR) (by omega)
 · obtain ⟨b95, h95⟩ : ∃ b, ((fstT ts).text == [95]) = b := ⟨_, rfl⟩;have HX : Hid (∀ k (hk : k < ns.length), (((nmB ns)[k]'(by rw [nmB_len]; exact hk)).toList == (⟨(fstT ts).text.toArray⟩ : ByteArray).toList) = true -> b95 = true) := Lib.hid (fun k hk he => by
    rw [HMEM.out k hk, text_is2, beq_iff_eq] at he;rw [<- h95];apply Classical.byContradiction
    intro hc;exact hA ⟨by rw [<- he]; exact List.getElem_mem _, fun e => hc (by rw [e]; rfl)⟩)
   rw [h95] at heq;have HV : Hid (X = if ns.length = 200 then .bad (fstT ts).pos else .ok (varT ns.length) ts (ns ++ [(fstT ts).text])) := Lib.hid (by rw [<- hX]; unfold varS; rw [if_neg hA]);clear hX hA hi0 h95 HMEM;obtain ⟨i0, hi, hz0, hz1, hz2⟩ := info_partsR infoStr;generalize hsx : (fstT ts).text = sx at *;have HSX := Lib.hid hsx;clear hsx;generalize hux : (⟨sx.toArray⟩ : ByteArray) = u at *;have HUX := Lib.hid hux;clear hux;go_enter Tryz.func74, Tryz.ntmps74;go_wp2_with fail;go_loop [12] (fun iv => ∃ k : Nat, k <= ns.length /\ iv = .int .i64 k) (fun iv => ns.length - (intOf iv).toNat)
   case atStart => exact ⟨0, Nat.zero_le _, rfl⟩
   case round =>
    obtain ⟨k, hk, rfl⟩ := hrel;by_cases hlt1 : k < ns.length
    · obtain ⟨g, rfl, c0⟩ := HC.out k hlt1;have hxb := Lib.hid (HX.out k hlt1);generalize (nmB ns)[k]'(by rw [nmB_len]; exact hlt1) = x at *;cases hx : (x.toList == u.toList) with
      | true =>
       obtain rfl := hxb.out hx;go_wp2_with fail;go_round
       case rel => exact ⟨k + 1, by omega, by go_num⟩
       case measure => simp [intOf]; omega
      | false =>
       go_wp2_with fail;go_round
       case rel => exact ⟨k + 1, by omega, by go_num⟩
       case measure => simp [intOf]; omega
    · clear heq;by_cases h200 : ns.length = 200
      · have HV2 : Hid (X = .bad (fstT ts).pos) := Lib.hid (by rw [HV.out, if_pos h200]);have e200 : ¬ ((ns.length : Nat) : Int) < 200 := by omega
        clear h200;go_wp2_with fail;refine (rf_fail _ r _ ts ns at_ HM0.out hfp).mono ?_; rintro e w1 ⟨rfl, hm1, hg1⟩;obtain ⟨d0, d1, d2, d3, e0, e1, e2, e3⟩ := cellsR4 (hg1.at HQ.out (by have := hnew.1; omega) hnew.2);have HM1 := Lib.hid hm1;have HG1 := Lib.hid hg1;clear hm1 hg1 r1 z1;go_wp2_with fail;refine bodyPost_ret (v := .agg #[.int .i64 0, .string ⟨#[]⟩, .int .i64 0, .slice none 0 0]) (by simp [results, Tryz.results74, go_sem, d0, d1, d2, d3]) rfl ?_;exact FOut.fin (x := X) (a0 := at_) (t := .mk 0 ⟨#[]⟩ 0 []) (B := w.heap.size + 1) rfl HM1.out ((RGo.of_below (HB.out _) (Nat.le_of_lt hlt)).trans HG1.out) (leafR _ _ _ (in64R (by decide) (by decide)) (in64R (by decide) (by decide)) (Nat.zero_le _)) (by rw [HV2.out]; exact ⟨rfl, rfl⟩) hlt (Nat.le_refl _) (by omega) hnew.2 _ _ _ _
      · have HV2 : Hid (X = .ok (varT ns.length) ts (ns ++ [sx])) := Lib.hid (by rw [HV.out, if_neg h200]);have e200 : ((ns.length : Nat) : Int) < 200 := by omega
        have hown1 : (w.alloc (.cells #[.int .i64 0, .string ⟨#[]⟩, .int .i64 0, .slice none 0 0] 24)).ownsRow (r + 1) 9 1 (.slice adv ns.length capv) ns.length (strs (nmB ns)) := by
         have := HM0.out.names; unfold OwnStrs at this; rwa [nmB_len] at this
        clear h200 HV;have HBW := Lib.hid (HB.out (.cells #[.int .i64 0, .string ⟨#[]⟩, .int .i64 0, .slice none 0 0] 24));have HSZ : Hid ((w.alloc (.cells #[.int .i64 0, .string ⟨#[]⟩, .int .i64 0, .slice none 0 0] 24)).heap.size = w.heap.size + 1) := Lib.hid (World.size_alloc _ _);clear HC HB;generalize w.alloc (.cells #[.int .i64 0, .string ⟨#[]⟩, .int .i64 0, .slice none 0 0] 24) = w0 at *;go_wp2_with (first
         | (at_builtin; refine wpList_append_lies _ rfl _ _ 36 rfl (r + 1) 9 i0 (.string ⟨#[]⟩) 1 16 Tryz.underlying36 hi hz0 hz1 hz2 rfl (by decide) _ _ _ rfl (World.ownsRow.alloc hown1 _) ⟨w0.heap.size, 0, none⟩ 1 1 [.string u] rfl rfl ?c1 ?c2 (by decide) ?c3 ?c4 ?c5 _ rfl ?_))
        case c2 => rfl
        case c3 => unfold maxLen; omega
        case c4 => omega
        case c5 => have := HSZ.out; omega
        intro g3 cap3 w3 hown3 hgrow hat hlt3;obtain ⟨hm4, hg4, s1, s2⟩ := HM0.out.grow (v3 := .slice (some ⟨g3, 0, none⟩) (ns.length + 1) cap3) sx (.cells #[.string u] 9) (by rw [HUX.out]; exact hown3) hgrow (hat.elim (fun e => .inl e.symm) (fun e => .inr ⟨g3, rfl, by omega⟩));have HM4 := Lib.hid hm4;have HQ4 := Lib.hid (hg4.at HQ.out (by have := hnew.1; omega) hnew.2);have HG4 := Lib.hid ((RGo.of_below HBW.out (Nat.le_of_lt hlt)).trans hg4);have hlr : r < w3.heap.size := World.block_lt_of_cell? w3 ⟨r, 1, none⟩ s1;have HNE := Lib.hid (hg4.ne (b := w.heap.size) (by rw [HSZ.out]; omega) hnew.2);clear hm4 hg4 hown3 hgrow hat hown1 r1 z1;go_wp2_with fail;obtain ⟨g5, k5, cap5, _, hr5, _⟩ := HM4.out.ex;obtain ⟨_, r5, _⟩ := cellsF4 hr5;clear hr5;refine (ref_Var1 ns.length _).mono ?_; rintro e w5 ⟨rfl, hb5⟩;obtain ⟨d0, d1, d2, d3, e0, e1, e2, e3⟩ := cellsR4 (keptR hb5 HQ4.out);have HB5 := Lib.hid hb5;clear hb5 s1 s2;go_wp2_with fail;refine bodyPost_ret (v := .agg #[.int .i64 1, .string ⟨#[]⟩, .int .i64 ns.length, .slice none 0 0]) (by simp [results, Tryz.results74, go_sem, d0, d1, d2, d3]) rfl ?_;exact FOut.fin (x := X) (a0 := at_) (t := varT ns.length) (v' := .slice (some ⟨g3, 0, none⟩) (ns.length + 1) cap3) (B := w.heap.size + 1) rfl (HM4.out.below HB5.out) (HG4.out.trans (RGo.of_below HB5.out (by have := HM4.out.lt; omega))) (leafR _ _ _ (in64R (by decide) (by decide)) (in64R (by omega) (by omega)) (Nat.zero_le _)) (by rw [HV2.out]; exact ⟨rfl, rfl, rfl, rfl, rfl⟩) hlt (Nat.le_refl _) (by omega) HNE.out _ _ _ _
def tokLen (w : World) (r : Nat) : Nat :=
 match w.cell? ⟨r, 0, none⟩ with
 | some (.slice _ n _) => n
 | _ => 0
structure SevMem (B : Nat) (w : World) (lv v : Value) (l : List Tm) : Prop where
 ex : ∃ xs, w.ownsRow B 24 4 lv l.length xs /\ TRow w (fun b => B <= b /\ some b ≠ lv.ownBlock /\ some b ≠ v.ownBlock) xs l
 ne : ∀ k, lv.ownBlock = some k -> some k ≠ v.ownBlock
theorem ownsRow_kept {B : Nat} {e : TypeId} {s n : Nat} {w w' : World} {v : Value} {xs : List Value} (h : w.ownsRow B e s v n xs) (hb : ∀ b, v.ownBlock = some b -> b < w.heap.size -> w'.heap[b]? = w.heap[b]?) : w'.ownsRow B e s v n xs := by
 obtain ⟨hl, h0 | ⟨g, cap, cur, hv, hbg, hh, r⟩⟩ := h
 · exact ⟨hl, .inl h0⟩
 · exact ⟨hl, .inr ⟨g, cap, cur, hv, hbg, (hb g (by rw [hv]; rfl) (Array.getElem?_eq_some_iff.1 hh).1).trans hh, r⟩⟩
theorem SevMem.go {B r : Nat} {w w' : World} {lv v v' : Value} {l : List Tm} (h : SevMem B w lv v l) (hr : r < B) (hg : RGo r v w v' w') : SevMem B w' lv v' l := by
 obtain ⟨xs, h1, h2⟩ := h.ex;have hlt := h1.lt;exact ⟨⟨xs, ownsRow_kept h1 (fun b hb hs => hg.keep b hs (by have := (hlt b hb).1; omega) (h.ne b hb)), h2.kept (fun b hp hs => hg.keep b hs (by omega) hp.2.2) (fun b hp hs => ⟨hp.1, hp.2.1, hg.ne hs hp.2.2⟩)⟩, fun k hk => hg.ne (hlt k hk).2 (h.ne k hk)⟩
theorem RGo.grown {w w1 w3 : World} {r : Nat} {v v' : Value} {row : Option Nat} (h : RGo r v w v' w1) (hg : w1.grownBy w3 row) (hr : r < w.heap.size) (h1 : ∀ k, row = some k -> w.heap.size <= k) : RGo r v w v' w3 := by
 have hs := h.below.size;exact ⟨h.below.grown hg (by omega) (fun k hk => by have := h1 k hk; omega), fun b hb h2 h3 => (hg.block b (by omega) (fun e => by have := h1 b e.symm; omega)).trans (h.keep b hb h2 h3), h.own⟩
theorem SevMem.snoc {B B2 : Nat} {w w3 : World} {lv lv3 v : Value} {l : List Tm} {t : Tm} {ad : Option Addr} {cap : Nat} {xs : List Value} (hB : B <= B2) (hne : ∀ k, lv.ownBlock = some k -> some k ≠ v.ownBlock) (hltv : ∀ k, v.ownBlock = some k -> k < w.heap.size) (hlt : ∀ k, lv.ownBlock = some k -> k < B2)
 (hrow : TRow w (fun b => B <= b /\ some b ≠ lv.ownBlock /\ some b ≠ v.ownBlock) xs l) (ht : TmB B2 w v t ad cap)
 (hown : w3.ownsRow B 24 4 lv3 (l.length + 1) (xs ++ tcells t ad cap)) (hg : w.grownBy w3 lv.ownBlock) (hnew : lv3.ownBlock = lv.ownBlock \/ ∃ g, lv3.ownBlock = some g /\ w.heap.size <= g) : SevMem B w3 lv3 v (l ++ [t]) := by
 have hP : ∀ b, (B <= b /\ some b ≠ lv.ownBlock /\ some b ≠ v.ownBlock) -> b < w.heap.size -> (B <= b /\ some b ≠ lv3.ownBlock /\ some b ≠ v.ownBlock) := fun b hp hb => by
  refine ⟨hp.1, ?_, hp.2.2⟩;rcases hnew with h | ⟨g, h, hgs⟩
  · rw [h]; exact hp.2.1
  · rw [h]; intro e; have := Option.some.inj e; omega
 have hT : TmP w (fun b => B <= b /\ some b ≠ lv.ownBlock /\ some b ≠ v.ownBlock) t ad cap := TmP.kept ht (fun _ _ _ => rfl) (fun b hp _ => ⟨by omega, fun e => by have := hlt b e.symm; omega, hp.2⟩);refine ⟨⟨xs ++ tcells t ad cap, by rw [List.length_append]; exact hown, (hrow.kept (fun b hp hb => hg.block b hb hp.2.1) hP).snoc (hT.kept (fun b hp hb => hg.block b hb hp.2.1) hP)⟩, fun k hk => ?_⟩;rcases hnew with h | ⟨g, h, hgs⟩
 · exact hne k (h.symm.trans hk)
 · rw [h] at hk;have e := Option.some.inj hk;intro e2;have := hltv k e2.symm;omega
theorem SevMem.slice {B : Nat} {w : World} {lv v : Value} {l : List Tm} (h : SevMem B w lv v l) : ∃ ad cap, lv = .slice ad l.length cap /\ l.length <= cap /\ cap <= maxLen /\ TArgsP w (fun b => B <= b /\ some b ≠ v.ownBlock) ad l := by
 obtain ⟨xs, ⟨hl, h1⟩, h2⟩ := h.ex;have hne := h.ne;rcases h1 with ⟨rfl, h0⟩ | ⟨g, cap, cur, rfl, hbg, hh, hnc, hcm, hsz, htk⟩
 · cases l with
   | nil => exact ⟨none, 0, rfl, Nat.le_refl _, Nat.zero_le _, .nil _⟩
   | cons t ts => cases h0
 · refine ⟨some ⟨g, 0, none⟩, cap, rfl, hnc, hcm, h2.args g ⟨hbg, hne g rfl⟩ (fun b hp => ⟨hp.1, hp.2.2⟩) 0 (fun j hj => ?_)⟩;rw [Nat.zero_add];exact World.ownsRow.cellAt (w := w) (base := B) (e := 24) (size := 4) (n := l.length) (xs := xs) ⟨hl, .inr ⟨g, cap, cur, rfl, hbg, hh, hnc, hcm, hsz, htk⟩⟩ j (by rw [<- hl]; exact hj)
theorem SevMem.one {B B2 : Nat} {w : World} {v : Value} {t : Tm} {ad : Option Addr} {cap : Nat} (hB : B <= B2) (hBw : B2 <= w.heap.size) (hltv : ∀ k, v.ownBlock = some k -> k < w.heap.size) (ht : TmB B2 w v t ad cap) :
 SevMem B (w.alloc (.cells (tcells t ad cap).toArray 24)) (.slice (some ⟨w.heap.size, 0, none⟩) 1 1) v [t] := by
 have hrow := World.ownsRow_lit (base := B) (e := 24) (size := 4) w (tcells t ad cap).toArray 1 (by omega) (by unfold maxLen; decide) rfl;have hT : TRow (w.alloc (.cells (tcells t ad cap).toArray 24)) (fun b => B <= b /\ some b ≠ (Value.slice (some ⟨w.heap.size, 0, none⟩) 1 1).ownBlock /\ some b ≠ v.ownBlock) (tcells t ad cap ++ []) [t] :=
  .cons t ad cap [] [] (TmP.kept ht (fun b _ hb => Below.heap_alloc _ _ _ hb) (fun b hp hb => ⟨by omega, fun e => by have : b = w.heap.size := Option.some.inj e; omega, hp.2⟩)) .nil
 rw [List.append_nil] at hT;exact ⟨⟨tcells t ad cap, hrow, hT⟩, fun k hk e => by have h1 : w.heap.size = k := Option.some.inj hk; have := hltv k e.symm; omega⟩
theorem infoTermR : (Tryz.prog.info? 24).map (fun i => (i.zero, i.size, i.bytes)) = some (some (.agg #[.int .i64 0, .string ⟨#[]⟩, .int .i64 0, .slice none 0 0]), 4, 56) := by kernel_rfl
def FTermC (m : Nat) (W : Rdr) : Prop := ∀ (p : Int) (ts : List Tok) (ns : Nms) (w : World) (r : Nat) (v : Value) (at_ : Int), ts.length <= m -> Fine ts -> ns.length <= 200 -> FMem w r v ts ns 0 at_ ->
 Calls Tryz.prog 37 #[.pointer (some ⟨r, 0, none⟩), .int .i64 p] w fun e w' => FOut r v w at_ (W p ts ns) e w'
def FList (r : Nat) (v : Value) (w : World) (a0 : Int) (x : Rd (List Tm)) (e : Ending) (w' : World) : Prop :=
 ∃ l ts ns er at_ v' ad cap, e = .returned (.slice ad l.length cap) /\ l.length <= cap /\ cap <= maxLen /\ FMem w' r v' ts ns er at_ /\ RGo r v w v' w' /\ TArgsP w' (fun b => w.heap.size <= b /\ some b ≠ v'.ownBlock) ad l /\ FIs a0 x l ts ns er at_
theorem FMem.tokLen {w : World} {r : Nat} {v : Value} {ts : List Tok} {ns : Nms} {er at_ : Int} (h : FMem w r v ts ns er at_) : tokLen w r = ts.length := by
 obtain ⟨g, k, cap, _, hr, _⟩ := h.ex;unfold Go.Proofs.YtdjejbgokamjeaaGreatDoor.tokLen;rw [(cellsF4 hr).1]
theorem FMem.grown {w w3 : World} {r : Nat} {v : Value} {row : Option Nat} {ts : List Tok} {ns : Nms} {er at_ : Int} (h : FMem w r v ts ns er at_) (hg : w.grownBy w3 row) (h1 : ∀ k, row = some k -> r < k) (h2 : ∀ k, row = some k -> some k ≠ v.ownBlock) : FMem w3 r v ts ns er at_ := by
 have hlt := h.lt;have hne : ∀ b, b <= r -> some b ≠ row := fun b hb e => by have := h1 b e.symm; omega
 obtain ⟨g, k, cap, hgr, hr, hl, hc, ht⟩ := h.ex;exact ⟨⟨g, k, cap, hgr, (hg.block r hlt (hne r (Nat.le_refl _))).trans hr, hl, hc, ht.kept (fun hs => hg.block g hs (hne g (by omega)))⟩, h.names.kept (fun b hb hs => hg.block b hs (fun e => h2 b e.symm (by rw [hb])))⟩
theorem SevMem.empty (B : Nat) (w : World) (v : Value) : SevMem B w (.slice none 0 0) v [] := ⟨⟨[], World.ownsRow_nil _ _ _ _, .nil⟩, fun _ h => by cases h⟩
def manyAt (W : Rdr) (most : Nat) (g : List Tok -> Nat) (l : List Tm) (ts : List Tok) (ns : Nms) : Rd (List Tm) :=
 if l.length = most then .bad (fstT ts).pos else (W 999 ts ns).bind fun t ts' ns' => manyGo W most (g ts') (l ++ [t]) ts' ns'
theorem manyR_at (W : Rdr) (most : Nat) (h : 0 < most) (ts : List Tok) (ns : Nms) : manyR W most ts ns = manyAt W most List.length [] ts ns := by
 unfold manyR manyAt;rw [if_neg (by simp; omega)];rfl
theorem manyGo_at (W : Rdr) (most f : Nat) (l : List Tm) (ts : List Tok) (ns : Nms) : manyGo W most (f + 1) l ts ns = if (fstT ts).isP [44] = true then manyAt W most (fun _ => f) l ts.tail ns else .ok l ts ns := rfl
set_option maxRecDepth 100000 in
set_option maxHeartbeats 4000000 in
theorem rf_many {m : Nat} {W : Rdr} (hW : GoodW W m) (hC : FTermC m W) (hM : m <= 10000) (most : Nat) (hmo : 0 < most) (ts : List Tok) (ns : Nms) (w : World) (r : Nat) (v : Value) (at_ : Int) (hm : ts.length <= m) (hf : Fine ts) (hn : ns.length <= 200) (h : FMem w r v ts ns 0 at_) :
 Calls Tryz.prog 98 #[.pointer (some ⟨r, 0, none⟩), .int .i64 most] w fun e w' => FList r v w at_ (manyR W most ts ns) e w' := by
 have hlt := h.lt;obtain ⟨E, hE⟩ : ∃ E, manyR W most ts ns = E := ⟨_, rfl⟩;rw [hE];rw [manyR_at W most hmo] at hE;have HE := Lib.hid hE;obtain ⟨i0, hi, hz0, hz1, hz2⟩ := info_partsR infoTermR;have HH := Lib.hid h;have HF := Lib.hid hf;have HCC := Lib.hid hC;have HWW := Lib.hid hW;clear h hf hC hW hE;go_enter Tryz.func98, Tryz.ntmps98;go_wp2_with fail;go_loopw [5] (fun lv wr => ∃ (g : List Tok -> Nat) (l : List Tm) (tk : List Tok) (nk : Nms) (vk : Value), Hid (∀ t' : List Tok, t'.length <= tk.length -> t'.length <= g t') /\ Hid (Fine tk) /\ nk.length <= 200 /\ tk.length + l.length <= ts.length /\ l.length <= most /\ Hid (manyAt W most g l tk nk = E) /\ Hid (FMem wr r vk tk nk 0 at_) /\ Hid (RGo r v w vk wr) /\ Hid (SevMem w.heap.size wr lv vk l)) (fun _ wr => tokLen wr r)
 case atStart => exact ⟨List.length, [], ts, ns, v, Lib.hid (fun _ _ => Nat.le_refl _), HF, hn, by simp, Nat.zero_le _, HE, HH, Lib.hid (RGo.refl _ _ _), Lib.hid (SevMem.empty _ _ _)⟩
 case round =>
  obtain ⟨g, l, tk, nk, vk, HGF, HFK, hnk, hlen, hlm, HK, HMK, HGK, HSK⟩ := hrel;have HTL := Lib.hid HMK.out.tokLen;have hws := HGK.out.below.size;obtain ⟨ad0, cap0, rfl, _, hcm0, _⟩ := HSK.out.slice;have hfp := HFK.out.pos;by_cases hmost : l.length = most
  · have HK2 : Hid (E = .bad (fstT tk).pos) := Lib.hid (by rw [<- HK.out]; unfold manyAt; rw [if_pos hmost]);have hbq : (most : Int) <= ((l.length : Nat) : Int) := by omega
    clear hmost HGF HCC HWW;go_wp2_with fail;refine (rf_goes wr r vk tk nk 0 at_ HMK.out).mono ?_; rintro e w1 ⟨rfl, hb1⟩;have HB1 := Lib.hid hb1;clear hb1;go_wp2_with fail;refine (rf_fail w1 r vk tk nk at_ (HMK.out.below HB1.out) hfp).mono ?_; rintro e w2 ⟨rfl, hm2, hg2⟩;have HM2 := Lib.hid hm2;have HG2 := Lib.hid ((RGo.of_below HB1.out (by omega)).trans hg2);clear hm2 hg2;go_wp2_with fail;go_ret;obtain ⟨ad, cap, he, h1, h2, h3⟩ := (HSK.out.go hlt HG2.out).slice;injection he with e1 _ e2;subst e1 e2;exact ⟨l, tk, nk, 60, _, vk, _, _, rfl, h1, h2, HM2.out, HGK.out.trans HG2.out, h3, by rw [HK2.out]; exact ⟨rfl, rfl⟩⟩
  · have hbq : ¬ (most : Int) <= ((l.length : Nat) : Int) := by omega
    have HK2 : Hid ((W 999 tk nk).bind (fun t ts' ns' => manyGo W most (g ts') (l ++ [t]) ts' ns') = E) := Lib.hid (by rw [<- HK.out]; unfold manyAt; rw [if_neg hmost]);clear HK;go_wp2_with fail;refine (rf_goes wr r vk tk nk 0 at_ HMK.out).mono ?_; rintro e w1 ⟨rfl, hb1⟩;have HB1 := Lib.hid hb1;clear hb1;go_wp2_with fail;refine (HCC.out 999 tk nk w1 r vk at_ (by omega) HFK.out hnk (HMK.out.below HB1.out)).mono ?_; rintro e w4 ⟨t, ts1, ns1, er, at1, v4, ad4, cap4, rfl, hm4, hg4, ht4, hi4⟩;have hg14 := (RGo.of_below HB1.out (by omega)).trans hg4;have hs4 := HSK.out.go hlt hg14;obtain ⟨xs, hox, hrow⟩ := hs4.ex;have HNE := Lib.hid hs4.ne;have HLT := Lib.hid hox.lt;have HLV := Lib.hid (fun k hk => ((HSK.out.ex.choose_spec.1).lt k hk).2);have HM4 := Lib.hid hm4;have HG4 := Lib.hid (HGK.out.trans hg14);have hs1s := HB1.out.size;have hs4s := hg4.below.size;have hltr := HM4.out.lt;have HT4 := Lib.hid ht4;have HROW := Lib.hid hrow;have HI4 := Lib.hid hi4;clear hm4 hg4 hg14 ht4 hs4 hrow hi4;unfold tmv;go_wp2_with (first
     | (at_builtin; refine wpList_append_lies _ rfl _ _ 22 rfl w.heap.size 24 i0 (.agg #[.int .i64 0, .string ⟨#[]⟩, .int .i64 0, .slice none 0 0]) 4 56 Tryz.underlying22 hi hz0 hz1 hz2 rfl (by decide) _ _ _ rfl (hox.alloc _) ⟨w4.heap.size, 0, none⟩ 1 1 (tcells t ad4 cap4) rfl rfl ?c1 ?c2 (by decide) ?c3 ?c4 ?c5 _ rfl ?_))
    case c1 =>
     intro j u hj;match j, hj with
     | 0, hj => simp [tcells] at hj; subst hj; simp [Addr.add]
     | 1, hj => simp [tcells] at hj; subst hj; simp [Addr.add]
     | 2, hj => simp [tcells] at hj; subst hj; simp [Addr.add]
     | 3, hj => simp [tcells] at hj; subst hj; simp [Addr.add]
    case c2 => intro u hu; simp [tcells] at hu; rcases hu with rfl | rfl | rfl | rfl <;> rfl
    case c3 => unfold maxLen; omega
    case c4 => omega
    case c5 => simp; omega
    intro g5 cap5 w5 hown5 hgrow hat hlt5;have hm5 := (HM4.out.below ((Below.refl _ w4).alloc (Nat.le_refl _) (.cells #[.int .i64 t.kind, .string t.name, .int .i64 t.n, .slice ad4 t.args.length cap4] 24))).grown hgrow (fun k hk => by have := (HLT.out k hk).1; omega) (fun k hk => HNE.out k hk);have hg5 := (HG4.out.alloc hlt (.cells #[.int .i64 t.kind, .string t.name, .int .i64 t.n, .slice ad4 t.args.length cap4] 24)).grown hgrow hlt (fun k hk => (HLT.out k hk).1);have hs5 : SevMem w.heap.size w5 (.slice (some ⟨g5, 0, none⟩) (l.length + 1) cap5) v4 (l ++ [t]) := by
     refine SevMem.snoc (B2 := w1.heap.size) (by omega) (fun k hk => HNE.out k hk) (fun k hk => ?_) (fun k hk => by have := HLV.out k hk; omega) (HROW.out.kept (fun b _ hb => Below.heap_alloc _ _ _ hb) (fun b hp _ => hp)) (HT4.out.below ((Below.refl _ w4).alloc (Nat.le_refl _) _)) hown5 hgrow ?_
     · have := (HM4.out.names.lt k hk).2; rw [World.size_alloc]; omega
     · rcases hat with e | e
       · exact .inl e.symm
       · exact .inr ⟨g5, rfl, by rw [World.size_alloc]; omega⟩
    have HM5 := Lib.hid hm5;have HG5 := Lib.hid hg5;have HS5 := Lib.hid hs5;clear hm5 hg5 hs5 hown5 hgrow hat hox HLT HNE HLV HM4 HG4 HT4 HROW;have hlen5 : (l ++ [t]).length = l.length + 1 := by rw [List.length_append, List.length_singleton]
    have HLEN := Lib.hid hlen5;clear hlen5;have hlt5r := HM5.out.lt;go_wp2_with fail;refine (rf_goes w5 r v4 ts1 ns1 er at1 HM5.out).mono ?_; rintro e w6 ⟨rfl, hb6⟩;have HB6 := Lib.hid hb6;clear hb6;cases hx : W 999 tk nk with
    | bad o =>
     rw [hx] at HK2 HI4;obtain ⟨rfl, rfl⟩ := HI4.out;have HE2 : Hid (E = .bad o) := Lib.hid HK2.out.symm;clear HK2 HI4 hx;go_wp2_with fail;go_ret;obtain ⟨ad, cap, he, h1, h2, h3⟩ := (HS5.out.go hlt (RGo.of_below HB6.out (by omega))).slice;rw [HLEN.out] at he;injection he with e1 _ e2;subst e1 e2;exact ⟨l ++ [t], ts1, ns1, 60, _, v4, _, _, by rw [HLEN.out]; rfl, h1, h2, HM5.out.below HB6.out, HG5.out.trans (RGo.of_below HB6.out (by omega)), h3, by rw [HE2.out]; exact ⟨rfl, rfl⟩⟩
    | ok t0 ts0 ns0 =>
     rw [hx] at HK2 HI4;obtain ⟨rfl, rfl, rfl, rfl, rfl⟩ := HI4.out;obtain ⟨a1, a2, a3⟩ := HWW.out 999 tk nk t ts1 ns1 (by omega) HFK.out hnk hx;have htp := t.size_pos;have HA1 := Lib.hid a1;have HG1 := Lib.hid (HGF.out ts1 (by omega));clear HI4 hx a1 HGF;rw [Rd.bind_ok] at HK2;have hfp1 := HA1.out.pos;have HM6 := Lib.hid (HM5.out.below HB6.out);have HRG6 := Lib.hid (HG5.out.trans (RGo.of_below HB6.out (by omega)));have HS6 := Lib.hid (HS5.out.go hlt (RGo.of_below HB6.out (by omega)));clear HM5 HG5 HS5 HB6;go_wp2_with fail;refine (rf_next w6 r v4 ts1 ns1 0 at1 HM6.out hfp1).mono ?_; rintro e w7 ⟨rfl, hb7⟩;have HB7 := Lib.hid hb7;have HP := Lib.hid (fun W => rf_isPunct (fstT ts1) [44] W);clear hb7;obtain ⟨f', hf'⟩ : ∃ f', g ts1 = f' + 1 := ⟨g ts1 - 1, by have := HG1.out; omega⟩;have HK3 : Hid ((if (fstT ts1).isP [44] = true then manyAt W most (fun _ => f') (l ++ [t]) ts1.tail ns1 else .ok (l ++ [t]) ts1 ns1) = E) := Lib.hid (by rw [<- HK2.out, hf', manyGo_at]);have hfg : ts1.length <= f' + 1 := by rw [<- hf']; exact HG1.out
     have HFT := Lib.hid (fun hp : (fstT ts1).isP [44] = true => HA1.out.tail (by rw [(isP_kind hp).1]; decide));clear hf' HG1 HK2;generalize tokv (fstT ts1) = tv at *;have HBX : Hid ((fstT ts1).isP [44] = (fstT ts1).isP [44]) := Lib.hid rfl;cases hp : (fstT ts1).isP [44] with
     | false =>
      have HE2 : Hid (E = .ok (l ++ [t]) ts1 ns1) := Lib.hid (by rw [<- HK3.out, hp]; rfl);rw [hp] at HP;clear HK3 HFT HBX hp;go_wp2_with fail;refine (HP.out _).mono ?_; rintro e w8 ⟨rfl, hb8⟩;have HB8 := Lib.hid (HB7.out.trans (hb8.mono HB7.out.size));clear hb8;go_wp2_with fail;go_ret;have hlt6 := HM6.out.lt;obtain ⟨ad, cap, he, h1, h2, h3⟩ := (HS6.out.go hlt (RGo.of_below HB8.out (by omega))).slice;rw [HLEN.out] at he;injection he with e1 _ e2;subst e1 e2;exact ⟨l ++ [t], ts1, ns1, 0, at1, v4, _, _, by rw [HLEN.out]; rfl, h1, h2, HM6.out.below HB8.out, HRG6.out.trans (RGo.of_below HB8.out (by omega)), h3, by rw [HE2.out]; exact ⟨rfl, rfl, rfl, rfl, rfl⟩⟩
     | true =>
      have HK4 : Hid (manyAt W most (fun _ => f') (l ++ [t]) ts1.tail ns1 = E) := Lib.hid (by rw [<- HK3.out, hp]; rfl);rw [hp] at HP;obtain ⟨hft, htl2⟩ := HFT.out hp;have HFT2 := Lib.hid hft;have h2 : 2 <= ts1.length := by have := hft.pos; omega
      clear HK3 HFT HBX hp hft;go_wp2_with fail;refine (HP.out _).mono ?_; rintro e w8 ⟨rfl, hb8⟩;have HB8 := Lib.hid (HB7.out.trans (hb8.mono HB7.out.size));clear hb8;go_wp2_with fail;have hlt6 := HM6.out.lt;refine (rf_step w8 r v4 ts1 ns1 at1 (HM6.out.below HB8.out) h2).mono ?_; rintro e w9 ⟨rfl, hm9, hg9⟩;have hg69 := (RGo.of_below (v := v4) HB8.out (Nat.le_of_lt hlt6)).trans hg9;have HM9 := Lib.hid hm9;have HG9 := Lib.hid (HRG6.out.trans hg69);have HS9 := Lib.hid (HS6.out.go hlt hg69);clear hm9 hg9 hg69;go_wp2_with fail;go_roundw
      case rel => exact ⟨fun _ => f', l ++ [t], ts1.tail, ns1, v4, Lib.hid (fun t' ht' => show t'.length <= f' by omega), HFT2, a3, by rw [HLEN.out]; omega, by rw [HLEN.out]; omega, HK4, HM9, HG9, HS9⟩
      case measure => rw [HM9.out.tokLen, HTL.out]; omega
end Go.Proofs.YtdjejbgokamjeaaGreatDoor
