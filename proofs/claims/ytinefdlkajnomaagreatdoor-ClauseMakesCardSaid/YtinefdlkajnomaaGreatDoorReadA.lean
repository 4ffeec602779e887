import Derived.Test.YtinefdlkajnomaaGreatDoorReadM
import Derived.Test.YtinefdlkajnomaaGreatDoorOpsGJ
import Derived.Laws.Panics
import Derived.Lib.BufferMore
namespace Go.Proofs.YtinefdlkajnomaaGreatDoor
open Go.RowKit
theorem keptR {w w1 : World} {q : Nat} {o : Obj} (hb : Below w.heap.size w w1) (hq : w.heap[q]? = some o) : w1.heap[q]? = some o := (hb.block q (Array.getElem?_eq_some_iff.1 hq).1).trans hq
theorem setOR {w : World} {q k : Nat} {i : Nat} {o : Obj} (h : w.heap[k]? = some o) (hne : k ≠ q) (u : Value) : (w.setCell ⟨q, i, none⟩ u).heap[k]? = some o := by
 rw [Below.heap_setCell _ _ _ _ hne]; exact h
def tokv (t : Tok) : Value := .agg #[.int .i64 t.kind, .string ⟨t.text.toArray⟩, .int .i64 t.n, .int .i64 (t.pos : Nat)]
theorem text_is (l m : List UInt8) : ((⟨l.toArray⟩ : ByteArray).toList == m) = (l == m) := by rw [ByteArray.toList_eq]
inductive TokRow (w : World) (g : Nat) : Nat -> List Tok -> Prop where
 | nil (k : Nat) : TokRow w g k []
 | cons (k : Nat) (t : Tok) (l : List Tok) : w.cell? ⟨g, k, none⟩ = some (.int .i64 t.kind) -> w.cell? ⟨g, k + 1, none⟩ = some (.string ⟨t.text.toArray⟩) -> w.cell? ⟨g, k + 2, none⟩ = some (.int .i64 t.n) -> w.cell? ⟨g, k + 3, none⟩ = some (.int .i64 (t.pos : Nat)) -> TokRow w g (k + 4) l -> TokRow w g k (t :: l)
theorem TokRow.kept {w w' : World} {g k : Nat} {ts : List Tok} (h : TokRow w g k ts) (hb : g < w.heap.size -> w'.heap[g]? = w.heap[g]?) : TokRow w' g k ts := by
 have keep : ∀ (o : Nat) (v : Value), w.cell? ⟨g, o, none⟩ = some v -> w'.cell? ⟨g, o, none⟩ = some v := fun o v hc =>
  (World.cell?_of_block (w := w) (w' := w') (a := ⟨g, o, none⟩) (hb (World.block_lt_of_cell? w ⟨g, o, none⟩ hc))).trans hc
 induction h with
 | nil k => exact .nil k
 | cons k t l c0 c1 c2 c3 _ ih => exact .cons k t l (keep _ _ c0) (keep _ _ c1) (keep _ _ c2) (keep _ _ c3) ih
theorem TokRow.first {w : World} {g k : Nat} {ts : List Tok} (h : TokRow w g k ts) (hp : 1 <= ts.length) :
 w.cell? ⟨g, k, none⟩ = some (.int .i64 (fstT ts).kind) /\ w.cell? ⟨g, k + 1, none⟩ = some (.string ⟨(fstT ts).text.toArray⟩) /\ w.cell? ⟨g, k + 2, none⟩ = some (.int .i64 (fstT ts).n) /\ w.cell? ⟨g, k + 3, none⟩ = some (.int .i64 ((fstT ts).pos : Nat)) /\ TokRow w g (k + 4) ts.tail := by
 cases h with
 | nil => simp at hp
 | cons k t l c0 c1 c2 c3 h => exact ⟨c0, c1, c2, c3, h⟩
theorem OwnStrs.kept {B : Nat} {w w' : World} {v : Value} {l : List ByteArray} (h : OwnStrs B w v l) (hb : ∀ b, v.ownBlock = some b -> b < w.heap.size -> w'.heap[b]? = w.heap[b]?) : OwnStrs B w' v l := by
 obtain ⟨hl, h0 | ⟨g, cap, cur, hv, hbg, hh, r⟩⟩ := h
 · exact ⟨hl, .inl h0⟩
 · exact ⟨hl, .inr ⟨g, cap, cur, hv, hbg, (hb g (by rw [hv]; rfl) (Array.getElem?_eq_some_iff.1 hh).1).trans hh, r⟩⟩
theorem OwnStrs.lt {B : Nat} {w : World} {v : Value} {l : List ByteArray} (h : OwnStrs B w v l) : ∀ k, v.ownBlock = some k -> B <= k /\ k < w.heap.size := World.ownsRow.lt h
def nmB (ns : Nms) : List ByteArray := ns.map fun s => ⟨s.toArray⟩
structure RMem (w : World) (r : Nat) (v : Value) (ts : List Tok) (ns : Nms) : Prop where
 ex : ∃ g k cap, g < r /\ w.heap[r]? = some (.cells #[.slice (some ⟨g, k, none⟩) ts.length cap, v] 106 (0, 0)) /\ ts.length <= cap /\ cap <= maxLen /\ TokRow w g k ts
 names : OwnStrs (r + 1) w v (nmB ns)
structure RGo (r : Nat) (v : Value) (w : World) (v' : Value) (w' : World) : Prop where
 below : Below r w w'
 keep : ∀ b, b < w.heap.size -> b ≠ r -> some b ≠ v.ownBlock -> w'.heap[b]? = w.heap[b]?
 own : v'.ownBlock = v.ownBlock \/ ∃ g, v'.ownBlock = some g /\ w.heap.size <= g
theorem RGo.refl (r : Nat) (v : Value) (w : World) : RGo r v w v w := ⟨Below.refl _ _, fun _ _ _ _ => rfl, .inl rfl⟩
theorem RGo.trans {r : Nat} {v v1 v2 : Value} {w w1 w2 : World} (h : RGo r v w v1 w1) (k : RGo r v1 w1 v2 w2) : RGo r v w v2 w2 := by
 refine ⟨h.below.trans k.below, fun b hb hr hv => ?_, ?_⟩
 · rw [k.keep b (Nat.lt_of_lt_of_le hb h.below.size) hr ?_, h.keep b hb hr hv];rcases h.own with e | ⟨g, e, hg⟩
   · rw [e]; exact hv
   · rw [e]; intro e2; have := Option.some.inj e2; omega
 · rcases k.own with e | ⟨g, e, hg⟩
   · rw [e]; exact h.own
   · exact .inr ⟨g, e, Nat.le_trans h.below.size hg⟩
theorem RGo.of_below {r : Nat} {v : Value} {w w' : World} (h : Below w.heap.size w w') (hr : r <= w.heap.size) : RGo r v w v w' := ⟨h.mono hr, fun b hb _ _ => h.block b hb, .inl rfl⟩
theorem RGo.at {r : Nat} {v v' : Value} {w w' : World} (h : RGo r v w v' w') {b : Nat} {o : Obj} (ho : w.heap[b]? = some o) (hr : b ≠ r) (hv : some b ≠ v.ownBlock) : w'.heap[b]? = some o :=
 (h.keep b (Array.getElem?_eq_some_iff.1 ho).1 hr hv).trans ho
theorem RMem.lt {w : World} {r : Nat} {v : Value} {ts : List Tok} {ns : Nms} (h : RMem w r v ts ns) : r < w.heap.size := by
 obtain ⟨g, k, cap, _, hr, _⟩ := h.ex;exact (Array.getElem?_eq_some_iff.1 hr).1
theorem RMem.below {w w' : World} {r : Nat} {v : Value} {ts : List Tok} {ns : Nms} (h : RMem w r v ts ns) (hb : Below w.heap.size w w') : RMem w' r v ts ns := by
 have hlt := h.lt;obtain ⟨g, k, cap, hg, hr, hl, hc, ht⟩ := h.ex;exact ⟨⟨g, k, cap, hg, keptR hb hr, hl, hc, ht.kept (fun hs => hb.block g hs)⟩, h.names.below hb⟩
theorem RMem.new_ne {w : World} {r : Nat} {v : Value} {ts : List Tok} {ns : Nms} (h : RMem w r v ts ns) {b : Nat} (hb : w.heap.size <= b) : b ≠ r /\ some b ≠ v.ownBlock :=
 ⟨by have := h.lt; omega, fun e => by have := (h.names.lt b e.symm).2; omega⟩
theorem RMem.setOther {w : World} {r : Nat} {v : Value} {ts : List Tok} {ns : Nms} (h : RMem w r v ts ns) {q i : Nat} (hq : r < q) (hv : some q ≠ v.ownBlock) (u : Value) : RMem (w.setCell ⟨q, i, none⟩ u) r v ts ns := by
 obtain ⟨g, k, cap, hg, hr, hl, hc, ht⟩ := h.ex;refine ⟨⟨g, k, cap, hg, setOR hr (by omega) u, hl, hc, ht.kept (fun _ => Below.heap_setCell _ _ _ _ (show g ≠ q by omega))⟩, h.names.kept (fun b hb _ => Below.heap_setCell _ _ _ _ (show b ≠ q from fun e => hv (by rw [hb, e])))⟩
theorem RGo.set {r : Nat} {v v' : Value} {w w' : World} (h : RGo r v w v' w') {q i : Nat} (hq : w.heap.size <= q) (hr : r <= q) (u : Value) : RGo r v w v' (w'.setCell ⟨q, i, none⟩ u) :=
 ⟨h.below.setCell (p := ⟨q, i, none⟩) hr u, fun b hb h1 h2 => (Below.heap_setCell _ _ _ _ (show b ≠ q by omega)).trans (h.keep b hb h1 h2), h.own⟩
theorem RGo.drew {r : Nat} {v v' : Value} {w w' : World} (h : RGo r v w v' w') : RGo r v w v' w'.drew := ⟨h.below.drew, h.keep, h.own⟩
theorem RGo.alloc {r : Nat} {v v' : Value} {w w' : World} (h : RGo r v w v' w') (hr : r < w.heap.size) (o : Obj) : RGo r v w v' (w'.alloc o) := by
 have hs := h.below.size;exact ⟨h.below.alloc (by omega) o, fun b hb h1 h2 => (Below.heap_alloc _ _ _ (by omega)).trans (h.keep b hb h1 h2), h.own⟩
theorem RGo.ne {r : Nat} {v v' : Value} {w w' : World} (h : RGo r v w v' w') {b : Nat} (hb : b < w.heap.size) (hv : some b ≠ v.ownBlock) : some b ≠ v'.ownBlock := by
 rcases h.own with e | ⟨g, e, hg⟩
 · rw [e]; exact hv
 · rw [e]; intro e2; have := Option.some.inj e2; omega
def TmB (B : Nat) (w : World) (v : Value) (t : Tm) (ad : Option Addr) (cap : Nat) : Prop := TmP w (fun b => B <= b /\ some b ≠ v.ownBlock) t ad cap
theorem TmB.go {r B : Nat} {v v' : Value} {w w' : World} {t : Tm} {ad : Option Addr} {cap : Nat} (h : TmB B w v t ad cap) (hr : r < B) (hg : RGo r v w v' w') : TmB B w' v' t ad cap :=
 TmP.kept h (fun b hp hb => hg.keep b hb (by omega) hp.2) (fun _ hp hb => ⟨hp.1, hg.ne hb hp.2⟩)
theorem TmB.mono {B B' : Nat} {v : Value} {w : World} {t : Tm} {ad : Option Addr} {cap : Nat} (h : TmB B w v t ad cap) (hB : B' <= B) : TmB B' w v t ad cap :=
 TmP.kept h (fun _ _ _ => rfl) (fun _ hp _ => ⟨by omega, hp.2⟩)
theorem TmB.below {B : Nat} {v : Value} {w w' : World} {t : Tm} {ad : Option Addr} {cap : Nat} (h : TmB B w v t ad cap) (hb : Below w.heap.size w w') : TmB B w' v t ad cap :=
 TmP.kept h (fun b _ hlt => hb.block b hlt) (fun _ hp _ => hp)
theorem TmB.set {B q i : Nat} {v : Value} {w : World} {t : Tm} {ad : Option Addr} {cap : Nat} (h : TmB B w v t ad cap) (hq : q < B) (u : Value) : TmB B (w.setCell ⟨q, i, none⟩ u) v t ad cap :=
 TmP.kept h (fun b hp _ => Below.heap_setCell _ _ _ _ (show b ≠ q by omega)) (fun _ hp _ => hp)
def misp (o : Nat) : Ending := .panicked [{ v := .iface 103 (.int .i64 (o : Nat)), recovered := false }]
def ROk (r : Nat) (v : Value) (w : World) (t : Tm) (ts : List Tok) (ns : Nms) (v' : Value) (ad : Option Addr) (cap : Nat) (w' : World) : Prop := RMem w' r v' ts ns /\ RGo r v w v' w' /\ TmB w.heap.size w' v' t ad cap
def ROut (r : Nat) (v : Value) (w : World) (x : Rd Tm) (e : Ending) (w' : World) : Prop :=
 match x with
 | .bad o => e = misp o /\ Below r w w'
 | .ok t ts ns => ∃ v' ad cap, e = .returned (tmv t ad cap) /\ ROk r v w t ts ns v' ad cap w'
def ROut2 (r : Nat) (v : Value) (w : World) (x : Rd (Tm × Int)) (e : Ending) (w' : World) : Prop :=
 match x with
 | .bad o => e = misp o /\ Below r w w'
 | .ok t ts ns => ∃ v' ad cap, e = .returned (.tuple #[tmv t.1 ad cap, .int .i64 t.2]) /\ ROk r v w t.1 ts ns v' ad cap w'
theorem ROk.fin {r q B : Nat} {v v' : Value} {w w3 : World} {t : Tm} {ts : List Tok} {ns : Nms} {ad : Option Addr} {cap : Nat} (hm : RMem w3 r v' ts ns) (hg : RGo r v w v' w3) (ht : TmB B w3 v' t ad cap) (hlt : r < w.heap.size) (hq : w.heap.size <= q) (hB : q < B) (hv : some q ≠ v'.ownBlock) (u0 u1 u2 u3 : Value) :
 ROk r v w t ts ns v' ad cap ((((w3.setCell ⟨q, 0, none⟩ u0).setCell ⟨q, 1, none⟩ u1).setCell ⟨q, 2, none⟩ u2).setCell ⟨q, 3, none⟩ u3) :=
 ⟨(((hm.setOther (by omega) hv u0).setOther (by omega) hv u1).setOther (by omega) hv u2).setOther (by omega) hv u3, (((hg.set hq (by omega) u0).set hq (by omega) u1).set hq (by omega) u2).set hq (by omega) u3, ((((ht.set hB u0).set hB u1).set hB u2).set hB u3).mono (by omega)⟩
theorem cellsR2 {w : World} {q : Nat} {a b : Value} {t : TypeId} (h : w.heap[q]? = some (.cells #[a, b] t (0, 0))) :
 w.cell? ⟨q, 0, none⟩ = some a /\ w.cell? ⟨q, 1, none⟩ = some b /\ w.frozen? ⟨q, 0, none⟩ = false /\ w.frozen? ⟨q, 1, none⟩ = false := by
 simp [World.cell?, World.frozen?, h]
set_option maxHeartbeats 1000000 in
theorem rd_first (w : World) (r : Nat) (v : Value) (ts : List Tok) (ns : Nms) (h : RMem w r v ts ns) (hf : 1 <= ts.length) :
 Calls Tryz.prog 80 #[.pointer (some ⟨r, 0, none⟩)] w fun e w' => e = .returned (tokv (fstT ts)) /\ Below w.heap.size w w' := by
 have HB := Lib.hid (fun o : Obj => (Below.refl w.heap.size w).alloc (Nat.le_refl _) o);have hlt := h.lt;obtain ⟨g, k, cap, hg, hr, hl, hc, ht⟩ := h.ex;obtain ⟨c0, c1, c2, c3, _⟩ := ht.first hf;obtain ⟨r0, _, _, _⟩ := cellsR2 hr;have hl1 : (0 : Int) < (ts.length : Int) := by omega
 have hgl : g < w.heap.size := by omega
 unfold tokv;clear h hr ht hc;generalize (⟨(fstT ts).text.toArray⟩ : ByteArray) = u at *;generalize (fstT ts).kind = a at *;generalize (fstT ts).n = b at *;generalize (fstT ts).pos = d at *;generalize ts.length = L at *;go_enter Tryz.func80, Tryz.ntmps80;go_wp2_with fail;exact bodyPost_ret (v := .agg #[.int .i64 a, .string u, .int .i64 b, .int .i64 (d : Nat)]) (by simp [results, Tryz.results80, go_sem]) rfl ⟨rfl, HB.out _⟩
theorem sliced_tok (g k n cap : Nat) (h : 2 <= cap) : sliced (some ⟨g, k, none⟩) 1 (n + 1) cap 4 = .slice (some ⟨g, k + 4, none⟩) n (cap - 1) := by
 unfold sliced;rw [Nat.add_sub_cancel];have h1 : ¬ cap = 1 := by omega
 simp [h1, Addr.add]
attribute [-go_sem] sliced
set_option maxHeartbeats 1000000 in
theorem rd_pass (w : World) (r : Nat) (v : Value) (ts : List Tok) (ns : Nms) (h : RMem w r v ts ns) (hf : 2 <= ts.length) :
 Calls Tryz.prog 93 #[.pointer (some ⟨r, 0, none⟩)] w fun e w' => e = .returned (.tuple #[]) /\ RMem w' r v ts.tail ns /\ RGo r v w v w' := by
 have HH := Lib.hid h;have hlt := h.lt;obtain ⟨g, k, cap, hg, hr, hl, hc, ht⟩ := h.ex;obtain ⟨_, _, _, _, ht2⟩ := ht.first (by omega);obtain ⟨r0, _, z0, _⟩ := cellsR2 hr;obtain ⟨n, hn⟩ : ∃ n, ts.length = n + 1 := ⟨ts.length - 1, by omega⟩;have HN : Hid (ts.tail.length = n) := Lib.hid (by rw [List.length_tail]; omega);have HS := Lib.hid (sliced_tok g k n cap (by omega));have HR := Lib.hid hr;have HT := Lib.hid ht2;rw [hn] at r0;have hl1 : (1 : Int) <= ((n + 1 : Nat) : Int) := by omega
 have hl2 : ((n + 1 : Nat) : Int) <= (cap : Int) := by omega
 clear h hr ht ht2;have hsl := HS.out;go_enter Tryz.func93, Tryz.ntmps93;go_wp2_with fail;go_end0;have hh := Lib.heap_setCell_same (i := 0) HR.out (.slice (some ⟨g, k + 4, none⟩) n (cap - 1));refine ⟨rfl, ⟨⟨g, k + 4, cap - 1, hg, ?_, ?_, by omega, HT.out.kept (fun _ => Below.heap_setCell _ _ _ _ (show g ≠ r by omega))⟩, ?_⟩, ⟨(Below.refl _ _).setCell (p := ⟨r, 0, none⟩) (Nat.le_refl _) _, fun b hb h1 _ => Below.heap_setCell _ _ _ _ h1, .inl rfl⟩⟩
 · rw [HN.out]; simpa using hh
 · rw [HN.out]; omega
 · exact HH.out.names.kept (fun b hb _ => Below.heap_setCell _ _ _ _ (show b ≠ r by have := (HH.out.names.lt b hb).1; omega))
theorem tok_field0 (a b c d : Value) (W : World) : (Instr.field 96 (.agg #[a, b, c, d]) 0).run Tryz.prog W = .ok a W := by kernel_rfl
theorem tok_field1 (a b c d : Value) (W : World) : (Instr.field 96 (.agg #[a, b, c, d]) 1).run Tryz.prog W = .ok b W := by kernel_rfl
theorem tok_field3 (a b c d : Value) (W : World) : (Instr.field 96 (.agg #[a, b, c, d]) 3).run Tryz.prog W = .ok d W := by kernel_rfl
set_option maxRecDepth 100000 in
set_option maxHeartbeats 1000000 in
theorem rd_refuse (w : World) (r : Nat) (v : Value) (ts : List Tok) (ns : Nms) (h : RMem w r v ts ns) (hf : 1 <= ts.length) :
 Calls Tryz.prog 94 #[.pointer (some ⟨r, 0, none⟩)] w fun e w' => e = misp (fstT ts).pos /\ Below w.heap.size w w' := by
 have HF := Lib.hid (rd_first w r v ts ns h hf);unfold tokv at HF;unfold misp;have f3 := tok_field3;clear h;generalize fstT ts = t at *;go_enter Tryz.func94, Tryz.ntmps94;go_wp2_with fail;refine HF.out.mono ?_; rintro e w1 ⟨rfl, hb⟩;have HB := Lib.hid hb;clear hb;go_wp2_with fail;exact ⟨rfl, rfl, HB.out⟩
set_option maxHeartbeats 1000000 in
theorem rd_isPunct (t : Tok) (l : List UInt8) (w : World) :
 Calls Tryz.prog 148 #[tokv t, .string ⟨l.toArray⟩] w fun e w' => e = .returned (.bool (t.isP l)) /\ Below w.heap.size w w' := by
 have HB := Lib.hid (fun o : Obj => (Below.refl w.heap.size w).alloc (Nat.le_refl _) o);have ht := text_is t.text l;have HE : Hid (t.isP l = (t.kind == 6 && (⟨t.text.toArray⟩ : ByteArray).toList == l)) := Lib.hid (by rw [ht]; rfl);have ht2 : ((⟨t.text.toArray⟩ : ByteArray).toList == (⟨l.toArray⟩ : ByteArray).toList) = ((⟨t.text.toArray⟩ : ByteArray).toList == l) := by rw [ByteArray.toList_eq (bs := ⟨l.toArray⟩)]
 rw [HE.out];unfold tokv;clear ht HE;generalize (⟨t.text.toArray⟩ : ByteArray) = u at *;generalize (⟨l.toArray⟩ : ByteArray) = x at *;cases e1 : (u.toList == l) with
 | true =>
  rw [e1] at ht2;cases e2 : (t.kind == 6) with
  | true =>
   go_enter Tryz.func148, Tryz.ntmps148;go_wp2_with fail;go_ret;exact ⟨rfl, HB.out _⟩
  | false =>
   go_enter Tryz.func148, Tryz.ntmps148;go_wp2_with fail;go_ret;exact ⟨rfl, HB.out _⟩
 | false =>
  rw [e1] at ht2;cases e2 : (t.kind == 6) with
  | true =>
   go_enter Tryz.func148, Tryz.ntmps148;go_wp2_with fail;go_ret;exact ⟨rfl, HB.out _⟩
  | false =>
   go_enter Tryz.func148, Tryz.ntmps148;go_wp2_with fail;go_ret;exact ⟨rfl, HB.out _⟩
set_option maxHeartbeats 1000000 in
theorem rd_passed (w : World) (r : Nat) (v : Value) (ts : List Tok) (ns : Nms) (l : List UInt8) (x : ByteArray) (hx : x = ⟨l.toArray⟩) (h : RMem w r v ts ns) (hf : Fine ts) :
 Calls Tryz.prog 189 #[.pointer (some ⟨r, 0, none⟩), .string x] w fun e w' => e = .returned (.bool ((fstT ts).isP l)) /\ RMem w' r v (if (fstT ts).isP l = true then ts.tail else ts) ns /\ RGo r v w v w' := by
 subst hx;have HF := Lib.hid (rd_first w r v ts ns h hf.pos);have HP := Lib.hid (fun W => rd_isPunct (fstT ts) l W);have HK : Hid ((fstT ts).isP l = true -> 2 <= ts.length) := Lib.hid (fun hp => hf.two (by rw [(isP_kind hp).1]; decide));have HH := Lib.hid h;have hlt := h.lt;clear h hf;generalize (⟨l.toArray⟩ : ByteArray) = x at *;generalize fstT ts = t at *;generalize t.isP l = b at *;generalize tokv t = tv at *;cases b with
 | true =>
  rw [if_pos rfl];go_enter Tryz.func189, Tryz.ntmps189;go_wp2_with fail;refine HF.out.mono ?_; rintro e w1 ⟨rfl, hb1⟩;have HB1 := Lib.hid hb1;clear hb1;go_wp2_with fail;refine (HP.out _).mono ?_; rintro e w2 ⟨rfl, hb2⟩;have HB2 := Lib.hid (HB1.out.trans (hb2.mono HB1.out.size));clear hb2;go_wp2_with fail;refine (rd_pass _ r v ts ns (HH.out.below HB2.out) (HK.out (by trivial))).mono ?_; rintro e w3 ⟨rfl, hm3, hg3⟩;have HM3 := Lib.hid hm3;have HG3 := Lib.hid ((RGo.of_below HB2.out (Nat.le_of_lt hlt)).trans hg3);clear hm3 hg3;go_wp2_with fail;go_ret;exact ⟨rfl, HM3.out, HG3.out⟩
 | false =>
  rw [if_neg (by decide)];go_enter Tryz.func189, Tryz.ntmps189;go_wp2_with fail;refine HF.out.mono ?_; rintro e w1 ⟨rfl, hb1⟩;have HB1 := Lib.hid hb1;clear hb1;go_wp2_with fail;refine (HP.out _).mono ?_; rintro e w2 ⟨rfl, hb2⟩;have HB2 := Lib.hid (HB1.out.trans (hb2.mono HB1.out.size));clear hb2;go_wp2_with fail;go_ret;exact ⟨rfl, HH.out.below HB2.out, RGo.of_below HB2.out (Nat.le_of_lt hlt)⟩
set_option maxHeartbeats 1000000 in
theorem rd_isAtom (t : Tok) (w : World) :
 Calls Tryz.prog 143 #[tokv t] w fun e w' => e = .returned (.bool t.isAtom) /\ Below w.heap.size w w' := by
 have HB := Lib.hid (fun o : Obj => (Below.refl w.heap.size w).alloc (Nat.le_refl _) o);have HE : Hid (t.isAtom = (t.kind == 1 || t.kind == 2 || t.kind == 3)) := Lib.hid rfl;rw [HE.out];unfold tokv;clear HE;generalize (⟨t.text.toArray⟩ : ByteArray) = u at *;cases e1 : (t.kind == 1) <;> cases e2 : (t.kind == 2) <;> cases e3 : (t.kind == 3)
 all_goals
  go_enter Tryz.func143, Tryz.ntmps143;go_wp2_with fail;go_ret;exact ⟨rfl, HB.out _⟩
set_option maxHeartbeats 1000000 in
theorem rd_atom (s : ByteArray) (w : World) :
 Calls Tryz.prog 174 #[.string s] w fun e w' => e = .returned (.agg #[.int .i64 2, .string s, .int .i64 0, .slice none 0 0]) /\ Below w.heap.size w w' := by
 have HB := Lib.hid (fun o : Obj => (Below.refl w.heap.size w).alloc (Nat.le_refl _) o);go_enter Tryz.func174, Tryz.ntmps174;go_wp2_with fail;exact bodyPost_ret (v := .agg #[.int .i64 2, .string s, .int .i64 0, .slice none 0 0]) (by simp [results, Tryz.results174, go_sem]) rfl ⟨rfl, HB.out _⟩
set_option maxHeartbeats 1000000 in
theorem rd_integer (n : Int) (w : World) :
 Calls Tryz.prog 147 #[.int .i64 n] w fun e w' => e = .returned (.agg #[.int .i64 3, .string ⟨#[]⟩, .int .i64 n, .slice none 0 0]) /\ Below w.heap.size w w' := by
 have HB := Lib.hid (fun o : Obj => (Below.refl w.heap.size w).alloc (Nat.le_refl _) o);go_enter Tryz.func147, Tryz.ntmps147;go_wp2_with fail;exact bodyPost_ret (v := .agg #[.int .i64 3, .string ⟨#[]⟩, .int .i64 n, .slice none 0 0]) (by simp [results, Tryz.results147, go_sem]) rfl ⟨rfl, HB.out _⟩
set_option maxHeartbeats 1000000 in
theorem rd_comp (s : ByteArray) (ad : Option Addr) (len cap : Nat) (w : World) :
 Calls Tryz.prog 120 #[.string s, .slice ad len cap] w fun e w' => e = .returned (.agg #[.int .i64 4, .string s, .int .i64 0, .slice ad len cap]) /\ Below w.heap.size w w' := by
 have HB := Lib.hid (fun o : Obj => (Below.refl w.heap.size w).alloc (Nat.le_refl _) o);go_enter Tryz.func120, Tryz.ntmps120;go_wp2_with fail;exact bodyPost_ret (v := .agg #[.int .i64 4, .string s, .int .i64 0, .slice ad len cap]) (by simp [results, Tryz.results120, go_sem]) rfl ⟨rfl, HB.out _⟩
end Go.Proofs.YtinefdlkajnomaaGreatDoor
