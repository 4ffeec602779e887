/-
  Terms in memory of a call's own: which blocks they lie in; rows of terms that are appended to.
-/
import Derived.Test.YtjgjeafjnaodkaaDoorTermMem
import Derived.Laws.AppendOwn
import Derived.Laws.OwnMore
import Derived.Deep.AppendLies
namespace Go.Proofs.YtjgjeafjnaodkaaDoor
open Go.RowKit

/-- As TArgs, and every block that they lie in is one of P. -/
inductive TArgsP (w : World) (P : Nat → Prop) : Option Addr → List Tm → Prop where
  | nil (ad : Option Addr) : TArgsP w P ad []
  | cons (b o : Nat) (k n : Int) (nm : ByteArray) (l ts : List Tm) (ad : Option Addr) (cap : Nat) : P b →
      w.cell? ⟨b, o, none⟩ = some (.int .i64 k) → w.cell? ⟨b, o + 1, none⟩ = some (.string nm) → w.cell? ⟨b, o + 2, none⟩ = some (.int .i64 n) → w.cell? ⟨b, o + 3, none⟩ = some (.slice ad l.length cap) →
      In64 k → In64 n → nm.size ≤ maxLen → l.length ≤ cap → cap ≤ maxLen →
      TArgsP w P ad l → TArgsP w P (some ⟨b, o + 4, none⟩) ts → TArgsP w P (some ⟨b, o, none⟩) (.mk k nm n l :: ts)
theorem TArgsP.all {w : World} {P : Nat → Prop} {ad : Option Addr} {ts : List Tm} (h : TArgsP w P ad ts) : TArgs w ad ts := by
  induction h with
  | nil ad => exact .nil ad
  | cons b o k n nm l ts ad cap _ c0 c1 c2 c3 hk hn hm hl hc _ _ ih1 ih2 => exact .cons b o k n nm l ts ad cap c0 c1 c2 c3 hk hn hm hl hc ih1 ih2
theorem TArgsP.kept {w w' : World} {P Q : Nat → Prop} {ad : Option Addr} {ts : List Tm} (h : TArgsP w P ad ts) (hk : ∀ b, P b → b < w.heap.size → w'.heap[b]? = w.heap[b]?) (hPQ : ∀ b, P b → b < w.heap.size → Q b) : TArgsP w' Q ad ts := by
  have keep : ∀ (b o : Nat) (v : Value), P b → w.cell? ⟨b, o, none⟩ = some v → w'.cell? ⟨b, o, none⟩ = some v := fun b o v hp hc =>
    (World.cell?_of_block (w := w) (w' := w') (a := ⟨b, o, none⟩) (hk b hp (World.block_lt_of_cell? w ⟨b, o, none⟩ hc))).trans hc
  induction h with
  | nil ad => exact .nil ad
  | cons b o k n nm l ts ad cap hp c0 c1 c2 c3 hk hn hm hl hc _ _ ih1 ih2 =>
    exact .cons b o k n nm l ts ad cap (hPQ b hp (World.block_lt_of_cell? w ⟨b, o, none⟩ c0)) (keep _ _ _ hp c0) (keep _ _ _ hp c1) (keep _ _ _ hp c2) (keep _ _ _ hp c3) hk hn hm hl hc ih1 ih2
structure TmP (w : World) (P : Nat → Prop) (t : Tm) (ad : Option Addr) (cap : Nat) : Prop where
  kind : In64 t.kind
  n : In64 t.n
  name : t.name.size ≤ maxLen
  len : t.args.length ≤ cap
  cap : cap ≤ maxLen
  args : TArgsP w P ad t.args
theorem TmP.toIn {w : World} {P : Nat → Prop} {t : Tm} {ad : Option Addr} {cap : Nat} (h : TmP w P t ad cap) : TmIn w t ad cap := ⟨h.kind, h.n, h.name, h.len, h.cap, h.args.all⟩
theorem TmP.kept {w w' : World} {P Q : Nat → Prop} {t : Tm} {ad : Option Addr} {cap : Nat} (h : TmP w P t ad cap) (hk : ∀ b, P b → b < w.heap.size → w'.heap[b]? = w.heap[b]?) (hPQ : ∀ b, P b → b < w.heap.size → Q b) : TmP w' Q t ad cap := ⟨h.kind, h.n, h.name, h.len, h.cap, h.args.kept hk hPQ⟩
/-- A term's four cells. -/
def tcells (t : Tm) (ad : Option Addr) (cap : Nat) : List Value := [.int .i64 t.kind, .string t.name, .int .i64 t.n, .slice ad t.args.length cap]
inductive TRow (w : World) (P : Nat → Prop) : List Value → List Tm → Prop where
  | nil : TRow w P [] []
  | cons (t : Tm) (ad : Option Addr) (cap : Nat) (xs : List Value) (ts : List Tm) : TmP w P t ad cap → TRow w P xs ts → TRow w P (tcells t ad cap ++ xs) (t :: ts)
theorem TRow.kept {w w' : World} {P Q : Nat → Prop} {xs : List Value} {ts : List Tm} (h : TRow w P xs ts) (hk : ∀ b, P b → b < w.heap.size → w'.heap[b]? = w.heap[b]?) (hPQ : ∀ b, P b → b < w.heap.size → Q b) : TRow w' Q xs ts := by
  induction h with
  | nil => exact .nil
  | cons t ad cap xs ts ht _ ih => exact .cons t ad cap xs ts (ht.kept hk hPQ) ih
theorem TRow.snoc {w : World} {P : Nat → Prop} {xs : List Value} {ts : List Tm} (h : TRow w P xs ts) {t : Tm} {ad : Option Addr} {cap : Nat} (ht : TmP w P t ad cap) : TRow w P (xs ++ tcells t ad cap) (ts ++ [t]) := by
  induction h with
  | nil => exact .cons t ad cap [] [] ht .nil
  | cons t' ad' cap' xs ts ht' _ ih => rw [List.append_assoc]; exact .cons t' ad' cap' _ _ ht' ih
theorem TRow.length {w : World} {P : Nat → Prop} {xs : List Value} {ts : List Tm} (h : TRow w P xs ts) : xs.length = ts.length * 4 := by
  induction h with
  | nil => rfl
  | cons t ad cap xs ts _ _ ih => rw [List.length_append, ih, List.length_cons]; show 4 + _ = _; omega
theorem TRow.args {w : World} {P Q : Nat → Prop} {xs : List Value} {ts : List Tm} (h : TRow w P xs ts) (g : Nat) (hg : Q g) (hPQ : ∀ b, P b → Q b) : ∀ o : Nat, (∀ j, j < xs.length → w.cell? ⟨g, o + j, none⟩ = xs[j]?) → TArgsP w Q (some ⟨g, o, none⟩) ts := by
  induction h with
  | nil => exact fun o _ => .nil _
  | cons t ad cap xs ts ht _ ih =>
    intro o hc
    have hl : (tcells t ad cap ++ xs).length = 4 + xs.length := by rw [List.length_append]; rfl
    have c0 := hc 0 (by omega)
    have c1 := hc 1 (by omega)
    have c2 := hc 2 (by omega)
    have c3 := hc 3 (by omega)
    have hr := ih (o + 4) (fun j hj => by
      have h1 := hc (4 + j) (by omega)
      rw [show o + 4 + j = o + (4 + j) by omega, h1, List.getElem?_append_right (by show 4 ≤ 4 + j; omega), show 4 + j - (tcells t ad cap).length = j by show 4 + j - 4 = j; omega])
    rw [t.eta]
    exact .cons g o t.kind t.n t.name t.args ts ad cap hg c0 c1 c2 c3 ht.kind ht.n ht.name ht.len ht.cap (ht.args.kept (fun _ _ _ => rfl) (fun b hp _ => hPQ b hp)) hr
theorem infoTerm : (Tryd.prog.info? 25).map (fun i => (i.zero, i.size, i.bytes)) = some (some (.agg #[.int .i64 0, .string ⟨#[]⟩, .int .i64 0, .slice none 0 0]), 4, 56) := by kernel_rfl

/-- A slice of terms of the call's own: its row, and what its terms are made of, lie from B on, and no term lies in the row itself. -/
def OwnTerms (B : Nat) (w : World) (v : Value) (ts : List Tm) : Prop := ∃ xs, w.ownsRow B 25 4 v ts.length xs ∧ TRow w (fun b => B ≤ b ∧ some b ≠ v.ownBlock) xs ts
theorem OwnTerms.nil (B : Nat) (w : World) : OwnTerms B w (.slice none 0 0) [] := ⟨[], World.ownsRow_nil _ _ _ _, .nil⟩
theorem OwnTerms.lt {B : Nat} {w : World} {v : Value} {ts : List Tm} (h : OwnTerms B w v ts) : ∀ k, v.ownBlock = some k → B ≤ k ∧ k < w.heap.size := by obtain ⟨xs, h1, _⟩ := h; exact h1.lt
theorem OwnTerms.below {B : Nat} {w w' : World} {v : Value} {ts : List Tm} (h : OwnTerms B w v ts) (hb : Below w.heap.size w w') : OwnTerms B w' v ts := by
  obtain ⟨xs, ⟨hl, h1⟩, h2⟩ := h
  refine ⟨xs, ⟨hl, ?_⟩, h2.kept (fun b _ hlt => hb.block b hlt) (fun b hp _ => hp)⟩
  rcases h1 with h0 | ⟨g, cap, cur, hv, hbg, hh, r⟩
  · exact .inl h0
  · exact .inr ⟨g, cap, cur, hv, hbg, (hb.block g (Array.getElem?_eq_some_iff.1 hh).1).trans hh, r⟩
theorem OwnTerms.slice {B : Nat} {w : World} {v : Value} {ts : List Tm} (h : OwnTerms B w v ts) : ∃ ad cap, v = .slice ad ts.length cap ∧ ts.length ≤ cap ∧ cap ≤ maxLen ∧ TArgsP w (fun b => B ≤ b) ad ts := by
  obtain ⟨xs, ⟨hl, h1⟩, h2⟩ := h
  rcases h1 with ⟨rfl, h0⟩ | ⟨g, cap, cur, rfl, hbg, hh, hnc, hcm, hsz, htk⟩
  · cases ts with
    | nil => exact ⟨none, 0, rfl, Nat.le_refl _, Nat.zero_le _, .nil _⟩
    | cons t ts => cases h0
  · refine ⟨some ⟨g, 0, none⟩, cap, rfl, hnc, hcm, h2.args g hbg (fun b hp => hp.1) 0 (fun j hj => ?_)⟩
    rw [Nat.zero_add]
    exact World.ownsRow.cellAt (w := w) (base := B) (e := 25) (size := 4) (n := ts.length) (xs := xs) ⟨hl, .inr ⟨g, cap, cur, rfl, hbg, hh, hnc, hcm, hsz, htk⟩⟩ j (by rw [← hl]; exact hj)
/-- One term more. -/
theorem OwnTerms.grown {B : Nat} {w w' : World} {v v' : Value} {ts : List Tm} {xs : List Value} {t : Tm} {ad : Option Addr} {cap : Nat} (h2 : TRow w (fun b => B ≤ b ∧ some b ≠ v.ownBlock) xs ts)
    (ho : w'.ownsRow B 25 4 v' (ts.length + 1) (xs ++ tcells t ad cap)) (hg : w.grownBy w' v.ownBlock) (hnew : v'.ownBlock = v.ownBlock ∨ ∃ g, v'.ownBlock = some g ∧ w.heap.size ≤ g) (ht : TmP w (fun b => B ≤ b ∧ some b ≠ v.ownBlock) t ad cap) : OwnTerms B w' v' (ts ++ [t]) := by
  refine ⟨xs ++ tcells t ad cap, by rw [List.length_append]; exact ho, ?_⟩
  have hne : ∀ b, (B ≤ b ∧ some b ≠ v.ownBlock) → b < w.heap.size → (B ≤ b ∧ some b ≠ v'.ownBlock) := fun b hp hlt => by
    refine ⟨hp.1, ?_⟩
    rcases hnew with h | ⟨g, h, hgs⟩
    · rw [h]; exact hp.2
    · rw [h]; intro e; have := Option.some.inj e; omega
  exact (h2.kept (fun b hp hlt => hg.block b hlt hp.2) hne).snoc (ht.kept (fun b hp hlt => hg.block b hlt hp.2) hne)
end Go.Proofs.YtjgjeafjnaodkaaDoor
