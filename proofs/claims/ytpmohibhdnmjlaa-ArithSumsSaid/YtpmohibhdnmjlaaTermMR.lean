/-
  Joined texts: TermMem, TermRow, TermRefAC.
-/
import Derived.Test.YtpmohibhdnmjlaaChecked
import Derived.Test.YtpmohibhdnmjlaaNumA
import Derived.WalkKit
import Derived.WalkSpells
import Derived.Lib.Hide
import Derived.Laws.AppendOwn
import Derived.Laws.OwnMore
import Derived.Deep.AppendLies
import Derived.Test.YtpmohibhdnmjlaaCharA
import Derived.Deep.RegionHeld3
import Derived.Lib.Strings

/-
  Terms, and terms in memory: a term's four cells (kind, name, number, arguments), its arguments one behind the other in a row. Proved: what is known of an argument by its place, and that terms stay as long as nothing old is written.
-/
namespace Go.Proofs.Ytpmohibhdnmjlaa
open Go.RowKit

inductive Tm where
  | mk : Int → ByteArray → Int → List Tm → Tm
def Tm.kind : Tm → Int
  | .mk k _ _ _ => k
def Tm.name : Tm → ByteArray
  | .mk _ s _ _ => s
def Tm.n : Tm → Int
  | .mk _ _ n _ => n
def Tm.args : Tm → List Tm
  | .mk _ _ _ l => l
mutual
def Tm.size : Tm → Nat
  | .mk _ _ _ l => 1 + Tm.sizes l
def Tm.sizes : List Tm → Nat
  | [] => 0
  | t :: l => t.size + Tm.sizes l
end
mutual
def Tm.deep : Tm → Nat
  | .mk _ _ _ l => Tm.deeps l + 1
def Tm.deeps : List Tm → Nat
  | [] => 0
  | t :: l => max t.deep (Tm.deeps l)
end
theorem Tm.eta (t : Tm) : t = .mk t.kind t.name t.n t.args := by cases t; rfl
theorem Tm.size_eq (t : Tm) : t.size = 1 + Tm.sizes t.args := by cases t; rfl
theorem Tm.deep_eq (t : Tm) : t.deep = Tm.deeps t.args + 1 := by cases t; rfl
theorem Tm.sizes_cons (t : Tm) (l : List Tm) : Tm.sizes (t :: l) = t.size + Tm.sizes l := rfl
theorem Tm.sizes_append (a b : List Tm) : Tm.sizes (a ++ b) = Tm.sizes a + Tm.sizes b := by
  induction a with
  | nil => rw [List.nil_append]; show _ = 0 + _; omega
  | cons t l ih => rw [List.cons_append, Tm.sizes_cons, Tm.sizes_cons, ih]; omega
theorem Tm.size_pos (t : Tm) : 1 ≤ t.size := by rw [Tm.size_eq]; omega
theorem Tm.mem_size {t : Tm} {l : List Tm} (h : t ∈ l) : t.size ≤ Tm.sizes l := by
  induction l with
  | nil => cases h
  | cons x l ih =>
    rw [Tm.sizes_cons]
    rcases List.mem_cons.1 h with rfl | h
    · omega
    · have := ih h; omega
theorem Tm.deeps_snoc (l : List Tm) (t : Tm) : Tm.deeps (l ++ [t]) = max (Tm.deeps l) t.deep := by
  induction l with
  | nil => show max t.deep 0 = max 0 t.deep; omega
  | cons x l ih => show max x.deep (Tm.deeps (l ++ [t])) = max (max x.deep (Tm.deeps l)) t.deep; rw [ih]; omega
theorem Tm.length_le_sizes (l : List Tm) : l.length ≤ Tm.sizes l := by
  induction l with
  | nil => exact Nat.le_refl 0
  | cons t l ih => rw [Tm.sizes_cons, List.length_cons]; have := t.size_pos; omega

theorem Tm.deeps_le' (m : Nat) : ∀ l : List Tm, Tm.sizes l ≤ m → Tm.deeps l ≤ Tm.sizes l := by
  induction m with
  | zero =>
    intro l h
    cases l with
    | nil => exact Nat.le_refl 0
    | cons t l => rw [Tm.sizes_cons] at h; have := t.size_pos; omega
  | succ m ih =>
    intro l h
    cases l with
    | nil => exact Nat.le_refl 0
    | cons t l =>
      rw [Tm.sizes_cons] at h ⊢
      have h1 := t.size_eq
      have h2 := ih t.args (by omega)
      have h3 := ih l (by have := t.size_pos; omega)
      show max t.deep (Tm.deeps l) ≤ _
      rw [t.deep_eq]
      omega
theorem Tm.deeps_le (l : List Tm) : Tm.deeps l ≤ Tm.sizes l := Tm.deeps_le' _ l (Nat.le_refl _)
theorem Tm.deep_le_size (t : Tm) : t.deep ≤ t.size := by
  have := Tm.deeps_le t.args
  rw [t.deep_eq, t.size_eq]
  omega
theorem Tm.sizes_take (l : List Tm) (k : Nat) : Tm.sizes (l.take k) ≤ Tm.sizes l := by
  have := Tm.sizes_append (l.take k) (l.drop k)
  rw [List.take_append_drop] at this
  omega

/-- The terms ts lie in w from ad on, one behind the other, with all their arguments. -/
inductive TArgs (w : World) : Option Addr → List Tm → Prop where
  | nil (ad : Option Addr) : TArgs w ad []
  | cons (b o : Nat) (k n : Int) (nm : ByteArray) (l ts : List Tm) (ad : Option Addr) (cap : Nat) :
      w.cell? ⟨b, o, none⟩ = some (.int .i64 k) → w.cell? ⟨b, o + 1, none⟩ = some (.string nm) → w.cell? ⟨b, o + 2, none⟩ = some (.int .i64 n) → w.cell? ⟨b, o + 3, none⟩ = some (.slice ad l.length cap) →
      In64 k → In64 n → nm.size ≤ maxLen → l.length ≤ cap → cap ≤ maxLen →
      TArgs w ad l → TArgs w (some ⟨b, o + 4, none⟩) ts → TArgs w (some ⟨b, o, none⟩) (.mk k nm n l :: ts)
/-- A term's value: its four cells. -/
def tmv (t : Tm) (ad : Option Addr) (cap : Nat) : Value := .agg #[.int .i64 t.kind, .string t.name, .int .i64 t.n, .slice ad t.args.length cap]
/-- A term that is handed over by value. -/
structure TmIn (w : World) (t : Tm) (ad : Option Addr) (cap : Nat) : Prop where
  kind : In64 t.kind
  n : In64 t.n
  name : t.name.size ≤ maxLen
  len : t.args.length ≤ cap
  cap : cap ≤ maxLen
  args : TArgs w ad t.args
theorem TArgs.on {w w' : World} {ad : Option Addr} {ts : List Tm} (h : TArgs w ad ts) (hb : Below w.heap.size w w') : TArgs w' ad ts := by
  have keep : ∀ (b o : Nat) (v : Value), w.cell? ⟨b, o, none⟩ = some v → w'.cell? ⟨b, o, none⟩ = some v := fun b o v hc => (hb.cell (World.block_lt_of_cell? w ⟨b, o, none⟩ hc)).trans hc
  induction h with
  | nil ad => exact .nil ad
  | cons b o k n nm l ts ad cap c0 c1 c2 c3 hk hn hm hl hc _ _ ih1 ih2 => exact .cons b o k n nm l ts ad cap (keep _ _ _ c0) (keep _ _ _ c1) (keep _ _ _ c2) (keep _ _ _ c3) hk hn hm hl hc ih1 ih2
theorem TmIn.on {w w' : World} {t : Tm} {ad : Option Addr} {cap : Nat} (h : TmIn w t ad cap) (hb : Below w.heap.size w w') : TmIn w' t ad cap := ⟨h.kind, h.n, h.name, h.len, h.cap, h.args.on hb⟩
/-- The i-th of them. -/
theorem TArgs.get {w : World} {b o : Nat} {ts : List Tm} (h : TArgs w (some ⟨b, o, none⟩) ts) (i : Nat) (hi : i < ts.length) :
    ∃ ad cap, w.cell? ⟨b, o + i * 4, none⟩ = some (.int .i64 (ts[i]'hi).kind) ∧ w.cell? ⟨b, o + i * 4 + 1, none⟩ = some (.string (ts[i]'hi).name) ∧ w.cell? ⟨b, o + i * 4 + 2, none⟩ = some (.int .i64 (ts[i]'hi).n) ∧
      w.cell? ⟨b, o + i * 4 + 3, none⟩ = some (.slice ad (ts[i]'hi).args.length cap) ∧ TmIn w (ts[i]'hi) ad cap := by
  induction i generalizing o ts with
  | zero =>
    rw [Nat.zero_mul, Nat.add_zero]
    cases h with
    | nil => cases hi
    | cons _ _ k n nm l ts ad cap c0 c1 c2 c3 hk hn hm hl hc ha _ => exact ⟨ad, cap, c0, c1, c2, c3, ⟨hk, hn, hm, hl, hc, ha⟩⟩
  | succ i ih =>
    cases h with
    | nil => cases hi
    | cons _ _ k n nm l ts ad cap c0 c1 c2 c3 hk hn hm hl hc ha hr =>
      have h9 := ih hr (by simpa using hi)
      rw [show o + (i + 1) * 4 = o + 4 + i * 4 by omega]
      exact h9
theorem TArgs.addr {w : World} {ad : Option Addr} {ts : List Tm} (h : TArgs w ad ts) (hp : 0 < ts.length) : ∃ b o, ad = some ⟨b, o, none⟩ := by
  cases h with
  | nil => cases hp
  | cons b o => exact ⟨b, o, rfl⟩
end Go.Proofs.Ytpmohibhdnmjlaa

/-
  Terms in memory of a call's own: which blocks they lie in; rows of terms that are appended to.
-/
namespace Go.Proofs.Ytpmohibhdnmjlaa
open Go.RowKit

/-- As TArgs, and every block that they lie in is one of P. -/
inductive TArgsP (w : World) (P : Nat → Prop) : Option Addr → List Tm → Prop where
  | nil (ad : Option Addr) : TArgsP w P ad []
  | cons (b o : Nat) (k n : Int) (nm : ByteArray) (l ts : List Tm) (ad : Option Addr) (cap : Nat) : P b →
      w.cell? ⟨b, o, none⟩ = some (.int .i64 k) → w.cell? ⟨b, o + 1, none⟩ = some (.string nm) → w.cell? ⟨b, o + 2, none⟩ = some (.int .i64 n) → w.cell? ⟨b, o + 3, none⟩ = some (.slice ad l.length cap) →
      In64 k → In64 n → nm.size ≤ maxLen → l.length ≤ cap → cap ≤ maxLen →
      TArgsP w P ad l → TArgsP w P (some ⟨b, o + 4, none⟩) ts → TArgsP w P (some ⟨b, o, none⟩) (.mk k nm n l :: ts)
theorem TArgsP.all {w : World} {P : Nat → Prop} {ad : Option Addr} {ts : List Tm} (h : TArgsP w P ad ts) : TArgs w ad ts := by
  induction h with
  | nil ad => exact .nil ad
  | cons b o k n nm l ts ad cap _ c0 c1 c2 c3 hk hn hm hl hc _ _ ih1 ih2 => exact .cons b o k n nm l ts ad cap c0 c1 c2 c3 hk hn hm hl hc ih1 ih2
theorem TArgsP.kept {w w' : World} {P Q : Nat → Prop} {ad : Option Addr} {ts : List Tm} (h : TArgsP w P ad ts) (hk : ∀ b, P b → b < w.heap.size → w'.heap[b]? = w.heap[b]?) (hPQ : ∀ b, P b → b < w.heap.size → Q b) : TArgsP w' Q ad ts := by
  have keep : ∀ (b o : Nat) (v : Value), P b → w.cell? ⟨b, o, none⟩ = some v → w'.cell? ⟨b, o, none⟩ = some v := fun b o v hp hc =>
    (World.cell?_of_block (w := w) (w' := w') (a := ⟨b, o, none⟩) (hk b hp (World.block_lt_of_cell? w ⟨b, o, none⟩ hc))).trans hc
  induction h with
  | nil ad => exact .nil ad
  | cons b o k n nm l ts ad cap hp c0 c1 c2 c3 hk hn hm hl hc _ _ ih1 ih2 =>
    exact .cons b o k n nm l ts ad cap (hPQ b hp (World.block_lt_of_cell? w ⟨b, o, none⟩ c0)) (keep _ _ _ hp c0) (keep _ _ _ hp c1) (keep _ _ _ hp c2) (keep _ _ _ hp c3) hk hn hm hl hc ih1 ih2
structure TmP (w : World) (P : Nat → Prop) (t : Tm) (ad : Option Addr) (cap : Nat) : Prop where
  kind : In64 t.kind
  n : In64 t.n
  name : t.name.size ≤ maxLen
  len : t.args.length ≤ cap
  cap : cap ≤ maxLen
  args : TArgsP w P ad t.args
theorem TmP.toIn {w : World} {P : Nat → Prop} {t : Tm} {ad : Option Addr} {cap : Nat} (h : TmP w P t ad cap) : TmIn w t ad cap := ⟨h.kind, h.n, h.name, h.len, h.cap, h.args.all⟩
theorem TmP.kept {w w' : World} {P Q : Nat → Prop} {t : Tm} {ad : Option Addr} {cap : Nat} (h : TmP w P t ad cap) (hk : ∀ b, P b → b < w.heap.size → w'.heap[b]? = w.heap[b]?) (hPQ : ∀ b, P b → b < w.heap.size → Q b) : TmP w' Q t ad cap := ⟨h.kind, h.n, h.name, h.len, h.cap, h.args.kept hk hPQ⟩
/-- A term's four cells. -/
def tcells (t : Tm) (ad : Option Addr) (cap : Nat) : List Value := [.int .i64 t.kind, .string t.name, .int .i64 t.n, .slice ad t.args.length cap]
inductive TRow (w : World) (P : Nat → Prop) : List Value → List Tm → Prop where
  | nil : TRow w P [] []
  | cons (t : Tm) (ad : Option Addr) (cap : Nat) (xs : List Value) (ts : List Tm) : TmP w P t ad cap → TRow w P xs ts → TRow w P (tcells t ad cap ++ xs) (t :: ts)
theorem TRow.kept {w w' : World} {P Q : Nat → Prop} {xs : List Value} {ts : List Tm} (h : TRow w P xs ts) (hk : ∀ b, P b → b < w.heap.size → w'.heap[b]? = w.heap[b]?) (hPQ : ∀ b, P b → b < w.heap.size → Q b) : TRow w' Q xs ts := by
  induction h with
  | nil => exact .nil
  | cons t ad cap xs ts ht _ ih => exact .cons t ad cap xs ts (ht.kept hk hPQ) ih
theorem TRow.snoc {w : World} {P : Nat → Prop} {xs : List Value} {ts : List Tm} (h : TRow w P xs ts) {t : Tm} {ad : Option Addr} {cap : Nat} (ht : TmP w P t ad cap) : TRow w P (xs ++ tcells t ad cap) (ts ++ [t]) := by
  induction h with
  | nil => exact .cons t ad cap [] [] ht .nil
  | cons t' ad' cap' xs ts ht' _ ih => rw [List.append_assoc]; exact .cons t' ad' cap' _ _ ht' ih
theorem TRow.length {w : World} {P : Nat → Prop} {xs : List Value} {ts : List Tm} (h : TRow w P xs ts) : xs.length = ts.length * 4 := by
  induction h with
  | nil => rfl
  | cons t ad cap xs ts _ _ ih => rw [List.length_append, ih, List.length_cons]; show 4 + _ = _; omega
theorem TRow.args {w : World} {P Q : Nat → Prop} {xs : List Value} {ts : List Tm} (h : TRow w P xs ts) (g : Nat) (hg : Q g) (hPQ : ∀ b, P b → Q b) : ∀ o : Nat, (∀ j, j < xs.length → w.cell? ⟨g, o + j, none⟩ = xs[j]?) → TArgsP w Q (some ⟨g, o, none⟩) ts := by
  induction h with
  | nil => exact fun o _ => .nil _
  | cons t ad cap xs ts ht _ ih =>
    intro o hc
    have hl : (tcells t ad cap ++ xs).length = 4 + xs.length := by rw [List.length_append]; rfl
    have c0 := hc 0 (by omega)
    have c1 := hc 1 (by omega)
    have c2 := hc 2 (by omega)
    have c3 := hc 3 (by omega)
    have hr := ih (o + 4) (fun j hj => by
      have h1 := hc (4 + j) (by omega)
      rw [show o + 4 + j = o + (4 + j) by omega, h1, List.getElem?_append_right (by show 4 ≤ 4 + j; omega), show 4 + j - (tcells t ad cap).length = j by show 4 + j - 4 = j; omega])
    rw [t.eta]
    exact .cons g o t.kind t.n t.name t.args ts ad cap hg c0 c1 c2 c3 ht.kind ht.n ht.name ht.len ht.cap (ht.args.kept (fun _ _ _ => rfl) (fun b hp _ => hPQ b hp)) hr
theorem infoTerm : (Try.prog.info? 25).map (fun i => (i.zero, i.size, i.bytes)) = some (some (.agg #[.int .i64 0, .string ⟨#[]⟩, .int .i64 0, .slice none 0 0]), 4, 56) := by kernel_rfl

/-- A slice of terms of the call's own: its row, and what its terms are made of, lie from B on, and no term lies in the row itself. -/
def OwnTerms (B : Nat) (w : World) (v : Value) (ts : List Tm) : Prop := ∃ xs, w.ownsRow B 25 4 v ts.length xs ∧ TRow w (fun b => B ≤ b ∧ some b ≠ v.ownBlock) xs ts
theorem OwnTerms.nil (B : Nat) (w : World) : OwnTerms B w (.slice none 0 0) [] := ⟨[], World.ownsRow_nil _ _ _ _, .nil⟩
theorem OwnTerms.lt {B : Nat} {w : World} {v : Value} {ts : List Tm} (h : OwnTerms B w v ts) : ∀ k, v.ownBlock = some k → B ≤ k ∧ k < w.heap.size := by obtain ⟨xs, h1, _⟩ := h; exact h1.lt
theorem OwnTerms.below {B : Nat} {w w' : World} {v : Value} {ts : List Tm} (h : OwnTerms B w v ts) (hb : Below w.heap.size w w') : OwnTerms B w' v ts := by
  obtain ⟨xs, ⟨hl, h1⟩, h2⟩ := h
  refine ⟨xs, ⟨hl, ?_⟩, h2.kept (fun b _ hlt => hb.block b hlt) (fun b hp _ => hp)⟩
  rcases h1 with h0 | ⟨g, cap, cur, hv, hbg, hh, r⟩
  · exact .inl h0
  · exact .inr ⟨g, cap, cur, hv, hbg, (hb.block g (Array.getElem?_eq_some_iff.1 hh).1).trans hh, r⟩
theorem OwnTerms.slice {B : Nat} {w : World} {v : Value} {ts : List Tm} (h : OwnTerms B w v ts) : ∃ ad cap, v = .slice ad ts.length cap ∧ ts.length ≤ cap ∧ cap ≤ maxLen ∧ TArgsP w (fun b => B ≤ b) ad ts := by
  obtain ⟨xs, ⟨hl, h1⟩, h2⟩ := h
  rcases h1 with ⟨rfl, h0⟩ | ⟨g, cap, cur, rfl, hbg, hh, hnc, hcm, hsz, htk⟩
  · cases ts with
    | nil => exact ⟨none, 0, rfl, Nat.le_refl _, Nat.zero_le _, .nil _⟩
    | cons t ts => cases h0
  · refine ⟨some ⟨g, 0, none⟩, cap, rfl, hnc, hcm, h2.args g hbg (fun b hp => hp.1) 0 (fun j hj => ?_)⟩
    rw [Nat.zero_add]
    exact World.ownsRow.cellAt (w := w) (base := B) (e := 25) (size := 4) (n := ts.length) (xs := xs) ⟨hl, .inr ⟨g, cap, cur, rfl, hbg, hh, hnc, hcm, hsz, htk⟩⟩ j (by rw [← hl]; exact hj)
/-- One term more. -/
theorem OwnTerms.grown {B : Nat} {w w' : World} {v v' : Value} {ts : List Tm} {xs : List Value} {t : Tm} {ad : Option Addr} {cap : Nat} (h2 : TRow w (fun b => B ≤ b ∧ some b ≠ v.ownBlock) xs ts)
    (ho : w'.ownsRow B 25 4 v' (ts.length + 1) (xs ++ tcells t ad cap)) (hg : w.grownBy w' v.ownBlock) (hnew : v'.ownBlock = v.ownBlock ∨ ∃ g, v'.ownBlock = some g ∧ w.heap.size ≤ g) (ht : TmP w (fun b => B ≤ b ∧ some b ≠ v.ownBlock) t ad cap) : OwnTerms B w' v' (ts ++ [t]) := by
  refine ⟨xs ++ tcells t ad cap, by rw [List.length_append]; exact ho, ?_⟩
  have hne : ∀ b, (B ≤ b ∧ some b ≠ v.ownBlock) → b < w.heap.size → (B ≤ b ∧ some b ≠ v'.ownBlock) := fun b hp hlt => by
    refine ⟨hp.1, ?_⟩
    rcases hnew with h | ⟨g, h, hgs⟩
    · rw [h]; exact hp.2
    · rw [h]; intro e; have := Option.some.inj e; omega
  exact (h2.kept (fun b hp hlt => hg.block b hlt hp.2) hne).snoc (ht.kept (fun b hp hlt => hg.block b hlt hp.2) hne)
end Go.Proofs.Ytpmohibhdnmjlaa

/-
  Joined texts: TermRefA, TermRefB, TermRefC.
-/

/-
  The contracts of the document's own answers for term: Deep, Size.
-/
namespace Go.Proofs.Ytpmohibhdnmjlaa
open Go.RowKit

theorem deeps_step (l : List Tm) (k : Nat) (h : k < l.length) : Tm.deeps (l.take (k + 1)) = max (Tm.deeps (l.take k)) (l[k]'h).deep := by
  rw [List.take_succ_eq_append_getElem h, Tm.deeps_snoc]

theorem sizes_step (l : List Tm) (k : Nat) (h : k < l.length) : Tm.sizes (l.take (k + 1)) = Tm.sizes (l.take k) + (l[k]'h).size := by
  rw [List.take_succ_eq_append_getElem h, Tm.sizes_append]; rfl

end Go.Proofs.Ytpmohibhdnmjlaa

/-
  The contract of the document's own Same.
-/
namespace Go.Proofs.Ytpmohibhdnmjlaa
open Go.RowKit

noncomputable def Tm.same (a b : Tm) : Bool := @decide (a = b) (Classical.propDecidable _)
theorem Tm.same_iff (a b : Tm) : a.same b = true ↔ a = b := by unfold Tm.same; simp
theorem Tm.same_false {a b : Tm} (h : a ≠ b) : a.same b = false := by unfold Tm.same; simp [h]
theorem Tm.same_true {a b : Tm} (h : a = b) : a.same b = true := (Tm.same_iff a b).2 h
theorem Tm.ext4 {a b : Tm} (h0 : a.kind = b.kind) (h1 : a.name = b.name) (h2 : a.n = b.n) (h3 : a.args = b.args) : a = b := by
  cases a; cases b; cases h0; cases h1; cases h2; cases h3; rfl

end Go.Proofs.Ytpmohibhdnmjlaa

/-
  The contracts of the document's own left and Few.
-/
namespace Go.Proofs.Ytpmohibhdnmjlaa
open Go.RowKit

/-- How many may still be met behind s of them. -/
def leftI (s : Nat) (n : Int) : Int := if (s : Int) ≤ n then n - s else -1
theorem leftI_one {l : List Tm} (n : Int) (h : 0 ≤ n) : leftI (1 + Tm.sizes (List.take 0 l)) n = n - 1 := by
  rw [List.take_zero]
  show leftI 1 n = _
  unfold leftI
  split <;> omega
theorem leftI_ge (s : Nat) (n : Int) : -1 ≤ leftI s n := by unfold leftI; split <;> omega
theorem leftI_le (s : Nat) (n : Int) (h : 0 ≤ n) : leftI s n ≤ n := by unfold leftI; split <;> omega
theorem leftI_step (a b : Nat) (n : Int) (h : 0 ≤ leftI a n) : leftI (a + b) n = leftI b (leftI a n) := by
  have ha : (a : Int) ≤ n := by
    unfold leftI at h
    split at h <;> omega
  have e : leftI a n = n - a := if_pos ha
  rw [e]
  unfold leftI
  split <;> split <;> omega
theorem leftI_over (a b : Nat) (n : Int) (h : leftI a n < 0) (hab : a ≤ b) : leftI a n = leftI b n := by
  unfold leftI at *
  split at h
  · omega
  · rw [if_neg ‹_›, if_neg (by omega)]

set_option maxRecDepth 100000 in
set_option maxHeartbeats 2000000 in
theorem ref_left (m : Nat) : ∀ (T : Tm) (ad : Option Addr) (cap : Nat) (n : Int) (w : World), T.size ≤ m → 0 ≤ n → n ≤ 1000000000 → TmIn w T ad cap →
    Calls Try.prog 31 #[tmv T ad cap, .int .i64 n] w fun e w' => e = .returned (.int .i64 (leftI T.size n)) ∧ Below w.heap.size w w' := by
  induction m with
  | zero => intro T ad cap n w h; have := T.size_pos; omega
  | succ m ih =>
    intro T ad cap n w hm hn0 hn1 hin
    have IH := Lib.hid ih
    clear ih
    have HI := Lib.hid hin
    have hcapl := hin.len
    have hcapm := hin.cap
    unfold maxLen at hcapm
    have HSZ := Lib.hid T.size_eq
    clear hin
    unfold tmv
    go_enter Try.func31, Try.ntmps31
    go_wp2_with fail
    go_loopw [1, 12] (fun mv iv wr => ∃ k : Nat, k ≤ T.args.length ∧ iv = .int .i64 k ∧ mv = .int .i64 (leftI (1 + Tm.sizes (T.args.take k)) n) ∧ Below w.heap.size w wr) (fun _ iv _ => T.args.length - (intOf iv).toNat)
    case atStart =>
      refine ⟨0, Nat.zero_le _, rfl, ?_, (Below.refl _ w).alloc (Nat.le_refl _) _⟩
      rw [leftI_one n hn0]
    case round =>
      obtain ⟨k, hk, rfl, rfl, hbw⟩ := hrel
      by_cases hlt : k < T.args.length
      · obtain ⟨b, o, rfl⟩ := HI.out.args.addr (by omega)
        obtain ⟨ad1, cap1, c0, c1, c2, c3, hin1⟩ := (HI.out.args.on hbw).get k hlt
        have hmem := Tm.mem_size (List.getElem_mem hlt)
        generalize hx : T.args[k] = x at *
        have HX := Lib.hid hx
        have HIN := Lib.hid hin1
        clear hx hin1
        have hxm : x.size ≤ m := by have := HSZ.out; omega
        have hdn := Lib.hid (sizes_step T.args k hlt)
        have hstep := Lib.hid (leftI_step (1 + Tm.sizes (T.args.take k)) x.size n)
        have hover := Lib.hid (leftI_over (1 + Tm.sizes (T.args.take k)) T.size n)
        have htk := Lib.hid (Tm.sizes_take T.args k)
        have hr0 := leftI_ge (1 + Tm.sizes (T.args.take k)) n
        have hr1 := leftI_le (1 + Tm.sizes (T.args.take k)) n hn0
        have hE : leftI (1 + Tm.sizes (T.args.take (k + 1))) n = leftI (1 + Tm.sizes (T.args.take k) + x.size) n := by
          have h1 := hdn.out
          rw [HX.out] at h1
          rw [h1, Nat.add_assoc]
        have HE := Lib.hid hE
        clear hE
        generalize leftI (1 + Tm.sizes (T.args.take k)) n = r at *
        by_cases hr : r < 0
        · go_wp2_with fail
          go_ret
          refine ⟨ret_i ?_, hbw.alloc hbw.size _⟩
          exact hover.out hr (by have := HSZ.out; have := htk.out; omega)
        · go_wp2_with fail
          refine (IH.out x ad1 cap1 r _ hxm (by omega) (by omega) (HIN.out.on ((Below.refl _ wr).alloc (Nat.le_refl _) _))).mono ?_
          rintro e w2 ⟨rfl, hb2⟩
          have hbw2 := (hbw.alloc hbw.size _).trans (hb2.mono (Nat.le_trans hbw.size (by simp)))
          clear hb2 hbw c0 c1 c2 c3
          have hr2 := leftI_ge x.size r
          have hr3 := leftI_le x.size r (by omega)
          go_wp2_with fail
          go_roundw
          case rel => exact ⟨k + 1, by omega, by go_num, by rw [HE.out, hstep.out (by omega)], hbw2⟩
          case measure => simp [intOf]; omega
      · have hall : T.args.take k = T.args := List.take_of_length_le (by omega)
        rw [hall, ← HSZ.out]
        clear hall
        have hr0 := leftI_ge T.size n
        have hr1 := leftI_le T.size n hn0
        go_wp2_with fail
        go_ret
        exact ⟨rfl, hbw⟩
theorem ref_Few (T : Tm) (ad : Option Addr) (cap : Nat) (n : Int) (w : World) (hn0 : 0 ≤ n) (hn1 : n ≤ 1000000000) (hin : TmIn w T ad cap) :
    Calls Try.prog 23 #[tmv T ad cap, .int .i64 n] w fun e w' => e = .returned (.bool (decide ((T.size : Int) ≤ n))) ∧ Below w.heap.size w w' := by
  have hL := fun w' hin => ref_left T.size T ad cap n w' (Nat.le_refl _) hn0 hn1 hin
  have hr : decide ((T.size : Int) ≤ n) = decide (0 ≤ leftI T.size n) := by
    unfold leftI
    by_cases h : (T.size : Int) ≤ n
    · rw [if_pos h, decide_eq_true h, decide_eq_true (by omega)]
    · rw [if_neg h, decide_eq_false h, decide_eq_false (by decide)]
  rw [hr]
  have h1 := leftI_ge T.size n
  have h2 := leftI_le T.size n hn0
  generalize leftI T.size n = r at *
  have HL := Lib.hid hL
  have HI := Lib.hid hin
  have hcapl := hin.len
  have hcapm := hin.cap
  unfold maxLen at hcapm
  clear hL hin hr
  unfold tmv at *
  go_enter Try.func23, Try.ntmps23
  go_wp2_with fail
  refine (HL.out _ (HI.out.on ((Below.refl _ w).alloc (Nat.le_refl _) _))).mono ?_
  rintro e w2 ⟨rfl, hb2⟩
  have hb := ((Below.refl _ w).alloc (Nat.le_refl _) _).trans (hb2.mono (by simp))
  clear hb2
  go_wp2_with fail
  go_ret
  exact ⟨rfl, hb⟩
end Go.Proofs.Ytpmohibhdnmjlaa
