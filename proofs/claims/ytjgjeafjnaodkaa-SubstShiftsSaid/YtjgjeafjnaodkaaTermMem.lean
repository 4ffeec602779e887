/-
  Terms, and terms in memory: a term's four cells (kind, name, number, arguments), its arguments one behind the other in a row. Proved: what is known of an argument by its place, and that terms stay as long as nothing old is written.
-/
import Derived.Test.YtjgjeafjnaodkaaChecked
import Derived.Test.YtjgjeafjnaodkaaNumPlain
import Derived.WalkKit
import Derived.WalkSpells
import Derived.Lib.Hide
namespace Go.Proofs.Ytjgjeafjnaodkaa
open Go.RowKit

inductive Tm where
  | mk : Int → ByteArray → Int → List Tm → Tm
def Tm.kind : Tm → Int
  | .mk k _ _ _ => k
def Tm.name : Tm → ByteArray
  | .mk _ s _ _ => s
def Tm.n : Tm → Int
  | .mk _ _ n _ => n
def Tm.args : Tm → List Tm
  | .mk _ _ _ l => l
mutual
def Tm.size : Tm → Nat
  | .mk _ _ _ l => 1 + Tm.sizes l
def Tm.sizes : List Tm → Nat
  | [] => 0
  | t :: l => t.size + Tm.sizes l
end
mutual
def Tm.deep : Tm → Nat
  | .mk _ _ _ l => Tm.deeps l + 1
def Tm.deeps : List Tm → Nat
  | [] => 0
  | t :: l => max t.deep (Tm.deeps l)
end
theorem Tm.eta (t : Tm) : t = .mk t.kind t.name t.n t.args := by cases t; rfl
theorem Tm.size_eq (t : Tm) : t.size = 1 + Tm.sizes t.args := by cases t; rfl
theorem Tm.deep_eq (t : Tm) : t.deep = Tm.deeps t.args + 1 := by cases t; rfl
theorem Tm.sizes_cons (t : Tm) (l : List Tm) : Tm.sizes (t :: l) = t.size + Tm.sizes l := rfl
theorem Tm.sizes_append (a b : List Tm) : Tm.sizes (a ++ b) = Tm.sizes a + Tm.sizes b := by
  induction a with
  | nil => rw [List.nil_append]; show _ = 0 + _; omega
  | cons t l ih => rw [List.cons_append, Tm.sizes_cons, Tm.sizes_cons, ih]; omega
theorem Tm.size_pos (t : Tm) : 1 ≤ t.size := by rw [Tm.size_eq]; omega
theorem Tm.mem_size {t : Tm} {l : List Tm} (h : t ∈ l) : t.size ≤ Tm.sizes l := by
  induction l with
  | nil => cases h
  | cons x l ih =>
    rw [Tm.sizes_cons]
    rcases List.mem_cons.1 h with rfl | h
    · omega
    · have := ih h; omega
theorem Tm.deeps_snoc (l : List Tm) (t : Tm) : Tm.deeps (l ++ [t]) = max (Tm.deeps l) t.deep := by
  induction l with
  | nil => show max t.deep 0 = max 0 t.deep; omega
  | cons x l ih => show max x.deep (Tm.deeps (l ++ [t])) = max (max x.deep (Tm.deeps l)) t.deep; rw [ih]; omega
theorem Tm.length_le_sizes (l : List Tm) : l.length ≤ Tm.sizes l := by
  induction l with
  | nil => exact Nat.le_refl 0
  | cons t l ih => rw [Tm.sizes_cons, List.length_cons]; have := t.size_pos; omega

theorem Tm.deeps_le' (m : Nat) : ∀ l : List Tm, Tm.sizes l ≤ m → Tm.deeps l ≤ Tm.sizes l := by
  induction m with
  | zero =>
    intro l h
    cases l with
    | nil => exact Nat.le_refl 0
    | cons t l => rw [Tm.sizes_cons] at h; have := t.size_pos; omega
  | succ m ih =>
    intro l h
    cases l with
    | nil => exact Nat.le_refl 0
    | cons t l =>
      rw [Tm.sizes_cons] at h ⊢
      have h1 := t.size_eq
      have h2 := ih t.args (by omega)
      have h3 := ih l (by have := t.size_pos; omega)
      show max t.deep (Tm.deeps l) ≤ _
      rw [t.deep_eq]
      omega
theorem Tm.deeps_le (l : List Tm) : Tm.deeps l ≤ Tm.sizes l := Tm.deeps_le' _ l (Nat.le_refl _)
theorem Tm.deep_le_size (t : Tm) : t.deep ≤ t.size := by
  have := Tm.deeps_le t.args
  rw [t.deep_eq, t.size_eq]
  omega
theorem Tm.sizes_take (l : List Tm) (k : Nat) : Tm.sizes (l.take k) ≤ Tm.sizes l := by
  have := Tm.sizes_append (l.take k) (l.drop k)
  rw [List.take_append_drop] at this
  omega

/-- The terms ts lie in w from ad on, one behind the other, with all their arguments. -/
inductive TArgs (w : World) : Option Addr → List Tm → Prop where
  | nil (ad : Option Addr) : TArgs w ad []
  | cons (b o : Nat) (k n : Int) (nm : ByteArray) (l ts : List Tm) (ad : Option Addr) (cap : Nat) :
      w.cell? ⟨b, o, none⟩ = some (.int .i64 k) → w.cell? ⟨b, o + 1, none⟩ = some (.string nm) → w.cell? ⟨b, o + 2, none⟩ = some (.int .i64 n) → w.cell? ⟨b, o + 3, none⟩ = some (.slice ad l.length cap) →
      In64 k → In64 n → nm.size ≤ maxLen → l.length ≤ cap → cap ≤ maxLen →
      TArgs w ad l → TArgs w (some ⟨b, o + 4, none⟩) ts → TArgs w (some ⟨b, o, none⟩) (.mk k nm n l :: ts)
/-- A term's value: its four cells. -/
def tmv (t : Tm) (ad : Option Addr) (cap : Nat) : Value := .agg #[.int .i64 t.kind, .string t.name, .int .i64 t.n, .slice ad t.args.length cap]
/-- A term that is handed over by value. -/
structure TmIn (w : World) (t : Tm) (ad : Option Addr) (cap : Nat) : Prop where
  kind : In64 t.kind
  n : In64 t.n
  name : t.name.size ≤ maxLen
  len : t.args.length ≤ cap
  cap : cap ≤ maxLen
  args : TArgs w ad t.args
theorem TArgs.on {w w' : World} {ad : Option Addr} {ts : List Tm} (h : TArgs w ad ts) (hb : Below w.heap.size w w') : TArgs w' ad ts := by
  have keep : ∀ (b o : Nat) (v : Value), w.cell? ⟨b, o, none⟩ = some v → w'.cell? ⟨b, o, none⟩ = some v := fun b o v hc => (hb.cell (World.block_lt_of_cell? w ⟨b, o, none⟩ hc)).trans hc
  induction h with
  | nil ad => exact .nil ad
  | cons b o k n nm l ts ad cap c0 c1 c2 c3 hk hn hm hl hc _ _ ih1 ih2 => exact .cons b o k n nm l ts ad cap (keep _ _ _ c0) (keep _ _ _ c1) (keep _ _ _ c2) (keep _ _ _ c3) hk hn hm hl hc ih1 ih2
theorem TmIn.on {w w' : World} {t : Tm} {ad : Option Addr} {cap : Nat} (h : TmIn w t ad cap) (hb : Below w.heap.size w w') : TmIn w' t ad cap := ⟨h.kind, h.n, h.name, h.len, h.cap, h.args.on hb⟩
/-- The i-th of them. -/
theorem TArgs.get {w : World} {b o : Nat} {ts : List Tm} (h : TArgs w (some ⟨b, o, none⟩) ts) (i : Nat) (hi : i < ts.length) :
    ∃ ad cap, w.cell? ⟨b, o + i * 4, none⟩ = some (.int .i64 (ts[i]'hi).kind) ∧ w.cell? ⟨b, o + i * 4 + 1, none⟩ = some (.string (ts[i]'hi).name) ∧ w.cell? ⟨b, o + i * 4 + 2, none⟩ = some (.int .i64 (ts[i]'hi).n) ∧
      w.cell? ⟨b, o + i * 4 + 3, none⟩ = some (.slice ad (ts[i]'hi).args.length cap) ∧ TmIn w (ts[i]'hi) ad cap := by
  induction i generalizing o ts with
  | zero =>
    rw [Nat.zero_mul, Nat.add_zero]
    cases h with
    | nil => cases hi
    | cons _ _ k n nm l ts ad cap c0 c1 c2 c3 hk hn hm hl hc ha _ => exact ⟨ad, cap, c0, c1, c2, c3, ⟨hk, hn, hm, hl, hc, ha⟩⟩
  | succ i ih =>
    cases h with
    | nil => cases hi
    | cons _ _ k n nm l ts ad cap c0 c1 c2 c3 hk hn hm hl hc ha hr =>
      have h9 := ih hr (by simpa using hi)
      rw [show o + (i + 1) * 4 = o + 4 + i * 4 by omega]
      exact h9
theorem TArgs.addr {w : World} {ad : Option Addr} {ts : List Tm} (h : TArgs w ad ts) (hp : 0 < ts.length) : ∃ b o, ad = some ⟨b, o, none⟩ := by
  cases h with
  | nil => cases hp
  | cons b o => exact ⟨b, o, rfl⟩
end Go.Proofs.Ytjgjeafjnaodkaa
