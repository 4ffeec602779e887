/-
  Joined texts: TermPlaces, TermVars.
-/
import Derived.Test.YtpmohibhdnmjlaaTermMR
import Derived.Laws.AppendOwnNone

/-
  The contracts of the document's own places, Has, Vars and SameNums for term.
-/
namespace Go.Proofs.Ytpmohibhdnmjlaa
open Go.RowKit

mutual
/-- The numbers of a term's variables, as often as they stand there. -/
def Tm.places : Tm → List Int
  | .mk k _ n l => (if k = 1 then [n] else []) ++ Tm.placess l
def Tm.placess : List Tm → List Int
  | [] => []
  | t :: l => t.places ++ Tm.placess l
end
theorem Tm.placess_flat (l : List Tm) : Tm.placess l = l.flatMap Tm.places := by
  induction l with
  | nil => rfl
  | cons t l ih => show t.places ++ Tm.placess l = _; rw [ih, List.flatMap_cons]
theorem Tm.places_eq (t : Tm) : t.places = (if t.kind = 1 then [t.n] else []) ++ t.args.flatMap Tm.places := by
  cases t with
  | mk k s n l => show _ ++ Tm.placess l = _; rw [Tm.placess_flat]; rfl
theorem Tm.places_size' (m : Nat) : ∀ l : List Tm, Tm.sizes l ≤ m → (l.flatMap Tm.places).length ≤ Tm.sizes l := by
  induction m with
  | zero =>
    intro l h
    cases l with
    | nil => exact Nat.le_refl 0
    | cons t l => rw [Tm.sizes_cons] at h; have := t.size_pos; omega
  | succ m ih =>
    intro l h
    cases l with
    | nil => exact Nat.le_refl 0
    | cons t l =>
      rw [Tm.sizes_cons] at h ⊢
      have h1 := t.size_eq
      have h2 := ih t.args (by omega)
      have h3 := ih l (by have := t.size_pos; omega)
      rw [List.flatMap_cons, List.length_append, t.places_eq, List.length_append]
      split <;> simp only [List.length_cons, List.length_nil] <;> omega
theorem Tm.places_size (t : Tm) : t.places.length ≤ t.size := by
  have := Tm.places_size' _ t.args (Nat.le_refl _)
  rw [t.places_eq, t.size_eq, List.length_append]
  split <;> simp only [List.length_cons, List.length_nil] <;> omega
theorem flat_step (f : Tm → List Int) (l : List Tm) (k : Nat) (h : k < l.length) : (l.take (k + 1)).flatMap f = (l.take k).flatMap f ++ f (l[k]'h) := by
  rw [List.take_succ_eq_append_getElem h, List.flatMap_append]; simp
theorem flat_take (l : List Tm) (k : Nat) : ((l.take k).flatMap Tm.places).length ≤ Tm.sizes l :=
  Nat.le_trans (Tm.places_size' _ (l.take k) (Nat.le_refl _)) (Tm.sizes_take l k)

/-- A slice of numbers of the call's own. -/
def nums (l : List Int) : List Value := l.map (Value.int .i64)
theorem nums_append (a b : List Int) : nums (a ++ b) = nums a ++ nums b := List.map_append
theorem nums_one (l : List Int) : ∀ u ∈ nums l, u.oneCell' = true := by
  intro u hu
  unfold nums at hu
  obtain ⟨x, _, rfl⟩ := List.mem_map.1 hu
  rfl
def OwnNums (B : Nat) (w : World) (v : Value) (l : List Int) : Prop := w.ownsRow B 2 1 v l.length (nums l)
theorem infoNum : (Try.prog.info? 2).map (fun i => (i.zero, i.size, i.bytes)) = some (some (.int .i64 0), 1, 8) := by kernel_rfl
theorem OwnNums.below {B : Nat} {w w' : World} {v : Value} {l : List Int} (h : OwnNums B w v l) (hb : Below w.heap.size w w') : OwnNums B w' v l := by
  obtain ⟨hl, h0 | ⟨g, cap, cur, hv, hbg, hh, r⟩⟩ := h
  · exact ⟨hl, .inl h0⟩
  · exact ⟨hl, .inr ⟨g, cap, cur, hv, hbg, (hb.block g (Array.getElem?_eq_some_iff.1 hh).1).trans hh, r⟩⟩
theorem OwnNums.mono {B B' : Nat} {w : World} {v : Value} {l : List Int} (h : OwnNums B w v l) (hB : B' ≤ B) : OwnNums B' w v l := by
  obtain ⟨hl, h0 | ⟨g, cap, cur, hv, hbg, r⟩⟩ := h
  · exact ⟨hl, .inl h0⟩
  · exact ⟨hl, .inr ⟨g, cap, cur, hv, Nat.le_trans hB hbg, r⟩⟩
theorem OwnNums.snoc {B : Nat} {w : World} {v : Value} {l l2 : List Int} {n : Nat} {xs : List Value} (h : w.ownsRow B 2 1 v n xs) (hn : n = (l ++ l2).length) (hx : xs = nums l ++ nums l2) : OwnNums B w v (l ++ l2) := by
  unfold OwnNums
  rw [nums_append, ← hn, ← hx]
  exact h
/-- What it is as a source of an append. -/
theorem OwnNums.src {B : Nat} {w : World} {v : Value} {l : List Int} (h : OwnNums B w v l) : (v = .slice none 0 0 ∧ l = []) ∨ ∃ g cap, v = .slice (some ⟨g, 0, none⟩) l.length cap ∧ B ≤ g ∧ g < w.heap.size ∧ ∀ j u, (nums l)[j]? = some u → w.cell? ((⟨g, 0, none⟩ : Addr).add j) = some u := by
  have h9 := h
  obtain ⟨hl, h0 | ⟨g, cap, cur, hv, hbg, hh, r⟩⟩ := h
  · exact .inl ⟨h0.1, List.eq_nil_of_length_eq_zero h0.2⟩
  · refine .inr ⟨g, cap, hv, hbg, (Array.getElem?_eq_some_iff.1 hh).1, fun j u hj => ?_⟩
    exact World.ownsRow.cells h9 (g := g) (by rw [hv]; rfl) j u hj

end Go.Proofs.Ytpmohibhdnmjlaa

/-
  The contracts of the document's own Has, Vars and SameNums for term.
-/
namespace Go.Proofs.Ytpmohibhdnmjlaa
open Go.RowKit

/-- What a slice of numbers looks like to who reads it. -/
theorem OwnNums.view {B : Nat} {w : World} {v : Value} {l : List Int} (h : OwnNums B w v l) : ∃ ad cap, v = .slice ad l.length cap ∧ l.length ≤ cap ∧ cap ≤ maxLen ∧ ∀ j (hj : j < l.length), ∃ g, ad = some ⟨g, 0, none⟩ ∧ w.cell? ⟨g, j, none⟩ = some (.int .i64 l[j]) := by
  have h9 := h
  obtain ⟨hl, ⟨rfl, h0⟩ | ⟨g, cap, cur, rfl, hbg, hh, hnc, hcm, r⟩⟩ := h
  · refine ⟨none, 0, by rw [h0], by omega, Nat.zero_le _, fun j hj => by omega⟩
  · refine ⟨some ⟨g, 0, none⟩, cap, rfl, hnc, hcm, fun j hj => ⟨g, rfl, ?_⟩⟩
    rw [World.ownsRow.cellAt h9 j (by omega)]
    unfold nums
    rw [List.getElem?_map, List.getElem?_eq_getElem hj]
    rfl
def hasL (l : List Int) (n : Int) : Bool := l.any fun k => k == n
theorem hasL_snoc (l : List Int) (n : Int) (k : Nat) (h : k < l.length) : hasL (l.take (k + 1)) n = (hasL (l.take k) n || (l[k]'h == n)) := by
  unfold hasL
  rw [List.take_succ_eq_append_getElem h, List.any_append]; simp
theorem hasL_hit (l : List Int) (n : Int) (k : Nat) (h : k < l.length) (h1 : (l[k]'h == n) = true) : hasL l n = true := by
  unfold hasL
  rw [List.any_eq_true]
  exact ⟨_, List.getElem_mem h, h1⟩

/-- Each once, in the order of their first places. -/
def onceGo : List Int → List Int → List Int
  | out, [] => out
  | out, n :: l => if hasL out n then onceGo out l else onceGo (out ++ [n]) l
def once (l : List Int) : List Int := onceGo [] l
theorem onceGo_drop (l : List Int) (k : Nat) (h : k < l.length) (out : List Int) : onceGo out (l.drop k) = if hasL out (l[k]'h) then onceGo out (l.drop (k + 1)) else onceGo (out ++ [l[k]'h]) (l.drop (k + 1)) := by
  rw [List.drop_eq_getElem_cons h]; rfl
def Tm.vars (t : Tm) : List Int := once t.places

end Go.Proofs.Ytpmohibhdnmjlaa
