/-
  The contracts of the document's own write and Text for term.
-/
import Derived.Test.YtjgjeafjnaodkaaDoorTermMay
import Derived.Test.YtjgjeafjnaodkaaDoorNumBackA
import Derived.Test.YtjgjeafjnaodkaaDoorCharRefDG
namespace Go.Proofs.YtjgjeafjnaodkaaDoor
open Go.RowKit

/-- A term's text, out of its parts. -/
def txtK (k : Int) (s : List UInt8) (n : Int) (args : List UInt8) : List UInt8 :=
  if k = 1 then 95 :: Lib.itoa n else if k = 3 then Lib.itoa n else if k = 2 then writeL s else writeL s ++ (40 :: (args.drop 1 ++ [41]))
mutual
def Tm.txt : Tm → List UInt8
  | .mk k s n l => txtK k s.data.toList n (Tm.commas l)
/-- Each with a comma ahead. -/
def Tm.commas : List Tm → List UInt8
  | [] => []
  | t :: l => 44 :: (t.txt ++ Tm.commas l)
end
theorem Tm.txt_eq (t : Tm) : t.txt = txtK t.kind t.name.data.toList t.n (Tm.commas t.args) := by cases t; rfl
theorem Tm.commas_append (a b : List Tm) : Tm.commas (a ++ b) = Tm.commas a ++ Tm.commas b := by
  induction a with
  | nil => rfl
  | cons t a ih => show 44 :: (t.txt ++ Tm.commas (a ++ b)) = 44 :: (t.txt ++ Tm.commas a) ++ Tm.commas b; rw [ih]; simp
theorem commas_step (l : List Tm) (k : Nat) (h : k < l.length) : Tm.commas (l.take (k + 1)) = Tm.commas (l.take k) ++ (44 :: (l[k]'h).txt) := by
  rw [List.take_succ_eq_append_getElem h, Tm.commas_append]
  show _ ++ 44 :: ((l[k]'h).txt ++ []) = _
  rw [List.append_nil]
theorem commas_pos (l : List Tm) (k : Nat) (hk : 0 < k) (h : k ≤ l.length) : 0 < (Tm.commas (l.take k)).length := by
  cases l with
  | nil => simp at h; omega
  | cons t l =>
    cases k with
    | zero => omega
    | succ k => show 0 < (44 :: (t.txt ++ Tm.commas (l.take k))).length; simp
theorem quote_len (l : List UInt8) (h : l.length ≤ 255) : (quoteL l).length ≤ 1277 := by
  have h1 := runesL_length l
  have h2 : ∀ rs : List Int, (rs.flatMap escR).length ≤ 5 * rs.length := fun rs => by
    induction rs with
    | nil => exact Nat.le_refl 0
    | cons c rs ih => rw [List.flatMap_cons, List.length_append, List.length_cons]; have := escR_length c; omega
  have h3 := h2 (runesL l)
  unfold quoteL
  rw [List.length_cons, List.length_append, List.length_singleton]
  omega
theorem write_len (l : List UInt8) : (writeL l).length ≤ 1277 := by
  unfold writeL
  by_cases h : checkL l = true
  · rw [if_pos h]
    have h1 : l.length ≤ 255 := by
      unfold checkL at h
      rw [Bool.and_eq_true, decide_eq_true_eq] at h
      exact h.1
    split
    · omega
    · exact quote_len l h1
  · rw [if_neg h]; exact Nat.zero_le _
mutual
/-- Numbers of 64 bits all through. -/
def Tm.n64 : Tm → Prop
  | .mk _ _ n l => In64 n ∧ Tm.n64s l
def Tm.n64s : List Tm → Prop
  | [] => True
  | t :: l => t.n64 ∧ Tm.n64s l
end
theorem Tm.n64_eq (t : Tm) : t.n64 ↔ In64 t.n ∧ Tm.n64s t.args := by cases t; exact Iff.rfl
theorem TArgs.n64 {w : World} {ad : Option Addr} {ts : List Tm} (h : TArgs w ad ts) : Tm.n64s ts := by
  induction h with
  | nil => trivial
  | cons b o k n nm l ts ad cap _ _ _ _ _ hn _ _ _ _ _ ih1 ih2 => exact ⟨⟨hn, ih1⟩, ih2⟩
theorem txt_len' (m : Nat) : ∀ l : List Tm, Tm.sizes l ≤ m → Tm.n64s l → (Tm.commas l).length ≤ 1400 * Tm.sizes l := by
  induction m with
  | zero =>
    intro l h _
    cases l with
    | nil => exact Nat.le_refl 0
    | cons t l => rw [Tm.sizes_cons] at h; have := t.size_pos; omega
  | succ m ih =>
    intro l h hn
    cases l with
    | nil => exact Nat.le_refl 0
    | cons t l =>
      rw [Tm.sizes_cons] at h ⊢
      have h1 := t.size_eq
      have hn1 := (Tm.n64_eq t).1 hn.1
      have h2 := ih t.args (by omega) hn1.2
      have h3 := ih l (by have := t.size_pos; omega) hn.2
      have hi := Lib.itoa_length_le t.n hn1.1.1 hn1.1.2
      have hw := write_len t.name.data.toList
      have ht : t.txt.length + 1 ≤ 1400 * t.size := by
        rw [t.txt_eq]
        unfold txtK
        split
        · rw [List.length_cons]; omega
        split
        · omega
        split
        · omega
        · rw [List.length_append, List.length_cons, List.length_append, List.length_drop, List.length_singleton]; omega
      show (44 :: (t.txt ++ Tm.commas l)).length ≤ _
      rw [List.length_cons, List.length_append]
      omega
theorem txt_len (t : Tm) (h : t.n64) : t.txt.length + 1 ≤ 1400 * t.size := by
  have h1 := txt_len' _ [t] (Nat.le_refl _) ⟨h, trivial⟩
  have h2 : (Tm.commas [t]).length = t.txt.length + 1 := by show (44 :: (t.txt ++ [])).length = _; rw [List.append_nil, List.length_cons]
  have h3 : Tm.sizes [t] = t.size := by show t.size + 0 = _; omega
  omega

end Go.Proofs.YtjgjeafjnaodkaaDoor
