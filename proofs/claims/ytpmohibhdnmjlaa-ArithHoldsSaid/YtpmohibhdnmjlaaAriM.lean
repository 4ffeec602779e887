/-
  What terms come to, plain.
-/
import Derived.Test.YtpmohibhdnmjlaaSubM
import Derived.Test.YtpmohibhdnmjlaaNumA
namespace Go.Proofs.Ytpmohibhdnmjlaa
open Go.RowKit

/-- An operator between two numbers: the number, and num's error. -/
def twoV (s : ByteArray) (x y : Int) : Int × Int :=
  if (s.toList == [43]) = true then (chkV (x + y), chkE (x + y)) else if (s.toList == [45]) = true then (chkV (x - y), chkE (x - y)) else if (s.toList == [42]) = true then (chkV (x * y), chkE (x * y))
  else if (s.toList == [47, 47]) = true then (quoV x y, quoE x y) else if (s.toList == [114, 101, 109]) = true then (remV x y, zeroE y) else (modV x y, zeroE y)
/-- An operator ahead of a number. -/
def oneV (s : ByteArray) (x : Int) : Int × Int :=
  if (s.toList == [45]) = true then (chkV (-x), chkE (-x)) else if (s.toList == [97, 98, 115]) = true then (chkV (absI x), chkE (absI x)) else (cmpV x 0, 0)
/-- A number, where num told no error. -/
def tellV (r : Int × Int) : Int × Int := if r.2 ≠ 0 then (0, 112) else r
def isTwo (s : ByteArray) : Bool := s.toList == [43] || (s.toList == [45] || (s.toList == [42] || (s.toList == [47, 47] || (s.toList == [114, 101, 109] || s.toList == [109, 111, 100]))))
def isOne (s : ByteArray) : Bool := s.toList == [45] || (s.toList == [97, 98, 115] || s.toList == [115, 105, 103, 110])
/-- The value of a term that was walked. -/
def evK (f : Tm → Int × Int) (t : Tm) : Int × Int :=
  if t.kind = 1 then (0, 110) else if t.kind = 3 then (t.n, 0) else if t.kind ≠ 4 then (0, 111)
  else match t.args with
    | [a] => if isOne t.name then (if (f a).2 ≠ 0 then (0, (f a).2) else tellV (oneV t.name (f a).1)) else (0, 111)
    | [a, b] => if isTwo t.name then (if (f a).2 ≠ 0 then (0, (f a).2) else if (f b).2 ≠ 0 then (0, (f b).2) else tellV (twoV t.name (f a).1 (f b).1)) else (0, 111)
    | _ => (0, 111)
/-- The value of a term that may have d levels. -/
def evD (bs : List (Int × Tm)) : Nat → Tm → Int × Int
  | 0, _ => (0, 3)
  | d + 1, t => if (walkL bs 0 t).2.1 ≠ 0 then (0, (walkL bs 0 t).2.1) else evK (evD bs d) (walkL bs 0 t).1
/-- What each answer is: an error and 0, or a number of 64 bits. -/
def EvOk (r : Int × Int) : Prop := (r.2 ≠ 0 ∧ r.1 = 0) ∨ (r.2 = 0 ∧ In64 r.1)
theorem tell_ok {r : Int × Int} (h : r.2 = 0 → In64 r.1) : EvOk (tellV r) := by
  unfold tellV
  by_cases e : r.2 = 0
  · rw [if_neg (by simpa using e)]; exact .inr ⟨e, h e⟩
  · rw [if_pos e]; exact .inl ⟨by decide, rfl⟩
theorem two_in {s : ByteArray} {x y : Int} (hy : In64 y) : In64 (twoV s x y).1 := by
  unfold twoV
  split
  · exact chkV_in64 _
  split
  · exact chkV_in64 _
  split
  · exact chkV_in64 _
  split
  · show In64 (quoV x y)
    unfold quoV
    split
    · exact ⟨by decide, by decide⟩
    · exact chkV_in64 _
  split
  · show In64 (remV x y)
    unfold remV
    split
    · exact ⟨by decide, by decide⟩
    · next h => exact tmod_in hy h
  · show In64 (modV x y)
    unfold modV
    split
    · exact ⟨by decide, by decide⟩
    · next h => exact adj_in (tmod_in hy h) hy
theorem one_in {s : ByteArray} {x : Int} : In64 (oneV s x).1 := by
  unfold oneV
  split
  · exact chkV_in64 _
  split
  · exact chkV_in64 _
  · have := cmpV_bd x 0
    exact ⟨by show _ ≤ cmpV x 0; omega, by show cmpV x 0 ≤ _; omega⟩
theorem evK_ok {f : Tm → Int × Int} {t : Tm} (hn : In64 t.n) (hf : ∀ a ∈ t.args, EvOk (f a)) : EvOk (evK f t) := by
  unfold evK
  split
  · exact .inl ⟨by decide, rfl⟩
  split
  · exact .inr ⟨rfl, hn⟩
  split
  · exact .inl ⟨by decide, rfl⟩
  split
  · next a e =>
    split
    · split
      · next h => exact .inl ⟨h, rfl⟩
      · exact tell_ok fun _ => one_in
    · exact .inl ⟨by decide, rfl⟩
  · next a b e =>
    have hb := hf b (by rw [e]; exact .tail _ (.head _))
    split
    · split
      · next h => exact .inl ⟨h, rfl⟩
      split
      · next h => exact .inl ⟨h, rfl⟩
      · next h2 =>
        refine tell_ok fun _ => two_in ?_
        rcases hb with ⟨h, _⟩ | ⟨_, h⟩
        · exact absurd h h2
        · exact h
    · exact .inl ⟨by decide, rfl⟩
  · exact .inl ⟨by decide, rfl⟩
theorem walkF_n64 {bs : List (Int × Tm)} (hb : ∀ p ∈ bs, p.2.n64) : ∀ (f n : Nat) (t : Tm), t.n64 → (walkF bs f n t).1.n64
  | 0, n, t, _ => zero64
  | f + 1, n, t, ht => by
    unfold walkF
    by_cases hk : t.kind = 1
    · rw [if_pos hk]
      cases hl : lookL bs t.n with
      | none => exact ht
      | some x =>
        dsimp only
        by_cases hn : n < 2000
        · rw [if_pos hn]; exact walkF_n64 hb f (n + 1) x (hb _ (lookL_mem hl))
        · rw [if_neg hn]; exact zero64
    · rw [if_neg hk]; exact ht
theorem n64s_mem {l : List Tm} (h : Tm.n64s l) : ∀ a ∈ l, a.n64 := by
  induction l with
  | nil => intro a ha; cases ha
  | cons t l ih =>
    intro a ha
    rcases List.mem_cons.1 ha with rfl | ha
    · exact h.1
    · exact ih h.2 a ha
theorem evD_ok {bs : List (Int × Tm)} (hb : Bds64 bs) : ∀ (d : Nat) (t : Tm), t.n64 → EvOk (evD bs d t)
  | 0, _, _ => .inl ⟨by show (3 : Int) ≠ 0; decide, rfl⟩
  | d + 1, t, ht => by
    unfold evD
    split
    · next h => exact .inl ⟨h, rfl⟩
    · have h := (Tm.n64_eq _).1 (walkF_n64 hb (2001 - 0) 0 t ht : (walkL bs 0 t).1.n64)
      exact evK_ok h.1 fun a ha => evD_ok hb d a (n64s_mem h.2 a ha)
end Go.Proofs.Ytpmohibhdnmjlaa
