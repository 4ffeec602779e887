import Derived.Test.YtdjejbgokamjeaaGreatDoorTermMk
import Derived.Test.YtdjejbgokamjeaaGreatDoorOpsAC
namespace Go.Proofs.YtdjejbgokamjeaaGreatDoor
open Go.RowKit
structure Wr where
 txt : Int -> List UInt8
 tail : List UInt8
 op : Bool
def Wr.opd (w : Wr) (p : Int) : List UInt8 := if w.op then 40 :: (w.txt p ++ [41]) else w.txt p
def opN (s : List UInt8) : Bool := (opR s 2).isSome || (opR s 3).isSome
def commaW : List Wr -> List UInt8
 | [] => []
 | [w] => w.txt 999
 | w :: v :: l => w.txt 999 ++ 44 :: commaW (v :: l)
def fnK (s : List UInt8) : List UInt8 := if s = [91, 93] \/ s = [123, 125] then 39 :: (s ++ [39]) else writeL s
def callK (s : List UInt8) (ws : List Wr) : List UInt8 := fnK s ++ 40 :: (commaW ws ++ [41])
def betweenK (s : List UInt8) : List UInt8 := if s = [44] then [44] else 32 :: (writeL s ++ [32])
def infixK (s : List UInt8) (o : R) (a b : Wr) (p : Int) : List UInt8 :=
 if p < o.p then 40 :: ((a.opd (leftOf o.k o.p) ++ (betweenK s ++ b.opd (rightOf o.k o.p))) ++ [41]) else a.opd (leftOf o.k o.p) ++ (betweenK s ++ b.opd (rightOf o.k o.p))
def compK (s : List UInt8) (ws : List Wr) (p : Int) : List UInt8 :=
 match ws with
 | [a, b] =>
  if s = [46] then 91 :: (a.txt 999 ++ (b.tail ++ [93]))
  else
   match opR s 3 with
   | some o => infixK s o a b p
   | none => callK s ws
 | [a] => if s = [123, 125] then 123 :: (a.txt 1200 ++ [125]) else callK s ws
 | _ => callK s ws
def textK (k : Int) (s : List UInt8) (n : Int) (ws : List Wr) (p : Int) : List UInt8 :=
 if k = 1 then 95 :: Lib.itoa n else if k = 3 then Lib.itoa n else if k = 2 then writeL s else compK s ws p
def tailK (k : Int) (s : List UInt8) (n : Int) (ws : List Wr) : List UInt8 :=
 match ws with
 | [a, b] => if k = 4 /\ s = [46] then 44 :: (a.txt 999 ++ b.tail) else 124 :: textK k s n ws 999
 | _ => if k = 2 /\ s = [91, 93] then [] else 124 :: textK k s n ws 999
def wrK (k : Int) (s : List UInt8) (n : Int) (ws : List Wr) : Wr := ⟨textK k s n ws, tailK k s n ws, decide (k = 2) && opN s⟩
mutual
def Tm.wr : Tm -> Wr
 | .mk k s n l => wrK k s.data.toList n (Tm.wrs l)
def Tm.wrs : List Tm -> List Wr
 | [] => []
 | t :: l => t.wr :: Tm.wrs l
end
theorem Tm.wr_eq (t : Tm) : t.wr = wrK t.kind t.name.data.toList t.n (Tm.wrs t.args) := by cases t; rfl
theorem Tm.wrs_map (l : List Tm) : Tm.wrs l = l.map Tm.wr := by
 induction l with
 | nil => rfl
 | cons t l ih => show t.wr :: Tm.wrs l = _; rw [ih]; rfl
def Tm.writeText (t : Tm) : List UInt8 := if t.chk = 0 then t.wr.txt 1200 else []
def clauseL (l : List UInt8) : List UInt8 := match l.getLast? with
 | some b => if cls (b.toNat : Int) = 4 then l ++ [32, 46, 10] else l ++ [46, 10]
 | none => l ++ [46, 10]
theorem fn_len (s : List UInt8) : (fnK s).length <= 1277 := by
 unfold fnK;split
 · rename_i h
   rcases h with rfl | rfl <;> simp
 · exact write_len s
def Wr.fits (w : Wr) (n : Nat) : Prop := (∀ p, (w.txt p).length + 60 <= 1400 * n) /\ w.tail.length + 50 <= 1400 * n /\ ∀ p, (w.opd p).length + 50 <= 1400 * n
theorem comma_len : ∀ (l : List Tm), (∀ t ∈ l, t.wr.fits t.size) -> (commaW (l.map Tm.wr)).length <= 1400 * Tm.sizes l
 | [], _ => Nat.zero_le _
 | [t], h => by
  have h1 := (h t (by simp)).1 999;show (t.wr.txt 999).length <= 1400 * (t.size + 0)
  omega
 | t :: u :: l, h => by
  have h1 := (h t (by simp)).1 999;have h2 := comma_len (u :: l) (fun x hx => h x (List.mem_cons_of_mem _ hx));show (t.wr.txt 999 ++ 44 :: commaW ((u :: l).map Tm.wr)).length <= 1400 * (t.size + Tm.sizes (u :: l))
  rw [List.length_append, List.length_cons];omega
theorem call_len (s : List UInt8) (l : List Tm) (h : ∀ t ∈ l, t.wr.fits t.size) : (callK s (l.map Tm.wr)).length + 60 <= 1400 * (1 + Tm.sizes l) := by
 have h1 := comma_len l h;have h2 := fn_len s;unfold callK;simp only [List.length_append, List.length_cons, List.length_nil]
 omega
theorem between_len (s : List UInt8) : (betweenK s).length <= 1279 := by
 unfold betweenK;have h := write_len s;split
 · simp
 · simp only [List.length_append, List.length_cons, List.length_nil]; omega
theorem infix_len (s : List UInt8) (o : R) (a b : Wr) (m n : Nat) (p : Int) (ha : a.fits m) (hb : b.fits n) : (infixK s o a b p).length + 60 <= 1400 * (1 + (m + n)) := by
 have h1 := ha.2.2 (leftOf o.k o.p);have h2 := hb.2.2 (rightOf o.k o.p);have h3 := between_len s;unfold infixK;split <;> (simp only [List.length_append, List.length_cons, List.length_nil]; omega)
theorem comp_len (s : List UInt8) (l : List Tm) (p : Int) (h : ∀ t ∈ l, t.wr.fits t.size) : (compK s (l.map Tm.wr) p).length + 60 <= 1400 * (1 + Tm.sizes l) := by
 have hc := call_len s l h;match l, h, hc with
 | [], _, hc => exact hc
 | [a], h, hc =>
  have h1 := (h a (by simp)).1 1200;show (if s = [123, 125] then 123 :: (a.wr.txt 1200 ++ [125]) else callK s [a.wr]).length + 60 <= _
  split
  · simp only [List.length_append, List.length_cons, List.length_nil]
    have : Tm.sizes [a] = a.size + 0 := rfl;omega
  · exact hc
 | [a, b], h, hc =>
  have h1 := h a (by simp);have h2 := h b (by simp);have e : Tm.sizes [a, b] = a.size + (b.size + 0) := rfl;show (if s = [46] then 91 :: (a.wr.txt 999 ++ (b.wr.tail ++ [93])) else match opR s 3 with
   | some o => infixK s o a.wr b.wr p
   | none => callK s [a.wr, b.wr]).length + 60 <= _
  split
  · have h3 := h1.1 999;have h4 := h2.2.1;simp only [List.length_append, List.length_cons, List.length_nil]
    omega
  · split
    · rename_i o _
      have h5 := infix_len s o a.wr b.wr a.size b.size p h1 h2;omega
    · exact hc
 | _ :: _ :: _ :: _, _, hc => exact hc
theorem tail_or (k : Int) (s : List UInt8) (n : Int) (ws : List Wr) : (∃ a b, ws = [a, b] /\ tailK k s n ws = 44 :: (a.txt 999 ++ b.tail)) \/ tailK k s n ws = [] \/ tailK k s n ws = 124 :: textK k s n ws 999 := by
 unfold tailK;match ws with
 | [] => dsimp only; by_cases h : k = 2 /\ s = [91, 93] <;> simp [h]
 | [_] => dsimp only; by_cases h : k = 2 /\ s = [91, 93] <;> simp [h]
 | [a, b] =>
  dsimp only;by_cases h : k = 4 /\ s = [46]
  · exact .inl ⟨a, b, rfl, by rw [if_pos h]⟩
  · exact .inr (.inr (by rw [if_neg h]))
 | _ :: _ :: _ :: _ => dsimp only; by_cases h : k = 2 /\ s = [91, 93] <;> simp [h]
theorem wr_fits' (m : Nat) : ∀ t : Tm, t.size <= m -> t.n64 -> t.wr.fits t.size := by
 induction m with
 | zero => intro t h; have := t.size_pos; omega
 | succ m ih =>
  intro t hm hn;have hsz := t.size_eq;obtain ⟨hn0, hns⟩ := (Tm.n64_eq t).1 hn;have hall : ∀ l : List Tm, Tm.n64s l -> ∀ x ∈ l, x.n64 := by
   intro l;induction l with
   | nil => intro _ x hx; cases hx
   | cons a l ih2 =>
    intro h x hx;rcases List.mem_cons.1 hx with rfl | hx
    · exact h.1
    · exact ih2 h.2 x hx
  have hf : ∀ x ∈ t.args, x.wr.fits x.size := fun x hx => ih x (by have := Tm.mem_size hx; omega) (hall _ hns x hx);have hil := Lib.itoa_length_le t.n hn0.1 hn0.2;have hwl := write_len t.name.data.toList;have htx : ∀ p, (textK t.kind t.name.data.toList t.n (t.args.map Tm.wr) p).length + 60 <= 1400 * t.size := by
   intro p;have hc := comp_len t.name.data.toList t.args p hf;unfold textK;have hp := t.size_pos;split
   · rw [List.length_cons]; omega
   · split
     · omega
     · split
       · omega
       · omega
  have htl : (tailK t.kind t.name.data.toList t.n (t.args.map Tm.wr)).length + 50 <= 1400 * t.size := by
   have h1 := htx 999;have hp := t.size_pos;rcases tail_or t.kind t.name.data.toList t.n (t.args.map Tm.wr) with ⟨a, b, hab, e1⟩ | e1 | e1
   · rw [e1];obtain ⟨x, y, hxy, rfl, rfl⟩ : ∃ x y, t.args = [x, y] /\ x.wr = a /\ y.wr = b := by
      match hl : t.args, hab with
      | [x, y], hab =>
       have h := List.cons.inj hab;exact ⟨x, y, rfl, h.1, (List.cons.inj h.2).1⟩
     have h3 := (hf x (by rw [hxy]; simp)).1 999;have h4 := (hf y (by rw [hxy]; simp)).2.1;have e : Tm.sizes [x, y] = x.size + (y.size + 0) := rfl;rw [hxy] at hsz;simp only [List.length_append, List.length_cons]
     omega
   · rw [e1, List.length_nil]; omega
   · rw [e1, List.length_cons]; omega
  rw [Tm.wr_eq, Tm.wrs_map];refine ⟨htx, htl, fun p => ?_⟩;have h1 := htx p;unfold Wr.opd;split
  · show (40 :: (textK t.kind t.name.data.toList t.n (t.args.map Tm.wr) p ++ [41])).length + 50 <= _
    simp only [List.length_append, List.length_cons, List.length_nil]
    omega
  · show (textK t.kind t.name.data.toList t.n (t.args.map Tm.wr) p).length + 50 <= _
    omega
theorem wr_fits (t : Tm) (h : t.n64) : t.wr.fits t.size := wr_fits' _ t (Nat.le_refl _) h
end Go.Proofs.YtdjejbgokamjeaaGreatDoor
