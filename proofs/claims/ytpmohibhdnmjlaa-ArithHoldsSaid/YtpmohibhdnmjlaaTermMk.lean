/-
  Joined texts: TermShift, TermText, TermMake.
-/
import Derived.Test.YtpmohibhdnmjlaaTermMR
import Derived.Test.YtpmohibhdnmjlaaTermMay
import Derived.Test.YtpmohibhdnmjlaaNumA
import Derived.Test.YtpmohibhdnmjlaaCharRefDG

/-
  The contract of the document's own Shift for term.
-/
namespace Go.Proofs.Ytpmohibhdnmjlaa
open Go.RowKit

/-- A number of 64 bits and another one, as Go adds them. -/
def add64 (a b : Int) : Int := wrap64 (a + b)
mutual
def Tm.shift (c : Int) : Tm → Tm
  | .mk k s n l => .mk k s (if k = 1 then add64 n c else n) (Tm.shifts c l)
def Tm.shifts (c : Int) : List Tm → List Tm
  | [] => []
  | t :: l => t.shift c :: Tm.shifts c l
end
theorem Tm.shifts_map (c : Int) (l : List Tm) : Tm.shifts c l = l.map (Tm.shift c) := by
  induction l with
  | nil => rfl
  | cons t l ih => show t.shift c :: Tm.shifts c l = _; rw [ih]; rfl
theorem Tm.shift_eq (c : Int) (t : Tm) : t.shift c = .mk t.kind t.name (if t.kind = 1 then add64 t.n c else t.n) (t.args.map (Tm.shift c)) := by
  cases t with
  | mk k s n l => show Tm.mk _ _ _ (Tm.shifts c l) = _; rw [Tm.shifts_map]; rfl
theorem map_step (f : Tm → Tm) (l : List Tm) (k : Nat) (h : k < l.length) : (l.take (k + 1)).map f = (l.take k).map f ++ [f (l[k]'h)] := by
  rw [List.take_succ_eq_append_getElem h, List.map_append]; rfl
theorem alloc_new (w : World) (o : Obj) : (w.alloc o).heap[w.heap.size]? = some o := Array.getElem?_push_size
theorem alloc_new2 (w : World) (o1 o2 : Obj) : ((w.alloc o1).alloc o2).heap[w.heap.size + 1]? = some o2 := by
  have h := alloc_new (w.alloc o1) o2
  rw [show (w.alloc o1).heap.size = w.heap.size + 1 by simp] at h
  exact h
theorem wrap64_in (x : Int) : In64 (wrap64 x) := by
  unfold In64 wrap64
  omega
/-- What a call answers that makes a term: it, in memory from B on. -/
def MadeTerm (B : Nat) (w : World) (t : Tm) (e : Ending) (w' : World) : Prop := ∃ ad cap, e = .returned (tmv t ad cap) ∧ TmP w' (fun b => B ≤ b) t ad cap ∧ Below B w w'
theorem cellsT {w : World} {q : Nat} {a b c d : Value} {t : TypeId} (h : w.heap[q]? = some (.cells #[a, b, c, d] t (0, 0))) :
    w.cell? ⟨q, 0, none⟩ = some a ∧ w.cell? ⟨q, 1, none⟩ = some b ∧ w.cell? ⟨q, 2, none⟩ = some c ∧ w.cell? ⟨q, 3, none⟩ = some d ∧ w.frozen? ⟨q, 0, none⟩ = false ∧ w.frozen? ⟨q, 1, none⟩ = false ∧ w.frozen? ⟨q, 2, none⟩ = false ∧ w.frozen? ⟨q, 3, none⟩ = false := by
  simp [World.cell?, World.frozen?, h]

end Go.Proofs.Ytpmohibhdnmjlaa

/-
  The contracts of the document's own write and Text for term.
-/
namespace Go.Proofs.Ytpmohibhdnmjlaa
open Go.RowKit

/-- A term's text, out of its parts. -/
def txtK (k : Int) (s : List UInt8) (n : Int) (args : List UInt8) : List UInt8 :=
  if k = 1 then 95 :: Lib.itoa n else if k = 3 then Lib.itoa n else if k = 2 then writeL s else writeL s ++ (40 :: (args.drop 1 ++ [41]))
mutual
def Tm.txt : Tm → List UInt8
  | .mk k s n l => txtK k s.data.toList n (Tm.commas l)
/-- Each with a comma ahead. -/
def Tm.commas : List Tm → List UInt8
  | [] => []
  | t :: l => 44 :: (t.txt ++ Tm.commas l)
end
theorem Tm.txt_eq (t : Tm) : t.txt = txtK t.kind t.name.data.toList t.n (Tm.commas t.args) := by cases t; rfl
theorem Tm.commas_append (a b : List Tm) : Tm.commas (a ++ b) = Tm.commas a ++ Tm.commas b := by
  induction a with
  | nil => rfl
  | cons t a ih => show 44 :: (t.txt ++ Tm.commas (a ++ b)) = 44 :: (t.txt ++ Tm.commas a) ++ Tm.commas b; rw [ih]; simp
theorem commas_step (l : List Tm) (k : Nat) (h : k < l.length) : Tm.commas (l.take (k + 1)) = Tm.commas (l.take k) ++ (44 :: (l[k]'h).txt) := by
  rw [List.take_succ_eq_append_getElem h, Tm.commas_append]
  show _ ++ 44 :: ((l[k]'h).txt ++ []) = _
  rw [List.append_nil]
theorem commas_pos (l : List Tm) (k : Nat) (hk : 0 < k) (h : k ≤ l.length) : 0 < (Tm.commas (l.take k)).length := by
  cases l with
  | nil => simp at h; omega
  | cons t l =>
    cases k with
    | zero => omega
    | succ k => show 0 < (44 :: (t.txt ++ Tm.commas (l.take k))).length; simp
theorem quote_len (l : List UInt8) (h : l.length ≤ 255) : (quoteL l).length ≤ 1277 := by
  have h1 := runesL_length l
  have h2 : ∀ rs : List Int, (rs.flatMap escR).length ≤ 5 * rs.length := fun rs => by
    induction rs with
    | nil => exact Nat.le_refl 0
    | cons c rs ih => rw [List.flatMap_cons, List.length_append, List.length_cons]; have := escR_length c; omega
  have h3 := h2 (runesL l)
  unfold quoteL
  rw [List.length_cons, List.length_append, List.length_singleton]
  omega
theorem write_len (l : List UInt8) : (writeL l).length ≤ 1277 := by
  unfold writeL
  by_cases h : checkL l = true
  · rw [if_pos h]
    have h1 : l.length ≤ 255 := by
      unfold checkL at h
      rw [Bool.and_eq_true, decide_eq_true_eq] at h
      exact h.1
    split
    · omega
    · exact quote_len l h1
  · rw [if_neg h]; exact Nat.zero_le _
mutual
/-- Numbers of 64 bits all through. -/
def Tm.n64 : Tm → Prop
  | .mk _ _ n l => In64 n ∧ Tm.n64s l
def Tm.n64s : List Tm → Prop
  | [] => True
  | t :: l => t.n64 ∧ Tm.n64s l
end
theorem Tm.n64_eq (t : Tm) : t.n64 ↔ In64 t.n ∧ Tm.n64s t.args := by cases t; exact Iff.rfl
theorem TArgs.n64 {w : World} {ad : Option Addr} {ts : List Tm} (h : TArgs w ad ts) : Tm.n64s ts := by
  induction h with
  | nil => trivial
  | cons b o k n nm l ts ad cap _ _ _ _ _ hn _ _ _ _ _ ih1 ih2 => exact ⟨⟨hn, ih1⟩, ih2⟩
theorem txt_len' (m : Nat) : ∀ l : List Tm, Tm.sizes l ≤ m → Tm.n64s l → (Tm.commas l).length ≤ 1400 * Tm.sizes l := by
  induction m with
  | zero =>
    intro l h _
    cases l with
    | nil => exact Nat.le_refl 0
    | cons t l => rw [Tm.sizes_cons] at h; have := t.size_pos; omega
  | succ m ih =>
    intro l h hn
    cases l with
    | nil => exact Nat.le_refl 0
    | cons t l =>
      rw [Tm.sizes_cons] at h ⊢
      have h1 := t.size_eq
      have hn1 := (Tm.n64_eq t).1 hn.1
      have h2 := ih t.args (by omega) hn1.2
      have h3 := ih l (by have := t.size_pos; omega) hn.2
      have hi := Lib.itoa_length_le t.n hn1.1.1 hn1.1.2
      have hw := write_len t.name.data.toList
      have ht : t.txt.length + 1 ≤ 1400 * t.size := by
        rw [t.txt_eq]
        unfold txtK
        split
        · rw [List.length_cons]; omega
        split
        · omega
        split
        · omega
        · rw [List.length_append, List.length_cons, List.length_append, List.length_drop, List.length_singleton]; omega
      show (44 :: (t.txt ++ Tm.commas l)).length ≤ _
      rw [List.length_cons, List.length_append]
      omega
theorem txt_len (t : Tm) (h : t.n64) : t.txt.length + 1 ≤ 1400 * t.size := by
  have h1 := txt_len' _ [t] (Nat.le_refl _) ⟨h, trivial⟩
  have h2 : (Tm.commas [t]).length = t.txt.length + 1 := by show (44 :: (t.txt ++ [])).length = _; rw [List.append_nil, List.length_cons]
  have h3 : Tm.sizes [t] = t.size := by show t.size + 0 = _; omega
  omega

end Go.Proofs.Ytpmohibhdnmjlaa

/-
  The contracts of the document's own Var1, Atom1, Int1, Comp1 and Copy for term.
-/
namespace Go.Proofs.Ytpmohibhdnmjlaa
open Go.RowKit

theorem MadeTerm.mono {B B' : Nat} {w : World} {t : Tm} {e : Ending} {w' : World} (h : MadeTerm B w t e w') (hB : B' ≤ B) : MadeTerm B' w t e w' := by
  obtain ⟨ad, cap, he, ht, hb⟩ := h
  exact ⟨ad, cap, he, ht.kept (fun _ _ _ => rfl) (fun b hp _ => by omega), hb.mono hB⟩
theorem in64_small {x : Int} (h0 : -1000 ≤ x) (h1 : x ≤ 1000) : In64 x := ⟨by omega, by omega⟩

set_option maxHeartbeats 1000000 in
theorem ref_Var1 (n : Int) (w : World) :
    Calls Try.prog 21 #[.int .i64 n] w fun e w' => e = .returned (.agg #[.int .i64 1, .string ⟨#[]⟩, .int .i64 n, .slice none 0 0]) ∧ Below w.heap.size w w' := by
  have HB := Lib.hid (fun o : Obj => (Below.refl w.heap.size w).alloc (Nat.le_refl _) o)
  go_enter Try.func21, Try.ntmps21
  go_wp2_with fail
  exact bodyPost_ret (v := .agg #[.int .i64 1, .string ⟨#[]⟩, .int .i64 n, .slice none 0 0]) (by simp [results, Try.results21, go_sem]) rfl ⟨rfl, HB.out _⟩

set_option maxHeartbeats 1000000 in
theorem ref_Atom1 (s : ByteArray) (w : World) :
    Calls Try.prog 22 #[.string s] w fun e w' => e = .returned (.agg #[.int .i64 2, .string s, .int .i64 0, .slice none 0 0]) ∧ Below w.heap.size w w' := by
  have HB := Lib.hid (fun o : Obj => (Below.refl w.heap.size w).alloc (Nat.le_refl _) o)
  go_enter Try.func22, Try.ntmps22
  go_wp2_with fail
  exact bodyPost_ret (v := .agg #[.int .i64 2, .string s, .int .i64 0, .slice none 0 0]) (by simp [results, Try.results22, go_sem]) rfl ⟨rfl, HB.out _⟩

set_option maxHeartbeats 1000000 in
theorem ref_Int1 (n : Int) (w : World) :
    Calls Try.prog 14 #[.int .i64 n] w fun e w' => e = .returned (.agg #[.int .i64 3, .string ⟨#[]⟩, .int .i64 n, .slice none 0 0]) ∧ Below w.heap.size w w' := by
  have HB := Lib.hid (fun o : Obj => (Below.refl w.heap.size w).alloc (Nat.le_refl _) o)
  go_enter Try.func14, Try.ntmps14
  go_wp2_with fail
  exact bodyPost_ret (v := .agg #[.int .i64 3, .string ⟨#[]⟩, .int .i64 n, .slice none 0 0]) (by simp [results, Try.results14, go_sem]) rfl ⟨rfl, HB.out _⟩

theorem leaf_in (w : World) {k n : Int} {s : ByteArray} (hk : In64 k) (hn : In64 n) (hs : s.size ≤ maxLen) : TmIn w (.mk k s n []) none 0 := ⟨hk, hn, hs, Nat.le_refl _, Nat.zero_le _, .nil _⟩
/-- A row of three leaves, just laid. -/
def cell3 (t : Tm) : List Value := [.int .i64 t.kind, .string t.name, .int .i64 t.n, .slice none 0 0]
theorem row3 {w : World} {a b c : Tm} (ha : TmIn w a none 0) (hb : TmIn w b none 0) (hc : TmIn w c none 0) (la : a.args = []) (lb : b.args = []) (lc : c.args = []) (C : Array Value) (hC : C = (cell3 a ++ cell3 b ++ cell3 c).toArray) :
    TArgs (w.alloc (.cells C 25)) (some ⟨w.heap.size, 0, none⟩) [a, b, c] := by
  subst hC
  have hcell : ∀ i, (w.alloc (.cells (cell3 a ++ cell3 b ++ cell3 c).toArray 25)).cell? ⟨w.heap.size, i, none⟩ = (cell3 a ++ cell3 b ++ cell3 c).toArray[i]? := fun i => World.cell?_alloc_at _ _ _ _ rfl
  have c3a : (cell3 a ++ cell3 b ++ cell3 c).toArray[3]? = some (.slice none a.args.length 0) := by rw [la]; rfl
  have c3b : (cell3 a ++ cell3 b ++ cell3 c).toArray[7]? = some (.slice none b.args.length 0) := by rw [lb]; rfl
  have c3c : (cell3 a ++ cell3 b ++ cell3 c).toArray[11]? = some (.slice none c.args.length 0) := by rw [lc]; rfl
  rw [a.eta, b.eta, c.eta]
  refine .cons _ _ _ _ _ _ _ none 0 (hcell 0) (hcell 1) (hcell 2) ((hcell 3).trans c3a) ha.kind ha.n ha.name ha.len ha.cap (by rw [la]; exact .nil _) ?_
  refine .cons _ _ _ _ _ _ _ none 0 (hcell 4) (hcell 5) (hcell 6) ((hcell 7).trans c3b) hb.kind hb.n hb.name hb.len hb.cap (by rw [lb]; exact .nil _) ?_
  exact .cons _ _ _ _ _ _ _ none 0 (hcell 8) (hcell 9) (hcell 10) ((hcell 11).trans c3c) hc.kind hc.n hc.name hc.len hc.cap (by rw [lc]; exact .nil _) (.nil _)
theorem row3g {w : World} {a b c : Tm} (ha : TmIn w a none 0) (hb : TmIn w b none 0) (hc : TmIn w c none 0) (la : a.args = []) (lb : b.args = []) (lc : c.args = []) (C : Array Value) (hC : C = (cell3 a ++ cell3 b ++ cell3 c).toArray) (g : Nat) (hg : g = w.heap.size) :
    TArgs (w.alloc (.cells C 25)) (some ⟨g, 0, none⟩) [a, b, c] := by subst hg; exact row3 ha hb hc la lb lc C hC
/-- Comp1 hands its slice on: the term's arguments lie where they lay. -/
theorem comp_in {w w' : World} {s : ByteArray} {ad : Option Addr} {cap : Nat} {ts : List Tm} (hs : s.size ≤ maxLen) (hl : ts.length ≤ cap) (hc : cap ≤ maxLen) (h : TArgs w ad ts) (hb : Below w.heap.size w w') : TmIn w' (.mk 4 s 0 ts) ad cap :=
  ⟨in64_small (x := 4) (by decide) (by decide), in64_small (x := 0) (by decide) (by decide), hs, hl, hc, h.on hb⟩

set_option maxHeartbeats 1000000 in
theorem ref_Comp1 (s : ByteArray) (ad : Option Addr) (len cap : Nat) (w : World) :
    Calls Try.prog 13 #[.string s, .slice ad len cap] w fun e w' => e = .returned (.agg #[.int .i64 4, .string s, .int .i64 0, .slice ad len cap]) ∧ Below w.heap.size w w' := by
  have HB := Lib.hid (fun o : Obj => (Below.refl w.heap.size w).alloc (Nat.le_refl _) o)
  go_enter Try.func13, Try.ntmps13
  go_wp2_with fail
  exact bodyPost_ret (v := .agg #[.int .i64 4, .string s, .int .i64 0, .slice ad len cap]) (by simp [results, Try.results13, go_sem]) rfl ⟨rfl, HB.out _⟩

mutual
theorem Tm.shift_zero : ∀ (t : Tm), (∀ n, In64 n → wrap64 n = n) → t.n64 → t.shift 0 = t
  | .mk k s n l, hw, h => by
    show Tm.mk k s (if k = 1 then add64 n 0 else n) (Tm.shifts 0 l) = _
    rw [Tm.shifts_zero l hw h.2]
    split
    · unfold add64; rw [Int.add_zero, hw n h.1]
    · rfl
theorem Tm.shifts_zero : ∀ (l : List Tm), (∀ n, In64 n → wrap64 n = n) → Tm.n64s l → Tm.shifts 0 l = l
  | [], _, _ => rfl
  | t :: l, hw, h => by
    show t.shift 0 :: Tm.shifts 0 l = _
    rw [Tm.shift_zero t hw h.1, Tm.shifts_zero l hw h.2]
end
end Go.Proofs.Ytpmohibhdnmjlaa
