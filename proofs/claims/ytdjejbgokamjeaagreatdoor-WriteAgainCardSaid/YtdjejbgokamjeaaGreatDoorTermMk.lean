import Derived.Test.YtdjejbgokamjeaaGreatDoorTermMR
import Derived.Test.YtdjejbgokamjeaaGreatDoorTermMay
import Derived.Test.YtdjejbgokamjeaaGreatDoorTkM
import Derived.Test.YtdjejbgokamjeaaGreatDoorCharRef
namespace Go.Proofs.YtdjejbgokamjeaaGreatDoor
open Go.RowKit
def add64 (a b : Int) : Int := wrap64 (a + b)
mutual
def Tm.shift (c : Int) : Tm -> Tm
 | .mk k s n l => .mk k s (if k = 1 then add64 n c else n) (Tm.shifts c l)
def Tm.shifts (c : Int) : List Tm -> List Tm
 | [] => []
 | t :: l => t.shift c :: Tm.shifts c l
end
theorem map_step (f : Tm -> Tm) (l : List Tm) (k : Nat) (h : k < l.length) : (l.take (k + 1)).map f = (l.take k).map f ++ [f (l[k]'h)] := by
 rw [List.take_succ_eq_append_getElem h, List.map_append]; rfl
theorem alloc_new (w : World) (o : Obj) : (w.alloc o).heap[w.heap.size]? = some o := Array.getElem?_push_size
theorem alloc_new2 (w : World) (o1 o2 : Obj) : ((w.alloc o1).alloc o2).heap[w.heap.size + 1]? = some o2 := by
 have h := alloc_new (w.alloc o1) o2;rw [show (w.alloc o1).heap.size = w.heap.size + 1 by simp] at h;exact h
theorem wrap64_in (x : Int) : In64 (wrap64 x) := by
 unfold In64 wrap64;omega
def MadeTerm (B : Nat) (w : World) (t : Tm) (e : Ending) (w' : World) : Prop := ∃ ad cap, e = .returned (tmv t ad cap) /\ TmP w' (fun b => B <= b) t ad cap /\ Below B w w'
theorem cellsT {w : World} {q : Nat} {a b c d : Value} {t : TypeId} (h : w.heap[q]? = some (.cells #[a, b, c, d] t (0, 0))) :
 w.cell? ⟨q, 0, none⟩ = some a /\ w.cell? ⟨q, 1, none⟩ = some b /\ w.cell? ⟨q, 2, none⟩ = some c /\ w.cell? ⟨q, 3, none⟩ = some d /\ w.frozen? ⟨q, 0, none⟩ = false /\ w.frozen? ⟨q, 1, none⟩ = false /\ w.frozen? ⟨q, 2, none⟩ = false /\ w.frozen? ⟨q, 3, none⟩ = false := by
 simp [World.cell?, World.frozen?, h]
def txtK (k : Int) (s : List UInt8) (n : Int) (args : List UInt8) : List UInt8 :=
 if k = 1 then 95 :: Lib.itoa n else if k = 3 then Lib.itoa n else if k = 2 then writeL s else writeL s ++ (40 :: (args.drop 1 ++ [41]))
mutual
def Tm.txt : Tm -> List UInt8
 | .mk k s n l => txtK k s.data.toList n (Tm.commas l)
def Tm.commas : List Tm -> List UInt8
 | [] => []
 | t :: l => 44 :: (t.txt ++ Tm.commas l)
end
theorem quote_len (l : List UInt8) (h : l.length <= 255) : (quoteL l).length <= 1277 := by
 have h1 := runesL_length l;have h2 : ∀ rs : List Int, (rs.flatMap escR).length <= 5 * rs.length := fun rs => by
  induction rs with
  | nil => exact Nat.le_refl 0
  | cons c rs ih => rw [List.flatMap_cons, List.length_append, List.length_cons]; have := escR_length c; omega
 have h3 := h2 (runesL l);unfold quoteL;rw [List.length_cons, List.length_append, List.length_singleton];omega
theorem write_len (l : List UInt8) : (writeL l).length <= 1277 := by
 unfold writeL;by_cases h : checkL l = true
 · rw [if_pos h];have h1 : l.length <= 255 := by
    unfold checkL at h;rw [Bool.and_eq_true, decide_eq_true_eq] at h;exact h.1
   split
   · omega
   · exact quote_len l h1
 · rw [if_neg h]; exact Nat.zero_le _
mutual
def Tm.n64 : Tm -> Prop
 | .mk _ _ n l => In64 n /\ Tm.n64s l
def Tm.n64s : List Tm -> Prop
 | [] => True
 | t :: l => t.n64 /\ Tm.n64s l
end
theorem Tm.n64_eq (t : Tm) : t.n64 ↔ In64 t.n /\ Tm.n64s t.args := by cases t; exact Iff.rfl
theorem TArgs.n64 {w : World} {ad : Option Addr} {ts : List Tm} (h : TArgs w ad ts) : Tm.n64s ts := by
 induction h with
 | nil => trivial
 | cons b o k n nm l ts ad cap _ _ _ _ _ hn _ _ _ _ _ ih1 ih2 => exact ⟨⟨hn, ih1⟩, ih2⟩
theorem MadeTerm.mono {B B' : Nat} {w : World} {t : Tm} {e : Ending} {w' : World} (h : MadeTerm B w t e w') (hB : B' <= B) : MadeTerm B' w t e w' := by
 obtain ⟨ad, cap, he, ht, hb⟩ := h;exact ⟨ad, cap, he, ht.kept (fun _ _ _ => rfl) (fun b hp _ => by omega), hb.mono hB⟩
theorem in64_small {x : Int} (h0 : -1000 <= x) (h1 : x <= 1000) : In64 x := ⟨by omega, by omega⟩
set_option maxHeartbeats 1000000 in
theorem ref_Var1 (n : Int) (w : World) :
 Calls Tryz.prog 17 #[.int .i64 n] w fun e w' => e = .returned (.agg #[.int .i64 1, .string ⟨#[]⟩, .int .i64 n, .slice none 0 0]) /\ Below w.heap.size w w' := by
 have HB := Lib.hid (fun o : Obj => (Below.refl w.heap.size w).alloc (Nat.le_refl _) o);go_enter Tryz.func17, Tryz.ntmps17;go_wp2_with fail;exact bodyPost_ret (v := .agg #[.int .i64 1, .string ⟨#[]⟩, .int .i64 n, .slice none 0 0]) (by simp [results, Tryz.results17, go_sem]) rfl ⟨rfl, HB.out _⟩
set_option maxHeartbeats 1000000 in
theorem ref_Atom1 (s : ByteArray) (w : World) :
 Calls Tryz.prog 16 #[.string s] w fun e w' => e = .returned (.agg #[.int .i64 2, .string s, .int .i64 0, .slice none 0 0]) /\ Below w.heap.size w w' := by
 have HB := Lib.hid (fun o : Obj => (Below.refl w.heap.size w).alloc (Nat.le_refl _) o);go_enter Tryz.func16, Tryz.ntmps16;go_wp2_with fail;exact bodyPost_ret (v := .agg #[.int .i64 2, .string s, .int .i64 0, .slice none 0 0]) (by simp [results, Tryz.results16, go_sem]) rfl ⟨rfl, HB.out _⟩
set_option maxHeartbeats 1000000 in
theorem ref_Int1 (n : Int) (w : World) :
 Calls Tryz.prog 14 #[.int .i64 n] w fun e w' => e = .returned (.agg #[.int .i64 3, .string ⟨#[]⟩, .int .i64 n, .slice none 0 0]) /\ Below w.heap.size w w' := by
 have HB := Lib.hid (fun o : Obj => (Below.refl w.heap.size w).alloc (Nat.le_refl _) o);go_enter Tryz.func14, Tryz.ntmps14;go_wp2_with fail;exact bodyPost_ret (v := .agg #[.int .i64 3, .string ⟨#[]⟩, .int .i64 n, .slice none 0 0]) (by simp [results, Tryz.results14, go_sem]) rfl ⟨rfl, HB.out _⟩
theorem leaf_in (w : World) {k n : Int} {s : ByteArray} (hk : In64 k) (hn : In64 n) (hs : s.size <= maxLen) : TmIn w (.mk k s n []) none 0 := ⟨hk, hn, hs, Nat.le_refl _, Nat.zero_le _, .nil _⟩
def cell3 (t : Tm) : List Value := [.int .i64 t.kind, .string t.name, .int .i64 t.n, .slice none 0 0]
theorem comp_in {w w' : World} {s : ByteArray} {ad : Option Addr} {cap : Nat} {ts : List Tm} (hs : s.size <= maxLen) (hl : ts.length <= cap) (hc : cap <= maxLen) (h : TArgs w ad ts) (hb : Below w.heap.size w w') : TmIn w' (.mk 4 s 0 ts) ad cap :=
 ⟨in64_small (x := 4) (by decide) (by decide), in64_small (x := 0) (by decide) (by decide), hs, hl, hc, h.on hb⟩
set_option maxHeartbeats 1000000 in
theorem ref_Comp1 (s : ByteArray) (ad : Option Addr) (len cap : Nat) (w : World) :
 Calls Tryz.prog 15 #[.string s, .slice ad len cap] w fun e w' => e = .returned (.agg #[.int .i64 4, .string s, .int .i64 0, .slice ad len cap]) /\ Below w.heap.size w w' := by
 have HB := Lib.hid (fun o : Obj => (Below.refl w.heap.size w).alloc (Nat.le_refl _) o);go_enter Tryz.func15, Tryz.ntmps15;go_wp2_with fail;exact bodyPost_ret (v := .agg #[.int .i64 4, .string s, .int .i64 0, .slice ad len cap]) (by simp [results, Tryz.results15, go_sem]) rfl ⟨rfl, HB.out _⟩
end Go.Proofs.YtdjejbgokamjeaaGreatDoor
