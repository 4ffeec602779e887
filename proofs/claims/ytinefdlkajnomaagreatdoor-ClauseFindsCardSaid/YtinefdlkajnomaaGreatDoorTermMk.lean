import Derived.Test.YtinefdlkajnomaaGreatDoorTermMR
import Derived.Test.YtinefdlkajnomaaGreatDoorTermMay
import Derived.Test.YtinefdlkajnomaaGreatDoorTkM
import Derived.Test.YtinefdlkajnomaaGreatDoorCharRef
namespace Go.Proofs.YtinefdlkajnomaaGreatDoor
open Go.RowKit
def add64 (a b : Int) : Int := wrap64 (a + b)
mutual
def Tm.shift (c : Int) : Tm -> Tm
 | .mk k s n l => .mk k s (if k = 1 then add64 n c else n) (Tm.shifts c l)
def Tm.shifts (c : Int) : List Tm -> List Tm
 | [] => []
 | t :: l => t.shift c :: Tm.shifts c l
end
theorem Tm.shifts_map (c : Int) (l : List Tm) : Tm.shifts c l = l.map (Tm.shift c) := by
 induction l with
 | nil => rfl
 | cons t l ih => show t.shift c :: Tm.shifts c l = _; rw [ih]; rfl
theorem Tm.shift_eq (c : Int) (t : Tm) : t.shift c = .mk t.kind t.name (if t.kind = 1 then add64 t.n c else t.n) (t.args.map (Tm.shift c)) := by
 cases t with
 | mk k s n l => show Tm.mk _ _ _ (Tm.shifts c l) = _; rw [Tm.shifts_map]; rfl
theorem alloc_new (w : World) (o : Obj) : (w.alloc o).heap[w.heap.size]? = some o := Array.getElem?_push_size
theorem alloc_new2 (w : World) (o1 o2 : Obj) : ((w.alloc o1).alloc o2).heap[w.heap.size + 1]? = some o2 := by
 have h := alloc_new (w.alloc o1) o2;rw [show (w.alloc o1).heap.size = w.heap.size + 1 by simp] at h;exact h
theorem wrap64_in (x : Int) : In64 (wrap64 x) := by
 unfold In64 wrap64;omega
def MadeTerm (B : Nat) (w : World) (t : Tm) (e : Ending) (w' : World) : Prop := ∃ ad cap, e = .returned (tmv t ad cap) /\ TmP w' (fun b => B <= b) t ad cap /\ Below B w w'
theorem cellsT {w : World} {q : Nat} {a b c d : Value} {t : TypeId} (h : w.heap[q]? = some (.cells #[a, b, c, d] t (0, 0))) :
 w.cell? ⟨q, 0, none⟩ = some a /\ w.cell? ⟨q, 1, none⟩ = some b /\ w.cell? ⟨q, 2, none⟩ = some c /\ w.cell? ⟨q, 3, none⟩ = some d /\ w.frozen? ⟨q, 0, none⟩ = false /\ w.frozen? ⟨q, 1, none⟩ = false /\ w.frozen? ⟨q, 2, none⟩ = false /\ w.frozen? ⟨q, 3, none⟩ = false := by
 simp [World.cell?, World.frozen?, h]
def txtK (k : Int) (s : List UInt8) (n : Int) (args : List UInt8) : List UInt8 :=
 if k = 1 then 95 :: Lib.itoa n else if k = 3 then Lib.itoa n else if k = 2 then writeL s else writeL s ++ (40 :: (args.drop 1 ++ [41]))
mutual
def Tm.txt : Tm -> List UInt8
 | .mk k s n l => txtK k s.data.toList n (Tm.commas l)
def Tm.commas : List Tm -> List UInt8
 | [] => []
 | t :: l => 44 :: (t.txt ++ Tm.commas l)
end
mutual
def Tm.n64 : Tm -> Prop
 | .mk _ _ n l => In64 n /\ Tm.n64s l
def Tm.n64s : List Tm -> Prop
 | [] => True
 | t :: l => t.n64 /\ Tm.n64s l
end
theorem Tm.n64_eq (t : Tm) : t.n64 ↔ In64 t.n /\ Tm.n64s t.args := by cases t; exact Iff.rfl
theorem TArgs.n64 {w : World} {ad : Option Addr} {ts : List Tm} (h : TArgs w ad ts) : Tm.n64s ts := by
 induction h with
 | nil => trivial
 | cons b o k n nm l ts ad cap _ _ _ _ _ hn _ _ _ _ _ ih1 ih2 => exact ⟨⟨hn, ih1⟩, ih2⟩
theorem MadeTerm.mono {B B' : Nat} {w : World} {t : Tm} {e : Ending} {w' : World} (h : MadeTerm B w t e w') (hB : B' <= B) : MadeTerm B' w t e w' := by
 obtain ⟨ad, cap, he, ht, hb⟩ := h;exact ⟨ad, cap, he, ht.kept (fun _ _ _ => rfl) (fun b hp _ => by omega), hb.mono hB⟩
set_option maxHeartbeats 1000000 in
theorem ref_Var1 (n : Int) (w : World) :
 Calls Tryz.prog 31 #[.int .i64 n] w fun e w' => e = .returned (.agg #[.int .i64 1, .string ⟨#[]⟩, .int .i64 n, .slice none 0 0]) /\ Below w.heap.size w w' := by
 have HB := Lib.hid (fun o : Obj => (Below.refl w.heap.size w).alloc (Nat.le_refl _) o);go_enter Tryz.func31, Tryz.ntmps31;go_wp2_with fail;exact bodyPost_ret (v := .agg #[.int .i64 1, .string ⟨#[]⟩, .int .i64 n, .slice none 0 0]) (by simp [results, Tryz.results31, go_sem]) rfl ⟨rfl, HB.out _⟩
set_option maxHeartbeats 1000000 in
theorem ref_Atom1 (s : ByteArray) (w : World) :
 Calls Tryz.prog 32 #[.string s] w fun e w' => e = .returned (.agg #[.int .i64 2, .string s, .int .i64 0, .slice none 0 0]) /\ Below w.heap.size w w' := by
 have HB := Lib.hid (fun o : Obj => (Below.refl w.heap.size w).alloc (Nat.le_refl _) o);go_enter Tryz.func32, Tryz.ntmps32;go_wp2_with fail;exact bodyPost_ret (v := .agg #[.int .i64 2, .string s, .int .i64 0, .slice none 0 0]) (by simp [results, Tryz.results32, go_sem]) rfl ⟨rfl, HB.out _⟩
def cell3 (t : Tm) : List Value := [.int .i64 t.kind, .string t.name, .int .i64 t.n, .slice none 0 0]
set_option maxHeartbeats 1000000 in
theorem ref_Comp1 (s : ByteArray) (ad : Option Addr) (len cap : Nat) (w : World) :
 Calls Tryz.prog 30 #[.string s, .slice ad len cap] w fun e w' => e = .returned (.agg #[.int .i64 4, .string s, .int .i64 0, .slice ad len cap]) /\ Below w.heap.size w w' := by
 have HB := Lib.hid (fun o : Obj => (Below.refl w.heap.size w).alloc (Nat.le_refl _) o);go_enter Tryz.func30, Tryz.ntmps30;go_wp2_with fail;exact bodyPost_ret (v := .agg #[.int .i64 4, .string s, .int .i64 0, .slice ad len cap]) (by simp [results, Tryz.results30, go_sem]) rfl ⟨rfl, HB.out _⟩
mutual
theorem Tm.shift_zero : ∀ (t : Tm), (∀ n, In64 n -> wrap64 n = n) -> t.n64 -> t.shift 0 = t
 | .mk k s n l, hw, h => by
  show Tm.mk k s (if k = 1 then add64 n 0 else n) (Tm.shifts 0 l) = _
  rw [Tm.shifts_zero l hw h.2];split
  · unfold add64; rw [Int.add_zero, hw n h.1]
  · rfl
theorem Tm.shifts_zero : ∀ (l : List Tm), (∀ n, In64 n -> wrap64 n = n) -> Tm.n64s l -> Tm.shifts 0 l = l
 | [], _, _ => rfl
 | t :: l, hw, h => by
  show t.shift 0 :: Tm.shifts 0 l = _
  rw [Tm.shift_zero t hw h.1, Tm.shifts_zero l hw h.2]
end
end Go.Proofs.YtinefdlkajnomaaGreatDoor
