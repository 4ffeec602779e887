/-
  The contracts of the document's own eval and Eval for arith, a theorem a way (gen/genAriB.py).
-/
import Derived.Test.YtpmohibhdnmjlaaAriA
import Derived.Test.YtpmohibhdnmjlaaSubBE
import Derived.Deep.DeepCutAuto
namespace Go.Proofs.Ytpmohibhdnmjlaa
open Go.RowKit

/-- A call's answer: a value and an error, all else as it was. -/
def EvO (r : Int × Int) (w : World) (e : Ending) (w' : World) : Prop := e = .returned (.tuple #[.int .i64 r.1, .int .i64 r.2]) ∧ Below w.heap.size w w'
/-- Within eval: the term's own box. -/
def EvB (q : Nat) (w : World) (X : Tm) (a : Option Addr) (c : Nat) (W : World) : Prop :=
  W.heap[q]? = some (.cells #[.int .i64 X.kind, .string X.name, .int .i64 X.n, .slice a X.args.length c] 25 (0, 0)) ∧ TmIn W X a c ∧ Below q w W
theorem EvB.on {q : Nat} {w : World} {X : Tm} {a : Option Addr} {c : Nat} {W W' : World} (h : EvB q w X a c W) (hb : Below W.heap.size W W') : EvB q w X a c W' := ⟨(hb.block q (Array.getElem?_eq_some_iff.1 h.1).1).trans h.1, h.2.1.on hb, h.2.2.trans (hb.mono (Nat.le_of_lt (Array.getElem?_eq_some_iff.1 h.1).1))⟩
theorem EvB.start (w : World) (t : Tm) (ad : Option Addr) (cap : Nat) (h : TmIn w t ad cap) : EvB w.heap.size w t ad cap (w.alloc (.cells #[.int .i64 t.kind, .string t.name, .int .i64 t.n, .slice ad t.args.length cap] 25)) :=
  ⟨alloc_new w _, h.on ((Below.refl _ w).alloc (Nat.le_refl _) _), (Below.refl _ w).alloc (Nat.le_refl _) _⟩
theorem EvB.walked {q : Nat} {w W W' : World} {t X : Tm} {a a2 : Option Addr} {c c2 : Nat} (h : EvB q w t a c W) (hb : Below W.heap.size W W') {P : Nat → Prop} (hP : ∀ b, P b → b < q ∨ q < b) (hx : TmP W' P X a2 c2) :
    EvB q w X a2 c2 ((((W'.setCell ⟨q, 0, none⟩ (.int .i64 X.kind)).setCell ⟨q, 1, none⟩ (.string X.name)).setCell ⟨q, 2, none⟩ (.int .i64 X.n)).setCell ⟨q, 3, none⟩ (.slice a2 X.args.length c2)) := by
  have h2 := h.on hb
  exact ⟨set4_blk h2.1 _ _ _ _, (hx.kept (Q := fun _ => True) (fun b hp _ => set4_oth (W := W') (q := q) _ _ _ _ (by have := hP b hp; omega)) fun _ _ _ => trivial).toIn, set4_low h2.2.2 (Nat.le_refl _)⟩
theorem EvB.arg {q : Nat} {w W : World} {X : Tm} {a : Option Addr} {c : Nat} (h : EvB q w X a c W) (L : List Tm) (hL : X.args = L) (k : Nat) (hk : k < L.length) : ∃ b o a1 c1, a = some ⟨b, o, none⟩ ∧ W.cell? ⟨b, o + k * 4, none⟩ = some (.int .i64 L[k].kind) ∧ W.cell? ⟨b, o + k * 4 + 1, none⟩ = some (.string L[k].name) ∧ W.cell? ⟨b, o + k * 4 + 2, none⟩ = some (.int .i64 L[k].n) ∧ W.cell? ⟨b, o + k * 4 + 3, none⟩ = some (.slice a1 L[k].args.length c1) ∧ TmIn W L[k] a1 c1 := by
  have ha := h.2.1.args
  rw [hL] at ha
  obtain ⟨b, o, rfl⟩ := ha.addr (by omega)
  obtain ⟨a1, c1, x0, x1, x2, x3, hp⟩ := ha.get k hk
  exact ⟨b, o, a1, c1, rfl, x0, x1, x2, x3, hp⟩
theorem EvB.arg0 {q : Nat} {w W : World} {X A : Tm} {l : List Tm} {a : Option Addr} {c : Nat} (h : EvB q w X a c W) (hL : X.args = A :: l) : ∃ b o a1 c1, a = some ⟨b, o, none⟩ ∧ W.cell? ⟨b, o, none⟩ = some (.int .i64 A.kind) ∧ W.cell? ⟨b, o + 1, none⟩ = some (.string A.name) ∧ W.cell? ⟨b, o + 2, none⟩ = some (.int .i64 A.n) ∧ W.cell? ⟨b, o + 3, none⟩ = some (.slice a1 A.args.length c1) ∧ TmIn W A a1 c1 := by
  have := h.arg _ hL 0 (Nat.succ_pos _)
  simpa using this
theorem EvB.arg1 {q : Nat} {w W : World} {X A B : Tm} {l : List Tm} {a : Option Addr} {c : Nat} (h : EvB q w X a c W) (hL : X.args = A :: B :: l) : ∃ b o a1 c1, a = some ⟨b, o, none⟩ ∧ W.cell? ⟨b, o + 4, none⟩ = some (.int .i64 B.kind) ∧ W.cell? ⟨b, o + 4 + 1, none⟩ = some (.string B.name) ∧ W.cell? ⟨b, o + 4 + 2, none⟩ = some (.int .i64 B.n) ∧ W.cell? ⟨b, o + 4 + 3, none⟩ = some (.slice a1 B.args.length c1) ∧ TmIn W B a1 c1 := by
  have := h.arg _ hL 1 (by simp)
  simpa using this
theorem isOne_ways {s : ByteArray} (h : isOne s = true) : (s.toList == [45]) = true ∨ ((s.toList == [45]) = false ∧ (s.toList == [97, 98, 115]) = true) ∨ ((s.toList == [45]) = false ∧ (s.toList == [97, 98, 115]) = false ∧ (s.toList == [115, 105, 103, 110]) = true) := by
  unfold isOne at h
  cases h1 : (s.toList == [45]) with
  | true => exact .inl rfl
  | false =>
    cases h2 : (s.toList == [97, 98, 115]) with
    | true => exact .inr (.inl ⟨rfl, rfl⟩)
    | false =>
      rw [h1, h2] at h
      exact .inr (.inr ⟨rfl, rfl, h⟩)
theorem isOne_no {s : ByteArray} (h : isOne s = false) : (s.toList == [45]) = false ∧ (s.toList == [97, 98, 115]) = false ∧ (s.toList == [115, 105, 103, 110]) = false := by
  unfold isOne at h
  rw [Bool.or_eq_false_iff, Bool.or_eq_false_iff] at h
  exact h
theorem isTwo_no {s : ByteArray} (h : isTwo s = false) : (s.toList == [43]) = false ∧ (s.toList == [45]) = false ∧ (s.toList == [42]) = false ∧ (s.toList == [47, 47]) = false ∧ (s.toList == [114, 101, 109]) = false ∧ (s.toList == [109, 111, 100]) = false := by
  unfold isTwo at h
  rw [Bool.or_eq_false_iff, Bool.or_eq_false_iff, Bool.or_eq_false_iff, Bool.or_eq_false_iff, Bool.or_eq_false_iff] at h
  exact h
theorem isTwo_ways {s : ByteArray} (h : isTwo s = true) : (s.toList == [43]) = true ∨ ((s.toList == [43]) = false ∧ (s.toList == [45]) = true) ∨ ((s.toList == [43]) = false ∧ (s.toList == [45]) = false ∧ (s.toList == [42]) = true) ∨ ((s.toList == [43]) = false ∧ (s.toList == [45]) = false ∧ (s.toList == [42]) = false ∧ (s.toList == [47, 47]) = true) ∨
    ((s.toList == [43]) = false ∧ (s.toList == [45]) = false ∧ (s.toList == [42]) = false ∧ (s.toList == [47, 47]) = false ∧ (s.toList == [114, 101, 109]) = true) ∨ ((s.toList == [43]) = false ∧ (s.toList == [45]) = false ∧ (s.toList == [42]) = false ∧ (s.toList == [47, 47]) = false ∧ (s.toList == [114, 101, 109]) = false ∧ (s.toList == [109, 111, 100]) = true) := by
  unfold isTwo at h
  cases h1 : (s.toList == [43]) with
  | true => exact .inl rfl
  | false =>
    cases h2 : (s.toList == [45]) with
    | true => exact .inr (.inl ⟨rfl, rfl⟩)
    | false =>
      cases h3 : (s.toList == [42]) with
      | true => exact .inr (.inr (.inl ⟨rfl, rfl, rfl⟩))
      | false =>
        cases h4 : (s.toList == [47, 47]) with
        | true => exact .inr (.inr (.inr (.inl ⟨rfl, rfl, rfl, rfl⟩)))
        | false =>
          cases h5 : (s.toList == [114, 101, 109]) with
          | true => exact .inr (.inr (.inr (.inr (.inl ⟨rfl, rfl, rfl, rfl, rfl⟩))))
          | false =>
            rw [h1, h2, h3, h4, h5] at h
            exact .inr (.inr (.inr (.inr (.inr ⟨rfl, rfl, rfl, rfl, rfl, h⟩))))

set_option maxRecDepth 100000 in
set_option maxHeartbeats 8000000 in
theorem ev_err (bs : List (Int × Tm)) (ab : Option Addr) (cb : Nat) (t : Tm) (ad : Option Addr) (cap : Nat) (o : Int) (w : World) (hlen : bs.length ≤ 1000000) (hb : BdsAt w (fun b => b < w.heap.size) ab bs) (ht : TmIn w t ad cap) (_ho : 0 ≤ o ∧ o < 60) (X : Tm) (er : Int) (n : Nat) (hX : walkL bs 0 t = (X, er, n)) (her : er ≠ 0) :
    Calls Try.prog 26 #[.slice ab bs.length cb, tmv t ad cap, .int .i64 o] w (EvO (0, er) w) := by
  have e1 : (er != 0) = true := by simpa using her
  clear her
  have HI := Lib.hid (EvB.start w t ad cap ht)
  have HW := Lib.hid (fun W (h : Below w.heap.size w W) => r9_Walk bs ab cb t ad cap W (fun b => b < w.heap.size) hlen (fun b hb' => Nat.lt_of_lt_of_le hb' h.size) (hb.kept (fun b hb' _ => h.block b hb') fun _ h _ => h) (ht.inP.kept (fun b hb' _ => h.block b hb') fun _ h _ => h))
  have HBW := Lib.hid (fun W (h : Below w.heap.size w W) => (hb.kept (fun b hb' _ => h.block b hb') fun b hb' _ => Nat.lt_of_lt_of_le hb' h.size : BdsAt W (fun b => b < W.heap.size) ab bs))
  rw [hX] at HW
  dsimp only at HW
  have ho1 : decide ((60 : Int) ≤ o) = false := decide_eq_false (by omega)
  clear hb ht hX hlen
  unfold tmv at HW
  unfold tmv
  go_enter Try.func26, Try.ntmps26
  go_upto_region 3 with fail
  generalize w.alloc _ = w0 at *
  obtain ⟨x0, x1, x2, x3, _⟩ := cellsT HI.out.1
  go_wp2_with fail
  refine (HW.out _ HI.out.2.2).mono ?_; rintro e w1 ⟨a2, c2, rfl, hx, hb1⟩
  obtain ⟨z0, z1, z2, z3, f0, f1, f2, f3⟩ := cellsT (HI.out.on hb1).1
  replace HI := Lib.hid (HI.out.walked hb1 (fun b hb' => .inl hb') hx)
  clear x0 x1 x2 x3 hb1 hx HW
  go_upto_region 4 with fail
  generalize (((w1.setCell _ _).setCell _ _).setCell _ _).setCell _ _ = w2 at *
  clear z0 z1 z2 z3 f0 f1 f2 f3
  obtain ⟨x0, x1, x2, x3, _⟩ := cellsT HI.out.1
  go_wp2_with fail
  go_ret2
  exact ⟨rfl, HI.out.2.2⟩

set_option maxRecDepth 100000 in
set_option maxHeartbeats 8000000 in
theorem ev_var (bs : List (Int × Tm)) (ab : Option Addr) (cb : Nat) (t : Tm) (ad : Option Addr) (cap : Nat) (o : Int) (w : World) (hlen : bs.length ≤ 1000000) (hb : BdsAt w (fun b => b < w.heap.size) ab bs) (ht : TmIn w t ad cap) (_ho : 0 ≤ o ∧ o < 60) (X : Tm) (n : Nat) (hX : walkL bs 0 t = (X, 0, n)) (hk : X.kind = 1) :
    Calls Try.prog 26 #[.slice ab bs.length cb, tmv t ad cap, .int .i64 o] w (EvO (0, 110) w) := by
  have e1 : (X.kind == 1) = true := by simpa using hk
  clear hk
  have HI := Lib.hid (EvB.start w t ad cap ht)
  have HW := Lib.hid (fun W (h : Below w.heap.size w W) => r9_Walk bs ab cb t ad cap W (fun b => b < w.heap.size) hlen (fun b hb' => Nat.lt_of_lt_of_le hb' h.size) (hb.kept (fun b hb' _ => h.block b hb') fun _ h _ => h) (ht.inP.kept (fun b hb' _ => h.block b hb') fun _ h _ => h))
  have HBW := Lib.hid (fun W (h : Below w.heap.size w W) => (hb.kept (fun b hb' _ => h.block b hb') fun b hb' _ => Nat.lt_of_lt_of_le hb' h.size : BdsAt W (fun b => b < W.heap.size) ab bs))
  rw [hX] at HW
  dsimp only at HW
  have ho1 : decide ((60 : Int) ≤ o) = false := decide_eq_false (by omega)
  clear hb ht hX hlen
  unfold tmv at HW
  unfold tmv
  go_enter Try.func26, Try.ntmps26
  go_upto_region 3 with fail
  generalize w.alloc _ = w0 at *
  obtain ⟨x0, x1, x2, x3, _⟩ := cellsT HI.out.1
  go_wp2_with fail
  refine (HW.out _ HI.out.2.2).mono ?_; rintro e w1 ⟨a2, c2, rfl, hx, hb1⟩
  obtain ⟨z0, z1, z2, z3, f0, f1, f2, f3⟩ := cellsT (HI.out.on hb1).1
  replace HI := Lib.hid (HI.out.walked hb1 (fun b hb' => .inl hb') hx)
  clear x0 x1 x2 x3 hb1 hx HW
  go_upto_region 4 with fail
  generalize (((w1.setCell _ _).setCell _ _).setCell _ _).setCell _ _ = w2 at *
  clear z0 z1 z2 z3 f0 f1 f2 f3
  obtain ⟨x0, x1, x2, x3, _⟩ := cellsT HI.out.1
  go_wp2_with fail
  go_ret2
  exact ⟨rfl, HI.out.2.2⟩

set_option maxRecDepth 100000 in
set_option maxHeartbeats 8000000 in
theorem ev_int (bs : List (Int × Tm)) (ab : Option Addr) (cb : Nat) (t : Tm) (ad : Option Addr) (cap : Nat) (o : Int) (w : World) (hlen : bs.length ≤ 1000000) (hb : BdsAt w (fun b => b < w.heap.size) ab bs) (ht : TmIn w t ad cap) (_ho : 0 ≤ o ∧ o < 60) (X : Tm) (n : Nat) (hX : walkL bs 0 t = (X, 0, n)) (hk : X.kind = 3) :
    Calls Try.prog 26 #[.slice ab bs.length cb, tmv t ad cap, .int .i64 o] w (EvO (X.n, 0) w) := by
  have e1 : (X.kind == 1) = false := by rw [hk]; rfl
  have e2 : (X.kind == 3) = true := by rw [hk]; rfl
  clear hk
  have HI := Lib.hid (EvB.start w t ad cap ht)
  have HW := Lib.hid (fun W (h : Below w.heap.size w W) => r9_Walk bs ab cb t ad cap W (fun b => b < w.heap.size) hlen (fun b hb' => Nat.lt_of_lt_of_le hb' h.size) (hb.kept (fun b hb' _ => h.block b hb') fun _ h _ => h) (ht.inP.kept (fun b hb' _ => h.block b hb') fun _ h _ => h))
  have HBW := Lib.hid (fun W (h : Below w.heap.size w W) => (hb.kept (fun b hb' _ => h.block b hb') fun b hb' _ => Nat.lt_of_lt_of_le hb' h.size : BdsAt W (fun b => b < W.heap.size) ab bs))
  rw [hX] at HW
  dsimp only at HW
  have ho1 : decide ((60 : Int) ≤ o) = false := decide_eq_false (by omega)
  clear hb ht hX hlen
  unfold tmv at HW
  unfold tmv
  go_enter Try.func26, Try.ntmps26
  go_upto_region 3 with fail
  generalize w.alloc _ = w0 at *
  obtain ⟨x0, x1, x2, x3, _⟩ := cellsT HI.out.1
  go_wp2_with fail
  refine (HW.out _ HI.out.2.2).mono ?_; rintro e w1 ⟨a2, c2, rfl, hx, hb1⟩
  obtain ⟨z0, z1, z2, z3, f0, f1, f2, f3⟩ := cellsT (HI.out.on hb1).1
  replace HI := Lib.hid (HI.out.walked hb1 (fun b hb' => .inl hb') hx)
  clear x0 x1 x2 x3 hb1 hx HW
  go_upto_region 4 with fail
  generalize (((w1.setCell _ _).setCell _ _).setCell _ _).setCell _ _ = w2 at *
  clear z0 z1 z2 z3 f0 f1 f2 f3
  obtain ⟨x0, x1, x2, x3, _⟩ := cellsT HI.out.1
  go_wp2_with fail
  go_ret2
  exact ⟨rfl, HI.out.2.2⟩

set_option maxRecDepth 100000 in
set_option maxHeartbeats 8000000 in
theorem ev_not (bs : List (Int × Tm)) (ab : Option Addr) (cb : Nat) (t : Tm) (ad : Option Addr) (cap : Nat) (o : Int) (w : World) (hlen : bs.length ≤ 1000000) (hb : BdsAt w (fun b => b < w.heap.size) ab bs) (ht : TmIn w t ad cap) (_ho : 0 ≤ o ∧ o < 60) (X : Tm) (n : Nat) (hX : walkL bs 0 t = (X, 0, n)) (h1 : X.kind ≠ 1) (h3 : X.kind ≠ 3) (h4 : X.kind ≠ 4) :
    Calls Try.prog 26 #[.slice ab bs.length cb, tmv t ad cap, .int .i64 o] w (EvO (0, 111) w) := by
  have e1 : (X.kind == 1) = false := by simpa using h1
  have e2 : (X.kind == 3) = false := by simpa using h3
  have e3 : (X.kind != 4) = true := by simpa using h4
  clear h1 h3 h4
  have HI := Lib.hid (EvB.start w t ad cap ht)
  have HW := Lib.hid (fun W (h : Below w.heap.size w W) => r9_Walk bs ab cb t ad cap W (fun b => b < w.heap.size) hlen (fun b hb' => Nat.lt_of_lt_of_le hb' h.size) (hb.kept (fun b hb' _ => h.block b hb') fun _ h _ => h) (ht.inP.kept (fun b hb' _ => h.block b hb') fun _ h _ => h))
  have HBW := Lib.hid (fun W (h : Below w.heap.size w W) => (hb.kept (fun b hb' _ => h.block b hb') fun b hb' _ => Nat.lt_of_lt_of_le hb' h.size : BdsAt W (fun b => b < W.heap.size) ab bs))
  rw [hX] at HW
  dsimp only at HW
  have ho1 : decide ((60 : Int) ≤ o) = false := decide_eq_false (by omega)
  clear hb ht hX hlen
  unfold tmv at HW
  unfold tmv
  go_enter Try.func26, Try.ntmps26
  go_upto_region 3 with fail
  generalize w.alloc _ = w0 at *
  obtain ⟨x0, x1, x2, x3, _⟩ := cellsT HI.out.1
  go_wp2_with fail
  refine (HW.out _ HI.out.2.2).mono ?_; rintro e w1 ⟨a2, c2, rfl, hx, hb1⟩
  obtain ⟨z0, z1, z2, z3, f0, f1, f2, f3⟩ := cellsT (HI.out.on hb1).1
  replace HI := Lib.hid (HI.out.walked hb1 (fun b hb' => .inl hb') hx)
  clear x0 x1 x2 x3 hb1 hx HW
  go_upto_region 4 with fail
  generalize (((w1.setCell _ _).setCell _ _).setCell _ _).setCell _ _ = w2 at *
  clear z0 z1 z2 z3 f0 f1 f2 f3
  obtain ⟨x0, x1, x2, x3, _⟩ := cellsT HI.out.1
  go_wp2_with fail
  go_ret2
  exact ⟨rfl, HI.out.2.2⟩

set_option maxRecDepth 100000 in
set_option maxHeartbeats 8000000 in
theorem ev_none (bs : List (Int × Tm)) (ab : Option Addr) (cb : Nat) (t : Tm) (ad : Option Addr) (cap : Nat) (o : Int) (w : World) (hlen : bs.length ≤ 1000000) (hb : BdsAt w (fun b => b < w.heap.size) ab bs) (ht : TmIn w t ad cap) (_ho : 0 ≤ o ∧ o < 60) (X : Tm) (n : Nat) (hX : walkL bs 0 t = (X, 0, n)) (h4 : X.kind = 4) (hl1 : X.args.length ≠ 1) (hl2 : X.args.length ≠ 2) :
    Calls Try.prog 26 #[.slice ab bs.length cb, tmv t ad cap, .int .i64 o] w (EvO (0, 111) w) := by
  have e1 : (X.kind == 1) = false := by rw [h4]; rfl
  have e2 : (X.kind == 3) = false := by rw [h4]; rfl
  have e3 : (X.kind != 4) = false := by rw [h4]; rfl
  clear h4
  have g1 : ((X.args.length : Int) == 1) = false := by rw [beq_eq_false_iff_ne]; omega
  have g2 : ((X.args.length : Int) == 2) = false := by rw [beq_eq_false_iff_ne]; omega
  clear hl1 hl2
  have HI := Lib.hid (EvB.start w t ad cap ht)
  have HW := Lib.hid (fun W (h : Below w.heap.size w W) => r9_Walk bs ab cb t ad cap W (fun b => b < w.heap.size) hlen (fun b hb' => Nat.lt_of_lt_of_le hb' h.size) (hb.kept (fun b hb' _ => h.block b hb') fun _ h _ => h) (ht.inP.kept (fun b hb' _ => h.block b hb') fun _ h _ => h))
  have HBW := Lib.hid (fun W (h : Below w.heap.size w W) => (hb.kept (fun b hb' _ => h.block b hb') fun b hb' _ => Nat.lt_of_lt_of_le hb' h.size : BdsAt W (fun b => b < W.heap.size) ab bs))
  rw [hX] at HW
  dsimp only at HW
  have ho1 : decide ((60 : Int) ≤ o) = false := decide_eq_false (by omega)
  clear hb ht hX hlen
  unfold tmv at HW
  unfold tmv
  go_enter Try.func26, Try.ntmps26
  go_upto_region 3 with fail
  generalize w.alloc _ = w0 at *
  obtain ⟨x0, x1, x2, x3, _⟩ := cellsT HI.out.1
  go_wp2_with fail
  refine (HW.out _ HI.out.2.2).mono ?_; rintro e w1 ⟨a2, c2, rfl, hx, hb1⟩
  obtain ⟨z0, z1, z2, z3, f0, f1, f2, f3⟩ := cellsT (HI.out.on hb1).1
  replace HI := Lib.hid (HI.out.walked hb1 (fun b hb' => .inl hb') hx)
  clear x0 x1 x2 x3 hb1 hx HW
  go_upto_region 4 with fail
  generalize (((w1.setCell _ _).setCell _ _).setCell _ _).setCell _ _ = w2 at *
  clear z0 z1 z2 z3 f0 f1 f2 f3
  obtain ⟨x0, x1, x2, x3, _⟩ := cellsT HI.out.1
  go_wp2_with fail
  go_ret2
  exact ⟨rfl, HI.out.2.2⟩

set_option maxRecDepth 100000 in
set_option maxHeartbeats 8000000 in
theorem ev_one_no (bs : List (Int × Tm)) (ab : Option Addr) (cb : Nat) (t : Tm) (ad : Option Addr) (cap : Nat) (o : Int) (w : World) (hlen : bs.length ≤ 1000000) (hb : BdsAt w (fun b => b < w.heap.size) ab bs) (ht : TmIn w t ad cap) (_ho : 0 ≤ o ∧ o < 60) (X : Tm) (n : Nat) (hX : walkL bs 0 t = (X, 0, n)) (h4 : X.kind = 4) (hl : X.args.length = 1) (ho2 : isOne X.name = false) :
    Calls Try.prog 26 #[.slice ab bs.length cb, tmv t ad cap, .int .i64 o] w (EvO (0, 111) w) := by
  have e1 : (X.kind == 1) = false := by rw [h4]; rfl
  have e2 : (X.kind == 3) = false := by rw [h4]; rfl
  have e3 : (X.kind != 4) = false := by rw [h4]; rfl
  clear h4
  obtain ⟨s1, s2, s3⟩ := isOne_no ho2
  clear ho2
  have HL := Lib.hid hl
  clear hl
  have HI := Lib.hid (EvB.start w t ad cap ht)
  have HW := Lib.hid (fun W (h : Below w.heap.size w W) => r9_Walk bs ab cb t ad cap W (fun b => b < w.heap.size) hlen (fun b hb' => Nat.lt_of_lt_of_le hb' h.size) (hb.kept (fun b hb' _ => h.block b hb') fun _ h _ => h) (ht.inP.kept (fun b hb' _ => h.block b hb') fun _ h _ => h))
  have HBW := Lib.hid (fun W (h : Below w.heap.size w W) => (hb.kept (fun b hb' _ => h.block b hb') fun b hb' _ => Nat.lt_of_lt_of_le hb' h.size : BdsAt W (fun b => b < W.heap.size) ab bs))
  rw [hX] at HW
  dsimp only at HW
  have ho1 : decide ((60 : Int) ≤ o) = false := decide_eq_false (by omega)
  clear hb ht hX hlen
  unfold tmv at HW
  unfold tmv
  go_enter Try.func26, Try.ntmps26
  go_upto_region 3 with fail
  generalize w.alloc _ = w0 at *
  obtain ⟨x0, x1, x2, x3, _⟩ := cellsT HI.out.1
  go_wp2_with fail
  refine (HW.out _ HI.out.2.2).mono ?_; rintro e w1 ⟨a2, c2, rfl, hx, hb1⟩
  obtain ⟨z0, z1, z2, z3, f0, f1, f2, f3⟩ := cellsT (HI.out.on hb1).1
  replace HI := Lib.hid (HI.out.walked hb1 (fun b hb' => .inl hb') hx)
  clear x0 x1 x2 x3 hb1 hx HW
  go_upto_region 4 with fail
  generalize (((w1.setCell _ _).setCell _ _).setCell _ _).setCell _ _ = w2 at *
  clear z0 z1 z2 z3 f0 f1 f2 f3
  obtain ⟨x0, x1, x2, x3, _⟩ := cellsT HI.out.1
  rw [HL.out] at x3
  go_wp2_with fail
  go_ret2
  exact ⟨rfl, HI.out.2.2⟩

set_option maxRecDepth 100000 in
set_option maxHeartbeats 8000000 in
theorem ev_two_no (bs : List (Int × Tm)) (ab : Option Addr) (cb : Nat) (t : Tm) (ad : Option Addr) (cap : Nat) (o : Int) (w : World) (hlen : bs.length ≤ 1000000) (hb : BdsAt w (fun b => b < w.heap.size) ab bs) (ht : TmIn w t ad cap) (_ho : 0 ≤ o ∧ o < 60) (X : Tm) (n : Nat) (hX : walkL bs 0 t = (X, 0, n)) (h4 : X.kind = 4) (hl : X.args.length = 2) (ho2 : isTwo X.name = false) :
    Calls Try.prog 26 #[.slice ab bs.length cb, tmv t ad cap, .int .i64 o] w (EvO (0, 111) w) := by
  have e1 : (X.kind == 1) = false := by rw [h4]; rfl
  have e2 : (X.kind == 3) = false := by rw [h4]; rfl
  have e3 : (X.kind != 4) = false := by rw [h4]; rfl
  clear h4
  obtain ⟨s1, s2, s3, s4, s5, s6⟩ := isTwo_no ho2
  clear ho2
  have HL := Lib.hid hl
  clear hl
  have HI := Lib.hid (EvB.start w t ad cap ht)
  have HW := Lib.hid (fun W (h : Below w.heap.size w W) => r9_Walk bs ab cb t ad cap W (fun b => b < w.heap.size) hlen (fun b hb' => Nat.lt_of_lt_of_le hb' h.size) (hb.kept (fun b hb' _ => h.block b hb') fun _ h _ => h) (ht.inP.kept (fun b hb' _ => h.block b hb') fun _ h _ => h))
  have HBW := Lib.hid (fun W (h : Below w.heap.size w W) => (hb.kept (fun b hb' _ => h.block b hb') fun b hb' _ => Nat.lt_of_lt_of_le hb' h.size : BdsAt W (fun b => b < W.heap.size) ab bs))
  rw [hX] at HW
  dsimp only at HW
  have ho1 : decide ((60 : Int) ≤ o) = false := decide_eq_false (by omega)
  clear hb ht hX hlen
  unfold tmv at HW
  unfold tmv
  go_enter Try.func26, Try.ntmps26
  go_upto_region 3 with fail
  generalize w.alloc _ = w0 at *
  obtain ⟨x0, x1, x2, x3, _⟩ := cellsT HI.out.1
  go_wp2_with fail
  refine (HW.out _ HI.out.2.2).mono ?_; rintro e w1 ⟨a2, c2, rfl, hx, hb1⟩
  obtain ⟨z0, z1, z2, z3, f0, f1, f2, f3⟩ := cellsT (HI.out.on hb1).1
  replace HI := Lib.hid (HI.out.walked hb1 (fun b hb' => .inl hb') hx)
  clear x0 x1 x2 x3 hb1 hx HW
  go_upto_region 4 with fail
  generalize (((w1.setCell _ _).setCell _ _).setCell _ _).setCell _ _ = w2 at *
  clear z0 z1 z2 z3 f0 f1 f2 f3
  obtain ⟨x0, x1, x2, x3, _⟩ := cellsT HI.out.1
  rw [HL.out] at x3
  go_wp2_with fail
  go_ret2
  exact ⟨rfl, HI.out.2.2⟩

set_option maxRecDepth 100000 in
set_option maxHeartbeats 8000000 in
theorem ev_one (bs : List (Int × Tm)) (ab : Option Addr) (cb : Nat) (t : Tm) (ad : Option Addr) (cap : Nat) (o : Int) (w : World) (hlen : bs.length ≤ 1000000) (hb : BdsAt w (fun b => b < w.heap.size) ab bs) (ht : TmIn w t ad cap) (_ho : 0 ≤ o ∧ o < 60) (X : Tm) (n : Nat) (hX : walkL bs 0 t = (X, 0, n)) (h4 : X.kind = 4) (A1 : Tm) (hA : X.args = [A1]) (ho2 : isOne X.name = true) (v1 f1 : Int) (hevA1 : ∀ (a : Option Addr) (c : Nat) (W : World), BdsAt W (fun b => b < W.heap.size) ab bs → TmIn W A1 a c → Calls Try.prog 26 #[.slice ab bs.length cb, tmv A1 a c, .int .i64 (o + 1)] W (EvO (v1, f1) W)) (hgA1 : EvOk (v1, f1)) :
    Calls Try.prog 26 #[.slice ab bs.length cb, tmv t ad cap, .int .i64 o] w (EvO (if f1 ≠ 0 then (0, f1) else tellV (oneV X.name v1)) w) := by
  obtain ⟨R, hR⟩ : ∃ R, (if f1 ≠ 0 then ((0 : Int), f1) else tellV (oneV X.name v1)) = R := ⟨_, rfl⟩
  rw [hR]
  have HhR := Lib.hid hR
  clear hR
  have HhevA1 := Lib.hid hevA1
  clear hevA1
  have HhgA1 := Lib.hid hgA1
  clear hgA1
  have HhA := Lib.hid hA
  clear hA
  have e1 : (X.kind == 1) = false := by rw [h4]; rfl
  have e2 : (X.kind == 3) = false := by rw [h4]; rfl
  have e3 : (X.kind != 4) = false := by rw [h4]; rfl
  clear h4
  have HI := Lib.hid (EvB.start w t ad cap ht)
  have HW := Lib.hid (fun W (h : Below w.heap.size w W) => r9_Walk bs ab cb t ad cap W (fun b => b < w.heap.size) hlen (fun b hb' => Nat.lt_of_lt_of_le hb' h.size) (hb.kept (fun b hb' _ => h.block b hb') fun _ h _ => h) (ht.inP.kept (fun b hb' _ => h.block b hb') fun _ h _ => h))
  have HBW := Lib.hid (fun W (h : Below w.heap.size w W) => (hb.kept (fun b hb' _ => h.block b hb') fun b hb' _ => Nat.lt_of_lt_of_le hb' h.size : BdsAt W (fun b => b < W.heap.size) ab bs))
  rw [hX] at HW
  dsimp only at HW
  have ho1 : decide ((60 : Int) ≤ o) = false := decide_eq_false (by omega)
  clear hb ht hX hlen
  unfold tmv at HW
  unfold tmv
  go_enter Try.func26, Try.ntmps26
  go_upto_region 3 with fail
  generalize w.alloc _ = w0 at *
  obtain ⟨x0, x1, x2, x3, _⟩ := cellsT HI.out.1
  go_wp2_with fail
  refine (HW.out _ HI.out.2.2).mono ?_; rintro e w1 ⟨a2, c2, rfl, hx, hb1⟩
  obtain ⟨z0, z1, z2, z3, f0, f1, f2, f3⟩ := cellsT (HI.out.on hb1).1
  replace HI := Lib.hid (HI.out.walked hb1 (fun b hb' => .inl hb') hx)
  clear x0 x1 x2 x3 hb1 hx HW
  go_upto_region 4 with fail
  generalize (((w1.setCell _ _).setCell _ _).setCell _ _).setCell _ _ = w2 at *
  clear z0 z1 z2 z3 f0 f1 f2 f3
  obtain ⟨x0, x1, x2, x3, _⟩ := cellsT HI.out.1
  obtain ⟨b1, o1, d1, d2, rfl, y0, y1, y2, y3, hp⟩ := HI.out.arg0 HhA.out
  have hl : X.args.length = 1 := by rw [HhA.out]; rfl
  rw [hl] at x3
  have HV1 := Lib.hid (HhevA1.out d1 d2 _ (HBW.out _ HI.out.2.2) hp)
  unfold EvO tmv at HV1
  have hwo : IntKind.i64.wrap (o + 1) = o + 1 := IntWalk.i64_in _ (by omega)
  have HO1 := Lib.hid (fun (hz : f1 = 0) W => r11_one X.name v1 W (HhgA1.out.elim (fun h => absurd hz h.1) fun h => h.2))
  clear hp hl HhevA1
  rcases isOne_ways ho2 with s1 | ⟨s1, s2⟩ | ⟨s1, s2, s3⟩
  all_goals
    clear ho2
    go_wp2_with fail
    refine HV1.out.mono ?_; rintro e w3 ⟨rfl, hb3⟩
    replace HI := Lib.hid (HI.out.on hb3)
    clear hb3 x0 x1 x2 x3 y0 y1 y2 y3
    obtain ⟨x0, x1, x2, x3, _⟩ := cellsT HI.out.1
    have HR := HhR
    by_cases hz : f1 = 0
    · rw [if_neg (by simpa using hz)] at HR
      have HO2 := Lib.hid (HO1.out hz)
      subst hz
      go_wp2_with fail
      refine (HO2.out _).mono ?_; rintro e w4 ⟨rfl, rfl⟩
      go_wp2_with fail
      refine (r11_told _ _ _).mono ?_; rintro e w5 ⟨rfl, rfl⟩
      go_wp2_with fail
      go_ret2
      rw [← HR.out]
      exact ⟨rfl, HI.out.2.2⟩
    · rw [if_pos hz] at HR
      have e9 : (f1 != 0) = true := by simpa using hz
      clear hz
      go_wp2_with fail
      go_ret2
      rw [← HR.out]
      exact ⟨rfl, HI.out.2.2⟩

set_option maxRecDepth 100000 in
set_option maxHeartbeats 8000000 in
theorem ev_two (bs : List (Int × Tm)) (ab : Option Addr) (cb : Nat) (t : Tm) (ad : Option Addr) (cap : Nat) (o : Int) (w : World) (hlen : bs.length ≤ 1000000) (hb : BdsAt w (fun b => b < w.heap.size) ab bs) (ht : TmIn w t ad cap) (_ho : 0 ≤ o ∧ o < 60) (X : Tm) (n : Nat) (hX : walkL bs 0 t = (X, 0, n)) (h4 : X.kind = 4) (A1 A2 : Tm) (hA : X.args = [A1, A2]) (ho2 : isTwo X.name = true) (v1 f1 v2 f2 : Int) (hevA1 : ∀ (a : Option Addr) (c : Nat) (W : World), BdsAt W (fun b => b < W.heap.size) ab bs → TmIn W A1 a c → Calls Try.prog 26 #[.slice ab bs.length cb, tmv A1 a c, .int .i64 (o + 1)] W (EvO (v1, f1) W)) (hgA1 : EvOk (v1, f1)) (hevA2 : ∀ (a : Option Addr) (c : Nat) (W : World), BdsAt W (fun b => b < W.heap.size) ab bs → TmIn W A2 a c → Calls Try.prog 26 #[.slice ab bs.length cb, tmv A2 a c, .int .i64 (o + 1)] W (EvO (v2, f2) W)) (hgA2 : EvOk (v2, f2)) :
    Calls Try.prog 26 #[.slice ab bs.length cb, tmv t ad cap, .int .i64 o] w (EvO (if f1 ≠ 0 then (0, f1) else if f2 ≠ 0 then (0, f2) else tellV (twoV X.name v1 v2)) w) := by
  obtain ⟨R, hR⟩ : ∃ R, (if f1 ≠ 0 then ((0 : Int), f1) else if f2 ≠ 0 then (0, f2) else tellV (twoV X.name v1 v2)) = R := ⟨_, rfl⟩
  rw [hR]
  have HhR := Lib.hid hR
  clear hR
  have HhevA1 := Lib.hid hevA1
  clear hevA1
  have HhgA1 := Lib.hid hgA1
  clear hgA1
  have HhevA2 := Lib.hid hevA2
  clear hevA2
  have HhgA2 := Lib.hid hgA2
  clear hgA2
  have HhA := Lib.hid hA
  clear hA
  have e1 : (X.kind == 1) = false := by rw [h4]; rfl
  have e2 : (X.kind == 3) = false := by rw [h4]; rfl
  have e3 : (X.kind != 4) = false := by rw [h4]; rfl
  clear h4
  have HI := Lib.hid (EvB.start w t ad cap ht)
  have HW := Lib.hid (fun W (h : Below w.heap.size w W) => r9_Walk bs ab cb t ad cap W (fun b => b < w.heap.size) hlen (fun b hb' => Nat.lt_of_lt_of_le hb' h.size) (hb.kept (fun b hb' _ => h.block b hb') fun _ h _ => h) (ht.inP.kept (fun b hb' _ => h.block b hb') fun _ h _ => h))
  have HBW := Lib.hid (fun W (h : Below w.heap.size w W) => (hb.kept (fun b hb' _ => h.block b hb') fun b hb' _ => Nat.lt_of_lt_of_le hb' h.size : BdsAt W (fun b => b < W.heap.size) ab bs))
  rw [hX] at HW
  dsimp only at HW
  have ho1 : decide ((60 : Int) ≤ o) = false := decide_eq_false (by omega)
  clear hb ht hX hlen
  unfold tmv at HW
  unfold tmv
  go_enter Try.func26, Try.ntmps26
  go_upto_region 3 with fail
  generalize w.alloc _ = w0 at *
  obtain ⟨x0, x1, x2, x3, _⟩ := cellsT HI.out.1
  go_wp2_with fail
  refine (HW.out _ HI.out.2.2).mono ?_; rintro e w1 ⟨a2, c2, rfl, hx, hb1⟩
  obtain ⟨z0, z1, z2, z3, f0, f1, f2, f3⟩ := cellsT (HI.out.on hb1).1
  replace HI := Lib.hid (HI.out.walked hb1 (fun b hb' => .inl hb') hx)
  clear x0 x1 x2 x3 hb1 hx HW
  go_upto_region 4 with fail
  generalize (((w1.setCell _ _).setCell _ _).setCell _ _).setCell _ _ = w2 at *
  clear z0 z1 z2 z3 f0 f1 f2 f3
  obtain ⟨x0, x1, x2, x3, _⟩ := cellsT HI.out.1
  obtain ⟨b1, o1, d1, d2, rfl, y0, y1, y2, y3, hp⟩ := HI.out.arg0 HhA.out
  have hl : X.args.length = 2 := by rw [HhA.out]; rfl
  rw [hl] at x3
  have HV1 := Lib.hid (HhevA1.out d1 d2 _ (HBW.out _ HI.out.2.2) hp)
  unfold EvO tmv at HV1
  have hwo : IntKind.i64.wrap (o + 1) = o + 1 := IntWalk.i64_in _ (by omega)
  have HO1 := Lib.hid (fun (hz : f1 = 0) (hy : f2 = 0) W => r11_two X.name v1 v2 W (HhgA1.out.elim (fun h => absurd hz h.1) fun h => h.2) (HhgA2.out.elim (fun h => absurd hy h.1) fun h => h.2))
  have HL := Lib.hid hl
  clear hp hl HhevA1
  rcases isTwo_ways ho2 with s1 | ⟨s1, s2⟩ | ⟨s1, s2, s3⟩ | ⟨s1, s2, s3, s4⟩ | ⟨s1, s2, s3, s4, s5⟩ | ⟨s1, s2, s3, s4, s5, s6⟩
  all_goals
    clear ho2
    go_wp2_with fail
    refine HV1.out.mono ?_; rintro e w3 ⟨rfl, hb3⟩
    replace HI := Lib.hid (HI.out.on hb3)
    clear hb3 x0 x1 x2 x3 y0 y1 y2 y3
    obtain ⟨x0, x1, x2, x3, _⟩ := cellsT HI.out.1
    rw [HL.out] at x3
    have HR := HhR
    by_cases hz : f1 = 0
    · rw [if_neg (by simpa using hz)] at HR
      obtain ⟨b2, o2, d3, d4, hbo, y0, y1, y2, y3, hp⟩ := HI.out.arg1 HhA.out
      injection hbo with hbo
      injection hbo with hb1 ho1'
      subst hb1
      subst ho1'
      have HV2 := Lib.hid (HhevA2.out d3 d4 _ (HBW.out _ HI.out.2.2) hp)
      unfold EvO tmv at HV2
      have HO2 := Lib.hid (HO1.out hz)
      subst hz
      clear hp
      go_wp2_with fail
      refine HV2.out.mono ?_; rintro e w4 ⟨rfl, hb4⟩
      replace HI := Lib.hid (HI.out.on hb4)
      clear hb4 x0 x1 x2 x3 y0 y1 y2 y3
      obtain ⟨x0, x1, x2, x3, _⟩ := cellsT HI.out.1
      by_cases hy : f2 = 0
      · rw [if_neg (by simpa using hy)] at HR
        have HO3 := Lib.hid (HO2.out hy)
        subst hy
        go_wp2_with fail
        refine (HO3.out _).mono ?_; rintro e w5 ⟨rfl, rfl⟩
        go_wp2_with fail
        refine (r11_told _ _ _).mono ?_; rintro e w6 ⟨rfl, rfl⟩
        go_wp2_with fail
        go_ret2
        rw [← HR.out]
        exact ⟨rfl, HI.out.2.2⟩
      · rw [if_pos hy] at HR
        have e9 : (f2 != 0) = true := by simpa using hy
        clear hy
        go_wp2_with fail
        go_ret2
        rw [← HR.out]
        exact ⟨rfl, HI.out.2.2⟩
    · rw [if_pos hz] at HR
      have e9 : (f1 != 0) = true := by simpa using hz
      clear hz
      go_wp2_with fail
      go_ret2
      rw [← HR.out]
      exact ⟨rfl, HI.out.2.2⟩
end Go.Proofs.Ytpmohibhdnmjlaa
