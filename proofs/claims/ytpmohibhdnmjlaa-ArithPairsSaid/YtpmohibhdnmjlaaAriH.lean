/-
  The walk of the law ArithPairs.
-/
import Derived.Test.YtpmohibhdnmjlaaAriL
import Derived.Test.YtpmohibhdnmjlaaAriG
namespace Go.Proofs.Ytpmohibhdnmjlaa
open Go.RowKit

theorem is_lt : isOp ⟨#[60]⟩ = true := by unfold isOp; rw [ByteArray.toList_eq]; rfl
theorem is_ge : isOp ⟨#[62, 61]⟩ = true := by unfold isOp; rw [ByteArray.toList_eq]; rfl
theorem is_eq : isOp ⟨#[61, 58, 61]⟩ = true := by unfold isOp; rw [ByteArray.toList_eq]; rfl
theorem is_ne : isOp ⟨#[61, 92, 61]⟩ = true := by unfold isOp; rw [ByteArray.toList_eq]; rfl
theorem is_gt : isOp ⟨#[62]⟩ = true := by unfold isOp; rw [ByteArray.toList_eq]; rfl
theorem is_le : isOp ⟨#[61, 60]⟩ = true := by unfold isOp; rw [ByteArray.toList_eq]; rfl
theorem op_lt (n m : Int) : opV ⟨#[60]⟩ n m = decide (n < m) := by unfold opV; rw [ByteArray.toList_eq]; rfl
theorem op_ge (n m : Int) : opV ⟨#[62, 61]⟩ n m = decide (m ≤ n) := by unfold opV; rw [ByteArray.toList_eq]; rfl
theorem op_eq (n m : Int) : opV ⟨#[61, 58, 61]⟩ n m = (n == m) := by unfold opV; rw [ByteArray.toList_eq]; rfl
theorem op_ne (n m : Int) : opV ⟨#[61, 92, 61]⟩ n m = (n != m) := by unfold opV; rw [ByteArray.toList_eq]; rfl
theorem op_gt (n m : Int) : opV ⟨#[62]⟩ n m = decide (m < n) := by unfold opV; rw [ByteArray.toList_eq]; rfl
theorem op_le (n m : Int) : opV ⟨#[61, 60]⟩ n m = decide (n ≤ m) := by unfold opV; rw [ByteArray.toList_eq]; rfl
theorem cmp_of {s : ByteArray} (h : isOp s = true) (r q : Int × Int) : cmpA s r q = if r.2 ≠ 0 then (false, r.2) else if q.2 ≠ 0 then (false, q.2) else (opV s r.1 q.1, 0) := if_pos h
/-- What the six comparisons answer of two values: an error of all, or of each pair just one holds. -/
theorem pairs_ways (r q : Int × Int) : (∃ a b c : Bool, cmpA ⟨#[60]⟩ r q = (a, 0) ∧ cmpA ⟨#[62, 61]⟩ r q = (!a, 0) ∧ cmpA ⟨#[61, 58, 61]⟩ r q = (b, 0) ∧ cmpA ⟨#[61, 92, 61]⟩ r q = (!b, 0) ∧ cmpA ⟨#[62]⟩ r q = (c, 0) ∧ cmpA ⟨#[61, 60]⟩ r q = (!c, 0)) ∨
    (∃ e : Int, e ≠ 0 ∧ cmpA ⟨#[60]⟩ r q = (false, e) ∧ cmpA ⟨#[62, 61]⟩ r q = (false, e) ∧ cmpA ⟨#[61, 58, 61]⟩ r q = (false, e) ∧ cmpA ⟨#[61, 92, 61]⟩ r q = (false, e) ∧ cmpA ⟨#[62]⟩ r q = (false, e) ∧ cmpA ⟨#[61, 60]⟩ r q = (false, e)) := by
  rw [cmp_of is_lt, cmp_of is_ge, cmp_of is_eq, cmp_of is_ne, cmp_of is_gt, cmp_of is_le]
  by_cases h1 : r.2 = 0
  · by_cases h2 : q.2 = 0
    · simp only [h1, h2, ne_eq, not_true_eq_false, if_false, op_lt, op_ge, op_eq, op_ne, op_gt, op_le]
      have e1 : decide (q.1 ≤ r.1) = !decide (r.1 < q.1) := by by_cases h : r.1 < q.1 <;> simp [h] <;> omega
      have e2 : decide (r.1 ≤ q.1) = !decide (q.1 < r.1) := by by_cases h : q.1 < r.1 <;> simp [h] <;> omega
      exact .inl ⟨decide (r.1 < q.1), r.1 == q.1, decide (q.1 < r.1), rfl, by rw [e1], rfl, rfl, rfl, by rw [e2]⟩
    · simp only [h1, h2, ne_eq, not_true_eq_false, not_false_eq_true, if_false, if_true]
      exact .inr ⟨q.2, h2, rfl, rfl, rfl, rfl, rfl, rfl⟩
  · simp only [h1, ne_eq, not_false_eq_true, if_true]
    exact .inr ⟨r.2, h1, rfl, rfl, rfl, rfl, rfl, rfl⟩

theorem cells2 {w : World} {q : Nat} {a b : Value} {t : TypeId} (h : w.heap[q]? = some (.cells #[a, b] t (0, 0))) : w.cell? ⟨q, 0, none⟩ = some a ∧ w.cell? ⟨q, 1, none⟩ = some b := by
  simp [World.cell?, h]

set_option maxRecDepth 100000 in
set_option maxHeartbeats 16000000 in
theorem walk_ArithPairs (bs : List (Int × Tm)) (ab : Option Addr) (cb : Nat) (x y : Tm) (ax : Option Addr) (cx : Nat) (ay : Option Addr) (cy : Nat) (w : World) (hl : bs.length ≤ cb) (hc : cb ≤ maxLen) (hb : BdsAt w (fun b => b < w.heap.size) ab bs) (hx : TmIn w x ax cx) (hy : TmIn w y ay cy) :
    Calls Try.prog 5 #[.slice ab bs.length cb, tmv x ax cx, tmv y ay cy] w fun e w' => e = .returned (.bool true) ∧ Below w.heap.size w w' := by
  have i0 : ∀ w, (Instr.index 36 (.agg #[.string ⟨#[60]⟩, .string ⟨#[62, 61]⟩, .string ⟨#[61, 58, 61]⟩, .string ⟨#[61, 92, 61]⟩, .string ⟨#[62]⟩, .string ⟨#[61, 60]⟩]) (.int .i64 0)).run Try.prog w = .ok (.agg #[.string ⟨#[60]⟩, .string ⟨#[62, 61]⟩]) w := fun _ => by kernel_rfl
  have i1 : ∀ w, (Instr.index 36 (.agg #[.string ⟨#[60]⟩, .string ⟨#[62, 61]⟩, .string ⟨#[61, 58, 61]⟩, .string ⟨#[61, 92, 61]⟩, .string ⟨#[62]⟩, .string ⟨#[61, 60]⟩]) (.int .i64 1)).run Try.prog w = .ok (.agg #[.string ⟨#[61, 58, 61]⟩, .string ⟨#[61, 92, 61]⟩]) w := fun _ => by kernel_rfl
  have i2 : ∀ w, (Instr.index 36 (.agg #[.string ⟨#[60]⟩, .string ⟨#[62, 61]⟩, .string ⟨#[61, 58, 61]⟩, .string ⟨#[61, 92, 61]⟩, .string ⟨#[62]⟩, .string ⟨#[61, 60]⟩]) (.int .i64 2)).run Try.prog w = .ok (.agg #[.string ⟨#[62]⟩, .string ⟨#[61, 60]⟩]) w := fun _ => by kernel_rfl
  have HL := Lib.hid (fun W => ari_live W)
  have HI := Lib.hid (two_boxes w x ax cx y ay cy)
  have HXN := Lib.hid (fun W (h : Below w.heap.size w W) => hx.on h)
  have HYN := Lib.hid (fun W (h : Below w.heap.size w W) => hy.on h)
  have HBD := Lib.hid (fun W (h : Below w.heap.size w W) => hb.kept (w' := W) (Q := fun b => b < W.heap.size) (fun b _ hl => h.block b hl) fun b hb _ => Nat.lt_of_lt_of_le hb h.size)
  have HBG := Lib.hid (fun W (g : Nat) (h : Below w.heap.size w W) (ht : TArgs W (some ⟨g, 0, none⟩) [x, y]) => (show Calls Try.prog 8 #[.slice ab bs.length cb, .slice (some ⟨g, 0, none⟩) 2 2] W _ from law_big11 bs ab cb [x, y] (some ⟨g, 0, none⟩) 2 W (HBD.out W h) (Nat.le_refl 2) (by decide) ht))
  have HNO := Lib.hid (fun (h : bigA bs [x, y] = false) => bigA_no h)
  have HE := Lib.hid (fun (s : ByteArray) (r : Bool × Int) (hr : cmpA s (evD bs 60 x) (evD bs 60 y) = r) (hs : s.size ≤ maxLen) W (hle : bs.length ≤ 1000000) (hz : ∀ b ∈ bs, b.2.size ≤ 5) (hxs : x.size ≤ 200) (hys : y.size ≤ 200) (h : Below w.heap.size w W) =>
    (show Calls Try.prog 11 #[.slice ab bs.length cb, .string s, .agg #[.int .i64 x.kind, .string x.name, .int .i64 x.n, .slice ax x.args.length cx], .agg #[.int .i64 y.kind, .string y.name, .int .i64 y.n, .slice ay y.args.length cy]] W (fun e w' => e = .returned (.tuple #[.bool r.1, .int .i64 r.2]) ∧ Below W.heap.size W w') from hr ▸ ua_Holds bs ab cb s x y ax cx ay cy W hle hl hc (fun b hb => Nat.le_trans (hz b hb) (by decide)) (Nat.le_trans hxs (by decide)) (Nat.le_trans hys (by decide)) hs (HBD.out W h) (hx.on h) (hy.on h)))
  clear hb hx hy
  have HW := Lib.hid (pairs_ways (evD bs 60 x) (evD bs 60 y))
  generalize bigA bs [x, y] = bg at *
  generalize evD bs 60 x = rx at *
  generalize evD bs 60 y = ry at *
  unfold tmv
  go_enter Try.func5, Try.ntmps5
  go_upto_region 1 with fail
  generalize (w.alloc _).alloc _ = w0 at *
  go_wp2_with fail
  refine (HL.out _).mono ?_; rintro e w1 ⟨rfl, hb⟩
  replace HI := Lib.hid (HI.out.on hb)
  clear hb HL
  obtain ⟨c0, c1, c2, c3, _⟩ := cellsT HI.out.1
  obtain ⟨d0, d1, d2, d3, _⟩ := cellsT HI.out.2.1
  go_wp2_with fail
  have HR1 := Lib.hid (rowA2 (HXN.out _ HI.out.2.2) (HYN.out _ HI.out.2.2) #[.int .i64 x.kind, .string x.name, .int .i64 x.n, .slice ax x.args.length cx, .int .i64 y.kind, .string y.name, .int .i64 y.n, .slice ay y.args.length cy] rfl)
  replace HI := Lib.hid (HI.out.on ((Below.refl _ w1).alloc (Nat.le_refl _) (.cells #[.int .i64 x.kind, .string x.name, .int .i64 x.n, .slice ax x.args.length cx, .int .i64 y.kind, .string y.name, .int .i64 y.n, .slice ay y.args.length cy] 25)))
  generalize w1.alloc _ = w1a at *
  clear c0 c1 c2 c3 d0 d1 d2 d3
  refine (HBG.out _ _ HI.out.2.2 HR1.out).mono ?_; rintro e w2 ⟨rfl, hb2⟩
  replace HI := Lib.hid (HI.out.on hb2)
  clear hb2 HR1 HBG
  cases bg with
  | true =>
    go_wp2_with fail
    go_ret
    exact ⟨rfl, HI.out.2.2⟩
  | false =>
    obtain ⟨hn1, hn2, hn3⟩ := HNO.out rfl
    have hle : bs.length ≤ 1000000 := by omega
    have HE1 := Lib.hid (fun s r hr hs W h => HE.out s r hr hs W hle hn2 (hn3 x (by simp)) (hn3 y (by simp)) h)
    clear hn1 hn2 hn3 HE HNO hle
    rcases HW.out with ⟨a, b, c, f1, f2, f3, f4, f5, f6⟩ | ⟨e0, he, f1, f2, f3, f4, f5, f6⟩
    · have G1 := Lib.hid (HE1.out _ _ f1 (by unfold maxLen; decide))
      have G2 := Lib.hid (HE1.out _ _ f2 (by unfold maxLen; decide))
      have G3 := Lib.hid (HE1.out _ _ f3 (by unfold maxLen; decide))
      have G4 := Lib.hid (HE1.out _ _ f4 (by unfold maxLen; decide))
      have G5 := Lib.hid (HE1.out _ _ f5 (by unfold maxLen; decide))
      have G6 := Lib.hid (HE1.out _ _ f6 (by unfold maxLen; decide))
      dsimp only at G1 G2 G3 G4 G5 G6
      clear f1 f2 f3 f4 f5 f6 HE1 HW HXN HYN HBD
      have n1 : (a == !a) = false := by cases a <;> rfl
      have n2 : (b == !b) = false := by cases b <;> rfl
      have n3 : (c == !c) = false := by cases c <;> rfl
      go_wp2_with fail
      refine wp_loop_rounds 4 ?_
      rw [rounds_succ]
      go_upto_region 7 with fail
      have K0 := Lib.hid (alloc_new w2 (.cells #[.string ⟨#[60]⟩, .string ⟨#[62, 61]⟩] 35))
      replace HI := Lib.hid (HI.out.on ((Below.refl _ w2).alloc (Nat.le_refl _) (.cells #[.string ⟨#[60]⟩, .string ⟨#[62, 61]⟩] 35)))
      generalize w2.alloc _ = wa0 at *
      obtain ⟨c0, c1, c2, c3, _⟩ := cellsT HI.out.1
      obtain ⟨d0, d1, d2, d3, _⟩ := cellsT HI.out.2.1
      obtain ⟨k0, k1⟩ := cells2 K0.out
      go_wp2_with fail
      refine (G1.out _ HI.out.2.2).mono ?_; rintro e wb0 ⟨rfl, hb⟩
      replace HI := Lib.hid (HI.out.on hb)
      replace K0 := Lib.hid (keptR9 hb K0.out)
      clear hb c0 c1 c2 c3 d0 d1 d2 d3 k0 k1 G1
      obtain ⟨c0, c1, c2, c3, _⟩ := cellsT HI.out.1
      obtain ⟨d0, d1, d2, d3, _⟩ := cellsT HI.out.2.1
      obtain ⟨k0, k1⟩ := cells2 K0.out
      go_wp2_with fail
      refine (G2.out _ HI.out.2.2).mono ?_; rintro e wc0 ⟨rfl, hb⟩
      replace HI := Lib.hid (HI.out.on hb)
      clear hb c0 c1 c2 c3 d0 d1 d2 d3 k0 k1 K0 G2
      go_wp2_with fail
      rw [rounds_succ]
      go_upto_region 7 with fail
      have K0 := Lib.hid (alloc_new wc0 (.cells #[.string ⟨#[61, 58, 61]⟩, .string ⟨#[61, 92, 61]⟩] 35))
      replace HI := Lib.hid (HI.out.on ((Below.refl _ wc0).alloc (Nat.le_refl _) (.cells #[.string ⟨#[61, 58, 61]⟩, .string ⟨#[61, 92, 61]⟩] 35)))
      generalize wc0.alloc _ = wa1 at *
      obtain ⟨c0, c1, c2, c3, _⟩ := cellsT HI.out.1
      obtain ⟨d0, d1, d2, d3, _⟩ := cellsT HI.out.2.1
      obtain ⟨k0, k1⟩ := cells2 K0.out
      go_wp2_with fail
      refine (G3.out _ HI.out.2.2).mono ?_; rintro e wb1 ⟨rfl, hb⟩
      replace HI := Lib.hid (HI.out.on hb)
      replace K0 := Lib.hid (keptR9 hb K0.out)
      clear hb c0 c1 c2 c3 d0 d1 d2 d3 k0 k1 G3
      obtain ⟨c0, c1, c2, c3, _⟩ := cellsT HI.out.1
      obtain ⟨d0, d1, d2, d3, _⟩ := cellsT HI.out.2.1
      obtain ⟨k0, k1⟩ := cells2 K0.out
      go_wp2_with fail
      refine (G4.out _ HI.out.2.2).mono ?_; rintro e wc1 ⟨rfl, hb⟩
      replace HI := Lib.hid (HI.out.on hb)
      clear hb c0 c1 c2 c3 d0 d1 d2 d3 k0 k1 K0 G4
      go_wp2_with fail
      rw [rounds_succ]
      go_upto_region 7 with fail
      have K0 := Lib.hid (alloc_new wc1 (.cells #[.string ⟨#[62]⟩, .string ⟨#[61, 60]⟩] 35))
      replace HI := Lib.hid (HI.out.on ((Below.refl _ wc1).alloc (Nat.le_refl _) (.cells #[.string ⟨#[62]⟩, .string ⟨#[61, 60]⟩] 35)))
      generalize wc1.alloc _ = wa2 at *
      obtain ⟨c0, c1, c2, c3, _⟩ := cellsT HI.out.1
      obtain ⟨d0, d1, d2, d3, _⟩ := cellsT HI.out.2.1
      obtain ⟨k0, k1⟩ := cells2 K0.out
      go_wp2_with fail
      refine (G5.out _ HI.out.2.2).mono ?_; rintro e wb2 ⟨rfl, hb⟩
      replace HI := Lib.hid (HI.out.on hb)
      replace K0 := Lib.hid (keptR9 hb K0.out)
      clear hb c0 c1 c2 c3 d0 d1 d2 d3 k0 k1 G5
      obtain ⟨c0, c1, c2, c3, _⟩ := cellsT HI.out.1
      obtain ⟨d0, d1, d2, d3, _⟩ := cellsT HI.out.2.1
      obtain ⟨k0, k1⟩ := cells2 K0.out
      go_wp2_with fail
      refine (G6.out _ HI.out.2.2).mono ?_; rintro e wc2 ⟨rfl, hb⟩
      replace HI := Lib.hid (HI.out.on hb)
      clear hb c0 c1 c2 c3 d0 d1 d2 d3 k0 k1 K0 G6
      go_wp2_with fail
      rw [rounds_succ]
      go_wp2_with fail
      go_ret
      exact ⟨rfl, HI.out.2.2⟩
    · have G1 := Lib.hid (HE1.out _ _ f1 (by unfold maxLen; decide))
      have G2 := Lib.hid (HE1.out _ _ f2 (by unfold maxLen; decide))
      have G3 := Lib.hid (HE1.out _ _ f3 (by unfold maxLen; decide))
      have G4 := Lib.hid (HE1.out _ _ f4 (by unfold maxLen; decide))
      have G5 := Lib.hid (HE1.out _ _ f5 (by unfold maxLen; decide))
      have G6 := Lib.hid (HE1.out _ _ f6 (by unfold maxLen; decide))
      dsimp only at G1 G2 G3 G4 G5 G6
      clear f1 f2 f3 f4 f5 f6 HE1 HW HXN HYN HBD
      have n1 : (e0 != e0) = false := bne_self_eq_false e0
      have n2 : (e0 == 0) = false := beq_eq_false_iff_ne.2 he
      have n3 : (e0 != 0) = true := by rw [bne, n2]; rfl
      clear he
      go_wp2_with fail
      refine wp_loop_rounds 4 ?_
      rw [rounds_succ]
      go_upto_region 7 with fail
      have K0 := Lib.hid (alloc_new w2 (.cells #[.string ⟨#[60]⟩, .string ⟨#[62, 61]⟩] 35))
      replace HI := Lib.hid (HI.out.on ((Below.refl _ w2).alloc (Nat.le_refl _) (.cells #[.string ⟨#[60]⟩, .string ⟨#[62, 61]⟩] 35)))
      generalize w2.alloc _ = wa0 at *
      obtain ⟨c0, c1, c2, c3, _⟩ := cellsT HI.out.1
      obtain ⟨d0, d1, d2, d3, _⟩ := cellsT HI.out.2.1
      obtain ⟨k0, k1⟩ := cells2 K0.out
      go_wp2_with fail
      refine (G1.out _ HI.out.2.2).mono ?_; rintro e wb0 ⟨rfl, hb⟩
      replace HI := Lib.hid (HI.out.on hb)
      replace K0 := Lib.hid (keptR9 hb K0.out)
      clear hb c0 c1 c2 c3 d0 d1 d2 d3 k0 k1 G1
      obtain ⟨c0, c1, c2, c3, _⟩ := cellsT HI.out.1
      obtain ⟨d0, d1, d2, d3, _⟩ := cellsT HI.out.2.1
      obtain ⟨k0, k1⟩ := cells2 K0.out
      go_wp2_with fail
      refine (G2.out _ HI.out.2.2).mono ?_; rintro e wc0 ⟨rfl, hb⟩
      replace HI := Lib.hid (HI.out.on hb)
      clear hb c0 c1 c2 c3 d0 d1 d2 d3 k0 k1 K0 G2
      go_wp2_with fail
      rw [rounds_succ]
      go_upto_region 7 with fail
      have K0 := Lib.hid (alloc_new wc0 (.cells #[.string ⟨#[61, 58, 61]⟩, .string ⟨#[61, 92, 61]⟩] 35))
      replace HI := Lib.hid (HI.out.on ((Below.refl _ wc0).alloc (Nat.le_refl _) (.cells #[.string ⟨#[61, 58, 61]⟩, .string ⟨#[61, 92, 61]⟩] 35)))
      generalize wc0.alloc _ = wa1 at *
      obtain ⟨c0, c1, c2, c3, _⟩ := cellsT HI.out.1
      obtain ⟨d0, d1, d2, d3, _⟩ := cellsT HI.out.2.1
      obtain ⟨k0, k1⟩ := cells2 K0.out
      go_wp2_with fail
      refine (G3.out _ HI.out.2.2).mono ?_; rintro e wb1 ⟨rfl, hb⟩
      replace HI := Lib.hid (HI.out.on hb)
      replace K0 := Lib.hid (keptR9 hb K0.out)
      clear hb c0 c1 c2 c3 d0 d1 d2 d3 k0 k1 G3
      obtain ⟨c0, c1, c2, c3, _⟩ := cellsT HI.out.1
      obtain ⟨d0, d1, d2, d3, _⟩ := cellsT HI.out.2.1
      obtain ⟨k0, k1⟩ := cells2 K0.out
      go_wp2_with fail
      refine (G4.out _ HI.out.2.2).mono ?_; rintro e wc1 ⟨rfl, hb⟩
      replace HI := Lib.hid (HI.out.on hb)
      clear hb c0 c1 c2 c3 d0 d1 d2 d3 k0 k1 K0 G4
      go_wp2_with fail
      rw [rounds_succ]
      go_upto_region 7 with fail
      have K0 := Lib.hid (alloc_new wc1 (.cells #[.string ⟨#[62]⟩, .string ⟨#[61, 60]⟩] 35))
      replace HI := Lib.hid (HI.out.on ((Below.refl _ wc1).alloc (Nat.le_refl _) (.cells #[.string ⟨#[62]⟩, .string ⟨#[61, 60]⟩] 35)))
      generalize wc1.alloc _ = wa2 at *
      obtain ⟨c0, c1, c2, c3, _⟩ := cellsT HI.out.1
      obtain ⟨d0, d1, d2, d3, _⟩ := cellsT HI.out.2.1
      obtain ⟨k0, k1⟩ := cells2 K0.out
      go_wp2_with fail
      refine (G5.out _ HI.out.2.2).mono ?_; rintro e wb2 ⟨rfl, hb⟩
      replace HI := Lib.hid (HI.out.on hb)
      replace K0 := Lib.hid (keptR9 hb K0.out)
      clear hb c0 c1 c2 c3 d0 d1 d2 d3 k0 k1 G5
      obtain ⟨c0, c1, c2, c3, _⟩ := cellsT HI.out.1
      obtain ⟨d0, d1, d2, d3, _⟩ := cellsT HI.out.2.1
      obtain ⟨k0, k1⟩ := cells2 K0.out
      go_wp2_with fail
      refine (G6.out _ HI.out.2.2).mono ?_; rintro e wc2 ⟨rfl, hb⟩
      replace HI := Lib.hid (HI.out.on hb)
      clear hb c0 c1 c2 c3 d0 d1 d2 d3 k0 k1 K0 G6
      go_wp2_with fail
      rw [rounds_succ]
      go_wp2_with fail
      go_ret
      exact ⟨rfl, HI.out.2.2⟩
end Go.Proofs.Ytpmohibhdnmjlaa
