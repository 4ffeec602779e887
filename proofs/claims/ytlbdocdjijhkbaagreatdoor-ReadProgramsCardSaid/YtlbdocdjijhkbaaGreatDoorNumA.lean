import Derived.IntWalk
import Derived.Test.YtlbdocdjijhkbaaGreatDoorChecked
import Derived.WalkKit
import Derived.WalkSpells
import Derived.Lib.Hide
import Derived.Lib.ItoaMem
import Derived.Lib.OthersKept
import Derived.Laws.RangeAny
import Derived.Laws.RangeString
import Derived.Lib.ItoaLen
import Derived.Laws.IdiomStrings
namespace Go.Proofs.YtlbdocdjijhkbaaGreatDoor
open Go.RowKit
def In64 (x : Int) : Prop := -9223372036854775808 <= x /\ x <= 9223372036854775807
def chkV (x : Int) : Int := if -9223372036854775808 <= x /\ x <= 9223372036854775807 then x else 0
def chkE (x : Int) : Int := if -9223372036854775808 <= x /\ x <= 9223372036854775807 then 0 else 10
theorem chkV_in {x : Int} (h : In64 x) : chkV x = x := if_pos h
theorem chkE_in {x : Int} (h : In64 x) : chkE x = 0 := if_pos h
theorem chkV_out {x : Int} (h : ¬ In64 x) : chkV x = 0 := if_neg h
theorem chkE_out {x : Int} (h : ¬ In64 x) : chkE x = 10 := if_neg h
theorem tdiv_mul (a b : Int) (hb : b ≠ 0) : (a * b).tdiv b = a := Int.mul_tdiv_cancel a hb
theorem tdiv_off (p b : Int) : p = b * p.tdiv b + p.tmod b := (Int.mul_tdiv_add_tmod p b).symm
theorem tmod_lt (p b : Int) (hb : b ≠ 0) : -(b.natAbs : Int) < p.tmod b /\ p.tmod b < b.natAbs := by
 have h := Int.natAbs_tmod p b;have h2 : p.natAbs % b.natAbs < b.natAbs := Nat.mod_lt _ (by omega);omega
theorem mul_back (a b : Int) (hb : b ≠ 0) (hb1 : In64 b) (h : (wrap64 (a * b)).tdiv b = a) : In64 (a * b) := by
 have h1 := tdiv_off (wrap64 (a * b)) b;have h2 := tmod_lt (wrap64 (a * b)) b hb;rw [h, Int.mul_comm b a] at h1;generalize (wrap64 (a * b)).tmod b = r at *;generalize a * b = p at *;unfold In64 at *;unfold wrap64 at h1;omega
theorem mul_fwd (a b : Int) (hb : b ≠ 0) (h : In64 (a * b)) : (wrap64 (a * b)).tdiv b = a := by
 rw [IntWalk.wrap64_in _ h, tdiv_mul a b hb]
theorem sub_over {a b : Int} (ha : In64 a) (hb : In64 b) (h : (!decide (0 < b) == decide (wrap64 (a - b) < a)) = true) : ¬ In64 (a - b) := by
 unfold In64 at *;by_cases h1 : 0 < b <;> by_cases h2 : wrap64 (a - b) < a <;> simp [h1, h2] at h <;> unfold wrap64 at h2 <;> omega
theorem sub_good {a b : Int} (ha : In64 a) (hb : In64 b) (h : (!decide (0 < b) == decide (wrap64 (a - b) < a)) = false) : In64 (a - b) := by
 unfold In64 at *;by_cases h1 : 0 < b <;> by_cases h2 : wrap64 (a - b) < a <;> simp [h1, h2] at h <;> unfold wrap64 at h2 <;> omega
theorem tdiv_in {p b : Int} (hp : In64 p) (h0 : b ≠ 0) (h1 : b ≠ -1) : In64 (p.tdiv b) := by
 by_cases hb : b = 1
 · subst hb; rw [Int.tdiv_one]; exact hp
 · have h : (p.tdiv b).natAbs = p.natAbs / b.natAbs := Int.natAbs_tdiv p b;have h2 : p.natAbs / b.natAbs <= p.natAbs / 2 := Nat.div_le_div_left (by omega) (by omega);rw [<- h] at h2;clear h;generalize p.tdiv b = e at h2 ⊢;unfold In64 at *;omega
theorem mul_over {a b : Int} (ha : In64 a) (h0 : b ≠ 0) (h : (wrap64 ((wrap64 (a * b)).tdiv b) != a) = true) : ¬ In64 (a * b) := by
 intro hin;rw [mul_fwd a b h0 hin, IntWalk.wrap64_in _ ha] at h;simp at h
theorem mul_good {a b : Int} (ha : In64 a) (hb : In64 b) (h0 : b ≠ 0) (h1 : b = -1 -> a ≠ -9223372036854775808) (h : (wrap64 ((wrap64 (a * b)).tdiv b) != a) = false) : In64 (a * b) := by
 by_cases hb1 : b = -1
 · have := h1 hb1;subst hb1;unfold In64 at *;omega
 · refine mul_back a b h0 hb ?_;have hw : In64 (wrap64 (a * b)) := by unfold In64 wrap64; omega
   rw [IntWalk.wrap64_in _ (tdiv_in hw h0 hb1)] at h;simpa using h
def quoV (a b : Int) : Int := if b = 0 then 0 else chkV (a.tdiv b)
def quoE (a b : Int) : Int := if b = 0 then 11 else chkE (a.tdiv b)
def remV (a b : Int) : Int := if b = 0 then 0 else a.tmod b
def zeroE (b : Int) : Int := if b = 0 then 11 else 0
def adj (r b : Int) : Int := if r ≠ 0 /\ ¬ (r < 0 ↔ b < 0) then r + b else r
def modV (a b : Int) : Int := if b = 0 then 0 else adj (a.tmod b) b
def cmpV (a b : Int) : Int := if a < b then -1 else if b < a then 1 else 0
theorem ans_in {x v : Int} (hx : In64 x) (hv : v = x) : Ending.returned (.tuple #[.int .i64 v, .int .i64 0]) = .returned (.tuple #[.int .i64 (chkV x), .int .i64 (chkE x)]) := by
 rw [chkV_in hx, chkE_in hx, hv]
theorem ans_out {x : Int} (hx : ¬ In64 x) : Ending.returned (.tuple #[.int .i64 0, .int .i64 10]) = .returned (.tuple #[.int .i64 (chkV x), .int .i64 (chkE x)]) := by
 rw [chkV_out hx, chkE_out hx]
theorem ans_eq {v e v' e' : Int} (hv : v = v') (he : e = e') : Ending.returned (.tuple #[.int .i64 v, .int .i64 e]) = .returned (.tuple #[.int .i64 v', .int .i64 e']) := by
 rw [hv, he]
theorem ret_int {a b : Int} (h : a = b) : Ending.returned (.int .i64 a) = .returned (.int .i64 b) := by rw [h]
set_option maxHeartbeats 400000 in
theorem num_Sub (a b : Int) (w : World) (ha : In64 a) (hb : In64 b) :
 Calls Tryz.prog 153 #[.int .i64 a, .int .i64 b] w fun e w' => e = .returned (.tuple #[.int .i64 (chkV (a - b)), .int .i64 (chkE (a - b))]) /\ w = w' := by
 have ha' := ha;have hb' := hb;unfold In64 at ha hb;obtain ⟨ha1, ha2⟩ := ha;obtain ⟨hb1, hb2⟩ := hb;go_enter Tryz.func153, Tryz.ntmps153;go_wp2
 · go_ret2;exact ⟨ans_out (sub_over ha' hb' ‹_›), rfl⟩
 · go_ret2;have h := sub_good ha' hb' ‹_›;exact ⟨ans_in h (IntWalk.wrap64_in _ h), rfl⟩
set_option maxHeartbeats 400000 in
theorem num_Neg (a : Int) (w : World) (ha : In64 a) :
 Calls Tryz.prog 135 #[.int .i64 a] w fun e w' => e = .returned (.tuple #[.int .i64 (chkV (-a)), .int .i64 (chkE (-a))]) /\ w = w' := by
 unfold In64 at ha;obtain ⟨ha1, ha2⟩ := ha;go_enter Tryz.func135, Tryz.ntmps135;go_wp2
 · go_ret2;rename_i h
   have h' : a = -9223372036854775808 := by simpa using h
   exact ⟨ans_out (by unfold In64; omega), rfl⟩
 · go_ret2;rename_i h
   have h' : a ≠ -9223372036854775808 := by simpa using h
   have hi : In64 (-a) := by unfold In64; omega
   exact ⟨ans_in hi (by first | exact IntWalk.wrap64_in _ hi | rfl), rfl⟩
set_option maxHeartbeats 400000 in
theorem num_Mul (a b : Int) (w : World) (ha : In64 a) (hb : In64 b) :
 Calls Tryz.prog 152 #[.int .i64 a, .int .i64 b] w fun e w' => e = .returned (.tuple #[.int .i64 (chkV (a * b)), .int .i64 (chkE (a * b))]) /\ w = w' := by
 have ha' := ha;have hb' := hb;unfold In64 at ha hb;obtain ⟨ha1, ha2⟩ := ha;obtain ⟨hb1, hb2⟩ := hb;by_cases h0 : b = 0
 · subst h0;go_enter Tryz.func152, Tryz.ntmps152;go_wp2;go_ret2;exact ⟨ans_in (by unfold In64; omega) (by omega), rfl⟩
 by_cases h1 : b = -1
 · subst h1;go_enter Tryz.func152, Tryz.ntmps152;go_wp2_with (go_at_call 135; refine (num_Neg _ _ ha').mono ?_; rintro e w' ⟨rfl, rfl⟩);go_ret2;exact ⟨ans_eq (congrArg chkV (show -a = a * -1 by omega)) (congrArg chkE (show -a = a * -1 by omega)), rfl⟩
 · have e0 : (b == 0) = false := by simpa using h0
   have e1 : (b == -1) = false := by simpa using h1
   go_enter Tryz.func152, Tryz.ntmps152;go_wp2_with fail
   · go_ret2;exact ⟨ans_out (mul_over ha' h0 ‹_›), rfl⟩
   · go_ret2;have h := mul_good ha' hb' h0 (fun h => absurd h h1) ‹_›;exact ⟨ans_in h (IntWalk.wrap64_in _ h), rfl⟩
set_option maxHeartbeats 400000 in
theorem ref_Sub (a b : Int) (w : World) (ha : In64 a) (hb : In64 b) :
 Calls Tryz.prog 103 #[.int .i64 a, .int .i64 b] w fun e w' => e = .returned (.tuple #[.int .i64 (chkV (a - b)), .int .i64 (chkE (a - b))]) /\ w = w' := by
 unfold In64 at ha hb;obtain ⟨ha1, ha2⟩ := ha;obtain ⟨hb1, hb2⟩ := hb;go_enter Tryz.func103, Tryz.ntmps103;go_wp2
 all_goals
  go_ret2;first
   | exact ⟨ans_in (by unfold In64; omega) rfl, rfl⟩
   | exact ⟨ans_out (by unfold In64; omega), rfl⟩
set_option maxHeartbeats 400000 in
theorem ref_Mul (a b : Int) (w : World) (ha : In64 a) (hb : In64 b) :
 Calls Tryz.prog 102 #[.int .i64 a, .int .i64 b] w fun e w' => e = .returned (.tuple #[.int .i64 (chkV (a * b)), .int .i64 (chkE (a * b))]) /\ w = w' := by
 have ha' := ha;have hb' := hb;unfold In64 at ha hb;obtain ⟨ha1, ha2⟩ := ha;obtain ⟨hb1, hb2⟩ := hb;by_cases h0 : b = 0
 · subst h0;go_enter Tryz.func102, Tryz.ntmps102;go_wp2
   all_goals
    go_ret2;exact ⟨ans_in (by unfold In64; omega) (by omega), rfl⟩
 by_cases g0 : a = 0
 · subst g0;go_enter Tryz.func102, Tryz.ntmps102;go_wp2;go_ret2;exact ⟨ans_in (by unfold In64; omega) (by omega), rfl⟩
 by_cases g1 : a = -1
 · subst g1;by_cases hl : b = -9223372036854775808
   · subst hl;go_enter Tryz.func102, Tryz.ntmps102;go_wp2;go_ret2;exact ⟨ans_out (by unfold In64; omega), rfl⟩
   · have e0 : (b == 0) = false := by simpa using h0
     have el : (b == -9223372036854775808) = false := by simpa using hl
     go_enter Tryz.func102, Tryz.ntmps102;go_wp2
     all_goals
      go_ret2;exact ⟨ans_in (by unfold In64; omega) (by omega), rfl⟩
 by_cases h1 : b = -1
 · subst h1;by_cases hl : a = -9223372036854775808
   · subst hl;go_enter Tryz.func102, Tryz.ntmps102;go_wp2;go_ret2;exact ⟨ans_out (by unfold In64; omega), rfl⟩
   · have e0 : (a == 0) = false := by simpa using g0
     have e1 : (a == -1) = false := by simpa using g1
     have el : (a == -9223372036854775808) = false := by simpa using hl
     have hlo : -9223372036854775807 <= a := by omega
     go_enter Tryz.func102, Tryz.ntmps102;go_wp2
     all_goals
      go_ret2;exact ⟨ans_in (by unfold In64; omega) (by omega), rfl⟩
 · have e0 : (b == 0) = false := by simpa using h0
   have e1 : (a == 0) = false := by simpa using g0
   have e2 : (a == -1) = false := by simpa using g1
   have e3 : (b == -1) = false := by simpa using h1
   go_enter Tryz.func102, Tryz.ntmps102;go_wp2
   · go_ret2;exact ⟨ans_out (mul_over ha' h0 ‹_›), rfl⟩
   · go_ret2;have h := mul_good ha' hb' h0 (fun h => absurd h h1) ‹_›;exact ⟨ans_in h (IntWalk.wrap64_in _ h), rfl⟩
set_option maxHeartbeats 400000 in
theorem ref_Neg (a : Int) (w : World) (ha : In64 a) :
 Calls Tryz.prog 104 #[.int .i64 a] w fun e w' => e = .returned (.tuple #[.int .i64 (chkV (-a)), .int .i64 (chkE (-a))]) /\ w = w' := by
 go_enter Tryz.func104, Tryz.ntmps104;go_wp2_with (go_at_call 103; refine (ref_Sub _ _ _ (by unfold In64; omega) ha).mono ?_; rintro e w' ⟨rfl, rfl⟩; rw [show 0 - a = -a by omega]);go_ret2;exact ⟨rfl, rfl⟩
def absI (a : Int) : Int := if 0 <= a then a else -a
def isDig (c : UInt8) : Bool := decide (48 <= c.toNat /\ c.toNat <= 57)
def val (l : List UInt8) : Int := l.foldl (fun n c => 10 * n + ((c.toNat : Int) - 48)) 0
def body : List UInt8 -> List UInt8
 | [] => []
 | c :: t => if c.toNat = 45 then t else c :: t
def neg : List UInt8 -> Bool
 | [] => false
 | c :: _ => decide (c.toNat = 45)
def readN (l : List UInt8) : Int := if neg l then -(val (body l)) else val (body l)
def readV (l : List UInt8) : Int := if body l = [] \/ (body l).all isDig = false then 0 else chkV (readN l)
def readE (l : List UInt8) : Int := if body l = [] \/ (body l).all isDig = false then 20 else chkE (readN l)
theorem val_snoc (l : List UInt8) (c : UInt8) : val (l ++ [c]) = 10 * val l + ((c.toNat : Int) - 48) := by
 unfold val;rw [List.foldl_append];rfl
theorem isDig_iff (c : UInt8) : isDig c = true ↔ 48 <= c.toNat /\ c.toNat <= 57 := by unfold isDig; simp
theorem isDig_not (c : UInt8) : isDig c = false ↔ c.toNat < 48 \/ 57 < c.toNat := by unfold isDig; simp; omega
theorem val_foldl_nonneg : ∀ (l : List UInt8) (n : Int), 0 <= n -> l.all isDig = true -> 0 <= l.foldl (fun n c => 10 * n + ((c.toNat : Int) - 48)) n
 | [], n, h, _ => h
 | c :: t, n, h, ha => by
  rw [List.all_cons, Bool.and_eq_true] at ha;have hc := (isDig_iff c).1 ha.1;exact val_foldl_nonneg t (10 * n + ((c.toNat : Int) - 48)) (by omega) ha.2
theorem val_nonneg {l : List UInt8} (h : l.all isDig = true) : 0 <= val l := val_foldl_nonneg l 0 (Int.le_refl 0) h
theorem body_snoc (p : List UInt8) (c : UInt8) (h : p = [] -> c.toNat ≠ 45) : body (p ++ [c]) = body p ++ [c] /\ neg (p ++ [c]) = neg p := by
 cases p with
 | nil =>
  have := h rfl;constructor
  · show (if c.toNat = 45 then [] else [c]) = [c]
    rw [if_neg this]
  · show decide (c.toNat = 45) = false
    simpa using this
 | cons x t =>
  constructor
  · show (if x.toNat = 45 then t ++ [c] else x :: (t ++ [c])) = (if x.toNat = 45 then t else x :: t) ++ [c]
    split <;> rfl
  · rfl
theorem body_bad (p t : List UInt8) (c : UInt8) (hc : isDig c = false) (h : p = [] -> c.toNat ≠ 45) : (body (p ++ c :: t)).all isDig = false := by
 cases p with
 | nil =>
  have := h rfl;show (if c.toNat = 45 then t else c :: t).all isDig = false
  rw [if_neg this, List.all_cons, hc, Bool.false_and]
 | cons x q =>
  show (if x.toNat = 45 then q ++ c :: t else x :: (q ++ c :: t)).all isDig = false
  split <;> simp [List.all_append, hc]
def St (p : List UInt8) (n e : Int) : Prop :=
 (body p).all isDig = true /\ ((e = 0 /\ n = -(val (body p)) /\ In64 n) \/ (e = 10 /\ n = 0 /\ ¬ In64 (-(val (body p)))))
theorem St_start : St [] 0 0 := ⟨rfl, .inl ⟨rfl, rfl, by unfold In64; omega⟩⟩
theorem St_nil {m k : Int} (h : St [] m k) : m = 0 /\ k = 0 := by
 obtain ⟨_, ⟨he, hn, _⟩ | ⟨_, _, hi⟩⟩ := h
 · exact ⟨hn, he⟩
 · exact absurd (show In64 (-(val (body []))) by show In64 0; unfold In64; omega) hi
theorem St_neg (c : UInt8) (h : c.toNat = 45) : St [c] 0 0 := by
 have e : body [c] = [] := by show (if c.toNat = 45 then [] else [c]) = []; rw [if_pos h]
 refine ⟨by rw [e]; rfl, .inl ⟨rfl, ?_, by unfold In64; omega⟩⟩;rw [e];rfl
theorem body_minus (c : UInt8) (h : c.toNat = 45) : body [c] = [] /\ neg [c] = true :=
 ⟨by show (if c.toNat = 45 then [] else [c]) = []; rw [if_pos h], by show decide (c.toNat = 45) = true; simpa using h⟩
theorem St_step {p : List UInt8} {n : Int} {c : UInt8} (h : St p n 0) (hc : isDig c = true) : St (p ++ [c]) (chkV (n * 10 - ((c.toNat : Int) - 48))) (chkE (n * 10 - ((c.toNat : Int) - 48))) := by
 obtain ⟨ha, ⟨_, hn, hi⟩ | ⟨he, _⟩⟩ := h
 · have hd := (isDig_iff c).1 hc;obtain ⟨e1, _⟩ := body_snoc p c (fun _ => by omega);have hx : n * 10 - ((c.toNat : Int) - 48) = -(val (body (p ++ [c]))) := by rw [e1, val_snoc, hn]; omega
   refine ⟨by rw [e1, List.all_append, ha]; simp [hc], ?_⟩;rw [hx];by_cases h : In64 (-(val (body (p ++ [c]))))
   · exact .inl ⟨chkE_in h, chkV_in h, by rw [chkV_in h]; exact h⟩
   · exact .inr ⟨chkE_out h, chkV_out h, h⟩
 · exact absurd he (by decide)
theorem St_over {p : List UInt8} {n : Int} {c : UInt8} (h : St p n 10) (hc : isDig c = true) : St (p ++ [c]) n 10 := by
 obtain ⟨ha, ⟨he, _⟩ | ⟨_, hn, hi⟩⟩ := h
 · exact absurd he (by decide)
 · have hd := (isDig_iff c).1 hc;obtain ⟨e1, _⟩ := body_snoc p c (fun _ => by omega);have h0 := val_nonneg ha;refine ⟨by rw [e1, List.all_append, ha]; simp [hc], .inr ⟨rfl, hn, ?_⟩⟩;rw [e1, val_snoc];unfold In64 at *;omega
theorem St_e {p : List UInt8} {n e : Int} (h : St p n e) : e = 0 \/ e = 10 := by
 obtain ⟨_, ⟨he, _⟩ | ⟨he, _⟩⟩ := h
 · exact .inl he
 · exact .inr he
theorem St_n {p : List UInt8} {n : Int} (h : St p n 0) : In64 n /\ n <= 0 := by
 obtain ⟨ha, ⟨_, hn, hi⟩ | ⟨he, _⟩⟩ := h
 · exact ⟨hi, by have := val_nonneg ha; omega⟩
 · exact absurd he (by decide)
theorem read_bad {l : List UInt8} (h : body l = [] \/ (body l).all isDig = false) : readV l = 0 /\ readE l = 20 := ⟨if_pos h, if_pos h⟩
theorem read_good {l : List UInt8} (h0 : body l ≠ []) (h : (body l).all isDig = true) : readV l = chkV (readN l) /\ readE l = chkE (readN l) := by
 have : ¬ (body l = [] \/ (body l).all isDig = false) := by simp [h0, h]
 exact ⟨if_neg this, if_neg this⟩
theorem read_over {l : List UInt8} {n : Int} (h0 : body l ≠ []) (h : St l n 10) : readV l = 0 /\ readE l = 10 := by
 obtain ⟨ha, ⟨he, _⟩ | ⟨_, hn, hi⟩⟩ := h
 · exact absurd he (by decide)
 · have hx := val_nonneg ha;have ho : ¬ In64 (readN l) := by
    unfold readN In64 at *;split <;> omega
   rw [(read_good h0 ha).1, (read_good h0 ha).2, chkV_out ho, chkE_out ho];exact ⟨rfl, rfl⟩
theorem read_neg {l : List UInt8} {n : Int} (h0 : body l ≠ []) (h : St l n 0) (hn : neg l = true) : readV l = n /\ readE l = 0 := by
 obtain ⟨ha, ⟨_, e, hi⟩ | ⟨he, _⟩⟩ := h
 · have : readN l = n := by unfold readN; rw [if_pos hn, e]
   rw [(read_good h0 ha).1, (read_good h0 ha).2, this, chkV_in hi, chkE_in hi];exact ⟨rfl, rfl⟩
 · exact absurd he (by decide)
theorem read_pos {l : List UInt8} {n : Int} (h0 : body l ≠ []) (h : St l n 0) (hn : neg l = false) : readV l = chkV (-n) /\ readE l = chkE (-n) := by
 obtain ⟨ha, ⟨_, e, hi⟩ | ⟨he, _⟩⟩ := h
 · have : readN l = -n := by unfold readN; rw [hn, e]; simp
   rw [(read_good h0 ha).1, (read_good h0 ha).2, this];exact ⟨rfl, rfl⟩
 · exact absurd he (by decide)
set_option maxHeartbeats 400000 in
theorem num_lay (n d : Int) (w : World) (hn : In64 n) (hn0 : n <= 0) (hd0 : 0 <= d) (hd : d <= 9) :
 Calls Tryz.prog 134 #[.int .i64 n, .int .i64 d] w fun e w' => e = .returned (.tuple #[.int .i64 (chkV (n * 10 - d)), .int .i64 (chkE (n * 10 - d))]) /\ w = w' := by
 by_cases h : In64 (n * 10)
 · have hM := num_Mul n 10 w hn (by unfold In64; omega);rw [chkV_in h, chkE_in h] at hM;have HM := Lib.hid hM;clear hM;have hS := num_Sub (n * 10) d w h (by unfold In64; omega);have HS := Lib.hid hS;clear hS;go_enter Tryz.func134, Tryz.ntmps134;go_wp2_with (first
    | (go_at_call 152; refine HM.out.mono ?_; rintro e w' ⟨rfl, rfl⟩)
    | (go_at_call 153; refine HS.out.mono ?_; rintro e w' ⟨rfl, rfl⟩))
   go_ret2;exact ⟨rfl, rfl⟩
 · have hM := num_Mul n 10 w hn (by unfold In64; omega);rw [chkV_out h, chkE_out h] at hM;have HM := Lib.hid hM;clear hM;go_enter Tryz.func134, Tryz.ntmps134;go_wp2_with (go_at_call 152; refine HM.out.mono ?_; rintro e w' ⟨rfl, rfl⟩);go_ret2;exact ⟨ans_out (by unfold In64 at *; omega), rfl⟩
theorem take_snoc (s : ByteArray) (k : Nat) (h : k < s.size) : s.data.toList.take (k + 1) = s.data.toList.take k ++ [s[k]] := by
 rw [List.take_succ_eq_append_getElem (by simpa using h)]; rfl
theorem take_drop (s : ByteArray) (k : Nat) (h : k < s.size) : s.data.toList = s.data.toList.take k ++ s[k] :: s.data.toList.drop (k + 1) := by
 have h1 : s.data.toList.drop k = s[k] :: s.data.toList.drop (k + 1) := List.drop_eq_getElem_cons (by simpa using h);rw [<- h1, List.take_append_drop]
theorem take_nil (s : ByteArray) (k : Nat) (h : k < s.size) : s.data.toList.take k = [] ↔ k = 0 := by
 have : s.data.toList.length = s.size := by simp
 rw [List.take_eq_nil_iff];constructor
 · rintro (h1 | h1)
   · exact h1
   · rw [h1] at this;have h2 : ([] : List UInt8).length = 0 := rfl;omega
 · exact .inl
set_option maxRecDepth 100000 in
set_option maxHeartbeats 1000000 in
theorem num_Read (s : ByteArray) (w : World) (hs : s.size <= maxLen) :
 Calls Tryz.prog 111 #[.string s] w fun e w' => e = .returned (.tuple #[.int .i64 (readV s.data.toList), .int .i64 (readE s.data.toList)]) /\ Below w.heap.size w w' := by
 have hs1 : s.size <= 9223372036854775807 := by unfold maxLen at hs; omega
 clear hs;go_enter Tryz.func111, Tryz.ntmps111;go_wp2;go_loopw [4, 5, 6, 7] (fun b d n e wr => ∃ (pos : Nat) (m k : Int) (ng : Bool) (len : Nat), pos <= s.size /\ wr.heap[w.heap.size]? = some (.stringIter s pos) /\ Below w.heap.size w wr /\
  b = .bool ng /\ d = .int .i64 (len : Nat) /\ n = .int .i64 m /\ e = .int .i64 k /\ St (s.data.toList.take pos) m k /\ Hid (neg (s.data.toList.take pos) = ng) /\ Hid ((body (s.data.toList.take pos)).length = len) /\ len <= pos)
  (fun _ _ _ _ wr => s.size - wr.iterPos w.heap.size)
 case atStart =>
  exact ⟨0, 0, 0, false, 0, Nat.zero_le _, by simpa using World.iter_heap w s 0, (Below.refl _ w).alloc (Nat.le_refl _) _, rfl, rfl, rfl, rfl, St_start, Lib.hid rfl, Lib.hid rfl, Nat.le_refl _⟩
 case round =>
  obtain ⟨pos, m, k, ng, len, hpos, hit, hbw, rfl, rfl, rfl, rfl, hst, hng, hlen, hlp⟩ := hrel;have hsz : w.heap.size < wr.heap.size := (Array.getElem?_eq_some_iff.1 hit).1;by_cases hp : pos < s.size
  · by_cases ha : (s[pos]'hp).toNat < 128
    · have hnx : ∀ ty, (Instr.next (.pointer (some ⟨w.heap.size, 0, none⟩)) true ty).run Tryz.prog wr = _ := fun ty => Lib.run_next_ascii_at wr w.heap.size s pos ty hit hp ha;have hit2 := Lib.iterAt_heap wr w.heap.size s pos (pos + 1) hit;have hbw2 := Lib.below_iterAt hbw (k := w.heap.size) (Nat.le_refl _) s (pos + 1);have hts := Lib.hid (take_snoc s pos hp);have htd := Lib.hid (take_drop s pos hp);have htn := Lib.hid (take_nil s pos hp);generalize wr.iterAt w.heap.size s (pos + 1) = W2 at hnx hit2 hbw2;generalize s[pos] = c at *;have hc0 : (0 : Int) <= (c.toNat : Int) := by omega
      have hc1 : (c.toNat : Int) < 128 := by omega
      by_cases hz : pos = 0 /\ c.toNat = 45
      · obtain ⟨rfl, hc⟩ := hz;have e1 : ((c.toNat : Int) == 45) = true := by simp; omega
        obtain ⟨rfl, rfl⟩ := St_nil hst;have hl0 : len = 0 := hlen.out.symm;subst hl0;have hx : s.data.toList.take (0 + 1) = [c] := hts.out;have hx1 := Lib.hid hx;clear hx hts hst hng hlen;go_wp2;go_roundw
        case rel =>
         exact ⟨0 + 1, 0, 0, true, 0, by omega, hit2, hbw2, rfl, rfl, rfl, rfl, by rw [hx1.out]; exact St_neg c hc, Lib.hid (by rw [hx1.out]; exact (body_minus c hc).2), Lib.hid (by rw [hx1.out, (body_minus c hc).1]; rfl), by omega⟩
        case measure =>
         simp only [World.iterPos, hit2, hit]
         omega
      · have hcz : s.data.toList.take pos = [] -> c.toNat ≠ 45 := fun h1 h2 => hz ⟨htn.out.1 h1, h2⟩;have HCZ := Lib.hid hcz;by_cases hd : isDig c = true
        · have hd' := (isDig_iff c).1 hd;have HD := Lib.hid hd;clear hd hz hcz;obtain ⟨hd1, hd2⟩ := hd';have e1 : ((c.toNat : Int) == 45) = false := by simp; omega
          have hb := body_snoc _ c HCZ.out;have hS : k = 0 -> St (s.data.toList.take (pos + 1)) (chkV (m * 10 - ((c.toNat : Int) - 48))) (chkE (m * 10 - ((c.toNat : Int) - 48))) := by
           rintro rfl;rw [hts.out];exact St_step hst HD.out
          have hS2 : k = 10 -> St (s.data.toList.take (pos + 1)) m 10 := by
           rintro rfl;rw [hts.out];exact St_over hst HD.out
          rw [<- hts.out] at hb;have hb1 := Lib.hid hb.1;have hb2 := Lib.hid hb.2;clear hb;have HS := Lib.hid hS;have HS2 := Lib.hid hS2;have HST := Lib.hid hst;clear hS hS2 hst;have hk := St_e HST.out;by_cases hz : pos = 0
          all_goals
           first
            | (have e0 : ((pos : Int) == 0) = true := by (simp; omega))
            | (have e0 : ((pos : Int) == 0) = false := by (simp; omega))
           clear hz;rcases hk with rfl | rfl
           · go_wp2_with (go_at_call 134; refine (num_lay _ _ _ (St_n HST.out).1 (St_n HST.out).2 (by omega) (by omega)).mono ?_; rintro e w' ⟨rfl, rfl⟩);go_roundw
             case rel =>
              exact ⟨pos + 1, _, _, ng, len + 1, by omega, hit2, hbw2, rfl, by go_num, rfl, rfl, HS.out (by first | rfl | trivial), Lib.hid (by rw [hb2.out]; exact hng.out), Lib.hid (by rw [hb1.out, List.length_append, hlen.out]; rfl), by omega⟩
             case measure =>
              simp only [World.iterPos, hit2, hit]
              omega
           · go_wp2_with fail;go_roundw
             case rel =>
              exact ⟨pos + 1, _, _, ng, len + 1, by omega, hit2, hbw2, rfl, by go_num, rfl, rfl, HS2.out (by first | rfl | trivial), Lib.hid (by rw [hb2.out]; exact hng.out), Lib.hid (by rw [hb1.out, List.length_append, hlen.out]; rfl), by omega⟩
             case measure =>
              simp only [World.iterPos, hit2, hit]
              omega
        · have hd' := (isDig_not c).1 (by simpa using hd);have hbad : (body s.data.toList).all isDig = false := by
           rw [htd.out];exact body_bad _ _ c (by simpa using hd) HCZ.out
          have hR := Lib.hid (read_bad (.inr hbad));clear hbad hd hcz hst hng hlen hts htd htn HCZ;by_cases hp0 : pos = 0
          · have e0 : ((pos : Int) == 0) = true := by simp; omega
            have e1 : ((c.toNat : Int) == 45) = false := by simp; omega
            clear hz hp0;rcases hd' with hd' | hd'
            all_goals
             go_wp2;go_ret2;exact ⟨ans_eq hR.out.1.symm hR.out.2.symm, hbw2⟩
          · have e0 : ((pos : Int) == 0) = false := by simp; omega
            clear hz hp0;rcases hd' with hd' | hd'
            all_goals
             go_wp2;go_ret2;exact ⟨ans_eq hR.out.1.symm hR.out.2.symm, hbw2⟩
    · have hnx : ∀ ty, (Instr.next (.pointer (some ⟨w.heap.size, 0, none⟩)) true ty).run Tryz.prog wr = _ := fun ty => Lib.run_next_any_at wr w.heap.size s pos ty hit hp;have hhi := (decode_high s pos hp (by omega)).1;have hle := decode_le s pos;have hbw2 := Lib.below_iterAt hbw (k := w.heap.size) (Nat.le_refl _) s (pos + (Utf8.decode s pos).2);have hbad : (body s.data.toList).all isDig = false := by
       rw [take_drop s pos hp];exact body_bad _ _ _ ((isDig_not _).2 (by omega)) (fun _ => by omega)
      have hR := Lib.hid (read_bad (.inr hbad));clear hbad hst hng hlen ha;generalize wr.iterAt w.heap.size s (pos + (Utf8.decode s pos).2) = W2 at hnx hbw2;generalize (Utf8.decode s pos).1 = c at *;have e1 : ((c : Int) == 45) = false := by simp; omega
      by_cases hp0 : pos = 0
      · have e0 : ((pos : Int) == 0) = true := by simp; omega
        clear hp0;go_wp2;go_ret2;exact ⟨ans_eq hR.out.1.symm hR.out.2.symm, hbw2⟩
      · have e0 : ((pos : Int) == 0) = false := by simp; omega
        clear hp0;go_wp2;go_ret2;exact ⟨ans_eq hR.out.1.symm hR.out.2.symm, hbw2⟩
  · have hnx : ∀ ty, (Instr.next (.pointer (some ⟨w.heap.size, 0, none⟩)) true ty).run Tryz.prog wr = _ := fun ty => Lib.run_next_end_at wr w.heap.size s pos ty hit hp;have hall : s.data.toList.take pos = s.data.toList := List.take_of_length_le (by simp; omega);rw [hall] at hst hng hlen;clear hall;have HST := Lib.hid hst;clear hst;by_cases hl0 : len = 0
    · have e0 : ((len : Int) == 0) = true := by simp; omega
      have hR := Lib.hid (read_bad (.inl (List.eq_nil_of_length_eq_zero (hlen.out.trans hl0))));clear hl0 hlen hng;go_wp2;go_ret2;exact ⟨ans_eq hR.out.1.symm hR.out.2.symm, hbw⟩
    · have e0 : ((len : Int) == 0) = false := by simp; omega
      have hne : body s.data.toList ≠ [] := fun h => hl0 (by rw [<- hlen.out, h]; rfl);have HNE := Lib.hid hne;clear hne hl0;rcases St_e HST.out with rfl | rfl
      · cases ng
        · go_wp2_with (go_at_call 135; refine (num_Neg _ _ (St_n HST.out).1).mono ?_; rintro e w' ⟨rfl, rfl⟩);go_ret2;have hR := read_pos HNE.out HST.out hng.out;exact ⟨ans_eq hR.1.symm hR.2.symm, hbw⟩
        · go_wp2_with fail;go_ret2;have hR := read_neg HNE.out HST.out hng.out;exact ⟨ans_eq hR.1.symm hR.2.symm, hbw⟩
      · go_wp2_with fail;go_ret2;have hR := read_over HNE.out HST.out;exact ⟨ans_eq hR.1.symm hR.2.symm, hbw⟩
theorem ofNat_toNat (k : Nat) (h : k <= 9) : (UInt8.ofNat (48 + k)).toNat = 48 + k := by
 rw [UInt8.toNat_ofNat'];omega
theorem dig_isDig (k : Nat) (h : k <= 9) : isDig (UInt8.ofNat (48 + k)) = true := by
 rw [isDig_iff, ofNat_toNat k h];omega
theorem decDigits_all (u : Nat) : (Lib.decDigits u).all isDig = true := by
 induction u using Nat.strongRecOn with
 | _ u ih =>
  rw [Lib.decDigits];split
  · rw [List.all_cons, dig_isDig u (by omega), List.all_nil];rfl
  · rw [List.all_append, ih (u / 10) (by omega), List.all_cons, dig_isDig (u % 10) (by omega), List.all_nil];rfl
theorem decDigits_ne (u : Nat) : Lib.decDigits u ≠ [] := by
 rw [Lib.decDigits];split <;> simp
theorem itoa_pos (a : Int) (h : 0 <= a) : Lib.itoa a = Lib.decDigits a.toNat := by
 obtain ⟨u, rfl⟩ := Int.eq_ofNat_of_zero_le h;exact Lib.itoa_nonneg u
theorem itoa_neg' (a : Int) (h : a < 0) : Lib.itoa a = 45 :: Lib.decDigits (-a).toNat := by
 obtain ⟨u, hu⟩ := Int.eq_ofNat_of_zero_le (show 0 <= -a by omega);have : a = -(u : Int) := by omega
 rw [this, Lib.itoa_neg u (by omega)];simp
end Go.Proofs.YtlbdocdjijhkbaaGreatDoor
