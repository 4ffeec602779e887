import Derived.IntWalk
import Derived.Test.YtinefdlkajnomaaGreatDoorChecked
import Derived.WalkKit
import Derived.WalkSpells
import Derived.Lib.Hide
import Derived.Lib.ItoaMem
import Derived.Lib.OthersKept
import Derived.Laws.RangeAny
import Derived.Laws.RangeString
import Derived.Lib.ItoaLen
import Derived.Laws.IdiomStrings
import Derived.Test.YtinefdlkajnomaaGreatDoorCharM
import Derived.Lib.SpaceUEq
namespace Go.Proofs.YtinefdlkajnomaaGreatDoor
open Go.RowKit
def In64 (x : Int) : Prop := -9223372036854775808 <= x /\ x <= 9223372036854775807
def chkV (x : Int) : Int := if -9223372036854775808 <= x /\ x <= 9223372036854775807 then x else 0
def chkE (x : Int) : Int := if -9223372036854775808 <= x /\ x <= 9223372036854775807 then 0 else 10
theorem chkV_in {x : Int} (h : In64 x) : chkV x = x := if_pos h
theorem chkE_in {x : Int} (h : In64 x) : chkE x = 0 := if_pos h
theorem chkV_out {x : Int} (h : ¬ In64 x) : chkV x = 0 := if_neg h
theorem chkE_out {x : Int} (h : ¬ In64 x) : chkE x = 10 := if_neg h
theorem tdiv_mul (a b : Int) (hb : b ≠ 0) : (a * b).tdiv b = a := Int.mul_tdiv_cancel a hb
theorem tdiv_off (p b : Int) : p = b * p.tdiv b + p.tmod b := (Int.mul_tdiv_add_tmod p b).symm
theorem tmod_lt (p b : Int) (hb : b ≠ 0) : -(b.natAbs : Int) < p.tmod b /\ p.tmod b < b.natAbs := by
 have h := Int.natAbs_tmod p b;have h2 : p.natAbs % b.natAbs < b.natAbs := Nat.mod_lt _ (by omega);omega
theorem mul_back (a b : Int) (hb : b ≠ 0) (hb1 : In64 b) (h : (wrap64 (a * b)).tdiv b = a) : In64 (a * b) := by
 have h1 := tdiv_off (wrap64 (a * b)) b;have h2 := tmod_lt (wrap64 (a * b)) b hb;rw [h, Int.mul_comm b a] at h1;generalize (wrap64 (a * b)).tmod b = r at *;generalize a * b = p at *;unfold In64 at *;unfold wrap64 at h1;omega
theorem mul_fwd (a b : Int) (hb : b ≠ 0) (h : In64 (a * b)) : (wrap64 (a * b)).tdiv b = a := by
 rw [IntWalk.wrap64_in _ h, tdiv_mul a b hb]
theorem sub_over {a b : Int} (ha : In64 a) (hb : In64 b) (h : (!decide (0 < b) == decide (wrap64 (a - b) < a)) = true) : ¬ In64 (a - b) := by
 unfold In64 at *;by_cases h1 : 0 < b <;> by_cases h2 : wrap64 (a - b) < a <;> simp [h1, h2] at h <;> unfold wrap64 at h2 <;> omega
theorem sub_good {a b : Int} (ha : In64 a) (hb : In64 b) (h : (!decide (0 < b) == decide (wrap64 (a - b) < a)) = false) : In64 (a - b) := by
 unfold In64 at *;by_cases h1 : 0 < b <;> by_cases h2 : wrap64 (a - b) < a <;> simp [h1, h2] at h <;> unfold wrap64 at h2 <;> omega
theorem tdiv_in {p b : Int} (hp : In64 p) (h0 : b ≠ 0) (h1 : b ≠ -1) : In64 (p.tdiv b) := by
 by_cases hb : b = 1
 · subst hb; rw [Int.tdiv_one]; exact hp
 · have h : (p.tdiv b).natAbs = p.natAbs / b.natAbs := Int.natAbs_tdiv p b;have h2 : p.natAbs / b.natAbs <= p.natAbs / 2 := Nat.div_le_div_left (by omega) (by omega);rw [<- h] at h2;clear h;generalize p.tdiv b = e at h2 ⊢;unfold In64 at *;omega
theorem mul_over {a b : Int} (ha : In64 a) (h0 : b ≠ 0) (h : (wrap64 ((wrap64 (a * b)).tdiv b) != a) = true) : ¬ In64 (a * b) := by
 intro hin;rw [mul_fwd a b h0 hin, IntWalk.wrap64_in _ ha] at h;simp at h
theorem mul_good {a b : Int} (ha : In64 a) (hb : In64 b) (h0 : b ≠ 0) (h1 : b = -1 -> a ≠ -9223372036854775808) (h : (wrap64 ((wrap64 (a * b)).tdiv b) != a) = false) : In64 (a * b) := by
 by_cases hb1 : b = -1
 · have := h1 hb1;subst hb1;unfold In64 at *;omega
 · refine mul_back a b h0 hb ?_;have hw : In64 (wrap64 (a * b)) := by unfold In64 wrap64; omega
   rw [IntWalk.wrap64_in _ (tdiv_in hw h0 hb1)] at h;simpa using h
def quoV (a b : Int) : Int := if b = 0 then 0 else chkV (a.tdiv b)
def quoE (a b : Int) : Int := if b = 0 then 11 else chkE (a.tdiv b)
def remV (a b : Int) : Int := if b = 0 then 0 else a.tmod b
def zeroE (b : Int) : Int := if b = 0 then 11 else 0
def adj (r b : Int) : Int := if r ≠ 0 /\ ¬ (r < 0 ↔ b < 0) then r + b else r
def modV (a b : Int) : Int := if b = 0 then 0 else adj (a.tmod b) b
def cmpV (a b : Int) : Int := if a < b then -1 else if b < a then 1 else 0
theorem ans_in {x v : Int} (hx : In64 x) (hv : v = x) : Ending.returned (.tuple #[.int .i64 v, .int .i64 0]) = .returned (.tuple #[.int .i64 (chkV x), .int .i64 (chkE x)]) := by
 rw [chkV_in hx, chkE_in hx, hv]
theorem ans_out {x : Int} (hx : ¬ In64 x) : Ending.returned (.tuple #[.int .i64 0, .int .i64 10]) = .returned (.tuple #[.int .i64 (chkV x), .int .i64 (chkE x)]) := by
 rw [chkV_out hx, chkE_out hx]
theorem ans_eq {v e v' e' : Int} (hv : v = v') (he : e = e') : Ending.returned (.tuple #[.int .i64 v, .int .i64 e]) = .returned (.tuple #[.int .i64 v', .int .i64 e']) := by
 rw [hv, he]
theorem ret_int {a b : Int} (h : a = b) : Ending.returned (.int .i64 a) = .returned (.int .i64 b) := by rw [h]
set_option maxHeartbeats 400000 in
theorem num_Sub (a b : Int) (w : World) (ha : In64 a) (hb : In64 b) :
 Calls Tryz.prog 183 #[.int .i64 a, .int .i64 b] w fun e w' => e = .returned (.tuple #[.int .i64 (chkV (a - b)), .int .i64 (chkE (a - b))]) /\ w = w' := by
 have ha' := ha;have hb' := hb;unfold In64 at ha hb;obtain ⟨ha1, ha2⟩ := ha;obtain ⟨hb1, hb2⟩ := hb;go_enter Tryz.func183, Tryz.ntmps183;go_wp2
 · go_ret2;exact ⟨ans_out (sub_over ha' hb' ‹_›), rfl⟩
 · go_ret2;have h := sub_good ha' hb' ‹_›;exact ⟨ans_in h (IntWalk.wrap64_in _ h), rfl⟩
set_option maxHeartbeats 400000 in
theorem num_Neg (a : Int) (w : World) (ha : In64 a) :
 Calls Tryz.prog 165 #[.int .i64 a] w fun e w' => e = .returned (.tuple #[.int .i64 (chkV (-a)), .int .i64 (chkE (-a))]) /\ w = w' := by
 unfold In64 at ha;obtain ⟨ha1, ha2⟩ := ha;go_enter Tryz.func165, Tryz.ntmps165;go_wp2
 · go_ret2;rename_i h
   have h' : a = -9223372036854775808 := by simpa using h
   exact ⟨ans_out (by unfold In64; omega), rfl⟩
 · go_ret2;rename_i h
   have h' : a ≠ -9223372036854775808 := by simpa using h
   have hi : In64 (-a) := by unfold In64; omega
   exact ⟨ans_in hi (by first | exact IntWalk.wrap64_in _ hi | rfl), rfl⟩
set_option maxHeartbeats 400000 in
theorem num_Mul (a b : Int) (w : World) (ha : In64 a) (hb : In64 b) :
 Calls Tryz.prog 182 #[.int .i64 a, .int .i64 b] w fun e w' => e = .returned (.tuple #[.int .i64 (chkV (a * b)), .int .i64 (chkE (a * b))]) /\ w = w' := by
 have ha' := ha;have hb' := hb;unfold In64 at ha hb;obtain ⟨ha1, ha2⟩ := ha;obtain ⟨hb1, hb2⟩ := hb;by_cases h0 : b = 0
 · subst h0;go_enter Tryz.func182, Tryz.ntmps182;go_wp2;go_ret2;exact ⟨ans_in (by unfold In64; omega) (by omega), rfl⟩
 by_cases h1 : b = -1
 · subst h1;go_enter Tryz.func182, Tryz.ntmps182;go_wp2_with (go_at_call 165; refine (num_Neg _ _ ha').mono ?_; rintro e w' ⟨rfl, rfl⟩);go_ret2;exact ⟨ans_eq (congrArg chkV (show -a = a * -1 by omega)) (congrArg chkE (show -a = a * -1 by omega)), rfl⟩
 · have e0 : (b == 0) = false := by simpa using h0
   have e1 : (b == -1) = false := by simpa using h1
   go_enter Tryz.func182, Tryz.ntmps182;go_wp2_with fail
   · go_ret2;exact ⟨ans_out (mul_over ha' h0 ‹_›), rfl⟩
   · go_ret2;have h := mul_good ha' hb' h0 (fun h => absurd h h1) ‹_›;exact ⟨ans_in h (IntWalk.wrap64_in _ h), rfl⟩
def absI (a : Int) : Int := if 0 <= a then a else -a
def isDig (c : UInt8) : Bool := decide (48 <= c.toNat /\ c.toNat <= 57)
def val (l : List UInt8) : Int := l.foldl (fun n c => 10 * n + ((c.toNat : Int) - 48)) 0
def body : List UInt8 -> List UInt8
 | [] => []
 | c :: t => if c.toNat = 45 then t else c :: t
def neg : List UInt8 -> Bool
 | [] => false
 | c :: _ => decide (c.toNat = 45)
def readN (l : List UInt8) : Int := if neg l then -(val (body l)) else val (body l)
def readV (l : List UInt8) : Int := if body l = [] \/ (body l).all isDig = false then 0 else chkV (readN l)
def readE (l : List UInt8) : Int := if body l = [] \/ (body l).all isDig = false then 20 else chkE (readN l)
theorem val_snoc (l : List UInt8) (c : UInt8) : val (l ++ [c]) = 10 * val l + ((c.toNat : Int) - 48) := by
 unfold val;rw [List.foldl_append];rfl
theorem isDig_iff (c : UInt8) : isDig c = true ↔ 48 <= c.toNat /\ c.toNat <= 57 := by unfold isDig; simp
theorem isDig_not (c : UInt8) : isDig c = false ↔ c.toNat < 48 \/ 57 < c.toNat := by unfold isDig; simp; omega
theorem val_foldl_nonneg : ∀ (l : List UInt8) (n : Int), 0 <= n -> l.all isDig = true -> 0 <= l.foldl (fun n c => 10 * n + ((c.toNat : Int) - 48)) n
 | [], n, h, _ => h
 | c :: t, n, h, ha => by
  rw [List.all_cons, Bool.and_eq_true] at ha;have hc := (isDig_iff c).1 ha.1;exact val_foldl_nonneg t (10 * n + ((c.toNat : Int) - 48)) (by omega) ha.2
theorem val_nonneg {l : List UInt8} (h : l.all isDig = true) : 0 <= val l := val_foldl_nonneg l 0 (Int.le_refl 0) h
theorem body_snoc (p : List UInt8) (c : UInt8) (h : p = [] -> c.toNat ≠ 45) : body (p ++ [c]) = body p ++ [c] /\ neg (p ++ [c]) = neg p := by
 cases p with
 | nil =>
  have := h rfl;constructor
  · show (if c.toNat = 45 then [] else [c]) = [c]
    rw [if_neg this]
  · show decide (c.toNat = 45) = false
    simpa using this
 | cons x t =>
  constructor
  · show (if x.toNat = 45 then t ++ [c] else x :: (t ++ [c])) = (if x.toNat = 45 then t else x :: t) ++ [c]
    split <;> rfl
  · rfl
theorem body_bad (p t : List UInt8) (c : UInt8) (hc : isDig c = false) (h : p = [] -> c.toNat ≠ 45) : (body (p ++ c :: t)).all isDig = false := by
 cases p with
 | nil =>
  have := h rfl;show (if c.toNat = 45 then t else c :: t).all isDig = false
  rw [if_neg this, List.all_cons, hc, Bool.false_and]
 | cons x q =>
  show (if x.toNat = 45 then q ++ c :: t else x :: (q ++ c :: t)).all isDig = false
  split <;> simp [List.all_append, hc]
def St (p : List UInt8) (n e : Int) : Prop :=
 (body p).all isDig = true /\ ((e = 0 /\ n = -(val (body p)) /\ In64 n) \/ (e = 10 /\ n = 0 /\ ¬ In64 (-(val (body p)))))
theorem St_start : St [] 0 0 := ⟨rfl, .inl ⟨rfl, rfl, by unfold In64; omega⟩⟩
theorem St_nil {m k : Int} (h : St [] m k) : m = 0 /\ k = 0 := by
 obtain ⟨_, ⟨he, hn, _⟩ | ⟨_, _, hi⟩⟩ := h
 · exact ⟨hn, he⟩
 · exact absurd (show In64 (-(val (body []))) by show In64 0; unfold In64; omega) hi
theorem St_neg (c : UInt8) (h : c.toNat = 45) : St [c] 0 0 := by
 have e : body [c] = [] := by show (if c.toNat = 45 then [] else [c]) = []; rw [if_pos h]
 refine ⟨by rw [e]; rfl, .inl ⟨rfl, ?_, by unfold In64; omega⟩⟩;rw [e];rfl
theorem body_minus (c : UInt8) (h : c.toNat = 45) : body [c] = [] /\ neg [c] = true :=
 ⟨by show (if c.toNat = 45 then [] else [c]) = []; rw [if_pos h], by show decide (c.toNat = 45) = true; simpa using h⟩
theorem St_step {p : List UInt8} {n : Int} {c : UInt8} (h : St p n 0) (hc : isDig c = true) : St (p ++ [c]) (chkV (n * 10 - ((c.toNat : Int) - 48))) (chkE (n * 10 - ((c.toNat : Int) - 48))) := by
 obtain ⟨ha, ⟨_, hn, hi⟩ | ⟨he, _⟩⟩ := h
 · have hd := (isDig_iff c).1 hc;obtain ⟨e1, _⟩ := body_snoc p c (fun _ => by omega);have hx : n * 10 - ((c.toNat : Int) - 48) = -(val (body (p ++ [c]))) := by rw [e1, val_snoc, hn]; omega
   refine ⟨by rw [e1, List.all_append, ha]; simp [hc], ?_⟩;rw [hx];by_cases h : In64 (-(val (body (p ++ [c]))))
   · exact .inl ⟨chkE_in h, chkV_in h, by rw [chkV_in h]; exact h⟩
   · exact .inr ⟨chkE_out h, chkV_out h, h⟩
 · exact absurd he (by decide)
theorem St_over {p : List UInt8} {n : Int} {c : UInt8} (h : St p n 10) (hc : isDig c = true) : St (p ++ [c]) n 10 := by
 obtain ⟨ha, ⟨he, _⟩ | ⟨_, hn, hi⟩⟩ := h
 · exact absurd he (by decide)
 · have hd := (isDig_iff c).1 hc;obtain ⟨e1, _⟩ := body_snoc p c (fun _ => by omega);have h0 := val_nonneg ha;refine ⟨by rw [e1, List.all_append, ha]; simp [hc], .inr ⟨rfl, hn, ?_⟩⟩;rw [e1, val_snoc];unfold In64 at *;omega
theorem St_e {p : List UInt8} {n e : Int} (h : St p n e) : e = 0 \/ e = 10 := by
 obtain ⟨_, ⟨he, _⟩ | ⟨he, _⟩⟩ := h
 · exact .inl he
 · exact .inr he
theorem St_n {p : List UInt8} {n : Int} (h : St p n 0) : In64 n /\ n <= 0 := by
 obtain ⟨ha, ⟨_, hn, hi⟩ | ⟨he, _⟩⟩ := h
 · exact ⟨hi, by have := val_nonneg ha; omega⟩
 · exact absurd he (by decide)
theorem read_bad {l : List UInt8} (h : body l = [] \/ (body l).all isDig = false) : readV l = 0 /\ readE l = 20 := ⟨if_pos h, if_pos h⟩
theorem read_good {l : List UInt8} (h0 : body l ≠ []) (h : (body l).all isDig = true) : readV l = chkV (readN l) /\ readE l = chkE (readN l) := by
 have : ¬ (body l = [] \/ (body l).all isDig = false) := by simp [h0, h]
 exact ⟨if_neg this, if_neg this⟩
theorem read_over {l : List UInt8} {n : Int} (h0 : body l ≠ []) (h : St l n 10) : readV l = 0 /\ readE l = 10 := by
 obtain ⟨ha, ⟨he, _⟩ | ⟨_, hn, hi⟩⟩ := h
 · exact absurd he (by decide)
 · have hx := val_nonneg ha;have ho : ¬ In64 (readN l) := by
    unfold readN In64 at *;split <;> omega
   rw [(read_good h0 ha).1, (read_good h0 ha).2, chkV_out ho, chkE_out ho];exact ⟨rfl, rfl⟩
theorem read_neg {l : List UInt8} {n : Int} (h0 : body l ≠ []) (h : St l n 0) (hn : neg l = true) : readV l = n /\ readE l = 0 := by
 obtain ⟨ha, ⟨_, e, hi⟩ | ⟨he, _⟩⟩ := h
 · have : readN l = n := by unfold readN; rw [if_pos hn, e]
   rw [(read_good h0 ha).1, (read_good h0 ha).2, this, chkV_in hi, chkE_in hi];exact ⟨rfl, rfl⟩
 · exact absurd he (by decide)
theorem read_pos {l : List UInt8} {n : Int} (h0 : body l ≠ []) (h : St l n 0) (hn : neg l = false) : readV l = chkV (-n) /\ readE l = chkE (-n) := by
 obtain ⟨ha, ⟨_, e, hi⟩ | ⟨he, _⟩⟩ := h
 · have : readN l = -n := by unfold readN; rw [hn, e]; simp
   rw [(read_good h0 ha).1, (read_good h0 ha).2, this];exact ⟨rfl, rfl⟩
 · exact absurd he (by decide)
set_option maxHeartbeats 400000 in
theorem num_lay (n d : Int) (w : World) (hn : In64 n) (hn0 : n <= 0) (hd0 : 0 <= d) (hd : d <= 9) :
 Calls Tryz.prog 164 #[.int .i64 n, .int .i64 d] w fun e w' => e = .returned (.tuple #[.int .i64 (chkV (n * 10 - d)), .int .i64 (chkE (n * 10 - d))]) /\ w = w' := by
 by_cases h : In64 (n * 10)
 · have hM := num_Mul n 10 w hn (by unfold In64; omega);rw [chkV_in h, chkE_in h] at hM;have HM := Lib.hid hM;clear hM;have hS := num_Sub (n * 10) d w h (by unfold In64; omega);have HS := Lib.hid hS;clear hS;go_enter Tryz.func164, Tryz.ntmps164;go_wp2_with (first
    | (go_at_call 182; refine HM.out.mono ?_; rintro e w' ⟨rfl, rfl⟩)
    | (go_at_call 183; refine HS.out.mono ?_; rintro e w' ⟨rfl, rfl⟩))
   go_ret2;exact ⟨rfl, rfl⟩
 · have hM := num_Mul n 10 w hn (by unfold In64; omega);rw [chkV_out h, chkE_out h] at hM;have HM := Lib.hid hM;clear hM;go_enter Tryz.func164, Tryz.ntmps164;go_wp2_with (go_at_call 182; refine HM.out.mono ?_; rintro e w' ⟨rfl, rfl⟩);go_ret2;exact ⟨ans_out (by unfold In64 at *; omega), rfl⟩
theorem take_snoc (s : ByteArray) (k : Nat) (h : k < s.size) : s.data.toList.take (k + 1) = s.data.toList.take k ++ [s[k]] := by
 rw [List.take_succ_eq_append_getElem (by simpa using h)]; rfl
theorem take_drop (s : ByteArray) (k : Nat) (h : k < s.size) : s.data.toList = s.data.toList.take k ++ s[k] :: s.data.toList.drop (k + 1) := by
 have h1 : s.data.toList.drop k = s[k] :: s.data.toList.drop (k + 1) := List.drop_eq_getElem_cons (by simpa using h);rw [<- h1, List.take_append_drop]
theorem take_nil (s : ByteArray) (k : Nat) (h : k < s.size) : s.data.toList.take k = [] ↔ k = 0 := by
 have : s.data.toList.length = s.size := by simp
 rw [List.take_eq_nil_iff];constructor
 · rintro (h1 | h1)
   · exact h1
   · rw [h1] at this;have h2 : ([] : List UInt8).length = 0 := rfl;omega
 · exact .inl
set_option maxRecDepth 100000 in
set_option maxHeartbeats 1000000 in
theorem num_Read (s : ByteArray) (w : World) (hs : s.size <= maxLen) :
 Calls Tryz.prog 136 #[.string s] w fun e w' => e = .returned (.tuple #[.int .i64 (readV s.data.toList), .int .i64 (readE s.data.toList)]) /\ Below w.heap.size w w' := by
 have hs1 : s.size <= 9223372036854775807 := by unfold maxLen at hs; omega
 clear hs;go_enter Tryz.func136, Tryz.ntmps136;go_wp2;go_loopw [4, 5, 6, 7] (fun b d n e wr => ∃ (pos : Nat) (m k : Int) (ng : Bool) (len : Nat), pos <= s.size /\ wr.heap[w.heap.size]? = some (.stringIter s pos) /\ Below w.heap.size w wr /\
  b = .bool ng /\ d = .int .i64 (len : Nat) /\ n = .int .i64 m /\ e = .int .i64 k /\ St (s.data.toList.take pos) m k /\ Hid (neg (s.data.toList.take pos) = ng) /\ Hid ((body (s.data.toList.take pos)).length = len) /\ len <= pos)
  (fun _ _ _ _ wr => s.size - wr.iterPos w.heap.size)
 case atStart =>
  exact ⟨0, 0, 0, false, 0, Nat.zero_le _, by simpa using World.iter_heap w s 0, (Below.refl _ w).alloc (Nat.le_refl _) _, rfl, rfl, rfl, rfl, St_start, Lib.hid rfl, Lib.hid rfl, Nat.le_refl _⟩
 case round =>
  obtain ⟨pos, m, k, ng, len, hpos, hit, hbw, rfl, rfl, rfl, rfl, hst, hng, hlen, hlp⟩ := hrel;have hsz : w.heap.size < wr.heap.size := (Array.getElem?_eq_some_iff.1 hit).1;by_cases hp : pos < s.size
  · by_cases ha : (s[pos]'hp).toNat < 128
    · have hnx : ∀ ty, (Instr.next (.pointer (some ⟨w.heap.size, 0, none⟩)) true ty).run Tryz.prog wr = _ := fun ty => Lib.run_next_ascii_at wr w.heap.size s pos ty hit hp ha;have hit2 := Lib.iterAt_heap wr w.heap.size s pos (pos + 1) hit;have hbw2 := Lib.below_iterAt hbw (k := w.heap.size) (Nat.le_refl _) s (pos + 1);have hts := Lib.hid (take_snoc s pos hp);have htd := Lib.hid (take_drop s pos hp);have htn := Lib.hid (take_nil s pos hp);generalize wr.iterAt w.heap.size s (pos + 1) = W2 at hnx hit2 hbw2;generalize s[pos] = c at *;have hc0 : (0 : Int) <= (c.toNat : Int) := by omega
      have hc1 : (c.toNat : Int) < 128 := by omega
      by_cases hz : pos = 0 /\ c.toNat = 45
      · obtain ⟨rfl, hc⟩ := hz;have e1 : ((c.toNat : Int) == 45) = true := by simp; omega
        obtain ⟨rfl, rfl⟩ := St_nil hst;have hl0 : len = 0 := hlen.out.symm;subst hl0;have hx : s.data.toList.take (0 + 1) = [c] := hts.out;have hx1 := Lib.hid hx;clear hx hts hst hng hlen;go_wp2;go_roundw
        case rel =>
         exact ⟨0 + 1, 0, 0, true, 0, by omega, hit2, hbw2, rfl, rfl, rfl, rfl, by rw [hx1.out]; exact St_neg c hc, Lib.hid (by rw [hx1.out]; exact (body_minus c hc).2), Lib.hid (by rw [hx1.out, (body_minus c hc).1]; rfl), by omega⟩
        case measure =>
         simp only [World.iterPos, hit2, hit]
         omega
      · have hcz : s.data.toList.take pos = [] -> c.toNat ≠ 45 := fun h1 h2 => hz ⟨htn.out.1 h1, h2⟩;have HCZ := Lib.hid hcz;by_cases hd : isDig c = true
        · have hd' := (isDig_iff c).1 hd;have HD := Lib.hid hd;clear hd hz hcz;obtain ⟨hd1, hd2⟩ := hd';have e1 : ((c.toNat : Int) == 45) = false := by simp; omega
          have hb := body_snoc _ c HCZ.out;have hS : k = 0 -> St (s.data.toList.take (pos + 1)) (chkV (m * 10 - ((c.toNat : Int) - 48))) (chkE (m * 10 - ((c.toNat : Int) - 48))) := by
           rintro rfl;rw [hts.out];exact St_step hst HD.out
          have hS2 : k = 10 -> St (s.data.toList.take (pos + 1)) m 10 := by
           rintro rfl;rw [hts.out];exact St_over hst HD.out
          rw [<- hts.out] at hb;have hb1 := Lib.hid hb.1;have hb2 := Lib.hid hb.2;clear hb;have HS := Lib.hid hS;have HS2 := Lib.hid hS2;have HST := Lib.hid hst;clear hS hS2 hst;have hk := St_e HST.out;by_cases hz : pos = 0
          all_goals
           first
            | (have e0 : ((pos : Int) == 0) = true := by (simp; omega))
            | (have e0 : ((pos : Int) == 0) = false := by (simp; omega))
           clear hz;rcases hk with rfl | rfl
           · go_wp2_with (go_at_call 164; refine (num_lay _ _ _ (St_n HST.out).1 (St_n HST.out).2 (by omega) (by omega)).mono ?_; rintro e w' ⟨rfl, rfl⟩);go_roundw
             case rel =>
              exact ⟨pos + 1, _, _, ng, len + 1, by omega, hit2, hbw2, rfl, by go_num, rfl, rfl, HS.out (by first | rfl | trivial), Lib.hid (by rw [hb2.out]; exact hng.out), Lib.hid (by rw [hb1.out, List.length_append, hlen.out]; rfl), by omega⟩
             case measure =>
              simp only [World.iterPos, hit2, hit]
              omega
           · go_wp2_with fail;go_roundw
             case rel =>
              exact ⟨pos + 1, _, _, ng, len + 1, by omega, hit2, hbw2, rfl, by go_num, rfl, rfl, HS2.out (by first | rfl | trivial), Lib.hid (by rw [hb2.out]; exact hng.out), Lib.hid (by rw [hb1.out, List.length_append, hlen.out]; rfl), by omega⟩
             case measure =>
              simp only [World.iterPos, hit2, hit]
              omega
        · have hd' := (isDig_not c).1 (by simpa using hd);have hbad : (body s.data.toList).all isDig = false := by
           rw [htd.out];exact body_bad _ _ c (by simpa using hd) HCZ.out
          have hR := Lib.hid (read_bad (.inr hbad));clear hbad hd hcz hst hng hlen hts htd htn HCZ;by_cases hp0 : pos = 0
          · have e0 : ((pos : Int) == 0) = true := by simp; omega
            have e1 : ((c.toNat : Int) == 45) = false := by simp; omega
            clear hz hp0;rcases hd' with hd' | hd'
            all_goals
             go_wp2;go_ret2;exact ⟨ans_eq hR.out.1.symm hR.out.2.symm, hbw2⟩
          · have e0 : ((pos : Int) == 0) = false := by simp; omega
            clear hz hp0;rcases hd' with hd' | hd'
            all_goals
             go_wp2;go_ret2;exact ⟨ans_eq hR.out.1.symm hR.out.2.symm, hbw2⟩
    · have hnx : ∀ ty, (Instr.next (.pointer (some ⟨w.heap.size, 0, none⟩)) true ty).run Tryz.prog wr = _ := fun ty => Lib.run_next_any_at wr w.heap.size s pos ty hit hp;have hhi := (decode_high s pos hp (by omega)).1;have hle := decode_le s pos;have hbw2 := Lib.below_iterAt hbw (k := w.heap.size) (Nat.le_refl _) s (pos + (Utf8.decode s pos).2);have hbad : (body s.data.toList).all isDig = false := by
       rw [take_drop s pos hp];exact body_bad _ _ _ ((isDig_not _).2 (by omega)) (fun _ => by omega)
      have hR := Lib.hid (read_bad (.inr hbad));clear hbad hst hng hlen ha;generalize wr.iterAt w.heap.size s (pos + (Utf8.decode s pos).2) = W2 at hnx hbw2;generalize (Utf8.decode s pos).1 = c at *;have e1 : ((c : Int) == 45) = false := by simp; omega
      by_cases hp0 : pos = 0
      · have e0 : ((pos : Int) == 0) = true := by simp; omega
        clear hp0;go_wp2;go_ret2;exact ⟨ans_eq hR.out.1.symm hR.out.2.symm, hbw2⟩
      · have e0 : ((pos : Int) == 0) = false := by simp; omega
        clear hp0;go_wp2;go_ret2;exact ⟨ans_eq hR.out.1.symm hR.out.2.symm, hbw2⟩
  · have hnx : ∀ ty, (Instr.next (.pointer (some ⟨w.heap.size, 0, none⟩)) true ty).run Tryz.prog wr = _ := fun ty => Lib.run_next_end_at wr w.heap.size s pos ty hit hp;have hall : s.data.toList.take pos = s.data.toList := List.take_of_length_le (by simp; omega);rw [hall] at hst hng hlen;clear hall;have HST := Lib.hid hst;clear hst;by_cases hl0 : len = 0
    · have e0 : ((len : Int) == 0) = true := by simp; omega
      have hR := Lib.hid (read_bad (.inl (List.eq_nil_of_length_eq_zero (hlen.out.trans hl0))));clear hl0 hlen hng;go_wp2;go_ret2;exact ⟨ans_eq hR.out.1.symm hR.out.2.symm, hbw⟩
    · have e0 : ((len : Int) == 0) = false := by simp; omega
      have hne : body s.data.toList ≠ [] := fun h => hl0 (by rw [<- hlen.out, h]; rfl);have HNE := Lib.hid hne;clear hne hl0;rcases St_e HST.out with rfl | rfl
      · cases ng
        · go_wp2_with (go_at_call 165; refine (num_Neg _ _ (St_n HST.out).1).mono ?_; rintro e w' ⟨rfl, rfl⟩);go_ret2;have hR := read_pos HNE.out HST.out hng.out;exact ⟨ans_eq hR.1.symm hR.2.symm, hbw⟩
        · go_wp2_with fail;go_ret2;have hR := read_neg HNE.out HST.out hng.out;exact ⟨ans_eq hR.1.symm hR.2.symm, hbw⟩
      · go_wp2_with fail;go_ret2;have hR := read_over HNE.out HST.out;exact ⟨ans_eq hR.1.symm hR.2.symm, hbw⟩
theorem ofNat_toNat (k : Nat) (h : k <= 9) : (UInt8.ofNat (48 + k)).toNat = 48 + k := by
 rw [UInt8.toNat_ofNat'];omega
theorem dig_isDig (k : Nat) (h : k <= 9) : isDig (UInt8.ofNat (48 + k)) = true := by
 rw [isDig_iff, ofNat_toNat k h];omega
theorem decDigits_all (u : Nat) : (Lib.decDigits u).all isDig = true := by
 induction u using Nat.strongRecOn with
 | _ u ih =>
  rw [Lib.decDigits];split
  · rw [List.all_cons, dig_isDig u (by omega), List.all_nil];rfl
  · rw [List.all_append, ih (u / 10) (by omega), List.all_cons, dig_isDig (u % 10) (by omega), List.all_nil];rfl
theorem decDigits_ne (u : Nat) : Lib.decDigits u ≠ [] := by
 rw [Lib.decDigits];split <;> simp
theorem itoa_pos (a : Int) (h : 0 <= a) : Lib.itoa a = Lib.decDigits a.toNat := by
 obtain ⟨u, rfl⟩ := Int.eq_ofNat_of_zero_le h;exact Lib.itoa_nonneg u
theorem itoa_neg' (a : Int) (h : a < 0) : Lib.itoa a = 45 :: Lib.decDigits (-a).toNat := by
 obtain ⟨u, hu⟩ := Int.eq_ofNat_of_zero_le (show 0 <= -a by omega);have : a = -(u : Int) := by omega
 rw [this, Lib.itoa_neg u (by omega)];simp
end Go.Proofs.YtinefdlkajnomaaGreatDoor
namespace Go.Proofs.YtinefdlkajnomaaGreatDoor
open Go.RowKit
def endB (b : UInt8) : Bool := decide (b.toNat = 40 \/ b.toNat = 41 \/ b.toNat = 44)
def Ends (r : List UInt8) : Prop := r = [] \/ ∃ b t, r = b :: t /\ endB b = true
theorem cut_free : ∀ (x y r s : List UInt8), x.all (fun b => !endB b) = true -> y.all (fun b => !endB b) = true -> Ends r -> Ends s -> x ++ r = y ++ s -> x = y /\ r = s
 | [], [], r, s, _, _, _, _, h => ⟨rfl, h⟩
 | [], b :: y, r, s, _, hy, hr, _, h => by
  rcases hr with rfl | ⟨c, t, rfl, hc⟩
  · cases h
  · injection h with h1 h2;subst h1;rw [List.all_cons, hc] at hy; cases hy
 | a :: x, [], r, s, hx, _, _, hs, h => by
  rcases hs with rfl | ⟨c, t, rfl, hc⟩
  · cases h
  · injection h with h1 h2;subst h1;rw [List.all_cons, hc] at hx; cases hx
 | a :: x, b :: y, r, s, hx, hy, hr, hs, h => by
  injection h with h1 h2;rw [List.all_cons, Bool.and_eq_true] at hx hy;obtain ⟨e1, e2⟩ := cut_free x y r s hx.2 hy.2 hr hs h2;exact ⟨by rw [h1, e1], e2⟩
theorem headD_ends {r : List UInt8} (h : Ends r) : r.headD 0 ≠ 39 := by
 rcases h with rfl | ⟨b, t, rfl, hb⟩
 · decide
 · intro e;have e' : b = 39 := e;subst e';revert hb; decide
theorem ascii_rune {l : List UInt8} (hl : l ≠ []) (hv : Lib.validD l = true) (h : (Lib.decodeL l).1 < 128) : ∃ b t, l = b :: t /\ b.toNat = (Lib.decodeL l).1 /\ l.drop (Lib.decodeL l).2 = t := by
 obtain ⟨hb, _⟩ := valid_cons hl hv;obtain ⟨_, he⟩ := encL_decodeL l hl hb;rw [encL_ascii _ (by omega) (by omega)] at he;have hw := Lib.decodeL_width l;cases l with
 | nil => exact absurd rfl hl
 | cons b t =>
  obtain ⟨k, hk⟩ : ∃ k, (Lib.decodeL (b :: t)).2 = k + 1 := by
   have := congrArg List.length he;rw [List.length_take, List.length_singleton] at this;exact ⟨(Lib.decodeL (b :: t)).2 - 1, by omega⟩
  rw [hk, List.take_succ_cons] at he;injection he with h1 h2;refine ⟨b, t, rfl, ?_, ?_⟩
  · have e : ((Lib.decodeL (b :: t)).1 : Int).toNat = (Lib.decodeL (b :: t)).1 := by omega
    rw [e] at h1;have h5 := congrArg UInt8.toNat h1;rw [toNat_of _ (by omega)] at h5;exact h5.symm
  · rw [hk, List.drop_succ_cons];have h3 : (List.take k t).length = 0 := by rw [<- h2]; rfl
    rw [List.length_take] at h3;rcases Nat.eq_zero_or_pos k with rfl | hp
    · rfl
    · have : t.length = 0 := by omega
      rw [List.eq_nil_of_length_eq_zero this]; simp
theorem name_ascii {c : Int} (h : nameR c = true \/ signR c = true) : c < 128 /\ c ≠ 40 /\ c ≠ 41 /\ c ≠ 44 /\ c ≠ 39 := by
 unfold nameR signR cls at h;simp only [decide_eq_true_eq] at h
 refine ⟨?_, ?_, ?_, ?_, ?_⟩
 · apply Classical.byContradiction
   intro hc;rw [if_neg (by omega), if_neg (by omega), if_neg (by omega), if_neg (by omega), if_neg (by omega), if_neg (by omega), if_neg (by omega), if_neg (by omega)] at h;omega
 all_goals
  intro hc;subst hc;revert h; decide
theorem runes_bytes : ∀ (n : Nat) (l : List UInt8), l.length <= n -> Lib.validD l = true -> (∀ c ∈ runesL l, nameR c = true \/ signR c = true) -> runesL l = l.map (fun b => (b.toNat : Int))
 | 0, l, h, _, _ => by rw [List.eq_nil_of_length_eq_zero (Nat.le_zero.1 h)]; rfl
 | n + 1, l, h, hv, hr => by
  by_cases hl : l = []
  · subst hl; rfl
  · have hc := runesL_cons l hl;rw [hc] at hr;have h1 := name_ascii (hr _ (.head _));obtain ⟨b, t, e1, e2, e3⟩ := ascii_rune hl hv (by omega);have hv2 := (valid_cons hl hv).2;rw [e3] at hc hv2 hr;have hlen : t.length <= n := by rw [e1] at h; exact Nat.le_of_succ_le_succ h
    rw [hc, runes_bytes n t hlen hv2 (fun c hc => hr c (.tail _ hc)), <- e2, e1]; rfl
theorem bare_parts {l : List UInt8} (h : bareL l = true) : Lib.validD l = true /\ l ≠ [] /\ (l = [91, 93] \/ l = [123, 125] \/ l = [33] \/ l = [59] \/ (cls ((runesL l).headD 0) = 1 /\ (runesL l).all nameR = true) \/ (runesL l).all signR = true) := by
 unfold bareL at h;simp only [Bool.and_eq_true, Bool.or_eq_true, Bool.not_eq_true', Bool.or_eq_false_iff, decide_eq_true_eq, decide_eq_false_iff_not] at h
 obtain ⟨⟨h1, h2⟩, h3⟩ := h;unfold checkL at h1;rw [Bool.and_eq_true] at h1;refine ⟨h1.2, h2.1.1, ?_⟩;rcases h3 with ((((h3 | h3) | h3) | h3) | h3) | h3
 · exact .inl h3
 · exact .inr (.inl h3)
 · exact .inr (.inr (.inl h3))
 · exact .inr (.inr (.inr (.inl h3)))
 · exact .inr (.inr (.inr (.inr (.inl h3))))
 · exact .inr (.inr (.inr (.inr (.inr h3))))
theorem bare_free {l : List UInt8} (h : bareL l = true) : l.all (fun b => !endB b) = true /\ ∃ b t, l = b :: t /\ b.toNat ≠ 39 /\ b.toNat ≠ 95 /\ isDig b = false /\ (b.toNat = 45 -> ∀ c s, t = c :: s -> isDig c = false) := by
 obtain ⟨hv, hne, h3⟩ := bare_parts h;have go : (∀ c ∈ runesL l, nameR c = true \/ signR c = true) -> runesL l = l.map (fun b => (b.toNat : Int)) := runes_bytes _ l (Nat.le_refl _) hv;have free : (∀ c ∈ runesL l, nameR c = true \/ signR c = true) -> l.all (fun b => !endB b) = true := fun hr => by
  have e := go hr;rw [List.all_eq_true];intro b hb;have hm : (b.toNat : Int) ∈ runesL l := by rw [e]; exact List.mem_map.2 ⟨b, hb, rfl⟩
  have h5 := name_ascii (hr _ hm);unfold endB;rw [Bool.not_eq_true', decide_eq_false_iff_not];omega
 rcases h3 with rfl | rfl | rfl | rfl | ⟨h4, h5⟩ | h5
 · exact ⟨by decide, 91, [93], rfl, by decide, by decide, by decide, fun h => absurd h (by decide)⟩
 · exact ⟨by decide, 123, [125], rfl, by decide, by decide, by decide, fun h => absurd h (by decide)⟩
 · exact ⟨by decide, 33, [], rfl, by decide, by decide, by decide, fun h => absurd h (by decide)⟩
 · exact ⟨by decide, 59, [], rfl, by decide, by decide, by decide, fun h => absurd h (by decide)⟩
 · have hr : ∀ c ∈ runesL l, nameR c = true \/ signR c = true := fun c hc => .inl (List.all_eq_true.1 h5 c hc);refine ⟨free hr, ?_⟩;have e := go hr;cases l with
   | nil => exact absurd rfl hne
   | cons b t =>
    rw [e] at h4;have h6 : cls (b.toNat : Int) = 1 := h4;have h7 : 97 <= b.toNat /\ b.toNat <= 122 := by
     apply Classical.byContradiction
     intro hc;unfold cls at h6;rw [if_neg (by omega)] at h6;repeat' split at h6
     all_goals omega
    exact ⟨b, t, rfl, by omega, by omega, (isDig_not b).2 (by omega), fun h => by omega⟩
 · have hr : ∀ c ∈ runesL l, nameR c = true \/ signR c = true := fun c hc => .inr (List.all_eq_true.1 h5 c hc);refine ⟨free hr, ?_⟩;have e := go hr;have sg : ∀ b : UInt8, signR (b.toNat : Int) = true -> b.toNat ≠ 39 /\ b.toNat ≠ 95 /\ isDig b = false := fun b hb => by
    unfold signR at hb;rw [decide_eq_true_eq] at hb;have h8 : ¬ (65 <= (b.toNat : Int) /\ (b.toNat : Int) <= 90 \/ (b.toNat : Int) = 95) /\ ¬ (48 <= (b.toNat : Int) /\ (b.toNat : Int) <= 57) /\ (b.toNat : Int) ≠ 39 := by
     refine ⟨fun hc => ?_, fun hc => ?_, fun hc => ?_⟩
     · unfold cls at hb; rw [if_neg (by omega), if_pos hc] at hb; omega
     · unfold cls at hb; rw [if_neg (by omega), if_neg (by omega), if_pos hc] at hb; omega
     · rw [hc] at hb; revert hb; decide
    exact ⟨by omega, by omega, (isDig_not b).2 (by omega)⟩
   rw [e] at h5;cases l with
   | nil => exact absurd rfl hne
   | cons b t =>
    rw [List.map_cons, List.all_cons, Bool.and_eq_true] at h5;obtain ⟨s1, s2, s3⟩ := sg b h5.1;refine ⟨b, t, rfl, s1, s2, s3, fun _ c s hcs => ?_⟩;subst hcs;rw [List.map_cons, List.all_cons, Bool.and_eq_true] at h5;exact (sg c h5.2.1).2.2
theorem itoa_free (n : Int) : (Lib.itoa n).all (fun b => !endB b) = true /\ ∃ b t, Lib.itoa n = b :: t /\ (isDig b = true \/ (b = 45 /\ ∃ c s, t = c :: s /\ isDig c = true)) := by
 have hd : ∀ u, (Lib.decDigits u).all (fun b => !endB b) = true := fun u => by
  rw [List.all_eq_true];intro b hb;have := (isDig_iff b).1 (List.all_eq_true.1 (decDigits_all u) b hb);unfold endB;rw [Bool.not_eq_true', decide_eq_false_iff_not];omega
 have hh : ∀ u, ∃ b t, Lib.decDigits u = b :: t /\ isDig b = true := fun u => by
  cases e : Lib.decDigits u with
  | nil => exact absurd e (decDigits_ne u)
  | cons b t => exact ⟨b, t, rfl, List.all_eq_true.1 (decDigits_all u) b (by rw [e]; exact .head _)⟩
 by_cases h : 0 <= n
 · rw [itoa_pos n h];obtain ⟨b, t, e, hb⟩ := hh n.toNat;exact ⟨hd _, b, t, e, .inl hb⟩
 · rw [itoa_neg' n (by omega)];obtain ⟨c, s, e, hc⟩ := hh (-n).toNat;refine ⟨by rw [List.all_cons, hd]; rfl, 45, _, rfl, .inr ⟨rfl, c, s, e, hc⟩⟩
inductive Tk where
 | var (n : Int)
 | num (n : Int)
 | atom (s : List UInt8)
def Tk.ok : Tk -> Prop
 | .var n => In64 n
 | .num n => In64 n
 | .atom s => checkL s = true
def Tk.txt : Tk -> List UInt8
 | .var n => 95 :: Lib.itoa n
 | .num n => Lib.itoa n
 | .atom s => writeL s
def Tk.quoted : Tk -> Bool
 | .atom s => !bareL s
 | _ => false
theorem Tk.plain {k : Tk} (h : k.ok) (hq : k.quoted = false) : k.txt.all (fun b => !endB b) = true /\ ∃ b t, k.txt = b :: t /\ b.toNat ≠ 39 := by
 cases k with
 | var n =>
  refine ⟨?_, 95, _, rfl, by decide⟩;show (95 :: Lib.itoa n).all _ = true
  rw [List.all_cons, (itoa_free n).1]; rfl
 | num n =>
  obtain ⟨h1, b, t, h2, h3⟩ := itoa_free n;refine ⟨h1, b, t, h2, ?_⟩;rcases h3 with h3 | ⟨rfl, _⟩
  · have := (isDig_iff b).1 h3; omega
  · decide
 | atom s =>
  have hb : bareL s = true := by
   have : (!bareL s) = false := hq;simpa using this
  have e : (Tk.atom s).txt = s := by show writeL s = s; unfold writeL; rw [if_pos (show checkL s = true from h), if_pos hb]
  rw [e];obtain ⟨h1, b, t, h2, h3, _⟩ := bare_free hb;exact ⟨h1, b, t, h2, h3⟩
theorem Tk.quote {k : Tk} (h : k.ok) (hq : k.quoted = true) : ∃ s, k = .atom s /\ k.txt = quoteL s /\ Lib.validD s = true := by
 cases k with
 | var n => cases hq
 | num n => cases hq
 | atom s =>
  have hb : bareL s = false := by
   have : (!bareL s) = true := hq;simpa using this
  have h' : checkL s = true := h;refine ⟨s, rfl, ?_, ?_⟩
  · show writeL s = _; unfold writeL; rw [if_pos h', hb]; rfl
  · unfold checkL at h'; rw [Bool.and_eq_true] at h'; exact h'.2
theorem quote_head (s r : List UInt8) : quoteL s ++ r = 39 :: (((runesL s).flatMap escR ++ [39]) ++ r) := rfl
theorem Tk.cut {a b : Tk} (ha : a.ok) (hb : b.ok) {r s : List UInt8} (hr : Ends r) (hs : Ends s) (h : a.txt ++ r = b.txt ++ s) : a.txt = b.txt /\ r = s := by
 cases qa : a.quoted with
 | false =>
  obtain ⟨a1, a2⟩ := a.plain ha qa;cases qb : b.quoted with
  | false => exact cut_free _ _ r s a1 (b.plain hb qb).1 hr hs h
  | true =>
   obtain ⟨x, rfl, e, _⟩ := b.quote hb qb;obtain ⟨c, t, e2, hc⟩ := a2;rw [e2, e, quote_head] at h;injection h with h1 _;rw [h1] at hc; exact absurd rfl hc
 | true =>
  obtain ⟨x, rfl, ex, vx⟩ := a.quote ha qa;cases qb : b.quoted with
  | false =>
   obtain ⟨_, c, t, e2, hc⟩ := b.plain hb qb;rw [e2, ex, quote_head] at h;injection h with h1 _;rw [<- h1] at hc; exact absurd rfl hc
  | true =>
   obtain ⟨y, rfl, ey, vy⟩ := b.quote hb qb;rw [ex, ey] at h ⊢;have e1 := read_quote x r vx (headD_ends hr);have e2 := read_quote y s vy (headD_ends hs);rw [h, e2] at e1;injection e1 with e1;injection e1 with e1 e3;subst e1;exact ⟨rfl, List.append_cancel_left h⟩
structure Lx where
 kind : Int
 text : List UInt8
 n : Int
 w : Nat
def lx0 : Lx := ⟨0, [], 0, 0⟩
def spanL (P : Int -> Bool) (l : List UInt8) : Nat := (l.takeWhile fun b => P (b.toNat : Int)).length
def digR (c : Int) : Bool := decide (cls c = 3)
def lineR (c : Int) : Bool := decide (c ≠ 10)
def namedL (x : Lx) : Lx := if checkL x.text then x else lx0
def wordL (k : Int) (l : List UInt8) : Lx := ⟨k, l.take (spanL nameR l), 0, spanL nameR l⟩
def partsL (l : List UInt8) : Bool := match l with | [] => true | b :: _ => decide (b = 37) || decide (cls (b.toNat : Int) = 5)
def signsL (l : List UInt8) : Lx := ⟨if l.take (spanL signR l) = [46] /\ partsL (l.drop (spanL signR l)) = true then 8 else 3, l.take (spanL signR l), 0, spanL signR l⟩
def quotedL (l : List UInt8) : Lx := match readL l with | some (t, k) => ⟨2, t, 0, k⟩ | none => lx0
def singleL (b : UInt8) : Lx := ⟨if b = 33 \/ b = 59 then 1 else 6, [b], 0, 1⟩
def runeB (r : List UInt8) : Int × Nat :=
 if r.take 2 = [39, 39] then (39, 4)
 else if r = [] \/ (Lib.decodeL r).1 < 32 \/ (Lib.decodeL r).1 = 39 \/ (Lib.decodeL r).1 = 92 \/ ((Lib.decodeL r).1 = 65533 /\ (Lib.decodeL r).2 < 2) then (0, 0)
 else (((Lib.decodeL r).1 : Int), 2 + (Lib.decodeL r).2)
def runeNum (l : List UInt8) : Int × Nat := if l.take 2 = [48, 39] then runeB (l.drop 2) else (0, 0)
def numberL (l : List UInt8) : Lx :=
 if 0 < (runeNum l).2 then ⟨5, [], (runeNum l).1, (runeNum l).2⟩
 else if readE (45 :: l.take (spanL digR l)) = 0 then ⟨5, [], wrap64 (-(readV (45 :: l.take (spanL digR l)))), spanL digR l⟩ else lx0
def closeL : List UInt8 -> Option Nat
 | [] => none
 | b :: t => if b = 42 /\ t.headD 0 = 47 /\ t ≠ [] then some 2 else (closeL t).map (· + 1)
def remarkL (l : List UInt8) : Lx := match closeL (l.drop 2) with | some k => ⟨0, [], 0, k + 2⟩ | none => lx0
def lexL (l : List UInt8) : Lx :=
 match l with
 | [] => lx0
 | b :: t =>
  if cls (b.toNat : Int) = 5 then ⟨0, [], 0, 1⟩
  else if cls (b.toNat : Int) = 1 then namedL (wordL 1 (b :: t))
  else if cls (b.toNat : Int) = 2 then wordL 4 (b :: t)
  else if cls (b.toNat : Int) = 3 then numberL (b :: t)
  else if cls (b.toNat : Int) = 4 then (if (b :: t).take 2 = [47, 42] then remarkL (b :: t) else namedL (signsL (b :: t)))
  else if cls (b.toNat : Int) = 8 then namedL (quotedL (b :: t))
  else if cls (b.toNat : Int) = 6 \/ cls (b.toNat : Int) = 7 then singleL b
  else if b = 37 then ⟨0, [], 0, spanL lineR (b :: t)⟩
  else lx0
structure Tok where
 kind : Int
 text : List UInt8
 n : Int
 pos : Nat
inductive Out where
 | bad (o : Nat)
 | good (l : List Tok)
def Out.pre (ts : List Tok) : Out -> Out
 | .bad o => .bad o
 | .good l => .good (ts ++ l)
def opensL (k : Int) (t : List UInt8) : Bool := decide (k = 1) || decide (k = 2) || decide (k = 3) || (decide (k = 6) && (decide (t = [93]) || decide (t = [125])))
def kindL (tight : Bool) (x : Lx) : Int := if tight = true /\ x.text = [40] /\ x.kind = 6 then 7 else x.kind
def cutGo : Nat -> List UInt8 -> Nat -> Bool -> Out
 | 0, _, o, _ => .good [⟨9, [], 0, o⟩]
 | f + 1, l, o, tight =>
  if l = [] then .good [⟨9, [], 0, o⟩]
  else if (lexL l).w = 0 then .bad o
  else if (lexL l).kind = 0 then cutGo f (l.drop (lexL l).w) (o + (lexL l).w) false
  else (cutGo f (l.drop (lexL l).w) (o + (lexL l).w) (opensL (kindL tight (lexL l)) (lexL l).text)).pre [⟨kindL tight (lexL l), (lexL l).text, (lexL l).n, o⟩]
def cutL (l : List UInt8) (o : Nat) (tight : Bool) : Out := cutGo l.length l o tight
theorem cutGo_fuel : ∀ (f : Nat) (l : List UInt8) (o : Nat) (t : Bool), l.length <= f -> cutGo f l o t = cutGo l.length l o t
 | 0, l, o, t, h => by rw [List.eq_nil_of_length_eq_zero (Nat.le_zero.1 h)]; rfl
 | f + 1, l, o, t, h => by
  by_cases hl : l = []
  · subst hl; rfl
  · have hp : 0 < l.length := List.length_pos_iff.2 hl;obtain ⟨m, hm⟩ : ∃ m, l.length = m + 1 := ⟨l.length - 1, by omega⟩;rw [hm];unfold cutGo;rw [if_neg hl, if_neg hl];by_cases hw : (lexL l).w = 0
    · rw [if_pos hw, if_pos hw]
    · have hd : (l.drop (lexL l).w).length <= m := by rw [List.length_drop]; omega
      rw [if_neg hw, if_neg hw];have ih : ∀ o t, cutGo f (l.drop (lexL l).w) o t = cutGo m (l.drop (lexL l).w) o t := fun o t => by
       rw [cutGo_fuel f _ _ _ (by omega), cutGo_fuel m _ _ _ hd]
      rw [ih, ih]
theorem cutL_nil (o : Nat) (t : Bool) : cutL [] o t = .good [⟨9, [], 0, o⟩] := rfl
theorem cutL_step (l : List UInt8) (o : Nat) (t : Bool) (hl : l ≠ []) : cutL l o t =
 if (lexL l).w = 0 then .bad o
 else if (lexL l).kind = 0 then cutL (l.drop (lexL l).w) (o + (lexL l).w) false
 else (cutL (l.drop (lexL l).w) (o + (lexL l).w) (opensL (kindL t (lexL l)) (lexL l).text)).pre [⟨kindL t (lexL l), (lexL l).text, (lexL l).n, o⟩] := by
 have hp : 0 < l.length := List.length_pos_iff.2 hl;obtain ⟨m, hm⟩ : ∃ m, l.length = m + 1 := ⟨l.length - 1, by omega⟩;conv => lhs; unfold cutL; rw [hm]; unfold cutGo
 rw [if_neg hl];by_cases hw : (lexL l).w = 0
 · rw [if_pos hw, if_pos hw]
 · have hd : (l.drop (lexL l).w).length <= m := by rw [List.length_drop]; omega
   rw [if_neg hw, if_neg hw];rw [cutGo_fuel m _ _ _ hd, cutGo_fuel m _ _ _ hd];rfl
theorem pre_pre (a b : List Tok) (o : Out) : (o.pre b).pre a = o.pre (a ++ b) := by cases o <;> simp [Out.pre]
theorem pre_nil (o : Out) : o.pre [] = o := by cases o <;> rfl
theorem spanL_le (P : Int -> Bool) (l : List UInt8) : spanL P l <= l.length := (List.takeWhile_sublist _).length_le
theorem closeL_le : ∀ (l : List UInt8) (k : Nat), closeL l = some k -> k <= l.length /\ 2 <= k
 | [], k, h => by cases h
 | b :: t, k, h => by
  unfold closeL at h;split at h
  · rename_i hc
    injection h with h;have : 0 < t.length := List.length_pos_iff.2 hc.2.2;rw [List.length_cons]; omega
  · cases hc : closeL t with
    | none => rw [hc] at h; cases h
    | some m =>
     rw [hc] at h;have := closeL_le t m hc;simp only [Option.map_some, Option.some.injEq] at h
     rw [List.length_cons]; omega
theorem runeB_le (r : List UInt8) : (runeB r).2 <= r.length + 2 := by
 unfold runeB;by_cases h1 : r.take 2 = [39, 39]
 · have h2 := congrArg List.length h1;rw [List.length_take] at h2;simp only [List.length_cons, List.length_nil] at h2
   rw [if_pos h1];show 4 <= _
   omega
 rw [if_neg h1];by_cases h2 : r = [] \/ (Lib.decodeL r).1 < 32 \/ (Lib.decodeL r).1 = 39 \/ (Lib.decodeL r).1 = 92 \/ ((Lib.decodeL r).1 = 65533 /\ (Lib.decodeL r).2 < 2)
 · rw [if_pos h2]; exact Nat.zero_le _
 · rw [if_neg h2];have h3 : r ≠ [] := fun e => h2 (.inl e);have := Lib.decodeL_le r h3;show 2 + _ <= _
   omega
theorem runeNum_le (l : List UInt8) : (runeNum l).2 <= l.length := by
 unfold runeNum;split
 · rename_i h
   have h2 := congrArg List.length h;rw [List.length_take] at h2;simp only [List.length_cons, List.length_nil] at h2
   have := runeB_le (l.drop 2);rw [List.length_drop] at this;omega
 · exact Nat.zero_le _
theorem escapes_le (l out : List UInt8) (a : Nat) : ∀ o k, readAt l out a = some (o, k) -> k <= a + l.length /\ a < k := by
 induction h : l.length using Nat.strongRecOn generalizing l out a with
 | _ n ih =>
  intro o k hr;by_cases hl : l = []
  · subst hl; cases hr
  · have hp : 0 < l.length := List.length_pos_iff.2 hl;have hw := Lib.decodeL_width l;have hle := Lib.decodeL_le l hl;rw [readAt_step l out a hl] at hr;by_cases h39 : (Lib.decodeL l).1 = 39
    · rw [if_pos h39] at hr;by_cases h2 : l.getD 1 0 = 39 /\ 1 < l.length
      · rw [if_pos h2] at hr;have := ih _ (by rw [List.length_drop]; omega) (l.drop 2) _ _ rfl o k hr;rw [List.length_drop] at this;omega
      · rw [if_neg h2] at hr;simp only [Option.some.injEq, Prod.mk.injEq] at hr
        omega
    rw [if_neg h39] at hr;by_cases h92 : (Lib.decodeL l).1 = 92
    · rw [if_pos h92] at hr;by_cases h0 : (escL (l.drop 1)).2 = 0
      · rw [if_pos h0] at hr; cases hr
      · rw [if_neg h0] at hr;have h3 := escL_le (l.drop 1);rw [List.length_drop] at h3;have := ih _ (by rw [List.length_drop]; omega) (l.drop ((escL (l.drop 1)).2 + 1)) _ _ rfl o k hr;rw [List.length_drop] at this;omega
    rw [if_neg h92] at hr;by_cases hb : (Lib.decodeL l).1 < 32 \/ ((Lib.decodeL l).1 = 65533 /\ (Lib.decodeL l).2 = 1)
    · rw [if_pos hb] at hr; cases hr
    · rw [if_neg hb] at hr;have := ih _ (by rw [List.length_drop]; omega) (l.drop (Lib.decodeL l).2) _ _ rfl o k hr;rw [List.length_drop] at this;omega
theorem readL_le {l : List UInt8} {t : List UInt8} {k : Nat} (h : readL l = some (t, k)) : k <= l.length /\ 1 < k := by
 by_cases h0 : l.headD 0 = 39
 · rw [readL_eq l h0] at h;have := escapes_le _ _ _ _ _ h;cases l with
   | nil => cases h0
   | cons b t => rw [List.drop_succ_cons, List.drop_zero] at this; rw [List.length_cons]; omega
 · rw [readL_no l h0] at h; cases h
theorem namedL_w (x : Lx) : (namedL x).w = x.w \/ (namedL x).w = 0 := by unfold namedL; split; exact .inl rfl; exact .inr rfl
theorem lexL_le (l : List UInt8) : (lexL l).w <= l.length := by
 cases l with
 | nil => exact Nat.le_refl 0
 | cons b t =>
  have hnm : ∀ x : Lx, x.w <= (b :: t).length -> (namedL x).w <= (b :: t).length := fun x hx => by
   rcases namedL_w x with h | h <;> rw [h]
   · exact hx
   · exact Nat.zero_le _
  have h1 : 1 <= (b :: t).length := by rw [List.length_cons]; omega
  unfold lexL;dsimp only;repeat' split
  · exact h1
  · exact hnm _ (spanL_le _ _)
  · exact spanL_le _ _
  · unfold numberL;split
    · exact runeNum_le _
    · split
      · exact spanL_le _ _
      · exact Nat.zero_le _
  · rename_i h2
    unfold remarkL;split
    · rename_i k hk
      have := (closeL_le _ _ hk).1;rw [List.length_drop] at this;have h3 := congrArg List.length h2;rw [List.length_take] at h3;simp only [List.length_cons, List.length_nil] at h3 this ⊢
      omega
    · exact Nat.zero_le _
  · exact hnm _ (spanL_le _ _)
  · refine hnm _ ?_;unfold quotedL;split
    · rename_i t2 k hk
      exact (readL_le hk).1
    · exact Nat.zero_le _
  · exact h1
  · exact spanL_le _ _
  · exact Nat.zero_le _
inductive Hits : List UInt8 -> Nat -> Prop
 | zero (l) : Hits l 0
 | step (l) (n) : l ≠ [] -> Hits (l.drop (Lib.decodeL l).2) n -> Hits l ((Lib.decodeL l).2 + n)
theorem Hits.next {l : List UInt8} {n : Nat} (h : Hits l n) (hn : 0 < n) : (Lib.decodeL l).2 <= n /\ Hits (l.drop (Lib.decodeL l).2) (n - (Lib.decodeL l).2) := by
 cases h with
 | zero => omega
 | step _ m _ hm => exact ⟨by omega, by rw [Nat.add_sub_cancel_left]; exact hm⟩
theorem Hits.mk {l : List UInt8} {n : Nat} (hl : l ≠ []) (hle : (Lib.decodeL l).2 <= n) (h : Hits (l.drop (Lib.decodeL l).2) (n - (Lib.decodeL l).2)) : Hits l n := by
 have := Hits.step l _ hl h;rwa [show (Lib.decodeL l).2 + (n - (Lib.decodeL l).2) = n from by omega] at this
theorem decode_inner (l : List UInt8) (hl : l ≠ []) (j : Nat) (hj : j < (Lib.decodeL l).2) (h1 : 1 < (Lib.decodeL l).2) : ∃ h : j < l.length, 128 <= (l[j]).toNat := by
 have hle := Lib.decodeL_le l hl;refine ⟨by omega, ?_⟩;have hN := Lib.decodeL_N l;have hs := Lib.decodeN_shape l.length (l.getD 0 0).toNat (l.getD 1 0).toNat (l.getD 2 0).toNat (l.getD 3 0).toNat;rw [<- hN] at hs;have hg : l[j]'(by omega) = l.getD j 0 := by rw [List.getD, List.getElem?_eq_getElem (by omega)]; rfl
 rw [hg];rcases hs with ⟨_, e⟩ | ⟨a, _, b, _, e⟩ | ⟨a, _, b, c, _, _, e⟩ | ⟨a, _, b, c, d, _, _, e⟩ | e
 all_goals rw [e] at hj h1
 · simp at h1
 · have : j = 0 \/ j = 1 := by simp at hj; omega
   rcases this with rfl | rfl <;> omega
 · have : j = 0 \/ j = 1 \/ j = 2 := by simp at hj; omega
   rcases this with rfl | rfl | rfl <;> omega
 · have : j = 0 \/ j = 1 \/ j = 2 \/ j = 3 := by simp at hj; omega
   rcases this with rfl | rfl | rfl | rfl <;> omega
 · simp at h1
theorem hits_ascii_to : ∀ (m : Nat) (l : List UInt8), l.length <= m -> ∀ (n : Nat) (h : n < l.length), (l[n]).toNat < 128 -> Hits l (n + 1)
 | 0, l, hm, n, h, _ => by omega
 | m + 1, l, hm, n, h, hb => by
  have hl : l ≠ [] := fun e => by rw [e] at h; simp at h
  have hw := Lib.decodeL_width l;have hle := Lib.decodeL_le l hl;by_cases hd : (Lib.decodeL l).2 <= n
  · refine Hits.mk hl (by omega) ?_;have hx := hits_ascii_to m (l.drop (Lib.decodeL l).2) (by rw [List.length_drop]; omega) (n - (Lib.decodeL l).2) (by rw [List.length_drop]; omega) (by rw [List.getElem_drop]; simp only [show (Lib.decodeL l).2 + (n - (Lib.decodeL l).2) = n from by omega]; exact hb);rwa [show n - (Lib.decodeL l).2 + 1 = n + 1 - (Lib.decodeL l).2 from by omega] at hx
  · by_cases h1 : 1 < (Lib.decodeL l).2
    · obtain ⟨_, hc⟩ := decode_inner l hl n (by omega) h1;omega
    · refine Hits.mk hl (by omega) ?_;rw [show n + 1 - (Lib.decodeL l).2 = 0 from by omega];exact .zero _
theorem hits_ascii (l : List UInt8) (n : Nat) (h : n < l.length) (hb : (l[n]).toNat < 128) : Hits l (n + 1) := hits_ascii_to _ l (Nat.le_refl _) n h hb
theorem high_rune (b : UInt8) (t : List UInt8) (h : 128 <= b.toNat) : 128 <= (Lib.decodeL (b :: t)).1 := by
 have hN := Lib.decodeL_N (b :: t);have hs := Lib.decodeN_shape (b :: t).length ((b :: t).getD 0 0).toNat ((b :: t).getD 1 0).toNat ((b :: t).getD 2 0).toNat ((b :: t).getD 3 0).toNat;rw [<- hN] at hs;rcases hs with ⟨a, e⟩ | ⟨_, _, _, a, e⟩ | ⟨_, _, _, _, a, _, e⟩ | ⟨_, _, _, _, _, a, _, e⟩ | e
 · rw [List.getD_cons_zero] at a; omega
 all_goals (rw [e]; simp only; omega)
theorem takeWhile_take (P : UInt8 -> Bool) : ∀ (l : List UInt8) (d : Nat), (∀ j (h : j < l.length), j < d -> P l[j] = true) -> d <= l.length -> (l.takeWhile P).length = d + ((l.drop d).takeWhile P).length
 | l, 0, _, _ => by rw [List.drop_zero]; omega
 | [], d + 1, _, hd => by simp at hd
 | b :: t, d + 1, h, hd => by
  have h0 := h 0 (by simp) (by omega);rw [List.getElem_cons_zero] at h0;rw [List.takeWhile_cons, if_pos h0, List.length_cons, List.drop_succ_cons, takeWhile_take P t d (fun j hj hjd => by have := h (j + 1) (by rw [List.length_cons]; omega) (by omega); rwa [List.getElem_cons_succ] at this) (by rw [List.length_cons] at hd; omega)];omega
theorem spanL_step (P : Int -> Bool) (hi : Bool) (hP : ∀ c : Int, 128 <= c -> P c = hi) (l : List UInt8) (hl : l ≠ []) :
 spanL P l = if P (Lib.decodeL l).1 = true then (Lib.decodeL l).2 + spanL P (l.drop (Lib.decodeL l).2) else 0 := by
 match l, hl with
 | b :: t, hl =>
  by_cases hb : b.toNat < 128
  · rw [Lib.decodeL_ascii b t hb];dsimp only;unfold spanL;rw [List.takeWhile_cons, List.drop_one, List.tail_cons];split
    · rw [List.length_cons]; omega
    · rfl
  · have hr := high_rune b t (by omega);rw [hP _ (by omega)];cases hi with
    | false =>
     rw [if_neg (by decide)];unfold spanL;rw [List.takeWhile_cons, if_neg (by rw [hP _ (by omega)]; decide)];rfl
    | true =>
     rw [if_pos rfl];unfold spanL;refine takeWhile_take _ _ _ (fun j hj hd => ?_) (Lib.decodeL_le _ hl);by_cases h1 : 1 < (Lib.decodeL (b :: t)).2
     · obtain ⟨_, hc⟩ := decode_inner _ hl j hd h1;exact hP _ (by omega)
     · have : j = 0 := by omega
       subst this;exact hP _ (by rw [List.getElem_cons_zero]; omega)
theorem cls_high (c : Int) (h : 128 <= c) : cls c = 0 := by
 unfold cls;rw [if_neg (by omega), if_neg (by omega), if_neg (by omega), if_neg (by omega), if_neg (by omega), if_neg (by omega), if_neg (by omega), if_neg (by omega)]
theorem nameR_high (c : Int) (h : 128 <= c) : nameR c = false := by unfold nameR; rw [cls_high c h]; decide
theorem signR_high (c : Int) (h : 128 <= c) : signR c = false := by unfold signR; rw [cls_high c h]; decide
theorem digR_high (c : Int) (h : 128 <= c) : digR c = false := by unfold digR; rw [cls_high c h]; decide
theorem lineR_high (c : Int) (h : 128 <= c) : lineR c = true := by unfold lineR; rw [decide_eq_true_eq]; omega
theorem hits_span (P : Int -> Bool) (hi : Bool) (hP : ∀ c : Int, 128 <= c -> P c = hi) (l : List UInt8) : Hits l (spanL P l) := by
 induction e : l.length using Nat.strongRecOn generalizing l with
 | _ m ih =>
  by_cases hl : l = []
  · subst hl; exact .zero _
  · have hw := Lib.decodeL_width l;have hp : 0 < l.length := List.length_pos_iff.2 hl;rw [spanL_step P hi hP l hl];split
    · exact .step _ _ hl (ih _ (by rw [List.length_drop]; omega) _ rfl)
    · exact .zero _
theorem closeL_last : ∀ (l : List UInt8) (k : Nat), closeL l = some k -> ∃ h : k - 1 < l.length, l[k - 1] = 47
 | [], k, h => by cases h
 | b :: t, k, h => by
  unfold closeL at h;split at h
  · rename_i hc
    injection h with h;subst h;match t, hc with
    | c :: u, hc => exact ⟨by simp, hc.2.1⟩
  · cases hc : closeL t with
    | none => rw [hc] at h; cases h
    | some m =>
     rw [hc] at h;have h2 := (closeL_le t m hc).2;obtain ⟨h3, h4⟩ := closeL_last t m hc;simp only [Option.map_some, Option.some.injEq] at h
     subst h;refine ⟨by rw [List.length_cons]; omega, ?_⟩;have : (b :: t)[m + 1 - 1]'(by rw [List.length_cons]; omega) = (b :: t)[(m - 1) + 1]'(by rw [List.length_cons]; omega) := by congr 1; omega
     rw [this, List.getElem_cons_succ];exact h4
theorem readAt_last_to : ∀ (n : Nat) (l out : List UInt8) (a : Nat), l.length <= n -> ∀ o k, readAt l out a = some (o, k) -> ∃ h : k - a - 1 < l.length, l[k - a - 1] = 39
 | 0, l, out, a, hn, o, k, hr => by rw [List.eq_nil_of_length_eq_zero (Nat.le_zero.1 hn)] at hr; cases hr
 | n + 1, l, out, a, hn, o, k, hr => by
  by_cases hl : l = []
  · subst hl; cases hr
  · have hp : 0 < l.length := List.length_pos_iff.2 hl;have hw := Lib.decodeL_width l;have hle := Lib.decodeL_le l hl;have go : ∀ d o2, 0 < d -> d <= l.length -> readAt (l.drop d) o2 (a + d) = some (o, k) -> ∃ h : k - a - 1 < l.length, l[k - a - 1] = 39 := fun d o2 hd hdl hr => by
     have hb := escapes_le _ _ _ _ _ hr;obtain ⟨h1, h2⟩ := readAt_last_to n (l.drop d) o2 (a + d) (by rw [List.length_drop]; omega) o k hr;rw [List.length_drop] at h1 hb;rw [List.getElem_drop] at h2;refine ⟨by omega, ?_⟩;rw [<- h2]; congr 1; omega
    rw [readAt_step l out a hl] at hr;by_cases h39 : (Lib.decodeL l).1 = 39
    · rw [if_pos h39] at hr;by_cases h2 : l.getD 1 0 = 39 /\ 1 < l.length
      · rw [if_pos h2] at hr;exact go 2 _ (by omega) (by omega) hr
      · rw [if_neg h2] at hr;simp only [Option.some.injEq, Prod.mk.injEq] at hr
        obtain ⟨h1, h2⟩ := hr;subst h2;refine ⟨by omega, ?_⟩;cases l with
        | nil => exact absurd rfl hl
        | cons b t =>
         simp only [show a + 1 - a - 1 = 0 from by omega, List.getElem_cons_zero]
         by_cases hb : b.toNat < 128
         · rw [Lib.decodeL_ascii b t hb] at h39;have h39' : b.toNat = 39 := h39;have := UInt8.ofNat_toNat (x := b);rw [h39'] at this; exact this.symm
         · have := high_rune b t (by omega);omega
    rw [if_neg h39] at hr;by_cases h92 : (Lib.decodeL l).1 = 92
    · rw [if_pos h92] at hr;by_cases h0 : (escL (l.drop 1)).2 = 0
      · rw [if_pos h0] at hr; cases hr
      · rw [if_neg h0] at hr;have h3 := escL_le (l.drop 1);rw [List.length_drop] at h3;exact go ((escL (l.drop 1)).2 + 1) _ (by omega) (by omega) (by rw [<- Nat.add_assoc]; exact hr)
    rw [if_neg h92] at hr;by_cases hb : (Lib.decodeL l).1 < 32 \/ ((Lib.decodeL l).1 = 65533 /\ (Lib.decodeL l).2 = 1)
    · rw [if_pos hb] at hr; cases hr
    · rw [if_neg hb] at hr;exact go _ _ hw hle hr
theorem readAt_last (l out : List UInt8) (a : Nat) (o k) (h : readAt l out a = some (o, k)) : ∃ h : k - a - 1 < l.length, l[k - a - 1] = 39 := readAt_last_to _ l out a (Nat.le_refl _) o k h
theorem readL_last {l t : List UInt8} {k : Nat} (h : readL l = some (t, k)) : ∃ h : k - 1 < l.length, l[k - 1] = 39 := by
 by_cases h0 : l.headD 0 = 39
 · rw [readL_eq l h0] at h;have hb := escapes_le _ _ _ _ _ h;obtain ⟨h1, h2⟩ := readAt_last _ _ _ _ _ h;rw [List.length_drop] at h1;rw [List.getElem_drop] at h2;refine ⟨by omega, ?_⟩;rw [<- h2]; congr 1; omega
 · rw [readL_no l h0] at h; cases h
theorem hits_at {l : List UInt8} {k : Nat} {b : UInt8} (hk : 0 < k) (hb : b.toNat < 128) (h : ∃ h : k - 1 < l.length, l[k - 1] = b) : Hits l k := by
 obtain ⟨h1, h2⟩ := h;have := hits_ascii l (k - 1) h1 (by rw [h2]; exact hb);rwa [show k - 1 + 1 = k from by omega] at this
theorem hits_rune (l : List UInt8) (h : l ≠ []) : Hits l (Lib.decodeL l).2 := Hits.mk h (Nat.le_refl _) (by rw [Nat.sub_self]; exact .zero _)
theorem hits_drop_ascii (b : UInt8) (t : List UInt8) (hb : b.toNat < 128) (n : Nat) (h : Hits t n) : Hits (b :: t) (n + 1) := by
 refine Hits.mk (by simp) ?_ ?_
 · rw [Lib.decodeL_ascii b t hb]; simp only; omega
 · rw [Lib.decodeL_ascii b t hb]; exact h
theorem runeNum_hits (l : List UInt8) (h : 0 < (runeNum l).2) : Hits l (runeNum l).2 := by
 unfold runeNum at h ⊢;by_cases h1 : l.take 2 = [48, 39]
 · rw [if_pos h1] at h ⊢;match l, h1 with
   | [a], h1 => simp at h1
   | a :: b :: r, h1 =>
    simp only [List.take_succ_cons, List.take_zero, List.cons.injEq, and_true] at h1
    obtain ⟨rfl, rfl⟩ := h1;rw [List.drop_succ_cons, List.drop_succ_cons, List.drop_zero] at h ⊢;unfold runeB at h ⊢;by_cases h2 : r.take 2 = [39, 39]
    · rw [if_pos h2];match r, h2 with
      | [c], h2 => simp at h2
      | c :: d :: u, h2 =>
       simp only [List.take_succ_cons, List.take_zero, List.cons.injEq, and_true] at h2
       obtain ⟨rfl, rfl⟩ := h2;exact hits_drop_ascii _ _ (by decide) _ (hits_drop_ascii _ _ (by decide) _ (hits_drop_ascii _ _ (by decide) _ (hits_drop_ascii _ _ (by decide) _ (.zero _))))
    · rw [if_neg h2] at h ⊢;by_cases h3 : r = [] \/ (Lib.decodeL r).1 < 32 \/ (Lib.decodeL r).1 = 39 \/ (Lib.decodeL r).1 = 92 \/ ((Lib.decodeL r).1 = 65533 /\ (Lib.decodeL r).2 < 2)
      · rw [if_pos h3] at h; exact absurd h (by decide)
      · rw [if_neg h3];have h4 : r ≠ [] := fun e => h3 (.inl e);show Hits _ (2 + (Lib.decodeL r).2)
        rw [show 2 + (Lib.decodeL r).2 = (Lib.decodeL r).2 + 1 + 1 from by omega];exact hits_drop_ascii _ _ (by decide) _ (hits_drop_ascii _ _ (by decide) _ (hits_rune r h4))
 · rw [if_neg h1] at h; exact absurd h (by decide)
theorem hits_lex (l : List UInt8) : Hits l (lexL l).w := by
 cases l with
 | nil => exact .zero _
 | cons b t =>
  have hnm : ∀ x : Lx, Hits (b :: t) x.w -> Hits (b :: t) (namedL x).w := fun x hx => by
   rcases namedL_w x with h | h <;> rw [h]
   · exact hx
   · exact .zero _
  have h1 : b.toNat < 128 -> Hits (b :: t) 1 := fun hb => hits_drop_ascii _ _ hb _ (.zero _);have hb : ∀ k : Int, k ≠ 0 -> cls (b.toNat : Int) = k -> b.toNat < 128 := fun k hk h => by
   apply Classical.byContradiction
   intro hc;rw [cls_high _ (by omega)] at h;exact hk h.symm
  unfold lexL;dsimp only;repeat' split
  · exact h1 (hb 5 (by decide) (by assumption))
  · exact hnm _ (hits_span _ _ nameR_high _)
  · exact hits_span _ _ nameR_high _
  · unfold numberL;split
    · exact runeNum_hits _ (by assumption)
    · split
      · exact hits_span _ _ digR_high _
      · exact .zero _
  · rename_i h2
    unfold remarkL;split
    · rename_i k hk
      obtain ⟨h3, h4⟩ := closeL_last _ _ hk;have h5 := closeL_le _ _ hk;rw [List.getElem_drop] at h4;rw [List.length_drop] at h3 h5;refine hits_at (b := 47) (by show 0 < k + 2; omega) (by decide) ⟨by show k + 2 - 1 < _; omega, ?_⟩;rw [<- h4];show (b :: t)[k + 2 - 1]'_ = _
      congr 1; omega
    · exact .zero _
  · exact hnm _ (hits_span _ _ signR_high _)
  · refine hnm _ ?_;unfold quotedL;split
    · rename_i t2 k hk
      exact hits_at (show 0 < k by have := (readL_le hk).2; omega) (by decide) (readL_last hk)
    · exact .zero _
  · rename_i h6
    rcases h6 with h6 | h6
    · exact h1 (hb 6 (by decide) h6)
    · exact h1 (hb 7 (by decide) h6)
  · exact hits_span _ _ lineR_high _
  · exact .zero _
def Tok.sh (d : Nat) (t : Tok) : Tok := ⟨t.kind, t.text, t.n, t.pos + d⟩
def Out.sh (d : Nat) : Out -> Out
 | .bad o => .bad (o + d)
 | .good l => .good (l.map (Tok.sh d))
theorem pre_good {ts : List Tok} {o : Out} {T : List Tok} (h : o.pre ts = .good T) : ∃ U, o = .good U /\ T = ts ++ U := by
 cases o with
 | bad o => cases h
 | good U => injection h with h; exact ⟨U, rfl, h.symm⟩
theorem cut_cases {l : List UInt8} {o : Nat} {t : Bool} {T : List Tok} (h : cutL l o t = .good T) :
 (l = [] /\ T = [⟨9, [], 0, o⟩]) \/ (l ≠ [] /\ (lexL l).w ≠ 0 /\ (lexL l).kind = 0 /\ cutL (l.drop (lexL l).w) (o + (lexL l).w) false = .good T) \/
 (l ≠ [] /\ (lexL l).w ≠ 0 /\ (lexL l).kind ≠ 0 /\ ∃ U, cutL (l.drop (lexL l).w) (o + (lexL l).w) (opensL (kindL t (lexL l)) (lexL l).text) = .good U /\ T = ⟨kindL t (lexL l), (lexL l).text, (lexL l).n, o⟩ :: U) := by
 by_cases hl : l = []
 · subst hl; rw [cutL_nil] at h; injection h with h; exact .inl ⟨rfl, h.symm⟩
 · rw [cutL_step l o t hl] at h;by_cases hw : (lexL l).w = 0
   · rw [if_pos hw] at h; cases h
   · rw [if_neg hw] at h;by_cases hk : (lexL l).kind = 0
     · rw [if_pos hk] at h; exact .inr (.inl ⟨hl, hw, hk, h⟩)
     · rw [if_neg hk] at h;obtain ⟨U, h1, h2⟩ := pre_good h;exact .inr (.inr ⟨hl, hw, hk, U, h1, h2⟩)
theorem cut_ind {P : List UInt8 -> Nat -> Bool -> List Tok -> Prop}
 (nil : ∀ o t, P [] o t [⟨9, [], 0, o⟩])
 (skip : ∀ l o t T, l ≠ [] -> (lexL l).w ≠ 0 -> (lexL l).kind = 0 -> cutL (l.drop (lexL l).w) (o + (lexL l).w) false = .good T -> P (l.drop (lexL l).w) (o + (lexL l).w) false T -> P l o t T)
 (tok : ∀ l o t U, l ≠ [] -> (lexL l).w ≠ 0 -> (lexL l).kind ≠ 0 -> cutL (l.drop (lexL l).w) (o + (lexL l).w) (opensL (kindL t (lexL l)) (lexL l).text) = .good U -> P (l.drop (lexL l).w) (o + (lexL l).w) (opensL (kindL t (lexL l)) (lexL l).text) U ->
   P l o t (⟨kindL t (lexL l), (lexL l).text, (lexL l).n, o⟩ :: U))
 (l : List UInt8) : ∀ (o : Nat) (t : Bool) (T : List Tok), cutL l o t = .good T -> P l o t T := by
 induction e : l.length using Nat.strongRecOn generalizing l with
 | _ n ih =>
  intro o t T h;rcases cut_cases h with ⟨rfl, rfl⟩ | ⟨hl, hw, hk, h1⟩ | ⟨hl, hw, hk, U, h1, rfl⟩
  · exact nil o t
  · have hp : 0 < l.length := List.length_pos_iff.2 hl;exact skip l o t T hl hw hk h1 (ih _ (by rw [List.length_drop]; omega) _ rfl _ _ _ h1)
  · have hp : 0 < l.length := List.length_pos_iff.2 hl;exact tok l o t U hl hw hk h1 (ih _ (by rw [List.length_drop]; omega) _ rfl _ _ _ h1)
def Alike (x y : Tok) : Prop := x = y \/ (y.kind = 7 /\ x.kind = 6 /\ x.text = y.text /\ x.n = y.n /\ x.pos = y.pos)
def Own (l : List UInt8) (o : Nat) (x : Tok) : Prop := x.kind = 2 \/ x.kind = 5 \/ x.kind = 9 \/ (x.text ≠ [] /\ x.pos + x.text.length <= o + l.length /\ (l.drop (x.pos - o)).take x.text.length = x.text)
theorem cut_many {l : List UInt8} {o : Nat} {t : Bool} {T : List Tok} (h : cutL l o t = .good T) : T.length <= l.length + 1 := by
 have hle := lexL_le;revert h
 refine cut_ind (P := fun l _ _ T => T.length <= l.length + 1) ?_ ?_ ?_ l o t T
 · intro o t; simp
 · intro l o t T hl hw _ _ h;rw [List.length_drop] at h;omega
 · intro l o t U hl hw _ _ h;have := hle l;rw [List.length_drop] at h;rw [List.length_cons];omega
def Pos (k n n' b c : Nat) : Prop := k < n /\ b / 64 = 2 /\ k < n' /\ c = b
def Neg (k n n' b c : Nat) : Prop := ¬ (k < n /\ b / 64 = 2) /\ ¬ (k < n' /\ c / 64 = 2)
def aheadL : Nat -> List UInt8
 | 0 => [32]
 | 1 => [10]
 | 2 => [37, 32, 120, 32, 46, 32, 39, 32, 121, 10]
 | 3 => [47, 42, 32, 97, 10, 32, 39, 42, 47]
 | _ => [47, 42, 42, 47, 9]
end Go.Proofs.YtinefdlkajnomaaGreatDoor
