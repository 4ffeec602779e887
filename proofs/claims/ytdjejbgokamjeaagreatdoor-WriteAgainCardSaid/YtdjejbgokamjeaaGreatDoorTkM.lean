import Derived.IntWalk
import Derived.Test.YtdjejbgokamjeaaGreatDoorChecked
import Derived.WalkKit
import Derived.WalkSpells
import Derived.Lib.Hide
import Derived.Lib.ItoaMem
import Derived.Lib.OthersKept
import Derived.Laws.RangeAny
import Derived.Laws.RangeString
import Derived.Lib.ItoaLen
import Derived.Laws.IdiomStrings
import Derived.Test.YtdjejbgokamjeaaGreatDoorCharM
import Derived.Lib.SpaceUEq
namespace Go.Proofs.YtdjejbgokamjeaaGreatDoor
open Go.RowKit
def In64 (x : Int) : Prop := -9223372036854775808 <= x /\ x <= 9223372036854775807
def chkV (x : Int) : Int := if -9223372036854775808 <= x /\ x <= 9223372036854775807 then x else 0
def chkE (x : Int) : Int := if -9223372036854775808 <= x /\ x <= 9223372036854775807 then 0 else 10
theorem chkV_in {x : Int} (h : In64 x) : chkV x = x := if_pos h
theorem chkE_in {x : Int} (h : In64 x) : chkE x = 0 := if_pos h
theorem chkV_out {x : Int} (h : ¬ In64 x) : chkV x = 0 := if_neg h
theorem chkE_out {x : Int} (h : ¬ In64 x) : chkE x = 10 := if_neg h
theorem tdiv_mul (a b : Int) (hb : b ≠ 0) : (a * b).tdiv b = a := Int.mul_tdiv_cancel a hb
theorem tdiv_off (p b : Int) : p = b * p.tdiv b + p.tmod b := (Int.mul_tdiv_add_tmod p b).symm
theorem tmod_lt (p b : Int) (hb : b ≠ 0) : -(b.natAbs : Int) < p.tmod b /\ p.tmod b < b.natAbs := by
 have h := Int.natAbs_tmod p b;have h2 : p.natAbs % b.natAbs < b.natAbs := Nat.mod_lt _ (by omega);omega
theorem mul_back (a b : Int) (hb : b ≠ 0) (hb1 : In64 b) (h : (wrap64 (a * b)).tdiv b = a) : In64 (a * b) := by
 have h1 := tdiv_off (wrap64 (a * b)) b;have h2 := tmod_lt (wrap64 (a * b)) b hb;rw [h, Int.mul_comm b a] at h1;generalize (wrap64 (a * b)).tmod b = r at *;generalize a * b = p at *;unfold In64 at *;unfold wrap64 at h1;omega
theorem mul_fwd (a b : Int) (hb : b ≠ 0) (h : In64 (a * b)) : (wrap64 (a * b)).tdiv b = a := by
 rw [IntWalk.wrap64_in _ h, tdiv_mul a b hb]
theorem tdiv_in {p b : Int} (hp : In64 p) (h0 : b ≠ 0) (h1 : b ≠ -1) : In64 (p.tdiv b) := by
 by_cases hb : b = 1
 · subst hb; rw [Int.tdiv_one]; exact hp
 · have h : (p.tdiv b).natAbs = p.natAbs / b.natAbs := Int.natAbs_tdiv p b;have h2 : p.natAbs / b.natAbs <= p.natAbs / 2 := Nat.div_le_div_left (by omega) (by omega);rw [<- h] at h2;clear h;generalize p.tdiv b = e at h2 ⊢;unfold In64 at *;omega
theorem mul_over {a b : Int} (ha : In64 a) (h0 : b ≠ 0) (h : (wrap64 ((wrap64 (a * b)).tdiv b) != a) = true) : ¬ In64 (a * b) := by
 intro hin;rw [mul_fwd a b h0 hin, IntWalk.wrap64_in _ ha] at h;simp at h
theorem mul_good {a b : Int} (ha : In64 a) (hb : In64 b) (h0 : b ≠ 0) (h1 : b = -1 -> a ≠ -9223372036854775808) (h : (wrap64 ((wrap64 (a * b)).tdiv b) != a) = false) : In64 (a * b) := by
 by_cases hb1 : b = -1
 · have := h1 hb1;subst hb1;unfold In64 at *;omega
 · refine mul_back a b h0 hb ?_;have hw : In64 (wrap64 (a * b)) := by unfold In64 wrap64; omega
   rw [IntWalk.wrap64_in _ (tdiv_in hw h0 hb1)] at h;simpa using h
def quoV (a b : Int) : Int := if b = 0 then 0 else chkV (a.tdiv b)
def quoE (a b : Int) : Int := if b = 0 then 11 else chkE (a.tdiv b)
def remV (a b : Int) : Int := if b = 0 then 0 else a.tmod b
def zeroE (b : Int) : Int := if b = 0 then 11 else 0
def adj (r b : Int) : Int := if r ≠ 0 /\ ¬ (r < 0 ↔ b < 0) then r + b else r
def modV (a b : Int) : Int := if b = 0 then 0 else adj (a.tmod b) b
def cmpV (a b : Int) : Int := if a < b then -1 else if b < a then 1 else 0
theorem ans_in {x v : Int} (hx : In64 x) (hv : v = x) : Ending.returned (.tuple #[.int .i64 v, .int .i64 0]) = .returned (.tuple #[.int .i64 (chkV x), .int .i64 (chkE x)]) := by
 rw [chkV_in hx, chkE_in hx, hv]
theorem ans_out {x : Int} (hx : ¬ In64 x) : Ending.returned (.tuple #[.int .i64 0, .int .i64 10]) = .returned (.tuple #[.int .i64 (chkV x), .int .i64 (chkE x)]) := by
 rw [chkV_out hx, chkE_out hx]
theorem ans_eq {v e v' e' : Int} (hv : v = v') (he : e = e') : Ending.returned (.tuple #[.int .i64 v, .int .i64 e]) = .returned (.tuple #[.int .i64 v', .int .i64 e']) := by
 rw [hv, he]
theorem ret_int {a b : Int} (h : a = b) : Ending.returned (.int .i64 a) = .returned (.int .i64 b) := by rw [h]
set_option maxHeartbeats 400000 in
theorem ref_Sub (a b : Int) (w : World) (ha : In64 a) (hb : In64 b) :
 Calls Tryz.prog 92 #[.int .i64 a, .int .i64 b] w fun e w' => e = .returned (.tuple #[.int .i64 (chkV (a - b)), .int .i64 (chkE (a - b))]) /\ w = w' := by
 unfold In64 at ha hb;obtain ⟨ha1, ha2⟩ := ha;obtain ⟨hb1, hb2⟩ := hb;go_enter Tryz.func92, Tryz.ntmps92;go_wp2
 all_goals
  go_ret2;first
   | exact ⟨ans_in (by unfold In64; omega) rfl, rfl⟩
   | exact ⟨ans_out (by unfold In64; omega), rfl⟩
set_option maxHeartbeats 400000 in
theorem ref_Mul (a b : Int) (w : World) (ha : In64 a) (hb : In64 b) :
 Calls Tryz.prog 91 #[.int .i64 a, .int .i64 b] w fun e w' => e = .returned (.tuple #[.int .i64 (chkV (a * b)), .int .i64 (chkE (a * b))]) /\ w = w' := by
 have ha' := ha;have hb' := hb;unfold In64 at ha hb;obtain ⟨ha1, ha2⟩ := ha;obtain ⟨hb1, hb2⟩ := hb;by_cases h0 : b = 0
 · subst h0;go_enter Tryz.func91, Tryz.ntmps91;go_wp2
   all_goals
    go_ret2;exact ⟨ans_in (by unfold In64; omega) (by omega), rfl⟩
 by_cases g0 : a = 0
 · subst g0;go_enter Tryz.func91, Tryz.ntmps91;go_wp2;go_ret2;exact ⟨ans_in (by unfold In64; omega) (by omega), rfl⟩
 by_cases g1 : a = -1
 · subst g1;by_cases hl : b = -9223372036854775808
   · subst hl;go_enter Tryz.func91, Tryz.ntmps91;go_wp2;go_ret2;exact ⟨ans_out (by unfold In64; omega), rfl⟩
   · have e0 : (b == 0) = false := by simpa using h0
     have el : (b == -9223372036854775808) = false := by simpa using hl
     go_enter Tryz.func91, Tryz.ntmps91;go_wp2
     all_goals
      go_ret2;exact ⟨ans_in (by unfold In64; omega) (by omega), rfl⟩
 by_cases h1 : b = -1
 · subst h1;by_cases hl : a = -9223372036854775808
   · subst hl;go_enter Tryz.func91, Tryz.ntmps91;go_wp2;go_ret2;exact ⟨ans_out (by unfold In64; omega), rfl⟩
   · have e0 : (a == 0) = false := by simpa using g0
     have e1 : (a == -1) = false := by simpa using g1
     have el : (a == -9223372036854775808) = false := by simpa using hl
     have hlo : -9223372036854775807 <= a := by omega
     go_enter Tryz.func91, Tryz.ntmps91;go_wp2
     all_goals
      go_ret2;exact ⟨ans_in (by unfold In64; omega) (by omega), rfl⟩
 · have e0 : (b == 0) = false := by simpa using h0
   have e1 : (a == 0) = false := by simpa using g0
   have e2 : (a == -1) = false := by simpa using g1
   have e3 : (b == -1) = false := by simpa using h1
   go_enter Tryz.func91, Tryz.ntmps91;go_wp2
   · go_ret2;exact ⟨ans_out (mul_over ha' h0 ‹_›), rfl⟩
   · go_ret2;have h := mul_good ha' hb' h0 (fun h => absurd h h1) ‹_›;exact ⟨ans_in h (IntWalk.wrap64_in _ h), rfl⟩
set_option maxHeartbeats 400000 in
theorem ref_Neg (a : Int) (w : World) (ha : In64 a) :
 Calls Tryz.prog 93 #[.int .i64 a] w fun e w' => e = .returned (.tuple #[.int .i64 (chkV (-a)), .int .i64 (chkE (-a))]) /\ w = w' := by
 go_enter Tryz.func93, Tryz.ntmps93;go_wp2_with (go_at_call 92; refine (ref_Sub _ _ _ (by unfold In64; omega) ha).mono ?_; rintro e w' ⟨rfl, rfl⟩; rw [show 0 - a = -a by omega]);go_ret2;exact ⟨rfl, rfl⟩
def absI (a : Int) : Int := if 0 <= a then a else -a
def isDig (c : UInt8) : Bool := decide (48 <= c.toNat /\ c.toNat <= 57)
def val (l : List UInt8) : Int := l.foldl (fun n c => 10 * n + ((c.toNat : Int) - 48)) 0
def body : List UInt8 -> List UInt8
 | [] => []
 | c :: t => if c.toNat = 45 then t else c :: t
def neg : List UInt8 -> Bool
 | [] => false
 | c :: _ => decide (c.toNat = 45)
def readN (l : List UInt8) : Int := if neg l then -(val (body l)) else val (body l)
def readV (l : List UInt8) : Int := if body l = [] \/ (body l).all isDig = false then 0 else chkV (readN l)
def readE (l : List UInt8) : Int := if body l = [] \/ (body l).all isDig = false then 20 else chkE (readN l)
theorem val_snoc (l : List UInt8) (c : UInt8) : val (l ++ [c]) = 10 * val l + ((c.toNat : Int) - 48) := by
 unfold val;rw [List.foldl_append];rfl
theorem isDig_iff (c : UInt8) : isDig c = true ↔ 48 <= c.toNat /\ c.toNat <= 57 := by unfold isDig; simp
theorem isDig_not (c : UInt8) : isDig c = false ↔ c.toNat < 48 \/ 57 < c.toNat := by unfold isDig; simp; omega
theorem val_foldl_nonneg : ∀ (l : List UInt8) (n : Int), 0 <= n -> l.all isDig = true -> 0 <= l.foldl (fun n c => 10 * n + ((c.toNat : Int) - 48)) n
 | [], n, h, _ => h
 | c :: t, n, h, ha => by
  rw [List.all_cons, Bool.and_eq_true] at ha;have hc := (isDig_iff c).1 ha.1;exact val_foldl_nonneg t (10 * n + ((c.toNat : Int) - 48)) (by omega) ha.2
theorem val_nonneg {l : List UInt8} (h : l.all isDig = true) : 0 <= val l := val_foldl_nonneg l 0 (Int.le_refl 0) h
def St (p : List UInt8) (n e : Int) : Prop :=
 (body p).all isDig = true /\ ((e = 0 /\ n = -(val (body p)) /\ In64 n) \/ (e = 10 /\ n = 0 /\ ¬ In64 (-(val (body p)))))
theorem read_bad {l : List UInt8} (h : body l = [] \/ (body l).all isDig = false) : readV l = 0 /\ readE l = 20 := ⟨if_pos h, if_pos h⟩
theorem read_good {l : List UInt8} (h0 : body l ≠ []) (h : (body l).all isDig = true) : readV l = chkV (readN l) /\ readE l = chkE (readN l) := by
 have : ¬ (body l = [] \/ (body l).all isDig = false) := by simp [h0, h]
 exact ⟨if_neg this, if_neg this⟩
theorem read_neg {l : List UInt8} {n : Int} (h0 : body l ≠ []) (h : St l n 0) (hn : neg l = true) : readV l = n /\ readE l = 0 := by
 obtain ⟨ha, ⟨_, e, hi⟩ | ⟨he, _⟩⟩ := h
 · have : readN l = n := by unfold readN; rw [if_pos hn, e]
   rw [(read_good h0 ha).1, (read_good h0 ha).2, this, chkV_in hi, chkE_in hi];exact ⟨rfl, rfl⟩
 · exact absurd he (by decide)
theorem read_pos {l : List UInt8} {n : Int} (h0 : body l ≠ []) (h : St l n 0) (hn : neg l = false) : readV l = chkV (-n) /\ readE l = chkE (-n) := by
 obtain ⟨ha, ⟨_, e, hi⟩ | ⟨he, _⟩⟩ := h
 · have : readN l = -n := by unfold readN; rw [hn, e]; simp
   rw [(read_good h0 ha).1, (read_good h0 ha).2, this];exact ⟨rfl, rfl⟩
 · exact absurd he (by decide)
theorem take_snoc (s : ByteArray) (k : Nat) (h : k < s.size) : s.data.toList.take (k + 1) = s.data.toList.take k ++ [s[k]] := by
 rw [List.take_succ_eq_append_getElem (by simpa using h)]; rfl
theorem take_drop (s : ByteArray) (k : Nat) (h : k < s.size) : s.data.toList = s.data.toList.take k ++ s[k] :: s.data.toList.drop (k + 1) := by
 have h1 : s.data.toList.drop k = s[k] :: s.data.toList.drop (k + 1) := List.drop_eq_getElem_cons (by simpa using h);rw [<- h1, List.take_append_drop]
theorem ofNat_toNat (k : Nat) (h : k <= 9) : (UInt8.ofNat (48 + k)).toNat = 48 + k := by
 rw [UInt8.toNat_ofNat'];omega
theorem dig_isDig (k : Nat) (h : k <= 9) : isDig (UInt8.ofNat (48 + k)) = true := by
 rw [isDig_iff, ofNat_toNat k h];omega
theorem decDigits_all (u : Nat) : (Lib.decDigits u).all isDig = true := by
 induction u using Nat.strongRecOn with
 | _ u ih =>
  rw [Lib.decDigits];split
  · rw [List.all_cons, dig_isDig u (by omega), List.all_nil];rfl
  · rw [List.all_append, ih (u / 10) (by omega), List.all_cons, dig_isDig (u % 10) (by omega), List.all_nil];rfl
theorem decDigits_val (u : Nat) : val (Lib.decDigits u) = u := by
 induction u using Nat.strongRecOn with
 | _ u ih =>
  rw [Lib.decDigits];split
  · show 10 * 0 + (((UInt8.ofNat (48 + u)).toNat : Int) - 48) = u
    rw [ofNat_toNat u (by omega)];omega
  · rw [val_snoc, ih (u / 10) (by omega), ofNat_toNat (u % 10) (by omega)];omega
theorem decDigits_ne (u : Nat) : Lib.decDigits u ≠ [] := by
 rw [Lib.decDigits];split <;> simp
theorem body_dig {l : List UInt8} (h : l.all isDig = true) : body l = l /\ neg l = false := by
 cases l with
 | nil => exact ⟨rfl, rfl⟩
 | cons c t =>
  rw [List.all_cons, Bool.and_eq_true] at h;have := (isDig_iff c).1 h.1;constructor
  · show (if c.toNat = 45 then t else c :: t) = c :: t
    rw [if_neg (by omega)]
  · show decide (c.toNat = 45) = false
    simp
    omega
theorem body_neg (l : List UInt8) : body (45 :: l) = l /\ neg (45 :: l) = true := ⟨rfl, rfl⟩
theorem read_digits {l : List UInt8} {a : Int} (h : l.all isDig = true) (hn : l ≠ []) (hv : val l = a) (ha : In64 a) : readV l = a /\ readE l = 0 := by
 obtain ⟨h1, h2⟩ := body_dig h;have hr : readN l = a := by unfold readN; rw [h2, h1, hv]; rfl
 have hg := read_good (l := l) (by rw [h1]; exact hn) (by rw [h1]; exact h);rw [hg.1, hg.2, hr, chkV_in ha, chkE_in ha];exact ⟨rfl, rfl⟩
theorem read_minus {l : List UInt8} {a : Int} (h : l.all isDig = true) (hn : l ≠ []) (hv : -(val l) = a) (ha : In64 a) : readV (45 :: l) = a /\ readE (45 :: l) = 0 := by
 have hr : readN (45 :: l) = a := by unfold readN; rw [(body_neg l).1, (body_neg l).2, if_pos rfl, hv]
 have hg := read_good (l := 45 :: l) (by rw [(body_neg l).1]; exact hn) (by rw [(body_neg l).1]; exact h);rw [hg.1, hg.2, hr, chkV_in ha, chkE_in ha];exact ⟨rfl, rfl⟩
theorem itoa_pos (a : Int) (h : 0 <= a) : Lib.itoa a = Lib.decDigits a.toNat := by
 obtain ⟨u, rfl⟩ := Int.eq_ofNat_of_zero_le h;exact Lib.itoa_nonneg u
theorem itoa_neg' (a : Int) (h : a < 0) : Lib.itoa a = 45 :: Lib.decDigits (-a).toNat := by
 obtain ⟨u, hu⟩ := Int.eq_ofNat_of_zero_le (show 0 <= -a by omega);have : a = -(u : Int) := by omega
 rw [this, Lib.itoa_neg u (by omega)];simp
theorem read_itoa (a : Int) (ha : In64 a) : readV (Lib.itoa a) = a /\ readE (Lib.itoa a) = 0 := by
 by_cases h : 0 <= a
 · rw [itoa_pos a h];exact read_digits (decDigits_all _) (decDigits_ne _) (by rw [decDigits_val]; omega) ha
 · rw [itoa_neg' a (by omega)];exact read_minus (decDigits_all _) (decDigits_ne _) (by rw [decDigits_val]; omega) ha
end Go.Proofs.YtdjejbgokamjeaaGreatDoor
namespace Go.Proofs.YtdjejbgokamjeaaGreatDoor
open Go.RowKit
def endB (b : UInt8) : Bool := decide (b.toNat = 40 \/ b.toNat = 41 \/ b.toNat = 44)
def Ends (r : List UInt8) : Prop := r = [] \/ ∃ b t, r = b :: t /\ endB b = true
theorem ascii_rune {l : List UInt8} (hl : l ≠ []) (hv : Lib.validD l = true) (h : (Lib.decodeL l).1 < 128) : ∃ b t, l = b :: t /\ b.toNat = (Lib.decodeL l).1 /\ l.drop (Lib.decodeL l).2 = t := by
 obtain ⟨hb, _⟩ := valid_cons hl hv;obtain ⟨_, he⟩ := encL_decodeL l hl hb;rw [encL_ascii _ (by omega) (by omega)] at he;have hw := Lib.decodeL_width l;cases l with
 | nil => exact absurd rfl hl
 | cons b t =>
  obtain ⟨k, hk⟩ : ∃ k, (Lib.decodeL (b :: t)).2 = k + 1 := by
   have := congrArg List.length he;rw [List.length_take, List.length_singleton] at this;exact ⟨(Lib.decodeL (b :: t)).2 - 1, by omega⟩
  rw [hk, List.take_succ_cons] at he;injection he with h1 h2;refine ⟨b, t, rfl, ?_, ?_⟩
  · have e : ((Lib.decodeL (b :: t)).1 : Int).toNat = (Lib.decodeL (b :: t)).1 := by omega
    rw [e] at h1;have h5 := congrArg UInt8.toNat h1;rw [toNat_of _ (by omega)] at h5;exact h5.symm
  · rw [hk, List.drop_succ_cons];have h3 : (List.take k t).length = 0 := by rw [<- h2]; rfl
    rw [List.length_take] at h3;rcases Nat.eq_zero_or_pos k with rfl | hp
    · rfl
    · have : t.length = 0 := by omega
      rw [List.eq_nil_of_length_eq_zero this]; simp
theorem name_ascii {c : Int} (h : nameR c = true \/ signR c = true) : c < 128 /\ c ≠ 40 /\ c ≠ 41 /\ c ≠ 44 /\ c ≠ 39 := by
 unfold nameR signR cls at h;simp only [decide_eq_true_eq] at h
 refine ⟨?_, ?_, ?_, ?_, ?_⟩
 · apply Classical.byContradiction
   intro hc;rw [if_neg (by omega), if_neg (by omega), if_neg (by omega), if_neg (by omega), if_neg (by omega), if_neg (by omega), if_neg (by omega), if_neg (by omega)] at h;omega
 all_goals
  intro hc;subst hc;revert h; decide
theorem runes_bytes : ∀ (n : Nat) (l : List UInt8), l.length <= n -> Lib.validD l = true -> (∀ c ∈ runesL l, nameR c = true \/ signR c = true) -> runesL l = l.map (fun b => (b.toNat : Int))
 | 0, l, h, _, _ => by rw [List.eq_nil_of_length_eq_zero (Nat.le_zero.1 h)]; rfl
 | n + 1, l, h, hv, hr => by
  by_cases hl : l = []
  · subst hl; rfl
  · have hc := runesL_cons l hl;rw [hc] at hr;have h1 := name_ascii (hr _ (.head _));obtain ⟨b, t, e1, e2, e3⟩ := ascii_rune hl hv (by omega);have hv2 := (valid_cons hl hv).2;rw [e3] at hc hv2 hr;have hlen : t.length <= n := by rw [e1] at h; exact Nat.le_of_succ_le_succ h
    rw [hc, runes_bytes n t hlen hv2 (fun c hc => hr c (.tail _ hc)), <- e2, e1]; rfl
theorem bare_parts {l : List UInt8} (h : bareL l = true) : Lib.validD l = true /\ l ≠ [] /\ (l = [91, 93] \/ l = [123, 125] \/ l = [33] \/ l = [59] \/ (cls ((runesL l).headD 0) = 1 /\ (runesL l).all nameR = true) \/ (runesL l).all signR = true) := by
 unfold bareL at h;simp only [Bool.and_eq_true, Bool.or_eq_true, Bool.not_eq_true', Bool.or_eq_false_iff, decide_eq_true_eq, decide_eq_false_iff_not] at h
 obtain ⟨⟨h1, h2⟩, h3⟩ := h;unfold checkL at h1;rw [Bool.and_eq_true] at h1;refine ⟨h1.2, h2.1.1, ?_⟩;rcases h3 with ((((h3 | h3) | h3) | h3) | h3) | h3
 · exact .inl h3
 · exact .inr (.inl h3)
 · exact .inr (.inr (.inl h3))
 · exact .inr (.inr (.inr (.inl h3)))
 · exact .inr (.inr (.inr (.inr (.inl h3))))
 · exact .inr (.inr (.inr (.inr (.inr h3))))
inductive Tk where
 | var (n : Int)
 | num (n : Int)
 | atom (s : List UInt8)
def Tk.ok : Tk -> Prop
 | .var n => In64 n
 | .num n => In64 n
 | .atom s => checkL s = true
def Tk.txt : Tk -> List UInt8
 | .var n => 95 :: Lib.itoa n
 | .num n => Lib.itoa n
 | .atom s => writeL s
def Tk.quoted : Tk -> Bool
 | .atom s => !bareL s
 | _ => false
structure Lx where
 kind : Int
 text : List UInt8
 n : Int
 w : Nat
def lx0 : Lx := ⟨0, [], 0, 0⟩
def spanL (P : Int -> Bool) (l : List UInt8) : Nat := (l.takeWhile fun b => P (b.toNat : Int)).length
def digR (c : Int) : Bool := decide (cls c = 3)
def lineR (c : Int) : Bool := decide (c ≠ 10)
def namedL (x : Lx) : Lx := if checkL x.text then x else lx0
def wordL (k : Int) (l : List UInt8) : Lx := ⟨k, l.take (spanL nameR l), 0, spanL nameR l⟩
def partsL (l : List UInt8) : Bool := match l with | [] => true | b :: _ => decide (b = 37) || decide (cls (b.toNat : Int) = 5)
def signsL (l : List UInt8) : Lx := ⟨if l.take (spanL signR l) = [46] /\ partsL (l.drop (spanL signR l)) = true then 8 else 3, l.take (spanL signR l), 0, spanL signR l⟩
def quotedL (l : List UInt8) : Lx := match readL l with | some (t, k) => ⟨2, t, 0, k⟩ | none => lx0
def singleL (b : UInt8) : Lx := ⟨if b = 33 \/ b = 59 then 1 else 6, [b], 0, 1⟩
def runeB (r : List UInt8) : Int × Nat :=
 if r.take 2 = [39, 39] then (39, 4)
 else if r = [] \/ (Lib.decodeL r).1 < 32 \/ (Lib.decodeL r).1 = 39 \/ (Lib.decodeL r).1 = 92 \/ ((Lib.decodeL r).1 = 65533 /\ (Lib.decodeL r).2 < 2) then (0, 0)
 else (((Lib.decodeL r).1 : Int), 2 + (Lib.decodeL r).2)
def runeNum (l : List UInt8) : Int × Nat := if l.take 2 = [48, 39] then runeB (l.drop 2) else (0, 0)
def numberL (l : List UInt8) : Lx :=
 if 0 < (runeNum l).2 then ⟨5, [], (runeNum l).1, (runeNum l).2⟩
 else if readE (45 :: l.take (spanL digR l)) = 0 then ⟨5, [], wrap64 (-(readV (45 :: l.take (spanL digR l)))), spanL digR l⟩ else lx0
def closeL : List UInt8 -> Option Nat
 | [] => none
 | b :: t => if b = 42 /\ t.headD 0 = 47 /\ t ≠ [] then some 2 else (closeL t).map (· + 1)
def remarkL (l : List UInt8) : Lx := match closeL (l.drop 2) with | some k => ⟨0, [], 0, k + 2⟩ | none => lx0
def lexL (l : List UInt8) : Lx :=
 match l with
 | [] => lx0
 | b :: t =>
  if cls (b.toNat : Int) = 5 then ⟨0, [], 0, 1⟩
  else if cls (b.toNat : Int) = 1 then namedL (wordL 1 (b :: t))
  else if cls (b.toNat : Int) = 2 then wordL 4 (b :: t)
  else if cls (b.toNat : Int) = 3 then numberL (b :: t)
  else if cls (b.toNat : Int) = 4 then (if (b :: t).take 2 = [47, 42] then remarkL (b :: t) else namedL (signsL (b :: t)))
  else if cls (b.toNat : Int) = 8 then namedL (quotedL (b :: t))
  else if cls (b.toNat : Int) = 6 \/ cls (b.toNat : Int) = 7 then singleL b
  else if b = 37 then ⟨0, [], 0, spanL lineR (b :: t)⟩
  else lx0
structure Tok where
 kind : Int
 text : List UInt8
 n : Int
 pos : Nat
inductive Out where
 | bad (o : Nat)
 | good (l : List Tok)
def Out.pre (ts : List Tok) : Out -> Out
 | .bad o => .bad o
 | .good l => .good (ts ++ l)
def opensL (k : Int) (t : List UInt8) : Bool := decide (k = 1) || decide (k = 2) || decide (k = 3) || (decide (k = 6) && (decide (t = [93]) || decide (t = [125])))
def kindL (tight : Bool) (x : Lx) : Int := if tight = true /\ x.text = [40] /\ x.kind = 6 then 7 else x.kind
def cutGo : Nat -> List UInt8 -> Nat -> Bool -> Out
 | 0, _, o, _ => .good [⟨9, [], 0, o⟩]
 | f + 1, l, o, tight =>
  if l = [] then .good [⟨9, [], 0, o⟩]
  else if (lexL l).w = 0 then .bad o
  else if (lexL l).kind = 0 then cutGo f (l.drop (lexL l).w) (o + (lexL l).w) false
  else (cutGo f (l.drop (lexL l).w) (o + (lexL l).w) (opensL (kindL tight (lexL l)) (lexL l).text)).pre [⟨kindL tight (lexL l), (lexL l).text, (lexL l).n, o⟩]
def cutL (l : List UInt8) (o : Nat) (tight : Bool) : Out := cutGo l.length l o tight
theorem cutGo_fuel : ∀ (f : Nat) (l : List UInt8) (o : Nat) (t : Bool), l.length <= f -> cutGo f l o t = cutGo l.length l o t
 | 0, l, o, t, h => by rw [List.eq_nil_of_length_eq_zero (Nat.le_zero.1 h)]; rfl
 | f + 1, l, o, t, h => by
  by_cases hl : l = []
  · subst hl; rfl
  · have hp : 0 < l.length := List.length_pos_iff.2 hl;obtain ⟨m, hm⟩ : ∃ m, l.length = m + 1 := ⟨l.length - 1, by omega⟩;rw [hm];unfold cutGo;rw [if_neg hl, if_neg hl];by_cases hw : (lexL l).w = 0
    · rw [if_pos hw, if_pos hw]
    · have hd : (l.drop (lexL l).w).length <= m := by rw [List.length_drop]; omega
      rw [if_neg hw, if_neg hw];have ih : ∀ o t, cutGo f (l.drop (lexL l).w) o t = cutGo m (l.drop (lexL l).w) o t := fun o t => by
       rw [cutGo_fuel f _ _ _ (by omega), cutGo_fuel m _ _ _ hd]
      rw [ih, ih]
theorem cutL_nil (o : Nat) (t : Bool) : cutL [] o t = .good [⟨9, [], 0, o⟩] := rfl
theorem cutL_step (l : List UInt8) (o : Nat) (t : Bool) (hl : l ≠ []) : cutL l o t =
 if (lexL l).w = 0 then .bad o
 else if (lexL l).kind = 0 then cutL (l.drop (lexL l).w) (o + (lexL l).w) false
 else (cutL (l.drop (lexL l).w) (o + (lexL l).w) (opensL (kindL t (lexL l)) (lexL l).text)).pre [⟨kindL t (lexL l), (lexL l).text, (lexL l).n, o⟩] := by
 have hp : 0 < l.length := List.length_pos_iff.2 hl;obtain ⟨m, hm⟩ : ∃ m, l.length = m + 1 := ⟨l.length - 1, by omega⟩;conv => lhs; unfold cutL; rw [hm]; unfold cutGo
 rw [if_neg hl];by_cases hw : (lexL l).w = 0
 · rw [if_pos hw, if_pos hw]
 · have hd : (l.drop (lexL l).w).length <= m := by rw [List.length_drop]; omega
   rw [if_neg hw, if_neg hw];rw [cutGo_fuel m _ _ _ hd, cutGo_fuel m _ _ _ hd];rfl
theorem pre_pre (a b : List Tok) (o : Out) : (o.pre b).pre a = o.pre (a ++ b) := by cases o <;> simp [Out.pre]
theorem pre_nil (o : Out) : o.pre [] = o := by cases o <;> rfl
theorem spanL_le (P : Int -> Bool) (l : List UInt8) : spanL P l <= l.length := (List.takeWhile_sublist _).length_le
theorem take_spanL (P : Int -> Bool) (l : List UInt8) : l.take (spanL P l) = l.takeWhile fun b => P (b.toNat : Int) := by
 unfold spanL;induction l with
 | nil => rfl
 | cons b t ih =>
  rw [List.takeWhile_cons];split
  · rw [List.length_cons, List.take_succ_cons, ih]
  · rfl
theorem spanL_pos (P : Int -> Bool) (b : UInt8) (t : List UInt8) (h : P (b.toNat : Int) = true) : 0 < spanL P (b :: t) := by
 unfold spanL;rw [List.takeWhile_cons, if_pos h, List.length_cons]; omega
theorem closeL_le : ∀ (l : List UInt8) (k : Nat), closeL l = some k -> k <= l.length /\ 2 <= k
 | [], k, h => by cases h
 | b :: t, k, h => by
  unfold closeL at h;split at h
  · rename_i hc
    injection h with h;have : 0 < t.length := List.length_pos_iff.2 hc.2.2;rw [List.length_cons]; omega
  · cases hc : closeL t with
    | none => rw [hc] at h; cases h
    | some m =>
     rw [hc] at h;have := closeL_le t m hc;simp only [Option.map_some, Option.some.injEq] at h
     rw [List.length_cons]; omega
theorem runeB_le (r : List UInt8) : (runeB r).2 <= r.length + 2 := by
 unfold runeB;by_cases h1 : r.take 2 = [39, 39]
 · have h2 := congrArg List.length h1;rw [List.length_take] at h2;simp only [List.length_cons, List.length_nil] at h2
   rw [if_pos h1];show 4 <= _
   omega
 rw [if_neg h1];by_cases h2 : r = [] \/ (Lib.decodeL r).1 < 32 \/ (Lib.decodeL r).1 = 39 \/ (Lib.decodeL r).1 = 92 \/ ((Lib.decodeL r).1 = 65533 /\ (Lib.decodeL r).2 < 2)
 · rw [if_pos h2]; exact Nat.zero_le _
 · rw [if_neg h2];have h3 : r ≠ [] := fun e => h2 (.inl e);have := Lib.decodeL_le r h3;show 2 + _ <= _
   omega
theorem runeNum_le (l : List UInt8) : (runeNum l).2 <= l.length := by
 unfold runeNum;split
 · rename_i h
   have h2 := congrArg List.length h;rw [List.length_take] at h2;simp only [List.length_cons, List.length_nil] at h2
   have := runeB_le (l.drop 2);rw [List.length_drop] at this;omega
 · exact Nat.zero_le _
theorem escapes_le (l out : List UInt8) (a : Nat) : ∀ o k, readAt l out a = some (o, k) -> k <= a + l.length /\ a < k := by
 induction h : l.length using Nat.strongRecOn generalizing l out a with
 | _ n ih =>
  intro o k hr;by_cases hl : l = []
  · subst hl; cases hr
  · have hp : 0 < l.length := List.length_pos_iff.2 hl;have hw := Lib.decodeL_width l;have hle := Lib.decodeL_le l hl;rw [readAt_step l out a hl] at hr;by_cases h39 : (Lib.decodeL l).1 = 39
    · rw [if_pos h39] at hr;by_cases h2 : l.getD 1 0 = 39 /\ 1 < l.length
      · rw [if_pos h2] at hr;have := ih _ (by rw [List.length_drop]; omega) (l.drop 2) _ _ rfl o k hr;rw [List.length_drop] at this;omega
      · rw [if_neg h2] at hr;simp only [Option.some.injEq, Prod.mk.injEq] at hr
        omega
    rw [if_neg h39] at hr;by_cases h92 : (Lib.decodeL l).1 = 92
    · rw [if_pos h92] at hr;by_cases h0 : (escL (l.drop 1)).2 = 0
      · rw [if_pos h0] at hr; cases hr
      · rw [if_neg h0] at hr;have h3 := escL_le (l.drop 1);rw [List.length_drop] at h3;have := ih _ (by rw [List.length_drop]; omega) (l.drop ((escL (l.drop 1)).2 + 1)) _ _ rfl o k hr;rw [List.length_drop] at this;omega
    rw [if_neg h92] at hr;by_cases hb : (Lib.decodeL l).1 < 32 \/ ((Lib.decodeL l).1 = 65533 /\ (Lib.decodeL l).2 = 1)
    · rw [if_pos hb] at hr; cases hr
    · rw [if_neg hb] at hr;have := ih _ (by rw [List.length_drop]; omega) (l.drop (Lib.decodeL l).2) _ _ rfl o k hr;rw [List.length_drop] at this;omega
theorem readL_le {l : List UInt8} {t : List UInt8} {k : Nat} (h : readL l = some (t, k)) : k <= l.length /\ 1 < k := by
 by_cases h0 : l.headD 0 = 39
 · rw [readL_eq l h0] at h;have := escapes_le _ _ _ _ _ h;cases l with
   | nil => cases h0
   | cons b t => rw [List.drop_succ_cons, List.drop_zero] at this; rw [List.length_cons]; omega
 · rw [readL_no l h0] at h; cases h
theorem namedL_w (x : Lx) : (namedL x).w = x.w \/ (namedL x).w = 0 := by unfold namedL; split; exact .inl rfl; exact .inr rfl
theorem lexL_le (l : List UInt8) : (lexL l).w <= l.length := by
 cases l with
 | nil => exact Nat.le_refl 0
 | cons b t =>
  have hnm : ∀ x : Lx, x.w <= (b :: t).length -> (namedL x).w <= (b :: t).length := fun x hx => by
   rcases namedL_w x with h | h <;> rw [h]
   · exact hx
   · exact Nat.zero_le _
  have h1 : 1 <= (b :: t).length := by rw [List.length_cons]; omega
  unfold lexL;dsimp only;repeat' split
  · exact h1
  · exact hnm _ (spanL_le _ _)
  · exact spanL_le _ _
  · unfold numberL;split
    · exact runeNum_le _
    · split
      · exact spanL_le _ _
      · exact Nat.zero_le _
  · rename_i h2
    unfold remarkL;split
    · rename_i k hk
      have := (closeL_le _ _ hk).1;rw [List.length_drop] at this;have h3 := congrArg List.length h2;rw [List.length_take] at h3;simp only [List.length_cons, List.length_nil] at h3 this ⊢
      omega
    · exact Nat.zero_le _
  · exact hnm _ (spanL_le _ _)
  · refine hnm _ ?_;unfold quotedL;split
    · rename_i t2 k hk
      exact (readL_le hk).1
    · exact Nat.zero_le _
  · exact h1
  · exact spanL_le _ _
  · exact Nat.zero_le _
inductive Hits : List UInt8 -> Nat -> Prop
 | zero (l) : Hits l 0
 | step (l) (n) : l ≠ [] -> Hits (l.drop (Lib.decodeL l).2) n -> Hits l ((Lib.decodeL l).2 + n)
theorem Hits.next {l : List UInt8} {n : Nat} (h : Hits l n) (hn : 0 < n) : (Lib.decodeL l).2 <= n /\ Hits (l.drop (Lib.decodeL l).2) (n - (Lib.decodeL l).2) := by
 cases h with
 | zero => omega
 | step _ m _ hm => exact ⟨by omega, by rw [Nat.add_sub_cancel_left]; exact hm⟩
theorem Hits.mk {l : List UInt8} {n : Nat} (hl : l ≠ []) (hle : (Lib.decodeL l).2 <= n) (h : Hits (l.drop (Lib.decodeL l).2) (n - (Lib.decodeL l).2)) : Hits l n := by
 have := Hits.step l _ hl h;rwa [show (Lib.decodeL l).2 + (n - (Lib.decodeL l).2) = n from by omega] at this
theorem cls_high (c : Int) (h : 128 <= c) : cls c = 0 := by
 unfold cls;rw [if_neg (by omega), if_neg (by omega), if_neg (by omega), if_neg (by omega), if_neg (by omega), if_neg (by omega), if_neg (by omega), if_neg (by omega)]
theorem nameR_high (c : Int) (h : 128 <= c) : nameR c = false := by unfold nameR; rw [cls_high c h]; decide
theorem signR_high (c : Int) (h : 128 <= c) : signR c = false := by unfold signR; rw [cls_high c h]; decide
def Tok.sh (d : Nat) (t : Tok) : Tok := ⟨t.kind, t.text, t.n, t.pos + d⟩
def Out.sh (d : Nat) : Out -> Out
 | .bad o => .bad (o + d)
 | .good l => .good (l.map (Tok.sh d))
theorem sh_pre (d : Nat) (ts : List Tok) (o : Out) : (o.pre ts).sh d = (o.sh d).pre (ts.map (Tok.sh d)) := by cases o <;> simp [Out.pre, Out.sh]
theorem cutL_shift (l : List UInt8) (d : Nat) : ∀ (o : Nat) (t : Bool), cutL l (o + d) t = (cutL l o t).sh d := by
 induction e : l.length using Nat.strongRecOn generalizing l with
 | _ n ih =>
  intro o t;by_cases hl : l = []
  · subst hl; rfl
  · have hp : 0 < l.length := List.length_pos_iff.2 hl;rw [cutL_step l _ t hl, cutL_step l o t hl];split
    · rfl
    · have hw : (l.drop (lexL l).w).length < n := by rw [List.length_drop]; omega
      have hih := ih _ hw _ rfl;split
      · rw [<- hih, show o + d + (lexL l).w = o + (lexL l).w + d from by omega]
      · rw [sh_pre, <- hih, show o + d + (lexL l).w = o + (lexL l).w + d from by omega]; rfl
theorem pre_good {ts : List Tok} {o : Out} {T : List Tok} (h : o.pre ts = .good T) : ∃ U, o = .good U /\ T = ts ++ U := by
 cases o with
 | bad o => cases h
 | good U => injection h with h; exact ⟨U, rfl, h.symm⟩
theorem cut_cases {l : List UInt8} {o : Nat} {t : Bool} {T : List Tok} (h : cutL l o t = .good T) :
 (l = [] /\ T = [⟨9, [], 0, o⟩]) \/ (l ≠ [] /\ (lexL l).w ≠ 0 /\ (lexL l).kind = 0 /\ cutL (l.drop (lexL l).w) (o + (lexL l).w) false = .good T) \/
 (l ≠ [] /\ (lexL l).w ≠ 0 /\ (lexL l).kind ≠ 0 /\ ∃ U, cutL (l.drop (lexL l).w) (o + (lexL l).w) (opensL (kindL t (lexL l)) (lexL l).text) = .good U /\ T = ⟨kindL t (lexL l), (lexL l).text, (lexL l).n, o⟩ :: U) := by
 by_cases hl : l = []
 · subst hl; rw [cutL_nil] at h; injection h with h; exact .inl ⟨rfl, h.symm⟩
 · rw [cutL_step l o t hl] at h;by_cases hw : (lexL l).w = 0
   · rw [if_pos hw] at h; cases h
   · rw [if_neg hw] at h;by_cases hk : (lexL l).kind = 0
     · rw [if_pos hk] at h; exact .inr (.inl ⟨hl, hw, hk, h⟩)
     · rw [if_neg hk] at h;obtain ⟨U, h1, h2⟩ := pre_good h;exact .inr (.inr ⟨hl, hw, hk, U, h1, h2⟩)
theorem cut_ind {P : List UInt8 -> Nat -> Bool -> List Tok -> Prop}
 (nil : ∀ o t, P [] o t [⟨9, [], 0, o⟩])
 (skip : ∀ l o t T, l ≠ [] -> (lexL l).w ≠ 0 -> (lexL l).kind = 0 -> cutL (l.drop (lexL l).w) (o + (lexL l).w) false = .good T -> P (l.drop (lexL l).w) (o + (lexL l).w) false T -> P l o t T)
 (tok : ∀ l o t U, l ≠ [] -> (lexL l).w ≠ 0 -> (lexL l).kind ≠ 0 -> cutL (l.drop (lexL l).w) (o + (lexL l).w) (opensL (kindL t (lexL l)) (lexL l).text) = .good U -> P (l.drop (lexL l).w) (o + (lexL l).w) (opensL (kindL t (lexL l)) (lexL l).text) U ->
   P l o t (⟨kindL t (lexL l), (lexL l).text, (lexL l).n, o⟩ :: U))
 (l : List UInt8) : ∀ (o : Nat) (t : Bool) (T : List Tok), cutL l o t = .good T -> P l o t T := by
 induction e : l.length using Nat.strongRecOn generalizing l with
 | _ n ih =>
  intro o t T h;rcases cut_cases h with ⟨rfl, rfl⟩ | ⟨hl, hw, hk, h1⟩ | ⟨hl, hw, hk, U, h1, rfl⟩
  · exact nil o t
  · have hp : 0 < l.length := List.length_pos_iff.2 hl;exact skip l o t T hl hw hk h1 (ih _ (by rw [List.length_drop]; omega) _ rfl _ _ _ h1)
  · have hp : 0 < l.length := List.length_pos_iff.2 hl;exact tok l o t U hl hw hk h1 (ih _ (by rw [List.length_drop]; omega) _ rfl _ _ _ h1)
def Alike (x y : Tok) : Prop := x = y \/ (y.kind = 7 /\ x.kind = 6 /\ x.text = y.text /\ x.n = y.n /\ x.pos = y.pos)
theorem lex_own (l : List UInt8) (hk0 : (lexL l).kind ≠ 0) (hk2 : (lexL l).kind ≠ 2) (hk5 : (lexL l).kind ≠ 5) : (lexL l).text = l.take (lexL l).w /\ ((lexL l).w ≠ 0 -> (lexL l).text ≠ []) := by
 have key : ∀ n, n <= l.length -> (lexL l).w = n -> (lexL l).text = l.take n -> (lexL l).text = l.take (lexL l).w /\ ((lexL l).w ≠ 0 -> (lexL l).text ≠ []) := fun n hn h1 h2 => by
  rw [h1, h2];refine ⟨rfl, fun h3 h4 => ?_⟩;have := congrArg List.length h4;rw [List.length_take, List.length_nil] at this;omega
 have hnm : ∀ x : Lx, lexL l = namedL x -> x.w <= l.length -> x.text = l.take x.w -> (lexL l).text = l.take (lexL l).w /\ ((lexL l).w ≠ 0 -> (lexL l).text ≠ []) := fun x e h1 h2 => by
  unfold namedL at e;split at e
  · exact key _ h1 (by rw [e]) (by rw [e, h2])
  · rw [e] at hk0; exact absurd rfl hk0
 cases l with
 | nil => exact absurd rfl hk0
 | cons b t =>
  by_cases c5 : cls (b.toNat : Int) = 5
  · exact absurd (by unfold lexL; dsimp only; rw [if_pos c5]) hk0
  by_cases c1 : cls (b.toNat : Int) = 1
  · exact hnm (wordL 1 (b :: t)) (by unfold lexL; dsimp only; rw [if_neg c5, if_pos c1]) (spanL_le _ _) rfl
  by_cases c2 : cls (b.toNat : Int) = 2
  · have e : lexL (b :: t) = wordL 4 (b :: t) := by unfold lexL; dsimp only; rw [if_neg c5, if_neg c1, if_pos c2]
    exact key _ (spanL_le nameR _) (by rw [e]; rfl) (by rw [e]; rfl)
  by_cases c3 : cls (b.toNat : Int) = 3
  · have e : lexL (b :: t) = numberL (b :: t) := by unfold lexL; dsimp only; rw [if_neg c5, if_neg c1, if_neg c2, if_pos c3]
    exfalso
    unfold numberL at e;split at e
    · rw [e] at hk5; exact hk5 rfl
    · split at e
      · rw [e] at hk5; exact hk5 rfl
      · rw [e] at hk0; exact hk0 rfl
  by_cases c4 : cls (b.toNat : Int) = 4
  · by_cases hr : (b :: t).take 2 = [47, 42]
    · have e : lexL (b :: t) = remarkL (b :: t) := by unfold lexL; dsimp only; rw [if_neg c5, if_neg c1, if_neg c2, if_neg c3, if_pos c4, if_pos hr]
      exfalso
      unfold remarkL at e;split at e
      · rw [e] at hk0; exact hk0 rfl
      · rw [e] at hk0; exact hk0 rfl
    · exact hnm (signsL (b :: t)) (by unfold lexL; dsimp only; rw [if_neg c5, if_neg c1, if_neg c2, if_neg c3, if_pos c4, if_neg hr]) (spanL_le _ _) rfl
  by_cases c8 : cls (b.toNat : Int) = 8
  · have e : lexL (b :: t) = namedL (quotedL (b :: t)) := by unfold lexL; dsimp only; rw [if_neg c5, if_neg c1, if_neg c2, if_neg c3, if_neg c4, if_pos c8]
    exfalso
    unfold namedL quotedL at e;split at e
    · split at e
      · rw [e] at hk2; exact hk2 rfl
      · rw [e] at hk0; exact hk0 rfl
    · rw [e] at hk0; exact hk0 rfl
  by_cases c6 : cls (b.toNat : Int) = 6 \/ cls (b.toNat : Int) = 7
  · have e : lexL (b :: t) = singleL b := by unfold lexL; dsimp only; rw [if_neg c5, if_neg c1, if_neg c2, if_neg c3, if_neg c4, if_neg c8, if_pos c6]
    exact key 1 (by rw [List.length_cons]; omega) (by rw [e]; rfl) (by rw [e]; rfl)
  · exfalso
    have e : lexL (b :: t) = if b = 37 then ⟨0, [], 0, spanL lineR (b :: t)⟩ else lx0 := by unfold lexL; dsimp only; rw [if_neg c5, if_neg c1, if_neg c2, if_neg c3, if_neg c4, if_neg c8, if_neg c6]
    split at e
    · rw [e] at hk0; exact hk0 rfl
    · rw [e] at hk0; exact hk0 rfl
def Own (l : List UInt8) (o : Nat) (x : Tok) : Prop := x.kind = 2 \/ x.kind = 5 \/ x.kind = 9 \/ (x.text ≠ [] /\ x.pos + x.text.length <= o + l.length /\ (l.drop (x.pos - o)).take x.text.length = x.text)
theorem cut_many {l : List UInt8} {o : Nat} {t : Bool} {T : List Tok} (h : cutL l o t = .good T) : T.length <= l.length + 1 := by
 have hle := lexL_le;revert h
 refine cut_ind (P := fun l _ _ T => T.length <= l.length + 1) ?_ ?_ ?_ l o t T
 · intro o t; simp
 · intro l o t T hl hw _ _ h;rw [List.length_drop] at h;omega
 · intro l o t U hl hw _ _ h;have := hle l;rw [List.length_drop] at h;rw [List.length_cons];omega
def Pos (k n n' b c : Nat) : Prop := k < n /\ b / 64 = 2 /\ k < n' /\ c = b
def Neg (k n n' b c : Nat) : Prop := ¬ (k < n /\ b / 64 = 2) /\ ¬ (k < n' /\ c / 64 = 2)
theorem lex_blank (b : UInt8) (t : List UInt8) (h : cls (b.toNat : Int) = 5) : lexL (b :: t) = ⟨0, [], 0, 1⟩ := by
 unfold lexL;dsimp only;rw [if_pos h]
theorem cut_blank (b : UInt8) (t : List UInt8) (h : cls (b.toNat : Int) = 5) (o : Nat) (g : Bool) : cutL (b :: t) o g = cutL t (o + 1) false := by
 rw [cutL_step _ _ _ (by simp), lex_blank b t h, if_neg (by decide), if_pos rfl];rfl
def aheadL : Nat -> List UInt8
 | 0 => [32]
 | 1 => [10]
 | 2 => [37, 32, 120, 32, 46, 32, 39, 32, 121, 10]
 | 3 => [47, 42, 32, 97, 10, 32, 39, 42, 47]
 | _ => [47, 42, 42, 47, 9]
end Go.Proofs.YtdjejbgokamjeaaGreatDoor
