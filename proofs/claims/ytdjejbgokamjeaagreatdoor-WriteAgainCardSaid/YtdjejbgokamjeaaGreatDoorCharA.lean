import Derived.Lib.TrimUEq
import Derived.Lib.ValidU
import Derived.Lib.RuneBytes
import Derived.Lib.MapLaws
import Derived.Test.YtdjejbgokamjeaaGreatDoorChecked
import Derived.WalkKit
import Derived.WalkSpells
import Derived.Lib.Hide
namespace Go.Proofs.YtdjejbgokamjeaaGreatDoor
open Go.RowKit
def cls (c : Int) : Int :=
 if 97 <= c /\ c <= 122 then 1
 else if (65 <= c /\ c <= 90) \/ c = 95 then 2
 else if 48 <= c /\ c <= 57 then 3
 else if c = 43 \/ c = 45 \/ c = 42 \/ c = 47 \/ c = 92 \/ c = 94 \/ c = 60 \/ c = 62 \/ c = 61 \/ c = 126 \/ c = 58 \/ c = 46 \/ c = 63 \/ c = 64 \/ c = 35 \/ c = 38 \/ c = 36 then 4
 else if c = 9 \/ c = 10 \/ c = 13 \/ c = 32 then 5
 else if c = 33 \/ c = 59 \/ c = 44 \/ c = 124 then 6
 else if c = 40 \/ c = 41 \/ c = 91 \/ c = 93 \/ c = 123 \/ c = 125 then 7
 else if c = 39 then 8
 else 0
def runesGo : Nat -> List UInt8 -> List Int
 | 0, _ => []
 | n + 1, l => if l = [] then [] else ((Lib.decodeL l).1 : Int) :: runesGo n (l.drop (Lib.decodeL l).2)
def runesL (l : List UInt8) : List Int := runesGo l.length l
def checkL (l : List UInt8) : Bool := decide (l.length <= 255) && Lib.validD l
def nameR (c : Int) : Bool := decide (cls c = 1 \/ cls c = 2 \/ cls c = 3)
def signR (c : Int) : Bool := decide (cls c = 4)
def bareL (l : List UInt8) : Bool :=
 checkL l && !(decide (l = []) || decide (l = [46]) || decide (l.take 2 = [47, 42])) &&
  (decide (l = [91, 93]) || decide (l = [123, 125]) || decide (l = [33]) || decide (l = [59]) ||
    (decide (cls ((runesL l).headD 0) = 1) && (runesL l).all nameR) || (runesL l).all signR)
def encL (r : Int) : List UInt8 := (Utf8.encode r).data.toList
def hexD (n : Nat) : UInt8 := if n < 10 then UInt8.ofNat (48 + n) else UInt8.ofNat (87 + n)
def hexL (n : Nat) : List UInt8 := if n < 16 then [hexD n] else [hexD (n / 16), hexD (n % 16)]
def escR (c : Int) : List UInt8 :=
 if c = 39 \/ c = 92 then 92 :: encL c
 else if c = 10 then [92, 110]
 else if c = 9 then [92, 116]
 else if c < 32 then 92 :: 120 :: (hexL c.toNat ++ [92])
 else encL c
def quoteL (l : List UInt8) : List UInt8 := 39 :: ((runesL l).flatMap escR ++ [39])
def writeL (l : List UInt8) : List UInt8 := if checkL l then (if bareL l then l else quoteL l) else []
def hexV (b : Nat) : Int := if 48 <= b /\ b <= 57 then (b : Int) - 48 else if 97 <= b /\ b <= 102 then (b : Int) - 87 else if 65 <= b /\ b <= 70 then (b : Int) - 55 else -1
def hexRun : Nat -> List UInt8 -> Int -> Nat × Int
 | 0, _, n => (0, n)
 | _, [], n => (0, n)
 | k + 1, b :: t, n => if 0 <= hexV b.toNat then ((hexRun k t (16 * n + hexV b.toNat)).1 + 1, (hexRun k t (16 * n + hexV b.toNat)).2) else (0, n)
def escL : List UInt8 -> Int × Nat
 | [] => (0, 0)
 | b :: t =>
  if b.toNat = 92 \/ b.toNat = 39 then ((b.toNat : Int), 1)
  else if b.toNat = 110 then (10, 1)
  else if b.toNat = 116 then (9, 1)
  else if b.toNat = 120 then
   (if (hexRun 6 t 0).1 = 0 \/ t.length <= (hexRun 6 t 0).1 \/ (t.getD (hexRun 6 t 0).1 0).toNat ≠ 92 \/ 1114111 < (hexRun 6 t 0).2 \/ (55296 <= (hexRun 6 t 0).2 /\ (hexRun 6 t 0).2 <= 57343) then (0, 0)
    else ((hexRun 6 t 0).2, (hexRun 6 t 0).1 + 2))
  else (0, 0)
def readGo : Nat -> List UInt8 -> List UInt8 -> Nat -> Option (List UInt8 × Nat)
 | 0, _, _, _ => none
 | f + 1, l, out, at_ =>
  if l = [] then none
  else if (Lib.decodeL l).1 = 39 then (if l.getD 1 0 = 39 /\ 1 < l.length then readGo f (l.drop 2) (out ++ [39]) (at_ + 2) else some (out, at_ + 1))
  else if (Lib.decodeL l).1 = 92 then (if (escL (l.drop 1)).2 = 0 then none else readGo f (l.drop ((escL (l.drop 1)).2 + 1)) (out ++ encL (escL (l.drop 1)).1) (at_ + (escL (l.drop 1)).2 + 1))
  else if (Lib.decodeL l).1 < 32 \/ ((Lib.decodeL l).1 = 65533 /\ (Lib.decodeL l).2 = 1) then none
  else readGo f (l.drop (Lib.decodeL l).2) (out ++ encL (Lib.decodeL l).1) (at_ + (Lib.decodeL l).2)
def readL (l : List UInt8) : Option (List UInt8 × Nat) := if l.headD 0 = 39 then readGo l.length (l.drop 1) [] 1 else none
theorem runesGo_fuel : ∀ (n : Nat) (l : List UInt8), l.length <= n -> runesGo n l = runesGo l.length l
 | 0, l, h => by rw [List.eq_nil_of_length_eq_zero (Nat.le_zero.1 h)]; rfl
 | n + 1, l, h => by
  by_cases hl : l = []
  · subst hl; rfl
  · have hp : 0 < l.length := List.length_pos_iff.2 hl;obtain ⟨m, hm⟩ : ∃ m, l.length = m + 1 := ⟨l.length - 1, by omega⟩;have hw := Lib.decodeL_width l;have hd : (l.drop (Lib.decodeL l).2).length <= m := by rw [List.length_drop]; omega
    rw [hm];show (if l = [] then [] else ((Lib.decodeL l).1 : Int) :: runesGo n (l.drop (Lib.decodeL l).2)) = (if l = [] then [] else ((Lib.decodeL l).1 : Int) :: runesGo m (l.drop (Lib.decodeL l).2))
    rw [if_neg hl, if_neg hl, runesGo_fuel n _ (by omega), runesGo_fuel m _ hd]
theorem runesL_nil : runesL [] = [] := rfl
theorem runesL_cons (l : List UInt8) (hl : l ≠ []) : runesL l = ((Lib.decodeL l).1 : Int) :: runesL (l.drop (Lib.decodeL l).2) := by
 have hp : 0 < l.length := List.length_pos_iff.2 hl;obtain ⟨m, hm⟩ : ∃ m, l.length = m + 1 := ⟨l.length - 1, by omega⟩;have hw := Lib.decodeL_width l;have hd : (l.drop (Lib.decodeL l).2).length <= m := by rw [List.length_drop]; omega
 unfold runesL;rw [hm];show (if l = [] then [] else ((Lib.decodeL l).1 : Int) :: runesGo m (l.drop (Lib.decodeL l).2)) = _
 rw [if_neg hl, runesGo_fuel m _ hd]
theorem runesL_length (l : List UInt8) : (runesL l).length <= l.length := by
 induction h : l.length using Nat.strongRecOn generalizing l with
 | _ n ih =>
  by_cases hl : l = []
  · subst hl; rw [runesL_nil]; simp
  · have hp : 0 < l.length := List.length_pos_iff.2 hl;have hw := Lib.decodeL_width l;have hd := List.length_drop (i := (Lib.decodeL l).2) (l := l);have := ih _ (by omega) (l.drop (Lib.decodeL l).2) rfl;rw [runesL_cons l hl, List.length_cons];omega
theorem encode_size (r : Int) : 1 <= (Utf8.encode r).size /\ (Utf8.encode r).size <= 4 := by
 unfold Utf8.encode;dsimp only;generalize (if Utf8.valid r = true then r.toNat else Utf8.runeError) = c;split
 · exact ⟨by show 1 <= 1; decide, by show 1 <= 4; decide⟩
 · split
   · exact ⟨by show 1 <= 2; decide, by show 2 <= 4; decide⟩
   · split
     · exact ⟨by show 1 <= 3; decide, by show 3 <= 4; decide⟩
     · exact ⟨by show 1 <= 4; decide, by show 4 <= 4; decide⟩
theorem encL_length (r : Int) : 1 <= (encL r).length /\ (encL r).length <= 4 := by
 have h := encode_size r;unfold encL;simpa using h
theorem encL_ascii (r : Int) (h0 : 0 <= r) (h1 : r < 128) : encL r = [UInt8.ofNat r.toNat] := by
 have hv : Utf8.valid r = true := by unfold Utf8.valid; simp; omega
 unfold encL Utf8.encode;dsimp only;rw [hv, if_pos rfl, if_pos (show r.toNat < 128 by omega)]
theorem hexL_length (n : Nat) : (hexL n).length <= 2 := by
 unfold hexL;split <;> simp
theorem escR_length (c : Int) : (escR c).length <= 5 := by
 have h1 := (encL_length c).2;have h2 := hexL_length c.toNat;unfold escR;split
 · rw [List.length_cons]; omega
 · split
   · decide
   · split
     · decide
     · split
       · rw [List.length_cons, List.length_cons, List.length_append, List.length_singleton]; omega
       · omega
def memL (c : Int) (l : List UInt8) : Bool := l.any fun b => decide ((b.toNat : Int) = c)
theorem memL_snoc (c : Int) (s : ByteArray) (k : Nat) (h : k < s.size) (h1 : memL c (s.data.toList.take k) = false) (h2 : (s[k].toNat : Int) ≠ c) : memL c (s.data.toList.take (k + 1)) = false := by
 have e : s.data.toList.take (k + 1) = s.data.toList.take k ++ [s[k]] := by
  rw [List.take_succ_eq_append_getElem (by simpa using h)]; rfl
 unfold memL at *;rw [e, List.any_append, h1];simp [h2]
theorem memL_hit (c : Int) (s : ByteArray) (k : Nat) (h : k < s.size) (h2 : (s[k].toNat : Int) = c) : memL c s.data.toList = true := by
 unfold memL;rw [List.any_eq_true];exact ⟨s[k], by rw [show s[k] = s.data.toList[k]'(by simpa using h) from rfl]; exact List.getElem_mem _, by simpa using h2⟩
theorem ret_bool {a b : Bool} (h : a = b) : Ending.returned (.bool a) = .returned (.bool b) := by rw [h]
theorem ret_i {k : IntKind} {a b : Int} (h : a = b) : Ending.returned (.int k a) = .returned (.int k b) := by rw [h]
set_option maxHeartbeats 400000 in
theorem ref_among (c : Int) (s : ByteArray) (w : World) (hs : s.size <= 1000) :
 Calls Tryz.prog 90 #[.int .i32 c, .string s] w fun e w' => e = .returned (.bool (memL c s.data.toList)) /\ w = w' := by
 go_enter Tryz.func90, Tryz.ntmps90;go_wp2;go_loop [5] (fun i => ∃ k : Nat, k <= s.size /\ i = .int .i64 k /\ Hid (memL c (s.data.toList.take k) = false)) (fun i => s.size - (intOf i).toNat)
 case atStart => exact ⟨0, Nat.zero_le _, rfl, Lib.hid rfl⟩
 case round =>
  obtain ⟨k, hk, rfl, HA⟩ := hrel;by_cases hlt : k < s.size
  · have hn := Lib.hid (memL_snoc c s k hlt HA.out);have hh := Lib.hid (memL_hit c s k hlt);have hb : (s[k].toNat : Int) < 256 := by have := s[k].toNat_lt; omega
    by_cases he : (s[k].toNat : Int) = c
    · have e1 : (c == (s[k].toNat : Int)) = true := by simp [he]
      have hR := Lib.hid (hh.out he);clear he;go_wp2;go_ret;exact ⟨ret_bool hR.out.symm, rfl⟩
    · have e1 : (c == (s[k].toNat : Int)) = false := by simp; omega
      have hR := Lib.hid (hn.out he);clear he;go_wp2;go_round
      case rel => exact ⟨k + 1, by omega, by go_num, hR⟩
      case measure => simp [intOf]; omega
  · have hR := HA.out;rw [List.take_of_length_le (by simp; omega)] at hR;have HR := Lib.hid hR;clear hR HA;go_wp2;go_ret;exact ⟨ret_bool HR.out.symm, rfl⟩
theorem mem4 (c : Int) : memL c [43, 45, 42, 47, 92, 94, 60, 62, 61, 126, 58, 46, 63, 64, 35, 38, 36] = decide (c = 43 \/ c = 45 \/ c = 42 \/ c = 47 \/ c = 92 \/ c = 94 \/ c = 60 \/ c = 62 \/ c = 61 \/ c = 126 \/ c = 58 \/ c = 46 \/ c = 63 \/ c = 64 \/ c = 35 \/ c = 38 \/ c = 36) := by
 rw [Bool.eq_iff_iff];simp [memL]
 omega
theorem mem6 (c : Int) : memL c [33, 59, 44, 124] = decide (c = 33 \/ c = 59 \/ c = 44 \/ c = 124) := by
 rw [Bool.eq_iff_iff];simp [memL]
 omega
theorem mem7 (c : Int) : memL c [40, 41, 91, 93, 123, 125] = decide (c = 40 \/ c = 41 \/ c = 91 \/ c = 93 \/ c = 123 \/ c = 125) := by
 rw [Bool.eq_iff_iff];simp [memL]
 omega
def Am (c : Int) (s : ByteArray) (b : Bool) : Prop := ∀ w, Calls Tryz.prog 90 #[.int .i32 c, .string s] w fun e w' => e = .returned (.bool b) /\ w = w'
def Gap (c : Int) : Prop := c < 48 \/ (58 <= c /\ c <= 64) \/ (91 <= c /\ c <= 94) \/ (96 <= c /\ c <= 96) \/ 123 <= c
set_option maxHeartbeats 1000000 in
theorem class4 (c : Int) (w : World) (hr : Gap c) (c4 : Am c ⟨#[43, 45, 42, 47, 92, 94, 60, 62, 61, 126, 58, 46, 63, 64, 35, 38, 36]⟩ true) :
 Calls Tryz.prog 71 #[.int .i32 c] w fun e w' => e = .returned (.int .i64 4) /\ w = w' := by
 unfold Gap at hr;rcases hr with hr | ⟨hr, hr2⟩ | ⟨hr, hr2⟩ | ⟨hr, hr2⟩ | hr
 all_goals
  have e95 : (c == 95) = false := by (simp; omega)
  go_enter Tryz.func71, Tryz.ntmps71;go_wp2_with fail;refine (c4 _).mono ?_; rintro e w' ⟨rfl, rfl⟩;go_wp2_with fail;go_ret;exact ⟨rfl, rfl⟩
set_option maxHeartbeats 1000000 in
theorem class6 (c : Int) (w : World) (hr : Gap c) (c4 : Am c ⟨#[43, 45, 42, 47, 92, 94, 60, 62, 61, 126, 58, 46, 63, 64, 35, 38, 36]⟩ false) (e9 : (c == 9) = false) (e10 : (c == 10) = false) (e13 : (c == 13) = false) (e32 : (c == 32) = false) (c6 : Am c ⟨#[33, 59, 44, 124]⟩ true) :
 Calls Tryz.prog 71 #[.int .i32 c] w fun e w' => e = .returned (.int .i64 6) /\ w = w' := by
 unfold Gap at hr;rcases hr with hr | ⟨hr, hr2⟩ | ⟨hr, hr2⟩ | ⟨hr, hr2⟩ | hr
 all_goals
  have e95 : (c == 95) = false := by (simp; omega)
  go_enter Tryz.func71, Tryz.ntmps71;go_wp2_with fail;refine (c4 _).mono ?_; rintro e w' ⟨rfl, rfl⟩;go_wp2_with fail;refine (c6 _).mono ?_; rintro e w' ⟨rfl, rfl⟩;go_wp2_with fail;go_ret;exact ⟨rfl, rfl⟩
set_option maxHeartbeats 1000000 in
theorem class7 (c : Int) (w : World) (hr : Gap c) (c4 : Am c ⟨#[43, 45, 42, 47, 92, 94, 60, 62, 61, 126, 58, 46, 63, 64, 35, 38, 36]⟩ false) (e9 : (c == 9) = false) (e10 : (c == 10) = false) (e13 : (c == 13) = false) (e32 : (c == 32) = false) (c6 : Am c ⟨#[33, 59, 44, 124]⟩ false) (c7 : Am c ⟨#[40, 41, 91, 93, 123, 125]⟩ true) :
 Calls Tryz.prog 71 #[.int .i32 c] w fun e w' => e = .returned (.int .i64 7) /\ w = w' := by
 unfold Gap at hr;rcases hr with hr | ⟨hr, hr2⟩ | ⟨hr, hr2⟩ | ⟨hr, hr2⟩ | hr
 all_goals
  have e95 : (c == 95) = false := by (simp; omega)
  go_enter Tryz.func71, Tryz.ntmps71;go_wp2_with fail;refine (c4 _).mono ?_; rintro e w' ⟨rfl, rfl⟩;go_wp2_with fail;refine (c6 _).mono ?_; rintro e w' ⟨rfl, rfl⟩;go_wp2_with fail;refine (c7 _).mono ?_; rintro e w' ⟨rfl, rfl⟩;go_wp2_with fail;go_ret;exact ⟨rfl, rfl⟩
set_option maxHeartbeats 1000000 in
theorem class8 (c : Int) (w : World) (hr : Gap c) (c4 : Am c ⟨#[43, 45, 42, 47, 92, 94, 60, 62, 61, 126, 58, 46, 63, 64, 35, 38, 36]⟩ false) (e9 : (c == 9) = false) (e10 : (c == 10) = false) (e13 : (c == 13) = false) (e32 : (c == 32) = false) (c6 : Am c ⟨#[33, 59, 44, 124]⟩ false) (c7 : Am c ⟨#[40, 41, 91, 93, 123, 125]⟩ false) (e39 : (c == 39) = true) :
 Calls Tryz.prog 71 #[.int .i32 c] w fun e w' => e = .returned (.int .i64 8) /\ w = w' := by
 unfold Gap at hr;rcases hr with hr | ⟨hr, hr2⟩ | ⟨hr, hr2⟩ | ⟨hr, hr2⟩ | hr
 all_goals
  have e95 : (c == 95) = false := by (simp; omega)
  go_enter Tryz.func71, Tryz.ntmps71;go_wp2_with fail;refine (c4 _).mono ?_; rintro e w' ⟨rfl, rfl⟩;go_wp2_with fail;refine (c6 _).mono ?_; rintro e w' ⟨rfl, rfl⟩;go_wp2_with fail;refine (c7 _).mono ?_; rintro e w' ⟨rfl, rfl⟩;go_wp2_with fail;go_ret;exact ⟨rfl, rfl⟩
set_option maxHeartbeats 1000000 in
theorem class0 (c : Int) (w : World) (hr : Gap c) (c4 : Am c ⟨#[43, 45, 42, 47, 92, 94, 60, 62, 61, 126, 58, 46, 63, 64, 35, 38, 36]⟩ false) (e9 : (c == 9) = false) (e10 : (c == 10) = false) (e13 : (c == 13) = false) (e32 : (c == 32) = false) (c6 : Am c ⟨#[33, 59, 44, 124]⟩ false) (c7 : Am c ⟨#[40, 41, 91, 93, 123, 125]⟩ false) (e39 : (c == 39) = false) :
 Calls Tryz.prog 71 #[.int .i32 c] w fun e w' => e = .returned (.int .i64 0) /\ w = w' := by
 unfold Gap at hr;rcases hr with hr | ⟨hr, hr2⟩ | ⟨hr, hr2⟩ | ⟨hr, hr2⟩ | hr
 all_goals
  have e95 : (c == 95) = false := by (simp; omega)
  go_enter Tryz.func71, Tryz.ntmps71;go_wp2_with fail;refine (c4 _).mono ?_; rintro e w' ⟨rfl, rfl⟩;go_wp2_with fail;refine (c6 _).mono ?_; rintro e w' ⟨rfl, rfl⟩;go_wp2_with fail;refine (c7 _).mono ?_; rintro e w' ⟨rfl, rfl⟩;go_wp2_with fail;go_ret;exact ⟨rfl, rfl⟩
set_option maxHeartbeats 1000000 in
theorem class1 (c : Int) (w : World) (h1 : 97 <= c) (h2 : c <= 122) :
 Calls Tryz.prog 71 #[.int .i32 c] w fun e w' => e = .returned (.int .i64 1) /\ w = w' := by
 go_enter Tryz.func71, Tryz.ntmps71;go_wp2_with fail;go_ret;exact ⟨rfl, rfl⟩
set_option maxHeartbeats 1000000 in
theorem class2 (c : Int) (w : World) (h : (65 <= c /\ c <= 90) \/ c = 95) :
 Calls Tryz.prog 71 #[.int .i32 c] w fun e w' => e = .returned (.int .i64 2) /\ w = w' := by
 rcases h with ⟨h1, h2⟩ | rfl
 all_goals
  go_enter Tryz.func71, Tryz.ntmps71;go_wp2_with fail;go_ret;exact ⟨rfl, rfl⟩
set_option maxHeartbeats 1000000 in
theorem class3 (c : Int) (w : World) (h1 : 48 <= c) (h2 : c <= 57) :
 Calls Tryz.prog 71 #[.int .i32 c] w fun e w' => e = .returned (.int .i64 3) /\ w = w' := by
 go_enter Tryz.func71, Tryz.ntmps71;go_wp2_with fail;go_ret;exact ⟨rfl, rfl⟩
theorem am4 (c : Int) (b : Bool) (h : decide (c = 43 \/ c = 45 \/ c = 42 \/ c = 47 \/ c = 92 \/ c = 94 \/ c = 60 \/ c = 62 \/ c = 61 \/ c = 126 \/ c = 58 \/ c = 46 \/ c = 63 \/ c = 64 \/ c = 35 \/ c = 38 \/ c = 36) = b) : Am c ⟨#[43, 45, 42, 47, 92, 94, 60, 62, 61, 126, 58, 46, 63, 64, 35, 38, 36]⟩ b := fun w => by
 have h4 := ref_among c ⟨#[43, 45, 42, 47, 92, 94, 60, 62, 61, 126, 58, 46, 63, 64, 35, 38, 36]⟩ w (by decide);rw [show (⟨#[43, 45, 42, 47, 92, 94, 60, 62, 61, 126, 58, 46, 63, 64, 35, 38, 36]⟩ : ByteArray).data.toList = [43, 45, 42, 47, 92, 94, 60, 62, 61, 126, 58, 46, 63, 64, 35, 38, 36] from rfl, mem4, h] at h4;exact h4
theorem am6 (c : Int) (b : Bool) (h : decide (c = 33 \/ c = 59 \/ c = 44 \/ c = 124) = b) : Am c ⟨#[33, 59, 44, 124]⟩ b := fun w => by
 have h4 := ref_among c ⟨#[33, 59, 44, 124]⟩ w (by decide);rw [show (⟨#[33, 59, 44, 124]⟩ : ByteArray).data.toList = [33, 59, 44, 124] from rfl, mem6, h] at h4;exact h4
theorem am7 (c : Int) (b : Bool) (h : decide (c = 40 \/ c = 41 \/ c = 91 \/ c = 93 \/ c = 123 \/ c = 125) = b) : Am c ⟨#[40, 41, 91, 93, 123, 125]⟩ b := fun w => by
 have h4 := ref_among c ⟨#[40, 41, 91, 93, 123, 125]⟩ w (by decide);rw [show (⟨#[40, 41, 91, 93, 123, 125]⟩ : ByteArray).data.toList = [40, 41, 91, 93, 123, 125] from rfl, mem7, h] at h4;exact h4
set_option maxHeartbeats 1000000 in
theorem class5 (c : Int) (w : World) (h : c = 9 \/ c = 10 \/ c = 13 \/ c = 32) :
 Calls Tryz.prog 71 #[.int .i32 c] w fun e w' => e = .returned (.int .i64 5) /\ w = w' := by
 have c4 := am4 c false (by rw [decide_eq_false_iff_not]; omega);rcases h with rfl | rfl | rfl | rfl
 all_goals
  go_enter Tryz.func71, Tryz.ntmps71;go_wp2_with fail;refine (c4 _).mono ?_; rintro e w' ⟨rfl, rfl⟩;go_wp2_with fail;go_ret;exact ⟨rfl, rfl⟩
theorem ref_Class (c : Int) (w : World) :
 Calls Tryz.prog 71 #[.int .i32 c] w fun e w' => e = .returned (.int .i64 (cls c)) /\ w = w' := by
 unfold cls;by_cases h1 : 97 <= c /\ c <= 122
 · rw [if_pos h1]; exact class1 c w h1.1 h1.2
 rw [if_neg h1];by_cases h2 : (65 <= c /\ c <= 90) \/ c = 95
 · rw [if_pos h2]; exact class2 c w h2
 rw [if_neg h2];by_cases h3 : 48 <= c /\ c <= 57
 · rw [if_pos h3]; exact class3 c w h3.1 h3.2
 rw [if_neg h3];have hg : Gap c := by unfold Gap; omega
 by_cases h4 : c = 43 \/ c = 45 \/ c = 42 \/ c = 47 \/ c = 92 \/ c = 94 \/ c = 60 \/ c = 62 \/ c = 61 \/ c = 126 \/ c = 58 \/ c = 46 \/ c = 63 \/ c = 64 \/ c = 35 \/ c = 38 \/ c = 36
 · rw [if_pos h4]; exact class4 c w hg (am4 c true (decide_eq_true h4))
 rw [if_neg h4];by_cases h5 : c = 9 \/ c = 10 \/ c = 13 \/ c = 32
 · rw [if_pos h5]; exact class5 c w h5
 rw [if_neg h5];have c4 := am4 c false (decide_eq_false h4);have e9 : (c == 9) = false := by simp; omega
 have e10 : (c == 10) = false := by simp; omega
 have e13 : (c == 13) = false := by simp; omega
 have e32 : (c == 32) = false := by simp; omega
 by_cases h6 : c = 33 \/ c = 59 \/ c = 44 \/ c = 124
 · rw [if_pos h6]; exact class6 c w hg c4 e9 e10 e13 e32 (am6 c true (decide_eq_true h6))
 rw [if_neg h6];by_cases h7 : c = 40 \/ c = 41 \/ c = 91 \/ c = 93 \/ c = 123 \/ c = 125
 · rw [if_pos h7]; exact class7 c w hg c4 e9 e10 e13 e32 (am6 c false (decide_eq_false h6)) (am7 c true (decide_eq_true h7))
 rw [if_neg h7];by_cases h8 : c = 39
 · rw [if_pos h8]; exact class8 c w hg c4 e9 e10 e13 e32 (am6 c false (decide_eq_false h6)) (am7 c false (decide_eq_false h7)) (by simpa using h8)
 · rw [if_neg h8]; exact class0 c w hg c4 e9 e10 e13 e32 (am6 c false (decide_eq_false h6)) (am7 c false (decide_eq_false h7)) (by simpa using h8)
set_option maxHeartbeats 1000000 in
theorem ref_value (b : Nat) (hb : b < 256) (w : World) :
 Calls Tryz.prog 94 #[.int .u8 b] w fun e w' => e = .returned (.int .i32 (hexV b)) /\ w = w' := by
 unfold hexV;by_cases h1 : 48 <= b /\ b <= 57
 · rw [if_pos h1];obtain ⟨h1a, h1b⟩ := h1;go_enter Tryz.func94, Tryz.ntmps94;go_wp2_with fail;go_ret;exact ⟨rfl, rfl⟩
 rw [if_neg h1];by_cases h2 : 97 <= b /\ b <= 102
 · rw [if_pos h2];obtain ⟨h2a, h2b⟩ := h2;clear h1;go_enter Tryz.func94, Tryz.ntmps94;go_wp2_with fail;go_ret;exact ⟨ret_i (by omega), rfl⟩
 rw [if_neg h2];by_cases h3 : 65 <= b /\ b <= 70
 · rw [if_pos h3];obtain ⟨h3a, h3b⟩ := h3;clear h1 h2;go_enter Tryz.func94, Tryz.ntmps94;go_wp2_with fail;go_ret;exact ⟨ret_i (by omega), rfl⟩
 rw [if_neg h3];have hr : b < 48 \/ (58 <= b /\ b < 65) \/ (71 <= b /\ b < 97) \/ 103 <= b := by omega
 clear h1 h2 h3;rcases hr with hr | ⟨hr, hr2⟩ | ⟨hr, hr2⟩ | hr
 all_goals
  go_enter Tryz.func94, Tryz.ntmps94;go_wp2_with fail;go_ret;exact ⟨rfl, rfl⟩
end Go.Proofs.YtdjejbgokamjeaaGreatDoor
