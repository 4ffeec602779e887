import Derived.Test.YtinefdlkajnomaaGreatDoorCharA
import Derived.Lib.TrimAscii
import Derived.Lib.Small
import Derived.Laws.RangeAny
namespace Go.Proofs.YtinefdlkajnomaaGreatDoor
open Go.RowKit
theorem escL_le (l : List UInt8) : (escL l).2 <= l.length := by
 cases l with
 | nil => exact Nat.le_refl 0
 | cons b t =>
  unfold escL;dsimp only;rw [List.length_cons];repeat' split
  all_goals (try (show _ <= t.length + 1))
  all_goals (first | omega | skip)
theorem readGo_fuel : ∀ (f : Nat) (l out : List UInt8) (a : Nat), l.length <= f -> readGo f l out a = readGo l.length l out a
 | 0, l, out, a, h => by rw [List.eq_nil_of_length_eq_zero (Nat.le_zero.1 h)]; rfl
 | f + 1, l, out, a, h => by
  by_cases hl : l = []
  · subst hl; rfl
  · have hp : 0 < l.length := List.length_pos_iff.2 hl;obtain ⟨m, hm⟩ : ∃ m, l.length = m + 1 := ⟨l.length - 1, by omega⟩;have hw := Lib.decodeL_width l;have hd : ∀ k, 1 <= k -> (l.drop k).length <= m := fun k hk => by rw [List.length_drop]; omega
    have ih : ∀ k, 1 <= k -> ∀ o b, readGo f (l.drop k) o b = readGo m (l.drop k) o b := fun k hk o b => by
     rw [readGo_fuel f _ _ _ (by have := hd k hk; omega), readGo_fuel m _ _ _ (hd k hk)]
    rw [hm];unfold readGo;rw [if_neg hl, if_neg hl, ih 2 (by omega), ih _ (show 1 <= (escL (l.drop 1)).2 + 1 by omega), ih _ hw]
def readAt (l out : List UInt8) (a : Nat) : Option (List UInt8 × Nat) := readGo l.length l out a
theorem readAt_step (l out : List UInt8) (a : Nat) (hl : l ≠ []) : readAt l out a =
 if (Lib.decodeL l).1 = 39 then (if l.getD 1 0 = 39 /\ 1 < l.length then readAt (l.drop 2) (out ++ [39]) (a + 2) else some (out, a + 1))
 else if (Lib.decodeL l).1 = 92 then (if (escL (l.drop 1)).2 = 0 then none else readAt (l.drop ((escL (l.drop 1)).2 + 1)) (out ++ encL (escL (l.drop 1)).1) (a + (escL (l.drop 1)).2 + 1))
 else if (Lib.decodeL l).1 < 32 \/ ((Lib.decodeL l).1 = 65533 /\ (Lib.decodeL l).2 = 1) then none
 else readAt (l.drop (Lib.decodeL l).2) (out ++ encL (Lib.decodeL l).1) (a + (Lib.decodeL l).2) := by
 have hp : 0 < l.length := List.length_pos_iff.2 hl;obtain ⟨m, hm⟩ : ∃ m, l.length = m + 1 := ⟨l.length - 1, by omega⟩;have hw := Lib.decodeL_width l;have ih : ∀ k, 1 <= k -> ∀ o b, readGo m (l.drop k) o b = readAt (l.drop k) o b := fun k hk o b => readGo_fuel m _ _ _ (by rw [List.length_drop]; omega);rw [<- ih 2 (by omega), <- ih _ (show 1 <= (escL (l.drop 1)).2 + 1 by omega), <- ih _ hw];conv => lhs; unfold readAt; rw [hm]; unfold readGo
 rw [if_neg hl]
theorem readL_eq (l : List UInt8) (h : l.headD 0 = 39) : readL l = readAt (l.drop 1) [] 1 := by
 unfold readL;rw [if_pos h];exact readGo_fuel _ _ _ _ (by rw [List.length_drop]; omega)
theorem readL_no (l : List UInt8) (h : l.headD 0 ≠ 39) : readL l = none := if_neg h
def readS (l : List UInt8) : List UInt8 := ((readL l).map (·.1)).getD []
def readK (l : List UInt8) : Nat := ((readL l).map (·.2)).getD 0
def readX (l : List UInt8) : Int := if (readL l).isSome then 0 else 20
theorem read_none {l : List UInt8} (h : readL l = none) : readS l = [] /\ readK l = 0 /\ readX l = 20 := by unfold readS readK readX; rw [h]; exact ⟨rfl, rfl, rfl⟩
theorem read_some {l o : List UInt8} {n : Nat} (h : readL l = some (o, n)) : readS l = o /\ readK l = n /\ readX l = 0 := by unfold readS readK readX; rw [h]; exact ⟨rfl, rfl, rfl⟩
def Scalar (c : Nat) : Prop := c < 55296 \/ (57343 < c /\ c <= 1114111)
theorem valid_of {c : Nat} (h : Scalar c) : Utf8.valid (c : Int) = true := by
 unfold Scalar at h;unfold Utf8.valid;simp
 omega
set_option maxRecDepth 100000 in
theorem encL_of {c : Nat} (h : Scalar c) : encL (c : Int) =
 if c < 128 then [UInt8.ofNat c]
 else if c < 2048 then [UInt8.ofNat (192 + c / 64), UInt8.ofNat (128 + c % 64)]
 else if c < 65536 then [UInt8.ofNat (224 + c / 4096), UInt8.ofNat (128 + c / 64 % 64), UInt8.ofNat (128 + c % 64)]
 else [UInt8.ofNat (240 + c / 262144), UInt8.ofNat (128 + c / 4096 % 64), UInt8.ofNat (128 + c / 64 % 64), UInt8.ofNat (128 + c % 64)] := by
 unfold encL Utf8.encode;dsimp only;rw [valid_of h, if_pos rfl, Int.toNat_natCast];split
 · rfl
 · split
   · rfl
   · split <;> rfl
theorem toNat_of (n : Nat) (h : n < 256) : (UInt8.ofNat n).toNat = n := by
 rw [UInt8.toNat_ofNat'];omega
set_option maxHeartbeats 2000000 in
theorem decodeL_encL {c : Nat} (h : Scalar c) (t : List UInt8) : Lib.decodeL (encL (c : Int) ++ t) = (c, (encL (c : Int)).length) := by
 rw [encL_of h];unfold Scalar at h;by_cases h1 : c < 128
 · rw [if_pos h1];show Lib.decodeL (UInt8.ofNat c :: t) = (c, 1)
   rw [Lib.decodeL_ascii _ _ (by rw [toNat_of c (by omega)]; exact h1), toNat_of c (by omega)]
 rw [if_neg h1];by_cases h2 : c < 2048
 · rw [if_pos h2, Lib.decodeL_N];simp only [List.cons_append, List.nil_append, List.length_cons, List.getD_cons_zero, List.getD_cons_succ, List.length_nil]
   rw [toNat_of (192 + c / 64) (by omega), toNat_of (128 + c % 64) (by omega)];unfold Lib.decodeN;rw [if_neg (by omega), if_pos (by omega), if_pos (by omega)];apply Prod.ext <;> simp only <;> omega
 rw [if_neg h2];by_cases h3 : c < 65536
 · rw [if_pos h3, Lib.decodeL_N];simp only [List.cons_append, List.nil_append, List.length_cons, List.getD_cons_zero, List.getD_cons_succ, List.length_nil]
   rw [toNat_of (224 + c / 4096) (by omega), toNat_of (128 + c / 64 % 64) (by omega), toNat_of (128 + c % 64) (by omega)];unfold Lib.decodeN;rw [if_neg (by omega), if_neg (by omega), if_pos (by omega), if_pos (by omega)];apply Prod.ext <;> simp only <;> omega
 · rw [if_neg h3, Lib.decodeL_N];simp only [List.cons_append, List.nil_append, List.length_cons, List.getD_cons_zero, List.getD_cons_succ, List.length_nil]
   rw [toNat_of (240 + c / 262144) (by omega), toNat_of (128 + c / 4096 % 64) (by omega), toNat_of (128 + c / 64 % 64) (by omega), toNat_of (128 + c % 64) (by omega)];unfold Lib.decodeN;rw [if_neg (by omega), if_neg (by omega), if_neg (by omega), if_pos (by omega), if_pos (by omega)];apply Prod.ext <;> simp only <;> omega
theorem byte_eq {a : Nat} {b : UInt8} (h : a = b.toNat) : UInt8.ofNat a = b := by rw [h]; exact UInt8.ofNat_toNat
set_option maxHeartbeats 2000000 in
theorem encL_decodeL (l : List UInt8) (hl : l ≠ []) (hb : ¬ ((Lib.decodeL l).1 = 65533 /\ (Lib.decodeL l).2 = 1)) : Scalar (Lib.decodeL l).1 /\ encL ((Lib.decodeL l).1 : Int) = l.take (Lib.decodeL l).2 := by
 have hN := Lib.decodeL_N l;unfold Lib.decodeN at hN;match l, hl with
 | b0 :: t, _ =>
  have hb0 := b0.toNat_lt;simp only [List.getD_cons_zero, List.getD_cons_succ, List.length_cons] at hN
  by_cases h1 : b0.toNat < 128
  · rw [if_pos h1] at hN;have hs : Scalar b0.toNat := .inl (by omega);rw [hN];refine ⟨hs, ?_⟩;rw [encL_of hs, if_pos h1];show [UInt8.ofNat b0.toNat] = [b0]
    rw [UInt8.ofNat_toNat]
  rw [if_neg h1] at hN;by_cases h2 : b0.toNat / 32 = 6 /\ (1 < t.length + 1 /\ (t.getD 0 0).toNat / 64 = 2)
  · rw [if_pos h2] at hN;match t, h2 with
    | b1 :: t2, h2 =>
     have hb1 := b1.toNat_lt;simp only [List.getD_cons_zero, List.length_cons] at hN h2
     split at hN
     · rename_i hc
       have hs : Scalar (b0.toNat % 32 * 64 + b1.toNat % 64) := .inl (by omega);rw [hN];refine ⟨hs, ?_⟩;rw [encL_of hs, if_neg (by omega), if_pos (by omega)];show [_, _] = [b0, b1]
       rw [byte_eq (b := b0) (by omega), byte_eq (b := b1) (by omega)]
     · exact absurd (by rw [hN]; exact ⟨rfl, rfl⟩) hb
  rw [if_neg h2] at hN;by_cases h3 : b0.toNat / 16 = 14 /\ (1 < t.length + 1 /\ (t.getD 0 0).toNat / 64 = 2) /\ (2 < t.length + 1 /\ (t.getD 1 0).toNat / 64 = 2)
  · rw [if_pos h3] at hN;match t, h3 with
    | [b1], h3 => exact absurd h3.2.2.1 (by simp)
    | b1 :: b2 :: t2, h3 =>
     have hb1 := b1.toNat_lt;have hb2 := b2.toNat_lt;simp only [List.getD_cons_zero, List.getD_cons_succ, List.length_cons] at hN h3
     split at hN
     · rename_i hc
       have hs : Scalar (b0.toNat % 16 * 4096 + b1.toNat % 64 * 64 + b2.toNat % 64) := by unfold Scalar; omega
       rw [hN];refine ⟨hs, ?_⟩;rw [encL_of hs, if_neg (by omega), if_neg (by omega), if_pos (by omega)];show [_, _, _] = [b0, b1, b2]
       rw [byte_eq (b := b0) (by omega), byte_eq (b := b1) (by omega), byte_eq (b := b2) (by omega)]
     · exact absurd (by rw [hN]; exact ⟨rfl, rfl⟩) hb
  rw [if_neg h3] at hN;by_cases h4 : b0.toNat / 8 = 30 /\ (1 < t.length + 1 /\ (t.getD 0 0).toNat / 64 = 2) /\ (2 < t.length + 1 /\ (t.getD 1 0).toNat / 64 = 2) /\ (3 < t.length + 1 /\ (t.getD 2 0).toNat / 64 = 2)
  · rw [if_pos h4] at hN;match t, h4 with
    | [b1], h4 => exact absurd h4.2.2.1.1 (by simp)
    | [b1, b2], h4 => exact absurd h4.2.2.2.1 (by simp)
    | b1 :: b2 :: b3 :: t2, h4 =>
     have hb1 := b1.toNat_lt;have hb2 := b2.toNat_lt;have hb3 := b3.toNat_lt;simp only [List.getD_cons_zero, List.getD_cons_succ, List.length_cons] at hN h4
     split at hN
     · rename_i hc
       have hs : Scalar (b0.toNat % 8 * 262144 + b1.toNat % 64 * 4096 + b2.toNat % 64 * 64 + b3.toNat % 64) := by unfold Scalar; omega
       rw [hN];refine ⟨hs, ?_⟩;rw [encL_of hs, if_neg (by omega), if_neg (by omega), if_neg (by omega)];show [_, _, _, _] = [b0, b1, b2, b3]
       rw [byte_eq (b := b0) (by omega), byte_eq (b := b1) (by omega), byte_eq (b := b2) (by omega), byte_eq (b := b3) (by omega)]
     · exact absurd (by rw [hN]; exact ⟨rfl, rfl⟩) hb
  rw [if_neg h4] at hN;exact absurd (by rw [hN]; exact ⟨rfl, rfl⟩) hb
theorem validGo_fuel : ∀ (n : Nat) (l : List UInt8), l.length <= n -> Lib.validGoD n l = Lib.validD l
 | 0, l, h => by rw [List.eq_nil_of_length_eq_zero (Nat.le_zero.1 h)]; rfl
 | n + 1, l, h => by
  by_cases hl : l = []
  · subst hl; rfl
  · have hp : 0 < l.length := List.length_pos_iff.2 hl;obtain ⟨m, hm⟩ : ∃ m, l.length = m + 1 := ⟨l.length - 1, by omega⟩;have hw := Lib.decodeL_width l;have hd : (l.drop (Lib.decodeL l).2).length <= m := by rw [List.length_drop]; omega
    unfold Lib.validD;rw [hm];unfold Lib.validGoD;rw [if_neg hl, if_neg hl, validGo_fuel n _ (by omega), validGo_fuel m _ hd]
theorem valid_step (l : List UInt8) (hl : l ≠ []) : Lib.validD l = if (Lib.decodeL l).1 = 65533 /\ (Lib.decodeL l).2 = 1 then false else Lib.validD (l.drop (Lib.decodeL l).2) := by
 have hp : 0 < l.length := List.length_pos_iff.2 hl;obtain ⟨m, hm⟩ : ∃ m, l.length = m + 1 := ⟨l.length - 1, by omega⟩;have hw := Lib.decodeL_width l;have hd : (l.drop (Lib.decodeL l).2).length <= m := by rw [List.length_drop]; omega
 conv => lhs; unfold Lib.validD; rw [hm]; unfold Lib.validGoD
 rw [if_neg hl, validGo_fuel m _ hd]
theorem valid_cons {l : List UInt8} (hl : l ≠ []) (h : Lib.validD l = true) : ¬ ((Lib.decodeL l).1 = 65533 /\ (Lib.decodeL l).2 = 1) /\ Lib.validD (l.drop (Lib.decodeL l).2) = true := by
 rw [valid_step l hl] at h;split at h
 · cases h
 · exact ⟨by assumption, h⟩
theorem head_of (b : UInt8) (t : List UInt8) : ((Lib.decodeL (b :: t)).1 < 128 /\ b.toNat = (Lib.decodeL (b :: t)).1 /\ (Lib.decodeL (b :: t)).2 = 1) \/ (128 <= (Lib.decodeL (b :: t)).1 /\ 128 <= b.toNat) := by
 by_cases h : b.toNat < 128
 · left; rw [Lib.decodeL_ascii b t h]; exact ⟨h, rfl, rfl⟩
 · right
   have hs : 0 < (⟨(b :: t).toArray⟩ : ByteArray).size := by show 0 < (b :: t).toArray.size; simp
   exact ⟨(decode_high ⟨(b :: t).toArray⟩ 0 hs (show 128 <= b.toNat by omega)).1, by omega⟩
def closedL (t text : List UInt8) (p : Nat) : Option (List UInt8 × Nat) := if t.headD 0 = 39 /\ t ≠ [] then readAt (t.drop 1) (text ++ [39]) (p + 1) else some (text, p)
def escapedL (t text : List UInt8) (p : Nat) : Option (List UInt8 × Nat) := if (escL t).2 = 0 then none else readAt (t.drop (escL t).2) (text ++ encL (escL t).1) (p + (escL t).2)
def codedL (t text : List UInt8) (num : Int) (dig p : Nat) : Option (List UInt8 × Nat) :=
 if (hexRun (6 - dig) t num).1 + dig = 0 \/ t.length <= (hexRun (6 - dig) t num).1 \/ (t.getD (hexRun (6 - dig) t num).1 0).toNat ≠ 92 \/ 1114111 < (hexRun (6 - dig) t num).2 \/ (55296 <= (hexRun (6 - dig) t num).2 /\ (hexRun (6 - dig) t num).2 <= 57343) then none
 else readAt (t.drop ((hexRun (6 - dig) t num).1 + 1)) (text ++ encL (hexRun (6 - dig) t num).2) (p + (hexRun (6 - dig) t num).1 + 1)
def QSt (L : List UInt8) (pos : Nat) (a : Int) (text : List UInt8) (num : Int) (dig : Nat) : Prop :=
 (a = 0 /\ pos = 0 /\ text = []) \/ (a = 1 /\ readL L = readAt (L.drop pos) text pos) \/ (a = 2 /\ readL L = closedL (L.drop pos) text pos) \/ (a = 3 /\ readL L = escapedL (L.drop pos) text pos) \/
   (a = 4 /\ 0 <= num /\ num < 16 ^ dig /\ dig <= 6 /\ readL L = codedL (L.drop pos) text num dig pos)
def hexC (c : Int) : Int := if 48 <= c /\ c <= 57 then c - 48 else if 97 <= c /\ c <= 102 then c - 87 else if 65 <= c /\ c <= 70 then c - 55 else -1
def takeR (a : Int) (text : List UInt8) (num : Int) (dig : Nat) (c : Int) : Option (Int × List UInt8 × Int × Nat) :=
 if a = 0 then (if c = 39 then some (1, text, num, dig) else none)
 else if a = 1 then (if c = 39 then some (2, text, num, dig) else if c = 92 then some (3, text, num, dig) else if c < 32 then none else some (1, text ++ encL c, num, dig))
 else if a = 2 then (if c = 39 then some (1, text ++ encL c, num, dig) else none)
 else if a = 3 then (if c = 92 \/ c = 39 then some (1, text ++ encL c, num, dig) else if c = 110 then some (1, text ++ encL 10, num, dig) else if c = 116 then some (1, text ++ encL 9, num, dig) else if c = 120 then some (4, text, 0, 0) else none)
 else (if c = 92 then (if 0 < dig /\ Lib.validRune num = true then some (1, text ++ encL num, num, dig) else none) else if hexC c < 0 \/ dig = 6 then none else some (4, text, num * 16 + hexC c, dig + 1))
theorem escL_cons' (b : UInt8) (t : List UInt8) : escL (b :: t) =
 if b.toNat = 92 \/ b.toNat = 39 then ((b.toNat : Int), 1) else if b.toNat = 110 then (10, 1) else if b.toNat = 116 then (9, 1) else if b.toNat = 120 then
  (if (hexRun 6 t 0).1 = 0 \/ t.length <= (hexRun 6 t 0).1 \/ (t.getD (hexRun 6 t 0).1 0).toNat ≠ 92 \/ 1114111 < (hexRun 6 t 0).2 \/ (55296 <= (hexRun 6 t 0).2 /\ (hexRun 6 t 0).2 <= 57343) then (0, 0)
   else ((hexRun 6 t 0).2, (hexRun 6 t 0).1 + 2)) else (0, 0) := rfl
theorem hexRun_stop (k : Nat) (b : UInt8) (t : List UInt8) (num : Int) (h : hexV b.toNat < 0) : hexRun k (b :: t) num = (0, num) := by
 cases k with
 | zero => rfl
 | succ k => exact if_neg (by omega)
theorem hexRun_go (k : Nat) (b : UInt8) (t : List UInt8) (num : Int) (h : 0 <= hexV b.toNat) : hexRun (k + 1) (b :: t) num = ((hexRun k t (16 * num + hexV b.toNat)).1 + 1, (hexRun k t (16 * num + hexV b.toNat)).2) := if_pos h
theorem hexV_C (b : Nat) : hexV b = hexC (b : Int) := by
 unfold hexV hexC;repeat' split
 all_goals omega
theorem hexC_range (c : Int) : -1 <= hexC c /\ hexC c <= 15 := by
 unfold hexC;repeat' split
 all_goals omega
theorem hexC_big (c : Int) (h : 103 <= c) : hexC c = -1 := by
 unfold hexC;rw [if_neg (by omega), if_neg (by omega), if_neg (by omega)]
theorem byte_eq2 {b : UInt8} {n : Nat} (hn : n < 256) (h : b.toNat = n) : b = UInt8.ofNat n := UInt8.toNat_inj.1 (by rw [h, toNat_of n hn])
theorem QSt.step {L : List UInt8} {pos : Nat} {a : Int} {text : List UInt8} {num : Int} {dig : Nat} (h : QSt L pos a text num dig) (hne : L.drop pos ≠ [])
 (hb : ¬ ((Lib.decodeL (L.drop pos)).1 = 65533 /\ (Lib.decodeL (L.drop pos)).2 = 1)) (h2 : ¬ (a = 2 /\ (Lib.decodeL (L.drop pos)).1 ≠ 39)) :
 match takeR a text num dig ((Lib.decodeL (L.drop pos)).1 : Nat) with
 | none => readL L = none
 | some (a', t', m', d') => QSt L (pos + (Lib.decodeL (L.drop pos)).2) a' t' m' d' := by
 obtain ⟨b, t, hbt⟩ : ∃ b t, L.drop pos = b :: t := by
  match hL : L.drop pos, hne with
  | b :: t, _ => exact ⟨b, t, rfl⟩
 have hd2 : ∀ n, L.drop (pos + n) = (b :: t).drop n := fun n => by rw [<- hbt, List.drop_drop]
 have hho := head_of b t;unfold takeR;rcases h with ⟨ha, hp, ht⟩ | ⟨ha, hr⟩ | ⟨ha, hr⟩ | ⟨ha, hr⟩ | ⟨ha, hn0, hn1, hdg, hr⟩
 · subst ha hp ht;rw [List.drop_zero] at hbt;rw [if_pos rfl, List.drop_zero];subst hbt;by_cases hc : (Lib.decodeL (b :: t)).1 = 39
   · rw [if_pos (by omega)];refine .inr (.inl ⟨rfl, ?_⟩);have hb39 : b = 39 := byte_eq2 (n := 39) (by decide) (by omega);rw [readL_eq _ (by rw [List.headD_cons]; exact hb39), show (Lib.decodeL (b :: t)).2 = 1 by omega]
   · rw [if_neg (by omega)];exact readL_no _ (by rw [List.headD_cons]; rintro rfl; rw [Lib.decodeL_ascii 39 t (by decide)] at hc; exact hc rfl)
 · subst ha;rw [if_neg (by decide), if_pos rfl];rw [readAt_step _ _ _ hne] at hr;rw [hbt] at hr hb h2 ⊢;by_cases hc : (Lib.decodeL (b :: t)).1 = 39
   · rw [if_pos (by omega)];rw [if_pos hc] at hr;refine .inr (.inr (.inl ⟨rfl, ?_⟩));rw [hr, hd2, show (Lib.decodeL (b :: t)).2 = 1 by omega];unfold closedL;cases t with
     | nil => rw [if_neg (by simp), if_neg (by simp)]
     | cons x y =>
      by_cases hx : x = 39
      · subst hx; rw [if_pos (by simp), if_pos (by simp)]; rfl
      · rw [if_neg (by simp [hx]), if_neg (by simp [hx])]
   rw [if_neg (by omega)];rw [if_neg hc] at hr;by_cases hc2 : (Lib.decodeL (b :: t)).1 = 92
   · rw [if_pos (by omega)];rw [if_pos hc2] at hr;refine .inr (.inr (.inr (.inl ⟨rfl, ?_⟩)));rw [hr, hd2, show (Lib.decodeL (b :: t)).2 = 1 by omega];unfold escapedL;rw [List.drop_succ_cons, List.drop_zero, List.drop_succ_cons];by_cases he : (escL t).2 = 0
     · rw [if_pos he, if_pos he]
     · rw [if_neg he, if_neg he, show pos + (escL t).2 + 1 = pos + 1 + (escL t).2 by omega]
   rw [if_neg (by omega)];rw [if_neg hc2] at hr;by_cases hc3 : (Lib.decodeL (b :: t)).1 < 32
   · rw [if_pos (by omega)];rw [if_pos (.inl hc3)] at hr;exact hr
   rw [if_neg (by omega)];rw [if_neg (by omega)] at hr;exact .inr (.inl ⟨rfl, by rw [hr, hd2]⟩)
 · subst ha;have hc : (Lib.decodeL (b :: t)).1 = 39 := by rw [hbt] at h2; omega
   rw [if_neg (by decide), if_neg (by decide), if_pos rfl];rw [hbt] at hr ⊢;rw [if_pos (by omega)];have hb39 : b = 39 := byte_eq2 (n := 39) (by decide) (by omega);refine .inr (.inl ⟨rfl, ?_⟩);rw [hr, hd2, show (Lib.decodeL (b :: t)).2 = 1 by omega, hc];unfold closedL;rw [if_pos ⟨by rw [List.headD_cons]; exact hb39, by simp⟩];rfl
 · subst ha;rw [if_neg (by decide), if_neg (by decide), if_neg (by decide), if_pos rfl];rw [hbt] at hr ⊢;unfold escapedL at hr;by_cases hc1 : (Lib.decodeL (b :: t)).1 = 92 \/ (Lib.decodeL (b :: t)).1 = 39
   · rw [if_pos (by omega)];have he : escL (b :: t) = ((b.toNat : Int), 1) := by rw [escL_cons', if_pos (by omega)]
     rw [he, if_neg (show ¬ (1 : Nat) = 0 by decide)] at hr;refine .inr (.inl ⟨rfl, ?_⟩);rw [hr, hd2, show (Lib.decodeL (b :: t)).2 = 1 by omega, show b.toNat = (Lib.decodeL (b :: t)).1 by omega]
   rw [if_neg (by omega)];by_cases hc2 : (Lib.decodeL (b :: t)).1 = 110
   · rw [if_pos (by omega)];have he : escL (b :: t) = (10, 1) := by rw [escL_cons', if_neg (by omega), if_pos (by omega)]
     rw [he, if_neg (show ¬ (1 : Nat) = 0 by decide)] at hr;refine .inr (.inl ⟨rfl, ?_⟩);rw [hr, hd2, show (Lib.decodeL (b :: t)).2 = 1 by omega]
   rw [if_neg (by omega)];by_cases hc3 : (Lib.decodeL (b :: t)).1 = 116
   · rw [if_pos (by omega)];have he : escL (b :: t) = (9, 1) := by rw [escL_cons', if_neg (by omega), if_neg (by omega), if_pos (by omega)]
     rw [he, if_neg (show ¬ (1 : Nat) = 0 by decide)] at hr;refine .inr (.inl ⟨rfl, ?_⟩);rw [hr, hd2, show (Lib.decodeL (b :: t)).2 = 1 by omega]
   rw [if_neg (by omega)];by_cases hc4 : (Lib.decodeL (b :: t)).1 = 120
   · rw [if_pos (by omega)];have he := escL_cons' b t;rw [if_neg (by omega), if_neg (by omega), if_neg (by omega), if_pos (by omega)] at he;refine .inr (.inr (.inr (.inr ⟨rfl, by decide, by decide, by decide, ?_⟩)));rw [hr, hd2, show (Lib.decodeL (b :: t)).2 = 1 by omega, List.drop_succ_cons, List.drop_zero];unfold codedL;rw [Nat.sub_zero, Nat.add_zero];by_cases hq : (hexRun 6 t 0).1 = 0 \/ t.length <= (hexRun 6 t 0).1 \/ (t.getD (hexRun 6 t 0).1 0).toNat ≠ 92 \/ 1114111 < (hexRun 6 t 0).2 \/ (55296 <= (hexRun 6 t 0).2 /\ (hexRun 6 t 0).2 <= 57343)
     · rw [if_pos hq] at he;rw [he, if_pos hq, if_pos rfl]
     · rw [if_neg hq] at he;rw [he, if_neg hq, if_neg (by simp)];show readAt ((b :: t).drop ((hexRun 6 t 0).1 + 2)) _ (pos + ((hexRun 6 t 0).1 + 2)) = _
       rw [show pos + ((hexRun 6 t 0).1 + 2) = pos + 1 + (hexRun 6 t 0).1 + 1 by omega];rfl
   rw [if_neg (by omega)];have he : escL (b :: t) = (0, 0) := by rw [escL_cons', if_neg (by omega), if_neg (by omega), if_neg (by omega), if_neg (by omega)]
   rw [he, if_pos rfl] at hr;exact hr
 · subst ha;rw [if_neg (by decide), if_neg (by decide), if_neg (by decide), if_neg (by decide)];rw [hbt] at hr ⊢;unfold codedL at hr;by_cases hc1 : (Lib.decodeL (b :: t)).1 = 92
   · rw [if_pos (by omega)];have hv : hexV b.toNat < 0 := by rw [show b.toNat = 92 by omega]; decide
     rw [hexRun_stop _ _ _ _ hv] at hr;have hg : ((b :: t).getD 0 0).toNat = 92 := by show b.toNat = 92; omega
     by_cases hq : 0 < dig /\ Lib.validRune num = true
     · rw [if_pos hq];have hv2 := hq.2;unfold Lib.validRune at hv2;rw [decide_eq_true_eq] at hv2;rw [if_neg (by simp only [hg]; simp only [List.length_cons]; omega)] at hr;refine .inr (.inl ⟨rfl, ?_⟩);rw [hr, hd2, show (Lib.decodeL (b :: t)).2 = 1 by omega];rfl
     · rw [if_neg hq];rw [if_pos ?_] at hr
       · exact hr
       · by_cases hz : dig = 0
         · left; omega
         · right; right; right
           have hv2 : ¬ (Lib.validRune num = true) := fun e => hq ⟨by omega, e⟩;unfold Lib.validRune at hv2;rw [decide_eq_true_eq] at hv2;show 1114111 < num \/ (55296 <= num /\ num <= 57343)
           omega
   rw [if_neg (by omega)];have hg : ((b :: t).getD 0 0).toNat ≠ 92 := by show b.toNat ≠ 92; omega
   by_cases hq : hexC ((Lib.decodeL (b :: t)).1 : Nat) < 0 \/ dig = 6
   · rw [if_pos hq];have hs : hexRun (6 - dig) (b :: t) num = (0, num) := by
      rcases hq with hq | hq
      · refine hexRun_stop _ _ _ _ ?_;rw [hexV_C];rcases hho with ⟨_, he, _⟩ | ⟨_, he⟩
        · rw [he]; exact hq
        · rw [hexC_big _ (by omega)]; decide
      · rw [hq]; rfl
     rw [hs, if_pos (.inr (.inr (.inl hg)))] at hr;exact hr
   · rw [if_neg hq];have hsm : (Lib.decodeL (b :: t)).1 < 103 := by
      rcases Nat.lt_or_ge (Lib.decodeL (b :: t)).1 103 with h | h
      · exact h
      · have := hexC_big ((Lib.decodeL (b :: t)).1 : Nat) (by omega);omega
     have hbe : b.toNat = (Lib.decodeL (b :: t)).1 := by omega
     have hv : 0 <= hexV b.toNat := by rw [hexV_C, hbe]; omega
     have hrg := hexC_range ((Lib.decodeL (b :: t)).1 : Nat);obtain ⟨k, hk⟩ : ∃ k, 6 - dig = k + 1 := ⟨5 - dig, by omega⟩;have hk2 : 6 - (dig + 1) = k := by omega
     have hvc : hexV b.toNat = hexC ((Lib.decodeL (b :: t)).1 : Nat) := by rw [hexV_C, hbe]
     rw [hk, hexRun_go k b t num hv, hvc] at hr;dsimp only at hr;refine .inr (.inr (.inr (.inr ⟨rfl, by omega, ?_, by omega, ?_⟩)))
     · rw [Int.pow_succ]; omega
     rw [hr, hd2, show (Lib.decodeL (b :: t)).2 = 1 by omega, show (b :: t).drop 1 = t from rfl];unfold codedL;rw [hk2, show num * 16 + hexC ((Lib.decodeL (b :: t)).1 : Nat) = 16 * num + hexC ((Lib.decodeL (b :: t)).1 : Nat) by omega];generalize (hexRun k t (16 * num + hexC ((Lib.decodeL (b :: t)).1 : Nat))).1 = j;generalize (hexRun k t (16 * num + hexC ((Lib.decodeL (b :: t)).1 : Nat))).2 = m;by_cases hz : t.length <= j \/ (t.getD j 0).toNat ≠ 92 \/ 1114111 < m \/ (55296 <= m /\ m <= 57343)
     · rw [if_pos (.inr (by rw [List.length_cons, List.getD_cons_succ]; omega)), if_pos (.inr hz)]
     · rw [if_neg (by rw [List.length_cons, List.getD_cons_succ]; omega), if_neg (by omega), show pos + (j + 1) + 1 = pos + 1 + j + 1 by omega];rfl
theorem QSt.bad {L : List UInt8} {pos : Nat} {a : Int} {text : List UInt8} {num : Int} {dig : Nat} (h : QSt L pos a text num dig) (hne : L.drop pos ≠ [])
 (hb : (Lib.decodeL (L.drop pos)).1 = 65533 /\ (Lib.decodeL (L.drop pos)).2 = 1) (h2 : a ≠ 2) : readL L = none := by
 obtain ⟨b, t, hbt⟩ : ∃ b t, L.drop pos = b :: t := by
  match hL : L.drop pos, hne with
  | b :: t, _ => exact ⟨b, t, rfl⟩
 have hho := head_of b t;rw [hbt] at hb;rcases h with ⟨ha, hp, ht⟩ | ⟨ha, hr⟩ | ⟨ha, hr⟩ | ⟨ha, hr⟩ | ⟨ha, hn0, hn1, hdg, hr⟩
 · subst hp;rw [List.drop_zero] at hbt;subst hbt;exact readL_no _ (by rw [List.headD_cons]; rintro rfl; rw [Lib.decodeL_ascii 39 t (by decide)] at hb; exact absurd hb.1 (by decide))
 · rw [readAt_step _ _ _ hne, hbt, if_neg (by omega), if_neg (by omega), if_pos (.inr hb)] at hr;exact hr
 · exact absurd ha h2
 · unfold escapedL at hr;have he : escL (b :: t) = (0, 0) := by rw [escL_cons', if_neg (by omega), if_neg (by omega), if_neg (by omega), if_neg (by omega)]
   rw [hbt, he, if_pos rfl] at hr;exact hr
 · unfold codedL at hr;have hv : hexV b.toNat < 0 := by rw [hexV_C, hexC_big _ (by omega)]; decide
   rw [hbt, hexRun_stop _ _ _ _ hv, if_pos (.inr (.inr (.inl (by show b.toNat ≠ 92; omega))))] at hr;exact hr
theorem QSt.shut {L : List UInt8} {pos : Nat} {text : List UInt8} {num : Int} {dig : Nat} (h : QSt L pos 2 text num dig) (hc : L.drop pos = [] \/ (Lib.decodeL (L.drop pos)).1 ≠ 39) : readL L = some (text, pos) := by
 rcases h with ⟨ha, _⟩ | ⟨ha, _⟩ | ⟨_, hr⟩ | ⟨ha, _⟩ | ⟨ha, _⟩
 · exact absurd ha (by decide)
 · exact absurd ha (by decide)
 · unfold closedL at hr;rw [if_neg ?_] at hr
   · exact hr
   · rintro ⟨h1, h2⟩;rcases hc with hc | hc
     · exact h2 hc
     · match hL : L.drop pos, h2 with
       | b :: t, _ =>
        rw [hL] at h1 hc;rw [List.headD_cons] at h1;subst h1;rw [Lib.decodeL_ascii 39 t (by decide)] at hc;exact hc rfl
 · exact absurd ha (by decide)
 · exact absurd ha (by decide)
theorem QSt.over {L : List UInt8} {pos : Nat} {a : Int} {text : List UInt8} {num : Int} {dig : Nat} (h : QSt L pos a text num dig) (he : L.drop pos = []) (h2 : a ≠ 2) : readL L = none := by
 rcases h with ⟨ha, hp, ht⟩ | ⟨ha, hr⟩ | ⟨ha, hr⟩ | ⟨ha, hr⟩ | ⟨ha, hn0, hn1, hdg, hr⟩
 · subst hp;rw [List.drop_zero] at he;subst he;exact readL_no _ (by decide)
 · rw [hr, he]; rfl
 · exact absurd ha h2
 · rw [hr, he]; rfl
 · rw [hr, he];unfold codedL;rw [if_pos];right; left
   exact Nat.zero_le _
theorem QSt.at {L : List UInt8} {pos : Nat} {a : Int} {text : List UInt8} {num : Int} {dig : Nat} (h : QSt L pos a text num dig) : 0 <= a /\ a <= 4 /\ (a = 4 -> 0 <= num /\ num < 16777216 /\ dig <= 6 /\ (dig ≠ 6 -> num < 1048576)) := by
 rcases h with ⟨ha, hp, ht⟩ | ⟨ha, hr⟩ | ⟨ha, hr⟩ | ⟨ha, hr⟩ | ⟨ha, hn0, hn1, hdg, hr⟩
 iterate 4 exact ⟨by omega, by omega, fun h => by omega⟩
 have hd : dig = 0 \/ dig = 1 \/ dig = 2 \/ dig = 3 \/ dig = 4 \/ dig = 5 \/ dig = 6 := by omega
 refine ⟨by omega, by omega, fun _ => ⟨hn0, ?_, hdg, fun h6 => ?_⟩⟩
 · rcases hd with rfl | rfl | rfl | rfl | rfl | rfl | rfl <;> (simp at hn1; omega)
 · rcases hd with rfl | rfl | rfl | rfl | rfl | rfl | rfl <;> (simp at hn1; omega)
theorem escR_split (n : Nat) : ((n = 39 \/ n = 92 \/ n = 10 \/ n = 9) /\ ∃ b : UInt8, escR n = [92, b] /\ ∀ t, escL (b :: t) = ((n : Int), 1)) \/
 (n ≠ 39 /\ n ≠ 92 /\ n < 32 /\ escR n = 92 :: 120 :: (hexL n ++ [92])) \/ (32 <= n /\ n ≠ 39 /\ n ≠ 92 /\ escR n = encL n) := by
 unfold escR;by_cases h1 : n = 39
 · subst h1;exact .inl ⟨.inl rfl, 39, by rw [if_pos (.inl rfl)]; rfl, fun t => rfl⟩
 by_cases h2 : n = 92
 · subst h2;exact .inl ⟨.inr (.inl rfl), 92, by rw [if_pos (.inr rfl)]; rfl, fun t => rfl⟩
 rw [if_neg (by omega)];by_cases h3 : n = 10
 · subst h3;exact .inl ⟨.inr (.inr (.inl rfl)), 110, rfl, fun t => rfl⟩
 rw [if_neg (by omega)];by_cases h4 : n = 9
 · subst h4;exact .inl ⟨.inr (.inr (.inr rfl)), 116, rfl, fun t => rfl⟩
 rw [if_neg (by omega)];by_cases h5 : n < 32
 · rw [if_pos (by omega)];exact .inr (.inl ⟨h1, h2, h5, rfl⟩)
 · rw [if_neg (by omega)];exact .inr (.inr ⟨by omega, h1, h2, rfl⟩)
theorem hexV_hexD : ∀ k : Fin 16, hexV (hexD k.val).toNat = (k.val : Int) := by decide
theorem hexV_D (k : Nat) (h : k < 16) : hexV (hexD k).toNat = (k : Int) := hexV_hexD ⟨k, h⟩
theorem hexV_92 : ¬ 0 <= hexV (92 : UInt8).toNat := by decide
theorem hexRun_hexL (n : Nat) (hn : n < 32) (t : List UInt8) : hexRun 6 (hexL n ++ 92 :: t) 0 = ((hexL n).length, (n : Int)) := by
 unfold hexL;by_cases h : n < 16
 · rw [if_pos h];have e := hexV_D n h;show hexRun 6 (hexD n :: 92 :: t) 0 = (1, (n : Int))
   rw [show hexRun 6 (hexD n :: 92 :: t) 0 = ((hexRun 5 (92 :: t) (16 * 0 + hexV (hexD n).toNat)).1 + 1, (hexRun 5 (92 :: t) (16 * 0 + hexV (hexD n).toNat)).2) from if_pos (by omega)];rw [show hexRun 5 (92 :: t) (16 * 0 + hexV (hexD n).toNat) = (0, 16 * 0 + hexV (hexD n).toNat) from if_neg hexV_92, e];simp
 · rw [if_neg h];have e1 := hexV_D (n / 16) (by omega);have e2 := hexV_D (n % 16) (by omega);show hexRun 6 (hexD (n / 16) :: hexD (n % 16) :: 92 :: t) 0 = (2, (n : Int))
   rw [show hexRun 6 (hexD (n / 16) :: hexD (n % 16) :: 92 :: t) 0 = ((hexRun 5 (hexD (n % 16) :: 92 :: t) (16 * 0 + hexV (hexD (n / 16)).toNat)).1 + 1, (hexRun 5 (hexD (n % 16) :: 92 :: t) (16 * 0 + hexV (hexD (n / 16)).toNat)).2) from if_pos (by omega)];rw [show hexRun 5 (hexD (n % 16) :: 92 :: t) (16 * 0 + hexV (hexD (n / 16)).toNat) = ((hexRun 4 (92 :: t) (16 * (16 * 0 + hexV (hexD (n / 16)).toNat) + hexV (hexD (n % 16)).toNat)).1 + 1, (hexRun 4 (92 :: t) (16 * (16 * 0 + hexV (hexD (n / 16)).toNat) + hexV (hexD (n % 16)).toNat)).2) from if_pos (by omega)];rw [show hexRun 4 (92 :: t) (16 * (16 * 0 + hexV (hexD (n / 16)).toNat) + hexV (hexD (n % 16)).toNat) = (0, 16 * (16 * 0 + hexV (hexD (n / 16)).toNat) + hexV (hexD (n % 16)).toNat) from if_neg hexV_92, e1, e2];apply Prod.ext
   · rfl
   · show 16 * (16 * 0 + ((n / 16 : Nat) : Int)) + ((n % 16 : Nat) : Int) = (n : Int)
     omega
theorem escL_hex (n : Nat) (hn : n < 32) (t : List UInt8) : escL (120 :: (hexL n ++ 92 :: t)) = ((n : Int), (hexL n).length + 2) := by
 have hr := hexRun_hexL n hn t;have hlen : 1 <= (hexL n).length := by unfold hexL; split <;> simp
 have hg : (hexL n ++ 92 :: t).getD (hexL n).length 0 = 92 := by
  rw [List.getD, List.getElem?_append_right (Nat.le_refl _), Nat.sub_self];rfl
 show (if (hexRun 6 (hexL n ++ 92 :: t) 0).1 = 0 \/ _ then ((0 : Int), (0 : Nat)) else _) = _
 rw [hr];dsimp only;rw [if_neg];rw [hg, List.length_append, List.length_cons];simp only [show ((92 : UInt8).toNat ≠ 92) = False from by simp, false_or]
 omega
theorem readAt_back (x out : List UInt8) (a : Nat) : readAt (92 :: x) out a = if (escL x).2 = 0 then none else readAt (x.drop (escL x).2) (out ++ encL (escL x).1) (a + (escL x).2 + 1) := by
 rw [readAt_step _ _ _ (by simp), Lib.decodeL_ascii 92 x (by decide)];dsimp only;rw [if_neg (by decide), if_pos (by decide), List.drop_succ_cons, List.drop_zero, List.drop_succ_cons]
theorem read_rune (n : Nat) (hs : Scalar n) (t out : List UInt8) (a : Nat) : readAt (escR (n : Int) ++ t) out a = readAt t (out ++ encL (n : Int)) (a + (escR (n : Int)).length) := by
 rcases escR_split n with ⟨h, b, he, hb⟩ | ⟨h1, h2, h3, he⟩ | ⟨h1, h2, h3, he⟩
 · rw [he, List.cons_append, List.cons_append, List.nil_append, readAt_back, hb t];dsimp only;rw [if_neg (by simp), List.drop_succ_cons, List.drop_zero];rfl
 · rw [he, List.cons_append, List.cons_append, List.append_assoc, List.singleton_append, readAt_back, escL_hex n h3 t];dsimp only;have hd : (120 :: (hexL n ++ 92 :: t)).drop ((hexL n).length + 2) = t := by
    rw [List.drop_succ_cons, List.drop_append];simp
   rw [if_neg (by simp), hd, List.length_cons, List.length_cons, List.length_append, List.length_singleton];rfl
 · rw [he];have hne : encL (n : Int) ++ t ≠ [] := fun e => by
    have h4 := (encL_length (n : Int)).1;have h5 := congrArg List.length e;rw [List.length_append, List.length_nil] at h5;omega
   rw [readAt_step _ _ _ hne, decodeL_encL hs t];dsimp only;have hn1 : ¬ (n < 32 \/ (n = 65533 /\ (encL (n : Int)).length = 1)) := by
    rintro (h | ⟨h, h5⟩)
    · omega
    · rw [encL_of hs, if_neg (by omega), if_neg (by omega), if_pos (by omega)] at h5;simp at h5
   rw [if_neg h2, if_neg h3, if_neg hn1, List.drop_append];simp
theorem read_flat (l rest : List UInt8) (hv : Lib.validD l = true) (hr : rest.headD 0 ≠ 39) (out : List UInt8) (a : Nat) :
 readAt ((runesL l).flatMap escR ++ 39 :: rest) out a = some (out ++ l, a + ((runesL l).flatMap escR).length + 1) := by
 induction h : l.length using Nat.strongRecOn generalizing l out a with
 | _ n ih =>
  by_cases hl : l = []
  · subst hl;rw [runesL_nil];show readAt (39 :: rest) out a = some (out ++ [], a + 0 + 1)
    rw [readAt_step _ _ _ (by simp), Lib.decodeL_ascii 39 rest (by decide)];dsimp only;rw [if_pos (by decide), List.append_nil];refine if_neg ?_;rintro ⟨h1, h2⟩;apply hr
    cases rest with
    | nil => simp at h2
    | cons b t => exact h1
  · obtain ⟨hb, hv2⟩ := valid_cons hl hv;obtain ⟨hs, he⟩ := encL_decodeL l hl hb;have hw := Lib.decodeL_width l;have hp : 0 < l.length := List.length_pos_iff.2 hl;rw [runesL_cons l hl, List.flatMap_cons, List.append_assoc, read_rune _ hs, ih _ (by rw [List.length_drop]; omega) (l.drop (Lib.decodeL l).2) hv2 _ _ rfl, he];rw [List.length_append, List.append_assoc, List.take_append_drop];rw [show ∀ x y z : Nat, x + y + z + 1 = x + (y + z) + 1 from fun x y z => by omega]
theorem read_quote (l behind : List UInt8) (hv : Lib.validD l = true) (hr : behind.headD 0 ≠ 39) : readL (quoteL l ++ behind) = some (l, (quoteL l).length) := by
 have e : quoteL l ++ behind = 39 :: ((runesL l).flatMap escR ++ 39 :: behind) := by
  unfold quoteL;simp
 rw [e, readL_eq _ rfl, List.drop_one, List.tail_cons, read_flat l behind hv hr];unfold quoteL;congr 1
 rw [List.nil_append, List.length_cons, List.length_append];congr 1
 simp
 omega
end Go.Proofs.YtinefdlkajnomaaGreatDoor
