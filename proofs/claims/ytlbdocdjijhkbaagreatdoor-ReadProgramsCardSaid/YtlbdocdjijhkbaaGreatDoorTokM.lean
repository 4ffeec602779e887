import Derived.Test.YtlbdocdjijhkbaaGreatDoorCharM
import Derived.Test.YtlbdocdjijhkbaaGreatDoorNumA
import Derived.Lib.SpaceUEq
import Derived.Test.YtlbdocdjijhkbaaGreatDoorTermTokM
namespace Go.Proofs.YtlbdocdjijhkbaaGreatDoor
open Go.RowKit
structure Lx where
 kind : Int
 text : List UInt8
 n : Int
 w : Nat
def lx0 : Lx := ⟨0, [], 0, 0⟩
def spanL (P : Int -> Bool) (l : List UInt8) : Nat := (l.takeWhile fun b => P (b.toNat : Int)).length
def digR (c : Int) : Bool := decide (cls c = 3)
def lineR (c : Int) : Bool := decide (c ≠ 10)
def namedL (x : Lx) : Lx := if checkL x.text then x else lx0
def wordL (k : Int) (l : List UInt8) : Lx := ⟨k, l.take (spanL nameR l), 0, spanL nameR l⟩
def partsL (l : List UInt8) : Bool := match l with | [] => true | b :: _ => decide (b = 37) || decide (cls (b.toNat : Int) = 5)
def signsL (l : List UInt8) : Lx := ⟨if l.take (spanL signR l) = [46] /\ partsL (l.drop (spanL signR l)) = true then 8 else 3, l.take (spanL signR l), 0, spanL signR l⟩
def quotedL (l : List UInt8) : Lx := match readL l with | some (t, k) => ⟨2, t, 0, k⟩ | none => lx0
def singleL (b : UInt8) : Lx := ⟨if b = 33 \/ b = 59 then 1 else 6, [b], 0, 1⟩
def runeB (r : List UInt8) : Int × Nat :=
 if r.take 2 = [39, 39] then (39, 4)
 else if r = [] \/ (Lib.decodeL r).1 < 32 \/ (Lib.decodeL r).1 = 39 \/ (Lib.decodeL r).1 = 92 \/ ((Lib.decodeL r).1 = 65533 /\ (Lib.decodeL r).2 < 2) then (0, 0)
 else (((Lib.decodeL r).1 : Int), 2 + (Lib.decodeL r).2)
def runeNum (l : List UInt8) : Int × Nat := if l.take 2 = [48, 39] then runeB (l.drop 2) else (0, 0)
def numberL (l : List UInt8) : Lx :=
 if 0 < (runeNum l).2 then ⟨5, [], (runeNum l).1, (runeNum l).2⟩
 else if readE (45 :: l.take (spanL digR l)) = 0 then ⟨5, [], wrap64 (-(readV (45 :: l.take (spanL digR l)))), spanL digR l⟩ else lx0
def closeL : List UInt8 -> Option Nat
 | [] => none
 | b :: t => if b = 42 /\ t.headD 0 = 47 /\ t ≠ [] then some 2 else (closeL t).map (· + 1)
def remarkL (l : List UInt8) : Lx := match closeL (l.drop 2) with | some k => ⟨0, [], 0, k + 2⟩ | none => lx0
def lexL (l : List UInt8) : Lx :=
 match l with
 | [] => lx0
 | b :: t =>
  if cls (b.toNat : Int) = 5 then ⟨0, [], 0, 1⟩
  else if cls (b.toNat : Int) = 1 then namedL (wordL 1 (b :: t))
  else if cls (b.toNat : Int) = 2 then wordL 4 (b :: t)
  else if cls (b.toNat : Int) = 3 then numberL (b :: t)
  else if cls (b.toNat : Int) = 4 then (if (b :: t).take 2 = [47, 42] then remarkL (b :: t) else namedL (signsL (b :: t)))
  else if cls (b.toNat : Int) = 8 then namedL (quotedL (b :: t))
  else if cls (b.toNat : Int) = 6 \/ cls (b.toNat : Int) = 7 then singleL b
  else if b = 37 then ⟨0, [], 0, spanL lineR (b :: t)⟩
  else lx0
structure Tok where
 kind : Int
 text : List UInt8
 n : Int
 pos : Nat
inductive Out where
 | bad (o : Nat)
 | good (l : List Tok)
def Out.pre (ts : List Tok) : Out -> Out
 | .bad o => .bad o
 | .good l => .good (ts ++ l)
def opensL (k : Int) (t : List UInt8) : Bool := decide (k = 1) || decide (k = 2) || decide (k = 3) || (decide (k = 6) && (decide (t = [93]) || decide (t = [125])))
def kindL (tight : Bool) (x : Lx) : Int := if tight = true /\ x.text = [40] /\ x.kind = 6 then 7 else x.kind
def cutGo : Nat -> List UInt8 -> Nat -> Bool -> Out
 | 0, _, o, _ => .good [⟨9, [], 0, o⟩]
 | f + 1, l, o, tight =>
  if l = [] then .good [⟨9, [], 0, o⟩]
  else if (lexL l).w = 0 then .bad o
  else if (lexL l).kind = 0 then cutGo f (l.drop (lexL l).w) (o + (lexL l).w) false
  else (cutGo f (l.drop (lexL l).w) (o + (lexL l).w) (opensL (kindL tight (lexL l)) (lexL l).text)).pre [⟨kindL tight (lexL l), (lexL l).text, (lexL l).n, o⟩]
def cutL (l : List UInt8) (o : Nat) (tight : Bool) : Out := cutGo l.length l o tight
theorem cutGo_fuel : ∀ (f : Nat) (l : List UInt8) (o : Nat) (t : Bool), l.length <= f -> cutGo f l o t = cutGo l.length l o t
 | 0, l, o, t, h => by rw [List.eq_nil_of_length_eq_zero (Nat.le_zero.1 h)]; rfl
 | f + 1, l, o, t, h => by
  by_cases hl : l = []
  · subst hl; rfl
  · have hp : 0 < l.length := List.length_pos_iff.2 hl;obtain ⟨m, hm⟩ : ∃ m, l.length = m + 1 := ⟨l.length - 1, by omega⟩;rw [hm];unfold cutGo;rw [if_neg hl, if_neg hl];by_cases hw : (lexL l).w = 0
    · rw [if_pos hw, if_pos hw]
    · have hd : (l.drop (lexL l).w).length <= m := by rw [List.length_drop]; omega
      rw [if_neg hw, if_neg hw];have ih : ∀ o t, cutGo f (l.drop (lexL l).w) o t = cutGo m (l.drop (lexL l).w) o t := fun o t => by
       rw [cutGo_fuel f _ _ _ (by omega), cutGo_fuel m _ _ _ hd]
      rw [ih, ih]
theorem cutL_nil (o : Nat) (t : Bool) : cutL [] o t = .good [⟨9, [], 0, o⟩] := rfl
theorem cutL_step (l : List UInt8) (o : Nat) (t : Bool) (hl : l ≠ []) : cutL l o t =
 if (lexL l).w = 0 then .bad o
 else if (lexL l).kind = 0 then cutL (l.drop (lexL l).w) (o + (lexL l).w) false
 else (cutL (l.drop (lexL l).w) (o + (lexL l).w) (opensL (kindL t (lexL l)) (lexL l).text)).pre [⟨kindL t (lexL l), (lexL l).text, (lexL l).n, o⟩] := by
 have hp : 0 < l.length := List.length_pos_iff.2 hl;obtain ⟨m, hm⟩ : ∃ m, l.length = m + 1 := ⟨l.length - 1, by omega⟩;conv => lhs; unfold cutL; rw [hm]; unfold cutGo
 rw [if_neg hl];by_cases hw : (lexL l).w = 0
 · rw [if_pos hw, if_pos hw]
 · have hd : (l.drop (lexL l).w).length <= m := by rw [List.length_drop]; omega
   rw [if_neg hw, if_neg hw];rw [cutGo_fuel m _ _ _ hd, cutGo_fuel m _ _ _ hd];rfl
theorem pre_pre (a b : List Tok) (o : Out) : (o.pre b).pre a = o.pre (a ++ b) := by cases o <;> simp [Out.pre]
theorem pre_nil (o : Out) : o.pre [] = o := by cases o <;> rfl
theorem spanL_le (P : Int -> Bool) (l : List UInt8) : spanL P l <= l.length := (List.takeWhile_sublist _).length_le
theorem take_spanL (P : Int -> Bool) (l : List UInt8) : l.take (spanL P l) = l.takeWhile fun b => P (b.toNat : Int) := by
 unfold spanL;induction l with
 | nil => rfl
 | cons b t ih =>
  rw [List.takeWhile_cons];split
  · rw [List.length_cons, List.take_succ_cons, ih]
  · rfl
theorem spanL_pos (P : Int -> Bool) (b : UInt8) (t : List UInt8) (h : P (b.toNat : Int) = true) : 0 < spanL P (b :: t) := by
 unfold spanL;rw [List.takeWhile_cons, if_pos h, List.length_cons]; omega
theorem closeL_le : ∀ (l : List UInt8) (k : Nat), closeL l = some k -> k <= l.length /\ 2 <= k
 | [], k, h => by cases h
 | b :: t, k, h => by
  unfold closeL at h;split at h
  · rename_i hc
    injection h with h;have : 0 < t.length := List.length_pos_iff.2 hc.2.2;rw [List.length_cons]; omega
  · cases hc : closeL t with
    | none => rw [hc] at h; cases h
    | some m =>
     rw [hc] at h;have := closeL_le t m hc;simp only [Option.map_some, Option.some.injEq] at h
     rw [List.length_cons]; omega
theorem runeB_le (r : List UInt8) : (runeB r).2 <= r.length + 2 := by
 unfold runeB;by_cases h1 : r.take 2 = [39, 39]
 · have h2 := congrArg List.length h1;rw [List.length_take] at h2;simp only [List.length_cons, List.length_nil] at h2
   rw [if_pos h1];show 4 <= _
   omega
 rw [if_neg h1];by_cases h2 : r = [] \/ (Lib.decodeL r).1 < 32 \/ (Lib.decodeL r).1 = 39 \/ (Lib.decodeL r).1 = 92 \/ ((Lib.decodeL r).1 = 65533 /\ (Lib.decodeL r).2 < 2)
 · rw [if_pos h2]; exact Nat.zero_le _
 · rw [if_neg h2];have h3 : r ≠ [] := fun e => h2 (.inl e);have := Lib.decodeL_le r h3;show 2 + _ <= _
   omega
theorem runeNum_le (l : List UInt8) : (runeNum l).2 <= l.length := by
 unfold runeNum;split
 · rename_i h
   have h2 := congrArg List.length h;rw [List.length_take] at h2;simp only [List.length_cons, List.length_nil] at h2
   have := runeB_le (l.drop 2);rw [List.length_drop] at this;omega
 · exact Nat.zero_le _
theorem escapes_le (l out : List UInt8) (a : Nat) : ∀ o k, readAt l out a = some (o, k) -> k <= a + l.length /\ a < k := by
 induction h : l.length using Nat.strongRecOn generalizing l out a with
 | _ n ih =>
  intro o k hr;by_cases hl : l = []
  · subst hl; cases hr
  · have hp : 0 < l.length := List.length_pos_iff.2 hl;have hw := Lib.decodeL_width l;have hle := Lib.decodeL_le l hl;rw [readAt_step l out a hl] at hr;by_cases h39 : (Lib.decodeL l).1 = 39
    · rw [if_pos h39] at hr;by_cases h2 : l.getD 1 0 = 39 /\ 1 < l.length
      · rw [if_pos h2] at hr;have := ih _ (by rw [List.length_drop]; omega) (l.drop 2) _ _ rfl o k hr;rw [List.length_drop] at this;omega
      · rw [if_neg h2] at hr;simp only [Option.some.injEq, Prod.mk.injEq] at hr
        omega
    rw [if_neg h39] at hr;by_cases h92 : (Lib.decodeL l).1 = 92
    · rw [if_pos h92] at hr;by_cases h0 : (escL (l.drop 1)).2 = 0
      · rw [if_pos h0] at hr; cases hr
      · rw [if_neg h0] at hr;have h3 := escL_le (l.drop 1);rw [List.length_drop] at h3;have := ih _ (by rw [List.length_drop]; omega) (l.drop ((escL (l.drop 1)).2 + 1)) _ _ rfl o k hr;rw [List.length_drop] at this;omega
    rw [if_neg h92] at hr;by_cases hb : (Lib.decodeL l).1 < 32 \/ ((Lib.decodeL l).1 = 65533 /\ (Lib.decodeL l).2 = 1)
    · rw [if_pos hb] at hr; cases hr
    · rw [if_neg hb] at hr;have := ih _ (by rw [List.length_drop]; omega) (l.drop (Lib.decodeL l).2) _ _ rfl o k hr;rw [List.length_drop] at this;omega
theorem readL_le {l : List UInt8} {t : List UInt8} {k : Nat} (h : readL l = some (t, k)) : k <= l.length /\ 1 < k := by
 by_cases h0 : l.headD 0 = 39
 · rw [readL_eq l h0] at h;have := escapes_le _ _ _ _ _ h;cases l with
   | nil => cases h0
   | cons b t => rw [List.drop_succ_cons, List.drop_zero] at this; rw [List.length_cons]; omega
 · rw [readL_no l h0] at h; cases h
theorem namedL_w (x : Lx) : (namedL x).w = x.w \/ (namedL x).w = 0 := by unfold namedL; split; exact .inl rfl; exact .inr rfl
theorem lexL_le (l : List UInt8) : (lexL l).w <= l.length := by
 cases l with
 | nil => exact Nat.le_refl 0
 | cons b t =>
  have hnm : ∀ x : Lx, x.w <= (b :: t).length -> (namedL x).w <= (b :: t).length := fun x hx => by
   rcases namedL_w x with h | h <;> rw [h]
   · exact hx
   · exact Nat.zero_le _
  have h1 : 1 <= (b :: t).length := by rw [List.length_cons]; omega
  unfold lexL;dsimp only;repeat' split
  · exact h1
  · exact hnm _ (spanL_le _ _)
  · exact spanL_le _ _
  · unfold numberL;split
    · exact runeNum_le _
    · split
      · exact spanL_le _ _
      · exact Nat.zero_le _
  · rename_i h2
    unfold remarkL;split
    · rename_i k hk
      have := (closeL_le _ _ hk).1;rw [List.length_drop] at this;have h3 := congrArg List.length h2;rw [List.length_take] at h3;simp only [List.length_cons, List.length_nil] at h3 this ⊢
      omega
    · exact Nat.zero_le _
  · exact hnm _ (spanL_le _ _)
  · refine hnm _ ?_;unfold quotedL;split
    · rename_i t2 k hk
      exact (readL_le hk).1
    · exact Nat.zero_le _
  · exact h1
  · exact spanL_le _ _
  · exact Nat.zero_le _
inductive Hits : List UInt8 -> Nat -> Prop
 | zero (l) : Hits l 0
 | step (l) (n) : l ≠ [] -> Hits (l.drop (Lib.decodeL l).2) n -> Hits l ((Lib.decodeL l).2 + n)
theorem Hits.next {l : List UInt8} {n : Nat} (h : Hits l n) (hn : 0 < n) : (Lib.decodeL l).2 <= n /\ Hits (l.drop (Lib.decodeL l).2) (n - (Lib.decodeL l).2) := by
 cases h with
 | zero => omega
 | step _ m _ hm => exact ⟨by omega, by rw [Nat.add_sub_cancel_left]; exact hm⟩
theorem Hits.mk {l : List UInt8} {n : Nat} (hl : l ≠ []) (hle : (Lib.decodeL l).2 <= n) (h : Hits (l.drop (Lib.decodeL l).2) (n - (Lib.decodeL l).2)) : Hits l n := by
 have := Hits.step l _ hl h;rwa [show (Lib.decodeL l).2 + (n - (Lib.decodeL l).2) = n from by omega] at this
theorem decode_inner (l : List UInt8) (hl : l ≠ []) (j : Nat) (hj : j < (Lib.decodeL l).2) (h1 : 1 < (Lib.decodeL l).2) : ∃ h : j < l.length, 128 <= (l[j]).toNat := by
 have hle := Lib.decodeL_le l hl;refine ⟨by omega, ?_⟩;have hN := Lib.decodeL_N l;have hs := Lib.decodeN_shape l.length (l.getD 0 0).toNat (l.getD 1 0).toNat (l.getD 2 0).toNat (l.getD 3 0).toNat;rw [<- hN] at hs;have hg : l[j]'(by omega) = l.getD j 0 := by rw [List.getD, List.getElem?_eq_getElem (by omega)]; rfl
 rw [hg];rcases hs with ⟨_, e⟩ | ⟨a, _, b, _, e⟩ | ⟨a, _, b, c, _, _, e⟩ | ⟨a, _, b, c, d, _, _, e⟩ | e
 all_goals rw [e] at hj h1
 · simp at h1
 · have : j = 0 \/ j = 1 := by simp at hj; omega
   rcases this with rfl | rfl <;> omega
 · have : j = 0 \/ j = 1 \/ j = 2 := by simp at hj; omega
   rcases this with rfl | rfl | rfl <;> omega
 · have : j = 0 \/ j = 1 \/ j = 2 \/ j = 3 := by simp at hj; omega
   rcases this with rfl | rfl | rfl | rfl <;> omega
 · simp at h1
theorem hits_ascii_to : ∀ (m : Nat) (l : List UInt8), l.length <= m -> ∀ (n : Nat) (h : n < l.length), (l[n]).toNat < 128 -> Hits l (n + 1)
 | 0, l, hm, n, h, _ => by omega
 | m + 1, l, hm, n, h, hb => by
  have hl : l ≠ [] := fun e => by rw [e] at h; simp at h
  have hw := Lib.decodeL_width l;have hle := Lib.decodeL_le l hl;by_cases hd : (Lib.decodeL l).2 <= n
  · refine Hits.mk hl (by omega) ?_;have hx := hits_ascii_to m (l.drop (Lib.decodeL l).2) (by rw [List.length_drop]; omega) (n - (Lib.decodeL l).2) (by rw [List.length_drop]; omega) (by rw [List.getElem_drop]; simp only [show (Lib.decodeL l).2 + (n - (Lib.decodeL l).2) = n from by omega]; exact hb);rwa [show n - (Lib.decodeL l).2 + 1 = n + 1 - (Lib.decodeL l).2 from by omega] at hx
  · by_cases h1 : 1 < (Lib.decodeL l).2
    · obtain ⟨_, hc⟩ := decode_inner l hl n (by omega) h1;omega
    · refine Hits.mk hl (by omega) ?_;rw [show n + 1 - (Lib.decodeL l).2 = 0 from by omega];exact .zero _
theorem hits_ascii (l : List UInt8) (n : Nat) (h : n < l.length) (hb : (l[n]).toNat < 128) : Hits l (n + 1) := hits_ascii_to _ l (Nat.le_refl _) n h hb
theorem high_rune (b : UInt8) (t : List UInt8) (h : 128 <= b.toNat) : 128 <= (Lib.decodeL (b :: t)).1 := by
 have hN := Lib.decodeL_N (b :: t);have hs := Lib.decodeN_shape (b :: t).length ((b :: t).getD 0 0).toNat ((b :: t).getD 1 0).toNat ((b :: t).getD 2 0).toNat ((b :: t).getD 3 0).toNat;rw [<- hN] at hs;rcases hs with ⟨a, e⟩ | ⟨_, _, _, a, e⟩ | ⟨_, _, _, _, a, _, e⟩ | ⟨_, _, _, _, _, a, _, e⟩ | e
 · rw [List.getD_cons_zero] at a; omega
 all_goals (rw [e]; simp only; omega)
theorem takeWhile_take (P : UInt8 -> Bool) : ∀ (l : List UInt8) (d : Nat), (∀ j (h : j < l.length), j < d -> P l[j] = true) -> d <= l.length -> (l.takeWhile P).length = d + ((l.drop d).takeWhile P).length
 | l, 0, _, _ => by rw [List.drop_zero]; omega
 | [], d + 1, _, hd => by simp at hd
 | b :: t, d + 1, h, hd => by
  have h0 := h 0 (by simp) (by omega);rw [List.getElem_cons_zero] at h0;rw [List.takeWhile_cons, if_pos h0, List.length_cons, List.drop_succ_cons, takeWhile_take P t d (fun j hj hjd => by have := h (j + 1) (by rw [List.length_cons]; omega) (by omega); rwa [List.getElem_cons_succ] at this) (by rw [List.length_cons] at hd; omega)];omega
theorem spanL_step (P : Int -> Bool) (hi : Bool) (hP : ∀ c : Int, 128 <= c -> P c = hi) (l : List UInt8) (hl : l ≠ []) :
 spanL P l = if P (Lib.decodeL l).1 = true then (Lib.decodeL l).2 + spanL P (l.drop (Lib.decodeL l).2) else 0 := by
 match l, hl with
 | b :: t, hl =>
  by_cases hb : b.toNat < 128
  · rw [Lib.decodeL_ascii b t hb];dsimp only;unfold spanL;rw [List.takeWhile_cons, List.drop_one, List.tail_cons];split
    · rw [List.length_cons]; omega
    · rfl
  · have hr := high_rune b t (by omega);rw [hP _ (by omega)];cases hi with
    | false =>
     rw [if_neg (by decide)];unfold spanL;rw [List.takeWhile_cons, if_neg (by rw [hP _ (by omega)]; decide)];rfl
    | true =>
     rw [if_pos rfl];unfold spanL;refine takeWhile_take _ _ _ (fun j hj hd => ?_) (Lib.decodeL_le _ hl);by_cases h1 : 1 < (Lib.decodeL (b :: t)).2
     · obtain ⟨_, hc⟩ := decode_inner _ hl j hd h1;exact hP _ (by omega)
     · have : j = 0 := by omega
       subst this;exact hP _ (by rw [List.getElem_cons_zero]; omega)
theorem cls_high (c : Int) (h : 128 <= c) : cls c = 0 := by
 unfold cls;rw [if_neg (by omega), if_neg (by omega), if_neg (by omega), if_neg (by omega), if_neg (by omega), if_neg (by omega), if_neg (by omega), if_neg (by omega)]
theorem nameR_high (c : Int) (h : 128 <= c) : nameR c = false := by unfold nameR; rw [cls_high c h]; decide
theorem signR_high (c : Int) (h : 128 <= c) : signR c = false := by unfold signR; rw [cls_high c h]; decide
theorem digR_high (c : Int) (h : 128 <= c) : digR c = false := by unfold digR; rw [cls_high c h]; decide
theorem lineR_high (c : Int) (h : 128 <= c) : lineR c = true := by unfold lineR; rw [decide_eq_true_eq]; omega
theorem hits_span (P : Int -> Bool) (hi : Bool) (hP : ∀ c : Int, 128 <= c -> P c = hi) (l : List UInt8) : Hits l (spanL P l) := by
 induction e : l.length using Nat.strongRecOn generalizing l with
 | _ m ih =>
  by_cases hl : l = []
  · subst hl; exact .zero _
  · have hw := Lib.decodeL_width l;have hp : 0 < l.length := List.length_pos_iff.2 hl;rw [spanL_step P hi hP l hl];split
    · exact .step _ _ hl (ih _ (by rw [List.length_drop]; omega) _ rfl)
    · exact .zero _
theorem closeL_last : ∀ (l : List UInt8) (k : Nat), closeL l = some k -> ∃ h : k - 1 < l.length, l[k - 1] = 47
 | [], k, h => by cases h
 | b :: t, k, h => by
  unfold closeL at h;split at h
  · rename_i hc
    injection h with h;subst h;match t, hc with
    | c :: u, hc => exact ⟨by simp, hc.2.1⟩
  · cases hc : closeL t with
    | none => rw [hc] at h; cases h
    | some m =>
     rw [hc] at h;have h2 := (closeL_le t m hc).2;obtain ⟨h3, h4⟩ := closeL_last t m hc;simp only [Option.map_some, Option.some.injEq] at h
     subst h;refine ⟨by rw [List.length_cons]; omega, ?_⟩;have : (b :: t)[m + 1 - 1]'(by rw [List.length_cons]; omega) = (b :: t)[(m - 1) + 1]'(by rw [List.length_cons]; omega) := by congr 1; omega
     rw [this, List.getElem_cons_succ];exact h4
theorem readAt_last_to : ∀ (n : Nat) (l out : List UInt8) (a : Nat), l.length <= n -> ∀ o k, readAt l out a = some (o, k) -> ∃ h : k - a - 1 < l.length, l[k - a - 1] = 39
 | 0, l, out, a, hn, o, k, hr => by rw [List.eq_nil_of_length_eq_zero (Nat.le_zero.1 hn)] at hr; cases hr
 | n + 1, l, out, a, hn, o, k, hr => by
  by_cases hl : l = []
  · subst hl; cases hr
  · have hp : 0 < l.length := List.length_pos_iff.2 hl;have hw := Lib.decodeL_width l;have hle := Lib.decodeL_le l hl;have go : ∀ d o2, 0 < d -> d <= l.length -> readAt (l.drop d) o2 (a + d) = some (o, k) -> ∃ h : k - a - 1 < l.length, l[k - a - 1] = 39 := fun d o2 hd hdl hr => by
     have hb := escapes_le _ _ _ _ _ hr;obtain ⟨h1, h2⟩ := readAt_last_to n (l.drop d) o2 (a + d) (by rw [List.length_drop]; omega) o k hr;rw [List.length_drop] at h1 hb;rw [List.getElem_drop] at h2;refine ⟨by omega, ?_⟩;rw [<- h2]; congr 1; omega
    rw [readAt_step l out a hl] at hr;by_cases h39 : (Lib.decodeL l).1 = 39
    · rw [if_pos h39] at hr;by_cases h2 : l.getD 1 0 = 39 /\ 1 < l.length
      · rw [if_pos h2] at hr;exact go 2 _ (by omega) (by omega) hr
      · rw [if_neg h2] at hr;simp only [Option.some.injEq, Prod.mk.injEq] at hr
        obtain ⟨h1, h2⟩ := hr;subst h2;refine ⟨by omega, ?_⟩;cases l with
        | nil => exact absurd rfl hl
        | cons b t =>
         simp only [show a + 1 - a - 1 = 0 from by omega, List.getElem_cons_zero]
         by_cases hb : b.toNat < 128
         · rw [Lib.decodeL_ascii b t hb] at h39;have h39' : b.toNat = 39 := h39;have := UInt8.ofNat_toNat (x := b);rw [h39'] at this; exact this.symm
         · have := high_rune b t (by omega);omega
    rw [if_neg h39] at hr;by_cases h92 : (Lib.decodeL l).1 = 92
    · rw [if_pos h92] at hr;by_cases h0 : (escL (l.drop 1)).2 = 0
      · rw [if_pos h0] at hr; cases hr
      · rw [if_neg h0] at hr;have h3 := escL_le (l.drop 1);rw [List.length_drop] at h3;exact go ((escL (l.drop 1)).2 + 1) _ (by omega) (by omega) (by rw [<- Nat.add_assoc]; exact hr)
    rw [if_neg h92] at hr;by_cases hb : (Lib.decodeL l).1 < 32 \/ ((Lib.decodeL l).1 = 65533 /\ (Lib.decodeL l).2 = 1)
    · rw [if_pos hb] at hr; cases hr
    · rw [if_neg hb] at hr;exact go _ _ hw hle hr
theorem readAt_last (l out : List UInt8) (a : Nat) (o k) (h : readAt l out a = some (o, k)) : ∃ h : k - a - 1 < l.length, l[k - a - 1] = 39 := readAt_last_to _ l out a (Nat.le_refl _) o k h
theorem readL_last {l t : List UInt8} {k : Nat} (h : readL l = some (t, k)) : ∃ h : k - 1 < l.length, l[k - 1] = 39 := by
 by_cases h0 : l.headD 0 = 39
 · rw [readL_eq l h0] at h;have hb := escapes_le _ _ _ _ _ h;obtain ⟨h1, h2⟩ := readAt_last _ _ _ _ _ h;rw [List.length_drop] at h1;rw [List.getElem_drop] at h2;refine ⟨by omega, ?_⟩;rw [<- h2]; congr 1; omega
 · rw [readL_no l h0] at h; cases h
theorem hits_at {l : List UInt8} {k : Nat} {b : UInt8} (hk : 0 < k) (hb : b.toNat < 128) (h : ∃ h : k - 1 < l.length, l[k - 1] = b) : Hits l k := by
 obtain ⟨h1, h2⟩ := h;have := hits_ascii l (k - 1) h1 (by rw [h2]; exact hb);rwa [show k - 1 + 1 = k from by omega] at this
theorem hits_rune (l : List UInt8) (h : l ≠ []) : Hits l (Lib.decodeL l).2 := Hits.mk h (Nat.le_refl _) (by rw [Nat.sub_self]; exact .zero _)
theorem hits_drop_ascii (b : UInt8) (t : List UInt8) (hb : b.toNat < 128) (n : Nat) (h : Hits t n) : Hits (b :: t) (n + 1) := by
 refine Hits.mk (by simp) ?_ ?_
 · rw [Lib.decodeL_ascii b t hb]; simp only; omega
 · rw [Lib.decodeL_ascii b t hb]; exact h
theorem runeNum_hits (l : List UInt8) (h : 0 < (runeNum l).2) : Hits l (runeNum l).2 := by
 unfold runeNum at h ⊢;by_cases h1 : l.take 2 = [48, 39]
 · rw [if_pos h1] at h ⊢;match l, h1 with
   | [a], h1 => simp at h1
   | a :: b :: r, h1 =>
    simp only [List.take_succ_cons, List.take_zero, List.cons.injEq, and_true] at h1
    obtain ⟨rfl, rfl⟩ := h1;rw [List.drop_succ_cons, List.drop_succ_cons, List.drop_zero] at h ⊢;unfold runeB at h ⊢;by_cases h2 : r.take 2 = [39, 39]
    · rw [if_pos h2];match r, h2 with
      | [c], h2 => simp at h2
      | c :: d :: u, h2 =>
       simp only [List.take_succ_cons, List.take_zero, List.cons.injEq, and_true] at h2
       obtain ⟨rfl, rfl⟩ := h2;exact hits_drop_ascii _ _ (by decide) _ (hits_drop_ascii _ _ (by decide) _ (hits_drop_ascii _ _ (by decide) _ (hits_drop_ascii _ _ (by decide) _ (.zero _))))
    · rw [if_neg h2] at h ⊢;by_cases h3 : r = [] \/ (Lib.decodeL r).1 < 32 \/ (Lib.decodeL r).1 = 39 \/ (Lib.decodeL r).1 = 92 \/ ((Lib.decodeL r).1 = 65533 /\ (Lib.decodeL r).2 < 2)
      · rw [if_pos h3] at h; exact absurd h (by decide)
      · rw [if_neg h3];have h4 : r ≠ [] := fun e => h3 (.inl e);show Hits _ (2 + (Lib.decodeL r).2)
        rw [show 2 + (Lib.decodeL r).2 = (Lib.decodeL r).2 + 1 + 1 from by omega];exact hits_drop_ascii _ _ (by decide) _ (hits_drop_ascii _ _ (by decide) _ (hits_rune r h4))
 · rw [if_neg h1] at h; exact absurd h (by decide)
theorem hits_lex (l : List UInt8) : Hits l (lexL l).w := by
 cases l with
 | nil => exact .zero _
 | cons b t =>
  have hnm : ∀ x : Lx, Hits (b :: t) x.w -> Hits (b :: t) (namedL x).w := fun x hx => by
   rcases namedL_w x with h | h <;> rw [h]
   · exact hx
   · exact .zero _
  have h1 : b.toNat < 128 -> Hits (b :: t) 1 := fun hb => hits_drop_ascii _ _ hb _ (.zero _);have hb : ∀ k : Int, k ≠ 0 -> cls (b.toNat : Int) = k -> b.toNat < 128 := fun k hk h => by
   apply Classical.byContradiction
   intro hc;rw [cls_high _ (by omega)] at h;exact hk h.symm
  unfold lexL;dsimp only;repeat' split
  · exact h1 (hb 5 (by decide) (by assumption))
  · exact hnm _ (hits_span _ _ nameR_high _)
  · exact hits_span _ _ nameR_high _
  · unfold numberL;split
    · exact runeNum_hits _ (by assumption)
    · split
      · exact hits_span _ _ digR_high _
      · exact .zero _
  · rename_i h2
    unfold remarkL;split
    · rename_i k hk
      obtain ⟨h3, h4⟩ := closeL_last _ _ hk;have h5 := closeL_le _ _ hk;rw [List.getElem_drop] at h4;rw [List.length_drop] at h3 h5;refine hits_at (b := 47) (by show 0 < k + 2; omega) (by decide) ⟨by show k + 2 - 1 < _; omega, ?_⟩;rw [<- h4];show (b :: t)[k + 2 - 1]'_ = _
      congr 1; omega
    · exact .zero _
  · exact hnm _ (hits_span _ _ signR_high _)
  · refine hnm _ ?_;unfold quotedL;split
    · rename_i t2 k hk
      exact hits_at (show 0 < k by have := (readL_le hk).2; omega) (by decide) (readL_last hk)
    · exact .zero _
  · rename_i h6
    rcases h6 with h6 | h6
    · exact h1 (hb 6 (by decide) h6)
    · exact h1 (hb 7 (by decide) h6)
  · exact hits_span _ _ lineR_high _
  · exact .zero _
def Tok.sh (d : Nat) (t : Tok) : Tok := ⟨t.kind, t.text, t.n, t.pos + d⟩
def Out.sh (d : Nat) : Out -> Out
 | .bad o => .bad (o + d)
 | .good l => .good (l.map (Tok.sh d))
theorem pre_good {ts : List Tok} {o : Out} {T : List Tok} (h : o.pre ts = .good T) : ∃ U, o = .good U /\ T = ts ++ U := by
 cases o with
 | bad o => cases h
 | good U => injection h with h; exact ⟨U, rfl, h.symm⟩
theorem cut_cases {l : List UInt8} {o : Nat} {t : Bool} {T : List Tok} (h : cutL l o t = .good T) :
 (l = [] /\ T = [⟨9, [], 0, o⟩]) \/ (l ≠ [] /\ (lexL l).w ≠ 0 /\ (lexL l).kind = 0 /\ cutL (l.drop (lexL l).w) (o + (lexL l).w) false = .good T) \/
 (l ≠ [] /\ (lexL l).w ≠ 0 /\ (lexL l).kind ≠ 0 /\ ∃ U, cutL (l.drop (lexL l).w) (o + (lexL l).w) (opensL (kindL t (lexL l)) (lexL l).text) = .good U /\ T = ⟨kindL t (lexL l), (lexL l).text, (lexL l).n, o⟩ :: U) := by
 by_cases hl : l = []
 · subst hl; rw [cutL_nil] at h; injection h with h; exact .inl ⟨rfl, h.symm⟩
 · rw [cutL_step l o t hl] at h;by_cases hw : (lexL l).w = 0
   · rw [if_pos hw] at h; cases h
   · rw [if_neg hw] at h;by_cases hk : (lexL l).kind = 0
     · rw [if_pos hk] at h; exact .inr (.inl ⟨hl, hw, hk, h⟩)
     · rw [if_neg hk] at h;obtain ⟨U, h1, h2⟩ := pre_good h;exact .inr (.inr ⟨hl, hw, hk, U, h1, h2⟩)
theorem cut_ind {P : List UInt8 -> Nat -> Bool -> List Tok -> Prop}
 (nil : ∀ o t, P [] o t [⟨9, [], 0, o⟩])
 (skip : ∀ l o t T, l ≠ [] -> (lexL l).w ≠ 0 -> (lexL l).kind = 0 -> cutL (l.drop (lexL l).w) (o + (lexL l).w) false = .good T -> P (l.drop (lexL l).w) (o + (lexL l).w) false T -> P l o t T)
 (tok : ∀ l o t U, l ≠ [] -> (lexL l).w ≠ 0 -> (lexL l).kind ≠ 0 -> cutL (l.drop (lexL l).w) (o + (lexL l).w) (opensL (kindL t (lexL l)) (lexL l).text) = .good U -> P (l.drop (lexL l).w) (o + (lexL l).w) (opensL (kindL t (lexL l)) (lexL l).text) U ->
   P l o t (⟨kindL t (lexL l), (lexL l).text, (lexL l).n, o⟩ :: U))
 (l : List UInt8) : ∀ (o : Nat) (t : Bool) (T : List Tok), cutL l o t = .good T -> P l o t T := by
 induction e : l.length using Nat.strongRecOn generalizing l with
 | _ n ih =>
  intro o t T h;rcases cut_cases h with ⟨rfl, rfl⟩ | ⟨hl, hw, hk, h1⟩ | ⟨hl, hw, hk, U, h1, rfl⟩
  · exact nil o t
  · have hp : 0 < l.length := List.length_pos_iff.2 hl;exact skip l o t T hl hw hk h1 (ih _ (by rw [List.length_drop]; omega) _ rfl _ _ _ h1)
  · have hp : 0 < l.length := List.length_pos_iff.2 hl;exact tok l o t U hl hw hk h1 (ih _ (by rw [List.length_drop]; omega) _ rfl _ _ _ h1)
def Alike (x y : Tok) : Prop := x = y \/ (y.kind = 7 /\ x.kind = 6 /\ x.text = y.text /\ x.n = y.n /\ x.pos = y.pos)
def Own (l : List UInt8) (o : Nat) (x : Tok) : Prop := x.kind = 2 \/ x.kind = 5 \/ x.kind = 9 \/ (x.text ≠ [] /\ x.pos + x.text.length <= o + l.length /\ (l.drop (x.pos - o)).take x.text.length = x.text)
theorem cut_many {l : List UInt8} {o : Nat} {t : Bool} {T : List Tok} (h : cutL l o t = .good T) : T.length <= l.length + 1 := by
 have hle := lexL_le;revert h
 refine cut_ind (P := fun l _ _ T => T.length <= l.length + 1) ?_ ?_ ?_ l o t T
 · intro o t; simp
 · intro l o t T hl hw _ _ h;rw [List.length_drop] at h;omega
 · intro l o t U hl hw _ _ h;have := hle l;rw [List.length_drop] at h;rw [List.length_cons];omega
def Pos (k n n' b c : Nat) : Prop := k < n /\ b / 64 = 2 /\ k < n' /\ c = b
def Neg (k n n' b c : Nat) : Prop := ¬ (k < n /\ b / 64 = 2) /\ ¬ (k < n' /\ c / 64 = 2)
def aheadL : Nat -> List UInt8
 | 0 => [32]
 | 1 => [10]
 | 2 => [37, 32, 120, 32, 46, 32, 39, 32, 121, 10]
 | 3 => [47, 42, 32, 97, 10, 32, 39, 42, 47]
 | _ => [47, 42, 42, 47, 9]
end Go.Proofs.YtlbdocdjijhkbaaGreatDoor
