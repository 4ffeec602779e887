import Derived.Test.YtlbdocdjijhkbaaGreatDoorCharM
import Derived.Test.YtlbdocdjijhkbaaGreatDoorNumA
namespace Go.Proofs.YtlbdocdjijhkbaaGreatDoor
open Go.RowKit
def endB (b : UInt8) : Bool := decide (b.toNat = 40 \/ b.toNat = 41 \/ b.toNat = 44)
def Ends (r : List UInt8) : Prop := r = [] \/ ∃ b t, r = b :: t /\ endB b = true
theorem cut_free : ∀ (x y r s : List UInt8), x.all (fun b => !endB b) = true -> y.all (fun b => !endB b) = true -> Ends r -> Ends s -> x ++ r = y ++ s -> x = y /\ r = s
 | [], [], r, s, _, _, _, _, h => ⟨rfl, h⟩
 | [], b :: y, r, s, _, hy, hr, _, h => by
  rcases hr with rfl | ⟨c, t, rfl, hc⟩
  · cases h
  · injection h with h1 h2;subst h1;rw [List.all_cons, hc] at hy; cases hy
 | a :: x, [], r, s, hx, _, _, hs, h => by
  rcases hs with rfl | ⟨c, t, rfl, hc⟩
  · cases h
  · injection h with h1 h2;subst h1;rw [List.all_cons, hc] at hx; cases hx
 | a :: x, b :: y, r, s, hx, hy, hr, hs, h => by
  injection h with h1 h2;rw [List.all_cons, Bool.and_eq_true] at hx hy;obtain ⟨e1, e2⟩ := cut_free x y r s hx.2 hy.2 hr hs h2;exact ⟨by rw [h1, e1], e2⟩
theorem headD_ends {r : List UInt8} (h : Ends r) : r.headD 0 ≠ 39 := by
 rcases h with rfl | ⟨b, t, rfl, hb⟩
 · decide
 · intro e;have e' : b = 39 := e;subst e';revert hb; decide
theorem ascii_rune {l : List UInt8} (hl : l ≠ []) (hv : Lib.validD l = true) (h : (Lib.decodeL l).1 < 128) : ∃ b t, l = b :: t /\ b.toNat = (Lib.decodeL l).1 /\ l.drop (Lib.decodeL l).2 = t := by
 obtain ⟨hb, _⟩ := valid_cons hl hv;obtain ⟨_, he⟩ := encL_decodeL l hl hb;rw [encL_ascii _ (by omega) (by omega)] at he;have hw := Lib.decodeL_width l;cases l with
 | nil => exact absurd rfl hl
 | cons b t =>
  obtain ⟨k, hk⟩ : ∃ k, (Lib.decodeL (b :: t)).2 = k + 1 := by
   have := congrArg List.length he;rw [List.length_take, List.length_singleton] at this;exact ⟨(Lib.decodeL (b :: t)).2 - 1, by omega⟩
  rw [hk, List.take_succ_cons] at he;injection he with h1 h2;refine ⟨b, t, rfl, ?_, ?_⟩
  · have e : ((Lib.decodeL (b :: t)).1 : Int).toNat = (Lib.decodeL (b :: t)).1 := by omega
    rw [e] at h1;have h5 := congrArg UInt8.toNat h1;rw [toNat_of _ (by omega)] at h5;exact h5.symm
  · rw [hk, List.drop_succ_cons];have h3 : (List.take k t).length = 0 := by rw [<- h2]; rfl
    rw [List.length_take] at h3;rcases Nat.eq_zero_or_pos k with rfl | hp
    · rfl
    · have : t.length = 0 := by omega
      rw [List.eq_nil_of_length_eq_zero this]; simp
theorem name_ascii {c : Int} (h : nameR c = true \/ signR c = true) : c < 128 /\ c ≠ 40 /\ c ≠ 41 /\ c ≠ 44 /\ c ≠ 39 := by
 unfold nameR signR cls at h;simp only [decide_eq_true_eq] at h
 refine ⟨?_, ?_, ?_, ?_, ?_⟩
 · apply Classical.byContradiction
   intro hc;rw [if_neg (by omega), if_neg (by omega), if_neg (by omega), if_neg (by omega), if_neg (by omega), if_neg (by omega), if_neg (by omega), if_neg (by omega)] at h;omega
 all_goals
  intro hc;subst hc;revert h; decide
theorem runes_bytes : ∀ (n : Nat) (l : List UInt8), l.length <= n -> Lib.validD l = true -> (∀ c ∈ runesL l, nameR c = true \/ signR c = true) -> runesL l = l.map (fun b => (b.toNat : Int))
 | 0, l, h, _, _ => by rw [List.eq_nil_of_length_eq_zero (Nat.le_zero.1 h)]; rfl
 | n + 1, l, h, hv, hr => by
  by_cases hl : l = []
  · subst hl; rfl
  · have hc := runesL_cons l hl;rw [hc] at hr;have h1 := name_ascii (hr _ (.head _));obtain ⟨b, t, e1, e2, e3⟩ := ascii_rune hl hv (by omega);have hv2 := (valid_cons hl hv).2;rw [e3] at hc hv2 hr;have hlen : t.length <= n := by rw [e1] at h; exact Nat.le_of_succ_le_succ h
    rw [hc, runes_bytes n t hlen hv2 (fun c hc => hr c (.tail _ hc)), <- e2, e1]; rfl
theorem bare_parts {l : List UInt8} (h : bareL l = true) : Lib.validD l = true /\ l ≠ [] /\ (l = [91, 93] \/ l = [123, 125] \/ l = [33] \/ l = [59] \/ (cls ((runesL l).headD 0) = 1 /\ (runesL l).all nameR = true) \/ (runesL l).all signR = true) := by
 unfold bareL at h;simp only [Bool.and_eq_true, Bool.or_eq_true, Bool.not_eq_true', Bool.or_eq_false_iff, decide_eq_true_eq, decide_eq_false_iff_not] at h
 obtain ⟨⟨h1, h2⟩, h3⟩ := h;unfold checkL at h1;rw [Bool.and_eq_true] at h1;refine ⟨h1.2, h2.1.1, ?_⟩;rcases h3 with ((((h3 | h3) | h3) | h3) | h3) | h3
 · exact .inl h3
 · exact .inr (.inl h3)
 · exact .inr (.inr (.inl h3))
 · exact .inr (.inr (.inr (.inl h3)))
 · exact .inr (.inr (.inr (.inr (.inl h3))))
 · exact .inr (.inr (.inr (.inr (.inr h3))))
theorem bare_free {l : List UInt8} (h : bareL l = true) : l.all (fun b => !endB b) = true /\ ∃ b t, l = b :: t /\ b.toNat ≠ 39 /\ b.toNat ≠ 95 /\ isDig b = false /\ (b.toNat = 45 -> ∀ c s, t = c :: s -> isDig c = false) := by
 obtain ⟨hv, hne, h3⟩ := bare_parts h;have go : (∀ c ∈ runesL l, nameR c = true \/ signR c = true) -> runesL l = l.map (fun b => (b.toNat : Int)) := runes_bytes _ l (Nat.le_refl _) hv;have free : (∀ c ∈ runesL l, nameR c = true \/ signR c = true) -> l.all (fun b => !endB b) = true := fun hr => by
  have e := go hr;rw [List.all_eq_true];intro b hb;have hm : (b.toNat : Int) ∈ runesL l := by rw [e]; exact List.mem_map.2 ⟨b, hb, rfl⟩
  have h5 := name_ascii (hr _ hm);unfold endB;rw [Bool.not_eq_true', decide_eq_false_iff_not];omega
 rcases h3 with rfl | rfl | rfl | rfl | ⟨h4, h5⟩ | h5
 · exact ⟨by decide, 91, [93], rfl, by decide, by decide, by decide, fun h => absurd h (by decide)⟩
 · exact ⟨by decide, 123, [125], rfl, by decide, by decide, by decide, fun h => absurd h (by decide)⟩
 · exact ⟨by decide, 33, [], rfl, by decide, by decide, by decide, fun h => absurd h (by decide)⟩
 · exact ⟨by decide, 59, [], rfl, by decide, by decide, by decide, fun h => absurd h (by decide)⟩
 · have hr : ∀ c ∈ runesL l, nameR c = true \/ signR c = true := fun c hc => .inl (List.all_eq_true.1 h5 c hc);refine ⟨free hr, ?_⟩;have e := go hr;cases l with
   | nil => exact absurd rfl hne
   | cons b t =>
    rw [e] at h4;have h6 : cls (b.toNat : Int) = 1 := h4;have h7 : 97 <= b.toNat /\ b.toNat <= 122 := by
     apply Classical.byContradiction
     intro hc;unfold cls at h6;rw [if_neg (by omega)] at h6;repeat' split at h6
     all_goals omega
    exact ⟨b, t, rfl, by omega, by omega, (isDig_not b).2 (by omega), fun h => by omega⟩
 · have hr : ∀ c ∈ runesL l, nameR c = true \/ signR c = true := fun c hc => .inr (List.all_eq_true.1 h5 c hc);refine ⟨free hr, ?_⟩;have e := go hr;have sg : ∀ b : UInt8, signR (b.toNat : Int) = true -> b.toNat ≠ 39 /\ b.toNat ≠ 95 /\ isDig b = false := fun b hb => by
    unfold signR at hb;rw [decide_eq_true_eq] at hb;have h8 : ¬ (65 <= (b.toNat : Int) /\ (b.toNat : Int) <= 90 \/ (b.toNat : Int) = 95) /\ ¬ (48 <= (b.toNat : Int) /\ (b.toNat : Int) <= 57) /\ (b.toNat : Int) ≠ 39 := by
     refine ⟨fun hc => ?_, fun hc => ?_, fun hc => ?_⟩
     · unfold cls at hb; rw [if_neg (by omega), if_pos hc] at hb; omega
     · unfold cls at hb; rw [if_neg (by omega), if_neg (by omega), if_pos hc] at hb; omega
     · rw [hc] at hb; revert hb; decide
    exact ⟨by omega, by omega, (isDig_not b).2 (by omega)⟩
   rw [e] at h5;cases l with
   | nil => exact absurd rfl hne
   | cons b t =>
    rw [List.map_cons, List.all_cons, Bool.and_eq_true] at h5;obtain ⟨s1, s2, s3⟩ := sg b h5.1;refine ⟨b, t, rfl, s1, s2, s3, fun _ c s hcs => ?_⟩;subst hcs;rw [List.map_cons, List.all_cons, Bool.and_eq_true] at h5;exact (sg c h5.2.1).2.2
theorem itoa_free (n : Int) : (Lib.itoa n).all (fun b => !endB b) = true /\ ∃ b t, Lib.itoa n = b :: t /\ (isDig b = true \/ (b = 45 /\ ∃ c s, t = c :: s /\ isDig c = true)) := by
 have hd : ∀ u, (Lib.decDigits u).all (fun b => !endB b) = true := fun u => by
  rw [List.all_eq_true];intro b hb;have := (isDig_iff b).1 (List.all_eq_true.1 (decDigits_all u) b hb);unfold endB;rw [Bool.not_eq_true', decide_eq_false_iff_not];omega
 have hh : ∀ u, ∃ b t, Lib.decDigits u = b :: t /\ isDig b = true := fun u => by
  cases e : Lib.decDigits u with
  | nil => exact absurd e (decDigits_ne u)
  | cons b t => exact ⟨b, t, rfl, List.all_eq_true.1 (decDigits_all u) b (by rw [e]; exact .head _)⟩
 by_cases h : 0 <= n
 · rw [itoa_pos n h];obtain ⟨b, t, e, hb⟩ := hh n.toNat;exact ⟨hd _, b, t, e, .inl hb⟩
 · rw [itoa_neg' n (by omega)];obtain ⟨c, s, e, hc⟩ := hh (-n).toNat;refine ⟨by rw [List.all_cons, hd]; rfl, 45, _, rfl, .inr ⟨rfl, c, s, e, hc⟩⟩
inductive Tk where
 | var (n : Int)
 | num (n : Int)
 | atom (s : List UInt8)
def Tk.ok : Tk -> Prop
 | .var n => In64 n
 | .num n => In64 n
 | .atom s => checkL s = true
def Tk.txt : Tk -> List UInt8
 | .var n => 95 :: Lib.itoa n
 | .num n => Lib.itoa n
 | .atom s => writeL s
def Tk.quoted : Tk -> Bool
 | .atom s => !bareL s
 | _ => false
theorem Tk.plain {k : Tk} (h : k.ok) (hq : k.quoted = false) : k.txt.all (fun b => !endB b) = true /\ ∃ b t, k.txt = b :: t /\ b.toNat ≠ 39 := by
 cases k with
 | var n =>
  refine ⟨?_, 95, _, rfl, by decide⟩;show (95 :: Lib.itoa n).all _ = true
  rw [List.all_cons, (itoa_free n).1]; rfl
 | num n =>
  obtain ⟨h1, b, t, h2, h3⟩ := itoa_free n;refine ⟨h1, b, t, h2, ?_⟩;rcases h3 with h3 | ⟨rfl, _⟩
  · have := (isDig_iff b).1 h3; omega
  · decide
 | atom s =>
  have hb : bareL s = true := by
   have : (!bareL s) = false := hq;simpa using this
  have e : (Tk.atom s).txt = s := by show writeL s = s; unfold writeL; rw [if_pos (show checkL s = true from h), if_pos hb]
  rw [e];obtain ⟨h1, b, t, h2, h3, _⟩ := bare_free hb;exact ⟨h1, b, t, h2, h3⟩
theorem Tk.quote {k : Tk} (h : k.ok) (hq : k.quoted = true) : ∃ s, k = .atom s /\ k.txt = quoteL s /\ Lib.validD s = true := by
 cases k with
 | var n => cases hq
 | num n => cases hq
 | atom s =>
  have hb : bareL s = false := by
   have : (!bareL s) = true := hq;simpa using this
  have h' : checkL s = true := h;refine ⟨s, rfl, ?_, ?_⟩
  · show writeL s = _; unfold writeL; rw [if_pos h', hb]; rfl
  · unfold checkL at h'; rw [Bool.and_eq_true] at h'; exact h'.2
theorem quote_head (s r : List UInt8) : quoteL s ++ r = 39 :: (((runesL s).flatMap escR ++ [39]) ++ r) := rfl
theorem Tk.cut {a b : Tk} (ha : a.ok) (hb : b.ok) {r s : List UInt8} (hr : Ends r) (hs : Ends s) (h : a.txt ++ r = b.txt ++ s) : a.txt = b.txt /\ r = s := by
 cases qa : a.quoted with
 | false =>
  obtain ⟨a1, a2⟩ := a.plain ha qa;cases qb : b.quoted with
  | false => exact cut_free _ _ r s a1 (b.plain hb qb).1 hr hs h
  | true =>
   obtain ⟨x, rfl, e, _⟩ := b.quote hb qb;obtain ⟨c, t, e2, hc⟩ := a2;rw [e2, e, quote_head] at h;injection h with h1 _;rw [h1] at hc; exact absurd rfl hc
 | true =>
  obtain ⟨x, rfl, ex, vx⟩ := a.quote ha qa;cases qb : b.quoted with
  | false =>
   obtain ⟨_, c, t, e2, hc⟩ := b.plain hb qb;rw [e2, ex, quote_head] at h;injection h with h1 _;rw [<- h1] at hc; exact absurd rfl hc
  | true =>
   obtain ⟨y, rfl, ey, vy⟩ := b.quote hb qb;rw [ex, ey] at h ⊢;have e1 := read_quote x r vx (headD_ends hr);have e2 := read_quote y s vy (headD_ends hs);rw [h, e2] at e1;injection e1 with e1;injection e1 with e1 e3;subst e1;exact ⟨rfl, List.append_cancel_left h⟩
end Go.Proofs.YtlbdocdjijhkbaaGreatDoor
