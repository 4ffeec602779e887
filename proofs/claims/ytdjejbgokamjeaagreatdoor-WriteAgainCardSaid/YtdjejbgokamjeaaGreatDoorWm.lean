import Derived.Test.YtdjejbgokamjeaaGreatDoorReadPl
import Derived.Test.YtdjejbgokamjeaaGreatDoorTkM
import Derived.Test.YtdjejbgokamjeaaGreatDoorWriteK
namespace Go.Proofs.YtdjejbgokamjeaaGreatDoor
open Go.RowKit
theorem span_full (P : Int -> Bool) (l : List UInt8) (h : l.all (fun b => P (b.toNat : Int)) = true) : spanL P l = l.length := by
 unfold spanL;induction l with
 | nil => rfl
 | cons b t ih =>
  rw [List.all_cons, Bool.and_eq_true] at h;rw [List.takeWhile_cons, if_pos h.1, List.length_cons, List.length_cons, ih h.2]
theorem span_stop (P : Int -> Bool) (l : List UInt8) (c : UInt8) (r : List UInt8) (h : l.all (fun b => P (b.toNat : Int)) = true) (hc : P (c.toNat : Int) = false) : spanL P (l ++ c :: r) = l.length := by
 unfold spanL;induction l with
 | nil => rw [List.nil_append, List.takeWhile_cons, if_neg (by rw [hc]; decide)]
 | cons b t ih =>
  rw [List.all_cons, Bool.and_eq_true] at h;rw [List.cons_append, List.takeWhile_cons, if_pos h.1, List.length_cons, List.length_cons, ih h.2]
theorem dig_cls (b : UInt8) (h : isDig b = true) : cls (b.toNat : Int) = 3 := by
 have h2 := (isDig_iff b).1 h;generalize b.toNat = m at *;have : m = 48 \/ m = 49 \/ m = 50 \/ m = 51 \/ m = 52 \/ m = 53 \/ m = 54 \/ m = 55 \/ m = 56 \/ m = 57 := by omega
 rcases this with rfl | rfl | rfl | rfl | rfl | rfl | rfl | rfl | rfl | rfl <;> decide
def numsL : List Int -> List UInt8
 | [] => []
 | [n] => Lib.itoa n
 | n :: l => Lib.itoa n ++ 44 :: numsL l
def numT : Nat -> List Int -> List Tok
 | _, [] => []
 | o, [n] => [⟨5, [], n, o⟩]
 | o, n :: l => ⟨5, [], n, o⟩ :: ⟨6, [44], 0, o + (Lib.itoa n).length⟩ :: numT (o + (Lib.itoa n).length + 1) l
def numTm (l : List Int) : List Tm := l.map intT
def EndE (t : Tok) : Prop := t.kind = 6 /\ (t.text = [44] \/ t.text = [93] \/ t.text = [124])
theorem infix_end {t : Tok} (h : EndE t) (r : R) (hr : t.infix = some r) : r.p = 1000 := by
 obtain ⟨hk, ht⟩ := h;have ha : t.isAtom = false := by unfold Tok.isAtom; rw [hk]; rfl
 unfold Tok.infix Tok.isP at hr;rw [ha, hk] at hr;rcases ht with ht | ht | ht <;> rw [ht] at hr
 · have h0 : (opR [44] 3).map (fun r => r.p) = some 1000 := by kernel_rfl
   rw [if_pos (by decide)] at hr;rw [hr] at h0;exact Option.some.inj h0
 · cases hr
 · cases hr
theorem query_end {T : List Tok} {t : Tm} {ts : List Tok} {ns : Nms} (h : termR T.length 1200 T [] = .ok t ts ns) (h9 : (fstT ts).kind = 9) (hd : t.deep <= 60) : queryT T = .ok (t, ns) := by
 unfold queryT wholeR;rw [h];dsimp only;rw [if_neg (fun c => by cases c.2), if_neg (by omega), if_neg (by rw [h9]; decide)];dsimp only;rw [if_pos h9]
theorem span_end (P : Int -> Bool) (l R : List UInt8) (h : l.all (fun b => P (b.toNat : Int)) = true) (hc : ∀ c r, R = c :: r -> P (c.toNat : Int) = false) : spanL P (l ++ R) = l.length := by
 cases R with
 | nil => rw [List.append_nil]; exact span_full P l h
 | cons c r => exact span_stop P l c r h (hc c r rfl)
def lastS (l : List UInt8) : Bool := match l.getLast? with
 | some b => signR (b.toNat : Int)
 | none => false
theorem lastS_cons (b : UInt8) (l : List UInt8) (h : l ≠ []) : lastS (b :: l) = lastS l := by
 unfold lastS;cases l with
 | nil => exact absurd rfl h
 | cons c t => rw [List.getLast?_cons_cons]
theorem lastS_app (a l : List UInt8) (h : l ≠ []) : lastS (a ++ l) = lastS l := by
 induction a with
 | nil => rfl
 | cons b a ih => rw [List.cons_append, lastS_cons _ _ (by simp [h]), ih]
theorem lastS_all (l : List UInt8) (hne : l ≠ []) (h : l.all (fun b => signR (b.toNat : Int)) = true) : lastS l = true := by
 unfold lastS;rw [List.getLast?_eq_some_getLast hne];exact List.all_eq_true.1 h _ (List.getLast_mem hne)
def EndW (l R : List UInt8) : Prop := ∀ c r, R = c :: r -> nameR (c.toNat : Int) = false /\ c ≠ 39 /\ (signR (c.toNat : Int) = true -> lastS l = false)
theorem EndW.head {l R : List UInt8} (h : EndW l R) : R.headD 0 ≠ 39 := by
 cases R with
 | nil => decide
 | cons c r => exact (h c r rfl).2.1
theorem lex_quote (s R : List UInt8) (hc : checkL s = true) (hR : R.headD 0 ≠ 39) : lexL (quoteL s ++ R) = ⟨2, s, 0, (quoteL s).length⟩ := by
 have hv : Lib.validD s = true := by unfold checkL at hc; rw [Bool.and_eq_true] at hc; exact hc.2
 have hr := read_quote s R hv hR;have e2 : quoteL s = 39 :: ((runesL s).flatMap escR ++ [39]) := rfl;rw [e2] at hr ⊢;rw [List.cons_append] at hr ⊢;unfold lexL;dsimp only;rw [if_neg (by decide), if_neg (by decide), if_neg (by decide), if_neg (by decide), if_neg (by decide), if_pos (by decide)];unfold quotedL;rw [hr];unfold namedL;dsimp only;rw [if_pos hc]
theorem quote_ne (s : List UInt8) : quoteL s ≠ [] := by unfold quoteL; simp
theorem lex_atom (s : List UInt8) (hc : checkL s = true) (h1 : s ≠ [91, 93]) (h2 : s ≠ [123, 125]) :
 writeL s ≠ [] /\ ∃ k : Int, (k = 1 \/ k = 2 \/ k = 3) /\ ∀ R : List UInt8, EndW (writeL s) R -> lexL (writeL s ++ R) = ⟨k, s, 0, (writeL s).length⟩ := by
 have hv : Lib.validD s = true := by unfold checkL at hc; rw [Bool.and_eq_true] at hc; exact hc.2
 cases hb : bareL s with
 | false =>
  have e : writeL s = quoteL s := by unfold writeL; rw [if_pos hc, hb]; rfl
  rw [e];exact ⟨quote_ne s, 2, .inr (.inl rfl), fun R hR => lex_quote s R hc hR.head⟩
 | true =>
  have e : writeL s = s := by unfold writeL; rw [if_pos hc, if_pos hb]
  rw [e];obtain ⟨_, hne, h3⟩ := bare_parts hb;refine ⟨hne, ?_⟩;have go : (∀ c ∈ runesL s, nameR c = true \/ signR c = true) -> runesL s = s.map (fun b => (b.toNat : Int)) := runes_bytes _ s (Nat.le_refl _) hv;rcases h3 with h3 | h3 | rfl | rfl | ⟨h4, h5⟩ | h5
  · exact absurd h3 h1
  · exact absurd h3 h2
  · exact ⟨1, .inl rfl, fun _ _ => rfl⟩
  · exact ⟨1, .inl rfl, fun _ _ => rfl⟩
  · have e2 := go (fun c hc => .inl (List.all_eq_true.1 h5 c hc));rw [e2] at h4 h5;have h6 : s.all (fun b => nameR (b.toNat : Int)) = true := by rw [List.all_map] at h5; exact h5
    refine ⟨1, .inl rfl, fun R hR => ?_⟩;have h7 := span_end nameR s R h6 (fun c r hcr => (hR c r hcr).1);cases s with
    | nil => exact absurd rfl hne
    | cons b t =>
     have h8 : cls (b.toNat : Int) = 1 := h4;have e3 : lexL ((b :: t) ++ R) = namedL (wordL 1 ((b :: t) ++ R)) := by
      rw [List.cons_append];unfold lexL;dsimp only;rw [h8, if_neg (by decide), if_pos rfl]
     rw [e3];unfold wordL;rw [h7, List.take_append_of_le_length (Nat.le_refl _), List.take_length];unfold namedL;dsimp only;rw [if_pos hc]
  · have e2 := go (fun c hc => .inr (List.all_eq_true.1 h5 c hc));rw [e2] at h5;have h6 : s.all (fun b => signR (b.toNat : Int)) = true := by rw [List.all_map] at h5; exact h5
    have hb2 := hb;unfold bareL at hb2;simp only [Bool.and_eq_true, Bool.or_eq_true, Bool.not_eq_true', Bool.or_eq_false_iff, decide_eq_true_eq, decide_eq_false_iff_not] at hb2
    obtain ⟨⟨_, ⟨_, n46⟩, n2⟩, _⟩ := hb2;refine ⟨3, .inr (.inr rfl), fun R hR => ?_⟩;have hsg : ∀ c r, R = c :: r -> signR (c.toNat : Int) = false := fun c r hcr => by
     cases hs : signR (c.toNat : Int) with
     | false => rfl
     | true => have := (hR c r hcr).2.2 hs; rw [lastS_all s hne h6] at this; cases this
    have h7 := span_end signR s R h6 hsg;cases s with
    | nil => exact absurd rfl hne
    | cons b t =>
     have h8 : cls (b.toNat : Int) = 4 := by
      rw [List.all_cons, Bool.and_eq_true] at h6;have := h6.1;unfold signR at this;exact of_decide_eq_true this
     have n3 : ¬ ((b :: t) ++ R).take 2 = [47, 42] := by
      cases t with
      | nil =>
       cases R with
       | nil => simp
       | cons c r =>
        intro h;have hcc : c = 42 := by simpa using (List.cons.inj (List.cons.inj h).2).1
        have hs := hsg c r rfl;rw [hcc] at hs;exact absurd hs (by decide)
      | cons d u => exact n2
     have e3 : lexL ((b :: t) ++ R) = namedL (signsL ((b :: t) ++ R)) := by
      rw [List.cons_append] at n3 ⊢;unfold lexL;dsimp only;rw [h8, if_neg (by decide), if_neg (by decide), if_neg (by decide), if_neg (by decide), if_pos rfl, if_neg n3]
     rw [e3];unfold signsL;rw [h7, List.take_append_of_le_length (Nat.le_refl _), List.take_length, if_neg (fun h => n46 h.1)];unfold namedL;dsimp only;rw [if_pos hc]
def EndR (l R : List UInt8) : Prop := EndW l R /\ R.headD 0 ≠ 40
theorem EndR.of {l m R : List UInt8} (h : EndR (m ++ l) R) (hl : l ≠ []) : EndR l R := ⟨fun c r hc => ⟨(h.1 c r hc).1, (h.1 c r hc).2.1, fun hs => by have := (h.1 c r hc).2.2 hs; rw [lastS_app m l hl] at this; exact this⟩, h.2⟩
def EndP (c : UInt8) : Prop := c = 41 \/ c = 44 \/ c = 93 \/ c = 124 \/ c = 125 \/ c = 32
theorem EndP.r {c : UInt8} (h : EndP c) (l r : List UInt8) : EndR l (c :: r) := by
 have key : nameR (c.toNat : Int) = false /\ c ≠ 39 /\ signR (c.toNat : Int) = false /\ c ≠ 40 := by
  rcases h with rfl | rfl | rfl | rfl | rfl | rfl <;> exact ⟨by decide +kernel, by decide, by decide +kernel, by decide⟩
 refine ⟨fun d s hd => ?_, key.2.2.2⟩;obtain ⟨rfl, rfl⟩ := List.cons.inj hd;exact ⟨key.1, key.2.1, fun hs => by rw [key.2.2.1] at hs; cases hs⟩
theorem cut_flag (R : List UInt8) (hR : R.headD 0 ≠ 40) (o : Nat) (g : Bool) : cutL R o g = cutL R o false := by
 cases R with
 | nil => rw [cutL_nil, cutL_nil]
 | cons c r =>
 have hc : c ≠ 40 := hR;cases g with
 | false => rfl
 | true =>
  have e1 := cutL_step (c :: r) o true (by simp);have e2 := cutL_step (c :: r) o false (by simp);have hk : (lexL (c :: r)).w ≠ 0 -> (lexL (c :: r)).kind ≠ 0 -> kindL true (lexL (c :: r)) = kindL false (lexL (c :: r)) := fun hw h0 => by
   have hno : ¬ (true = true /\ (lexL (c :: r)).text = [40] /\ (lexL (c :: r)).kind = 6) := by
    rintro ⟨_, ht, h6⟩;obtain ⟨h1, _⟩ := lex_own (c :: r) h0 (by rw [h6]; decide) (by rw [h6]; decide);rw [ht] at h1;obtain ⟨m, hm⟩ : ∃ m, (lexL (c :: r)).w = m + 1 := ⟨(lexL (c :: r)).w - 1, by omega⟩;rw [hm, List.take_succ_cons] at h1;exact hc (List.cons.inj h1).1.symm
   unfold kindL;rw [if_neg hno, if_neg (fun h => by cases h.1)]
  by_cases hw : (lexL (c :: r)).w = 0
  · rw [if_pos hw] at e1 e2;rw [e1, e2]
  rw [if_neg hw] at e1 e2;by_cases h0 : (lexL (c :: r)).kind = 0
  · rw [if_pos h0] at e1 e2;rw [e1, e2]
  · rw [if_neg h0] at e1 e2;rw [e1, e2, hk hw h0]
def Cuts (l : List UInt8) (f : Nat -> List Tok) : Prop := l ≠ [] /\ ∀ R : List UInt8, EndR l R -> ∀ o : Nat, cutL (l ++ R) o false = (cutL R (o + l.length) false).pre (f o)
theorem Cuts.at {l : List UInt8} {f : Nat -> List Tok} (h : Cuts l f) {c : UInt8} (hc : EndP c) (r : List UInt8) (o : Nat) : cutL (l ++ c :: r) o false = (cutL (c :: r) (o + l.length) false).pre (f o) := h.2 _ (hc.r l r) o
theorem cut_tok {l s : List UInt8} {k n : Int} (R : List UInt8) (hl : l ≠ []) (hk : k ≠ 0) (h6 : k ≠ 6) (hx : lexL (l ++ R) = ⟨k, s, n, l.length⟩) (o : Nat) (g : Bool) : cutL (l ++ R) o g = (cutL R (o + l.length) (opensL k s)).pre [⟨k, s, n, o⟩] := by
 have hp : l.length ≠ 0 := fun e => hl (List.eq_nil_of_length_eq_zero e);have ek : kindL g ⟨k, s, n, l.length⟩ = k := by unfold kindL; rw [if_neg (fun h => h6 h.2.2)]
 rw [cutL_step _ _ _ (by simp [hl]), hx];dsimp only;rw [if_neg hp, if_neg hk, ek, List.drop_append_of_le_length (Nat.le_refl _), List.drop_length, List.nil_append]
theorem Cuts.one {l s : List UInt8} {k n : Int} (hl : l ≠ []) (hk : k ≠ 0) (h6 : k ≠ 6) (hx : ∀ R : List UInt8, EndR l R -> lexL (l ++ R) = ⟨k, s, n, l.length⟩) : Cuts l (fun o => [⟨k, s, n, o⟩]) := ⟨hl, fun R hR o => by
 rw [cut_tok R hl hk h6 (hx R hR), cut_flag R hR.2]⟩
def IsPu (b : UInt8) : Prop := b = 40 \/ b = 41 \/ b = 44 \/ b = 91 \/ b = 93 \/ b = 123 \/ b = 124 \/ b = 125
theorem cut_pu (b : UInt8) (r : List UInt8) (hb : IsPu b) (o : Nat) : cutL (b :: r) o false = (cutL r (o + 1) (opensL 6 [b])).pre [⟨6, [b], 0, o⟩] := by
 rw [cutL_step _ _ _ (by simp)];have hx : lexL (b :: r) = ⟨6, [b], 0, 1⟩ := by rcases hb with rfl | rfl | rfl | rfl | rfl | rfl | rfl | rfl <;> rfl
 rw [hx];rfl
theorem cut_open (r : List UInt8) (o : Nat) : cutL (40 :: r) o true = (cutL r (o + 1) false).pre [⟨7, [40], 0, o⟩] := by
 rw [cutL_step _ _ _ (by simp)];have hx : lexL (40 :: r) = ⟨6, [40], 0, 1⟩ := rfl;rw [hx];rfl
theorem cut_pu' (b : UInt8) (r : List UInt8) (hb : b = 40 \/ b = 41 \/ b = 44 \/ b = 91 \/ b = 123 \/ b = 124) (o : Nat) : cutL (b :: r) o false = (cutL r (o + 1) false).pre [⟨6, [b], 0, o⟩] := by
 rw [cut_pu b r (by unfold IsPu; rcases hb with rfl | rfl | rfl | rfl | rfl | rfl <;> simp)];rw [show opensL 6 [b] = false from by rcases hb with rfl | rfl | rfl | rfl | rfl | rfl <;> decide]
theorem cut_shut (b : UInt8) (R : List UInt8) (hb : b = 41 \/ b = 93 \/ b = 125) (hR : R.headD 0 ≠ 40) (o : Nat) : cutL (b :: R) o false = (cutL R (o + 1) false).pre [⟨6, [b], 0, o⟩] := by
 rw [cut_pu b R (by unfold IsPu; rcases hb with rfl | rfl | rfl <;> simp), cut_flag R hR]
theorem close_P {b : UInt8} (hb : b = 41 \/ b = 93 \/ b = 125) : EndP b := by unfold EndP; rcases hb with rfl | rfl | rfl <;> simp
theorem Cuts.between {l : List UInt8} {f : Nat -> List Tok} {a b : UInt8} (h : Cuts l f) (ha : a = 40 \/ a = 91 \/ a = 123) (hb : b = 41 \/ b = 93 \/ b = 125) : Cuts (a :: (l ++ [b])) (fun o => ⟨6, [a], 0, o⟩ :: (f (o + 1) ++ [⟨6, [b], 0, o + 1 + l.length⟩])) := ⟨by simp, fun R hR o => by
 rw [List.cons_append, List.append_assoc, cut_pu' a _ (by rcases ha with rfl | rfl | rfl <;> simp)];show (cutL (l ++ b :: R) (o + 1) false).pre _ = _
 rw [h.at (close_P hb) R, cut_shut b R hb hR.2, pre_pre, pre_pre, List.length_cons, List.length_append, List.length_singleton, show o + (l.length + 1 + 1) = o + 1 + l.length + 1 from by omega];simp⟩
theorem Cuts.comma {l m : List UInt8} {f h : Nat -> List Tok} (h1 : Cuts l f) (h2 : Cuts m h) : Cuts (l ++ 44 :: m) (fun o => f o ++ ⟨6, [44], 0, o + l.length⟩ :: h (o + l.length + 1)) := ⟨by simp, fun R hR o => by
 have hR2 : EndR m R := EndR.of (m := l ++ [44]) (by rw [List.append_assoc]; exact hR) h2.1;rw [List.append_assoc, List.cons_append, h1.at (by unfold EndP; simp) (m ++ R), cut_pu' 44 _ (by simp), h2.2 R hR2, pre_pre, pre_pre, List.length_append, List.length_cons, show o + (l.length + (m.length + 1)) = o + l.length + 1 + m.length from by omega];simp⟩
theorem Cuts.word {l m s : List UInt8} {f h : Nat -> List Tok} (h1 : Cuts l f) (h2 : Cuts m h) (hc : checkL s = true) (hs1 : s ≠ [91, 93]) (hs2 : s ≠ [123, 125]) : ∃ k : Int, (k = 1 \/ k = 2 \/ k = 3) /\ Cuts (l ++ (32 :: (writeL s ++ [32]) ++ m)) (fun o => f o ++ ⟨k, s, 0, o + l.length + 1⟩ :: h (o + l.length + 1 + (writeL s).length + 1)) := by
 obtain ⟨hw, k, hk, hx⟩ := lex_atom s hc hs1 hs2;refine ⟨k, hk, by simp, fun R hR o => ?_⟩;have hR2 : EndR m R := EndR.of (m := l ++ (32 :: (writeL s ++ [32]))) (by rw [List.append_assoc]; exact hR) h2.1;have e : (l ++ (32 :: (writeL s ++ [32]) ++ m)) ++ R = l ++ 32 :: (writeL s ++ 32 :: (m ++ R)) := by simp
 have h32 : EndP 32 := by unfold EndP; simp
 rw [e, h1.at h32, cut_blank 32 _ (by decide), cut_tok _ hw (by rcases hk with rfl | rfl | rfl <;> decide) (by rcases hk with rfl | rfl | rfl <;> decide) (hx (32 :: (m ++ R)) (h32.r _ _).1), cut_blank 32 _ (by decide), h2.2 R hR2, pre_pre, pre_pre];have e2 : o + l.length + 1 + (writeL s).length + 1 + m.length = o + (l ++ (32 :: (writeL s ++ [32]) ++ m)).length := by simp; omega
 rw [e2];simp
theorem Cuts.atom (s : List UInt8) (hc : checkL s = true) (hs1 : s ≠ [91, 93]) (hs2 : s ≠ [123, 125]) : ∃ k : Int, (k = 1 \/ k = 2 \/ k = 3) /\ Cuts (writeL s) (fun o => [⟨k, s, 0, o⟩]) := by
 obtain ⟨hw, k, hk, hx⟩ := lex_atom s hc hs1 hs2;exact ⟨k, hk, .one hw (by rcases hk with rfl | rfl | rfl <;> decide) (by rcases hk with rfl | rfl | rfl <;> decide) (fun R hR => hx R hR.1)⟩
theorem Cuts.two {a b : UInt8} (h : (a = 91 /\ b = 93) \/ (a = 123 /\ b = 125)) : Cuts [a, b] (fun o => [⟨6, [a], 0, o⟩, ⟨6, [b], 0, o + 1⟩]) := ⟨by simp, fun R hR o => by
 show cutL (a :: b :: R) o false = _
 rw [cut_pu' a _ (by rcases h with ⟨rfl, _⟩ | ⟨rfl, _⟩ <;> simp), cut_shut b R (by rcases h with ⟨_, rfl⟩ | ⟨_, rfl⟩ <;> simp) hR.2, pre_pre];rfl⟩
theorem cut_fn (s : List UInt8) (hc : checkL s = true) : fnK s ≠ [] /\ ∃ k : Int, (k = 1 \/ k = 2 \/ k = 3) /\ ∀ (r : List UInt8) (o : Nat), cutL (fnK s ++ 40 :: r) o false = (cutL r (o + (fnK s).length + 1) false).pre [⟨k, s, 0, o⟩, ⟨7, [40], 0, o + (fnK s).length⟩] := by
 have hx : fnK s ≠ [] /\ ∃ k : Int, (k = 1 \/ k = 2 \/ k = 3) /\ ∀ r : List UInt8, lexL (fnK s ++ 40 :: r) = ⟨k, s, 0, (fnK s).length⟩ := by
  unfold fnK;by_cases h : s = [91, 93] \/ s = [123, 125]
  · rw [if_pos h];have e : 39 :: (s ++ [39]) = quoteL s := by rcases h with rfl | rfl <;> decide +kernel
    rw [e];exact ⟨quote_ne s, 2, .inr (.inl rfl), fun r => lex_quote s _ hc (by show (40 : UInt8) ≠ 39; decide)⟩
  · rw [if_neg h];obtain ⟨hw, k, hk, hx⟩ := lex_atom s hc (fun e => h (.inl e)) (fun e => h (.inr e));refine ⟨hw, k, hk, fun r => hx _ ?_⟩;intro c u hcu;obtain ⟨rfl, rfl⟩ := List.cons.inj hcu;exact ⟨by decide +kernel, by decide, fun hs => absurd hs (by decide +kernel)⟩
 obtain ⟨h0, k, hk, hx⟩ := hx;refine ⟨h0, k, hk, fun r o => ?_⟩;have hop : opensL k s = true := by rcases hk with rfl | rfl | rfl <;> rfl
 rw [cut_tok _ h0 (by rcases hk with rfl | rfl | rfl <;> decide) (by rcases hk with rfl | rfl | rfl <;> decide) (hx r), hop, cut_open, pre_pre];rfl
theorem dig_name (c : Int) (h : nameR c = false) : digR c = false := by
 unfold nameR at h;unfold digR;simp only [decide_eq_false_iff_not, not_or] at h ⊢
 exact h.2.2
theorem lex_digits (D : List UInt8) (v : Int) (hd : D.all isDig = true) (hne : D ≠ []) (hv : readV (45 :: D) = v) (he : readE (45 :: D) = 0) (R : List UInt8) (hR : ∀ c r, R = c :: r -> nameR (c.toNat : Int) = false /\ c ≠ 39) : lexL (D ++ R) = ⟨5, [], wrap64 (-v), D.length⟩ := by
 have hsp : spanL digR (D ++ R) = D.length := span_end digR _ R (List.all_eq_true.2 (fun b hb => by unfold digR; exact decide_eq_true (dig_cls b (List.all_eq_true.1 hd b hb)))) (fun c r h => dig_name _ (hR c r h).1);cases D with
 | nil => exact absurd rfl hne
 | cons b t =>
  rw [List.all_cons, Bool.and_eq_true] at hd;have h3 := dig_cls b hd.1;rw [List.cons_append] at hsp ⊢;unfold lexL;dsimp only;rw [h3, if_neg (by decide), if_neg (by decide), if_neg (by decide), if_pos rfl];have hrn : runeNum (b :: (t ++ R)) = (0, 0) := by
   unfold runeNum;rw [if_neg];intro h;cases t with
   | nil =>
    cases R with
    | nil => cases h
    | cons c r => exact (hR c r rfl).2 (by simpa using (List.cons.inj (List.cons.inj h).2).1)
   | cons d u =>
    have h4 : d = 39 := (List.cons.inj (List.cons.inj h).2).1;rw [List.all_cons, Bool.and_eq_true] at hd;rw [h4] at hd;exact absurd hd.2.1 (by decide)
  unfold numberL;rw [hrn, if_neg (by decide), hsp];have htake : (b :: (t ++ R)).take (b :: t).length = b :: t := by
   rw [<- List.cons_append, List.take_append_of_le_length (Nat.le_refl _), List.take_length]
  rw [htake, hv, he, if_pos rfl]
theorem Cuts.digits (D : List UInt8) (v : Int) (hd : D.all isDig = true) (hne : D ≠ []) (hv : readV (45 :: D) = v) (he : readE (45 :: D) = 0) : Cuts D (fun o => [⟨5, [], wrap64 (-v), o⟩]) :=
 .one hne (by decide) (by decide) (fun R hR => lex_digits D v hd hne hv he R (fun c r h => ⟨(hR.1 c r h).1, (hR.1 c r h).2.1⟩))
theorem Cuts.minus (D : List UInt8) (v : Int) (hd : D.all isDig = true) (hne : D ≠ []) (hv : readV (45 :: D) = v) (he : readE (45 :: D) = 0) : Cuts (45 :: D) (fun o => [⟨3, [45], 0, o⟩, ⟨5, [], wrap64 (-v), o + 1⟩]) := ⟨by simp, fun R hR o => by
 have hR2 : EndR D R := EndR.of (m := [45]) hR hne;have hx : lexL ([45] ++ (D ++ R)) = ⟨3, [45], 0, ([45] : List UInt8).length⟩ := by
  cases D with
  | nil => exact absurd rfl hne
  | cons b t =>
   rw [List.all_cons, Bool.and_eq_true] at hd;have h3 := dig_cls b hd.1;have hb : signR (b.toNat : Int) = false := by unfold signR; rw [h3]; decide
   have h7 := span_stop signR [45] b (t ++ R) (by decide) hb;have n3 : ¬ ([45] ++ (b :: t ++ R)).take 2 = [47, 42] := fun h => absurd (List.cons.inj h).1 (by decide);rw [List.cons_append] at n3 ⊢;have e3 : lexL (45 :: ([] ++ (b :: t ++ R))) = namedL (signsL (45 :: ([] ++ (b :: t ++ R)))) := by
    unfold lexL;dsimp only;rw [show cls ((45 : UInt8).toNat : Int) = 4 from by decide, if_neg (by decide), if_neg (by decide), if_neg (by decide), if_neg (by decide), if_pos rfl, if_neg n3]
   rw [e3];unfold signsL;rw [show 45 :: ([] ++ (b :: t ++ R)) = [45] ++ b :: (t ++ R) from rfl, h7, List.take_append_of_le_length (Nat.le_refl _), List.take_length, if_neg (fun h => absurd h.1 (by decide))];unfold namedL;dsimp only;rw [if_pos (by decide +kernel)]
 have hc := cut_tok (D ++ R) (by simp) (by decide) (by decide) hx o false;rw [List.cons_append];show cutL ([45] ++ (D ++ R)) o false = _
 rw [hc, cut_flag (D ++ R) ?_, (Cuts.digits D v hd hne hv he).2 R hR2, pre_pre]
 · rw [show o + ([45] : List UInt8).length + D.length = o + (45 :: D).length from by simp; omega];rfl
 · cases D with
   | nil => exact absurd rfl hne
   | cons b t =>
    show b ≠ 40
    rw [List.all_cons, Bool.and_eq_true] at hd;intro e;rw [e] at hd;exact absurd hd.1 (by decide)⟩
theorem lex_var (D : List UInt8) (hd : D.all isDig = true) (R : List UInt8) (hR : ∀ c r, R = c :: r -> nameR (c.toNat : Int) = false) : lexL ((95 :: D) ++ R) = ⟨4, 95 :: D, 0, (95 :: D).length⟩ := by
 have hall : (95 :: D).all (fun b => nameR (b.toNat : Int)) = true := by
  rw [List.all_cons, Bool.and_eq_true];refine ⟨by decide +kernel, List.all_eq_true.2 (fun b hb => ?_)⟩;unfold nameR;rw [dig_cls b (List.all_eq_true.1 hd b hb)];decide
 have hsp := span_end nameR (95 :: D) R hall hR;have e : lexL ((95 :: D) ++ R) = wordL 4 ((95 :: D) ++ R) := by
  rw [List.cons_append];unfold lexL;dsimp only;rw [show cls ((95 : UInt8).toNat : Int) = 2 from by decide, if_neg (by decide), if_neg (by decide), if_pos rfl]
 rw [e];unfold wordL;rw [hsp, List.take_append_of_le_length (Nat.le_refl _), List.take_length]
theorem Cuts.var (D : List UInt8) (hd : D.all isDig = true) : Cuts (95 :: D) (fun o => [⟨4, 95 :: D, 0, o⟩]) :=
 .one (by simp) (by decide) (by decide) (fun R hR => lex_var D hd R (fun c r h => (hR.1 c r h).1))
theorem opR_mem {s : List UInt8} {n : Int} {r : R} (h : opR s n = some r) : r ∈ tabR /\ (r.k.size : Int) = n /\ r.n.toList = s := by
 unfold opR findR at h;have h1 := List.mem_of_find?_eq_some h;have h2 := List.find?_some h;unfold R.fits at h2;rw [Bool.and_eq_true, beq_iff_eq, beq_iff_eq] at h2;exact ⟨h1, h2.2, by rw [h2.1, ByteArray.toList_eq]⟩
def besideB (o q : R) : Bool := !(o.k.size == 3) || !(q.k.size == 3) || !(decide (o.p <= leftOf q.k q.p)) || decide (rightOf o.k o.p < q.p)
theorem beside_all : (tabR.all fun o => tabR.all fun q => besideB o q) = true := by decide +kernel
theorem beside {o q : R} (ho : o ∈ tabR) (hq : q ∈ tabR) (h3 : o.k.size = 3) (h4 : q.k.size = 3) (h : o.p <= leftOf q.k q.p) : rightOf o.k o.p < q.p := by
 have h1 := List.all_eq_true.1 (List.all_eq_true.1 beside_all o ho) q hq;unfold besideB at h1;rw [h3, h4, decide_eq_true h] at h1;simpa using h1
def boundsB (o : R) : Bool := !(o.k.size == 3) || (decide (0 < o.p) && decide (o.p <= 1200) && decide (leftOf o.k o.p <= o.p) && decide (rightOf o.k o.p <= o.p) && decide (0 <= leftOf o.k o.p) && decide (0 <= rightOf o.k o.p))
theorem bounds_all : (tabR.all fun o => boundsB o) = true := by decide +kernel
theorem op_bounds {o : R} (ho : o ∈ tabR) (h3 : o.k.size = 3) : 0 < o.p /\ o.p <= 1200 /\ leftOf o.k o.p <= o.p /\ rightOf o.k o.p <= o.p /\ 0 <= leftOf o.k o.p /\ 0 <= rightOf o.k o.p := by
 have h1 := List.all_eq_true.1 bounds_all o ho;unfold boundsB at h1;rw [h3] at h1;simpa [and_assoc] using h1
def varName (n : Int) : List UInt8 := 95 :: Lib.itoa n
def namesPut (ns : Nms) (s : List UInt8) : Nms := if s ∈ ns then ns else ns ++ [s]
mutual
def Tm.nmsOf : Tm -> Nms -> Nms
 | .mk k _ n l, ns => if k = 1 then namesPut ns (varName n) else Tm.nmssOf l ns
def Tm.nmssOf : List Tm -> Nms -> Nms
 | [], ns => ns
 | t :: l, ns => Tm.nmssOf l (t.nmsOf ns)
end
mutual
def Tm.byNms : Tm -> Nms -> Tm
 | .mk k s n l, ns => if k = 1 then varT (ns.idxOf (varName n)) else .mk k s n (Tm.bysNms l ns)
def Tm.bysNms : List Tm -> Nms -> List Tm
 | [], _ => []
 | t :: l, ns => t.byNms ns :: Tm.bysNms l ns
end
theorem Tm.nmssOf_cons (t : Tm) (l : List Tm) (ns : Nms) : Tm.nmssOf (t :: l) ns = Tm.nmssOf l (t.nmsOf ns) := rfl
theorem Tm.bys_map (l : List Tm) (ns : Nms) : Tm.bysNms l ns = l.map (fun t => t.byNms ns) := by
 induction l with
 | nil => rfl
 | cons t l ih => show t.byNms ns :: Tm.bysNms l ns = _; rw [ih]; rfl
theorem Tm.nmsOf_eq (t : Tm) (ns : Nms) : t.nmsOf ns = if t.kind = 1 then namesPut ns (varName t.n) else Tm.nmssOf t.args ns := by cases t; rfl
theorem Tm.byNms_eq (t : Tm) (ns : Nms) : t.byNms ns = if t.kind = 1 then varT (ns.idxOf (varName t.n)) else .mk t.kind t.name t.n (t.args.map (fun u => u.byNms ns)) := by
 cases t
 rename_i k s n l
 show (if k = 1 then varT (ns.idxOf (varName n)) else Tm.mk k s n (Tm.bysNms l ns)) = _
 rw [Tm.bys_map];rfl
theorem put_pre (ns : Nms) (s : List UInt8) : ns <+: namesPut ns s := by
 unfold namesPut;split
 · exact List.prefix_refl _
 · exact List.prefix_append _ _
theorem nms_pre' (m : Nat) : ∀ (l : List Tm) (ns : Nms), Tm.sizes l <= m -> ns <+: Tm.nmssOf l ns := by
 induction m with
 | zero =>
  intro l ns h;cases l with
  | nil => exact List.prefix_refl _
  | cons t l => rw [Tm.sizes_cons] at h; have := t.size_pos; omega
 | succ m ih =>
  intro l ns h;cases l with
  | nil => exact List.prefix_refl _
  | cons t l =>
   rw [Tm.sizes_cons] at h;have h1 := t.size_eq;have h2 : ns <+: t.nmsOf ns := by
    rw [t.nmsOf_eq];split
    · exact put_pre _ _
    · exact ih t.args ns (by omega)
   exact h2.trans (ih l _ (by have := t.size_pos; omega))
theorem nmss_pre (l : List Tm) (ns : Nms) : ns <+: Tm.nmssOf l ns := nms_pre' _ l ns (Nat.le_refl _)
theorem nms_pre (t : Tm) (ns : Nms) : ns <+: t.nmsOf ns := nmss_pre [t] ns
def bm (W : Rdr) (p : Int) (ts : List Tok) (ns : Nms) : Rd Tm := (beginR W p ts ns).bind fun x ts' ns' => moreR W p ts'.length x.1 x.2 ts' ns'
theorem term_bm (m : Nat) (p : Int) (ts : List Tok) (ns : Nms) : termR (m + 1) p ts ns = bm (termR m) p ts ns := rfl
def Clo (t : Tok) : Prop := t.kind = 8 \/ t.kind = 9 \/ (t.kind = 6 /\ (t.text = [41] \/ t.text = [93] \/ t.text = [125] \/ t.text = [44] \/ t.text = [124]))
theorem Clo.alone {b : Tok} (h : Clo b) (c : Tok) : aloneT b c = true := by
 unfold aloneT;rcases h with h | h | ⟨h, h2⟩
 · rw [h, if_pos (by decide)]
 · rw [h, if_pos (by decide)]
 · rw [h, if_neg (by decide), if_pos (by decide)];rcases h2 with h2 | h2 | h2 | h2 | h2 <;> rw [h2] <;> decide
theorem Clo.kind {t : Tok} (h : Clo t) : t.kind ≠ 7 /\ t.kind ≠ 5 := by rcases h with h | h | ⟨h, _⟩ <;> rw [h] <;> decide
def Stop (lim : Int) (t : Tok) : Prop := ∀ r, t.infix = some r -> lim < r.p
def BegT (a : Tok) : Prop := a.isP [93] = false /\ a.isP [125] = false /\ a.kind ≠ 9
structure Bk (NS : Nms) (X : List UInt8) (t : Tm) (q lim : Int) (al : Bool) (f : Nat -> List Tok) : Prop where
 cuts : Cuts X f
 first : ∀ o, ∃ a l, f o = a :: l /\ BegT a
 read : ∀ (m o : Nat) (rest : List Tok) (ns : Nms) (p : Int), q <= p -> (f o ++ rest).length <= m + 1 -> t.nmsOf ns <+: NS -> (al = true -> Clo (fstT rest)) -> (fstT rest).kind ≠ 7 -> Stop lim (fstT rest) ->
  ∃ g, rest.length <= g /\ bm (termR m) p (f o ++ rest) ns = moreR (termR m) p g (t.byNms NS) q rest (t.nmsOf ns)
theorem more_stop {W : Rdr} {p : Int} {g : Nat} {t : Tm} {q : Int} {rest : List Tok} {ns : Nms} (h : Stop p (fstT rest)) : moreR W p g t q rest ns = .ok t rest ns := by
 cases g with
 | zero => rfl
 | succ g =>
  unfold moreR;split
  · rfl
  · rename_i r hr
    rw [if_pos (.inl (h r hr))]
theorem Bk.term {NS : Nms} {X : List UInt8} {t : Tm} {q lim : Int} {al : Bool} {f : Nat -> List Tok} (h : Bk NS X t q lim al f) {m o : Nat} {rest : List Tok} {ns : Nms} {p : Int} (hq : q <= p) (hl : lim <= p) (hm : (f o ++ rest).length <= m + 1) (hn : t.nmsOf ns <+: NS) (ha : al = true -> Clo (fstT rest)) (h7 : (fstT rest).kind ≠ 7) (hs : Stop p (fstT rest)) :
 termR (m + 1) p (f o ++ rest) ns = .ok (t.byNms NS) rest (t.nmsOf ns) := by
 obtain ⟨g, _, hg⟩ := h.read m o rest ns p hq hm hn ha h7 (fun r hr => by have := hs r hr; omega);rw [term_bm, hg, more_stop hs]
theorem stop_pu {b : UInt8} (h : b = 41 \/ b = 93 \/ b = 125 \/ b = 124) (n : Int) (o : Nat) (lim : Int) : Stop lim ⟨6, [b], n, o⟩ := fun r hr => by
 unfold Tok.infix Tok.isAtom Tok.isP at hr;rcases h with rfl | rfl | rfl | rfl <;> cases hr
theorem stop_comma (n : Int) (o : Nat) (lim : Int) (h : lim < 1000) : Stop lim ⟨6, [44], n, o⟩ := fun r hr => by
 rw [infix_end ⟨rfl, .inl rfl⟩ r hr]; exact h
theorem stop_end (t : Tok) (lim : Int) (h : t.kind = 8 \/ t.kind = 9) : Stop lim t := fun r hr => by
 have ha : t.isAtom = false := by unfold Tok.isAtom; rcases h with h | h <;> rw [h] <;> rfl
 have hp : t.isP [44] = false := by unfold Tok.isP; rcases h with h | h <;> rw [h] <;> rfl
 unfold Tok.infix at hr;rw [ha, hp] at hr;cases hr
theorem clo_pu {b : UInt8} (h : b = 41 \/ b = 93 \/ b = 125 \/ b = 44 \/ b = 124) (n : Int) (o : Nat) : Clo ⟨6, [b], n, o⟩ := .inr (.inr ⟨rfl, by rcases h with rfl | rfl | rfl | rfl | rfl <;> simp⟩)
theorem begin_ok {W : Rdr} {p : Int} {ts rest : List Tok} {ns ns' : Nms} {t : Tm} (h : beginR W p ts ns = .ok (t, 0) rest ns') : ∃ g, rest.length <= g /\ bm W p ts ns = moreR W p g t 0 rest ns' := ⟨rest.length, Nat.le_refl _, by unfold bm; rw [h]; rfl⟩
theorem byNms_leaf {t : Tm} (NS : Nms) (h1 : t.kind ≠ 1) (h : t.args = []) : t.byNms NS = t := by
 rw [t.byNms_eq, if_neg h1, h];conv => rhs; rw [t.eta, h]
 rfl
theorem nmsOf_leaf {t : Tm} (ns : Nms) (h1 : t.kind ≠ 1) (h : t.args = []) : t.nmsOf ns = ns := by rw [t.nmsOf_eq, if_neg h1, h]; rfl
theorem itoa_digs (n : Int) (h : 0 <= n) : (Lib.itoa n).all isDig = true /\ Lib.itoa n ≠ [] := by rw [itoa_pos n h]; exact ⟨decDigits_all _, decDigits_ne _⟩
theorem may_var1 {t : Tm} (h : t.may = true) (h1 : t.kind = 1) : 0 <= t.n /\ t.name = ⟨#[]⟩ /\ t.args = [] := by
 rw [Tm.may_eq, h1] at h;unfold mayK at h;rw [if_pos rfl] at h;simp only [Bool.and_eq_true, decide_eq_true_eq] at h
 exact ⟨h.1, by apply ByteArray.ext; rw [<- Array.toList_inj]; exact h.2.1, List.eq_nil_of_length_eq_zero h.2.2⟩
theorem may_atom2 {t : Tm} (h : t.may = true) (h2 : t.kind = 2) : t.n = 0 /\ checkL t.name.data.toList = true /\ t.args = [] := by
 rw [Tm.may_eq, h2] at h;unfold mayK at h;rw [if_neg (by decide), if_pos rfl] at h;simp only [Bool.and_eq_true, decide_eq_true_eq] at h
 exact ⟨h.1, h.2.1, List.eq_nil_of_length_eq_zero h.2.2⟩
theorem may_int3 {t : Tm} (h : t.may = true) (h3 : t.kind = 3) : t.name = ⟨#[]⟩ /\ t.args = [] := by
 rw [Tm.may_eq, h3] at h;unfold mayK at h;rw [if_neg (by decide), if_neg (by decide), if_pos rfl] at h;simp only [Bool.and_eq_true, decide_eq_true_eq] at h
 exact ⟨by apply ByteArray.ext; rw [<- Array.toList_inj]; exact h.1, List.eq_nil_of_length_eq_zero h.2⟩
theorem may_comp4 {t : Tm} (h : t.may = true) (h4 : t.kind = 4) : t.n = 0 /\ checkL t.name.data.toList = true /\ 1 <= t.args.length /\ t.args.length <= 16 /\ ∀ x ∈ t.args, x.may = true := by
 rw [Tm.may_eq, h4] at h;unfold mayK at h;rw [if_neg (by decide), if_neg (by decide), if_neg (by decide), if_pos rfl, Tm.mays_all] at h;simp only [Bool.and_eq_true, decide_eq_true_eq, List.all_eq_true] at h
 exact ⟨h.1, h.2.1, h.2.2.1, h.2.2.2.1, h.2.2.2.2⟩
theorem may_kind' {t : Tm} (h : t.may = true) (h1 : t.kind ≠ 1) (h3 : t.kind ≠ 3) (h2 : t.kind ≠ 2) : t.kind = 4 := by
 rw [Tm.may_eq] at h;unfold mayK at h;rw [if_neg h1, if_neg h2, if_neg h3] at h;by_cases h4 : t.kind = 4
 · exact h4
 · rw [if_neg h4] at h; cases h
theorem atom_is {t : Tm} (h : t.may = true) (h2 : t.kind = 2) : t = atomT t.name.data.toList := by
 obtain ⟨h3, _, h4⟩ := may_atom2 h h2;conv => lhs; rw [t.eta, h2, h3, h4]
 rfl
theorem comp_is {t : Tm} (h : t.may = true) (h4 : t.kind = 4) : t = compT t.name.data.toList t.args := by
 obtain ⟨h3, _⟩ := may_comp4 h h4;conv => lhs; rw [t.eta, h4, h3]
 rfl
theorem comp_by (s : List UInt8) (l : List Tm) (NS : Nms) : (compT s l).byNms NS = compT s (l.map (fun u => u.byNms NS)) := by
 rw [Tm.byNms_eq]; rfl
theorem comp_nms (s : List UInt8) (l : List Tm) (ns : Nms) : (compT s l).nmsOf ns = Tm.nmssOf l ns := rfl
theorem bk_var (NS : Nms) (h200 : NS.length <= 200) {t : Tm} (h : t.may = true) (h1 : t.kind = 1) (p : Int) : ∃ f, Bk NS (t.wr.txt p) t 0 0 false f := by
 obtain ⟨h0, hn, ha⟩ := may_var1 h h1;obtain ⟨hd, hne⟩ := itoa_digs t.n h0;have hX : t.wr.txt p = varName t.n := by rw [t.wr_eq]; show textK _ _ _ _ _ = _; unfold textK; rw [if_pos h1]; rfl
 rw [hX];refine ⟨_, .var _ hd, fun o => ⟨_, _, rfl, rfl, rfl, by show (4 : Int) ≠ 9; decide⟩, ?_⟩;intro m o rest ns p _ _ hns _ _ _;refine begin_ok ?_;rw [t.byNms_eq, if_pos h1, t.nmsOf_eq, if_pos h1] at *;unfold beginR;rw [List.singleton_append, fstT_cons, if_neg (by show ¬ false = true; decide), if_pos rfl];unfold varR;rw [fstT_cons, List.tail_cons];dsimp only;show zeroR (if varName t.n ∈ ns /\ varName t.n ≠ [95] then _ else if ns.length = 200 then _ else _) = _
 have h95 : varName t.n ≠ [95] := fun e => hne (List.cons.inj e).2;unfold namesPut at hns ⊢;by_cases hin : varName t.n ∈ ns
 · rw [if_pos hin] at hns;rw [if_pos ⟨hin, h95⟩, if_pos hin];obtain ⟨z, rfl⟩ := hns;rw [List.idxOf_append, if_pos hin];rfl
 · rw [if_neg hin] at hns;rw [if_neg (fun h => hin h.1), if_neg hin];obtain ⟨z, rfl⟩ := hns;rw [if_neg (by simp only [List.length_append, List.length_cons] at h200; omega), List.idxOf_append, if_pos (by simp), List.idxOf_append, if_neg hin];have e : List.idxOf (varName t.n) [varName t.n] = 0 := by simp
   rw [e, Nat.zero_add];rfl
theorem bk_int (NS : Nms) {t : Tm} (h : t.may = true) (h3 : t.kind = 3) (h64 : In64 t.n) (p : Int) : ∃ f, Bk NS (t.wr.txt p) t 0 0 false f := by
 obtain ⟨hn, ha⟩ := may_int3 h h3;have h1 : t.kind ≠ 1 := by rw [h3]; decide
 have hX : t.wr.txt p = Lib.itoa t.n := by rw [t.wr_eq]; show textK _ _ _ _ _ = _; unfold textK; rw [if_neg h1, if_pos h3]
 have ht : t = intT t.n := by
  conv => lhs; rw [t.eta, h3, hn, ha]
  rfl
 rw [hX];by_cases h0 : 0 <= t.n
 · obtain ⟨hd, hne⟩ := itoa_digs t.n h0;have hread : readV (45 :: Lib.itoa t.n) = -t.n /\ readE (45 :: Lib.itoa t.n) = 0 := by
    by_cases hz : t.n = 0
    · rw [hz];have : Lib.itoa 0 = [48] := by rw [itoa_pos 0 (by decide)]; decide +kernel
      rw [this];exact ⟨by decide +kernel, by decide +kernel⟩
    · have h1 : In64 (-t.n) := by unfold In64 at *; omega
      have h2 := read_itoa (-t.n) h1;rw [itoa_neg' (-t.n) (by omega), Int.neg_neg, <- itoa_pos t.n h0] at h2;exact h2
   have hw : wrap64 (-(-t.n)) = t.n := by rw [Int.neg_neg]; exact IntWalk.wrap64_in _ h64
   refine ⟨_, .digits _ _ hd hne hread.1 hread.2, fun o => ⟨_, _, rfl, rfl, rfl, by show (5 : Int) ≠ 9; decide⟩, ?_⟩;intro m o rest ns p _ _ _ _ _ _;refine begin_ok ?_;rw [byNms_leaf NS h1 ha, nmsOf_leaf ns h1 ha, hw];unfold beginR;rw [List.singleton_append, fstT_cons, if_neg (by show ¬ false = true; decide), if_neg (by show ¬ (5 : Int) = 4; decide), if_neg (by show ¬ ((5 : Int) = 6 \/ (5 : Int) = 7); decide), if_pos ⟨rfl, h0⟩];conv => rhs; rw [ht]
   rfl
 · have hneg := itoa_neg' t.n (by omega);have hread := read_itoa t.n h64;rw [hneg] at hread ⊢;refine ⟨_, .minus _ _ (decDigits_all _) (decDigits_ne _) hread.1 hread.2, fun o => ⟨_, _, rfl, rfl, rfl, by show (3 : Int) ≠ 9; decide⟩, ?_⟩;intro m o rest ns p _ _ _ _ _ _;refine begin_ok ?_;rw [byNms_leaf NS h1 ha, nmsOf_leaf ns h1 ha];unfold beginR;rw [List.cons_append, fstT_cons, if_pos (by rfl)];unfold namedR;rw [fstT_cons, List.tail_cons, List.singleton_append, fstT_cons, List.tail_cons, if_neg (by show ¬ (5 : Int) = 7; decide), if_pos ⟨rfl, rfl, rfl, rfl⟩];have hw : wrap64 (-wrap64 (-t.n)) = t.n := by unfold In64 at h64; unfold wrap64; omega
   rw [hw];conv => rhs; rw [ht]
def Tm.opA (t : Tm) : Bool := decide (t.kind = 2) && opN t.name.data.toList
theorem bk_atom (NS : Nms) {t : Tm} (h : t.may = true) (h2 : t.kind = 2) (p : Int) : ∃ f, Bk NS (t.wr.txt p) t 0 0 t.opA f := by
 obtain ⟨hn, hc, ha⟩ := may_atom2 h h2;have h1 : t.kind ≠ 1 := by rw [h2]; decide
 have h3 : t.kind ≠ 3 := by rw [h2]; decide
 have hX : t.wr.txt p = writeL t.name.data.toList := by rw [t.wr_eq]; show textK _ _ _ _ _ = _; unfold textK; rw [if_neg h1, if_neg h3, if_pos h2]
 have ht := atom_is h h2;rw [hX];unfold Tm.opA;rw [h2, decide_eq_true rfl, Bool.true_and];generalize t.name.data.toList = s at *;by_cases hs1 : s = [91, 93]
 · subst hs1;rw [show writeL [91, 93] = [91, 93] from by decide +kernel];refine ⟨_, .two (.inl ⟨rfl, rfl⟩), fun o => ⟨_, _, rfl, rfl, rfl, by show (6 : Int) ≠ 9; decide⟩, ?_⟩;intro m o rest ns p _ _ _ _ _ _;refine begin_ok ?_;rw [byNms_leaf NS h1 ha, nmsOf_leaf ns h1 ha, ht];rfl
 by_cases hs2 : s = [123, 125]
 · subst hs2;rw [show writeL [123, 125] = [123, 125] from by decide +kernel];refine ⟨_, .two (.inr ⟨rfl, rfl⟩), fun o => ⟨_, _, rfl, rfl, rfl, by show (6 : Int) ≠ 9; decide⟩, ?_⟩;intro m o rest ns p _ _ _ _ _ _;refine begin_ok ?_;rw [byNms_leaf NS h1 ha, nmsOf_leaf ns h1 ha, ht];rfl
 obtain ⟨k, hk, hcut⟩ := Cuts.atom s hc hs1 hs2;have hat : ∀ o, (⟨k, s, 0, o⟩ : Tok).isAtom = true := fun o => by rcases hk with rfl | rfl | rfl <;> rfl
 refine ⟨_, hcut, fun o => ⟨_, _, rfl, by unfold Tok.isP; rcases hk with rfl | rfl | rfl <;> rfl, by unfold Tok.isP; rcases hk with rfl | rfl | rfl <;> rfl, by show k ≠ 9; rcases hk with rfl | rfl | rfl <;> decide⟩, ?_⟩;intro m o rest ns p _ _ _ hal h7 _;refine begin_ok ?_;rw [byNms_leaf NS h1 ha, nmsOf_leaf ns h1 ha, ht];unfold beginR;rw [List.singleton_append, fstT_cons, if_pos (hat o)];unfold namedR;rw [fstT_cons, List.tail_cons, if_neg h7];rw [if_neg ?_]
 · cases hop : opR s 2 with
   | none => rfl
   | some r =>
    have hc2 := hal (by unfold opN; rw [hop]; rfl);dsimp only;rw [if_pos (hc2.alone _)]
 · rintro ⟨_, h45, h5, _⟩;have h45 : s = [45] := h45;subst h45;exact (hal (by decide +kernel)).kind.2 h5
theorem bm_bracket {m : Nat} {p : Int} {k : Int} (hk : k = 6 \/ k = 7) {o : Nat} {ts rest : List Tok} {ns ns' : Nms} {t : Tm} {j : Nat} (h : termR m 1200 ts ns = .ok t (⟨6, [41], 0, j⟩ :: rest) ns') : ∃ g, rest.length <= g /\ bm (termR m) p (⟨k, [40], 0, o⟩ :: ts) ns = moreR (termR m) p g t 0 rest ns' := by
 refine begin_ok ?_;unfold beginR;rw [fstT_cons, if_neg (by rcases hk with rfl | rfl <;> exact (by decide : ¬ false = true)), if_neg (by show ¬ k = 4; omega), if_pos hk];unfold bracketR;rw [fstT_cons, if_pos (by rfl), List.tail_cons, h];rfl
theorem Bk.bracket {NS : Nms} {X : List UInt8} {t : Tm} {q lim : Int} {al : Bool} {f : Nat -> List Tok} (h : Bk NS X t q lim al f) (hq : q <= 1200) (hl : lim <= 1200) : ∃ f', Bk NS (40 :: (X ++ [41])) t 0 0 false f' := by
 refine ⟨_, h.cuts.between (.inl rfl) (.inl rfl), fun o => ⟨_, _, rfl, rfl, rfl, by show (6 : Int) ≠ 9; decide⟩, ?_⟩;intro m o rest ns p _ hm hn _ _ _;rw [List.cons_append, List.append_assoc, List.singleton_append] at *;obtain ⟨m', rfl⟩ : ∃ m', m = m' + 1 := ⟨m - 1, by simp only [List.length_cons, List.length_append] at hm; omega⟩;exact bm_bracket (.inl rfl) (h.term hq hl (by simp only [List.length_cons] at hm ⊢; omega) hn (fun _ => clo_pu (.inl rfl) _ _) (by show (6 : Int) ≠ 7; decide) (stop_pu (.inl rfl) _ _ _))
theorem Bk.curly {NS : Nms} {X : List UInt8} {t : Tm} {q lim : Int} {al : Bool} {f : Nat -> List Tok} (h : Bk NS X t q lim al f) (hq : q <= 1200) (hl : lim <= 1200) : ∃ f', Bk NS (123 :: (X ++ [125])) (compT [123, 125] [t]) 0 0 false f' := by
 refine ⟨_, h.cuts.between (.inr (.inr rfl)) (.inr (.inr rfl)), fun o => ⟨_, _, rfl, rfl, rfl, by show (6 : Int) ≠ 9; decide⟩, ?_⟩;intro m o rest ns p _ hm hn _ _ _;rw [List.cons_append, List.append_assoc, List.singleton_append] at *;obtain ⟨m', rfl⟩ : ∃ m', m = m' + 1 := ⟨m - 1, by simp only [List.length_cons, List.length_append] at hm; omega⟩;rw [comp_nms] at hn ⊢;rw [comp_by];have ht := h.term (m := m') (o := o + 1) (rest := ⟨6, [125], 0, o + 1 + X.length⟩ :: rest) (ns := ns) (p := 1200) hq hl (by simp only [List.length_cons] at hm ⊢; omega) hn (fun _ => clo_pu (.inr (.inr (.inl rfl))) _ _) (by show (6 : Int) ≠ 7; decide) (stop_pu (.inr (.inr (.inl rfl))) _ _ _);refine begin_ok ?_;unfold beginR;rw [fstT_cons, if_neg (by show ¬ false = true; decide), if_neg (by show ¬ (6 : Int) = 4; decide), if_pos (.inl rfl)];unfold bracketR;rw [fstT_cons, if_neg (by show ¬ (([123] : List UInt8) == [40]) = true; decide), if_neg (by show ¬ (([123] : List UInt8) == [91]) = true; decide), if_pos (by rfl), List.tail_cons];unfold curlyR;obtain ⟨a, l, hf, hb⟩ := h.first (o + 1);have hfst : (fstT (f (o + 1) ++ ⟨6, [125], 0, o + 1 + X.length⟩ :: rest)).isP [125] = false := by rw [hf]; exact hb.2.1
 rw [hfst, if_neg (by decide), ht];rfl
def moreW (l : List Tm) : List UInt8 := l.flatMap (fun t => 44 :: t.wr.txt 999)
theorem comma_more : ∀ (t : Tm) (l : List Tm), commaW ((t :: l).map Tm.wr) = t.wr.txt 999 ++ moreW l
 | t, [] => by show t.wr.txt 999 = _; unfold moreW; rw [List.flatMap_nil, List.append_nil]
 | t, u :: l => by
  show t.wr.txt 999 ++ 44 :: commaW ((u :: l).map Tm.wr) = _
  rw [comma_more u l];unfold moreW;rw [List.flatMap_cons];rfl
def Arg (NS : Nms) (t : Tm) : Prop := ∃ q lim f, q <= 999 /\ lim <= 999 /\ Bk NS (t.wr.txt 999) t q lim t.opA f
def Fst (ts : List Tok) : Prop := Clo (fstT ts) /\ (fstT ts).kind ≠ 7 /\ Stop 999 (fstT ts)
theorem Fst.comma (n : Int) (o : Nat) (ts : List Tok) : Fst (⟨6, [44], n, o⟩ :: ts) := ⟨clo_pu (by simp) _ _, by show (6 : Int) ≠ 7; decide, stop_comma _ _ _ (by decide)⟩
theorem Fst.pu {b : UInt8} (hb : b = 41 \/ b = 93 \/ b = 124) (n : Int) (o : Nat) (ts : List Tok) : Fst (⟨6, [b], n, o⟩ :: ts) := ⟨clo_pu (by rcases hb with h | h | h <;> simp [h]) _ _, by show (6 : Int) ≠ 7; decide, stop_pu (by rcases hb with h | h | h <;> simp [h]) _ _ _⟩
theorem Arg.term {NS : Nms} {t : Tm} {q lim : Int} {f : Nat -> List Tok} (hq : q <= 999) (hl : lim <= 999) (h : Bk NS (t.wr.txt 999) t q lim t.opA f) {m o : Nat} {rest : List Tok} {ns : Nms} (hm : (f o ++ rest).length <= m + 1) (hn : t.nmsOf ns <+: NS) (hr : Fst rest) : termR (m + 1) 999 (f o ++ rest) ns = .ok (t.byNms NS) rest (t.nmsOf ns) :=
 h.term hq hl hm hn (fun _ => hr.1) hr.2.1 hr.2.2
theorem more_head (l : List Tm) (c : UInt8) (r : List UInt8) (hc : c = 41 \/ c = 93 \/ c = 124) : ∃ d s, moreW l ++ c :: r = d :: s /\ EndP d := by
 cases l with
 | nil => exact ⟨c, r, rfl, by unfold EndP; rcases hc with rfl | rfl | rfl <;> simp⟩
 | cons u l => exact ⟨44, _, by unfold moreW; rw [List.flatMap_cons]; rfl, by unfold EndP; simp⟩
structure More (NS : Nms) (l : List Tm) (h : Nat -> List Tok) : Prop where
 cuts : ∀ (c : UInt8) (r : List UInt8), (c = 41 \/ c = 93 \/ c = 124) -> ∀ o, cutL (moreW l ++ c :: r) o false = (cutL (c :: r) (o + (moreW l).length) false).pre (h o)
 many : ∀ o, l.length <= (h o).length
 first : ∀ (o : Nat) (b : UInt8) (n : Int) (j : Nat) (rest : List Tok), (b = 41 \/ b = 93 \/ b = 124) -> Fst (h o ++ ⟨6, [b], n, j⟩ :: rest)
 read : ∀ (m o most g : Nat) (acc : List Tm) (b : UInt8) (j : Nat) (rest : List Tok) (ns : Nms), (b = 41 \/ b = 93 \/ b = 124) -> (h o ++ ⟨6, [b], 0, j⟩ :: rest).length <= m + 1 -> Tm.nmssOf l ns <+: NS -> acc.length + l.length <= most -> l.length <= g ->
  manyGo (termR (m + 1)) most g acc (h o ++ ⟨6, [b], 0, j⟩ :: rest) ns = .ok (acc ++ l.map (fun t => t.byNms NS)) (⟨6, [b], 0, j⟩ :: rest) (Tm.nmssOf l ns)
theorem more_back (NS : Nms) : ∀ l : List Tm, (∀ t ∈ l, Arg NS t) -> ∃ h : Nat -> List Tok, More NS l h
 | [], _ => by
  refine ⟨fun _ => [], fun c r _ o => ?_, fun o => Nat.zero_le _, fun o b n j rest hb => Fst.pu hb n j rest, ?_⟩
  · rw [pre_nil]; rfl
  · intro m o most g acc b j rest ns hb _ _ _ _;have hp : (fstT ([] ++ (⟨6, [b], 0, j⟩ : Tok) :: rest)).isP [44] = false := by
     show (⟨6, [b], 0, j⟩ : Tok).isP [44] = false
     rcases hb with rfl | rfl | rfl <;> rfl
    cases g with
    | zero => rw [List.map_nil, List.append_nil]; rfl
    | succ g =>
     unfold manyGo;rw [hp, if_neg (by decide), List.map_nil, List.append_nil];rfl
 | t :: l, hall => by
  obtain ⟨h, c1, c2, c3, c4⟩ := more_back NS l (fun x hx => hall x (List.mem_cons_of_mem _ hx));obtain ⟨q, lim, f, hq, hl, hb⟩ := hall t (by simp);have hM : moreW (t :: l) = 44 :: (t.wr.txt 999 ++ moreW l) := by unfold moreW; rw [List.flatMap_cons]; rfl
  refine ⟨fun o => ⟨6, [44], 0, o⟩ :: (f (o + 1) ++ h (o + 1 + (t.wr.txt 999).length)), fun c r hc o => ?_, fun o => ?_, fun o b n j rest _ => Fst.comma _ _ _, ?_⟩
  · obtain ⟨d, s, hd, hde⟩ := more_head l c r hc;rw [hM, List.cons_append, List.append_assoc, cut_pu' 44 _ (by simp), hd, hb.cuts.at hde, <- hd, c1 c r hc, pre_pre, pre_pre, List.length_cons, List.length_append, show o + ((t.wr.txt 999).length + (moreW l).length + 1) = o + 1 + (t.wr.txt 999).length + (moreW l).length from by omega];simp
  · have := c2 (o + 1 + (t.wr.txt 999).length);simp only [List.length_cons, List.length_append]
    omega
  · intro m o most g acc b j rest ns hbb hm hn hacc hg;obtain ⟨g', rfl⟩ : ∃ g', g = g' + 1 := ⟨g - 1, by simp only [List.length_cons] at hg; omega⟩;simp only [List.length_cons] at hacc hg
    rw [Tm.nmssOf_cons] at hn ⊢;rw [List.cons_append, List.append_assoc] at hm ⊢;have hm2 := hm;rw [List.length_cons, List.length_append] at hm2;unfold manyGo;rw [fstT_cons, if_pos (by rfl), if_neg (by omega), List.tail_cons];rw [Arg.term hq hl hb (by rw [List.length_cons] at hm; omega) ((nmss_pre l _).trans hn) (c3 _ b 0 j rest hbb), Rd.bind_ok, c4 m _ most g' (acc ++ [t.byNms NS]) b j rest _ hbb (by omega) hn (by simp only [List.length_append, List.length_cons, List.length_nil]; omega) (by omega)];rw [List.append_assoc];rfl
theorem beg_atom {k : Int} (hk : k = 1 \/ k = 2 \/ k = 3) (s : List UInt8) (o : Nat) : BegT ⟨k, s, 0, o⟩ /\ (⟨k, s, 0, o⟩ : Tok).isAtom = true := by
 rcases hk with rfl | rfl | rfl
 · exact ⟨⟨rfl, rfl, by show (1 : Int) ≠ 9; decide⟩, rfl⟩
 · exact ⟨⟨rfl, rfl, by show (2 : Int) ≠ 9; decide⟩, rfl⟩
 · exact ⟨⟨rfl, rfl, by show (3 : Int) ≠ 9; decide⟩, rfl⟩
theorem many_back {NS : Nms} {x : Tm} {l : List Tm} {q lim : Int} {f h : Nat -> List Tok} (hq : q <= 999) (hl : lim <= 999) (hb : Bk NS (x.wr.txt 999) x q lim x.opA f) (hM : More NS l h) {m most o : Nat} (i : Nat) {b : UInt8} (hbb : b = 41 \/ b = 93 \/ b = 124) (j : Nat) (rest : List Tok) (ns : Nms)
 (hm : (f o ++ (h i ++ ⟨6, [b], 0, j⟩ :: rest)).length <= m + 1) (hn : Tm.nmssOf (x :: l) ns <+: NS) (hlen : (x :: l).length <= most) :
 manyR (termR (m + 1)) most (f o ++ (h i ++ ⟨6, [b], 0, j⟩ :: rest)) ns = .ok ((x :: l).map (fun t => t.byNms NS)) (⟨6, [b], 0, j⟩ :: rest) (Tm.nmssOf (x :: l) ns) := by
 rw [Tm.nmssOf_cons] at hn ⊢;unfold manyR;have h2 := hM.many i;rw [Arg.term hq hl hb hm ((nmss_pre l _).trans hn) (hM.first _ b 0 j rest hbb), Rd.bind_ok, hM.read m i most _ [x.byNms NS] b j rest _ hbb (by rw [List.length_append] at hm; omega) hn (by rw [List.length_cons] at hlen; simp only [List.length_cons, List.length_nil]; omega) (by rw [List.length_append]; omega)];rfl
theorem Bk.call {NS : Nms} (s : List UInt8) (hc : checkL s = true) (x : Tm) (l : List Tm) (hall : ∀ t ∈ x :: l, Arg NS t) (hlen : (x :: l).length <= 16) : ∃ f, Bk NS (callK s ((x :: l).map Tm.wr)) (compT s (x :: l)) 0 0 false f := by
 obtain ⟨q, lim, f, hq, hl, hb⟩ := hall x (by simp);obtain ⟨h, hM⟩ := more_back NS l (fun t ht => hall t (List.mem_cons_of_mem _ ht));obtain ⟨hfn, k, hk, hcut⟩ := cut_fn s hc;have hX : ∀ R : List UInt8, callK s ((x :: l).map Tm.wr) ++ R = fnK s ++ 40 :: (x.wr.txt 999 ++ (moreW l ++ 41 :: R)) := fun R => by
  unfold callK;rw [comma_more];simp
 have hXl : (callK s ((x :: l).map Tm.wr)).length = (fnK s).length + 1 + (x.wr.txt 999).length + (moreW l).length + 1 := by
  have := congrArg List.length (hX []);simp only [List.length_append, List.length_cons, List.length_nil] at this
  omega
 refine ⟨fun o => ⟨k, s, 0, o⟩ :: ⟨7, [40], 0, o + (fnK s).length⟩ :: (f (o + (fnK s).length + 1) ++ (h (o + (fnK s).length + 1 + (x.wr.txt 999).length) ++ [⟨6, [41], 0, o + (fnK s).length + 1 + (x.wr.txt 999).length + (moreW l).length⟩])), ⟨fun e => ?_, fun R hR o => ?_⟩, fun o => ⟨_, _, rfl, (beg_atom hk s o).1⟩, ?_⟩
 · have := hXl; rw [e, List.length_nil] at this; omega
 · obtain ⟨d, u, hd, hde⟩ := more_head l 41 R (.inl rfl);rw [hX, hcut, hd, hb.cuts.at hde, <- hd, hM.cuts 41 R (.inl rfl), cut_shut 41 R (by simp) hR.2, pre_pre, pre_pre, pre_pre, hXl, show o + ((fnK s).length + 1 + (x.wr.txt 999).length + (moreW l).length + 1) = o + (fnK s).length + 1 + (x.wr.txt 999).length + (moreW l).length + 1 from by omega];simp
 · intro m o rest ns p _ hm hn _ _ _;refine begin_ok ?_;rw [comp_nms] at hn ⊢;rw [comp_by];simp only [List.cons_append, List.append_assoc, List.nil_append] at hm ⊢
   simp only [List.length_cons] at hm
   obtain ⟨m', rfl⟩ : ∃ m', m = m' + 1 := ⟨m - 1, by omega⟩;unfold beginR;rw [fstT_cons, if_pos (beg_atom hk s o).2];unfold namedR;rw [fstT_cons, List.tail_cons, fstT_cons, List.tail_cons, if_pos rfl];unfold argsR;rw [many_back hq hl hb hM _ (.inl rfl) _ rest ns (by omega) hn hlen];rfl
theorem cons_by : ∀ (l : List Tm) (e : Tm) (NS : Nms), (consT l e).byNms NS = consT (l.map (fun u => u.byNms NS)) (e.byNms NS)
 | [], _, _ => rfl
 | x :: l, e, NS => by
  show (compT [46] [x, consT l e]).byNms NS = _
  rw [comp_by, List.map_cons, List.map_cons, List.map_nil, cons_by l e NS];rfl
theorem cons_nms : ∀ (l : List Tm) (e : Tm) (ns : Nms), (consT l e).nmsOf ns = e.nmsOf (Tm.nmssOf l ns)
 | [], _, _ => rfl
 | x :: l, e, ns => by
  show (compT [46] [x, consT l e]).nmsOf ns = _
  rw [comp_nms, Tm.nmssOf_cons, Tm.nmssOf_cons, Tm.nmssOf_cons, cons_nms l e];rfl
theorem cut_list (NS : Nms) {x : Tm} {l : List Tm} {q lim : Int} {f h : Nat -> List Tok} (hb : Bk NS (x.wr.txt 999) x q lim x.opA f) (hM : More NS l h) {c : UInt8} (hc : c = 93 \/ c = 124) (r : List UInt8) (o : Nat) :
 cutL (91 :: (x.wr.txt 999 ++ (moreW l ++ c :: r))) o false = (cutL (c :: r) (o + 1 + (x.wr.txt 999).length + (moreW l).length) false).pre (⟨6, [91], 0, o⟩ :: (f (o + 1) ++ h (o + 1 + (x.wr.txt 999).length))) := by
 have hc' : c = 41 \/ c = 93 \/ c = 124 := .inr hc;obtain ⟨d, u, hd, hde⟩ := more_head l c r hc';rw [cut_pu' 91 _ (by simp), hd, hb.cuts.at hde, <- hd, hM.cuts c r hc', pre_pre, pre_pre];rfl
theorem begin_list {m : Nat} {p : Int} {o : Nat} {ts rest : List Tok} {ns ns' : Nms} {t : Tm} {j : Nat} (hf : (fstT ts).isP [93] = false) (h : listR (termR m) ts ns = .ok t (⟨6, [93], 0, j⟩ :: rest) ns') : beginR (termR m) p (⟨6, [91], 0, o⟩ :: ts) ns = .ok (t, 0) rest ns' := by
 unfold beginR;rw [fstT_cons, if_neg (by show ¬ false = true; decide), if_neg (by show ¬ (6 : Int) = 4; decide), if_pos (.inl rfl)];unfold bracketR;rw [fstT_cons, if_neg (by show ¬ (([91] : List UInt8) == [40]) = true; decide), if_pos (by rfl), List.tail_cons];unfold squareR;rw [hf, if_neg (by decide), h];rfl
theorem Bk.list {NS : Nms} (x : Tm) (l : List Tm) (hall : ∀ t ∈ x :: l, Arg NS t) (hlen : (x :: l).length <= 4096) : ∃ f, Bk NS (91 :: (x.wr.txt 999 ++ (moreW l ++ [93]))) (consT (x :: l) (atomT [91, 93])) 0 0 false f := by
 obtain ⟨q, lim, f, hq, hl, hb⟩ := hall x (by simp);obtain ⟨h, hM⟩ := more_back NS l (fun t ht => hall t (List.mem_cons_of_mem _ ht));refine ⟨fun o => ⟨6, [91], 0, o⟩ :: (f (o + 1) ++ (h (o + 1 + (x.wr.txt 999).length) ++ [⟨6, [93], 0, o + 1 + (x.wr.txt 999).length + (moreW l).length⟩])), ⟨by simp, fun R hR o => ?_⟩, fun o => ⟨_, _, rfl, rfl, rfl, by show (6 : Int) ≠ 9; decide⟩, ?_⟩
 · rw [show 91 :: (x.wr.txt 999 ++ (moreW l ++ [93])) ++ R = 91 :: (x.wr.txt 999 ++ (moreW l ++ 93 :: R)) from by simp, cut_list NS hb hM (.inl rfl), cut_shut 93 R (by simp) hR.2, pre_pre];simp only [List.length_cons, List.length_append, List.length_nil]
   rw [show o + ((x.wr.txt 999).length + ((moreW l).length + (0 + 1)) + 1) = o + 1 + (x.wr.txt 999).length + (moreW l).length + 1 from by omega];simp
 · intro m o rest ns p _ hm hn _ _ _;refine begin_ok ?_;rw [cons_nms] at hn ⊢;rw [cons_by];simp only [List.cons_append, List.append_assoc, List.nil_append] at hm ⊢
   simp only [List.length_cons] at hm
   obtain ⟨m', rfl⟩ : ∃ m', m = m' + 1 := ⟨m - 1, by simp only [List.length_append, List.length_cons] at hm; omega⟩;obtain ⟨a, u, hf, hbg⟩ := hb.first (o + 1);refine begin_list (j := o + 1 + (x.wr.txt 999).length + (moreW l).length) (by rw [hf]; exact hbg.1) ?_;unfold listR;rw [many_back hq hl hb hM _ (.inr (.inl rfl)) _ rest ns (by omega) hn hlen, Rd.bind_ok];rfl
theorem Bk.listTo {NS : Nms} (x : Tm) (l : List Tm) (e : Tm) (hall : ∀ t ∈ x :: l, Arg NS t) (he : Arg NS e) (hlen : (x :: l).length <= 4096) : ∃ f, Bk NS (91 :: (x.wr.txt 999 ++ ((moreW l ++ 124 :: e.wr.txt 999) ++ [93]))) (consT (x :: l) e) 0 0 false f := by
 obtain ⟨q, lim, f, hq, hl, hb⟩ := hall x (by simp);obtain ⟨h, hM⟩ := more_back NS l (fun t ht => hall t (List.mem_cons_of_mem _ ht));obtain ⟨q2, lim2, f2, hq2, hl2, hb2⟩ := he;refine ⟨fun o => ⟨6, [91], 0, o⟩ :: (f (o + 1) ++ (h (o + 1 + (x.wr.txt 999).length) ++ ⟨6, [124], 0, o + 1 + (x.wr.txt 999).length + (moreW l).length⟩ :: (f2 (o + 1 + (x.wr.txt 999).length + (moreW l).length + 1) ++ [⟨6, [93], 0, o + 1 + (x.wr.txt 999).length + (moreW l).length + 1 + (e.wr.txt 999).length⟩]))), ⟨by simp, fun R hR o => ?_⟩, fun o => ⟨_, _, rfl, rfl, rfl, by show (6 : Int) ≠ 9; decide⟩, ?_⟩
 · rw [show 91 :: (x.wr.txt 999 ++ ((moreW l ++ 124 :: e.wr.txt 999) ++ [93])) ++ R = 91 :: (x.wr.txt 999 ++ (moreW l ++ 124 :: (e.wr.txt 999 ++ 93 :: R))) from by simp, cut_list NS hb hM (.inr rfl), cut_pu' 124 _ (by simp), hb2.cuts.at (by unfold EndP; simp), cut_shut 93 R (by simp) hR.2, pre_pre, pre_pre, pre_pre];simp only [List.length_cons, List.length_append, List.length_nil]
   rw [show o + ((x.wr.txt 999).length + ((moreW l).length + ((e.wr.txt 999).length + 1) + (0 + 1)) + 1) = o + 1 + (x.wr.txt 999).length + (moreW l).length + 1 + (e.wr.txt 999).length + 1 from by omega];simp
 · intro m o rest ns p _ hm hn _ _ _;refine begin_ok ?_;rw [cons_nms] at hn ⊢;rw [cons_by];simp only [List.cons_append, List.append_assoc, List.nil_append] at hm ⊢
   simp only [List.length_cons] at hm
   obtain ⟨m', rfl⟩ : ∃ m', m = m' + 1 := ⟨m - 1, by simp only [List.length_append, List.length_cons] at hm; omega⟩;obtain ⟨a, u, hf, hbg⟩ := hb.first (o + 1);refine begin_list (j := o + 1 + (x.wr.txt 999).length + (moreW l).length + 1 + (e.wr.txt 999).length) (by rw [hf]; exact hbg.1) ?_;unfold listR;rw [many_back hq hl hb hM _ (.inr (.inr rfl)) _ _ ns (by omega) ((nms_pre e _).trans hn) hlen, Rd.bind_ok];unfold tailR;rw [fstT_cons, if_pos (by rfl), List.tail_cons, Arg.term hq2 hl2 hb2 (by simp only [List.length_append, List.length_cons] at hm ⊢; omega) hn (Fst.pu (.inr (.inl rfl)) _ _ _)];rfl
theorem Bk.infix {NS : Nms} {s : List UInt8} {r : R} (hr : opR s 3 = some r) (hc : checkL s = true) {a b : Tm} {XA XB : List UInt8} {qa la qb lb : Int} {fa fb : Nat -> List Tok} (ha : Bk NS XA a qa la false fa) (hqa : qa <= leftOf r.k r.p) (hla : la < r.p) (hleft : leftOf r.k r.p <= r.p) (hb : Bk NS XB b qb lb false fb) (hqb : qb <= rightOf r.k r.p) (hlb : lb <= rightOf r.k r.p) :
 ∃ f, Bk NS (XA ++ (betweenK s ++ XB)) (compT s [a, b]) r.p (rightOf r.k r.p) false f := by
 have hcut : ∃ (T : Nat -> Tok) (j : Nat -> Nat), (∀ o, (T o).infix = some r /\ (T o).text = s /\ (T o).kind ≠ 7) /\ Cuts (XA ++ (betweenK s ++ XB)) (fun o => fa o ++ T o :: fb (j o)) := by
  by_cases h44 : s = [44]
  · subst h44;refine ⟨fun o => ⟨6, [44], 0, o + XA.length⟩, fun o => o + XA.length + 1, fun o => ⟨hr, rfl, by show (6 : Int) ≠ 7; decide⟩, ?_⟩;have := ha.cuts.comma hb.cuts;exact this
  · have h1 : s ≠ [91, 93] := fun e => by rw [e] at hr; exact absurd hr (by rw [show opR [91, 93] 3 = none from by kernel_rfl]; simp)
    have h2 : s ≠ [123, 125] := fun e => by rw [e] at hr; exact absurd hr (by rw [show opR [123, 125] 3 = none from by kernel_rfl]; simp)
    obtain ⟨k, hk, h3⟩ := ha.cuts.word hb.cuts hc h1 h2;have hbt : betweenK s = 32 :: (writeL s ++ [32]) := by unfold betweenK; rw [if_neg h44]
    rw [hbt];refine ⟨fun o => ⟨k, s, 0, o + XA.length + 1⟩, fun o => o + XA.length + 1 + (writeL s).length + 1, fun o => ⟨?_, rfl, by show k ≠ 7; rcases hk with rfl | rfl | rfl <;> decide⟩, h3⟩;unfold Tok.infix;rw [(beg_atom hk s _).2, Bool.true_or, if_pos rfl];exact hr
 obtain ⟨T, j, hT, hX⟩ := hcut;refine ⟨_, hX, fun o => ?_, ?_⟩
 · obtain ⟨x, u, h1, h2⟩ := ha.first o;exact ⟨x, u ++ T o :: fb (j o), by rw [h1]; rfl, h2⟩
 · intro m o rest ns p hp hm hn _ h7 hs;rw [comp_nms, Tm.nmssOf_cons, Tm.nmssOf_cons] at hn ⊢;rw [comp_by];obtain ⟨t1, t2, t3⟩ := hT o;rw [List.append_assoc, List.cons_append] at hm ⊢;have hm2 := hm;rw [List.length_append, List.length_cons] at hm2;obtain ⟨x, u, h1, _⟩ := ha.first o;have hfa : 1 <= (fa o).length := by rw [h1, List.length_cons]; omega
   obtain ⟨m', rfl⟩ : ∃ m', m = m' + 1 := ⟨m - 1, by omega⟩;have hnb : (b.nmsOf (a.nmsOf ns)) <+: NS := hn;obtain ⟨g, hg, hga⟩ := ha.read (m' + 1) o (T o :: (fb (j o) ++ rest)) ns p (by omega) hm ((nms_pre b _).trans hnb) (fun h => by cases h) t3 (fun r' hr' => by rw [fstT_cons, t1] at hr'; obtain rfl := Option.some.inj hr'; exact hla);rw [hga];rw [List.length_cons, List.length_append] at hg;obtain ⟨g', rfl⟩ : ∃ g', g = g' + 1 := ⟨g - 1, by omega⟩;refine ⟨g', by omega, ?_⟩;conv => lhs; unfold moreR
   rw [fstT_cons, t1, List.tail_cons];dsimp only;rw [if_neg (by omega), hb.term hqb hlb (by omega) hnb (fun h => by cases h) h7 hs, Rd.bind_ok, t2];rfl
def Main (NS : Nms) (t : Tm) (p : Int) : Prop := ∃ q lim f, Bk NS (t.wr.txt p) t q lim t.opA f /\ ((q = 0 /\ lim = 0) \/ ∃ r, r ∈ tabR /\ r.k.size = 3 /\ r.p <= p /\ q = r.p /\ lim = rightOf r.k r.p)
theorem Main.arg {NS : Nms} {t : Tm} (h : Main NS t 999) : Arg NS t := by
 obtain ⟨q, lim, f, hb, ⟨rfl, rfl⟩ | ⟨r, h1, h2, h3, rfl, rfl⟩⟩ := h
 · exact ⟨_, _, f, by decide, by decide, hb⟩
 · exact ⟨_, _, f, h3, by have := op_bounds h1 h2; omega, hb⟩
theorem Main.operand {NS : Nms} {t : Tm} {p : Int} (h : Main NS t p) : ∃ q lim f, Bk NS (t.wr.opd p) t q lim false f /\ ((q = 0 /\ lim = 0) \/ ∃ r, r ∈ tabR /\ r.k.size = 3 /\ r.p <= p /\ q = r.p /\ lim = rightOf r.k r.p) := by
 obtain ⟨q, lim, f, hb, hql⟩ := h;have hop : t.wr.op = t.opA := by rw [t.wr_eq]; rfl
 unfold Wr.opd;rw [hop];cases ha : t.opA with
 | false => rw [ha] at hb; rw [if_neg (by decide)]; exact ⟨q, lim, f, hb, hql⟩
 | true =>
  rw [if_pos rfl];have : q <= 1200 /\ lim <= 1200 := by
   rcases hql with ⟨rfl, rfl⟩ | ⟨r, h1, h2, h3, rfl, rfl⟩
   · decide
   · have := op_bounds h1 h2; omega
  obtain ⟨f', hb'⟩ := hb.bracket this.1 this.2;exact ⟨0, 0, f', hb', .inl ⟨rfl, rfl⟩⟩
structure Ok3 (t : Tm) : Prop where
 may : t.may = true
 n64 : t.n64
 deep : t.deep <= 60
theorem mem_deep {t : Tm} {l : List Tm} (h : t ∈ l) : t.deep <= Tm.deeps l := by
 induction l with
 | nil => cases h
 | cons u l ih =>
  have e : Tm.deeps (u :: l) = max u.deep (Tm.deeps l) := rfl;rw [e];rcases List.mem_cons.1 h with rfl | h
  · omega
  · have := ih h; omega
theorem mem_n64 {x : Tm} : ∀ {l : List Tm}, Tm.n64s l -> x ∈ l -> x.n64
 | [], _, h => by cases h
 | u :: l, h, hx => by
  rcases List.mem_cons.1 hx with rfl | hx
  · exact h.1
  · exact mem_n64 h.2 hx
theorem Ok3.arg {t x : Tm} (h : Ok3 t) (h4 : t.kind = 4) (hx : x ∈ t.args) : Ok3 x /\ x.size < t.size /\ x.deep < t.deep := by
 have h1 := mem_deep hx;have h2 := t.deep_eq;have h3 := Tm.mem_size hx;have h5 := t.size_eq;have h6 := h.deep;exact ⟨⟨(may_comp4 h.may h4).2.2.2.2 x hx, mem_n64 ((Tm.n64_eq t).1 h.n64).2 hx, by omega⟩, by omega, by omega⟩
theorem tail_is (m : Nat) : ∀ b : Tm, b.size <= m -> Ok3 b -> ∃ l e, b = consT l e /\ (∀ x ∈ l, Ok3 x /\ x.size < b.size) /\ Ok3 e /\ e.size <= b.size /\ l.length + e.deep <= b.deep /\ ((e = atomT [91, 93] /\ b.wr.tail = moreW l) \/ b.wr.tail = moreW l ++ 124 :: e.wr.txt 999) := by
 induction m with
 | zero => intro b h; have := b.size_pos; omega
 | succ m ih =>
  intro b hm hok;have htl : b.wr.tail = tailK b.kind b.name.data.toList b.n (b.args.map Tm.wr) := by rw [b.wr_eq, Tm.wrs_map]; rfl
  have htx : b.wr.txt 999 = textK b.kind b.name.data.toList b.n (b.args.map Tm.wr) 999 := by rw [b.wr_eq, Tm.wrs_map]; rfl
  by_cases hp : b.kind = 4 /\ b.name.data.toList = [46] /\ ∃ x y, b.args = [x, y]
  · obtain ⟨h4, hn, x, y, hxy⟩ := hp;have hb := comp_is hok.may h4;rw [hn, hxy] at hb;obtain ⟨hx1, hx2, hx3⟩ := hok.arg h4 (x := x) (by rw [hxy]; simp);obtain ⟨hy1, hy2, hy3⟩ := hok.arg h4 (x := y) (by rw [hxy]; simp);obtain ⟨l, e, e1, e2, e3, e4, e5, e6⟩ := ih y (by omega) hy1;have ht : b.wr.tail = 44 :: (x.wr.txt 999 ++ y.wr.tail) := by
     rw [htl, hxy];show (if b.kind = 4 /\ b.name.data.toList = [46] then _ else _) = _
     rw [if_pos ⟨h4, hn⟩]
    have hmw : moreW (x :: l) = 44 :: (x.wr.txt 999 ++ moreW l) := by unfold moreW; rw [List.flatMap_cons]; rfl
    refine ⟨x :: l, e, ?_, ?_, e3, by omega, by rw [List.length_cons]; omega, ?_⟩
    · conv => lhs; rw [hb, e1]
      rfl
    · intro z hz;rcases List.mem_cons.1 hz with rfl | hz
      · exact ⟨hx1, hx2⟩
      · have := e2 z hz; exact ⟨this.1, by omega⟩
    · rcases e6 with ⟨h1, h2⟩ | h2
      · exact .inl ⟨h1, by rw [ht, h2, hmw]⟩
      · exact .inr (by rw [ht, h2, hmw, List.cons_append, List.append_assoc])
  · by_cases h2 : b.kind = 2 /\ b.name.data.toList = [91, 93]
    · have hb := atom_is hok.may h2.1;rw [h2.2] at hb;refine ⟨[], b, rfl, (fun x hx => by cases hx), hok, Nat.le_refl _, by simp, .inl ⟨hb, ?_⟩⟩;rw [htl, (may_atom2 hok.may h2.1).2.2];show (if b.kind = 2 /\ b.name.data.toList = [91, 93] then _ else _) = _
      rw [if_pos h2];rfl
    · refine ⟨[], b, rfl, (fun x hx => by cases hx), hok, Nat.le_refl _, by simp, .inr ?_⟩;rw [htl, htx];have hmw : moreW [] = [] := rfl;rw [hmw, List.nil_append];unfold tailK;match hl : b.args with
      | [] => exact if_neg h2
      | [_] => exact if_neg h2
      | [x, y] => exact if_neg (fun h => hp ⟨h.1, h.2, x, y, hl⟩)
      | _ :: _ :: _ :: _ => exact if_neg h2
theorem main_back (NS : Nms) (h200 : NS.length <= 200) (m : Nat) : ∀ t : Tm, t.size <= m -> Ok3 t -> ∀ p : Int, 0 <= p -> p <= 1200 -> Main NS t p := by
 induction m with
 | zero => intro t h; have := t.size_pos; omega
 | succ m ih =>
  intro t hm hok p hp0 hp1;by_cases h1 : t.kind = 1
  · obtain ⟨f, hf⟩ := bk_var NS h200 hok.may h1 p;have ho : t.opA = false := by unfold Tm.opA; rw [h1]; rfl
    exact ⟨0, 0, f, by rw [ho]; exact hf, .inl ⟨rfl, rfl⟩⟩
  by_cases h3 : t.kind = 3
  · obtain ⟨f, hf⟩ := bk_int NS hok.may h3 ((Tm.n64_eq t).1 hok.n64).1 p;have ho : t.opA = false := by unfold Tm.opA; rw [h3]; rfl
    exact ⟨0, 0, f, by rw [ho]; exact hf, .inl ⟨rfl, rfl⟩⟩
  by_cases h2 : t.kind = 2
  · obtain ⟨f, hf⟩ := bk_atom NS hok.may h2 p;exact ⟨0, 0, f, hf, .inl ⟨rfl, rfl⟩⟩
  have h4 : t.kind = 4 := may_kind' hok.may h1 h3 h2;have ho : t.opA = false := by unfold Tm.opA; rw [h4]; rfl
  obtain ⟨_, hc, hl1, hl16, _⟩ := may_comp4 hok.may h4;have hsub : ∀ x ∈ t.args, ∀ p : Int, 0 <= p -> p <= 1200 -> Main NS x p := fun x hx p h0 h1 => by
   obtain ⟨a1, a2, _⟩ := hok.arg h4 hx;exact ih x (by omega) a1 p h0 h1
  have harg : ∀ x ∈ t.args, Arg NS x := fun x hx => (hsub x hx 999 (by decide) (by decide)).arg;have ht := comp_is hok.may h4;have htx : t.wr.txt p = compK t.name.data.toList (t.args.map Tm.wr) p := by
   rw [t.wr_eq, Tm.wrs_map];show textK _ _ _ _ _ = _
   unfold textK;rw [if_neg h1, if_neg h3, if_neg h2]
  have zero : ∀ X, (∃ f, Bk NS X t 0 0 false f) -> t.wr.txt p = X -> Main NS t p := fun X ⟨f, hf⟩ e => ⟨0, 0, f, by rw [ho, e]; exact hf, .inl ⟨rfl, rfl⟩⟩;have call : compK t.name.data.toList (t.args.map Tm.wr) p = callK t.name.data.toList (t.args.map Tm.wr) -> Main NS t p := fun e => by
   refine zero _ ?_ (htx.trans e);match hl : t.args with
   | [] => rw [hl] at hl1; exact absurd hl1 (by decide)
   | x :: l =>
    rw [hl] at harg hl16 ht;have := Bk.call (NS := NS) t.name.data.toList hc x l harg hl16;rw [<- ht] at this;exact this
  match hl : t.args with
  | [] => rw [hl] at hl1; exact absurd hl1 (by decide)
  | [a] =>
   by_cases hs : t.name.data.toList = [123, 125]
   · obtain ⟨q, lim, f, hb, hql⟩ := hsub a (by rw [hl]; simp) 1200 (by decide) (by decide);have : q <= 1200 /\ lim <= 1200 := by
      rcases hql with ⟨rfl, rfl⟩ | ⟨r, h1, h2, h3, rfl, rfl⟩
      · decide
      · have := op_bounds h1 h2; omega
     refine zero (123 :: (a.wr.txt 1200 ++ [125])) ?_ (htx.trans (by rw [hl]; show (if t.name.data.toList = [123, 125] then _ else _) = _; rw [if_pos hs]));have hcu := hb.curly this.1 this.2;rw [ht, hs, hl];exact hcu
   · exact call (by rw [hl]; show (if t.name.data.toList = [123, 125] then _ else _) = _; rw [if_neg hs])
  | [a, b] =>
   by_cases hs : t.name.data.toList = [46]
   · obtain ⟨b1, b2, b3⟩ := hok.arg h4 (x := b) (by rw [hl]; simp);obtain ⟨l, e, e1, e2, e3, e4, e5, e6⟩ := tail_is _ b (Nat.le_refl _) b1;have hbd := b1.deep;have hlen : (a :: l).length <= 4096 := by rw [List.length_cons]; omega
     have hall : ∀ x ∈ a :: l, Arg NS x := fun x hx => by
      rcases List.mem_cons.1 hx with rfl | hx
      · exact harg _ (by rw [hl]; simp)
      · have := e2 x hx;exact (ih x (by omega) this.1 999 (by decide) (by decide)).arg
     have htx2 : t.wr.txt p = 91 :: (a.wr.txt 999 ++ (b.wr.tail ++ [93])) := htx.trans (by rw [hl]; show (if t.name.data.toList = [46] then _ else _) = _; rw [if_pos hs]);have ht2 : t = consT (a :: l) e := by
      conv => lhs; rw [ht, hs, hl, e1]
      rfl
     rcases e6 with ⟨rfl, h2⟩ | h2
     · refine zero _ ?_ (htx2.trans (by rw [h2]));rw [ht2];exact Bk.list a l hall hlen
     · refine zero _ ?_ (htx2.trans (by rw [h2]));rw [ht2];exact Bk.listTo a l e hall (ih e (by omega) e3 999 (by decide) (by decide)).arg hlen
   · cases hop : opR t.name.data.toList 3 with
     | none => exact call (by rw [hl]; show (if t.name.data.toList = [46] then _ else match opR t.name.data.toList 3 with | some o => _ | none => _) = _; rw [if_neg hs, hop])
     | some r =>
      have htx2 : t.wr.txt p = infixK t.name.data.toList r a.wr b.wr p := htx.trans (by rw [hl]; show (if t.name.data.toList = [46] then _ else match opR t.name.data.toList 3 with | some o => _ | none => _) = _; rw [if_neg hs, hop]);obtain ⟨hr1, hr2, _⟩ := opR_mem hop;have hr2 : r.k.size = 3 := by omega
      obtain ⟨o1, o2, o3, o4, o5, o6⟩ := op_bounds hr1 hr2;obtain ⟨qa, la, fa, ha, hqa⟩ := (hsub a (by rw [hl]; simp) _ o5 (by omega)).operand;obtain ⟨qb, lb, fb, hb, hqb⟩ := (hsub b (by rw [hl]; simp) _ o6 (by omega)).operand;have hA : qa <= leftOf r.k r.p /\ la < r.p := by
       rcases hqa with ⟨rfl, rfl⟩ | ⟨r', g1, g2, g3, rfl, rfl⟩
       · exact ⟨o5, o1⟩
       · exact ⟨g3, beside g1 hr1 g2 hr2 g3⟩
      have hB : qb <= rightOf r.k r.p /\ lb <= rightOf r.k r.p := by
       rcases hqb with ⟨rfl, rfl⟩ | ⟨r', g1, g2, g3, rfl, rfl⟩
       · exact ⟨o6, o6⟩
       · have := op_bounds g1 g2; exact ⟨g3, by omega⟩
      obtain ⟨f, hf⟩ := Bk.infix hop hc ha hA.1 hA.2 o3 hb hB.1 hB.2;have htt : compT t.name.data.toList [a, b] = t := by rw [<- hl]; exact ht.symm
      rw [htt] at hf;by_cases hpr : p < r.p
      · refine zero _ (hf.bracket o2 (by omega)) (htx2.trans (by unfold infixK; rw [if_pos hpr]))
      · refine ⟨r.p, _, f, ?_, .inr ⟨r, hr1, hr2, by omega, rfl, rfl⟩⟩;rw [ho, htx2];unfold infixK;rw [if_neg hpr];exact hf
  | _ :: _ :: _ :: _ => exact call (by rw [hl]; rfl)
end Go.Proofs.YtdjejbgokamjeaaGreatDoor
