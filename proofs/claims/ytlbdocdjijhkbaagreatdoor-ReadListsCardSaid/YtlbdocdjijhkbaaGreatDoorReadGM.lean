/-
  Plain mathematics for the law ReadLists: numbers with commas in square brackets are cut, and read as that list; no program in it.
-/
import Derived.Test.YtlbdocdjijhkbaaGreatDoorReadPl
import Derived.Test.YtlbdocdjijhkbaaGreatDoorNumA
namespace Go.Proofs.YtlbdocdjijhkbaaGreatDoor
open Go.RowKit

theorem span_stop (P : Int → Bool) (l : List UInt8) (c : UInt8) (r : List UInt8) (h : l.all (fun b => P (b.toNat : Int)) = true) (hc : P (c.toNat : Int) = false) : spanL P (l ++ c :: r) = l.length := by
  unfold spanL
  induction l with
  | nil => rw [List.nil_append, List.takeWhile_cons, if_neg (by rw [hc]; decide)]
  | cons b t ih =>
    rw [List.all_cons, Bool.and_eq_true] at h
    rw [List.cons_append, List.takeWhile_cons, if_pos h.1, List.length_cons, List.length_cons, ih h.2]
theorem dig_cls (b : UInt8) (h : isDig b = true) : cls (b.toNat : Int) = 3 := by
  have h2 := (isDig_iff b).1 h
  generalize b.toNat = m at *
  have : m = 48 ∨ m = 49 ∨ m = 50 ∨ m = 51 ∨ m = 52 ∨ m = 53 ∨ m = 54 ∨ m = 55 ∨ m = 56 ∨ m = 57 := by omega
  rcases this with rfl | rfl | rfl | rfl | rfl | rfl | rfl | rfl | rfl | rfl <;> decide
/-- A number that is not below 0, and what ends it. -/
theorem lex_num (n : Int) (h0 : 0 ≤ n) (hn : In64 n) (c : UInt8) (r : List UInt8) (hc : c = 44 ∨ c = 93 ∨ c = 124) : lexL (Lib.itoa n ++ c :: r) = ⟨5, [], n, (Lib.itoa n).length⟩ := by
  have hd : (Lib.itoa n).all isDig = true := by rw [itoa_pos n h0]; exact decDigits_all _
  have hne : Lib.itoa n ≠ [] := by rw [itoa_pos n h0]; exact decDigits_ne _
  have hsp : spanL digR (Lib.itoa n ++ c :: r) = (Lib.itoa n).length := by
    refine span_stop digR _ c r (List.all_eq_true.2 (fun b hb => ?_)) ?_
    · unfold digR; exact decide_eq_true (dig_cls b (List.all_eq_true.1 hd b hb))
    · rcases hc with rfl | rfl | rfl <;> decide
  have hread : readV (45 :: Lib.itoa n) = -n ∧ readE (45 :: Lib.itoa n) = 0 := by
    by_cases hz : n = 0
    · subst hz
      have : Lib.itoa 0 = [48] := by rw [itoa_pos 0 (by decide)]; decide +kernel
      rw [this]
      exact ⟨by decide +kernel, by decide +kernel⟩
    · have h1 : In64 (-n) := by unfold In64 at *; omega
      have h2 := read_itoa (-n) h1
      rw [itoa_neg' (-n) (by omega), Int.neg_neg, ← itoa_pos n h0] at h2
      exact h2
  have hw : wrap64 (-(-n)) = n := by rw [Int.neg_neg]; exact IntWalk.wrap64_in _ hn
  cases hi : Lib.itoa n with
  | nil => exact absurd hi hne
  | cons b t =>
    rw [hi] at hd hsp hread
    rw [List.all_cons, Bool.and_eq_true] at hd
    have h3 := dig_cls b hd.1
    rw [List.cons_append] at hsp ⊢
    unfold lexL
    dsimp only
    rw [h3, if_neg (by decide), if_neg (by decide), if_neg (by decide), if_pos rfl]
    have hrn : runeNum (b :: (t ++ c :: r)) = (0, 0) := by
      unfold runeNum
      rw [if_neg]
      intro h
      cases t with
      | nil =>
        have : c = 39 := by simpa using (List.cons.inj (List.cons.inj h).2).1
        rcases hc with rfl | rfl | rfl <;> exact absurd this (by decide)
      | cons d u =>
        have h4 : d = 39 := (List.cons.inj (List.cons.inj h).2).1
        rw [List.all_cons, Bool.and_eq_true] at hd
        rw [h4] at hd
        exact absurd hd.2.1 (by decide)
    unfold numberL
    rw [hrn, if_neg (by decide), hsp]
    have htake : (b :: (t ++ c :: r)).take (b :: t).length = b :: t := by
      rw [← List.cons_append, List.take_append_of_le_length (Nat.le_refl _), List.take_length]
    rw [htake, hread.1, hread.2, if_pos rfl, hw]
/-- A list of numbers as the law writes it, without the bracket ahead: commas between. -/
def numsL : List Int → List UInt8
  | [] => []
  | [n] => Lib.itoa n
  | n :: l => Lib.itoa n ++ 44 :: numsL l
theorem numsL_snoc : ∀ (l : List Int) (n : Int), numsL (l ++ [n]) = if l = [] then Lib.itoa n else numsL l ++ 44 :: Lib.itoa n
  | [], n => rfl
  | [m], n => rfl
  | m :: k :: l, n => by
    show Lib.itoa m ++ 44 :: numsL ((k :: l) ++ [n]) = _
    rw [numsL_snoc (k :: l) n, if_neg (by simp), if_neg (by simp)]
    show _ = (Lib.itoa m ++ 44 :: numsL (k :: l)) ++ 44 :: Lib.itoa n
    rw [List.append_assoc]
    rfl
/-- Its tokens, from a place on. -/
def numT : Nat → List Int → List Tok
  | _, [] => []
  | o, [n] => [⟨5, [], n, o⟩]
  | o, n :: l => ⟨5, [], n, o⟩ :: ⟨6, [44], 0, o + (Lib.itoa n).length⟩ :: numT (o + (Lib.itoa n).length + 1) l
theorem lex_comma (l : List UInt8) : lexL (44 :: l) = ⟨6, [44], 0, 1⟩ := rfl
theorem cut_num {n : Int} (h0 : 0 ≤ n) (hn : In64 n) {c : UInt8} {r : List UInt8} (hc : c = 44 ∨ c = 93 ∨ c = 124) (o : Nat) (g : Bool) : cutL (Lib.itoa n ++ c :: r) o g = (cutL (c :: r) (o + (Lib.itoa n).length) false).pre [⟨5, [], n, o⟩] := by
  have hne : (Lib.itoa n).length ≠ 0 := by
    intro e
    have := List.eq_nil_of_length_eq_zero e
    rw [itoa_pos n h0] at this
    exact decDigits_ne _ this
  rw [cutL_step _ _ _ (by simp), lex_num n h0 hn c r hc]
  dsimp only
  rw [if_neg hne, if_neg (by decide), List.drop_append_of_le_length (Nat.le_refl _), List.drop_length, List.nil_append]
  have ek : kindL g ⟨5, [], n, (Lib.itoa n).length⟩ = 5 := by unfold kindL; rw [if_neg (by simp)]
  rw [ek]
  rfl
theorem cut_nums : ∀ (l : List Int), l ≠ [] → (∀ n ∈ l, 0 ≤ n ∧ In64 n) → ∀ (c : UInt8) (r : List UInt8), c = 93 ∨ c = 124 → ∀ (o : Nat) (g : Bool), cutL (numsL l ++ c :: r) o g = (cutL (c :: r) (o + (numsL l).length) false).pre (numT o l)
  | [], h, _, _, _, _, _, _ => absurd rfl h
  | [n], _, hn, c, r, hc, o, g => cut_num (hn n (.head _)).1 (hn n (.head _)).2 (.inr hc) o g
  | n :: m :: l, _, hn, c, r, hc, o, g => by
    show cutL ((Lib.itoa n ++ 44 :: numsL (m :: l)) ++ c :: r) o g = _
    rw [List.append_assoc, List.cons_append, cut_num (hn n (.head _)).1 (hn n (.head _)).2 (.inl rfl), cutL_step _ _ _ (by simp), lex_comma, if_neg (by decide), if_neg (by decide)]
    show ((cutL (numsL (m :: l) ++ c :: r) (o + (Lib.itoa n).length + 1) false).pre [⟨6, [44], 0, o + (Lib.itoa n).length⟩]).pre _ = _
    rw [cut_nums (m :: l) (by simp) (fun x hx => hn x (.tail _ hx)) c r hc, pre_pre, pre_pre]
    show (cutL (c :: r) (o + (Lib.itoa n).length + 1 + (numsL (m :: l)).length) false).pre _ = (cutL (c :: r) (o + (Lib.itoa n ++ 44 :: numsL (m :: l)).length) false).pre _
    rw [List.length_append, List.length_cons, show o + (Lib.itoa n).length + 1 + (numsL (m :: l)).length = o + ((Lib.itoa n).length + ((numsL (m :: l)).length + 1)) from by omega]
    rfl
/-- The terms of a list of numbers. -/
def numTm (l : List Int) : List Tm := l.map intT
theorem cut_list1 (l : List Int) (h : l ≠ []) (hn : ∀ n ∈ l, 0 ≤ n ∧ In64 n) : ∃ p q, cutL (91 :: (numsL l ++ [93])) 0 false = .good (⟨6, [91], 0, 0⟩ :: (numT 1 l ++ [⟨6, [93], 0, p⟩, ⟨9, [], 0, q⟩])) := by
  refine ⟨1 + (numsL l).length, 1 + (numsL l).length + 1, ?_⟩
  have h9 : cutL [93] (1 + (numsL l).length) false = .good [⟨6, [93], 0, 1 + (numsL l).length⟩, ⟨9, [], 0, 1 + (numsL l).length + 1⟩] := by
    rw [cutL_step _ _ _ (by simp), show lexL [93] = ⟨6, [93], 0, 1⟩ from rfl, if_neg (by decide), if_neg (by decide)]
    rfl
  rw [cutL_step _ _ _ (by simp), show lexL (91 :: (numsL l ++ [93])) = ⟨6, [91], 0, 1⟩ from rfl, if_neg (by decide), if_neg (by decide)]
  show (cutL (numsL l ++ 93 :: []) (0 + 1) false).pre [⟨6, [91], 0, 0⟩] = _
  rw [cut_nums l h hn 93 [] (.inl rfl), Nat.zero_add, h9]
  rfl
theorem cut_list2 (l : List Int) (h : l ≠ []) (hn : ∀ n ∈ l, 0 ≤ n ∧ In64 n) : ∃ p q r s, cutL (91 :: (numsL l ++ [124, 90, 93])) 0 false = .good (⟨6, [91], 0, 0⟩ :: (numT 1 l ++ [⟨6, [124], 0, p⟩, ⟨4, [90], 0, q⟩, ⟨6, [93], 0, r⟩, ⟨9, [], 0, s⟩])) := by
  refine ⟨1 + (numsL l).length, 1 + (numsL l).length + 1, 1 + (numsL l).length + 2, 1 + (numsL l).length + 3, ?_⟩
  have h0 : cutL [124, 90, 93] 0 false = .good [⟨6, [124], 0, 0⟩, ⟨4, [90], 0, 1⟩, ⟨6, [93], 0, 2⟩, ⟨9, [], 0, 3⟩] := by kernel_rfl
  have h9 := cutL_shift [124, 90, 93] (1 + (numsL l).length) 0 false
  rw [h0] at h9
  rw [cutL_step _ _ _ (by simp), show lexL (91 :: (numsL l ++ [124, 90, 93])) = ⟨6, [91], 0, 1⟩ from rfl, if_neg (by decide), if_neg (by decide)]
  show (cutL (numsL l ++ 124 :: [90, 93]) (0 + 1) false).pre [⟨6, [91], 0, 0⟩] = _
  rw [cut_nums l h hn 124 [90, 93] (.inr rfl)]
  rw [Nat.zero_add] at h9 ⊢
  rw [h9]
  show Out.good (_ :: (numT 1 l ++ [⟨6, [124], 0, 0 + (1 + (numsL l).length)⟩, ⟨4, [90], 0, 1 + (1 + (numsL l).length)⟩, ⟨6, [93], 0, 2 + (1 + (numsL l).length)⟩, ⟨9, [], 0, 3 + (1 + (numsL l).length)⟩])) = _
  rw [Nat.zero_add, Nat.add_comm 1 (1 + _), Nat.add_comm 2 (1 + _), Nat.add_comm 3 (1 + _)]

/-! ### Reading -/
/-- What ends an element: a comma, a bracket, a bar. -/
def EndE (t : Tok) : Prop := t.kind = 6 ∧ (t.text = [44] ∨ t.text = [93] ∨ t.text = [124])
theorem infix_end {t : Tok} (h : EndE t) (r : R) (hr : t.infix = some r) : r.p = 1000 := by
  obtain ⟨hk, ht⟩ := h
  have ha : t.isAtom = false := by unfold Tok.isAtom; rw [hk]; rfl
  unfold Tok.infix Tok.isP at hr
  rw [ha, hk] at hr
  rcases ht with ht | ht | ht <;> rw [ht] at hr
  · have h0 : (opR [44] 3).map (fun r => r.p) = some 1000 := by kernel_rfl
    rw [if_pos (by decide)] at hr
    rw [hr] at h0
    exact Option.some.inj h0
  · cases hr
  · cases hr
theorem more_end {W : Rdr} {f : Nat} {t : Tm} {pri : Int} {e : Tok} {Z : List Tok} {ns : Nms} (h : EndE e) : moreR W 999 f t pri (e :: Z) ns = .ok t (e :: Z) ns := by
  cases f with
  | zero => rfl
  | succ f =>
    unfold moreR
    rw [fstT_cons]
    split
    · rfl
    · rename_i r hr
      rw [if_pos (.inl (by rw [infix_end h r hr]; decide))]
theorem term_num (m : Nat) (n : Int) (h0 : 0 ≤ n) (o : Nat) (e : Tok) (Z : List Tok) (ns : Nms) (h : EndE e) : termR (m + 1) 999 (⟨5, [], n, o⟩ :: e :: Z) ns = .ok (intT n) (e :: Z) ns := by
  unfold termR
  have hb : beginR (termR m) 999 (⟨5, [], n, o⟩ :: e :: Z) ns = .ok (intT n, 0) (e :: Z) ns := by
    unfold beginR
    rw [fstT_cons, if_neg (by show ¬ false = true; decide), if_neg (by show ¬ (5 : Int) = 4; decide), if_neg (by show ¬ ((5 : Int) = 6 ∨ (5 : Int) = 7); decide), if_pos ⟨rfl, h0⟩]
    rfl
  rw [hb]
  show moreR (termR m) 999 _ (intT n) 0 (e :: Z) ns = _
  exact more_end h
theorem many_nums (m : Nat) (e : Tok) (Z : List Tok) (ns : Nms) (he : EndE e) (hne : e.text ≠ [44]) : ∀ (l : List Int), l ≠ [] → (∀ n ∈ l, 0 ≤ n) → ∀ (o : Nat) (acc : List Tm) (f : Nat), l.length ≤ f → acc.length + l.length ≤ 4096 →
    (termR (m + 1) 999 (numT o l ++ e :: Z) ns).bind (fun t ts' ns' => manyGo (termR (m + 1)) 4096 f (acc ++ [t]) ts' ns') = .ok (acc ++ l.map intT) (e :: Z) ns
  | [], h, _, _, _, _, _, _ => absurd rfl h
  | [n], _, hn, o, acc, f, hf, hl => by
    show (termR (m + 1) 999 (⟨5, [], n, o⟩ :: e :: Z) ns).bind _ = _
    rw [term_num m n (hn n (.head _)) o e Z ns he, Rd.bind_ok]
    cases f with
    | zero => rfl
    | succ f =>
      unfold manyGo
      have : (fstT (e :: Z)).isP [44] = false := by
        rw [fstT_cons]; unfold Tok.isP
        have h2 : (e.text == [44]) = false := by simpa using hne
        rw [h2, Bool.and_false]
      rw [this, if_neg (by decide)]
      rfl
  | n :: k :: l, _, hn, o, acc, f, hf, hl => by
    show (termR (m + 1) 999 (⟨5, [], n, o⟩ :: ⟨6, [44], 0, o + (Lib.itoa n).length⟩ :: (numT (o + (Lib.itoa n).length + 1) (k :: l) ++ e :: Z)) ns).bind _ = _
    rw [term_num m n (hn n (.head _)) o _ _ ns ⟨rfl, .inl rfl⟩, Rd.bind_ok]
    simp only [List.length_cons] at hf hl
    obtain ⟨f', rfl⟩ : ∃ f', f = f' + 1 := ⟨f - 1, by omega⟩
    unfold manyGo
    rw [fstT_cons, if_pos (by rfl), List.length_append, List.length_singleton, if_neg (by omega), List.tail_cons]
    rw [many_nums m e Z ns he hne (k :: l) (by simp) (fun x hx => hn x (.tail _ hx)) _ (acc ++ [intT n]) f' (by simp only [List.length_cons]; omega) (by simp only [List.length_append, List.length_cons, List.length_nil]; omega)]
    rw [List.append_assoc]
    rfl
theorem numT_len : ∀ (l : List Int) (o : Nat), l.length ≤ (numT o l).length
  | [], _ => Nat.le_refl _
  | [n], _ => Nat.le_refl _
  | n :: k :: l, o => by
    show (k :: l).length + 1 ≤ (numT _ (k :: l)).length + 1 + 1
    have := numT_len (k :: l) (o + (Lib.itoa n).length + 1)
    omega
theorem numT_two : ∀ (l : List Int) (o : Nat), l ≠ [] → l.length + l.length ≤ (numT o l).length + 1
  | [], _, h => absurd rfl h
  | [n], _, _ => Nat.le_refl _
  | n :: k :: l, o, _ => by
    show (k :: l).length + 1 + ((k :: l).length + 1) ≤ (numT _ (k :: l)).length + 1 + 1 + 1
    have := numT_two (k :: l) (o + (Lib.itoa n).length + 1) (by simp)
    omega
theorem numT_first (l : List Int) (o : Nat) (Z : List Tok) (h : l ≠ []) : ∃ n U, numT o l ++ Z = ⟨5, [], n, o⟩ :: U ∧ l.length ≤ U.length + 1 := by
  match l with
  | [n] => exact ⟨n, Z, rfl, by simp⟩
  | n :: k :: l =>
    refine ⟨n, ⟨6, [44], 0, o + (Lib.itoa n).length⟩ :: (numT (o + (Lib.itoa n).length + 1) (k :: l) ++ Z), rfl, ?_⟩
    have := numT_len (k :: l) (o + (Lib.itoa n).length + 1)
    simp only [List.length_cons, List.length_append] at *
    omega
theorem manyR_nums (m : Nat) (e : Tok) (Z : List Tok) (ns : Nms) (he : EndE e) (hne : e.text ≠ [44]) (l : List Int) (h : l ≠ []) (hn : ∀ n ∈ l, 0 ≤ n) (hl : l.length ≤ 50) (o : Nat) :
    manyR (termR (m + 1)) 4096 (numT o l ++ e :: Z) ns = .ok (l.map intT) (e :: Z) ns := by
  unfold manyR
  have key : ∀ t ts' ns', termR (m + 1) 999 (numT o l ++ e :: Z) ns = .ok t ts' ns' → l.length ≤ ts'.length := by
    intro t ts' ns' hx
    match l, h with
    | [n], _ =>
      rw [show numT o [n] ++ e :: Z = ⟨5, [], n, o⟩ :: e :: Z from rfl, term_num m n (hn n (.head _)) o e Z ns he] at hx
      injection hx with _ h2 _
      rw [← h2]; simp
    | n :: k :: l, _ =>
      rw [show numT o (n :: k :: l) ++ e :: Z = ⟨5, [], n, o⟩ :: ⟨6, [44], 0, o + (Lib.itoa n).length⟩ :: (numT (o + (Lib.itoa n).length + 1) (k :: l) ++ e :: Z) from rfl, term_num m n (hn n (.head _)) o _ _ ns ⟨rfl, .inl rfl⟩] at hx
      injection hx with _ h2 _
      rw [← h2]
      have := numT_len (k :: l) (o + (Lib.itoa n).length + 1)
      simp only [List.length_cons, List.length_append] at *
      omega
  cases hx : termR (m + 1) 999 (numT o l ++ e :: Z) ns with
  | bad b =>
    have := many_nums m e Z ns he hne l h hn o [] l.length (Nat.le_refl _) (by simp; omega)
    rw [hx] at this
    cases this
  | ok t ts' ns' =>
    have h1 := key t ts' ns' hx
    have := many_nums m e Z ns he hne l h hn o [] ts'.length h1 (by simp; omega)
    rw [hx] at this
    exact this
theorem deep_cons : ∀ (l : List Int) (e : Tm), e.deep = 1 → (consT (l.map intT) e).deep = l.length + 1
  | [], e, he => he
  | n :: l, e, he => by
    show (compT [46] [intT n, consT (l.map intT) e]).deep = _
    rw [Tm.deep_eq]
    show max (intT n).deep (max (consT (l.map intT) e).deep 0) + 1 = _
    rw [deep_cons l e he, show (intT n).deep = 1 from rfl, List.length_cons]
    omega
theorem query_end {T : List Tok} {t : Tm} {ts : List Tok} {ns : Nms} (h : termR T.length 1200 T [] = .ok t ts ns) (h9 : (fstT ts).kind = 9) (hd : t.deep ≤ 60) : queryT T = .ok (t, ns) := by
  unfold queryT wholeR
  rw [h]
  dsimp only
  rw [if_neg (fun c => by cases c.2), if_neg (by omega), if_neg (by rw [h9]; decide)]
  dsimp only
  rw [if_pos h9]
theorem term_square (m : Nat) (U : List Tok) (t : Tm) (q : Nat) (ns : Nms) (Z : List Tok) (p : Nat) (hU : (fstT U).isP [93] = false) (h : listR (termR m) U [] = .ok t (⟨6, [93], 0, p⟩ :: ⟨9, [], 0, q⟩ :: Z) ns) :
    termR (m + 1) 1200 (⟨6, [91], 0, 0⟩ :: U) [] = .ok t (⟨9, [], 0, q⟩ :: Z) ns := by
  unfold termR
  have hb : beginR (termR m) 1200 (⟨6, [91], 0, 0⟩ :: U) [] = .ok (t, 0) (⟨9, [], 0, q⟩ :: Z) ns := by
    unfold beginR
    rw [fstT_cons, if_neg (by decide), if_neg (by decide), if_pos (.inl rfl)]
    unfold bracketR
    rw [fstT_cons, if_neg (by decide), if_pos (by decide), List.tail_cons]
    unfold squareR
    rw [hU, if_neg (by decide), h]
    rfl
  rw [hb]
  show moreR (termR m) 1200 _ t 0 (⟨9, [], 0, q⟩ :: Z) ns = _
  rfl
theorem first_num (l : List Int) (o : Nat) (Z : List Tok) (h : l ≠ []) : (fstT (numT o l ++ Z)).isP [93] = false := by
  obtain ⟨n, U, hU, _⟩ := numT_first l o Z h
  rw [hU]; rfl
theorem itoa_len (n : Int) (h0 : 0 ≤ n) (hn : In64 n) : (Lib.itoa n).length ≤ 20 := by
  rw [itoa_pos n h0, Lib.decDigits_length]
  exact Lib.nDigits_le20 _ (by unfold In64 at hn; omega)
theorem numsL_len : ∀ (l : List Int), (∀ n ∈ l, 0 ≤ n ∧ In64 n) → (numsL l).length ≤ 21 * l.length
  | [], _ => Nat.le_refl _
  | [n], hn => by have := itoa_len n (hn n (.head _)).1 (hn n (.head _)).2; show (Lib.itoa n).length ≤ 21; omega
  | n :: k :: l, hn => by
    have h1 := itoa_len n (hn n (.head _)).1 (hn n (.head _)).2
    have h2 := numsL_len (k :: l) (fun x hx => hn x (.tail _ hx))
    show (Lib.itoa n ++ 44 :: numsL (k :: l)).length ≤ _
    simp only [List.length_append, List.length_cons] at *
    omega
theorem query_list1 (l : List Int) (h : l ≠ []) (hl : l.length ≤ 50) (hn : ∀ n ∈ l, 0 ≤ n ∧ In64 n) : queryL (91 :: (numsL l ++ [93])) = .ok (consT (l.map intT) (atomT [91, 93]), []) := by
  obtain ⟨p, q, hc⟩ := cut_list1 l h hn
  have hlen := numsL_len l hn
  unfold queryL cutThen
  rw [if_neg (by simp only [List.length_cons, List.length_append, List.length_nil]; omega), hc]
  have hT : (numT 1 l ++ ([⟨6, [93], 0, p⟩, ⟨9, [], 0, q⟩] : List Tok)).length = (numT 1 l).length + 1 + 1 := by rw [List.length_append]; rfl
  refine query_end (ts := [⟨9, [], 0, q⟩]) ?_ rfl (by rw [deep_cons l _ rfl]; omega)
  rw [List.length_cons, hT]
  refine term_square _ _ _ q [] [] p (first_num l 1 _ h) ?_
  unfold listR
  rw [manyR_nums _ ⟨6, [93], 0, p⟩ [⟨9, [], 0, q⟩] [] ⟨rfl, .inr (.inl rfl)⟩ (by show ([93] : List UInt8) ≠ [44]; decide) l h (fun n hx => (hn n hx).1) hl 1]
  rfl
theorem query_list2 (l : List Int) (h : l ≠ []) (hl : l.length ≤ 50) (hn : ∀ n ∈ l, 0 ≤ n ∧ In64 n) : queryL (91 :: (numsL l ++ [124, 90, 93])) = .ok (consT (l.map intT) (varT 0), [[90]]) := by
  obtain ⟨p, q, r, s, hc⟩ := cut_list2 l h hn
  have hlen := numsL_len l hn
  unfold queryL cutThen
  rw [if_neg (by simp only [List.length_cons, List.length_append, List.length_nil]; omega), hc]
  have hT : (numT 1 l ++ ([⟨6, [124], 0, p⟩, ⟨4, [90], 0, q⟩, ⟨6, [93], 0, r⟩, ⟨9, [], 0, s⟩] : List Tok)).length = (numT 1 l).length + 3 + 1 := by rw [List.length_append]; rfl
  refine query_end (ts := [⟨9, [], 0, s⟩]) ?_ rfl (by rw [deep_cons l _ rfl]; omega)
  rw [List.length_cons, hT]
  refine term_square _ _ _ s [[90]] [] r (first_num l 1 _ h) ?_
  unfold listR
  rw [manyR_nums _ ⟨6, [124], 0, p⟩ [⟨4, [90], 0, q⟩, ⟨6, [93], 0, r⟩, ⟨9, [], 0, s⟩] [] ⟨rfl, .inr (.inr rfl)⟩ (by show ([124] : List UInt8) ≠ [44]; decide) l h (fun n hx => (hn n hx).1) hl 1, Rd.bind_ok]
  have hv : termR ((numT 1 l).length + 3 + 1) 999 [⟨4, [90], 0, q⟩, ⟨6, [93], 0, r⟩, ⟨9, [], 0, s⟩] [] = .ok (varT 0) [⟨6, [93], 0, r⟩, ⟨9, [], 0, s⟩] [[90]] := by
    unfold termR
    have hb : beginR (termR ((numT 1 l).length + 3)) 999 [⟨4, [90], 0, q⟩, ⟨6, [93], 0, r⟩, ⟨9, [], 0, s⟩] [] = .ok (varT 0, 0) [⟨6, [93], 0, r⟩, ⟨9, [], 0, s⟩] [[90]] := by
      unfold beginR
      rw [fstT_cons, if_neg (by show ¬ false = true; decide), if_pos rfl]
      rfl
    rw [hb]
    exact more_end ⟨rfl, .inr (.inl rfl)⟩
  unfold tailR
  rw [fstT_cons, if_pos (by rfl), List.tail_cons, hv]
  rfl
end Go.Proofs.YtlbdocdjijhkbaaGreatDoor
