import Derived.Test.YtinefdlkajnomaaGreatDoorReadM
import Derived.Test.YtinefdlkajnomaaGreatDoorTkM
import Derived.Test.YtinefdlkajnomaaGreatDoorTermMay
namespace Go.Proofs.YtinefdlkajnomaaGreatDoor
open Go.RowKit
inductive Sim (d : Nat) (e e' : Tok) (Z Z' : List Tok) : List Tok -> List Tok -> Prop where
 | stop : Sim d e e' Z Z' (e :: Z) (e' :: Z')
 | cons (t : Tok) (l l' : List Tok) : t.kind ≠ 8 -> t.kind ≠ 9 -> Sim d e e' Z Z' l l' -> Sim d e e' Z Z' (t :: l) (t.sh d :: l')
section
variable {d : Nat} {e e' : Tok} {Z Z' : List Tok}
structure EndsT (e e' : Tok) : Prop where
 one : e.kind = 8 \/ e.kind = 9
 two : e'.kind = 8 \/ e'.kind = 9 \/ (e'.kind = 6 /\ e'.text = [41])
theorem isP_no {t : Tok} {l : List UInt8} (h : t.kind ≠ 6) : t.isP l = false := by
 unfold Tok.isP; rw [beq_eq_false_iff_ne.2 h]; rfl
theorem EndsT.isP1 (h : EndsT e e') (l : List UInt8) : e.isP l = false := isP_no (by have := h.one; omega)
theorem EndsT.isP2 (h : EndsT e e') (l : List UInt8) (hl : l ≠ [41]) : e'.isP l = false := by
 rcases h.two with h1 | h1 | ⟨_, h2⟩
 · exact isP_no (by omega)
 · exact isP_no (by omega)
 · unfold Tok.isP;rw [h2];have : (([41] : List UInt8) == l) = false := beq_eq_false_iff_ne.2 (fun e => hl e.symm);rw [this]; simp
theorem EndsT.alone1 (h : EndsT e e') (c : Tok) : aloneT e c = true := by
 unfold aloneT;rw [if_pos (by simp only [Bool.or_eq_true, beq_iff_eq]; exact h.one)]
theorem EndsT.alone2 (h : EndsT e e') (c : Tok) : aloneT e' c = true := by
 unfold aloneT;rcases h.two with h1 | h1 | ⟨h1, h2⟩
 · rw [h1]; rfl
 · rw [h1]; rfl
 · rw [h1, h2]; rfl
def SimW (d : Nat) (e e' : Tok) (Z Z' : List Tok) (W W' : Rdr) (m m' : Nat) : Prop :=
 ∀ p ts us ns t ts' ns', ts.length <= m -> us.length <= m' -> Fine ts -> Fine us -> ns.length <= 200 -> Sim d e e' Z Z' ts us -> W p ts ns = .ok t ts' ns' -> ∃ us', W' p us ns = .ok t us' ns' /\ Sim d e e' Z Z' ts' us'
theorem Sim.isP {ts us : List Tok} (h : Sim d e e' Z Z' ts us) (he : EndsT e e') (l : List UInt8) (hl : l ≠ [41]) : (fstT us).isP l = (fstT ts).isP l := by
 cases h with
 | stop => rw [fstT_cons, fstT_cons, he.isP1, he.isP2 _ hl]
 | cons t l l' _ _ hs => rfl
theorem Sim.behind {ts us : List Tok} (h : Sim d e e' Z Z' ts us) (he : EndsT e e') : ((fstT us).kind = 7 ↔ (fstT ts).kind = 7) /\ ((fstT us).kind = 5 ↔ (fstT ts).kind = 5) /\ ((fstT ts).kind = 5 -> (fstT us).pos = (fstT ts).pos + d /\ (fstT us).n = (fstT ts).n) /\ aloneT (fstT us) (fstT us.tail) = aloneT (fstT ts) (fstT ts.tail) := by
 cases h with
 | stop =>
  rw [fstT_cons, fstT_cons, he.alone1, he.alone2];have h1 := he.one;have h2 := he.two;exact ⟨⟨fun h => by omega, fun h => by omega⟩, ⟨fun h => by omega, fun h => by omega⟩, fun h => by omega, rfl⟩
 | cons t l l' _ _ hs =>
  refine ⟨Iff.rfl, Iff.rfl, fun _ => ⟨rfl, rfl⟩, ?_⟩;show aloneT (t.sh d) (fstT l') = aloneT t (fstT l)
  have hc : ((fstT l').kind == 7) = ((fstT l).kind == 7) := by
   cases hs with
   | stop =>
    rw [fstT_cons, fstT_cons];have h1 := he.one;have h2 := he.two;rw [beq_eq_false_iff_ne.2 (by omega), beq_eq_false_iff_ne.2 (by omega)]
   | cons t2 l2 l2' _ _ _ => rfl
  unfold aloneT;rw [hc];rfl
end
theorem checkL_len {l : List UInt8} (h : checkL l = true) : l.length <= 255 := by
 unfold checkL at h;simp only [Bool.and_eq_true, decide_eq_true_eq] at h
 exact h.1
theorem rune_le (l : List UInt8) : (Lib.decodeL l).1 <= 1114111 := by
 have hN := Lib.decodeL_N l;have hs := Lib.decodeN_shape l.length (l.getD 0 0).toNat (l.getD 1 0).toNat (l.getD 2 0).toNat (l.getD 3 0).toNat;rw [<- hN] at hs;have hb : ∀ i, (l.getD i 0).toNat < 256 := fun i => (l.getD i 0).toNat_lt;have h0 := hb 0;rcases hs with ⟨a, e⟩ | ⟨_, _, _, a, e⟩ | ⟨_, _, _, _, a, b, e⟩ | ⟨_, _, _, _, _, a, b, e⟩ | e
 all_goals (rw [e]; simp only; omega)
theorem runeB_in (r : List UInt8) : 0 <= (runeB r).1 /\ (runeB r).1 <= 1114111 := by
 unfold runeB;split
 · exact ⟨by decide, by decide⟩
 · split
   · exact ⟨by decide, by decide⟩
   · have := rune_le r;exact ⟨by show (0 : Int) <= ((Lib.decodeL r).1 : Int); omega, by show ((Lib.decodeL r).1 : Int) <= _; omega⟩
theorem runeNum_in (r : List UInt8) : 0 <= (runeNum r).1 /\ (runeNum r).1 <= 1114111 := by
 unfold runeNum;split
 · exact runeB_in _
 · exact ⟨by decide, by decide⟩
theorem readV_neg (l : List UInt8) : -9223372036854775808 <= readV (45 :: l) /\ readV (45 :: l) <= 0 := by
 unfold readV;split
 · exact ⟨by decide, by decide⟩
 · rename_i h
   have hd : (body (45 :: l)).all isDig = true := by
    cases hh : (body (45 :: l)).all isDig with
    | true => rfl
    | false => exact absurd (.inr hh) h
   have hv := val_nonneg hd;have hn : readN (45 :: l) = -(val (body (45 :: l))) := by
    unfold readN;rw [if_pos (show neg (45 :: l) = true from rfl)]
   rw [hn];unfold chkV;split <;> omega
theorem wrap64_pos {x : Int} (h0 : 0 <= x) (h1 : x <= 9223372036854775807) : wrap64 x = x := by
 unfold wrap64; omega
theorem numberL_in (l : List UInt8) : In64 (numberL l).n /\ ((numberL l).n < 0 -> (numberL l).n = -9223372036854775808) /\ (numberL l).text = [] := by
 unfold numberL;split
 · have := runeNum_in l;refine ⟨⟨?_, ?_⟩, fun h => ?_, rfl⟩
   · show _ <= (runeNum l).1; omega
   · show (runeNum l).1 <= _; omega
   · have h' : (runeNum l).1 < 0 := h;omega
 · split
   · have hv := readV_neg (l.take (spanL digR l));generalize readV (45 :: l.take (spanL digR l)) = x at *;show In64 (wrap64 (-x)) /\ (wrap64 (-x) < 0 -> wrap64 (-x) = -9223372036854775808) /\ _
     by_cases hx : x = -9223372036854775808
     · have hw : wrap64 (-x) = -9223372036854775808 := by rw [hx]; unfold wrap64; omega
       rw [hw];exact ⟨⟨by decide, by decide⟩, fun _ => rfl, rfl⟩
     · rw [wrap64_pos (by omega) (by omega)];exact ⟨⟨by omega, by omega⟩, fun h => by omega, rfl⟩
   · exact ⟨⟨by decide, by decide⟩, fun h => absurd h (by decide), rfl⟩
theorem namedL_check (x : Lx) (h : (namedL x).kind ≠ 0) : checkL (namedL x).text = true /\ namedL x = x := by
 unfold namedL at h ⊢;split
 · rename_i hc; exact ⟨hc, rfl⟩
 · rename_i hc
   rw [if_neg hc] at h;exact absurd rfl h
theorem cls67 (b : UInt8) (h : cls (b.toNat : Int) = 6 \/ cls (b.toNat : Int) = 7) (h1 : ¬ (b = 33 \/ b = 59)) : b = 40 \/ b = 41 \/ b = 44 \/ b = 91 \/ b = 93 \/ b = 123 \/ b = 124 \/ b = 125 := by
 have key : ∀ b : Fin 256, (cls (b.val : Int) = 6 \/ cls (b.val : Int) = 7) -> b.val = 33 \/ b.val = 59 \/ b.val = 40 \/ b.val = 41 \/ b.val = 44 \/ b.val = 91 \/ b.val = 93 \/ b.val = 123 \/ b.val = 124 \/ b.val = 125 := by decide +kernel
 have hk := key ⟨b.toNat, b.toNat_lt⟩ h;have e : ∀ n : Nat, b.toNat = n -> b = UInt8.ofNat n := fun n hn => by rw [<- hn, UInt8.ofNat_toNat]
 rcases hk with hk | hk | hk | hk | hk | hk | hk | hk | hk | hk
 · exact absurd (.inl (e _ hk)) h1
 · exact absurd (.inr (e _ hk)) h1
 · exact .inl (e _ hk)
 · exact .inr (.inl (e _ hk))
 · exact .inr (.inr (.inl (e _ hk)))
 · exact .inr (.inr (.inr (.inl (e _ hk))))
 · exact .inr (.inr (.inr (.inr (.inl (e _ hk)))))
 · exact .inr (.inr (.inr (.inr (.inr (.inl (e _ hk))))))
 · exact .inr (.inr (.inr (.inr (.inr (.inr (.inl (e _ hk)))))))
 · exact .inr (.inr (.inr (.inr (.inr (.inr (.inr (e _ hk)))))))
structure LexOk (l : List UInt8) (x : Lx) : Prop where
 kind : 1 <= x.kind /\ x.kind <= 8 /\ x.kind ≠ 7
 name : x.kind = 1 \/ x.kind = 2 \/ x.kind = 3 -> checkL x.text = true
 punct : x.kind = 6 -> ∃ b : UInt8, x.text = [b] /\ (b = 40 \/ b = 41 \/ b = 44 \/ b = 91 \/ b = 93 \/ b = 123 \/ b = 124 \/ b = 125)
 n : In64 x.n
 neg : x.n < 0 -> x.n = -9223372036854775808
 size : x.text.length <= max l.length 255
theorem lex_fine (l : List UInt8) (hk : (lexL l).kind ≠ 0) : LexOk l (lexL l) := by
 have z : In64 0 := ⟨by decide, by decide⟩;cases l with
 | nil => exact absurd rfl hk
 | cons b t =>
  have htake : ∀ k, ((b :: t).take k).length <= max (b :: t).length 255 := fun k => by rw [List.length_take]; omega
  have hnm : ∀ x : Lx, (namedL x).kind ≠ 0 -> (x.kind = 1 \/ x.kind = 2 \/ x.kind = 3 \/ x.kind = 8) -> x.n = 0 -> LexOk (b :: t) (namedL x) := fun x h0 h1 h2 => by
   obtain ⟨hc, he⟩ := namedL_check x h0;rw [he] at hc ⊢;have := checkL_len hc;exact ⟨by omega, fun _ => hc, fun h => by omega, by rw [h2]; exact z, fun h => by omega, by omega⟩
  unfold lexL at hk ⊢;dsimp only at hk ⊢;split at hk
  · exact absurd rfl hk
  rename_i h5
  rw [if_neg h5];split at hk
  · rename_i h1
    rw [if_pos h1];exact hnm _ hk (.inl rfl) rfl
  rename_i h1
  rw [if_neg h1];split at hk
  · rename_i h2
    rw [if_pos h2];exact ⟨⟨(by decide : (1 : Int) <= 4), (by decide : (4 : Int) <= 8), (by decide : (4 : Int) ≠ 7)⟩, fun h => absurd h (by show ¬ ((4 : Int) = 1 \/ (4 : Int) = 2 \/ (4 : Int) = 3); decide), fun h => absurd h (by show (4 : Int) ≠ 6; decide), z, fun h => absurd h (by show ¬ (0 : Int) < 0; decide), htake _⟩
  rename_i h2
  rw [if_neg h2];split at hk
  · rename_i h3
    rw [if_pos h3];obtain ⟨a1, a2, a3⟩ := numberL_in (b :: t);have hkd : (numberL (b :: t)).kind = 5 := by
     revert hk
     unfold numberL;split
     · exact fun _ => rfl
     · split
       · exact fun _ => rfl
       · exact fun h => absurd rfl h
    exact ⟨by rw [hkd]; decide, fun h => by rw [hkd] at h; exact absurd h (by decide), fun h => by rw [hkd] at h; exact absurd h (by decide), a1, a2, by rw [a3]; exact Nat.zero_le _⟩
  rename_i h3
  rw [if_neg h3];split at hk
  · rename_i h4
    rw [if_pos h4];split at hk
    · exfalso
      revert hk
      unfold remarkL;split
      · exact fun h => absurd rfl h
      · exact fun h => absurd rfl h
    · rename_i hr
      rw [if_neg hr];refine hnm _ hk ?_ rfl;unfold signsL;dsimp only;split
      · exact .inr (.inr (.inr rfl))
      · exact .inr (.inr (.inl rfl))
  rename_i h4
  rw [if_neg h4];split at hk
  · rename_i h8
    rw [if_pos h8];unfold quotedL at hk ⊢;split at hk
    · rename_i t2 k hq
      exact hnm _ hk (.inr (.inl rfl)) rfl
    · rename_i hq
      refine absurd ?_ hk;unfold namedL;split <;> rfl
  rename_i h8
  rw [if_neg h8];split at hk
  · rename_i h67
    rw [if_pos h67];unfold singleL;by_cases hb : b = 33 \/ b = 59
    · rw [if_pos hb];refine ⟨⟨(by decide : (1 : Int) <= 1), (by decide : (1 : Int) <= 8), (by decide : (1 : Int) ≠ 7)⟩, fun _ => ?_, fun h => absurd h (by show (1 : Int) ≠ 6; decide), z, fun h => absurd h (by show ¬ (0 : Int) < 0; decide), ?_⟩
      · rcases hb with rfl | rfl <;> decide +kernel
      · show 1 <= max (b :: t).length 255; omega
    · rw [if_neg hb];exact ⟨⟨(by decide : (1 : Int) <= 6), (by decide : (6 : Int) <= 8), (by decide : (6 : Int) ≠ 7)⟩, fun h => absurd h (by show ¬ ((6 : Int) = 1 \/ (6 : Int) = 2 \/ (6 : Int) = 3); decide), fun _ => ⟨b, rfl, cls67 b h67 hb⟩, z, fun h => absurd h (by show ¬ (0 : Int) < 0; decide), by show 1 <= max (b :: t).length 255; omega⟩
  rename_i h67
  rw [if_neg h67];split at hk
  · exact absurd rfl hk
  · exact absurd rfl hk
theorem tok_fine (l : List UInt8) (t : Bool) (o : Nat) (hk : (lexL l).kind ≠ 0) (hl : l.length <= 4096) (ho : o <= 4096) : TokOk ⟨kindL t (lexL l), (lexL l).text, (lexL l).n, o⟩ /\ kindL t (lexL l) ≠ 9 := by
 obtain ⟨k1, k2, k3, k4, k5, k6⟩ := lex_fine l hk;generalize lexL l = x at *;unfold kindL;by_cases h : t = true /\ x.text = [40] /\ x.kind = 6
 · rw [if_pos h];refine ⟨⟨(by decide : (1 : Int) <= 7 /\ (7 : Int) <= 9), fun h => absurd (isAtom_kind h) (by show ¬ ((7 : Int) = 1 \/ (7 : Int) = 2 \/ (7 : Int) = 3); decide), fun _ => ⟨40, h.2.1, .inl rfl⟩, k4, k5, by show x.text.length <= _; omega, ho⟩, by decide⟩
 · rw [if_neg h];refine ⟨⟨⟨k1.1, by show x.kind <= 9; omega⟩, fun h => k2 (isAtom_kind h), fun h => ?_, k4, k5, by show x.text.length <= _; omega, ho⟩, by omega⟩;rcases h with h | h
   · exact k3 h
   · exact absurd h k1.2.2
theorem cut_fine {l : List UInt8} {T : List Tok} (hl : l.length <= 4096) (h : cutL l 0 false = .good T) : Fine T := by
 have hle := lexL_le;have key : 0 + l.length <= 4096 -> Fine T := by
  revert h
  refine cut_ind (P := fun l o _ T => o + l.length <= 4096 -> Fine T) ?_ ?_ ?_ l 0 false T
  · intro o t ho;exact .stop _ ⟨(by decide : (1 : Int) <= 9 /\ (9 : Int) <= 9), fun h => absurd (isAtom_kind h) (by show ¬ ((9 : Int) = 1 \/ (9 : Int) = 2 \/ (9 : Int) = 3); decide), fun h => absurd h (by show ¬ ((9 : Int) = 6 \/ (9 : Int) = 7); decide), (by unfold In64; decide : In64 0), fun h => absurd h (by show ¬ (0 : Int) < 0; decide), Nat.zero_le _, by show o <= 4096; omega⟩ rfl
  · intro l o t T hl hw hk hc h ho;have := hle l;exact h (by rw [List.length_drop]; omega)
  · intro l o t U hl hw hk hc h ho;have := hle l;obtain ⟨h1, h2⟩ := tok_fine l t o hk (by omega) (by omega);exact .cons _ _ h1 h2 (h (by rw [List.length_drop]; omega))
 exact key (by omega)
inductive Wh where
 | syn (o : Nat)
 | deep (o : Nat)
 | ok (t : Tm) (ts : List Tok) (ns : Nms)
def wholeR (must : Bool) (ts : List Tok) : Wh :=
 match termR ts.length 1200 ts [] with
 | .bad o => .syn o
 | .ok t ts' ns =>
  if (fstT ts').kind ≠ 8 /\ must = true then .syn (fstT ts').pos
  else if 60 < t.deep then .deep (fstT ts).pos
  else .ok t (if (fstT ts').kind = 8 then ts'.tail else ts') ns
inductive Pr (α : Type) where
 | bad (o : Nat) (e : Int)
 | ok (a : α)
def progGo : Nat -> List Tm -> List Tok -> Pr (List Tm)
 | 0, l, _ => .ok l
 | f + 1, l, ts =>
  if (fstT ts).kind = 9 then .ok l
  else
   match wholeR true ts with
   | .syn o => .bad o 60
   | .deep o => .bad o 3
   | .ok t ts' _ => progGo f (l ++ [t]) ts'
def progT (ts : List Tok) : Pr (List Tm) := progGo ts.length [] ts
def queryT (ts : List Tok) : Pr (Tm × Nms) :=
 match wholeR false ts with
 | .syn o => .bad o 60
 | .deep o => .bad o 3
 | .ok t ts' ns => if (fstT ts').kind = 9 then .ok (t, ns) else .bad (fstT ts').pos 60
def cutThen {α : Type} (src : List UInt8) (f : List Tok -> Pr α) : Pr α :=
 if 4096 < src.length then .bad 0 2
 else
  match cutL src 0 false with
  | .bad o => .bad o 50
  | .good T => f T
def progL (src : List UInt8) : Pr (List Tm) := cutThen src progT
def queryL (src : List UInt8) : Pr (Tm × Nms) := cutThen src queryT
theorem wholeR_left {must : Bool} {ts : List Tok} (hf : Fine ts) {t : Tm} {ts' : List Tok} {ns : Nms} (h : wholeR must ts = .ok t ts' ns) : Fine ts' /\ ts'.length + t.size <= ts.length /\ ns.length <= 200 /\ t.deep <= 60 := by
 unfold wholeR at h;cases hc : termR ts.length 1200 ts [] with
 | bad o => rw [hc] at h; cases h
 | ok t1 ts1 ns1 =>
  rw [hc] at h;dsimp only at h;obtain ⟨a1, a2, a3⟩ := termR_good _ _ _ _ _ _ _ (Nat.le_refl _) hf (by simp) hc;split at h
  · cases h
  split at h
  · cases h
  rename_i hd
  injection h with h1 h2 h3;subst h1 h2 h3;refine ⟨?_, ?_, a3, by omega⟩
  · split
    · rename_i h8; exact (a1.tail (by rw [h8]; decide)).1
    · exact a1
  · split
    · rename_i h8; have := (a1.tail (by rw [h8]; decide)).2; omega
    · exact a2
theorem may_atom {s : List UInt8} (h : checkL s = true) : (atomT s).may = true := by
 rw [Tm.may_eq];show mayK 2 ⟨s.toArray⟩ 0 0 _ = true
 unfold mayK;rw [if_neg (by decide), if_pos rfl];simp [h]
theorem may_int (n : Int) : (intT n).may = true := by rw [Tm.may_eq]; rfl
theorem may_var (n : Nat) : (varT n).may = true := by
 rw [Tm.may_eq];show mayK 1 ⟨#[]⟩ (n : Nat) 0 _ = true
 unfold mayK;rw [if_pos rfl];simp
theorem may_comp {s : List UInt8} {l : List Tm} (h : checkL s = true) (h1 : 1 <= l.length) (h2 : l.length <= 16) (hl : ∀ t ∈ l, t.may = true) : (compT s l).may = true := by
 rw [Tm.may_eq];show mayK 4 ⟨s.toArray⟩ 0 l.length (Tm.mays l) = true
 unfold mayK;rw [if_neg (by decide), if_neg (by decide), if_neg (by decide), if_pos rfl, Tm.mays_all];have : l.all Tm.may = true := List.all_eq_true.2 hl;simp [h, this, h1, h2]
def MayW (W : Rdr) (m : Nat) : Prop := ∀ p ts ns t ts' ns', ts.length <= m -> Fine ts -> ns.length <= 200 -> W p ts ns = .ok t ts' ns' -> t.may = true
theorem manyGo_may (W : Rdr) (most m : Nat) (hW : GoodW W m) (hM : MayW W m) : ∀ (f : Nat) (l : List Tm) (ts : List Tok) (ns : Nms) (l' : List Tm) (ts' : List Tok) (ns' : Nms), ts.length <= m -> Fine ts -> ns.length <= 200 -> (∀ t ∈ l, t.may = true) -> manyGo W most f l ts ns = .ok l' ts' ns' -> ∀ t ∈ l', t.may = true
 | 0, l, ts, ns, l', ts', ns', hm, hf, hn, ha, h => by
  injection h with h1 h2 h3;subst h1;exact ha
 | f + 1, l, ts, ns, l', ts', ns', hm, hf, hn, ha, h => by
  unfold manyGo at h;split at h
  · rename_i hc
    obtain ⟨hft, htl⟩ := hf.tail (by rw [(isP_kind hc).1]; decide);split at h
    · cases h
    · obtain ⟨t, ts1, ns1, hw, h⟩ := Rd.bind_is h;obtain ⟨a1, a2, a3⟩ := hW _ _ _ _ _ _ (by omega) hft hn hw;refine manyGo_may W most m hW hM f _ ts1 ns1 _ _ _ (by omega) a1 a3 (fun x hx => ?_) h;rcases List.mem_append.1 hx with hx | hx
      · exact ha x hx
      · rw [List.mem_singleton.1 hx]; exact hM _ _ _ _ _ _ (by omega) hft hn hw
  · injection h with h1 h2 h3;subst h1;exact ha
theorem manyR_may {W : Rdr} {most m : Nat} (hW : GoodW W m) (hM : MayW W m) {ts : List Tok} {ns : Nms} {l' : List Tm} {ts' : List Tok} {ns' : Nms} (hm : ts.length <= m) (hf : Fine ts) (hn : ns.length <= 200) (h : manyR W most ts ns = .ok l' ts' ns') : ∀ t ∈ l', t.may = true := by
 unfold manyR at h;obtain ⟨t, ts1, ns1, hw, h⟩ := Rd.bind_is h;obtain ⟨a1, a2, a3⟩ := hW _ _ _ _ _ _ hm hf hn hw;refine manyGo_may W most m hW hM _ _ ts1 ns1 _ _ _ (by omega) a1 a3 (fun x hx => ?_) h;rw [List.mem_singleton.1 hx]; exact hM _ _ _ _ _ _ hm hf hn hw
theorem consT_may : ∀ (l : List Tm) (e : Tm), (∀ t ∈ l, t.may = true) -> e.may = true -> (consT l e).may = true
 | [], e, _, he => he
 | x :: l, e, hl, he => by
  show (compT [46] [x, consT l e]).may = true
  refine may_comp (by decide +kernel) (by show 1 <= 2; decide) (by show 2 <= 16; decide) (fun t ht => ?_);rcases List.mem_cons.1 ht with rfl | ht
  · exact hl _ (.head _)
  · rw [List.mem_singleton.1 ht]; exact consT_may l e (fun t h => hl t (.tail _ h)) he
theorem bracketR_may {W : Rdr} {m : Nat} (hW : GoodW W m) (hM : MayW W m) {ts : List Tok} {ns : Nms} {t : Tm} {ts' : List Tok} {ns' : Nms} (hm : ts.length <= m + 1) (hf : Fine ts) (hk : (fstT ts).kind ≠ 9) (hn : ns.length <= 200) (h : bracketR W ts ns = .ok t ts' ns') : t.may = true := by
 obtain ⟨b1, b2⟩ := hf.tail hk;unfold bracketR at h;split at h
 · obtain ⟨ts1, h1, _, _⟩ := closeR_is h;exact hM _ _ _ _ _ _ (by omega) b1 hn h1
 split at h
 · obtain ⟨ts1, h1, _, _⟩ := closeR_is h;unfold squareR at h1;split at h1
   · injection h1 with h1 h2 h3;subst h1;exact may_atom (by decide +kernel)
   · unfold listR at h1;obtain ⟨l, ts1, ns1, hl, h⟩ := Rd.bind_is h1;obtain ⟨⟨c1, c2, c3⟩, c4, c5, c6⟩ := manyR_left hW (by decide) (by omega) b1 hn hl;obtain ⟨e, ts2, ns2, he, h⟩ := Rd.bind_is h;injection h with h1 h2 h3;subst h1;refine consT_may l e (manyR_may hW hM (by omega) b1 hn hl) ?_;unfold tailR at he;split at he
     · rename_i hb
       obtain ⟨d1, d2⟩ := c1.tail (by rw [(isP_kind hb).1]; decide);exact hM _ _ _ _ _ _ (by omega) d1 c3 he
     · injection he with h1 h2 h3;subst h1;exact may_atom (by decide +kernel)
 split at h
 · obtain ⟨ts1, h1, _, _⟩ := closeR_is h;unfold curlyR at h1;split at h1
   · injection h1 with h1 h2 h3;subst h1;exact may_atom (by decide +kernel)
   · obtain ⟨t, ts1, ns1, hl, h⟩ := Rd.bind_is h1;injection h with h1 h2 h3;subst h1;refine may_comp (by decide +kernel) (by show 1 <= 1; decide) (by show 1 <= 16; decide) (fun x hx => ?_);rw [List.mem_singleton.1 hx]; exact hM _ _ _ _ _ _ (by omega) b1 hn hl
 · cases h
theorem namedR_may {W : Rdr} {m : Nat} (hW : GoodW W m) (hM : MayW W m) {p : Int} {ts : List Tok} {ns : Nms} {x : Tm × Int} {ts' : List Tok} {ns' : Nms} (hm : ts.length <= m + 1) (hf : Fine ts) (hk : (fstT ts).isAtom = true) (hn : ns.length <= 200) (h : namedR W p ts ns = .ok x ts' ns') : x.1.may = true := by
 obtain ⟨b1, b2⟩ := hf.tail (atom_not9 hk);have hc := hf.first.name hk;unfold namedR at h;split at h
 · rename_i h7
   obtain ⟨d1, d2⟩ := b1.tail (by rw [h7]; decide);obtain ⟨t, ts1, ns1, hx, h⟩ := Rd.bind_is h;injection h with h1 h2 h3;subst h1;unfold argsR at hx;obtain ⟨ts2, h1, h2, _⟩ := closeR_is hx;obtain ⟨l, ts3, ns3, hl, h1⟩ := Rd.bind_is h1;injection h1 with h1 h3 h4;subst h1;obtain ⟨_, c4, c5, c6⟩ := manyR_left hW (by decide) (by omega) d1 hn hl;exact may_comp hc c5 c6 (manyR_may hW hM (by omega) d1 hn hl)
 split at h
 · injection h with h1 h2 h3;subst h1;exact may_int _
 split at h
 · injection h with h1 h2 h3;subst h1;exact may_atom hc
 split at h
 · injection h with h1 h2 h3;subst h1;exact may_atom hc
 split at h
 · cases h
 · obtain ⟨t, ts1, ns1, hl, h⟩ := Rd.bind_is h;injection h with h1 h2 h3;subst h1;refine may_comp hc (by show 1 <= 1; decide) (by show 1 <= 16; decide) (fun x hx => ?_);rw [List.mem_singleton.1 hx]; exact hM _ _ _ _ _ _ (by omega) b1 hn hl
theorem varR_may {ts : List Tok} {ns : Nms} {t : Tm} {ts' : List Tok} {ns' : Nms} (h : varR ts ns = .ok t ts' ns') : t.may = true := by
 unfold varR at h;split at h
 · injection h with h1 h2 h3;subst h1;exact may_var _
 · split at h
   · cases h
   · injection h with h1 h2 h3;subst h1;exact may_var _
theorem beginR_may {W : Rdr} {m : Nat} (hW : GoodW W m) (hM : MayW W m) {p : Int} {ts : List Tok} {ns : Nms} {x : Tm × Int} {ts' : List Tok} {ns' : Nms} (hm : ts.length <= m + 1) (hf : Fine ts) (hn : ns.length <= 200) (h : beginR W p ts ns = .ok x ts' ns') : x.1.may = true := by
 unfold beginR at h;split at h
 · exact namedR_may hW hM hm hf (by assumption) hn h
 split at h
 · exact varR_may (zeroR_is h).1
 split at h
 · rename_i h6
   exact bracketR_may hW hM hm hf (by rcases h6 with h6 | h6 <;> rw [h6] <;> decide) hn (zeroR_is h).1
 split at h
 · injection h with h1 h2 h3;subst h1;exact may_int _
 · cases h
theorem infix_check {t : Tok} {r : R} (ht : TokOk t) (h : t.infix = some r) : checkL t.text = true := by
 unfold Tok.infix at h;split at h
 · rename_i hc
   simp only [Bool.or_eq_true] at hc
   rcases hc with hc | hc
   · exact ht.name hc
   · rw [(isP_kind hc).2]; decide +kernel
 · cases h
theorem moreR_may {W : Rdr} {m : Nat} (hW : GoodW W m) (hM : MayW W m) (p : Int) : ∀ (f : Nat) (t : Tm) (pri : Int) (ts : List Tok) (ns : Nms) (t' : Tm) (ts' : List Tok) (ns' : Nms), ts.length <= m + 1 -> Fine ts -> ns.length <= 200 -> t.may = true -> moreR W p f t pri ts ns = .ok t' ts' ns' -> t'.may = true
 | 0, t, pri, ts, ns, t', ts', ns', hm, hf, hn, ht, h => by
  injection h with h1 h2 h3;subst h1;exact ht
 | f + 1, t, pri, ts, ns, t', ts', ns', hm, hf, hn, ht, h => by
  unfold moreR at h;split at h
  · injection h with h1 h2 h3;subst h1;exact ht
  · rename_i r hr
    split at h
    · injection h with h1 h2 h3;subst h1;exact ht
    · obtain ⟨b1, b2⟩ := hf.tail (infix_not9 hr);obtain ⟨u, ts1, ns1, hl, h⟩ := Rd.bind_is h;obtain ⟨a1, a2, a3⟩ := hW _ _ _ _ _ _ (by omega) b1 hn hl;refine moreR_may hW hM p f _ _ ts1 ns1 _ _ _ (by omega) a1 a3 (may_comp (infix_check hf.first hr) (by show 1 <= 2; decide) (by show 2 <= 16; decide) (fun x hx => ?_)) h;rcases List.mem_cons.1 hx with rfl | hx
      · exact ht
      · rw [List.mem_singleton.1 hx]; exact hM _ _ _ _ _ _ (by omega) b1 hn hl
theorem termR_may : ∀ (m : Nat), MayW (termR m) m
 | 0 => fun p ts ns t ts' ns' hm hf _ _ => absurd hf.pos (by omega)
 | m + 1 => fun p ts ns t ts' ns' hm hf hn h => by
  unfold termR at h;obtain ⟨x, ts1, ns1, hl, h⟩ := Rd.bind_is h;obtain ⟨a1, a2, a3⟩ := beginR_left (termR_good m) hm hf hn hl;exact moreR_may (termR_good m) (termR_may m) p _ _ _ ts1 ns1 _ _ _ (by have := x.1.size_pos; omega) a1 a3 (beginR_may (termR_good m) (termR_may m) hm hf hn hl) h
end Go.Proofs.YtinefdlkajnomaaGreatDoor
namespace Go.Proofs.YtinefdlkajnomaaGreatDoor
open Go.RowKit
inductive ProgR : List Tok -> List Tm -> Prop where
 | nil (ts : List Tok) : (fstT ts).kind = 9 -> ProgR ts []
 | cons (ts ts' : List Tok) (t : Tm) (ns : Nms) (L : List Tm) : (fstT ts).kind ≠ 9 -> wholeR true ts = .ok t ts' ns -> ProgR ts' L -> ProgR ts (t :: L)
end Go.Proofs.YtinefdlkajnomaaGreatDoor
