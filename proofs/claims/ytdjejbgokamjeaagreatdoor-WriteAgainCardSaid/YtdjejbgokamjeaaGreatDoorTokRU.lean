import Derived.Test.YtdjejbgokamjeaaGreatDoorTokAH
namespace Go.Proofs.YtdjejbgokamjeaaGreatDoor
open Go.RowKit
def cl1 (l : List UInt8) : Int := match l with | [] => 0 | b :: _ => cls (b.toNat : Int)
theorem cl1_at (s : ByteArray) (p : Nat) (h : p < s.size) : cl1 (s.data.toList.drop p) = cls (s[p].toNat : Int) := by
 have hl : p < s.data.toList.length := by rw [size_listT]; exact h
 rw [List.drop_eq_getElem_cons hl];rfl
theorem cl1_end (s : ByteArray) (p : Nat) (h : s.size <= p) : cl1 (s.data.toList.drop p) = 0 := by
 rw [List.drop_eq_nil_of_le (by rw [size_listT]; exact h)]; rfl
set_option maxRecDepth 100000 in
set_option maxHeartbeats 1000000 in
theorem ref_class (s : ByteArray) (p : Nat) (w : World) (hp : p <= 300000) :
 Calls Tryz.prog 47 #[.string s, .int .i64 (p : Nat)] w fun e w' => e = .returned (.int .i64 (cl1 (s.data.toList.drop p))) /\ w = w' := by
 by_cases h : p < s.size
 · rw [cl1_at s p h];have hb : (s[p].toNat : Int) < 256 := by have := s[p].toNat_lt; omega
   have hp0 : (0 : Int) <= (p : Int) := by omega
   have hp1 : (p : Int) < (s.size : Int) := by omega
   by_cases h7 : s[p].toNat <= 127
   · have h8 : (s[p].toNat : Int) <= 127 := by omega
     clear h7;have HC := Lib.hid (ref_Class (s[p].toNat : Int) w);generalize cls (s[p].toNat : Int) = q at *;go_enter Tryz.func47, Tryz.ntmps47;go_wp2_with fail;refine HC.out.mono ?_; rintro e w1 ⟨rfl, rfl⟩;go_wp2_with fail;go_ret;exact ⟨rfl, rfl⟩
   · have h8 : (127 : Int) < (s[p].toNat : Int) := by omega
     rw [cls_high _ (by omega)];clear h7;go_enter Tryz.func47, Tryz.ntmps47;go_wp2_with fail;go_ret;exact ⟨rfl, rfl⟩
 · rw [cl1_end s p (by omega)];go_enter Tryz.func47, Tryz.ntmps47;go_wp2_with fail;go_ret;exact ⟨rfl, rfl⟩
def Ks (w : World) (g : Nat) (ks : List Int) : Prop := ∀ i (h : i < ks.length), w.cell? ⟨g, i, none⟩ = some (.int .i64 ks[i])
def amongK (ks : List Int) (c : Int) : Bool := ks.any fun k => cls c == k
theorem any_step (ks : List Int) (i : Nat) (h : i < ks.length) (f : Int -> Bool) : (ks.take (i + 1)).any f = ((ks.take i).any f || f ks[i]) := by
 rw [List.take_succ_eq_append_getElem h, List.any_append]; simp
set_option maxRecDepth 100000 in
set_option maxHeartbeats 2000000 in
theorem ref_run (s : ByteArray) (p : Nat) (ks : List Int) (g : Nat) (w : World) (hs : s.size <= 200000) (hp : p <= s.size) (hk : Ks w g ks) (hkl : ks.length <= 10) (h0 : ks.any (fun k => (0 : Int) == k) = false) :
 Calls Tryz.prog 49 #[.string s, .int .i64 (p : Nat), .slice (some ⟨g, 0, none⟩) ks.length ks.length] w fun e w' => e = .returned (.int .i64 (p + spanL (amongK ks) (s.data.toList.drop p) : Nat)) /\ w = w' := by
 have HK := Lib.hid hk;have HZ := Lib.hid h0;obtain ⟨E, hE⟩ : ∃ E : Nat, p + spanL (amongK ks) (s.data.toList.drop p) = E := ⟨_, rfl⟩;rw [hE];have HE := Lib.hid hE;clear hk h0 hE;go_enter Tryz.func49, Tryz.ntmps49;go_wp2_with fail;go_loop [1] (fun av => ∃ a : Nat, a <= s.size /\ av = .int .i64 (a : Nat) /\ Hid (a + spanL (amongK ks) (s.data.toList.drop a) = E)) (fun av => s.size - (intOf av).toNat)
 case atStart => exact ⟨p, hp, rfl, HE⟩
 case round =>
  obtain ⟨a, ha, rfl, HA⟩ := hrel;by_cases hlt : a < s.size
  · have hcl := cl1_at s a hlt;have hdrop : s.data.toList.drop a = s[a] :: s.data.toList.drop (a + 1) := by
     rw [List.drop_eq_getElem_cons (by rw [size_listT]; exact hlt)]; rfl
    have hst : spanL (amongK ks) (s.data.toList.drop a) = if amongK ks (s[a].toNat : Int) = true then 1 + spanL (amongK ks) (s.data.toList.drop (a + 1)) else 0 := by
     rw [hdrop];unfold spanL;rw [List.takeWhile_cons];split
     · rw [List.length_cons]; omega
     · rfl
    have hC := fun W => ref_class s a W (by omega);rw [hcl] at hC;have hA := HA.out;rw [hst] at hA;have haK : amongK ks (s[a].toNat : Int) = ks.any fun k => cls (s[a].toNat : Int) == k := rfl;rw [haK] at hA;generalize cls (s[a].toNat : Int) = q at *;have HC := Lib.hid hC;have HS := Lib.hid hA;clear hC hcl hdrop hst hA haK HA;go_wp2_with fail;go_loop [7, 16] (fun bv iv => ∃ i : Nat, i <= ks.length /\ iv = .int .i64 (i : Nat) /\ bv = .bool ((ks.take i).any fun k => q == k)) (fun _ iv => ks.length - (intOf iv).toNat)
    case atStart => exact ⟨0, Nat.zero_le _, rfl, rfl⟩
    case round =>
     obtain ⟨i, hi, rfl, rfl⟩ := hrel;by_cases hil : i < ks.length
     · have c0 := HK.out i hil;have hst := any_step ks i hil (fun k => q == k);have hi0 : (0 : Int) <= (i : Int) := by omega
       have hi1 : (i : Int) < (ks.length : Int) := by omega
       generalize ks[i] = kk at *;have HST := Lib.hid hst;clear hst;cases hb : ((ks.take i).any fun k => q == k) with
       | true =>
        rw [hb] at HST;clear hb;go_wp2_with fail;go_round
        case rel => exact ⟨i + 1, by omega, by go_num, by rw [HST.out]; rfl⟩
        case measure => simp [intOf]; omega
       | false =>
        rw [hb] at HST;clear hb;go_wp2_with fail;refine (HC.out _).mono ?_; rintro e w' ⟨rfl, rfl⟩;go_wp2_with fail;go_round
        case rel => exact ⟨i + 1, by omega, by go_num, by rw [HST.out]; rfl⟩
        case measure => simp [intOf]; omega
     · have hA := HS.out;rw [List.take_of_length_le (by omega)];cases hb : (ks.any fun k => q == k) with
       | true =>
        rw [hb, if_pos rfl] at hA;have HN : Hid ((a + 1 : Nat) + spanL (amongK ks) (s.data.toList.drop (a + 1)) = E) := Lib.hid (by omega);clear hA hb HS;go_wp2_with fail;go_round
        case rel => exact ⟨a + 1, by omega, by go_num, HN⟩
        case measure => simp [intOf]; omega
       | false =>
        rw [hb, if_neg (by decide)] at hA;have HN : Hid (E = a) := Lib.hid (by omega);clear hA hb HS;go_wp2_with fail;go_ret;exact ⟨ret_intT (by rw [HN.out]), rfl⟩
  · have hA := HA.out;rw [List.drop_eq_nil_of_le (by rw [size_listT]; omega)] at hA;have HN : Hid (E = a) := Lib.hid hA.symm;clear hA HA;go_wp2_with fail;go_ret;exact ⟨ret_intT (by rw [HN.out]), rfl⟩
def longB (k : Int) (n : Nat) : Bool := decide (255 < n) && (k == 1 || k == 3)
set_option maxRecDepth 100000 in
set_option maxHeartbeats 2000000 in
theorem ref_own (s : ByteArray) (p : Nat) (k : Int) (e : Nat) (w : World) (hs : s.size <= 200000) (hp : p <= e) (he : e <= s.size) :
 Calls Tryz.prog 48 #[.string s, .int .i64 (p : Nat), .int .i64 k, .int .i64 (e : Nat)] w fun e' w' =>
  e' = .returned (.tuple #[.agg #[.int .i64 k, .string (s.extract p e), .int .i64 0, .int .i64 (p : Nat)], .int .i64 (e : Nat), .bool (!longB k (e - p))]) /\ Below w.heap.size w w' := by
 have HB := Lib.hid (fun o : Obj => (Below.refl w.heap.size w).alloc (Nat.le_refl _) o);obtain ⟨E, hE⟩ : ∃ E, longB k (e - p) = E := ⟨_, rfl⟩;rw [hE];unfold longB at hE;have h0 : (0 : Int) <= (p : Int) := by omega
 have h1 : (p : Int) <= (e : Int) := by omega
 have h2 : (e : Int) <= (s.size : Int) := by omega
 have h3 : (s.size : Int) <= 200000 := by omega
 have hx : (s.extract p e) = s.extract (p : Int).toNat (e : Int).toNat := rfl;by_cases hb : 255 < e - p
 · rw [decide_eq_true hb, Bool.true_and] at hE;have h4 : (255 : Int) < (e : Int) - (p : Int) := by omega
   have hk : (k == 1) = true /\ E = true \/ (k == 1) = false /\ (k == 3) = true /\ E = true \/ (k == 1) = false /\ (k == 3) = false /\ E = false := by
    cases k1 : k == 1 with
    | true => rw [k1] at hE; exact .inl ⟨rfl, hE.symm⟩
    | false =>
     rw [k1] at hE;cases k3 : k == 3 with
     | true => rw [k3] at hE; exact .inr (.inl ⟨rfl, rfl, hE.symm⟩)
     | false => rw [k3] at hE; exact .inr (.inr ⟨rfl, rfl, hE.symm⟩)
   clear hE hb hx;rcases hk with ⟨k1, rfl⟩ | ⟨k1, k3, rfl⟩ | ⟨k1, k3, rfl⟩
   all_goals
    go_enter Tryz.func48, Tryz.ntmps48;go_wp2_with fail;refine bodyPost_ret (v := .tuple #[.agg #[.int .i64 k, .string (s.extract p e), .int .i64 0, .int .i64 (p : Nat)], .int .i64 (e : Nat), .bool _]) (by simp [results, Tryz.results48, go_sem]) rfl ⟨rfl, HB.out _⟩
 · rw [decide_eq_false hb, Bool.false_and] at hE;have h4 : (e : Int) - (p : Int) <= 255 := by omega
   subst hE;clear hb hx;go_enter Tryz.func48, Tryz.ntmps48;go_wp2_with fail;refine bodyPost_ret (v := .tuple #[.agg #[.int .i64 k, .string (s.extract p e), .int .i64 0, .int .i64 (p : Nat)], .int .i64 (e : Nat), .bool _]) (by simp [results, Tryz.results48, go_sem]) rfl ⟨rfl, HB.out _⟩
set_option maxHeartbeats 2000000 in
theorem ref_glues (k n p : Int) (t : List UInt8) (w : World) :
 Calls Tryz.prog 35 #[.agg #[.int .i64 k, .string ⟨t.toArray⟩, .int .i64 n, .int .i64 p]] w fun e w' => e = .returned (.bool (opensL k t)) /\ Below w.heap.size w w' := by
 have HB := Lib.hid (fun o : Obj => (Below.refl w.heap.size w).alloc (Nat.le_refl _) o);obtain ⟨E, hE⟩ : ∃ E, opensL k t = E := ⟨_, rfl⟩;rw [hE];unfold opensL at hE;have f1 : ((⟨t.toArray⟩ : ByteArray).toList == [93]) = decide (t = [93]) := by rw [ByteArray.toList_eq, Bool.eq_iff_iff]; simp
 have f2 : ((⟨t.toArray⟩ : ByteArray).toList == [125]) = decide (t = [125]) := by rw [ByteArray.toList_eq, Bool.eq_iff_iff]; simp
 generalize (⟨t.toArray⟩ : ByteArray) = u at *;generalize decide (t = [93]) = b1 at *;generalize decide (t = [125]) = b2 at *;have hk : k = 1 \/ k = 2 \/ k = 3 \/ k = 6 \/ ((k == 1) = false /\ (k == 2) = false /\ (k == 3) = false /\ (k == 6) = false) := by
  simp only [beq_eq_false_iff_ne]; omega
 rcases hk with rfl | rfl | rfl | rfl | ⟨e1, e2, e3, e4⟩
 iterate 3
  · have HE : Hid (E = true) := Lib.hid (by rw [<- hE]; rfl);clear hE;go_enter Tryz.func35, Tryz.ntmps35;go_wp2_with fail;go_ret;exact ⟨ret_boolT HE.out.symm, HB.out _⟩
 · have HE : Hid (E = (b1 || b2)) := Lib.hid (by rw [<- hE]; rfl);clear hE;cases b1
   all_goals
    go_enter Tryz.func35, Tryz.ntmps35;go_wp2_with fail;go_ret;exact ⟨ret_boolT (by rw [HE.out]; first | rfl | (cases b2 <;> rfl)), HB.out _⟩
 · have HE : Hid (E = false) := Lib.hid (by
    rw [<- hE];simp only [beq_eq_false_iff_ne] at e1 e2 e3 e4
    rw [decide_eq_false e1, decide_eq_false e2, decide_eq_false e3, decide_eq_false e4]; rfl)
   clear hE;go_enter Tryz.func35, Tryz.ntmps35;go_wp2_with fail;go_ret;exact ⟨ret_boolT HE.out.symm, HB.out _⟩
def NotSkip (l : List UInt8) : Prop := ∃ b t, l = b :: t /\ cls (b.toNat : Int) ≠ 5 /\ b ≠ 37 /\ l.take 2 ≠ [47, 42]
def SkipSt (S : List UInt8) (p a : Nat) : Prop := ∀ t, cutL (S.drop p) p t = cutL (S.drop a) a (if a = p then t else false)
theorem SkipSt.start (S : List UInt8) (p : Nat) : SkipSt S p p := fun t => by rw [if_pos rfl]
theorem SkipSt.step {S : List UInt8} {p a n : Nat} (h : SkipSt S p a) (hp : p <= a) (ha : a < S.length) (hk : (lexL (S.drop a)).kind = 0) (hw : (lexL (S.drop a)).w = n) (hn : n ≠ 0) : SkipSt S p (a + n) := fun t => by
 have hne : S.drop a ≠ [] := fun e => by
  have := congrArg List.length e;rw [List.length_drop, List.length_nil] at this; omega
 rw [h t, cutL_step _ _ _ hne, hw, if_neg hn, if_pos hk, List.drop_drop, if_neg (show a + n ≠ p by omega)]
def SkipRes (S : List UInt8) (p f : Nat) (ok : Bool) : Prop := p <= f /\ f <= S.length /\ SkipSt S p f /\ (ok = true -> f = S.length \/ NotSkip (S.drop f)) /\ (ok = false -> f < S.length /\ (lexL (S.drop f)).w = 0)
theorem lex_line37 (t : List UInt8) : lexL (37 :: t) = ⟨0, [], 0, spanL lineR (37 :: t)⟩ := by
 unfold lexL;dsimp only;rw [show cls ((37 : UInt8).toNat : Int) = 0 from by decide, if_neg (by decide), if_neg (by decide), if_neg (by decide), if_neg (by decide), if_neg (by decide), if_neg (by decide), if_neg (by decide), if_pos rfl]
theorem lex_remark (t : List UInt8) : lexL (47 :: 42 :: t) = remarkL (47 :: 42 :: t) := by
 unfold lexL;dsimp only;rw [show cls ((47 : UInt8).toNat : Int) = 4 from by decide, if_neg (by decide), if_neg (by decide), if_neg (by decide), if_neg (by decide), if_pos rfl, if_pos (show (47 :: 42 :: t).take 2 = [47, 42] from rfl)]
theorem drop_at (s : ByteArray) (a : Nat) (h : a < s.size) : s.data.toList.drop a = s[a] :: s.data.toList.drop (a + 1) := by
 rw [List.drop_eq_getElem_cons (by rw [size_listT]; exact h)]; rfl
theorem byte_is (b c : UInt8) : ((b.toNat : Int) == (c.toNat : Int)) = decide (b = c) := by
 rw [Bool.eq_iff_iff];simp only [beq_iff_eq, decide_eq_true_eq]
 constructor
 · intro h; apply UInt8.toNat_inj.1; omega
 · rintro rfl; rfl
theorem line_step (s : ByteArray) (q : Nat) (h : q < s.size) : spanL lineR (s.data.toList.drop q) = if s[q] = 10 then 0 else 1 + spanL lineR (s.data.toList.drop (q + 1)) := by
 rw [drop_at s q h];unfold spanL;rw [List.takeWhile_cons];have e : lineR (s[q].toNat : Int) = !decide (s[q] = 10) := by
  have := byte_is s[q] 10;unfold lineR;rw [Bool.eq_iff_iff];simp only [decide_eq_true_eq, Bool.not_eq_true', decide_eq_false_iff_not]
  have h2 : ((s[q].toNat : Int) = 10) ↔ s[q] = 10 := by
   rw [Bool.eq_iff_iff] at this;simpa using this
  rw [<- h2]
 rw [e];by_cases h10 : s[q] = 10
 · rw [decide_eq_true h10, if_neg (by decide), if_pos h10]; rfl
 · rw [decide_eq_false h10, if_pos (by decide), if_neg h10, List.length_cons]; omega
def Look (s : ByteArray) (a e : Nat) : Prop := closeL (s.data.toList.drop (a + 2)) = (closeL (s.data.toList.drop e)).map (· + (e - (a + 2)))
theorem close_step (s : ByteArray) (e : Nat) (h : e + 1 < s.size) : closeL (s.data.toList.drop e) = if s[e] = 42 /\ s[e + 1] = 47 then some 2 else (closeL (s.data.toList.drop (e + 1))).map (· + 1) := by
 have e1 := drop_at s e (by omega);have e2 := drop_at s (e + 1) h;rw [e1];conv => lhs; unfold closeL
 rw [e2];by_cases hc : s[e] = 42 /\ s[e + 1] = 47
 · rw [if_pos hc, if_pos ⟨hc.1, hc.2, by simp⟩]
 · rw [if_neg hc, if_neg (fun h3 => hc ⟨h3.1, h3.2.1⟩)]
theorem close_short (l : List UInt8) (h : l.length <= 1) : closeL l = none := by
 match l, h with
 | [], _ => rfl
 | [b], _ => unfold closeL; rw [if_neg (by simp)]; rfl
theorem Look.start (s : ByteArray) (a : Nat) : Look s a (a + 2) := by
 unfold Look;rw [Nat.sub_self];cases closeL (s.data.toList.drop (a + 2)) <;> rfl
theorem Look.next {s : ByteArray} {a e : Nat} (h : Look s a e) (ha : a + 2 <= e) (he : e + 1 < s.size) (hn : ¬ (s[e] = 42 /\ s[e + 1] = 47)) : Look s a (e + 1) := by
 unfold Look at *;rw [h, close_step s e he, if_neg hn];cases closeL (s.data.toList.drop (e + 1)) with
 | none => rfl
 | some m => show some _ = some _; congr 1; show m + 1 + (e - (a + 2)) = m + (e + 1 - (a + 2)); omega
theorem Look.found {s : ByteArray} {a e : Nat} (h : Look s a e) (ha : a + 2 <= e) (he : e + 1 < s.size) (hy : s[e] = 42 /\ s[e + 1] = 47) : closeL (s.data.toList.drop (a + 2)) = some (e - a) := by
 unfold Look at h;rw [h, close_step s e he, if_pos hy];show some _ = some _; congr 1; show 2 + (e - (a + 2)) = e - a; omega
theorem Look.none {s : ByteArray} {a e : Nat} (h : Look s a e) (he : s.size <= e + 1) : closeL (s.data.toList.drop (a + 2)) = none := by
 unfold Look at h;rw [h, close_short _ (by rw [List.length_drop, size_listT]; omega)]; rfl
def SkipAns (S : List UInt8) (p : Nat) (e : Ending) : Prop := ∃ (f : Nat) (ok : Bool), e = .returned (.tuple #[.int .i64 (f : Nat), .bool ok]) /\ SkipRes S p f ok
theorem lex_remark_at (s : ByteArray) (a : Nat) (h : a + 1 < s.size) (h1 : s[a] = 47) (h2 : s[a + 1] = 42) : lexL (s.data.toList.drop a) = match closeL (s.data.toList.drop (a + 2)) with | some k => ⟨0, [], 0, k + 2⟩ | none => lx0 := by
 have e1 := drop_at s a (by omega);have e2 := drop_at s (a + 1) h;rw [e1, e2, h1, h2, lex_remark];unfold remarkL;rfl
theorem not_skip_at (s : ByteArray) (a : Nat) (h : a < s.size) (h5 : cls (s[a].toNat : Int) ≠ 5) (h37 : s[a] ≠ 37) (h2 : ∀ h1 : a + 1 < s.size, ¬ (s[a] = 47 /\ s[a + 1] = 42)) : NotSkip (s.data.toList.drop a) := by
 refine ⟨s[a], _, drop_at s a h, h5, h37, fun e => ?_⟩;rw [drop_at s a h] at e;by_cases h1 : a + 1 < s.size
 · rw [drop_at s (a + 1) h1, List.take_succ_cons, List.take_succ_cons, List.take_zero] at e;injection e with e1 e2;injection e2 with e2 _;exact h2 h1 ⟨e1, e2⟩
 · rw [List.drop_eq_nil_of_le (by rw [size_listT]; omega)] at e;simp at e
set_option maxRecDepth 100000 in
set_option maxHeartbeats 8000000 in
theorem ref_skip (s : ByteArray) (p : Nat) (w : World) (hs : s.size <= 200000) (hp : p <= s.size) :
 Calls Tryz.prog 34 #[.string s, .int .i64 (p : Nat)] w fun e w' => SkipAns s.data.toList p e /\ w = w' := by
 go_enter Tryz.func34, Tryz.ntmps34;go_wp2_with fail;go_loop [1] (fun av => ∃ a : Nat, p <= a /\ a <= s.size /\ av = .int .i64 (a : Nat) /\ Hid (SkipSt s.data.toList p a)) (fun av => s.size - (intOf av).toNat)
 case atStart => exact ⟨p, Nat.le_refl _, hp, rfl, Lib.hid (SkipSt.start _ _)⟩
 case round =>
  obtain ⟨a, hpa, ha, rfl, HA⟩ := hrel;by_cases hlt : a < s.size
  · have hC := fun W => ref_class s a W (by omega);rw [cl1_at s a hlt] at hC;have hda := drop_at s a hlt;have hb37 : ((s[a].toNat : Int) == 37) = decide (s[a] = 37) := byte_is s[a] 37;have hb47 : ((s[a].toNat : Int) == 47) = decide (s[a] = 47) := byte_is s[a] 47;have hal : a < s.data.toList.length := by rw [size_listT]; exact hlt
    have ha0 : (0 : Int) <= (a : Int) := by omega
    have ha1 : (a : Int) < (s.size : Int) := by omega
    by_cases h5 : cls (s[a].toNat : Int) = 5
    · rw [h5] at hC;have hlex : lexL (s.data.toList.drop a) = ⟨0, [], 0, 1⟩ := by rw [hda]; exact lex_blank5 _ _ h5
      have HN := Lib.hid (HA.out.step hpa hal (by rw [hlex]) (by rw [hlex]) (by decide : (1 : Nat) ≠ 0));have HC := Lib.hid hC;clear hC hda hb37 hb47 hlex h5 HA;go_wp2_with fail;refine (HC.out _).mono ?_; rintro e w' ⟨rfl, rfl⟩;go_wp2_with fail;go_round
      case rel => exact ⟨a + 1, by omega, by omega, by go_num, HN⟩
      case measure => simp [intOf]; omega
    · have e5 : (cls (s[a].toNat : Int) == 5) = false := by simpa using h5
      generalize hq : cls (s[a].toNat : Int) = q at *;have HQ := Lib.hid hq;have HC := Lib.hid hC;clear hC hq;by_cases h37 : s[a] = 37
      · rw [decide_eq_true h37] at hb37;have hlex : lexL (s.data.toList.drop a) = ⟨0, [], 0, spanL lineR (s.data.toList.drop a)⟩ := by
         rw [hda, h37]; exact lex_line37 _
        have hpos : spanL lineR (s.data.toList.drop a) ≠ 0 := by
         rw [line_step s a hlt, h37, if_neg (by decide)]; omega
        have hle := spanL_le lineR (s.data.toList.drop a);rw [List.length_drop, size_listT] at hle;have HN := Lib.hid (HA.out.step hpa hal (by rw [hlex]) (by rw [hlex]) hpos);obtain ⟨F, hF⟩ : ∃ F, a + spanL lineR (s.data.toList.drop a) = F := ⟨_, rfl⟩;rw [hF] at HN;have HF := Lib.hid hF;have hF1 : a < F /\ F <= s.size := by omega
        obtain ⟨hF1, hF2⟩ := hF1;clear hda hb47 hlex HA h37 hpos hle hF h5;go_wp2_with fail;refine (HC.out _).mono ?_; rintro e w' ⟨rfl, rfl⟩;go_wp2_with fail;go_loop [1] (fun qv => ∃ r : Nat, a <= r /\ r <= s.size /\ qv = .int .i64 (r : Nat) /\ Hid (r + spanL lineR (s.data.toList.drop r) = F)) (fun qv => s.size - (intOf qv).toNat)
        case atStart => exact ⟨a, Nat.le_refl _, by omega, rfl, HF⟩
        case round =>
         obtain ⟨r, hr0, hr1, rfl, HR⟩ := hrel;by_cases hr : r < s.size
         · have hst := line_step s r hr;have hb10 : ((s[r].toNat : Int) == 10) = decide (s[r] = 10) := byte_is s[r] 10;have hr2 : (0 : Int) <= (r : Int) := by omega
           have hr3 : (r : Int) < (s.size : Int) := by omega
           by_cases h10 : s[r] = 10
           · rw [decide_eq_true h10] at hb10;have hb11 : ((s[r].toNat : Int) != 10) = false := by rw [bne, hb10]; rfl
             rw [if_pos h10] at hst;have HRF : Hid (r = F) := Lib.hid (by have := HR.out; rw [hst] at this; omega);clear hst h10;go_wp2_with fail;go_round
             case rel => exact ⟨F, by omega, hF2, by rw [HRF.out], HN⟩
             case measure => have := HRF.out; simp [intOf]; omega
           · rw [decide_eq_false h10] at hb10;have hb11 : ((s[r].toNat : Int) != 10) = true := by rw [bne, hb10]; rfl
             rw [if_neg h10] at hst;have HR2 : Hid (r + 1 + spanL lineR (s.data.toList.drop (r + 1)) = F) := Lib.hid (by have := HR.out; rw [hst] at this; omega);clear hst h10 HR;go_wp2_with fail;go_round
             case rel => exact ⟨r + 1, by omega, by omega, by go_num, HR2⟩
             case measure => simp [intOf]; omega
         · have HRF : Hid (r = F) := Lib.hid (by
            have := HR.out;rw [List.drop_eq_nil_of_le (by rw [size_listT]; omega)] at this;exact this)
           go_wp2_with fail;go_round
           case rel => exact ⟨F, by omega, hF2, by rw [HRF.out], HN⟩
           case measure => have := HRF.out; simp [intOf]; omega
      · rw [decide_eq_false h37] at hb37;by_cases h47 : s[a] = 47
        · rw [decide_eq_true h47] at hb47;by_cases hn1 : a + 1 < s.size
          · have hb42 : ((s[a + 1].toNat : Int) == 42) = decide (s[a + 1] = 42) := byte_is s[a + 1] 42;have hi1 : (a : Int) + 1 < (s.size : Int) := by omega
            by_cases h42 : s[a + 1] = 42
            · rw [decide_eq_true h42] at hb42;have HLEX := Lib.hid (lex_remark_at s a hn1 h47 h42);clear hda h5 h37 h47 h42;go_wp2_with fail;refine (HC.out _).mono ?_; rintro e w' ⟨rfl, rfl⟩;go_wp2_with fail;go_loop [6] (fun ev => ∃ z : Nat, a + 2 <= z /\ z <= s.size /\ ev = .int .i64 (z : Nat) /\ Hid (Look s a z)) (fun ev => s.size - (intOf ev).toNat)
              case atStart => exact ⟨a + 2, Nat.le_refl _, by omega, by go_num, Lib.hid (Look.start s a)⟩
              case round =>
               obtain ⟨z, hz0, hz1, rfl, HZ⟩ := hrel;by_cases hz : z + 1 < s.size
               · have hz2 : (0 : Int) <= (z : Int) := by omega
                 have hz3 : (z : Int) + 1 < (s.size : Int) := by omega
                 have hz4 : (z : Int) < (s.size : Int) := by omega
                 have hc42 : ((s[z].toNat : Int) == 42) = decide (s[z] = 42) := byte_is s[z] 42;have hc47 : ((s[z + 1].toNat : Int) == 47) = decide (s[z + 1] = 47) := byte_is s[z + 1] 47;have hyes : s[z] = 42 -> s[z + 1] = 47 -> Hid (SkipSt s.data.toList p (z + 2)) := fun y1 y2 => Lib.hid (by
                  have h3 := HZ.out.found hz0 hz ⟨y1, y2⟩;have hlex := HLEX.out;rw [h3] at hlex;have := HA.out.step hpa hal (by rw [hlex]) (by rw [hlex]) (show z - a + 2 ≠ 0 by omega);rwa [show a + (z - a + 2) = z + 2 from by omega] at this)
                 have hno : ¬ (s[z] = 42 /\ s[z + 1] = 47) -> Hid (Look s a (z + 1)) := fun n => Lib.hid (HZ.out.next hz0 hz n);by_cases y1 : s[z] = 42
                 · rw [decide_eq_true y1] at hc42;by_cases y2 : s[z + 1] = 47
                   · rw [decide_eq_true y2] at hc47;have HY := hyes y1 y2;clear hyes hno y1 y2;go_wp2_with fail;go_round
                     case rel => exact ⟨z + 2, by omega, by omega, by go_num, HY⟩
                     case measure => simp [intOf]; omega
                   · rw [decide_eq_false y2] at hc47;have HY := hno (fun h => y2 h.2);clear hyes hno y1 y2;go_wp2_with fail;go_round
                     case rel => exact ⟨z + 1, by omega, by omega, by go_num, HY⟩
                     case measure => simp [intOf]; omega
                 · rw [decide_eq_false y1] at hc42;have HY := hno (fun h => y1 h.1);clear hyes hno y1 hc47;go_wp2_with fail;go_round
                   case rel => exact ⟨z + 1, by omega, by omega, by go_num, HY⟩
                   case measure => simp [intOf]; omega
               · have hlex := HLEX.out;rw [HZ.out.none (by omega)] at hlex;have HF := Lib.hid (show SkipRes s.data.toList p a false from ⟨hpa, by rw [size_listT]; omega, HA.out, (fun h => by cases h), fun _ => ⟨hal, by rw [hlex]; rfl⟩⟩);clear hlex;go_wp2_with fail;go_ret2;exact ⟨⟨a, false, rfl, HF.out⟩, rfl⟩
            · rw [decide_eq_false h42] at hb42;have HF := Lib.hid (show SkipRes s.data.toList p a true from ⟨hpa, by rw [size_listT]; omega, HA.out, fun _ => .inr (not_skip_at s a hlt (by rw [HQ.out]; exact h5) h37 (fun _ h => h42 h.2)), fun h => by cases h⟩);clear hda h5 h37 h47 h42;go_wp2_with fail;refine (HC.out _).mono ?_; rintro e w' ⟨rfl, rfl⟩;go_wp2_with fail;go_ret2;exact ⟨⟨a, true, rfl, HF.out⟩, rfl⟩
          · have HF := Lib.hid (show SkipRes s.data.toList p a true from ⟨hpa, by rw [size_listT]; omega, HA.out, fun _ => .inr (not_skip_at s a hlt (by rw [HQ.out]; exact h5) h37 (fun h => absurd h hn1)), fun h => by cases h⟩);clear hda h5 h37 h47;go_wp2_with fail;refine (HC.out _).mono ?_; rintro e w' ⟨rfl, rfl⟩;go_wp2_with fail;go_ret2;exact ⟨⟨a, true, rfl, HF.out⟩, rfl⟩
        · rw [decide_eq_false h47] at hb47;have HF := Lib.hid (show SkipRes s.data.toList p a true from ⟨hpa, by rw [size_listT]; omega, HA.out, fun _ => .inr (not_skip_at s a hlt (by rw [HQ.out]; exact h5) h37 (fun _ h => h47 h.1)), fun h => by cases h⟩);clear hda h5 h37 h47;go_wp2_with fail;refine (HC.out _).mono ?_; rintro e w' ⟨rfl, rfl⟩;go_wp2_with fail;go_ret2;exact ⟨⟨a, true, rfl, HF.out⟩, rfl⟩
  · have hf : SkipRes s.data.toList p a true := ⟨hpa, by rw [size_listT]; exact ha, HA.out, fun _ => .inl (by rw [size_listT]; omega), fun h => by cases h⟩;have HF := Lib.hid hf;clear hf;go_wp2_with fail;go_ret2;exact ⟨⟨a, true, rfl, HF.out⟩, rfl⟩
end Go.Proofs.YtdjejbgokamjeaaGreatDoor
