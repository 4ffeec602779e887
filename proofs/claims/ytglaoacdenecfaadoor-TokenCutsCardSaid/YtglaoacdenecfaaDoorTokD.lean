/-
  The contracts of package token's own number and first.
-/
import Derived.Test.YtglaoacdenecfaaDoorTokC
import Derived.Test.YtglaoacdenecfaaDoorNumBackA
namespace Go.Proofs.YtglaoacdenecfaaDoor
open Go.RowKit

theorem runeNum_in (l : List UInt8) : 0 ≤ (runeNum l).1 ∧ (runeNum l).1 ≤ 1114111 := by
  unfold runeNum
  split
  · unfold runeB
    split
    · decide
    · split
      · decide
      · have := Lib.decodeL_rune (l.drop 2)
        show 0 ≤ ((Lib.decodeL (l.drop 2)).1 : Int) ∧ _ ≤ _
        omega
  · decide
theorem cat_minus (s : ByteArray) (n : Nat) : (⟨#[45]⟩ ++ s.extract 0 n : ByteArray).data.toList = 45 :: s.data.toList.take n := by
  rw [ext_take, ByteArray.data_append]; simp

set_option maxHeartbeats 2000000 in
theorem tok_number (s : ByteArray) (w : World) (hT : TabsT w) (hs : s.size ≤ 200000) :
    Calls Tryd.prog 28 #[.string s] w fun e w' => e = .returned (lxr (numberL s.data.toList)) ∧ Below w.heap.size w w' := by
  have HB := Lib.hid (fun o : Obj => (Below.refl w.heap.size w).alloc (Nat.le_refl _) o)
  have HR := Lib.hid (fun o => tok_runeNumber s (w.alloc o) (hT.on ((Below.refl w.heap.size w).alloc (Nat.le_refl _) o)) hs)
  have hin := runeNum_in s.data.toList
  have hle := runeNum_le s.data.toList
  rw [size_listT] at hle
  clear hT
  unfold numberL
  unfold runeV at HR
  generalize (runeNum s.data.toList).1 = c at *
  generalize (runeNum s.data.toList).2 = m at *
  obtain ⟨hin1, hin2⟩ := hin
  by_cases hm : 0 < m
  · rw [if_pos hm]
    unfold lxr lxv
    dsimp only
    go_enter Tryd.func28, Tryd.ntmps28
    go_wp2_with fail
    refine (HR.out _).mono ?_; rintro e w1 ⟨rfl, hb⟩
    obtain ⟨c0, c1, c2, c3, f0, f1, f2, f3⟩ := cells4 (kept_at hb (new_at w _))
    have hbw := (HB.out _).trans (hb.mono (by simp))
    clear hb
    go_wp2_with fail
    refine bodyPost_ret (v := .tuple #[.agg #[.int .i64 5, .string ⟨#[]⟩, .int .i64 c, .int .i64 0], .int .i64 (m : Nat)]) (by simp [results, Tryd.results28, go_sem, c0, c1, c2, c3]) rfl ⟨rfl, below_set4 hbw (Nat.le_refl _) _ _ _ _⟩
  · obtain rfl : m = 0 := by omega
    rw [if_neg hm]
    clear hm
    have HS := Lib.hid (fun W => tok_span_number1 s W)
    have hle2 := spanL_le digR s.data.toList
    rw [size_listT] at hle2
    generalize spanL digR s.data.toList = n at *
    have hsz : (⟨#[45]⟩ ++ s.extract 0 n : ByteArray).size ≤ maxLen := by
      rw [ByteArray.size_append, ByteArray.size_extract]
      show 1 + _ ≤ maxLen
      unfold maxLen; omega
    have HN := Lib.hid (fun W => num_Read (⟨#[45]⟩ ++ s.extract 0 n) W hsz)
    rw [cat_minus] at HN
    clear hsz
    generalize readV (45 :: s.data.toList.take n) = v at *
    generalize readE (45 :: s.data.toList.take n) = x at *
    by_cases hx : x = 0
    · subst hx
      rw [if_pos rfl]
      unfold lxr lxv
      dsimp only
      go_enter Tryd.func28, Tryd.ntmps28
      go_wp2_with fail
      refine (HR.out _).mono ?_; rintro e w1 ⟨rfl, hb⟩
      have hz := kept_at hb (new_at w _)
      have hbw := (HB.out _).trans (hb.mono (by simp))
      clear hb
      go_wp2_with fail
      refine (HS.out _).mono ?_; rintro e w2 ⟨rfl, hb⟩
      have hz2 := kept_at hb hz
      have hbw2 := hbw.trans (hb.mono hbw.size)
      clear hb hz hbw
      go_wp2_with fail
      refine (HN.out _).mono ?_; rintro e w3 ⟨rfl, hb⟩
      obtain ⟨c0, c1, c2, c3, f0, f1, f2, f3⟩ := cells4 (kept_at hb hz2)
      have hbw3 := hbw2.trans (hb.mono hbw2.size)
      clear hb hz2 hbw2
      go_wp2_with fail
      refine bodyPost_ret (v := .tuple #[.agg #[.int .i64 5, .string ⟨#[]⟩, .int .i64 (wrap64 (-v)), .int .i64 0], .int .i64 (n : Nat)]) (by simp [results, Tryd.results28, go_sem, c0, c1, c2, c3]) rfl ⟨rfl, below_set4 hbw3 (Nat.le_refl _) _ _ _ _⟩
    · rw [if_neg hx]
      unfold lxr lxv lx0
      dsimp only
      have e1 : (x != 0) = true := by simpa using hx
      clear hx
      go_enter Tryd.func28, Tryd.ntmps28
      go_wp2_with fail
      refine (HR.out _).mono ?_; rintro e w1 ⟨rfl, hb⟩
      have hz := kept_at hb (new_at w _)
      have hbw := (HB.out _).trans (hb.mono (by simp))
      clear hb
      go_wp2_with fail
      refine (HS.out _).mono ?_; rintro e w2 ⟨rfl, hb⟩
      have hz2 := kept_at hb hz
      have hbw2 := hbw.trans (hb.mono hbw.size)
      clear hb hz hbw
      go_wp2_with fail
      refine (HN.out _).mono ?_; rintro e w3 ⟨rfl, hb⟩
      obtain ⟨c0, c1, c2, c3, f0, f1, f2, f3⟩ := cells4 (kept_at hb hz2)
      have hbw3 := hbw2.trans (hb.mono hbw2.size)
      clear hb hz2 hbw2
      go_wp2_with fail
      refine bodyPost_ret (v := .tuple #[.agg #[.int .i64 0, .string ⟨#[]⟩, .int .i64 0, .int .i64 0], .int .i64 0]) (by simp [results, Tryd.results28, go_sem, c0, c1, c2, c3]) rfl ⟨rfl, below_set4 hbw3 (Nat.le_refl _) _ _ _ _⟩

theorem cls_first {b : UInt8} {t : List UInt8} {c : Int} (hc : c = ((Lib.decodeL (b :: t)).1 : Int)) : cls c = cls (b.toNat : Int) ∧ (c == 37) = decide (b = 37) ∧ (b.toNat < 128 → c = (b.toNat : Int)) := by
  by_cases hb : b.toNat < 128
  · rw [Lib.decodeL_ascii b t hb] at hc
    have hc' : c = (b.toNat : Int) := hc
    subst hc'
    refine ⟨rfl, ?_, fun _ => rfl⟩
    rw [Bool.eq_iff_iff]
    simp only [beq_iff_eq, decide_eq_true_eq]
    constructor
    · intro h; apply UInt8.toNat_inj.1; have : ((37 : UInt8).toNat : Int) = 37 := rfl; omega
    · rintro rfl; rfl
  · have hr := high_rune b t (by omega)
    refine ⟨by rw [cls_high _ (by omega), cls_high _ (by omega)], ?_, fun h => absurd h hb⟩
    rw [Bool.eq_iff_iff]
    simp only [beq_iff_eq, decide_eq_true_eq]
    constructor
    · intro h; omega
    · rintro rfl; exact absurd (by decide) hb
theorem lex_blank5 (b : UInt8) (t : List UInt8) (h : cls (b.toNat : Int) = 5) : lexL (b :: t) = ⟨0, [], 0, 1⟩ := by
  unfold lexL
  dsimp only
  rw [if_pos h]
theorem readAt_text (l out : List UInt8) (a : Nat) : ∀ o k, readAt l out a = some (o, k) → o.length ≤ out.length + 4 * l.length := by
  induction h : l.length using Nat.strongRecOn generalizing l out a with
  | _ n ih =>
    intro o k hr
    by_cases hl : l = []
    · subst hl; cases hr
    · have hp : 0 < l.length := List.length_pos_iff.2 hl
      have hw := Lib.decodeL_width l
      have hle := Lib.decodeL_le l hl
      have go : ∀ d (u : List UInt8) a2, 0 < d → d ≤ l.length → u.length ≤ 4 → readAt (l.drop d) (out ++ u) a2 = some (o, k) → o.length ≤ out.length + 4 * n := fun d u a2 h0 hd hu hr => by
        have := ih _ (by rw [List.length_drop]; omega) (l.drop d) (out ++ u) a2 rfl o k hr
        rw [List.length_append, List.length_drop] at this
        omega
      rw [readAt_step l out a hl] at hr
      by_cases h39 : (Lib.decodeL l).1 = 39
      · rw [if_pos h39] at hr
        by_cases h2 : l.getD 1 0 = 39 ∧ 1 < l.length
        · rw [if_pos h2] at hr
          exact go 2 _ _ (by omega) (by omega) (by decide) hr
        · rw [if_neg h2] at hr
          simp only [Option.some.injEq, Prod.mk.injEq] at hr
          rw [← hr.1]; omega
      rw [if_neg h39] at hr
      by_cases h92 : (Lib.decodeL l).1 = 92
      · rw [if_pos h92] at hr
        by_cases h0 : (escL (l.drop 1)).2 = 0
        · rw [if_pos h0] at hr; cases hr
        · rw [if_neg h0] at hr
          have h3 := escL_le (l.drop 1)
          rw [List.length_drop] at h3
          exact go _ _ _ (by omega) (by omega) (encL_length _).2 hr
      rw [if_neg h92] at hr
      by_cases hb : (Lib.decodeL l).1 < 32 ∨ ((Lib.decodeL l).1 = 65533 ∧ (Lib.decodeL l).2 = 1)
      · rw [if_pos hb] at hr; cases hr
      · rw [if_neg hb] at hr
        exact go _ _ _ hw hle (encL_length _).2 hr
theorem readL_text {l t : List UInt8} {k : Nat} (h : readL l = some (t, k)) : t.length ≤ 4 * l.length := by
  by_cases h0 : l.headD 0 = 39
  · rw [readL_eq l h0] at h
    have := readAt_text _ _ _ _ _ h
    rw [List.length_drop, List.length_nil] at this
    omega
  · rw [readL_no l h0] at h; cases h
theorem cls_range (c : Int) : cls c = 0 ∨ cls c = 1 ∨ cls c = 2 ∨ cls c = 3 ∨ cls c = 4 ∨ cls c = 5 ∨ cls c = 6 ∨ cls c = 7 ∨ cls c = 8 := by
  unfold cls
  repeat' split
  all_goals omega
/-- What a piece of first answers, whatever stands in memory. -/
def Says (f : Nat) (args : Array Value) (w : World) (x : Lx) : Prop := ∀ W, Below w.heap.size w W → Calls Tryd.prog f args W fun e w' => e = .returned (lxr x) ∧ Below W.heap.size W w'
def NamesIt (w : World) (x : Lx) : Prop := ∀ W, Below w.heap.size w W → Calls Tryd.prog 26 #[lxv x, .int .i64 (x.w : Nat)] W fun e w' => e = .returned (lxr (namedL x)) ∧ Below W.heap.size W w'
theorem names_it {w : World} {x : Lx} (hx : x.text.length ≤ maxLen) (hT : TabsT w) : NamesIt w x := fun _ hb => tok_named x _ hx (hT.on hb)

set_option maxHeartbeats 2000000 in
theorem first_name (s : ByteArray) (c : Int) (w : World) (x : Lx) (HC : Hid (∀ W, Calls Tryd.prog 25 #[.int .i32 c] W fun e w' => e = .returned (.int .i64 1) ∧ W = w'))
    (hs : Says 27 #[.string s, .int .i64 1] w x) (hn : NamesIt w x) :
    Calls Tryd.prog 17 #[.string s, .int .i32 c] w fun e w' => e = .returned (lxr (namedL x)) ∧ Below w.heap.size w w' := by
  have HB := Lib.hid (fun o : Obj => (Below.refl w.heap.size w).alloc (Nat.le_refl _) o)
  have HS := Lib.hid hs
  have HN := Lib.hid hn
  clear hs hn
  unfold NamesIt at HN
  generalize namedL x = y at *
  obtain ⟨k, u, n, m⟩ := x
  obtain ⟨k', u', n', m'⟩ := y
  unfold Says lxr lxv at HS
  unfold lxr lxv at HN
  unfold lxr lxv
  dsimp only at HS HN ⊢
  generalize (⟨u.toArray⟩ : ByteArray) = u2 at *
  generalize (⟨u'.toArray⟩ : ByteArray) = u3 at *
  go_enter Tryd.func17, Tryd.ntmps17
  go_wp2_with fail
  refine (HC.out _).mono ?_; rintro e w1 ⟨rfl, rfl⟩
  go_wp2_with fail
  refine (HS.out _ (HB.out _)).mono ?_; rintro e w1 ⟨rfl, hb⟩
  have hz := kept_at hb (new_at w _)
  have hbw := (HB.out _).trans (hb.mono (by simp))
  clear hb
  go_wp2_with fail
  refine (HN.out _ hbw).mono ?_; rintro e w2 ⟨rfl, hb⟩
  obtain ⟨c0, c1, c2, c3, f0, f1, f2, f3⟩ := cells4 (kept_at hb hz)
  have hbw2 := hbw.trans (hb.mono hbw.size)
  clear hb hz hbw
  go_wp2_with fail
  refine bodyPost_ret (v := .tuple #[.agg #[.int .i64 k', .string u3, .int .i64 n', .int .i64 0], .int .i64 (m' : Nat)]) (by simp [results, Tryd.results17, go_sem, c0, c1, c2, c3]) rfl ⟨rfl, below_set4 hbw2 (Nat.le_refl _) _ _ _ _⟩

set_option maxHeartbeats 2000000 in
theorem first_big (s : ByteArray) (c : Int) (w : World) (x : Lx) (HC : Hid (∀ W, Calls Tryd.prog 25 #[.int .i32 c] W fun e w' => e = .returned (.int .i64 2) ∧ W = w'))
    (hs : Says 27 #[.string s, .int .i64 4] w x) :
    Calls Tryd.prog 17 #[.string s, .int .i32 c] w fun e w' => e = .returned (lxr x) ∧ Below w.heap.size w w' := by
  have HB := Lib.hid (fun o : Obj => (Below.refl w.heap.size w).alloc (Nat.le_refl _) o)
  have HS := Lib.hid hs
  clear hs
  obtain ⟨k, u, n, m⟩ := x
  unfold Says lxr lxv at HS
  unfold lxr lxv
  dsimp only at HS ⊢
  generalize (⟨u.toArray⟩ : ByteArray) = u2 at *
  go_enter Tryd.func17, Tryd.ntmps17
  go_wp2_with fail
  refine (HC.out _).mono ?_; rintro e w1 ⟨rfl, rfl⟩
  go_wp2_with fail
  refine (HS.out _ (HB.out _)).mono ?_; rintro e w1 ⟨rfl, hb⟩
  obtain ⟨c0, c1, c2, c3, f0, f1, f2, f3⟩ := cells4 (kept_at hb (new_at w _))
  have hbw := (HB.out _).trans (hb.mono (by simp))
  clear hb
  go_wp2_with fail
  refine bodyPost_ret (v := .tuple #[.agg #[.int .i64 k, .string u2, .int .i64 n, .int .i64 0], .int .i64 (m : Nat)]) (by simp [results, Tryd.results17, go_sem, c0, c1, c2, c3]) rfl ⟨rfl, below_set4 hbw (Nat.le_refl _) _ _ _ _⟩

set_option maxHeartbeats 2000000 in
theorem first_digit (s : ByteArray) (c : Int) (w : World) (x : Lx) (HC : Hid (∀ W, Calls Tryd.prog 25 #[.int .i32 c] W fun e w' => e = .returned (.int .i64 3) ∧ W = w'))
    (hs : Says 28 #[.string s] w x) :
    Calls Tryd.prog 17 #[.string s, .int .i32 c] w fun e w' => e = .returned (lxr x) ∧ Below w.heap.size w w' := by
  have HB := Lib.hid (fun o : Obj => (Below.refl w.heap.size w).alloc (Nat.le_refl _) o)
  have HS := Lib.hid hs
  clear hs
  obtain ⟨k, u, n, m⟩ := x
  unfold Says lxr lxv at HS
  unfold lxr lxv
  dsimp only at HS ⊢
  generalize (⟨u.toArray⟩ : ByteArray) = u2 at *
  go_enter Tryd.func17, Tryd.ntmps17
  go_wp2_with fail
  refine (HC.out _).mono ?_; rintro e w1 ⟨rfl, rfl⟩
  go_wp2_with fail
  refine (HS.out _ (HB.out _)).mono ?_; rintro e w1 ⟨rfl, hb⟩
  obtain ⟨c0, c1, c2, c3, f0, f1, f2, f3⟩ := cells4 (kept_at hb (new_at w _))
  have hbw := (HB.out _).trans (hb.mono (by simp))
  clear hb
  go_wp2_with fail
  refine bodyPost_ret (v := .tuple #[.agg #[.int .i64 k, .string u2, .int .i64 n, .int .i64 0], .int .i64 (m : Nat)]) (by simp [results, Tryd.results17, go_sem, c0, c1, c2, c3]) rfl ⟨rfl, below_set4 hbw (Nat.le_refl _) _ _ _ _⟩

set_option maxHeartbeats 2000000 in
theorem first_remark (s : ByteArray) (c : Int) (w : World) (x : Lx) (HC : Hid (∀ W, Calls Tryd.prog 25 #[.int .i32 c] W fun e w' => e = .returned (.int .i64 4) ∧ W = w'))
    (HP : Hid (∀ W, Calls Tryd.prog 29 #[.string s, .string ⟨#[47, 42]⟩] W fun e w' => e = .returned (.bool true) ∧ w' = W))
    (hs : Says 30 #[.string s] w x) :
    Calls Tryd.prog 17 #[.string s, .int .i32 c] w fun e w' => e = .returned (lxr x) ∧ Below w.heap.size w w' := by
  have HB := Lib.hid (fun o : Obj => (Below.refl w.heap.size w).alloc (Nat.le_refl _) o)
  have HS := Lib.hid hs
  clear hs
  obtain ⟨k, u, n, m⟩ := x
  unfold Says lxr lxv at HS
  unfold lxr lxv
  dsimp only at HS ⊢
  generalize (⟨u.toArray⟩ : ByteArray) = u2 at *
  go_enter Tryd.func17, Tryd.ntmps17
  go_wp2_with fail
  refine (HC.out _).mono ?_; rintro e w1 ⟨rfl, rfl⟩
  go_wp2_with fail
  refine (HP.out _).mono ?_; rintro e w1 ⟨rfl, rfl⟩
  go_wp2_with fail
  refine (HS.out _ (HB.out _)).mono ?_; rintro e w1 ⟨rfl, hb⟩
  obtain ⟨c0, c1, c2, c3, f0, f1, f2, f3⟩ := cells4 (kept_at hb (new_at w _))
  have hbw := (HB.out _).trans (hb.mono (by simp))
  clear hb
  go_wp2_with fail
  refine bodyPost_ret (v := .tuple #[.agg #[.int .i64 k, .string u2, .int .i64 n, .int .i64 0], .int .i64 (m : Nat)]) (by simp [results, Tryd.results17, go_sem, c0, c1, c2, c3]) rfl ⟨rfl, below_set4 hbw (Nat.le_refl _) _ _ _ _⟩

set_option maxHeartbeats 2000000 in
theorem first_sign (s : ByteArray) (c : Int) (w : World) (x : Lx) (HC : Hid (∀ W, Calls Tryd.prog 25 #[.int .i32 c] W fun e w' => e = .returned (.int .i64 4) ∧ W = w'))
    (HP : Hid (∀ W, Calls Tryd.prog 29 #[.string s, .string ⟨#[47, 42]⟩] W fun e w' => e = .returned (.bool false) ∧ w' = W))
    (hs : Says 31 #[.string s] w x) (hn : NamesIt w x) :
    Calls Tryd.prog 17 #[.string s, .int .i32 c] w fun e w' => e = .returned (lxr (namedL x)) ∧ Below w.heap.size w w' := by
  have HB := Lib.hid (fun o : Obj => (Below.refl w.heap.size w).alloc (Nat.le_refl _) o)
  have HS := Lib.hid hs
  have HN := Lib.hid hn
  clear hs hn
  unfold NamesIt at HN
  generalize namedL x = y at *
  obtain ⟨k, u, n, m⟩ := x
  obtain ⟨k', u', n', m'⟩ := y
  unfold Says lxr lxv at HS
  unfold lxr lxv at HN
  unfold lxr lxv
  dsimp only at HS HN ⊢
  generalize (⟨u.toArray⟩ : ByteArray) = u2 at *
  generalize (⟨u'.toArray⟩ : ByteArray) = u3 at *
  go_enter Tryd.func17, Tryd.ntmps17
  go_wp2_with fail
  refine (HC.out _).mono ?_; rintro e w1 ⟨rfl, rfl⟩
  go_wp2_with fail
  refine (HP.out _).mono ?_; rintro e w1 ⟨rfl, rfl⟩
  go_wp2_with fail
  refine (HS.out _ (HB.out _)).mono ?_; rintro e w1 ⟨rfl, hb⟩
  have hz := kept_at hb (new_at w _)
  have hbw := (HB.out _).trans (hb.mono (by simp))
  clear hb
  go_wp2_with fail
  refine (HN.out _ hbw).mono ?_; rintro e w2 ⟨rfl, hb⟩
  obtain ⟨c0, c1, c2, c3, f0, f1, f2, f3⟩ := cells4 (kept_at hb hz)
  have hbw2 := hbw.trans (hb.mono hbw.size)
  clear hb hz hbw
  go_wp2_with fail
  refine bodyPost_ret (v := .tuple #[.agg #[.int .i64 k', .string u3, .int .i64 n', .int .i64 0], .int .i64 (m' : Nat)]) (by simp [results, Tryd.results17, go_sem, c0, c1, c2, c3]) rfl ⟨rfl, below_set4 hbw2 (Nat.le_refl _) _ _ _ _⟩

set_option maxHeartbeats 2000000 in
theorem first_quote (s : ByteArray) (c : Int) (w : World) (x : Lx) (HC : Hid (∀ W, Calls Tryd.prog 25 #[.int .i32 c] W fun e w' => e = .returned (.int .i64 8) ∧ W = w'))
    (hs : Says 32 #[.string s] w x) (hn : NamesIt w x) :
    Calls Tryd.prog 17 #[.string s, .int .i32 c] w fun e w' => e = .returned (lxr (namedL x)) ∧ Below w.heap.size w w' := by
  have HB := Lib.hid (fun o : Obj => (Below.refl w.heap.size w).alloc (Nat.le_refl _) o)
  have HS := Lib.hid hs
  have HN := Lib.hid hn
  clear hs hn
  unfold NamesIt at HN
  generalize namedL x = y at *
  obtain ⟨k, u, n, m⟩ := x
  obtain ⟨k', u', n', m'⟩ := y
  unfold Says lxr lxv at HS
  unfold lxr lxv at HN
  unfold lxr lxv
  dsimp only at HS HN ⊢
  generalize (⟨u.toArray⟩ : ByteArray) = u2 at *
  generalize (⟨u'.toArray⟩ : ByteArray) = u3 at *
  go_enter Tryd.func17, Tryd.ntmps17
  go_wp2_with fail
  refine (HC.out _).mono ?_; rintro e w1 ⟨rfl, rfl⟩
  go_wp2_with fail
  refine (HS.out _ (HB.out _)).mono ?_; rintro e w1 ⟨rfl, hb⟩
  have hz := kept_at hb (new_at w _)
  have hbw := (HB.out _).trans (hb.mono (by simp))
  clear hb
  go_wp2_with fail
  refine (HN.out _ hbw).mono ?_; rintro e w2 ⟨rfl, hb⟩
  obtain ⟨c0, c1, c2, c3, f0, f1, f2, f3⟩ := cells4 (kept_at hb hz)
  have hbw2 := hbw.trans (hb.mono hbw.size)
  clear hb hz hbw
  go_wp2_with fail
  refine bodyPost_ret (v := .tuple #[.agg #[.int .i64 k', .string u3, .int .i64 n', .int .i64 0], .int .i64 (m' : Nat)]) (by simp [results, Tryd.results17, go_sem, c0, c1, c2, c3]) rfl ⟨rfl, below_set4 hbw2 (Nat.le_refl _) _ _ _ _⟩

set_option maxHeartbeats 2000000 in
theorem first_punct (s : ByteArray) (c : Int) (w : World) (x : Lx) (HC : Hid (∀ W, Calls Tryd.prog 25 #[.int .i32 c] W fun e w' => e = .returned (.int .i64 6) ∧ W = w'))
    (hs : Says 33 #[.string s, .int .i32 c] w x) :
    Calls Tryd.prog 17 #[.string s, .int .i32 c] w fun e w' => e = .returned (lxr x) ∧ Below w.heap.size w w' := by
  have HB := Lib.hid (fun o : Obj => (Below.refl w.heap.size w).alloc (Nat.le_refl _) o)
  have HS := Lib.hid hs
  clear hs
  obtain ⟨k, u, n, m⟩ := x
  unfold Says lxr lxv at HS
  unfold lxr lxv
  dsimp only at HS ⊢
  generalize (⟨u.toArray⟩ : ByteArray) = u2 at *
  go_enter Tryd.func17, Tryd.ntmps17
  go_wp2_with fail
  refine (HC.out _).mono ?_; rintro e w1 ⟨rfl, rfl⟩
  go_wp2_with fail
  refine (HS.out _ (HB.out _)).mono ?_; rintro e w1 ⟨rfl, hb⟩
  obtain ⟨c0, c1, c2, c3, f0, f1, f2, f3⟩ := cells4 (kept_at hb (new_at w _))
  have hbw := (HB.out _).trans (hb.mono (by simp))
  clear hb
  go_wp2_with fail
  refine bodyPost_ret (v := .tuple #[.agg #[.int .i64 k, .string u2, .int .i64 n, .int .i64 0], .int .i64 (m : Nat)]) (by simp [results, Tryd.results17, go_sem, c0, c1, c2, c3]) rfl ⟨rfl, below_set4 hbw (Nat.le_refl _) _ _ _ _⟩

set_option maxHeartbeats 2000000 in
theorem first_solo (s : ByteArray) (c : Int) (w : World) (x : Lx) (HC : Hid (∀ W, Calls Tryd.prog 25 #[.int .i32 c] W fun e w' => e = .returned (.int .i64 7) ∧ W = w'))
    (hs : Says 33 #[.string s, .int .i32 c] w x) :
    Calls Tryd.prog 17 #[.string s, .int .i32 c] w fun e w' => e = .returned (lxr x) ∧ Below w.heap.size w w' := by
  have HB := Lib.hid (fun o : Obj => (Below.refl w.heap.size w).alloc (Nat.le_refl _) o)
  have HS := Lib.hid hs
  clear hs
  obtain ⟨k, u, n, m⟩ := x
  unfold Says lxr lxv at HS
  unfold lxr lxv
  dsimp only at HS ⊢
  generalize (⟨u.toArray⟩ : ByteArray) = u2 at *
  go_enter Tryd.func17, Tryd.ntmps17
  go_wp2_with fail
  refine (HC.out _).mono ?_; rintro e w1 ⟨rfl, rfl⟩
  go_wp2_with fail
  refine (HS.out _ (HB.out _)).mono ?_; rintro e w1 ⟨rfl, hb⟩
  obtain ⟨c0, c1, c2, c3, f0, f1, f2, f3⟩ := cells4 (kept_at hb (new_at w _))
  have hbw := (HB.out _).trans (hb.mono (by simp))
  clear hb
  go_wp2_with fail
  refine bodyPost_ret (v := .tuple #[.agg #[.int .i64 k, .string u2, .int .i64 n, .int .i64 0], .int .i64 (m : Nat)]) (by simp [results, Tryd.results17, go_sem, c0, c1, c2, c3]) rfl ⟨rfl, below_set4 hbw (Nat.le_refl _) _ _ _ _⟩

set_option maxHeartbeats 2000000 in
theorem first_line (s : ByteArray) (c : Int) (w : World) (x : Lx) (HC : Hid (∀ W, Calls Tryd.prog 25 #[.int .i32 c] W fun e w' => e = .returned (.int .i64 0) ∧ W = w'))
    (h37 : (c == 37) = true) (hs : Says 34 #[.string s] w x) :
    Calls Tryd.prog 17 #[.string s, .int .i32 c] w fun e w' => e = .returned (lxr x) ∧ Below w.heap.size w w' := by
  have HB := Lib.hid (fun o : Obj => (Below.refl w.heap.size w).alloc (Nat.le_refl _) o)
  have HS := Lib.hid hs
  clear hs
  obtain ⟨k, u, n, m⟩ := x
  unfold Says lxr lxv at HS
  unfold lxr lxv
  dsimp only at HS ⊢
  generalize (⟨u.toArray⟩ : ByteArray) = u2 at *
  go_enter Tryd.func17, Tryd.ntmps17
  go_wp2_with fail
  refine (HC.out _).mono ?_; rintro e w1 ⟨rfl, rfl⟩
  go_wp2_with fail
  refine (HS.out _ (HB.out _)).mono ?_; rintro e w1 ⟨rfl, hb⟩
  obtain ⟨c0, c1, c2, c3, f0, f1, f2, f3⟩ := cells4 (kept_at hb (new_at w _))
  have hbw := (HB.out _).trans (hb.mono (by simp))
  clear hb
  go_wp2_with fail
  refine bodyPost_ret (v := .tuple #[.agg #[.int .i64 k, .string u2, .int .i64 n, .int .i64 0], .int .i64 (m : Nat)]) (by simp [results, Tryd.results17, go_sem, c0, c1, c2, c3]) rfl ⟨rfl, below_set4 hbw (Nat.le_refl _) _ _ _ _⟩

set_option maxHeartbeats 2000000 in
theorem first_blank (s : ByteArray) (c : Int) (w : World) (HC : Hid (∀ W, Calls Tryd.prog 25 #[.int .i32 c] W fun e w' => e = .returned (.int .i64 5) ∧ W = w')) :
    Calls Tryd.prog 17 #[.string s, .int .i32 c] w fun e w' => e = .returned (lxr ⟨0, [], 0, 1⟩) ∧ Below w.heap.size w w' := by
  have HB := Lib.hid (fun o : Obj => (Below.refl w.heap.size w).alloc (Nat.le_refl _) o)
  unfold lxr lxv
  dsimp only
  go_enter Tryd.func17, Tryd.ntmps17
  go_wp2_with fail
  refine (HC.out _).mono ?_; rintro e w1 ⟨rfl, rfl⟩
  go_wp2_with fail
  refine bodyPost_ret (v := .tuple #[.agg #[.int .i64 0, .string ⟨#[]⟩, .int .i64 0, .int .i64 0], .int .i64 1]) (by simp [results, Tryd.results17, go_sem]) rfl ⟨rfl, HB.out _⟩

set_option maxHeartbeats 2000000 in
theorem first_none (s : ByteArray) (c : Int) (w : World) (HC : Hid (∀ W, Calls Tryd.prog 25 #[.int .i32 c] W fun e w' => e = .returned (.int .i64 0) ∧ W = w')) (h37 : (c == 37) = false) :
    Calls Tryd.prog 17 #[.string s, .int .i32 c] w fun e w' => e = .returned (lxr ⟨0, [], 0, 0⟩) ∧ Below w.heap.size w w' := by
  have HB := Lib.hid (fun o : Obj => (Below.refl w.heap.size w).alloc (Nat.le_refl _) o)
  unfold lxr lxv
  dsimp only
  go_enter Tryd.func17, Tryd.ntmps17
  go_wp2_with fail
  refine (HC.out _).mono ?_; rintro e w1 ⟨rfl, rfl⟩
  go_wp2_with fail
  refine bodyPost_ret (v := .tuple #[.agg #[.int .i64 0, .string ⟨#[]⟩, .int .i64 0, .int .i64 0], .int .i64 0]) (by simp [results, Tryd.results17, go_sem]) rfl ⟨rfl, HB.out _⟩

theorem text_len {s : ByteArray} {n : Nat} (hs : s.size ≤ 200000) : (s.data.toList.take n).length ≤ maxLen := by
  rw [List.length_take, size_listT]; unfold maxLen; omega
theorem quoted_len {l : List UInt8} (h : l.length ≤ 200000) : (quotedL l).text.length ≤ maxLen := by
  unfold quotedL
  cases hr : readL l with
  | none => show (0 : Nat) ≤ maxLen; unfold maxLen; omega
  | some r =>
    obtain ⟨t, k⟩ := r
    have := readL_text hr
    show t.length ≤ maxLen
    unfold maxLen; omega
/-- first, whole. -/
theorem tok_first (s : ByteArray) (c : Int) (b : UInt8) (t : List UInt8) (w : World) (h : s.data.toList = b :: t) (hc : c = ((Lib.decodeL (b :: t)).1 : Int)) (hs : s.size ≤ 200000) (hT : TabsT w) :
    Calls Tryd.prog 17 #[.string s, .int .i32 c] w fun e w' => e = .returned (lxr (lexL s.data.toList)) ∧ Below w.heap.size w w' := by
  obtain ⟨e1, e2, e3⟩ := cls_first hc
  have HC := Lib.hid (fun W => dev_Class c W)
  rw [e1] at HC
  have hl := size_listT s
  have HP := Lib.hid (fun W => Tryd.strings_HasPrefix s ⟨#[47, 42]⟩ W)
  rw [show (⟨#[47, 42]⟩ : ByteArray).data.toList = [47, 42] from rfl, hasPre2] at HP
  have hlow : ∀ k : Int, k ≠ 0 → cls (b.toNat : Int) = k → b.toNat < 128 := fun k hk h => by
    apply Classical.byContradiction
    intro hc
    rw [cls_high _ (by omega)] at h
    exact hk h.symm
  have word := fun k => (fun W _ => tok_word s k W : Says 27 #[.string s, .int .i64 k] w (wordL k s.data.toList))
  have number : Says 28 #[.string s] w (numberL s.data.toList) := fun W hb => tok_number s W (hT.on hb) hs
  have signs : Says 31 #[.string s] w (signsL s.data.toList) := fun W _ => tok_signs s W
  have quoted : Says 32 #[.string s] w (quotedL s.data.toList) := fun W hb => tok_quoted s W hs (hT.on hb)
  have line : Says 34 #[.string s] w ⟨0, [], 0, spanL lineR s.data.toList⟩ := fun W _ => tok_lineRemark s W
  have single : b.toNat < 128 → Says 33 #[.string s, .int .i32 c] w (singleL b) := fun hb W _ => tok_single s c b t W h (e3 hb)
  have closed : s.data.toList.take 2 = [47, 42] → Says 30 #[.string s] w (remarkL s.data.toList) := fun h2 W hb => tok_closed s W (take2_size h2) hs (hT.on hb)
  rcases cls_range (b.toNat : Int) with q | q | q | q | q | q | q | q | q
  · rw [q] at HC
    by_cases h37 : b = 37
    · have e : lexL s.data.toList = ⟨0, [], 0, spanL lineR s.data.toList⟩ := by
        rw [h]; unfold lexL; dsimp only
        rw [q, if_neg (by decide), if_neg (by decide), if_neg (by decide), if_neg (by decide), if_neg (by decide), if_neg (by decide), if_neg (by decide), if_pos h37]
      rw [e]
      exact first_line s c w _ HC (by rw [e2, decide_eq_true h37]) line
    · have e : lexL s.data.toList = ⟨0, [], 0, 0⟩ := by
        rw [h]; unfold lexL; dsimp only
        rw [q, if_neg (by decide), if_neg (by decide), if_neg (by decide), if_neg (by decide), if_neg (by decide), if_neg (by decide), if_neg (by decide), if_neg h37]; rfl
      rw [e]
      exact first_none s c w HC (by rw [e2, decide_eq_false h37])
  · rw [q] at HC
    have e : lexL s.data.toList = namedL (wordL 1 s.data.toList) := by rw [h]; unfold lexL; dsimp only; rw [q, if_neg (by decide), if_pos rfl]
    rw [e]
    exact first_name s c w _ HC (word 1) (names_it (text_len hs) hT)
  · rw [q] at HC
    have e : lexL s.data.toList = wordL 4 s.data.toList := by rw [h]; unfold lexL; dsimp only; rw [q, if_neg (by decide), if_neg (by decide), if_pos rfl]
    rw [e]
    exact first_big s c w _ HC (word 4)
  · rw [q] at HC
    have e : lexL s.data.toList = numberL s.data.toList := by rw [h]; unfold lexL; dsimp only; rw [q, if_neg (by decide), if_neg (by decide), if_neg (by decide), if_pos rfl]
    rw [e]
    exact first_digit s c w _ HC number
  · rw [q] at HC
    by_cases h2 : s.data.toList.take 2 = [47, 42]
    · rw [decide_eq_true h2] at HP
      have e : lexL s.data.toList = remarkL s.data.toList := by
        rw [h] at h2 ⊢; unfold lexL; dsimp only; rw [q, if_neg (by decide), if_neg (by decide), if_neg (by decide), if_neg (by decide), if_pos rfl, if_pos h2]
      rw [e]
      exact first_remark s c w _ HC HP (closed h2)
    · rw [decide_eq_false h2] at HP
      have e : lexL s.data.toList = namedL (signsL s.data.toList) := by
        rw [h] at h2 ⊢; unfold lexL; dsimp only; rw [q, if_neg (by decide), if_neg (by decide), if_neg (by decide), if_neg (by decide), if_pos rfl, if_neg h2]
      rw [e]
      exact first_sign s c w _ HC HP signs (names_it (text_len hs) hT)
  · rw [q] at HC
    have e : lexL s.data.toList = ⟨0, [], 0, 1⟩ := by rw [h]; exact lex_blank5 b t q
    rw [e]
    exact first_blank s c w HC
  · have hb := hlow 6 (by decide) q
    rw [q] at HC
    have e : lexL s.data.toList = singleL b := by rw [h]; unfold lexL; dsimp only; rw [q, if_neg (by decide), if_neg (by decide), if_neg (by decide), if_neg (by decide), if_neg (by decide), if_neg (by decide), if_pos (.inl rfl)]
    rw [e]
    exact first_punct s c w _ HC (single hb)
  · have hb := hlow 7 (by decide) q
    rw [q] at HC
    have e : lexL s.data.toList = singleL b := by rw [h]; unfold lexL; dsimp only; rw [q, if_neg (by decide), if_neg (by decide), if_neg (by decide), if_neg (by decide), if_neg (by decide), if_neg (by decide), if_pos (.inr rfl)]
    rw [e]
    exact first_solo s c w _ HC (single hb)
  · rw [q] at HC
    have e : lexL s.data.toList = namedL (quotedL s.data.toList) := by rw [h]; unfold lexL; dsimp only; rw [q, if_neg (by decide), if_neg (by decide), if_neg (by decide), if_neg (by decide), if_neg (by decide), if_pos rfl]
    rw [e]
    exact first_quote s c w _ HC quoted (names_it (quoted_len (by rw [hl]; exact hs)) hT)
end Go.Proofs.YtglaoacdenecfaaDoor
