/-
  The contracts of the document's own eval, Eval and Holds for arith (gen/genAriC.py).
-/
import Derived.Test.YtpmohibhdnmjlaaAriB
namespace Go.Proofs.Ytpmohibhdnmjlaa
open Go.RowKit

theorem args_ways (l : List Tm) : (∃ a, l = [a]) ∨ (∃ a b, l = [a, b]) ∨ (l.length ≠ 1 ∧ l.length ≠ 2) := by
  match l with
  | [] => exact .inr (.inr ⟨by simp, by simp⟩)
  | [a] => exact .inl ⟨a, rfl⟩
  | [a, b] => exact .inr (.inl ⟨a, b, rfl⟩)
  | a :: b :: c :: l => exact .inr (.inr ⟨by simp, by simp⟩)
theorem evK_other {f : Tm → Int × Int} {t : Tm} (h4 : t.kind = 4) (h1 : t.args.length ≠ 1) (h2 : t.args.length ≠ 2) : evK f t = (0, 111) := by
  unfold evK
  rw [if_neg (by omega), if_neg (by omega), if_neg (by omega)]
  split
  · next a e => rw [e] at h1; exact absurd rfl h1
  · next a b e => rw [e] at h2; exact absurd rfl h2
  · rfl
theorem evK_one {f : Tm → Int × Int} {t a : Tm} (h4 : t.kind = 4) (hA : t.args = [a]) : evK f t = if isOne t.name = true then (if (f a).2 ≠ 0 then (0, (f a).2) else tellV (oneV t.name (f a).1)) else (0, 111) := by
  unfold evK
  rw [if_neg (by omega), if_neg (by omega), if_neg (by omega), hA]
theorem evK_two {f : Tm → Int × Int} {t a b : Tm} (h4 : t.kind = 4) (hA : t.args = [a, b]) : evK f t = if isTwo t.name = true then (if (f a).2 ≠ 0 then (0, (f a).2) else if (f b).2 ≠ 0 then (0, (f b).2) else tellV (twoV t.name (f a).1 (f b).1)) else (0, 111) := by
  unfold evK
  rw [if_neg (by omega), if_neg (by omega), if_neg (by omega), hA]

set_option maxRecDepth 100000 in
set_option maxHeartbeats 4000000 in
theorem ev_deep (bs : List (Int × Tm)) (ab : Option Addr) (cb : Nat) (t : Tm) (ad : Option Addr) (cap : Nat) (w : World) :
    Calls Try.prog 26 #[.slice ab bs.length cb, tmv t ad cap, .int .i64 60] w (EvO (0, 3) w) := by
  have HB := Lib.hid ((Below.refl w.heap.size w).alloc (Nat.le_refl _) (.cells #[.int .i64 t.kind, .string t.name, .int .i64 t.n, .slice ad t.args.length cap] 25))
  unfold tmv
  go_enter Try.func26, Try.ntmps26
  go_wp2_with fail
  go_ret2
  exact ⟨rfl, HB.out⟩
theorem tm_n64 {w : World} {t : Tm} {ad : Option Addr} {cap : Nat} (h : TmIn w t ad cap) : t.n64 := (Tm.n64_eq _).2 ⟨h.n, h.args.n64⟩
theorem r11_eval (bs : List (Int × Tm)) (ab : Option Addr) (cb : Nat) (hlen : bs.length ≤ 1000000) : ∀ (d : Nat) (o : Int), o + (d : Nat) = 60 → d ≤ 60 → ∀ (t : Tm) (ad : Option Addr) (cap : Nat) (w : World), BdsAt w (fun b => b < w.heap.size) ab bs → TmIn w t ad cap →
    Calls Try.prog 26 #[.slice ab bs.length cb, tmv t ad cap, .int .i64 o] w (EvO (evD bs d t) w)
  | 0, o, ho, _, t, ad, cap, w, _, _ => by
    obtain rfl : o = 60 := by omega
    exact ev_deep bs ab cb t ad cap w
  | d + 1, o, ho, hd, t, ad, cap, w, hb, ht => by
    have ho2 : 0 ≤ o ∧ o < 60 := by omega
    have ih := r11_eval bs ab cb hlen d (o + 1) (by omega) (by omega)
    have h64 : (walkL bs 0 t).1.n64 := walkF_n64 hb.n64 (2001 - 0) 0 t (tm_n64 ht)
    unfold evD
    generalize hX : walkL bs 0 t = m at *
    obtain ⟨X, er, n⟩ := m
    dsimp only at h64 ⊢
    have hok : ∀ a ∈ X.args, EvOk (evD bs d a) := fun a ha => evD_ok hb.n64 d a (n64s_mem ((Tm.n64_eq _).1 h64).2 a ha)
    by_cases her : er = 0
    · subst her
      rw [if_neg (by simp)]
      by_cases h1 : X.kind = 1
      · rw [show evK (evD bs d) X = (0, 110) by unfold evK; rw [if_pos h1]]
        exact ev_var bs ab cb t ad cap o w hlen hb ht ho2 X n hX h1
      by_cases h3 : X.kind = 3
      · rw [show evK (evD bs d) X = (X.n, 0) by unfold evK; rw [if_neg h1, if_pos h3]]
        exact ev_int bs ab cb t ad cap o w hlen hb ht ho2 X n hX h3
      by_cases h4 : X.kind = 4
      · rcases args_ways X.args with ⟨a, hA⟩ | ⟨a, b, hA⟩ | ⟨g1, g2⟩
        · rw [evK_one h4 hA]
          by_cases hq : isOne X.name = true
          · rw [if_pos hq]
            exact ev_one bs ab cb t ad cap o w hlen hb ht ho2 X n hX h4 a hA hq _ _ (fun a1 c1 W h h' => ih a a1 c1 W h h') (hok a (by rw [hA]; exact .head _))
          · rw [if_neg hq]
            exact ev_one_no bs ab cb t ad cap o w hlen hb ht ho2 X n hX h4 (by rw [hA]; rfl) (by simpa using hq)
        · rw [evK_two h4 hA]
          by_cases hq : isTwo X.name = true
          · rw [if_pos hq]
            exact ev_two bs ab cb t ad cap o w hlen hb ht ho2 X n hX h4 a b hA hq _ _ _ _ (fun a1 c1 W h h' => ih a a1 c1 W h h') (hok a (by rw [hA]; exact .head _)) (fun a1 c1 W h h' => ih b a1 c1 W h h') (hok b (by rw [hA]; exact .tail _ (.head _)))
          · rw [if_neg hq]
            exact ev_two_no bs ab cb t ad cap o w hlen hb ht ho2 X n hX h4 (by rw [hA]; rfl) (by simpa using hq)
        · rw [evK_other h4 g1 g2]
          exact ev_none bs ab cb t ad cap o w hlen hb ht ho2 X n hX h4 g1 g2
      · rw [show evK (evD bs d) X = (0, 111) by unfold evK; rw [if_neg h1, if_neg h3, if_pos h4]]
        exact ev_not bs ab cb t ad cap o w hlen hb ht ho2 X n hX h1 h3 h4
    · rw [if_pos her]
      exact ev_err bs ab cb t ad cap o w hlen hb ht ho2 X er n hX her

set_option maxRecDepth 100000 in
set_option maxHeartbeats 4000000 in
theorem r11_Eval (bs : List (Int × Tm)) (ab : Option Addr) (cb : Nat) (t : Tm) (ad : Option Addr) (cap : Nat) (w : World) (hlen : bs.length ≤ 1000000) (hb : BdsAt w (fun b => b < w.heap.size) ab bs) (ht : TmIn w t ad cap) :
    Calls Try.prog 10 #[.slice ab bs.length cb, tmv t ad cap] w (EvO (evD bs 60 t) w) := by
  have HI := Lib.hid (EvB.start w t ad cap ht)
  have HE := Lib.hid (fun W (h : Below w.heap.size w W) => r11_eval bs ab cb hlen 60 0 (by omega) (Nat.le_refl _) t ad cap W (hb.kept (fun b hb' _ => h.block b hb') fun b hb' _ => Nat.lt_of_lt_of_le hb' h.size) (ht.on h))
  clear hb ht
  generalize evD bs 60 t = r at *
  unfold EvO tmv at HE
  unfold tmv
  go_enter Try.func10, Try.ntmps10
  go_upto_region 1 with fail
  generalize w.alloc _ = w0 at *
  obtain ⟨x0, x1, x2, x3, _⟩ := cellsT HI.out.1
  go_wp2_with fail
  refine (HE.out _ HI.out.2.2).mono ?_; rintro e w1 ⟨rfl, hb1⟩
  have HB := Lib.hid (HI.out.on hb1).2.2
  clear hb1
  go_wp2_with fail
  go_ret2
  exact ⟨rfl, HB.out⟩

/-- Whether an operator holds between two numbers. -/
def opV (s : ByteArray) (n m : Int) : Bool :=
  if (s.toList == [61, 58, 61]) = true then n == m else if (s.toList == [61, 92, 61]) = true then n != m else if (s.toList == [60]) = true then decide (n < m)
  else if (s.toList == [61, 60]) = true then decide (n ≤ m) else if (s.toList == [62]) = true then decide (m < n) else decide (m ≤ n)
def isOp (s : ByteArray) : Bool := s.toList == [61, 58, 61] || (s.toList == [61, 92, 61] || (s.toList == [60] || (s.toList == [61, 60] || (s.toList == [62] || s.toList == [62, 61]))))
/-- What a comparison answers of two values. -/
def cmpA (s : ByteArray) (x y : Int × Int) : Bool × Int := if isOp s = true then (if x.2 ≠ 0 then (false, x.2) else if y.2 ≠ 0 then (false, y.2) else (opV s x.1 y.1, 0)) else (false, 1)
theorem isOp_no {s : ByteArray} (h : isOp s = false) : (s.toList == [61, 58, 61]) = false ∧ (s.toList == [61, 92, 61]) = false ∧ (s.toList == [60]) = false ∧ (s.toList == [61, 60]) = false ∧ (s.toList == [62]) = false ∧ (s.toList == [62, 61]) = false := by
  unfold isOp at h
  rw [Bool.or_eq_false_iff, Bool.or_eq_false_iff, Bool.or_eq_false_iff, Bool.or_eq_false_iff, Bool.or_eq_false_iff] at h
  exact h
/-- Two terms' own boxes. -/
def TwoB (w : World) (x : Tm) (ax : Option Addr) (cx : Nat) (y : Tm) (ay : Option Addr) (cy : Nat) (W : World) : Prop :=
  W.heap[w.heap.size]? = some (.cells #[.int .i64 x.kind, .string x.name, .int .i64 x.n, .slice ax x.args.length cx] 25 (0, 0)) ∧ W.heap[w.heap.size + 1]? = some (.cells #[.int .i64 y.kind, .string y.name, .int .i64 y.n, .slice ay y.args.length cy] 25 (0, 0)) ∧ Below w.heap.size w W
theorem TwoB.on {w : World} {x : Tm} {ax : Option Addr} {cx : Nat} {y : Tm} {ay : Option Addr} {cy : Nat} {W W' : World} (h : TwoB w x ax cx y ay cy W) (hb : Below W.heap.size W W') : TwoB w x ax cx y ay cy W' := ⟨keptR9 hb h.1, keptR9 hb h.2.1, h.2.2.trans (hb.mono h.2.2.size)⟩
theorem two_boxes (w : World) (x : Tm) (ax : Option Addr) (cx : Nat) (y : Tm) (ay : Option Addr) (cy : Nat) : TwoB w x ax cx y ay cy ((w.alloc (.cells #[.int .i64 x.kind, .string x.name, .int .i64 x.n, .slice ax x.args.length cx] 25)).alloc (.cells #[.int .i64 y.kind, .string y.name, .int .i64 y.n, .slice ay y.args.length cy] 25)) :=
  ⟨(Below.heap_alloc (w.alloc _) _ _ (by simp)).trans (alloc_new w _), alloc_new2 w _ _, ((Below.refl _ w).alloc (Nat.le_refl _) _).alloc (by simp) _⟩

set_option maxRecDepth 100000 in
set_option maxHeartbeats 8000000 in
theorem ho_no (bs : List (Int × Tm)) (ab : Option Addr) (cb : Nat) (s : ByteArray) (x y : Tm) (ax : Option Addr) (cx : Nat) (ay : Option Addr) (cy : Nat) (w : World) (h : isOp s = false) :
    Calls Try.prog 12 #[.slice ab bs.length cb, .string s, tmv x ax cx, tmv y ay cy] w fun e w' => e = .returned (.tuple #[.bool false, .int .i64 1]) ∧ Below w.heap.size w w' := by
  have HI := Lib.hid (two_boxes w x ax cx y ay cy)
  obtain ⟨s1, s2, s3, s4, s5, s6⟩ := isOp_no h
  clear h
  unfold tmv
  go_enter Try.func12, Try.ntmps12
  go_wp2_with fail
  go_ret2
  exact ⟨rfl, HI.out.2.2⟩

set_option maxRecDepth 100000 in
set_option maxHeartbeats 8000000 in
theorem ho_0 (bs : List (Int × Tm)) (ab : Option Addr) (cb : Nat) (s : ByteArray) (x y : Tm) (ax : Option Addr) (cx : Nat) (ay : Option Addr) (cy : Nat) (w : World) (hlen : bs.length ≤ 1000000) (hb : BdsAt w (fun b => b < w.heap.size) ab bs) (hx : TmIn w x ax cx) (hy : TmIn w y ay cy) (s1 : (s.toList == [61, 58, 61]) = true) :
    Calls Try.prog 12 #[.slice ab bs.length cb, .string s, tmv x ax cx, tmv y ay cy] w fun e w' => e = .returned (.tuple #[.bool ((cmpA s (evD bs 60 x) (evD bs 60 y))).1, .int .i64 ((cmpA s (evD bs 60 x) (evD bs 60 y))).2]) ∧ Below w.heap.size w w' := by
  have HI := Lib.hid (two_boxes w x ax cx y ay cy)
  have HX := Lib.hid (fun W (h : Below w.heap.size w W) => r11_Eval bs ab cb x ax cx W hlen (hb.kept (fun b hb' _ => h.block b hb') fun b hb' _ => Nat.lt_of_lt_of_le hb' h.size) (hx.on h))
  have HY := Lib.hid (fun W (h : Below w.heap.size w W) => r11_Eval bs ab cb y ay cy W hlen (hb.kept (fun b hb' _ => h.block b hb') fun b hb' _ => Nat.lt_of_lt_of_le hb' h.size) (hy.on h))
  clear hb hx hy
  generalize evD bs 60 x = rx at *
  generalize evD bs 60 y = ry at *
  obtain ⟨n, e1⟩ := rx
  obtain ⟨m, e2⟩ := ry
  unfold EvO tmv at HX HY
  dsimp only at HX HY
  unfold tmv
  have HO : Hid (opV s n m = (n == m)) := Lib.hid (by unfold opV; rw [if_pos s1])
  have HQ : Hid (isOp s = true) := Lib.hid (by unfold isOp; rw [s1]; rfl)
  obtain ⟨R, hR⟩ : ∃ R, cmpA s (n, e1) (m, e2) = R := ⟨_, rfl⟩
  rw [hR]
  unfold cmpA at hR
  rw [if_pos HQ.out, HO.out] at hR
  dsimp only at hR
  have HR := Lib.hid hR
  clear hR HQ HO
  go_enter Try.func12, Try.ntmps12
  go_upto_region 9 with fail
  generalize (w.alloc _).alloc _ = w0 at *
  obtain ⟨x0, x1, x2, x3, _⟩ := cellsT HI.out.1
  go_wp2_with fail
  refine (HX.out _ HI.out.2.2).mono ?_; rintro e w1 ⟨rfl, hb1⟩
  replace HI := Lib.hid (HI.out.on hb1)
  clear hb1 x0 x1 x2 x3
  obtain ⟨y0, y1, y2, y3, _⟩ := cellsT HI.out.2.1
  by_cases hz : e1 = 0
  · rw [if_neg (by simpa using hz)] at HR
    subst hz
    go_wp2_with fail
    refine (HY.out _ HI.out.2.2).mono ?_; rintro e w2 ⟨rfl, hb2⟩
    replace HI := Lib.hid (HI.out.on hb2)
    clear hb2 y0 y1 y2 y3
    by_cases hy : e2 = 0
    · rw [if_neg (by simpa using hy)] at HR
      subst hy
      go_wp2_with fail
      refine bodyPost_ret (v := .tuple #[.bool (n == m), .int .i64 0]) (by simp [results, Try.results12, go_sem]) rfl ?_
      rw [← HR.out]
      exact ⟨rfl, HI.out.2.2⟩
    · rw [if_pos hy] at HR
      have g2 : (e2 != 0) = true := by simpa using hy
      clear hy
      go_wp2_with fail
      go_ret2
      rw [← HR.out]
      exact ⟨rfl, HI.out.2.2⟩
  · rw [if_pos hz] at HR
    have g1 : (e1 != 0) = true := by simpa using hz
    clear hz
    go_wp2_with fail
    go_ret2
    rw [← HR.out]
    exact ⟨rfl, HI.out.2.2⟩

set_option maxRecDepth 100000 in
set_option maxHeartbeats 8000000 in
theorem ho_1 (bs : List (Int × Tm)) (ab : Option Addr) (cb : Nat) (s : ByteArray) (x y : Tm) (ax : Option Addr) (cx : Nat) (ay : Option Addr) (cy : Nat) (w : World) (hlen : bs.length ≤ 1000000) (hb : BdsAt w (fun b => b < w.heap.size) ab bs) (hx : TmIn w x ax cx) (hy : TmIn w y ay cy) (s1 : (s.toList == [61, 58, 61]) = false) (s2 : (s.toList == [61, 92, 61]) = true) :
    Calls Try.prog 12 #[.slice ab bs.length cb, .string s, tmv x ax cx, tmv y ay cy] w fun e w' => e = .returned (.tuple #[.bool ((cmpA s (evD bs 60 x) (evD bs 60 y))).1, .int .i64 ((cmpA s (evD bs 60 x) (evD bs 60 y))).2]) ∧ Below w.heap.size w w' := by
  have HI := Lib.hid (two_boxes w x ax cx y ay cy)
  have HX := Lib.hid (fun W (h : Below w.heap.size w W) => r11_Eval bs ab cb x ax cx W hlen (hb.kept (fun b hb' _ => h.block b hb') fun b hb' _ => Nat.lt_of_lt_of_le hb' h.size) (hx.on h))
  have HY := Lib.hid (fun W (h : Below w.heap.size w W) => r11_Eval bs ab cb y ay cy W hlen (hb.kept (fun b hb' _ => h.block b hb') fun b hb' _ => Nat.lt_of_lt_of_le hb' h.size) (hy.on h))
  clear hb hx hy
  generalize evD bs 60 x = rx at *
  generalize evD bs 60 y = ry at *
  obtain ⟨n, e1⟩ := rx
  obtain ⟨m, e2⟩ := ry
  unfold EvO tmv at HX HY
  dsimp only at HX HY
  unfold tmv
  have HO : Hid (opV s n m = (n != m)) := Lib.hid (by unfold opV; rw [if_neg (by rw [s1]; nofun), if_pos s2])
  have HQ : Hid (isOp s = true) := Lib.hid (by unfold isOp; rw [s1, s2]; rfl)
  obtain ⟨R, hR⟩ : ∃ R, cmpA s (n, e1) (m, e2) = R := ⟨_, rfl⟩
  rw [hR]
  unfold cmpA at hR
  rw [if_pos HQ.out, HO.out] at hR
  dsimp only at hR
  have HR := Lib.hid hR
  clear hR HQ HO
  go_enter Try.func12, Try.ntmps12
  go_upto_region 9 with fail
  generalize (w.alloc _).alloc _ = w0 at *
  obtain ⟨x0, x1, x2, x3, _⟩ := cellsT HI.out.1
  go_wp2_with fail
  refine (HX.out _ HI.out.2.2).mono ?_; rintro e w1 ⟨rfl, hb1⟩
  replace HI := Lib.hid (HI.out.on hb1)
  clear hb1 x0 x1 x2 x3
  obtain ⟨y0, y1, y2, y3, _⟩ := cellsT HI.out.2.1
  by_cases hz : e1 = 0
  · rw [if_neg (by simpa using hz)] at HR
    subst hz
    go_wp2_with fail
    refine (HY.out _ HI.out.2.2).mono ?_; rintro e w2 ⟨rfl, hb2⟩
    replace HI := Lib.hid (HI.out.on hb2)
    clear hb2 y0 y1 y2 y3
    by_cases hy : e2 = 0
    · rw [if_neg (by simpa using hy)] at HR
      subst hy
      go_wp2_with fail
      refine bodyPost_ret (v := .tuple #[.bool (n != m), .int .i64 0]) (by simp [results, Try.results12, go_sem]) rfl ?_
      rw [← HR.out]
      exact ⟨rfl, HI.out.2.2⟩
    · rw [if_pos hy] at HR
      have g2 : (e2 != 0) = true := by simpa using hy
      clear hy
      go_wp2_with fail
      go_ret2
      rw [← HR.out]
      exact ⟨rfl, HI.out.2.2⟩
  · rw [if_pos hz] at HR
    have g1 : (e1 != 0) = true := by simpa using hz
    clear hz
    go_wp2_with fail
    go_ret2
    rw [← HR.out]
    exact ⟨rfl, HI.out.2.2⟩

set_option maxRecDepth 100000 in
set_option maxHeartbeats 8000000 in
theorem ho_2 (bs : List (Int × Tm)) (ab : Option Addr) (cb : Nat) (s : ByteArray) (x y : Tm) (ax : Option Addr) (cx : Nat) (ay : Option Addr) (cy : Nat) (w : World) (hlen : bs.length ≤ 1000000) (hb : BdsAt w (fun b => b < w.heap.size) ab bs) (hx : TmIn w x ax cx) (hy : TmIn w y ay cy) (s1 : (s.toList == [61, 58, 61]) = false) (s2 : (s.toList == [61, 92, 61]) = false) (s3 : (s.toList == [60]) = true) :
    Calls Try.prog 12 #[.slice ab bs.length cb, .string s, tmv x ax cx, tmv y ay cy] w fun e w' => e = .returned (.tuple #[.bool ((cmpA s (evD bs 60 x) (evD bs 60 y))).1, .int .i64 ((cmpA s (evD bs 60 x) (evD bs 60 y))).2]) ∧ Below w.heap.size w w' := by
  have HI := Lib.hid (two_boxes w x ax cx y ay cy)
  have HX := Lib.hid (fun W (h : Below w.heap.size w W) => r11_Eval bs ab cb x ax cx W hlen (hb.kept (fun b hb' _ => h.block b hb') fun b hb' _ => Nat.lt_of_lt_of_le hb' h.size) (hx.on h))
  have HY := Lib.hid (fun W (h : Below w.heap.size w W) => r11_Eval bs ab cb y ay cy W hlen (hb.kept (fun b hb' _ => h.block b hb') fun b hb' _ => Nat.lt_of_lt_of_le hb' h.size) (hy.on h))
  clear hb hx hy
  generalize evD bs 60 x = rx at *
  generalize evD bs 60 y = ry at *
  obtain ⟨n, e1⟩ := rx
  obtain ⟨m, e2⟩ := ry
  unfold EvO tmv at HX HY
  dsimp only at HX HY
  unfold tmv
  have HO : Hid (opV s n m = (decide (n < m))) := Lib.hid (by unfold opV; rw [if_neg (by rw [s1]; nofun), if_neg (by rw [s2]; nofun), if_pos s3])
  have HQ : Hid (isOp s = true) := Lib.hid (by unfold isOp; rw [s1, s2, s3]; rfl)
  obtain ⟨R, hR⟩ : ∃ R, cmpA s (n, e1) (m, e2) = R := ⟨_, rfl⟩
  rw [hR]
  unfold cmpA at hR
  rw [if_pos HQ.out, HO.out] at hR
  dsimp only at hR
  have HR := Lib.hid hR
  clear hR HQ HO
  go_enter Try.func12, Try.ntmps12
  go_upto_region 9 with fail
  generalize (w.alloc _).alloc _ = w0 at *
  obtain ⟨x0, x1, x2, x3, _⟩ := cellsT HI.out.1
  go_wp2_with fail
  refine (HX.out _ HI.out.2.2).mono ?_; rintro e w1 ⟨rfl, hb1⟩
  replace HI := Lib.hid (HI.out.on hb1)
  clear hb1 x0 x1 x2 x3
  obtain ⟨y0, y1, y2, y3, _⟩ := cellsT HI.out.2.1
  by_cases hz : e1 = 0
  · rw [if_neg (by simpa using hz)] at HR
    subst hz
    go_wp2_with fail
    refine (HY.out _ HI.out.2.2).mono ?_; rintro e w2 ⟨rfl, hb2⟩
    replace HI := Lib.hid (HI.out.on hb2)
    clear hb2 y0 y1 y2 y3
    by_cases hy : e2 = 0
    · rw [if_neg (by simpa using hy)] at HR
      subst hy
      go_wp2_with fail
      refine bodyPost_ret (v := .tuple #[.bool (decide (n < m)), .int .i64 0]) (by simp [results, Try.results12, go_sem]) rfl ?_
      rw [← HR.out]
      exact ⟨rfl, HI.out.2.2⟩
    · rw [if_pos hy] at HR
      have g2 : (e2 != 0) = true := by simpa using hy
      clear hy
      go_wp2_with fail
      go_ret2
      rw [← HR.out]
      exact ⟨rfl, HI.out.2.2⟩
  · rw [if_pos hz] at HR
    have g1 : (e1 != 0) = true := by simpa using hz
    clear hz
    go_wp2_with fail
    go_ret2
    rw [← HR.out]
    exact ⟨rfl, HI.out.2.2⟩

set_option maxRecDepth 100000 in
set_option maxHeartbeats 8000000 in
theorem ho_3 (bs : List (Int × Tm)) (ab : Option Addr) (cb : Nat) (s : ByteArray) (x y : Tm) (ax : Option Addr) (cx : Nat) (ay : Option Addr) (cy : Nat) (w : World) (hlen : bs.length ≤ 1000000) (hb : BdsAt w (fun b => b < w.heap.size) ab bs) (hx : TmIn w x ax cx) (hy : TmIn w y ay cy) (s1 : (s.toList == [61, 58, 61]) = false) (s2 : (s.toList == [61, 92, 61]) = false) (s3 : (s.toList == [60]) = false) (s4 : (s.toList == [61, 60]) = true) :
    Calls Try.prog 12 #[.slice ab bs.length cb, .string s, tmv x ax cx, tmv y ay cy] w fun e w' => e = .returned (.tuple #[.bool ((cmpA s (evD bs 60 x) (evD bs 60 y))).1, .int .i64 ((cmpA s (evD bs 60 x) (evD bs 60 y))).2]) ∧ Below w.heap.size w w' := by
  have HI := Lib.hid (two_boxes w x ax cx y ay cy)
  have HX := Lib.hid (fun W (h : Below w.heap.size w W) => r11_Eval bs ab cb x ax cx W hlen (hb.kept (fun b hb' _ => h.block b hb') fun b hb' _ => Nat.lt_of_lt_of_le hb' h.size) (hx.on h))
  have HY := Lib.hid (fun W (h : Below w.heap.size w W) => r11_Eval bs ab cb y ay cy W hlen (hb.kept (fun b hb' _ => h.block b hb') fun b hb' _ => Nat.lt_of_lt_of_le hb' h.size) (hy.on h))
  clear hb hx hy
  generalize evD bs 60 x = rx at *
  generalize evD bs 60 y = ry at *
  obtain ⟨n, e1⟩ := rx
  obtain ⟨m, e2⟩ := ry
  unfold EvO tmv at HX HY
  dsimp only at HX HY
  unfold tmv
  have HO : Hid (opV s n m = (decide (n ≤ m))) := Lib.hid (by unfold opV; rw [if_neg (by rw [s1]; nofun), if_neg (by rw [s2]; nofun), if_neg (by rw [s3]; nofun), if_pos s4])
  have HQ : Hid (isOp s = true) := Lib.hid (by unfold isOp; rw [s1, s2, s3, s4]; rfl)
  obtain ⟨R, hR⟩ : ∃ R, cmpA s (n, e1) (m, e2) = R := ⟨_, rfl⟩
  rw [hR]
  unfold cmpA at hR
  rw [if_pos HQ.out, HO.out] at hR
  dsimp only at hR
  have HR := Lib.hid hR
  clear hR HQ HO
  go_enter Try.func12, Try.ntmps12
  go_upto_region 9 with fail
  generalize (w.alloc _).alloc _ = w0 at *
  obtain ⟨x0, x1, x2, x3, _⟩ := cellsT HI.out.1
  go_wp2_with fail
  refine (HX.out _ HI.out.2.2).mono ?_; rintro e w1 ⟨rfl, hb1⟩
  replace HI := Lib.hid (HI.out.on hb1)
  clear hb1 x0 x1 x2 x3
  obtain ⟨y0, y1, y2, y3, _⟩ := cellsT HI.out.2.1
  by_cases hz : e1 = 0
  · rw [if_neg (by simpa using hz)] at HR
    subst hz
    go_wp2_with fail
    refine (HY.out _ HI.out.2.2).mono ?_; rintro e w2 ⟨rfl, hb2⟩
    replace HI := Lib.hid (HI.out.on hb2)
    clear hb2 y0 y1 y2 y3
    by_cases hy : e2 = 0
    · rw [if_neg (by simpa using hy)] at HR
      subst hy
      go_wp2_with fail
      refine bodyPost_ret (v := .tuple #[.bool (decide (n ≤ m)), .int .i64 0]) (by simp [results, Try.results12, go_sem]) rfl ?_
      rw [← HR.out]
      exact ⟨rfl, HI.out.2.2⟩
    · rw [if_pos hy] at HR
      have g2 : (e2 != 0) = true := by simpa using hy
      clear hy
      go_wp2_with fail
      go_ret2
      rw [← HR.out]
      exact ⟨rfl, HI.out.2.2⟩
  · rw [if_pos hz] at HR
    have g1 : (e1 != 0) = true := by simpa using hz
    clear hz
    go_wp2_with fail
    go_ret2
    rw [← HR.out]
    exact ⟨rfl, HI.out.2.2⟩

set_option maxRecDepth 100000 in
set_option maxHeartbeats 8000000 in
theorem ho_4 (bs : List (Int × Tm)) (ab : Option Addr) (cb : Nat) (s : ByteArray) (x y : Tm) (ax : Option Addr) (cx : Nat) (ay : Option Addr) (cy : Nat) (w : World) (hlen : bs.length ≤ 1000000) (hb : BdsAt w (fun b => b < w.heap.size) ab bs) (hx : TmIn w x ax cx) (hy : TmIn w y ay cy) (s1 : (s.toList == [61, 58, 61]) = false) (s2 : (s.toList == [61, 92, 61]) = false) (s3 : (s.toList == [60]) = false) (s4 : (s.toList == [61, 60]) = false) (s5 : (s.toList == [62]) = true) :
    Calls Try.prog 12 #[.slice ab bs.length cb, .string s, tmv x ax cx, tmv y ay cy] w fun e w' => e = .returned (.tuple #[.bool ((cmpA s (evD bs 60 x) (evD bs 60 y))).1, .int .i64 ((cmpA s (evD bs 60 x) (evD bs 60 y))).2]) ∧ Below w.heap.size w w' := by
  have HI := Lib.hid (two_boxes w x ax cx y ay cy)
  have HX := Lib.hid (fun W (h : Below w.heap.size w W) => r11_Eval bs ab cb x ax cx W hlen (hb.kept (fun b hb' _ => h.block b hb') fun b hb' _ => Nat.lt_of_lt_of_le hb' h.size) (hx.on h))
  have HY := Lib.hid (fun W (h : Below w.heap.size w W) => r11_Eval bs ab cb y ay cy W hlen (hb.kept (fun b hb' _ => h.block b hb') fun b hb' _ => Nat.lt_of_lt_of_le hb' h.size) (hy.on h))
  clear hb hx hy
  generalize evD bs 60 x = rx at *
  generalize evD bs 60 y = ry at *
  obtain ⟨n, e1⟩ := rx
  obtain ⟨m, e2⟩ := ry
  unfold EvO tmv at HX HY
  dsimp only at HX HY
  unfold tmv
  have HO : Hid (opV s n m = (decide (m < n))) := Lib.hid (by unfold opV; rw [if_neg (by rw [s1]; nofun), if_neg (by rw [s2]; nofun), if_neg (by rw [s3]; nofun), if_neg (by rw [s4]; nofun), if_pos s5])
  have HQ : Hid (isOp s = true) := Lib.hid (by unfold isOp; rw [s1, s2, s3, s4, s5]; rfl)
  obtain ⟨R, hR⟩ : ∃ R, cmpA s (n, e1) (m, e2) = R := ⟨_, rfl⟩
  rw [hR]
  unfold cmpA at hR
  rw [if_pos HQ.out, HO.out] at hR
  dsimp only at hR
  have HR := Lib.hid hR
  clear hR HQ HO
  go_enter Try.func12, Try.ntmps12
  go_upto_region 9 with fail
  generalize (w.alloc _).alloc _ = w0 at *
  obtain ⟨x0, x1, x2, x3, _⟩ := cellsT HI.out.1
  go_wp2_with fail
  refine (HX.out _ HI.out.2.2).mono ?_; rintro e w1 ⟨rfl, hb1⟩
  replace HI := Lib.hid (HI.out.on hb1)
  clear hb1 x0 x1 x2 x3
  obtain ⟨y0, y1, y2, y3, _⟩ := cellsT HI.out.2.1
  by_cases hz : e1 = 0
  · rw [if_neg (by simpa using hz)] at HR
    subst hz
    go_wp2_with fail
    refine (HY.out _ HI.out.2.2).mono ?_; rintro e w2 ⟨rfl, hb2⟩
    replace HI := Lib.hid (HI.out.on hb2)
    clear hb2 y0 y1 y2 y3
    by_cases hy : e2 = 0
    · rw [if_neg (by simpa using hy)] at HR
      subst hy
      go_wp2_with fail
      refine bodyPost_ret (v := .tuple #[.bool (decide (m < n)), .int .i64 0]) (by simp [results, Try.results12, go_sem]) rfl ?_
      rw [← HR.out]
      exact ⟨rfl, HI.out.2.2⟩
    · rw [if_pos hy] at HR
      have g2 : (e2 != 0) = true := by simpa using hy
      clear hy
      go_wp2_with fail
      go_ret2
      rw [← HR.out]
      exact ⟨rfl, HI.out.2.2⟩
  · rw [if_pos hz] at HR
    have g1 : (e1 != 0) = true := by simpa using hz
    clear hz
    go_wp2_with fail
    go_ret2
    rw [← HR.out]
    exact ⟨rfl, HI.out.2.2⟩

set_option maxRecDepth 100000 in
set_option maxHeartbeats 8000000 in
theorem ho_5 (bs : List (Int × Tm)) (ab : Option Addr) (cb : Nat) (s : ByteArray) (x y : Tm) (ax : Option Addr) (cx : Nat) (ay : Option Addr) (cy : Nat) (w : World) (hlen : bs.length ≤ 1000000) (hb : BdsAt w (fun b => b < w.heap.size) ab bs) (hx : TmIn w x ax cx) (hy : TmIn w y ay cy) (s1 : (s.toList == [61, 58, 61]) = false) (s2 : (s.toList == [61, 92, 61]) = false) (s3 : (s.toList == [60]) = false) (s4 : (s.toList == [61, 60]) = false) (s5 : (s.toList == [62]) = false) (s6 : (s.toList == [62, 61]) = true) :
    Calls Try.prog 12 #[.slice ab bs.length cb, .string s, tmv x ax cx, tmv y ay cy] w fun e w' => e = .returned (.tuple #[.bool ((cmpA s (evD bs 60 x) (evD bs 60 y))).1, .int .i64 ((cmpA s (evD bs 60 x) (evD bs 60 y))).2]) ∧ Below w.heap.size w w' := by
  have HI := Lib.hid (two_boxes w x ax cx y ay cy)
  have HX := Lib.hid (fun W (h : Below w.heap.size w W) => r11_Eval bs ab cb x ax cx W hlen (hb.kept (fun b hb' _ => h.block b hb') fun b hb' _ => Nat.lt_of_lt_of_le hb' h.size) (hx.on h))
  have HY := Lib.hid (fun W (h : Below w.heap.size w W) => r11_Eval bs ab cb y ay cy W hlen (hb.kept (fun b hb' _ => h.block b hb') fun b hb' _ => Nat.lt_of_lt_of_le hb' h.size) (hy.on h))
  clear hb hx hy
  generalize evD bs 60 x = rx at *
  generalize evD bs 60 y = ry at *
  obtain ⟨n, e1⟩ := rx
  obtain ⟨m, e2⟩ := ry
  unfold EvO tmv at HX HY
  dsimp only at HX HY
  unfold tmv
  have HO : Hid (opV s n m = (decide (m ≤ n))) := Lib.hid (by unfold opV; rw [if_neg (by rw [s1]; nofun), if_neg (by rw [s2]; nofun), if_neg (by rw [s3]; nofun), if_neg (by rw [s4]; nofun), if_neg (by rw [s5]; nofun)])
  have HQ : Hid (isOp s = true) := Lib.hid (by unfold isOp; rw [s1, s2, s3, s4, s5, s6]; rfl)
  obtain ⟨R, hR⟩ : ∃ R, cmpA s (n, e1) (m, e2) = R := ⟨_, rfl⟩
  rw [hR]
  unfold cmpA at hR
  rw [if_pos HQ.out, HO.out] at hR
  dsimp only at hR
  have HR := Lib.hid hR
  clear hR HQ HO
  go_enter Try.func12, Try.ntmps12
  go_upto_region 9 with fail
  generalize (w.alloc _).alloc _ = w0 at *
  obtain ⟨x0, x1, x2, x3, _⟩ := cellsT HI.out.1
  go_wp2_with fail
  refine (HX.out _ HI.out.2.2).mono ?_; rintro e w1 ⟨rfl, hb1⟩
  replace HI := Lib.hid (HI.out.on hb1)
  clear hb1 x0 x1 x2 x3
  obtain ⟨y0, y1, y2, y3, _⟩ := cellsT HI.out.2.1
  by_cases hz : e1 = 0
  · rw [if_neg (by simpa using hz)] at HR
    subst hz
    go_wp2_with fail
    refine (HY.out _ HI.out.2.2).mono ?_; rintro e w2 ⟨rfl, hb2⟩
    replace HI := Lib.hid (HI.out.on hb2)
    clear hb2 y0 y1 y2 y3
    by_cases hy : e2 = 0
    · rw [if_neg (by simpa using hy)] at HR
      subst hy
      go_wp2_with fail
      refine bodyPost_ret (v := .tuple #[.bool (decide (m ≤ n)), .int .i64 0]) (by simp [results, Try.results12, go_sem]) rfl ?_
      rw [← HR.out]
      exact ⟨rfl, HI.out.2.2⟩
    · rw [if_pos hy] at HR
      have g2 : (e2 != 0) = true := by simpa using hy
      clear hy
      go_wp2_with fail
      go_ret2
      rw [← HR.out]
      exact ⟨rfl, HI.out.2.2⟩
  · rw [if_pos hz] at HR
    have g1 : (e1 != 0) = true := by simpa using hz
    clear hz
    go_wp2_with fail
    go_ret2
    rw [← HR.out]
    exact ⟨rfl, HI.out.2.2⟩

theorem r11_Holds (bs : List (Int × Tm)) (ab : Option Addr) (cb : Nat) (s : ByteArray) (x y : Tm) (ax : Option Addr) (cx : Nat) (ay : Option Addr) (cy : Nat) (w : World) (hlen : bs.length ≤ 1000000) (hb : BdsAt w (fun b => b < w.heap.size) ab bs) (hx : TmIn w x ax cx) (hy : TmIn w y ay cy) :
    Calls Try.prog 12 #[.slice ab bs.length cb, .string s, tmv x ax cx, tmv y ay cy] w fun e w' => e = .returned (.tuple #[.bool (cmpA s (evD bs 60 x) (evD bs 60 y)).1, .int .i64 (cmpA s (evD bs 60 x) (evD bs 60 y)).2]) ∧ Below w.heap.size w w' := by
  cases s1 : (s.toList == [61, 58, 61]) with
  | true => exact ho_0 bs ab cb s x y ax cx ay cy w hlen hb hx hy s1
  | false =>
    cases s2 : (s.toList == [61, 92, 61]) with
    | true => exact ho_1 bs ab cb s x y ax cx ay cy w hlen hb hx hy s1 s2
    | false =>
      cases s3 : (s.toList == [60]) with
      | true => exact ho_2 bs ab cb s x y ax cx ay cy w hlen hb hx hy s1 s2 s3
      | false =>
        cases s4 : (s.toList == [61, 60]) with
        | true => exact ho_3 bs ab cb s x y ax cx ay cy w hlen hb hx hy s1 s2 s3 s4
        | false =>
          cases s5 : (s.toList == [62]) with
          | true => exact ho_4 bs ab cb s x y ax cx ay cy w hlen hb hx hy s1 s2 s3 s4 s5
          | false =>
            cases s6 : (s.toList == [62, 61]) with
            | true => exact ho_5 bs ab cb s x y ax cx ay cy w hlen hb hx hy s1 s2 s3 s4 s5 s6
            | false =>
              have hno : isOp s = false := by unfold isOp; rw [s1, s2, s3, s4, s5, s6]; rfl
              rw [show cmpA s (evD bs 60 x) (evD bs 60 y) = (false, 1) by unfold cmpA; rw [hno]; exact if_neg (by nofun)]
              exact ho_no bs ab cb s x y ax cx ay cy w hno
end Go.Proofs.Ytpmohibhdnmjlaa
