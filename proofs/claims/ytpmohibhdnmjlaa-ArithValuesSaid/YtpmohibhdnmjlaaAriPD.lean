/-
  The contracts of package arith's own reckoned, a theorem a way (gen/genAriPD.py).
-/
import Derived.Test.YtpmohibhdnmjlaaAriPAC
import Derived.Deep.RegionHeld3
namespace Go.Proofs.Ytpmohibhdnmjlaa
open Go.RowKit Go.Maps

theorem TArgs.arg0 {w : World} {A : Tm} {l : List Tm} {a : Option Addr} (h : TArgs w a (A :: l)) : ∃ b o a1 c1, a = some ⟨b, o, none⟩ ∧ w.cell? ⟨b, o, none⟩ = some (.int .i64 A.kind) ∧ w.cell? ⟨b, o + 1, none⟩ = some (.string A.name) ∧ w.cell? ⟨b, o + 2, none⟩ = some (.int .i64 A.n) ∧ w.cell? ⟨b, o + 3, none⟩ = some (.slice a1 A.args.length c1) ∧ TmIn w A a1 c1 := by
  obtain ⟨b, o, rfl⟩ := h.addr (Nat.succ_pos _)
  obtain ⟨a1, c1, x0, x1, x2, x3, hp⟩ := h.get 0 (Nat.succ_pos _)
  exact ⟨b, o, a1, c1, rfl, by simpa using x0, by simpa using x1, by simpa using x2, by simpa using x3, hp⟩
theorem TArgs.arg01 {w : World} {A B : Tm} {l : List Tm} {a : Option Addr} (h : TArgs w a (A :: B :: l)) : ∃ b o a1 c1 a2 c2, a = some ⟨b, o, none⟩ ∧ (w.cell? ⟨b, o, none⟩ = some (.int .i64 A.kind) ∧ w.cell? ⟨b, o + 1, none⟩ = some (.string A.name) ∧ w.cell? ⟨b, o + 2, none⟩ = some (.int .i64 A.n) ∧ w.cell? ⟨b, o + 3, none⟩ = some (.slice a1 A.args.length c1) ∧ TmIn w A a1 c1) ∧
    w.cell? ⟨b, o + 4, none⟩ = some (.int .i64 B.kind) ∧ w.cell? ⟨b, o + 4 + 1, none⟩ = some (.string B.name) ∧ w.cell? ⟨b, o + 4 + 2, none⟩ = some (.int .i64 B.n) ∧ w.cell? ⟨b, o + 4 + 3, none⟩ = some (.slice a2 B.args.length c2) ∧ TmIn w B a2 c2 := by
  obtain ⟨b, o, a1, c1, rfl, h1⟩ := h.arg0
  obtain ⟨a2, c2, x0, x1, x2, x3, hp⟩ := h.get 1 (by simp)
  exact ⟨b, o, a1, c1, a2, c2, rfl, h1, by simpa using x0, by simpa using x1, by simpa using x2, by simpa using x3, hp⟩
theorem Stp.cell {bs : List (Int × Tm)} {ab : Option Addr} {cb p mb : Nat} {w w' : World} (h : Stp bs ab cb p mb w w') (hw : WkAt bs ab cb p mb w) {b o : Nat} {v : Value} (hc : w.cell? ⟨b, o, none⟩ = some v) : w'.cell? ⟨b, o, none⟩ = some v :=
  (World.cell?_of_block (w := w) (w' := w') (a := ⟨b, o, none⟩) (h.turn.block b (World.block_lt_of_cell? w ⟨b, o, none⟩ hc) (fun e => by
      have e : b = mb := e
      rw [e, hw.known.nocell] at hc
      cases hc))).trans hc
theorem vals_good {n e1 m e2 v1 v2 v3 : Int} (h : valsV (n, e1) (m, e2) = (v1, v2, v3)) (h0 : v3 = 0) : e1 = 0 ∧ e2 = 0 ∧ v1 = n ∧ v2 = m := by
  unfold valsV at h
  dsimp only at h
  by_cases h1 : e1 = 0
  · rw [if_neg (by simpa using h1)] at h
    injection h with a b
    injection b with b c
    exact ⟨h1, by omega, a.symm, b.symm⟩
  · rw [if_pos h1] at h
    injection h with a b
    injection b with b c
    omega
theorem vals_bad {n e1 m e2 v1 v2 v3 : Int} {x : Int × Int} (h : valsV (n, e1) (m, e2) = (v1, v2, v3)) (h0 : v3 ≠ 0) : (if e1 ≠ 0 then (0, e1) else if e2 ≠ 0 then (0, e2) else x) = (0, v3) := by
  unfold valsV at h
  dsimp only at h
  by_cases h1 : e1 = 0
  · rw [if_neg (by simpa using h1)] at h ⊢
    injection h with a b
    injection b with b c
    rw [if_pos (by omega), c]
  · rw [if_pos h1] at h ⊢
    injection h with a b
    injection b with b c
    rw [c]
theorem fn_some1 (k : Nat) (w : World) : (binOp BinOp.neq 77 (.func (.func k) #[] #[]) .nilFunc).run Try.prog w = .ok (.bool true) w := by kernel_rfl
theorem fn_none1 (w : World) : (binOp BinOp.neq 77 .nilFunc .nilFunc).run Try.prog w = .ok (.bool false) w := by kernel_rfl
theorem fn_some2 (k : Nat) (w : World) : (binOp BinOp.neq 41 (.func (.func k) #[] #[]) .nilFunc).run Try.prog w = .ok (.bool true) w := by kernel_rfl
theorem fn_none2 (w : World) : (binOp BinOp.neq 41 .nilFunc .nilFunc).run Try.prog w = .ok (.bool false) w := by kernel_rfl
/-- What an operator makes of its Args. -/
def recK (f : Tm → Int × Int) (s : ByteArray) (A : List Tm) : Int × Int := match A with
  | [a] => if isOne s then (if (f a).2 ≠ 0 then (0, (f a).2) else tellV (oneV s (f a).1)) else (0, 111)
  | [a, b] => if isTwo s then (if (f a).2 ≠ 0 then (0, (f a).2) else if (f b).2 ≠ 0 then (0, (f b).2) else tellV (twoV s (f a).1 (f b).1)) else (0, 111)
  | _ => (0, 111)

set_option maxRecDepth 100000 in
set_option maxHeartbeats 4000000 in
theorem rk_none (bs : List (Int × Tm)) (ab : Option Addr) (cb p mb : Nat) (o : Int) (s : ByteArray) (ad : Option Addr) (cap : Nat) (w : World) (hw : WkAt bs ab cb p mb w) (n : Nat) (h1 : n ≠ 1) (h2 : n ≠ 2) :
    Calls Try.prog 39 #[.pointer (some ⟨p, 0, none⟩), .string s, .slice ad n cap, .int .i64 o] w (EvV bs ab cb p mb (0, 111) w) := by
  have g1 : ((n : Int) == 1) = false := by simpa using (show (n : Int) ≠ 1 by omega)
  have g2 : ((n : Int) == 2) = false := by simpa using (show (n : Int) ≠ 2 by omega)
  have HW := Lib.hid hw
  clear h1 h2 hw
  go_enter Try.func39, Try.ntmps39
  go_wp2_with fail
  go_ret2
  exact ⟨rfl, Stp.refl HW.out⟩

set_option maxRecDepth 100000 in
set_option maxHeartbeats 4000000 in
theorem rk_no1 (bs : List (Int × Tm)) (ab : Option Addr) (cb p mb : Nat) (o : Int) (s : ByteArray) (ad : Option Addr) (cap : Nat) (w : World) (hw : WkAt bs ab cb p mb w) (h : isOne s = false) :
    Calls Try.prog 39 #[.pointer (some ⟨p, 0, none⟩), .string s, .slice ad 1 cap, .int .i64 o] w (EvV bs ab cb p mb (0, 111) w) := by
  have HF := Lib.hid (pa_ofOne s w)
  have hF : oneF s = .nilFunc := by
    obtain ⟨s0, s1, s2⟩ := isOne_no h
    unfold oneF
    rw [s0, s1, s2]
    simp
  rw [hF] at HF
  have HW := Lib.hid hw
  have hnil := fn_none1
  clear h hw hF
  go_enter Try.func39, Try.ntmps39
  go_wp2_with fail
  refine HF.out.mono ?_; rintro e w' ⟨rfl, rfl⟩
  go_wp2_with fail
  go_ret2
  exact ⟨rfl, Stp.refl HW.out⟩

set_option maxRecDepth 100000 in
set_option maxHeartbeats 4000000 in
theorem rk_no2 (bs : List (Int × Tm)) (ab : Option Addr) (cb p mb : Nat) (o : Int) (s : ByteArray) (ad : Option Addr) (cap : Nat) (w : World) (hw : WkAt bs ab cb p mb w) (h : isTwo s = false) :
    Calls Try.prog 39 #[.pointer (some ⟨p, 0, none⟩), .string s, .slice ad 2 cap, .int .i64 o] w (EvV bs ab cb p mb (0, 111) w) := by
  have HF := Lib.hid (pa_ofTwo s w)
  have hF : twoF s = .nilFunc := by
    obtain ⟨s0, s1, s2, s3, s4, s5⟩ := isTwo_no h
    unfold twoF
    rw [s0, s1, s2, s3, s4, s5]
    simp
  rw [hF] at HF
  have HW := Lib.hid hw
  have hnil := fn_none2
  clear h hw hF
  go_enter Try.func39, Try.ntmps39
  go_wp2_with fail
  refine HF.out.mono ?_; rintro e w' ⟨rfl, rfl⟩
  go_wp2_with fail
  go_ret2
  exact ⟨rfl, Stp.refl HW.out⟩

set_option maxRecDepth 100000 in
set_option maxHeartbeats 4000000 in
theorem rk_one0 (bs : List (Int × Tm)) (ab : Option Addr) (cb p mb d : Nat) (o : Int) (s : ByteArray) (ad : Option Addr) (cap : Nat) (w : World) (hw : WkAt bs ab cb p mb w) (HV : ValC bs ab cb p mb d o) (a : Tm) (hs : a.size ≤ 1000000) (hA : TArgs w ad [a]) (hok : EvOk (evD bs d a)) (s0 : (s.toList == [45]) = true) :
    Calls Try.prog 39 #[.pointer (some ⟨p, 0, none⟩), .string s, .slice ad 1 cap, .int .i64 o] w (EvV bs ab cb p mb (if (evD bs d a).2 ≠ 0 then (0, (evD bs d a).2) else tellV (oneV s (evD bs d a).1)) w) := by
  have HF := Lib.hid (pa_ofOne s w)
  have hF : oneF s = .func (.func 55) #[] #[] := by unfold oneF; rw [if_pos s0]
  rw [hF] at HF
  have HO : Hid (∀ n, oneV s n = (chkV (-n), chkE (-n))) := Lib.hid fun n => by unfold oneV; rw [if_pos s0]
  obtain ⟨b, q, a1, c1, rfl, x0, x1, x2, x3, hp⟩ := hA.arg0
  have HX := Lib.hid (HV a a1 c1 w hs hw hp)
  have hnil := fn_some1 55
  have HW := Lib.hid hw
  clear hF hA hp hw hs HV s0
  generalize evD bs d a = r at *
  obtain ⟨n, e1⟩ := r
  unfold EvOk at hok
  unfold EvV tmv at *
  dsimp only at HX hok ⊢
  obtain ⟨R, hR⟩ : ∃ R, (if e1 ≠ 0 then (0, e1) else tellV (oneV s n)) = R := ⟨_, rfl⟩
  rw [hR]
  rw [HO.out] at hR
  have HR := Lib.hid hR
  clear hR HO
  go_enter Try.func39, Try.ntmps39
  go_wp2_with fail
  refine HF.out.mono ?_; rintro e w' ⟨rfl, rfl⟩
  go_wp2_with fail
  refine HX.out.mono ?_; rintro e w1 ⟨rfl, hs1⟩
  have HS1 := Lib.hid hs1
  clear hs1 x0 x1 x2 x3
  rcases hok with ⟨hz, _⟩ | ⟨rfl, h64⟩
  · rw [if_pos hz] at HR
    have g1 : (e1 != 0) = true := by simpa using hz
    clear hz
    go_wp2_with fail
    go_ret2
    rw [← HR.out]
    exact ⟨rfl, HS1.out⟩
  · rw [if_neg (by simp)] at HR
    go_wp2_with fail
    refine (num_Neg _ _ h64).mono ?_; rintro e w' ⟨rfl, rfl⟩
    go_wp2_with fail
    refine (pa_checked _ _ _).mono ?_; rintro e w' ⟨rfl, rfl⟩
    rw [HR.out]
    go_wp2_with fail
    go_ret2
    exact ⟨rfl, HS1.out⟩

set_option maxRecDepth 100000 in
set_option maxHeartbeats 4000000 in
theorem rk_one1 (bs : List (Int × Tm)) (ab : Option Addr) (cb p mb d : Nat) (o : Int) (s : ByteArray) (ad : Option Addr) (cap : Nat) (w : World) (hw : WkAt bs ab cb p mb w) (HV : ValC bs ab cb p mb d o) (a : Tm) (hs : a.size ≤ 1000000) (hA : TArgs w ad [a]) (hok : EvOk (evD bs d a)) (s0 : (s.toList == [45]) = false) (s1 : (s.toList == [97, 98, 115]) = true) :
    Calls Try.prog 39 #[.pointer (some ⟨p, 0, none⟩), .string s, .slice ad 1 cap, .int .i64 o] w (EvV bs ab cb p mb (if (evD bs d a).2 ≠ 0 then (0, (evD bs d a).2) else tellV (oneV s (evD bs d a).1)) w) := by
  have HF := Lib.hid (pa_ofOne s w)
  have hF : oneF s = .func (.func 56) #[] #[] := by unfold oneF; rw [if_neg (by rw [s0]; nofun), if_pos s1]
  rw [hF] at HF
  have HO : Hid (∀ n, oneV s n = (chkV (absI n), chkE (absI n))) := Lib.hid fun n => by unfold oneV; rw [if_neg (by rw [s0]; nofun), if_pos s1]
  obtain ⟨b, q, a1, c1, rfl, x0, x1, x2, x3, hp⟩ := hA.arg0
  have HX := Lib.hid (HV a a1 c1 w hs hw hp)
  have hnil := fn_some1 56
  have HW := Lib.hid hw
  clear hF hA hp hw hs HV s0 s1
  generalize evD bs d a = r at *
  obtain ⟨n, e1⟩ := r
  unfold EvOk at hok
  unfold EvV tmv at *
  dsimp only at HX hok ⊢
  obtain ⟨R, hR⟩ : ∃ R, (if e1 ≠ 0 then (0, e1) else tellV (oneV s n)) = R := ⟨_, rfl⟩
  rw [hR]
  rw [HO.out] at hR
  have HR := Lib.hid hR
  clear hR HO
  go_enter Try.func39, Try.ntmps39
  go_wp2_with fail
  refine HF.out.mono ?_; rintro e w' ⟨rfl, rfl⟩
  go_wp2_with fail
  refine HX.out.mono ?_; rintro e w1 ⟨rfl, hs1⟩
  have HS1 := Lib.hid hs1
  clear hs1 x0 x1 x2 x3
  rcases hok with ⟨hz, _⟩ | ⟨rfl, h64⟩
  · rw [if_pos hz] at HR
    have g1 : (e1 != 0) = true := by simpa using hz
    clear hz
    go_wp2_with fail
    go_ret2
    rw [← HR.out]
    exact ⟨rfl, HS1.out⟩
  · rw [if_neg (by simp)] at HR
    go_wp2_with fail
    refine (num_Abs _ _ h64).mono ?_; rintro e w' ⟨rfl, rfl⟩
    go_wp2_with fail
    refine (pa_checked _ _ _).mono ?_; rintro e w' ⟨rfl, rfl⟩
    rw [HR.out]
    go_wp2_with fail
    go_ret2
    exact ⟨rfl, HS1.out⟩

set_option maxRecDepth 100000 in
set_option maxHeartbeats 4000000 in
theorem rk_one2 (bs : List (Int × Tm)) (ab : Option Addr) (cb p mb d : Nat) (o : Int) (s : ByteArray) (ad : Option Addr) (cap : Nat) (w : World) (hw : WkAt bs ab cb p mb w) (HV : ValC bs ab cb p mb d o) (a : Tm) (hs : a.size ≤ 1000000) (hA : TArgs w ad [a]) (hok : EvOk (evD bs d a)) (s0 : (s.toList == [45]) = false) (s1 : (s.toList == [97, 98, 115]) = false) (s2 : (s.toList == [115, 105, 103, 110]) = true) :
    Calls Try.prog 39 #[.pointer (some ⟨p, 0, none⟩), .string s, .slice ad 1 cap, .int .i64 o] w (EvV bs ab cb p mb (if (evD bs d a).2 ≠ 0 then (0, (evD bs d a).2) else tellV (oneV s (evD bs d a).1)) w) := by
  have HF := Lib.hid (pa_ofOne s w)
  have hF : oneF s = .func (.func 57) #[] #[] := by unfold oneF; rw [if_neg (by rw [s0]; nofun), if_neg (by rw [s1]; nofun), if_pos s2]
  rw [hF] at HF
  have HO : Hid (∀ n, oneV s n = (cmpV n 0, 0)) := Lib.hid fun n => by unfold oneV; rw [if_neg (by rw [s0]; nofun), if_neg (by rw [s1]; nofun)]
  obtain ⟨b, q, a1, c1, rfl, x0, x1, x2, x3, hp⟩ := hA.arg0
  have HX := Lib.hid (HV a a1 c1 w hs hw hp)
  have hnil := fn_some1 57
  have HW := Lib.hid hw
  clear hF hA hp hw hs HV s0 s1 s2
  generalize evD bs d a = r at *
  obtain ⟨n, e1⟩ := r
  unfold EvOk at hok
  unfold EvV tmv at *
  dsimp only at HX hok ⊢
  obtain ⟨R, hR⟩ : ∃ R, (if e1 ≠ 0 then (0, e1) else tellV (oneV s n)) = R := ⟨_, rfl⟩
  rw [hR]
  rw [HO.out] at hR
  have HR := Lib.hid hR
  clear hR HO
  go_enter Try.func39, Try.ntmps39
  go_wp2_with fail
  refine HF.out.mono ?_; rintro e w' ⟨rfl, rfl⟩
  go_wp2_with fail
  refine HX.out.mono ?_; rintro e w1 ⟨rfl, hs1⟩
  have HS1 := Lib.hid hs1
  clear hs1 x0 x1 x2 x3
  rcases hok with ⟨hz, _⟩ | ⟨rfl, h64⟩
  · rw [if_pos hz] at HR
    have g1 : (e1 != 0) = true := by simpa using hz
    clear hz
    go_wp2_with fail
    go_ret2
    rw [← HR.out]
    exact ⟨rfl, HS1.out⟩
  · rw [if_neg (by simp)] at HR
    go_wp2_with fail
    refine (pa_sign _ _).mono ?_; rintro e w' ⟨rfl, rfl⟩
    go_wp2_with fail
    refine (pa_checked _ _ _).mono ?_; rintro e w' ⟨rfl, rfl⟩
    rw [HR.out]
    go_wp2_with fail
    go_ret2
    exact ⟨rfl, HS1.out⟩

set_option maxRecDepth 100000 in
set_option maxHeartbeats 4000000 in
theorem rk_two0 (bs : List (Int × Tm)) (ab : Option Addr) (cb p mb d : Nat) (o : Int) (s : ByteArray) (ad : Option Addr) (cap : Nat) (w : World) (hw : WkAt bs ab cb p mb w) (HV : ValC bs ab cb p mb d o) (a c : Tm) (hs : a.size ≤ 1000000) (hs2 : c.size ≤ 1000000) (hA : TArgs w ad [a, c]) (hok : EvOk (evD bs d a)) (hok2 : EvOk (evD bs d c)) (s0 : (s.toList == [43]) = true) :
    Calls Try.prog 39 #[.pointer (some ⟨p, 0, none⟩), .string s, .slice ad 2 cap, .int .i64 o] w (EvV bs ab cb p mb (if (evD bs d a).2 ≠ 0 then (0, (evD bs d a).2) else if (evD bs d c).2 ≠ 0 then (0, (evD bs d c).2) else tellV (twoV s (evD bs d a).1 (evD bs d c).1)) w) := by
  have HF := Lib.hid (pa_ofTwo s w)
  have hF : twoF s = .func (.func 59) #[] #[] := by unfold twoF; rw [if_pos s0]
  rw [hF] at HF
  have HO : Hid (∀ n m, twoV s n m = (chkV (n + m), chkE (n + m))) := Lib.hid fun n m => by unfold twoV; rw [if_pos s0]
  obtain ⟨b, q, a1, c1, a2, c2, rfl, ⟨x0, x1, x2, x3, hp⟩, y0, y1, y2, y3, hp2⟩ := hA.arg01
  have HX := Lib.hid (fun W (h : Below w.heap.size w W) => pa_values bs ab cb p mb d o HV a c a1 c1 a2 c2 W hs hs2 (hw.on h) (hp.on h) (hp2.on h))
  have hnil := fn_some2 59
  have HW := Lib.hid hw
  have HD := Lib.hid ((Stp.refl hw).on (Below.refl _ w).drew)
  have HDB := Lib.hid ((Below.refl w.heap.size w).drew)
  have HKEEP := Lib.hid (fun W (h : Stp bs ab cb p mb w W) => show W.cell? ⟨b, q, none⟩ = some (.int .i64 a.kind) ∧ W.cell? ⟨b, q + 1, none⟩ = some (.string a.name) ∧ W.cell? ⟨b, q + 2, none⟩ = some (.int .i64 a.n) ∧ W.cell? ⟨b, q + 3, none⟩ = some (.slice a1 a.args.length c1) ∧ W.cell? ⟨b, q + 4, none⟩ = some (.int .i64 c.kind) ∧ W.cell? ⟨b, q + 4 + 1, none⟩ = some (.string c.name) ∧ W.cell? ⟨b, q + 4 + 2, none⟩ = some (.int .i64 c.n) ∧ W.cell? ⟨b, q + 4 + 3, none⟩ = some (.slice a2 c.args.length c2) from ⟨h.cell hw x0, h.cell hw x1, h.cell hw x2, h.cell hw x3, h.cell hw y0, h.cell hw y1, h.cell hw y2, h.cell hw y3⟩)
  clear hF hA hp hp2 hw hs hs2 HV s0
  generalize evD bs d a = r at *
  obtain ⟨n, e1⟩ := r
  generalize evD bs d c = r at *
  obtain ⟨m, e2⟩ := r
  unfold EvOk at hok hok2
  unfold EvV tmv at *
  dsimp only at HX hok hok2 ⊢
  obtain ⟨⟨v1, v2, v3⟩, hvv⟩ : ∃ V : Int × Int × Int, valsV (n, e1) (m, e2) = V := ⟨_, rfl⟩
  rw [hvv] at HX
  dsimp only at HX
  have HVV := Lib.hid hvv
  have HK1 := Lib.hid hok
  have HK2 := Lib.hid hok2
  clear hvv hok hok2
  obtain ⟨R, hR⟩ : ∃ R, (if e1 ≠ 0 then (0, e1) else if e2 ≠ 0 then (0, e2) else tellV (twoV s n m)) = R := ⟨_, rfl⟩
  rw [hR]
  rw [HO.out] at hR
  have HR := Lib.hid hR
  clear hR HO
  go_enter Try.func39, Try.ntmps39
  go_wp2_with fail
  refine HF.out.mono ?_; rintro e w' ⟨rfl, rfl⟩
  go_wp2_with fail
  go_region_held3 (fun W => W.cell? ⟨b, q, none⟩ = some (.int .i64 a.kind) ∧ W.cell? ⟨b, q + 1, none⟩ = some (.string a.name) ∧ W.cell? ⟨b, q + 2, none⟩ = some (.int .i64 a.n) ∧ W.cell? ⟨b, q + 3, none⟩ = some (.slice a1 a.args.length c1) ∧ W.cell? ⟨b, q + 4, none⟩ = some (.int .i64 c.kind) ∧ W.cell? ⟨b, q + 4 + 1, none⟩ = some (.string c.name) ∧ W.cell? ⟨b, q + 4 + 2, none⟩ = some (.int .i64 c.n) ∧ W.cell? ⟨b, q + 4 + 3, none⟩ = some (.slice a2 c.args.length c2))
    (first | with_reducible exact HKEEP.out _ hs2 | with_reducible exact HKEEP.out _ HD.out)
    ((go_at_call 28; (with_reducible refine (HX.out _ HDB.out).mono ?_); rintro e w2 ⟨rfl, hs1⟩; have hs2 := HD.out.trans hs1; clear hs1))
  by_cases hz : v3 = 0
  · subst hz
    obtain ⟨g1, g2, g3, g4⟩ := vals_good HVV.out rfl
    subst g1 g2 g3 g4
    have h64 : In64 v1 ∧ In64 v2 := ⟨HK1.out.elim (fun h => absurd rfl h.1) And.right, HK2.out.elim (fun h => absurd rfl h.1) And.right⟩
    rw [if_neg (by simp), if_neg (by simp)] at HR
    go_wp2_with fail
    refine (num_Add _ _ _ h64.1 h64.2).mono ?_; rintro e w' ⟨rfl, rfl⟩
    go_wp2_with fail
    refine (pa_checked _ _ _).mono ?_; rintro e w' ⟨rfl, rfl⟩
    rw [HR.out]
    go_wp2_with fail
    go_ret2
    exact ⟨rfl, hs2⟩
  · rw [vals_bad HVV.out hz] at HR
    have g1 : (v3 != 0) = true := by simpa using hz
    clear hz
    go_wp2_with fail
    go_ret2
    rw [← HR.out]
    exact ⟨rfl, hs2⟩

set_option maxRecDepth 100000 in
set_option maxHeartbeats 4000000 in
theorem rk_two1 (bs : List (Int × Tm)) (ab : Option Addr) (cb p mb d : Nat) (o : Int) (s : ByteArray) (ad : Option Addr) (cap : Nat) (w : World) (hw : WkAt bs ab cb p mb w) (HV : ValC bs ab cb p mb d o) (a c : Tm) (hs : a.size ≤ 1000000) (hs2 : c.size ≤ 1000000) (hA : TArgs w ad [a, c]) (hok : EvOk (evD bs d a)) (hok2 : EvOk (evD bs d c)) (s0 : (s.toList == [43]) = false) (s1 : (s.toList == [45]) = true) :
    Calls Try.prog 39 #[.pointer (some ⟨p, 0, none⟩), .string s, .slice ad 2 cap, .int .i64 o] w (EvV bs ab cb p mb (if (evD bs d a).2 ≠ 0 then (0, (evD bs d a).2) else if (evD bs d c).2 ≠ 0 then (0, (evD bs d c).2) else tellV (twoV s (evD bs d a).1 (evD bs d c).1)) w) := by
  have HF := Lib.hid (pa_ofTwo s w)
  have hF : twoF s = .func (.func 60) #[] #[] := by unfold twoF; rw [if_neg (by rw [s0]; nofun), if_pos s1]
  rw [hF] at HF
  have HO : Hid (∀ n m, twoV s n m = (chkV (n - m), chkE (n - m))) := Lib.hid fun n m => by unfold twoV; rw [if_neg (by rw [s0]; nofun), if_pos s1]
  obtain ⟨b, q, a1, c1, a2, c2, rfl, ⟨x0, x1, x2, x3, hp⟩, y0, y1, y2, y3, hp2⟩ := hA.arg01
  have HX := Lib.hid (fun W (h : Below w.heap.size w W) => pa_values bs ab cb p mb d o HV a c a1 c1 a2 c2 W hs hs2 (hw.on h) (hp.on h) (hp2.on h))
  have hnil := fn_some2 60
  have HW := Lib.hid hw
  have HD := Lib.hid ((Stp.refl hw).on (Below.refl _ w).drew)
  have HDB := Lib.hid ((Below.refl w.heap.size w).drew)
  have HKEEP := Lib.hid (fun W (h : Stp bs ab cb p mb w W) => show W.cell? ⟨b, q, none⟩ = some (.int .i64 a.kind) ∧ W.cell? ⟨b, q + 1, none⟩ = some (.string a.name) ∧ W.cell? ⟨b, q + 2, none⟩ = some (.int .i64 a.n) ∧ W.cell? ⟨b, q + 3, none⟩ = some (.slice a1 a.args.length c1) ∧ W.cell? ⟨b, q + 4, none⟩ = some (.int .i64 c.kind) ∧ W.cell? ⟨b, q + 4 + 1, none⟩ = some (.string c.name) ∧ W.cell? ⟨b, q + 4 + 2, none⟩ = some (.int .i64 c.n) ∧ W.cell? ⟨b, q + 4 + 3, none⟩ = some (.slice a2 c.args.length c2) from ⟨h.cell hw x0, h.cell hw x1, h.cell hw x2, h.cell hw x3, h.cell hw y0, h.cell hw y1, h.cell hw y2, h.cell hw y3⟩)
  clear hF hA hp hp2 hw hs hs2 HV s0 s1
  generalize evD bs d a = r at *
  obtain ⟨n, e1⟩ := r
  generalize evD bs d c = r at *
  obtain ⟨m, e2⟩ := r
  unfold EvOk at hok hok2
  unfold EvV tmv at *
  dsimp only at HX hok hok2 ⊢
  obtain ⟨⟨v1, v2, v3⟩, hvv⟩ : ∃ V : Int × Int × Int, valsV (n, e1) (m, e2) = V := ⟨_, rfl⟩
  rw [hvv] at HX
  dsimp only at HX
  have HVV := Lib.hid hvv
  have HK1 := Lib.hid hok
  have HK2 := Lib.hid hok2
  clear hvv hok hok2
  obtain ⟨R, hR⟩ : ∃ R, (if e1 ≠ 0 then (0, e1) else if e2 ≠ 0 then (0, e2) else tellV (twoV s n m)) = R := ⟨_, rfl⟩
  rw [hR]
  rw [HO.out] at hR
  have HR := Lib.hid hR
  clear hR HO
  go_enter Try.func39, Try.ntmps39
  go_wp2_with fail
  refine HF.out.mono ?_; rintro e w' ⟨rfl, rfl⟩
  go_wp2_with fail
  go_region_held3 (fun W => W.cell? ⟨b, q, none⟩ = some (.int .i64 a.kind) ∧ W.cell? ⟨b, q + 1, none⟩ = some (.string a.name) ∧ W.cell? ⟨b, q + 2, none⟩ = some (.int .i64 a.n) ∧ W.cell? ⟨b, q + 3, none⟩ = some (.slice a1 a.args.length c1) ∧ W.cell? ⟨b, q + 4, none⟩ = some (.int .i64 c.kind) ∧ W.cell? ⟨b, q + 4 + 1, none⟩ = some (.string c.name) ∧ W.cell? ⟨b, q + 4 + 2, none⟩ = some (.int .i64 c.n) ∧ W.cell? ⟨b, q + 4 + 3, none⟩ = some (.slice a2 c.args.length c2))
    (first | with_reducible exact HKEEP.out _ hs2 | with_reducible exact HKEEP.out _ HD.out)
    ((go_at_call 28; (with_reducible refine (HX.out _ HDB.out).mono ?_); rintro e w2 ⟨rfl, hs1⟩; have hs2 := HD.out.trans hs1; clear hs1))
  by_cases hz : v3 = 0
  · subst hz
    obtain ⟨g1, g2, g3, g4⟩ := vals_good HVV.out rfl
    subst g1 g2 g3 g4
    have h64 : In64 v1 ∧ In64 v2 := ⟨HK1.out.elim (fun h => absurd rfl h.1) And.right, HK2.out.elim (fun h => absurd rfl h.1) And.right⟩
    rw [if_neg (by simp), if_neg (by simp)] at HR
    go_wp2_with fail
    refine (num_Sub _ _ _ h64.1 h64.2).mono ?_; rintro e w' ⟨rfl, rfl⟩
    go_wp2_with fail
    refine (pa_checked _ _ _).mono ?_; rintro e w' ⟨rfl, rfl⟩
    rw [HR.out]
    go_wp2_with fail
    go_ret2
    exact ⟨rfl, hs2⟩
  · rw [vals_bad HVV.out hz] at HR
    have g1 : (v3 != 0) = true := by simpa using hz
    clear hz
    go_wp2_with fail
    go_ret2
    rw [← HR.out]
    exact ⟨rfl, hs2⟩

set_option maxRecDepth 100000 in
set_option maxHeartbeats 4000000 in
theorem rk_two2 (bs : List (Int × Tm)) (ab : Option Addr) (cb p mb d : Nat) (o : Int) (s : ByteArray) (ad : Option Addr) (cap : Nat) (w : World) (hw : WkAt bs ab cb p mb w) (HV : ValC bs ab cb p mb d o) (a c : Tm) (hs : a.size ≤ 1000000) (hs2 : c.size ≤ 1000000) (hA : TArgs w ad [a, c]) (hok : EvOk (evD bs d a)) (hok2 : EvOk (evD bs d c)) (s0 : (s.toList == [43]) = false) (s1 : (s.toList == [45]) = false) (s2 : (s.toList == [42]) = true) :
    Calls Try.prog 39 #[.pointer (some ⟨p, 0, none⟩), .string s, .slice ad 2 cap, .int .i64 o] w (EvV bs ab cb p mb (if (evD bs d a).2 ≠ 0 then (0, (evD bs d a).2) else if (evD bs d c).2 ≠ 0 then (0, (evD bs d c).2) else tellV (twoV s (evD bs d a).1 (evD bs d c).1)) w) := by
  have HF := Lib.hid (pa_ofTwo s w)
  have hF : twoF s = .func (.func 61) #[] #[] := by unfold twoF; rw [if_neg (by rw [s0]; nofun), if_neg (by rw [s1]; nofun), if_pos s2]
  rw [hF] at HF
  have HO : Hid (∀ n m, twoV s n m = (chkV (n * m), chkE (n * m))) := Lib.hid fun n m => by unfold twoV; rw [if_neg (by rw [s0]; nofun), if_neg (by rw [s1]; nofun), if_pos s2]
  obtain ⟨b, q, a1, c1, a2, c2, rfl, ⟨x0, x1, x2, x3, hp⟩, y0, y1, y2, y3, hp2⟩ := hA.arg01
  have HX := Lib.hid (fun W (h : Below w.heap.size w W) => pa_values bs ab cb p mb d o HV a c a1 c1 a2 c2 W hs hs2 (hw.on h) (hp.on h) (hp2.on h))
  have hnil := fn_some2 61
  have HW := Lib.hid hw
  have HD := Lib.hid ((Stp.refl hw).on (Below.refl _ w).drew)
  have HDB := Lib.hid ((Below.refl w.heap.size w).drew)
  have HKEEP := Lib.hid (fun W (h : Stp bs ab cb p mb w W) => show W.cell? ⟨b, q, none⟩ = some (.int .i64 a.kind) ∧ W.cell? ⟨b, q + 1, none⟩ = some (.string a.name) ∧ W.cell? ⟨b, q + 2, none⟩ = some (.int .i64 a.n) ∧ W.cell? ⟨b, q + 3, none⟩ = some (.slice a1 a.args.length c1) ∧ W.cell? ⟨b, q + 4, none⟩ = some (.int .i64 c.kind) ∧ W.cell? ⟨b, q + 4 + 1, none⟩ = some (.string c.name) ∧ W.cell? ⟨b, q + 4 + 2, none⟩ = some (.int .i64 c.n) ∧ W.cell? ⟨b, q + 4 + 3, none⟩ = some (.slice a2 c.args.length c2) from ⟨h.cell hw x0, h.cell hw x1, h.cell hw x2, h.cell hw x3, h.cell hw y0, h.cell hw y1, h.cell hw y2, h.cell hw y3⟩)
  clear hF hA hp hp2 hw hs hs2 HV s0 s1 s2
  generalize evD bs d a = r at *
  obtain ⟨n, e1⟩ := r
  generalize evD bs d c = r at *
  obtain ⟨m, e2⟩ := r
  unfold EvOk at hok hok2
  unfold EvV tmv at *
  dsimp only at HX hok hok2 ⊢
  obtain ⟨⟨v1, v2, v3⟩, hvv⟩ : ∃ V : Int × Int × Int, valsV (n, e1) (m, e2) = V := ⟨_, rfl⟩
  rw [hvv] at HX
  dsimp only at HX
  have HVV := Lib.hid hvv
  have HK1 := Lib.hid hok
  have HK2 := Lib.hid hok2
  clear hvv hok hok2
  obtain ⟨R, hR⟩ : ∃ R, (if e1 ≠ 0 then (0, e1) else if e2 ≠ 0 then (0, e2) else tellV (twoV s n m)) = R := ⟨_, rfl⟩
  rw [hR]
  rw [HO.out] at hR
  have HR := Lib.hid hR
  clear hR HO
  go_enter Try.func39, Try.ntmps39
  go_wp2_with fail
  refine HF.out.mono ?_; rintro e w' ⟨rfl, rfl⟩
  go_wp2_with fail
  go_region_held3 (fun W => W.cell? ⟨b, q, none⟩ = some (.int .i64 a.kind) ∧ W.cell? ⟨b, q + 1, none⟩ = some (.string a.name) ∧ W.cell? ⟨b, q + 2, none⟩ = some (.int .i64 a.n) ∧ W.cell? ⟨b, q + 3, none⟩ = some (.slice a1 a.args.length c1) ∧ W.cell? ⟨b, q + 4, none⟩ = some (.int .i64 c.kind) ∧ W.cell? ⟨b, q + 4 + 1, none⟩ = some (.string c.name) ∧ W.cell? ⟨b, q + 4 + 2, none⟩ = some (.int .i64 c.n) ∧ W.cell? ⟨b, q + 4 + 3, none⟩ = some (.slice a2 c.args.length c2))
    (first | with_reducible exact HKEEP.out _ hs2 | with_reducible exact HKEEP.out _ HD.out)
    ((go_at_call 28; (with_reducible refine (HX.out _ HDB.out).mono ?_); rintro e w2 ⟨rfl, hs1⟩; have hs2 := HD.out.trans hs1; clear hs1))
  by_cases hz : v3 = 0
  · subst hz
    obtain ⟨g1, g2, g3, g4⟩ := vals_good HVV.out rfl
    subst g1 g2 g3 g4
    have h64 : In64 v1 ∧ In64 v2 := ⟨HK1.out.elim (fun h => absurd rfl h.1) And.right, HK2.out.elim (fun h => absurd rfl h.1) And.right⟩
    rw [if_neg (by simp), if_neg (by simp)] at HR
    go_wp2_with fail
    refine (num_Mul _ _ _ h64.1 h64.2).mono ?_; rintro e w' ⟨rfl, rfl⟩
    go_wp2_with fail
    refine (pa_checked _ _ _).mono ?_; rintro e w' ⟨rfl, rfl⟩
    rw [HR.out]
    go_wp2_with fail
    go_ret2
    exact ⟨rfl, hs2⟩
  · rw [vals_bad HVV.out hz] at HR
    have g1 : (v3 != 0) = true := by simpa using hz
    clear hz
    go_wp2_with fail
    go_ret2
    rw [← HR.out]
    exact ⟨rfl, hs2⟩

set_option maxRecDepth 100000 in
set_option maxHeartbeats 4000000 in
theorem rk_two3 (bs : List (Int × Tm)) (ab : Option Addr) (cb p mb d : Nat) (o : Int) (s : ByteArray) (ad : Option Addr) (cap : Nat) (w : World) (hw : WkAt bs ab cb p mb w) (HV : ValC bs ab cb p mb d o) (a c : Tm) (hs : a.size ≤ 1000000) (hs2 : c.size ≤ 1000000) (hA : TArgs w ad [a, c]) (hok : EvOk (evD bs d a)) (hok2 : EvOk (evD bs d c)) (s0 : (s.toList == [43]) = false) (s1 : (s.toList == [45]) = false) (s2 : (s.toList == [42]) = false) (s3 : (s.toList == [47, 47]) = true) :
    Calls Try.prog 39 #[.pointer (some ⟨p, 0, none⟩), .string s, .slice ad 2 cap, .int .i64 o] w (EvV bs ab cb p mb (if (evD bs d a).2 ≠ 0 then (0, (evD bs d a).2) else if (evD bs d c).2 ≠ 0 then (0, (evD bs d c).2) else tellV (twoV s (evD bs d a).1 (evD bs d c).1)) w) := by
  have HF := Lib.hid (pa_ofTwo s w)
  have hF : twoF s = .func (.func 62) #[] #[] := by unfold twoF; rw [if_neg (by rw [s0]; nofun), if_neg (by rw [s1]; nofun), if_neg (by rw [s2]; nofun), if_pos s3]
  rw [hF] at HF
  have HO : Hid (∀ n m, twoV s n m = (quoV n m, quoE n m)) := Lib.hid fun n m => by unfold twoV; rw [if_neg (by rw [s0]; nofun), if_neg (by rw [s1]; nofun), if_neg (by rw [s2]; nofun), if_pos s3]
  obtain ⟨b, q, a1, c1, a2, c2, rfl, ⟨x0, x1, x2, x3, hp⟩, y0, y1, y2, y3, hp2⟩ := hA.arg01
  have HX := Lib.hid (fun W (h : Below w.heap.size w W) => pa_values bs ab cb p mb d o HV a c a1 c1 a2 c2 W hs hs2 (hw.on h) (hp.on h) (hp2.on h))
  have hnil := fn_some2 62
  have HW := Lib.hid hw
  have HD := Lib.hid ((Stp.refl hw).on (Below.refl _ w).drew)
  have HDB := Lib.hid ((Below.refl w.heap.size w).drew)
  have HKEEP := Lib.hid (fun W (h : Stp bs ab cb p mb w W) => show W.cell? ⟨b, q, none⟩ = some (.int .i64 a.kind) ∧ W.cell? ⟨b, q + 1, none⟩ = some (.string a.name) ∧ W.cell? ⟨b, q + 2, none⟩ = some (.int .i64 a.n) ∧ W.cell? ⟨b, q + 3, none⟩ = some (.slice a1 a.args.length c1) ∧ W.cell? ⟨b, q + 4, none⟩ = some (.int .i64 c.kind) ∧ W.cell? ⟨b, q + 4 + 1, none⟩ = some (.string c.name) ∧ W.cell? ⟨b, q + 4 + 2, none⟩ = some (.int .i64 c.n) ∧ W.cell? ⟨b, q + 4 + 3, none⟩ = some (.slice a2 c.args.length c2) from ⟨h.cell hw x0, h.cell hw x1, h.cell hw x2, h.cell hw x3, h.cell hw y0, h.cell hw y1, h.cell hw y2, h.cell hw y3⟩)
  clear hF hA hp hp2 hw hs hs2 HV s0 s1 s2 s3
  generalize evD bs d a = r at *
  obtain ⟨n, e1⟩ := r
  generalize evD bs d c = r at *
  obtain ⟨m, e2⟩ := r
  unfold EvOk at hok hok2
  unfold EvV tmv at *
  dsimp only at HX hok hok2 ⊢
  obtain ⟨⟨v1, v2, v3⟩, hvv⟩ : ∃ V : Int × Int × Int, valsV (n, e1) (m, e2) = V := ⟨_, rfl⟩
  rw [hvv] at HX
  dsimp only at HX
  have HVV := Lib.hid hvv
  have HK1 := Lib.hid hok
  have HK2 := Lib.hid hok2
  clear hvv hok hok2
  obtain ⟨R, hR⟩ : ∃ R, (if e1 ≠ 0 then (0, e1) else if e2 ≠ 0 then (0, e2) else tellV (twoV s n m)) = R := ⟨_, rfl⟩
  rw [hR]
  rw [HO.out] at hR
  have HR := Lib.hid hR
  clear hR HO
  go_enter Try.func39, Try.ntmps39
  go_wp2_with fail
  refine HF.out.mono ?_; rintro e w' ⟨rfl, rfl⟩
  go_wp2_with fail
  go_region_held3 (fun W => W.cell? ⟨b, q, none⟩ = some (.int .i64 a.kind) ∧ W.cell? ⟨b, q + 1, none⟩ = some (.string a.name) ∧ W.cell? ⟨b, q + 2, none⟩ = some (.int .i64 a.n) ∧ W.cell? ⟨b, q + 3, none⟩ = some (.slice a1 a.args.length c1) ∧ W.cell? ⟨b, q + 4, none⟩ = some (.int .i64 c.kind) ∧ W.cell? ⟨b, q + 4 + 1, none⟩ = some (.string c.name) ∧ W.cell? ⟨b, q + 4 + 2, none⟩ = some (.int .i64 c.n) ∧ W.cell? ⟨b, q + 4 + 3, none⟩ = some (.slice a2 c.args.length c2))
    (first | with_reducible exact HKEEP.out _ hs2 | with_reducible exact HKEEP.out _ HD.out)
    ((go_at_call 28; (with_reducible refine (HX.out _ HDB.out).mono ?_); rintro e w2 ⟨rfl, hs1⟩; have hs2 := HD.out.trans hs1; clear hs1))
  by_cases hz : v3 = 0
  · subst hz
    obtain ⟨g1, g2, g3, g4⟩ := vals_good HVV.out rfl
    subst g1 g2 g3 g4
    have h64 : In64 v1 ∧ In64 v2 := ⟨HK1.out.elim (fun h => absurd rfl h.1) And.right, HK2.out.elim (fun h => absurd rfl h.1) And.right⟩
    rw [if_neg (by simp), if_neg (by simp)] at HR
    go_wp2_with fail
    refine (num_Quo _ _ _ h64.1 h64.2).mono ?_; rintro e w' ⟨rfl, rfl⟩
    go_wp2_with fail
    refine (pa_checked _ _ _).mono ?_; rintro e w' ⟨rfl, rfl⟩
    rw [HR.out]
    go_wp2_with fail
    go_ret2
    exact ⟨rfl, hs2⟩
  · rw [vals_bad HVV.out hz] at HR
    have g1 : (v3 != 0) = true := by simpa using hz
    clear hz
    go_wp2_with fail
    go_ret2
    rw [← HR.out]
    exact ⟨rfl, hs2⟩

set_option maxRecDepth 100000 in
set_option maxHeartbeats 4000000 in
theorem rk_two4 (bs : List (Int × Tm)) (ab : Option Addr) (cb p mb d : Nat) (o : Int) (s : ByteArray) (ad : Option Addr) (cap : Nat) (w : World) (hw : WkAt bs ab cb p mb w) (HV : ValC bs ab cb p mb d o) (a c : Tm) (hs : a.size ≤ 1000000) (hs2 : c.size ≤ 1000000) (hA : TArgs w ad [a, c]) (hok : EvOk (evD bs d a)) (hok2 : EvOk (evD bs d c)) (s0 : (s.toList == [43]) = false) (s1 : (s.toList == [45]) = false) (s2 : (s.toList == [42]) = false) (s3 : (s.toList == [47, 47]) = false) (s4 : (s.toList == [114, 101, 109]) = true) :
    Calls Try.prog 39 #[.pointer (some ⟨p, 0, none⟩), .string s, .slice ad 2 cap, .int .i64 o] w (EvV bs ab cb p mb (if (evD bs d a).2 ≠ 0 then (0, (evD bs d a).2) else if (evD bs d c).2 ≠ 0 then (0, (evD bs d c).2) else tellV (twoV s (evD bs d a).1 (evD bs d c).1)) w) := by
  have HF := Lib.hid (pa_ofTwo s w)
  have hF : twoF s = .func (.func 63) #[] #[] := by unfold twoF; rw [if_neg (by rw [s0]; nofun), if_neg (by rw [s1]; nofun), if_neg (by rw [s2]; nofun), if_neg (by rw [s3]; nofun), if_pos s4]
  rw [hF] at HF
  have HO : Hid (∀ n m, twoV s n m = (remV n m, zeroE m)) := Lib.hid fun n m => by unfold twoV; rw [if_neg (by rw [s0]; nofun), if_neg (by rw [s1]; nofun), if_neg (by rw [s2]; nofun), if_neg (by rw [s3]; nofun), if_pos s4]
  obtain ⟨b, q, a1, c1, a2, c2, rfl, ⟨x0, x1, x2, x3, hp⟩, y0, y1, y2, y3, hp2⟩ := hA.arg01
  have HX := Lib.hid (fun W (h : Below w.heap.size w W) => pa_values bs ab cb p mb d o HV a c a1 c1 a2 c2 W hs hs2 (hw.on h) (hp.on h) (hp2.on h))
  have hnil := fn_some2 63
  have HW := Lib.hid hw
  have HD := Lib.hid ((Stp.refl hw).on (Below.refl _ w).drew)
  have HDB := Lib.hid ((Below.refl w.heap.size w).drew)
  have HKEEP := Lib.hid (fun W (h : Stp bs ab cb p mb w W) => show W.cell? ⟨b, q, none⟩ = some (.int .i64 a.kind) ∧ W.cell? ⟨b, q + 1, none⟩ = some (.string a.name) ∧ W.cell? ⟨b, q + 2, none⟩ = some (.int .i64 a.n) ∧ W.cell? ⟨b, q + 3, none⟩ = some (.slice a1 a.args.length c1) ∧ W.cell? ⟨b, q + 4, none⟩ = some (.int .i64 c.kind) ∧ W.cell? ⟨b, q + 4 + 1, none⟩ = some (.string c.name) ∧ W.cell? ⟨b, q + 4 + 2, none⟩ = some (.int .i64 c.n) ∧ W.cell? ⟨b, q + 4 + 3, none⟩ = some (.slice a2 c.args.length c2) from ⟨h.cell hw x0, h.cell hw x1, h.cell hw x2, h.cell hw x3, h.cell hw y0, h.cell hw y1, h.cell hw y2, h.cell hw y3⟩)
  clear hF hA hp hp2 hw hs hs2 HV s0 s1 s2 s3 s4
  generalize evD bs d a = r at *
  obtain ⟨n, e1⟩ := r
  generalize evD bs d c = r at *
  obtain ⟨m, e2⟩ := r
  unfold EvOk at hok hok2
  unfold EvV tmv at *
  dsimp only at HX hok hok2 ⊢
  obtain ⟨⟨v1, v2, v3⟩, hvv⟩ : ∃ V : Int × Int × Int, valsV (n, e1) (m, e2) = V := ⟨_, rfl⟩
  rw [hvv] at HX
  dsimp only at HX
  have HVV := Lib.hid hvv
  have HK1 := Lib.hid hok
  have HK2 := Lib.hid hok2
  clear hvv hok hok2
  obtain ⟨R, hR⟩ : ∃ R, (if e1 ≠ 0 then (0, e1) else if e2 ≠ 0 then (0, e2) else tellV (twoV s n m)) = R := ⟨_, rfl⟩
  rw [hR]
  rw [HO.out] at hR
  have HR := Lib.hid hR
  clear hR HO
  go_enter Try.func39, Try.ntmps39
  go_wp2_with fail
  refine HF.out.mono ?_; rintro e w' ⟨rfl, rfl⟩
  go_wp2_with fail
  go_region_held3 (fun W => W.cell? ⟨b, q, none⟩ = some (.int .i64 a.kind) ∧ W.cell? ⟨b, q + 1, none⟩ = some (.string a.name) ∧ W.cell? ⟨b, q + 2, none⟩ = some (.int .i64 a.n) ∧ W.cell? ⟨b, q + 3, none⟩ = some (.slice a1 a.args.length c1) ∧ W.cell? ⟨b, q + 4, none⟩ = some (.int .i64 c.kind) ∧ W.cell? ⟨b, q + 4 + 1, none⟩ = some (.string c.name) ∧ W.cell? ⟨b, q + 4 + 2, none⟩ = some (.int .i64 c.n) ∧ W.cell? ⟨b, q + 4 + 3, none⟩ = some (.slice a2 c.args.length c2))
    (first | with_reducible exact HKEEP.out _ hs2 | with_reducible exact HKEEP.out _ HD.out)
    ((go_at_call 28; (with_reducible refine (HX.out _ HDB.out).mono ?_); rintro e w2 ⟨rfl, hs1⟩; have hs2 := HD.out.trans hs1; clear hs1))
  by_cases hz : v3 = 0
  · subst hz
    obtain ⟨g1, g2, g3, g4⟩ := vals_good HVV.out rfl
    subst g1 g2 g3 g4
    have h64 : In64 v1 ∧ In64 v2 := ⟨HK1.out.elim (fun h => absurd rfl h.1) And.right, HK2.out.elim (fun h => absurd rfl h.1) And.right⟩
    rw [if_neg (by simp), if_neg (by simp)] at HR
    go_wp2_with fail
    refine (num_Rem _ _ _ h64.1 h64.2).mono ?_; rintro e w' ⟨rfl, rfl⟩
    go_wp2_with fail
    refine (pa_checked _ _ _).mono ?_; rintro e w' ⟨rfl, rfl⟩
    rw [HR.out]
    go_wp2_with fail
    go_ret2
    exact ⟨rfl, hs2⟩
  · rw [vals_bad HVV.out hz] at HR
    have g1 : (v3 != 0) = true := by simpa using hz
    clear hz
    go_wp2_with fail
    go_ret2
    rw [← HR.out]
    exact ⟨rfl, hs2⟩

set_option maxRecDepth 100000 in
set_option maxHeartbeats 4000000 in
theorem rk_two5 (bs : List (Int × Tm)) (ab : Option Addr) (cb p mb d : Nat) (o : Int) (s : ByteArray) (ad : Option Addr) (cap : Nat) (w : World) (hw : WkAt bs ab cb p mb w) (HV : ValC bs ab cb p mb d o) (a c : Tm) (hs : a.size ≤ 1000000) (hs2 : c.size ≤ 1000000) (hA : TArgs w ad [a, c]) (hok : EvOk (evD bs d a)) (hok2 : EvOk (evD bs d c)) (s0 : (s.toList == [43]) = false) (s1 : (s.toList == [45]) = false) (s2 : (s.toList == [42]) = false) (s3 : (s.toList == [47, 47]) = false) (s4 : (s.toList == [114, 101, 109]) = false) (s5 : (s.toList == [109, 111, 100]) = true) :
    Calls Try.prog 39 #[.pointer (some ⟨p, 0, none⟩), .string s, .slice ad 2 cap, .int .i64 o] w (EvV bs ab cb p mb (if (evD bs d a).2 ≠ 0 then (0, (evD bs d a).2) else if (evD bs d c).2 ≠ 0 then (0, (evD bs d c).2) else tellV (twoV s (evD bs d a).1 (evD bs d c).1)) w) := by
  have HF := Lib.hid (pa_ofTwo s w)
  have hF : twoF s = .func (.func 64) #[] #[] := by unfold twoF; rw [if_neg (by rw [s0]; nofun), if_neg (by rw [s1]; nofun), if_neg (by rw [s2]; nofun), if_neg (by rw [s3]; nofun), if_neg (by rw [s4]; nofun), if_pos s5]
  rw [hF] at HF
  have HO : Hid (∀ n m, twoV s n m = (modV n m, zeroE m)) := Lib.hid fun n m => by unfold twoV; rw [if_neg (by rw [s0]; nofun), if_neg (by rw [s1]; nofun), if_neg (by rw [s2]; nofun), if_neg (by rw [s3]; nofun), if_neg (by rw [s4]; nofun)]
  obtain ⟨b, q, a1, c1, a2, c2, rfl, ⟨x0, x1, x2, x3, hp⟩, y0, y1, y2, y3, hp2⟩ := hA.arg01
  have HX := Lib.hid (fun W (h : Below w.heap.size w W) => pa_values bs ab cb p mb d o HV a c a1 c1 a2 c2 W hs hs2 (hw.on h) (hp.on h) (hp2.on h))
  have hnil := fn_some2 64
  have HW := Lib.hid hw
  have HD := Lib.hid ((Stp.refl hw).on (Below.refl _ w).drew)
  have HDB := Lib.hid ((Below.refl w.heap.size w).drew)
  have HKEEP := Lib.hid (fun W (h : Stp bs ab cb p mb w W) => show W.cell? ⟨b, q, none⟩ = some (.int .i64 a.kind) ∧ W.cell? ⟨b, q + 1, none⟩ = some (.string a.name) ∧ W.cell? ⟨b, q + 2, none⟩ = some (.int .i64 a.n) ∧ W.cell? ⟨b, q + 3, none⟩ = some (.slice a1 a.args.length c1) ∧ W.cell? ⟨b, q + 4, none⟩ = some (.int .i64 c.kind) ∧ W.cell? ⟨b, q + 4 + 1, none⟩ = some (.string c.name) ∧ W.cell? ⟨b, q + 4 + 2, none⟩ = some (.int .i64 c.n) ∧ W.cell? ⟨b, q + 4 + 3, none⟩ = some (.slice a2 c.args.length c2) from ⟨h.cell hw x0, h.cell hw x1, h.cell hw x2, h.cell hw x3, h.cell hw y0, h.cell hw y1, h.cell hw y2, h.cell hw y3⟩)
  clear hF hA hp hp2 hw hs hs2 HV s0 s1 s2 s3 s4 s5
  generalize evD bs d a = r at *
  obtain ⟨n, e1⟩ := r
  generalize evD bs d c = r at *
  obtain ⟨m, e2⟩ := r
  unfold EvOk at hok hok2
  unfold EvV tmv at *
  dsimp only at HX hok hok2 ⊢
  obtain ⟨⟨v1, v2, v3⟩, hvv⟩ : ∃ V : Int × Int × Int, valsV (n, e1) (m, e2) = V := ⟨_, rfl⟩
  rw [hvv] at HX
  dsimp only at HX
  have HVV := Lib.hid hvv
  have HK1 := Lib.hid hok
  have HK2 := Lib.hid hok2
  clear hvv hok hok2
  obtain ⟨R, hR⟩ : ∃ R, (if e1 ≠ 0 then (0, e1) else if e2 ≠ 0 then (0, e2) else tellV (twoV s n m)) = R := ⟨_, rfl⟩
  rw [hR]
  rw [HO.out] at hR
  have HR := Lib.hid hR
  clear hR HO
  go_enter Try.func39, Try.ntmps39
  go_wp2_with fail
  refine HF.out.mono ?_; rintro e w' ⟨rfl, rfl⟩
  go_wp2_with fail
  go_region_held3 (fun W => W.cell? ⟨b, q, none⟩ = some (.int .i64 a.kind) ∧ W.cell? ⟨b, q + 1, none⟩ = some (.string a.name) ∧ W.cell? ⟨b, q + 2, none⟩ = some (.int .i64 a.n) ∧ W.cell? ⟨b, q + 3, none⟩ = some (.slice a1 a.args.length c1) ∧ W.cell? ⟨b, q + 4, none⟩ = some (.int .i64 c.kind) ∧ W.cell? ⟨b, q + 4 + 1, none⟩ = some (.string c.name) ∧ W.cell? ⟨b, q + 4 + 2, none⟩ = some (.int .i64 c.n) ∧ W.cell? ⟨b, q + 4 + 3, none⟩ = some (.slice a2 c.args.length c2))
    (first | with_reducible exact HKEEP.out _ hs2 | with_reducible exact HKEEP.out _ HD.out)
    ((go_at_call 28; (with_reducible refine (HX.out _ HDB.out).mono ?_); rintro e w2 ⟨rfl, hs1⟩; have hs2 := HD.out.trans hs1; clear hs1))
  by_cases hz : v3 = 0
  · subst hz
    obtain ⟨g1, g2, g3, g4⟩ := vals_good HVV.out rfl
    subst g1 g2 g3 g4
    have h64 : In64 v1 ∧ In64 v2 := ⟨HK1.out.elim (fun h => absurd rfl h.1) And.right, HK2.out.elim (fun h => absurd rfl h.1) And.right⟩
    rw [if_neg (by simp), if_neg (by simp)] at HR
    go_wp2_with fail
    refine (num_Mod _ _ _ h64.1 h64.2).mono ?_; rintro e w' ⟨rfl, rfl⟩
    go_wp2_with fail
    refine (pa_checked _ _ _).mono ?_; rintro e w' ⟨rfl, rfl⟩
    rw [HR.out]
    go_wp2_with fail
    go_ret2
    exact ⟨rfl, hs2⟩
  · rw [vals_bad HVV.out hz] at HR
    have g1 : (v3 != 0) = true := by simpa using hz
    clear hz
    go_wp2_with fail
    go_ret2
    rw [← HR.out]
    exact ⟨rfl, hs2⟩

end Go.Proofs.Ytpmohibhdnmjlaa
