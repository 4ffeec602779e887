/-
  The contracts of the document's own told, one and two for arith (gen/genAriA.py).
-/
import Derived.Test.YtpmohibhdnmjlaaAriM
import Derived.Test.YtpmohibhdnmjlaaNumA
namespace Go.Proofs.Ytpmohibhdnmjlaa
open Go.RowKit

set_option maxHeartbeats 1000000 in
theorem r11_told (n e : Int) (w : World) : Calls Try.prog 35 #[.int .i64 n, .int .i64 e] w fun r w' => r = .returned (.tuple #[.int .i64 (tellV (n, e)).1, .int .i64 (tellV (n, e)).2]) ∧ w = w' := by
  unfold tellV
  dsimp only
  by_cases h : e = 0
  · rw [if_neg (by simpa using h), h]
    go_enter Try.func35, Try.ntmps35
    go_wp2_with fail
    go_ret2
    exact ⟨rfl, rfl⟩
  · rw [if_pos h]
    have e1 : (e != 0) = true := by simpa using h
    clear h
    go_enter Try.func35, Try.ntmps35
    go_wp2_with fail
    go_ret2
    exact ⟨rfl, rfl⟩

set_option maxRecDepth 100000 in
set_option maxHeartbeats 4000000 in
theorem r11_one (s : ByteArray) (x : Int) (w : World) (hx : In64 x) : Calls Try.prog 36 #[.string s, .int .i64 x] w fun r w' => r = .returned (.tuple #[.int .i64 (oneV s x).1, .int .i64 (oneV s x).2]) ∧ w = w' := by
  unfold oneV
  cases e0 : (s.toList == [45]) with
  | true =>
    rw [if_pos rfl]
    go_enter Try.func36, Try.ntmps36
    go_wp2_with fail
    refine (ref_Neg _ _ hx).mono ?_; rintro e w' ⟨rfl, rfl⟩
    go_wp2_with fail
    go_ret2
    exact ⟨rfl, rfl⟩
  | false =>
    rw [if_neg (by nofun)]
    cases e1 : (s.toList == [97, 98, 115]) with
    | true =>
      rw [if_pos rfl]
      go_enter Try.func36, Try.ntmps36
      go_wp2_with fail
      refine (ref_Abs _ _ hx).mono ?_; rintro e w' ⟨rfl, rfl⟩
      go_wp2_with fail
      go_ret2
      exact ⟨rfl, rfl⟩
    | false =>
      rw [if_neg (by nofun)]
      go_enter Try.func36, Try.ntmps36
      go_wp2_with fail
      refine (ref_Sign _ _).mono ?_; rintro e w' ⟨rfl, rfl⟩
      go_wp2_with fail
      go_ret2
      exact ⟨rfl, rfl⟩

set_option maxRecDepth 100000 in
set_option maxHeartbeats 4000000 in
theorem r11_two (s : ByteArray) (x y : Int) (w : World) (hx : In64 x) (hy : In64 y) : Calls Try.prog 37 #[.string s, .int .i64 x, .int .i64 y] w fun r w' => r = .returned (.tuple #[.int .i64 (twoV s x y).1, .int .i64 (twoV s x y).2]) ∧ w = w' := by
  unfold twoV
  cases e0 : (s.toList == [43]) with
  | true =>
    rw [if_pos rfl]
    go_enter Try.func37, Try.ntmps37
    go_wp2_with fail
    refine (ref_Add _ _ _ hx hy).mono ?_; rintro e w' ⟨rfl, rfl⟩
    go_wp2_with fail
    go_ret2
    exact ⟨rfl, rfl⟩
  | false =>
    rw [if_neg (by nofun)]
    cases e1 : (s.toList == [45]) with
    | true =>
      rw [if_pos rfl]
      go_enter Try.func37, Try.ntmps37
      go_wp2_with fail
      refine (ref_Sub _ _ _ hx hy).mono ?_; rintro e w' ⟨rfl, rfl⟩
      go_wp2_with fail
      go_ret2
      exact ⟨rfl, rfl⟩
    | false =>
      rw [if_neg (by nofun)]
      cases e2 : (s.toList == [42]) with
      | true =>
        rw [if_pos rfl]
        go_enter Try.func37, Try.ntmps37
        go_wp2_with fail
        refine (ref_Mul _ _ _ hx hy).mono ?_; rintro e w' ⟨rfl, rfl⟩
        go_wp2_with fail
        go_ret2
        exact ⟨rfl, rfl⟩
      | false =>
        rw [if_neg (by nofun)]
        cases e3 : (s.toList == [47, 47]) with
        | true =>
          rw [if_pos rfl]
          go_enter Try.func37, Try.ntmps37
          go_wp2_with fail
          refine (ref_Quo _ _ _ hx hy).mono ?_; rintro e w' ⟨rfl, rfl⟩
          go_wp2_with fail
          go_ret2
          exact ⟨rfl, rfl⟩
        | false =>
          rw [if_neg (by nofun)]
          cases e4 : (s.toList == [114, 101, 109]) with
          | true =>
            rw [if_pos rfl]
            go_enter Try.func37, Try.ntmps37
            go_wp2_with fail
            refine (ref_Rem _ _ _ hx hy).mono ?_; rintro e w' ⟨rfl, rfl⟩
            go_wp2_with fail
            go_ret2
            exact ⟨rfl, rfl⟩
          | false =>
            rw [if_neg (by nofun)]
            go_enter Try.func37, Try.ntmps37
            go_wp2_with fail
            refine (ref_Mod _ _ _ hx hy).mono ?_; rintro e w' ⟨rfl, rfl⟩
            go_wp2_with fail
            go_ret2
            exact ⟨rfl, rfl⟩
end Go.Proofs.Ytpmohibhdnmjlaa
