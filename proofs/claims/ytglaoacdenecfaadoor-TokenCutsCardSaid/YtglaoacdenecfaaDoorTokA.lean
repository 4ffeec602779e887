/-
  The contracts of package token's tests of runes and of span, at each of the four tests that it is handed.
-/
import Derived.Test.YtglaoacdenecfaaDoorCharDevJ
import Derived.Test.YtglaoacdenecfaaDoorTokModel
import Derived.Test.YtglaoacdenecfaaDoorShelf4
namespace Go.Proofs.YtglaoacdenecfaaDoor
open Go.RowKit

theorem ret_intT {a b : Int} (h : a = b) : Ending.returned (.int .i64 a) = .returned (.int .i64 b) := by rw [h]
theorem ret_boolT {a b : Bool} (h : a = b) : Ending.returned (.bool a) = .returned (.bool b) := by rw [h]

set_option maxHeartbeats 1000000 in
theorem tok_word1 (c : Int) (w : World) : Calls Tryd.prog 45 #[.int .i32 c] w fun e w' => e = .returned (.bool (nameR c)) ∧ w = w' := by
  have HC := Lib.hid (dev_Class c w)
  obtain ⟨E, hE⟩ : ∃ E, nameR c = E := ⟨_, rfl⟩
  rw [hE]
  unfold nameR at hE
  generalize cls c = q at *
  have HE := Lib.hid hE
  clear hE
  have hq : q = 1 ∨ q = 2 ∨ q = 3 ∨ ((q == 1) = false ∧ (q == 2) = false ∧ (q == 3) = false) := by
    by_cases h1 : q = 1
    · exact .inl h1
    by_cases h2 : q = 2
    · exact .inr (.inl h2)
    by_cases h3 : q = 3
    · exact .inr (.inr (.inl h3))
    exact .inr (.inr (.inr ⟨by simpa using h1, by simpa using h2, by simpa using h3⟩))
  rcases hq with rfl | rfl | rfl | ⟨e1, e2, e3⟩
  iterate 3
    · go_enter Tryd.func45, Tryd.ntmps45
      go_wp2_with fail
      refine HC.out.mono ?_; rintro e w' ⟨rfl, rfl⟩
      go_wp2_with fail
      go_ret
      exact ⟨ret_boolT (by rw [← HE.out]; decide), rfl⟩
  · have HV : Hid (E = false) := Lib.hid (by rw [← HE.out, decide_eq_false_iff_not]; simp at e1 e2 e3; omega)
    go_enter Tryd.func45, Tryd.ntmps45
    go_wp2_with fail
    refine HC.out.mono ?_; rintro e w' ⟨rfl, rfl⟩
    go_wp2_with fail
    go_ret
    exact ⟨ret_boolT HV.out.symm, rfl⟩

set_option maxHeartbeats 1000000 in
theorem tok_number1 (c : Int) (w : World) : Calls Tryd.prog 47 #[.int .i32 c] w fun e w' => e = .returned (.bool (digR c)) ∧ w = w' := by
  have HC := Lib.hid (dev_Class c w)
  obtain ⟨E, hE⟩ : ∃ E, digR c = E := ⟨_, rfl⟩
  rw [hE]
  unfold digR at hE
  generalize cls c = q at *
  have HE := Lib.hid hE
  clear hE
  go_enter Tryd.func47, Tryd.ntmps47
  go_wp2_with fail
  refine HC.out.mono ?_; rintro e w' ⟨rfl, rfl⟩
  go_wp2_with fail
  go_ret
  exact ⟨ret_boolT (by rw [← HE.out, Bool.eq_iff_iff]; simp), rfl⟩

set_option maxHeartbeats 1000000 in
theorem tok_signs1 (c : Int) (w : World) : Calls Tryd.prog 51 #[.int .i32 c] w fun e w' => e = .returned (.bool (signR c)) ∧ w = w' := by
  have HC := Lib.hid (dev_Class c w)
  obtain ⟨E, hE⟩ : ∃ E, signR c = E := ⟨_, rfl⟩
  rw [hE]
  unfold signR at hE
  generalize cls c = q at *
  have HE := Lib.hid hE
  clear hE
  go_enter Tryd.func51, Tryd.ntmps51
  go_wp2_with fail
  refine HC.out.mono ?_; rintro e w' ⟨rfl, rfl⟩
  go_wp2_with fail
  go_ret
  exact ⟨ret_boolT (by rw [← HE.out, Bool.eq_iff_iff]; simp), rfl⟩

set_option maxHeartbeats 1000000 in
theorem tok_line1 (c : Int) (w : World) : Calls Tryd.prog 54 #[.int .i32 c] w fun e w' => e = .returned (.bool (lineR c)) ∧ w = w' := by
  obtain ⟨E, hE⟩ : ∃ E, lineR c = E := ⟨_, rfl⟩
  rw [hE]
  unfold lineR at hE
  have HE := Lib.hid hE
  clear hE
  go_enter Tryd.func54, Tryd.ntmps54
  go_wp2_with fail
  go_ret
  exact ⟨ret_boolT (by rw [← HE.out, Bool.eq_iff_iff]; simp), rfl⟩

/-- What is left of a run at a place. -/
theorem span_drop (P : Int → Bool) (hi : Bool) (hP : ∀ c : Int, 128 ≤ c → P c = hi) (s : ByteArray) (pos : Nat) (hp : pos < s.size) :
    spanL P (s.data.toList.drop pos) = if P ((Utf8.decode s pos).1 : Int) = true then (Utf8.decode s pos).2 + spanL P (s.data.toList.drop (pos + (Utf8.decode s pos).2)) else 0 := by
  have hne : s.data.toList.drop pos ≠ [] := fun e => by
    have h1 := congrArg List.length e
    rw [List.length_drop] at h1
    simp at h1
    omega
  rw [spanL_step P hi hP _ hne, Lib.decodeL_drop, List.drop_drop]

set_option maxHeartbeats 2000000 in
theorem tok_span_word1 (s : ByteArray) (w : World) :
    Calls Tryd.prog 44 #[.string s, .func (.func 45) #[] #[]] w fun e w' => e = .returned (.int .i64 (spanL nameR s.data.toList : Nat)) ∧ Below w.heap.size w w' := by
  obtain ⟨E, hE⟩ : ∃ E : Nat, spanL nameR s.data.toList = E := ⟨_, rfl⟩
  rw [hE]
  have HE := Lib.hid hE
  clear hE
  go_enter Tryd.func44, Tryd.ntmps44
  go_wp2
  go_loopw [4] (fun r wr => ∃ (pos : Nat), pos ≤ s.size ∧ r = .int .i64 0 ∧ wr.heap[w.heap.size]? = some (.stringIter s pos) ∧ Below w.heap.size w wr ∧ Hid (E = pos + spanL nameR (s.data.toList.drop pos)))
    (fun _ wr => s.size - wr.iterPos w.heap.size)
  case atStart =>
    exact ⟨0, Nat.zero_le _, rfl, by simpa using World.iter_heap w s 0, (Below.refl _ w).alloc (Nat.le_refl _) _, Lib.hid (by rw [List.drop_zero, HE.out]; omega)⟩
  case round =>
    obtain ⟨pos, hpos, rfl, hit, hbw, HS⟩ := hrel
    have hsz : w.heap.size < wr.heap.size := (Array.getElem?_eq_some_iff.1 hit).1
    by_cases hp : pos < s.size
    · have hnx : ∀ ty, (Instr.next (.pointer (some ⟨w.heap.size, 0, none⟩)) true ty).run Tryd.prog wr = _ := fun ty => Lib.run_next_any_at wr w.heap.size s pos ty hit hp
      have hit2 := Lib.iterAt_heap wr w.heap.size s pos (pos + (Utf8.decode s pos).2) hit
      have hbw2 := Lib.below_iterAt hbw (k := w.heap.size) (Nat.le_refl _) s (pos + (Utf8.decode s pos).2)
      have hfit := decode_fits s pos hp
      have hd := span_drop nameR false nameR_high s pos hp
      have HSt := HS.out
      rw [hd] at HSt
      clear hd HS
      generalize wr.iterAt w.heap.size s (pos + (Utf8.decode s pos).2) = W2 at hnx hit2 hbw2
      generalize (Utf8.decode s pos).1 = c at *
      generalize (Utf8.decode s pos).2 = n at *
      have cK := fun w => tok_word1 c w
      obtain ⟨hf1, hf2⟩ := hfit
      cases hb : nameR (c : Int) with
      | true =>
        rw [hb] at HSt cK
        rw [if_pos rfl] at HSt
        have HK := Lib.hid cK
        have HN : Hid (E = (pos + n : Nat) + spanL nameR (s.data.toList.drop (pos + n))) := Lib.hid (by omega)
        clear HSt cK hb
        go_wp2_with fail
        refine (HK.out _).mono ?_; rintro e w' ⟨rfl, rfl⟩
        go_wp2_with fail
        go_roundw
        case rel => exact ⟨pos + n, by omega, rfl, hit2, hbw2, HN⟩
        case measure =>
          simp only [World.iterPos, hit2, hit]
          omega
      | false =>
        rw [hb] at HSt cK
        rw [if_neg (by decide)] at HSt
        have HK := Lib.hid cK
        have HN : Hid ((E : Int) = pos) := Lib.hid (by omega)
        clear HSt cK hb
        go_wp2_with fail
        refine (HK.out _).mono ?_; rintro e w' ⟨rfl, rfl⟩
        go_wp2_with fail
        go_ret
        exact ⟨ret_intT HN.out.symm, hbw2⟩
    · have hnx : ∀ ty, (Instr.next (.pointer (some ⟨w.heap.size, 0, none⟩)) true ty).run Tryd.prog wr = _ := fun ty => Lib.run_next_end_at wr w.heap.size s pos ty hit hp
      have hS := HS.out
      rw [List.drop_eq_nil_of_le (by simp; omega)] at hS
      have HN : Hid ((E : Int) = s.size) := Lib.hid (by rw [hS]; show ((pos + 0 : Nat) : Int) = _; omega)
      clear hS HS
      go_wp2_with fail
      go_ret
      exact ⟨ret_intT HN.out.symm, hbw⟩

set_option maxHeartbeats 2000000 in
theorem tok_span_number1 (s : ByteArray) (w : World) :
    Calls Tryd.prog 44 #[.string s, .func (.func 47) #[] #[]] w fun e w' => e = .returned (.int .i64 (spanL digR s.data.toList : Nat)) ∧ Below w.heap.size w w' := by
  obtain ⟨E, hE⟩ : ∃ E : Nat, spanL digR s.data.toList = E := ⟨_, rfl⟩
  rw [hE]
  have HE := Lib.hid hE
  clear hE
  go_enter Tryd.func44, Tryd.ntmps44
  go_wp2
  go_loopw [4] (fun r wr => ∃ (pos : Nat), pos ≤ s.size ∧ r = .int .i64 0 ∧ wr.heap[w.heap.size]? = some (.stringIter s pos) ∧ Below w.heap.size w wr ∧ Hid (E = pos + spanL digR (s.data.toList.drop pos)))
    (fun _ wr => s.size - wr.iterPos w.heap.size)
  case atStart =>
    exact ⟨0, Nat.zero_le _, rfl, by simpa using World.iter_heap w s 0, (Below.refl _ w).alloc (Nat.le_refl _) _, Lib.hid (by rw [List.drop_zero, HE.out]; omega)⟩
  case round =>
    obtain ⟨pos, hpos, rfl, hit, hbw, HS⟩ := hrel
    have hsz : w.heap.size < wr.heap.size := (Array.getElem?_eq_some_iff.1 hit).1
    by_cases hp : pos < s.size
    · have hnx : ∀ ty, (Instr.next (.pointer (some ⟨w.heap.size, 0, none⟩)) true ty).run Tryd.prog wr = _ := fun ty => Lib.run_next_any_at wr w.heap.size s pos ty hit hp
      have hit2 := Lib.iterAt_heap wr w.heap.size s pos (pos + (Utf8.decode s pos).2) hit
      have hbw2 := Lib.below_iterAt hbw (k := w.heap.size) (Nat.le_refl _) s (pos + (Utf8.decode s pos).2)
      have hfit := decode_fits s pos hp
      have hd := span_drop digR false digR_high s pos hp
      have HSt := HS.out
      rw [hd] at HSt
      clear hd HS
      generalize wr.iterAt w.heap.size s (pos + (Utf8.decode s pos).2) = W2 at hnx hit2 hbw2
      generalize (Utf8.decode s pos).1 = c at *
      generalize (Utf8.decode s pos).2 = n at *
      have cK := fun w => tok_number1 c w
      obtain ⟨hf1, hf2⟩ := hfit
      cases hb : digR (c : Int) with
      | true =>
        rw [hb] at HSt cK
        rw [if_pos rfl] at HSt
        have HK := Lib.hid cK
        have HN : Hid (E = (pos + n : Nat) + spanL digR (s.data.toList.drop (pos + n))) := Lib.hid (by omega)
        clear HSt cK hb
        go_wp2_with fail
        refine (HK.out _).mono ?_; rintro e w' ⟨rfl, rfl⟩
        go_wp2_with fail
        go_roundw
        case rel => exact ⟨pos + n, by omega, rfl, hit2, hbw2, HN⟩
        case measure =>
          simp only [World.iterPos, hit2, hit]
          omega
      | false =>
        rw [hb] at HSt cK
        rw [if_neg (by decide)] at HSt
        have HK := Lib.hid cK
        have HN : Hid ((E : Int) = pos) := Lib.hid (by omega)
        clear HSt cK hb
        go_wp2_with fail
        refine (HK.out _).mono ?_; rintro e w' ⟨rfl, rfl⟩
        go_wp2_with fail
        go_ret
        exact ⟨ret_intT HN.out.symm, hbw2⟩
    · have hnx : ∀ ty, (Instr.next (.pointer (some ⟨w.heap.size, 0, none⟩)) true ty).run Tryd.prog wr = _ := fun ty => Lib.run_next_end_at wr w.heap.size s pos ty hit hp
      have hS := HS.out
      rw [List.drop_eq_nil_of_le (by simp; omega)] at hS
      have HN : Hid ((E : Int) = s.size) := Lib.hid (by rw [hS]; show ((pos + 0 : Nat) : Int) = _; omega)
      clear hS HS
      go_wp2_with fail
      go_ret
      exact ⟨ret_intT HN.out.symm, hbw⟩

set_option maxHeartbeats 2000000 in
theorem tok_span_signs1 (s : ByteArray) (w : World) :
    Calls Tryd.prog 44 #[.string s, .func (.func 51) #[] #[]] w fun e w' => e = .returned (.int .i64 (spanL signR s.data.toList : Nat)) ∧ Below w.heap.size w w' := by
  obtain ⟨E, hE⟩ : ∃ E : Nat, spanL signR s.data.toList = E := ⟨_, rfl⟩
  rw [hE]
  have HE := Lib.hid hE
  clear hE
  go_enter Tryd.func44, Tryd.ntmps44
  go_wp2
  go_loopw [4] (fun r wr => ∃ (pos : Nat), pos ≤ s.size ∧ r = .int .i64 0 ∧ wr.heap[w.heap.size]? = some (.stringIter s pos) ∧ Below w.heap.size w wr ∧ Hid (E = pos + spanL signR (s.data.toList.drop pos)))
    (fun _ wr => s.size - wr.iterPos w.heap.size)
  case atStart =>
    exact ⟨0, Nat.zero_le _, rfl, by simpa using World.iter_heap w s 0, (Below.refl _ w).alloc (Nat.le_refl _) _, Lib.hid (by rw [List.drop_zero, HE.out]; omega)⟩
  case round =>
    obtain ⟨pos, hpos, rfl, hit, hbw, HS⟩ := hrel
    have hsz : w.heap.size < wr.heap.size := (Array.getElem?_eq_some_iff.1 hit).1
    by_cases hp : pos < s.size
    · have hnx : ∀ ty, (Instr.next (.pointer (some ⟨w.heap.size, 0, none⟩)) true ty).run Tryd.prog wr = _ := fun ty => Lib.run_next_any_at wr w.heap.size s pos ty hit hp
      have hit2 := Lib.iterAt_heap wr w.heap.size s pos (pos + (Utf8.decode s pos).2) hit
      have hbw2 := Lib.below_iterAt hbw (k := w.heap.size) (Nat.le_refl _) s (pos + (Utf8.decode s pos).2)
      have hfit := decode_fits s pos hp
      have hd := span_drop signR false signR_high s pos hp
      have HSt := HS.out
      rw [hd] at HSt
      clear hd HS
      generalize wr.iterAt w.heap.size s (pos + (Utf8.decode s pos).2) = W2 at hnx hit2 hbw2
      generalize (Utf8.decode s pos).1 = c at *
      generalize (Utf8.decode s pos).2 = n at *
      have cK := fun w => tok_signs1 c w
      obtain ⟨hf1, hf2⟩ := hfit
      cases hb : signR (c : Int) with
      | true =>
        rw [hb] at HSt cK
        rw [if_pos rfl] at HSt
        have HK := Lib.hid cK
        have HN : Hid (E = (pos + n : Nat) + spanL signR (s.data.toList.drop (pos + n))) := Lib.hid (by omega)
        clear HSt cK hb
        go_wp2_with fail
        refine (HK.out _).mono ?_; rintro e w' ⟨rfl, rfl⟩
        go_wp2_with fail
        go_roundw
        case rel => exact ⟨pos + n, by omega, rfl, hit2, hbw2, HN⟩
        case measure =>
          simp only [World.iterPos, hit2, hit]
          omega
      | false =>
        rw [hb] at HSt cK
        rw [if_neg (by decide)] at HSt
        have HK := Lib.hid cK
        have HN : Hid ((E : Int) = pos) := Lib.hid (by omega)
        clear HSt cK hb
        go_wp2_with fail
        refine (HK.out _).mono ?_; rintro e w' ⟨rfl, rfl⟩
        go_wp2_with fail
        go_ret
        exact ⟨ret_intT HN.out.symm, hbw2⟩
    · have hnx : ∀ ty, (Instr.next (.pointer (some ⟨w.heap.size, 0, none⟩)) true ty).run Tryd.prog wr = _ := fun ty => Lib.run_next_end_at wr w.heap.size s pos ty hit hp
      have hS := HS.out
      rw [List.drop_eq_nil_of_le (by simp; omega)] at hS
      have HN : Hid ((E : Int) = s.size) := Lib.hid (by rw [hS]; show ((pos + 0 : Nat) : Int) = _; omega)
      clear hS HS
      go_wp2_with fail
      go_ret
      exact ⟨ret_intT HN.out.symm, hbw⟩

set_option maxHeartbeats 2000000 in
theorem tok_span_line1 (s : ByteArray) (w : World) :
    Calls Tryd.prog 44 #[.string s, .func (.func 54) #[] #[]] w fun e w' => e = .returned (.int .i64 (spanL lineR s.data.toList : Nat)) ∧ Below w.heap.size w w' := by
  obtain ⟨E, hE⟩ : ∃ E : Nat, spanL lineR s.data.toList = E := ⟨_, rfl⟩
  rw [hE]
  have HE := Lib.hid hE
  clear hE
  go_enter Tryd.func44, Tryd.ntmps44
  go_wp2
  go_loopw [4] (fun r wr => ∃ (pos : Nat), pos ≤ s.size ∧ r = .int .i64 0 ∧ wr.heap[w.heap.size]? = some (.stringIter s pos) ∧ Below w.heap.size w wr ∧ Hid (E = pos + spanL lineR (s.data.toList.drop pos)))
    (fun _ wr => s.size - wr.iterPos w.heap.size)
  case atStart =>
    exact ⟨0, Nat.zero_le _, rfl, by simpa using World.iter_heap w s 0, (Below.refl _ w).alloc (Nat.le_refl _) _, Lib.hid (by rw [List.drop_zero, HE.out]; omega)⟩
  case round =>
    obtain ⟨pos, hpos, rfl, hit, hbw, HS⟩ := hrel
    have hsz : w.heap.size < wr.heap.size := (Array.getElem?_eq_some_iff.1 hit).1
    by_cases hp : pos < s.size
    · have hnx : ∀ ty, (Instr.next (.pointer (some ⟨w.heap.size, 0, none⟩)) true ty).run Tryd.prog wr = _ := fun ty => Lib.run_next_any_at wr w.heap.size s pos ty hit hp
      have hit2 := Lib.iterAt_heap wr w.heap.size s pos (pos + (Utf8.decode s pos).2) hit
      have hbw2 := Lib.below_iterAt hbw (k := w.heap.size) (Nat.le_refl _) s (pos + (Utf8.decode s pos).2)
      have hfit := decode_fits s pos hp
      have hd := span_drop lineR true lineR_high s pos hp
      have HSt := HS.out
      rw [hd] at HSt
      clear hd HS
      generalize wr.iterAt w.heap.size s (pos + (Utf8.decode s pos).2) = W2 at hnx hit2 hbw2
      generalize (Utf8.decode s pos).1 = c at *
      generalize (Utf8.decode s pos).2 = n at *
      have cK := fun w => tok_line1 c w
      obtain ⟨hf1, hf2⟩ := hfit
      cases hb : lineR (c : Int) with
      | true =>
        rw [hb] at HSt cK
        rw [if_pos rfl] at HSt
        have HK := Lib.hid cK
        have HN : Hid (E = (pos + n : Nat) + spanL lineR (s.data.toList.drop (pos + n))) := Lib.hid (by omega)
        clear HSt cK hb
        go_wp2_with fail
        refine (HK.out _).mono ?_; rintro e w' ⟨rfl, rfl⟩
        go_wp2_with fail
        go_roundw
        case rel => exact ⟨pos + n, by omega, rfl, hit2, hbw2, HN⟩
        case measure =>
          simp only [World.iterPos, hit2, hit]
          omega
      | false =>
        rw [hb] at HSt cK
        rw [if_neg (by decide)] at HSt
        have HK := Lib.hid cK
        have HN : Hid ((E : Int) = pos) := Lib.hid (by omega)
        clear HSt cK hb
        go_wp2_with fail
        refine (HK.out _).mono ?_; rintro e w' ⟨rfl, rfl⟩
        go_wp2_with fail
        go_ret
        exact ⟨ret_intT HN.out.symm, hbw2⟩
    · have hnx : ∀ ty, (Instr.next (.pointer (some ⟨w.heap.size, 0, none⟩)) true ty).run Tryd.prog wr = _ := fun ty => Lib.run_next_end_at wr w.heap.size s pos ty hit hp
      have hS := HS.out
      rw [List.drop_eq_nil_of_le (by simp; omega)] at hS
      have HN : Hid ((E : Int) = s.size) := Lib.hid (by rw [hS]; show ((pos + 0 : Nat) : Int) = _; omega)
      clear hS HS
      go_wp2_with fail
      go_ret
      exact ⟨ret_intT HN.out.symm, hbw⟩

end Go.Proofs.YtglaoacdenecfaaDoor
