/-
  The contracts of package char's own isName and isSymbol.
-/
import Derived.Test.YtpiiliecdkemhaaDoorCharDevA
import Derived.Test.YtpiiliecdkemhaaDoorCharRefF
import Derived.Lib.OthersKept
namespace Go.Proofs.YtpiiliecdkemhaaDoor
open Go.RowKit

theorem nameAll_nil : nameAll [] = false := by decide
theorem nameAll_cons (c : Int) (t : List Int) : nameAll (c :: t) = (decide (cls c = 1) && t.all nameR) := by
  unfold nameAll nameR
  rw [List.headD_cons, List.all_cons]
  by_cases h : cls c = 1
  · rw [decide_eq_true h, decide_eq_true (.inl h)]; simp
  · rw [decide_eq_false h]; simp
/-- What is left to ask of a name behind its first bytes. -/
def NameSt (l : List UInt8) (pos : Nat) : Prop := pos = 0 ∨ nameAll (runesL l) = (runesL (l.drop pos)).all nameR
theorem drop_runes (s : ByteArray) (pos : Nat) (h : pos < s.size) : runesL (s.data.toList.drop pos) = ((Utf8.decode s pos).1 : Int) :: runesL (s.data.toList.drop (pos + (Utf8.decode s pos).2)) := by
  have hne : s.data.toList.drop pos ≠ [] := fun e => by
    have h1 := congrArg List.length e
    rw [List.length_drop] at h1
    simp at h1
    omega
  rw [runesL_cons _ hne, Lib.decodeL_drop, List.drop_drop]
theorem decode_fits (s : ByteArray) (pos : Nat) (h : pos < s.size) : pos < pos + (Utf8.decode s pos).2 ∧ pos + (Utf8.decode s pos).2 ≤ s.size := by
  have hne : s.data.toList.drop pos ≠ [] := fun e => by
    have h1 := congrArg List.length e
    rw [List.length_drop] at h1
    simp at h1
    omega
  have h1 := Lib.decodeL_width (s.data.toList.drop pos)
  have h2 := Lib.decodeL_le (s.data.toList.drop pos) hne
  rw [List.length_drop] at h2
  rw [Lib.decodeL_drop] at h1 h2
  simp at h2
  omega
theorem NameSt.step {s : ByteArray} {pos : Nat} (h : pos < s.size) (hs : NameSt s.data.toList pos) (hc : cls (Utf8.decode s pos).1 = 1 ∨ (pos ≠ 0 ∧ (cls (Utf8.decode s pos).1 = 2 ∨ cls (Utf8.decode s pos).1 = 3))) : NameSt s.data.toList (pos + (Utf8.decode s pos).2) := by
  right
  have hd := drop_runes s pos h
  have hn : nameR (Utf8.decode s pos).1 = true := by unfold nameR; rw [decide_eq_true_eq]; omega
  rcases Nat.eq_zero_or_pos pos with h0 | h0
  · subst h0
    rw [List.drop_zero] at hd
    rw [hd, nameAll_cons, decide_eq_true (by omega), Bool.true_and]
  · rcases hs with hs | hs
    · omega
    · rw [hs, hd, List.all_cons, hn, Bool.true_and]
theorem NameSt.bad {s : ByteArray} {pos : Nat} (h : pos < s.size) (hs : NameSt s.data.toList pos) (hc : ¬ (cls (Utf8.decode s pos).1 = 1 ∨ (pos ≠ 0 ∧ (cls (Utf8.decode s pos).1 = 2 ∨ cls (Utf8.decode s pos).1 = 3)))) : nameAll (runesL s.data.toList) = false := by
  have hd := drop_runes s pos h
  rcases Nat.eq_zero_or_pos pos with h0 | h0
  · subst h0
    rw [List.drop_zero] at hd
    rw [hd, nameAll_cons, decide_eq_false (by omega), Bool.false_and]
  · rcases hs with hs | hs
    · omega
    · have hn : nameR (Utf8.decode s pos).1 = false := by unfold nameR; rw [decide_eq_false_iff_not]; omega
      rw [hs, hd, List.all_cons, hn, Bool.false_and]
theorem NameSt.done {s : ByteArray} {pos : Nat} (h : ¬ pos < s.size) (hs : NameSt s.data.toList pos) : nameAll (runesL s.data.toList) = decide (s.size ≠ 0) := by
  rcases hs with hs | hs
  · have hl : s.data.toList = [] := List.eq_nil_of_length_eq_zero (by have := (show s.data.toList.length = s.size by simp); omega)
    rw [hl, runesL_nil, nameAll_nil]
    exact (decide_eq_false (by omega)).symm
  · by_cases h0 : s.size = 0
    · have hl : s.data.toList = [] := List.eq_nil_of_length_eq_zero (by simpa using h0)
      rw [hl, runesL_nil, nameAll_nil]
      exact (decide_eq_false (by omega)).symm
    · rw [hs, List.drop_eq_nil_of_le (by simp; omega), runesL_nil, decide_eq_true h0]; rfl

set_option maxHeartbeats 2000000 in
theorem dev_isName (s : ByteArray) (w : World) :
    Calls Tryd.prog 24 #[.string s] w fun e w' => e = .returned (.bool (nameAll (runesL s.data.toList))) ∧ Below w.heap.size w w' := by
  obtain ⟨E, hE⟩ : ∃ E, nameAll (runesL s.data.toList) = E := ⟨_, rfl⟩
  rw [hE]
  have HE := Lib.hid hE
  clear hE
  go_enter Tryd.func24, Tryd.ntmps24
  go_wp2
  go_loopw [2] (fun r wr => ∃ (pos : Nat), pos ≤ s.size ∧ r = .bool false ∧ wr.heap[w.heap.size]? = some (.stringIter s pos) ∧ Below w.heap.size w wr ∧ Hid (NameSt s.data.toList pos))
    (fun _ wr => s.size - wr.iterPos w.heap.size)
  case atStart =>
    exact ⟨0, Nat.zero_le _, rfl, by simpa using World.iter_heap w s 0, (Below.refl _ w).alloc (Nat.le_refl _) _, Lib.hid (.inl rfl)⟩
  case round =>
    obtain ⟨pos, hpos, rfl, hit, hbw, HS⟩ := hrel
    have hsz : w.heap.size < wr.heap.size := (Array.getElem?_eq_some_iff.1 hit).1
    by_cases hp : pos < s.size
    · have hnx : ∀ ty, (Instr.next (.pointer (some ⟨w.heap.size, 0, none⟩)) true ty).run Tryd.prog wr = _ := fun ty => Lib.run_next_any_at wr w.heap.size s pos ty hit hp
      have hit2 := Lib.iterAt_heap wr w.heap.size s pos (pos + (Utf8.decode s pos).2) hit
      have hbw2 := Lib.below_iterAt hbw (k := w.heap.size) (Nat.le_refl _) s (pos + (Utf8.decode s pos).2)
      have hfit := decode_fits s pos hp
      have HSt := Lib.hid (NameSt.step hp HS.out)
      have HBd := Lib.hid (NameSt.bad hp HS.out)
      generalize wr.iterAt w.heap.size s (pos + (Utf8.decode s pos).2) = W2 at hnx hit2 hbw2
      generalize (Utf8.decode s pos).1 = c at *
      generalize (Utf8.decode s pos).2 = n at *
      obtain ⟨q, hq⟩ : ∃ q, cls c = q := ⟨_, rfl⟩
      have hSt := HSt.out
      have hBd := HBd.out
      have cK := fun w => dev_Class c w
      rw [hq] at hSt hBd cK
      have HK := Lib.hid cK
      have HSt2 := Lib.hid hSt
      have HBd2 := Lib.hid hBd
      clear hSt hBd HSt HBd cK hq HS
      obtain ⟨hf1, hf2⟩ := hfit
      by_cases h1 : q = 1 ∨ (pos ≠ 0 ∧ (q = 2 ∨ q = 3))
      · have HN := Lib.hid (HSt2.out h1)
        clear HSt2 HBd2
        have hx : q = 1 ∨ (q = 2 ∧ ((pos : Int) == 0) = false) ∨ (q = 3 ∧ ((pos : Int) == 0) = false) := by
          rcases h1 with h | ⟨h0, h | h⟩
          · exact .inl h
          · exact .inr (.inl ⟨h, by simp; omega⟩)
          · exact .inr (.inr ⟨h, by simp; omega⟩)
        clear h1
        rcases hx with rfl | ⟨rfl, e0⟩ | ⟨rfl, e0⟩
        all_goals
          go_wp2_with fail
          refine (HK.out _).mono ?_; rintro e w' ⟨rfl, rfl⟩
          go_wp2_with fail
          go_roundw
          case rel => exact ⟨pos + n, by omega, rfl, hit2, hbw2, HN⟩
          case measure =>
            simp only [World.iterPos, hit2, hit]
            omega
      · have HN := Lib.hid (HBd2.out h1)
        clear HSt2 HBd2
        have hx : (q = 2 ∧ ((pos : Int) == 0) = true) ∨ (q = 3 ∧ ((pos : Int) == 0) = true) ∨ ((q == 1) = false ∧ (q == 2) = false ∧ (q == 3) = false) := by
          by_cases h2 : q = 2
          · exact .inl ⟨h2, by simp; omega⟩
          by_cases h3 : q = 3
          · exact .inr (.inl ⟨h3, by simp; omega⟩)
          exact .inr (.inr ⟨by simp; omega, by simp; omega, by simp; omega⟩)
        clear h1
        rcases hx with ⟨rfl, e0⟩ | ⟨rfl, e0⟩ | ⟨e1, e2, e3⟩
        all_goals
          go_wp2_with fail
          refine (HK.out _).mono ?_; rintro e w' ⟨rfl, rfl⟩
          go_wp2_with fail
          go_ret
          exact ⟨ret_bool (by rw [← HE.out, HN.out]), hbw2⟩
    · have hnx : ∀ ty, (Instr.next (.pointer (some ⟨w.heap.size, 0, none⟩)) true ty).run Tryd.prog wr = _ := fun ty => Lib.run_next_end_at wr w.heap.size s pos ty hit hp
      have HD := Lib.hid (NameSt.done hp HS.out)
      clear HS
      by_cases h0 : s.size = 0
      · have f0 : s.toList.isEmpty = true := by rw [ByteArray.toList_eq, List.isEmpty_iff]; exact List.eq_nil_of_length_eq_zero (by simpa using h0)
        have HF : Hid (E = false) := Lib.hid (by rw [← HE.out, HD.out, decide_eq_false (by omega)])
        clear HD
        go_wp2_with fail
        go_ret
        exact ⟨ret_bool (by rw [HF.out]), hbw⟩
      · have f0 : s.toList.isEmpty = false := by rw [ByteArray.toList_eq, List.isEmpty_eq_false_iff]; exact list_ne s h0
        have HF : Hid (E = true) := Lib.hid (by rw [← HE.out, HD.out, decide_eq_true h0])
        clear HD h0
        go_wp2_with fail
        go_ret
        exact ⟨ret_bool (by rw [HF.out]), hbw⟩

/-- What is left to ask of signs behind the first bytes. -/
def SignSt (l : List UInt8) (pos : Nat) : Prop := (runesL l).all signR = (runesL (l.drop pos)).all signR

set_option maxHeartbeats 2000000 in
theorem dev_isSymbol (s : ByteArray) (w : World) (E : Bool) (b0 b1 b2 : Bool) (f0 : s.toList.isEmpty = b0) (f1 : (s.toList == [46]) = b1) (f2 : ((s.extract 0 2).toList == [47, 42]) = b2)
    (hE : E = ((runesL s.data.toList).all signR && !b0 && !b1 && !b2)) (h02 : s.size < 2 → b2 = false) :
    Calls Tryd.prog 25 #[.string s] w fun e w' => e = .returned (.bool E) ∧ Below w.heap.size w w' := by
  have HE := Lib.hid hE
  have H02 := Lib.hid h02
  clear hE h02
  go_enter Tryd.func25, Tryd.ntmps25
  go_wp2
  go_loopw [2] (fun r wr => ∃ (pos : Nat), pos ≤ s.size ∧ r = .bool false ∧ wr.heap[w.heap.size]? = some (.stringIter s pos) ∧ Below w.heap.size w wr ∧ Hid (SignSt s.data.toList pos))
    (fun _ wr => s.size - wr.iterPos w.heap.size)
  case atStart =>
    exact ⟨0, Nat.zero_le _, rfl, by simpa using World.iter_heap w s 0, (Below.refl _ w).alloc (Nat.le_refl _) _, Lib.hid rfl⟩
  case round =>
    obtain ⟨pos, hpos, rfl, hit, hbw, HS⟩ := hrel
    have hsz : w.heap.size < wr.heap.size := (Array.getElem?_eq_some_iff.1 hit).1
    by_cases hp : pos < s.size
    · have hnx : ∀ ty, (Instr.next (.pointer (some ⟨w.heap.size, 0, none⟩)) true ty).run Tryd.prog wr = _ := fun ty => Lib.run_next_any_at wr w.heap.size s pos ty hit hp
      have hit2 := Lib.iterAt_heap wr w.heap.size s pos (pos + (Utf8.decode s pos).2) hit
      have hbw2 := Lib.below_iterAt hbw (k := w.heap.size) (Nat.le_refl _) s (pos + (Utf8.decode s pos).2)
      have hfit := decode_fits s pos hp
      have hd := drop_runes s pos hp
      have hS : (runesL s.data.toList).all signR = (decide (cls (Utf8.decode s pos).1 = 4) && (runesL (s.data.toList.drop (pos + (Utf8.decode s pos).2))).all signR) := by
        rw [show (runesL s.data.toList).all signR = _ from HS.out, hd, List.all_cons]; rfl
      clear hd HS
      generalize wr.iterAt w.heap.size s (pos + (Utf8.decode s pos).2) = W2 at hnx hit2 hbw2
      generalize (Utf8.decode s pos).1 = c at *
      generalize (Utf8.decode s pos).2 = n at *
      obtain ⟨q, hq⟩ : ∃ q, cls c = q := ⟨_, rfl⟩
      have cK := fun w => dev_Class c w
      rw [hq] at hS cK
      have HK := Lib.hid cK
      clear cK hq
      obtain ⟨hf1, hf2⟩ := hfit
      by_cases h1 : q = 4
      · rw [decide_eq_true h1, Bool.true_and] at hS
        have HN : Hid (SignSt s.data.toList (pos + n)) := Lib.hid hS
        have e1 : (q != 4) = false := by simp; omega
        clear hS h1
        go_wp2_with fail
        refine (HK.out _).mono ?_; rintro e w' ⟨rfl, rfl⟩
        go_wp2_with fail
        go_roundw
        case rel => exact ⟨pos + n, by omega, rfl, hit2, hbw2, HN⟩
        case measure =>
          simp only [World.iterPos, hit2, hit]
          omega
      · rw [decide_eq_false h1, Bool.false_and] at hS
        have HF : Hid (E = false) := Lib.hid (by rw [HE.out, hS]; simp)
        have e1 : (q != 4) = true := by simp; omega
        clear hS h1
        go_wp2_with fail
        refine (HK.out _).mono ?_; rintro e w' ⟨rfl, rfl⟩
        go_wp2_with fail
        go_ret
        exact ⟨ret_bool (by rw [HF.out]), hbw2⟩
    · have hnx : ∀ ty, (Instr.next (.pointer (some ⟨w.heap.size, 0, none⟩)) true ty).run Tryd.prog wr = _ := fun ty => Lib.run_next_end_at wr w.heap.size s pos ty hit hp
      have hS : (runesL s.data.toList).all signR = true := by
        rw [show (runesL s.data.toList).all signR = _ from HS.out, List.drop_eq_nil_of_le (by simp; omega), runesL_nil]; rfl
      have hF : E = (!b0 && !b1 && !b2) := by rw [HE.out, hS]; rfl
      have HF := Lib.hid hF
      clear HS hS hF
      have h2 : (s.size : Int) < 2 ∨ (2 : Int) ≤ (s.size : Int) := by omega
      rcases h2 with h2 | h2
      · have hb2 := H02.out (by omega)
        subst hb2
        cases b0
        all_goals
          cases b1
          all_goals
            go_wp2_with fail
            go_ret
            exact ⟨ret_bool (by rw [HF.out]; first | rfl | (simp; omega)), hbw⟩
      · cases b0
        all_goals
          cases b1
          all_goals
            cases b2
            all_goals
              go_wp2_with fail
              go_ret
              exact ⟨ret_bool (by rw [HF.out]; first | rfl | (simp; omega)), hbw⟩
end Go.Proofs.YtpiiliecdkemhaaDoor
