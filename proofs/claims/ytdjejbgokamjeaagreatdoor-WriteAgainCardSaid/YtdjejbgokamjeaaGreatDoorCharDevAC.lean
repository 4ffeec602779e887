import Derived.Test.YtdjejbgokamjeaaGreatDoorCharA
import Derived.Test.YtdjejbgokamjeaaGreatDoorCharRef
import Derived.Lib.OthersKept
import Derived.Lib.TrimAscii
namespace Go.Proofs.YtdjejbgokamjeaaGreatDoor
open Go.RowKit
set_option maxHeartbeats 1000000 in
theorem dev_class1 (c : Int) (w : World) (h1 : 97 <= c) (h2 : c <= 122) :
 Calls Tryz.prog 20 #[.int .i32 c] w fun e w' => e = .returned (.int .i64 1) /\ w = w' := by
 go_enter Tryz.func20, Tryz.ntmps20;go_wp2_with fail;go_ret;exact ⟨rfl, rfl⟩
set_option maxHeartbeats 1000000 in
theorem dev_class2 (c : Int) (w : World) (h : (65 <= c /\ c <= 90) \/ c = 95) :
 Calls Tryz.prog 20 #[.int .i32 c] w fun e w' => e = .returned (.int .i64 2) /\ w = w' := by
 rcases h with ⟨h1, h2⟩ | rfl
 all_goals
  go_enter Tryz.func20, Tryz.ntmps20;go_wp2_with fail;go_ret;exact ⟨rfl, rfl⟩
set_option maxHeartbeats 1000000 in
theorem dev_class3 (c : Int) (w : World) (h1 : 48 <= c) (h2 : c <= 57) :
 Calls Tryz.prog 20 #[.int .i32 c] w fun e w' => e = .returned (.int .i64 3) /\ w = w' := by
 go_enter Tryz.func20, Tryz.ntmps20;go_wp2_with fail;go_ret;exact ⟨rfl, rfl⟩
set_option maxHeartbeats 4000000 in
theorem dev_class4 (c : Int) (w : World) (h : c = 43 \/ c = 45 \/ c = 42 \/ c = 47 \/ c = 92 \/ c = 94 \/ c = 60 \/ c = 62 \/ c = 61 \/ c = 126 \/ c = 58 \/ c = 46 \/ c = 63 \/ c = 64 \/ c = 35 \/ c = 38 \/ c = 36) :
 Calls Tryz.prog 20 #[.int .i32 c] w fun e w' => e = .returned (.int .i64 4) /\ w = w' := by
 rcases h with rfl | rfl | rfl | rfl | rfl | rfl | rfl | rfl | rfl | rfl | rfl | rfl | rfl | rfl | rfl | rfl | rfl
 all_goals
  go_enter Tryz.func20, Tryz.ntmps20;go_wp2_with fail;go_ret;exact ⟨rfl, rfl⟩
set_option maxHeartbeats 4000000 in
theorem dev_class5 (c : Int) (w : World) (h : c = 9 \/ c = 10 \/ c = 13 \/ c = 32) :
 Calls Tryz.prog 20 #[.int .i32 c] w fun e w' => e = .returned (.int .i64 5) /\ w = w' := by
 rcases h with rfl | rfl | rfl | rfl
 all_goals
  go_enter Tryz.func20, Tryz.ntmps20;go_wp2_with fail;go_ret;exact ⟨rfl, rfl⟩
set_option maxHeartbeats 4000000 in
theorem dev_class6 (c : Int) (w : World) (h : c = 33 \/ c = 59 \/ c = 44 \/ c = 124) :
 Calls Tryz.prog 20 #[.int .i32 c] w fun e w' => e = .returned (.int .i64 6) /\ w = w' := by
 rcases h with rfl | rfl | rfl | rfl
 all_goals
  go_enter Tryz.func20, Tryz.ntmps20;go_wp2_with fail;go_ret;exact ⟨rfl, rfl⟩
set_option maxHeartbeats 4000000 in
theorem dev_class7 (c : Int) (w : World) (h : c = 40 \/ c = 41 \/ c = 91 \/ c = 93 \/ c = 123 \/ c = 125) :
 Calls Tryz.prog 20 #[.int .i32 c] w fun e w' => e = .returned (.int .i64 7) /\ w = w' := by
 rcases h with rfl | rfl | rfl | rfl | rfl | rfl
 all_goals
  go_enter Tryz.func20, Tryz.ntmps20;go_wp2_with fail;go_ret;exact ⟨rfl, rfl⟩
set_option maxHeartbeats 4000000 in
theorem dev_class8 (w : World) :
 Calls Tryz.prog 20 #[.int .i32 39] w fun e w' => e = .returned (.int .i64 8) /\ w = w' := by
 go_enter Tryz.func20, Tryz.ntmps20;go_wp2_with fail;go_ret;exact ⟨rfl, rfl⟩
set_option maxHeartbeats 4000000 in
theorem dev_class0 (c : Int) (w : World) (hr : Gap c)
 (a1 : (c == 43) = false) (a2 : (c == 45) = false) (a3 : (c == 42) = false) (a4 : (c == 47) = false) (a5 : (c == 92) = false) (a6 : (c == 94) = false) (a7 : (c == 60) = false) (a8 : (c == 62) = false) (a9 : (c == 61) = false) (a10 : (c == 126) = false) (a11 : (c == 58) = false) (a12 : (c == 46) = false) (a13 : (c == 63) = false) (a14 : (c == 64) = false) (a15 : (c == 35) = false) (a16 : (c == 38) = false) (a17 : (c == 36) = false)
 (b1 : (c == 9) = false) (b2 : (c == 10) = false) (b3 : (c == 13) = false) (b4 : (c == 32) = false) (b5 : (c == 33) = false) (b6 : (c == 59) = false) (b7 : (c == 44) = false) (b8 : (c == 124) = false)
 (d1 : (c == 40) = false) (d2 : (c == 41) = false) (d3 : (c == 91) = false) (d4 : (c == 93) = false) (d5 : (c == 123) = false) (d6 : (c == 125) = false) (d7 : (c == 39) = false) :
 Calls Tryz.prog 20 #[.int .i32 c] w fun e w' => e = .returned (.int .i64 0) /\ w = w' := by
 unfold Gap at hr;rcases hr with hr | ⟨hr, hr2⟩ | ⟨hr, hr2⟩ | ⟨hr, hr2⟩ | hr
 all_goals
  have e95 : (c == 95) = false := by (simp; omega)
  go_enter Tryz.func20, Tryz.ntmps20;go_wp2_with fail;go_ret;exact ⟨rfl, rfl⟩
theorem dev_Class (c : Int) (w : World) :
 Calls Tryz.prog 20 #[.int .i32 c] w fun e w' => e = .returned (.int .i64 (cls c)) /\ w = w' := by
 unfold cls;by_cases h1 : 97 <= c /\ c <= 122
 · rw [if_pos h1]; exact dev_class1 c w h1.1 h1.2
 rw [if_neg h1];by_cases h2 : (65 <= c /\ c <= 90) \/ c = 95
 · rw [if_pos h2]; exact dev_class2 c w h2
 rw [if_neg h2];by_cases h3 : 48 <= c /\ c <= 57
 · rw [if_pos h3]; exact dev_class3 c w h3.1 h3.2
 rw [if_neg h3];have hg : Gap c := by unfold Gap; omega
 by_cases h4 : c = 43 \/ c = 45 \/ c = 42 \/ c = 47 \/ c = 92 \/ c = 94 \/ c = 60 \/ c = 62 \/ c = 61 \/ c = 126 \/ c = 58 \/ c = 46 \/ c = 63 \/ c = 64 \/ c = 35 \/ c = 38 \/ c = 36
 · rw [if_pos h4]; exact dev_class4 c w h4
 rw [if_neg h4];by_cases h5 : c = 9 \/ c = 10 \/ c = 13 \/ c = 32
 · rw [if_pos h5]; exact dev_class5 c w h5
 rw [if_neg h5];by_cases h6 : c = 33 \/ c = 59 \/ c = 44 \/ c = 124
 · rw [if_pos h6]; exact dev_class6 c w h6
 rw [if_neg h6];by_cases h7 : c = 40 \/ c = 41 \/ c = 91 \/ c = 93 \/ c = 123 \/ c = 125
 · rw [if_pos h7]; exact dev_class7 c w h7
 rw [if_neg h7];by_cases h8 : c = 39
 · rw [if_pos h8]; subst h8; exact dev_class8 w
 · rw [if_neg h8];have ne : ∀ k : Int, c ≠ k -> (c == k) = false := fun k h => by simpa using h
   exact dev_class0 c w hg (ne _ (by omega)) (ne _ (by omega)) (ne _ (by omega)) (ne _ (by omega)) (ne _ (by omega)) (ne _ (by omega)) (ne _ (by omega)) (ne _ (by omega)) (ne _ (by omega)) (ne _ (by omega)) (ne _ (by omega)) (ne _ (by omega)) (ne _ (by omega)) (ne _ (by omega)) (ne _ (by omega)) (ne _ (by omega)) (ne _ (by omega))
    (ne _ (by omega)) (ne _ (by omega)) (ne _ (by omega)) (ne _ (by omega)) (ne _ (by omega)) (ne _ (by omega)) (ne _ (by omega)) (ne _ (by omega)) (ne _ (by omega)) (ne _ (by omega)) (ne _ (by omega)) (ne _ (by omega)) (ne _ (by omega)) (ne _ (by omega)) (ne _ (by omega))
theorem nameAll_nil : nameAll [] = false := by decide
theorem nameAll_cons (c : Int) (t : List Int) : nameAll (c :: t) = (decide (cls c = 1) && t.all nameR) := by
 unfold nameAll nameR;rw [List.headD_cons, List.all_cons];by_cases h : cls c = 1
 · rw [decide_eq_true h, decide_eq_true (.inl h)]; simp
 · rw [decide_eq_false h]; simp
def NameSt (l : List UInt8) (pos : Nat) : Prop := pos = 0 \/ nameAll (runesL l) = (runesL (l.drop pos)).all nameR
theorem drop_runes (s : ByteArray) (pos : Nat) (h : pos < s.size) : runesL (s.data.toList.drop pos) = ((Utf8.decode s pos).1 : Int) :: runesL (s.data.toList.drop (pos + (Utf8.decode s pos).2)) := by
 have hne : s.data.toList.drop pos ≠ [] := fun e => by
  have h1 := congrArg List.length e;rw [List.length_drop] at h1;simp at h1
  omega
 rw [runesL_cons _ hne, Lib.decodeL_drop, List.drop_drop]
theorem decode_fits (s : ByteArray) (pos : Nat) (h : pos < s.size) : pos < pos + (Utf8.decode s pos).2 /\ pos + (Utf8.decode s pos).2 <= s.size := by
 have hne : s.data.toList.drop pos ≠ [] := fun e => by
  have h1 := congrArg List.length e;rw [List.length_drop] at h1;simp at h1
  omega
 have h1 := Lib.decodeL_width (s.data.toList.drop pos);have h2 := Lib.decodeL_le (s.data.toList.drop pos) hne;rw [List.length_drop] at h2;rw [Lib.decodeL_drop] at h1 h2;simp at h2
 omega
theorem NameSt.step {s : ByteArray} {pos : Nat} (h : pos < s.size) (hs : NameSt s.data.toList pos) (hc : cls (Utf8.decode s pos).1 = 1 \/ (pos ≠ 0 /\ (cls (Utf8.decode s pos).1 = 2 \/ cls (Utf8.decode s pos).1 = 3))) : NameSt s.data.toList (pos + (Utf8.decode s pos).2) := by
 right
 have hd := drop_runes s pos h;have hn : nameR (Utf8.decode s pos).1 = true := by unfold nameR; rw [decide_eq_true_eq]; omega
 rcases Nat.eq_zero_or_pos pos with h0 | h0
 · subst h0;rw [List.drop_zero] at hd;rw [hd, nameAll_cons, decide_eq_true (by omega), Bool.true_and]
 · rcases hs with hs | hs
   · omega
   · rw [hs, hd, List.all_cons, hn, Bool.true_and]
theorem NameSt.bad {s : ByteArray} {pos : Nat} (h : pos < s.size) (hs : NameSt s.data.toList pos) (hc : ¬ (cls (Utf8.decode s pos).1 = 1 \/ (pos ≠ 0 /\ (cls (Utf8.decode s pos).1 = 2 \/ cls (Utf8.decode s pos).1 = 3)))) : nameAll (runesL s.data.toList) = false := by
 have hd := drop_runes s pos h;rcases Nat.eq_zero_or_pos pos with h0 | h0
 · subst h0;rw [List.drop_zero] at hd;rw [hd, nameAll_cons, decide_eq_false (by omega), Bool.false_and]
 · rcases hs with hs | hs
   · omega
   · have hn : nameR (Utf8.decode s pos).1 = false := by unfold nameR; rw [decide_eq_false_iff_not]; omega
     rw [hs, hd, List.all_cons, hn, Bool.false_and]
theorem NameSt.done {s : ByteArray} {pos : Nat} (h : ¬ pos < s.size) (hs : NameSt s.data.toList pos) : nameAll (runesL s.data.toList) = decide (s.size ≠ 0) := by
 rcases hs with hs | hs
 · have hl : s.data.toList = [] := List.eq_nil_of_length_eq_zero (by have := (show s.data.toList.length = s.size by simp); omega);rw [hl, runesL_nil, nameAll_nil];exact (decide_eq_false (by omega)).symm
 · by_cases h0 : s.size = 0
   · have hl : s.data.toList = [] := List.eq_nil_of_length_eq_zero (by simpa using h0);rw [hl, runesL_nil, nameAll_nil];exact (decide_eq_false (by omega)).symm
   · rw [hs, List.drop_eq_nil_of_le (by simp; omega), runesL_nil, decide_eq_true h0]; rfl
set_option maxHeartbeats 2000000 in
theorem dev_isName (s : ByteArray) (w : World) :
 Calls Tryz.prog 83 #[.string s] w fun e w' => e = .returned (.bool (nameAll (runesL s.data.toList))) /\ Below w.heap.size w w' := by
 obtain ⟨E, hE⟩ : ∃ E, nameAll (runesL s.data.toList) = E := ⟨_, rfl⟩;rw [hE];have HE := Lib.hid hE;clear hE;go_enter Tryz.func83, Tryz.ntmps83;go_wp2;go_loopw [2] (fun r wr => ∃ (pos : Nat), pos <= s.size /\ r = .bool false /\ wr.heap[w.heap.size]? = some (.stringIter s pos) /\ Below w.heap.size w wr /\ Hid (NameSt s.data.toList pos))
  (fun _ wr => s.size - wr.iterPos w.heap.size)
 case atStart =>
  exact ⟨0, Nat.zero_le _, rfl, by simpa using World.iter_heap w s 0, (Below.refl _ w).alloc (Nat.le_refl _) _, Lib.hid (.inl rfl)⟩
 case round =>
  obtain ⟨pos, hpos, rfl, hit, hbw, HS⟩ := hrel;have hsz : w.heap.size < wr.heap.size := (Array.getElem?_eq_some_iff.1 hit).1;by_cases hp : pos < s.size
  · have hnx : ∀ ty, (Instr.next (.pointer (some ⟨w.heap.size, 0, none⟩)) true ty).run Tryz.prog wr = _ := fun ty => Lib.run_next_any_at wr w.heap.size s pos ty hit hp;have hit2 := Lib.iterAt_heap wr w.heap.size s pos (pos + (Utf8.decode s pos).2) hit;have hbw2 := Lib.below_iterAt hbw (k := w.heap.size) (Nat.le_refl _) s (pos + (Utf8.decode s pos).2);have hfit := decode_fits s pos hp;have HSt := Lib.hid (NameSt.step hp HS.out);have HBd := Lib.hid (NameSt.bad hp HS.out);generalize wr.iterAt w.heap.size s (pos + (Utf8.decode s pos).2) = W2 at hnx hit2 hbw2;generalize (Utf8.decode s pos).1 = c at *;generalize (Utf8.decode s pos).2 = n at *;obtain ⟨q, hq⟩ : ∃ q, cls c = q := ⟨_, rfl⟩;have hSt := HSt.out;have hBd := HBd.out;have cK := fun w => dev_Class c w;rw [hq] at hSt hBd cK;have HK := Lib.hid cK;have HSt2 := Lib.hid hSt;have HBd2 := Lib.hid hBd;clear hSt hBd HSt HBd cK hq HS;obtain ⟨hf1, hf2⟩ := hfit;by_cases h1 : q = 1 \/ (pos ≠ 0 /\ (q = 2 \/ q = 3))
    · have HN := Lib.hid (HSt2.out h1);clear HSt2 HBd2;have hx : q = 1 \/ (q = 2 /\ ((pos : Int) == 0) = false) \/ (q = 3 /\ ((pos : Int) == 0) = false) := by
       rcases h1 with h | ⟨h0, h | h⟩
       · exact .inl h
       · exact .inr (.inl ⟨h, by simp; omega⟩)
       · exact .inr (.inr ⟨h, by simp; omega⟩)
      clear h1;rcases hx with rfl | ⟨rfl, e0⟩ | ⟨rfl, e0⟩
      all_goals
       go_wp2_with fail;refine (HK.out _).mono ?_; rintro e w' ⟨rfl, rfl⟩;go_wp2_with fail;go_roundw
       case rel => exact ⟨pos + n, by omega, rfl, hit2, hbw2, HN⟩
       case measure =>
        simp only [World.iterPos, hit2, hit]
        omega
    · have HN := Lib.hid (HBd2.out h1);clear HSt2 HBd2;have hx : (q = 2 /\ ((pos : Int) == 0) = true) \/ (q = 3 /\ ((pos : Int) == 0) = true) \/ ((q == 1) = false /\ (q == 2) = false /\ (q == 3) = false) := by
       by_cases h2 : q = 2
       · exact .inl ⟨h2, by simp; omega⟩
       by_cases h3 : q = 3
       · exact .inr (.inl ⟨h3, by simp; omega⟩)
       exact .inr (.inr ⟨by simp; omega, by simp; omega, by simp; omega⟩)
      clear h1;rcases hx with ⟨rfl, e0⟩ | ⟨rfl, e0⟩ | ⟨e1, e2, e3⟩
      all_goals
       go_wp2_with fail;refine (HK.out _).mono ?_; rintro e w' ⟨rfl, rfl⟩;go_wp2_with fail;go_ret;exact ⟨ret_bool (by rw [<- HE.out, HN.out]), hbw2⟩
  · have hnx : ∀ ty, (Instr.next (.pointer (some ⟨w.heap.size, 0, none⟩)) true ty).run Tryz.prog wr = _ := fun ty => Lib.run_next_end_at wr w.heap.size s pos ty hit hp;have HD := Lib.hid (NameSt.done hp HS.out);clear HS;by_cases h0 : s.size = 0
    · have f0 : s.toList.isEmpty = true := by rw [ByteArray.toList_eq, List.isEmpty_iff]; exact List.eq_nil_of_length_eq_zero (by simpa using h0)
      have HF : Hid (E = false) := Lib.hid (by rw [<- HE.out, HD.out, decide_eq_false (by omega)]);clear HD;go_wp2_with fail;go_ret;exact ⟨ret_bool (by rw [HF.out]), hbw⟩
    · have f0 : s.toList.isEmpty = false := by rw [ByteArray.toList_eq, List.isEmpty_eq_false_iff]; exact list_ne s h0
      have HF : Hid (E = true) := Lib.hid (by rw [<- HE.out, HD.out, decide_eq_true h0]);clear HD h0;go_wp2_with fail;go_ret;exact ⟨ret_bool (by rw [HF.out]), hbw⟩
def SignSt (l : List UInt8) (pos : Nat) : Prop := (runesL l).all signR = (runesL (l.drop pos)).all signR
set_option maxHeartbeats 2000000 in
theorem dev_isSymbol (s : ByteArray) (w : World) (E : Bool) (b0 b1 b2 : Bool) (f0 : s.toList.isEmpty = b0) (f1 : (s.toList == [46]) = b1) (f2 : ((s.extract 0 2).toList == [47, 42]) = b2)
 (hE : E = ((runesL s.data.toList).all signR && !b0 && !b1 && !b2)) (h02 : s.size < 2 -> b2 = false) :
 Calls Tryz.prog 84 #[.string s] w fun e w' => e = .returned (.bool E) /\ Below w.heap.size w w' := by
 have HE := Lib.hid hE;have H02 := Lib.hid h02;clear hE h02;go_enter Tryz.func84, Tryz.ntmps84;go_wp2;go_loopw [2] (fun r wr => ∃ (pos : Nat), pos <= s.size /\ r = .bool false /\ wr.heap[w.heap.size]? = some (.stringIter s pos) /\ Below w.heap.size w wr /\ Hid (SignSt s.data.toList pos))
  (fun _ wr => s.size - wr.iterPos w.heap.size)
 case atStart =>
  exact ⟨0, Nat.zero_le _, rfl, by simpa using World.iter_heap w s 0, (Below.refl _ w).alloc (Nat.le_refl _) _, Lib.hid rfl⟩
 case round =>
  obtain ⟨pos, hpos, rfl, hit, hbw, HS⟩ := hrel;have hsz : w.heap.size < wr.heap.size := (Array.getElem?_eq_some_iff.1 hit).1;by_cases hp : pos < s.size
  · have hnx : ∀ ty, (Instr.next (.pointer (some ⟨w.heap.size, 0, none⟩)) true ty).run Tryz.prog wr = _ := fun ty => Lib.run_next_any_at wr w.heap.size s pos ty hit hp;have hit2 := Lib.iterAt_heap wr w.heap.size s pos (pos + (Utf8.decode s pos).2) hit;have hbw2 := Lib.below_iterAt hbw (k := w.heap.size) (Nat.le_refl _) s (pos + (Utf8.decode s pos).2);have hfit := decode_fits s pos hp;have hd := drop_runes s pos hp;have hS : (runesL s.data.toList).all signR = (decide (cls (Utf8.decode s pos).1 = 4) && (runesL (s.data.toList.drop (pos + (Utf8.decode s pos).2))).all signR) := by
     rw [show (runesL s.data.toList).all signR = _ from HS.out, hd, List.all_cons]; rfl
    clear hd HS;generalize wr.iterAt w.heap.size s (pos + (Utf8.decode s pos).2) = W2 at hnx hit2 hbw2;generalize (Utf8.decode s pos).1 = c at *;generalize (Utf8.decode s pos).2 = n at *;obtain ⟨q, hq⟩ : ∃ q, cls c = q := ⟨_, rfl⟩;have cK := fun w => dev_Class c w;rw [hq] at hS cK;have HK := Lib.hid cK;clear cK hq;obtain ⟨hf1, hf2⟩ := hfit;by_cases h1 : q = 4
    · rw [decide_eq_true h1, Bool.true_and] at hS;have HN : Hid (SignSt s.data.toList (pos + n)) := Lib.hid hS;have e1 : (q != 4) = false := by simp; omega
      clear hS h1;go_wp2_with fail;refine (HK.out _).mono ?_; rintro e w' ⟨rfl, rfl⟩;go_wp2_with fail;go_roundw
      case rel => exact ⟨pos + n, by omega, rfl, hit2, hbw2, HN⟩
      case measure =>
       simp only [World.iterPos, hit2, hit]
       omega
    · rw [decide_eq_false h1, Bool.false_and] at hS;have HF : Hid (E = false) := Lib.hid (by rw [HE.out, hS]; simp);have e1 : (q != 4) = true := by simp; omega
      clear hS h1;go_wp2_with fail;refine (HK.out _).mono ?_; rintro e w' ⟨rfl, rfl⟩;go_wp2_with fail;go_ret;exact ⟨ret_bool (by rw [HF.out]), hbw2⟩
  · have hnx : ∀ ty, (Instr.next (.pointer (some ⟨w.heap.size, 0, none⟩)) true ty).run Tryz.prog wr = _ := fun ty => Lib.run_next_end_at wr w.heap.size s pos ty hit hp;have hS : (runesL s.data.toList).all signR = true := by
     rw [show (runesL s.data.toList).all signR = _ from HS.out, List.drop_eq_nil_of_le (by simp; omega), runesL_nil]; rfl
    have hF : E = (!b0 && !b1 && !b2) := by rw [HE.out, hS]; rfl
    have HF := Lib.hid hF;clear HS hS hF;have h2 : (s.size : Int) < 2 \/ (2 : Int) <= (s.size : Int) := by omega
    rcases h2 with h2 | h2
    · have hb2 := H02.out (by omega);subst hb2;cases b0
      all_goals
       cases b1
       all_goals
        go_wp2_with fail;go_ret;exact ⟨ret_bool (by rw [HF.out]; first | rfl | (simp; omega)), hbw⟩
    · cases b0
      all_goals
       cases b1
       all_goals
        cases b2
        all_goals
         go_wp2_with fail;go_ret;exact ⟨ret_bool (by rw [HF.out]; first | rfl | (simp; omega)), hbw⟩
set_option maxHeartbeats 1000000 in
theorem char_Check (s : ByteArray) (w : World) (hs : s.size <= maxLen) (hT : Tabs w) :
 Calls Tryz.prog 61 #[.string s] w fun e w' => e = .returned (.bool (checkL s.data.toList)) /\ Below w.heap.size w w' := by
 have hs1 : s.size <= 9223372036854775807 := by unfold maxLen at hs; omega
 clear hs;have hl : s.data.toList.length = s.size := by simp
 have cV := Lib.hid (utf8_Valid s w hs1 hT);unfold checkL;rw [hl];clear hl hT;by_cases h : s.size <= 255
 · rw [decide_eq_true h, Bool.true_and];go_enter Tryz.func61, Tryz.ntmps61;go_wp2_with fail;refine cV.out.mono ?_; rintro e w1 ⟨rfl, hb⟩;go_wp2_with fail;go_ret;exact ⟨rfl, hb⟩
 · rw [decide_eq_false h, Bool.false_and];have h' : 255 < s.size := by omega
   clear h;go_enter Tryz.func61, Tryz.ntmps61;go_wp2_with fail;go_ret;exact ⟨rfl, Below.refl _ _⟩
theorem head_rune (b : UInt8) (t : List UInt8) (hb : b.toNat < 128) : (runesL (b :: t)).headD 0 = (b.toNat : Int) := by
 rw [runesL_cons _ (by simp), List.headD_cons];rw [Lib.decodeL_ascii b t hb]
theorem nameAll_no (b : UInt8) (t : List UInt8) (hb : b.toNat < 128) (hc : cls (b.toNat : Int) ≠ 1) : nameAll (runesL (b :: t)) = false := by
 unfold nameAll;rw [head_rune b t hb, decide_eq_false hc, Bool.false_and]
theorem bare_dev {l : List UInt8} (hc : checkL l = true) (h3 : l ≠ [91, 93]) (h4 : l ≠ [123, 125]) (h5 : l ≠ [33]) (h6 : l ≠ [59]) :
 bareL l = (nameAll (runesL l) || ((runesL l).all signR && !l.isEmpty && !(l == [46]) && !(l.take 2 == [47, 42]))) := by
 by_cases h0 : l = []
 · rw [bare_no (.inr (.inl h0)), h0, runesL_nil, nameAll_nil]; rfl
 by_cases h1 : l = [46]
 · rw [bare_no (.inr (.inr (.inl h1))), h1, nameAll_no 46 [] (by decide) (by decide)]; simp
 by_cases h2 : l.take 2 = [47, 42]
 · rw [bare_no (.inr (.inr (.inr h2))), h2];have hn : nameAll (runesL l) = false := by
    match l, h2 with
    | a :: t, h2 =>
     have ha : a = 47 := by cases t <;> simp at h2; exact h2.1
     subst ha;exact nameAll_no 47 t (by decide) (by decide)
   rw [hn]; simp
 rw [bare_rest hc h0 h1 h2 h3 h4 h5 h6];have g0 : l.isEmpty = false := by rw [List.isEmpty_eq_false_iff]; exact h0
 have g1 : (l == [46]) = false := by simpa using h1
 have g2 : (l.take 2 == [47, 42]) = false := by simpa using h2
 rw [g0, g1, g2]; simp
set_option maxHeartbeats 2000000 in
theorem dev_Bare_core (s : ByteArray) (w : World) (ck b3 b4 b5 b6 nm sy r : Bool) (hT : Tabs w)
 (cC : ∀ w, Tabs w -> Calls Tryz.prog 61 #[.string s] w fun e w' => e = .returned (.bool ck) /\ Below w.heap.size w w')
 (cN : ∀ w, Calls Tryz.prog 83 #[.string s] w fun e w' => e = .returned (.bool nm) /\ Below w.heap.size w w')
 (cS : ∀ w, Calls Tryz.prog 84 #[.string s] w fun e w' => e = .returned (.bool sy) /\ Below w.heap.size w w')
 (f3 : (s.toList == [91, 93]) = b3) (f4 : (s.toList == [123, 125]) = b4) (f5 : (s.toList == [33]) = b5) (f6 : (s.toList == [59]) = b6)
 (h : (ck = false /\ r = false) \/ (ck = true /\ b3 = true /\ r = true) \/ (ck = true /\ b3 = false /\ b4 = true /\ r = true) \/ (ck = true /\ b3 = false /\ b4 = false /\ b5 = true /\ r = true) \/ (ck = true /\ b3 = false /\ b4 = false /\ b5 = false /\ b6 = true /\ r = true) \/
   (ck = true /\ b3 = false /\ b4 = false /\ b5 = false /\ b6 = false /\ r = (nm || sy))) :
 Calls Tryz.prog 64 #[.string s] w fun e w' => e = .returned (.bool r) /\ Below w.heap.size w w' := by
 have HT := Lib.hid hT;have HC := Lib.hid cC;have HN := Lib.hid cN;have HS := Lib.hid cS;clear hT cC cN cS;rcases h with ⟨rfl, rfl⟩ | ⟨rfl, rfl, rfl⟩ | ⟨rfl, rfl, rfl, rfl⟩ | ⟨rfl, rfl, rfl, rfl, rfl⟩ | ⟨rfl, rfl, rfl, rfl, rfl, rfl⟩ | ⟨rfl, rfl, rfl, rfl, rfl, rfl⟩
 iterate 5
  · go_enter Tryz.func64, Tryz.ntmps64;go_wp2_with fail;refine (HC.out _ HT.out).mono ?_; rintro e w1 ⟨rfl, hb1⟩;go_wp2_with fail;go_ret;exact ⟨rfl, hb1⟩
 cases nm
 · go_enter Tryz.func64, Tryz.ntmps64;go_wp2_with fail;refine (HC.out _ HT.out).mono ?_; rintro e w1 ⟨rfl, hb1⟩;go_wp2_with fail;refine (HN.out _).mono ?_; rintro e w2 ⟨rfl, hb2⟩;have hb := hb1.trans (hb2.mono hb1.size);clear hb1 hb2;go_wp2_with fail;refine (HS.out _).mono ?_; rintro e w3 ⟨rfl, hb3⟩;have hbb := hb.trans (hb3.mono hb.size);clear hb hb3;go_wp2_with fail;go_ret;exact ⟨rfl, hbb⟩
 · go_enter Tryz.func64, Tryz.ntmps64;go_wp2_with fail;refine (HC.out _ HT.out).mono ?_; rintro e w1 ⟨rfl, hb1⟩;go_wp2_with fail;refine (HN.out _).mono ?_; rintro e w2 ⟨rfl, hb2⟩;have hb := hb1.trans (hb2.mono hb1.size);clear hb1 hb2;go_wp2_with fail;go_ret;exact ⟨rfl, hb⟩
theorem char_Bare (s : ByteArray) (w : World) (hs : s.size <= maxLen) (hT : Tabs w) :
 Calls Tryz.prog 64 #[.string s] w fun e w' => e = .returned (.bool (bareL s.data.toList)) /\ Below w.heap.size w w' := by
 have hl : s.data.toList.length = s.size := by simp
 have ht := ByteArray.toList_eq s;have ht2 := take2 s;have h02 : s.size < 2 -> ((s.extract 0 2).toList == [47, 42]) = false := fun h => by
  rw [ht2, beq_eq_false_iff_ne];intro h2;have := congrArg List.length h2;simp at this
  omega
 have core := fun r h => dev_Bare_core s w (checkL s.data.toList) _ _ _ _ _ _ r hT (fun w h => char_Check s w hs h) (fun w => dev_isName s w) (fun w => dev_isSymbol s w _ _ _ _ rfl rfl rfl rfl h02) rfl rfl rfl rfl h;rw [ht, ht2] at core;clear h02;generalize s.data.toList = l at *;by_cases hck : checkL l = true
 · by_cases h3 : l = [91, 93]
   · rw [bare_yes hck (.inl h3)];exact core true (.inr (.inl ⟨hck, by rw [h3]; rfl, rfl⟩))
   have g3 : (l == [91, 93]) = false := by simpa using h3
   by_cases h4 : l = [123, 125]
   · rw [bare_yes hck (.inr (.inl h4))];exact core true (.inr (.inr (.inl ⟨hck, g3, by rw [h4]; rfl, rfl⟩)))
   have g4 : (l == [123, 125]) = false := by simpa using h4
   by_cases h5 : l = [33]
   · rw [bare_yes hck (.inr (.inr (.inl h5)))];exact core true (.inr (.inr (.inr (.inl ⟨hck, g3, g4, by rw [h5]; rfl, rfl⟩))))
   have g5 : (l == [33]) = false := by simpa using h5
   by_cases h6 : l = [59]
   · rw [bare_yes hck (.inr (.inr (.inr h6)))];exact core true (.inr (.inr (.inr (.inr (.inl ⟨hck, g3, g4, g5, by rw [h6]; rfl, rfl⟩)))))
   have g6 : (l == [59]) = false := by simpa using h6
   exact core _ (.inr (.inr (.inr (.inr (.inr ⟨hck, g3, g4, g5, g6, bare_dev hck h3 h4 h5 h6⟩)))))
 · have hck' : checkL l = false := by simpa using hck
   rw [bare_no (.inl hck')];exact core false (.inl ⟨hck', rfl⟩)
end Go.Proofs.YtdjejbgokamjeaaGreatDoor
