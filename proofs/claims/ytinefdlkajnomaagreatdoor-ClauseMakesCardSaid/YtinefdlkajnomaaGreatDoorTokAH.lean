import Derived.Test.YtinefdlkajnomaaGreatDoorCharDJ
import Derived.Test.YtinefdlkajnomaaGreatDoorTkM
import Derived.Test.YtinefdlkajnomaaGreatDoorShelf2
import Derived.Lib.CutLaws
import Derived.Laws.AppendOwn
import Derived.Laws.OwnMore
import Derived.Deep.AppendLies
namespace Go.Proofs.YtinefdlkajnomaaGreatDoor
open Go.RowKit
theorem ret_intT {a b : Int} (h : a = b) : Ending.returned (.int .i64 a) = .returned (.int .i64 b) := by rw [h]
theorem ret_boolT {a b : Bool} (h : a = b) : Ending.returned (.bool a) = .returned (.bool b) := by rw [h]
set_option maxHeartbeats 1000000 in
theorem tok_word1 (c : Int) (w : World) : Calls Tryz.prog 133 #[.int .i32 c] w fun e w' => e = .returned (.bool (nameR c)) /\ w = w' := by
 have HC := Lib.hid (dev_Class c w);obtain ⟨E, hE⟩ : ∃ E, nameR c = E := ⟨_, rfl⟩;rw [hE];unfold nameR at hE;generalize cls c = q at *;have HE := Lib.hid hE;clear hE;have hq : q = 1 \/ q = 2 \/ q = 3 \/ ((q == 1) = false /\ (q == 2) = false /\ (q == 3) = false) := by
  by_cases h1 : q = 1
  · exact .inl h1
  by_cases h2 : q = 2
  · exact .inr (.inl h2)
  by_cases h3 : q = 3
  · exact .inr (.inr (.inl h3))
  exact .inr (.inr (.inr ⟨by simpa using h1, by simpa using h2, by simpa using h3⟩))
 rcases hq with rfl | rfl | rfl | ⟨e1, e2, e3⟩
 iterate 3
  · go_enter Tryz.func133, Tryz.ntmps133;go_wp2_with fail;refine HC.out.mono ?_; rintro e w' ⟨rfl, rfl⟩;go_wp2_with fail;go_ret;exact ⟨ret_boolT (by rw [<- HE.out]; decide), rfl⟩
 · have HV : Hid (E = false) := Lib.hid (by rw [<- HE.out, decide_eq_false_iff_not]; simp at e1 e2 e3; omega);go_enter Tryz.func133, Tryz.ntmps133;go_wp2_with fail;refine HC.out.mono ?_; rintro e w' ⟨rfl, rfl⟩;go_wp2_with fail;go_ret;exact ⟨ret_boolT HV.out.symm, rfl⟩
set_option maxHeartbeats 1000000 in
theorem tok_number1 (c : Int) (w : World) : Calls Tryz.prog 135 #[.int .i32 c] w fun e w' => e = .returned (.bool (digR c)) /\ w = w' := by
 have HC := Lib.hid (dev_Class c w);obtain ⟨E, hE⟩ : ∃ E, digR c = E := ⟨_, rfl⟩;rw [hE];unfold digR at hE;generalize cls c = q at *;have HE := Lib.hid hE;clear hE;go_enter Tryz.func135, Tryz.ntmps135;go_wp2_with fail;refine HC.out.mono ?_; rintro e w' ⟨rfl, rfl⟩;go_wp2_with fail;go_ret;exact ⟨ret_boolT (by rw [<- HE.out, Bool.eq_iff_iff]; simp), rfl⟩
set_option maxHeartbeats 1000000 in
theorem tok_signs1 (c : Int) (w : World) : Calls Tryz.prog 139 #[.int .i32 c] w fun e w' => e = .returned (.bool (signR c)) /\ w = w' := by
 have HC := Lib.hid (dev_Class c w);obtain ⟨E, hE⟩ : ∃ E, signR c = E := ⟨_, rfl⟩;rw [hE];unfold signR at hE;generalize cls c = q at *;have HE := Lib.hid hE;clear hE;go_enter Tryz.func139, Tryz.ntmps139;go_wp2_with fail;refine HC.out.mono ?_; rintro e w' ⟨rfl, rfl⟩;go_wp2_with fail;go_ret;exact ⟨ret_boolT (by rw [<- HE.out, Bool.eq_iff_iff]; simp), rfl⟩
set_option maxHeartbeats 1000000 in
theorem tok_line1 (c : Int) (w : World) : Calls Tryz.prog 142 #[.int .i32 c] w fun e w' => e = .returned (.bool (lineR c)) /\ w = w' := by
 obtain ⟨E, hE⟩ : ∃ E, lineR c = E := ⟨_, rfl⟩;rw [hE];unfold lineR at hE;have HE := Lib.hid hE;clear hE;go_enter Tryz.func142, Tryz.ntmps142;go_wp2_with fail;go_ret;exact ⟨ret_boolT (by rw [<- HE.out, Bool.eq_iff_iff]; simp), rfl⟩
theorem span_drop (P : Int -> Bool) (hi : Bool) (hP : ∀ c : Int, 128 <= c -> P c = hi) (s : ByteArray) (pos : Nat) (hp : pos < s.size) :
 spanL P (s.data.toList.drop pos) = if P ((Utf8.decode s pos).1 : Int) = true then (Utf8.decode s pos).2 + spanL P (s.data.toList.drop (pos + (Utf8.decode s pos).2)) else 0 := by
 have hne : s.data.toList.drop pos ≠ [] := fun e => by
  have h1 := congrArg List.length e;rw [List.length_drop] at h1;simp at h1
  omega
 rw [spanL_step P hi hP _ hne, Lib.decodeL_drop, List.drop_drop]
set_option maxHeartbeats 2000000 in
theorem tok_span_word1 (s : ByteArray) (w : World) :
 Calls Tryz.prog 132 #[.string s, .func (.func 133) #[] #[]] w fun e w' => e = .returned (.int .i64 (spanL nameR s.data.toList : Nat)) /\ Below w.heap.size w w' := by
 obtain ⟨E, hE⟩ : ∃ E : Nat, spanL nameR s.data.toList = E := ⟨_, rfl⟩;rw [hE];have HE := Lib.hid hE;clear hE;go_enter Tryz.func132, Tryz.ntmps132;go_wp2;go_loopw [4] (fun r wr => ∃ (pos : Nat), pos <= s.size /\ r = .int .i64 0 /\ wr.heap[w.heap.size]? = some (.stringIter s pos) /\ Below w.heap.size w wr /\ Hid (E = pos + spanL nameR (s.data.toList.drop pos)))
  (fun _ wr => s.size - wr.iterPos w.heap.size)
 case atStart =>
  exact ⟨0, Nat.zero_le _, rfl, by simpa using World.iter_heap w s 0, (Below.refl _ w).alloc (Nat.le_refl _) _, Lib.hid (by rw [List.drop_zero, HE.out]; omega)⟩
 case round =>
  obtain ⟨pos, hpos, rfl, hit, hbw, HS⟩ := hrel;have hsz : w.heap.size < wr.heap.size := (Array.getElem?_eq_some_iff.1 hit).1;by_cases hp : pos < s.size
  · have hnx : ∀ ty, (Instr.next (.pointer (some ⟨w.heap.size, 0, none⟩)) true ty).run Tryz.prog wr = _ := fun ty => Lib.run_next_any_at wr w.heap.size s pos ty hit hp;have hit2 := Lib.iterAt_heap wr w.heap.size s pos (pos + (Utf8.decode s pos).2) hit;have hbw2 := Lib.below_iterAt hbw (k := w.heap.size) (Nat.le_refl _) s (pos + (Utf8.decode s pos).2);have hfit := decode_fits s pos hp;have hd := span_drop nameR false nameR_high s pos hp;have HSt := HS.out;rw [hd] at HSt;clear hd HS;generalize wr.iterAt w.heap.size s (pos + (Utf8.decode s pos).2) = W2 at hnx hit2 hbw2;generalize (Utf8.decode s pos).1 = c at *;generalize (Utf8.decode s pos).2 = n at *;have cK := fun w => tok_word1 c w;obtain ⟨hf1, hf2⟩ := hfit;cases hb : nameR (c : Int) with
    | true =>
     rw [hb] at HSt cK;rw [if_pos rfl] at HSt;have HK := Lib.hid cK;have HN : Hid (E = (pos + n : Nat) + spanL nameR (s.data.toList.drop (pos + n))) := Lib.hid (by omega);clear HSt cK hb;go_wp2_with fail;refine (HK.out _).mono ?_; rintro e w' ⟨rfl, rfl⟩;go_wp2_with fail;go_roundw
     case rel => exact ⟨pos + n, by omega, rfl, hit2, hbw2, HN⟩
     case measure =>
      simp only [World.iterPos, hit2, hit]
      omega
    | false =>
     rw [hb] at HSt cK;rw [if_neg (by decide)] at HSt;have HK := Lib.hid cK;have HN : Hid ((E : Int) = pos) := Lib.hid (by omega);clear HSt cK hb;go_wp2_with fail;refine (HK.out _).mono ?_; rintro e w' ⟨rfl, rfl⟩;go_wp2_with fail;go_ret;exact ⟨ret_intT HN.out.symm, hbw2⟩
  · have hnx : ∀ ty, (Instr.next (.pointer (some ⟨w.heap.size, 0, none⟩)) true ty).run Tryz.prog wr = _ := fun ty => Lib.run_next_end_at wr w.heap.size s pos ty hit hp;have hS := HS.out;rw [List.drop_eq_nil_of_le (by simp; omega)] at hS;have HN : Hid ((E : Int) = s.size) := Lib.hid (by rw [hS]; show ((pos + 0 : Nat) : Int) = _; omega);clear hS HS;go_wp2_with fail;go_ret;exact ⟨ret_intT HN.out.symm, hbw⟩
set_option maxHeartbeats 2000000 in
theorem tok_span_number1 (s : ByteArray) (w : World) :
 Calls Tryz.prog 132 #[.string s, .func (.func 135) #[] #[]] w fun e w' => e = .returned (.int .i64 (spanL digR s.data.toList : Nat)) /\ Below w.heap.size w w' := by
 obtain ⟨E, hE⟩ : ∃ E : Nat, spanL digR s.data.toList = E := ⟨_, rfl⟩;rw [hE];have HE := Lib.hid hE;clear hE;go_enter Tryz.func132, Tryz.ntmps132;go_wp2;go_loopw [4] (fun r wr => ∃ (pos : Nat), pos <= s.size /\ r = .int .i64 0 /\ wr.heap[w.heap.size]? = some (.stringIter s pos) /\ Below w.heap.size w wr /\ Hid (E = pos + spanL digR (s.data.toList.drop pos)))
  (fun _ wr => s.size - wr.iterPos w.heap.size)
 case atStart =>
  exact ⟨0, Nat.zero_le _, rfl, by simpa using World.iter_heap w s 0, (Below.refl _ w).alloc (Nat.le_refl _) _, Lib.hid (by rw [List.drop_zero, HE.out]; omega)⟩
 case round =>
  obtain ⟨pos, hpos, rfl, hit, hbw, HS⟩ := hrel;have hsz : w.heap.size < wr.heap.size := (Array.getElem?_eq_some_iff.1 hit).1;by_cases hp : pos < s.size
  · have hnx : ∀ ty, (Instr.next (.pointer (some ⟨w.heap.size, 0, none⟩)) true ty).run Tryz.prog wr = _ := fun ty => Lib.run_next_any_at wr w.heap.size s pos ty hit hp;have hit2 := Lib.iterAt_heap wr w.heap.size s pos (pos + (Utf8.decode s pos).2) hit;have hbw2 := Lib.below_iterAt hbw (k := w.heap.size) (Nat.le_refl _) s (pos + (Utf8.decode s pos).2);have hfit := decode_fits s pos hp;have hd := span_drop digR false digR_high s pos hp;have HSt := HS.out;rw [hd] at HSt;clear hd HS;generalize wr.iterAt w.heap.size s (pos + (Utf8.decode s pos).2) = W2 at hnx hit2 hbw2;generalize (Utf8.decode s pos).1 = c at *;generalize (Utf8.decode s pos).2 = n at *;have cK := fun w => tok_number1 c w;obtain ⟨hf1, hf2⟩ := hfit;cases hb : digR (c : Int) with
    | true =>
     rw [hb] at HSt cK;rw [if_pos rfl] at HSt;have HK := Lib.hid cK;have HN : Hid (E = (pos + n : Nat) + spanL digR (s.data.toList.drop (pos + n))) := Lib.hid (by omega);clear HSt cK hb;go_wp2_with fail;refine (HK.out _).mono ?_; rintro e w' ⟨rfl, rfl⟩;go_wp2_with fail;go_roundw
     case rel => exact ⟨pos + n, by omega, rfl, hit2, hbw2, HN⟩
     case measure =>
      simp only [World.iterPos, hit2, hit]
      omega
    | false =>
     rw [hb] at HSt cK;rw [if_neg (by decide)] at HSt;have HK := Lib.hid cK;have HN : Hid ((E : Int) = pos) := Lib.hid (by omega);clear HSt cK hb;go_wp2_with fail;refine (HK.out _).mono ?_; rintro e w' ⟨rfl, rfl⟩;go_wp2_with fail;go_ret;exact ⟨ret_intT HN.out.symm, hbw2⟩
  · have hnx : ∀ ty, (Instr.next (.pointer (some ⟨w.heap.size, 0, none⟩)) true ty).run Tryz.prog wr = _ := fun ty => Lib.run_next_end_at wr w.heap.size s pos ty hit hp;have hS := HS.out;rw [List.drop_eq_nil_of_le (by simp; omega)] at hS;have HN : Hid ((E : Int) = s.size) := Lib.hid (by rw [hS]; show ((pos + 0 : Nat) : Int) = _; omega);clear hS HS;go_wp2_with fail;go_ret;exact ⟨ret_intT HN.out.symm, hbw⟩
set_option maxHeartbeats 2000000 in
theorem tok_span_signs1 (s : ByteArray) (w : World) :
 Calls Tryz.prog 132 #[.string s, .func (.func 139) #[] #[]] w fun e w' => e = .returned (.int .i64 (spanL signR s.data.toList : Nat)) /\ Below w.heap.size w w' := by
 obtain ⟨E, hE⟩ : ∃ E : Nat, spanL signR s.data.toList = E := ⟨_, rfl⟩;rw [hE];have HE := Lib.hid hE;clear hE;go_enter Tryz.func132, Tryz.ntmps132;go_wp2;go_loopw [4] (fun r wr => ∃ (pos : Nat), pos <= s.size /\ r = .int .i64 0 /\ wr.heap[w.heap.size]? = some (.stringIter s pos) /\ Below w.heap.size w wr /\ Hid (E = pos + spanL signR (s.data.toList.drop pos)))
  (fun _ wr => s.size - wr.iterPos w.heap.size)
 case atStart =>
  exact ⟨0, Nat.zero_le _, rfl, by simpa using World.iter_heap w s 0, (Below.refl _ w).alloc (Nat.le_refl _) _, Lib.hid (by rw [List.drop_zero, HE.out]; omega)⟩
 case round =>
  obtain ⟨pos, hpos, rfl, hit, hbw, HS⟩ := hrel;have hsz : w.heap.size < wr.heap.size := (Array.getElem?_eq_some_iff.1 hit).1;by_cases hp : pos < s.size
  · have hnx : ∀ ty, (Instr.next (.pointer (some ⟨w.heap.size, 0, none⟩)) true ty).run Tryz.prog wr = _ := fun ty => Lib.run_next_any_at wr w.heap.size s pos ty hit hp;have hit2 := Lib.iterAt_heap wr w.heap.size s pos (pos + (Utf8.decode s pos).2) hit;have hbw2 := Lib.below_iterAt hbw (k := w.heap.size) (Nat.le_refl _) s (pos + (Utf8.decode s pos).2);have hfit := decode_fits s pos hp;have hd := span_drop signR false signR_high s pos hp;have HSt := HS.out;rw [hd] at HSt;clear hd HS;generalize wr.iterAt w.heap.size s (pos + (Utf8.decode s pos).2) = W2 at hnx hit2 hbw2;generalize (Utf8.decode s pos).1 = c at *;generalize (Utf8.decode s pos).2 = n at *;have cK := fun w => tok_signs1 c w;obtain ⟨hf1, hf2⟩ := hfit;cases hb : signR (c : Int) with
    | true =>
     rw [hb] at HSt cK;rw [if_pos rfl] at HSt;have HK := Lib.hid cK;have HN : Hid (E = (pos + n : Nat) + spanL signR (s.data.toList.drop (pos + n))) := Lib.hid (by omega);clear HSt cK hb;go_wp2_with fail;refine (HK.out _).mono ?_; rintro e w' ⟨rfl, rfl⟩;go_wp2_with fail;go_roundw
     case rel => exact ⟨pos + n, by omega, rfl, hit2, hbw2, HN⟩
     case measure =>
      simp only [World.iterPos, hit2, hit]
      omega
    | false =>
     rw [hb] at HSt cK;rw [if_neg (by decide)] at HSt;have HK := Lib.hid cK;have HN : Hid ((E : Int) = pos) := Lib.hid (by omega);clear HSt cK hb;go_wp2_with fail;refine (HK.out _).mono ?_; rintro e w' ⟨rfl, rfl⟩;go_wp2_with fail;go_ret;exact ⟨ret_intT HN.out.symm, hbw2⟩
  · have hnx : ∀ ty, (Instr.next (.pointer (some ⟨w.heap.size, 0, none⟩)) true ty).run Tryz.prog wr = _ := fun ty => Lib.run_next_end_at wr w.heap.size s pos ty hit hp;have hS := HS.out;rw [List.drop_eq_nil_of_le (by simp; omega)] at hS;have HN : Hid ((E : Int) = s.size) := Lib.hid (by rw [hS]; show ((pos + 0 : Nat) : Int) = _; omega);clear hS HS;go_wp2_with fail;go_ret;exact ⟨ret_intT HN.out.symm, hbw⟩
set_option maxHeartbeats 2000000 in
theorem tok_span_line1 (s : ByteArray) (w : World) :
 Calls Tryz.prog 132 #[.string s, .func (.func 142) #[] #[]] w fun e w' => e = .returned (.int .i64 (spanL lineR s.data.toList : Nat)) /\ Below w.heap.size w w' := by
 obtain ⟨E, hE⟩ : ∃ E : Nat, spanL lineR s.data.toList = E := ⟨_, rfl⟩;rw [hE];have HE := Lib.hid hE;clear hE;go_enter Tryz.func132, Tryz.ntmps132;go_wp2;go_loopw [4] (fun r wr => ∃ (pos : Nat), pos <= s.size /\ r = .int .i64 0 /\ wr.heap[w.heap.size]? = some (.stringIter s pos) /\ Below w.heap.size w wr /\ Hid (E = pos + spanL lineR (s.data.toList.drop pos)))
  (fun _ wr => s.size - wr.iterPos w.heap.size)
 case atStart =>
  exact ⟨0, Nat.zero_le _, rfl, by simpa using World.iter_heap w s 0, (Below.refl _ w).alloc (Nat.le_refl _) _, Lib.hid (by rw [List.drop_zero, HE.out]; omega)⟩
 case round =>
  obtain ⟨pos, hpos, rfl, hit, hbw, HS⟩ := hrel;have hsz : w.heap.size < wr.heap.size := (Array.getElem?_eq_some_iff.1 hit).1;by_cases hp : pos < s.size
  · have hnx : ∀ ty, (Instr.next (.pointer (some ⟨w.heap.size, 0, none⟩)) true ty).run Tryz.prog wr = _ := fun ty => Lib.run_next_any_at wr w.heap.size s pos ty hit hp;have hit2 := Lib.iterAt_heap wr w.heap.size s pos (pos + (Utf8.decode s pos).2) hit;have hbw2 := Lib.below_iterAt hbw (k := w.heap.size) (Nat.le_refl _) s (pos + (Utf8.decode s pos).2);have hfit := decode_fits s pos hp;have hd := span_drop lineR true lineR_high s pos hp;have HSt := HS.out;rw [hd] at HSt;clear hd HS;generalize wr.iterAt w.heap.size s (pos + (Utf8.decode s pos).2) = W2 at hnx hit2 hbw2;generalize (Utf8.decode s pos).1 = c at *;generalize (Utf8.decode s pos).2 = n at *;have cK := fun w => tok_line1 c w;obtain ⟨hf1, hf2⟩ := hfit;cases hb : lineR (c : Int) with
    | true =>
     rw [hb] at HSt cK;rw [if_pos rfl] at HSt;have HK := Lib.hid cK;have HN : Hid (E = (pos + n : Nat) + spanL lineR (s.data.toList.drop (pos + n))) := Lib.hid (by omega);clear HSt cK hb;go_wp2_with fail;refine (HK.out _).mono ?_; rintro e w' ⟨rfl, rfl⟩;go_wp2_with fail;go_roundw
     case rel => exact ⟨pos + n, by omega, rfl, hit2, hbw2, HN⟩
     case measure =>
      simp only [World.iterPos, hit2, hit]
      omega
    | false =>
     rw [hb] at HSt cK;rw [if_neg (by decide)] at HSt;have HK := Lib.hid cK;have HN : Hid ((E : Int) = pos) := Lib.hid (by omega);clear HSt cK hb;go_wp2_with fail;refine (HK.out _).mono ?_; rintro e w' ⟨rfl, rfl⟩;go_wp2_with fail;go_ret;exact ⟨ret_intT HN.out.symm, hbw2⟩
  · have hnx : ∀ ty, (Instr.next (.pointer (some ⟨w.heap.size, 0, none⟩)) true ty).run Tryz.prog wr = _ := fun ty => Lib.run_next_end_at wr w.heap.size s pos ty hit hp;have hS := HS.out;rw [List.drop_eq_nil_of_le (by simp; omega)] at hS;have HN : Hid ((E : Int) = s.size) := Lib.hid (by rw [hS]; show ((pos + 0 : Nat) : Int) = _; omega);clear hS HS;go_wp2_with fail;go_ret;exact ⟨ret_intT HN.out.symm, hbw⟩
def TabsT (w : World) : Prop := Tabs w /\ ∃ m, w.cell? ⟨2, 0, none⟩ = some (.int .i64 m)
theorem TabsT.on {w w' : World} (h : TabsT w) (hb : Below w.heap.size w w') : TabsT w' := by
 obtain ⟨h, m, h4⟩ := h;exact ⟨h.on hb, m, by rw [<- h4]; exact hb.cell (p := ⟨_, _, none⟩) (cell_in h4)⟩
def lxv (x : Lx) : Value := .agg #[.int .i64 x.kind, .string ⟨x.text.toArray⟩, .int .i64 x.n, .int .i64 0]
def lxr (x : Lx) : Value := .tuple #[lxv x, .int .i64 (x.w : Nat)]
theorem ext_take (s : ByteArray) (n : Nat) : s.extract 0 n = ⟨(s.data.toList.take n).toArray⟩ := by
 rw [Lib.extract_eq]; simp
theorem ext_drop (s : ByteArray) (n : Nat) : s.extract n s.size = ⟨(s.data.toList.drop n).toArray⟩ := by
 rw [Lib.extract_eq];congr 1
 rw [List.take_of_length_le (by rw [List.length_drop]; simp)]
theorem size_listT (s : ByteArray) : s.data.toList.length = s.size := by simp
theorem size_mk (l : List UInt8) : (⟨l.toArray⟩ : ByteArray).size = l.length := by show l.toArray.size = _; simp
theorem kept_at {w w1 : World} {q : Nat} {o : Obj} (hb : Below w.heap.size w w1) (hq : w.heap[q]? = some o) : w1.heap[q]? = some o := (hb.block q (Array.getElem?_eq_some_iff.1 hq).1).trans hq
theorem new_at (w : World) (o : Obj) : (w.alloc o).heap[w.heap.size]? = some o := by unfold World.alloc; simp
theorem past_at {w : World} {q : Nat} {o : Obj} (hq : w.heap[q]? = some o) (o2 : Obj) : (w.alloc o2).heap[q]? = some o := (Below.heap_alloc w o2 q (Array.getElem?_eq_some_iff.1 hq).1).trans hq
def tcell (k : Int) (t : List UInt8) (n at_ : Int) : Obj := .cells #[.int .i64 k, .string ⟨t.toArray⟩, .int .i64 n, .int .i64 at_] 96 (0, 0)
def zcell : Obj := .cells #[.int .i64 0, .string ⟨#[]⟩, .int .i64 0, .int .i64 0] 96 (0, 0)
theorem below_set4 {B : Nat} {a w : World} (h : Below B a w) {q : Nat} (hB : B <= q) (v0 v1 v2 v3 : Value) : Below B a ((((w.setCell ⟨q, 0, none⟩ v0).setCell ⟨q, 1, none⟩ v1).setCell ⟨q, 2, none⟩ v2).setCell ⟨q, 3, none⟩ v3) :=
 (((h.setCell (p := ⟨q, 0, none⟩) hB v0).setCell (p := ⟨q, 1, none⟩) hB v1).setCell (p := ⟨q, 2, none⟩) hB v2).setCell (p := ⟨q, 3, none⟩) hB v3
set_option maxHeartbeats 1000000 in
theorem tok_word (s : ByteArray) (k : Int) (w : World) :
 Calls Tryz.prog 109 #[.string s, .int .i64 k] w fun e w' => e = .returned (lxr (wordL k s.data.toList)) /\ Below w.heap.size w w' := by
 have HS := Lib.hid (fun W => tok_span_word1 s W);have hle := spanL_le nameR s.data.toList;rw [size_listT] at hle;have HX := Lib.hid (ext_take s);have HB := Lib.hid (fun o : Obj => (Below.refl w.heap.size w).alloc (Nat.le_refl _) o);unfold lxr lxv wordL;dsimp only;generalize spanL nameR s.data.toList = n at *;go_enter Tryz.func109, Tryz.ntmps109;go_wp2_with fail;refine (HS.out _).mono ?_; rintro e w1 ⟨rfl, hb⟩;obtain ⟨c0, c1, c2, c3, f0, f1, f2, f3⟩ := cells4 (kept_at hb (new_at w _));have hbw := (HB.out _).trans (hb.mono (by simp));clear hb;go_wp2_with fail;refine bodyPost_ret (v := .tuple #[.agg #[.int .i64 k, .string (s.extract 0 n), .int .i64 0, .int .i64 0], .int .i64 (n : Nat)]) (by simp [results, Tryz.results109, go_sem, c0, c1, c2, c3]) rfl ⟨by rw [HX.out], below_set4 hbw (Nat.le_refl _) _ _ _ _⟩
set_option maxHeartbeats 1000000 in
theorem tok_named (x : Lx) (w : World) (hs : x.text.length <= maxLen) (hT : TabsT w) :
 Calls Tryz.prog 108 #[lxv x, .int .i64 (x.w : Nat)] w fun e w' => e = .returned (lxr (namedL x)) /\ Below w.heap.size w w' := by
 obtain ⟨k, t, n, m⟩ := x;have hs' : (⟨t.toArray⟩ : ByteArray).size <= maxLen := by rw [size_mk]; exact hs
 have HC := Lib.hid (fun W (h : TabsT W) => char_Check ⟨t.toArray⟩ W hs' h.1);have hl : (⟨t.toArray⟩ : ByteArray).data.toList = t := by simp
 rw [hl] at HC;have HB := Lib.hid (fun o o2 : Obj => ((Below.refl w.heap.size w).alloc (Nat.le_refl _) o).alloc (by simp) o2);have HT := Lib.hid (fun o o2 : Obj => hT.on (((Below.refl w.heap.size w).alloc (Nat.le_refl _) o).alloc (by simp) o2));clear hs hs' hl hT;unfold lxr lxv namedL;dsimp only;cases hc : checkL t with
 | true =>
  rw [hc] at HC;rw [if_pos rfl];go_enter Tryz.func108, Tryz.ntmps108;go_wp2_with fail;refine (HC.out _ (HT.out _ _)).mono ?_; rintro e w1 ⟨rfl, hb⟩;obtain ⟨c0, c1, c2, c3, f0, f1, f2, f3⟩ := cells4 (kept_at hb (past_at (new_at w _) _));have hz := cells4 (kept_at hb (new_at (w.alloc _) _));rw [World.size_alloc] at hz;obtain ⟨d0, d1, d2, d3, g0, g1, g2, g3⟩ := hz;have hbw := (HB.out _ _).trans (hb.mono (by simp; omega));clear hb f0 f1 f2 f3;go_wp2_with fail;refine bodyPost_ret (v := .tuple #[.agg #[.int .i64 k, .string ⟨t.toArray⟩, .int .i64 n, .int .i64 0], .int .i64 (m : Nat)]) (by simp [results, Tryz.results108, go_sem, d0, d1, d2, d3]) rfl ⟨rfl, below_set4 hbw (by omega) _ _ _ _⟩
 | false =>
  rw [hc] at HC;rw [if_neg (by decide)];go_enter Tryz.func108, Tryz.ntmps108;go_wp2_with fail;refine (HC.out _ (HT.out _ _)).mono ?_; rintro e w1 ⟨rfl, hb⟩;have hz := cells4 (kept_at hb (new_at (w.alloc _) _));rw [World.size_alloc] at hz;obtain ⟨d0, d1, d2, d3, g0, g1, g2, g3⟩ := hz;have hbw := (HB.out _ _).trans (hb.mono (by simp; omega));clear hb;go_wp2_with fail;refine bodyPost_ret (v := .tuple #[.agg #[.int .i64 0, .string ⟨#[]⟩, .int .i64 0, .int .i64 0], .int .i64 0]) (by simp [results, Tryz.results108, go_sem, d0, d1, d2, d3]) rfl ⟨rfl, below_set4 hbw (by omega) _ _ _ _⟩
set_option maxHeartbeats 1000000 in
theorem tok_lineRemark (s : ByteArray) (w : World) :
 Calls Tryz.prog 116 #[.string s] w fun e w' => e = .returned (lxr ⟨0, [], 0, spanL lineR s.data.toList⟩) /\ Below w.heap.size w w' := by
 have HS := Lib.hid (fun W => tok_span_line1 s W);have HB := Lib.hid (fun o : Obj => (Below.refl w.heap.size w).alloc (Nat.le_refl _) o);unfold lxr lxv;dsimp only;generalize spanL lineR s.data.toList = n at *;go_enter Tryz.func116, Tryz.ntmps116;go_wp2_with fail;refine (HS.out _).mono ?_; rintro e w1 ⟨rfl, hb⟩;obtain ⟨c0, c1, c2, c3, f0, f1, f2, f3⟩ := cells4 (kept_at hb (new_at w _));have hbw := (HB.out _).trans (hb.mono (by simp));clear hb;go_wp2_with fail;refine bodyPost_ret (v := .tuple #[.agg #[.int .i64 0, .string ⟨#[]⟩, .int .i64 0, .int .i64 0], .int .i64 (n : Nat)]) (by simp [results, Tryz.results116, go_sem, c0, c1, c2, c3]) rfl ⟨rfl, below_set4 hbw (Nat.le_refl _) _ _ _ _⟩
set_option maxHeartbeats 1000000 in
theorem tok_quoted (s : ByteArray) (w : World) (hs : s.size <= 200000) (hT : TabsT w) :
 Calls Tryz.prog 114 #[.string s] w fun e w' => e = .returned (lxr (quotedL s.data.toList)) /\ Below w.heap.size w w' := by
 have HR := Lib.hid (fun W (h : TabsT W) => char_Read s W hs h.1);have HB := Lib.hid (fun o : Obj => (Below.refl w.heap.size w).alloc (Nat.le_refl _) o);have HT := Lib.hid (fun o : Obj => hT.on ((Below.refl w.heap.size w).alloc (Nat.le_refl _) o));clear hT;unfold quotedL;cases hr : readL s.data.toList with
 | none =>
  obtain ⟨e1, e2, e3⟩ := read_none hr;rw [e1, e2, e3] at HR;clear hr e1 e2 e3;unfold lxr lxv lx0;dsimp only;go_enter Tryz.func114, Tryz.ntmps114;go_wp2_with fail;refine (HR.out _ (HT.out _)).mono ?_; rintro e w1 ⟨rfl, hb⟩;obtain ⟨c0, c1, c2, c3, f0, f1, f2, f3⟩ := cells4 (kept_at hb (new_at w _));have hbw := (HB.out _).trans (hb.mono (by simp));clear hb;go_wp2_with fail;refine bodyPost_ret (v := .tuple #[.agg #[.int .i64 0, .string ⟨#[]⟩, .int .i64 0, .int .i64 0], .int .i64 0]) (by simp [results, Tryz.results114, go_sem, c0, c1, c2, c3]) rfl ⟨rfl, below_set4 hbw (Nat.le_refl _) _ _ _ _⟩
 | some r =>
  obtain ⟨t, k⟩ := r;obtain ⟨e1, e2, e3⟩ := read_some hr;rw [e1, e2, e3] at HR;clear hr e1 e2 e3;unfold lxr lxv;dsimp only;generalize (⟨t.toArray⟩ : ByteArray) = u at *;go_enter Tryz.func114, Tryz.ntmps114;go_wp2_with fail;refine (HR.out _ (HT.out _)).mono ?_; rintro e w1 ⟨rfl, hb⟩;obtain ⟨c0, c1, c2, c3, f0, f1, f2, f3⟩ := cells4 (kept_at hb (new_at w _));have hbw := (HB.out _).trans (hb.mono (by simp));clear hb;go_wp2_with fail;refine bodyPost_ret (v := .tuple #[.agg #[.int .i64 2, .string u, .int .i64 0, .int .i64 0], .int .i64 (k : Nat)]) (by simp [results, Tryz.results114, go_sem, c0, c1, c2, c3]) rfl ⟨rfl, below_set4 hbw (Nat.le_refl _) _ _ _ _⟩
theorem first_byte {s : ByteArray} {b : UInt8} {t : List UInt8} (h : s.data.toList = b :: t) : ∃ h0 : 0 < s.size, s[0] = b := by
 have h1 : s.data.toList.length = s.size := by simp
 have h0 : 0 < s.size := by rw [<- h1, h, List.length_cons]; omega
 refine ⟨h0, ?_⟩;have h2 : s.data.toList[0]? = some b := by rw [h]; rfl
 have h3 : s.data.toList[0]? = some s[0] := by
  rw [List.getElem?_eq_getElem (by omega)]; rfl
 rw [h3] at h2;exact Option.some.inj h2
set_option maxHeartbeats 1000000 in
theorem tok_single (s : ByteArray) (c : Int) (b : UInt8) (t : List UInt8) (w : World) (h : s.data.toList = b :: t) (hc : c = (b.toNat : Int)) :
 Calls Tryz.prog 115 #[.string s, .int .i32 c] w fun e w' => e = .returned (lxr (singleL b)) /\ Below w.heap.size w w' := by
 obtain ⟨h0, _⟩ := first_byte h;have HX := Lib.hid (ext_take s 1);rw [h, List.take_succ_cons, List.take_zero] at HX;have HB := Lib.hid (fun o : Obj => (Below.refl w.heap.size w).alloc (Nat.le_refl _) o);have hk : (c == 33) = true \/ ((c == 33) = false /\ (c == 59) = true) \/ ((c == 33) = false /\ (c == 59) = false /\ b ≠ 33 /\ b ≠ 59) := by
  by_cases h1 : c = 33
  · exact .inl (by simpa using h1)
  by_cases h2 : c = 59
  · exact .inr (.inl ⟨by simpa using h1, by simpa using h2⟩)
  · exact .inr (.inr ⟨by simpa using h1, by simpa using h2, fun e => h1 (by rw [hc, e]; rfl), fun e => h2 (by rw [hc, e]; rfl)⟩)
 obtain ⟨E, hE⟩ : ∃ E, singleL b = E := ⟨_, rfl⟩;have hk1 : (c == 33) = true \/ (c == 59) = true -> singleL b = ⟨1, [b], 0, 1⟩ := fun h => by
  unfold singleL;have : b = 33 \/ b = 59 := by
   rcases h with h | h
   · left; apply UInt8.toNat_inj.1; simp at h; have : ((33 : UInt8).toNat : Int) = 33 := rfl; omega
   · right; apply UInt8.toNat_inj.1; simp at h; have : ((59 : UInt8).toNat : Int) = 59 := rfl; omega
  rw [if_pos this]
 have hk2 : b ≠ 33 /\ b ≠ 59 -> singleL b = ⟨6, [b], 0, 1⟩ := fun h => by
  unfold singleL;rw [if_neg (by rintro (e | e); exact h.1 e; exact h.2 e)]
 rw [hE] at hk1 hk2 ⊢;have HK1 := Lib.hid hk1;have HK2 := Lib.hid hk2;clear hk1 hk2 hE hc h;rcases hk with e1 | ⟨e1, e2⟩ | ⟨e1, e2, n1⟩
 · rw [HK1.out (.inl e1)];unfold lxr lxv;dsimp only;go_enter Tryz.func115, Tryz.ntmps115;go_wp2_with fail;refine bodyPost_ret (v := .tuple #[.agg #[.int .i64 1, .string (s.extract 0 1), .int .i64 0, .int .i64 0], .int .i64 1]) (by simp [results, Tryz.results115, go_sem]) rfl ⟨by rw [HX.out]; rfl, HB.out _⟩
 · rw [HK1.out (.inr e2)];unfold lxr lxv;dsimp only;go_enter Tryz.func115, Tryz.ntmps115;go_wp2_with fail;refine bodyPost_ret (v := .tuple #[.agg #[.int .i64 1, .string (s.extract 0 1), .int .i64 0, .int .i64 0], .int .i64 1]) (by simp [results, Tryz.results115, go_sem]) rfl ⟨by rw [HX.out]; rfl, HB.out _⟩
 · rw [HK2.out n1];clear n1;unfold lxr lxv;dsimp only;go_enter Tryz.func115, Tryz.ntmps115;go_wp2_with fail;refine bodyPost_ret (v := .tuple #[.agg #[.int .i64 6, .string (s.extract 0 1), .int .i64 0, .int .i64 0], .int .i64 1]) (by simp [results, Tryz.results115, go_sem]) rfl ⟨by rw [HX.out]; rfl, HB.out _⟩
set_option maxHeartbeats 1000000 in
theorem tok_parts (s : ByteArray) (w : World) :
 Calls Tryz.prog 140 #[.string s] w fun e w' => e = .returned (.bool (partsL s.data.toList)) /\ w = w' := by
 cases hl : s.data.toList with
 | nil =>
  have h0 : s.size = 0 := by rw [<- size_listT, hl]; rfl
  have f0 : s.toList.isEmpty = true := by rw [ByteArray.toList_eq, hl]; rfl
  clear hl;unfold partsL;go_enter Tryz.func140, Tryz.ntmps140;go_wp2_with fail;go_ret;exact ⟨rfl, rfl⟩
 | cons b t =>
  obtain ⟨h0, hb⟩ := first_byte hl;have f0 : s.toList.isEmpty = false := by rw [ByteArray.toList_eq, hl]; rfl
  have hb2 : (b.toNat : Int) < 256 := by have := b.toNat_lt; omega
  have HC := Lib.hid (dev_Class (b.toNat : Int) w);unfold partsL;dsimp only;generalize cls (b.toNat : Int) = q at *;have e1 : ((b.toNat : Int) == 37) = decide (b = 37) := by
   rw [Bool.eq_iff_iff];simp only [beq_iff_eq, decide_eq_true_eq]
   constructor
   · intro h; apply UInt8.toNat_inj.1; have : ((37 : UInt8).toNat : Int) = 37 := rfl; omega
   · rintro rfl; rfl
  clear hl;generalize hx : s[0] = x at *;subst hb;cases h37 : decide (x = 37) with
  | true =>
   rw [h37] at e1;go_enter Tryz.func140, Tryz.ntmps140;go_wp2_with fail;go_ret;exact ⟨rfl, rfl⟩
  | false =>
   rw [h37] at e1;go_enter Tryz.func140, Tryz.ntmps140;go_wp2_with fail;refine HC.out.mono ?_; rintro e w1 ⟨rfl, rfl⟩;go_wp2_with fail;go_ret;exact ⟨ret_boolT (by rw [Bool.false_or, Bool.eq_iff_iff]; simp), rfl⟩
set_option maxHeartbeats 1000000 in
theorem tok_signs (s : ByteArray) (w : World) :
 Calls Tryz.prog 113 #[.string s] w fun e w' => e = .returned (lxr (signsL s.data.toList)) /\ Below w.heap.size w w' := by
 have HS := Lib.hid (fun W => tok_span_signs1 s W);have hle := spanL_le signR s.data.toList;rw [size_listT] at hle;have HX := Lib.hid (ext_take s);have HB := Lib.hid (fun o : Obj => (Below.refl w.heap.size w).alloc (Nat.le_refl _) o);unfold lxr lxv signsL;dsimp only;generalize spanL signR s.data.toList = n at *;have e46 : ((s.extract 0 n).toList == [46]) = decide (s.data.toList.take n = [46]) := by
  rw [ByteArray.toList_eq, HX.out, Bool.eq_iff_iff]; simp
 have HP := Lib.hid (fun W => tok_parts (s.extract n s.size) W);rw [show (s.extract n s.size).data.toList = s.data.toList.drop n from by rw [ext_drop]] at HP;have hwalk : ∀ k : Int, ((s.extract 0 n).toList == [46]) = false /\ k = 3 \/ ((s.extract 0 n).toList == [46]) = true /\ partsL (s.data.toList.drop n) = false /\ k = 3 \/ ((s.extract 0 n).toList == [46]) = true /\ partsL (s.data.toList.drop n) = true /\ k = 8 ->
  Calls Tryz.prog 113 #[.string s] w fun e w' => e = .returned (.tuple #[.agg #[.int .i64 k, .string (s.extract 0 n), .int .i64 0, .int .i64 0], .int .i64 (n : Nat)]) /\ Below w.heap.size w w' := by
  intro k hk;clear e46;generalize partsL (s.data.toList.drop n) = pb at *;rcases hk with ⟨e1, rfl⟩ | ⟨e1, rfl, rfl⟩ | ⟨e1, rfl, rfl⟩
  · go_enter Tryz.func113, Tryz.ntmps113;go_wp2_with fail;refine (HS.out _).mono ?_; rintro e w1 ⟨rfl, hb⟩;obtain ⟨c0, c1, c2, c3, f0, f1, f2, f3⟩ := cells4 (kept_at hb (new_at w _));have hbw := (HB.out _).trans (hb.mono (by simp));clear hb;go_wp2_with fail;refine bodyPost_ret (v := .tuple #[.agg #[.int .i64 3, .string (s.extract 0 n), .int .i64 0, .int .i64 0], .int .i64 (n : Nat)]) (by simp [results, Tryz.results113, go_sem, c0, c1, c2, c3]) rfl ⟨rfl, below_set4 hbw (Nat.le_refl _) _ _ _ _⟩
  · go_enter Tryz.func113, Tryz.ntmps113;go_wp2_with fail;refine (HS.out _).mono ?_; rintro e w1 ⟨rfl, hb⟩;obtain ⟨c0, c1, c2, c3, f0, f1, f2, f3⟩ := cells4 (kept_at hb (new_at w _));have hbw := (HB.out _).trans (hb.mono (by simp));clear hb;go_wp2_with fail;refine (HP.out _).mono ?_; rintro e w2 ⟨rfl, rfl⟩;go_wp2_with fail;refine bodyPost_ret (v := .tuple #[.agg #[.int .i64 3, .string (s.extract 0 n), .int .i64 0, .int .i64 0], .int .i64 (n : Nat)]) (by simp [results, Tryz.results113, go_sem, c0, c1, c2, c3]) rfl ⟨rfl, below_set4 hbw (Nat.le_refl _) _ _ _ _⟩
  · go_enter Tryz.func113, Tryz.ntmps113;go_wp2_with fail;refine (HS.out _).mono ?_; rintro e w1 ⟨rfl, hb⟩;obtain ⟨c0, c1, c2, c3, f0, f1, f2, f3⟩ := cells4 (kept_at hb (new_at w _));have hbw := (HB.out _).trans (hb.mono (by simp));clear hb;go_wp2_with fail;refine (HP.out _).mono ?_; rintro e w2 ⟨rfl, rfl⟩;go_wp2_with fail;refine bodyPost_ret (v := .tuple #[.agg #[.int .i64 8, .string (s.extract 0 n), .int .i64 0, .int .i64 0], .int .i64 (n : Nat)]) (by simp [results, Tryz.results113, go_sem, c0, c1, c2, c3]) rfl ⟨rfl, below_set4 hbw (Nat.le_refl _) _ _ _ _⟩
 rw [<- HX.out n];by_cases h46 : s.data.toList.take n = [46]
 · rw [decide_eq_true h46] at e46;cases hp : partsL (s.data.toList.drop n) with
   | false => rw [if_neg (by rintro ⟨_, h⟩; cases h)]; exact hwalk 3 (.inr (.inl ⟨e46, hp, rfl⟩))
   | true => rw [if_pos ⟨h46, rfl⟩]; exact hwalk 8 (.inr (.inr ⟨e46, hp, rfl⟩))
 · rw [decide_eq_false h46] at e46;rw [if_neg (fun h => h46 h.1)]; exact hwalk 3 (.inl ⟨e46, rfl⟩)
theorem below_drewN {B : Nat} {a w : World} (h : Below B a w) (n : Nat) : Below B a (w.drewN n) := ⟨h.os, h.tape, h.output, h.size, h.block⟩
theorem close_index : ∀ l : List UInt8, (closeL l = none /\ Lib.index l [42, 47] = -1) \/ ∃ k : Nat, closeL l = some (k + 2) /\ Lib.index l [42, 47] = k
 | [] => .inl ⟨rfl, rfl⟩
 | b :: t => by
  have hpre : [42, 47].isPrefixOf (b :: t) = decide (b = 42 /\ t.headD 0 = 47 /\ t ≠ []) := by
   cases t with
   | nil => simp [List.isPrefixOf]
   | cons c u =>
    rw [Bool.eq_iff_iff];simp [List.isPrefixOf]
    constructor
    · rintro ⟨h1, h2⟩; exact ⟨h1.symm, h2.symm⟩
    · rintro ⟨h1, h2⟩; exact ⟨h1.symm, h2.symm⟩
  unfold closeL Lib.index;rw [hpre];by_cases h : b = 42 /\ t.headD 0 = 47 /\ t ≠ []
  · rw [decide_eq_true h, if_pos h, if_pos rfl];exact .inr ⟨0, rfl, rfl⟩
  · rw [decide_eq_false h, if_neg h, if_neg (by decide)];rcases close_index t with ⟨h1, h2⟩ | ⟨k, h1, h2⟩
    · rw [h1, h2]; exact .inl ⟨rfl, rfl⟩
    · rw [h1, h2, if_neg (by simp)];exact .inr ⟨k + 1, rfl, by omega⟩
theorem take2_size {s : ByteArray} {x y : UInt8} (h : s.data.toList.take 2 = [x, y]) : 2 <= s.size := by
 have h2 := congrArg List.length h;rw [List.length_take, size_listT] at h2;simp only [List.length_cons, List.length_nil] at h2
 omega
set_option maxHeartbeats 1000000 in
theorem tok_closed (s : ByteArray) (w : World) (h2 : 2 <= s.size) (hs : s.size <= 200000) (hT : TabsT w) :
 Calls Tryz.prog 112 #[.string s] w fun e w' => e = .returned (lxr (remarkL s.data.toList)) /\ Below w.heap.size w w' := by
 have HB := Lib.hid (fun o : Obj => (Below.refl w.heap.size w).alloc (Nat.le_refl _) o);obtain ⟨m, hm⟩ := hT.2;have hm2 : ∀ o, (w.alloc o).cell? ⟨2, 0, none⟩ = some (.int .i64 m) := fun o => by
  rw [<- hm]; exact (HB.out o).cell (p := ⟨_, _, none⟩) (cell_in hm)
 have hsz : (s.extract 2 s.size).size < 4294967281 := by rw [ByteArray.size_extract]; omega
 have HC := Lib.hid (fun W h => Tryz.strings_Cut (s.extract 2 s.size) ⟨#[42, 47]⟩ m W hsz h);rw [show (s.extract 2 s.size).data.toList = s.data.toList.drop 2 from by rw [ext_drop]] at HC;rw [show (⟨#[42, 47]⟩ : ByteArray).data.toList = [42, 47] from rfl] at HC;have HM := Lib.hid hm2;clear hm2 hm hT hsz;unfold remarkL;rcases close_index (s.data.toList.drop 2) with ⟨h1, h3⟩ | ⟨k, h1, h3⟩
 · have hcut : Lib.cut (s.data.toList.drop 2) [42, 47] = (s.data.toList.drop 2, [], false) := by unfold Lib.cut; rw [h3, if_neg (by decide)]
   rw [hcut] at HC;rw [h1];unfold lxr lxv lx0;dsimp only at HC ⊢;clear h1 h3 hcut;go_enter Tryz.func112, Tryz.ntmps112;go_wp2_with fail;refine (HC.out _ (HM.out _)).mono ?_; rintro e w1 ⟨rfl, nd, rfl⟩;go_wp2_with fail;refine bodyPost_ret (v := .tuple #[.agg #[.int .i64 0, .string ⟨#[]⟩, .int .i64 0, .int .i64 0], .int .i64 0]) (by simp [results, Tryz.results112, go_sem]) rfl ⟨rfl, ?_⟩;exact below_set4 (below_drewN (HB.out _) _) (Nat.le_refl _) _ _ _ _
 · have hcut : Lib.cut (s.data.toList.drop 2) [42, 47] = ((s.data.toList.drop 2).take k, (s.data.toList.drop 2).drop (k + 2), true) := by
    unfold Lib.cut; rw [h3, if_pos (by omega)]; rfl
   rw [hcut] at HC;rw [h1];have hk := (closeL_le _ _ h1).1;rw [List.length_drop, size_listT] at hk;have hlen : (⟨((s.data.toList.drop 2).take k).toArray⟩ : ByteArray).size = k := by
    rw [size_mk, List.length_take, List.length_drop, size_listT]; omega
   unfold lxr lxv;dsimp only at HC ⊢;clear h1 h3 hcut;generalize (⟨((s.data.toList.drop 2).take k).toArray⟩ : ByteArray) = u at *;subst hlen;generalize (⟨((s.data.toList.drop 2).drop (u.size + 2)).toArray⟩ : ByteArray) = u2 at *;go_enter Tryz.func112, Tryz.ntmps112;go_wp2_with fail;refine (HC.out _ (HM.out _)).mono ?_; rintro e w1 ⟨rfl, nd, rfl⟩;go_wp2_with fail;refine bodyPost_ret (v := .tuple #[.agg #[.int .i64 0, .string ⟨#[]⟩, .int .i64 0, .int .i64 0], .int .i64 (u.size + 2 + 2 : Nat)]) (by simp [results, Tryz.results112, go_sem]; omega) rfl ⟨rfl, ?_⟩;exact below_set4 (below_drewN (HB.out _) _) (Nat.le_refl _) _ _ _ _
theorem decodeGo_nil (s : ByteArray) (h : s.size = 0) : Lib.decodeGo s = (65533, 0) := by
 unfold Lib.decodeGo;simp [h]
theorem hasPre2 (l : List UInt8) (x y : UInt8) : Lib.hasPrefix l [x, y] = decide (l.take 2 = [x, y]) := by
 unfold Lib.hasPrefix;rw [Bool.eq_iff_iff];match l with
 | [] => simp [List.isPrefixOf]
 | [a] => simp [List.isPrefixOf]
 | a :: b :: t =>
  simp [List.isPrefixOf]
  constructor
  · rintro ⟨h1, h2⟩; exact ⟨h1.symm, h2.symm⟩
  · rintro ⟨h1, h2⟩; exact ⟨h1.symm, h2.symm⟩
theorem trimPre2 (l : List UInt8) (x y : UInt8) : Lib.trimPrefix l [x, y] = if l.take 2 = [x, y] then l.drop 2 else l := by
 unfold Lib.trimPrefix;rw [hasPre2];by_cases h : l.take 2 = [x, y]
 · rw [decide_eq_true h, if_pos rfl, if_pos h]; rfl
 · rw [decide_eq_false h, if_neg (by decide), if_neg h]
theorem runeB_cases (r : List UInt8) : (r.take 2 = [39, 39] /\ runeB r = (39, 4)) \/
 (¬ r.take 2 = [39, 39] /\ ∃ c n : Nat, c <= 1114111 /\ n <= r.length /\ Lib.decodeGo ⟨r.toArray⟩ = (c, n) /\ ((c < 32 \/ c = 39 \/ c = 92 \/ (c = 65533 /\ n < 2)) /\ runeB r = (0, 0) \/ (32 <= c /\ c ≠ 39 /\ c ≠ 92 /\ ¬ (c = 65533 /\ n < 2)) /\ runeB r = ((c : Int), 2 + n))) := by
 unfold runeB;by_cases h : r.take 2 = [39, 39]
 · rw [if_pos h]; exact .inl ⟨h, rfl⟩
 rw [if_neg h];refine .inr ⟨h, ?_⟩;by_cases h0 : r = []
 · subst h0;rw [if_pos (.inl rfl)];exact ⟨65533, 0, by decide, Nat.le_refl _, decodeGo_nil _ rfl, .inl ⟨.inr (.inr (.inr ⟨rfl, by decide⟩)), rfl⟩⟩
 · have hp : 0 < r.length := List.length_pos_iff.2 h0;have hd : Lib.decodeGo ⟨r.toArray⟩ = Lib.decodeL r := by
    rw [decodeGo_eq _ (by rw [size_mk]; omega)]
   refine ⟨(Lib.decodeL r).1, (Lib.decodeL r).2, Lib.decodeL_rune r, Lib.decodeL_le r h0, hd, ?_⟩;by_cases h1 : (Lib.decodeL r).1 < 32 \/ (Lib.decodeL r).1 = 39 \/ (Lib.decodeL r).1 = 92 \/ ((Lib.decodeL r).1 = 65533 /\ (Lib.decodeL r).2 < 2)
   · exact .inl ⟨h1, if_pos (.inr h1)⟩
   · refine .inr ⟨by omega, if_neg ?_⟩;rintro (e | e)
     · exact h0 e
     · exact h1 e
def runeV (p : Int × Nat) : Value := .tuple #[.int .i32 p.1, .int .i64 (p.2 : Nat)]
set_option maxHeartbeats 2000000 in
theorem tok_runeNumber (s : ByteArray) (w : World) (hT : TabsT w) (hs : s.size <= 200000) :
 Calls Tryz.prog 134 #[.string s] w fun e w' => e = .returned (runeV (runeNum s.data.toList)) /\ Below w.heap.size w w' := by
 have HC := Lib.hid (fun W => Tryz.strings_CutPrefix s ⟨#[48, 39]⟩ W);rw [show (⟨#[48, 39]⟩ : ByteArray).data.toList = [48, 39] from rfl, hasPre2, trimPre2] at HC;unfold runeNum;by_cases h : s.data.toList.take 2 = [48, 39]
 · rw [if_pos h];rw [if_pos h, decide_eq_true h] at HC;have hlen : (s.data.toList.drop 2).length <= 200000 := by rw [List.length_drop, size_listT]; omega
   clear h;generalize s.data.toList.drop 2 = r at *;have HP := Lib.hid (fun W => Tryz.strings_HasPrefix ⟨r.toArray⟩ ⟨#[39, 39]⟩ W);rw [show (⟨#[39, 39]⟩ : ByteArray).data.toList = [39, 39] from rfl, hasPre2, show (⟨r.toArray⟩ : ByteArray).data.toList = r from by simp] at HP;rcases runeB_cases r with ⟨h1, h2⟩ | ⟨h1, c, n, hcm, hn, hd, h2⟩
   · rw [h2];rw [decide_eq_true h1] at HP;unfold runeV;clear h1 h2 hlen hT;generalize (⟨r.toArray⟩ : ByteArray) = u at *;go_enter Tryz.func134, Tryz.ntmps134;go_wp2_with fail;refine (HC.out _).mono ?_; rintro e w1 ⟨rfl, rfl⟩;go_wp2_with fail;refine (HP.out _).mono ?_; rintro e w1 ⟨rfl, rfl⟩;go_wp2_with fail;go_ret2;exact ⟨rfl, Below.refl _ _⟩
   · rw [decide_eq_false h1] at HP;have HD := Lib.hid (Tryz.utf8_DecodeRuneInString ⟨r.toArray⟩ w hT.1.1);rw [hd] at HD;have hn2 : n <= 200000 := by omega
     clear h1 hd hT hlen hn;generalize (⟨r.toArray⟩ : ByteArray) = u at *;dsimp only at HD;obtain ⟨ci, hci⟩ : ∃ ci : Int, (c : Int) = ci := ⟨_, rfl⟩;rw [hci] at HD;unfold runeV;have hways : ((ci < 32 \/ (32 <= ci /\ (ci == 39) = true) \/ (32 <= ci /\ (ci == 39) = false /\ (ci == 92) = true) \/ (32 <= ci /\ (ci == 39) = false /\ (ci == 92) = false /\ (ci == 65533) = true /\ (n : Int) < 2)) /\ runeB r = (0, 0)) \/
      (((32 <= ci /\ (ci == 39) = false /\ (ci == 92) = false /\ (ci == 65533) = false) \/ (32 <= ci /\ (ci == 39) = false /\ (ci == 92) = false /\ (ci == 65533) = true /\ (2 : Int) <= n)) /\ runeB r = (ci, 2 + n)) := by
      subst hci;simp only [beq_iff_eq, beq_eq_false_iff_ne]
      rcases h2 with ⟨h2, h3⟩ | ⟨h2, h3⟩
      · refine .inl ⟨?_, h3⟩;by_cases a1 : c < 32
        · left; omega
        by_cases a2 : c = 39
        · right; left; omega
        by_cases a3 : c = 92
        · right; right; left; omega
        · right; right; right; omega
      · refine .inr ⟨?_, h3⟩;by_cases a1 : c = 65533
        · right; omega
        · left; omega
     clear h2 hci hcm;rcases hways with ⟨hw, hr⟩ | ⟨hw, hr⟩
     · rw [hr];clear hr;dsimp only;rcases hw with e1 | ⟨e1, e2⟩ | ⟨e1, e2, e3⟩ | ⟨e1, e2, e3, e4, e5⟩
       all_goals
        go_enter Tryz.func134, Tryz.ntmps134;go_wp2_with fail;refine (HC.out _).mono ?_; rintro e w1 ⟨rfl, rfl⟩;go_wp2_with fail;refine (HP.out _).mono ?_; rintro e w1 ⟨rfl, rfl⟩;go_wp2_with fail;refine HD.out.mono ?_; rintro e w1 ⟨rfl, hb⟩;go_wp2_with fail;go_ret2;exact ⟨rfl, hb⟩
     · rw [hr];clear hr;dsimp only;have HV : Hid ((2 : Int) + n = ((2 + n : Nat) : Int)) := Lib.hid (by omega);rcases hw with ⟨e1, e2, e3, e4⟩ | ⟨e1, e2, e3, e4, e5⟩
       all_goals
        go_enter Tryz.func134, Tryz.ntmps134;go_wp2_with fail;refine (HC.out _).mono ?_; rintro e w1 ⟨rfl, rfl⟩;go_wp2_with fail;refine (HP.out _).mono ?_; rintro e w1 ⟨rfl, rfl⟩;go_wp2_with fail;refine HD.out.mono ?_; rintro e w1 ⟨rfl, hb⟩;go_wp2_with fail;go_ret2;exact ⟨by rw [HV.out]; rfl, hb⟩
 · rw [if_neg h];rw [if_neg h, decide_eq_false h] at HC;clear h hT;unfold runeV;go_enter Tryz.func134, Tryz.ntmps134;go_wp2_with fail;refine (HC.out _).mono ?_; rintro e w1 ⟨rfl, rfl⟩;go_wp2_with fail;go_ret2;exact ⟨rfl, Below.refl _ _⟩
theorem tok_runeNum_in (l : List UInt8) : 0 <= (runeNum l).1 /\ (runeNum l).1 <= 1114111 := by
 unfold runeNum;split
 · unfold runeB;split
   · decide
   · split
     · decide
     · have := Lib.decodeL_rune (l.drop 2);show 0 <= ((Lib.decodeL (l.drop 2)).1 : Int) /\ _ <= _
       omega
 · decide
theorem cat_minus (s : ByteArray) (n : Nat) : (⟨#[45]⟩ ++ s.extract 0 n : ByteArray).data.toList = 45 :: s.data.toList.take n := by
 rw [ext_take, ByteArray.data_append]; simp
set_option maxHeartbeats 2000000 in
theorem tok_number (s : ByteArray) (w : World) (hT : TabsT w) (hs : s.size <= 200000) :
 Calls Tryz.prog 110 #[.string s] w fun e w' => e = .returned (lxr (numberL s.data.toList)) /\ Below w.heap.size w w' := by
 have HB := Lib.hid (fun o : Obj => (Below.refl w.heap.size w).alloc (Nat.le_refl _) o);have HR := Lib.hid (fun o => tok_runeNumber s (w.alloc o) (hT.on ((Below.refl w.heap.size w).alloc (Nat.le_refl _) o)) hs);have hin := tok_runeNum_in s.data.toList;have hle := runeNum_le s.data.toList;rw [size_listT] at hle;clear hT;unfold numberL;unfold runeV at HR;generalize (runeNum s.data.toList).1 = c at *;generalize (runeNum s.data.toList).2 = m at *;obtain ⟨hin1, hin2⟩ := hin;by_cases hm : 0 < m
 · rw [if_pos hm];unfold lxr lxv;dsimp only;go_enter Tryz.func110, Tryz.ntmps110;go_wp2_with fail;refine (HR.out _).mono ?_; rintro e w1 ⟨rfl, hb⟩;obtain ⟨c0, c1, c2, c3, f0, f1, f2, f3⟩ := cells4 (kept_at hb (new_at w _));have hbw := (HB.out _).trans (hb.mono (by simp));clear hb;go_wp2_with fail;refine bodyPost_ret (v := .tuple #[.agg #[.int .i64 5, .string ⟨#[]⟩, .int .i64 c, .int .i64 0], .int .i64 (m : Nat)]) (by simp [results, Tryz.results110, go_sem, c0, c1, c2, c3]) rfl ⟨rfl, below_set4 hbw (Nat.le_refl _) _ _ _ _⟩
 · obtain rfl : m = 0 := by omega
   rw [if_neg hm];clear hm;have HS := Lib.hid (fun W => tok_span_number1 s W);have hle2 := spanL_le digR s.data.toList;rw [size_listT] at hle2;generalize spanL digR s.data.toList = n at *;have hsz : (⟨#[45]⟩ ++ s.extract 0 n : ByteArray).size <= maxLen := by
    rw [ByteArray.size_append, ByteArray.size_extract];show 1 + _ <= maxLen
    unfold maxLen; omega
   have HN := Lib.hid (fun W => num_Read (⟨#[45]⟩ ++ s.extract 0 n) W hsz);rw [cat_minus] at HN;clear hsz;generalize readV (45 :: s.data.toList.take n) = v at *;generalize readE (45 :: s.data.toList.take n) = x at *;by_cases hx : x = 0
   · subst hx;rw [if_pos rfl];unfold lxr lxv;dsimp only;go_enter Tryz.func110, Tryz.ntmps110;go_wp2_with fail;refine (HR.out _).mono ?_; rintro e w1 ⟨rfl, hb⟩;have hz := kept_at hb (new_at w _);have hbw := (HB.out _).trans (hb.mono (by simp));clear hb;go_wp2_with fail;refine (HS.out _).mono ?_; rintro e w2 ⟨rfl, hb⟩;have hz2 := kept_at hb hz;have hbw2 := hbw.trans (hb.mono hbw.size);clear hb hz hbw;go_wp2_with fail;refine (HN.out _).mono ?_; rintro e w3 ⟨rfl, hb⟩;obtain ⟨c0, c1, c2, c3, f0, f1, f2, f3⟩ := cells4 (kept_at hb hz2);have hbw3 := hbw2.trans (hb.mono hbw2.size);clear hb hz2 hbw2;go_wp2_with fail;refine bodyPost_ret (v := .tuple #[.agg #[.int .i64 5, .string ⟨#[]⟩, .int .i64 (wrap64 (-v)), .int .i64 0], .int .i64 (n : Nat)]) (by simp [results, Tryz.results110, go_sem, c0, c1, c2, c3]) rfl ⟨rfl, below_set4 hbw3 (Nat.le_refl _) _ _ _ _⟩
   · rw [if_neg hx];unfold lxr lxv lx0;dsimp only;have e1 : (x != 0) = true := by simpa using hx
     clear hx;go_enter Tryz.func110, Tryz.ntmps110;go_wp2_with fail;refine (HR.out _).mono ?_; rintro e w1 ⟨rfl, hb⟩;have hz := kept_at hb (new_at w _);have hbw := (HB.out _).trans (hb.mono (by simp));clear hb;go_wp2_with fail;refine (HS.out _).mono ?_; rintro e w2 ⟨rfl, hb⟩;have hz2 := kept_at hb hz;have hbw2 := hbw.trans (hb.mono hbw.size);clear hb hz hbw;go_wp2_with fail;refine (HN.out _).mono ?_; rintro e w3 ⟨rfl, hb⟩;obtain ⟨c0, c1, c2, c3, f0, f1, f2, f3⟩ := cells4 (kept_at hb hz2);have hbw3 := hbw2.trans (hb.mono hbw2.size);clear hb hz2 hbw2;go_wp2_with fail;refine bodyPost_ret (v := .tuple #[.agg #[.int .i64 0, .string ⟨#[]⟩, .int .i64 0, .int .i64 0], .int .i64 0]) (by simp [results, Tryz.results110, go_sem, c0, c1, c2, c3]) rfl ⟨rfl, below_set4 hbw3 (Nat.le_refl _) _ _ _ _⟩
theorem cls_first {b : UInt8} {t : List UInt8} {c : Int} (hc : c = ((Lib.decodeL (b :: t)).1 : Int)) : cls c = cls (b.toNat : Int) /\ (c == 37) = decide (b = 37) /\ (b.toNat < 128 -> c = (b.toNat : Int)) := by
 by_cases hb : b.toNat < 128
 · rw [Lib.decodeL_ascii b t hb] at hc;have hc' : c = (b.toNat : Int) := hc;subst hc';refine ⟨rfl, ?_, fun _ => rfl⟩;rw [Bool.eq_iff_iff];simp only [beq_iff_eq, decide_eq_true_eq]
   constructor
   · intro h; apply UInt8.toNat_inj.1; have : ((37 : UInt8).toNat : Int) = 37 := rfl; omega
   · rintro rfl; rfl
 · have hr := high_rune b t (by omega);refine ⟨by rw [cls_high _ (by omega), cls_high _ (by omega)], ?_, fun h => absurd h hb⟩;rw [Bool.eq_iff_iff];simp only [beq_iff_eq, decide_eq_true_eq]
   constructor
   · intro h; omega
   · rintro rfl; exact absurd (by decide) hb
theorem lex_blank5 (b : UInt8) (t : List UInt8) (h : cls (b.toNat : Int) = 5) : lexL (b :: t) = ⟨0, [], 0, 1⟩ := by
 unfold lexL;dsimp only;rw [if_pos h]
theorem readAt_text (l out : List UInt8) (a : Nat) : ∀ o k, readAt l out a = some (o, k) -> o.length <= out.length + 4 * l.length := by
 induction h : l.length using Nat.strongRecOn generalizing l out a with
 | _ n ih =>
  intro o k hr;by_cases hl : l = []
  · subst hl; cases hr
  · have hp : 0 < l.length := List.length_pos_iff.2 hl;have hw := Lib.decodeL_width l;have hle := Lib.decodeL_le l hl;have go : ∀ d (u : List UInt8) a2, 0 < d -> d <= l.length -> u.length <= 4 -> readAt (l.drop d) (out ++ u) a2 = some (o, k) -> o.length <= out.length + 4 * n := fun d u a2 h0 hd hu hr => by
     have := ih _ (by rw [List.length_drop]; omega) (l.drop d) (out ++ u) a2 rfl o k hr;rw [List.length_append, List.length_drop] at this;omega
    rw [readAt_step l out a hl] at hr;by_cases h39 : (Lib.decodeL l).1 = 39
    · rw [if_pos h39] at hr;by_cases h2 : l.getD 1 0 = 39 /\ 1 < l.length
      · rw [if_pos h2] at hr;exact go 2 _ _ (by omega) (by omega) (by decide) hr
      · rw [if_neg h2] at hr;simp only [Option.some.injEq, Prod.mk.injEq] at hr
        rw [<- hr.1]; omega
    rw [if_neg h39] at hr;by_cases h92 : (Lib.decodeL l).1 = 92
    · rw [if_pos h92] at hr;by_cases h0 : (escL (l.drop 1)).2 = 0
      · rw [if_pos h0] at hr; cases hr
      · rw [if_neg h0] at hr;have h3 := escL_le (l.drop 1);rw [List.length_drop] at h3;exact go _ _ _ (by omega) (by omega) (encL_length _).2 hr
    rw [if_neg h92] at hr;by_cases hb : (Lib.decodeL l).1 < 32 \/ ((Lib.decodeL l).1 = 65533 /\ (Lib.decodeL l).2 = 1)
    · rw [if_pos hb] at hr; cases hr
    · rw [if_neg hb] at hr;exact go _ _ _ hw hle (encL_length _).2 hr
theorem readL_text {l t : List UInt8} {k : Nat} (h : readL l = some (t, k)) : t.length <= 4 * l.length := by
 by_cases h0 : l.headD 0 = 39
 · rw [readL_eq l h0] at h;have := readAt_text _ _ _ _ _ h;rw [List.length_drop, List.length_nil] at this;omega
 · rw [readL_no l h0] at h; cases h
theorem cls_range (c : Int) : cls c = 0 \/ cls c = 1 \/ cls c = 2 \/ cls c = 3 \/ cls c = 4 \/ cls c = 5 \/ cls c = 6 \/ cls c = 7 \/ cls c = 8 := by
 unfold cls;repeat' split
 all_goals omega
def Says (f : Nat) (args : Array Value) (w : World) (x : Lx) : Prop := ∀ W, Below w.heap.size w W -> Calls Tryz.prog f args W fun e w' => e = .returned (lxr x) /\ Below W.heap.size W w'
def NamesIt (w : World) (x : Lx) : Prop := ∀ W, Below w.heap.size w W -> Calls Tryz.prog 108 #[lxv x, .int .i64 (x.w : Nat)] W fun e w' => e = .returned (lxr (namedL x)) /\ Below W.heap.size W w'
theorem names_it {w : World} {x : Lx} (hx : x.text.length <= maxLen) (hT : TabsT w) : NamesIt w x := fun _ hb => tok_named x _ hx (hT.on hb)
set_option maxHeartbeats 2000000 in
theorem first_name (s : ByteArray) (c : Int) (w : World) (x : Lx) (HC : Hid (∀ W, Calls Tryz.prog 107 #[.int .i32 c] W fun e w' => e = .returned (.int .i64 1) /\ W = w'))
 (hs : Says 109 #[.string s, .int .i64 1] w x) (hn : NamesIt w x) :
 Calls Tryz.prog 91 #[.string s, .int .i32 c] w fun e w' => e = .returned (lxr (namedL x)) /\ Below w.heap.size w w' := by
 have HB := Lib.hid (fun o : Obj => (Below.refl w.heap.size w).alloc (Nat.le_refl _) o);have HS := Lib.hid hs;have HN := Lib.hid hn;clear hs hn;unfold NamesIt at HN;generalize namedL x = y at *;obtain ⟨k, u, n, m⟩ := x;obtain ⟨k', u', n', m'⟩ := y;unfold Says lxr lxv at HS;unfold lxr lxv at HN;unfold lxr lxv;dsimp only at HS HN ⊢;generalize (⟨u.toArray⟩ : ByteArray) = u2 at *;generalize (⟨u'.toArray⟩ : ByteArray) = u3 at *;go_enter Tryz.func91, Tryz.ntmps91;go_wp2_with fail;refine (HC.out _).mono ?_; rintro e w1 ⟨rfl, rfl⟩;go_wp2_with fail;refine (HS.out _ (HB.out _)).mono ?_; rintro e w1 ⟨rfl, hb⟩;have hz := kept_at hb (new_at w _);have hbw := (HB.out _).trans (hb.mono (by simp));clear hb;go_wp2_with fail;refine (HN.out _ hbw).mono ?_; rintro e w2 ⟨rfl, hb⟩;obtain ⟨c0, c1, c2, c3, f0, f1, f2, f3⟩ := cells4 (kept_at hb hz);have hbw2 := hbw.trans (hb.mono hbw.size);clear hb hz hbw;go_wp2_with fail;refine bodyPost_ret (v := .tuple #[.agg #[.int .i64 k', .string u3, .int .i64 n', .int .i64 0], .int .i64 (m' : Nat)]) (by simp [results, Tryz.results91, go_sem, c0, c1, c2, c3]) rfl ⟨rfl, below_set4 hbw2 (Nat.le_refl _) _ _ _ _⟩
set_option maxHeartbeats 2000000 in
theorem first_big (s : ByteArray) (c : Int) (w : World) (x : Lx) (HC : Hid (∀ W, Calls Tryz.prog 107 #[.int .i32 c] W fun e w' => e = .returned (.int .i64 2) /\ W = w'))
 (hs : Says 109 #[.string s, .int .i64 4] w x) :
 Calls Tryz.prog 91 #[.string s, .int .i32 c] w fun e w' => e = .returned (lxr x) /\ Below w.heap.size w w' := by
 have HB := Lib.hid (fun o : Obj => (Below.refl w.heap.size w).alloc (Nat.le_refl _) o);have HS := Lib.hid hs;clear hs;obtain ⟨k, u, n, m⟩ := x;unfold Says lxr lxv at HS;unfold lxr lxv;dsimp only at HS ⊢;generalize (⟨u.toArray⟩ : ByteArray) = u2 at *;go_enter Tryz.func91, Tryz.ntmps91;go_wp2_with fail;refine (HC.out _).mono ?_; rintro e w1 ⟨rfl, rfl⟩;go_wp2_with fail;refine (HS.out _ (HB.out _)).mono ?_; rintro e w1 ⟨rfl, hb⟩;obtain ⟨c0, c1, c2, c3, f0, f1, f2, f3⟩ := cells4 (kept_at hb (new_at w _));have hbw := (HB.out _).trans (hb.mono (by simp));clear hb;go_wp2_with fail;refine bodyPost_ret (v := .tuple #[.agg #[.int .i64 k, .string u2, .int .i64 n, .int .i64 0], .int .i64 (m : Nat)]) (by simp [results, Tryz.results91, go_sem, c0, c1, c2, c3]) rfl ⟨rfl, below_set4 hbw (Nat.le_refl _) _ _ _ _⟩
set_option maxHeartbeats 2000000 in
theorem first_digit (s : ByteArray) (c : Int) (w : World) (x : Lx) (HC : Hid (∀ W, Calls Tryz.prog 107 #[.int .i32 c] W fun e w' => e = .returned (.int .i64 3) /\ W = w'))
 (hs : Says 110 #[.string s] w x) :
 Calls Tryz.prog 91 #[.string s, .int .i32 c] w fun e w' => e = .returned (lxr x) /\ Below w.heap.size w w' := by
 have HB := Lib.hid (fun o : Obj => (Below.refl w.heap.size w).alloc (Nat.le_refl _) o);have HS := Lib.hid hs;clear hs;obtain ⟨k, u, n, m⟩ := x;unfold Says lxr lxv at HS;unfold lxr lxv;dsimp only at HS ⊢;generalize (⟨u.toArray⟩ : ByteArray) = u2 at *;go_enter Tryz.func91, Tryz.ntmps91;go_wp2_with fail;refine (HC.out _).mono ?_; rintro e w1 ⟨rfl, rfl⟩;go_wp2_with fail;refine (HS.out _ (HB.out _)).mono ?_; rintro e w1 ⟨rfl, hb⟩;obtain ⟨c0, c1, c2, c3, f0, f1, f2, f3⟩ := cells4 (kept_at hb (new_at w _));have hbw := (HB.out _).trans (hb.mono (by simp));clear hb;go_wp2_with fail;refine bodyPost_ret (v := .tuple #[.agg #[.int .i64 k, .string u2, .int .i64 n, .int .i64 0], .int .i64 (m : Nat)]) (by simp [results, Tryz.results91, go_sem, c0, c1, c2, c3]) rfl ⟨rfl, below_set4 hbw (Nat.le_refl _) _ _ _ _⟩
set_option maxHeartbeats 2000000 in
theorem first_remark (s : ByteArray) (c : Int) (w : World) (x : Lx) (HC : Hid (∀ W, Calls Tryz.prog 107 #[.int .i32 c] W fun e w' => e = .returned (.int .i64 4) /\ W = w'))
 (HP : Hid (∀ W, Calls Tryz.prog 111 #[.string s, .string ⟨#[47, 42]⟩] W fun e w' => e = .returned (.bool true) /\ w' = W))
 (hs : Says 112 #[.string s] w x) :
 Calls Tryz.prog 91 #[.string s, .int .i32 c] w fun e w' => e = .returned (lxr x) /\ Below w.heap.size w w' := by
 have HB := Lib.hid (fun o : Obj => (Below.refl w.heap.size w).alloc (Nat.le_refl _) o);have HS := Lib.hid hs;clear hs;obtain ⟨k, u, n, m⟩ := x;unfold Says lxr lxv at HS;unfold lxr lxv;dsimp only at HS ⊢;generalize (⟨u.toArray⟩ : ByteArray) = u2 at *;go_enter Tryz.func91, Tryz.ntmps91;go_wp2_with fail;refine (HC.out _).mono ?_; rintro e w1 ⟨rfl, rfl⟩;go_wp2_with fail;refine (HP.out _).mono ?_; rintro e w1 ⟨rfl, rfl⟩;go_wp2_with fail;refine (HS.out _ (HB.out _)).mono ?_; rintro e w1 ⟨rfl, hb⟩;obtain ⟨c0, c1, c2, c3, f0, f1, f2, f3⟩ := cells4 (kept_at hb (new_at w _));have hbw := (HB.out _).trans (hb.mono (by simp));clear hb;go_wp2_with fail;refine bodyPost_ret (v := .tuple #[.agg #[.int .i64 k, .string u2, .int .i64 n, .int .i64 0], .int .i64 (m : Nat)]) (by simp [results, Tryz.results91, go_sem, c0, c1, c2, c3]) rfl ⟨rfl, below_set4 hbw (Nat.le_refl _) _ _ _ _⟩
set_option maxHeartbeats 2000000 in
theorem first_sign (s : ByteArray) (c : Int) (w : World) (x : Lx) (HC : Hid (∀ W, Calls Tryz.prog 107 #[.int .i32 c] W fun e w' => e = .returned (.int .i64 4) /\ W = w'))
 (HP : Hid (∀ W, Calls Tryz.prog 111 #[.string s, .string ⟨#[47, 42]⟩] W fun e w' => e = .returned (.bool false) /\ w' = W))
 (hs : Says 113 #[.string s] w x) (hn : NamesIt w x) :
 Calls Tryz.prog 91 #[.string s, .int .i32 c] w fun e w' => e = .returned (lxr (namedL x)) /\ Below w.heap.size w w' := by
 have HB := Lib.hid (fun o : Obj => (Below.refl w.heap.size w).alloc (Nat.le_refl _) o);have HS := Lib.hid hs;have HN := Lib.hid hn;clear hs hn;unfold NamesIt at HN;generalize namedL x = y at *;obtain ⟨k, u, n, m⟩ := x;obtain ⟨k', u', n', m'⟩ := y;unfold Says lxr lxv at HS;unfold lxr lxv at HN;unfold lxr lxv;dsimp only at HS HN ⊢;generalize (⟨u.toArray⟩ : ByteArray) = u2 at *;generalize (⟨u'.toArray⟩ : ByteArray) = u3 at *;go_enter Tryz.func91, Tryz.ntmps91;go_wp2_with fail;refine (HC.out _).mono ?_; rintro e w1 ⟨rfl, rfl⟩;go_wp2_with fail;refine (HP.out _).mono ?_; rintro e w1 ⟨rfl, rfl⟩;go_wp2_with fail;refine (HS.out _ (HB.out _)).mono ?_; rintro e w1 ⟨rfl, hb⟩;have hz := kept_at hb (new_at w _);have hbw := (HB.out _).trans (hb.mono (by simp));clear hb;go_wp2_with fail;refine (HN.out _ hbw).mono ?_; rintro e w2 ⟨rfl, hb⟩;obtain ⟨c0, c1, c2, c3, f0, f1, f2, f3⟩ := cells4 (kept_at hb hz);have hbw2 := hbw.trans (hb.mono hbw.size);clear hb hz hbw;go_wp2_with fail;refine bodyPost_ret (v := .tuple #[.agg #[.int .i64 k', .string u3, .int .i64 n', .int .i64 0], .int .i64 (m' : Nat)]) (by simp [results, Tryz.results91, go_sem, c0, c1, c2, c3]) rfl ⟨rfl, below_set4 hbw2 (Nat.le_refl _) _ _ _ _⟩
set_option maxHeartbeats 2000000 in
theorem first_quote (s : ByteArray) (c : Int) (w : World) (x : Lx) (HC : Hid (∀ W, Calls Tryz.prog 107 #[.int .i32 c] W fun e w' => e = .returned (.int .i64 8) /\ W = w'))
 (hs : Says 114 #[.string s] w x) (hn : NamesIt w x) :
 Calls Tryz.prog 91 #[.string s, .int .i32 c] w fun e w' => e = .returned (lxr (namedL x)) /\ Below w.heap.size w w' := by
 have HB := Lib.hid (fun o : Obj => (Below.refl w.heap.size w).alloc (Nat.le_refl _) o);have HS := Lib.hid hs;have HN := Lib.hid hn;clear hs hn;unfold NamesIt at HN;generalize namedL x = y at *;obtain ⟨k, u, n, m⟩ := x;obtain ⟨k', u', n', m'⟩ := y;unfold Says lxr lxv at HS;unfold lxr lxv at HN;unfold lxr lxv;dsimp only at HS HN ⊢;generalize (⟨u.toArray⟩ : ByteArray) = u2 at *;generalize (⟨u'.toArray⟩ : ByteArray) = u3 at *;go_enter Tryz.func91, Tryz.ntmps91;go_wp2_with fail;refine (HC.out _).mono ?_; rintro e w1 ⟨rfl, rfl⟩;go_wp2_with fail;refine (HS.out _ (HB.out _)).mono ?_; rintro e w1 ⟨rfl, hb⟩;have hz := kept_at hb (new_at w _);have hbw := (HB.out _).trans (hb.mono (by simp));clear hb;go_wp2_with fail;refine (HN.out _ hbw).mono ?_; rintro e w2 ⟨rfl, hb⟩;obtain ⟨c0, c1, c2, c3, f0, f1, f2, f3⟩ := cells4 (kept_at hb hz);have hbw2 := hbw.trans (hb.mono hbw.size);clear hb hz hbw;go_wp2_with fail;refine bodyPost_ret (v := .tuple #[.agg #[.int .i64 k', .string u3, .int .i64 n', .int .i64 0], .int .i64 (m' : Nat)]) (by simp [results, Tryz.results91, go_sem, c0, c1, c2, c3]) rfl ⟨rfl, below_set4 hbw2 (Nat.le_refl _) _ _ _ _⟩
set_option maxHeartbeats 2000000 in
theorem first_punct (s : ByteArray) (c : Int) (w : World) (x : Lx) (HC : Hid (∀ W, Calls Tryz.prog 107 #[.int .i32 c] W fun e w' => e = .returned (.int .i64 6) /\ W = w'))
 (hs : Says 115 #[.string s, .int .i32 c] w x) :
 Calls Tryz.prog 91 #[.string s, .int .i32 c] w fun e w' => e = .returned (lxr x) /\ Below w.heap.size w w' := by
 have HB := Lib.hid (fun o : Obj => (Below.refl w.heap.size w).alloc (Nat.le_refl _) o);have HS := Lib.hid hs;clear hs;obtain ⟨k, u, n, m⟩ := x;unfold Says lxr lxv at HS;unfold lxr lxv;dsimp only at HS ⊢;generalize (⟨u.toArray⟩ : ByteArray) = u2 at *;go_enter Tryz.func91, Tryz.ntmps91;go_wp2_with fail;refine (HC.out _).mono ?_; rintro e w1 ⟨rfl, rfl⟩;go_wp2_with fail;refine (HS.out _ (HB.out _)).mono ?_; rintro e w1 ⟨rfl, hb⟩;obtain ⟨c0, c1, c2, c3, f0, f1, f2, f3⟩ := cells4 (kept_at hb (new_at w _));have hbw := (HB.out _).trans (hb.mono (by simp));clear hb;go_wp2_with fail;refine bodyPost_ret (v := .tuple #[.agg #[.int .i64 k, .string u2, .int .i64 n, .int .i64 0], .int .i64 (m : Nat)]) (by simp [results, Tryz.results91, go_sem, c0, c1, c2, c3]) rfl ⟨rfl, below_set4 hbw (Nat.le_refl _) _ _ _ _⟩
set_option maxHeartbeats 2000000 in
theorem first_solo (s : ByteArray) (c : Int) (w : World) (x : Lx) (HC : Hid (∀ W, Calls Tryz.prog 107 #[.int .i32 c] W fun e w' => e = .returned (.int .i64 7) /\ W = w'))
 (hs : Says 115 #[.string s, .int .i32 c] w x) :
 Calls Tryz.prog 91 #[.string s, .int .i32 c] w fun e w' => e = .returned (lxr x) /\ Below w.heap.size w w' := by
 have HB := Lib.hid (fun o : Obj => (Below.refl w.heap.size w).alloc (Nat.le_refl _) o);have HS := Lib.hid hs;clear hs;obtain ⟨k, u, n, m⟩ := x;unfold Says lxr lxv at HS;unfold lxr lxv;dsimp only at HS ⊢;generalize (⟨u.toArray⟩ : ByteArray) = u2 at *;go_enter Tryz.func91, Tryz.ntmps91;go_wp2_with fail;refine (HC.out _).mono ?_; rintro e w1 ⟨rfl, rfl⟩;go_wp2_with fail;refine (HS.out _ (HB.out _)).mono ?_; rintro e w1 ⟨rfl, hb⟩;obtain ⟨c0, c1, c2, c3, f0, f1, f2, f3⟩ := cells4 (kept_at hb (new_at w _));have hbw := (HB.out _).trans (hb.mono (by simp));clear hb;go_wp2_with fail;refine bodyPost_ret (v := .tuple #[.agg #[.int .i64 k, .string u2, .int .i64 n, .int .i64 0], .int .i64 (m : Nat)]) (by simp [results, Tryz.results91, go_sem, c0, c1, c2, c3]) rfl ⟨rfl, below_set4 hbw (Nat.le_refl _) _ _ _ _⟩
set_option maxHeartbeats 2000000 in
theorem first_line (s : ByteArray) (c : Int) (w : World) (x : Lx) (HC : Hid (∀ W, Calls Tryz.prog 107 #[.int .i32 c] W fun e w' => e = .returned (.int .i64 0) /\ W = w'))
 (h37 : (c == 37) = true) (hs : Says 116 #[.string s] w x) :
 Calls Tryz.prog 91 #[.string s, .int .i32 c] w fun e w' => e = .returned (lxr x) /\ Below w.heap.size w w' := by
 have HB := Lib.hid (fun o : Obj => (Below.refl w.heap.size w).alloc (Nat.le_refl _) o);have HS := Lib.hid hs;clear hs;obtain ⟨k, u, n, m⟩ := x;unfold Says lxr lxv at HS;unfold lxr lxv;dsimp only at HS ⊢;generalize (⟨u.toArray⟩ : ByteArray) = u2 at *;go_enter Tryz.func91, Tryz.ntmps91;go_wp2_with fail;refine (HC.out _).mono ?_; rintro e w1 ⟨rfl, rfl⟩;go_wp2_with fail;refine (HS.out _ (HB.out _)).mono ?_; rintro e w1 ⟨rfl, hb⟩;obtain ⟨c0, c1, c2, c3, f0, f1, f2, f3⟩ := cells4 (kept_at hb (new_at w _));have hbw := (HB.out _).trans (hb.mono (by simp));clear hb;go_wp2_with fail;refine bodyPost_ret (v := .tuple #[.agg #[.int .i64 k, .string u2, .int .i64 n, .int .i64 0], .int .i64 (m : Nat)]) (by simp [results, Tryz.results91, go_sem, c0, c1, c2, c3]) rfl ⟨rfl, below_set4 hbw (Nat.le_refl _) _ _ _ _⟩
set_option maxHeartbeats 2000000 in
theorem first_blank (s : ByteArray) (c : Int) (w : World) (HC : Hid (∀ W, Calls Tryz.prog 107 #[.int .i32 c] W fun e w' => e = .returned (.int .i64 5) /\ W = w')) :
 Calls Tryz.prog 91 #[.string s, .int .i32 c] w fun e w' => e = .returned (lxr ⟨0, [], 0, 1⟩) /\ Below w.heap.size w w' := by
 have HB := Lib.hid (fun o : Obj => (Below.refl w.heap.size w).alloc (Nat.le_refl _) o);unfold lxr lxv;dsimp only;go_enter Tryz.func91, Tryz.ntmps91;go_wp2_with fail;refine (HC.out _).mono ?_; rintro e w1 ⟨rfl, rfl⟩;go_wp2_with fail;refine bodyPost_ret (v := .tuple #[.agg #[.int .i64 0, .string ⟨#[]⟩, .int .i64 0, .int .i64 0], .int .i64 1]) (by simp [results, Tryz.results91, go_sem]) rfl ⟨rfl, HB.out _⟩
set_option maxHeartbeats 2000000 in
theorem first_none (s : ByteArray) (c : Int) (w : World) (HC : Hid (∀ W, Calls Tryz.prog 107 #[.int .i32 c] W fun e w' => e = .returned (.int .i64 0) /\ W = w')) (h37 : (c == 37) = false) :
 Calls Tryz.prog 91 #[.string s, .int .i32 c] w fun e w' => e = .returned (lxr ⟨0, [], 0, 0⟩) /\ Below w.heap.size w w' := by
 have HB := Lib.hid (fun o : Obj => (Below.refl w.heap.size w).alloc (Nat.le_refl _) o);unfold lxr lxv;dsimp only;go_enter Tryz.func91, Tryz.ntmps91;go_wp2_with fail;refine (HC.out _).mono ?_; rintro e w1 ⟨rfl, rfl⟩;go_wp2_with fail;refine bodyPost_ret (v := .tuple #[.agg #[.int .i64 0, .string ⟨#[]⟩, .int .i64 0, .int .i64 0], .int .i64 0]) (by simp [results, Tryz.results91, go_sem]) rfl ⟨rfl, HB.out _⟩
theorem text_len {s : ByteArray} {n : Nat} (hs : s.size <= 200000) : (s.data.toList.take n).length <= maxLen := by
 rw [List.length_take, size_listT]; unfold maxLen; omega
theorem quoted_len {l : List UInt8} (h : l.length <= 200000) : (quotedL l).text.length <= maxLen := by
 unfold quotedL;cases hr : readL l with
 | none => show (0 : Nat) <= maxLen; unfold maxLen; omega
 | some r =>
  obtain ⟨t, k⟩ := r;have := readL_text hr;show t.length <= maxLen
  unfold maxLen; omega
theorem tok_first (s : ByteArray) (c : Int) (b : UInt8) (t : List UInt8) (w : World) (h : s.data.toList = b :: t) (hc : c = ((Lib.decodeL (b :: t)).1 : Int)) (hs : s.size <= 200000) (hT : TabsT w) :
 Calls Tryz.prog 91 #[.string s, .int .i32 c] w fun e w' => e = .returned (lxr (lexL s.data.toList)) /\ Below w.heap.size w w' := by
 obtain ⟨e1, e2, e3⟩ := cls_first hc;have HC := Lib.hid (fun W => dev_Class c W);rw [e1] at HC;have hl := size_listT s;have HP := Lib.hid (fun W => Tryz.strings_HasPrefix s ⟨#[47, 42]⟩ W);rw [show (⟨#[47, 42]⟩ : ByteArray).data.toList = [47, 42] from rfl, hasPre2] at HP;have hlow : ∀ k : Int, k ≠ 0 -> cls (b.toNat : Int) = k -> b.toNat < 128 := fun k hk h => by
  apply Classical.byContradiction
  intro hc;rw [cls_high _ (by omega)] at h;exact hk h.symm
 have word := fun k => (fun W _ => tok_word s k W : Says 109 #[.string s, .int .i64 k] w (wordL k s.data.toList));have number : Says 110 #[.string s] w (numberL s.data.toList) := fun W hb => tok_number s W (hT.on hb) hs;have signs : Says 113 #[.string s] w (signsL s.data.toList) := fun W _ => tok_signs s W;have quoted : Says 114 #[.string s] w (quotedL s.data.toList) := fun W hb => tok_quoted s W hs (hT.on hb);have line : Says 116 #[.string s] w ⟨0, [], 0, spanL lineR s.data.toList⟩ := fun W _ => tok_lineRemark s W;have single : b.toNat < 128 -> Says 115 #[.string s, .int .i32 c] w (singleL b) := fun hb W _ => tok_single s c b t W h (e3 hb);have closed : s.data.toList.take 2 = [47, 42] -> Says 112 #[.string s] w (remarkL s.data.toList) := fun h2 W hb => tok_closed s W (take2_size h2) hs (hT.on hb);rcases cls_range (b.toNat : Int) with q | q | q | q | q | q | q | q | q
 · rw [q] at HC;by_cases h37 : b = 37
   · have e : lexL s.data.toList = ⟨0, [], 0, spanL lineR s.data.toList⟩ := by
      rw [h]; unfold lexL; dsimp only;rw [q, if_neg (by decide), if_neg (by decide), if_neg (by decide), if_neg (by decide), if_neg (by decide), if_neg (by decide), if_neg (by decide), if_pos h37]
     rw [e];exact first_line s c w _ HC (by rw [e2, decide_eq_true h37]) line
   · have e : lexL s.data.toList = ⟨0, [], 0, 0⟩ := by
      rw [h]; unfold lexL; dsimp only;rw [q, if_neg (by decide), if_neg (by decide), if_neg (by decide), if_neg (by decide), if_neg (by decide), if_neg (by decide), if_neg (by decide), if_neg h37]; rfl
     rw [e];exact first_none s c w HC (by rw [e2, decide_eq_false h37])
 · rw [q] at HC;have e : lexL s.data.toList = namedL (wordL 1 s.data.toList) := by rw [h]; unfold lexL; dsimp only; rw [q, if_neg (by decide), if_pos rfl]
   rw [e];exact first_name s c w _ HC (word 1) (names_it (text_len hs) hT)
 · rw [q] at HC;have e : lexL s.data.toList = wordL 4 s.data.toList := by rw [h]; unfold lexL; dsimp only; rw [q, if_neg (by decide), if_neg (by decide), if_pos rfl]
   rw [e];exact first_big s c w _ HC (word 4)
 · rw [q] at HC;have e : lexL s.data.toList = numberL s.data.toList := by rw [h]; unfold lexL; dsimp only; rw [q, if_neg (by decide), if_neg (by decide), if_neg (by decide), if_pos rfl]
   rw [e];exact first_digit s c w _ HC number
 · rw [q] at HC;by_cases h2 : s.data.toList.take 2 = [47, 42]
   · rw [decide_eq_true h2] at HP;have e : lexL s.data.toList = remarkL s.data.toList := by
      rw [h] at h2 ⊢; unfold lexL; dsimp only; rw [q, if_neg (by decide), if_neg (by decide), if_neg (by decide), if_neg (by decide), if_pos rfl, if_pos h2]
     rw [e];exact first_remark s c w _ HC HP (closed h2)
   · rw [decide_eq_false h2] at HP;have e : lexL s.data.toList = namedL (signsL s.data.toList) := by
      rw [h] at h2 ⊢; unfold lexL; dsimp only; rw [q, if_neg (by decide), if_neg (by decide), if_neg (by decide), if_neg (by decide), if_pos rfl, if_neg h2]
     rw [e];exact first_sign s c w _ HC HP signs (names_it (text_len hs) hT)
 · rw [q] at HC;have e : lexL s.data.toList = ⟨0, [], 0, 1⟩ := by rw [h]; exact lex_blank5 b t q
   rw [e];exact first_blank s c w HC
 · have hb := hlow 6 (by decide) q;rw [q] at HC;have e : lexL s.data.toList = singleL b := by rw [h]; unfold lexL; dsimp only; rw [q, if_neg (by decide), if_neg (by decide), if_neg (by decide), if_neg (by decide), if_neg (by decide), if_neg (by decide), if_pos (.inl rfl)]
   rw [e];exact first_punct s c w _ HC (single hb)
 · have hb := hlow 7 (by decide) q;rw [q] at HC;have e : lexL s.data.toList = singleL b := by rw [h]; unfold lexL; dsimp only; rw [q, if_neg (by decide), if_neg (by decide), if_neg (by decide), if_neg (by decide), if_neg (by decide), if_neg (by decide), if_pos (.inr rfl)]
   rw [e];exact first_solo s c w _ HC (single hb)
 · rw [q] at HC;have e : lexL s.data.toList = namedL (quotedL s.data.toList) := by rw [h]; unfold lexL; dsimp only; rw [q, if_neg (by decide), if_neg (by decide), if_neg (by decide), if_neg (by decide), if_neg (by decide), if_pos rfl]
   rw [e];exact first_quote s c w _ HC quoted (names_it (quoted_len (by rw [hl]; exact hs)) hT)
def tok_v (t : Tok) : Value := .agg #[.int .i64 t.kind, .string ⟨t.text.toArray⟩, .int .i64 t.n, .int .i64 (t.pos : Nat)]
def tok4 (t : Tok) : List Value := [.int .i64 t.kind, .string ⟨t.text.toArray⟩, .int .i64 t.n, .int .i64 (t.pos : Nat)]
def tokCells (l : List Tok) : List Value := l.flatMap tok4
theorem tokCells_append (a b : List Tok) : tokCells (a ++ b) = tokCells a ++ tokCells b := List.flatMap_append
def OwnToks (B : Nat) (w : World) (v : Value) (l : List Tok) : Prop := w.ownsRow B 96 4 v l.length (tokCells l)
theorem infoTok : (Tryz.prog.info? 96).map (fun i => (i.zero, i.size, i.bytes)) = some (some (.agg #[.int .i64 0, .string ⟨#[]⟩, .int .i64 0, .int .i64 0]), 4, 40) := by kernel_rfl
theorem info_parts {t : TypeId} {z : Value} {s b : Nat} (h : (Tryz.prog.info? t).map (fun i => (i.zero, i.size, i.bytes)) = some (some z, s, b)) : ∃ i, Tryz.prog.info? t = some i /\ i.zero = some z /\ i.size = s /\ i.bytes = b := by
 cases hi : Tryz.prog.info? t with
 | none => rw [hi] at h; cases h
 | some i =>
  rw [hi] at h;injection h with h;injection h with h1 h2;injection h2 with h2 h3;exact ⟨i, rfl, h1, h2, h3⟩
theorem OwnToks.below {B : Nat} {w w' : World} {v : Value} {l : List Tok} (h : OwnToks B w v l) (hb : Below w.heap.size w w') : OwnToks B w' v l := by
 obtain ⟨hl, h0 | ⟨g, cap, cur, hv, hbg, hh, r⟩⟩ := h
 · exact ⟨hl, .inl h0⟩
 · exact ⟨hl, .inr ⟨g, cap, cur, hv, hbg, (hb.block g (Array.getElem?_eq_some_iff.1 hh).1).trans hh, r⟩⟩
theorem OwnToks.mono {B B' : Nat} {w : World} {v : Value} {l : List Tok} (h : OwnToks B w v l) (hB : B' <= B) : OwnToks B' w v l := by
 obtain ⟨hl, h0 | ⟨g, cap, cur, hv, hbg, r⟩⟩ := h
 · exact ⟨hl, .inl h0⟩
 · exact ⟨hl, .inr ⟨g, cap, cur, hv, Nat.le_trans hB hbg, r⟩⟩
theorem OwnToks.setOther {B : Nat} {w : World} {v : Value} {l : List Tok} (h : OwnToks B w v l) {q i : Nat} (hq : q < B) (u : Value) : OwnToks B (w.setCell ⟨q, i, none⟩ u) v l := by
 obtain ⟨hl, h0 | ⟨g, cap, cur, hv, hbg, hh, r⟩⟩ := h
 · exact ⟨hl, .inl h0⟩
 · refine ⟨hl, .inr ⟨g, cap, cur, hv, hbg, ?_, r⟩⟩;rw [Below.heap_setCell _ _ _ _ (show g ≠ q from fun e => by omega)];exact hh
theorem OwnToks.slice {B : Nat} {w : World} {v : Value} {l : List Tok} (h : OwnToks B w v l) : ∃ ad cap, v = .slice ad l.length cap /\ l.length <= cap /\ cap <= maxLen := by
 obtain ⟨hl, ⟨rfl, h0⟩ | ⟨g, cap, cur, rfl, hbg, hh, hnc, hcm, r⟩⟩ := h
 · exact ⟨none, 0, by rw [h0], by omega, Nat.zero_le _⟩
 · exact ⟨some ⟨g, 0, none⟩, cap, rfl, hnc, hcm⟩
set_option maxHeartbeats 2000000 in
theorem tok_opens (k n p : Int) (t : List UInt8) (w : World) :
 Calls Tryz.prog 90 #[.agg #[.int .i64 k, .string ⟨t.toArray⟩, .int .i64 n, .int .i64 p]] w fun e w' => e = .returned (.bool (opensL k t)) /\ Below w.heap.size w w' := by
 have HB := Lib.hid (fun o : Obj => (Below.refl w.heap.size w).alloc (Nat.le_refl _) o);obtain ⟨E, hE⟩ : ∃ E, opensL k t = E := ⟨_, rfl⟩;rw [hE];unfold opensL at hE;have f1 : ((⟨t.toArray⟩ : ByteArray).toList == [93]) = decide (t = [93]) := by rw [ByteArray.toList_eq, Bool.eq_iff_iff]; simp
 have f2 : ((⟨t.toArray⟩ : ByteArray).toList == [125]) = decide (t = [125]) := by rw [ByteArray.toList_eq, Bool.eq_iff_iff]; simp
 generalize (⟨t.toArray⟩ : ByteArray) = u at *;generalize decide (t = [93]) = b1 at *;generalize decide (t = [125]) = b2 at *;have hk : k = 1 \/ k = 2 \/ k = 3 \/ k = 6 \/ ((k == 1) = false /\ (k == 2) = false /\ (k == 3) = false /\ (k == 6) = false) := by
  simp only [beq_eq_false_iff_ne]; omega
 rcases hk with rfl | rfl | rfl | rfl | ⟨e1, e2, e3, e4⟩
 iterate 3
  · have HE : Hid (E = true) := Lib.hid (by rw [<- hE]; rfl);clear hE;go_enter Tryz.func90, Tryz.ntmps90;go_wp2_with fail;go_ret;exact ⟨ret_boolT HE.out.symm, HB.out _⟩
 · have HE : Hid (E = (b1 || b2)) := Lib.hid (by rw [<- hE]; rfl);clear hE;cases b1
   all_goals
    go_enter Tryz.func90, Tryz.ntmps90;go_wp2_with fail;go_ret;exact ⟨ret_boolT (by rw [HE.out]; first | rfl | (cases b2 <;> rfl)), HB.out _⟩
 · have HE : Hid (E = false) := Lib.hid (by
    rw [<- hE];simp only [beq_eq_false_iff_ne] at e1 e2 e3 e4
    rw [decide_eq_false e1, decide_eq_false e2, decide_eq_false e3, decide_eq_false e4]; rfl)
   clear hE;go_enter Tryz.func90, Tryz.ntmps90;go_wp2_with fail;go_ret;exact ⟨ret_boolT HE.out.symm, HB.out _⟩
structure CutMem (L : Nat) (w : World) (l : List Tok) (e : Int) (t : Bool) (v : Value) : Prop where
 list : w.heap[L]? = some (.cells #[v] 89 (0, 0))
 fin : w.heap[L + 1]? = some (.cells #[.int .i64 e] 3 (0, 0))
 tight : w.heap[L + 2]? = some (.cells #[.bool t] 4 (0, 0))
 own : OwnToks (L + 4) w v l
theorem cells1 {w : World} {q : Nat} {a : Value} {t : TypeId} (h : w.heap[q]? = some (.cells #[a] t (0, 0))) : w.cell? ⟨q, 0, none⟩ = some a /\ w.frozen? ⟨q, 0, none⟩ = false := by
 simp [World.cell?, World.frozen?, h]
theorem CutMem.below {L : Nat} {w w' : World} {l : List Tok} {e : Int} {t : Bool} {v : Value} (h : CutMem L w l e t v) (hb : Below w.heap.size w w') : CutMem L w' l e t v :=
 ⟨kept_at hb h.list, kept_at hb h.fin, kept_at hb h.tight, h.own.below hb⟩
theorem set1 {w : World} {q : Nat} {a : Value} {t : TypeId} (h : w.heap[q]? = some (.cells #[a] t (0, 0))) (u : Value) : (w.setCell ⟨q, 0, none⟩ u).heap[q]? = some (.cells #[u] t (0, 0)) := by
 have := Lib.heap_setCell_same (i := 0) h u;simpa using this
theorem setO {w : World} {q k : Nat} {i : Nat} {o : Obj} (h : w.heap[k]? = some o) (hne : k ≠ q) (u : Value) : (w.setCell ⟨q, i, none⟩ u).heap[k]? = some o := by
 rw [Below.heap_setCell _ _ _ _ hne]; exact h
theorem CutMem.setFin {L : Nat} {w : World} {l : List Tok} {e : Int} {t : Bool} {v : Value} (h : CutMem L w l e t v) (e2 : Int) : CutMem L (w.setCell ⟨L + 1, 0, none⟩ (.int .i64 e2)) l e2 t v :=
 ⟨setO h.list (by omega) _, set1 h.fin _, setO h.tight (by omega) _, h.own.setOther (by omega) _⟩
theorem CutMem.setTight {L : Nat} {w : World} {l : List Tok} {e : Int} {t : Bool} {v : Value} (h : CutMem L w l e t v) (t2 : Bool) : CutMem L (w.setCell ⟨L + 2, 0, none⟩ (.bool t2)) l e t2 v :=
 ⟨setO h.list (by omega) _, setO h.fin (by omega) _, set1 h.tight _, h.own.setOther (by omega) _⟩
def CutKeep (L : Nat) (w w' : World) : Prop := Below L w w' /\ ∀ s pos, w.heap[L + 3]? = some (.stringIter s pos) -> w'.heap[L + 3]? = some (.stringIter s pos)
theorem CutKeep.trans {L : Nat} {a b c : World} (h : CutKeep L a b) (k : CutKeep L b c) : CutKeep L a c := ⟨h.1.trans k.1, fun s p hi => k.2 s p (h.2 s p hi)⟩
theorem CutKeep.below {L : Nat} {a b : World} (h : Below a.heap.size a b) (hL : L <= a.heap.size) : CutKeep L a b := ⟨h.mono hL, fun _ _ hi => kept_at h hi⟩
theorem CutKeep.set {L : Nat} (w : World) {q i : Nat} (h1 : L <= q) (h2 : q ≠ L + 3) (u : Value) : CutKeep L w (w.setCell ⟨q, i, none⟩ u) :=
 ⟨(Below.refl _ _).setCell (p := ⟨q, i, none⟩) h1 u, fun _ _ hi => setO hi (by omega) u⟩
theorem CutKeep.set2 {L : Nat} {a w : World} (h : CutKeep L a w) (u u2 : Value) : CutKeep L a ((w.setCell ⟨L + 1, 0, none⟩ u).setCell ⟨L + 2, 0, none⟩ u2) :=
 (h.trans (CutKeep.set w (by omega) (by omega) u)).trans (CutKeep.set _ (by omega) (by omega) u2)
theorem OwnToks.big {B : Nat} {w : World} {v : Value} {l : List Tok} (h : OwnToks B w v l) {k : Nat} (hk : k < B) : some k ≠ v.ownBlock := fun e => by
 have := (World.ownsRow.lt h k e.symm).1;omega
theorem CutMem.grow {L : Nat} {w w1 w3 : World} {l : List Tok} {e : Int} {t : Bool} {v v3 : Value} (h : CutMem L w1 l e t v) (hk : CutKeep L w w1) (hL : L + 4 <= w1.heap.size) (x : Tok)
 (hown : w3.ownsRow (L + 4) 96 4 v3 (l.length + 1) (tokCells l ++ tok4 x)) (hg : w1.grownBy w3 v.ownBlock) :
 CutMem L (w3.setCell ⟨L, 0, none⟩ v3) (l ++ [x]) e t v3 /\ CutKeep L w (w3.setCell ⟨L, 0, none⟩ v3) /\ (∀ k o, L + 4 <= k -> some k ≠ v.ownBlock -> w1.heap[k]? = some o -> (w3.setCell ⟨L, 0, none⟩ v3).heap[k]? = some o) /\ w3.heap[L]? = some (.cells #[v] 89 (0, 0)) := by
 have keep : ∀ k o, some k ≠ v.ownBlock -> w1.heap[k]? = some o -> w3.heap[k]? = some o := fun k o hne ho => by
  rw [hg.block k (Array.getElem?_eq_some_iff.1 ho).1 hne]; exact ho
 have hB : ∀ k, k < L + 4 -> some k ≠ v.ownBlock := fun k hk => h.own.big hk;have hlist := keep _ _ (hB L (by omega)) h.list;have hown4 : OwnToks (L + 4) w3 v3 (l ++ [x]) := by
  unfold OwnToks;rw [List.length_append, tokCells_append];exact hown
 refine ⟨⟨set1 hlist _, setO (keep _ _ (hB _ (by omega)) h.fin) (by omega) _, setO (keep _ _ (hB _ (by omega)) h.tight) (by omega) _, hown4.setOther (by omega) _⟩, ?_, ?_, hlist⟩
 · refine CutKeep.trans (b := w3) ?_ (CutKeep.set w3 (Nat.le_refl _) (by omega) v3);refine hk.trans ⟨(Below.refl L w1).grown hg (by omega) (fun k hk => Nat.le_trans (by omega) (World.ownsRow.lt h.own k hk).1), fun s pos hi => keep _ _ (hB _ (by omega)) hi⟩
 · intro k o hk hne ho;exact setO (keep _ _ hne ho) (by omega) _
def CutOut (L : Nat) (w : World) (l : List Tok) (e : Int) (t : Bool) (w' : World) : Prop := (∃ v, CutMem L w' l e t v) /\ CutKeep L w w'
set_option maxHeartbeats 4000000 in
theorem cut1_token (L : Nat) (w : World) (l : List Tok) (e : Int) (tg : Bool) (v : Value) (k n : Int) (t : List UInt8) (p m : Nat) (k2 : Int) (h : CutMem L w l e tg v) (hL : L + 4 <= w.heap.size) (hp : p <= 1000000) (hm : m <= 1000000) (hl : l.length <= 1000000)
 (h0 : (k2 != 0) = true)
 (hw : (tg = true /\ ((⟨t.toArray⟩ : ByteArray).toList == [40]) = true /\ (k == 6) = true /\ k2 = 7) \/ (tg = false /\ k2 = k) \/ (tg = true /\ ((⟨t.toArray⟩ : ByteArray).toList == [40]) = false /\ k2 = k) \/ (tg = true /\ ((⟨t.toArray⟩ : ByteArray).toList == [40]) = true /\ (k == 6) = false /\ k2 = k)) :
 Calls Tryz.prog 89 #[.agg #[.int .i64 k, .string ⟨t.toArray⟩, .int .i64 n, .int .i64 0], .int .i64 (p : Nat), .int .i64 (m : Nat), .pointer (some ⟨L + 2, 0, none⟩), .pointer (some ⟨L, 0, none⟩), .pointer (some ⟨L + 1, 0, none⟩)] w
  fun e' w' => (∃ r, e' = .returned r) /\ CutOut L w (l ++ [⟨k2, t, n, p⟩]) ((p + m : Nat) : Int) (opensL k2 t) w' := by
 have HO := Lib.hid (fun W => tok_opens k2 n (p : Nat) t W);have HB := Lib.hid (fun o o2 : Obj => ((Below.refl w.heap.size w).alloc (Nat.le_refl _) o).alloc (by simp) o2);obtain ⟨l0, l1⟩ := cells1 h.list;obtain ⟨e0, e1⟩ := cells1 h.fin;obtain ⟨t0, t1⟩ := cells1 h.tight;obtain ⟨i0, hi, hz0, hz1, hz2⟩ := info_parts infoTok;have hlt0 : L < w.heap.size := by omega
 have hlt1 : L + 1 < w.heap.size := by omega
 have hlt2 : L + 2 < w.heap.size := by omega
 have HH := Lib.hid h;have HT : Hid (tok4 ⟨k2, t, n, p⟩ = [.int .i64 k2, .string ⟨t.toArray⟩, .int .i64 n, .int .i64 (p : Nat)]) := Lib.hid rfl;clear h;generalize (⟨t.toArray⟩ : ByteArray) = u at *;rcases hw with ⟨rfl, f1, f2, rfl⟩ | ⟨rfl, rfl⟩ | ⟨rfl, f1, rfl⟩ | ⟨rfl, f1, f2, rfl⟩
 · go_enter Tryz.func89, Tryz.ntmps89;go_wp2_with (first
    | (at_builtin; refine wpList_append_lies _ rfl _ _ 89 rfl (L + 4) 96 i0 (.agg #[.int .i64 0, .string ⟨#[]⟩, .int .i64 0, .int .i64 0]) 4 40 Tryz.underlying89 hi hz0 hz1 hz2 rfl (by decide) _ _ _ rfl (World.ownsRow.alloc (World.ownsRow.alloc HH.out.own _) _) ⟨w.heap.size + 1, 0, none⟩ 1 1 [.int .i64 7, .string u, .int .i64 n, .int .i64 (p : Nat)] rfl rfl ?c1 ?c2 (by decide) ?c3 ?c4 ?c5 _ rfl ?_))
   case c1 =>
    intro j x hj;match j, hj with
    | 0, hj => simp at hj; subst hj; simp [Addr.add]
    | 1, hj => simp at hj; subst hj; simp [Addr.add]
    | 2, hj => simp at hj; subst hj; simp [Addr.add]
    | 3, hj => simp at hj; subst hj; simp [Addr.add]
   case c2 => intro x hx; simp at hx; rcases hx with rfl | rfl | rfl | rfl <;> rfl
   case c3 => unfold maxLen; omega
   case c4 => omega
   case c5 => simp; omega
   intro g3 cap3 w3 hown3 hgrow _ hlt4;have hb2 : Below w.heap.size w ((w.alloc (.cells #[.int .i64 7, .string u, .int .i64 n, .int .i64 (p : Nat)] 96)).alloc (.cells #[.int .i64 7, .string u, .int .i64 n, .int .i64 (p : Nat)] 96)) := HB.out _ _;have hg := (HH.out.below hb2).grow (CutKeep.below hb2 (by omega)) (by simp; omega) ⟨7, t, n, p⟩ (by rw [show tok4 ⟨7, t, n, p⟩ = _ from HT.out]; exact hown3) hgrow;obtain ⟨hcm, hck, hkp, hls⟩ := hg;obtain ⟨l2, l3⟩ := cells1 hls;have hbx := hkp w.heap.size _ (by omega) (fun e => by have := (World.ownsRow.lt HH.out.own _ e.symm).2; omega) (past_at (new_at w _) _);obtain ⟨x0, x1, x2, x3, y0, y1, y2, y3⟩ := cells4 hbx;have hlt3 : L < w3.heap.size := World.block_lt_of_cell? w3 _ l2;have HCM := Lib.hid hcm;have HCK := Lib.hid hck;have HBX := Lib.hid hbx;clear hown3 hgrow hcm hck hkp hls hb2 hbx;go_wp2_with fail;refine (HO.out _).mono ?_; rintro e w4 ⟨rfl, hb4⟩;have hc4 := HCM.out.below hb4;have hk4 := HCK.out.trans (CutKeep.below hb4 (by simp; omega));obtain ⟨m0, m1⟩ := cells1 hc4.fin;obtain ⟨q0, q1⟩ := cells1 hc4.tight;have HC4 := Lib.hid hc4;have HK4 := Lib.hid hk4;have hs1 : L + 1 < w4.heap.size := World.block_lt_of_cell? w4 _ m0;have hs2 : L + 2 < w4.heap.size := World.block_lt_of_cell? w4 _ q0;clear hb4 hc4 hk4 l2 l3 x0 x1 x2 x3 y0 y1 y2 y3;go_wp2_with fail;go_end0;refine ⟨⟨_, rfl⟩, ⟨.slice (some ⟨g3, 0, none⟩) (l.length + 1) cap3, ?_⟩, ?_⟩
   · have := (HC4.out.setFin ((p : Int) + m)).setTight (opensL 7 t);rw [show ((p + m : Nat) : Int) = (p : Int) + m from by omega];exact this
   · exact HK4.out.set2 _ _
 · go_enter Tryz.func89, Tryz.ntmps89;go_wp2_with (first
    | (at_builtin; refine wpList_append_lies _ rfl _ _ 89 rfl (L + 4) 96 i0 (.agg #[.int .i64 0, .string ⟨#[]⟩, .int .i64 0, .int .i64 0]) 4 40 Tryz.underlying89 hi hz0 hz1 hz2 rfl (by decide) _ _ _ rfl (World.ownsRow.alloc (World.ownsRow.alloc HH.out.own _) _) ⟨w.heap.size + 1, 0, none⟩ 1 1 [.int .i64 k2, .string u, .int .i64 n, .int .i64 (p : Nat)] rfl rfl ?c1 ?c2 (by decide) ?c3 ?c4 ?c5 _ rfl ?_))
   case c1 =>
    intro j x hj;match j, hj with
    | 0, hj => simp at hj; subst hj; simp [Addr.add]
    | 1, hj => simp at hj; subst hj; simp [Addr.add]
    | 2, hj => simp at hj; subst hj; simp [Addr.add]
    | 3, hj => simp at hj; subst hj; simp [Addr.add]
   case c2 => intro x hx; simp at hx; rcases hx with rfl | rfl | rfl | rfl <;> rfl
   case c3 => unfold maxLen; omega
   case c4 => omega
   case c5 => simp; omega
   intro g3 cap3 w3 hown3 hgrow _ hlt4;have hb2 : Below w.heap.size w ((w.alloc (.cells #[.int .i64 k2, .string u, .int .i64 n, .int .i64 (p : Nat)] 96)).alloc (.cells #[.int .i64 k2, .string u, .int .i64 n, .int .i64 (p : Nat)] 96)) := HB.out _ _;have hg := (HH.out.below hb2).grow (CutKeep.below hb2 (by omega)) (by simp; omega) ⟨k2, t, n, p⟩ (by rw [show tok4 ⟨k2, t, n, p⟩ = _ from HT.out]; exact hown3) hgrow;obtain ⟨hcm, hck, hkp, hls⟩ := hg;obtain ⟨l2, l3⟩ := cells1 hls;have hbx := hkp w.heap.size _ (by omega) (fun e => by have := (World.ownsRow.lt HH.out.own _ e.symm).2; omega) (past_at (new_at w _) _);obtain ⟨x0, x1, x2, x3, y0, y1, y2, y3⟩ := cells4 hbx;have hlt3 : L < w3.heap.size := World.block_lt_of_cell? w3 _ l2;have HCM := Lib.hid hcm;have HCK := Lib.hid hck;have HBX := Lib.hid hbx;clear hown3 hgrow hcm hck hkp hls hb2 hbx;go_wp2_with fail;refine (HO.out _).mono ?_; rintro e w4 ⟨rfl, hb4⟩;have hc4 := HCM.out.below hb4;have hk4 := HCK.out.trans (CutKeep.below hb4 (by simp; omega));obtain ⟨m0, m1⟩ := cells1 hc4.fin;obtain ⟨q0, q1⟩ := cells1 hc4.tight;have HC4 := Lib.hid hc4;have HK4 := Lib.hid hk4;have hs1 : L + 1 < w4.heap.size := World.block_lt_of_cell? w4 _ m0;have hs2 : L + 2 < w4.heap.size := World.block_lt_of_cell? w4 _ q0;clear hb4 hc4 hk4 l2 l3 x0 x1 x2 x3 y0 y1 y2 y3;go_wp2_with fail;go_end0;refine ⟨⟨_, rfl⟩, ⟨.slice (some ⟨g3, 0, none⟩) (l.length + 1) cap3, ?_⟩, ?_⟩
   · have := (HC4.out.setFin ((p : Int) + m)).setTight (opensL k2 t);rw [show ((p + m : Nat) : Int) = (p : Int) + m from by omega];exact this
   · exact HK4.out.set2 _ _
 · go_enter Tryz.func89, Tryz.ntmps89;go_wp2_with (first
    | (at_builtin; refine wpList_append_lies _ rfl _ _ 89 rfl (L + 4) 96 i0 (.agg #[.int .i64 0, .string ⟨#[]⟩, .int .i64 0, .int .i64 0]) 4 40 Tryz.underlying89 hi hz0 hz1 hz2 rfl (by decide) _ _ _ rfl (World.ownsRow.alloc (World.ownsRow.alloc HH.out.own _) _) ⟨w.heap.size + 1, 0, none⟩ 1 1 [.int .i64 k2, .string u, .int .i64 n, .int .i64 (p : Nat)] rfl rfl ?c1 ?c2 (by decide) ?c3 ?c4 ?c5 _ rfl ?_))
   case c1 =>
    intro j x hj;match j, hj with
    | 0, hj => simp at hj; subst hj; simp [Addr.add]
    | 1, hj => simp at hj; subst hj; simp [Addr.add]
    | 2, hj => simp at hj; subst hj; simp [Addr.add]
    | 3, hj => simp at hj; subst hj; simp [Addr.add]
   case c2 => intro x hx; simp at hx; rcases hx with rfl | rfl | rfl | rfl <;> rfl
   case c3 => unfold maxLen; omega
   case c4 => omega
   case c5 => simp; omega
   intro g3 cap3 w3 hown3 hgrow _ hlt4;have hb2 : Below w.heap.size w ((w.alloc (.cells #[.int .i64 k2, .string u, .int .i64 n, .int .i64 (p : Nat)] 96)).alloc (.cells #[.int .i64 k2, .string u, .int .i64 n, .int .i64 (p : Nat)] 96)) := HB.out _ _;have hg := (HH.out.below hb2).grow (CutKeep.below hb2 (by omega)) (by simp; omega) ⟨k2, t, n, p⟩ (by rw [show tok4 ⟨k2, t, n, p⟩ = _ from HT.out]; exact hown3) hgrow;obtain ⟨hcm, hck, hkp, hls⟩ := hg;obtain ⟨l2, l3⟩ := cells1 hls;have hbx := hkp w.heap.size _ (by omega) (fun e => by have := (World.ownsRow.lt HH.out.own _ e.symm).2; omega) (past_at (new_at w _) _);obtain ⟨x0, x1, x2, x3, y0, y1, y2, y3⟩ := cells4 hbx;have hlt3 : L < w3.heap.size := World.block_lt_of_cell? w3 _ l2;have HCM := Lib.hid hcm;have HCK := Lib.hid hck;have HBX := Lib.hid hbx;clear hown3 hgrow hcm hck hkp hls hb2 hbx;go_wp2_with fail;refine (HO.out _).mono ?_; rintro e w4 ⟨rfl, hb4⟩;have hc4 := HCM.out.below hb4;have hk4 := HCK.out.trans (CutKeep.below hb4 (by simp; omega));obtain ⟨m0, m1⟩ := cells1 hc4.fin;obtain ⟨q0, q1⟩ := cells1 hc4.tight;have HC4 := Lib.hid hc4;have HK4 := Lib.hid hk4;have hs1 : L + 1 < w4.heap.size := World.block_lt_of_cell? w4 _ m0;have hs2 : L + 2 < w4.heap.size := World.block_lt_of_cell? w4 _ q0;clear hb4 hc4 hk4 l2 l3 x0 x1 x2 x3 y0 y1 y2 y3;go_wp2_with fail;go_end0;refine ⟨⟨_, rfl⟩, ⟨.slice (some ⟨g3, 0, none⟩) (l.length + 1) cap3, ?_⟩, ?_⟩
   · have := (HC4.out.setFin ((p : Int) + m)).setTight (opensL k2 t);rw [show ((p + m : Nat) : Int) = (p : Int) + m from by omega];exact this
   · exact HK4.out.set2 _ _
 · go_enter Tryz.func89, Tryz.ntmps89;go_wp2_with (first
    | (at_builtin; refine wpList_append_lies _ rfl _ _ 89 rfl (L + 4) 96 i0 (.agg #[.int .i64 0, .string ⟨#[]⟩, .int .i64 0, .int .i64 0]) 4 40 Tryz.underlying89 hi hz0 hz1 hz2 rfl (by decide) _ _ _ rfl (World.ownsRow.alloc (World.ownsRow.alloc HH.out.own _) _) ⟨w.heap.size + 1, 0, none⟩ 1 1 [.int .i64 k2, .string u, .int .i64 n, .int .i64 (p : Nat)] rfl rfl ?c1 ?c2 (by decide) ?c3 ?c4 ?c5 _ rfl ?_))
   case c1 =>
    intro j x hj;match j, hj with
    | 0, hj => simp at hj; subst hj; simp [Addr.add]
    | 1, hj => simp at hj; subst hj; simp [Addr.add]
    | 2, hj => simp at hj; subst hj; simp [Addr.add]
    | 3, hj => simp at hj; subst hj; simp [Addr.add]
   case c2 => intro x hx; simp at hx; rcases hx with rfl | rfl | rfl | rfl <;> rfl
   case c3 => unfold maxLen; omega
   case c4 => omega
   case c5 => simp; omega
   intro g3 cap3 w3 hown3 hgrow _ hlt4;have hb2 : Below w.heap.size w ((w.alloc (.cells #[.int .i64 k2, .string u, .int .i64 n, .int .i64 (p : Nat)] 96)).alloc (.cells #[.int .i64 k2, .string u, .int .i64 n, .int .i64 (p : Nat)] 96)) := HB.out _ _;have hg := (HH.out.below hb2).grow (CutKeep.below hb2 (by omega)) (by simp; omega) ⟨k2, t, n, p⟩ (by rw [show tok4 ⟨k2, t, n, p⟩ = _ from HT.out]; exact hown3) hgrow;obtain ⟨hcm, hck, hkp, hls⟩ := hg;obtain ⟨l2, l3⟩ := cells1 hls;have hbx := hkp w.heap.size _ (by omega) (fun e => by have := (World.ownsRow.lt HH.out.own _ e.symm).2; omega) (past_at (new_at w _) _);obtain ⟨x0, x1, x2, x3, y0, y1, y2, y3⟩ := cells4 hbx;have hlt3 : L < w3.heap.size := World.block_lt_of_cell? w3 _ l2;have HCM := Lib.hid hcm;have HCK := Lib.hid hck;have HBX := Lib.hid hbx;clear hown3 hgrow hcm hck hkp hls hb2 hbx;go_wp2_with fail;refine (HO.out _).mono ?_; rintro e w4 ⟨rfl, hb4⟩;have hc4 := HCM.out.below hb4;have hk4 := HCK.out.trans (CutKeep.below hb4 (by simp; omega));obtain ⟨m0, m1⟩ := cells1 hc4.fin;obtain ⟨q0, q1⟩ := cells1 hc4.tight;have HC4 := Lib.hid hc4;have HK4 := Lib.hid hk4;have hs1 : L + 1 < w4.heap.size := World.block_lt_of_cell? w4 _ m0;have hs2 : L + 2 < w4.heap.size := World.block_lt_of_cell? w4 _ q0;clear hb4 hc4 hk4 l2 l3 x0 x1 x2 x3 y0 y1 y2 y3;go_wp2_with fail;go_end0;refine ⟨⟨_, rfl⟩, ⟨.slice (some ⟨g3, 0, none⟩) (l.length + 1) cap3, ?_⟩, ?_⟩
   · have := (HC4.out.setFin ((p : Int) + m)).setTight (opensL k2 t);rw [show ((p + m : Nat) : Int) = (p : Int) + m from by omega];exact this
   · exact HK4.out.set2 _ _
set_option maxHeartbeats 4000000 in
theorem cut1_passed (L : Nat) (w : World) (l : List Tok) (e : Int) (tg : Bool) (v : Value) (n : Int) (p m : Nat) (h : CutMem L w l e tg v) (hL : L + 4 <= w.heap.size) (hp : p <= 1000000) (hm : m <= 1000000) :
 Calls Tryz.prog 89 #[.agg #[.int .i64 0, .string ⟨#[]⟩, .int .i64 n, .int .i64 0], .int .i64 (p : Nat), .int .i64 (m : Nat), .pointer (some ⟨L + 2, 0, none⟩), .pointer (some ⟨L, 0, none⟩), .pointer (some ⟨L + 1, 0, none⟩)] w
  fun e' w' => (∃ r, e' = .returned r) /\ CutOut L w l ((p + m : Nat) : Int) false w' := by
 have HO := Lib.hid (fun W => tok_opens 0 n 0 [] W);rw [show opensL 0 [] = false from rfl] at HO;have HB := Lib.hid (fun o : Obj => (Below.refl w.heap.size w).alloc (Nat.le_refl _) o);obtain ⟨e0, e1⟩ := cells1 h.fin;obtain ⟨t0, t1⟩ := cells1 h.tight;have f1 : ((⟨#[]⟩ : ByteArray).toList == [40]) = false := by decide +kernel
 have hlt1 : L + 1 < w.heap.size := by omega
 have hlt2 : L + 2 < w.heap.size := by omega
 have HH := Lib.hid h;clear h;cases tg
 all_goals
  go_enter Tryz.func89, Tryz.ntmps89;go_wp2_with fail;refine (HO.out _).mono ?_; rintro e w4 ⟨rfl, hb4⟩;have hb5 := (HB.out _).trans (hb4.mono (by simp));have hc4 := HH.out.below hb5;have hk4 := CutKeep.below hb5 (show L <= w.heap.size by omega);obtain ⟨m0, m1⟩ := cells1 hc4.fin;obtain ⟨q0, q1⟩ := cells1 hc4.tight;have HC4 := Lib.hid hc4;have HK4 := Lib.hid hk4;have hs1 : L + 1 < w4.heap.size := World.block_lt_of_cell? w4 _ m0;have hs2 : L + 2 < w4.heap.size := World.block_lt_of_cell? w4 _ q0;clear hb4 hb5 hc4 hk4 e0 e1 t0 t1;go_wp2_with fail;go_end0;refine ⟨⟨_, rfl⟩, ⟨v, ?_⟩, ?_⟩
  · have := (HC4.out.setFin ((p : Int) + m)).setTight false;rw [show ((p + m : Nat) : Int) = (p : Int) + m from by omega];exact this
  · exact HK4.out.set2 _ _
theorem cut1 (L : Nat) (w : World) (l : List Tok) (e : Int) (tg : Bool) (v : Value) (x : Lx) (p m : Nat) (h : CutMem L w l e tg v) (hL : L + 4 <= w.heap.size) (hp : p <= 1000000) (hm : m <= 1000000) (hl : l.length <= 1000000) (hx : x.kind = 0 -> x.text = []) :
 Calls Tryz.prog 89 #[lxv x, .int .i64 (p : Nat), .int .i64 (m : Nat), .pointer (some ⟨L + 2, 0, none⟩), .pointer (some ⟨L, 0, none⟩), .pointer (some ⟨L + 1, 0, none⟩)] w
  fun e' w' => (∃ r, e' = .returned r) /\ CutOut L w (if x.kind = 0 then l else l ++ [⟨kindL tg x, x.text, x.n, p⟩]) ((p + m : Nat) : Int) (if x.kind = 0 then false else opensL (kindL tg x) x.text) w' := by
 obtain ⟨k, t, n, wd⟩ := x;unfold lxv;dsimp only at hx ⊢;by_cases h0 : k = 0
 · rw [if_pos h0, if_pos h0, hx h0, h0];exact cut1_passed L w l e tg v n p m h hL hp hm
 · rw [if_neg h0, if_neg h0];have e40 : ((⟨t.toArray⟩ : ByteArray).toList == [40]) = decide (t = [40]) := by rw [ByteArray.toList_eq, Bool.eq_iff_iff]; simp
   by_cases h7 : tg = true /\ t = [40] /\ k = 6
   · have hk : kindL tg ⟨k, t, n, wd⟩ = 7 := if_pos h7;rw [hk];exact cut1_token L w l e tg v k n t p m 7 h hL hp hm hl (by decide) (.inl ⟨h7.1, by rw [e40, decide_eq_true h7.2.1], by rw [h7.2.2]; rfl, rfl⟩)
   · have hk : kindL tg ⟨k, t, n, wd⟩ = k := if_neg h7;rw [hk];refine cut1_token L w l e tg v k n t p m k h hL hp hm hl (by simpa using h0) (.inr ?_);cases tg with
     | false => exact .inl ⟨rfl, rfl⟩
     | true =>
      by_cases h8 : t = [40]
      · exact .inr (.inr ⟨rfl, by rw [e40, decide_eq_true h8], by simpa using fun h9 => h7 ⟨rfl, h8, h9⟩, rfl⟩)
      · exact .inr (.inl ⟨rfl, by rw [e40, decide_eq_false h8], rfl⟩)
theorem CutMem.iterAt {L : Nat} {w : World} {l : List Tok} {e : Int} {t : Bool} {v : Value} (h : CutMem L w l e t v) (s : ByteArray) (pos' : Nat) : CutMem L (w.iterAt (L + 3) s pos') l e t v := by
 refine ⟨?_, ?_, ?_, ?_⟩
 · rw [Lib.iterAt_other w (L + 3) L s pos' (by omega)]; exact h.list
 · rw [Lib.iterAt_other w (L + 3) (L + 1) s pos' (by omega)]; exact h.fin
 · rw [Lib.iterAt_other w (L + 3) (L + 2) s pos' (by omega)]; exact h.tight
 · obtain ⟨hl, h0 | ⟨g, cap, cur, hv, hbg, hh, r⟩⟩ := h.own
   · exact ⟨hl, .inl h0⟩
   · exact ⟨hl, .inr ⟨g, cap, cur, hv, hbg, by rw [Lib.iterAt_other w (L + 3) g s pos' (by omega)]; exact hh, r⟩⟩
theorem lex_zero (l : List UInt8) (h : (lexL l).kind = 0) : (lexL l).text = [] := by
 have hnm : ∀ x : Lx, (x.kind = 0 -> x.text = []) -> (namedL x).kind = 0 -> (namedL x).text = [] := fun x hx => by
  unfold namedL;split
  · exact hx
  · exact fun _ => rfl
 revert h
 cases l with
 | nil => exact fun _ => rfl
 | cons b t =>
  unfold lexL;dsimp only;repeat' split
  · exact fun _ => rfl
  · exact hnm _ (fun h => absurd h (by show (1 : Int) ≠ 0; decide))
  · exact fun h => absurd h (by show (4 : Int) ≠ 0; decide)
  · unfold numberL;repeat' split
    all_goals exact fun _ => rfl
  · unfold remarkL;split <;> exact fun _ => rfl
  · refine hnm _ (fun h => absurd h ?_);unfold signsL;dsimp only;split <;> decide
  · refine hnm _ ?_;unfold quotedL;split
    · exact fun h => absurd h (by show (2 : Int) ≠ 0; decide)
    · exact fun _ => rfl
  · unfold singleL;dsimp only;split <;> exact fun h => absurd h (by decide)
  · exact fun _ => rfl
  · exact fun _ => rfl
def CutAns (B : Nat) (src : List UInt8) (e : Ending) (w' : World) : Prop :=
 (4096 < src.length /\ e = .returned (.tuple #[.slice none 0 0, .int .i64 0, .int .i64 2])) \/
 (src.length <= 4096 /\ ((∃ o : Nat, cutL src 0 false = .bad o /\ e = .returned (.tuple #[.slice none 0 0, .int .i64 (o : Nat), .int .i64 50])) \/
   ∃ T v, cutL src 0 false = .good T /\ e = .returned (.tuple #[v, .int .i64 0, .int .i64 0]) /\ OwnToks B w' v T))
def CSt (s : ByteArray) (w wr : World) : Prop := ∃ (pos e : Nat) (l : List Tok) (tg : Bool) (v : Value), pos <= e /\ e <= s.size /\ l.length <= e /\ wr.heap[w.heap.size + 3]? = some (.stringIter s pos) /\ Below w.heap.size w wr /\ w.heap.size + 4 <= wr.heap.size /\
 CutMem w.heap.size wr l (e : Nat) tg v /\ Hits (s.data.toList.drop pos) (e - pos) /\ cutL s.data.toList 0 false = (cutL (s.data.toList.drop e) e tg).pre l
theorem cut_start (w : World) (s : ByteArray) : CSt s w ((((w.alloc (.cells #[.slice none 0 0] 89)).alloc (.cells #[.int .i64 0] 3)).alloc (.cells #[.bool false] 4)).iter s 0) := by
 have h1 := new_at w (.cells #[.slice none 0 0] 89);have h2 := new_at (w.alloc (.cells #[.slice none 0 0] 89)) (.cells #[.int .i64 0] 3);have h3 := new_at ((w.alloc (.cells #[.slice none 0 0] 89)).alloc (.cells #[.int .i64 0] 3)) (.cells #[.bool false] 4);have h4 := World.iter_heap (((w.alloc (.cells #[.slice none 0 0] 89)).alloc (.cells #[.int .i64 0] 3)).alloc (.cells #[.bool false] 4)) s 0;simp only [World.size_alloc] at h2 h3 h4
 have hb : Below w.heap.size w ((((w.alloc (.cells #[.slice none 0 0] 89)).alloc (.cells #[.int .i64 0] 3)).alloc (.cells #[.bool false] 4)).iter s 0) :=
  ((((Below.refl _ w).alloc (Nat.le_refl _) _).alloc (by simp) _).alloc (by simp; omega) _).alloc (by simp; omega) _
 refine ⟨0, 0, [], false, .slice none 0 0, Nat.le_refl _, Nat.zero_le _, Nat.le_refl _, h4, hb, by have := (Array.getElem?_eq_some_iff.1 h4).1; omega, ⟨?_, ?_, ?_, World.ownsRow_nil _ _ _ _⟩, .zero _, by rw [List.drop_zero, pre_nil]⟩
 · exact past_at (past_at (past_at h1 _) _) (.stringIter s 0)
 · exact past_at (past_at h2 _) (.stringIter s 0)
 · exact past_at h3 (.stringIter s 0)
theorem drop_cons_of (s : ByteArray) (pos : Nat) (hp : pos < s.size) : ∃ b t, s.data.toList.drop pos = b :: t := by
 cases h : s.data.toList.drop pos with
 | nil =>
  have := congrArg List.length h;rw [List.length_drop, size_listT] at this;simp at this; omega
 | cons b t => exact ⟨b, t, rfl⟩
set_option maxRecDepth 100000 in
set_option maxHeartbeats 4000000 in
theorem token_Cut_short (s : ByteArray) (w : World) (hs : s.size <= 4096) (hT : TabsT w) :
 Calls Tryz.prog 78 #[.string s] w fun e w' => CutAns w.heap.size s.data.toList e w' /\ Below w.heap.size w w' := by
 have HT := Lib.hid hT;clear hT;go_enter Tryz.func78, Tryz.ntmps78;go_wp2_with fail;go_loopw [3] (fun r wr => r = .int .i64 0 /\ CSt s w wr) (fun _ wr => s.size - wr.iterPos (w.heap.size + 3))
 case atStart =>
  exact ⟨rfl, cut_start w s⟩
 case round =>
  obtain ⟨rfl, pos, e, l, tg, v, hpe, hes, hle, hit, hbw, hsz, hm, hh, hcut⟩ := hrel;by_cases hp : pos < s.size
  · have hnx : ∀ ty, (Instr.next (.pointer (some ⟨w.heap.size + 3, 0, none⟩)) true ty).run Tryz.prog wr = _ := fun ty => Lib.run_next_any_at wr (w.heap.size + 3) s pos ty hit hp;have hit2 := Lib.iterAt_heap wr (w.heap.size + 3) s pos (pos + (Utf8.decode s pos).2) hit;have hbw2 := Lib.below_iterAt hbw (k := w.heap.size + 3) (by omega) s (pos + (Utf8.decode s pos).2);have hm2 := hm.iterAt s (pos + (Utf8.decode s pos).2);have hfit := decode_fits s pos hp;have hsz2 : w.heap.size + 4 <= (wr.iterAt (w.heap.size + 3) s (pos + (Utf8.decode s pos).2)).heap.size := by
     have := hbw2.size; have := (Array.getElem?_eq_some_iff.1 hit2).1; omega
    have hdl : Lib.decodeL (s.data.toList.drop pos) = Utf8.decode s pos := Lib.decodeL_drop s pos;obtain ⟨b, t, hbt⟩ := drop_cons_of s pos hp;obtain ⟨e0, e1⟩ := cells1 hm2.fin;have HIT := Lib.hid hit2;have HM := Lib.hid hm2;have HT2 := Lib.hid (HT.out.on hbw2);have HCUT := Lib.hid hcut;have HBT := Lib.hid hbt;have HDL := Lib.hid hdl;have hlt1 : w.heap.size + 1 < (wr.iterAt (w.heap.size + 3) s (pos + (Utf8.decode s pos).2)).heap.size := by omega
    clear hm hm2 hcut hit2 hbt hdl;generalize wr.iterAt (w.heap.size + 3) s (pos + (Utf8.decode s pos).2) = W2 at *;by_cases hlt : pos < e
    · have hnext := hh.next (by omega);rw [HDL.out, List.drop_drop] at hnext;obtain ⟨hn1, hn2⟩ := hnext;have HN := Lib.hid (show Hits (s.data.toList.drop (pos + (Utf8.decode s pos).2)) (e - (pos + (Utf8.decode s pos).2)) by rw [show e - (pos + (Utf8.decode s pos).2) = e - pos - (Utf8.decode s pos).2 from by omega]; exact hn2);clear hn2 hh HDL;obtain ⟨hf1, hf2⟩ := hfit;generalize (Utf8.decode s pos).1 = c at *;generalize (Utf8.decode s pos).2 = n at *;go_wp2_with fail;go_roundw
      case rel => exact ⟨rfl, pos + n, e, l, tg, v, by omega, hes, hle, HIT.out, hbw2, hsz2, HM.out, HN.out, HCUT.out⟩
      case measure =>
       simp only [World.iterPos, HIT.out, hit]
       omega
    · obtain rfl : pos = e := by omega
      have hst := cutL_step (s.data.toList.drop pos) pos tg (by rw [HBT.out]; simp);have hwl := lexL_le (s.data.toList.drop pos);have hhit := hits_lex (s.data.toList.drop pos);have hz := lex_zero (s.data.toList.drop pos);rw [List.length_drop, size_listT] at hwl;have hex : (s.extract pos s.size).data.toList = s.data.toList.drop pos := by rw [ext_drop]
      have hF := tok_first (s.extract pos s.size) ((Utf8.decode s pos).1 : Nat) b t W2 (by rw [hex, HBT.out]) (by rw [<- HBT.out, HDL.out]) (by rw [ByteArray.size_extract]; omega) HT2.out;rw [hex] at hF;have hnext : 0 < (lexL (s.data.toList.drop pos)).w -> (Utf8.decode s pos).2 <= (lexL (s.data.toList.drop pos)).w /\ Hits (s.data.toList.drop (pos + (Utf8.decode s pos).2)) ((lexL (s.data.toList.drop pos)).w - (Utf8.decode s pos).2) := fun h0 => by
       have := hhit.next h0;rw [HDL.out, List.drop_drop] at this;exact this
      rw [List.drop_drop] at hst;have HST := Lib.hid hst;have HNX := Lib.hid hnext;have HZ := Lib.hid hz;have HF := Lib.hid hF;clear hst hnext hz hF hhit hh hex HDL HBT HT2;obtain ⟨hf1, hf2⟩ := hfit;generalize (Utf8.decode s pos).1 = c at *;generalize (Utf8.decode s pos).2 = n at *;generalize lexL (s.data.toList.drop pos) = x at *;by_cases hx0 : x.w = 0
      · have HB : Hid (cutL s.data.toList 0 false = .bad pos) := Lib.hid (by rw [HCUT.out, HST.out, if_pos hx0]; rfl);obtain ⟨k, u, xn, xw⟩ := x;dsimp only at hx0;subst hx0;unfold lxr lxv at HF;dsimp only at HF;clear HST HNX HZ HCUT hwl;generalize (⟨u.toArray⟩ : ByteArray) = u2 at *;go_wp2_with fail;refine HF.out.mono ?_; rintro e w3 ⟨rfl, hb3⟩;have hb4 := (hbw2.trans (hb3.mono hbw2.size)).alloc (by have := hb3.size; omega) (.cells #[.int .i64 k, .string u2, .int .i64 xn, .int .i64 0] 96);clear hb3 e0 e1;go_wp2_with fail;go_ret3;exact ⟨.inr ⟨by rw [size_listT]; exact hs, .inl ⟨pos, HB.out, rfl⟩⟩, hb4⟩
      · have hst := HST.out;rw [if_neg hx0] at hst;obtain ⟨hn1, hn2⟩ := HNX.out (by omega);have hC := fun (w5 : World) (h : CutMem w.heap.size w5 l (pos : Nat) tg v) (hL : w.heap.size + 4 <= w5.heap.size) => cut1 w.heap.size w5 l (pos : Nat) tg v x pos x.w h hL (by omega) (by omega) (by omega) HZ.out;have hE : cutL s.data.toList 0 false = (cutL (s.data.toList.drop (pos + x.w)) (pos + x.w) (if x.kind = 0 then false else opensL (kindL tg x) x.text)).pre (if x.kind = 0 then l else l ++ [⟨kindL tg x, x.text, x.n, pos⟩]) := by
         rw [HCUT.out, hst];by_cases hk : x.kind = 0
         · rw [if_pos hk, if_pos hk, if_pos hk]
         · rw [if_neg hk, if_neg hk, if_neg hk, pre_pre]
        have hll : (if x.kind = 0 then l else l ++ [⟨kindL tg x, x.text, x.n, pos⟩]).length <= pos + x.w := by
         split
         · omega
         · rw [List.length_append, List.length_singleton]; omega
        have HE := Lib.hid hE;have HL2 := Lib.hid hll;have HC := Lib.hid hC;have HN := Lib.hid (show Hits (s.data.toList.drop (pos + n)) (pos + x.w - (pos + n)) by rw [show pos + x.w - (pos + n) = x.w - n from by omega]; exact hn2);clear hst hn2 hC hE hll HST HNX HZ HCUT;generalize (if x.kind = 0 then l else l ++ [⟨kindL tg x, x.text, x.n, pos⟩]) = l2 at *;generalize (if x.kind = 0 then false else opensL (kindL tg x) x.text) = tg2 at *;have hx1 : ((x.w : Int) == 0) = false := by simp; omega
        obtain ⟨k, u, xn, xw⟩ := x;unfold lxr lxv at HF;unfold lxv at HC;dsimp only at HF HC HE HL2 HN hn1 hwl hx1 hx0;clear hx0;generalize (⟨u.toArray⟩ : ByteArray) = u2 at *;go_wp2_with fail;refine HF.out.mono ?_; rintro e w3 ⟨rfl, hb3⟩;have hm3 := HM.out.below hb3;have hi3 := kept_at hb3 HIT.out;have hs3 := hb3.size;have hb4 := (hbw2.trans (hb3.mono hbw2.size)).alloc (by omega) (.cells #[.int .i64 k, .string u2, .int .i64 xn, .int .i64 0] 96);have hm4 := hm3.below ((Below.refl w3.heap.size w3).alloc (Nat.le_refl _) (.cells #[.int .i64 k, .string u2, .int .i64 xn, .int .i64 0] 96));have hi4 := past_at hi3 (.cells #[.int .i64 k, .string u2, .int .i64 xn, .int .i64 0] 96);have HM4 := Lib.hid hm4;have HI4 := Lib.hid hi4;clear hb3 hm3 hi3 e0 e1 hm4 hi4;go_wp2_with fail;refine (HC.out _ HM4.out (by simp; omega)).mono ?_; rintro e w5 ⟨⟨r5, rfl⟩, ⟨v5, hm5⟩, hk5⟩;have hb5 := hb4.trans hk5.1;have hi5 := hk5.2 _ _ HI4.out;have hs5 := (Array.getElem?_eq_some_iff.1 hi5).1;have HM5 := Lib.hid hm5;have HI5 := Lib.hid hi5;clear hm5 hk5 hi5 hb4;go_wp2_with fail;go_roundw
        case rel => exact ⟨rfl, pos + n, pos + xw, l2, tg2, v5, by omega, by omega, HL2.out, HI5.out, hb5, by omega, HM5.out, HN.out, HE.out⟩
        case measure =>
         simp only [World.iterPos, HI5.out, hit]
         omega
  · have hnx : ∀ ty, (Instr.next (.pointer (some ⟨w.heap.size + 3, 0, none⟩)) true ty).run Tryz.prog wr = _ := fun ty => Lib.run_next_end_at wr (w.heap.size + 3) s pos ty hit hp;obtain rfl : pos = s.size := by omega
    obtain rfl : e = s.size := by omega
    rw [List.drop_eq_nil_of_le (by rw [size_listT]; exact Nat.le_refl _), cutL_nil] at hcut;have hE : cutL s.data.toList 0 false = .good (l ++ [⟨9, [], 0, s.size⟩]) := hcut;have hC := cut1 w.heap.size wr l (s.size : Nat) tg v ⟨9, [], 0, 0⟩ s.size 0 hm hsz (by omega) (by omega) (by omega) (fun _ => rfl);have hkk : kindL tg ⟨9, [], 0, 0⟩ = 9 := by unfold kindL; rw [if_neg (by simp)]
    rw [if_neg (by decide), hkk] at hC;unfold lxv at hC;dsimp only at hC;have HC := Lib.hid hC;have HE := Lib.hid hE;clear hm hh hcut hE hC hkk;go_wp2_with fail;refine HC.out.mono ?_; rintro e w5 ⟨⟨r5, rfl⟩, ⟨v5, hm5⟩, hk5⟩;have hb5 := hbw.trans hk5.1;obtain ⟨l0, l1⟩ := cells1 hm5.list;have HM5 := Lib.hid hm5;clear hm5 hk5;go_wp2_with fail;go_ret3;exact ⟨.inr ⟨by rw [size_listT]; exact hs, .inr ⟨_, _, HE.out, rfl, HM5.out.own.mono (by omega)⟩⟩, hb5⟩
set_option maxHeartbeats 1000000 in
theorem token_Cut (s : ByteArray) (w : World) (hT : TabsT w) :
 Calls Tryz.prog 78 #[.string s] w fun e w' => CutAns w.heap.size s.data.toList e w' /\ Below w.heap.size w w' := by
 by_cases hs : s.size <= 4096
 · exact token_Cut_short s w hs hT
 · have HL := Lib.hid (show 4096 < s.data.toList.length by rw [size_listT]; omega);clear hT;go_enter Tryz.func78, Tryz.ntmps78;go_wp2_with fail;go_ret3;exact ⟨.inl ⟨HL.out, rfl⟩, Below.refl _ _⟩
theorem tokCells_at : ∀ (l : List Tok) (j : Nat) (hj : j < l.length) (i : Nat), i < 4 -> (tokCells l)[j * 4 + i]? = (tok4 l[j])[i]?
 | [], j, hj, _, _ => absurd hj (Nat.not_lt_zero _)
 | t :: l, 0, _, i, hi => by
  show (tok4 t ++ tokCells l)[0 * 4 + i]? = _
  rw [Nat.zero_mul, Nat.zero_add, List.getElem?_append_left (show i < (tok4 t).length from hi), List.getElem_cons_zero]
 | t :: l, j + 1, hj, i, hi => by
  show (tok4 t ++ tokCells l)[(j + 1) * 4 + i]? = _
  rw [List.getElem?_append_right (show (tok4 t).length <= (j + 1) * 4 + i by show 4 <= _; omega), show (j + 1) * 4 + i - (tok4 t).length = j * 4 + i from by show (j + 1) * 4 + i - 4 = _; omega, List.getElem_cons_succ];exact tokCells_at l j (by rw [List.length_cons] at hj; omega) i hi
structure TokAt (w : World) (g : Nat) (j : Nat) (t : Tok) : Prop where
 kind : w.cell? ⟨g, j * 4, none⟩ = some (.int .i64 t.kind)
 text : w.cell? ⟨g, j * 4 + 1, none⟩ = some (.string ⟨t.text.toArray⟩)
 n : w.cell? ⟨g, j * 4 + 2, none⟩ = some (.int .i64 t.n)
 pos : w.cell? ⟨g, j * 4 + 3, none⟩ = some (.int .i64 (t.pos : Nat))
theorem OwnToks.view {B : Nat} {w : World} {v : Value} {l : List Tok} (h : OwnToks B w v l) : ∃ ad cap, v = .slice ad l.length cap /\ l.length <= cap /\ cap <= maxLen /\ ∀ j (hj : j < l.length), ∃ g, ad = some ⟨g, 0, none⟩ /\ B <= g /\ TokAt w g j l[j] := by
 have h9 := h;obtain ⟨hl, ⟨rfl, h0⟩ | ⟨g, cap, cur, rfl, hbg, hh, hnc, hcm, r⟩⟩ := h
 · refine ⟨none, 0, by rw [h0], by omega, Nat.zero_le _, fun j hj => by omega⟩
 · refine ⟨some ⟨g, 0, none⟩, cap, rfl, hnc, hcm, fun j hj => ⟨g, rfl, hbg, ?_⟩⟩;have hc : ∀ i, i < 4 -> w.cell? ⟨g, j * 4 + i, none⟩ = (tok4 l[j])[i]? := fun i hi => by
    rw [World.ownsRow.cellAt h9 (j * 4 + i) (by omega), tokCells_at l j hj i hi]
   exact ⟨hc 0 (by decide), hc 1 (by decide), hc 2 (by decide), hc 3 (by decide)⟩
theorem TokAt.on {w w' : World} {g j : Nat} {t : Tok} (h : TokAt w g j t) (hb : Below w.heap.size w w') : TokAt w' g j t :=
 ⟨(hb.cell (p := ⟨g, _, none⟩) (cell_in h.kind)).trans h.kind, (hb.cell (p := ⟨g, _, none⟩) (cell_in h.text)).trans h.text, (hb.cell (p := ⟨g, _, none⟩) (cell_in h.n)).trans h.n, (hb.cell (p := ⟨g, _, none⟩) (cell_in h.pos)).trans h.pos⟩
theorem cut_good {src : List UInt8} {T : List Tok} (hl : src.length <= 4096) (hc : cutL src 0 false = .good T) (s : ByteArray) (hs : s.data.toList = src) (w : World) (hT : TabsT w) :
 Calls Tryz.prog 78 #[.string s] w fun e w' => ∃ v, e = .returned (.tuple #[v, .int .i64 0, .int .i64 0]) /\ OwnToks w.heap.size w' v T /\ Below w.heap.size w w' := by
 refine (token_Cut s w hT).mono ?_;rintro e w' ⟨h, hb⟩;rw [hs] at h;rcases h with ⟨h, _⟩ | ⟨_, ⟨o, h, _⟩ | ⟨T', v, h, he, ho⟩⟩
 · omega
 · rw [hc] at h; cases h
 · rw [hc] at h; injection h with h; subst h; exact ⟨v, he, ho, hb⟩
theorem cut_refused {src : List UInt8} {o : Nat} (hl : src.length <= 4096) (hc : cutL src 0 false = .bad o) (s : ByteArray) (hs : s.data.toList = src) (w : World) (hT : TabsT w) :
 Calls Tryz.prog 78 #[.string s] w fun e w' => e = .returned (.tuple #[.slice none 0 0, .int .i64 (o : Nat), .int .i64 50]) /\ Below w.heap.size w w' := by
 refine (token_Cut s w hT).mono ?_;rintro e w' ⟨h, hb⟩;rw [hs] at h;rcases h with ⟨h, _⟩ | ⟨_, ⟨o', h, he⟩ | ⟨T', v, h, _⟩⟩
 · omega
 · rw [hc] at h; injection h with h; subst h; exact ⟨he, hb⟩
 · rw [hc] at h; cases h
theorem cut_long {src : List UInt8} (hl : 4096 < src.length) (s : ByteArray) (hs : s.data.toList = src) (w : World) (hT : TabsT w) :
 Calls Tryz.prog 78 #[.string s] w fun e w' => e = .returned (.tuple #[.slice none 0 0, .int .i64 0, .int .i64 2]) /\ Below w.heap.size w w' := by
 refine (token_Cut s w hT).mono ?_;rintro e w' ⟨h, hb⟩;rw [hs] at h;rcases h with ⟨_, h⟩ | ⟨h, _⟩
 · exact ⟨h, hb⟩
 · omega
def exSrc : List UInt8 := [102, 111, 111, 40, 88, 44, 32, 39, 97, 32, 98, 39, 41, 46]
def exToks : List Tok := [⟨1, [102, 111, 111], 0, 0⟩, ⟨7, [40], 0, 3⟩, ⟨4, [88], 0, 4⟩, ⟨6, [44], 0, 5⟩, ⟨2, [97, 32, 98], 0, 7⟩, ⟨6, [41], 0, 12⟩, ⟨8, [46], 0, 13⟩, ⟨9, [], 0, 14⟩]
end Go.Proofs.YtinefdlkajnomaaGreatDoor
