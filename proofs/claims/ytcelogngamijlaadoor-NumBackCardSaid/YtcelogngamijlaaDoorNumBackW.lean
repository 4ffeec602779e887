/-
  The law NumBack of package num, walked: Read of Text is the number, with noughts ahead too.
-/
import Derived.Test.YtcelogngamijlaaDoorNumLive
import Derived.Test.YtcelogngamijlaaDoorNumBackM
namespace Go.Proofs.YtcelogngamijlaaDoor
open Go.RowKit

/-- Read of a text that is known. -/
def Reads (s : ByteArray) (v e : Int) : Prop := ∀ w, Calls Tryd.prog 31 #[.string s] w fun r w' => r = .returned (.tuple #[.int .i64 v, .int .i64 e]) ∧ Below w.heap.size w w'
theorem reads_of (l : List UInt8) (v e : Int) (hl : l.length ≤ 100) (h : readV l = v ∧ readE l = e) : Reads ⟨l.toArray⟩ v e := fun w => by
  have hc := num_Read ⟨l.toArray⟩ w (by show l.toArray.size ≤ maxLen; rw [List.size_toArray]; unfold maxLen; omega)
  rw [show (⟨l.toArray⟩ : ByteArray).data.toList = l from rfl, h.1, h.2] at hc
  exact hc

theorem app2 (l : List UInt8) : (⟨#[48, 48]⟩ ++ ⟨l.toArray⟩ : ByteArray) = ⟨(48 :: 48 :: l).toArray⟩ := by
  apply ByteArray.ext
  simp [ByteArray.data_append]
theorem app3 (l : List UInt8) : (⟨#[45, 48, 48]⟩ ++ ⟨l.toArray⟩ : ByteArray) = ⟨(45 :: 48 :: 48 :: l).toArray⟩ := by
  apply ByteArray.ext
  simp [ByteArray.data_append]

theorem cut1 (c : UInt8) (l : List UInt8) : (⟨(c :: l).toArray⟩ : ByteArray).extract 1 (l.length + 1) = ⟨l.toArray⟩ := by
  apply ByteArray.ext
  simp [ByteArray.data_extract]

set_option maxHeartbeats 1000000 in
theorem walk_NumBack (a : Int) (w : World) (ha : In64 a) (ht : Tab w) :
    Calls Tryd.prog 7 #[.int .i64 a] w fun e w' => e = .returned (.bool true) ∧ Below w.heap.size w w' := by
  have hlen := Lib.itoa_length_le a ha.1 ha.2
  have c1 := reads_of (Lib.itoa a) a 0 (by omega) (read_itoa a ha)
  have cT := fun w ht => num_Text a w ha ht
  have HT := Lib.hid ht
  have HcT := Lib.hid cT
  clear ht cT
  have hz : (a == a) = true := beq_self_eq_true a
  by_cases hn : 0 ≤ a
  · have c2 := reads_of (48 :: 48 :: Lib.itoa a) a 0 (by simp; omega) (read_noughts a ha hn)
    have he : (Lib.itoa a).isEmpty = false := by rw [itoa_pos a hn, List.isEmpty_eq_false_iff]; exact decDigits_ne _
    rw [← app2] at c2
    clear ha
    generalize Lib.itoa a = l at *
    go_enter Tryd.func7, Tryd.ntmps7
    go_wp2_with fail
    refine (HcT.out _ HT.out).mono ?_; rintro e w1 ⟨rfl, hb1⟩
    go_wp2_with fail
    refine (c1 _).mono ?_; rintro e w2 ⟨rfl, hb2⟩
    go_wp2_with fail
    refine (c2 _).mono ?_; rintro e w3 ⟨rfl, hb3⟩
    have hb := hb1.trans ((hb2.mono hb1.size).trans (hb3.mono (Nat.le_trans hb1.size hb2.size)))
    go_wp2_with fail
    refine (law_live _ (HT.out.on hb)).mono ?_; rintro e w4 ⟨rfl, hb4⟩
    go_wp2_with fail
    go_ret
    exact ⟨rfl, hb.trans (hb4.mono hb.size)⟩
  · have c2 := reads_of (45 :: 48 :: 48 :: (Lib.itoa a).tail) a 0 (by simp; omega) (read_noughts_neg a ha (by omega))
    rw [← app3] at c2
    have e1 := itoa_neg' a (by omega)
    rw [e1] at c1 c2 HcT hlen
    have hd := decDigits_ne (-a).toNat
    have h1 : 1 ≤ (Lib.decDigits (-a).toNat).length := by
      have := List.length_pos_iff.2 hd
      omega
    clear ha e1 hd
    generalize Lib.decDigits (-a).toNat = l at *
    rw [List.tail_cons] at c2
    have hl : l.length ≤ 20 := by simpa using hlen
    clear hlen
    go_enter Tryd.func7, Tryd.ntmps7
    go_wp2_with fail
    refine (HcT.out _ HT.out).mono ?_; rintro e w1 ⟨rfl, hb1⟩
    go_wp2_with fail
    refine (c1 _).mono ?_; rintro e w2 ⟨rfl, hb2⟩
    go_wp2_with fail
    rw [cut1]
    refine (c2 _).mono ?_; rintro e w3 ⟨rfl, hb3⟩
    have hb := hb1.trans ((hb2.mono hb1.size).trans (hb3.mono (Nat.le_trans hb1.size hb2.size)))
    go_wp2_with fail
    refine (law_live _ (HT.out.on hb)).mono ?_; rintro e w4 ⟨rfl, hb4⟩
    go_wp2_with fail
    go_ret
    exact ⟨rfl, hb.trans (hb4.mono hb.size)⟩
end Go.Proofs.YtcelogngamijlaaDoor
