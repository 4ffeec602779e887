/-
  The contracts of the document's own answers for texts: digits, Text and Read of spinneyref01.
-/
import Derived.Test.YtcelogngamijlaaDoorNumMore
import Derived.Test.YtcelogngamijlaaDoorNumReads
import Derived.Test.YtcelogngamijlaaDoorNumBackM
import Derived.Laws.IdiomStrings
namespace Go.Proofs.YtcelogngamijlaaDoor
open Go.RowKit

theorem conv1 (w : World) (x : Int) (d : Nat) (hd : d ≤ 9) (hx : x = 48 + (d : Int)) :
    (convert 36 9 (.slice (some ⟨w.heap.size, 0, none⟩) 1 1)).run Tryd.prog (w.alloc (.cells #[.int .u8 x] 5)) = .ok (.string ⟨#[UInt8.ofNat (48 + d)]⟩) (w.alloc (.cells #[.int .u8 x] 5)) := by
  refine run_convert_bytes_back (P := Tryd.prog) (w.alloc (.cells #[.int .u8 x] 5)) 36 9 5 ⟨w.heap.size, 0, none⟩ 1 [UInt8.ofNat (48 + d)] Tryd.underlying36 Tryd.underlying5 Tryd.underlying9 (fun j hj => ?_)
  have hj0 : j = 0 := by simpa using hj
  subst hj0
  have h := World.cell?_alloc_mark w #[.int .u8 x] 5 (0, 0) 0
  have e : ((UInt8.ofNat (48 + d)).toNat : Int) = x := by rw [ofNat_toNat d hd, hx]; omega
  show _ = some (Value.int .u8 ((UInt8.ofNat (48 + d)).toNat : Int))
  rw [e]
  exact h

theorem app1 (l : List UInt8) (c : UInt8) : (⟨l.toArray⟩ ++ ⟨#[c]⟩ : ByteArray) = ⟨(l ++ [c]).toArray⟩ := by
  apply ByteArray.ext
  simp [ByteArray.data_append]

set_option maxHeartbeats 1000000 in
theorem ref_digits (u : Nat) : ∀ (a : Int) (w : World), a = -(u : Int) → In64 a →
    Calls Tryd.prog 37 #[.int .i64 a] w fun e w' => e = .returned (.string ⟨(Lib.decDigits u).toArray⟩) ∧ Below w.heap.size w w' := by
  induction u using Nat.strongRecOn with
  | _ u ih =>
    intro a w ha hi
    have hm : a.tmod 10 = -((u % 10 : Nat) : Int) := by
      rw [ha, Int.neg_tmod]
      rfl
    have hq : a.tdiv 10 = -((u / 10 : Nat) : Int) := by
      rw [ha, Int.neg_tdiv]
      rfl
    have IH := Lib.hid ih
    clear ih
    have HA := Lib.hid ha
    have hd : u % 10 ≤ 9 := by omega
    unfold In64 at hi
    obtain ⟨hi1, hi2⟩ := hi
    have hcv := conv1 w (48 + (u : Int) % 10) (u % 10) hd (by omega)
    obtain ⟨c, hc⟩ : ∃ c, c = UInt8.ofNat (48 + u % 10) := ⟨_, rfl⟩
    rw [← hc] at hcv
    have HC := Lib.hid hc
    clear hc
    have hbw : Below w.heap.size w (w.alloc (.cells #[.int .u8 (48 + (u : Int) % 10)] 5)) := (Below.refl _ w).alloc (Nat.le_refl _) _
    by_cases h : u < 10
    · have h10 : -10 < a := by omega
      have hR : (⟨#[c]⟩ : ByteArray) = ⟨(Lib.decDigits u).toArray⟩ := by
        rw [Lib.decDigits_one h, HC.out, Nat.mod_eq_of_lt h]
      have HR := Lib.hid hR
      clear ha hR
      go_enter Tryd.func37, Tryd.ntmps37
      go_wp2_with fail
      go_ret
      exact ⟨by rw [← HR.out]; rfl, hbw⟩
    · have h10 : a ≤ -10 := by omega
      have hlen : (Lib.decDigits (u / 10)).length ≤ 20 := by
        rw [Lib.decDigits_length]
        exact Lib.nDigits_le20 _ (by omega)
      have hR : Lib.decDigits (u / 10) ++ [c] = Lib.decDigits u := by
        rw [HC.out]
        conv => rhs; rw [Lib.decDigits, dif_neg h]
      have HR := Lib.hid hR
      have hI := IH.out (u / 10) (by omega) (-((u / 10 : Nat) : Int)) 
      have HI := Lib.hid hI
      have hq2 : -((u / 10 : Nat) : Int) = -((u : Int) / 10) := by omega
      rw [hq2] at HI hq
      have hlo : In64 (-((u : Int) / 10)) := by unfold In64; omega
      have HLO := Lib.hid hlo
      clear ha hR hI hlo
      generalize Lib.decDigits (u / 10) = l at *
      go_enter Tryd.func37, Tryd.ntmps37
      go_wp2_with fail
      rw [IntWalk.wrap64_in _ HLO.out]
      refine (HI.out _ (by first | trivial | omega) HLO.out).mono ?_
      rintro e w2 ⟨rfl, hb2⟩
      go_wp2_with fail
      go_ret
      refine ⟨?_, hbw.trans (hb2.mono hbw.size)⟩
      rw [← HR.out, ← app1]
      rfl

theorem app45 (l : List UInt8) : (⟨#[45]⟩ ++ ⟨l.toArray⟩ : ByteArray) = ⟨(45 :: l).toArray⟩ := by
  apply ByteArray.ext
  simp [ByteArray.data_append]

set_option maxHeartbeats 1000000 in
theorem ref_Text (a : Int) (w : World) (ha : In64 a) :
    Calls Tryd.prog 34 #[.int .i64 a] w fun e w' => e = .returned (.string ⟨(Lib.itoa a).toArray⟩) ∧ Below w.heap.size w w' := by
  by_cases h : 0 ≤ a
  · rw [itoa_pos a h]
    have hD := fun w => ref_digits a.toNat (-a) w (by omega) (by unfold In64 at *; omega)
    have HD := Lib.hid hD
    clear hD
    unfold In64 at ha
    obtain ⟨ha1, ha2⟩ := ha
    go_enter Tryd.func34, Tryd.ntmps34
    go_wp2_with fail
    refine (HD.out _).mono ?_
    rintro e w2 ⟨rfl, hb2⟩
    go_wp2_with fail
    go_ret
    exact ⟨rfl, hb2⟩
  · rw [itoa_neg' a (by omega), ← app45]
    have hD := fun w => ref_digits (-a).toNat a w (by omega) ha
    have HD := Lib.hid hD
    have hlen : (Lib.decDigits (-a).toNat).length ≤ 20 := by
      rw [Lib.decDigits_length]
      exact Lib.nDigits_le20 _ (by unfold In64 at *; omega)
    clear hD
    generalize Lib.decDigits (-a).toNat = l at *
    go_enter Tryd.func34, Tryd.ntmps34
    go_wp2_with fail
    refine (HD.out _).mono ?_
    rintro e w2 ⟨rfl, hb2⟩
    go_wp2_with fail
    go_ret
    exact ⟨rfl, hb2⟩
end Go.Proofs.YtcelogngamijlaaDoor
