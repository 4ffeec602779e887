/-
  The contracts of the document's own class, run, own for token.
-/
import Derived.Test.YtglaoacdenecfaaDoorTokH
namespace Go.Proofs.YtglaoacdenecfaaDoor
open Go.RowKit

/-- The class of a text's first byte; 0: there is none. -/
def cl1 (l : List UInt8) : Int := match l with | [] => 0 | b :: _ => cls (b.toNat : Int)
theorem cl1_at (s : ByteArray) (p : Nat) (h : p < s.size) : cl1 (s.data.toList.drop p) = cls (s[p].toNat : Int) := by
  have hl : p < s.data.toList.length := by rw [size_listT]; exact h
  rw [List.drop_eq_getElem_cons hl]
  rfl
theorem cl1_end (s : ByteArray) (p : Nat) (h : s.size ≤ p) : cl1 (s.data.toList.drop p) = 0 := by
  rw [List.drop_eq_nil_of_le (by rw [size_listT]; exact h)]; rfl

set_option maxRecDepth 100000 in
set_option maxHeartbeats 1000000 in
theorem ref_class (s : ByteArray) (p : Nat) (w : World) (hp : p ≤ 300000) :
    Calls Tryd.prog 35 #[.string s, .int .i64 (p : Nat)] w fun e w' => e = .returned (.int .i64 (cl1 (s.data.toList.drop p))) ∧ w = w' := by
  by_cases h : p < s.size
  · rw [cl1_at s p h]
    have hb : (s[p].toNat : Int) < 256 := by have := s[p].toNat_lt; omega
    have hp0 : (0 : Int) ≤ (p : Int) := by omega
    have hp1 : (p : Int) < (s.size : Int) := by omega
    by_cases h7 : s[p].toNat ≤ 127
    · have h8 : (s[p].toNat : Int) ≤ 127 := by omega
      clear h7
      have HC := Lib.hid (ref_Class (s[p].toNat : Int) w)
      generalize cls (s[p].toNat : Int) = q at *
      go_enter Tryd.func35, Tryd.ntmps35
      go_wp2_with fail
      refine HC.out.mono ?_; rintro e w1 ⟨rfl, rfl⟩
      go_wp2_with fail
      go_ret
      exact ⟨rfl, rfl⟩
    · have h8 : (127 : Int) < (s[p].toNat : Int) := by omega
      rw [cls_high _ (by omega)]
      clear h7
      go_enter Tryd.func35, Tryd.ntmps35
      go_wp2_with fail
      go_ret
      exact ⟨rfl, rfl⟩
  · rw [cl1_end s p (by omega)]
    go_enter Tryd.func35, Tryd.ntmps35
    go_wp2_with fail
    go_ret
    exact ⟨rfl, rfl⟩

/-- A slice of classes. -/
def Ks (w : World) (g : Nat) (ks : List Int) : Prop := ∀ i (h : i < ks.length), w.cell? ⟨g, i, none⟩ = some (.int .i64 ks[i])
def amongK (ks : List Int) (c : Int) : Bool := ks.any fun k => cls c == k
theorem any_step (ks : List Int) (i : Nat) (h : i < ks.length) (f : Int → Bool) : (ks.take (i + 1)).any f = ((ks.take i).any f || f ks[i]) := by
  rw [List.take_succ_eq_append_getElem h, List.any_append]; simp

set_option maxRecDepth 100000 in
set_option maxHeartbeats 2000000 in
theorem ref_run (s : ByteArray) (p : Nat) (ks : List Int) (g : Nat) (w : World) (hs : s.size ≤ 200000) (hp : p ≤ s.size) (hk : Ks w g ks) (hkl : ks.length ≤ 10) (h0 : ks.any (fun k => (0 : Int) == k) = false) :
    Calls Tryd.prog 37 #[.string s, .int .i64 (p : Nat), .slice (some ⟨g, 0, none⟩) ks.length ks.length] w fun e w' => e = .returned (.int .i64 (p + spanL (amongK ks) (s.data.toList.drop p) : Nat)) ∧ w = w' := by
  have HK := Lib.hid hk
  have HZ := Lib.hid h0
  obtain ⟨E, hE⟩ : ∃ E : Nat, p + spanL (amongK ks) (s.data.toList.drop p) = E := ⟨_, rfl⟩
  rw [hE]
  have HE := Lib.hid hE
  clear hk h0 hE
  go_enter Tryd.func37, Tryd.ntmps37
  go_wp2_with fail
  go_loop [1] (fun av => ∃ a : Nat, a ≤ s.size ∧ av = .int .i64 (a : Nat) ∧ Hid (a + spanL (amongK ks) (s.data.toList.drop a) = E)) (fun av => s.size - (intOf av).toNat)
  case atStart => exact ⟨p, hp, rfl, HE⟩
  case round =>
    obtain ⟨a, ha, rfl, HA⟩ := hrel
    by_cases hlt : a < s.size
    · have hcl := cl1_at s a hlt
      have hdrop : s.data.toList.drop a = s[a] :: s.data.toList.drop (a + 1) := by
        rw [List.drop_eq_getElem_cons (by rw [size_listT]; exact hlt)]; rfl
      have hst : spanL (amongK ks) (s.data.toList.drop a) = if amongK ks (s[a].toNat : Int) = true then 1 + spanL (amongK ks) (s.data.toList.drop (a + 1)) else 0 := by
        rw [hdrop]
        unfold spanL
        rw [List.takeWhile_cons]
        split
        · rw [List.length_cons]; omega
        · rfl
      have hC := fun W => ref_class s a W (by omega)
      rw [hcl] at hC
      have hA := HA.out
      rw [hst] at hA
      have haK : amongK ks (s[a].toNat : Int) = ks.any fun k => cls (s[a].toNat : Int) == k := rfl
      rw [haK] at hA
      generalize cls (s[a].toNat : Int) = q at *
      have HC := Lib.hid hC
      have HS := Lib.hid hA
      clear hC hcl hdrop hst hA haK HA
      go_wp2_with fail
      go_loop [7, 16] (fun bv iv => ∃ i : Nat, i ≤ ks.length ∧ iv = .int .i64 (i : Nat) ∧ bv = .bool ((ks.take i).any fun k => q == k)) (fun _ iv => ks.length - (intOf iv).toNat)
      case atStart => exact ⟨0, Nat.zero_le _, rfl, rfl⟩
      case round =>
        obtain ⟨i, hi, rfl, rfl⟩ := hrel
        by_cases hil : i < ks.length
        · have c0 := HK.out i hil
          have hst := any_step ks i hil (fun k => q == k)
          have hi0 : (0 : Int) ≤ (i : Int) := by omega
          have hi1 : (i : Int) < (ks.length : Int) := by omega
          generalize ks[i] = kk at *
          have HST := Lib.hid hst
          clear hst
          cases hb : ((ks.take i).any fun k => q == k) with
          | true =>
            rw [hb] at HST
            clear hb
            go_wp2_with fail
            go_round
            case rel => exact ⟨i + 1, by omega, by go_num, by rw [HST.out]; rfl⟩
            case measure => simp [intOf]; omega
          | false =>
            rw [hb] at HST
            clear hb
            go_wp2_with fail
            refine (HC.out _).mono ?_; rintro e w' ⟨rfl, rfl⟩
            go_wp2_with fail
            go_round
            case rel => exact ⟨i + 1, by omega, by go_num, by rw [HST.out]; rfl⟩
            case measure => simp [intOf]; omega
        · have hA := HS.out
          rw [List.take_of_length_le (by omega)]
          cases hb : (ks.any fun k => q == k) with
          | true =>
            rw [hb, if_pos rfl] at hA
            have HN : Hid ((a + 1 : Nat) + spanL (amongK ks) (s.data.toList.drop (a + 1)) = E) := Lib.hid (by omega)
            clear hA hb HS
            go_wp2_with fail
            go_round
            case rel => exact ⟨a + 1, by omega, by go_num, HN⟩
            case measure => simp [intOf]; omega
          | false =>
            rw [hb, if_neg (by decide)] at hA
            have HN : Hid (E = a) := Lib.hid (by omega)
            clear hA hb HS
            go_wp2_with fail
            go_ret
            exact ⟨ret_intT (by rw [HN.out]), rfl⟩
    · have hA := HA.out
      rw [List.drop_eq_nil_of_le (by rw [size_listT]; omega)] at hA
      have HN : Hid (E = a) := Lib.hid hA.symm
      clear hA HA
      go_wp2_with fail
      go_ret
      exact ⟨ret_intT (by rw [HN.out]), rfl⟩
end Go.Proofs.YtglaoacdenecfaaDoor
