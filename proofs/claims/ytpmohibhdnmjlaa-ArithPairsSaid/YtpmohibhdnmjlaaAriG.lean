/-
  The contract of the laws' helper big for arith (gen/genAriG.py).
-/
import Derived.Test.YtpmohibhdnmjlaaSubBE
import Derived.Test.YtpmohibhdnmjlaaTermMay
namespace Go.Proofs.Ytpmohibhdnmjlaa
open Go.RowKit

/-- Whether bindings and terms are too great to be played. -/
def bigA (bs : List (Int × Tm)) (ts : List Tm) : Bool := decide (6 < bs.length) || ((bs.any fun b => decide (5 < b.2.size)) || (ts.any fun t => decide (200 < t.size)))
theorem bigA_no {bs : List (Int × Tm)} {ts : List Tm} (h : bigA bs ts = false) : bs.length ≤ 6 ∧ (∀ b ∈ bs, b.2.size ≤ 5) ∧ ∀ t ∈ ts, t.size ≤ 200 := by
  unfold bigA at h
  rw [Bool.or_eq_false_iff, Bool.or_eq_false_iff] at h
  obtain ⟨h1, h2, h3⟩ := h
  refine ⟨by simpa using h1, fun b hb => ?_, fun t ht => ?_⟩
  · have := List.any_eq_false.1 h2 b hb; simpa using this
  · have := List.any_eq_false.1 h3 t ht; simpa using this

set_option maxRecDepth 100000 in
set_option maxHeartbeats 8000000 in
theorem law_big11 (bs : List (Int × Tm)) (ab : Option Addr) (cb : Nat) (ts : List Tm) (ad : Option Addr) (cap : Nat) (w : World) (hb : BdsAt w (fun b => b < w.heap.size) ab bs) (hlen : ts.length ≤ cap) (hcap : cap ≤ maxLen) (hts : TArgs w ad ts) :
    Calls Try.prog 8 #[.slice ab bs.length cb, .slice ad ts.length cap] w fun e w' => e = .returned (.bool (bigA bs ts)) ∧ Below w.heap.size w w' := by
  obtain ⟨E, hE⟩ : ∃ E, bigA bs ts = E := ⟨_, rfl⟩
  rw [hE]
  unfold bigA at hE
  have HE := Lib.hid hE
  have HT := Lib.hid hts
  have HB := Lib.hid hb
  unfold maxLen at hcap
  clear hE hts hb
  by_cases h100 : 6 < bs.length
  · have h1 : decide ((6 : Int) < (bs.length : Int)) = true := decide_eq_true (by omega)
    have HR : Hid (E = true) := Lib.hid (by rw [← HE.out, decide_eq_true h100]; rfl)
    go_enter Try.func8, Try.ntmps8
    go_wp2_with fail
    go_ret
    exact ⟨ret_bool HR.out.symm, Below.refl _ _⟩
  have h1 : decide ((6 : Int) < (bs.length : Int)) = false := decide_eq_false (by omega)
  have HE1 : Hid (((bs.any fun b => decide (5 < b.2.size)) || (ts.any fun t => decide (200 < t.size))) = E) := Lib.hid (by rw [← HE.out, decide_eq_false h100]; rfl)
  clear HE
  go_enter Try.func8, Try.ntmps8
  go_wp2_with fail
  go_loopw [14] (fun iv wr => ∃ k : Nat, k ≤ bs.length ∧ iv = .int .i64 k ∧ Below w.heap.size w wr ∧ Hid ((bs.take k).any (fun b => decide (5 < b.2.size)) = false)) (fun iv _ => bs.length - (intOf iv).toNat)
  case atStart => exact ⟨0, Nat.zero_le _, rfl, Below.refl _ _, Lib.hid rfl⟩
  case round =>
    obtain ⟨k, hk, rfl, hbw, HA⟩ := hrel
    have hws := hbw.size
    by_cases hlt : k < bs.length
    · obtain ⟨b, o, a1, c1, rfl, hPb, hi64, hp, x0, x1, x2, x3, x4⟩ := (HB.out.kept (w' := wr) (Q := fun b => b < w.heap.size) (fun b hb' _ => hbw.block b hb') fun _ h _ => h) k hlt
      have HSN := Lib.hid (any_snoc (fun b : Int × Tm => decide (5 < b.2.size)) bs k hlt HA.out)
      have HHT : Hid (5 < bs[k].2.size → E = true) := Lib.hid (fun h => by
        rw [← HE1.out, show (bs.any fun b => decide (5 < b.2.size)) = true from List.any_eq_true.2 ⟨bs[k], List.getElem_mem hlt, decide_eq_true h⟩]; rfl)
      have hF := fun W (h : Below wr.heap.size wr W) => ref_Few bs[k].2 a1 c1 5 W (by decide) (by decide) (hp.toIn.on h)
      have hk0 : (0 : Int) ≤ (k : Int) := by omega
      have hk1 : (k : Int) < (bs.length : Int) := by omega
      clear hp
      generalize bs[k] = B at *
      obtain ⟨bv, x⟩ := B
      dsimp only at *
      unfold tmv at hF
      by_cases hx : 5 < x.size
      · rw [decide_eq_false (by omega)] at hF
        have HF := Lib.hid hF
        have HR := Lib.hid (HHT.out hx)
        clear hF hx HSN HHT
        go_wp2_with fail
        refine (HF.out _ ((Below.refl _ wr).alloc (Nat.le_refl _) _)).mono ?_
        rintro e w2 ⟨rfl, hb2⟩
        have hbw2 := (hbw.alloc hbw.size _).trans (hb2.mono (Nat.le_trans hbw.size (by simp)))
        clear hb2 hbw x0 x1 x2 x3 x4
        go_wp2_with fail
        go_ret
        exact ⟨ret_bool HR.out.symm, hbw2⟩
      · rw [decide_eq_true (by omega)] at hF
        have HF := Lib.hid hF
        have HN := Lib.hid (HSN.out (decide_eq_false hx))
        clear hF hx HSN HHT
        go_wp2_with fail
        refine (HF.out _ ((Below.refl _ wr).alloc (Nat.le_refl _) _)).mono ?_
        rintro e w2 ⟨rfl, hb2⟩
        have hbw2 := (hbw.alloc hbw.size _).trans (hb2.mono (Nat.le_trans hbw.size (by simp)))
        clear hb2 hbw x0 x1 x2 x3 x4
        go_wp2_with fail
        go_roundw
        case rel => exact ⟨k + 1, by omega, by go_num, hbw2, HN⟩
        case measure => simp [intOf]; omega
    · have hR := HA.out
      rw [List.take_of_length_le (by omega)] at hR
      have HE2 : Hid ((ts.any fun t => decide (200 < t.size)) = E) := Lib.hid (by rw [← HE1.out, hR]; rfl)
      have HBW := Lib.hid hbw
      obtain ⟨wD, rfl⟩ : ∃ x, x = wr := ⟨_, rfl⟩
      clear hR HA hbw
      go_wp2_with fail
      go_loopw [25] (fun iv wr => ∃ k : Nat, k ≤ ts.length ∧ iv = .int .i64 k ∧ Below w.heap.size w wr ∧ Hid ((ts.take k).any (fun t => decide (200 < t.size)) = false)) (fun iv _ => ts.length - (intOf iv).toNat)
      case atStart => exact ⟨0, Nat.zero_le _, rfl, HBW.out, Lib.hid rfl⟩
      case round =>
        obtain ⟨k, hk, rfl, hbw, HA⟩ := hrel
        by_cases hlt : k < ts.length
        · obtain ⟨b, o, rfl⟩ := HT.out.addr (by omega)
          obtain ⟨ad1, cap1, c0, c1, c2, c3, hin1⟩ := (HT.out.on hbw).get k hlt
          have HSN := Lib.hid (any_snoc (fun t : Tm => decide (200 < t.size)) ts k hlt HA.out)
          have HHT : Hid (200 < ts[k].size → E = true) := Lib.hid (fun h => by
            rw [← HE2.out]; exact List.any_eq_true.2 ⟨ts[k], List.getElem_mem hlt, decide_eq_true h⟩)
          generalize ts[k] = x at *
          have hF := ref_Few x ad1 cap1 200 (wr.alloc (.cells #[.int .i64 x.kind, .string x.name, .int .i64 x.n, .slice ad1 x.args.length cap1] 25)) (by decide) (by decide) (hin1.on ((Below.refl _ wr).alloc (Nat.le_refl _) _))
          unfold tmv at hF
          by_cases hx : 200 < x.size
          · rw [decide_eq_false (by omega)] at hF
            have HF := Lib.hid hF
            have HR := Lib.hid (HHT.out hx)
            clear hF hx hin1 HSN HHT
            go_wp2_with fail
            refine HF.out.mono ?_
            rintro e w2 ⟨rfl, hb2⟩
            have hbw2 := (hbw.alloc hbw.size _).trans (hb2.mono (Nat.le_trans hbw.size (by simp)))
            clear hb2 hbw c0 c1 c2 c3
            go_wp2_with fail
            go_ret
            exact ⟨ret_bool HR.out.symm, hbw2⟩
          · rw [decide_eq_true (by omega)] at hF
            have HF := Lib.hid hF
            have HN := Lib.hid (HSN.out (decide_eq_false hx))
            clear hF hx hin1 HSN HHT
            go_wp2_with fail
            refine HF.out.mono ?_
            rintro e w2 ⟨rfl, hb2⟩
            have hbw2 := (hbw.alloc hbw.size _).trans (hb2.mono (Nat.le_trans hbw.size (by simp)))
            clear hb2 hbw c0 c1 c2 c3
            go_wp2_with fail
            go_roundw
            case rel => exact ⟨k + 1, by omega, by go_num, hbw2, HN⟩
            case measure => simp [intOf]; omega
        · have hR := HA.out
          rw [List.take_of_length_le (by omega)] at hR
          have HR : Hid (E = false) := Lib.hid (HE2.out.symm.trans hR)
          clear hR HA
          go_wp2_with fail
          go_ret
          exact ⟨ret_bool HR.out.symm, hbw⟩
end Go.Proofs.Ytpmohibhdnmjlaa
