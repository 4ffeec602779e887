import Derived.Test.YtinefdlkajnomaaGreatDoorCl3
namespace Go.Proofs.YtinefdlkajnomaaGreatDoor
open Go.RowKit
attribute [-go_sem] sliced
def bigL (ts : List Tm) : Bool := ts.any fun t => decide (3000 < t.size)
theorem bigL_snoc (ts : List Tm) (k : Nat) (h : k < ts.length) (h1 : bigL (ts.take k) = false) (h2 : (ts[k]'h).size <= 3000) : bigL (ts.take (k + 1)) = false := by
 unfold bigL at *;rw [List.take_succ_eq_append_getElem h, List.any_append, h1];simp
 omega
theorem bigL_hit (ts : List Tm) (k : Nat) (h : k < ts.length) (h2 : 3000 < (ts[k]'h).size) : bigL ts = true := by
 unfold bigL;rw [List.any_eq_true];exact ⟨ts[k], List.getElem_mem h, by simpa using h2⟩
theorem bigL_one (T : Tm) (h : bigL [T] = false) : T.size <= 3000 := by
 unfold bigL at h;simp at h
 exact h
set_option maxRecDepth 100000 in
set_option maxHeartbeats 2000000 in
theorem law_big (ts : List Tm) (ad : Option Addr) (cap : Nat) (w : World) (hlen : ts.length <= cap) (hcap : cap <= maxLen) (hts : TArgs w ad ts) :
 Calls Tryz.prog 12 #[.slice ad ts.length cap] w fun e w' => e = .returned (.bool (bigL ts)) /\ Below w.heap.size w w' := by
 obtain ⟨E, hE⟩ : ∃ E, bigL ts = E := ⟨_, rfl⟩;rw [hE];have HE := Lib.hid hE;have HT := Lib.hid hts;unfold maxLen at hcap;clear hE hts;go_enter Tryz.func12, Tryz.ntmps12;go_wp2_with fail;go_loopw [7] (fun iv wr => ∃ k : Nat, k <= ts.length /\ iv = .int .i64 k /\ Below w.heap.size w wr /\ Hid (bigL (ts.take k) = false)) (fun iv _ => ts.length - (intOf iv).toNat)
 case atStart => exact ⟨0, Nat.zero_le _, rfl, Below.refl _ _, Lib.hid rfl⟩
 case round =>
  obtain ⟨k, hk, rfl, hbw, HB⟩ := hrel;by_cases hlt : k < ts.length
  · obtain ⟨b, o, rfl⟩ := HT.out.addr (by omega);obtain ⟨ad1, cap1, c0, c1, c2, c3, hin1⟩ := (HT.out.on hbw).get k hlt;have hsn := Lib.hid (bigL_snoc ts k hlt HB.out);have hht := Lib.hid (bigL_hit ts k hlt);generalize ts[k] = x at *;have hF := ref_Few x ad1 cap1 3000 (wr.alloc (.cells #[.int .i64 x.kind, .string x.name, .int .i64 x.n, .slice ad1 x.args.length cap1] 26)) (by decide) (by decide) (hin1.on ((Below.refl _ wr).alloc (Nat.le_refl _) _));unfold tmv at hF;by_cases hx : 3000 < x.size
    · rw [decide_eq_false (by omega)] at hF;have HF := Lib.hid hF;have HR : Hid (E = true) := Lib.hid (HE.out.symm.trans (hht.out hx));clear hF hx hin1;go_wp2_with fail;refine HF.out.mono ?_;rintro e w2 ⟨rfl, hb2⟩;have hbw2 := (hbw.alloc hbw.size _).trans (hb2.mono (Nat.le_trans hbw.size (by simp)));clear hb2 hbw c0 c1 c2 c3;go_wp2_with fail;go_ret;exact ⟨ret_bool HR.out.symm, hbw2⟩
    · rw [decide_eq_true (by omega)] at hF;have HF := Lib.hid hF;have HN := Lib.hid (hsn.out (by omega));clear hF hx hin1;go_wp2_with fail;refine HF.out.mono ?_;rintro e w2 ⟨rfl, hb2⟩;have hbw2 := (hbw.alloc hbw.size _).trans (hb2.mono (Nat.le_trans hbw.size (by simp)));clear hb2 hbw c0 c1 c2 c3;go_wp2_with fail;go_roundw
      case rel => exact ⟨k + 1, by omega, by go_num, hbw2, HN⟩
      case measure => simp [intOf]; omega
  · have hR := HB.out;rw [List.take_of_length_le (by omega)] at hR;have HR : Hid (E = false) := Lib.hid (HE.out.symm.trans hR);clear hR HB;go_wp2_with fail;go_ret;exact ⟨ret_bool HR.out.symm, hbw⟩
end Go.Proofs.YtinefdlkajnomaaGreatDoor
