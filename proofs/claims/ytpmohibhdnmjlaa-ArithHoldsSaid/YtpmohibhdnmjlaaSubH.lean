/-
  slices.Backward over bindings: each round is handed the next one from behind.
-/
import Derived.Test.YtpmohibhdnmjlaaSubA
import Derived.Test.YtpmohibhdnmjlaaIterG
namespace Go.Proofs.Ytpmohibhdnmjlaa
open Go.RowKit

/-- What the k-th round is handed: the place from behind, and the binding there. -/
def BackBd (L : List (Int × Tm)) (w : World) (P : Nat → Prop) (k : Nat) (x : Nat × (Int × Tm) × Option Addr × Nat) : Prop := x.1 + k + 1 = L.length ∧ L[x.1]? = some x.2.1 ∧ In64 x.2.1.1 ∧ TmP w P x.2.1.2 x.2.2.1 x.2.2.2
def backbv (x : Nat × (Int × Tm) × Option Addr × Nat) : Array Value := #[.int .i64 (x.1 : Nat), .agg #[.int .i64 x.2.1.1, .int .i64 x.2.1.2.kind, .string x.2.1.2.name, .int .i64 x.2.1.2.n, .slice x.2.2.1 x.2.1.2.args.length x.2.2.2]]
def BoxBd (Bt : Nat) (ad : Option Addr) (len cap : Nat) (W : World) : Prop := W.heap[Bt]? = some (.cells #[.slice ad len cap] 22 (0, 0))

set_option maxRecDepth 100000 in
set_option maxHeartbeats 4000000 in
theorem backb_seq (L : List (Int × Tm)) (ad : Option Addr) (cap Bt n₀ : Nat) (w : World) (P : Nat → Prop) (hP : ∀ b, P b → b < n₀) (hlen : L.length ≤ 1000000) (hargs : BdsAt w P ad L) (hn : n₀ ≤ w.heap.size) :
    SeqG Try.prog 67 #[.pointer (some ⟨Bt, 0, none⟩)] backbv (BackBd L w P) L.length n₀ (BoxBd Bt ad L.length cap) w := fun l J Jx W hW hJ hJx hG hY h0 => by
  have HY := Lib.hid hY
  have HG := Lib.hid hG
  have HA := Lib.hid hargs
  have HW := Lib.hid (hW.mono hn)
  have hB' := hG _ _ _ h0
  have HJ0 := Lib.hid h0
  obtain ⟨d0, e0⟩ := cell1 hB'
  clear hJ hJx hY hG hargs hW hB' h0
  refine (callsIn_wide (n := 4)).1 ?_
  refine callsIn_of_wp Try.func67 rfl trivial ?_ rfl
  simp only [Try.ntmps67, List.size_toArray, List.length_cons, List.length_nil, Nat.reduceAdd, Nat.reduceSub, Array.replicate_succ, Array.replicate_zero, List.push_toArray, List.append_toArray, List.nil_append, List.cons_append]
  gi_wp2
  gi_loopw [3] (fun iv wr => ∃ k : Nat, ((∃ j : Nat, j + k + 1 = L.length ∧ iv = .int .i64 (j : Nat)) ∨ (k = L.length ∧ iv = .int .i64 (-1))) ∧ J (fun _ => False) k wr ∧ Below n₀ W wr) (fun iv _ => (intOf iv + 1).toNat)
  case atStart =>
    refine ⟨0, ?_, HJ0.out, Below.refl _ _⟩
    by_cases h : L.length = 0
    · exact .inr ⟨h.symm, by rw [h]; rfl⟩
    · exact .inl ⟨L.length - 1, by omega, by congr 1; omega⟩
  case round =>
    obtain ⟨k, hiv, hj, hb⟩ := hrel
    rcases hiv with ⟨j, hjk, rfl⟩ | ⟨hkl, rfl⟩
    · have hbox := HG.out _ _ _ hj
      obtain ⟨d0, e0⟩ := cell1 hbox
      have HB := Lib.hid hb
      have HJ := Lib.hid hj
      obtain ⟨b, o, a1, c1, rfl, hPb, hi64, hp, x0, x1, x2, x3, x4⟩ := HA.out j (by omega)
      have hbn := hP b hPb
      have kc : ∀ i, wr.cell? ⟨b, i, none⟩ = w.cell? ⟨b, i, none⟩ := fun i => World.cell?_of_block (a := ⟨b, i, none⟩) ((HW.out.trans HB.out).block b hbn)
      have x0 := (kc _).trans x0
      have x1 := (kc _).trans x1
      have x2 := (kc _).trans x2
      have x3 := (kc _).trans x3
      have x4 := (kc _).trans x4
      have hat : BackBd L w P k (j, L[j]'(by omega), a1, c1) := ⟨hjk, List.getElem?_eq_getElem _, hi64, hp⟩
      have HAT := Lib.hid hat
      clear kc hat hp hi64 hj hb hbox
      generalize L[j]'(by omega) = B at *
      obtain ⟨n, t⟩ := B
      dsimp only at *
      have hi0 : (0 : Int) ≤ (j : Int) ∧ (j : Int) < (L.length : Int) := by omega
      have hge : (0 : Int) ≤ (j : Int) := by omega
      obtain ⟨fn, tmps, assign, body, hy, hR⟩ := HY.out (fun _ => False) k (j, (n, t), a1, c1) wr HJ.out (by omega) HAT.out
      unfold backbv at hy
      dsimp only at hy
      have HR := Lib.hid hR
      clear hR
      gi_wp2
      refine HR.out.mono ?_
      rintro e W3 (⟨rfl, hJ3, hb3, hk3⟩ | ⟨rfl, hJx3⟩)
      · have HJ3 := Lib.hid hJ3
        have HB3 := Lib.hid (HB.out.trans hb3)
        clear hJ3 hb3 hk3
        gi_wp2
        refine ⟨⟨k + 1, ?_, HJ3.out, HB3.out⟩, by simp [intOf]⟩
        by_cases hj0 : j = 0
        · exact .inr ⟨by omega, by subst hj0; rfl⟩
        · exact .inl ⟨j - 1, by omega, by congr 1; omega⟩
      · have HJX := Lib.hid hJx3
        clear hJx3
        gi_wp2
        refine bodyPost_ret (results_none rfl _ _ _) rfl ?_
        exact ⟨⟨_, rfl⟩, .inr ⟨_, k + 1, by omega, HJX.out⟩⟩
    · gi_wp2
      go_end0
      exact ⟨⟨_, rfl⟩, .inl ⟨_, hkl ▸ hj⟩⟩

set_option maxHeartbeats 1000000 in
theorem sl_BackwardB (ad : Option Addr) (len cap : Nat) (w : World) :
    Calls Try.prog 65 #[.slice ad len cap] w fun e w' => e = .returned (.func (.func 67) #[] #[.pointer (some ⟨w.heap.size, 0, none⟩)]) ∧ w' = w.alloc (.cells #[.slice ad len cap] 22) := by
  have hmf : ∀ (fn : Fn) (first cap : Array Value) (w : World), (Instr.makeFunc fn first cap).run Try.prog w = .ok (.func fn first cap) w := fun _ _ _ _ => rfl
  go_enter Try.func65, Try.ntmps65
  go_wp2_with fail
  go_ret
  exact ⟨rfl, rfl⟩
end Go.Proofs.Ytpmohibhdnmjlaa
