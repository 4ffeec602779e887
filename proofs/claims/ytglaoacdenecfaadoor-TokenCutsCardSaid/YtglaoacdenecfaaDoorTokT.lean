/-
  The contracts of the document's own own, glues, skip for token.
-/
import Derived.Test.YtglaoacdenecfaaDoorTokR
namespace Go.Proofs.YtglaoacdenecfaaDoor
open Go.RowKit

def longB (k : Int) (n : Nat) : Bool := decide (255 < n) && (k == 1 || k == 3)

set_option maxRecDepth 100000 in
set_option maxHeartbeats 2000000 in
theorem ref_own (s : ByteArray) (p : Nat) (k : Int) (e : Nat) (w : World) (hs : s.size ≤ 200000) (hp : p ≤ e) (he : e ≤ s.size) :
    Calls Tryd.prog 36 #[.string s, .int .i64 (p : Nat), .int .i64 k, .int .i64 (e : Nat)] w fun e' w' =>
      e' = .returned (.tuple #[.agg #[.int .i64 k, .string (s.extract p e), .int .i64 0, .int .i64 (p : Nat)], .int .i64 (e : Nat), .bool (!longB k (e - p))]) ∧ Below w.heap.size w w' := by
  have HB := Lib.hid (fun o : Obj => (Below.refl w.heap.size w).alloc (Nat.le_refl _) o)
  obtain ⟨E, hE⟩ : ∃ E, longB k (e - p) = E := ⟨_, rfl⟩
  rw [hE]
  unfold longB at hE
  have h0 : (0 : Int) ≤ (p : Int) := by omega
  have h1 : (p : Int) ≤ (e : Int) := by omega
  have h2 : (e : Int) ≤ (s.size : Int) := by omega
  have h3 : (s.size : Int) ≤ 200000 := by omega
  have hx : (s.extract p e) = s.extract (p : Int).toNat (e : Int).toNat := rfl
  by_cases hb : 255 < e - p
  · rw [decide_eq_true hb, Bool.true_and] at hE
    have h4 : (255 : Int) < (e : Int) - (p : Int) := by omega
    have hk : (k == 1) = true ∧ E = true ∨ (k == 1) = false ∧ (k == 3) = true ∧ E = true ∨ (k == 1) = false ∧ (k == 3) = false ∧ E = false := by
      cases k1 : k == 1 with
      | true => rw [k1] at hE; exact .inl ⟨rfl, hE.symm⟩
      | false =>
        rw [k1] at hE
        cases k3 : k == 3 with
        | true => rw [k3] at hE; exact .inr (.inl ⟨rfl, rfl, hE.symm⟩)
        | false => rw [k3] at hE; exact .inr (.inr ⟨rfl, rfl, hE.symm⟩)
    clear hE hb hx
    rcases hk with ⟨k1, rfl⟩ | ⟨k1, k3, rfl⟩ | ⟨k1, k3, rfl⟩
    all_goals
      go_enter Tryd.func36, Tryd.ntmps36
      go_wp2_with fail
      refine bodyPost_ret (v := .tuple #[.agg #[.int .i64 k, .string (s.extract p e), .int .i64 0, .int .i64 (p : Nat)], .int .i64 (e : Nat), .bool _]) (by simp [results, Tryd.results36, go_sem]) rfl ⟨rfl, HB.out _⟩
  · rw [decide_eq_false hb, Bool.false_and] at hE
    have h4 : (e : Int) - (p : Int) ≤ 255 := by omega
    subst hE
    clear hb hx
    go_enter Tryd.func36, Tryd.ntmps36
    go_wp2_with fail
    refine bodyPost_ret (v := .tuple #[.agg #[.int .i64 k, .string (s.extract p e), .int .i64 0, .int .i64 (p : Nat)], .int .i64 (e : Nat), .bool _]) (by simp [results, Tryd.results36, go_sem]) rfl ⟨rfl, HB.out _⟩

set_option maxHeartbeats 2000000 in
theorem ref_glues (k n p : Int) (t : List UInt8) (w : World) :
    Calls Tryd.prog 19 #[.agg #[.int .i64 k, .string ⟨t.toArray⟩, .int .i64 n, .int .i64 p]] w fun e w' => e = .returned (.bool (opensL k t)) ∧ Below w.heap.size w w' := by
  have HB := Lib.hid (fun o : Obj => (Below.refl w.heap.size w).alloc (Nat.le_refl _) o)
  obtain ⟨E, hE⟩ : ∃ E, opensL k t = E := ⟨_, rfl⟩
  rw [hE]
  unfold opensL at hE
  have f1 : ((⟨t.toArray⟩ : ByteArray).toList == [93]) = decide (t = [93]) := by rw [ByteArray.toList_eq, Bool.eq_iff_iff]; simp
  have f2 : ((⟨t.toArray⟩ : ByteArray).toList == [125]) = decide (t = [125]) := by rw [ByteArray.toList_eq, Bool.eq_iff_iff]; simp
  generalize (⟨t.toArray⟩ : ByteArray) = u at *
  generalize decide (t = [93]) = b1 at *
  generalize decide (t = [125]) = b2 at *
  have hk : k = 1 ∨ k = 2 ∨ k = 3 ∨ k = 6 ∨ ((k == 1) = false ∧ (k == 2) = false ∧ (k == 3) = false ∧ (k == 6) = false) := by
    simp only [beq_eq_false_iff_ne]; omega
  rcases hk with rfl | rfl | rfl | rfl | ⟨e1, e2, e3, e4⟩
  iterate 3
    · have HE : Hid (E = true) := Lib.hid (by rw [← hE]; rfl)
      clear hE
      go_enter Tryd.func19, Tryd.ntmps19
      go_wp2_with fail
      go_ret
      exact ⟨ret_boolT HE.out.symm, HB.out _⟩
  · have HE : Hid (E = (b1 || b2)) := Lib.hid (by rw [← hE]; rfl)
    clear hE
    cases b1
    all_goals
      go_enter Tryd.func19, Tryd.ntmps19
      go_wp2_with fail
      go_ret
      exact ⟨ret_boolT (by rw [HE.out]; first | rfl | (cases b2 <;> rfl)), HB.out _⟩
  · have HE : Hid (E = false) := Lib.hid (by
      rw [← hE]
      simp only [beq_eq_false_iff_ne] at e1 e2 e3 e4
      rw [decide_eq_false e1, decide_eq_false e2, decide_eq_false e3, decide_eq_false e4]; rfl)
    clear hE
    go_enter Tryd.func19, Tryd.ntmps19
    go_wp2_with fail
    go_ret
    exact ⟨ret_boolT HE.out.symm, HB.out _⟩
end Go.Proofs.YtglaoacdenecfaaDoor
