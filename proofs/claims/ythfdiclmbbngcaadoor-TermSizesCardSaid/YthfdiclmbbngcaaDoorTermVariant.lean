/-
  The contracts of the document's own SameNums and Variant for term.
-/
import Derived.Test.YthfdiclmbbngcaaDoorTermVars
import Derived.Test.YthfdiclmbbngcaaDoorTermBare
import Derived.Test.YthfdiclmbbngcaaDoorTermRefAC
import Derived.Deep.QuietTactic
import Derived.BigQuiet
namespace Go.Proofs.YthfdiclmbbngcaaDoor
open Go.RowKit

theorem below_drewN {B : Nat} {a w : World} (h : Below B a w) (n : Nat) : Below B a (w.drewN n) := ⟨h.os, h.tape, h.output, h.size, h.block⟩

set_option maxHeartbeats 2000000 in
theorem ref_SameNums (l r : List Int) (v u : Value) (B C : Nat) (w : World) (h : OwnNums B w v l) (h2 : OwnNums C w u r) (hlen : l.length ≤ 1000000000) (hlen2 : r.length ≤ 1000000000) :
    Calls Tryd.prog 29 #[v, u] w fun e w' => e = .returned (.bool (l == r)) ∧ Below w.heap.size w w' := by
  obtain ⟨ad, cap, rfl, hlc, _, hcell⟩ := h.view
  obtain ⟨bd, cbp, rfl, hrc, _, hcell2⟩ := h2.view
  obtain ⟨E, hE⟩ : ∃ E, (l == r) = E := ⟨_, rfl⟩
  rw [hE]
  have HE := Lib.hid hE
  have HC := Lib.hid hcell
  have HD := Lib.hid hcell2
  clear h h2 hE hcell hcell2
  by_cases hl : l.length = r.length
  · have eL : ((l.length : Int) != (r.length : Int)) = false := by simp; omega
    have HL := Lib.hid hl
    go_enter Tryd.func29, Tryd.ntmps29
    go_wp2_with fail
    clear eL hl
    go_loopw [13] (fun iv wr => ∃ k : Nat, k ≤ l.length ∧ iv = .int .i64 k ∧ Below w.heap.size w wr ∧ Hid (l.take k = r.take k)) (fun iv _ => l.length - (intOf iv).toNat)
    case atStart => exact ⟨0, Nat.zero_le _, rfl, Below.refl _ _, Lib.hid rfl⟩
    case round =>
      obtain ⟨k, hk, rfl, hbw, HB⟩ := hrel
      by_cases hlt : k < l.length
      · have hltr : k < r.length := by have := HL.out; omega
        obtain ⟨g, rfl, c0⟩ := HC.out k hlt
        obtain ⟨g2, rfl, d0⟩ := HD.out k hltr
        have c1 := (hbw.cell (p := ⟨g, k, none⟩) (World.block_lt_of_cell? w _ c0)).trans c0
        have d1 := (hbw.cell (p := ⟨g2, k, none⟩) (World.block_lt_of_cell? w _ d0)).trans d0
        have htk1 := Lib.hid (List.take_succ_eq_append_getElem hlt)
        have htk2 := Lib.hid (List.take_succ_eq_append_getElem hltr)
        have hget : Hid (l[k] ≠ r[k] → l ≠ r) := Lib.hid (fun hne e => hne (by subst e; rfl))
        generalize l[k] = x at *
        generalize r[k] = y at *
        have hk0 : (0 : Int) ≤ (k : Int) := by omega
        have hk1 : (k : Int) < (l.length : Int) := by omega
        have hk2 : (k : Int) < (r.length : Int) := by omega
        clear c0 d0
        cases hx : (x != y) with
        | true =>
          have HR : Hid (E = false) := Lib.hid (by rw [← HE.out]; exact beq_eq_false_iff_ne.2 (hget.out (by simpa using hx)))
          go_wp2_with fail
          go_quiet (fail)
          go_wp2_with fail
          go_ret
          exact ⟨ret_bool HR.out.symm, below_drewN hbw _⟩
        | false =>
          have hxy : x = y := by simpa using hx
          have HN : Hid (l.take (k + 1) = r.take (k + 1)) := Lib.hid (by rw [htk1.out, htk2.out, HB.out, hxy])
          clear hxy
          go_wp2_with fail
          go_quiet (fail)
          go_wp2_with fail
          go_roundw
          case rel => exact ⟨k + 1, by omega, by go_num, below_drewN hbw _, HN⟩
          case measure => simp [intOf]; omega
      · have hR := HB.out
        rw [List.take_of_length_le (by omega), List.take_of_length_le (by have := HL.out; omega)] at hR
        have HR : Hid (E = true) := Lib.hid (by rw [← HE.out]; simpa using hR)
        have hltr : ¬ k < r.length := by have := HL.out; omega
        clear hR HB
        go_wp2_with fail
        go_ret
        exact ⟨ret_bool HR.out.symm, hbw⟩
  · have eL : ((l.length : Int) != (r.length : Int)) = true := by simp; omega
    have HR : Hid (E = false) := Lib.hid (by rw [← HE.out]; exact beq_eq_false_iff_ne.2 (fun e => hl (by rw [e])))
    clear hl
    go_enter Tryd.func29, Tryd.ntmps29
    go_wp2_with fail
    go_ret
    exact ⟨ret_bool HR.out.symm, Below.refl _ _⟩
/-- Two lists go together: where one has the same twice, so has the other one. -/
def pairs (x y : List Int) : Prop := ∀ i k, k < i → i < x.length → (x.getD i 0 = x.getD k 0 ↔ y.getD i 0 = y.getD k 0)
noncomputable def Tm.variant (a b : Tm) : Bool := @decide (a.bare = b.bare ∧ pairs a.places b.places) (Classical.propDecidable _)
theorem variant_true {a b : Tm} (h1 : a.bare = b.bare) (h2 : pairs a.places b.places) : a.variant b = true := by unfold Tm.variant; simp [h1, h2]
theorem variant_bare {a b : Tm} (h1 : a.bare ≠ b.bare) : a.variant b = false := by unfold Tm.variant; simp [h1]
theorem variant_pairs {a b : Tm} (h2 : ¬ pairs a.places b.places) : a.variant b = false := by unfold Tm.variant; simp [h2]
theorem bare_size' (m : Nat) : ∀ l : List Tm, Tm.sizes l ≤ m → Tm.sizes (l.map Tm.bare) = Tm.sizes l := by
  induction m with
  | zero =>
    intro l h
    cases l with
    | nil => rfl
    | cons t l => rw [Tm.sizes_cons] at h; have := t.size_pos; omega
  | succ m ih =>
    intro l h
    cases l with
    | nil => rfl
    | cons t l =>
      rw [Tm.sizes_cons] at h
      have h1 := t.size_eq
      have h2 := ih t.args (by omega)
      have h3 := ih l (by have := t.size_pos; omega)
      rw [List.map_cons, Tm.sizes_cons, Tm.sizes_cons, h3, t.bare_eq, Tm.size_eq, Tm.size_eq t]
      show 1 + Tm.sizes (t.args.map Tm.bare) + _ = _
      rw [h2]
theorem Tm.bare_size (t : Tm) : t.bare.size = t.size := by
  rw [t.bare_eq, Tm.size_eq, Tm.size_eq t]
  show 1 + Tm.sizes (t.args.map Tm.bare) = _
  rw [bare_size' _ t.args (Nat.le_refl _)]
theorem bare_places' (m : Nat) : ∀ l r : List Tm, Tm.sizes l ≤ m → l.map Tm.bare = r.map Tm.bare → (l.flatMap Tm.places).length = (r.flatMap Tm.places).length := by
  induction m with
  | zero =>
    intro l r h he
    cases l with
    | nil =>
      cases r with
      | nil => rfl
      | cons t r => cases he
    | cons t l => rw [Tm.sizes_cons] at h; have := t.size_pos; omega
  | succ m ih =>
    intro l r h he
    cases l with
    | nil =>
      cases r with
      | nil => rfl
      | cons t r => cases he
    | cons t l =>
      cases r with
      | nil => cases he
      | cons s r =>
        rw [List.map_cons, List.map_cons] at he
        injection he with he1 he2
        rw [t.bare_eq, s.bare_eq] at he1
        injection he1 with hk hnm hn ha
        rw [Tm.sizes_cons] at h
        have h1 := t.size_eq
        have h2 := ih t.args s.args (by omega) ha
        have h3 := ih l r (by have := t.size_pos; omega) he2
        rw [List.flatMap_cons, List.flatMap_cons, List.length_append, List.length_append, t.places_eq, s.places_eq, List.length_append, List.length_append, h2, h3, hk]
        split <;> rfl
theorem Tm.bare_places {a b : Tm} (h : a.bare = b.bare) : a.places.length = b.places.length := by
  have := bare_places' _ [a] [b] (Nat.le_refl _) (by rw [List.map_cons, List.map_cons, h])
  simpa using this
end Go.Proofs.YthfdiclmbbngcaaDoor
