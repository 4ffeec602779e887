/-
  The contracts of package ops' find, Prefix and Infix: the first row of the table of that name whose type has so many letters.
-/
import Derived.Test.YtfkkembjlahjfaaOpsB
namespace Go.Proofs.Ytfkkembjlahjfaa
open Go.RowKit

theorem flat_get (l : List R) : ∀ (k : Nat) (h : k < l.length), (l.flatMap R.cells)[k * 3]? = some (.int .i64 (l[k]'h).p) ∧ (l.flatMap R.cells)[k * 3 + 1]? = some (.string (l[k]'h).k) ∧ (l.flatMap R.cells)[k * 3 + 2]? = some (.string (l[k]'h).n) := by
  induction l with
  | nil => intro k h; cases h
  | cons r l ih =>
    intro k h
    have hl : r.cells.length = 3 := rfl
    cases k with
    | zero => exact ⟨rfl, rfl, rfl⟩
    | succ k =>
      have h2 := ih k (by simpa using h)
      rw [List.flatMap_cons, List.getElem?_append_right (by omega), List.getElem?_append_right (by omega), List.getElem?_append_right (by omega), hl,
        show (k + 1) * 3 - 3 = k * 3 by omega, show (k + 1) * 3 + 1 - 3 = k * 3 + 1 by omega, show (k + 1) * 3 + 2 - 3 = k * 3 + 2 by omega]
      exact h2
theorem tab_len : tabR.length = 30 := rfl
theorem tab_get (k : Nat) (h : k < 30) : tabCells[k * 3]? = some (.int .i64 (tabR[k]'h).p) ∧ tabCells[k * 3 + 1]? = some (.string (tabR[k]'h).k) ∧ tabCells[k * 3 + 2]? = some (.string (tabR[k]'h).n) := by
  have := flat_get tabR k h
  unfold tabCells
  simpa using this
/-- The row of that name and of so many letters. -/
def R.fits (name : ByteArray) (n : Int) (r : R) : Bool := r.n.toList == name.toList && (r.k.size : Int) == n
def findR (l : List R) (name : ByteArray) (n : Int) : Option R := l.find? (R.fits name n)
def opAns : Option R → Value
  | some r => .tuple #[.agg #[.int .i64 r.p, .string r.k], .bool true]
  | none => .tuple #[.agg #[.int .i64 0, .string ⟨#[]⟩], .bool false]
theorem findR_step (l : List R) (name : ByteArray) (n : Int) (k : Nat) (h : k < l.length) : findR (l.drop k) name n = if (l[k]'h).fits name n then some (l[k]'h) else findR (l.drop (k + 1)) name n := by
  rw [List.drop_eq_getElem_cons h]
  show List.find? _ _ = _
  rw [List.find?_cons]
  cases (l[k]'h).fits name n <;> rfl
theorem bcell {W w1 : World} (hb : Below W.heap.size W w1) : (∀ b o, b < W.heap.size → w1.cell? ⟨b, o, none⟩ = W.cell? ⟨b, o, none⟩) ∧ (∀ b o, b < W.heap.size → w1.frozen? ⟨b, o, none⟩ = W.frozen? ⟨b, o, none⟩) :=
  ⟨fun b o h => hb.cell (p := ⟨b, o, none⟩) h, fun b o h => hb.frozen (p := ⟨b, o, none⟩) h⟩
/-- An operator's two cells, just laid, behind a call. -/
theorem op_made {w w1 : World} {p : Int} {k : ByteArray} {t : TypeId} (hb : Below (w.alloc (.cells #[.int .i64 p, .string k] t)).heap.size (w.alloc (.cells #[.int .i64 p, .string k] t)) w1) :
    w1.cell? ⟨w.heap.size, 0, none⟩ = some (.int .i64 p) ∧ w1.cell? ⟨w.heap.size, 1, none⟩ = some (.string k) ∧ w1.frozen? ⟨w.heap.size, 0, none⟩ = false ∧ w1.frozen? ⟨w.heap.size, 1, none⟩ = false := by
  obtain ⟨hc, hf⟩ := bcell hb
  refine ⟨?_, ?_, ?_, ?_⟩
  · rw [hc _ _ (by rw [World.size_alloc]; omega)]; exact World.cell?_alloc_at _ _ _ _ rfl
  · rw [hc _ _ (by rw [World.size_alloc]; omega)]; exact World.cell?_alloc_at _ _ _ _ rfl
  · rw [hf _ _ (by rw [World.size_alloc]; omega)]; simp
  · rw [hf _ _ (by rw [World.size_alloc]; omega)]; simp
attribute [local go_sem] zero_tab tabCells_size zeroCells_size tabCells_ne zeroCells_ne store_tab

set_option maxRecDepth 100000 in
set_option maxHeartbeats 4000000 in
theorem ops_find (name : ByteArray) (n : Int) (w : World) :
    Calls Try.prog 19 #[.string name, .int .i64 n] w fun e w' => e = .returned (opAns (findR tabR name n)) ∧ Below w.heap.size w w' := by
  have HB := Lib.hid (fun o : Obj => (Below.refl w.heap.size w).alloc (Nat.le_refl _) o)
  obtain ⟨E, hE⟩ : ∃ E, findR tabR name n = E := ⟨_, rfl⟩
  rw [hE]
  have HE := Lib.hid hE
  clear hE
  go_enter Try.func19, Try.ntmps19
  go_wp2_with fail
  refine (ops_table _).mono ?_
  rintro e w1 ⟨rfl, hb1⟩
  have hbw1 := (HB.out _).trans (hb1.mono (by simp))
  have hs1 := hb1.size
  rw [World.size_alloc] at hs1
  obtain ⟨hc, hf⟩ := bcell hb1
  have z0 : w1.cell? ⟨w.heap.size, 0, none⟩ = some (.int .i64 0) := by rw [hc _ _ (by rw [World.size_alloc]; omega)]; exact World.cell?_alloc_at _ _ _ _ rfl
  have z1 : w1.cell? ⟨w.heap.size, 1, none⟩ = some (.string ⟨#[]⟩) := by rw [hc _ _ (by rw [World.size_alloc]; omega)]; exact World.cell?_alloc_at _ _ _ _ rfl
  have g0 : w1.frozen? ⟨w.heap.size, 0, none⟩ = false := by rw [hf _ _ (by rw [World.size_alloc]; omega)]; simp
  have g1 : w1.frozen? ⟨w.heap.size, 1, none⟩ = false := by rw [hf _ _ (by rw [World.size_alloc]; omega)]; simp
  clear hc hf hb1
  go_wp2_with fail
  generalize hw2 : w1.alloc (Obj.cells tabCells 37) = w2
  have hbw2 : Below w.heap.size w w2 := by rw [← hw2]; exact hbw1.alloc hbw1.size _
  have hs2 : w2.heap.size = w1.heap.size + 1 := by rw [← hw2]; simp
  have HT : Hid (∀ W, Below w2.heap.size w2 W → ∀ k (h : k < 30), W.cell? ⟨w1.heap.size, k * 3, none⟩ = some (.int .i64 (tabR[k]'h).p) ∧ W.cell? ⟨w1.heap.size, k * 3 + 1, none⟩ = some (.string (tabR[k]'h).k) ∧ W.cell? ⟨w1.heap.size, k * 3 + 2, none⟩ = some (.string (tabR[k]'h).n)) := Lib.hid (fun W hb k h => by
    have h3 := tab_get k h
    have hc : ∀ i, W.cell? ⟨w1.heap.size, i, none⟩ = tabCells[i]? := fun i => by
      rw [hb.cell (p := ⟨w1.heap.size, i, none⟩) (by show w1.heap.size < _; omega), ← hw2]; exact World.cell?_alloc_at _ _ _ _ rfl
    rw [hc, hc, hc]; exact h3)
  have HZ : Hid (∀ W, Below w2.heap.size w2 W → W.cell? ⟨w.heap.size, 0, none⟩ = some (.int .i64 0) ∧ W.cell? ⟨w.heap.size, 1, none⟩ = some (.string ⟨#[]⟩) ∧ W.frozen? ⟨w.heap.size, 0, none⟩ = false ∧ W.frozen? ⟨w.heap.size, 1, none⟩ = false) := Lib.hid (fun W hb => by
    obtain ⟨hc, hf⟩ := bcell hb
    rw [hc _ _ (by omega), hc _ _ (by omega), hf _ _ (by omega), hf _ _ (by omega), ← hw2, World.cell?_alloc_past _ _ _ (by omega), World.cell?_alloc_past _ _ _ (by omega), World.frozen?_alloc_past _ _ _ (by omega), World.frozen?_alloc_past _ _ _ (by omega)]
    exact ⟨z0, z1, g0, g1⟩)
  have HS : Hid (w2.heap.size = w1.heap.size + 1) := Lib.hid hs2
  clear hw2 z0 z1 g0 g1 hs2
  go_loopw [10] (fun iv wr => ∃ k : Nat, k ≤ 30 ∧ iv = .int .i64 k ∧ Below w2.heap.size w2 wr ∧ Hid (findR (tabR.drop k) name n = E)) (fun iv _ => 30 - (intOf iv).toNat)
  case atStart => exact ⟨0, Nat.zero_le _, rfl, Below.refl _ _, HE⟩
  case round =>
    obtain ⟨k, hk, rfl, hbw, HG⟩ := hrel
    obtain ⟨z0, z1, g0, g1⟩ := HZ.out wr hbw
    have hws := hbw.size
    by_cases hlt : k < 30
    · obtain ⟨c0, c1, c2⟩ := HT.out wr hbw k hlt
      have HST := Lib.hid (findR_step tabR name n k hlt)
      generalize tabR[k] = r at *
      have hi0 : (0 : Int) ≤ (k : Int) := by omega
      have hi1 : (k : Int) < 30 := by omega
      cases e1 : (r.n.toList == name.toList) with
      | false =>
        have HN : Hid (findR (tabR.drop (k + 1)) name n = E) := Lib.hid (by rw [← HG.out, HST.out, if_neg (by unfold R.fits; rw [e1]; simp)])
        go_wp2_with fail
        go_roundw
        case rel => exact ⟨k + 1, by omega, by go_num, hbw.alloc hws _, HN⟩
        case measure => simp [intOf]; omega
      | true =>
        cases e2 : ((r.k.size : Int) == n) with
        | false =>
          have HN : Hid (findR (tabR.drop (k + 1)) name n = E) := Lib.hid (by rw [← HG.out, HST.out, if_neg (by unfold R.fits; rw [e1, e2]; simp)])
          go_wp2_with fail
          go_roundw
          case rel => exact ⟨k + 1, by omega, by go_num, hbw.alloc hws _, HN⟩
          case measure => simp [intOf]; omega
        | true =>
          have HR : Hid (E = some r) := Lib.hid (by rw [← HG.out, HST.out, if_pos (by unfold R.fits; rw [e1, e2]; rfl)])
          have hlt2 : w.heap.size < wr.heap.size := by have := HS.out; omega
          go_wp2_with fail
          refine bodyPost_ret (v := .tuple #[.agg #[.int .i64 r.p, .string r.k], .bool true]) (by simp [results, Try.results19, go_sem, hlt2, z0, z1]) rfl ⟨by rw [HR.out]; rfl, ?_⟩
          have hb3 : Below w.heap.size w wr := hbw2.trans (hbw.mono hbw2.size)
          have hb4 := (hb3.setCell (p := ⟨w.heap.size, 0, none⟩) (Nat.le_refl _) (.int .i64 r.p)).setCell (p := ⟨w.heap.size, 1, none⟩) (Nat.le_refl _) (.string r.k)
          exact hb4.alloc hb4.size _
    · have HR : Hid (E = none) := Lib.hid (by rw [← HG.out, List.drop_eq_nil_of_le (by rw [tab_len]; omega)]; rfl)
      go_wp2_with fail
      refine bodyPost_ret (v := .tuple #[.agg #[.int .i64 0, .string ⟨#[]⟩], .bool false]) (by simp [results, Try.results19, go_sem, z0, z1]) rfl ⟨by rw [HR.out]; rfl, ?_⟩
      have hb3 : Below w.heap.size w wr := hbw2.trans (hbw.mono hbw2.size)
      exact (hb3.setCell (Nat.le_refl _) _).setCell (Nat.le_refl _) _

set_option maxHeartbeats 1000000 in
theorem ops_Prefix (name : ByteArray) (w : World) :
    Calls Try.prog 7 #[.string name] w fun e w' => e = .returned (opAns (findR tabR name 2)) ∧ Below w.heap.size w w' := by
  have HB := Lib.hid (fun o : Obj => (Below.refl w.heap.size w).alloc (Nat.le_refl _) o)
  have HF := Lib.hid (fun W => ops_find name 2 W)
  generalize findR tabR name 2 = E at *
  cases E with
  | none =>
    unfold opAns at *
    go_enter Try.func7, Try.ntmps7
    go_wp2_with fail
    refine (HF.out _).mono ?_
    rintro e w1 ⟨rfl, hb1⟩
    have hbw1 := (HB.out _).trans (hb1.mono (by simp))
    obtain ⟨z0, z1, g0, g1⟩ := op_made hb1
    clear hb1
    go_wp2_with fail
    exact bodyPost_ret (v := .tuple #[.agg #[.int .i64 0, .string ⟨#[]⟩], .bool false]) (by simp [results, Try.results7, go_sem, z0, z1]) rfl ⟨rfl, (hbw1.setCell (Nat.le_refl _) _).setCell (Nat.le_refl _) _⟩
  | some r =>
    unfold opAns at *
    go_enter Try.func7, Try.ntmps7
    go_wp2_with fail
    refine (HF.out _).mono ?_
    rintro e w1 ⟨rfl, hb1⟩
    have hbw1 := (HB.out _).trans (hb1.mono (by simp))
    obtain ⟨z0, z1, g0, g1⟩ := op_made hb1
    clear hb1
    go_wp2_with fail
    exact bodyPost_ret (v := .tuple #[.agg #[.int .i64 r.p, .string r.k], .bool true]) (by simp [results, Try.results7, go_sem, z0, z1]) rfl ⟨rfl, (hbw1.setCell (Nat.le_refl _) _).setCell (Nat.le_refl _) _⟩

set_option maxHeartbeats 1000000 in
theorem ops_Infix (name : ByteArray) (w : World) :
    Calls Try.prog 9 #[.string name] w fun e w' => e = .returned (opAns (findR tabR name 3)) ∧ Below w.heap.size w w' := by
  have HB := Lib.hid (fun o : Obj => (Below.refl w.heap.size w).alloc (Nat.le_refl _) o)
  have HF := Lib.hid (fun W => ops_find name 3 W)
  generalize findR tabR name 3 = E at *
  cases E with
  | none =>
    unfold opAns at *
    go_enter Try.func9, Try.ntmps9
    go_wp2_with fail
    refine (HF.out _).mono ?_
    rintro e w1 ⟨rfl, hb1⟩
    have hbw1 := (HB.out _).trans (hb1.mono (by simp))
    obtain ⟨z0, z1, g0, g1⟩ := op_made hb1
    clear hb1
    go_wp2_with fail
    exact bodyPost_ret (v := .tuple #[.agg #[.int .i64 0, .string ⟨#[]⟩], .bool false]) (by simp [results, Try.results9, go_sem, z0, z1]) rfl ⟨rfl, (hbw1.setCell (Nat.le_refl _) _).setCell (Nat.le_refl _) _⟩
  | some r =>
    unfold opAns at *
    go_enter Try.func9, Try.ntmps9
    go_wp2_with fail
    refine (HF.out _).mono ?_
    rintro e w1 ⟨rfl, hb1⟩
    have hbw1 := (HB.out _).trans (hb1.mono (by simp))
    obtain ⟨z0, z1, g0, g1⟩ := op_made hb1
    clear hb1
    go_wp2_with fail
    exact bodyPost_ret (v := .tuple #[.agg #[.int .i64 r.p, .string r.k], .bool true]) (by simp [results, Try.results9, go_sem, z0, z1]) rfl ⟨rfl, (hbw1.setCell (Nat.le_refl _) _).setCell (Nat.le_refl _) _⟩

end Go.Proofs.Ytfkkembjlahjfaa
