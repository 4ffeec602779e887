/-
  The contracts of package token's own opens and of Cut's closure; lists of tokens in memory of a call's own.
-/
import Derived.Test.YtglaoacdenecfaaDoorTokD
import Derived.Laws.AppendOwn
import Derived.Laws.OwnMore
import Derived.Deep.AppendLies
namespace Go.Proofs.YtglaoacdenecfaaDoor
open Go.RowKit

/-- A token as a value. -/
def tokv (t : Tok) : Value := .agg #[.int .i64 t.kind, .string ⟨t.text.toArray⟩, .int .i64 t.n, .int .i64 (t.pos : Nat)]
def tok4 (t : Tok) : List Value := [.int .i64 t.kind, .string ⟨t.text.toArray⟩, .int .i64 t.n, .int .i64 (t.pos : Nat)]
def tokCells (l : List Tok) : List Value := l.flatMap tok4
theorem tokCells_append (a b : List Tok) : tokCells (a ++ b) = tokCells a ++ tokCells b := List.flatMap_append
theorem tokCells_length : ∀ l : List Tok, (tokCells l).length = 4 * l.length
  | [] => rfl
  | t :: l => by
    show (tok4 t ++ tokCells l).length = _
    rw [List.length_append, tokCells_length l, List.length_cons]
    show 4 + _ = _
    omega
/-- A slice of tokens of the call's own. -/
def OwnToks (B : Nat) (w : World) (v : Value) (l : List Tok) : Prop := w.ownsRow B 30 4 v l.length (tokCells l)
theorem infoTok : (Tryd.prog.info? 30).map (fun i => (i.zero, i.size, i.bytes)) = some (some (.agg #[.int .i64 0, .string ⟨#[]⟩, .int .i64 0, .int .i64 0]), 4, 40) := by kernel_rfl
theorem info_parts {t : TypeId} {z : Value} {s b : Nat} (h : (Tryd.prog.info? t).map (fun i => (i.zero, i.size, i.bytes)) = some (some z, s, b)) : ∃ i, Tryd.prog.info? t = some i ∧ i.zero = some z ∧ i.size = s ∧ i.bytes = b := by
  cases hi : Tryd.prog.info? t with
  | none => rw [hi] at h; cases h
  | some i =>
    rw [hi] at h
    injection h with h
    injection h with h1 h2
    injection h2 with h2 h3
    exact ⟨i, rfl, h1, h2, h3⟩
theorem OwnToks.below {B : Nat} {w w' : World} {v : Value} {l : List Tok} (h : OwnToks B w v l) (hb : Below w.heap.size w w') : OwnToks B w' v l := by
  obtain ⟨hl, h0 | ⟨g, cap, cur, hv, hbg, hh, r⟩⟩ := h
  · exact ⟨hl, .inl h0⟩
  · exact ⟨hl, .inr ⟨g, cap, cur, hv, hbg, (hb.block g (Array.getElem?_eq_some_iff.1 hh).1).trans hh, r⟩⟩
theorem OwnToks.mono {B B' : Nat} {w : World} {v : Value} {l : List Tok} (h : OwnToks B w v l) (hB : B' ≤ B) : OwnToks B' w v l := by
  obtain ⟨hl, h0 | ⟨g, cap, cur, hv, hbg, r⟩⟩ := h
  · exact ⟨hl, .inl h0⟩
  · exact ⟨hl, .inr ⟨g, cap, cur, hv, Nat.le_trans hB hbg, r⟩⟩
/-- A store into another block. -/
theorem OwnToks.setOther {B : Nat} {w : World} {v : Value} {l : List Tok} (h : OwnToks B w v l) {q i : Nat} (hq : q < B) (u : Value) : OwnToks B (w.setCell ⟨q, i, none⟩ u) v l := by
  obtain ⟨hl, h0 | ⟨g, cap, cur, hv, hbg, hh, r⟩⟩ := h
  · exact ⟨hl, .inl h0⟩
  · refine ⟨hl, .inr ⟨g, cap, cur, hv, hbg, ?_, r⟩⟩
    rw [Below.heap_setCell _ _ _ _ (show g ≠ q from fun e => by omega)]
    exact hh
theorem OwnToks.slice {B : Nat} {w : World} {v : Value} {l : List Tok} (h : OwnToks B w v l) : ∃ ad cap, v = .slice ad l.length cap ∧ l.length ≤ cap ∧ cap ≤ maxLen := by
  obtain ⟨hl, ⟨rfl, h0⟩ | ⟨g, cap, cur, rfl, hbg, hh, hnc, hcm, r⟩⟩ := h
  · exact ⟨none, 0, by rw [h0], by omega, Nat.zero_le _⟩
  · exact ⟨some ⟨g, 0, none⟩, cap, rfl, hnc, hcm⟩

set_option maxHeartbeats 2000000 in
theorem tok_opens (k n p : Int) (t : List UInt8) (w : World) :
    Calls Tryd.prog 16 #[.agg #[.int .i64 k, .string ⟨t.toArray⟩, .int .i64 n, .int .i64 p]] w fun e w' => e = .returned (.bool (opensL k t)) ∧ Below w.heap.size w w' := by
  have HB := Lib.hid (fun o : Obj => (Below.refl w.heap.size w).alloc (Nat.le_refl _) o)
  obtain ⟨E, hE⟩ : ∃ E, opensL k t = E := ⟨_, rfl⟩
  rw [hE]
  unfold opensL at hE
  have f1 : ((⟨t.toArray⟩ : ByteArray).toList == [93]) = decide (t = [93]) := by rw [ByteArray.toList_eq, Bool.eq_iff_iff]; simp
  have f2 : ((⟨t.toArray⟩ : ByteArray).toList == [125]) = decide (t = [125]) := by rw [ByteArray.toList_eq, Bool.eq_iff_iff]; simp
  generalize (⟨t.toArray⟩ : ByteArray) = u at *
  generalize decide (t = [93]) = b1 at *
  generalize decide (t = [125]) = b2 at *
  have hk : k = 1 ∨ k = 2 ∨ k = 3 ∨ k = 6 ∨ ((k == 1) = false ∧ (k == 2) = false ∧ (k == 3) = false ∧ (k == 6) = false) := by
    simp only [beq_eq_false_iff_ne]; omega
  rcases hk with rfl | rfl | rfl | rfl | ⟨e1, e2, e3, e4⟩
  iterate 3
    · have HE : Hid (E = true) := Lib.hid (by rw [← hE]; rfl)
      clear hE
      go_enter Tryd.func16, Tryd.ntmps16
      go_wp2_with fail
      go_ret
      exact ⟨ret_boolT HE.out.symm, HB.out _⟩
  · have HE : Hid (E = (b1 || b2)) := Lib.hid (by rw [← hE]; rfl)
    clear hE
    cases b1
    all_goals
      go_enter Tryd.func16, Tryd.ntmps16
      go_wp2_with fail
      go_ret
      exact ⟨ret_boolT (by rw [HE.out]; first | rfl | (cases b2 <;> rfl)), HB.out _⟩
  · have HE : Hid (E = false) := Lib.hid (by
      rw [← hE]
      simp only [beq_eq_false_iff_ne] at e1 e2 e3 e4
      rw [decide_eq_false e1, decide_eq_false e2, decide_eq_false e3, decide_eq_false e4]; rfl)
    clear hE
    go_enter Tryd.func16, Tryd.ntmps16
    go_wp2_with fail
    go_ret
    exact ⟨ret_boolT HE.out.symm, HB.out _⟩
end Go.Proofs.YtglaoacdenecfaaDoor
