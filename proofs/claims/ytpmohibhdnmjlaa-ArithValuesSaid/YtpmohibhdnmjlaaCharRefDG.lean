/-
  Joined texts: CharRefD, CharRefE, CharRefF, CharRefG.
-/
import Derived.Test.YtpmohibhdnmjlaaCharRefC
import Derived.Deep.AppendLies

/-
  The contract of the document's own Runes for char: a text's runes, in a slice of the call's own.
-/
namespace Go.Proofs.Ytpmohibhdnmjlaa
open Go.RowKit

theorem ownsRow_below {w w' : World} {B : Nat} {e : TypeId} {size : Nat} {v : Value} {n : Nat} {xs : List Value} (h : w.ownsRow B e size v n xs) (hb : Below w.heap.size w w') : w'.ownsRow B e size v n xs := by
  obtain ⟨hl, h0 | ⟨g, cap, cur, hv, hbg, hh, r⟩⟩ := h
  · exact ⟨hl, .inl h0⟩
  · have hg : g < w.heap.size := (Array.getElem?_eq_some_iff.1 hh).1
    exact ⟨hl, .inr ⟨g, cap, cur, hv, hbg, (hb.block g hg).trans hh, r⟩⟩
theorem extract_drop (s : ByteArray) (k : Nat) : (s.extract k s.size).data.toList = s.data.toList.drop k := by
  rw [ByteArray.data_extract, Array.toList_extract]
  simp
  exact List.take_of_length_le (by simp)
theorem list_ne (t : ByteArray) (h : t.size ≠ 0) : t.data.toList ≠ [] := fun e => by
  have h1 : t.data.toList.length = t.size := by simp
  rw [e] at h1
  exact h h1.symm
theorem infoRune : (Try.prog.info? 21).map (fun i => (i.zero, i.size, i.bytes)) = some (some (.int .i32 0), 1, 4) := by kernel_rfl

/-- A slice of runes of the call's own. -/
def OwnRunes (B : Nat) (w : World) (v : Value) (rs : List Int) : Prop := w.ownsRow B 21 1 v rs.length (rs.map (Value.int .i32))
def strSize : Value → Nat
  | .string t => t.size
  | _ => 0

end Go.Proofs.Ytpmohibhdnmjlaa

/-
  The contract of the document's own Bare for char.
-/
namespace Go.Proofs.Ytpmohibhdnmjlaa
open Go.RowKit

/-- What the first tests of Bare come to. -/
theorem bare_no {l : List UInt8} (h : checkL l = false ∨ l = [] ∨ l = [46] ∨ l.take 2 = [47, 42]) : bareL l = false := by
  unfold bareL
  rcases h with h | h | h | h
  · rw [h]; rfl
  · rw [h]; rfl
  · rw [h]; rfl
  · rw [h]; simp
theorem bare_yes {l : List UInt8} (hc : checkL l = true) (h : l = [91, 93] ∨ l = [123, 125] ∨ l = [33] ∨ l = [59]) : bareL l = true := by
  unfold bareL
  rw [hc]
  rcases h with h | h | h | h
  all_goals rw [h]; rfl
def nameAll (rs : List Int) : Bool := decide (cls (rs.headD 0) = 1) && rs.all nameR
theorem name_snoc (nm0 : Bool) (rs : List Int) (k : Nat) (h : k < rs.length) : (nm0 && (rs.take (k + 1)).all nameR) = ((nm0 && (rs.take k).all nameR) && nameR rs[k]) := by
  rw [List.take_succ_eq_append_getElem h, List.all_append]
  simp [Bool.and_assoc]
theorem sign_snoc (rs : List Int) (k : Nat) (h : k < rs.length) : (rs.take (k + 1)).all signR = ((rs.take k).all signR && signR rs[k]) := by
  rw [List.take_succ_eq_append_getElem h, List.all_append]
  simp
theorem bare_rest {l : List UInt8} (hc : checkL l = true) (h0 : l ≠ []) (h1 : l ≠ [46]) (h2 : l.take 2 ≠ [47, 42]) (h3 : l ≠ [91, 93]) (h4 : l ≠ [123, 125]) (h5 : l ≠ [33]) (h6 : l ≠ [59]) :
    bareL l = (nameAll (runesL l) || (runesL l).all signR) := by
  unfold bareL nameAll
  rw [hc, decide_eq_false h0, decide_eq_false h1, decide_eq_false h2, decide_eq_false h3, decide_eq_false h4, decide_eq_false h5, decide_eq_false h6]
  simp

end Go.Proofs.Ytpmohibhdnmjlaa

/-
  The contract of the document's own Bare for char, at every string.
-/
namespace Go.Proofs.Ytpmohibhdnmjlaa
open Go.RowKit

theorem runesL_ne {l : List UInt8} (h : l ≠ []) : runesL l ≠ [] := by rw [runesL_cons l h]; simp
theorem take2 (s : ByteArray) : (s.extract 0 2).toList = s.data.toList.take 2 := by
  rw [ByteArray.toList_eq, ByteArray.data_extract, Array.toList_extract]
  simp

end Go.Proofs.Ytpmohibhdnmjlaa

/-
  The contract of the document's own Write for char.
-/
namespace Go.Proofs.Ytpmohibhdnmjlaa
open Go.RowKit

theorem flat_snoc (rs : List Int) (k : Nat) (h : k < rs.length) : (rs.take (k + 1)).flatMap escR = (rs.take k).flatMap escR ++ escR rs[k] := by
  rw [List.take_succ_eq_append_getElem h, List.flatMap_append]
  simp
theorem data_cat (a b : ByteArray) : (a ++ b).data.toList = a.data.toList ++ b.data.toList := by
  rw [ByteArray.data_append]; simp
theorem size_list (a : ByteArray) : a.data.toList.length = a.size := by simp
theorem ret_str {a b : ByteArray} (h : a = b) : Ending.returned (.string a) = .returned (.string b) := by rw [h]
theorem of_list (a : ByteArray) (l : List UInt8) (h : a.data.toList = l) : a = ⟨l.toArray⟩ := by
  subst h
  rfl

theorem escR_cases (n : Nat) : (n = 39 ∧ escR n = 92 :: encL n) ∨ (n = 92 ∧ escR n = 92 :: encL n) ∨ (n = 10 ∧ escR n = [92, 110]) ∨ (n = 9 ∧ escR n = [92, 116]) ∨
    (n ≠ 39 ∧ n ≠ 92 ∧ n ≠ 10 ∧ n ≠ 9 ∧ n < 32 ∧ escR n = 92 :: 120 :: (hexL n ++ [92])) ∨ (32 ≤ n ∧ (n ≠ 39 ∧ n ≠ 92) ∧ escR n = encL n) := by
  unfold escR
  by_cases h1 : n = 39
  · exact .inl ⟨h1, if_pos (by omega)⟩
  by_cases h2 : n = 92
  · exact .inr (.inl ⟨h2, if_pos (by omega)⟩)
  rw [if_neg (by omega)]
  by_cases h3 : n = 10
  · exact .inr (.inr (.inl ⟨h3, if_pos (by omega)⟩))
  rw [if_neg (by omega)]
  by_cases h4 : n = 9
  · exact .inr (.inr (.inr (.inl ⟨h4, if_pos (by omega)⟩)))
  rw [if_neg (by omega)]
  by_cases h5 : n < 32
  · rw [if_pos (by omega)]
    exact .inr (.inr (.inr (.inr (.inl ⟨h1, h2, h3, h4, h5, rfl⟩))))
  · rw [if_neg (by omega)]
    exact .inr (.inr (.inr (.inr (.inr ⟨by omega, ⟨h1, h2⟩, rfl⟩))))

end Go.Proofs.Ytpmohibhdnmjlaa
