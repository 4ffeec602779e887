/-
  The contracts of slices.Index and slices.Contains over texts, and of package ops' Names: the table's names, each once.
-/
import Derived.Test.YtfkkembjlahjfaaOpsC
import Derived.Laws.AppendOwn
import Derived.Laws.OwnMore
import Derived.Deep.AppendLies
import Derived.Laws.AppendOwnNone
namespace Go.Proofs.Ytfkkembjlahjfaa
open Go.RowKit

/-- A slice of texts of the call's own. -/
def strs (l : List ByteArray) : List Value := l.map Value.string
theorem strs_append (a b : List ByteArray) : strs (a ++ b) = strs a ++ strs b := List.map_append
def OwnStrs (B : Nat) (w : World) (v : Value) (l : List ByteArray) : Prop := w.ownsRow B 9 1 v l.length (strs l)
theorem infoStr : (Try.prog.info? 9).map (fun i => (i.zero, i.size, i.bytes)) = some (some (.string ⟨#[]⟩), 1, 16) := by kernel_rfl
theorem OwnStrs.below {B : Nat} {w w' : World} {v : Value} {l : List ByteArray} (h : OwnStrs B w v l) (hb : Below w.heap.size w w') : OwnStrs B w' v l := by
  obtain ⟨hl, h0 | ⟨g, cap, cur, hv, hbg, hh, r⟩⟩ := h
  · exact ⟨hl, .inl h0⟩
  · exact ⟨hl, .inr ⟨g, cap, cur, hv, hbg, (hb.block g (Array.getElem?_eq_some_iff.1 hh).1).trans hh, r⟩⟩
theorem OwnStrs.mono {B B' : Nat} {w : World} {v : Value} {l : List ByteArray} (h : OwnStrs B w v l) (hB : B' ≤ B) : OwnStrs B' w v l := by
  obtain ⟨hl, h0 | ⟨g, cap, cur, hv, hbg, r⟩⟩ := h
  · exact ⟨hl, .inl h0⟩
  · exact ⟨hl, .inr ⟨g, cap, cur, hv, Nat.le_trans hB hbg, r⟩⟩
theorem OwnStrs.snoc {B : Nat} {w : World} {v : Value} {l l2 : List ByteArray} {n : Nat} {xs : List Value} (h : w.ownsRow B 9 1 v n xs) (hn : n = (l ++ l2).length) (hx : xs = strs l ++ strs l2) : OwnStrs B w v (l ++ l2) := by
  unfold OwnStrs
  rw [strs_append, ← hn, ← hx]
  exact h
/-- What a slice of texts looks like to who reads it. -/
theorem OwnStrs.view {B : Nat} {w : World} {v : Value} {l : List ByteArray} (h : OwnStrs B w v l) : ∃ ad cap, v = .slice ad l.length cap ∧ l.length ≤ cap ∧ cap ≤ maxLen ∧ ∀ j (hj : j < l.length), ∃ g, ad = some ⟨g, 0, none⟩ ∧ w.cell? ⟨g, j, none⟩ = some (.string l[j]) := by
  have h9 := h
  obtain ⟨hl, ⟨rfl, h0⟩ | ⟨g, cap, cur, rfl, hbg, hh, hnc, hcm, r⟩⟩ := h
  · refine ⟨none, 0, by rw [h0], by omega, Nat.zero_le _, fun j hj => by omega⟩
  · refine ⟨some ⟨g, 0, none⟩, cap, rfl, hnc, hcm, fun j hj => ⟨g, rfl, ?_⟩⟩
    rw [World.ownsRow.cellAt h9 j (by omega)]
    unfold strs
    rw [List.getElem?_map, List.getElem?_eq_getElem hj]
    rfl
def hasS (l : List ByteArray) (n : ByteArray) : Bool := l.any fun k => n.toList == k.toList
def idxGo (n : ByteArray) : List ByteArray → Int → Int
  | [], _ => -1
  | k :: l, i => if n.toList == k.toList then i else idxGo n l (i + 1)
theorem idxGo_has (n : ByteArray) : ∀ (l : List ByteArray) (i : Int), 0 ≤ i → decide (0 ≤ idxGo n l i) = hasS l n
  | [], i, _ => rfl
  | k :: l, i, hi => by
    show decide (0 ≤ if n.toList == k.toList then i else idxGo n l (i + 1)) = ((n.toList == k.toList) || hasS l n)
    cases n.toList == k.toList with
    | true => rw [if_pos rfl]; simpa using hi
    | false => rw [if_neg (by decide), idxGo_has n l (i + 1) (by omega)]; rfl
theorem idxGo_drop (n : ByteArray) (l : List ByteArray) (k : Nat) (h : k < l.length) : idxGo n (l.drop k) k = if n.toList == (l[k]'h).toList then (k : Int) else idxGo n (l.drop (k + 1)) ((k + 1 : Nat) : Int) := by
  rw [List.drop_eq_getElem_cons h]; rfl

set_option maxHeartbeats 2000000 in
theorem slices_Index (l : List ByteArray) (n : ByteArray) (v : Value) (B : Nat) (w : World) (h : OwnStrs B w v l) (hlen : l.length ≤ 1000000000) :
    Calls Try.prog 25 #[v, .string n] w fun e w' => e = .returned (.int .i64 (idxGo n l 0)) ∧ w = w' := by
  obtain ⟨ad, cap, rfl, hlc, _, hcell⟩ := h.view
  obtain ⟨E, hE⟩ : ∃ E, idxGo n l 0 = E := ⟨_, rfl⟩
  rw [hE]
  have HE := Lib.hid hE
  have HC := Lib.hid hcell
  clear h hE hcell
  go_enter Try.func25, Try.ntmps25
  go_wp2_with fail
  go_loop [8] (fun iv => ∃ k : Nat, k ≤ l.length ∧ iv = .int .i64 k ∧ Hid (idxGo n (l.drop k) k = E)) (fun iv => l.length - (intOf iv).toNat)
  case atStart => exact ⟨0, Nat.zero_le _, rfl, HE⟩
  case round =>
    obtain ⟨k, hk, rfl, HB⟩ := hrel
    by_cases hlt : k < l.length
    · obtain ⟨g, rfl, c0⟩ := HC.out k hlt
      have hsn := Lib.hid (idxGo_drop n l k hlt)
      generalize l[k] = x at *
      cases hx : (n.toList == x.toList) with
      | true =>
        have HR : Hid (E = k) := Lib.hid (HB.out.symm.trans (by rw [hsn.out, hx]; rfl))
        go_wp2_with fail
        go_ret
        exact ⟨ret_int HR.out.symm, rfl⟩
      | false =>
        have HN : Hid (idxGo n (l.drop (k + 1)) ((k + 1 : Nat) : Int) = E) := Lib.hid (by rw [← HB.out, hsn.out, hx]; rfl)
        go_wp2_with fail
        go_round
        case rel => exact ⟨k + 1, by omega, by go_num, HN⟩
        case measure => simp [intOf]; omega
    · have hR := HB.out
      rw [List.drop_eq_nil_of_le (by omega)] at hR
      have HR : Hid (E = -1) := Lib.hid hR.symm
      clear hR HB
      go_wp2_with fail
      go_ret
      exact ⟨ret_int HR.out.symm, rfl⟩

set_option maxHeartbeats 2000000 in
theorem slices_Contains (l : List ByteArray) (n : ByteArray) (v : Value) (B : Nat) (w : World) (h : OwnStrs B w v l) (hlen : l.length ≤ 1000000000) :
    Calls Try.prog 22 #[v, .string n] w fun e w' => e = .returned (.bool (hasS l n)) ∧ w = w' := by
  have HI := Lib.hid (slices_Index l n v B w h hlen)
  have HH := Lib.hid (idxGo_has n l 0 (by decide))
  clear h
  generalize idxGo n l 0 = E at *
  go_enter Try.func22, Try.ntmps22
  go_wp2_with fail
  refine HI.out.mono ?_
  rintro e w' ⟨rfl, rfl⟩
  go_wp2_with fail
  go_ret
  exact ⟨ret_bool HH.out, rfl⟩

/-- Each once, in the order of their first places. -/
def namesGo : List ByteArray → List ByteArray → List ByteArray
  | out, [] => out
  | out, n :: l => if hasS out n then namesGo out l else namesGo (out ++ [n]) l
theorem namesGo_drop (l : List ByteArray) (k : Nat) (h : k < l.length) (out : List ByteArray) : namesGo out (l.drop k) = if hasS out (l[k]'h) then namesGo out (l.drop (k + 1)) else namesGo (out ++ [l[k]'h]) (l.drop (k + 1)) := by
  rw [List.drop_eq_getElem_cons h]; rfl
def namesL : List ByteArray := namesGo [] (tabR.map R.n)
attribute [local go_sem] zero_tab tabCells_size zeroCells_size tabCells_ne zeroCells_ne store_tab

set_option maxRecDepth 100000 in
set_option maxHeartbeats 4000000 in
theorem ops_Names (w : World) :
    Calls Try.prog 13 #[] w fun e w' => ∃ v, e = .returned v ∧ OwnStrs w.heap.size w' v namesL ∧ Below w.heap.size w w' := by
  obtain ⟨E, hE⟩ : ∃ E, namesL = E := ⟨_, rfl⟩
  rw [hE]
  have HE : Hid (namesGo [] (tabR.map R.n) = E) := Lib.hid hE
  obtain ⟨i0, hi, hz0, hz1, hz2⟩ := info_parts infoStr
  clear hE
  go_enter Try.func13, Try.ntmps13
  go_wp2_with fail
  refine (ops_table _).mono ?_
  rintro e w1 ⟨rfl, hbw1⟩
  go_wp2_with fail
  generalize hw2 : w1.alloc (Obj.cells tabCells 37) = w2
  have hbw2 : Below w.heap.size w w2 := by rw [← hw2]; exact hbw1.alloc hbw1.size _
  have hs2 : w2.heap.size = w1.heap.size + 1 := by rw [← hw2]; simp
  have HT : Hid (∀ W, Below w2.heap.size w2 W → ∀ k (h : k < 30), W.cell? ⟨w1.heap.size, k * 3 + 2, none⟩ = some (.string (tabR[k]'h).n)) := Lib.hid (fun W hb k h => by
    have h3 := tab_get k h
    have hc : ∀ i, W.cell? ⟨w1.heap.size, i, none⟩ = tabCells[i]? := fun i => by
      rw [hb.cell (p := ⟨w1.heap.size, i, none⟩) (by show w1.heap.size < _; omega), ← hw2]; exact World.cell?_alloc_at _ _ _ _ rfl
    rw [hc]; exact h3.2.2)
  have HS2 := Lib.hid hbw2.size
  clear hw2 hbw1 hs2
  go_loopw [2, 5] (fun ov iv wr => ∃ (k : Nat) (out : List ByteArray), k ≤ 30 ∧ iv = .int .i64 k ∧ out.length ≤ k ∧ Below w2.heap.size w2 wr ∧ OwnStrs w2.heap.size wr ov out ∧ Hid (namesGo out ((tabR.map R.n).drop k) = E)) (fun _ iv _ => 30 - (intOf iv).toNat)
  case atStart => exact ⟨0, [], Nat.zero_le _, rfl, Nat.le_refl _, Below.refl _ _, World.ownsRow_nil _ _ _ _, HE⟩
  case round =>
    obtain ⟨k, out, hk, rfl, hol, hbw, hown, HG⟩ := hrel
    have hws := hbw.size
    by_cases hlt : k < 30
    · have c0 := HT.out wr hbw k hlt
      have hst := namesGo_drop (tabR.map R.n) k (by rw [List.length_map]; exact hlt) out
      rw [HG.out, List.getElem_map] at hst
      have hi0 : (0 : Int) ≤ (k : Int) := by omega
      have hi1 : (k : Int) < 30 := by omega
      generalize (tabR[k]).n = x at *
      have hH := slices_Contains out x u2 w2.heap.size wr hown (by omega)
      cases hx : hasS out x with
      | true =>
        rw [hx] at hst hH
        rw [if_pos rfl] at hst
        have HH := Lib.hid hH
        have HN := Lib.hid hst.symm
        clear hH hst hx
        go_wp2_with fail
        refine HH.out.mono ?_
        rintro e w' ⟨rfl, rfl⟩
        go_wp2_with fail
        go_roundw
        case rel => exact ⟨k + 1, out, by omega, by go_num, by omega, hbw, hown, HN⟩
        case measure => simp [intOf]; omega
      | false =>
        rw [hx] at hst hH
        rw [if_neg (by decide)] at hst
        have HH := Lib.hid hH
        have HN := Lib.hid hst.symm
        clear hH hst hx
        go_wp2_with fail
        refine HH.out.mono ?_
        rintro e w' ⟨rfl, rfl⟩
        go_wp2_with (first
          | (at_builtin; refine wpList_append_own _ rfl _ _ 28 rfl w2.heap.size 9 i0 (.string ⟨#[]⟩) 1 16 Try.underlying28 hi hz0 hz1 hz2 rfl (by decide) _ _ _ rfl (World.ownsRow.alloc hown _) ⟨wr.heap.size, 0, none⟩ 1 1 [.string x] rfl rfl ?c1 ?c2 ?c3 ?c4 ?c5 ?_))
        case c1 =>
          intro j u hj
          match j, hj with
          | 0, hj => simp at hj; subst hj; simp [Addr.add]
        case c2 => intro u hu; simp at hu; subst hu; rfl
        case c3 => unfold maxLen; omega
        case c4 => omega
        case c5 => simp; omega
        intro v3 w3 hown3 hgrow _
        have hown4 : OwnStrs w2.heap.size w3 v3 (out ++ [x]) := OwnStrs.snoc hown3 (by rw [List.length_append]; rfl) rfl
        have hbw3 : Below w2.heap.size w2 w3 := (hbw.alloc hws _).grown hgrow (by rw [World.size_alloc]; omega) (fun i hi => (World.ownsRow.lt hown i hi).1)
        clear hown3 hgrow
        go_wp2
        go_roundw
        case rel => exact ⟨k + 1, out ++ [x], by omega, by go_num, by rw [List.length_append, List.length_singleton]; omega, hbw3, hown4, HN⟩
        case measure => simp [intOf]; omega
    · have hR := HG.out
      rw [List.drop_eq_nil_of_le (by rw [List.length_map, tab_len]; omega)] at hR
      have HR : Hid (out = E) := Lib.hid hR
      clear hR HG
      go_wp2_with fail
      go_ret
      exact ⟨_, rfl, by rw [← HR.out]; exact OwnStrs.mono hown HS2.out, hbw2.trans (hbw.mono HS2.out)⟩
end Go.Proofs.Ytfkkembjlahjfaa
