/-
  The contracts of the document's own Has, Vars and SameNums for term.
-/
import Derived.Test.YtjgjeafjnaodkaaDoorTermPlaces
namespace Go.Proofs.YtjgjeafjnaodkaaDoor
open Go.RowKit

/-- What a slice of numbers looks like to who reads it. -/
theorem OwnNums.view {B : Nat} {w : World} {v : Value} {l : List Int} (h : OwnNums B w v l) : ∃ ad cap, v = .slice ad l.length cap ∧ l.length ≤ cap ∧ cap ≤ maxLen ∧ ∀ j (hj : j < l.length), ∃ g, ad = some ⟨g, 0, none⟩ ∧ w.cell? ⟨g, j, none⟩ = some (.int .i64 l[j]) := by
  have h9 := h
  obtain ⟨hl, ⟨rfl, h0⟩ | ⟨g, cap, cur, rfl, hbg, hh, hnc, hcm, r⟩⟩ := h
  · refine ⟨none, 0, by rw [h0], by omega, Nat.zero_le _, fun j hj => by omega⟩
  · refine ⟨some ⟨g, 0, none⟩, cap, rfl, hnc, hcm, fun j hj => ⟨g, rfl, ?_⟩⟩
    rw [World.ownsRow.cellAt h9 j (by omega)]
    unfold nums
    rw [List.getElem?_map, List.getElem?_eq_getElem hj]
    rfl
def hasL (l : List Int) (n : Int) : Bool := l.any fun k => k == n
theorem hasL_snoc (l : List Int) (n : Int) (k : Nat) (h : k < l.length) : hasL (l.take (k + 1)) n = (hasL (l.take k) n || (l[k]'h == n)) := by
  unfold hasL
  rw [List.take_succ_eq_append_getElem h, List.any_append]; simp
theorem hasL_hit (l : List Int) (n : Int) (k : Nat) (h : k < l.length) (h1 : (l[k]'h == n) = true) : hasL l n = true := by
  unfold hasL
  rw [List.any_eq_true]
  exact ⟨_, List.getElem_mem h, h1⟩

set_option maxHeartbeats 2000000 in
theorem ref_Has (l : List Int) (n : Int) (v : Value) (B : Nat) (w : World) (h : OwnNums B w v l) (hlen : l.length ≤ 1000000000) :
    Calls Tryd.prog 8 #[v, .int .i64 n] w fun e w' => e = .returned (.bool (hasL l n)) ∧ w = w' := by
  obtain ⟨ad, cap, rfl, hlc, _, hcell⟩ := h.view
  obtain ⟨E, hE⟩ : ∃ E, hasL l n = E := ⟨_, rfl⟩
  rw [hE]
  have HE := Lib.hid hE
  have HC := Lib.hid hcell
  clear h hE hcell
  go_enter Tryd.func8, Tryd.ntmps8
  go_wp2_with fail
  go_loop [9] (fun iv => ∃ k : Nat, k ≤ l.length ∧ iv = .int .i64 k ∧ Hid (hasL (l.take k) n = false)) (fun iv => l.length - (intOf iv).toNat)
  case atStart => exact ⟨0, Nat.zero_le _, rfl, Lib.hid rfl⟩
  case round =>
    obtain ⟨k, hk, rfl, HB⟩ := hrel
    by_cases hlt : k < l.length
    · obtain ⟨g, rfl, c0⟩ := HC.out k hlt
      have hsn := Lib.hid (hasL_snoc l n k hlt)
      have hht := Lib.hid (hasL_hit l n k hlt)
      generalize l[k] = x at *
      cases hx : (x == n) with
      | true =>
        have HR : Hid (E = true) := Lib.hid (HE.out.symm.trans (hht.out hx))
        go_wp2_with fail
        go_ret
        exact ⟨ret_bool HR.out.symm, rfl⟩
      | false =>
        have HN : Hid (hasL (l.take (k + 1)) n = false) := Lib.hid (by rw [hsn.out, HB.out, hx]; rfl)
        go_wp2_with fail
        go_round
        case rel => exact ⟨k + 1, by omega, by go_num, HN⟩
        case measure => simp [intOf]; omega
    · have hR := HB.out
      rw [List.take_of_length_le (by omega)] at hR
      have HR : Hid (E = false) := Lib.hid (HE.out.symm.trans hR)
      clear hR HB
      go_wp2_with fail
      go_ret
      exact ⟨ret_bool HR.out.symm, rfl⟩

/-- Each once, in the order of their first places. -/
def onceGo : List Int → List Int → List Int
  | out, [] => out
  | out, n :: l => if hasL out n then onceGo out l else onceGo (out ++ [n]) l
def once (l : List Int) : List Int := onceGo [] l
theorem onceGo_drop (l : List Int) (k : Nat) (h : k < l.length) (out : List Int) : onceGo out (l.drop k) = if hasL out (l[k]'h) then onceGo out (l.drop (k + 1)) else onceGo (out ++ [l[k]'h]) (l.drop (k + 1)) := by
  rw [List.drop_eq_getElem_cons h]; rfl
def Tm.vars (t : Tm) : List Int := once t.places

set_option maxRecDepth 100000 in
set_option maxHeartbeats 4000000 in
theorem ref_Vars (T : Tm) (ad : Option Addr) (cap : Nat) (w : World) (hM : T.size ≤ 1000000) (hin : TmIn w T ad cap) :
    Calls Tryd.prog 9 #[tmv T ad cap] w fun e w' => ∃ v, e = .returned v ∧ OwnNums w.heap.size w' v T.vars ∧ Below w.heap.size w w' := by
  have hb1 : ∀ o : Obj, Below w.heap.size w (w.alloc o) := fun o => (Below.refl _ w).alloc (Nat.le_refl _) o
  have hP := fun o => ref_places T.size T ad cap (w.alloc o) (Nat.le_refl _) hM (hin.on (hb1 o))
  have hps := T.places_size
  obtain ⟨E, hE⟩ : ∃ E, T.vars = E := ⟨_, rfl⟩
  rw [hE]
  have HE : Hid (onceGo [] T.places = E) := Lib.hid hE
  have HP := Lib.hid hP
  have HB := Lib.hid hb1
  obtain ⟨i0, hi, hz0, hz1, hz2⟩ := info_parts infoNum
  clear hE hP hin hb1
  generalize T.places = l at *
  unfold tmv at *
  go_enter Tryd.func9, Tryd.ntmps9
  go_wp2_with fail
  refine (HP.out _).mono ?_
  rintro e w1 ⟨v1, rfl, hown1, hb1⟩
  have hbw1 := (HB.out _).trans (hb1.mono (by simp))
  have hs1 := hb1.size
  rw [World.size_alloc] at hs1
  obtain ⟨ad1, cap1, rfl, hlc, _, hcell⟩ := hown1.view
  have HC := Lib.hid hcell
  have HO1 := Lib.hid hown1
  clear hb1 hcell hown1
  go_wp2_with fail
  go_loopw [3, 9] (fun ov iv wr => ∃ (k : Nat) (out : List Int), k ≤ l.length ∧ iv = .int .i64 k ∧ out.length ≤ k ∧ Below w1.heap.size w1 wr ∧ OwnNums w1.heap.size wr ov out ∧ Hid (onceGo out (l.drop k) = E)) (fun _ iv _ => l.length - (intOf iv).toNat)
  case atStart => exact ⟨0, [], Nat.zero_le _, rfl, Nat.le_refl _, Below.refl _ _, World.ownsRow_nil _ _ _ _, HE⟩
  case round =>
    obtain ⟨k, out, hk, rfl, hol, hbw, hown, HG⟩ := hrel
    have hws := hbw.size
    by_cases hlt : k < l.length
    · obtain ⟨g, rfl, c0⟩ := HC.out k hlt
      have c1 := (hbw.cell (p := ⟨g, k, none⟩) (World.block_lt_of_cell? w1 _ c0)).trans c0
      have hst := onceGo_drop l k hlt out
      rw [HG.out] at hst
      generalize l[k] = x at *
      have hH := ref_Has out x u3 w1.heap.size wr hown (by omega)
      cases hx : hasL out x with
      | true =>
        rw [hx] at hst hH
        rw [if_pos rfl] at hst
        have HH := Lib.hid hH
        have HN := Lib.hid hst.symm
        clear hH hst hx c0
        go_wp2_with fail
        refine HH.out.mono ?_
        rintro e w' ⟨rfl, rfl⟩
        go_wp2_with fail
        go_roundw
        case rel => exact ⟨k + 1, out, by omega, by go_num, by omega, hbw, hown, HN⟩
        case measure => simp [intOf]; omega
      | false =>
        rw [hx] at hst hH
        rw [if_neg (by decide)] at hst
        have HH := Lib.hid hH
        have HN := Lib.hid hst.symm
        clear hH hst hx c0
        go_wp2_with fail
        refine HH.out.mono ?_
        rintro e w' ⟨rfl, rfl⟩
        go_wp2_with (first
          | (at_builtin; refine wpList_append_own _ rfl _ _ 34 rfl w1.heap.size 2 i0 (.int .i64 0) 1 8 Tryd.underlying34 hi hz0 hz1 hz2 rfl (by decide) _ _ _ rfl (World.ownsRow.alloc hown _) ⟨wr.heap.size, 0, none⟩ 1 1 [.int .i64 x] rfl rfl ?c1 ?c2 ?c3 ?c4 ?c5 ?_))
        case c1 =>
          intro j u hj
          match j, hj with
          | 0, hj => simp at hj; subst hj; simp [Addr.add]
        case c2 => intro u hu; simp at hu; subst hu; rfl
        case c3 => unfold maxLen; omega
        case c4 => omega
        case c5 => simp; omega
        intro v3 w3 hown3 hgrow _
        have hown4 : OwnNums w1.heap.size w3 v3 (out ++ [x]) := OwnNums.snoc hown3 (by rw [List.length_append]; rfl) rfl
        have hbw3 : Below w1.heap.size w1 w3 := (hbw.alloc hws _).grown hgrow (by rw [World.size_alloc]; omega) (fun i hi => (World.ownsRow.lt hown i hi).1)
        clear hown3 hgrow
        go_wp2
        go_roundw
        case rel => exact ⟨k + 1, out ++ [x], by omega, by go_num, by rw [List.length_append, List.length_singleton]; omega, hbw3, hown4, HN⟩
        case measure => simp [intOf]; omega
    · have hR := HG.out
      rw [List.drop_eq_nil_of_le (by omega)] at hR
      have HR : Hid (out = E) := Lib.hid hR
      clear hR HG
      go_wp2_with fail
      go_ret
      exact ⟨_, rfl, by rw [← HR.out]; exact OwnNums.mono hown (by omega), hbw1.trans (hbw.mono (by omega))⟩
end Go.Proofs.YtjgjeafjnaodkaaDoor
