/-
  The contracts of the document's own Look, spend and Walk for subst.
-/
import Derived.Test.YtjgjeafjnaodkaaSubA
namespace Go.Proofs.Ytjgjeafjnaodkaa
open Go.RowKit

set_option maxRecDepth 100000 in
set_option maxHeartbeats 4000000 in
theorem r9_Look (bs : List (Int × Tm)) (v : Int) (ad : Option Addr) (cap : Nat) (w : World) (P : Nat → Prop) (hlen : bs.length ≤ 1000000) (h : BdsAt w P ad bs) :
    Calls Try.prog 12 #[.slice ad bs.length cap, .int .i64 v] w fun e w' => ∃ a2 c2, e = .returned (.tuple #[tmv ((lookL bs v).getD zeroT) a2 c2, .bool (lookL bs v).isSome]) ∧ TmP w' P ((lookL bs v).getD zeroT) a2 c2 ∧ Below w.heap.size w w' := by
  have H := Lib.hid h
  clear h
  obtain ⟨E, hE⟩ : ∃ E, lookL bs v = E := ⟨_, rfl⟩
  rw [hE]
  have HE := Lib.hid hE
  clear hE
  have HB0 := Lib.hid (fun o : Obj => (Below.refl w.heap.size w).alloc (Nat.le_refl _) o)
  have q1 := Lib.hid (alloc_new w (.cells #[.int .i64 0, .string ⟨#[]⟩, .int .i64 0, .slice none 0 0] 25))
  go_enter Try.func12, Try.ntmps12
  go_wp2_with fail
  go_loop [6] (fun iv => ∃ k : Nat, k ≤ bs.length ∧ iv = .int .i64 ((k : Int) - 1) ∧ Hid (∀ j (hj : j < bs.length), k ≤ j → bs[j].1 ≠ v)) (fun iv => (intOf iv + 1).toNat)
  case atStart => exact ⟨bs.length, Nat.le_refl _, by go_num, Lib.hid fun j hj hk => by omega⟩
  case round =>
    obtain ⟨k, hk, rfl, HN⟩ := hrel
    cases k with
    | zero =>
      have HM := Lib.hid (show E = none by rw [← HE.out]; exact lookL_none fun b hb => by obtain ⟨j, hj, rfl⟩ := List.mem_iff_getElem.1 hb; exact HN.out j hj (Nat.zero_le _))
      clear HN
      go_wp2_with fail
      obtain ⟨y0, y1, y2, y3, _⟩ := cellsT q1.out
      refine bodyPost_ret (v := .tuple #[.agg #[.int .i64 0, .string ⟨#[]⟩, .int .i64 0, .slice none 0 0], .bool false]) (by simp [results, Try.results12, go_sem, y0, y1, y2, y3]) rfl ?_
      rw [HM.out]
      exact ⟨none, 0, rfl, zero_tmS, HB0.out _⟩
    | succ k =>
      obtain ⟨b, o, a1, c1, rfl, hPb, hi64, hp, x0, x1, x2, x3, x4⟩ := H.out k (by omega)
      have hb0 := HB0.out (.cells #[.int .i64 0, .string ⟨#[]⟩, .int .i64 0, .slice none 0 0] 25)
      have hbl : b < w.heap.size := World.block_lt_of_cell? w ⟨b, o + k * 5, none⟩ x0
      have kb : ∀ i, (w.alloc (.cells #[.int .i64 0, .string ⟨#[]⟩, .int .i64 0, .slice none 0 0] 25)).cell? ⟨b, i, none⟩ = w.cell? ⟨b, i, none⟩ := fun i => hb0.cell (p := ⟨b, i, none⟩) hbl
      have x0 := (kb _).trans x0
      have x1 := (kb _).trans x1
      have x2 := (kb _).trans x2
      have x3 := (kb _).trans x3
      have x4 := (kb _).trans x4
      have HP := Lib.hid hp
      have HAT := Lib.hid (fun (e : (bs[k]'(by omega)).1 = v) => lookL_drop (bs := bs) (v := v) k (by omega) e fun j hj hkj => HN.out j hj (by omega))
      have HNX : Hid (bs[k].1 ≠ v → ∀ j (hj : j < bs.length), k ≤ j → bs[j].1 ≠ v) := Lib.hid (fun hf j hj hkj => by
        by_cases e : k = j
        · subst e; exact hf
        · exact HN.out j hj (by omega))
      have hk0 : (0 : Int) ≤ (k : Int) := by omega
      have hk1 : (k : Int) < (bs.length : Int) := by omega
      rw [show (((k + 1 : Nat) : Int) - 1) = (k : Int) by omega]
      clear hb0 kb hp HN
      generalize bs[k] = B at *
      obtain ⟨n, t⟩ := B
      dsimp only at *
      cases hx : (n == v) with
      | true =>
        have HM : Hid (E = some t) := Lib.hid (HE.out.symm.trans (HAT.out (by simpa using hx)))
        obtain ⟨z0, z1, z2, z3, f0, f1, f2, f3⟩ := cellsT q1.out
        go_wp2_with fail
        refine bodyPost_ret (v := .tuple #[tmv t a1 c1, .bool true]) (by simp [results, Try.results12, go_sem, tmv]) rfl ?_
        rw [HM.out]
        exact ⟨a1, c1, rfl, HP.out.kept (fun b _ hl => (HB0.out _).block b hl) fun _ h _ => h, HB0.out _⟩
      | false =>
        have HN := Lib.hid (HNX.out (by simpa using hx))
        go_wp2_with fail
        go_round
        case rel => exact ⟨k, by omega, by go_num, HN⟩
        case measure => simp [intOf]

/-- A meter in memory. -/
def MtAt (w : World) (mb n : Nat) : Prop := w.heap[mb]? = some (.cells #[.int .i64 (n : Nat)] 52 (0, 0))
theorem MtAt.lt {w : World} {mb n : Nat} (h : MtAt w mb n) : mb < w.heap.size := (Array.getElem?_eq_some_iff.1 h).1

set_option maxRecDepth 100000 in
set_option maxHeartbeats 2000000 in
theorem r9_spend (mb n : Nat) (w : World) (hn : n ≤ 5000) (h : MtAt w mb n) :
    Calls Try.prog 34 #[.pointer (some ⟨mb, 0, none⟩)] w fun e w' => e = .returned (.bool (decide (n < 2000))) ∧ MtAt w' mb (n + 1) ∧ Turn (fun j => j = mb) w w' ∧ w'.heap.size = w.heap.size := by
  have hm := h
  unfold MtAt at hm
  have c0 : w.cell? ⟨mb, 0, none⟩ = some (.int .i64 (n : Nat)) := by simp [World.cell?, hm]
  have f0 : w.frozen? ⟨mb, 0, none⟩ = false := by simp [World.frozen?, hm]
  have g0 := Lib.heap_setCell_same (i := 0) hm (.int .i64 ((n : Int) + 1))
  have HM : Hid (MtAt (w.setCell ⟨mb, 0, none⟩ (.int .i64 ((n : Int) + 1))) mb (n + 1)) := Lib.hid (by unfold MtAt; simpa using g0)
  have HT := Lib.hid (Turn.set (fun j => j = mb) w (p := ⟨mb, 0, none⟩) rfl (.int .i64 ((n : Int) + 1)))
  have HZ : Hid ((w.setCell ⟨mb, 0, none⟩ (.int .i64 ((n : Int) + 1))).heap.size = w.heap.size) := Lib.hid (by simp [World.setCell])
  clear h hm g0
  by_cases hlt : n < 2000
  · rw [show decide (n < 2000) = true from decide_eq_true hlt]
    have h2 : decide ((n : Int) + 1 ≤ 2000) = true := decide_eq_true (by omega)
    go_enter Try.func34, Try.ntmps34
    go_wp2_with fail
    go_ret
    exact ⟨rfl, HM.out, HT.out, HZ.out⟩
  · rw [show decide (n < 2000) = false from decide_eq_false hlt]
    have h2 : decide ((n : Int) + 1 ≤ 2000) = false := decide_eq_false (by omega)
    go_enter Try.func34, Try.ntmps34
    go_wp2_with fail
    go_ret
    exact ⟨rfl, HM.out, HT.out, HZ.out⟩
end Go.Proofs.Ytjgjeafjnaodkaa
