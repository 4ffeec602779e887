/-
  Package write's lay: pieces laid behind what is laid already. And how a writer stands behind other work.
-/
import Derived.Test.YtdjejbgokamjeaaDoorWriteA
import Derived.Test.YtdjejbgokamjeaaDoorTermMR
namespace Go.Proofs.YtdjejbgokamjeaaDoor
open Go.RowKit

theorem BW.lt {B b : Nat} {l : List UInt8} {w : World} (h : BW B b l w) : b < w.heap.size := by
  rcases h with h | h <;> exact h.lt
theorem BW.far {B b : Nat} {l : List UInt8} {w : World} (h : BW B b l w) : B ≤ b := by
  rcases h with h | h <;> exact h.1
theorem BW.on {B b : Nat} {l : List UInt8} {w w' : World} (h : BW B b l w) (hb : Below w.heap.size w w') : BW B b l w' := by
  have go : ∀ p, Lib.BuilderAt 42 5 B b p (Lib.byteCells l) w → Lib.BuilderAt 42 5 B b p (Lib.byteCells l) w' := by
    rintro p ⟨hB, v, hbk, ⟨hl, h1⟩, hne⟩
    refine ⟨hB, v, (hb.block b (Array.getElem?_eq_some_iff.1 hbk).1).trans hbk, ⟨hl, ?_⟩, hne⟩
    rcases h1 with h0 | ⟨g, cap, cur, hv, hbg, hh, r⟩
    · exact .inl h0
    · exact .inr ⟨g, cap, cur, hv, hbg, (hb.block g (Array.getElem?_eq_some_iff.1 hh).1).trans hh, r⟩
  rcases h with h | h
  · exact .inl (go _ h)
  · exact .inr (go _ h)
theorem BW.past {B b : Nat} {l : List UInt8} {w : World} (h : BW B b l w) (o : Obj) : BW B b l (w.alloc o) := h.on ((Below.refl _ w).alloc (Nat.le_refl _) o)
theorem BW.ne {B b : Nat} {l : List UInt8} {w : World} (h : BW B b l w) {k : Nat} {C : Array Value} {t : TypeId} {fz : Nat × Nat} (hk : w.heap[k]? = some (.cells C t fz)) (ht : t ≠ 42) : k ≠ b := by
  rintro rfl
  rcases h with ⟨_, v, hb, _⟩ | ⟨_, v, hb, _⟩ <;> (rw [hk] at hb; exact ht (Obj.cells.inj (Option.some.inj hb)).2.1)
theorem apart_keep {b : Nat} {w w' : World} (h : Apart b w w') {k : Nat} {C : Array Value} {t : TypeId} {fz : Nat × Nat} (hk : w.heap[k]? = some (.cells C t fz)) (ht : t ≠ 5) (hb : k ≠ b) : w'.heap[k]? = some (.cells C t fz) :=
  h k _ hk (fun e => hb (Option.some.inj e)) (fun _ _ e => ht (Obj.cells.inj e).2.1)
/-- Other work that leaves what is old. -/
theorem apart_on {b : Nat} {w w1 w2 : World} (h : Apart b w w1) (hb : Below w1.heap.size w1 w2) : Apart b w w2 := by
  intro k o hk hn ho
  have h1 := h k o hk hn ho
  rw [hb.block k (Array.getElem?_eq_some_iff.1 h1).1]
  exact h1

/-- What comes of laying. -/
def Laid (B b : Nat) (w : World) (l : List UInt8) (e : Ending) (w' : World) : Prop := e = .returned (.tuple #[]) ∧ BW B b l w' ∧ Below B w w' ∧ Apart b w w'
def catL (ps : List ByteArray) : List UInt8 := ps.flatMap (fun p => p.data.toList)
theorem catL_step (ps : List ByteArray) (k : Nat) (h : k < ps.length) : catL (ps.take (k + 1)) = catL (ps.take k) ++ (ps[k]'h).data.toList := by
  unfold catL
  rw [List.take_succ_eq_append_getElem h, List.flatMap_append]
  simp
theorem catL_take (ps : List ByteArray) (k : Nat) : (catL (ps.take k)).length ≤ (catL ps).length := by
  unfold catL
  conv => rhs; rw [← List.take_append_drop k ps, List.flatMap_append, List.length_append]
  exact Nat.le_add_right _ _

set_option maxHeartbeats 2000000 in
set_option maxRecDepth 100000 in
theorem wr_lay (B b : Nat) (l : List UInt8) (ps : List ByteArray) (g : Nat) (C : Array Value) (fz : Nat × Nat) (w : World) (h : BW B b l w) (hg : w.heap[g]? = some (.cells C 9 fz)) (hC : C = (ps.map Value.string).toArray) (hps : ps.length ≤ 1000) (hlen : l.length + (catL ps).length ≤ 100000000000) (hBw : B ≤ w.heap.size) :
    Calls Tryd.prog 30 #[.pointer (some ⟨b, 0, none⟩), .slice (some ⟨g, 0, none⟩) ps.length ps.length] w (Laid B b w (l ++ catL ps)) := by
  subst hC
  have HG := Lib.hid hg
  have HNE := Lib.hid (h.ne hg (by decide))
  have HB := Lib.hid h
  have HST := Lib.hid (catL_step ps)
  have HTK := Lib.hid (catL_take ps)
  have H0 := Lib.hid (Below.refl B w)
  have HA := Lib.hid (Lib.OthersKept.refl 5 (some b) w)
  clear h hg
  go_enter Tryd.func30, Tryd.ntmps30
  go_wp2_with fail
  go_loopw [8] (fun iv wr => ∃ k : Nat, k ≤ ps.length ∧ iv = .int .i64 k ∧ BW B b (l ++ catL (ps.take k)) wr ∧ Below B w wr ∧ Apart b w wr) (fun iv _ => ps.length - (intOf iv).toNat)
  case atStart => exact ⟨0, Nat.zero_le _, rfl, by show BW B b (l ++ []) w; rw [List.append_nil]; exact HB.out, H0.out, HA.out⟩
  case round =>
    obtain ⟨k, hk, rfl, hbw, hbl, hap⟩ := hrel
    have hsz := hbl.size
    by_cases hlt : k < ps.length
    · have hgr := apart_keep hap HG.out (by decide) HNE.out
      have hc : wr.cell? ⟨g, k, none⟩ = some (.string ps[k]) := by rw [Lib.cell_of_heap hgr, List.getElem?_toArray, List.getElem?_map, List.getElem?_eq_getElem hlt]; rfl
      have hln : (l ++ catL (ps.take k)).length + ps[k].size ≤ 140737488355328 := by
        have h1 := HTK.out (k + 1)
        rw [HST.out k hlt, List.length_append] at h1
        have h2 : ps[k].size = ps[k].data.toList.length := rfl
        rw [List.length_append]
        omega
      have hx := wr_WriteString B b _ ps[k] wr hbw hln (by omega)
      rw [List.append_assoc, ← HST.out k hlt] at hx
      have HX := Lib.hid hx
      have HBL := Lib.hid hbl
      have HAP := Lib.hid hap
      clear hgr hln hx hbw hbl hap
      generalize ps[k] = x at *
      go_wp2_with fail
      refine HX.out.mono ?_
      rintro e w2 ⟨rfl, hbw2, hbl2, hap2⟩
      have hbl3 := HBL.out.trans hbl2
      have hap3 := HAP.out.trans hap2
      clear hbl2 hap2
      go_wp2_with fail
      go_roundw
      case rel => exact ⟨k + 1, by omega, by go_num, hbw2, hbl3, hap3⟩
      case measure => simp [intOf]; omega
    · have he : ps.take k = ps := List.take_of_length_le (by omega)
      rw [he] at hbw
      clear he
      go_wp2_with fail
      go_end0
      exact ⟨rfl, hbw, hbl, hap⟩
end Go.Proofs.YtdjejbgokamjeaaDoor
