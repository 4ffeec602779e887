/-
  Bindings in memory.
-/
import Derived.Test.YtpmohibhdnmjlaaSubM
import Derived.Test.YtpmohibhdnmjlaaIterAll
import Derived.Lib.BufferMore
import Derived.Test.YtpmohibhdnmjlaaTermMk
namespace Go.Proofs.Ytpmohibhdnmjlaa
open Go.RowKit

/-- Bindings, one behind the other: five cells each. -/
def BdsAt (w : World) (P : Nat → Prop) (ad : Option Addr) (bs : List (Int × Tm)) : Prop := ∀ k (hk : k < bs.length), ∃ b o a1 c1, ad = some ⟨b, o, none⟩ ∧ P b ∧ In64 bs[k].1 ∧ TmP w P bs[k].2 a1 c1 ∧
  w.cell? ⟨b, o + k * 5, none⟩ = some (.int .i64 bs[k].1) ∧ w.cell? ⟨b, o + k * 5 + 1, none⟩ = some (.int .i64 bs[k].2.kind) ∧ w.cell? ⟨b, o + k * 5 + 2, none⟩ = some (.string bs[k].2.name) ∧
  w.cell? ⟨b, o + k * 5 + 3, none⟩ = some (.int .i64 bs[k].2.n) ∧ w.cell? ⟨b, o + k * 5 + 4, none⟩ = some (.slice a1 bs[k].2.args.length c1)
theorem BdsAt.kept {w w' : World} {P Q : Nat → Prop} {ad : Option Addr} {bs : List (Int × Tm)} (h : BdsAt w P ad bs) (hk : ∀ b, P b → b < w.heap.size → w'.heap[b]? = w.heap[b]?) (hPQ : ∀ b, P b → b < w.heap.size → Q b) : BdsAt w' Q ad bs := fun k hlt => by
  obtain ⟨b, o, a1, c1, h0, hp, hi, h1, x0, x1, x2, x3, x4⟩ := h k hlt
  have hbl : b < w.heap.size := World.block_lt_of_cell? w ⟨b, o + k * 5, none⟩ x0
  have kc : ∀ i, w'.cell? ⟨b, i, none⟩ = w.cell? ⟨b, i, none⟩ := fun i => World.cell?_of_block (a := ⟨b, i, none⟩) (hk b hp hbl)
  exact ⟨b, o, a1, c1, h0, hPQ b hp hbl, hi, h1.kept hk hPQ, (kc _).trans x0, (kc _).trans x1, (kc _).trans x2, (kc _).trans x3, (kc _).trans x4⟩
theorem BdsAt.on {w w' : World} {P : Nat → Prop} {ad : Option Addr} {bs : List (Int × Tm)} (h : BdsAt w P ad bs) (hb : Below w.heap.size w w') : BdsAt w' P ad bs := h.kept (fun b _ hl => hb.block b hl) fun _ h _ => h
theorem BdsAt.turn {w w' : World} {P M : Nat → Prop} {ad : Option Addr} {bs : List (Int × Tm)} (h : BdsAt w P ad bs) (ht : Turn M w w') (hM : ∀ b, P b → ¬ M b) : BdsAt w' P ad bs := h.kept (fun b hp hl => ht.block b hl (hM b hp)) fun _ h _ => h
theorem BdsAt.nil {w : World} {P : Nat → Prop} {ad : Option Addr} : BdsAt w P ad [] := fun k hk => by cases hk
theorem BdsAt.look {w : World} {P : Nat → Prop} {ad : Option Addr} {bs : List (Int × Tm)} (h : BdsAt w P ad bs) {v : Int} {t : Tm} (hl : lookL bs v = some t) : ∃ a1 c1, TmP w P t a1 c1 := by
  obtain ⟨k, hk, e⟩ := List.mem_iff_getElem.1 (lookL_mem hl)
  obtain ⟨_, _, a1, c1, _, _, _, h1, _⟩ := h k hk
  rw [e] at h1
  exact ⟨a1, c1, h1⟩
theorem BdsAt.n64 {w : World} {P : Nat → Prop} {ad : Option Addr} {bs : List (Int × Tm)} (h : BdsAt w P ad bs) : Bds64 bs := fun b hb => by
  obtain ⟨k, hk, rfl⟩ := List.mem_iff_getElem.1 hb
  obtain ⟨_, _, a1, c1, _, _, _, h1, _⟩ := h k hk
  exact (Tm.n64_eq _).2 ⟨h1.n, (TArgsP.all h1.args).n64⟩
theorem zero_tmS {w : World} {P : Nat → Prop} : TmP w P zeroT none 0 := ⟨⟨by decide, by decide⟩, ⟨by decide, by decide⟩, Nat.zero_le _, Nat.le_refl _, Nat.zero_le _, .nil _⟩
theorem TmP.onS {w w' : World} {P : Nat → Prop} {t : Tm} {ad : Option Addr} {cap : Nat} (h : TmP w P t ad cap) (hb : Below w.heap.size w w') : TmP w' P t ad cap := h.kept (fun b _ hl => hb.block b hl) fun _ h _ => h
theorem TmP.turnS {w w' : World} {P M : Nat → Prop} {t : Tm} {ad : Option Addr} {cap : Nat} (h : TmP w P t ad cap) (ht : Turn M w w') (hM : ∀ b, P b → ¬ M b) : TmP w' P t ad cap := h.kept (fun b hp hl => ht.block b hl (hM b hp)) fun _ h _ => h
theorem set4_blk {W : World} {q : Nat} {a b c d : Value} {t : TypeId} (h : W.heap[q]? = some (.cells #[a, b, c, d] t (0, 0))) (x y z u : Value) :
    ((((W.setCell ⟨q, 0, none⟩ x).setCell ⟨q, 1, none⟩ y).setCell ⟨q, 2, none⟩ z).setCell ⟨q, 3, none⟩ u).heap[q]? = some (.cells #[x, y, z, u] t (0, 0)) := by
  have g0 := Lib.heap_setCell_same (i := 0) h x
  have g1 := Lib.heap_setCell_same (i := 1) g0 y
  have g2 := Lib.heap_setCell_same (i := 2) g1 z
  have g3 := Lib.heap_setCell_same (i := 3) g2 u
  simpa using g3
theorem set4_oth {W : World} {q j : Nat} (x y z u : Value) (h : j ≠ q) : ((((W.setCell ⟨q, 0, none⟩ x).setCell ⟨q, 1, none⟩ y).setCell ⟨q, 2, none⟩ z).setCell ⟨q, 3, none⟩ u).heap[j]? = W.heap[j]? := by
  rw [Below.heap_setCell _ _ _ _ (show j ≠ q from h), Below.heap_setCell _ _ _ _ (show j ≠ q from h), Below.heap_setCell _ _ _ _ (show j ≠ q from h), Below.heap_setCell _ _ _ _ (show j ≠ q from h)]
theorem set4_low {n q : Nat} {w W : World} {x y z u : Value} (h : Below n w W) (hq : n ≤ q := by omega) : Below n w ((((W.setCell ⟨q, 0, none⟩ x).setCell ⟨q, 1, none⟩ y).setCell ⟨q, 2, none⟩ z).setCell ⟨q, 3, none⟩ u) :=
  (((h.setCell (p := ⟨q, 0, none⟩) hq _).setCell (p := ⟨q, 1, none⟩) hq _).setCell (p := ⟨q, 2, none⟩) hq _).setCell (p := ⟨q, 3, none⟩) hq _
end Go.Proofs.Ytpmohibhdnmjlaa
