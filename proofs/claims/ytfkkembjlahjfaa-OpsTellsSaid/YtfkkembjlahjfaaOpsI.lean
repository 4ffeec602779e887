/-
  The document's own table of operators in memory: the contract of Rows.
-/
import Derived.Test.YtfkkembjlahjfaaOpsG
namespace Go.Proofs.Ytfkkembjlahjfaa
open Go.RowKit

/-- One row of the document's table. -/
structure Q where
  p : Int
  k : ByteArray
  ns : List ByteArray
def rows10 : List Q := [⟨1200, ⟨#[120, 102, 120]⟩, [⟨#[58, 45]⟩]⟩, ⟨1200, ⟨#[102, 120]⟩, [⟨#[58, 45]⟩, ⟨#[63, 45]⟩]⟩, ⟨1100, ⟨#[120, 102, 121]⟩, [⟨#[59]⟩]⟩, ⟨1050, ⟨#[120, 102, 121]⟩, [⟨#[45, 62]⟩]⟩, ⟨1000, ⟨#[120, 102, 121]⟩, [⟨#[44]⟩]⟩, ⟨900, ⟨#[102, 121]⟩, [⟨#[92, 43]⟩]⟩, ⟨700, ⟨#[120, 102, 120]⟩, [⟨#[61]⟩, ⟨#[92, 61]⟩, ⟨#[61, 61]⟩, ⟨#[92, 61, 61]⟩, ⟨#[64, 60]⟩, ⟨#[64, 61, 60]⟩, ⟨#[64, 62]⟩, ⟨#[64, 62, 61]⟩, ⟨#[61, 46, 46]⟩, ⟨#[105, 115]⟩, ⟨#[61, 58, 61]⟩, ⟨#[61, 92, 61]⟩, ⟨#[60]⟩, ⟨#[61, 60]⟩, ⟨#[62]⟩, ⟨#[62, 61]⟩]⟩, ⟨500, ⟨#[121, 102, 120]⟩, [⟨#[43]⟩, ⟨#[45]⟩]⟩, ⟨400, ⟨#[121, 102, 120]⟩, [⟨#[42]⟩, ⟨#[47, 47]⟩, ⟨#[114, 101, 109]⟩, ⟨#[109, 111, 100]⟩]⟩, ⟨200, ⟨#[102, 121]⟩, [⟨#[45]⟩]⟩]
def Q.rs (q : Q) : List R := q.ns.map fun n => ⟨q.p, q.k, n⟩
theorem rows_flat : rows10.flatMap Q.rs = tabR := by rfl
/-- Texts that lie in a block from its beginning on. -/
def StrsAt (w : World) (h : Nat) (l : List ByteArray) : Prop := ∀ j (hj : j < l.length), w.cell? ⟨h, j, none⟩ = some (.string (l[j]'hj))
def RowAt (w : World) (g o : Nat) (q : Q) : Prop := ∃ h, w.cell? ⟨g, o, none⟩ = some (.int .i64 q.p) ∧ w.cell? ⟨g, o + 1, none⟩ = some (.string q.k) ∧ w.cell? ⟨g, o + 2, none⟩ = some (.slice (some ⟨h, 0, none⟩) q.ns.length q.ns.length) ∧ StrsAt w h q.ns
def RowsAt (w : World) (g : Nat) : Prop := ∀ i (hi : i < rows10.length), RowAt w g (i * 3) (rows10[i]'hi)
theorem StrsAt.on {w w1 : World} {h : Nat} {l : List ByteArray} (hs : StrsAt w h l) (hb : Below w.heap.size w w1) : StrsAt w1 h l := fun j hj =>
  (hb.cell (p := ⟨h, j, none⟩) (World.block_lt_of_cell? w _ (hs j hj))).trans (hs j hj)
theorem RowAt.on {w w1 : World} {g o : Nat} {q : Q} (hs : RowAt w g o q) (hb : Below w.heap.size w w1) : RowAt w1 g o q := by
  obtain ⟨h, c0, c1, c2, hn⟩ := hs
  exact ⟨h, (hb.cell (p := ⟨g, o, none⟩) (World.block_lt_of_cell? w _ c0)).trans c0, (hb.cell (p := ⟨g, o + 1, none⟩) (World.block_lt_of_cell? w _ c1)).trans c1, (hb.cell (p := ⟨g, o + 2, none⟩) (World.block_lt_of_cell? w _ c2)).trans c2, hn.on hb⟩
def allocs (w : World) : List (Array Value × TypeId) → World
  | [] => w
  | x :: l => allocs (w.alloc (.cells x.1 x.2)) l
theorem allocs_below (w0 : World) : ∀ (l : List (Array Value × TypeId)) (w : World), Below w0.heap.size w0 w → Below w0.heap.size w0 (allocs w l)
  | [], _, h => h
  | _ :: l, _, h => allocs_below w0 l _ (h.alloc h.size _)
theorem allocs_old : ∀ (l : List (Array Value × TypeId)) (w : World) (b j : Nat), b < w.heap.size → (allocs w l).cell? ⟨b, j, none⟩ = w.cell? ⟨b, j, none⟩
  | [], _, _, _, _ => rfl
  | x :: l, w, b, j, h => by
    show (allocs (w.alloc _) l).cell? _ = _
    rw [allocs_old l _ b j (by rw [World.size_alloc]; omega), World.cell?_alloc_past _ _ _ (by omega)]
theorem allocs_cell : ∀ (l : List (Array Value × TypeId)) (w : World) (i j : Nat) (h : i < l.length), (allocs w l).cell? ⟨w.heap.size + i, j, none⟩ = ((l[i]'h).1)[j]?
  | [], _, _, _, h => by cases h
  | x :: l, w, 0, j, _ => by
    show (allocs (w.alloc _) l).cell? _ = _
    rw [allocs_old l _ _ j (by rw [World.size_alloc]; omega)]
    exact World.cell?_alloc_at _ _ _ _ rfl
  | x :: l, w, i + 1, j, h => by
    show (allocs (w.alloc _) l).cell? _ = _
    have := allocs_cell l (w.alloc (.cells x.1 x.2)) i j (by simpa using h)
    rw [World.size_alloc, show w.heap.size + 1 + i = w.heap.size + (i + 1) by omega] at this
    exact this

def rowBlocks (s : Nat) : List (Array Value × TypeId) := [(#[.string ⟨#[58, 45]⟩], 9), (#[.string ⟨#[58, 45]⟩, .string ⟨#[63, 45]⟩], 9), (#[.string ⟨#[59]⟩], 9), (#[.string ⟨#[45, 62]⟩], 9), (#[.string ⟨#[44]⟩], 9), (#[.string ⟨#[92, 43]⟩], 9), (#[.string ⟨#[61]⟩, .string ⟨#[92, 61]⟩, .string ⟨#[61, 61]⟩, .string ⟨#[92, 61, 61]⟩, .string ⟨#[64, 60]⟩, .string ⟨#[64, 61, 60]⟩, .string ⟨#[64, 62]⟩, .string ⟨#[64, 62, 61]⟩, .string ⟨#[61, 46, 46]⟩, .string ⟨#[105, 115]⟩, .string ⟨#[61, 58, 61]⟩, .string ⟨#[61, 92, 61]⟩, .string ⟨#[60]⟩, .string ⟨#[61, 60]⟩, .string ⟨#[62]⟩, .string ⟨#[62, 61]⟩], 9), (#[.string ⟨#[43]⟩, .string ⟨#[45]⟩], 9), (#[.string ⟨#[42]⟩, .string ⟨#[47, 47]⟩, .string ⟨#[114, 101, 109]⟩, .string ⟨#[109, 111, 100]⟩], 9), (#[.string ⟨#[45]⟩], 9), (#[.int .i64 1200, .string ⟨#[120, 102, 120]⟩, .slice (some ⟨s, 0, none⟩) 1 1, .int .i64 1200, .string ⟨#[102, 120]⟩, .slice (some ⟨s + 1, 0, none⟩) 2 2, .int .i64 1100, .string ⟨#[120, 102, 121]⟩, .slice (some ⟨s + 2, 0, none⟩) 1 1, .int .i64 1050, .string ⟨#[120, 102, 121]⟩, .slice (some ⟨s + 3, 0, none⟩) 1 1, .int .i64 1000, .string ⟨#[120, 102, 121]⟩, .slice (some ⟨s + 4, 0, none⟩) 1 1, .int .i64 900, .string ⟨#[102, 121]⟩, .slice (some ⟨s + 5, 0, none⟩) 1 1, .int .i64 700, .string ⟨#[120, 102, 120]⟩, .slice (some ⟨s + 6, 0, none⟩) 16 16, .int .i64 500, .string ⟨#[121, 102, 120]⟩, .slice (some ⟨s + 7, 0, none⟩) 2 2, .int .i64 400, .string ⟨#[121, 102, 120]⟩, .slice (some ⟨s + 8, 0, none⟩) 4 4, .int .i64 200, .string ⟨#[102, 121]⟩, .slice (some ⟨s + 9, 0, none⟩) 1 1], 43)]
theorem rows_laid (w : World) : RowsAt (allocs w (rowBlocks w.heap.size)) (w.heap.size + 10) := by
  intro i hi
  have hG : ∀ j, (allocs w (rowBlocks w.heap.size)).cell? ⟨w.heap.size + 10, j, none⟩ = (((rowBlocks w.heap.size)[10]'(by show 10 < 11; decide)).1)[j]? := fun j => allocs_cell _ w 10 j _
  have hi' : i < 10 := hi
  have hS : ∀ (k : Nat) (hk : k < 11) (l : List ByteArray), ((rowBlocks w.heap.size)[k]'hk).1 = (strs l).toArray → StrsAt (allocs w (rowBlocks w.heap.size)) (w.heap.size + k) l := fun k hk l he j hj => by
    rw [allocs_cell (rowBlocks w.heap.size) w k j hk, he]
    unfold strs
    simp [hj]
  match i, hi' with
  | 0, _ => exact ⟨w.heap.size, hG 0, hG 1, hG 2, hS 0 (by decide) _ rfl⟩
  | 1, _ => exact ⟨w.heap.size + 1, hG 3, hG 4, hG 5, hS 1 (by decide) _ rfl⟩
  | 2, _ => exact ⟨w.heap.size + 2, hG 6, hG 7, hG 8, hS 2 (by decide) _ rfl⟩
  | 3, _ => exact ⟨w.heap.size + 3, hG 9, hG 10, hG 11, hS 3 (by decide) _ rfl⟩
  | 4, _ => exact ⟨w.heap.size + 4, hG 12, hG 13, hG 14, hS 4 (by decide) _ rfl⟩
  | 5, _ => exact ⟨w.heap.size + 5, hG 15, hG 16, hG 17, hS 5 (by decide) _ rfl⟩
  | 6, _ => exact ⟨w.heap.size + 6, hG 18, hG 19, hG 20, hS 6 (by decide) _ rfl⟩
  | 7, _ => exact ⟨w.heap.size + 7, hG 21, hG 22, hG 23, hS 7 (by decide) _ rfl⟩
  | 8, _ => exact ⟨w.heap.size + 8, hG 24, hG 25, hG 26, hS 8 (by decide) _ rfl⟩
  | 9, _ => exact ⟨w.heap.size + 9, hG 27, hG 28, hG 29, hS 9 (by decide) _ rfl⟩

set_option maxRecDepth 100000 in
set_option maxHeartbeats 4000000 in
theorem ref_Rows (w : World) :
    Calls Try.prog 23 #[] w fun e w' => ∃ g, e = .returned (.slice (some ⟨g, 0, none⟩) 10 10) ∧ RowsAt w' g ∧ Below w.heap.size w w' := by
  have HR := Lib.hid (rows_laid w)
  have HB := Lib.hid (allocs_below w (rowBlocks w.heap.size) w (Below.refl _ _))
  go_enter Try.func23, Try.ntmps23
  go_wp2_with fail
  go_ret
  exact ⟨w.heap.size + 10, rfl, HR.out, HB.out⟩
end Go.Proofs.Ytfkkembjlahjfaa
