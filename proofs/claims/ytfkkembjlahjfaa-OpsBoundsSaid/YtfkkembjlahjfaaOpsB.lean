/-
  The table of package ops, and its contract.
-/
import Derived.Test.YtfkkembjlahjfaaOpsA
import Derived.Laws.Tables
import Derived.Deep.WholeRow
namespace Go.Proofs.Ytfkkembjlahjfaa
open Go.RowKit

/-- One row of the table. -/
structure R where
  p : Int
  k : ByteArray
  n : ByteArray
def R.cells (r : R) : List Value := [.int .i64 r.p, .string r.k, .string r.n]
def tabR : List R := [⟨1200, ⟨#[120, 102, 120]⟩, ⟨#[58, 45]⟩⟩, ⟨1200, ⟨#[102, 120]⟩, ⟨#[58, 45]⟩⟩, ⟨1200, ⟨#[102, 120]⟩, ⟨#[63, 45]⟩⟩, ⟨1100, ⟨#[120, 102, 121]⟩, ⟨#[59]⟩⟩, ⟨1050, ⟨#[120, 102, 121]⟩, ⟨#[45, 62]⟩⟩, ⟨1000, ⟨#[120, 102, 121]⟩, ⟨#[44]⟩⟩, ⟨900, ⟨#[102, 121]⟩, ⟨#[92, 43]⟩⟩, ⟨700, ⟨#[120, 102, 120]⟩, ⟨#[61]⟩⟩, ⟨700, ⟨#[120, 102, 120]⟩, ⟨#[92, 61]⟩⟩, ⟨700, ⟨#[120, 102, 120]⟩, ⟨#[61, 61]⟩⟩, ⟨700, ⟨#[120, 102, 120]⟩, ⟨#[92, 61, 61]⟩⟩, ⟨700, ⟨#[120, 102, 120]⟩, ⟨#[64, 60]⟩⟩, ⟨700, ⟨#[120, 102, 120]⟩, ⟨#[64, 61, 60]⟩⟩, ⟨700, ⟨#[120, 102, 120]⟩, ⟨#[64, 62]⟩⟩, ⟨700, ⟨#[120, 102, 120]⟩, ⟨#[64, 62, 61]⟩⟩, ⟨700, ⟨#[120, 102, 120]⟩, ⟨#[61, 46, 46]⟩⟩, ⟨700, ⟨#[120, 102, 120]⟩, ⟨#[105, 115]⟩⟩, ⟨700, ⟨#[120, 102, 120]⟩, ⟨#[61, 58, 61]⟩⟩, ⟨700, ⟨#[120, 102, 120]⟩, ⟨#[61, 92, 61]⟩⟩, ⟨700, ⟨#[120, 102, 120]⟩, ⟨#[60]⟩⟩, ⟨700, ⟨#[120, 102, 120]⟩, ⟨#[61, 60]⟩⟩, ⟨700, ⟨#[120, 102, 120]⟩, ⟨#[62]⟩⟩, ⟨700, ⟨#[120, 102, 120]⟩, ⟨#[62, 61]⟩⟩, ⟨500, ⟨#[121, 102, 120]⟩, ⟨#[43]⟩⟩, ⟨500, ⟨#[121, 102, 120]⟩, ⟨#[45]⟩⟩, ⟨400, ⟨#[121, 102, 120]⟩, ⟨#[42]⟩⟩, ⟨400, ⟨#[121, 102, 120]⟩, ⟨#[47, 47]⟩⟩, ⟨400, ⟨#[121, 102, 120]⟩, ⟨#[114, 101, 109]⟩⟩, ⟨400, ⟨#[121, 102, 120]⟩, ⟨#[109, 111, 100]⟩⟩, ⟨200, ⟨#[102, 121]⟩, ⟨#[45]⟩⟩]
def tabCells : Array Value := (tabR.flatMap R.cells).toArray
theorem tabCells_size : tabCells.size = 90 := by decide +kernel
theorem tabCells_ne : ¬ tabCells = #[] := fun h => by have := tabCells_size; rw [h] at this; cases this
def zeroCells : Array Value := ((List.replicate 30 (⟨0, ⟨#[]⟩, ⟨#[]⟩⟩ : R)).flatMap R.cells).toArray
theorem zeroCells_size : zeroCells.size = 90 := by decide +kernel
theorem zeroCells_ne : ¬ zeroCells = #[] := fun h => by have := zeroCells_size; rw [h] at this; cases this
theorem zero_tab (w : World) : Sem.run Try.prog (zeroValue 37) w = .ok (.agg zeroCells) w := by kernel_rfl
theorem tab_one : tabCells.all (·.oneCell') = true := by decide +kernel
theorem info_tab : (Try.prog.info? 37).map (·.size) = some 90 := by kernel_rfl
theorem store_tab (w : World) : (storeCells ⟨w.heap.size, 0, none⟩ tabCells.toList 0).run Try.prog (w.alloc (.cells zeroCells 37)) = .ok () (w.alloc (.cells tabCells 37)) :=
  run_storeCells_new w _ _ _ (by rw [tabCells_size]; exact info_tab) (by rw [zeroCells_size, tabCells_size]) tab_one
theorem load_tab (w : World) : (loadCellsFrom ⟨w.heap.size, 0, none⟩ 0 90 #[]).run Try.prog (w.alloc (.cells tabCells 37)) = .ok tabCells (w.alloc (.cells tabCells 37)) :=
  run_loadCellsFrom_new w _ _ _ tabCells_size
theorem loadVar_tab (w : World) : (loadVar 37 ⟨w.heap.size, 0, none⟩).run Try.prog (w.alloc (.cells tabCells 37)) = .ok (.agg tabCells) (w.alloc (.cells tabCells 37)) :=
  run_loadVar_new w _ _ 30 36 (by kernel_rfl) (by rw [tabCells_size]; exact info_tab)
attribute [-go_sem] loadVar
attribute [local go_sem] loadVar_tab zero_tab tabCells_size zeroCells_size tabCells_ne zeroCells_ne store_tab load_tab
theorem wpList_build_to {P : Program} {ops : Array Oper} {rest : List Oper} {o : Oper} {a : Act} {w : World} {Q : Exit → Act → World → Prop} (hg : o.guard = none) (t : TypeId) (parts : Array (Nat × Operand)) (cells : Array Value) (ho : o.op = .build t parts)
    (hf : P.built t (parts.map fun (i, x) => (i, a.eval x)).toList = some cells)
    (h : wpList P ops Q rest (a.put o.dst (.agg cells)) w) : wpList P ops Q (o :: rest) a w :=
  wpList_build hg t parts ho (by rw [hf]; rfl) (by rw [hf]; exact h)

set_option maxRecDepth 100000 in
set_option maxHeartbeats 4000000 in
theorem ops_table (w : World) :
    Calls Try.prog 21 #[] w fun e w' => e = .returned (.agg tabCells) ∧ Below w.heap.size w w' := by
  have HB := Lib.hid (fun o : Obj => (Below.refl w.heap.size w).alloc (Nat.le_refl _) o)
  go_enter Try.func21, Try.ntmps21
  go_wp2_with (refine wpList_build_to (o := ⟨some 31, _, _, _, _, _⟩) rfl 37 _ tabCells rfl (by kernel_rfl) ?_)
  exact bodyPost_ret (v := .agg tabCells) (by simp [results, Try.results21, go_sem]) rfl ⟨rfl, HB.out _⟩
end Go.Proofs.Ytfkkembjlahjfaa
