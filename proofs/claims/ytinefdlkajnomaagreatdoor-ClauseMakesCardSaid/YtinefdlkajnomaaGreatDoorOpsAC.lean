import Derived.Test.YtinefdlkajnomaaGreatDoorChecked
import Derived.Test.YtinefdlkajnomaaGreatDoorTkM
import Derived.WalkKit
import Derived.WalkSpells
import Derived.Below
import Derived.Lib.Hide
import Derived.Deep.QuietTactic
import Derived.BigQuiet
import Derived.IntWalk
import Derived.Laws.Tables
import Derived.Deep.WholeRow
namespace Go.Proofs.YtinefdlkajnomaaGreatDoor
open Go.RowKit
def leftOf (t : ByteArray) (p : Int) : Int := if t.toList == [120, 102, 120] || t.toList == [120, 102, 121] then wrap64 (p - 1) else if t.toList == [121, 102, 120] then p else 0
def rightOf (t : ByteArray) (p : Int) : Int := if t.toList == [120, 102, 120] || t.toList == [121, 102, 120] || t.toList == [102, 120] then wrap64 (p - 1) else if t.toList == [120, 102, 121] || t.toList == [102, 121] then p else 0
def KindIs (t : ByteArray) (a b c d e : Bool) : Prop := (t.toList == [120, 102, 120]) = a /\ (t.toList == [120, 102, 121]) = b /\ (t.toList == [121, 102, 120]) = c /\ (t.toList == [102, 120]) = d /\ (t.toList == [102, 121]) = e
theorem toList_inj {s : ByteArray} {l : List UInt8} (h : s.toList = l) : s = ⟨l.toArray⟩ := by
 rw [ByteArray.toList_eq] at h;subst h; rfl
theorem kinds (t : ByteArray) : t = ⟨#[120, 102, 120]⟩ \/ t = ⟨#[120, 102, 121]⟩ \/ t = ⟨#[121, 102, 120]⟩ \/ t = ⟨#[102, 120]⟩ \/ t = ⟨#[102, 121]⟩ \/ KindIs t false false false false false := by
 by_cases h1 : t = ⟨#[120, 102, 120]⟩
 · exact .inl h1
 by_cases h2 : t = ⟨#[120, 102, 121]⟩
 · exact .inr (.inl h2)
 by_cases h3 : t = ⟨#[121, 102, 120]⟩
 · exact .inr (.inr (.inl h3))
 by_cases h4 : t = ⟨#[102, 120]⟩
 · exact .inr (.inr (.inr (.inl h4)))
 by_cases h5 : t = ⟨#[102, 121]⟩
 · exact .inr (.inr (.inr (.inr (.inl h5))))
 · refine .inr (.inr (.inr (.inr (.inr ⟨?_, ?_, ?_, ?_, ?_⟩))))
   · exact beq_eq_false_iff_ne.2 (fun h => h1 (toList_inj h))
   · exact beq_eq_false_iff_ne.2 (fun h => h2 (toList_inj h))
   · exact beq_eq_false_iff_ne.2 (fun h => h3 (toList_inj h))
   · exact beq_eq_false_iff_ne.2 (fun h => h4 (toList_inj h))
   · exact beq_eq_false_iff_ne.2 (fun h => h5 (toList_inj h))
theorem is_xfx : KindIs ⟨#[120, 102, 120]⟩ true false false false false := ⟨by decide +kernel, by decide +kernel, by decide +kernel, by decide +kernel, by decide +kernel⟩
theorem is_xfy : KindIs ⟨#[120, 102, 121]⟩ false true false false false := ⟨by decide +kernel, by decide +kernel, by decide +kernel, by decide +kernel, by decide +kernel⟩
theorem is_yfx : KindIs ⟨#[121, 102, 120]⟩ false false true false false := ⟨by decide +kernel, by decide +kernel, by decide +kernel, by decide +kernel, by decide +kernel⟩
theorem is_fx : KindIs ⟨#[102, 120]⟩ false false false true false := ⟨by decide +kernel, by decide +kernel, by decide +kernel, by decide +kernel, by decide +kernel⟩
theorem is_fy : KindIs ⟨#[102, 121]⟩ false false false false true := ⟨by decide +kernel, by decide +kernel, by decide +kernel, by decide +kernel, by decide +kernel⟩
set_option maxHeartbeats 2000000 in
theorem ops_Left (t : ByteArray) (p : Int) (w : World) :
 Calls Tryz.prog 119 #[.agg #[.int .i64 p, .string t]] w fun e w' => e = .returned (.int .i64 (leftOf t p)) /\ Below w.heap.size w w' := by
 have HB := Lib.hid (fun o : Obj => (Below.refl w.heap.size w).alloc (Nat.le_refl _) o);obtain ⟨E, hE⟩ : ∃ E, leftOf t p = E := ⟨_, rfl⟩;rw [hE];have HE := Lib.hid hE;clear hE;rcases kinds t with rfl | rfl | rfl | rfl | rfl | hk
 · obtain ⟨h1, h2, h3, h4, h5⟩ := is_xfx;have HV : Hid (E = wrap64 (p - 1)) := Lib.hid (HE.out.symm.trans (by unfold leftOf; rw [h1, h2, h3]; rfl));go_enter Tryz.func119, Tryz.ntmps119;go_wp2_with fail;go_ret;exact ⟨ret_int HV.out.symm, HB.out _⟩
 · obtain ⟨h1, h2, h3, h4, h5⟩ := is_xfy;have HV : Hid (E = wrap64 (p - 1)) := Lib.hid (HE.out.symm.trans (by unfold leftOf; rw [h1, h2, h3]; rfl));go_enter Tryz.func119, Tryz.ntmps119;go_wp2_with fail;go_ret;exact ⟨ret_int HV.out.symm, HB.out _⟩
 · obtain ⟨h1, h2, h3, h4, h5⟩ := is_yfx;have HV : Hid (E = p) := Lib.hid (HE.out.symm.trans (by unfold leftOf; rw [h1, h2, h3]; rfl));go_enter Tryz.func119, Tryz.ntmps119;go_wp2_with fail;go_ret;exact ⟨ret_int HV.out.symm, HB.out _⟩
 · obtain ⟨h1, h2, h3, h4, h5⟩ := is_fx;have HV : Hid (E = 0) := Lib.hid (HE.out.symm.trans (by unfold leftOf; rw [h1, h2, h3]; rfl));go_enter Tryz.func119, Tryz.ntmps119;go_wp2_with fail;go_ret;exact ⟨ret_int HV.out.symm, HB.out _⟩
 · obtain ⟨h1, h2, h3, h4, h5⟩ := is_fy;have HV : Hid (E = 0) := Lib.hid (HE.out.symm.trans (by unfold leftOf; rw [h1, h2, h3]; rfl));go_enter Tryz.func119, Tryz.ntmps119;go_wp2_with fail;go_ret;exact ⟨ret_int HV.out.symm, HB.out _⟩
 · obtain ⟨h1, h2, h3, h4, h5⟩ := hk;have HV : Hid (E = 0) := Lib.hid (HE.out.symm.trans (by unfold leftOf; rw [h1, h2, h3]; rfl));go_enter Tryz.func119, Tryz.ntmps119;go_wp2_with fail;go_ret;exact ⟨ret_int HV.out.symm, HB.out _⟩
set_option maxHeartbeats 2000000 in
theorem ops_Right (t : ByteArray) (p : Int) (w : World) :
 Calls Tryz.prog 121 #[.agg #[.int .i64 p, .string t]] w fun e w' => e = .returned (.int .i64 (rightOf t p)) /\ Below w.heap.size w w' := by
 have HB := Lib.hid (fun o : Obj => (Below.refl w.heap.size w).alloc (Nat.le_refl _) o);obtain ⟨E, hE⟩ : ∃ E, rightOf t p = E := ⟨_, rfl⟩;rw [hE];have HE := Lib.hid hE;clear hE;rcases kinds t with rfl | rfl | rfl | rfl | rfl | hk
 · obtain ⟨h1, h2, h3, h4, h5⟩ := is_xfx;have HV : Hid (E = wrap64 (p - 1)) := Lib.hid (HE.out.symm.trans (by unfold rightOf; rw [h1, h2, h3, h4, h5]; rfl));go_enter Tryz.func121, Tryz.ntmps121;go_wp2_with fail;go_ret;exact ⟨ret_int HV.out.symm, HB.out _⟩
 · obtain ⟨h1, h2, h3, h4, h5⟩ := is_xfy;have HV : Hid (E = p) := Lib.hid (HE.out.symm.trans (by unfold rightOf; rw [h1, h2, h3, h4, h5]; rfl));go_enter Tryz.func121, Tryz.ntmps121;go_wp2_with fail;go_ret;exact ⟨ret_int HV.out.symm, HB.out _⟩
 · obtain ⟨h1, h2, h3, h4, h5⟩ := is_yfx;have HV : Hid (E = wrap64 (p - 1)) := Lib.hid (HE.out.symm.trans (by unfold rightOf; rw [h1, h2, h3, h4, h5]; rfl));go_enter Tryz.func121, Tryz.ntmps121;go_wp2_with fail;go_ret;exact ⟨ret_int HV.out.symm, HB.out _⟩
 · obtain ⟨h1, h2, h3, h4, h5⟩ := is_fx;have HV : Hid (E = wrap64 (p - 1)) := Lib.hid (HE.out.symm.trans (by unfold rightOf; rw [h1, h2, h3, h4, h5]; rfl));go_enter Tryz.func121, Tryz.ntmps121;go_wp2_with fail;go_ret;exact ⟨ret_int HV.out.symm, HB.out _⟩
 · obtain ⟨h1, h2, h3, h4, h5⟩ := is_fy;have HV : Hid (E = p) := Lib.hid (HE.out.symm.trans (by unfold rightOf; rw [h1, h2, h3, h4, h5]; rfl));go_enter Tryz.func121, Tryz.ntmps121;go_wp2_with fail;go_ret;exact ⟨ret_int HV.out.symm, HB.out _⟩
 · obtain ⟨h1, h2, h3, h4, h5⟩ := hk;have HV : Hid (E = 0) := Lib.hid (HE.out.symm.trans (by unfold rightOf; rw [h1, h2, h3, h4, h5]; rfl));go_enter Tryz.func121, Tryz.ntmps121;go_wp2_with fail;go_ret;exact ⟨ret_int HV.out.symm, HB.out _⟩
end Go.Proofs.YtinefdlkajnomaaGreatDoor
namespace Go.Proofs.YtinefdlkajnomaaGreatDoor
open Go.RowKit
structure R where
 p : Int
 k : ByteArray
 n : ByteArray
def R.cells (r : R) : List Value := [.int .i64 r.p, .string r.k, .string r.n]
def tabR : List R := [⟨1200, ⟨#[120, 102, 120]⟩, ⟨#[58, 45]⟩⟩, ⟨1200, ⟨#[102, 120]⟩, ⟨#[58, 45]⟩⟩, ⟨1200, ⟨#[102, 120]⟩, ⟨#[63, 45]⟩⟩, ⟨1100, ⟨#[120, 102, 121]⟩, ⟨#[59]⟩⟩, ⟨1050, ⟨#[120, 102, 121]⟩, ⟨#[45, 62]⟩⟩, ⟨1000, ⟨#[120, 102, 121]⟩, ⟨#[44]⟩⟩, ⟨900, ⟨#[102, 121]⟩, ⟨#[92, 43]⟩⟩, ⟨700, ⟨#[120, 102, 120]⟩, ⟨#[61]⟩⟩, ⟨700, ⟨#[120, 102, 120]⟩, ⟨#[92, 61]⟩⟩, ⟨700, ⟨#[120, 102, 120]⟩, ⟨#[61, 61]⟩⟩, ⟨700, ⟨#[120, 102, 120]⟩, ⟨#[92, 61, 61]⟩⟩, ⟨700, ⟨#[120, 102, 120]⟩, ⟨#[64, 60]⟩⟩, ⟨700, ⟨#[120, 102, 120]⟩, ⟨#[64, 61, 60]⟩⟩, ⟨700, ⟨#[120, 102, 120]⟩, ⟨#[64, 62]⟩⟩, ⟨700, ⟨#[120, 102, 120]⟩, ⟨#[64, 62, 61]⟩⟩, ⟨700, ⟨#[120, 102, 120]⟩, ⟨#[61, 46, 46]⟩⟩, ⟨700, ⟨#[120, 102, 120]⟩, ⟨#[105, 115]⟩⟩, ⟨700, ⟨#[120, 102, 120]⟩, ⟨#[61, 58, 61]⟩⟩, ⟨700, ⟨#[120, 102, 120]⟩, ⟨#[61, 92, 61]⟩⟩, ⟨700, ⟨#[120, 102, 120]⟩, ⟨#[60]⟩⟩, ⟨700, ⟨#[120, 102, 120]⟩, ⟨#[61, 60]⟩⟩, ⟨700, ⟨#[120, 102, 120]⟩, ⟨#[62]⟩⟩, ⟨700, ⟨#[120, 102, 120]⟩, ⟨#[62, 61]⟩⟩, ⟨500, ⟨#[121, 102, 120]⟩, ⟨#[43]⟩⟩, ⟨500, ⟨#[121, 102, 120]⟩, ⟨#[45]⟩⟩, ⟨400, ⟨#[121, 102, 120]⟩, ⟨#[42]⟩⟩, ⟨400, ⟨#[121, 102, 120]⟩, ⟨#[47, 47]⟩⟩, ⟨400, ⟨#[121, 102, 120]⟩, ⟨#[114, 101, 109]⟩⟩, ⟨400, ⟨#[121, 102, 120]⟩, ⟨#[109, 111, 100]⟩⟩, ⟨200, ⟨#[102, 121]⟩, ⟨#[45]⟩⟩]
def tabCells : Array Value := (tabR.flatMap R.cells).toArray
theorem tabCells_size : tabCells.size = 90 := by decide +kernel
theorem tabCells_ne : ¬ tabCells = #[] := fun h => by have := tabCells_size; rw [h] at this; cases this
theorem tab_one : tabCells.all (·.oneCell') = true := by decide +kernel
theorem info_tab : (Tryz.prog.info? 180).map (·.size) = some 90 := by kernel_rfl
theorem store_tab (w : World) : (storeCells ⟨w.heap.size, 0, none⟩ tabCells.toList 0).run Tryz.prog (w.alloc (.cells Tryz.zeroCells180 180)) = .ok () (w.alloc (.cells tabCells 180)) :=
 run_storeCells_new w _ _ _ (by rw [tabCells_size]; exact info_tab) (by rw [Tryz.zeroCells180_size, tabCells_size]) tab_one
theorem load_tab (w : World) : (loadCellsFrom ⟨w.heap.size, 0, none⟩ 0 90 #[]).run Tryz.prog (w.alloc (.cells tabCells 180)) = .ok tabCells (w.alloc (.cells tabCells 180)) :=
 run_loadCellsFrom_new w _ _ _ tabCells_size
theorem loadVar_tab (w : World) : (loadVar 180 ⟨w.heap.size, 0, none⟩).run Tryz.prog (w.alloc (.cells tabCells 180)) = .ok (.agg tabCells) (w.alloc (.cells tabCells 180)) :=
 run_loadVar_new w _ _ 30 179 (by kernel_rfl) (by rw [tabCells_size]; exact info_tab)
attribute [-go_sem] loadVar
attribute [local go_sem] loadVar_tab tabCells_size Tryz.zeroCells180_size tabCells_ne Tryz.zeroCells180_ne store_tab load_tab
theorem wpList_build_to {P : Program} {ops : Array Oper} {rest : List Oper} {o : Oper} {a : Act} {w : World} {Q : Exit -> Act -> World -> Prop} (hg : o.guard = none) (t : TypeId) (parts : Array (Nat × Operand)) (cells : Array Value) (ho : o.op = .build t parts)
 (hf : P.built t (parts.map fun (i, x) => (i, a.eval x)).toList = some cells)
 (h : wpList P ops Q rest (a.put o.dst (.agg cells)) w) : wpList P ops Q (o :: rest) a w :=
 wpList_build hg t parts ho (by rw [hf]; rfl) (by rw [hf]; exact h)
set_option maxRecDepth 100000 in
set_option maxHeartbeats 4000000 in
theorem ops_table (w : World) :
 Calls Tryz.prog 191 #[] w fun e w' => e = .returned (.agg tabCells) /\ Below w.heap.size w w' := by
 have HB := Lib.hid (fun o : Obj => (Below.refl w.heap.size w).alloc (Nat.le_refl _) o);go_enter Tryz.func191, Tryz.ntmps191;go_wp2_with (refine wpList_build_to (o := ⟨some 31, _, _, _, _, _⟩) rfl 180 _ tabCells rfl (by kernel_rfl) ?_);exact bodyPost_ret (v := .agg tabCells) (by simp [results, Tryz.results191, go_sem]) rfl ⟨rfl, HB.out _⟩
end Go.Proofs.YtinefdlkajnomaaGreatDoor
namespace Go.Proofs.YtinefdlkajnomaaGreatDoor
open Go.RowKit
theorem flat_get (l : List R) : ∀ (k : Nat) (h : k < l.length), (l.flatMap R.cells)[k * 3]? = some (.int .i64 (l[k]'h).p) /\ (l.flatMap R.cells)[k * 3 + 1]? = some (.string (l[k]'h).k) /\ (l.flatMap R.cells)[k * 3 + 2]? = some (.string (l[k]'h).n) := by
 induction l with
 | nil => intro k h; cases h
 | cons r l ih =>
  intro k h;have hl : r.cells.length = 3 := rfl;cases k with
  | zero => exact ⟨rfl, rfl, rfl⟩
  | succ k =>
   have h2 := ih k (by simpa using h);rw [List.flatMap_cons, List.getElem?_append_right (by omega), List.getElem?_append_right (by omega), List.getElem?_append_right (by omega), hl,
    show (k + 1) * 3 - 3 = k * 3 by omega, show (k + 1) * 3 + 1 - 3 = k * 3 + 1 by omega, show (k + 1) * 3 + 2 - 3 = k * 3 + 2 by omega]
   exact h2
theorem tab_len : tabR.length = 30 := rfl
theorem tab_get (k : Nat) (h : k < 30) : tabCells[k * 3]? = some (.int .i64 (tabR[k]'h).p) /\ tabCells[k * 3 + 1]? = some (.string (tabR[k]'h).k) /\ tabCells[k * 3 + 2]? = some (.string (tabR[k]'h).n) := by
 have := flat_get tabR k h;unfold tabCells;simpa using this
def R.fits (name : ByteArray) (n : Int) (r : R) : Bool := r.n.toList == name.toList && (r.k.size : Int) == n
def findR (l : List R) (name : ByteArray) (n : Int) : Option R := l.find? (R.fits name n)
def opR (s : List UInt8) (n : Int) : Option R := findR tabR ⟨s.toArray⟩ n
def opAns : Option R -> Value
 | some r => .tuple #[.agg #[.int .i64 r.p, .string r.k], .bool true]
 | none => .tuple #[.agg #[.int .i64 0, .string ⟨#[]⟩], .bool false]
theorem findR_step (l : List R) (name : ByteArray) (n : Int) (k : Nat) (h : k < l.length) : findR (l.drop k) name n = if (l[k]'h).fits name n then some (l[k]'h) else findR (l.drop (k + 1)) name n := by
 rw [List.drop_eq_getElem_cons h];show List.find? _ _ = _
 rw [List.find?_cons];cases (l[k]'h).fits name n <;> rfl
theorem bcell {W w1 : World} (hb : Below W.heap.size W w1) : (∀ b o, b < W.heap.size -> w1.cell? ⟨b, o, none⟩ = W.cell? ⟨b, o, none⟩) /\ (∀ b o, b < W.heap.size -> w1.frozen? ⟨b, o, none⟩ = W.frozen? ⟨b, o, none⟩) :=
 ⟨fun b o h => hb.cell (p := ⟨b, o, none⟩) h, fun b o h => hb.frozen (p := ⟨b, o, none⟩) h⟩
theorem op_made {w w1 : World} {p : Int} {k : ByteArray} {t : TypeId} (hb : Below (w.alloc (.cells #[.int .i64 p, .string k] t)).heap.size (w.alloc (.cells #[.int .i64 p, .string k] t)) w1) :
 w1.cell? ⟨w.heap.size, 0, none⟩ = some (.int .i64 p) /\ w1.cell? ⟨w.heap.size, 1, none⟩ = some (.string k) /\ w1.frozen? ⟨w.heap.size, 0, none⟩ = false /\ w1.frozen? ⟨w.heap.size, 1, none⟩ = false := by
 obtain ⟨hc, hf⟩ := bcell hb;refine ⟨?_, ?_, ?_, ?_⟩
 · rw [hc _ _ (by rw [World.size_alloc]; omega)]; exact World.cell?_alloc_at _ _ _ _ rfl
 · rw [hc _ _ (by rw [World.size_alloc]; omega)]; exact World.cell?_alloc_at _ _ _ _ rfl
 · rw [hf _ _ (by rw [World.size_alloc]; omega)]; simp
 · rw [hf _ _ (by rw [World.size_alloc]; omega)]; simp
attribute [local go_sem] tabCells_size Tryz.zeroCells180_size tabCells_ne Tryz.zeroCells180_ne store_tab
set_option maxRecDepth 100000 in
set_option maxHeartbeats 4000000 in
theorem ops_find (name : ByteArray) (n : Int) (w : World) :
 Calls Tryz.prog 180 #[.string name, .int .i64 n] w fun e w' => e = .returned (opAns (findR tabR name n)) /\ Below w.heap.size w w' := by
 have HB := Lib.hid (fun o : Obj => (Below.refl w.heap.size w).alloc (Nat.le_refl _) o);obtain ⟨E, hE⟩ : ∃ E, findR tabR name n = E := ⟨_, rfl⟩;rw [hE];have HE := Lib.hid hE;clear hE;go_enter Tryz.func180, Tryz.ntmps180;go_wp2_with fail;refine (ops_table _).mono ?_;rintro e w1 ⟨rfl, hb1⟩;have hbw1 := (HB.out _).trans (hb1.mono (by simp));have hs1 := hb1.size;rw [World.size_alloc] at hs1;obtain ⟨hc, hf⟩ := bcell hb1;have z0 : w1.cell? ⟨w.heap.size, 0, none⟩ = some (.int .i64 0) := by rw [hc _ _ (by rw [World.size_alloc]; omega)]; exact World.cell?_alloc_at _ _ _ _ rfl
 have z1 : w1.cell? ⟨w.heap.size, 1, none⟩ = some (.string ⟨#[]⟩) := by rw [hc _ _ (by rw [World.size_alloc]; omega)]; exact World.cell?_alloc_at _ _ _ _ rfl
 have g0 : w1.frozen? ⟨w.heap.size, 0, none⟩ = false := by rw [hf _ _ (by rw [World.size_alloc]; omega)]; simp
 have g1 : w1.frozen? ⟨w.heap.size, 1, none⟩ = false := by rw [hf _ _ (by rw [World.size_alloc]; omega)]; simp
 clear hc hf hb1;go_wp2_with fail;generalize hw2 : w1.alloc (Obj.cells tabCells 180) = w2;have hbw2 : Below w.heap.size w w2 := by rw [<- hw2]; exact hbw1.alloc hbw1.size _
 have hs2 : w2.heap.size = w1.heap.size + 1 := by rw [<- hw2]; simp
 have HT : Hid (∀ W, Below w2.heap.size w2 W -> ∀ k (h : k < 30), W.cell? ⟨w1.heap.size, k * 3, none⟩ = some (.int .i64 (tabR[k]'h).p) /\ W.cell? ⟨w1.heap.size, k * 3 + 1, none⟩ = some (.string (tabR[k]'h).k) /\ W.cell? ⟨w1.heap.size, k * 3 + 2, none⟩ = some (.string (tabR[k]'h).n)) := Lib.hid (fun W hb k h => by
  have h3 := tab_get k h;have hc : ∀ i, W.cell? ⟨w1.heap.size, i, none⟩ = tabCells[i]? := fun i => by
   rw [hb.cell (p := ⟨w1.heap.size, i, none⟩) (by show w1.heap.size < _; omega), <- hw2]; exact World.cell?_alloc_at _ _ _ _ rfl
  rw [hc, hc, hc]; exact h3)
 have HZ : Hid (∀ W, Below w2.heap.size w2 W -> W.cell? ⟨w.heap.size, 0, none⟩ = some (.int .i64 0) /\ W.cell? ⟨w.heap.size, 1, none⟩ = some (.string ⟨#[]⟩) /\ W.frozen? ⟨w.heap.size, 0, none⟩ = false /\ W.frozen? ⟨w.heap.size, 1, none⟩ = false) := Lib.hid (fun W hb => by
  obtain ⟨hc, hf⟩ := bcell hb;rw [hc _ _ (by omega), hc _ _ (by omega), hf _ _ (by omega), hf _ _ (by omega), <- hw2, World.cell?_alloc_past _ _ _ (by omega), World.cell?_alloc_past _ _ _ (by omega), World.frozen?_alloc_past _ _ _ (by omega), World.frozen?_alloc_past _ _ _ (by omega)];exact ⟨z0, z1, g0, g1⟩)
 have HS : Hid (w2.heap.size = w1.heap.size + 1) := Lib.hid hs2;clear hw2 z0 z1 g0 g1 hs2;go_loopw [10] (fun iv wr => ∃ k : Nat, k <= 30 /\ iv = .int .i64 k /\ Below w2.heap.size w2 wr /\ Hid (findR (tabR.drop k) name n = E)) (fun iv _ => 30 - (intOf iv).toNat)
 case atStart => exact ⟨0, Nat.zero_le _, rfl, Below.refl _ _, HE⟩
 case round =>
  obtain ⟨k, hk, rfl, hbw, HG⟩ := hrel;obtain ⟨z0, z1, g0, g1⟩ := HZ.out wr hbw;have hws := hbw.size;by_cases hlt : k < 30
  · obtain ⟨c0, c1, c2⟩ := HT.out wr hbw k hlt;have HST := Lib.hid (findR_step tabR name n k hlt);generalize tabR[k] = r at *;have hi0 : (0 : Int) <= (k : Int) := by omega
    have hi1 : (k : Int) < 30 := by omega
    cases e1 : (r.n.toList == name.toList) with
    | false =>
     have HN : Hid (findR (tabR.drop (k + 1)) name n = E) := Lib.hid (by rw [<- HG.out, HST.out, if_neg (by unfold R.fits; rw [e1]; simp)]);go_wp2_with fail;go_roundw
     case rel => exact ⟨k + 1, by omega, by go_num, hbw.alloc hws _, HN⟩
     case measure => simp [intOf]; omega
    | true =>
     cases e2 : ((r.k.size : Int) == n) with
     | false =>
      have HN : Hid (findR (tabR.drop (k + 1)) name n = E) := Lib.hid (by rw [<- HG.out, HST.out, if_neg (by unfold R.fits; rw [e1, e2]; simp)]);go_wp2_with fail;go_roundw
      case rel => exact ⟨k + 1, by omega, by go_num, hbw.alloc hws _, HN⟩
      case measure => simp [intOf]; omega
     | true =>
      have HR : Hid (E = some r) := Lib.hid (by rw [<- HG.out, HST.out, if_pos (by unfold R.fits; rw [e1, e2]; rfl)]);have hlt2 : w.heap.size < wr.heap.size := by have := HS.out; omega
      go_wp2_with fail;refine bodyPost_ret (v := .tuple #[.agg #[.int .i64 r.p, .string r.k], .bool true]) (by simp [results, Tryz.results180, go_sem, hlt2, z0, z1]) rfl ⟨by rw [HR.out]; rfl, ?_⟩;have hb3 : Below w.heap.size w wr := hbw2.trans (hbw.mono hbw2.size);have hb4 := (hb3.setCell (p := ⟨w.heap.size, 0, none⟩) (Nat.le_refl _) (.int .i64 r.p)).setCell (p := ⟨w.heap.size, 1, none⟩) (Nat.le_refl _) (.string r.k);exact hb4.alloc hb4.size _
  · have HR : Hid (E = none) := Lib.hid (by rw [<- HG.out, List.drop_eq_nil_of_le (by rw [tab_len]; omega)]; rfl);go_wp2_with fail;refine bodyPost_ret (v := .tuple #[.agg #[.int .i64 0, .string ⟨#[]⟩], .bool false]) (by simp [results, Tryz.results180, go_sem, z0, z1]) rfl ⟨by rw [HR.out]; rfl, ?_⟩;have hb3 : Below w.heap.size w wr := hbw2.trans (hbw.mono hbw2.size);exact (hb3.setCell (Nat.le_refl _) _).setCell (Nat.le_refl _) _
set_option maxHeartbeats 1000000 in
theorem ops_Prefix (name : ByteArray) (w : World) :
 Calls Tryz.prog 172 #[.string name] w fun e w' => e = .returned (opAns (findR tabR name 2)) /\ Below w.heap.size w w' := by
 have HB := Lib.hid (fun o : Obj => (Below.refl w.heap.size w).alloc (Nat.le_refl _) o);have HF := Lib.hid (fun W => ops_find name 2 W);generalize findR tabR name 2 = E at *;cases E with
 | none =>
  unfold opAns at *;go_enter Tryz.func172, Tryz.ntmps172;go_wp2_with fail;refine (HF.out _).mono ?_;rintro e w1 ⟨rfl, hb1⟩;have hbw1 := (HB.out _).trans (hb1.mono (by simp));obtain ⟨z0, z1, g0, g1⟩ := op_made hb1;clear hb1;go_wp2_with fail;exact bodyPost_ret (v := .tuple #[.agg #[.int .i64 0, .string ⟨#[]⟩], .bool false]) (by simp [results, Tryz.results172, go_sem, z0, z1]) rfl ⟨rfl, (hbw1.setCell (Nat.le_refl _) _).setCell (Nat.le_refl _) _⟩
 | some r =>
  unfold opAns at *;go_enter Tryz.func172, Tryz.ntmps172;go_wp2_with fail;refine (HF.out _).mono ?_;rintro e w1 ⟨rfl, hb1⟩;have hbw1 := (HB.out _).trans (hb1.mono (by simp));obtain ⟨z0, z1, g0, g1⟩ := op_made hb1;clear hb1;go_wp2_with fail;exact bodyPost_ret (v := .tuple #[.agg #[.int .i64 r.p, .string r.k], .bool true]) (by simp [results, Tryz.results172, go_sem, z0, z1]) rfl ⟨rfl, (hbw1.setCell (Nat.le_refl _) _).setCell (Nat.le_refl _) _⟩
set_option maxHeartbeats 1000000 in
theorem ops_Infix (name : ByteArray) (w : World) :
 Calls Tryz.prog 149 #[.string name] w fun e w' => e = .returned (opAns (findR tabR name 3)) /\ Below w.heap.size w w' := by
 have HB := Lib.hid (fun o : Obj => (Below.refl w.heap.size w).alloc (Nat.le_refl _) o);have HF := Lib.hid (fun W => ops_find name 3 W);generalize findR tabR name 3 = E at *;cases E with
 | none =>
  unfold opAns at *;go_enter Tryz.func149, Tryz.ntmps149;go_wp2_with fail;refine (HF.out _).mono ?_;rintro e w1 ⟨rfl, hb1⟩;have hbw1 := (HB.out _).trans (hb1.mono (by simp));obtain ⟨z0, z1, g0, g1⟩ := op_made hb1;clear hb1;go_wp2_with fail;exact bodyPost_ret (v := .tuple #[.agg #[.int .i64 0, .string ⟨#[]⟩], .bool false]) (by simp [results, Tryz.results149, go_sem, z0, z1]) rfl ⟨rfl, (hbw1.setCell (Nat.le_refl _) _).setCell (Nat.le_refl _) _⟩
 | some r =>
  unfold opAns at *;go_enter Tryz.func149, Tryz.ntmps149;go_wp2_with fail;refine (HF.out _).mono ?_;rintro e w1 ⟨rfl, hb1⟩;have hbw1 := (HB.out _).trans (hb1.mono (by simp));obtain ⟨z0, z1, g0, g1⟩ := op_made hb1;clear hb1;go_wp2_with fail;exact bodyPost_ret (v := .tuple #[.agg #[.int .i64 r.p, .string r.k], .bool true]) (by simp [results, Tryz.results149, go_sem, z0, z1]) rfl ⟨rfl, (hbw1.setCell (Nat.le_refl _) _).setCell (Nat.le_refl _) _⟩
end Go.Proofs.YtinefdlkajnomaaGreatDoor
