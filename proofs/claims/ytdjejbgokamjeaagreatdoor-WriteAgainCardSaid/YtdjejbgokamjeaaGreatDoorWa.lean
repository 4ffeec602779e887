import Derived.Test.YtdjejbgokamjeaaGreatDoorChecked
import Derived.WalkKit
import Derived.WalkSpells
import Derived.Lib.Hide
import Derived.Lib.Builder
import Derived.Lib.OthersKept
import Derived.Lib.AppendStr
import Derived.Lib.UnsafeStr
import Derived.Lib.Strings
import Derived.Lib.Slices
import Derived.Lib.Walk
import Derived.Laws.Externs
import Derived.Laws.BitsLemmas
import Derived.RegionTactic
import Derived.BigRegion
import Derived.Test.YtdjejbgokamjeaaGreatDoorTermMR
namespace Go.Proofs.YtdjejbgokamjeaaGreatDoor
open Go.RowKit
def BW (B b : Nat) (l : List UInt8) (w : World) : Prop := Lib.IsBuilder 66 5 B b (Lib.byteCells l) w
abbrev Apart (b : Nat) (w w' : World) : Prop := Lib.OthersKept 5 (some b) w w'
theorem wr_size : (Tryz.prog.info? 64).map (·.size) = some 2 := by kernel_rfl
theorem wr_lies : liesAt Tryz.prog Tryz.prog.depth 66 (2 / Tryz.prog.cellsOf 66) 0 64 1 = true := by kernel_rfl
theorem wr_byte : (Tryz.prog.info? 5).map (fun i => (i.zero, i.size, i.bytes)) = some (some (.int .u8 0), 1, 1) := by kernel_rfl
theorem wr_cells : Tryz.prog.cellsOf 5 = 1 := by kernel_rfl
theorem ownsRow_kind {w : World} {B : Nat} {e : TypeId} {v : Value} {n : Nat} {xs : List Value} (h : w.ownsRow B e 1 v n xs) : ∀ g, v.ownBlock = some g -> ∃ c fz, w.heap[g]? = some (.cells c e fz) := by
 intro g hg;rcases h.2 with ⟨rfl, _⟩ | ⟨g', cap, cur, rfl, _, hgg, _⟩
 · simp [Value.ownBlock] at hg
 · simp [Value.ownBlock] at hg
   subst hg;exact ⟨cur, _, hgg⟩
set_option maxHeartbeats 1000000 in
set_option maxRecDepth 100000 in
theorem wr_copyCheck_used (b : Nat) (w : World) (h0 : w.cell? ⟨b, 0, none⟩ = some (.pointer (some ⟨b, 0, none⟩))) :
 Calls Tryz.prog 81 #[.pointer (some ⟨b, 0, none⟩)] w fun e w' => e = .returned (.tuple #[]) /\ w' = w := by
 obtain ⟨j, hj, _⟩ := Option.map_eq_some_iff.1 wr_size;go_enter Tryz.func81, Tryz.ntmps81;go_wp2;rw [Lib.run_neq_ptr_same w _ (by kernel_rfl) hj];go_wp2;go_end0;exact ⟨rfl, rfl⟩
set_option maxHeartbeats 1000000 in
set_option maxRecDepth 100000 in
theorem wr_copyCheck_fresh (b : Nat) (w : World) (h0 : w.cell? ⟨b, 0, none⟩ = some (.pointer none)) (hsh : w.shape? b = some (66, 2)) (hfz : w.frozen? ⟨b, 0, none⟩ = false) :
 Calls Tryz.prog 81 #[.pointer (some ⟨b, 0, none⟩)] w fun e w' => e = .returned (.tuple #[]) /\ w' = w.setCell ⟨b, 0, none⟩ (.pointer (some ⟨b, 0, none⟩)) := by
 obtain ⟨j, hj, hjs⟩ := Option.map_eq_some_iff.1 wr_size;have hL := wr_lies;go_enter Tryz.func81, Tryz.ntmps81;go_wp2;rw [Lib.run_to_unsafe (t := 64) w ⟨b, 0, none⟩ (by kernel_rfl) (by kernel_rfl) hj (by rw [hjs]; decide) hsh (Nat.zero_lt_succ 1)];simp only [Result.andThen]
 rw [Oper.upon_value];go_wp2;rw [run_callFunc_extern Tryz.func103 (by kernel_rfl) (by kernel_rfl) (by kernel_rfl) (e := Extern.AbiNoEscape.same) (by kernel_rfl)];rw [Lib.run_noEscape];simp only [Result.andThen]
 rw [Oper.upon_value];go_wp2;rw [Lib.run_from_unsafe (u := 64) w ⟨b, 0, none⟩ (by kernel_rfl) (by kernel_rfl) hj hsh hL];simp only [Result.andThen]
 rw [Oper.upon_value];go_wp2;go_end0;exact ⟨rfl, rfl⟩
theorem wr_copyCheck (B b : Nat) (l : List UInt8) (w : World) (h : BW B b l w) :
 Calls Tryz.prog 81 #[.pointer (some ⟨b, 0, none⟩)] w fun e w' => e = .returned (.tuple #[]) /\ Lib.BuilderAt 66 5 B b (.pointer (some ⟨b, 0, none⟩)) (Lib.byteCells l) w' /\ Below B w w' /\ Apart b w w' := by
 rcases h with h | h
 · refine (wr_copyCheck_fresh b w h.cell0 h.shape h.frozen0).mono ?_;rintro e w' ⟨rfl, rfl⟩;exact ⟨rfl, h.used _, (Below.refl B w).setCell (p := ⟨b, 0, none⟩) h.1 _, (Lib.OthersKept.refl _ _ w).setCell ⟨b, 0, none⟩ rfl _⟩
 · refine (wr_copyCheck_used b w h.cell0).mono ?_;rintro e w' ⟨rfl, rfl⟩;exact ⟨rfl, h, Below.refl B _, Lib.OthersKept.refl _ _ _⟩
set_option maxHeartbeats 2000000 in
set_option maxRecDepth 100000 in
theorem wr_WriteString (B b : Nat) (l : List UInt8) (s : ByteArray) (w : World) (h : BW B b l w) (hlen : l.length + s.size <= 140737488355328) (hBw : B <= w.heap.size) :
 Calls Tryz.prog 62 #[.pointer (some ⟨b, 0, none⟩), .string s] w fun e w' => e = .returned (.tuple #[.int .i64 s.size, .nilIface]) /\ BW B b (l ++ s.data.toList) w' /\ Below B w w' /\ Apart b w w' := by
 obtain ⟨i0, hi, hz0, hz1, hz2⟩ := info_parts wr_byte;go_enter Tryz.func62, Tryz.ntmps62;go_wp2_with fail;refine (wr_copyCheck B b l _ h).mono ?_;rintro e w1 ⟨rfl, h1, hb1, hk1⟩;obtain ⟨hB, v, hbk, hown, hne⟩ := h1;have c0 : w1.cell? ⟨b, 0, none⟩ = some (.pointer (some ⟨b, 0, none⟩)) := by rw [Lib.cell_of_heap hbk]; rfl
 have c1 : w1.cell? ⟨b, 1, none⟩ = some v := by rw [Lib.cell_of_heap hbk]; rfl
 rw [Lib.byteCells_length] at hown;go_wp2_with (at_builtin; refine Lib.wpList_append_own_string _ rfl _ _ 62 9 rfl B 5 i0 (by kernel_rfl) (by kernel_rfl) hi hz0 hz1 hz2 _ _ _ rfl hown s rfl ?c3 ?c4 ?c5 ?_)
 case c3 => unfold maxLen; omega
 case c4 => omega
 case c5 => have := hb1.size; omega
 intro v' w2 hown' hgrow _;have hlt : b < w1.heap.size := by
  rcases Nat.lt_or_ge b w1.heap.size with h' | h'
  · exact h'
  · simp [Array.getElem?_eq_none h'] at hbk
 have hb2 : w2.heap[b]? = some (.cells #[.pointer (some ⟨b, 0, none⟩), v] 66 (0, 0)) := by
  rw [hgrow.block b hlt (fun e => hne e.symm)];exact hbk
 have d0 : w2.cell? ⟨b, 0, none⟩ = some (.pointer (some ⟨b, 0, none⟩)) := by rw [Lib.cell_of_heap hb2]; rfl
 have d1 : w2.cell? ⟨b, 1, none⟩ = some v := by rw [Lib.cell_of_heap hb2]; rfl
 have f1 : w2.frozen? ⟨b, 1, none⟩ = false := Lib.frozen_of_heap hb2 1;obtain ⟨ao, n', cap, rfl⟩ : ∃ ao n' cap, v' = .slice ao n' cap := by
  rcases hown'.2 with ⟨hv, _⟩ | ⟨g, cap, cur, hv, _⟩
  · exact ⟨_, _, _, hv⟩
  · exact ⟨_, _, _, hv⟩
 have HBW := Lib.hid (show BW B b (l ++ s.data.toList) (w2.setCell ⟨b, 1, none⟩ (.slice ao n' cap)) from by
  refine .inr ?_;have e1 : Lib.byteCells (l ++ s.data.toList) = Lib.byteCells l ++ Lib.strCells s := by simp [Lib.byteCells, Lib.strCells]
  rw [e1];exact Lib.BuilderAt.put (T := 66) (e := 5) hB hb2 (bs' := Lib.byteCells l ++ Lib.strCells s) (by simpa [Lib.strCells_length, Lib.byteCells_length] using hown') (by decide))
 have HBL := Lib.hid (show Below B w (w2.setCell ⟨b, 1, none⟩ (.slice ao n' cap)) from (hb1.grown hgrow (by have := hb1.size; omega) (fun k hk => (hown.lt k hk).1)).setCell (p := ⟨b, 1, none⟩) hB _);have HAP := Lib.hid (show Apart b w (w2.setCell ⟨b, 1, none⟩ (.slice ao n' cap)) from (hk1.grown hgrow (ownsRow_kind hown)).setCell ⟨b, 1, none⟩ rfl _);clear hgrow hown hown' hbk hb2 hk1 hb1 c0 c1 h;go_wp2;go_ret2;exact ⟨rfl, HBW.out, HBL.out, HAP.out⟩
set_option maxHeartbeats 1000000 in
set_option maxRecDepth 100000 in
theorem wr_String (B b : Nat) (l : List UInt8) (w : World) (h : BW B b l w) (h0 : l ≠ []) :
 Calls Tryz.prog 31 #[.pointer (some ⟨b, 0, none⟩)] w fun e w' => e = .returned (.string ⟨l.toArray⟩) /\ Below B w w' := by
 obtain ⟨p, hB, v, hbk, hown, hne⟩ : ∃ p, Lib.BuilderAt 66 5 B b p (Lib.byteCells l) w := by
  rcases h with h | h
  · exact ⟨_, h⟩
  · exact ⟨_, h⟩
 have hl0 : l.length ≠ 0 := by simpa using h0
 rw [Lib.byteCells_length] at hown;obtain ⟨g, cap, cur, rfl, hbg, hg, hnc, hcm, hcs, htake⟩ : ∃ g cap cur, v = .slice (some ⟨g, 0, none⟩) l.length cap /\ B <= g /\ w.heap[g]? = some (.cells cur 5 (0, 0)) /\ l.length <= cap /\ cap <= maxLen /\ cur.size = cap * 1 /\ cur.toList.take (l.length * 1) = Lib.byteCells l := by
  rcases hown.2 with ⟨_, hz⟩ | ⟨g, cap, cur, hv, r⟩
  · exact absurd hz hl0
  · exact ⟨g, cap, cur, hv, r⟩
 have c1 : w.drew.cell? ⟨b, 1, none⟩ = some (.slice (some ⟨g, 0, none⟩) l.length cap) := by
  have : w.drew.heap[b]? = some (.cells #[p, .slice (some ⟨g, 0, none⟩) l.length cap] 66 (0, 0)) := hbk;rw [Lib.cell_of_heap this]; rfl
 have hSD : (Builtin.unsafeSliceData_ #[62] 82 #[.slice (some ⟨g, 0, none⟩) l.length cap]).run Tryz.prog w.drew = .ok (.pointer (some ⟨g, 0, none⟩)) w.drew :=
  Lib.run_unsafeSliceData_row _ _ _ _ _ _ (by omega)
 have hUS : (Builtin.unsafeString_ #[82, 3] 9 #[.pointer (some ⟨g, 0, none⟩), .int .i64 l.length]).run Tryz.prog w.drew = .ok (.string ⟨l.toArray⟩) (w.drew.freeze ⟨g, 0, none⟩ l.length) := by
  refine Lib.run_unsafeString_row w.drew 82 3 9 5 (by kernel_rfl) wr_cells g cur.size (by have hg' : w.drew.heap[g]? = some (.cells cur 5 (0, 0)) := hg; simp [World.shape?, hg']) l h0 (by omega) (by unfold maxLen at hcm; omega) ?_;intro j x hx;have := hown.cells (g := g) rfl j (.int .u8 x.toNat) (by simp [Lib.byteCells, hx]);exact this
 go_enter Tryz.func31, Tryz.ntmps31;go_wp2;go_region
 all_goals (go_wp2; go_ret; exact ⟨rfl, Lib.below_freeze (Below.drew (Below.refl B w)) (p := ⟨g, 0, none⟩) hbg _⟩)
theorem BW.lt {B b : Nat} {l : List UInt8} {w : World} (h : BW B b l w) : b < w.heap.size := by
 rcases h with h | h <;> exact h.lt
theorem BW.far {B b : Nat} {l : List UInt8} {w : World} (h : BW B b l w) : B <= b := by
 rcases h with h | h <;> exact h.1
theorem BW.on {B b : Nat} {l : List UInt8} {w w' : World} (h : BW B b l w) (hb : Below w.heap.size w w') : BW B b l w' := by
 have go : ∀ p, Lib.BuilderAt 66 5 B b p (Lib.byteCells l) w -> Lib.BuilderAt 66 5 B b p (Lib.byteCells l) w' := by
  rintro p ⟨hB, v, hbk, ⟨hl, h1⟩, hne⟩;refine ⟨hB, v, (hb.block b (Array.getElem?_eq_some_iff.1 hbk).1).trans hbk, ⟨hl, ?_⟩, hne⟩;rcases h1 with h0 | ⟨g, cap, cur, hv, hbg, hh, r⟩
  · exact .inl h0
  · exact .inr ⟨g, cap, cur, hv, hbg, (hb.block g (Array.getElem?_eq_some_iff.1 hh).1).trans hh, r⟩
 rcases h with h | h
 · exact .inl (go _ h)
 · exact .inr (go _ h)
theorem BW.past {B b : Nat} {l : List UInt8} {w : World} (h : BW B b l w) (o : Obj) : BW B b l (w.alloc o) := h.on ((Below.refl _ w).alloc (Nat.le_refl _) o)
theorem BW.ne {B b : Nat} {l : List UInt8} {w : World} (h : BW B b l w) {k : Nat} {C : Array Value} {t : TypeId} {fz : Nat × Nat} (hk : w.heap[k]? = some (.cells C t fz)) (ht : t ≠ 66) : k ≠ b := by
 rintro rfl;rcases h with ⟨_, v, hb, _⟩ | ⟨_, v, hb, _⟩ <;> (rw [hk] at hb; exact ht (Obj.cells.inj (Option.some.inj hb)).2.1)
theorem apart_keep {b : Nat} {w w' : World} (h : Apart b w w') {k : Nat} {C : Array Value} {t : TypeId} {fz : Nat × Nat} (hk : w.heap[k]? = some (.cells C t fz)) (ht : t ≠ 5) (hb : k ≠ b) : w'.heap[k]? = some (.cells C t fz) :=
 h k _ hk (fun e => hb (Option.some.inj e)) (fun _ _ e => ht (Obj.cells.inj e).2.1)
theorem apart_on {b : Nat} {w w1 w2 : World} (h : Apart b w w1) (hb : Below w1.heap.size w1 w2) : Apart b w w2 := by
 intro k o hk hn ho;have h1 := h k o hk hn ho;rw [hb.block k (Array.getElem?_eq_some_iff.1 h1).1];exact h1
def Laid (B b : Nat) (w : World) (l : List UInt8) (e : Ending) (w' : World) : Prop := e = .returned (.tuple #[]) /\ BW B b l w' /\ Below B w w' /\ Apart b w w'
def catL (ps : List ByteArray) : List UInt8 := ps.flatMap (fun p => p.data.toList)
theorem catL_step (ps : List ByteArray) (k : Nat) (h : k < ps.length) : catL (ps.take (k + 1)) = catL (ps.take k) ++ (ps[k]'h).data.toList := by
 unfold catL;rw [List.take_succ_eq_append_getElem h, List.flatMap_append];simp
theorem catL_take (ps : List ByteArray) (k : Nat) : (catL (ps.take k)).length <= (catL ps).length := by
 unfold catL;conv => rhs; rw [<- List.take_append_drop k ps, List.flatMap_append, List.length_append]
 exact Nat.le_add_right _ _
set_option maxHeartbeats 2000000 in
set_option maxRecDepth 100000 in
theorem wr_lay (B b : Nat) (l : List UInt8) (ps : List ByteArray) (g : Nat) (C : Array Value) (fz : Nat × Nat) (w : World) (h : BW B b l w) (hg : w.heap[g]? = some (.cells C 9 fz)) (hC : C = (ps.map Value.string).toArray) (hps : ps.length <= 1000) (hlen : l.length + (catL ps).length <= 100000000000) (hBw : B <= w.heap.size) :
 Calls Tryz.prog 42 #[.pointer (some ⟨b, 0, none⟩), .slice (some ⟨g, 0, none⟩) ps.length ps.length] w (Laid B b w (l ++ catL ps)) := by
 subst hC;have HG := Lib.hid hg;have HNE := Lib.hid (h.ne hg (by decide));have HB := Lib.hid h;have HST := Lib.hid (catL_step ps);have HTK := Lib.hid (catL_take ps);have H0 := Lib.hid (Below.refl B w);have HA := Lib.hid (Lib.OthersKept.refl 5 (some b) w);clear h hg;go_enter Tryz.func42, Tryz.ntmps42;go_wp2_with fail;go_loopw [8] (fun iv wr => ∃ k : Nat, k <= ps.length /\ iv = .int .i64 k /\ BW B b (l ++ catL (ps.take k)) wr /\ Below B w wr /\ Apart b w wr) (fun iv _ => ps.length - (intOf iv).toNat)
 case atStart => exact ⟨0, Nat.zero_le _, rfl, by show BW B b (l ++ []) w; rw [List.append_nil]; exact HB.out, H0.out, HA.out⟩
 case round =>
  obtain ⟨k, hk, rfl, hbw, hbl, hap⟩ := hrel;have hsz := hbl.size;by_cases hlt : k < ps.length
  · have hgr := apart_keep hap HG.out (by decide) HNE.out;have hc : wr.cell? ⟨g, k, none⟩ = some (.string ps[k]) := by rw [Lib.cell_of_heap hgr, List.getElem?_toArray, List.getElem?_map, List.getElem?_eq_getElem hlt]; rfl
    have hln : (l ++ catL (ps.take k)).length + ps[k].size <= 140737488355328 := by
     have h1 := HTK.out (k + 1);rw [HST.out k hlt, List.length_append] at h1;have h2 : ps[k].size = ps[k].data.toList.length := rfl;rw [List.length_append];omega
    have hx := wr_WriteString B b _ ps[k] wr hbw hln (by omega);rw [List.append_assoc, <- HST.out k hlt] at hx;have HX := Lib.hid hx;have HBL := Lib.hid hbl;have HAP := Lib.hid hap;clear hgr hln hx hbw hbl hap;generalize ps[k] = x at *;go_wp2_with fail;refine HX.out.mono ?_;rintro e w2 ⟨rfl, hbw2, hbl2, hap2⟩;have hbl3 := HBL.out.trans hbl2;have hap3 := HAP.out.trans hap2;clear hbl2 hap2;go_wp2_with fail;go_roundw
    case rel => exact ⟨k + 1, by omega, by go_num, hbw2, hbl3, hap3⟩
    case measure => simp [intOf]; omega
  · have he : ps.take k = ps := List.take_of_length_le (by omega);rw [he] at hbw;clear he;go_wp2_with fail;go_end0;exact ⟨rfl, hbw, hbl, hap⟩
end Go.Proofs.YtdjejbgokamjeaaGreatDoor
