import Derived.Test.YtdjejbgokamjeaaGreatDoorOpsAC
import Derived.Laws.AppendOwn
import Derived.Laws.OwnMore
import Derived.Deep.AppendLies
import Derived.Laws.AppendOwnNone
namespace Go.Proofs.YtdjejbgokamjeaaGreatDoor
open Go.RowKit
def strs (l : List ByteArray) : List Value := l.map Value.string
theorem strs_append (a b : List ByteArray) : strs (a ++ b) = strs a ++ strs b := List.map_append
def OwnStrs (B : Nat) (w : World) (v : Value) (l : List ByteArray) : Prop := w.ownsRow B 9 1 v l.length (strs l)
theorem infoStr : (Tryz.prog.info? 9).map (fun i => (i.zero, i.size, i.bytes)) = some (some (.string ⟨#[]⟩), 1, 16) := by kernel_rfl
theorem OwnStrs.below {B : Nat} {w w' : World} {v : Value} {l : List ByteArray} (h : OwnStrs B w v l) (hb : Below w.heap.size w w') : OwnStrs B w' v l := by
 obtain ⟨hl, h0 | ⟨g, cap, cur, hv, hbg, hh, r⟩⟩ := h
 · exact ⟨hl, .inl h0⟩
 · exact ⟨hl, .inr ⟨g, cap, cur, hv, hbg, (hb.block g (Array.getElem?_eq_some_iff.1 hh).1).trans hh, r⟩⟩
theorem OwnStrs.mono {B B' : Nat} {w : World} {v : Value} {l : List ByteArray} (h : OwnStrs B w v l) (hB : B' <= B) : OwnStrs B' w v l := by
 obtain ⟨hl, h0 | ⟨g, cap, cur, hv, hbg, r⟩⟩ := h
 · exact ⟨hl, .inl h0⟩
 · exact ⟨hl, .inr ⟨g, cap, cur, hv, Nat.le_trans hB hbg, r⟩⟩
theorem OwnStrs.snoc {B : Nat} {w : World} {v : Value} {l l2 : List ByteArray} {n : Nat} {xs : List Value} (h : w.ownsRow B 9 1 v n xs) (hn : n = (l ++ l2).length) (hx : xs = strs l ++ strs l2) : OwnStrs B w v (l ++ l2) := by
 unfold OwnStrs;rw [strs_append, <- hn, <- hx];exact h
theorem OwnStrs.view {B : Nat} {w : World} {v : Value} {l : List ByteArray} (h : OwnStrs B w v l) : ∃ ad cap, v = .slice ad l.length cap /\ l.length <= cap /\ cap <= maxLen /\ ∀ j (hj : j < l.length), ∃ g, ad = some ⟨g, 0, none⟩ /\ w.cell? ⟨g, j, none⟩ = some (.string l[j]) := by
 have h9 := h;obtain ⟨hl, ⟨rfl, h0⟩ | ⟨g, cap, cur, rfl, hbg, hh, hnc, hcm, r⟩⟩ := h
 · refine ⟨none, 0, by rw [h0], by omega, Nat.zero_le _, fun j hj => by omega⟩
 · refine ⟨some ⟨g, 0, none⟩, cap, rfl, hnc, hcm, fun j hj => ⟨g, rfl, ?_⟩⟩;rw [World.ownsRow.cellAt h9 j (by omega)];unfold strs;rw [List.getElem?_map, List.getElem?_eq_getElem hj];rfl
def hasS (l : List ByteArray) (n : ByteArray) : Bool := l.any fun k => n.toList == k.toList
def idxGo (n : ByteArray) : List ByteArray -> Int -> Int
 | [], _ => -1
 | k :: l, i => if n.toList == k.toList then i else idxGo n l (i + 1)
theorem idxGo_drop (n : ByteArray) (l : List ByteArray) (k : Nat) (h : k < l.length) : idxGo n (l.drop k) k = if n.toList == (l[k]'h).toList then (k : Int) else idxGo n (l.drop (k + 1)) ((k + 1 : Nat) : Int) := by
 rw [List.drop_eq_getElem_cons h]; rfl
def namesGo : List ByteArray -> List ByteArray -> List ByteArray
 | out, [] => out
 | out, n :: l => if hasS out n then namesGo out l else namesGo (out ++ [n]) l
def namesL : List ByteArray := namesGo [] (tabR.map R.n)
attribute [local go_sem] tabCells_size Tryz.zeroCells144_size tabCells_ne Tryz.zeroCells144_ne store_tab
end Go.Proofs.YtdjejbgokamjeaaGreatDoor
namespace Go.Proofs.YtdjejbgokamjeaaGreatDoor
open Go.RowKit
structure Q where
 p : Int
 k : ByteArray
 ns : List ByteArray
def rows10 : List Q := [⟨1200, ⟨#[120, 102, 120]⟩, [⟨#[58, 45]⟩]⟩, ⟨1200, ⟨#[102, 120]⟩, [⟨#[58, 45]⟩, ⟨#[63, 45]⟩]⟩, ⟨1100, ⟨#[120, 102, 121]⟩, [⟨#[59]⟩]⟩, ⟨1050, ⟨#[120, 102, 121]⟩, [⟨#[45, 62]⟩]⟩, ⟨1000, ⟨#[120, 102, 121]⟩, [⟨#[44]⟩]⟩, ⟨900, ⟨#[102, 121]⟩, [⟨#[92, 43]⟩]⟩, ⟨700, ⟨#[120, 102, 120]⟩, [⟨#[61]⟩, ⟨#[92, 61]⟩, ⟨#[61, 61]⟩, ⟨#[92, 61, 61]⟩, ⟨#[64, 60]⟩, ⟨#[64, 61, 60]⟩, ⟨#[64, 62]⟩, ⟨#[64, 62, 61]⟩, ⟨#[61, 46, 46]⟩, ⟨#[105, 115]⟩, ⟨#[61, 58, 61]⟩, ⟨#[61, 92, 61]⟩, ⟨#[60]⟩, ⟨#[61, 60]⟩, ⟨#[62]⟩, ⟨#[62, 61]⟩]⟩, ⟨500, ⟨#[121, 102, 120]⟩, [⟨#[43]⟩, ⟨#[45]⟩]⟩, ⟨400, ⟨#[121, 102, 120]⟩, [⟨#[42]⟩, ⟨#[47, 47]⟩, ⟨#[114, 101, 109]⟩, ⟨#[109, 111, 100]⟩]⟩, ⟨200, ⟨#[102, 121]⟩, [⟨#[45]⟩]⟩]
def Q.rs (q : Q) : List R := q.ns.map fun n => ⟨q.p, q.k, n⟩
theorem rows_flat : rows10.flatMap Q.rs = tabR := by rfl
def StrsAt (w : World) (h : Nat) (l : List ByteArray) : Prop := ∀ j (hj : j < l.length), w.cell? ⟨h, j, none⟩ = some (.string (l[j]'hj))
def RowAt (w : World) (g o : Nat) (q : Q) : Prop := ∃ h, w.cell? ⟨g, o, none⟩ = some (.int .i64 q.p) /\ w.cell? ⟨g, o + 1, none⟩ = some (.string q.k) /\ w.cell? ⟨g, o + 2, none⟩ = some (.slice (some ⟨h, 0, none⟩) q.ns.length q.ns.length) /\ StrsAt w h q.ns
def RowsAt (w : World) (g : Nat) : Prop := ∀ i (hi : i < rows10.length), RowAt w g (i * 3) (rows10[i]'hi)
theorem StrsAt.on {w w1 : World} {h : Nat} {l : List ByteArray} (hs : StrsAt w h l) (hb : Below w.heap.size w w1) : StrsAt w1 h l := fun j hj =>
 (hb.cell (p := ⟨h, j, none⟩) (World.block_lt_of_cell? w _ (hs j hj))).trans (hs j hj)
theorem RowAt.on {w w1 : World} {g o : Nat} {q : Q} (hs : RowAt w g o q) (hb : Below w.heap.size w w1) : RowAt w1 g o q := by
 obtain ⟨h, c0, c1, c2, hn⟩ := hs;exact ⟨h, (hb.cell (p := ⟨g, o, none⟩) (World.block_lt_of_cell? w _ c0)).trans c0, (hb.cell (p := ⟨g, o + 1, none⟩) (World.block_lt_of_cell? w _ c1)).trans c1, (hb.cell (p := ⟨g, o + 2, none⟩) (World.block_lt_of_cell? w _ c2)).trans c2, hn.on hb⟩
def allocs (w : World) : List (Array Value × TypeId) -> World
 | [] => w
 | x :: l => allocs (w.alloc (.cells x.1 x.2)) l
theorem allocs_below (w0 : World) : ∀ (l : List (Array Value × TypeId)) (w : World), Below w0.heap.size w0 w -> Below w0.heap.size w0 (allocs w l)
 | [], _, h => h
 | _ :: l, _, h => allocs_below w0 l _ (h.alloc h.size _)
theorem allocs_old : ∀ (l : List (Array Value × TypeId)) (w : World) (b j : Nat), b < w.heap.size -> (allocs w l).cell? ⟨b, j, none⟩ = w.cell? ⟨b, j, none⟩
 | [], _, _, _, _ => rfl
 | x :: l, w, b, j, h => by
  show (allocs (w.alloc _) l).cell? _ = _
  rw [allocs_old l _ b j (by rw [World.size_alloc]; omega), World.cell?_alloc_past _ _ _ (by omega)]
theorem allocs_cell : ∀ (l : List (Array Value × TypeId)) (w : World) (i j : Nat) (h : i < l.length), (allocs w l).cell? ⟨w.heap.size + i, j, none⟩ = ((l[i]'h).1)[j]?
 | [], _, _, _, h => by cases h
 | x :: l, w, 0, j, _ => by
  show (allocs (w.alloc _) l).cell? _ = _
  rw [allocs_old l _ _ j (by rw [World.size_alloc]; omega)];exact World.cell?_alloc_at _ _ _ _ rfl
 | x :: l, w, i + 1, j, h => by
  show (allocs (w.alloc _) l).cell? _ = _
  have := allocs_cell l (w.alloc (.cells x.1 x.2)) i j (by simpa using h);rw [World.size_alloc, show w.heap.size + 1 + i = w.heap.size + (i + 1) by omega] at this;exact this
def rowBlocks (s : Nat) : List (Array Value × TypeId) := [(#[.string ⟨#[58, 45]⟩], 9), (#[.string ⟨#[58, 45]⟩, .string ⟨#[63, 45]⟩], 9), (#[.string ⟨#[59]⟩], 9), (#[.string ⟨#[45, 62]⟩], 9), (#[.string ⟨#[44]⟩], 9), (#[.string ⟨#[92, 43]⟩], 9), (#[.string ⟨#[61]⟩, .string ⟨#[92, 61]⟩, .string ⟨#[61, 61]⟩, .string ⟨#[92, 61, 61]⟩, .string ⟨#[64, 60]⟩, .string ⟨#[64, 61, 60]⟩, .string ⟨#[64, 62]⟩, .string ⟨#[64, 62, 61]⟩, .string ⟨#[61, 46, 46]⟩, .string ⟨#[105, 115]⟩, .string ⟨#[61, 58, 61]⟩, .string ⟨#[61, 92, 61]⟩, .string ⟨#[60]⟩, .string ⟨#[61, 60]⟩, .string ⟨#[62]⟩, .string ⟨#[62, 61]⟩], 9), (#[.string ⟨#[43]⟩, .string ⟨#[45]⟩], 9), (#[.string ⟨#[42]⟩, .string ⟨#[47, 47]⟩, .string ⟨#[114, 101, 109]⟩, .string ⟨#[109, 111, 100]⟩], 9), (#[.string ⟨#[45]⟩], 9), (#[.int .i64 1200, .string ⟨#[120, 102, 120]⟩, .slice (some ⟨s, 0, none⟩) 1 1, .int .i64 1200, .string ⟨#[102, 120]⟩, .slice (some ⟨s + 1, 0, none⟩) 2 2, .int .i64 1100, .string ⟨#[120, 102, 121]⟩, .slice (some ⟨s + 2, 0, none⟩) 1 1, .int .i64 1050, .string ⟨#[120, 102, 121]⟩, .slice (some ⟨s + 3, 0, none⟩) 1 1, .int .i64 1000, .string ⟨#[120, 102, 121]⟩, .slice (some ⟨s + 4, 0, none⟩) 1 1, .int .i64 900, .string ⟨#[102, 121]⟩, .slice (some ⟨s + 5, 0, none⟩) 1 1, .int .i64 700, .string ⟨#[120, 102, 120]⟩, .slice (some ⟨s + 6, 0, none⟩) 16 16, .int .i64 500, .string ⟨#[121, 102, 120]⟩, .slice (some ⟨s + 7, 0, none⟩) 2 2, .int .i64 400, .string ⟨#[121, 102, 120]⟩, .slice (some ⟨s + 8, 0, none⟩) 4 4, .int .i64 200, .string ⟨#[102, 121]⟩, .slice (some ⟨s + 9, 0, none⟩) 1 1], 131)]
theorem rows_laid (w : World) : RowsAt (allocs w (rowBlocks w.heap.size)) (w.heap.size + 10) := by
 intro i hi;have hG : ∀ j, (allocs w (rowBlocks w.heap.size)).cell? ⟨w.heap.size + 10, j, none⟩ = (((rowBlocks w.heap.size)[10]'(by show 10 < 11; decide)).1)[j]? := fun j => allocs_cell _ w 10 j _;have hi' : i < 10 := hi;have hS : ∀ (k : Nat) (hk : k < 11) (l : List ByteArray), ((rowBlocks w.heap.size)[k]'hk).1 = (strs l).toArray -> StrsAt (allocs w (rowBlocks w.heap.size)) (w.heap.size + k) l := fun k hk l he j hj => by
  rw [allocs_cell (rowBlocks w.heap.size) w k j hk, he];unfold strs;simp [hj]
 match i, hi' with
 | 0, _ => exact ⟨w.heap.size, hG 0, hG 1, hG 2, hS 0 (by decide) _ rfl⟩
 | 1, _ => exact ⟨w.heap.size + 1, hG 3, hG 4, hG 5, hS 1 (by decide) _ rfl⟩
 | 2, _ => exact ⟨w.heap.size + 2, hG 6, hG 7, hG 8, hS 2 (by decide) _ rfl⟩
 | 3, _ => exact ⟨w.heap.size + 3, hG 9, hG 10, hG 11, hS 3 (by decide) _ rfl⟩
 | 4, _ => exact ⟨w.heap.size + 4, hG 12, hG 13, hG 14, hS 4 (by decide) _ rfl⟩
 | 5, _ => exact ⟨w.heap.size + 5, hG 15, hG 16, hG 17, hS 5 (by decide) _ rfl⟩
 | 6, _ => exact ⟨w.heap.size + 6, hG 18, hG 19, hG 20, hS 6 (by decide) _ rfl⟩
 | 7, _ => exact ⟨w.heap.size + 7, hG 21, hG 22, hG 23, hS 7 (by decide) _ rfl⟩
 | 8, _ => exact ⟨w.heap.size + 8, hG 24, hG 25, hG 26, hS 8 (by decide) _ rfl⟩
 | 9, _ => exact ⟨w.heap.size + 9, hG 27, hG 28, hG 29, hS 9 (by decide) _ rfl⟩
set_option maxRecDepth 100000 in
set_option maxHeartbeats 4000000 in
theorem ref_Rows (w : World) :
 Calls Tryz.prog 101 #[] w fun e w' => ∃ g, e = .returned (.slice (some ⟨g, 0, none⟩) 10 10) /\ RowsAt w' g /\ Below w.heap.size w w' := by
 have HR := Lib.hid (rows_laid w);have HB := Lib.hid (allocs_below w (rowBlocks w.heap.size) w (Below.refl _ _));go_enter Tryz.func101, Tryz.ntmps101;go_wp2_with fail;go_ret;exact ⟨w.heap.size + 10, rfl, HR.out, HB.out⟩
end Go.Proofs.YtdjejbgokamjeaaGreatDoor
namespace Go.Proofs.YtdjejbgokamjeaaGreatDoor
open Go.RowKit
theorem rows_len : rows10.length = 10 := rfl
theorem find_in (q : Q) (j : Nat) (h : j < q.ns.length) (rest : List R) (name : ByteArray) (n : Int) :
 findR (((q.ns.drop j).map fun x => (⟨q.p, q.k, x⟩ : R)) ++ rest) name n = if ((q.ns[j]'h).toList == name.toList && (q.k.size : Int) == n) then some ⟨q.p, q.k, q.ns[j]'h⟩ else findR (((q.ns.drop (j + 1)).map fun x => (⟨q.p, q.k, x⟩ : R)) ++ rest) name n := by
 rw [List.drop_eq_getElem_cons h];show List.find? _ (_ :: _) = _
 rw [List.find?_cons];show (match ((q.ns[j]'h).toList == name.toList && (q.k.size : Int) == n) with | true => _ | false => _) = _
 cases ((q.ns[j]'h).toList == name.toList && (q.k.size : Int) == n) <;> rfl
theorem flat_drop (k : Nat) (h : k < rows10.length) : (rows10.drop k).flatMap Q.rs = (((rows10[k]'h).ns.drop 0).map fun x => (⟨(rows10[k]'h).p, (rows10[k]'h).k, x⟩ : R)) ++ (rows10.drop (k + 1)).flatMap Q.rs := by
 rw [List.drop_eq_getElem_cons h, List.flatMap_cons]; rfl
theorem ns_len (k : Nat) (h : k < rows10.length) : (rows10[k]'h).ns.length <= 16 := by
 have h1 : rows10.all (fun q => decide (q.ns.length <= 16)) = true := by decide +kernel
 simpa using List.all_eq_true.1 h1 _ (List.getElem_mem h)
set_option maxRecDepth 100000 in
set_option maxHeartbeats 4000000 in
theorem ref_find (name : ByteArray) (n : Int) (w : World) :
 Calls Tryz.prog 77 #[.string name, .int .i64 n] w fun e w' => e = .returned (opAns (findR tabR name n)) /\ Below w.heap.size w w' := by
 have HB := Lib.hid (fun o : Obj => (Below.refl w.heap.size w).alloc (Nat.le_refl _) o);obtain ⟨E, hE⟩ : ∃ E, findR tabR name n = E := ⟨_, rfl⟩;rw [hE];have HE : Hid (findR ((rows10.drop 0).flatMap Q.rs) name n = E) := Lib.hid (by rw [<- hE, <- rows_flat]; rfl);clear hE;go_enter Tryz.func77, Tryz.ntmps77;go_wp2_with fail;refine (ref_Rows _).mono ?_;rintro e w1 ⟨g, rfl, hrows, hb1⟩;have hbw1 := (HB.out _).trans (hb1.mono (by simp));have hs1 := hb1.size;rw [World.size_alloc] at hs1;have hz := op_made hb1;have HZ : Hid (∀ W, Below w1.heap.size w1 W -> W.cell? ⟨w.heap.size, 0, none⟩ = some (.int .i64 0) /\ W.cell? ⟨w.heap.size, 1, none⟩ = some (.string ⟨#[]⟩) /\ W.frozen? ⟨w.heap.size, 0, none⟩ = false /\ W.frozen? ⟨w.heap.size, 1, none⟩ = false) := Lib.hid (fun W hb => by
  obtain ⟨hc, hf⟩ := bcell hb;rw [hc _ _ (by omega), hc _ _ (by omega), hf _ _ (by omega), hf _ _ (by omega)];exact hz)
 have HR := Lib.hid hrows;clear hz hrows hb1;go_wp2_with fail;go_loopw [12] (fun iv wr => ∃ k : Nat, k <= 10 /\ iv = .int .i64 k /\ Below w1.heap.size w1 wr /\ Hid (findR ((rows10.drop k).flatMap Q.rs) name n = E)) (fun iv _ => 10 - (intOf iv).toNat)
 case atStart => exact ⟨0, Nat.zero_le _, rfl, Below.refl _ _, HE⟩
 case round =>
  obtain ⟨k, hk, rfl, hbw, HG⟩ := hrel;obtain ⟨z0, z1, g0, g1⟩ := HZ.out wr hbw;have hws := hbw.size;by_cases hlt : k < 10
  · have hr := (HR.out k hlt).on hbw;have hfl := flat_drop k hlt;have hn16 := ns_len k hlt;generalize rows10[k] = q at *;obtain ⟨h, c0, c1, c2, hst⟩ := hr;have HFL : Hid (findR (((q.ns.drop 0).map fun x => (⟨q.p, q.k, x⟩ : R)) ++ (rows10.drop (k + 1)).flatMap Q.rs) name n = E) := Lib.hid (by rw [<- hfl]; exact HG.out);have HST := Lib.hid hst;have hi0 : (0 : Int) <= (k : Int) := by omega
    have hi1 : (k : Int) < 10 := by omega
    clear hfl hst HG;go_wp2_with fail;go_loop [19] (fun jv => ∃ j : Nat, j <= q.ns.length /\ jv = .int .i64 j /\ Hid (findR (((q.ns.drop j).map fun x => (⟨q.p, q.k, x⟩ : R)) ++ (rows10.drop (k + 1)).flatMap Q.rs) name n = E)) (fun jv => q.ns.length - (intOf jv).toNat)
    case atStart => exact ⟨0, Nat.zero_le _, rfl, HFL⟩
    case round =>
     obtain ⟨j, hj, rfl, HJ⟩ := hrel;by_cases hjl : j < q.ns.length
     · have d0 := HST.out j hjl;have hhl := World.block_lt_of_cell? wr _ d0;have HST2 := Lib.hid (find_in q j hjl ((rows10.drop (k + 1)).flatMap Q.rs) name n);generalize q.ns[j] = x at *;have hj0 : (0 : Int) <= (j : Int) := by omega
       have hj1 : (j : Int) < (q.ns.length : Int) := by omega
       cases e1 : (x.toList == name.toList) with
       | false =>
        have HN : Hid (findR (((q.ns.drop (j + 1)).map fun x => (⟨q.p, q.k, x⟩ : R)) ++ (rows10.drop (k + 1)).flatMap Q.rs) name n = E) := Lib.hid (by rw [<- HJ.out, HST2.out, e1]; rfl);go_wp2_with fail;go_round
        case rel => exact ⟨j + 1, by omega, by go_num, HN⟩
        case measure => simp [intOf]; omega
       | true =>
        cases e2 : ((q.k.size : Int) == n) with
        | false =>
         have HN : Hid (findR (((q.ns.drop (j + 1)).map fun x => (⟨q.p, q.k, x⟩ : R)) ++ (rows10.drop (k + 1)).flatMap Q.rs) name n = E) := Lib.hid (by rw [<- HJ.out, HST2.out, e1, e2]; rfl);go_wp2_with fail;go_round
         case rel => exact ⟨j + 1, by omega, by go_num, HN⟩
         case measure => simp [intOf]; omega
        | true =>
         have HV : Hid (E = some ⟨q.p, q.k, x⟩) := Lib.hid (by rw [<- HJ.out, HST2.out, e1, e2]; rfl);have hlt2 : w.heap.size < wr.heap.size := by omega
         go_wp2_with fail;refine bodyPost_ret (v := .tuple #[.agg #[.int .i64 q.p, .string q.k], .bool true]) (by simp [results, Tryz.results77, go_sem, hlt2, z0, z1]) rfl ⟨by rw [HV.out]; rfl, ?_⟩;have hb3 : Below w.heap.size w wr := hbw1.trans (hbw.mono hbw1.size);have hb4 := (hb3.setCell (p := ⟨w.heap.size, 0, none⟩) (Nat.le_refl _) (.int .i64 q.p)).setCell (p := ⟨w.heap.size, 1, none⟩) (Nat.le_refl _) (.string q.k);exact hb4.alloc hb4.size _
     · have hN := HJ.out;rw [List.drop_eq_nil_of_le (by omega), List.map_nil, List.nil_append] at hN;have HN := Lib.hid hN;clear hN HJ;go_wp2_with fail;go_roundw
       case rel => exact ⟨k + 1, by omega, by go_num, hbw.alloc hws _, HN⟩
       case measure => simp [intOf]; omega
  · have hN := HG.out;rw [List.drop_eq_nil_of_le (by rw [rows_len]; omega)] at hN;have HV : Hid (E = none) := Lib.hid hN.symm;clear hN HG;go_wp2_with fail;refine bodyPost_ret (v := .tuple #[.agg #[.int .i64 0, .string ⟨#[]⟩], .bool false]) (by simp [results, Tryz.results77, go_sem, z0, z1]) rfl ⟨by rw [HV.out]; rfl, ?_⟩;have hb3 : Below w.heap.size w wr := hbw1.trans (hbw.mono hbw1.size);exact (hb3.setCell (Nat.le_refl _) _).setCell (Nat.le_refl _) _
set_option maxHeartbeats 1000000 in
theorem ref_Prefix (name : ByteArray) (w : World) :
 Calls Tryz.prog 99 #[.string name] w fun e w' => e = .returned (opAns (findR tabR name 2)) /\ Below w.heap.size w w' := by
 have HB := Lib.hid (fun o : Obj => (Below.refl w.heap.size w).alloc (Nat.le_refl _) o);have HF := Lib.hid (fun W => ref_find name 2 W);generalize findR tabR name 2 = E at *;cases E with
 | none =>
  unfold opAns at *;go_enter Tryz.func99, Tryz.ntmps99;go_wp2_with fail;refine (HF.out _).mono ?_;rintro e w1 ⟨rfl, hb1⟩;have hbw1 := (HB.out _).trans (hb1.mono (by simp));obtain ⟨z0, z1, g0, g1⟩ := op_made hb1;clear hb1;go_wp2_with fail;exact bodyPost_ret (v := .tuple #[.agg #[.int .i64 0, .string ⟨#[]⟩], .bool false]) (by simp [results, Tryz.results99, go_sem, z0, z1]) rfl ⟨rfl, (hbw1.setCell (Nat.le_refl _) _).setCell (Nat.le_refl _) _⟩
 | some r =>
  unfold opAns at *;go_enter Tryz.func99, Tryz.ntmps99;go_wp2_with fail;refine (HF.out _).mono ?_;rintro e w1 ⟨rfl, hb1⟩;have hbw1 := (HB.out _).trans (hb1.mono (by simp));obtain ⟨z0, z1, g0, g1⟩ := op_made hb1;clear hb1;go_wp2_with fail;exact bodyPost_ret (v := .tuple #[.agg #[.int .i64 r.p, .string r.k], .bool true]) (by simp [results, Tryz.results99, go_sem, z0, z1]) rfl ⟨rfl, (hbw1.setCell (Nat.le_refl _) _).setCell (Nat.le_refl _) _⟩
set_option maxHeartbeats 1000000 in
theorem ref_Infix (name : ByteArray) (w : World) :
 Calls Tryz.prog 55 #[.string name] w fun e w' => e = .returned (opAns (findR tabR name 3)) /\ Below w.heap.size w w' := by
 have HB := Lib.hid (fun o : Obj => (Below.refl w.heap.size w).alloc (Nat.le_refl _) o);have HF := Lib.hid (fun W => ref_find name 3 W);generalize findR tabR name 3 = E at *;cases E with
 | none =>
  unfold opAns at *;go_enter Tryz.func55, Tryz.ntmps55;go_wp2_with fail;refine (HF.out _).mono ?_;rintro e w1 ⟨rfl, hb1⟩;have hbw1 := (HB.out _).trans (hb1.mono (by simp));obtain ⟨z0, z1, g0, g1⟩ := op_made hb1;clear hb1;go_wp2_with fail;exact bodyPost_ret (v := .tuple #[.agg #[.int .i64 0, .string ⟨#[]⟩], .bool false]) (by simp [results, Tryz.results55, go_sem, z0, z1]) rfl ⟨rfl, (hbw1.setCell (Nat.le_refl _) _).setCell (Nat.le_refl _) _⟩
 | some r =>
  unfold opAns at *;go_enter Tryz.func55, Tryz.ntmps55;go_wp2_with fail;refine (HF.out _).mono ?_;rintro e w1 ⟨rfl, hb1⟩;have hbw1 := (HB.out _).trans (hb1.mono (by simp));obtain ⟨z0, z1, g0, g1⟩ := op_made hb1;clear hb1;go_wp2_with fail;exact bodyPost_ret (v := .tuple #[.agg #[.int .i64 r.p, .string r.k], .bool true]) (by simp [results, Tryz.results55, go_sem, z0, z1]) rfl ⟨rfl, (hbw1.setCell (Nat.le_refl _) _).setCell (Nat.le_refl _) _⟩
end Go.Proofs.YtdjejbgokamjeaaGreatDoor
