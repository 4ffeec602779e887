import Derived.Test.YtinefdlkajnomaaGreatDoorOpsAC
import Derived.Laws.AppendOwn
import Derived.Laws.OwnMore
import Derived.Deep.AppendLies
import Derived.Laws.AppendOwnNone
namespace Go.Proofs.YtinefdlkajnomaaGreatDoor
open Go.RowKit
def strs (l : List ByteArray) : List Value := l.map Value.string
theorem strs_append (a b : List ByteArray) : strs (a ++ b) = strs a ++ strs b := List.map_append
def OwnStrs (B : Nat) (w : World) (v : Value) (l : List ByteArray) : Prop := w.ownsRow B 9 1 v l.length (strs l)
theorem infoStr : (Tryz.prog.info? 9).map (fun i => (i.zero, i.size, i.bytes)) = some (some (.string ⟨#[]⟩), 1, 16) := by kernel_rfl
theorem OwnStrs.below {B : Nat} {w w' : World} {v : Value} {l : List ByteArray} (h : OwnStrs B w v l) (hb : Below w.heap.size w w') : OwnStrs B w' v l := by
 obtain ⟨hl, h0 | ⟨g, cap, cur, hv, hbg, hh, r⟩⟩ := h
 · exact ⟨hl, .inl h0⟩
 · exact ⟨hl, .inr ⟨g, cap, cur, hv, hbg, (hb.block g (Array.getElem?_eq_some_iff.1 hh).1).trans hh, r⟩⟩
theorem OwnStrs.mono {B B' : Nat} {w : World} {v : Value} {l : List ByteArray} (h : OwnStrs B w v l) (hB : B' <= B) : OwnStrs B' w v l := by
 obtain ⟨hl, h0 | ⟨g, cap, cur, hv, hbg, r⟩⟩ := h
 · exact ⟨hl, .inl h0⟩
 · exact ⟨hl, .inr ⟨g, cap, cur, hv, Nat.le_trans hB hbg, r⟩⟩
theorem OwnStrs.snoc {B : Nat} {w : World} {v : Value} {l l2 : List ByteArray} {n : Nat} {xs : List Value} (h : w.ownsRow B 9 1 v n xs) (hn : n = (l ++ l2).length) (hx : xs = strs l ++ strs l2) : OwnStrs B w v (l ++ l2) := by
 unfold OwnStrs;rw [strs_append, <- hn, <- hx];exact h
theorem OwnStrs.view {B : Nat} {w : World} {v : Value} {l : List ByteArray} (h : OwnStrs B w v l) : ∃ ad cap, v = .slice ad l.length cap /\ l.length <= cap /\ cap <= maxLen /\ ∀ j (hj : j < l.length), ∃ g, ad = some ⟨g, 0, none⟩ /\ w.cell? ⟨g, j, none⟩ = some (.string l[j]) := by
 have h9 := h;obtain ⟨hl, ⟨rfl, h0⟩ | ⟨g, cap, cur, rfl, hbg, hh, hnc, hcm, r⟩⟩ := h
 · refine ⟨none, 0, by rw [h0], by omega, Nat.zero_le _, fun j hj => by omega⟩
 · refine ⟨some ⟨g, 0, none⟩, cap, rfl, hnc, hcm, fun j hj => ⟨g, rfl, ?_⟩⟩;rw [World.ownsRow.cellAt h9 j (by omega)];unfold strs;rw [List.getElem?_map, List.getElem?_eq_getElem hj];rfl
def hasS (l : List ByteArray) (n : ByteArray) : Bool := l.any fun k => n.toList == k.toList
def idxGo (n : ByteArray) : List ByteArray -> Int -> Int
 | [], _ => -1
 | k :: l, i => if n.toList == k.toList then i else idxGo n l (i + 1)
theorem idxGo_drop (n : ByteArray) (l : List ByteArray) (k : Nat) (h : k < l.length) : idxGo n (l.drop k) k = if n.toList == (l[k]'h).toList then (k : Int) else idxGo n (l.drop (k + 1)) ((k + 1 : Nat) : Int) := by
 rw [List.drop_eq_getElem_cons h]; rfl
set_option maxHeartbeats 2000000 in
theorem slices_Index (l : List ByteArray) (n : ByteArray) (v : Value) (B : Nat) (w : World) (h : OwnStrs B w v l) (hlen : l.length <= 1000000000) :
 Calls Tryz.prog 175 #[v, .string n] w fun e w' => e = .returned (.int .i64 (idxGo n l 0)) /\ w = w' := by
 obtain ⟨ad, cap, rfl, hlc, _, hcell⟩ := h.view;obtain ⟨E, hE⟩ : ∃ E, idxGo n l 0 = E := ⟨_, rfl⟩;rw [hE];have HE := Lib.hid hE;have HC := Lib.hid hcell;clear h hE hcell;go_enter Tryz.func175, Tryz.ntmps175;go_wp2_with fail;go_loop [8] (fun iv => ∃ k : Nat, k <= l.length /\ iv = .int .i64 k /\ Hid (idxGo n (l.drop k) k = E)) (fun iv => l.length - (intOf iv).toNat)
 case atStart => exact ⟨0, Nat.zero_le _, rfl, HE⟩
 case round =>
  obtain ⟨k, hk, rfl, HB⟩ := hrel;by_cases hlt : k < l.length
  · obtain ⟨g, rfl, c0⟩ := HC.out k hlt;have hsn := Lib.hid (idxGo_drop n l k hlt);generalize l[k] = x at *;cases hx : (n.toList == x.toList) with
    | true =>
     have HR : Hid (E = k) := Lib.hid (HB.out.symm.trans (by rw [hsn.out, hx]; rfl));go_wp2_with fail;go_ret;exact ⟨ret_int HR.out.symm, rfl⟩
    | false =>
     have HN : Hid (idxGo n (l.drop (k + 1)) ((k + 1 : Nat) : Int) = E) := Lib.hid (by rw [<- HB.out, hsn.out, hx]; rfl);go_wp2_with fail;go_round
     case rel => exact ⟨k + 1, by omega, by go_num, HN⟩
     case measure => simp [intOf]; omega
  · have hR := HB.out;rw [List.drop_eq_nil_of_le (by omega)] at hR;have HR : Hid (E = -1) := Lib.hid hR.symm;clear hR HB;go_wp2_with fail;go_ret;exact ⟨ret_int HR.out.symm, rfl⟩
def namesGo : List ByteArray -> List ByteArray -> List ByteArray
 | out, [] => out
 | out, n :: l => if hasS out n then namesGo out l else namesGo (out ++ [n]) l
def namesL : List ByteArray := namesGo [] (tabR.map R.n)
attribute [local go_sem] tabCells_size Tryz.zeroCells180_size tabCells_ne Tryz.zeroCells180_ne store_tab
end Go.Proofs.YtinefdlkajnomaaGreatDoor
namespace Go.Proofs.YtinefdlkajnomaaGreatDoor
open Go.RowKit
structure Q where
 p : Int
 k : ByteArray
 ns : List ByteArray
def rows10 : List Q := [⟨1200, ⟨#[120, 102, 120]⟩, [⟨#[58, 45]⟩]⟩, ⟨1200, ⟨#[102, 120]⟩, [⟨#[58, 45]⟩, ⟨#[63, 45]⟩]⟩, ⟨1100, ⟨#[120, 102, 121]⟩, [⟨#[59]⟩]⟩, ⟨1050, ⟨#[120, 102, 121]⟩, [⟨#[45, 62]⟩]⟩, ⟨1000, ⟨#[120, 102, 121]⟩, [⟨#[44]⟩]⟩, ⟨900, ⟨#[102, 121]⟩, [⟨#[92, 43]⟩]⟩, ⟨700, ⟨#[120, 102, 120]⟩, [⟨#[61]⟩, ⟨#[92, 61]⟩, ⟨#[61, 61]⟩, ⟨#[92, 61, 61]⟩, ⟨#[64, 60]⟩, ⟨#[64, 61, 60]⟩, ⟨#[64, 62]⟩, ⟨#[64, 62, 61]⟩, ⟨#[61, 46, 46]⟩, ⟨#[105, 115]⟩, ⟨#[61, 58, 61]⟩, ⟨#[61, 92, 61]⟩, ⟨#[60]⟩, ⟨#[61, 60]⟩, ⟨#[62]⟩, ⟨#[62, 61]⟩]⟩, ⟨500, ⟨#[121, 102, 120]⟩, [⟨#[43]⟩, ⟨#[45]⟩]⟩, ⟨400, ⟨#[121, 102, 120]⟩, [⟨#[42]⟩, ⟨#[47, 47]⟩, ⟨#[114, 101, 109]⟩, ⟨#[109, 111, 100]⟩]⟩, ⟨200, ⟨#[102, 121]⟩, [⟨#[45]⟩]⟩]
def Q.rs (q : Q) : List R := q.ns.map fun n => ⟨q.p, q.k, n⟩
def StrsAt (w : World) (h : Nat) (l : List ByteArray) : Prop := ∀ j (hj : j < l.length), w.cell? ⟨h, j, none⟩ = some (.string (l[j]'hj))
def RowAt (w : World) (g o : Nat) (q : Q) : Prop := ∃ h, w.cell? ⟨g, o, none⟩ = some (.int .i64 q.p) /\ w.cell? ⟨g, o + 1, none⟩ = some (.string q.k) /\ w.cell? ⟨g, o + 2, none⟩ = some (.slice (some ⟨h, 0, none⟩) q.ns.length q.ns.length) /\ StrsAt w h q.ns
def RowsAt (w : World) (g : Nat) : Prop := ∀ i (hi : i < rows10.length), RowAt w g (i * 3) (rows10[i]'hi)
theorem StrsAt.on {w w1 : World} {h : Nat} {l : List ByteArray} (hs : StrsAt w h l) (hb : Below w.heap.size w w1) : StrsAt w1 h l := fun j hj =>
 (hb.cell (p := ⟨h, j, none⟩) (World.block_lt_of_cell? w _ (hs j hj))).trans (hs j hj)
theorem RowAt.on {w w1 : World} {g o : Nat} {q : Q} (hs : RowAt w g o q) (hb : Below w.heap.size w w1) : RowAt w1 g o q := by
 obtain ⟨h, c0, c1, c2, hn⟩ := hs;exact ⟨h, (hb.cell (p := ⟨g, o, none⟩) (World.block_lt_of_cell? w _ c0)).trans c0, (hb.cell (p := ⟨g, o + 1, none⟩) (World.block_lt_of_cell? w _ c1)).trans c1, (hb.cell (p := ⟨g, o + 2, none⟩) (World.block_lt_of_cell? w _ c2)).trans c2, hn.on hb⟩
def allocs (w : World) : List (Array Value × TypeId) -> World
 | [] => w
 | x :: l => allocs (w.alloc (.cells x.1 x.2)) l
def rowBlocks (s : Nat) : List (Array Value × TypeId) := [(#[.string ⟨#[58, 45]⟩], 9), (#[.string ⟨#[58, 45]⟩, .string ⟨#[63, 45]⟩], 9), (#[.string ⟨#[59]⟩], 9), (#[.string ⟨#[45, 62]⟩], 9), (#[.string ⟨#[44]⟩], 9), (#[.string ⟨#[92, 43]⟩], 9), (#[.string ⟨#[61]⟩, .string ⟨#[92, 61]⟩, .string ⟨#[61, 61]⟩, .string ⟨#[92, 61, 61]⟩, .string ⟨#[64, 60]⟩, .string ⟨#[64, 61, 60]⟩, .string ⟨#[64, 62]⟩, .string ⟨#[64, 62, 61]⟩, .string ⟨#[61, 46, 46]⟩, .string ⟨#[105, 115]⟩, .string ⟨#[61, 58, 61]⟩, .string ⟨#[61, 92, 61]⟩, .string ⟨#[60]⟩, .string ⟨#[61, 60]⟩, .string ⟨#[62]⟩, .string ⟨#[62, 61]⟩], 9), (#[.string ⟨#[43]⟩, .string ⟨#[45]⟩], 9), (#[.string ⟨#[42]⟩, .string ⟨#[47, 47]⟩, .string ⟨#[114, 101, 109]⟩, .string ⟨#[109, 111, 100]⟩], 9), (#[.string ⟨#[45]⟩], 9), (#[.int .i64 1200, .string ⟨#[120, 102, 120]⟩, .slice (some ⟨s, 0, none⟩) 1 1, .int .i64 1200, .string ⟨#[102, 120]⟩, .slice (some ⟨s + 1, 0, none⟩) 2 2, .int .i64 1100, .string ⟨#[120, 102, 121]⟩, .slice (some ⟨s + 2, 0, none⟩) 1 1, .int .i64 1050, .string ⟨#[120, 102, 121]⟩, .slice (some ⟨s + 3, 0, none⟩) 1 1, .int .i64 1000, .string ⟨#[120, 102, 121]⟩, .slice (some ⟨s + 4, 0, none⟩) 1 1, .int .i64 900, .string ⟨#[102, 121]⟩, .slice (some ⟨s + 5, 0, none⟩) 1 1, .int .i64 700, .string ⟨#[120, 102, 120]⟩, .slice (some ⟨s + 6, 0, none⟩) 16 16, .int .i64 500, .string ⟨#[121, 102, 120]⟩, .slice (some ⟨s + 7, 0, none⟩) 2 2, .int .i64 400, .string ⟨#[121, 102, 120]⟩, .slice (some ⟨s + 8, 0, none⟩) 4 4, .int .i64 200, .string ⟨#[102, 121]⟩, .slice (some ⟨s + 9, 0, none⟩) 1 1], 166)]
end Go.Proofs.YtinefdlkajnomaaGreatDoor
namespace Go.Proofs.YtinefdlkajnomaaGreatDoor
open Go.RowKit
end Go.Proofs.YtinefdlkajnomaaGreatDoor
