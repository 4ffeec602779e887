import Derived.Test.YtdjejbgokamjeaaGreatDoorWc
import Derived.RegionTactic
import Derived.BigRegion
namespace Go.Proofs.YtdjejbgokamjeaaGreatDoor
open Go.RowKit
def bufLen (w : World) (b : Nat) : Nat := match w.cell? ⟨b, 1, none⟩ with
 | some (.slice _ n _) => n
 | _ => 0
theorem BW.len {B b : Nat} {l : List UInt8} {w : World} (h : BW B b l w) : bufLen w b = l.length := by
 obtain ⟨p, _, v, hb, hown, _⟩ : ∃ p, Lib.BuilderAt 66 5 B b p (Lib.byteCells l) w := by
  rcases h with h | h
  · exact ⟨_, h⟩
  · exact ⟨_, h⟩
 have c1 : w.cell? ⟨b, 1, none⟩ = some v := by rw [Lib.cell_of_heap hb]; rfl
 rw [Lib.byteCells_length] at hown;unfold bufLen;rw [c1];rcases hown.2 with ⟨rfl, h0⟩ | ⟨g, cap, cur, rfl, _⟩
 · exact h0.symm
 · rfl
def PairT (U : Tm) : Prop := U.kind = 4 /\ U.name.data.toList = [46] /\ U.args.length = 2
theorem pairB_of {U : Tm} (h : PairT U) : pairB U.kind U.name.data.toList U.args.length = true := by
 unfold pairB;rw [decide_eq_true h.1, decide_eq_true h.2.1, decide_eq_true h.2.2];rfl
theorem pairB_no {U : Tm} (h : ¬ PairT U) : pairB U.kind U.name.data.toList U.args.length = false := by
 unfold pairB;cases h1 : decide (U.kind = 4) && (decide (U.name.data.toList = [46]) && decide (U.args.length = 2)) with
 | false => rfl
 | true =>
  simp only [Bool.and_eq_true, decide_eq_true_eq] at h1
  exact absurd ⟨h1.1, h1.2.1, h1.2.2⟩ h
theorem PairT.two {U : Tm} (h : PairT U) : ∃ a d, U.args = [a, d] /\ U.size = 1 + (a.size + d.size) /\ (∀ p, U.wr.txt p = 91 :: (a.wr.txt 999 ++ (d.wr.tail ++ [93]))) /\ U.wr.tail = 44 :: (a.wr.txt 999 ++ d.wr.tail) := by
 obtain ⟨h1, h2, h3⟩ := h;match hl : U.args, h3 with
 | [a, d], _ =>
  refine ⟨a, d, rfl, by rw [U.size_eq, hl]; rfl, fun p => ?_, ?_⟩
  · rw [Tm.wr_eq, Tm.wrs_map, hl, h1, h2]; rfl
  · rw [Tm.wr_eq, Tm.wrs_map, hl, h1, h2]; rfl
theorem tail_not {U : Tm} (h : ¬ PairT U) (hmay : U.may = true) : U.wr.tail = if nilB U.kind U.name.data.toList then [] else 124 :: U.wr.txt 999 := by
 have e : (nilB U.kind U.name.data.toList = true) ↔ (U.kind = 2 /\ U.name.data.toList = [91, 93]) := by unfold nilB; simp
 rw [Tm.wr_eq, Tm.wrs_map];show tailK U.kind U.name.data.toList U.n (U.args.map Tm.wr) = if nilB U.kind U.name.data.toList then [] else 124 :: textK U.kind U.name.data.toList U.n (U.args.map Tm.wr) 999
 unfold tailK;match hl : U.args with
 | [] => dsimp only [List.map]; by_cases h2 : U.kind = 2 /\ U.name.data.toList = [91, 93]; rw [if_pos h2, if_pos (e.2 h2)]; rw [if_neg h2, if_neg (fun h3 => h2 (e.1 h3))]
 | [_] => dsimp only [List.map]; by_cases h2 : U.kind = 2 /\ U.name.data.toList = [91, 93]; rw [if_pos h2, if_pos (e.2 h2)]; rw [if_neg h2, if_neg (fun h3 => h2 (e.1 h3))]
 | [a, d] =>
  dsimp only [List.map];have hn : ¬ (U.kind = 4 /\ U.name.data.toList = [46]) := fun h2 => h ⟨h2.1, h2.2, by rw [hl]; rfl⟩;rw [if_neg hn];by_cases h2 : U.kind = 2 /\ U.name.data.toList = [91, 93]
  · rw [Tm.may_eq, h2.1, hl] at hmay;unfold mayK at hmay;rw [if_neg (by decide), if_pos rfl] at hmay;simp at hmay
  · rw [if_neg (fun h3 => h2 (e.1 h3))]
 | _ :: _ :: _ :: _ => dsimp only [List.map]; by_cases h2 : U.kind = 2 /\ U.name.data.toList = [91, 93]; rw [if_pos h2, if_pos (e.2 h2)]; rw [if_neg h2, if_neg (fun h3 => h2 (e.1 h3))]
def restL (c : UInt8) (U : Tm) : List UInt8 := match U.args with
 | [a, d] => if U.kind = 4 /\ U.name.data.toList = [46] then c :: (a.wr.txt 999 ++ d.wr.tail) else U.wr.tail
 | _ => U.wr.tail
theorem restL_pair {c : UInt8} {U a d : Tm} (h : PairT U) (hl : U.args = [a, d]) : restL c U = c :: (a.wr.txt 999 ++ d.wr.tail) := by
 unfold restL;rw [hl];exact if_pos ⟨h.1, h.2.1⟩
theorem restL_not {c : UInt8} {U : Tm} (h : ¬ PairT U) : restL c U = U.wr.tail := by
 unfold restL;match hl : U.args with
 | [] => rfl
 | [_] => rfl
 | [a, d] => dsimp only; rw [if_neg (fun h2 => h ⟨h2.1, h2.2, by rw [hl]; rfl⟩)]
 | _ :: _ :: _ :: _ => rfl
theorem restL_44 (U : Tm) : restL 44 U = U.wr.tail := by
 by_cases h : PairT U
 · obtain ⟨a, d, hl, _, _, h2⟩ := h.two;rw [restL_pair h hl, h2]
 · exact restL_not h
theorem may_two {U a d : Tm} (h : U.may = true) (h4 : U.kind = 4) (hl : U.args = [a, d]) : a.may = true /\ d.may = true := by
 rw [Tm.may_eq, h4, hl] at h;unfold mayK at h;rw [if_neg (by decide), if_neg (by decide), if_neg (by decide), if_pos rfl] at h;simp only [Bool.and_eq_true, decide_eq_true_eq] at h
 have h2 := h.2.2.2.2;have e : Tm.mays [a, d] = (a.may && (d.may && true)) := rfl;rw [e] at h2;simpa using h2
theorem BW.other {B b : Nat} {l : List UInt8} {w w' : World} (h : BW B b l w) {k : Nat} {C : Array Value} {fz : Nat × Nat} (hk : w.heap[k]? = some (.cells C 24 fz)) (hw : ∀ j, j ≠ k -> w'.heap[j]? = w.heap[j]?) : BW B b l w' := by
 have hkb := h.ne hk (by decide);have go : ∀ p, Lib.BuilderAt 66 5 B b p (Lib.byteCells l) w -> Lib.BuilderAt 66 5 B b p (Lib.byteCells l) w' := by
  rintro p ⟨hB, v, hbk, ⟨hl, h1⟩, hne⟩;refine ⟨hB, v, (hw b (fun e => hkb e.symm)).trans hbk, ⟨hl, ?_⟩, hne⟩;rcases h1 with h0 | ⟨g, cap, cur, hv, hbg, hh, r⟩
  · exact .inl h0
  · refine .inr ⟨g, cap, cur, hv, hbg, (hw g ?_).trans hh, r⟩;rintro rfl;rw [hk] at hh;exact absurd (Obj.cells.inj (Option.some.inj hh)).2.1 (by decide)
 rcases h with h | h
 · exact .inl (go _ h)
 · exact .inr (go _ h)
theorem set4 {w : World} {k : Nat} {a0 a1 a2 a3 v0 v1 v2 v3 : Value} {t : TypeId} (h : w.heap[k]? = some (.cells #[a0, a1, a2, a3] t (0, 0))) :
 (((((w.setCell ⟨k, 0, none⟩ v0).setCell ⟨k, 1, none⟩ v1).setCell ⟨k, 2, none⟩ v2).setCell ⟨k, 3, none⟩ v3).heap[k]? = some (.cells #[v0, v1, v2, v3] t (0, 0))) /\
 ∀ j, j ≠ k -> ((((w.setCell ⟨k, 0, none⟩ v0).setCell ⟨k, 1, none⟩ v1).setCell ⟨k, 2, none⟩ v2).setCell ⟨k, 3, none⟩ v3).heap[j]? = w.heap[j]? := by
 refine ⟨by simp [World.setCell, Array.getElem?_modify, h], fun j hj => ?_⟩;simp [World.setCell, Array.getElem?_modify, Ne.symm hj]
theorem apart_other {b : Nat} {w w1 w2 : World} (h : Apart b w w1) {k : Nat} (hk : w.heap.size <= k) (hw : ∀ j, j ≠ k -> w2.heap[j]? = w1.heap[j]?) : Apart b w w2 := by
 intro j o hj hn ho;have hjl : j < w.heap.size := (Array.getElem?_eq_some_iff.1 hj).1;rw [hw j (by omega)];exact h j o hj hn ho
set_option maxRecDepth 100000 in
set_option maxHeartbeats 4000000 in
theorem wr_list (m : Nat) (IH : WrWithin m) (T : Tm) (ad : Option Addr) (cap : Nat) (w : World) (B b : Nat) (l : List UInt8) (hpair : PairT T) (hm : T.size <= m + 1) (hM : T.size <= 1000000) (hmay : T.may = true) (hin : TmP w (fun k => k < B) T ad cap) (hB : B <= w.heap.size) (hT : ∀ W, Below B w W -> AllT W) (hbw : BW B b l w) (hl : l.length + 1400 * T.size <= 2000000000) (E : List UInt8) (hE : ∀ p, T.wr.txt p = E) :
 Calls Tryz.prog 68 #[.pointer (some ⟨b, 0, none⟩), tmv T ad cap] w (Laid B b w (l ++ E)) := by
 have hlt := hbw.lt;have HB0 := Lib.hid (fun o : Obj => (Below.refl B w).alloc hB o);have HA0 := Lib.hid (fun o : Obj => (Lib.OthersKept.refl 5 (some b) w).alloc o);have HIN := Lib.hid hin;have HBW := Lib.hid hbw;have HT := Lib.hid hT;have HI := Lib.hid IH;unfold tmv;go_enter Tryz.func68, Tryz.ntmps68;go_wp2_with fail;go_step3
 go_wp2_with fail;go_step3
 go_wp2_with fail;go_loopw [4] (fun av wr => ∃ (U : Tm) (uad : Option Addr) (ucap : Nat) (c : UInt8) (acc : List UInt8), av = .string ⟨#[c]⟩ /\ BW B b (l ++ acc) wr /\ Below B w wr /\ Apart b w wr /\ wr.heap[w.heap.size]? = some (.cells #[.int .i64 U.kind, .string U.name, .int .i64 U.n, .slice uad U.args.length ucap] 24 (0, 0)) /\ TmP wr (fun k => k < B) U uad ucap /\ Hid (acc ++ (restL c U ++ [93]) = E) /\ l.length + (acc.length + 1400 * U.size) <= 2000000000 /\ Hid (U.may = true /\ (PairT U \/ (U.size <= m /\ l.length + (acc.length + 1400 * U.size) + 10 <= 2000000000)) /\ U.size <= m + 1 /\ U.size <= T.size)) (fun _ wr => 3000000000 - bufLen wr b)
 case atStart =>
  obtain ⟨x, y, hxy, _, htx, _⟩ := hpair.two;refine ⟨T, ad, cap, 91, [], rfl, by rw [List.append_nil]; exact HBW.out.past _, HB0.out _, HA0.out _, heap_alloc_new w _, HIN.out.onB (HB0.out _), Lib.hid ?_, by rw [List.length_nil]; omega, Lib.hid ⟨hmay, .inl hpair, hm, Nat.le_refl _⟩⟩;rw [<- hE 0, htx, restL_pair hpair hxy];simp
 case round =>
  obtain ⟨U, uad, ucap, c, acc, rfl, hbwr, hblr, hapr, hbx, hinr, HE, hlen, HU⟩ := hrel;have hBr : B <= wr.heap.size := Nat.le_trans hB hblr.size;have hKr : w.heap.size < wr.heap.size := (Array.getElem?_eq_some_iff.1 hbx).1;have hip := wr_isPair U.kind U.n U.name uad U.args.length ucap wr;obtain ⟨d0, d1, d2, d3⟩ := cellx4 hbx;by_cases hp : PairT U
  · rw [pairB_of hp] at hip;obtain ⟨x, y, hxy, hsz, _, _⟩ := hp.two;have hmxy := may_two HU.out.1 hp.1 hxy;have hrest := restL_pair (c := c) hp hxy;rw [hp.2.2] at hip hbx d3;have HR := Lib.hid hrest;have HXY := Lib.hid hxy;clear hxy hrest;have HIP := Lib.hid hip;have HINR := Lib.hid hinr;have HBWR := Lib.hid hbwr;have HBLR := Lib.hid hblr;have HAPR := Lib.hid hapr;have HBX := Lib.hid hbx;clear hip hinr hbwr hblr hapr hbx;have hKb : w.heap.size ≠ b := by omega
    have hKu : w.heap.size < wr.heap.size := hKr;go_wp2_with fail;refine HIP.out.mono ?_;rintro e w1 ⟨rfl, hb1⟩;have hbw1 := HBWR.out.on hb1;have hbl1 := hb1.mono hBr;have hbx1 := (hb1.block w.heap.size hKr).trans HBX.out;have hap1 : Apart b w w1 := apart_on HAPR.out hb1;obtain ⟨f0, f1, f2, f3⟩ := cellx4 hbx1;clear d0 d1 d2 d3 hb1;have hB1 : B <= w1.heap.size := Nat.le_trans hBr hbl1.size;go_wp2_with fail;refine (wr_lay1 B b _ _ _ w1 (by simp) hbw1 (by rw [List.length_append]; show _ + 1 <= _; omega) hB1).mono ?_;rintro e w2 ⟨rfl, hbw2, hbl2, hap2⟩;have hbx2 := apart_keep hap2 hbx1 (by decide) hKb;have hbl3 := hbl1.trans hbl2;have hap3 : Apart b w w2 := hap1.trans hap2;obtain ⟨g0, g1, g2, g3⟩ := cellx4 hbx2;clear f0 f1 f2 f3 hbl1 hap1 hbl2 hap2 hbw1;have hin2 := HINR.out.onB hbl3;have hB2 : B <= w2.heap.size := Nat.le_trans hBr hbl3.size;have hargs := hin2.args;rw [HXY.out] at hargs;obtain ⟨o1, o2, rfl⟩ := hargs.addr' (by simp);obtain ⟨adx, capx, x0, x1, x2, x3, hinx⟩ := hargs.get 0 (by simp);rw [Nat.zero_mul, Nat.add_zero] at x0 x1 x2 x3;change w2.cell? _ = some (.int .i64 x.kind) at x0;change w2.cell? _ = some (.string x.name) at x1;change w2.cell? _ = some (.int .i64 x.n) at x2;change w2.cell? _ = some (.slice adx x.args.length capx) at x3;change TmP w2 _ x adx capx at hinx;have hwi := HI.out x adx capx w2 B b (l ++ acc ++ [c]) 999 (by have := HU.out.2.2.1; omega) (by have := HU.out.2.2.2; omega) hmxy.1 hinx hB2 (fun V hV => HT.out V (HBLR.out.trans (hbl3.trans hV))) hbw2 (by rw [List.length_append, List.length_append, List.length_singleton]; omega);unfold tmv at hwi;have HWI := Lib.hid hwi;have HARGS := Lib.hid hargs;have hxf := (wr_fits x hinx.n64).1 999;have HBUF := Lib.hid HBWR.out.len;clear hwi hinx hargs hin2;go_wp2_with fail;refine HWI.out.mono ?_;rintro e w3 ⟨rfl, hbw3, hbl4, hap4⟩;have hbx3 := apart_keep hap4 hbx2 (by decide) hKb;obtain ⟨f0, f1, f2, f3⟩ := cellx4 hbx3;have hfz : ∀ i, w3.frozen? ⟨w.heap.size, i, none⟩ = false := fun i => Lib.frozen_of_heap hbx3 i;obtain ⟨ady, capy, y0, y1, y2, y3, hiny⟩ := (HARGS.out.onB hbl4).get 1 (by simp);rw [Nat.one_mul] at y0 y1 y2 y3;change w3.cell? _ = some (.int .i64 y.kind) at y0;change w3.cell? _ = some (.string y.name) at y1;change w3.cell? _ = some (.int .i64 y.n) at y2;change w3.cell? _ = some (.slice ady y.args.length capy) at y3;change TmP w3 _ y ady capy at hiny;have HINY := Lib.hid hiny;have HBW3 := Lib.hid hbw3;have HBL3 := Lib.hid (HBLR.out.trans (hbl3.trans hbl4));have HAP3 := Lib.hid (hap3.trans hap4);have HBX3 := Lib.hid hbx3;clear g0 g1 g2 g3 x0 x1 x2 x3 hbw3 hbl3 hbl4 hap3 hap4 hbx3 hbx2 hbx1 hbw2 hiny;go_wp2_with fail;go_region
    have hs4 := set4 (v0 := .int .i64 y.kind) (v1 := .string y.name) (v2 := .int .i64 y.n) (v3 := .slice ady y.args.length capy) HBX3.out;have hBK : B <= w.heap.size := hB;have hbl5 := (((HBL3.out.setCell (p := ⟨w.heap.size, 0, none⟩) hBK (.int .i64 y.kind)).setCell (p := ⟨w.heap.size, 1, none⟩) hBK (.string y.name)).setCell (p := ⟨w.heap.size, 2, none⟩) hBK (.int .i64 y.n)).setCell (p := ⟨w.heap.size, 3, none⟩) hBK (.slice ady y.args.length capy);generalize ((((w3.setCell ⟨w.heap.size, 0, none⟩ (.int .i64 y.kind)).setCell ⟨w.heap.size, 1, none⟩ (.string y.name)).setCell ⟨w.heap.size, 2, none⟩ (.int .i64 y.n)).setCell ⟨w.heap.size, 3, none⟩ (.slice ady y.args.length capy)) = W5 at *;have hbw5 : BW B b (l ++ (acc ++ c :: x.wr.txt 999)) W5 := by
     have h1 := HBW3.out;have e1 : l ++ acc ++ [c] ++ x.wr.txt 999 = l ++ (acc ++ c :: x.wr.txt 999) := by simp
     rw [e1] at h1;exact h1.other HBX3.out hs4.2
    have hap5 := apart_other HAP3.out (Nat.le_refl _) hs4.2;have hin5 := HINY.out.kept (fun k hk _ => hs4.2 k (by omega)) (fun _ h _ => h);have hend : (acc ++ c :: x.wr.txt 999) ++ (restL 44 y ++ [93]) = E := by
     rw [<- HE.out, HR.out, restL_44]; simp
    have hbf := hbw5.len;have hbox5 := hs4.1;have hln5 : (acc ++ c :: x.wr.txt 999).length = acc.length + ((x.wr.txt 999).length + 1) := by simp
    have hll5 : (l ++ (acc ++ c :: x.wr.txt 999)).length = l.length + (acc.length + ((x.wr.txt 999).length + 1)) := by simp
    have hll6 : (l ++ acc).length = l.length + acc.length := by simp
    clear hs4 f0 f1 f2 f3 hfz y0 y1 y2 y3;go_wp2_with fail;go_roundw
    case rel =>
     exact ⟨y, ady, capy, 44, acc ++ c :: x.wr.txt 999, rfl, hbw5, hbl5.drew, hap5, hbox5, hin5.kept (fun _ _ _ => rfl) (fun _ h _ => h), Lib.hid hend, by rw [hln5]; omega, Lib.hid ⟨hmxy.2, .inr ⟨by have := HU.out.2.2.1; omega, by rw [hln5]; omega⟩, by have := HU.out.2.2.1; omega, by have := HU.out.2.2.2; omega⟩⟩
    case measure =>
     show 3000000000 - bufLen W5 b < 3000000000 - bufLen wr b
     rw [hbf, HBUF.out, hll5, hll6];omega
  · rw [pairB_no hp] at hip;have hie := fun W => wr_isEmptyList U.kind U.n U.name uad U.args.length ucap W;have htl := tail_not hp HU.out.1;have hrest := restL_not (c := c) hp;obtain ⟨hUm, hU10⟩ := (HU.out.2.1).resolve_left hp;have hKb : w.heap.size ≠ b := by omega
    have HIP := Lib.hid hip;have HINR := Lib.hid hinr;have HBWR := Lib.hid hbwr;have HBLR := Lib.hid hblr;have HAPR := Lib.hid hapr;have HBX := Lib.hid hbx;cases hnb : nilB U.kind U.name.data.toList with
    | true =>
     rw [hnb] at hie htl;rw [if_pos rfl] at htl;have hend : l ++ acc ++ [93] = l ++ E := by rw [<- HE.out, hrest, htl]; simp
     have HEND := Lib.hid hend;have HIE := Lib.hid hie;clear hip hinr hbwr hblr hapr hbx hie htl hrest hend hnb;go_wp2_with fail;refine HIP.out.mono ?_;rintro e w1 ⟨rfl, hb1⟩;have hbw1 := HBWR.out.on hb1;have hbl1 := hb1.mono hBr;have hbx1 := (hb1.block w.heap.size hKr).trans HBX.out;have hap1 : Apart b w w1 := apart_on HAPR.out hb1;obtain ⟨f0, f1, f2, f3⟩ := cellx4 hbx1;clear d0 d1 d2 d3 hb1;go_wp2_with fail;refine (HIE.out _).mono ?_;rintro e w2 ⟨rfl, hb2⟩;have hbw2 := hbw1.on hb2;have hbl2 := HBLR.out.trans (hbl1.trans (hb2.mono (Nat.le_trans hBr hbl1.size)));have hap2 : Apart b w w2 := apart_on hap1 hb2;clear hb2 f0 f1 f2 f3 hbx1 hbw1 hbl1 hap1;go_wp2_with fail;refine (wr_lay1 B b _ _ _ w2 (by simp) hbw2 (by rw [List.length_append]; show _ + 1 <= _; omega) (Nat.le_trans hB hbl2.size)).mono ?_;rintro e w3 ⟨rfl, hbw3, hbl3, hap3⟩;have hbl4 := hbl2.trans hbl3;have hap4 := hap2.trans hap3;have hbw4 : BW B b (l ++ E) w3 := by rw [<- HEND.out]; exact hbw3
     clear hbw2 hbl2 hap2 hbw3 hbl3 hap3;go_wp2_with fail;go_end0;exact ⟨rfl, hbw4, hbl4, hap4⟩
    | false =>
     rw [hnb] at hie htl;rw [if_neg (by decide)] at htl;have hend : (l ++ acc ++ [124] ++ U.wr.txt 999) ++ [93] = l ++ E := by rw [<- HE.out, hrest, htl]; simp
     have hxf := (wr_fits U hinr.n64).1 999;have hl7 : (l ++ acc ++ [124] ++ U.wr.txt 999).length = l.length + acc.length + 1 + (U.wr.txt 999).length := by simp; omega
     have hwi := fun (W : World) (hW : Below B wr W) (hbW : BW B b (l ++ acc ++ [124]) W) => HI.out U uad ucap W B b (l ++ acc ++ [124]) 999 hUm (by have := HU.out.2.2.2; omega) HU.out.1 (HINR.out.onB hW) (Nat.le_trans hBr hW.size) (fun V hV => HT.out V (HBLR.out.trans (hW.trans hV))) hbW (by rw [List.length_append, List.length_append, List.length_singleton]; have := U.size_pos; omega);unfold tmv at hwi;have HWI := Lib.hid hwi;have HEND := Lib.hid hend;have HIE := Lib.hid hie;clear hip hinr hbwr hblr hapr hbx hie htl hrest hend hnb hwi;go_wp2_with fail;refine HIP.out.mono ?_;rintro e w1 ⟨rfl, hb1⟩;have hbw1 := HBWR.out.on hb1;have hbl1 := hb1.mono hBr;have hbx1 := (hb1.block w.heap.size hKr).trans HBX.out;have hap1 : Apart b w w1 := apart_on HAPR.out hb1;obtain ⟨f0, f1, f2, f3⟩ := cellx4 hbx1;have hK1 : w.heap.size < w1.heap.size := Nat.lt_of_lt_of_le hKr hb1.size;clear d0 d1 d2 d3 hb1;go_wp2_with fail;refine (HIE.out _).mono ?_;rintro e w2 ⟨rfl, hb2⟩;have hbw2 := hbw1.on hb2;have hbl2 := hbl1.trans (hb2.mono (Nat.le_trans hBr hbl1.size));have hap2 : Apart b w w2 := apart_on hap1 hb2;have hbx2 := (hb2.block w.heap.size hK1).trans hbx1;have hB2 : B <= w2.heap.size := Nat.le_trans hBr hbl2.size;clear hb2 f0 f1 f2 f3 hbx1 hbw1 hbl1 hap1;go_wp2_with fail;refine (wr_lay1 B b _ _ _ w2 (by simp) hbw2 (by rw [List.length_append]; show _ + 1 <= _; omega) hB2).mono ?_;rintro e w3 ⟨rfl, hbw3, hbl3, hap3⟩;have hbx3 := apart_keep hap3 hbx2 (by decide) hKb;have hbl4 := hbl2.trans hbl3;have hap4 : Apart b w w3 := hap2.trans hap3;obtain ⟨f0, f1, f2, f3⟩ := cellx4 hbx3;clear hbl2 hap2 hbl3 hap3 hbw2 hbx2;go_wp2_with fail;refine (HWI.out _ hbl4 hbw3).mono ?_;rintro e w5 ⟨rfl, hbw5, hbl5, hap5⟩;have hbl6 := hbl4.trans hbl5;have hap6 : Apart b w w5 := hap4.trans hap5;clear hbl4 hap4 hbl5 hap5 hbw3 f0 f1 f2 f3 hbx3;go_wp2_with fail;refine (wr_lay1 B b _ _ _ w5 (by simp) hbw5 (by rw [hl7]; show _ + 1 <= _; omega) (Nat.le_trans hBr hbl6.size)).mono ?_;rintro e w7 ⟨rfl, hbw7, hbl7, hap7⟩;have hbl8 := HBLR.out.trans (hbl6.trans hbl7);have hap8 := hap6.trans hap7;have hbw8 : BW B b (l ++ E) w7 := by rw [<- HEND.out]; exact hbw7
     clear hbw5 hbl6 hap6 hbw7 hbl7 hap7;go_wp2_with fail;go_end0;exact ⟨rfl, hbw8, hbl8, hap8⟩
end Go.Proofs.YtdjejbgokamjeaaGreatDoor
