import Derived.Test.YtdjejbgokamjeaaGreatDoorWriteF
import Derived.Test.YtdjejbgokamjeaaGreatDoorShelf6
import Derived.Laws.RangeAny
import Derived.Test.YtdjejbgokamjeaaGreatDoorTermMk
import Derived.Deep.RegionHeld3
namespace Go.Proofs.YtdjejbgokamjeaaGreatDoor
open Go.RowKit
theorem comp_pair {T : Tm} (h : PairT T) (p : Int) : compK T.name.data.toList (T.args.map Tm.wr) p = T.wr.txt 999 := by
 obtain ⟨a, d, hl, _, h1, _⟩ := h.two;rw [h1, hl, h.2.1];rfl
theorem comp_curly {T x : Tm} (hs : T.name.data.toList = [123, 125]) (hl : T.args = [x]) (p : Int) : compK T.name.data.toList (T.args.map Tm.wr) p = 123 :: (x.wr.txt 1200 ++ [125]) := by
 rw [hs, hl]; rfl
theorem comp_infix {T x y : Tm} {o : R} (hk : T.kind = 4) (hp : ¬ PairT T) (hl : T.args = [x, y]) (ho : opR T.name.data.toList 3 = some o) (p : Int) : compK T.name.data.toList (T.args.map Tm.wr) p = infixK T.name.data.toList o x.wr y.wr p := by
 rw [hl];show (if T.name.data.toList = [46] then _ else _) = _
 rw [if_neg (fun h => hp ⟨hk, h, by rw [hl]; rfl⟩), ho]
theorem comp_call {T : Tm} (hk : T.kind = 4) (hp : ¬ PairT T) (h1 : ¬ (T.name.data.toList = [123, 125] /\ T.args.length = 1)) (h2 : T.args.length = 2 -> opR T.name.data.toList 3 = none) (p : Int) : compK T.name.data.toList (T.args.map Tm.wr) p = callK T.name.data.toList (T.args.map Tm.wr) := by
 match hl : T.args with
 | [] => rfl
 | [x] =>
  show (if T.name.data.toList = [123, 125] then _ else _) = _
  rw [if_neg (fun h => h1 ⟨h, by rw [hl]; rfl⟩)]
 | [x, y] =>
  show (if T.name.data.toList = [46] then _ else _) = _
  rw [if_neg (fun h => hp ⟨hk, h, by rw [hl]; rfl⟩), h2 (by rw [hl]; rfl)]
 | _ :: _ :: _ :: _ => rfl
theorem may_comps {T : Tm} (h : T.may = true) (h4 : T.kind = 4) : Tm.mays T.args = true /\ 1 <= T.args.length /\ T.args.length <= 16 := by
 rw [Tm.may_eq, h4] at h;unfold mayK at h;rw [if_neg (by decide), if_neg (by decide), if_neg (by decide), if_pos rfl] at h;simp only [Bool.and_eq_true, decide_eq_true_eq] at h
 exact ⟨h.2.2.2.2, h.2.2.1, h.2.2.2.1⟩
set_option maxRecDepth 100000 in
set_option maxHeartbeats 4000000 in
theorem wr_compA (m : Nat) (IH : WrWithin m) (T : Tm) (ad : Option Addr) (cap : Nat) (w : World) (B b : Nat) (l : List UInt8) (p : Int) (hk4 : T.kind = 4) (hm : T.size <= m + 1) (hM : T.size <= 1000000) (hmay : T.may = true) (hin : TmP w (fun k => k < B) T ad cap) (hB : B <= w.heap.size) (hT : ∀ W, Below B w W -> AllT W) (hbw : BW B b l w) (hl : l.length + 1400 * T.size <= 2000000000) (hp : PairT T) :
 Calls Tryz.prog 45 #[.pointer (some ⟨b, 0, none⟩), tmv T ad cap, .int .i64 p] w (Laid B b w (l ++ compK T.name.data.toList (T.args.map Tm.wr) p)) := by
 have hlt := hbw.lt;have hip := fun W => wr_isPair T.kind T.n T.name ad T.args.length cap W;have hif := fun W => ops_Infix T.name W;rw [<- opR_name] at hif;obtain ⟨hmays, hlen1, hlen16⟩ := may_comps hmay hk4;have HIN := Lib.hid hin;have HT := Lib.hid hT;have HBW := Lib.hid hbw;have HMY := Lib.hid hmays;have HIH := Lib.hid IH;have HB0 := Lib.hid (fun o : Obj => (Below.refl B w).alloc hB o);have HA0 := Lib.hid (fun o : Obj => (Lib.OthersKept.refl 5 (some b) w).alloc o);rw [pairB_of hp] at hip;rw [comp_pair hp];have hli := fun (W : World) (hW : Below B w W) (hbW : BW B b l W) => wr_list m IH T ad cap W B b l hp hm hM hmay (hin.onB hW) (Nat.le_trans hB hW.size) (fun V hV => hT V (hW.trans hV)) hbW hl (T.wr.txt 999) (fun q => by obtain ⟨_, _, _, _, h1, _⟩ := hp.two; rw [h1, h1]);unfold tmv at hli;obtain ⟨P, K, ea⟩ := opAns_two (opR T.name.data.toList 3);rw [ea] at hif;generalize (opR T.name.data.toList 3).isSome = BB at *;have HLI := Lib.hid hli;have HIF := Lib.hid hif;have HIP := Lib.hid hip;unfold tmv;rw [hk4] at HLI HIP ⊢;rw [hp.2.2] at HLI HIP ⊢;clear hli ea hp;clear hif hip hin hT hbw hmays hmay IH hk4;go_enter Tryz.func45, Tryz.ntmps45;go_wp2_with fail;refine (HIF.out _).mono ?_;rintro e w1 ⟨rfl, hb1⟩;have hX1 := (hb1.block w.heap.size (by simp)).trans (heap_alloc_new w _);have hB1 := (HB0.out _).trans (hb1.mono (by simp; omega));have hA1 := apart_on (HA0.out _) hb1;have hW1 := (HBW.out.past _).on hb1;have hs1 : w.heap.size < w1.heap.size := by have := hb1.size; rw [World.size_alloc] at this; omega
 obtain ⟨d0, d1, d2, d3⟩ := cellx4 hX1;clear hb1;go_wp2_with fail;clear d0 d1 d2 d3;have hX2 := (Lib.alloc_old w1 (.cells #[.int .i64 P, .string K] 93) _ hs1).trans hX1;have hO2 := heap_alloc_new w1 (.cells #[.int .i64 P, .string K] 93);have hB2 := hB1.alloc (Nat.le_trans hB hB1.size) (.cells #[.int .i64 P, .string K] 93);have hA2 := hA1.alloc (.cells #[.int .i64 P, .string K] 93);have hW2 := hW1.past (.cells #[.int .i64 P, .string K] 93);have hs2 : w1.heap.size < (w1.alloc (.cells #[.int .i64 P, .string K] 93)).heap.size := by simp
 generalize w1.alloc (.cells #[.int .i64 P, .string K] 93) = w2 at *;obtain ⟨d0, d1, d2, d3⟩ := cellx4 hX2;obtain ⟨e0, e1⟩ := cellx2 hO2;clear hX1 hB1 hA1 hW1;go_wp2_with fail;refine (HIP.out _).mono ?_;rintro e w3 ⟨rfl, hb3⟩;have hX3 := (hb3.block w.heap.size (by omega)).trans hX2;have hO3 := (hb3.block w1.heap.size hs2).trans hO2;have hB3 := hB2.trans (hb3.mono (Nat.le_trans hB hB2.size));have hA3 := apart_on hA2 hb3;have hW3 := hW2.on hb3;have hne0 : w.heap.size ≠ b := by omega
 have hne1 : w1.heap.size ≠ b := by omega
 have hBw := Nat.le_trans hB hB3.size;clear d0 d1 d2 d3 e0 e1 hb3 hX2 hO2 hB2 hA2 hW2;obtain ⟨d0, d1, d2, d3⟩ := cellx4 hX3;obtain ⟨e0, e1⟩ := cellx2 hO3;go_wp2_with fail;refine (HLI.out _ hB3 hW3).mono ?_;rintro e w4 ⟨rfl, hbw4, hbl4, hap4⟩;have hbl5 := hB3.trans hbl4;have hap5 := hA3.trans hap4;clear hbl4 hap4 d0 d1 d2 d3 e0 e1 hX3 hO3 hB3 hA3 hW3;go_wp2_with fail;go_end0;exact ⟨rfl, hbw4, hbl5, hap5⟩
set_option maxRecDepth 100000 in
set_option maxHeartbeats 4000000 in
theorem wr_compB (m : Nat) (IH : WrWithin m) (T : Tm) (ad : Option Addr) (cap : Nat) (w : World) (B b : Nat) (l : List UInt8) (p : Int) (hk4 : T.kind = 4) (hm : T.size <= m + 1) (hM : T.size <= 1000000) (hmay : T.may = true) (hin : TmP w (fun k => k < B) T ad cap) (hB : B <= w.heap.size) (hT : ∀ W, Below B w W -> AllT W) (hbw : BW B b l w) (hl : l.length + 1400 * T.size <= 2000000000) (hs : T.name.data.toList = [123, 125]) (hl1 : T.args.length = 1) :
 Calls Tryz.prog 45 #[.pointer (some ⟨b, 0, none⟩), tmv T ad cap, .int .i64 p] w (Laid B b w (l ++ compK T.name.data.toList (T.args.map Tm.wr) p)) := by
 have hlt := hbw.lt;have hip := fun W => wr_isPair T.kind T.n T.name ad T.args.length cap W;have hif := fun W => ops_Infix T.name W;rw [<- opR_name] at hif;obtain ⟨hmays, hlen1, hlen16⟩ := may_comps hmay hk4;have HIN := Lib.hid hin;have HT := Lib.hid hT;have HBW := Lib.hid hbw;have HMY := Lib.hid hmays;have HIH := Lib.hid IH;have HB0 := Lib.hid (fun o : Obj => (Below.refl B w).alloc hB o);have HA0 := Lib.hid (fun o : Obj => (Lib.OthersKept.refl 5 (some b) w).alloc o);obtain ⟨x, hx⟩ : ∃ x, T.args = [x] := by
  match h : T.args, hl1 with
  | [x], _ => exact ⟨x, rfl⟩
 have hsz : T.size = 1 + x.size := by rw [T.size_eq, hx]; rfl
 have hmx : x.may = true := by rw [hx] at hmays; have e : Tm.mays [x] = (x.may && true) := rfl; rw [e] at hmays; simpa using hmays
 have hp : ¬ PairT T := fun h => by have := h.2.1; rw [hs] at this; cases this
 rw [pairB_no hp] at hip;rw [comp_curly hs hx];have es : T.name = ⟨#[123, 125]⟩ := by apply ByteArray.ext; rw [<- Array.toList_inj]; exact hs
 have en : opR [123, 125] 3 = none := by decide +kernel
 rw [hs, en] at hif;have hif : ∀ W, Calls Tryz.prog 66 #[.string T.name] W fun e w' => e = .returned (.tuple #[.agg #[.int .i64 0, .string ⟨#[]⟩], .bool false]) /\ Below W.heap.size W w' := hif;obtain ⟨o1, o2, rfl⟩ := hin.args.addr' (by omega);obtain ⟨adx, capx, x0, x1, x2, x3, hinx⟩ := hin.args.get 0 (by omega);have ex : T.args[0]'(by omega) = x := by simp [hx]
 rw [Nat.zero_mul, Nat.add_zero, ex] at x0 x1 x2 x3;rw [ex] at hinx;have ho1 : o1 < B := by
  have h := hin.args;rw [hx] at h;cases h with
  | cons _ _ _ _ _ _ _ _ _ hp => exact hp
 have hxc := fun (W : World) (hW : Below B w W) => (⟨(hW.cell (p := ⟨o1, o2, none⟩) ho1).trans x0, (hW.cell (p := ⟨o1, o2 + 1, none⟩) ho1).trans x1, (hW.cell (p := ⟨o1, o2 + 2, none⟩) ho1).trans x2, (hW.cell (p := ⟨o1, o2 + 3, none⟩) ho1).trans x3⟩ : W.cell? ⟨o1, o2, none⟩ = some (.int .i64 x.kind) /\ W.cell? ⟨o1, o2 + 1, none⟩ = some (.string x.name) /\ W.cell? ⟨o1, o2 + 2, none⟩ = some (.int .i64 x.n) /\ W.cell? ⟨o1, o2 + 3, none⟩ = some (.slice adx x.args.length capx));have hwi := fun (W : World) (hW : Below B w W) (hbW : BW B b (l ++ [123]) W) => IH x adx capx W B b (l ++ [123]) 1200 (by omega) (by omega) hmx (hinx.onB hW) (Nat.le_trans hB hW.size) (fun V hV => hT V (hW.trans hV)) hbW (by rw [List.length_append, List.length_singleton]; omega);unfold tmv at hwi;have hxf := (wr_fits x hinx.n64).1 1200;generalize x.wr.txt 1200 = X at *;have HWI := Lib.hid hwi;have HXC := Lib.hid hxc;have HIF := Lib.hid hif;have HIP := Lib.hid hip;unfold tmv;rw [hk4] at HIP ⊢;rw [hl1] at HIP ⊢;rw [es] at *;clear hwi hxc x0 x1 x2 x3 hinx ex hx hs en;clear hif hip hin hT hbw hmays hmay IH hk4;go_enter Tryz.func45, Tryz.ntmps45;go_wp2_with fail;refine (HIF.out _).mono ?_;rintro e w1 ⟨rfl, hb1⟩;have hX1 := (hb1.block w.heap.size (by simp)).trans (heap_alloc_new w _);have hB1 := (HB0.out _).trans (hb1.mono (by simp; omega));have hA1 := apart_on (HA0.out _) hb1;have hW1 := (HBW.out.past _).on hb1;have hs1 : w.heap.size < w1.heap.size := by have := hb1.size; rw [World.size_alloc] at this; omega
 obtain ⟨d0, d1, d2, d3⟩ := cellx4 hX1;clear hb1;go_wp2_with fail;clear d0 d1 d2 d3;have hX2 := (Lib.alloc_old w1 (.cells #[.int .i64 0, .string ⟨#[]⟩] 93) _ hs1).trans hX1;have hO2 := heap_alloc_new w1 (.cells #[.int .i64 0, .string ⟨#[]⟩] 93);have hB2 := hB1.alloc (Nat.le_trans hB hB1.size) (.cells #[.int .i64 0, .string ⟨#[]⟩] 93);have hA2 := hA1.alloc (.cells #[.int .i64 0, .string ⟨#[]⟩] 93);have hW2 := hW1.past (.cells #[.int .i64 0, .string ⟨#[]⟩] 93);have hs2 : w1.heap.size < (w1.alloc (.cells #[.int .i64 0, .string ⟨#[]⟩] 93)).heap.size := by simp
 generalize w1.alloc (.cells #[.int .i64 0, .string ⟨#[]⟩] 93) = w2 at *;obtain ⟨d0, d1, d2, d3⟩ := cellx4 hX2;obtain ⟨e0, e1⟩ := cellx2 hO2;clear hX1 hB1 hA1 hW1;go_wp2_with fail;refine (HIP.out _).mono ?_;rintro e w3 ⟨rfl, hb3⟩;have hX3 := (hb3.block w.heap.size (by omega)).trans hX2;have hO3 := (hb3.block w1.heap.size hs2).trans hO2;have hB3 := hB2.trans (hb3.mono (Nat.le_trans hB hB2.size));have hA3 := apart_on hA2 hb3;have hW3 := hW2.on hb3;have hne0 : w.heap.size ≠ b := by omega
 have hne1 : w1.heap.size ≠ b := by omega
 have hBw := Nat.le_trans hB hB3.size;clear d0 d1 d2 d3 e0 e1 hb3 hX2 hO2 hB2 hA2 hW2;obtain ⟨d0, d1, d2, d3⟩ := cellx4 hX3;obtain ⟨e0, e1⟩ := cellx2 hO3;go_wp2_with fail;refine (wr_lay1 B b l _ _ w3 (by simp) hW3 (by show _ + 1 <= _; omega) hBw).mono ?_;rintro e w4 ⟨rfl, hbw4, hbl4, hap4⟩;have hX4 := apart_keep hap4 hX3 (by decide) hne0;have hB4 := hB3.trans hbl4;have hA4 := hA3.trans hap4;clear d0 d1 d2 d3 e0 e1 hbl4 hap4;obtain ⟨d0, d1, d2, d3⟩ := cellx4 hX4;obtain ⟨x0, x1, x2, x3⟩ := HXC.out _ hB4;go_wp2_with fail;refine (HWI.out _ hB4 hbw4).mono ?_;rintro e w5 ⟨rfl, hbw5, hbl5, hap5⟩;have hB5 := hB4.trans hbl5;have hA5 := hA4.trans hap5;clear d0 d1 d2 d3 x0 x1 x2 x3 hbl5 hap5 hbw4;go_wp2_with fail;refine (wr_lay1 B b _ _ _ w5 (by simp) hbw5 (by rw [List.length_append, List.length_append, List.length_singleton]; show _ + 1 <= _; omega) (Nat.le_trans hB hB5.size)).mono ?_;rintro e w6 ⟨rfl, hbw6, hbl6, hap6⟩;have hbl7 := hB5.trans hbl6;have hap7 := hA5.trans hap6;have hbw7 : BW B b (l ++ 123 :: (X ++ [125])) w6 := by
  have e1 : l ++ 123 :: (X ++ [125]) = l ++ [123] ++ X ++ (⟨#[125]⟩ : ByteArray).data.toList := by simp
  rw [e1]; exact hbw6
 clear hbl6 hap6 hbw6;go_wp2_with fail;go_end0;exact ⟨rfl, hbw7, hbl7, hap7⟩
set_option maxRecDepth 100000 in
set_option maxHeartbeats 4000000 in
theorem wr_compD (m : Nat) (IH : WrWithin m) (T : Tm) (ad : Option Addr) (cap : Nat) (w : World) (B b : Nat) (l : List UInt8) (p : Int) (hk4 : T.kind = 4) (hm : T.size <= m + 1) (hM : T.size <= 1000000) (hmay : T.may = true) (hin : TmP w (fun k => k < B) T ad cap) (hB : B <= w.heap.size) (hT : ∀ W, Below B w W -> AllT W) (hbw : BW B b l w) (hl : l.length + 1400 * T.size <= 2000000000) (o : R) (hp : ¬ PairT T) (ho : opR T.name.data.toList 3 = some o) (hl2 : T.args.length = 2) (hpr : o.p <= p) :
 Calls Tryz.prog 45 #[.pointer (some ⟨b, 0, none⟩), tmv T ad cap, .int .i64 p] w (Laid B b w (l ++ compK T.name.data.toList (T.args.map Tm.wr) p)) := by
 have hlt := hbw.lt;have hip := fun W => wr_isPair T.kind T.n T.name ad T.args.length cap W;have hif := fun W => ops_Infix T.name W;rw [<- opR_name] at hif;obtain ⟨hmays, hlen1, hlen16⟩ := may_comps hmay hk4;have HIN := Lib.hid hin;have HT := Lib.hid hT;have HBW := Lib.hid hbw;have HMY := Lib.hid hmays;have HIH := Lib.hid IH;have HB0 := Lib.hid (fun o : Obj => (Below.refl B w).alloc hB o);have HA0 := Lib.hid (fun o : Obj => (Lib.OthersKept.refl 5 (some b) w).alloc o);obtain ⟨x, y, hxy⟩ : ∃ x y, T.args = [x, y] := by
  match h : T.args, hl2 with
  | [x, y], _ => exact ⟨x, y, rfl⟩
 have hnc : T.name.data.toList ≠ [123, 125] := fun h => by rw [h, show opR [123, 125] 3 = none from by decide +kernel] at ho; cases ho
 have hmxy : x.may = true /\ y.may = true := may_two hmay hk4 hxy;rw [pairB_no hp] at hip;rw [ho] at hif;rw [comp_infix hk4 hp hxy ho];have hif : ∀ W, Calls Tryz.prog 66 #[.string T.name] W fun e w' => e = .returned (.tuple #[.agg #[.int .i64 o.p, .string o.k], .bool true]) /\ Below W.heap.size W w' := hif;have e1 : (T.name.toList == [123, 125]) = false := by rw [ByteArray.toList_eq]; exact beq_eq_false_iff_ne.2 hnc
 have hfx := fun (l2 : List UInt8) (hl2 : l2.length + 1400 * T.size <= 2000000010) (W : World) (hW : Below B w W) (hbW : BW B b l2 W) => wr_infix m IH T x y o ad cap W B b l2 hxy hm hM hmxy.1 hmxy.2 (hin.onB hW) (Nat.le_trans hB hW.size) (fun V hV => hT V (hW.trans hV)) hbW hl2;unfold tmv at hfx;unfold infixK;rw [if_neg (by omega)];have e2 : decide (p < o.p) = false := decide_eq_false (by omega);generalize x.wr.opd (leftOf o.k o.p) ++ (betweenK T.name.data.toList ++ y.wr.opd (rightOf o.k o.p)) = X at *;have HFX := Lib.hid hfx;have HIF := Lib.hid hif;have HIP := Lib.hid hip;unfold tmv;rw [hk4] at HFX HIP ⊢;rw [hl2] at HFX HIP ⊢;clear hfx hxy hnc ho hp;clear hif hip hin hT hbw hmays hmay IH hk4;go_enter Tryz.func45, Tryz.ntmps45;go_wp2_with fail;refine (HIF.out _).mono ?_;rintro e w1 ⟨rfl, hb1⟩;have hX1 := (hb1.block w.heap.size (by simp)).trans (heap_alloc_new w _);have hB1 := (HB0.out _).trans (hb1.mono (by simp; omega));have hA1 := apart_on (HA0.out _) hb1;have hW1 := (HBW.out.past _).on hb1;have hs1 : w.heap.size < w1.heap.size := by have := hb1.size; rw [World.size_alloc] at this; omega
 obtain ⟨d0, d1, d2, d3⟩ := cellx4 hX1;clear hb1;go_wp2_with fail;clear d0 d1 d2 d3;have hX2 := (Lib.alloc_old w1 (.cells #[.int .i64 o.p, .string o.k] 93) _ hs1).trans hX1;have hO2 := heap_alloc_new w1 (.cells #[.int .i64 o.p, .string o.k] 93);have hB2 := hB1.alloc (Nat.le_trans hB hB1.size) (.cells #[.int .i64 o.p, .string o.k] 93);have hA2 := hA1.alloc (.cells #[.int .i64 o.p, .string o.k] 93);have hW2 := hW1.past (.cells #[.int .i64 o.p, .string o.k] 93);have hs2 : w1.heap.size < (w1.alloc (.cells #[.int .i64 o.p, .string o.k] 93)).heap.size := by simp
 generalize w1.alloc (.cells #[.int .i64 o.p, .string o.k] 93) = w2 at *;obtain ⟨d0, d1, d2, d3⟩ := cellx4 hX2;obtain ⟨e0, e1⟩ := cellx2 hO2;clear hX1 hB1 hA1 hW1;go_wp2_with fail;refine (HIP.out _).mono ?_;rintro e w3 ⟨rfl, hb3⟩;have hX3 := (hb3.block w.heap.size (by omega)).trans hX2;have hO3 := (hb3.block w1.heap.size hs2).trans hO2;have hB3 := hB2.trans (hb3.mono (Nat.le_trans hB hB2.size));have hA3 := apart_on hA2 hb3;have hW3 := hW2.on hb3;have hne0 : w.heap.size ≠ b := by omega
 have hne1 : w1.heap.size ≠ b := by omega
 have hBw := Nat.le_trans hB hB3.size;clear d0 d1 d2 d3 e0 e1 hb3 hX2 hO2 hB2 hA2 hW2;obtain ⟨d0, d1, d2, d3⟩ := cellx4 hX3;obtain ⟨e0, e1⟩ := cellx2 hO3;go_wp2_with fail;refine (HFX.out l (by omega) _ hB3 hW3).mono ?_;rintro e w4 ⟨rfl, hbw4, hbl4, hap4⟩;have hbl5 := hB3.trans hbl4;have hap5 := hA3.trans hap4;clear hbl4 hap4 d0 d1 d2 d3 e0 e1 hX3 hO3 hB3 hA3 hW3;go_wp2_with fail;go_end0;exact ⟨rfl, hbw4, hbl5, hap5⟩
set_option maxRecDepth 100000 in
set_option maxHeartbeats 4000000 in
theorem wr_compC (m : Nat) (IH : WrWithin m) (T : Tm) (ad : Option Addr) (cap : Nat) (w : World) (B b : Nat) (l : List UInt8) (p : Int) (hk4 : T.kind = 4) (hm : T.size <= m + 1) (hM : T.size <= 1000000) (hmay : T.may = true) (hin : TmP w (fun k => k < B) T ad cap) (hB : B <= w.heap.size) (hT : ∀ W, Below B w W -> AllT W) (hbw : BW B b l w) (hl : l.length + 1400 * T.size <= 2000000000) (o : R) (hp : ¬ PairT T) (ho : opR T.name.data.toList 3 = some o) (hl2 : T.args.length = 2) (hpr : p < o.p) :
 Calls Tryz.prog 45 #[.pointer (some ⟨b, 0, none⟩), tmv T ad cap, .int .i64 p] w (Laid B b w (l ++ compK T.name.data.toList (T.args.map Tm.wr) p)) := by
 have hlt := hbw.lt;have hip := fun W => wr_isPair T.kind T.n T.name ad T.args.length cap W;have hif := fun W => ops_Infix T.name W;rw [<- opR_name] at hif;obtain ⟨hmays, hlen1, hlen16⟩ := may_comps hmay hk4;have HIN := Lib.hid hin;have HT := Lib.hid hT;have HBW := Lib.hid hbw;have HMY := Lib.hid hmays;have HIH := Lib.hid IH;have HB0 := Lib.hid (fun o : Obj => (Below.refl B w).alloc hB o);have HA0 := Lib.hid (fun o : Obj => (Lib.OthersKept.refl 5 (some b) w).alloc o);obtain ⟨x, y, hxy⟩ : ∃ x y, T.args = [x, y] := by
  match h : T.args, hl2 with
  | [x, y], _ => exact ⟨x, y, rfl⟩
 have hnc : T.name.data.toList ≠ [123, 125] := fun h => by rw [h, show opR [123, 125] 3 = none from by decide +kernel] at ho; cases ho
 have hmxy : x.may = true /\ y.may = true := may_two hmay hk4 hxy;rw [pairB_no hp] at hip;rw [ho] at hif;rw [comp_infix hk4 hp hxy ho];have hif : ∀ W, Calls Tryz.prog 66 #[.string T.name] W fun e w' => e = .returned (.tuple #[.agg #[.int .i64 o.p, .string o.k], .bool true]) /\ Below W.heap.size W w' := hif;have e1 : (T.name.toList == [123, 125]) = false := by rw [ByteArray.toList_eq]; exact beq_eq_false_iff_ne.2 hnc
 have hfx := fun (l2 : List UInt8) (hl2 : l2.length + 1400 * T.size <= 2000000010) (W : World) (hW : Below B w W) (hbW : BW B b l2 W) => wr_infix m IH T x y o ad cap W B b l2 hxy hm hM hmxy.1 hmxy.2 (hin.onB hW) (Nat.le_trans hB hW.size) (fun V hV => hT V (hW.trans hV)) hbW hl2;unfold tmv at hfx;unfold infixK;rw [if_pos hpr];have e2 : decide (p < o.p) = true := decide_eq_true hpr;have hxl : (x.wr.opd (leftOf o.k o.p) ++ (betweenK T.name.data.toList ++ y.wr.opd (rightOf o.k o.p))).length <= 1400 * T.size := by
  obtain ⟨_, _, adx, capx, ady, capy, _, hinx, hiny, _⟩ := two_args (by have h := hin.args; rw [hxy] at h; exact h);have hxf := (wr_fits x hinx.n64).2.2 (leftOf o.k o.p);have hyf := (wr_fits y hiny.n64).2.2 (rightOf o.k o.p);have hbl := between_len T.name.data.toList;have hsz : T.size = 1 + (x.size + y.size) := by rw [T.size_eq, hxy]; rfl
  rw [List.length_append, List.length_append];omega
 generalize x.wr.opd (leftOf o.k o.p) ++ (betweenK T.name.data.toList ++ y.wr.opd (rightOf o.k o.p)) = X at *;have HFX := Lib.hid hfx;have HIF := Lib.hid hif;have HIP := Lib.hid hip;unfold tmv;rw [hk4] at HFX HIP ⊢;rw [hl2] at HFX HIP ⊢;clear hfx hxy hnc ho hp;clear hif hip hin hT hbw hmays hmay IH hk4;go_enter Tryz.func45, Tryz.ntmps45;go_wp2_with fail;refine (HIF.out _).mono ?_;rintro e w1 ⟨rfl, hb1⟩;have hX1 := (hb1.block w.heap.size (by simp)).trans (heap_alloc_new w _);have hB1 := (HB0.out _).trans (hb1.mono (by simp; omega));have hA1 := apart_on (HA0.out _) hb1;have hW1 := (HBW.out.past _).on hb1;have hs1 : w.heap.size < w1.heap.size := by have := hb1.size; rw [World.size_alloc] at this; omega
 obtain ⟨d0, d1, d2, d3⟩ := cellx4 hX1;clear hb1;go_wp2_with fail;clear d0 d1 d2 d3;have hX2 := (Lib.alloc_old w1 (.cells #[.int .i64 o.p, .string o.k] 93) _ hs1).trans hX1;have hO2 := heap_alloc_new w1 (.cells #[.int .i64 o.p, .string o.k] 93);have hB2 := hB1.alloc (Nat.le_trans hB hB1.size) (.cells #[.int .i64 o.p, .string o.k] 93);have hA2 := hA1.alloc (.cells #[.int .i64 o.p, .string o.k] 93);have hW2 := hW1.past (.cells #[.int .i64 o.p, .string o.k] 93);have hs2 : w1.heap.size < (w1.alloc (.cells #[.int .i64 o.p, .string o.k] 93)).heap.size := by simp
 generalize w1.alloc (.cells #[.int .i64 o.p, .string o.k] 93) = w2 at *;obtain ⟨d0, d1, d2, d3⟩ := cellx4 hX2;obtain ⟨e0, e1⟩ := cellx2 hO2;clear hX1 hB1 hA1 hW1;go_wp2_with fail;refine (HIP.out _).mono ?_;rintro e w3 ⟨rfl, hb3⟩;have hX3 := (hb3.block w.heap.size (by omega)).trans hX2;have hO3 := (hb3.block w1.heap.size hs2).trans hO2;have hB3 := hB2.trans (hb3.mono (Nat.le_trans hB hB2.size));have hA3 := apart_on hA2 hb3;have hW3 := hW2.on hb3;have hne0 : w.heap.size ≠ b := by omega
 have hne1 : w1.heap.size ≠ b := by omega
 have hBw := Nat.le_trans hB hB3.size;clear d0 d1 d2 d3 e0 e1 hb3 hX2 hO2 hB2 hA2 hW2;obtain ⟨d0, d1, d2, d3⟩ := cellx4 hX3;obtain ⟨e0, e1⟩ := cellx2 hO3;go_wp2_with fail;refine (wr_lay1 B b l _ _ w3 (by simp) hW3 (by show _ + 1 <= _; omega) hBw).mono ?_;rintro e w4 ⟨rfl, hbw4, hbl4, hap4⟩;have hX4 := apart_keep hap4 hX3 (by decide) hne0;have hO4 := apart_keep hap4 hO3 (by decide) hne1;have hB4 := hB3.trans hbl4;have hA4 := hA3.trans hap4;clear d0 d1 d2 d3 e0 e1 hbl4 hap4;obtain ⟨d0, d1, d2, d3⟩ := cellx4 hX4;obtain ⟨e0, e1⟩ := cellx2 hO4;go_wp2_with fail;refine (HFX.out (l ++ [40]) (by rw [List.length_append, List.length_singleton]; omega) _ hB4 hbw4).mono ?_;rintro e w5 ⟨rfl, hbw5, hbl5, hap5⟩;have hB5 := hB4.trans hbl5;have hA5 := hA4.trans hap5;clear d0 d1 d2 d3 e0 e1 hbl5 hap5 hbw4;go_wp2_with fail;refine (wr_lay1 B b _ _ _ w5 (by simp) hbw5 (by rw [List.length_append, List.length_append, List.length_singleton]; show _ + 1 <= _; omega) (Nat.le_trans hB hB5.size)).mono ?_;rintro e w6 ⟨rfl, hbw6, hbl6, hap6⟩;have hbl7 := hB5.trans hbl6;have hap7 := hA5.trans hap6;have hbw7 : BW B b (l ++ 40 :: (X ++ [41])) w6 := by
  have e1 : l ++ 40 :: (X ++ [41]) = l ++ [40] ++ X ++ (⟨#[41]⟩ : ByteArray).data.toList := by simp
  rw [e1]; exact hbw6
 clear hbl6 hap6 hbw6;go_wp2_with fail;go_end0;exact ⟨rfl, hbw7, hbl7, hap7⟩
set_option maxRecDepth 100000 in
set_option maxHeartbeats 4000000 in
theorem wr_compE1 (m : Nat) (IH : WrWithin m) (T : Tm) (ad : Option Addr) (cap : Nat) (w : World) (B b : Nat) (l : List UInt8) (p : Int) (hk4 : T.kind = 4) (hm : T.size <= m + 1) (hM : T.size <= 1000000) (hmay : T.may = true) (hin : TmP w (fun k => k < B) T ad cap) (hB : B <= w.heap.size) (hT : ∀ W, Below B w W -> AllT W) (hbw : BW B b l w) (hl : l.length + 1400 * T.size <= 2000000000) (hp : ¬ PairT T) (h1 : ¬ (T.name.data.toList = [123, 125] /\ T.args.length = 1)) (h2 : T.args.length = 2 -> opR T.name.data.toList 3 = none) (hs : T.name.data.toList = [123, 125]) :
 Calls Tryz.prog 45 #[.pointer (some ⟨b, 0, none⟩), tmv T ad cap, .int .i64 p] w (Laid B b w (l ++ compK T.name.data.toList (T.args.map Tm.wr) p)) := by
 have hlt := hbw.lt;have hip := fun W => wr_isPair T.kind T.n T.name ad T.args.length cap W;have hif := fun W => ops_Infix T.name W;rw [<- opR_name] at hif;obtain ⟨hmays, hlen1, hlen16⟩ := may_comps hmay hk4;have HIN := Lib.hid hin;have HT := Lib.hid hT;have HBW := Lib.hid hbw;have HMY := Lib.hid hmays;have HIH := Lib.hid IH;have HB0 := Lib.hid (fun o : Obj => (Below.refl B w).alloc hB o);have HA0 := Lib.hid (fun o : Obj => (Lib.OthersKept.refl 5 (some b) w).alloc o);rw [pairB_no hp] at hip;rw [comp_call hk4 hp h1 h2];have hca := fun (W : World) (hW : Below B w W) (hbW : BW B b l W) => wr_called m IH T ad cap W B b l hm hM hmays hlen1 (hin.onB hW) (Nat.le_trans hB hW.size) (fun V hV => hT V (hW.trans hV)) hbW hl;unfold tmv at hca;generalize callK T.name.data.toList (T.args.map Tm.wr) = X at *;have HCA := Lib.hid hca;have es : T.name = ⟨#[123, 125]⟩ := by apply ByteArray.ext; rw [<- Array.toList_inj]; exact hs
 have ex : ((T.args.length : Int) == 1) = false := by have : T.args.length ≠ 1 := fun h => h1 ⟨hs, h⟩; simp; omega
 have en : opR [123, 125] 3 = none := by decide +kernel
 rw [hs, en] at hif;have hif : ∀ W, Calls Tryz.prog 66 #[.string T.name] W fun e w' => e = .returned (.tuple #[.agg #[.int .i64 0, .string ⟨#[]⟩], .bool false]) /\ Below W.heap.size W w' := hif;have HIF := Lib.hid hif;have HIP := Lib.hid hip;unfold tmv;rw [hk4] at HCA HIP ⊢;rw [es] at HCA HIF HIP ⊢;clear hca hp h1 h2 hs en;clear hif hip hin hT hbw hmays hmay IH hk4;go_enter Tryz.func45, Tryz.ntmps45;go_wp2_with fail;refine (HIF.out _).mono ?_;rintro e w1 ⟨rfl, hb1⟩;have hX1 := (hb1.block w.heap.size (by simp)).trans (heap_alloc_new w _);have hB1 := (HB0.out _).trans (hb1.mono (by simp; omega));have hA1 := apart_on (HA0.out _) hb1;have hW1 := (HBW.out.past _).on hb1;have hs1 : w.heap.size < w1.heap.size := by have := hb1.size; rw [World.size_alloc] at this; omega
 obtain ⟨d0, d1, d2, d3⟩ := cellx4 hX1;clear hb1;go_wp2_with fail;clear d0 d1 d2 d3;have hX2 := (Lib.alloc_old w1 (.cells #[.int .i64 0, .string ⟨#[]⟩] 93) _ hs1).trans hX1;have hO2 := heap_alloc_new w1 (.cells #[.int .i64 0, .string ⟨#[]⟩] 93);have hB2 := hB1.alloc (Nat.le_trans hB hB1.size) (.cells #[.int .i64 0, .string ⟨#[]⟩] 93);have hA2 := hA1.alloc (.cells #[.int .i64 0, .string ⟨#[]⟩] 93);have hW2 := hW1.past (.cells #[.int .i64 0, .string ⟨#[]⟩] 93);have hs2 : w1.heap.size < (w1.alloc (.cells #[.int .i64 0, .string ⟨#[]⟩] 93)).heap.size := by simp
 generalize w1.alloc (.cells #[.int .i64 0, .string ⟨#[]⟩] 93) = w2 at *;obtain ⟨d0, d1, d2, d3⟩ := cellx4 hX2;obtain ⟨e0, e1⟩ := cellx2 hO2;clear hX1 hB1 hA1 hW1;go_wp2_with fail;refine (HIP.out _).mono ?_;rintro e w3 ⟨rfl, hb3⟩;have hX3 := (hb3.block w.heap.size (by omega)).trans hX2;have hO3 := (hb3.block w1.heap.size hs2).trans hO2;have hB3 := hB2.trans (hb3.mono (Nat.le_trans hB hB2.size));have hA3 := apart_on hA2 hb3;have hW3 := hW2.on hb3;have hne0 : w.heap.size ≠ b := by omega
 have hne1 : w1.heap.size ≠ b := by omega
 have hBw := Nat.le_trans hB hB3.size;clear d0 d1 d2 d3 e0 e1 hb3 hX2 hO2 hB2 hA2 hW2;obtain ⟨d0, d1, d2, d3⟩ := cellx4 hX3;obtain ⟨e0, e1⟩ := cellx2 hO3;go_wp2_with fail;refine (HCA.out _ hB3 hW3).mono ?_;rintro e w4 ⟨rfl, hbw4, hbl4, hap4⟩;have hbl5 := hB3.trans hbl4;have hap5 := hA3.trans hap4;clear hbl4 hap4 d0 d1 d2 d3 e0 e1 hX3 hO3 hB3 hA3 hW3;go_wp2_with fail;go_end0;exact ⟨rfl, hbw4, hbl5, hap5⟩
set_option maxRecDepth 100000 in
set_option maxHeartbeats 4000000 in
theorem wr_compE2 (m : Nat) (IH : WrWithin m) (T : Tm) (ad : Option Addr) (cap : Nat) (w : World) (B b : Nat) (l : List UInt8) (p : Int) (hk4 : T.kind = 4) (hm : T.size <= m + 1) (hM : T.size <= 1000000) (hmay : T.may = true) (hin : TmP w (fun k => k < B) T ad cap) (hB : B <= w.heap.size) (hT : ∀ W, Below B w W -> AllT W) (hbw : BW B b l w) (hl : l.length + 1400 * T.size <= 2000000000) (hp : ¬ PairT T) (h1 : ¬ (T.name.data.toList = [123, 125] /\ T.args.length = 1)) (h2 : T.args.length = 2 -> opR T.name.data.toList 3 = none) (hs : T.name.data.toList ≠ [123, 125]) (hn : opR T.name.data.toList 3 = none) :
 Calls Tryz.prog 45 #[.pointer (some ⟨b, 0, none⟩), tmv T ad cap, .int .i64 p] w (Laid B b w (l ++ compK T.name.data.toList (T.args.map Tm.wr) p)) := by
 have hlt := hbw.lt;have hip := fun W => wr_isPair T.kind T.n T.name ad T.args.length cap W;have hif := fun W => ops_Infix T.name W;rw [<- opR_name] at hif;obtain ⟨hmays, hlen1, hlen16⟩ := may_comps hmay hk4;have HIN := Lib.hid hin;have HT := Lib.hid hT;have HBW := Lib.hid hbw;have HMY := Lib.hid hmays;have HIH := Lib.hid IH;have HB0 := Lib.hid (fun o : Obj => (Below.refl B w).alloc hB o);have HA0 := Lib.hid (fun o : Obj => (Lib.OthersKept.refl 5 (some b) w).alloc o);rw [pairB_no hp] at hip;rw [comp_call hk4 hp h1 h2];have hca := fun (W : World) (hW : Below B w W) (hbW : BW B b l W) => wr_called m IH T ad cap W B b l hm hM hmays hlen1 (hin.onB hW) (Nat.le_trans hB hW.size) (fun V hV => hT V (hW.trans hV)) hbW hl;unfold tmv at hca;generalize callK T.name.data.toList (T.args.map Tm.wr) = X at *;have HCA := Lib.hid hca;have ex : (T.name.toList == [123, 125]) = false := by rw [ByteArray.toList_eq]; exact beq_eq_false_iff_ne.2 hs
 rw [hn] at hif;have hif : ∀ W, Calls Tryz.prog 66 #[.string T.name] W fun e w' => e = .returned (.tuple #[.agg #[.int .i64 0, .string ⟨#[]⟩], .bool false]) /\ Below W.heap.size W w' := hif;have HIF := Lib.hid hif;have HIP := Lib.hid hip;unfold tmv;rw [hk4] at HCA HIP ⊢;clear hca hp h1 h2 hs hn;clear hif hip hin hT hbw hmays hmay IH hk4;go_enter Tryz.func45, Tryz.ntmps45;go_wp2_with fail;refine (HIF.out _).mono ?_;rintro e w1 ⟨rfl, hb1⟩;have hX1 := (hb1.block w.heap.size (by simp)).trans (heap_alloc_new w _);have hB1 := (HB0.out _).trans (hb1.mono (by simp; omega));have hA1 := apart_on (HA0.out _) hb1;have hW1 := (HBW.out.past _).on hb1;have hs1 : w.heap.size < w1.heap.size := by have := hb1.size; rw [World.size_alloc] at this; omega
 obtain ⟨d0, d1, d2, d3⟩ := cellx4 hX1;clear hb1;go_wp2_with fail;clear d0 d1 d2 d3;have hX2 := (Lib.alloc_old w1 (.cells #[.int .i64 0, .string ⟨#[]⟩] 93) _ hs1).trans hX1;have hO2 := heap_alloc_new w1 (.cells #[.int .i64 0, .string ⟨#[]⟩] 93);have hB2 := hB1.alloc (Nat.le_trans hB hB1.size) (.cells #[.int .i64 0, .string ⟨#[]⟩] 93);have hA2 := hA1.alloc (.cells #[.int .i64 0, .string ⟨#[]⟩] 93);have hW2 := hW1.past (.cells #[.int .i64 0, .string ⟨#[]⟩] 93);have hs2 : w1.heap.size < (w1.alloc (.cells #[.int .i64 0, .string ⟨#[]⟩] 93)).heap.size := by simp
 generalize w1.alloc (.cells #[.int .i64 0, .string ⟨#[]⟩] 93) = w2 at *;obtain ⟨d0, d1, d2, d3⟩ := cellx4 hX2;obtain ⟨e0, e1⟩ := cellx2 hO2;clear hX1 hB1 hA1 hW1;go_wp2_with fail;refine (HIP.out _).mono ?_;rintro e w3 ⟨rfl, hb3⟩;have hX3 := (hb3.block w.heap.size (by omega)).trans hX2;have hO3 := (hb3.block w1.heap.size hs2).trans hO2;have hB3 := hB2.trans (hb3.mono (Nat.le_trans hB hB2.size));have hA3 := apart_on hA2 hb3;have hW3 := hW2.on hb3;have hne0 : w.heap.size ≠ b := by omega
 have hne1 : w1.heap.size ≠ b := by omega
 have hBw := Nat.le_trans hB hB3.size;clear d0 d1 d2 d3 e0 e1 hb3 hX2 hO2 hB2 hA2 hW2;obtain ⟨d0, d1, d2, d3⟩ := cellx4 hX3;obtain ⟨e0, e1⟩ := cellx2 hO3;go_wp2_with fail;refine (HCA.out _ hB3 hW3).mono ?_;rintro e w4 ⟨rfl, hbw4, hbl4, hap4⟩;have hbl5 := hB3.trans hbl4;have hap5 := hA3.trans hap4;clear hbl4 hap4 d0 d1 d2 d3 e0 e1 hX3 hO3 hB3 hA3 hW3;go_wp2_with fail;go_end0;exact ⟨rfl, hbw4, hbl5, hap5⟩
set_option maxRecDepth 100000 in
set_option maxHeartbeats 4000000 in
theorem wr_compE3 (m : Nat) (IH : WrWithin m) (T : Tm) (ad : Option Addr) (cap : Nat) (w : World) (B b : Nat) (l : List UInt8) (p : Int) (hk4 : T.kind = 4) (hm : T.size <= m + 1) (hM : T.size <= 1000000) (hmay : T.may = true) (hin : TmP w (fun k => k < B) T ad cap) (hB : B <= w.heap.size) (hT : ∀ W, Below B w W -> AllT W) (hbw : BW B b l w) (hl : l.length + 1400 * T.size <= 2000000000) (o : R) (hp : ¬ PairT T) (h1 : ¬ (T.name.data.toList = [123, 125] /\ T.args.length = 1)) (h2 : T.args.length = 2 -> opR T.name.data.toList 3 = none) (hs : T.name.data.toList ≠ [123, 125]) (hn : opR T.name.data.toList 3 = some o) (hl2 : T.args.length ≠ 2) :
 Calls Tryz.prog 45 #[.pointer (some ⟨b, 0, none⟩), tmv T ad cap, .int .i64 p] w (Laid B b w (l ++ compK T.name.data.toList (T.args.map Tm.wr) p)) := by
 have hlt := hbw.lt;have hip := fun W => wr_isPair T.kind T.n T.name ad T.args.length cap W;have hif := fun W => ops_Infix T.name W;rw [<- opR_name] at hif;obtain ⟨hmays, hlen1, hlen16⟩ := may_comps hmay hk4;have HIN := Lib.hid hin;have HT := Lib.hid hT;have HBW := Lib.hid hbw;have HMY := Lib.hid hmays;have HIH := Lib.hid IH;have HB0 := Lib.hid (fun o : Obj => (Below.refl B w).alloc hB o);have HA0 := Lib.hid (fun o : Obj => (Lib.OthersKept.refl 5 (some b) w).alloc o);rw [pairB_no hp] at hip;rw [comp_call hk4 hp h1 h2];have hca := fun (W : World) (hW : Below B w W) (hbW : BW B b l W) => wr_called m IH T ad cap W B b l hm hM hmays hlen1 (hin.onB hW) (Nat.le_trans hB hW.size) (fun V hV => hT V (hW.trans hV)) hbW hl;unfold tmv at hca;generalize callK T.name.data.toList (T.args.map Tm.wr) = X at *;have HCA := Lib.hid hca;have ex : (T.name.toList == [123, 125]) = false := by rw [ByteArray.toList_eq]; exact beq_eq_false_iff_ne.2 hs
 have ey : ((T.args.length : Int) == 2) = false := by simp; omega
 rw [hn] at hif;have hif : ∀ W, Calls Tryz.prog 66 #[.string T.name] W fun e w' => e = .returned (.tuple #[.agg #[.int .i64 o.p, .string o.k], .bool true]) /\ Below W.heap.size W w' := hif;have HIF := Lib.hid hif;have HIP := Lib.hid hip;unfold tmv;rw [hk4] at HCA HIP ⊢;clear hca hp h1 h2 hs hn hl2;clear hif hip hin hT hbw hmays hmay IH hk4;go_enter Tryz.func45, Tryz.ntmps45;go_wp2_with fail;refine (HIF.out _).mono ?_;rintro e w1 ⟨rfl, hb1⟩;have hX1 := (hb1.block w.heap.size (by simp)).trans (heap_alloc_new w _);have hB1 := (HB0.out _).trans (hb1.mono (by simp; omega));have hA1 := apart_on (HA0.out _) hb1;have hW1 := (HBW.out.past _).on hb1;have hs1 : w.heap.size < w1.heap.size := by have := hb1.size; rw [World.size_alloc] at this; omega
 obtain ⟨d0, d1, d2, d3⟩ := cellx4 hX1;clear hb1;go_wp2_with fail;clear d0 d1 d2 d3;have hX2 := (Lib.alloc_old w1 (.cells #[.int .i64 o.p, .string o.k] 93) _ hs1).trans hX1;have hO2 := heap_alloc_new w1 (.cells #[.int .i64 o.p, .string o.k] 93);have hB2 := hB1.alloc (Nat.le_trans hB hB1.size) (.cells #[.int .i64 o.p, .string o.k] 93);have hA2 := hA1.alloc (.cells #[.int .i64 o.p, .string o.k] 93);have hW2 := hW1.past (.cells #[.int .i64 o.p, .string o.k] 93);have hs2 : w1.heap.size < (w1.alloc (.cells #[.int .i64 o.p, .string o.k] 93)).heap.size := by simp
 generalize w1.alloc (.cells #[.int .i64 o.p, .string o.k] 93) = w2 at *;obtain ⟨d0, d1, d2, d3⟩ := cellx4 hX2;obtain ⟨e0, e1⟩ := cellx2 hO2;clear hX1 hB1 hA1 hW1;go_wp2_with fail;refine (HIP.out _).mono ?_;rintro e w3 ⟨rfl, hb3⟩;have hX3 := (hb3.block w.heap.size (by omega)).trans hX2;have hO3 := (hb3.block w1.heap.size hs2).trans hO2;have hB3 := hB2.trans (hb3.mono (Nat.le_trans hB hB2.size));have hA3 := apart_on hA2 hb3;have hW3 := hW2.on hb3;have hne0 : w.heap.size ≠ b := by omega
 have hne1 : w1.heap.size ≠ b := by omega
 have hBw := Nat.le_trans hB hB3.size;clear d0 d1 d2 d3 e0 e1 hb3 hX2 hO2 hB2 hA2 hW2;obtain ⟨d0, d1, d2, d3⟩ := cellx4 hX3;obtain ⟨e0, e1⟩ := cellx2 hO3;go_wp2_with fail;refine (HCA.out _ hB3 hW3).mono ?_;rintro e w4 ⟨rfl, hbw4, hbl4, hap4⟩;have hbl5 := hB3.trans hbl4;have hap5 := hA3.trans hap4;clear hbl4 hap4 d0 d1 d2 d3 e0 e1 hX3 hO3 hB3 hA3 hW3;go_wp2_with fail;go_end0;exact ⟨rfl, hbw4, hbl5, hap5⟩
theorem wr_comp (m : Nat) (IH : WrWithin m) (T : Tm) (ad : Option Addr) (cap : Nat) (w : World) (B b : Nat) (l : List UInt8) (p : Int) (hk4 : T.kind = 4) (hm : T.size <= m + 1) (hM : T.size <= 1000000) (hmay : T.may = true) (hin : TmP w (fun k => k < B) T ad cap) (hB : B <= w.heap.size) (hT : ∀ W, Below B w W -> AllT W) (hbw : BW B b l w) (hl : l.length + 1400 * T.size <= 2000000000) :
 Calls Tryz.prog 45 #[.pointer (some ⟨b, 0, none⟩), tmv T ad cap, .int .i64 p] w (Laid B b w (l ++ compK T.name.data.toList (T.args.map Tm.wr) p)) := by
 by_cases hp : PairT T
 · exact wr_compA m IH T ad cap w B b l p hk4 hm hM hmay hin hB hT hbw hl hp
 by_cases hc : T.name.data.toList = [123, 125] /\ T.args.length = 1
 · exact wr_compB m IH T ad cap w B b l p hk4 hm hM hmay hin hB hT hbw hl hc.1 hc.2
 by_cases hl2 : T.args.length = 2
 · cases ho : opR T.name.data.toList 3 with
   | some o =>
    by_cases hpr : p < o.p
    · exact wr_compC m IH T ad cap w B b l p hk4 hm hM hmay hin hB hT hbw hl o hp ho hl2 hpr
    · exact wr_compD m IH T ad cap w B b l p hk4 hm hM hmay hin hB hT hbw hl o hp ho hl2 (by omega)
   | none =>
    by_cases hs : T.name.data.toList = [123, 125]
    · exact wr_compE1 m IH T ad cap w B b l p hk4 hm hM hmay hin hB hT hbw hl hp hc (fun _ => ho) hs
    · exact wr_compE2 m IH T ad cap w B b l p hk4 hm hM hmay hin hB hT hbw hl hp hc (fun _ => ho) hs ho
 · by_cases hs : T.name.data.toList = [123, 125]
   · exact wr_compE1 m IH T ad cap w B b l p hk4 hm hM hmay hin hB hT hbw hl hp hc (fun h => absurd h hl2) hs
   · cases ho : opR T.name.data.toList 3 with
     | none => exact wr_compE2 m IH T ad cap w B b l p hk4 hm hM hmay hin hB hT hbw hl hp hc (fun h => absurd h hl2) hs ho
     | some o => exact wr_compE3 m IH T ad cap w B b l p hk4 hm hM hmay hin hB hT hbw hl o hp hc (fun h => absurd h hl2) hs ho hl2
theorem Tm.wr_txt (T : Tm) (p : Int) : T.wr.txt p = textK T.kind T.name.data.toList T.n (T.args.map Tm.wr) p := by rw [Tm.wr_eq, Tm.wrs_map]; rfl
theorem may_kind {T : Tm} (h : T.may = true) (h1 : T.kind ≠ 1) (h3 : T.kind ≠ 3) (h2 : T.kind ≠ 2) : T.kind = 4 := by
 rw [Tm.may_eq] at h;unfold mayK at h;rw [if_neg h1, if_neg h2, if_neg h3] at h;by_cases h4 : T.kind = 4
 · exact h4
 · rw [if_neg h4] at h; cases h
set_option maxRecDepth 100000 in
set_option maxHeartbeats 4000000 in
theorem wr_within (m : Nat) : WrWithin m := by
 induction m with
 | zero => intro T ad cap w B b l p h; have := T.size_pos; omega
 | succ m ih =>
  intro T ad cap w B b l p hm hM hmay hin hB hT hbw hl;have hlt := hbw.lt;have hps := T.size_pos;have hil := Lib.itoa_length_le T.n hin.n.1 hin.n.2;have hwl := write_len T.name.data.toList;have HB0 := Lib.hid (fun o : Obj => (Below.refl B w).alloc hB o);have HA0 := Lib.hid (fun o : Obj => (Lib.OthersKept.refl 5 (some b) w).alloc o);have HT := Lib.hid hT;have HBW := Lib.hid hbw;have HNT := Lib.hid (fun W h => num_Text T.n W hin.n h);have HCW := Lib.hid (fun W h => char_Write T.name W hin.name h);have HLL := Lib.hid hl;rw [T.wr_txt];unfold textK;by_cases h1 : T.kind = 1
  · rw [if_pos h1];unfold tmv;rw [h1];generalize Lib.itoa T.n = it at *;clear hmay hin hT hbw ih h1 hl;go_enter Tryz.func30, Tryz.ntmps30;go_wp2_with fail;refine (HNT.out _ (HT.out _ (HB0.out _)).p).mono ?_;rintro e w1 ⟨rfl, hb1⟩;have hB1 := (HB0.out _).trans (hb1.mono (by simp; omega));have hA1 := apart_on (HA0.out _) hb1;have hW1 := (HBW.out.past _).on hb1;clear hb1;go_wp2_with fail;refine (wr_lay2 B b l _ _ _ w1 (by simp) hW1 (by have := HLL.out; show _ + (1 + it.toArray.size) <= _; rw [List.size_toArray]; omega) (Nat.le_trans hB hB1.size)).mono ?_;rintro e w2 ⟨rfl, hbw2, hbl2, hap2⟩;have hbl3 := hB1.trans hbl2;have hap3 := hA1.trans hap2;have hbw3 : BW B b (l ++ 95 :: it) w2 := by
     have e1 : l ++ 95 :: it = l ++ ((⟨#[95]⟩ : ByteArray).data.toList ++ (⟨it.toArray⟩ : ByteArray).data.toList) := by simp
     rw [e1]; exact hbw2
    clear hB1 hA1 hW1 hbl2 hap2 hbw2;go_wp2_with fail;go_end0;exact ⟨rfl, hbw3, hbl3, hap3⟩
  rw [if_neg h1];have e1 : (T.kind == 1) = false := by simpa using h1
  by_cases h3 : T.kind = 3
  · rw [if_pos h3];unfold tmv;rw [h3];generalize Lib.itoa T.n = it at *;clear hmay hin hT hbw ih h1 h3 hl e1;go_enter Tryz.func30, Tryz.ntmps30;go_wp2_with fail;refine (HNT.out _ (HT.out _ (HB0.out _)).p).mono ?_;rintro e w1 ⟨rfl, hb1⟩;have hB1 := (HB0.out _).trans (hb1.mono (by simp; omega));have hA1 := apart_on (HA0.out _) hb1;have hW1 := (HBW.out.past _).on hb1;clear hb1;go_wp2_with fail;refine (wr_lay1 B b l _ _ w1 (by simp) hW1 (by have := HLL.out; show _ + it.toArray.size <= _; rw [List.size_toArray]; omega) (Nat.le_trans hB hB1.size)).mono ?_;rintro e w2 ⟨rfl, hbw2, hbl2, hap2⟩;have hbl3 := hB1.trans hbl2;have hap3 := hA1.trans hap2;clear hB1 hA1 hW1 hbl2 hap2;go_wp2_with fail;go_end0;exact ⟨rfl, hbw2, hbl3, hap3⟩
  rw [if_neg h3];have e3 : (T.kind == 3) = false := by simpa using h3
  by_cases h2 : T.kind = 2
  · rw [if_pos h2];unfold tmv;rw [h2];generalize writeL T.name.data.toList = it at *;clear hmay hin hT hbw ih h1 h3 h2 hl e1 e3;go_enter Tryz.func30, Tryz.ntmps30;go_wp2_with fail;refine (HCW.out _ (HT.out _ (HB0.out _)).u).mono ?_;rintro e w1 ⟨rfl, hb1⟩;have hB1 := (HB0.out _).trans (hb1.mono (by simp; omega));have hA1 := apart_on (HA0.out _) hb1;have hW1 := (HBW.out.past _).on hb1;clear hb1;go_wp2_with fail;refine (wr_lay1 B b l _ _ w1 (by simp) hW1 (by have := HLL.out; show _ + it.toArray.size <= _; rw [List.size_toArray]; omega) (Nat.le_trans hB hB1.size)).mono ?_;rintro e w2 ⟨rfl, hbw2, hbl2, hap2⟩;have hbl3 := hB1.trans hbl2;have hap3 := hA1.trans hap2;clear hB1 hA1 hW1 hbl2 hap2;go_wp2_with fail;go_end0;exact ⟨rfl, hbw2, hbl3, hap3⟩
  rw [if_neg h2];have h4 := may_kind hmay h1 h3 h2;have hco := fun (W : World) (hW : Below B w W) (hbW : BW B b l W) => wr_comp m ih T ad cap W B b l p h4 hm hM hmay (hin.onB hW) (Nat.le_trans hB hW.size) (fun V hV => hT V (hW.trans hV)) hbW hl;unfold tmv at hco ⊢;rw [h4] at hco ⊢;generalize compK T.name.data.toList (T.args.map Tm.wr) p = X at *;have HCO := Lib.hid hco;clear hmay hin hT hbw ih h1 h3 h2 h4 hl e1 e3 hco hil hwl;go_enter Tryz.func30, Tryz.ntmps30;go_wp2_with fail;refine (HCO.out _ (HB0.out _) (HBW.out.past _)).mono ?_;rintro e w1 ⟨rfl, hbw1, hbl1, hap1⟩;have hbl2 := (HB0.out _).trans hbl1;have hap2 := apart_new hap1;clear hbl1 hap1;go_wp2_with fail;go_end0;exact ⟨rfl, hbw1, hbl2, hap2⟩
theorem write_ne {s : List UInt8} (h : checkL s = true) : writeL s ≠ [] := by
 unfold writeL;rw [if_pos h];split
 · rename_i hb
   intro e;subst e;exact absurd hb (by decide)
 · exact List.cons_ne_nil _ _
theorem itoa_ne (n : Int) : Lib.itoa n ≠ [] := by
 unfold Lib.itoa;split
 · exact List.cons_ne_nil _ _
 · exact decDigits_ne _
theorem txt_ne {T : Tm} (h : T.may = true) (p : Int) : T.wr.txt p ≠ [] := by
 rw [T.wr_txt];unfold textK;rw [Tm.may_eq] at h;unfold mayK at h;by_cases h1 : T.kind = 1
 · rw [if_pos h1]; exact List.cons_ne_nil _ _
 rw [if_neg h1] at h ⊢;by_cases h3 : T.kind = 3
 · rw [if_pos h3]; exact itoa_ne _
 rw [if_neg h3];by_cases h2 : T.kind = 2
 · rw [if_pos h2] at h ⊢;simp only [Bool.and_eq_true, decide_eq_true_eq] at h
   exact write_ne h.2.1
 rw [if_neg h2];have hc : ∀ s ws, callK s ws ≠ [] := fun s ws e => by
  unfold callK at e;have := congrArg List.length e;simp at this
 have hx : ∀ s o a b, infixK s o a b p ≠ [] := fun s o a b e => by
  unfold infixK at e;have hb : betweenK s ≠ [] := by unfold betweenK; split <;> exact List.cons_ne_nil _ _
  split at e
  · exact List.cons_ne_nil _ _ e
  · have h9 := congrArg List.length e;have h8 : 0 < (betweenK s).length := List.length_pos_iff.2 hb;simp only [List.length_append, List.length_nil] at h9
    omega
 unfold compK;split
 · split
   · exact List.cons_ne_nil _ _
   · split
     · exact hx _ _ _ _
     · exact hc _ _
 · split
   · exact List.cons_ne_nil _ _
   · exact hc _ _
 · exact hc _ _
theorem chk_may {T : Tm} (h : T.chk = 0) : T.may = true := by
 unfold Tm.chk at h;cases hm : T.may with
 | true => rfl
 | false => rw [hm] at h; cases h
set_option maxRecDepth 100000 in
set_option maxHeartbeats 2000000 in
theorem write_Text (T : Tm) (ad : Option Addr) (cap : Nat) (w : World) (hM : T.size <= 1000000) (hT : AllT w) (hin : TmIn w T ad cap) :
 Calls Tryz.prog 12 #[tmv T ad cap] w fun e w' => e = .returned (.tuple #[.string ⟨T.writeText.toArray⟩, .int .i64 T.chk]) /\ Below w.heap.size w w' := by
 have HB0 := Lib.hid (fun o : Obj => (Below.refl _ w).alloc (Nat.le_refl _) o);have hck := fun o => term_Check T ad cap (w.alloc o) hM (hT.u.on (HB0.out o)) (hin.on (HB0.out o));unfold Tm.writeText;by_cases hc : T.chk = 0
 · have hmay := chk_may hc;have hne := txt_ne hmay 1200;rw [if_pos hc];rw [hc] at hck ⊢;have hwi := fun (W : World) (hW : Below w.heap.size w W) (b : Nat) (hbW : BW W.heap.size b [] W) => wr_within T.size T ad cap W W.heap.size b [] 1200 (Nat.le_refl _) hM hmay ⟨(hin.on hW).kind, (hin.on hW).n, (hin.on hW).name, (hin.on hW).len, (hin.on hW).cap, targs_in (hin.on hW).args⟩ (Nat.le_refl _);have HT := Lib.hid hT;have HIN := Lib.hid hin;have HCK := Lib.hid hck;have HNE := Lib.hid hne;have HWI := Lib.hid (fun (W : World) (hW : Below w.heap.size w W) (V : World) (hV : Below W.heap.size W V) (hbV : BW W.heap.size W.heap.size [] V) => wr_within T.size T ad cap V W.heap.size W.heap.size [] 1200 (Nat.le_refl _) hM hmay
    (TmP.onB (w := W) ⟨(hin.on hW).kind, (hin.on hW).n, (hin.on hW).name, (hin.on hW).len, (hin.on hW).cap, targs_in (hin.on hW).args⟩ hV) hV.size (fun U hU => (hT.on hW).on (hV.trans hU)) hbV (by rw [List.length_nil]; omega))
   clear hck hmay hne hwi hT hin hc;unfold tmv at *;generalize T.wr.txt 1200 = X at *;go_enter Tryz.func12, Tryz.ntmps12;go_wp2_with fail;refine (HCK.out _).mono ?_;rintro e w1 ⟨rfl, hb1⟩;have hB1 := (HB0.out _).trans (hb1.mono (by simp));have hX1 := (hb1.block w.heap.size (by simp)).trans (heap_alloc_new w _);have hs1 : w.heap.size < w1.heap.size := by have := hb1.size; rw [World.size_alloc] at this; omega
   clear hb1;obtain ⟨d0, d1, d2, d3⟩ := cellx4 hX1;have hfr : ∀ V, V = w1.alloc (.cells #[.pointer none, .slice none 0 0] 66) -> BW w1.heap.size w1.heap.size [] V := fun V hV => by subst hV; exact Lib.fresh_isBuilder _ _ w1
   have HFR := Lib.hid hfr;clear hfr;go_wp2_with fail;refine (HWI.out w1 hB1 _ ((Below.refl _ w1).alloc (Nat.le_refl _) _) (HFR.out _ rfl)).mono ?_;rintro e w2 ⟨rfl, hbw2, hbl2, hap2⟩;have hB2 := hB1.trans ((((Below.refl _ w1).alloc (Nat.le_refl _) _).trans hbl2).mono hB1.size);clear d0 d1 d2 d3 hX1 hbl2 hap2;go_wp2_with fail;refine (wr_String w1.heap.size w1.heap.size _ w2 hbw2 (by rw [List.nil_append]; exact HNE.out)).mono ?_;rintro e w3 ⟨rfl, hb3⟩;have hB3 := hB2.trans (hb3.mono hB1.size);clear hb3 hB2 hbw2;go_wp2_with fail;go_ret2;exact ⟨rfl, hB3⟩
 · rw [if_neg hc];have ec : (T.chk != 0) = true := by simpa using hc
   generalize T.chk = c at *;have HCK := Lib.hid hck;clear hck hT hin hc;unfold tmv at *;go_enter Tryz.func12, Tryz.ntmps12;go_wp2_with fail;refine (HCK.out _).mono ?_;rintro e w1 ⟨rfl, hb1⟩;have hB1 := (HB0.out _).trans (hb1.mono (by simp));clear hb1;go_wp2_with fail;go_ret2;exact ⟨rfl, hB1⟩
theorem cls_hi (c : Int) (h : 128 <= c) : cls c = 0 := by
 unfold cls;repeat (rw [if_neg (by omega)])
theorem last_cls (l : List UInt8) (h : l ≠ []) : cls ((Lib.decodeLastL l).1 : Int) = cls ((l.getD (l.length - 1) 0).toNat : Int) := by
 unfold Lib.decodeLastL;rw [if_neg h];by_cases hlo : (l.getD (l.length - 1) 0).toNat < 128
 · rw [if_pos hlo]
 · rw [if_neg hlo];dsimp only;rw [cls_hi ((l.getD (l.length - 1) 0).toNat : Int) (by omega)];split
   · rename_i he
     cases hd : l.drop (Lib.lastStart l) with
     | nil => decide
     | cons b t =>
      by_cases hb : b.toNat < 128
      · exfalso
        rw [hd, Lib.decodeL_ascii b t hb] at he;have hlen := congrArg List.length hd;rw [List.length_drop, List.length_cons] at hlen;have ht : t = [] := List.eq_nil_of_length_eq_zero (by simp only at he; omega);have h2 : l.getD (l.length - 1) 0 = b := by
         have h3 : (l.drop (Lib.lastStart l))[0]? = some b := by rw [hd]; rfl
         rw [List.getElem?_drop] at h3;have h4 : Lib.lastStart l + 0 = l.length - 1 := by simp only at he; omega
         rw [h4] at h3;rw [List.getD_eq_getElem?_getD, h3]; rfl
        rw [h2] at hlo;exact hlo hb
      · have hs : 0 < (⟨(b :: t).toArray⟩ : ByteArray).size := by show 0 < (b :: t).toArray.size; simp
        have h5 : 128 <= (Lib.decodeL (b :: t)).1 := (decode_high ⟨(b :: t).toArray⟩ 0 hs (show 128 <= b.toNat by omega)).1;exact cls_hi _ (by omega)
   · decide
theorem clause_of (l : List UInt8) (h : l ≠ []) : clauseL l = if cls ((Lib.decodeLastL l).1 : Int) = 4 then l ++ [32, 46, 10] else l ++ [46, 10] := by
 have hl : l.getLast? = some (l.getD (l.length - 1) 0) := by
  have hp : 0 < l.length := List.length_pos_iff.2 h;rw [List.getLast?_eq_getElem?, List.getD_eq_getElem?_getD, List.getElem?_eq_getElem (show l.length - 1 < l.length by omega)];rfl
 unfold clauseL;rw [hl, last_cls l h]
def Tm.writeClause (t : Tm) : List UInt8 := if t.chk = 0 then clauseL (t.wr.txt 1200) else []
set_option maxRecDepth 100000 in
set_option maxHeartbeats 2000000 in
theorem write_Clause (T : Tm) (ad : Option Addr) (cap : Nat) (w : World) (hM : T.size <= 1000000) (hT : AllT w) (hin : TmIn w T ad cap) :
 Calls Tryz.prog 7 #[tmv T ad cap] w fun e w' => e = .returned (.tuple #[.string ⟨T.writeClause.toArray⟩, .int .i64 T.chk]) /\ Below w.heap.size w w' := by
 have HB0 := Lib.hid (fun o : Obj => (Below.refl _ w).alloc (Nat.le_refl _) o);have hck := fun o => write_Text T ad cap (w.alloc o) hM (hT.on (HB0.out o)) (hin.on (HB0.out o));have hn64 : T.n64 := (Tm.n64_eq T).2 ⟨hin.n, hin.args.n64⟩;unfold Tm.writeClause;unfold Tm.writeText at hck;by_cases hc : T.chk = 0
 · have hmay := chk_may hc;have hne := txt_ne hmay 1200;have hxl := (wr_fits T hn64).1 1200;rw [if_pos hc, clause_of _ hne];rw [if_pos hc] at hck;rw [hc] at hck ⊢;generalize T.wr.txt 1200 = X at *;have hlen : X.length <= 2000000000 := by omega
   have hsz : (⟨X.toArray⟩ : ByteArray).size = X.length := by show X.toArray.size = _; simp
   have hdl := fun W hT => Tryz.utf8_DecodeLastRuneInString ⟨X.toArray⟩ W (by rw [hsz]; omega) hT;have ex : (⟨X.toArray⟩ : ByteArray).data.toList = X := by simp
   rw [ex] at hdl;have HDL := Lib.hid hdl;have HT := Lib.hid hT;have HCK := Lib.hid hck;by_cases h4 : cls ((Lib.decodeLastL X).1 : Int) = 4
   · rw [if_pos h4];have hcl := fun W => dev_Class ((Lib.decodeLastL X).1 : Int) W;rw [h4] at hcl;generalize (Lib.decodeLastL X).1 = r1 at *;generalize (Lib.decodeLastL X).2 = r2 at *;have HCL := Lib.hid hcl;have HR : Hid ((⟨X.toArray⟩ ++ ⟨#[32]⟩ ++ ⟨#[46, 10]⟩ : ByteArray).data.toList = X ++ [32, 46, 10]) := Lib.hid (by rw [data_cat, data_cat, ex]; simp);clear hck hmay hne hT hin hc hdl hcl h4 ex;unfold tmv at *;go_enter Tryz.func7, Tryz.ntmps7;go_wp2_with fail;refine (HCK.out _).mono ?_;rintro e w1 ⟨rfl, hb1⟩;have hB1 := (HB0.out _).trans (hb1.mono (by simp));clear hb1;go_wp2_with fail;refine (HDL.out _ (HT.out.on hB1).u.1).mono ?_;rintro e w2 ⟨rfl, hb2⟩;have hB2 := hB1.trans (hb2.mono hB1.size);clear hb2 hB1;go_wp2_with fail;refine (HCL.out _).mono ?_;rintro e w3 ⟨rfl, rfl⟩;go_wp2_with fail;go_ret2;exact ⟨by rw [show (⟨X.toArray⟩ ++ ⟨#[32]⟩ ++ ⟨#[46, 10]⟩ : ByteArray) = ⟨(X ++ [32, 46, 10]).toArray⟩ from of_list _ _ HR.out]; rfl, hB2⟩
   · rw [if_neg h4];have hcl := fun W => dev_Class ((Lib.decodeLastL X).1 : Int) W;have e4 : (cls ((Lib.decodeLastL X).1 : Int) == 4) = false := by simpa using h4
     generalize (Lib.decodeLastL X).1 = r1 at *;generalize (Lib.decodeLastL X).2 = r2 at *;generalize cls (r1 : Int) = cl at *;have HCL := Lib.hid hcl;have HR : Hid ((⟨X.toArray⟩ ++ ⟨#[46, 10]⟩ : ByteArray).data.toList = X ++ [46, 10]) := Lib.hid (by rw [data_cat, ex]);clear hck hmay hne hT hin hc hdl hcl h4 ex;unfold tmv at *;go_enter Tryz.func7, Tryz.ntmps7;go_wp2_with fail;refine (HCK.out _).mono ?_;rintro e w1 ⟨rfl, hb1⟩;have hB1 := (HB0.out _).trans (hb1.mono (by simp));clear hb1;go_wp2_with fail;refine (HDL.out _ (HT.out.on hB1).u.1).mono ?_;rintro e w2 ⟨rfl, hb2⟩;have hB2 := hB1.trans (hb2.mono hB1.size);clear hb2 hB1;go_wp2_with fail;refine (HCL.out _).mono ?_;rintro e w3 ⟨rfl, rfl⟩;go_wp2_with fail;go_ret2;exact ⟨by rw [show (⟨X.toArray⟩ ++ ⟨#[46, 10]⟩ : ByteArray) = ⟨(X ++ [46, 10]).toArray⟩ from of_list _ _ HR.out]; rfl, hB2⟩
 · rw [if_neg hc];rw [if_neg hc] at hck;have ec : (T.chk != 0) = true := by simpa using hc
   generalize T.chk = c at *;have HCK := Lib.hid hck;clear hck hT hin hc hn64;unfold tmv at *;go_enter Tryz.func7, Tryz.ntmps7;go_wp2_with fail;refine (HCK.out _).mono ?_;rintro e w1 ⟨rfl, hb1⟩;have hB1 := (HB0.out _).trans (hb1.mono (by simp));clear hb1;go_wp2_with fail;go_ret2;exact ⟨rfl, hB1⟩
def nI (n : Int) : Tm := .mk 3 ⟨#[]⟩ n []
def nA (s : ByteArray) : Tm := .mk 2 s 0 []
def nC (s : ByteArray) (l : List Tm) : Tm := .mk 4 s 0 l
def exP : Tm := nC ⟨#[43]⟩ [nI 1, nI 2]
def exA : Tm := nC ⟨#[42]⟩ [exP, nI 3]
def exB : Tm := nC ⟨#[45]⟩ [nA ⟨#[45]⟩, nI 1]
def exC : Tm := nC ⟨#[46]⟩ [nA ⟨#[97]⟩, .mk 1 ⟨#[]⟩ 0 []]
theorem exA_chk : exA.chk = 0 := by decide +kernel
theorem exA_txt : exA.writeText = [40, 49, 32, 43, 32, 50, 41, 32, 42, 32, 51] := by decide +kernel
theorem exB_chk : exB.chk = 0 := by decide +kernel
theorem exB_txt : exB.writeText = [40, 45, 41, 32, 45, 32, 49] := by decide +kernel
theorem exC_chk : exC.chk = 0 := by decide +kernel
theorem exC_txt : exC.writeText = [91, 97, 124, 95, 48, 93] := by decide +kernel
theorem exD_chk : (nA ⟨#[43]⟩).chk = 0 := by decide +kernel
theorem exD_txt : (nA ⟨#[43]⟩).writeClause = [43, 32, 46, 10] := by decide +kernel
theorem lvI (w : World) (n : Int) (h0 : -1000 <= n) (h1 : n <= 1000) : TmIn w (nI n) none 0 := leaf_in w (in64_small (by decide) (by decide)) (in64_small h0 h1) (by decide)
theorem lvN (w : World) (s : ByteArray) (hs : s.size <= maxLen) : TmIn w (nA s) none 0 := leaf_in w (in64_small (by decide) (by decide)) (in64_small (by decide) (by decide)) hs
theorem row2 {w : World} {a b : Tm} {ada adb : Option Addr} {ca cb : Nat} (ha : TmIn w a ada ca) (hb : TmIn w b adb cb) (C : Array Value) (hC : C = (tcells a ada ca ++ tcells b adb cb).toArray) (g : Nat) (hg : g = w.heap.size) :
 TArgs (w.alloc (.cells C 24)) (some ⟨g, 0, none⟩) [a, b] := by
 subst hC hg;have hba : Below w.heap.size w (w.alloc (.cells (tcells a ada ca ++ tcells b adb cb).toArray 24)) := (Below.refl _ w).alloc (Nat.le_refl _) _;have hcell : ∀ i, (w.alloc (.cells (tcells a ada ca ++ tcells b adb cb).toArray 24)).cell? ⟨w.heap.size, i, none⟩ = (tcells a ada ca ++ tcells b adb cb).toArray[i]? := fun i => World.cell?_alloc_at _ _ _ _ rfl;rw [a.eta, b.eta];refine .cons _ _ _ _ _ _ _ ada ca (hcell 0) (hcell 1) (hcell 2) (hcell 3) ha.kind ha.n ha.name ha.len ha.cap (ha.args.on hba) ?_;exact .cons _ _ _ _ _ _ _ adb cb (hcell 4) (hcell 5) (hcell 6) (hcell 7) hb.kind hb.n hb.name hb.len hb.cap (hb.args.on hba) (.nil _)
set_option maxRecDepth 100000 in
set_option maxHeartbeats 4000000 in
theorem write_live (w : World) (hT : AllT w) :
 Calls Tryz.prog 5 #[] w fun e w' => e = .returned (.bool true) /\ Below w.heap.size w w' := by
 have HT := Lib.hid hT;clear hT;have cA : ∀ W g, AllT W -> TArgs W (some ⟨g, 0, none⟩) [exP, nI 3] -> Calls Tryz.prog 12 #[.agg #[.int .i64 4, .string ⟨#[42]⟩, .int .i64 0, .slice (some ⟨g, 0, none⟩) 2 2]] W fun e w' => e = .returned (.tuple #[.string ⟨#[40, 49, 32, 43, 32, 50, 41, 32, 42, 32, 51]⟩, .int .i64 0]) /\ Below W.heap.size W w' := fun W g hT h => by
  have h1 := write_Text exA (some ⟨g, 0, none⟩) 2 W (by decide) hT (comp_in (ts := [exP, nI 3]) (by decide) (Nat.le_refl 2) (by decide) h (Below.refl _ W));rw [exA_chk, exA_txt] at h1;exact h1
 have cB : ∀ W g, AllT W -> TArgs W (some ⟨g, 0, none⟩) [nA ⟨#[45]⟩, nI 1] -> Calls Tryz.prog 12 #[.agg #[.int .i64 4, .string ⟨#[45]⟩, .int .i64 0, .slice (some ⟨g, 0, none⟩) 2 2]] W fun e w' => e = .returned (.tuple #[.string ⟨#[40, 45, 41, 32, 45, 32, 49]⟩, .int .i64 0]) /\ Below W.heap.size W w' := fun W g hT h => by
  have h1 := write_Text exB (some ⟨g, 0, none⟩) 2 W (by decide) hT (comp_in (ts := [nA ⟨#[45]⟩, nI 1]) (by decide) (Nat.le_refl 2) (by decide) h (Below.refl _ W));rw [exB_chk, exB_txt] at h1;exact h1
 have cC : ∀ W g, AllT W -> TArgs W (some ⟨g, 0, none⟩) [nA ⟨#[97]⟩, .mk 1 ⟨#[]⟩ 0 []] -> Calls Tryz.prog 12 #[.agg #[.int .i64 4, .string ⟨#[46]⟩, .int .i64 0, .slice (some ⟨g, 0, none⟩) 2 2]] W fun e w' => e = .returned (.tuple #[.string ⟨#[91, 97, 124, 95, 48, 93]⟩, .int .i64 0]) /\ Below W.heap.size W w' := fun W g hT h => by
  have h1 := write_Text exC (some ⟨g, 0, none⟩) 2 W (by decide) hT (comp_in (ts := [nA ⟨#[97]⟩, .mk 1 ⟨#[]⟩ 0 []]) (by decide) (Nat.le_refl 2) (by decide) h (Below.refl _ W));rw [exC_chk, exC_txt] at h1;exact h1
 have cD : ∀ W, AllT W -> Calls Tryz.prog 7 #[.agg #[.int .i64 2, .string ⟨#[43]⟩, .int .i64 0, .slice none 0 0]] W fun e w' => e = .returned (.tuple #[.string ⟨#[43, 32, 46, 10]⟩, .int .i64 0]) /\ Below W.heap.size W w' := fun W hT => by
  have h1 := write_Clause (nA ⟨#[43]⟩) none 0 W (by decide) hT (lvN W _ (by decide));rw [exD_chk, exD_txt] at h1;exact h1
 have HCA := Lib.hid cA;have HCB := Lib.hid cB;have HCC := Lib.hid cC;have HCD := Lib.hid cD;clear cA cB cC cD;go_enter Tryz.func5, Tryz.ntmps5;go_wp2_with fail;refine (ref_Int1 _ _).mono ?_; rintro e w1 ⟨rfl, hb1⟩;go_wp2_with fail;generalize hw0 : w1.alloc _ = w0;have hw0b : Below w.heap.size w w0 := by rw [<- hw0]; exact hb1.alloc hb1.size _
 have hw0s : w0.heap.size = w1.heap.size + 1 := by rw [<- hw0]; simp
 have hx : w0.heap[w1.heap.size]? = some (.cells #[.int .i64 3, .string ⟨#[]⟩, .int .i64 1, .slice none 0 0] 24 (0, 0)) := by rw [<- hw0]; exact heap_alloc_new w1 _
 have HKEEP : Hid (∀ W, Below w0.heap.size w0 W -> Below w0.heap.size w0 W /\ W.cell? ⟨w1.heap.size, 0, none⟩ = some (.int .i64 3) /\ W.cell? ⟨w1.heap.size, 1, none⟩ = some (.string ⟨#[]⟩) /\ W.cell? ⟨w1.heap.size, 2, none⟩ = some (.int .i64 1) /\ W.cell? ⟨w1.heap.size, 3, none⟩ = some (.slice none 0 0)) :=
  Lib.hid (fun W hb => ⟨hb, cellx4 ((hb.block w1.heap.size (by omega)).trans hx)⟩)
 have HST : Hid (∀ W W', Below w0.heap.size w0 W -> Below W.heap.size W W' -> Below w0.heap.size w0 W') := Lib.hid (fun W W' h h' => h.trans (h'.mono h.size));have HSW : Hid (∀ W, Below w0.heap.size w0 W -> Below w.heap.size w W) := Lib.hid (fun W h => hw0b.trans (h.mono hw0b.size));have HTB : Hid (∀ W, Below w0.heap.size w0 W -> AllT W) := Lib.hid (fun W h => HT.out.on (HSW.out W h));have hD0 : Below w0.heap.size w0 w0.drew := (Below.refl _ w0).drew;have hK0 := HKEEP.out _ (Below.refl _ w0);clear hw0 hx hb1;go_region_held3 (fun W => Below w0.heap.size w0 W /\ W.cell? ⟨w1.heap.size, 0, none⟩ = some (.int .i64 3) /\ W.cell? ⟨w1.heap.size, 1, none⟩ = some (.string ⟨#[]⟩) /\ W.cell? ⟨w1.heap.size, 2, none⟩ = some (.int .i64 1) /\ W.cell? ⟨w1.heap.size, 3, none⟩ = some (.slice none 0 0))
  (first | exact HKEEP.out _ hD0 | exact HKEEP.out _ b5 | exact HKEEP.out _ b4 | exact HKEEP.out _ (b3.alloc b3.size _) | exact HKEEP.out _ b3 | exact HKEEP.out _ b2 | exact HKEEP.out _ (b1.alloc b1.size _) | exact HKEEP.out _ b1)
  (first
    | (go_at_call 12; (refine (HCA.out _ _ (HTB.out _ b4) ((row2 (comp_in (by decide) (Nat.le_refl 2) (by decide) ((row2 (lvI v1 1 (by decide) (by decide)) (lvI v1 2 (by decide) (by decide)) _ rfl _ rfl).on c2) c3) (lvI _ 3 (by decide) (by decide)) _ rfl _ rfl).on c4)).mono ?_); rintro e v5 ⟨rfl, c5⟩; have b5 := HST.out _ _ b4 c5)
    | (go_at_call 15; have _h := c3; (with_reducible refine (ref_Comp1 _ _ _ _ _).mono ?_); rintro e v4 ⟨rfl, c4⟩; have b4 := HST.out _ _ (b3.alloc b3.size _) c4)
    | (go_at_call 14; have _h := c2; (with_reducible refine (ref_Int1 _ _).mono ?_); rintro e v3 ⟨rfl, c3⟩; have b3 := HST.out _ _ b2 c3)
    | (go_at_call 15; (with_reducible refine (ref_Comp1 _ _ _ _ _).mono ?_); rintro e v2 ⟨rfl, c2⟩; have b2 := HST.out _ _ (b1.alloc b1.size _) c2)
    | (go_at_call 14; (with_reducible refine (ref_Int1 _ _).mono ?_); rintro e v1 ⟨rfl, c1⟩; have b1 := HST.out _ _ hD0 c1))
 all_goals
  go_wp2_with fail;have hD5 : Below w0.heap.size w0 v5.drew := b5.drew;have hK5 := HKEEP.out _ b5;clear b1 b2 b3 b4 c1 c2 c3 c4 c5 hK0 hD0;go_region_held3 (fun W => Below w0.heap.size w0 W /\ W.cell? ⟨w1.heap.size, 0, none⟩ = some (.int .i64 3) /\ W.cell? ⟨w1.heap.size, 1, none⟩ = some (.string ⟨#[]⟩) /\ W.cell? ⟨w1.heap.size, 2, none⟩ = some (.int .i64 1) /\ W.cell? ⟨w1.heap.size, 3, none⟩ = some (.slice none 0 0))
   (first | exact HKEEP.out _ hD5 | exact HKEEP.out _ b8 | exact HKEEP.out _ b7 | exact HKEEP.out _ (b6.alloc b6.size _) | exact HKEEP.out _ b6 | exact HKEEP.out _ b5)
   (first
     | (go_at_call 12; (refine (HCB.out _ _ (HTB.out _ b7) ((row2 (lvN v6 ⟨#[45]⟩ (by decide)) (lvI v6 1 (by decide) (by decide)) _ rfl _ rfl).on c7)).mono ?_); rintro e v8 ⟨rfl, c8⟩; have b8 := HST.out _ _ b7 c8)
     | (go_at_call 15; have _h := c6; (with_reducible refine (ref_Comp1 _ _ _ _ _).mono ?_); rintro e v7 ⟨rfl, c7⟩; have b7 := HST.out _ _ (b6.alloc b6.size _) c7)
     | (go_at_call 16; (with_reducible refine (ref_Atom1 _ _).mono ?_); rintro e v6 ⟨rfl, c6⟩; have b6 := HST.out _ _ hD5 c6))
 all_goals
  clear hK5 hD5;go_wp2_with fail;refine (ref_Atom1 _ _).mono ?_; rintro e v9 ⟨rfl, c9⟩;have b9 := HST.out _ _ b8 c9;go_wp2_with fail;refine (ref_Var1 _ _).mono ?_; rintro e v10 ⟨rfl, c10⟩;have b10 := HST.out _ _ b9 c10;go_wp2_with fail;refine (ref_Comp1 _ _ _ _ _).mono ?_; rintro e v11 ⟨rfl, c11⟩;have b11 := HST.out _ _ (b10.alloc b10.size _) c11;go_wp2_with fail;refine (HCC.out _ _ (HTB.out _ b11) ((row2 (lvN v10 ⟨#[97]⟩ (by decide)) (leaf_in v10 (k := 1) (n := 0) (s := ⟨#[]⟩) (in64_small (by decide) (by decide)) (in64_small (by decide) (by decide)) (by decide)) _ rfl _ rfl).on c11)).mono ?_; rintro e v12 ⟨rfl, c12⟩;have b12 := HST.out _ _ b11 c12;go_wp2_with fail;refine (ref_Atom1 _ _).mono ?_; rintro e v13 ⟨rfl, c13⟩;have b13 := HST.out _ _ b12 c13;go_wp2_with fail;refine (HCD.out _ (HTB.out _ b13)).mono ?_; rintro e v14 ⟨rfl, c14⟩;have b14 := HST.out _ _ b13 c14;go_wp2_with fail;go_ret;exact ⟨rfl, HSW.out _ b14⟩
end Go.Proofs.YtdjejbgokamjeaaGreatDoor
