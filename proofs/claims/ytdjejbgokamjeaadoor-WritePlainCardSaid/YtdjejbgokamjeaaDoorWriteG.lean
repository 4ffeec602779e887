/-
  Package write's comp and within (printed by gen/genWriteG.py).
-/
import Derived.Test.YtdjejbgokamjeaaDoorWriteF
namespace Go.Proofs.YtdjejbgokamjeaaDoor
open Go.RowKit

theorem comp_pair {T : Tm} (h : PairT T) (p : Int) : compK T.name.data.toList (T.args.map Tm.wr) p = T.wr.txt 999 := by
  obtain ⟨a, d, hl, _, h1, _⟩ := h.two
  rw [h1, hl, h.2.1]
  rfl
theorem comp_curly {T x : Tm} (hs : T.name.data.toList = [123, 125]) (hl : T.args = [x]) (p : Int) : compK T.name.data.toList (T.args.map Tm.wr) p = 123 :: (x.wr.txt 1200 ++ [125]) := by
  rw [hs, hl]; rfl
theorem comp_infix {T x y : Tm} {o : R} (hk : T.kind = 4) (hp : ¬ PairT T) (hl : T.args = [x, y]) (ho : opR T.name.data.toList 3 = some o) (p : Int) : compK T.name.data.toList (T.args.map Tm.wr) p = infixK T.name.data.toList o x.wr y.wr p := by
  rw [hl]
  show (if T.name.data.toList = [46] then _ else _) = _
  rw [if_neg (fun h => hp ⟨hk, h, by rw [hl]; rfl⟩), ho]
theorem comp_call {T : Tm} (hk : T.kind = 4) (hp : ¬ PairT T) (h1 : ¬ (T.name.data.toList = [123, 125] ∧ T.args.length = 1)) (h2 : T.args.length = 2 → opR T.name.data.toList 3 = none) (p : Int) : compK T.name.data.toList (T.args.map Tm.wr) p = callK T.name.data.toList (T.args.map Tm.wr) := by
  match hl : T.args with
  | [] => rfl
  | [x] =>
    show (if T.name.data.toList = [123, 125] then _ else _) = _
    rw [if_neg (fun h => h1 ⟨h, by rw [hl]; rfl⟩)]
  | [x, y] =>
    show (if T.name.data.toList = [46] then _ else _) = _
    rw [if_neg (fun h => hp ⟨hk, h, by rw [hl]; rfl⟩), h2 (by rw [hl]; rfl)]
  | _ :: _ :: _ :: _ => rfl
theorem may_comps {T : Tm} (h : T.may = true) (h4 : T.kind = 4) : Tm.mays T.args = true ∧ 1 ≤ T.args.length ∧ T.args.length ≤ 16 := by
  rw [Tm.may_eq, h4] at h
  unfold mayK at h
  rw [if_neg (by decide), if_neg (by decide), if_neg (by decide), if_pos rfl] at h
  simp only [Bool.and_eq_true, decide_eq_true_eq] at h
  exact ⟨h.2.2.2.2, h.2.2.1, h.2.2.2.1⟩

set_option maxRecDepth 100000 in
set_option maxHeartbeats 4000000 in
theorem wr_compA (m : Nat) (IH : WrWithin m) (T : Tm) (ad : Option Addr) (cap : Nat) (w : World) (B b : Nat) (l : List UInt8) (p : Int) (hk4 : T.kind = 4) (hm : T.size ≤ m + 1) (hM : T.size ≤ 1000000) (hmay : T.may = true) (hin : TmP w (fun k => k < B) T ad cap) (hB : B ≤ w.heap.size) (hT : ∀ W, Below B w W → AllT W) (hbw : BW B b l w) (hl : l.length + 1400 * T.size ≤ 2000000000) (hp : PairT T) :
    Calls Tryd.prog 33 #[.pointer (some ⟨b, 0, none⟩), tmv T ad cap, .int .i64 p] w (Laid B b w (l ++ compK T.name.data.toList (T.args.map Tm.wr) p)) := by
  have hlt := hbw.lt
  have hip := fun W => wr_isPair T.kind T.n T.name ad T.args.length cap W
  have hif := fun W => ops_Infix T.name W
  rw [← opR_name] at hif
  obtain ⟨hmays, hlen1, hlen16⟩ := may_comps hmay hk4
  have HIN := Lib.hid hin
  have HT := Lib.hid hT
  have HBW := Lib.hid hbw
  have HMY := Lib.hid hmays
  have HIH := Lib.hid IH
  have HB0 := Lib.hid (fun o : Obj => (Below.refl B w).alloc hB o)
  have HA0 := Lib.hid (fun o : Obj => (Lib.OthersKept.refl 5 (some b) w).alloc o)
  rw [pairB_of hp] at hip
  rw [comp_pair hp]
  have hli := fun (W : World) (hW : Below B w W) (hbW : BW B b l W) => wr_list m IH T ad cap W B b l hp hm hM hmay (hin.onB hW) (Nat.le_trans hB hW.size) (fun V hV => hT V (hW.trans hV)) hbW hl (T.wr.txt 999) (fun q => by obtain ⟨_, _, _, _, h1, _⟩ := hp.two; rw [h1, h1])
  unfold tmv at hli
  obtain ⟨P, K, ea⟩ := opAns_two (opR T.name.data.toList 3)
  rw [ea] at hif
  generalize (opR T.name.data.toList 3).isSome = BB at *
  have HLI := Lib.hid hli
  have HIF := Lib.hid hif
  have HIP := Lib.hid hip
  unfold tmv
  rw [hk4] at HLI HIP ⊢
  rw [hp.2.2] at HLI HIP ⊢
  clear hli ea hp
  clear hif hip hin hT hbw hmays hmay IH hk4
  go_enter Tryd.func33, Tryd.ntmps33
  go_wp2_with fail
  refine (HIF.out _).mono ?_
  rintro e w1 ⟨rfl, hb1⟩
  have hX1 := (hb1.block w.heap.size (by simp)).trans (heap_alloc_new w _)
  have hB1 := (HB0.out _).trans (hb1.mono (by simp; omega))
  have hA1 := apart_on (HA0.out _) hb1
  have hW1 := (HBW.out.past _).on hb1
  have hs1 : w.heap.size < w1.heap.size := by have := hb1.size; rw [World.size_alloc] at this; omega
  obtain ⟨d0, d1, d2, d3⟩ := cellx4 hX1
  clear hb1
  go_wp2_with fail
  clear d0 d1 d2 d3
  have hX2 := (Lib.alloc_old w1 (.cells #[.int .i64 P, .string K] 51) _ hs1).trans hX1
  have hO2 := heap_alloc_new w1 (.cells #[.int .i64 P, .string K] 51)
  have hB2 := hB1.alloc (Nat.le_trans hB hB1.size) (.cells #[.int .i64 P, .string K] 51)
  have hA2 := hA1.alloc (.cells #[.int .i64 P, .string K] 51)
  have hW2 := hW1.past (.cells #[.int .i64 P, .string K] 51)
  have hs2 : w1.heap.size < (w1.alloc (.cells #[.int .i64 P, .string K] 51)).heap.size := by simp
  generalize w1.alloc (.cells #[.int .i64 P, .string K] 51) = w2 at *
  obtain ⟨d0, d1, d2, d3⟩ := cellx4 hX2
  obtain ⟨e0, e1⟩ := cellx2 hO2
  clear hX1 hB1 hA1 hW1
  go_wp2_with fail
  refine (HIP.out _).mono ?_
  rintro e w3 ⟨rfl, hb3⟩
  have hX3 := (hb3.block w.heap.size (by omega)).trans hX2
  have hO3 := (hb3.block w1.heap.size hs2).trans hO2
  have hB3 := hB2.trans (hb3.mono (Nat.le_trans hB hB2.size))
  have hA3 := apart_on hA2 hb3
  have hW3 := hW2.on hb3
  have hne0 : w.heap.size ≠ b := by omega
  have hne1 : w1.heap.size ≠ b := by omega
  have hBw := Nat.le_trans hB hB3.size
  clear d0 d1 d2 d3 e0 e1 hb3 hX2 hO2 hB2 hA2 hW2
  obtain ⟨d0, d1, d2, d3⟩ := cellx4 hX3
  obtain ⟨e0, e1⟩ := cellx2 hO3
  go_wp2_with fail
  refine (HLI.out _ hB3 hW3).mono ?_
  rintro e w4 ⟨rfl, hbw4, hbl4, hap4⟩
  have hbl5 := hB3.trans hbl4
  have hap5 := hA3.trans hap4
  clear hbl4 hap4 d0 d1 d2 d3 e0 e1 hX3 hO3 hB3 hA3 hW3
  go_wp2_with fail
  go_end0
  exact ⟨rfl, hbw4, hbl5, hap5⟩

set_option maxRecDepth 100000 in
set_option maxHeartbeats 4000000 in
theorem wr_compB (m : Nat) (IH : WrWithin m) (T : Tm) (ad : Option Addr) (cap : Nat) (w : World) (B b : Nat) (l : List UInt8) (p : Int) (hk4 : T.kind = 4) (hm : T.size ≤ m + 1) (hM : T.size ≤ 1000000) (hmay : T.may = true) (hin : TmP w (fun k => k < B) T ad cap) (hB : B ≤ w.heap.size) (hT : ∀ W, Below B w W → AllT W) (hbw : BW B b l w) (hl : l.length + 1400 * T.size ≤ 2000000000) (hs : T.name.data.toList = [123, 125]) (hl1 : T.args.length = 1) :
    Calls Tryd.prog 33 #[.pointer (some ⟨b, 0, none⟩), tmv T ad cap, .int .i64 p] w (Laid B b w (l ++ compK T.name.data.toList (T.args.map Tm.wr) p)) := by
  have hlt := hbw.lt
  have hip := fun W => wr_isPair T.kind T.n T.name ad T.args.length cap W
  have hif := fun W => ops_Infix T.name W
  rw [← opR_name] at hif
  obtain ⟨hmays, hlen1, hlen16⟩ := may_comps hmay hk4
  have HIN := Lib.hid hin
  have HT := Lib.hid hT
  have HBW := Lib.hid hbw
  have HMY := Lib.hid hmays
  have HIH := Lib.hid IH
  have HB0 := Lib.hid (fun o : Obj => (Below.refl B w).alloc hB o)
  have HA0 := Lib.hid (fun o : Obj => (Lib.OthersKept.refl 5 (some b) w).alloc o)
  obtain ⟨x, hx⟩ : ∃ x, T.args = [x] := by
    match h : T.args, hl1 with
    | [x], _ => exact ⟨x, rfl⟩
  have hsz : T.size = 1 + x.size := by rw [T.size_eq, hx]; rfl
  have hmx : x.may = true := by rw [hx] at hmays; have e : Tm.mays [x] = (x.may && true) := rfl; rw [e] at hmays; simpa using hmays
  have hp : ¬ PairT T := fun h => by have := h.2.1; rw [hs] at this; cases this
  rw [pairB_no hp] at hip
  rw [comp_curly hs hx]
  have es : T.name = ⟨#[123, 125]⟩ := by apply ByteArray.ext; rw [← Array.toList_inj]; exact hs
  have en : opR [123, 125] 3 = none := by decide +kernel
  rw [hs, en] at hif
  have hif : ∀ W, Calls Tryd.prog 51 #[.string T.name] W fun e w' => e = .returned (.tuple #[.agg #[.int .i64 0, .string ⟨#[]⟩], .bool false]) ∧ Below W.heap.size W w' := hif
  obtain ⟨o1, o2, rfl⟩ := hin.args.addr' (by omega)
  obtain ⟨adx, capx, x0, x1, x2, x3, hinx⟩ := hin.args.get 0 (by omega)
  have ex : T.args[0]'(by omega) = x := by simp [hx]
  rw [Nat.zero_mul, Nat.add_zero, ex] at x0 x1 x2 x3
  rw [ex] at hinx
  have ho1 : o1 < B := by
    have h := hin.args
    rw [hx] at h
    cases h with
    | cons _ _ _ _ _ _ _ _ _ hp => exact hp
  have hxc := fun (W : World) (hW : Below B w W) => (⟨(hW.cell (p := ⟨o1, o2, none⟩) ho1).trans x0, (hW.cell (p := ⟨o1, o2 + 1, none⟩) ho1).trans x1, (hW.cell (p := ⟨o1, o2 + 2, none⟩) ho1).trans x2, (hW.cell (p := ⟨o1, o2 + 3, none⟩) ho1).trans x3⟩ : W.cell? ⟨o1, o2, none⟩ = some (.int .i64 x.kind) ∧ W.cell? ⟨o1, o2 + 1, none⟩ = some (.string x.name) ∧ W.cell? ⟨o1, o2 + 2, none⟩ = some (.int .i64 x.n) ∧ W.cell? ⟨o1, o2 + 3, none⟩ = some (.slice adx x.args.length capx))
  have hwi := fun (W : World) (hW : Below B w W) (hbW : BW B b (l ++ [123]) W) => IH x adx capx W B b (l ++ [123]) 1200 (by omega) (by omega) hmx (hinx.onB hW) (Nat.le_trans hB hW.size) (fun V hV => hT V (hW.trans hV)) hbW (by rw [List.length_append, List.length_singleton]; omega)
  unfold tmv at hwi
  have hxf := (wr_fits x hinx.n64).1 1200
  generalize x.wr.txt 1200 = X at *
  have HWI := Lib.hid hwi
  have HXC := Lib.hid hxc
  have HIF := Lib.hid hif
  have HIP := Lib.hid hip
  unfold tmv
  rw [hk4] at HIP ⊢
  rw [hl1] at HIP ⊢
  rw [es] at *
  clear hwi hxc x0 x1 x2 x3 hinx ex hx hs en
  clear hif hip hin hT hbw hmays hmay IH hk4
  go_enter Tryd.func33, Tryd.ntmps33
  go_wp2_with fail
  refine (HIF.out _).mono ?_
  rintro e w1 ⟨rfl, hb1⟩
  have hX1 := (hb1.block w.heap.size (by simp)).trans (heap_alloc_new w _)
  have hB1 := (HB0.out _).trans (hb1.mono (by simp; omega))
  have hA1 := apart_on (HA0.out _) hb1
  have hW1 := (HBW.out.past _).on hb1
  have hs1 : w.heap.size < w1.heap.size := by have := hb1.size; rw [World.size_alloc] at this; omega
  obtain ⟨d0, d1, d2, d3⟩ := cellx4 hX1
  clear hb1
  go_wp2_with fail
  clear d0 d1 d2 d3
  have hX2 := (Lib.alloc_old w1 (.cells #[.int .i64 0, .string ⟨#[]⟩] 51) _ hs1).trans hX1
  have hO2 := heap_alloc_new w1 (.cells #[.int .i64 0, .string ⟨#[]⟩] 51)
  have hB2 := hB1.alloc (Nat.le_trans hB hB1.size) (.cells #[.int .i64 0, .string ⟨#[]⟩] 51)
  have hA2 := hA1.alloc (.cells #[.int .i64 0, .string ⟨#[]⟩] 51)
  have hW2 := hW1.past (.cells #[.int .i64 0, .string ⟨#[]⟩] 51)
  have hs2 : w1.heap.size < (w1.alloc (.cells #[.int .i64 0, .string ⟨#[]⟩] 51)).heap.size := by simp
  generalize w1.alloc (.cells #[.int .i64 0, .string ⟨#[]⟩] 51) = w2 at *
  obtain ⟨d0, d1, d2, d3⟩ := cellx4 hX2
  obtain ⟨e0, e1⟩ := cellx2 hO2
  clear hX1 hB1 hA1 hW1
  go_wp2_with fail
  refine (HIP.out _).mono ?_
  rintro e w3 ⟨rfl, hb3⟩
  have hX3 := (hb3.block w.heap.size (by omega)).trans hX2
  have hO3 := (hb3.block w1.heap.size hs2).trans hO2
  have hB3 := hB2.trans (hb3.mono (Nat.le_trans hB hB2.size))
  have hA3 := apart_on hA2 hb3
  have hW3 := hW2.on hb3
  have hne0 : w.heap.size ≠ b := by omega
  have hne1 : w1.heap.size ≠ b := by omega
  have hBw := Nat.le_trans hB hB3.size
  clear d0 d1 d2 d3 e0 e1 hb3 hX2 hO2 hB2 hA2 hW2
  obtain ⟨d0, d1, d2, d3⟩ := cellx4 hX3
  obtain ⟨e0, e1⟩ := cellx2 hO3
  go_wp2_with fail
  refine (wr_lay1 B b l _ _ w3 (by simp) hW3 (by show _ + 1 ≤ _; omega) hBw).mono ?_
  rintro e w4 ⟨rfl, hbw4, hbl4, hap4⟩
  have hX4 := apart_keep hap4 hX3 (by decide) hne0
  have hB4 := hB3.trans hbl4
  have hA4 := hA3.trans hap4
  clear d0 d1 d2 d3 e0 e1 hbl4 hap4
  obtain ⟨d0, d1, d2, d3⟩ := cellx4 hX4
  obtain ⟨x0, x1, x2, x3⟩ := HXC.out _ hB4
  go_wp2_with fail
  refine (HWI.out _ hB4 hbw4).mono ?_
  rintro e w5 ⟨rfl, hbw5, hbl5, hap5⟩
  have hB5 := hB4.trans hbl5
  have hA5 := hA4.trans hap5
  clear d0 d1 d2 d3 x0 x1 x2 x3 hbl5 hap5 hbw4
  go_wp2_with fail
  refine (wr_lay1 B b _ _ _ w5 (by simp) hbw5 (by rw [List.length_append, List.length_append, List.length_singleton]; show _ + 1 ≤ _; omega) (Nat.le_trans hB hB5.size)).mono ?_
  rintro e w6 ⟨rfl, hbw6, hbl6, hap6⟩
  have hbl7 := hB5.trans hbl6
  have hap7 := hA5.trans hap6
  have hbw7 : BW B b (l ++ 123 :: (X ++ [125])) w6 := by
    have e1 : l ++ 123 :: (X ++ [125]) = l ++ [123] ++ X ++ (⟨#[125]⟩ : ByteArray).data.toList := by simp
    rw [e1]; exact hbw6
  clear hbl6 hap6 hbw6
  go_wp2_with fail
  go_end0
  exact ⟨rfl, hbw7, hbl7, hap7⟩

set_option maxRecDepth 100000 in
set_option maxHeartbeats 4000000 in
theorem wr_compD (m : Nat) (IH : WrWithin m) (T : Tm) (ad : Option Addr) (cap : Nat) (w : World) (B b : Nat) (l : List UInt8) (p : Int) (hk4 : T.kind = 4) (hm : T.size ≤ m + 1) (hM : T.size ≤ 1000000) (hmay : T.may = true) (hin : TmP w (fun k => k < B) T ad cap) (hB : B ≤ w.heap.size) (hT : ∀ W, Below B w W → AllT W) (hbw : BW B b l w) (hl : l.length + 1400 * T.size ≤ 2000000000) (o : R) (hp : ¬ PairT T) (ho : opR T.name.data.toList 3 = some o) (hl2 : T.args.length = 2) (hpr : o.p ≤ p) :
    Calls Tryd.prog 33 #[.pointer (some ⟨b, 0, none⟩), tmv T ad cap, .int .i64 p] w (Laid B b w (l ++ compK T.name.data.toList (T.args.map Tm.wr) p)) := by
  have hlt := hbw.lt
  have hip := fun W => wr_isPair T.kind T.n T.name ad T.args.length cap W
  have hif := fun W => ops_Infix T.name W
  rw [← opR_name] at hif
  obtain ⟨hmays, hlen1, hlen16⟩ := may_comps hmay hk4
  have HIN := Lib.hid hin
  have HT := Lib.hid hT
  have HBW := Lib.hid hbw
  have HMY := Lib.hid hmays
  have HIH := Lib.hid IH
  have HB0 := Lib.hid (fun o : Obj => (Below.refl B w).alloc hB o)
  have HA0 := Lib.hid (fun o : Obj => (Lib.OthersKept.refl 5 (some b) w).alloc o)
  obtain ⟨x, y, hxy⟩ : ∃ x y, T.args = [x, y] := by
    match h : T.args, hl2 with
    | [x, y], _ => exact ⟨x, y, rfl⟩
  have hnc : T.name.data.toList ≠ [123, 125] := fun h => by rw [h, show opR [123, 125] 3 = none from by decide +kernel] at ho; cases ho
  have hmxy : x.may = true ∧ y.may = true := may_two hmay hk4 hxy
  rw [pairB_no hp] at hip
  rw [ho] at hif
  rw [comp_infix hk4 hp hxy ho]
  have hif : ∀ W, Calls Tryd.prog 51 #[.string T.name] W fun e w' => e = .returned (.tuple #[.agg #[.int .i64 o.p, .string o.k], .bool true]) ∧ Below W.heap.size W w' := hif
  have e1 : (T.name.toList == [123, 125]) = false := by rw [ByteArray.toList_eq]; exact beq_eq_false_iff_ne.2 hnc
  have hfx := fun (l2 : List UInt8) (hl2 : l2.length + 1400 * T.size ≤ 2000000010) (W : World) (hW : Below B w W) (hbW : BW B b l2 W) => wr_infix m IH T x y o ad cap W B b l2 hxy hm hM hmxy.1 hmxy.2 (hin.onB hW) (Nat.le_trans hB hW.size) (fun V hV => hT V (hW.trans hV)) hbW hl2
  unfold tmv at hfx
  unfold infixK
  rw [if_neg (by omega)]
  have e2 : decide (p < o.p) = false := decide_eq_false (by omega)
  generalize x.wr.opd (leftOf o.k o.p) ++ (betweenK T.name.data.toList ++ y.wr.opd (rightOf o.k o.p)) = X at *
  have HFX := Lib.hid hfx
  have HIF := Lib.hid hif
  have HIP := Lib.hid hip
  unfold tmv
  rw [hk4] at HFX HIP ⊢
  rw [hl2] at HFX HIP ⊢
  clear hfx hxy hnc ho hp
  clear hif hip hin hT hbw hmays hmay IH hk4
  go_enter Tryd.func33, Tryd.ntmps33
  go_wp2_with fail
  refine (HIF.out _).mono ?_
  rintro e w1 ⟨rfl, hb1⟩
  have hX1 := (hb1.block w.heap.size (by simp)).trans (heap_alloc_new w _)
  have hB1 := (HB0.out _).trans (hb1.mono (by simp; omega))
  have hA1 := apart_on (HA0.out _) hb1
  have hW1 := (HBW.out.past _).on hb1
  have hs1 : w.heap.size < w1.heap.size := by have := hb1.size; rw [World.size_alloc] at this; omega
  obtain ⟨d0, d1, d2, d3⟩ := cellx4 hX1
  clear hb1
  go_wp2_with fail
  clear d0 d1 d2 d3
  have hX2 := (Lib.alloc_old w1 (.cells #[.int .i64 o.p, .string o.k] 51) _ hs1).trans hX1
  have hO2 := heap_alloc_new w1 (.cells #[.int .i64 o.p, .string o.k] 51)
  have hB2 := hB1.alloc (Nat.le_trans hB hB1.size) (.cells #[.int .i64 o.p, .string o.k] 51)
  have hA2 := hA1.alloc (.cells #[.int .i64 o.p, .string o.k] 51)
  have hW2 := hW1.past (.cells #[.int .i64 o.p, .string o.k] 51)
  have hs2 : w1.heap.size < (w1.alloc (.cells #[.int .i64 o.p, .string o.k] 51)).heap.size := by simp
  generalize w1.alloc (.cells #[.int .i64 o.p, .string o.k] 51) = w2 at *
  obtain ⟨d0, d1, d2, d3⟩ := cellx4 hX2
  obtain ⟨e0, e1⟩ := cellx2 hO2
  clear hX1 hB1 hA1 hW1
  go_wp2_with fail
  refine (HIP.out _).mono ?_
  rintro e w3 ⟨rfl, hb3⟩
  have hX3 := (hb3.block w.heap.size (by omega)).trans hX2
  have hO3 := (hb3.block w1.heap.size hs2).trans hO2
  have hB3 := hB2.trans (hb3.mono (Nat.le_trans hB hB2.size))
  have hA3 := apart_on hA2 hb3
  have hW3 := hW2.on hb3
  have hne0 : w.heap.size ≠ b := by omega
  have hne1 : w1.heap.size ≠ b := by omega
  have hBw := Nat.le_trans hB hB3.size
  clear d0 d1 d2 d3 e0 e1 hb3 hX2 hO2 hB2 hA2 hW2
  obtain ⟨d0, d1, d2, d3⟩ := cellx4 hX3
  obtain ⟨e0, e1⟩ := cellx2 hO3
  go_wp2_with fail
  refine (HFX.out l (by omega) _ hB3 hW3).mono ?_
  rintro e w4 ⟨rfl, hbw4, hbl4, hap4⟩
  have hbl5 := hB3.trans hbl4
  have hap5 := hA3.trans hap4
  clear hbl4 hap4 d0 d1 d2 d3 e0 e1 hX3 hO3 hB3 hA3 hW3
  go_wp2_with fail
  go_end0
  exact ⟨rfl, hbw4, hbl5, hap5⟩

set_option maxRecDepth 100000 in
set_option maxHeartbeats 4000000 in
theorem wr_compC (m : Nat) (IH : WrWithin m) (T : Tm) (ad : Option Addr) (cap : Nat) (w : World) (B b : Nat) (l : List UInt8) (p : Int) (hk4 : T.kind = 4) (hm : T.size ≤ m + 1) (hM : T.size ≤ 1000000) (hmay : T.may = true) (hin : TmP w (fun k => k < B) T ad cap) (hB : B ≤ w.heap.size) (hT : ∀ W, Below B w W → AllT W) (hbw : BW B b l w) (hl : l.length + 1400 * T.size ≤ 2000000000) (o : R) (hp : ¬ PairT T) (ho : opR T.name.data.toList 3 = some o) (hl2 : T.args.length = 2) (hpr : p < o.p) :
    Calls Tryd.prog 33 #[.pointer (some ⟨b, 0, none⟩), tmv T ad cap, .int .i64 p] w (Laid B b w (l ++ compK T.name.data.toList (T.args.map Tm.wr) p)) := by
  have hlt := hbw.lt
  have hip := fun W => wr_isPair T.kind T.n T.name ad T.args.length cap W
  have hif := fun W => ops_Infix T.name W
  rw [← opR_name] at hif
  obtain ⟨hmays, hlen1, hlen16⟩ := may_comps hmay hk4
  have HIN := Lib.hid hin
  have HT := Lib.hid hT
  have HBW := Lib.hid hbw
  have HMY := Lib.hid hmays
  have HIH := Lib.hid IH
  have HB0 := Lib.hid (fun o : Obj => (Below.refl B w).alloc hB o)
  have HA0 := Lib.hid (fun o : Obj => (Lib.OthersKept.refl 5 (some b) w).alloc o)
  obtain ⟨x, y, hxy⟩ : ∃ x y, T.args = [x, y] := by
    match h : T.args, hl2 with
    | [x, y], _ => exact ⟨x, y, rfl⟩
  have hnc : T.name.data.toList ≠ [123, 125] := fun h => by rw [h, show opR [123, 125] 3 = none from by decide +kernel] at ho; cases ho
  have hmxy : x.may = true ∧ y.may = true := may_two hmay hk4 hxy
  rw [pairB_no hp] at hip
  rw [ho] at hif
  rw [comp_infix hk4 hp hxy ho]
  have hif : ∀ W, Calls Tryd.prog 51 #[.string T.name] W fun e w' => e = .returned (.tuple #[.agg #[.int .i64 o.p, .string o.k], .bool true]) ∧ Below W.heap.size W w' := hif
  have e1 : (T.name.toList == [123, 125]) = false := by rw [ByteArray.toList_eq]; exact beq_eq_false_iff_ne.2 hnc
  have hfx := fun (l2 : List UInt8) (hl2 : l2.length + 1400 * T.size ≤ 2000000010) (W : World) (hW : Below B w W) (hbW : BW B b l2 W) => wr_infix m IH T x y o ad cap W B b l2 hxy hm hM hmxy.1 hmxy.2 (hin.onB hW) (Nat.le_trans hB hW.size) (fun V hV => hT V (hW.trans hV)) hbW hl2
  unfold tmv at hfx
  unfold infixK
  rw [if_pos hpr]
  have e2 : decide (p < o.p) = true := decide_eq_true hpr
  have hxl : (x.wr.opd (leftOf o.k o.p) ++ (betweenK T.name.data.toList ++ y.wr.opd (rightOf o.k o.p))).length ≤ 1400 * T.size := by
    obtain ⟨_, _, adx, capx, ady, capy, _, hinx, hiny, _⟩ := two_args (by have h := hin.args; rw [hxy] at h; exact h)
    have hxf := (wr_fits x hinx.n64).2.2 (leftOf o.k o.p)
    have hyf := (wr_fits y hiny.n64).2.2 (rightOf o.k o.p)
    have hbl := between_len T.name.data.toList
    have hsz : T.size = 1 + (x.size + y.size) := by rw [T.size_eq, hxy]; rfl
    rw [List.length_append, List.length_append]
    omega
  generalize x.wr.opd (leftOf o.k o.p) ++ (betweenK T.name.data.toList ++ y.wr.opd (rightOf o.k o.p)) = X at *
  have HFX := Lib.hid hfx
  have HIF := Lib.hid hif
  have HIP := Lib.hid hip
  unfold tmv
  rw [hk4] at HFX HIP ⊢
  rw [hl2] at HFX HIP ⊢
  clear hfx hxy hnc ho hp
  clear hif hip hin hT hbw hmays hmay IH hk4
  go_enter Tryd.func33, Tryd.ntmps33
  go_wp2_with fail
  refine (HIF.out _).mono ?_
  rintro e w1 ⟨rfl, hb1⟩
  have hX1 := (hb1.block w.heap.size (by simp)).trans (heap_alloc_new w _)
  have hB1 := (HB0.out _).trans (hb1.mono (by simp; omega))
  have hA1 := apart_on (HA0.out _) hb1
  have hW1 := (HBW.out.past _).on hb1
  have hs1 : w.heap.size < w1.heap.size := by have := hb1.size; rw [World.size_alloc] at this; omega
  obtain ⟨d0, d1, d2, d3⟩ := cellx4 hX1
  clear hb1
  go_wp2_with fail
  clear d0 d1 d2 d3
  have hX2 := (Lib.alloc_old w1 (.cells #[.int .i64 o.p, .string o.k] 51) _ hs1).trans hX1
  have hO2 := heap_alloc_new w1 (.cells #[.int .i64 o.p, .string o.k] 51)
  have hB2 := hB1.alloc (Nat.le_trans hB hB1.size) (.cells #[.int .i64 o.p, .string o.k] 51)
  have hA2 := hA1.alloc (.cells #[.int .i64 o.p, .string o.k] 51)
  have hW2 := hW1.past (.cells #[.int .i64 o.p, .string o.k] 51)
  have hs2 : w1.heap.size < (w1.alloc (.cells #[.int .i64 o.p, .string o.k] 51)).heap.size := by simp
  generalize w1.alloc (.cells #[.int .i64 o.p, .string o.k] 51) = w2 at *
  obtain ⟨d0, d1, d2, d3⟩ := cellx4 hX2
  obtain ⟨e0, e1⟩ := cellx2 hO2
  clear hX1 hB1 hA1 hW1
  go_wp2_with fail
  refine (HIP.out _).mono ?_
  rintro e w3 ⟨rfl, hb3⟩
  have hX3 := (hb3.block w.heap.size (by omega)).trans hX2
  have hO3 := (hb3.block w1.heap.size hs2).trans hO2
  have hB3 := hB2.trans (hb3.mono (Nat.le_trans hB hB2.size))
  have hA3 := apart_on hA2 hb3
  have hW3 := hW2.on hb3
  have hne0 : w.heap.size ≠ b := by omega
  have hne1 : w1.heap.size ≠ b := by omega
  have hBw := Nat.le_trans hB hB3.size
  clear d0 d1 d2 d3 e0 e1 hb3 hX2 hO2 hB2 hA2 hW2
  obtain ⟨d0, d1, d2, d3⟩ := cellx4 hX3
  obtain ⟨e0, e1⟩ := cellx2 hO3
  go_wp2_with fail
  refine (wr_lay1 B b l _ _ w3 (by simp) hW3 (by show _ + 1 ≤ _; omega) hBw).mono ?_
  rintro e w4 ⟨rfl, hbw4, hbl4, hap4⟩
  have hX4 := apart_keep hap4 hX3 (by decide) hne0
  have hO4 := apart_keep hap4 hO3 (by decide) hne1
  have hB4 := hB3.trans hbl4
  have hA4 := hA3.trans hap4
  clear d0 d1 d2 d3 e0 e1 hbl4 hap4
  obtain ⟨d0, d1, d2, d3⟩ := cellx4 hX4
  obtain ⟨e0, e1⟩ := cellx2 hO4
  go_wp2_with fail
  refine (HFX.out (l ++ [40]) (by rw [List.length_append, List.length_singleton]; omega) _ hB4 hbw4).mono ?_
  rintro e w5 ⟨rfl, hbw5, hbl5, hap5⟩
  have hB5 := hB4.trans hbl5
  have hA5 := hA4.trans hap5
  clear d0 d1 d2 d3 e0 e1 hbl5 hap5 hbw4
  go_wp2_with fail
  refine (wr_lay1 B b _ _ _ w5 (by simp) hbw5 (by rw [List.length_append, List.length_append, List.length_singleton]; show _ + 1 ≤ _; omega) (Nat.le_trans hB hB5.size)).mono ?_
  rintro e w6 ⟨rfl, hbw6, hbl6, hap6⟩
  have hbl7 := hB5.trans hbl6
  have hap7 := hA5.trans hap6
  have hbw7 : BW B b (l ++ 40 :: (X ++ [41])) w6 := by
    have e1 : l ++ 40 :: (X ++ [41]) = l ++ [40] ++ X ++ (⟨#[41]⟩ : ByteArray).data.toList := by simp
    rw [e1]; exact hbw6
  clear hbl6 hap6 hbw6
  go_wp2_with fail
  go_end0
  exact ⟨rfl, hbw7, hbl7, hap7⟩

set_option maxRecDepth 100000 in
set_option maxHeartbeats 4000000 in
theorem wr_compE1 (m : Nat) (IH : WrWithin m) (T : Tm) (ad : Option Addr) (cap : Nat) (w : World) (B b : Nat) (l : List UInt8) (p : Int) (hk4 : T.kind = 4) (hm : T.size ≤ m + 1) (hM : T.size ≤ 1000000) (hmay : T.may = true) (hin : TmP w (fun k => k < B) T ad cap) (hB : B ≤ w.heap.size) (hT : ∀ W, Below B w W → AllT W) (hbw : BW B b l w) (hl : l.length + 1400 * T.size ≤ 2000000000) (hp : ¬ PairT T) (h1 : ¬ (T.name.data.toList = [123, 125] ∧ T.args.length = 1)) (h2 : T.args.length = 2 → opR T.name.data.toList 3 = none) (hs : T.name.data.toList = [123, 125]) :
    Calls Tryd.prog 33 #[.pointer (some ⟨b, 0, none⟩), tmv T ad cap, .int .i64 p] w (Laid B b w (l ++ compK T.name.data.toList (T.args.map Tm.wr) p)) := by
  have hlt := hbw.lt
  have hip := fun W => wr_isPair T.kind T.n T.name ad T.args.length cap W
  have hif := fun W => ops_Infix T.name W
  rw [← opR_name] at hif
  obtain ⟨hmays, hlen1, hlen16⟩ := may_comps hmay hk4
  have HIN := Lib.hid hin
  have HT := Lib.hid hT
  have HBW := Lib.hid hbw
  have HMY := Lib.hid hmays
  have HIH := Lib.hid IH
  have HB0 := Lib.hid (fun o : Obj => (Below.refl B w).alloc hB o)
  have HA0 := Lib.hid (fun o : Obj => (Lib.OthersKept.refl 5 (some b) w).alloc o)
  rw [pairB_no hp] at hip
  rw [comp_call hk4 hp h1 h2]
  have hca := fun (W : World) (hW : Below B w W) (hbW : BW B b l W) => wr_called m IH T ad cap W B b l hm hM hmays hlen1 (hin.onB hW) (Nat.le_trans hB hW.size) (fun V hV => hT V (hW.trans hV)) hbW hl
  unfold tmv at hca
  generalize callK T.name.data.toList (T.args.map Tm.wr) = X at *
  have HCA := Lib.hid hca
  have es : T.name = ⟨#[123, 125]⟩ := by apply ByteArray.ext; rw [← Array.toList_inj]; exact hs
  have ex : ((T.args.length : Int) == 1) = false := by have : T.args.length ≠ 1 := fun h => h1 ⟨hs, h⟩; simp; omega
  have en : opR [123, 125] 3 = none := by decide +kernel
  rw [hs, en] at hif
  have hif : ∀ W, Calls Tryd.prog 51 #[.string T.name] W fun e w' => e = .returned (.tuple #[.agg #[.int .i64 0, .string ⟨#[]⟩], .bool false]) ∧ Below W.heap.size W w' := hif
  have HIF := Lib.hid hif
  have HIP := Lib.hid hip
  unfold tmv
  rw [hk4] at HCA HIP ⊢
  rw [es] at HCA HIF HIP ⊢
  clear hca hp h1 h2 hs en
  clear hif hip hin hT hbw hmays hmay IH hk4
  go_enter Tryd.func33, Tryd.ntmps33
  go_wp2_with fail
  refine (HIF.out _).mono ?_
  rintro e w1 ⟨rfl, hb1⟩
  have hX1 := (hb1.block w.heap.size (by simp)).trans (heap_alloc_new w _)
  have hB1 := (HB0.out _).trans (hb1.mono (by simp; omega))
  have hA1 := apart_on (HA0.out _) hb1
  have hW1 := (HBW.out.past _).on hb1
  have hs1 : w.heap.size < w1.heap.size := by have := hb1.size; rw [World.size_alloc] at this; omega
  obtain ⟨d0, d1, d2, d3⟩ := cellx4 hX1
  clear hb1
  go_wp2_with fail
  clear d0 d1 d2 d3
  have hX2 := (Lib.alloc_old w1 (.cells #[.int .i64 0, .string ⟨#[]⟩] 51) _ hs1).trans hX1
  have hO2 := heap_alloc_new w1 (.cells #[.int .i64 0, .string ⟨#[]⟩] 51)
  have hB2 := hB1.alloc (Nat.le_trans hB hB1.size) (.cells #[.int .i64 0, .string ⟨#[]⟩] 51)
  have hA2 := hA1.alloc (.cells #[.int .i64 0, .string ⟨#[]⟩] 51)
  have hW2 := hW1.past (.cells #[.int .i64 0, .string ⟨#[]⟩] 51)
  have hs2 : w1.heap.size < (w1.alloc (.cells #[.int .i64 0, .string ⟨#[]⟩] 51)).heap.size := by simp
  generalize w1.alloc (.cells #[.int .i64 0, .string ⟨#[]⟩] 51) = w2 at *
  obtain ⟨d0, d1, d2, d3⟩ := cellx4 hX2
  obtain ⟨e0, e1⟩ := cellx2 hO2
  clear hX1 hB1 hA1 hW1
  go_wp2_with fail
  refine (HIP.out _).mono ?_
  rintro e w3 ⟨rfl, hb3⟩
  have hX3 := (hb3.block w.heap.size (by omega)).trans hX2
  have hO3 := (hb3.block w1.heap.size hs2).trans hO2
  have hB3 := hB2.trans (hb3.mono (Nat.le_trans hB hB2.size))
  have hA3 := apart_on hA2 hb3
  have hW3 := hW2.on hb3
  have hne0 : w.heap.size ≠ b := by omega
  have hne1 : w1.heap.size ≠ b := by omega
  have hBw := Nat.le_trans hB hB3.size
  clear d0 d1 d2 d3 e0 e1 hb3 hX2 hO2 hB2 hA2 hW2
  obtain ⟨d0, d1, d2, d3⟩ := cellx4 hX3
  obtain ⟨e0, e1⟩ := cellx2 hO3
  go_wp2_with fail
  refine (HCA.out _ hB3 hW3).mono ?_
  rintro e w4 ⟨rfl, hbw4, hbl4, hap4⟩
  have hbl5 := hB3.trans hbl4
  have hap5 := hA3.trans hap4
  clear hbl4 hap4 d0 d1 d2 d3 e0 e1 hX3 hO3 hB3 hA3 hW3
  go_wp2_with fail
  go_end0
  exact ⟨rfl, hbw4, hbl5, hap5⟩

set_option maxRecDepth 100000 in
set_option maxHeartbeats 4000000 in
theorem wr_compE2 (m : Nat) (IH : WrWithin m) (T : Tm) (ad : Option Addr) (cap : Nat) (w : World) (B b : Nat) (l : List UInt8) (p : Int) (hk4 : T.kind = 4) (hm : T.size ≤ m + 1) (hM : T.size ≤ 1000000) (hmay : T.may = true) (hin : TmP w (fun k => k < B) T ad cap) (hB : B ≤ w.heap.size) (hT : ∀ W, Below B w W → AllT W) (hbw : BW B b l w) (hl : l.length + 1400 * T.size ≤ 2000000000) (hp : ¬ PairT T) (h1 : ¬ (T.name.data.toList = [123, 125] ∧ T.args.length = 1)) (h2 : T.args.length = 2 → opR T.name.data.toList 3 = none) (hs : T.name.data.toList ≠ [123, 125]) (hn : opR T.name.data.toList 3 = none) :
    Calls Tryd.prog 33 #[.pointer (some ⟨b, 0, none⟩), tmv T ad cap, .int .i64 p] w (Laid B b w (l ++ compK T.name.data.toList (T.args.map Tm.wr) p)) := by
  have hlt := hbw.lt
  have hip := fun W => wr_isPair T.kind T.n T.name ad T.args.length cap W
  have hif := fun W => ops_Infix T.name W
  rw [← opR_name] at hif
  obtain ⟨hmays, hlen1, hlen16⟩ := may_comps hmay hk4
  have HIN := Lib.hid hin
  have HT := Lib.hid hT
  have HBW := Lib.hid hbw
  have HMY := Lib.hid hmays
  have HIH := Lib.hid IH
  have HB0 := Lib.hid (fun o : Obj => (Below.refl B w).alloc hB o)
  have HA0 := Lib.hid (fun o : Obj => (Lib.OthersKept.refl 5 (some b) w).alloc o)
  rw [pairB_no hp] at hip
  rw [comp_call hk4 hp h1 h2]
  have hca := fun (W : World) (hW : Below B w W) (hbW : BW B b l W) => wr_called m IH T ad cap W B b l hm hM hmays hlen1 (hin.onB hW) (Nat.le_trans hB hW.size) (fun V hV => hT V (hW.trans hV)) hbW hl
  unfold tmv at hca
  generalize callK T.name.data.toList (T.args.map Tm.wr) = X at *
  have HCA := Lib.hid hca
  have ex : (T.name.toList == [123, 125]) = false := by rw [ByteArray.toList_eq]; exact beq_eq_false_iff_ne.2 hs
  rw [hn] at hif
  have hif : ∀ W, Calls Tryd.prog 51 #[.string T.name] W fun e w' => e = .returned (.tuple #[.agg #[.int .i64 0, .string ⟨#[]⟩], .bool false]) ∧ Below W.heap.size W w' := hif
  have HIF := Lib.hid hif
  have HIP := Lib.hid hip
  unfold tmv
  rw [hk4] at HCA HIP ⊢
  clear hca hp h1 h2 hs hn
  clear hif hip hin hT hbw hmays hmay IH hk4
  go_enter Tryd.func33, Tryd.ntmps33
  go_wp2_with fail
  refine (HIF.out _).mono ?_
  rintro e w1 ⟨rfl, hb1⟩
  have hX1 := (hb1.block w.heap.size (by simp)).trans (heap_alloc_new w _)
  have hB1 := (HB0.out _).trans (hb1.mono (by simp; omega))
  have hA1 := apart_on (HA0.out _) hb1
  have hW1 := (HBW.out.past _).on hb1
  have hs1 : w.heap.size < w1.heap.size := by have := hb1.size; rw [World.size_alloc] at this; omega
  obtain ⟨d0, d1, d2, d3⟩ := cellx4 hX1
  clear hb1
  go_wp2_with fail
  clear d0 d1 d2 d3
  have hX2 := (Lib.alloc_old w1 (.cells #[.int .i64 0, .string ⟨#[]⟩] 51) _ hs1).trans hX1
  have hO2 := heap_alloc_new w1 (.cells #[.int .i64 0, .string ⟨#[]⟩] 51)
  have hB2 := hB1.alloc (Nat.le_trans hB hB1.size) (.cells #[.int .i64 0, .string ⟨#[]⟩] 51)
  have hA2 := hA1.alloc (.cells #[.int .i64 0, .string ⟨#[]⟩] 51)
  have hW2 := hW1.past (.cells #[.int .i64 0, .string ⟨#[]⟩] 51)
  have hs2 : w1.heap.size < (w1.alloc (.cells #[.int .i64 0, .string ⟨#[]⟩] 51)).heap.size := by simp
  generalize w1.alloc (.cells #[.int .i64 0, .string ⟨#[]⟩] 51) = w2 at *
  obtain ⟨d0, d1, d2, d3⟩ := cellx4 hX2
  obtain ⟨e0, e1⟩ := cellx2 hO2
  clear hX1 hB1 hA1 hW1
  go_wp2_with fail
  refine (HIP.out _).mono ?_
  rintro e w3 ⟨rfl, hb3⟩
  have hX3 := (hb3.block w.heap.size (by omega)).trans hX2
  have hO3 := (hb3.block w1.heap.size hs2).trans hO2
  have hB3 := hB2.trans (hb3.mono (Nat.le_trans hB hB2.size))
  have hA3 := apart_on hA2 hb3
  have hW3 := hW2.on hb3
  have hne0 : w.heap.size ≠ b := by omega
  have hne1 : w1.heap.size ≠ b := by omega
  have hBw := Nat.le_trans hB hB3.size
  clear d0 d1 d2 d3 e0 e1 hb3 hX2 hO2 hB2 hA2 hW2
  obtain ⟨d0, d1, d2, d3⟩ := cellx4 hX3
  obtain ⟨e0, e1⟩ := cellx2 hO3
  go_wp2_with fail
  refine (HCA.out _ hB3 hW3).mono ?_
  rintro e w4 ⟨rfl, hbw4, hbl4, hap4⟩
  have hbl5 := hB3.trans hbl4
  have hap5 := hA3.trans hap4
  clear hbl4 hap4 d0 d1 d2 d3 e0 e1 hX3 hO3 hB3 hA3 hW3
  go_wp2_with fail
  go_end0
  exact ⟨rfl, hbw4, hbl5, hap5⟩

set_option maxRecDepth 100000 in
set_option maxHeartbeats 4000000 in
theorem wr_compE3 (m : Nat) (IH : WrWithin m) (T : Tm) (ad : Option Addr) (cap : Nat) (w : World) (B b : Nat) (l : List UInt8) (p : Int) (hk4 : T.kind = 4) (hm : T.size ≤ m + 1) (hM : T.size ≤ 1000000) (hmay : T.may = true) (hin : TmP w (fun k => k < B) T ad cap) (hB : B ≤ w.heap.size) (hT : ∀ W, Below B w W → AllT W) (hbw : BW B b l w) (hl : l.length + 1400 * T.size ≤ 2000000000) (o : R) (hp : ¬ PairT T) (h1 : ¬ (T.name.data.toList = [123, 125] ∧ T.args.length = 1)) (h2 : T.args.length = 2 → opR T.name.data.toList 3 = none) (hs : T.name.data.toList ≠ [123, 125]) (hn : opR T.name.data.toList 3 = some o) (hl2 : T.args.length ≠ 2) :
    Calls Tryd.prog 33 #[.pointer (some ⟨b, 0, none⟩), tmv T ad cap, .int .i64 p] w (Laid B b w (l ++ compK T.name.data.toList (T.args.map Tm.wr) p)) := by
  have hlt := hbw.lt
  have hip := fun W => wr_isPair T.kind T.n T.name ad T.args.length cap W
  have hif := fun W => ops_Infix T.name W
  rw [← opR_name] at hif
  obtain ⟨hmays, hlen1, hlen16⟩ := may_comps hmay hk4
  have HIN := Lib.hid hin
  have HT := Lib.hid hT
  have HBW := Lib.hid hbw
  have HMY := Lib.hid hmays
  have HIH := Lib.hid IH
  have HB0 := Lib.hid (fun o : Obj => (Below.refl B w).alloc hB o)
  have HA0 := Lib.hid (fun o : Obj => (Lib.OthersKept.refl 5 (some b) w).alloc o)
  rw [pairB_no hp] at hip
  rw [comp_call hk4 hp h1 h2]
  have hca := fun (W : World) (hW : Below B w W) (hbW : BW B b l W) => wr_called m IH T ad cap W B b l hm hM hmays hlen1 (hin.onB hW) (Nat.le_trans hB hW.size) (fun V hV => hT V (hW.trans hV)) hbW hl
  unfold tmv at hca
  generalize callK T.name.data.toList (T.args.map Tm.wr) = X at *
  have HCA := Lib.hid hca
  have ex : (T.name.toList == [123, 125]) = false := by rw [ByteArray.toList_eq]; exact beq_eq_false_iff_ne.2 hs
  have ey : ((T.args.length : Int) == 2) = false := by simp; omega
  rw [hn] at hif
  have hif : ∀ W, Calls Tryd.prog 51 #[.string T.name] W fun e w' => e = .returned (.tuple #[.agg #[.int .i64 o.p, .string o.k], .bool true]) ∧ Below W.heap.size W w' := hif
  have HIF := Lib.hid hif
  have HIP := Lib.hid hip
  unfold tmv
  rw [hk4] at HCA HIP ⊢
  clear hca hp h1 h2 hs hn hl2
  clear hif hip hin hT hbw hmays hmay IH hk4
  go_enter Tryd.func33, Tryd.ntmps33
  go_wp2_with fail
  refine (HIF.out _).mono ?_
  rintro e w1 ⟨rfl, hb1⟩
  have hX1 := (hb1.block w.heap.size (by simp)).trans (heap_alloc_new w _)
  have hB1 := (HB0.out _).trans (hb1.mono (by simp; omega))
  have hA1 := apart_on (HA0.out _) hb1
  have hW1 := (HBW.out.past _).on hb1
  have hs1 : w.heap.size < w1.heap.size := by have := hb1.size; rw [World.size_alloc] at this; omega
  obtain ⟨d0, d1, d2, d3⟩ := cellx4 hX1
  clear hb1
  go_wp2_with fail
  clear d0 d1 d2 d3
  have hX2 := (Lib.alloc_old w1 (.cells #[.int .i64 o.p, .string o.k] 51) _ hs1).trans hX1
  have hO2 := heap_alloc_new w1 (.cells #[.int .i64 o.p, .string o.k] 51)
  have hB2 := hB1.alloc (Nat.le_trans hB hB1.size) (.cells #[.int .i64 o.p, .string o.k] 51)
  have hA2 := hA1.alloc (.cells #[.int .i64 o.p, .string o.k] 51)
  have hW2 := hW1.past (.cells #[.int .i64 o.p, .string o.k] 51)
  have hs2 : w1.heap.size < (w1.alloc (.cells #[.int .i64 o.p, .string o.k] 51)).heap.size := by simp
  generalize w1.alloc (.cells #[.int .i64 o.p, .string o.k] 51) = w2 at *
  obtain ⟨d0, d1, d2, d3⟩ := cellx4 hX2
  obtain ⟨e0, e1⟩ := cellx2 hO2
  clear hX1 hB1 hA1 hW1
  go_wp2_with fail
  refine (HIP.out _).mono ?_
  rintro e w3 ⟨rfl, hb3⟩
  have hX3 := (hb3.block w.heap.size (by omega)).trans hX2
  have hO3 := (hb3.block w1.heap.size hs2).trans hO2
  have hB3 := hB2.trans (hb3.mono (Nat.le_trans hB hB2.size))
  have hA3 := apart_on hA2 hb3
  have hW3 := hW2.on hb3
  have hne0 : w.heap.size ≠ b := by omega
  have hne1 : w1.heap.size ≠ b := by omega
  have hBw := Nat.le_trans hB hB3.size
  clear d0 d1 d2 d3 e0 e1 hb3 hX2 hO2 hB2 hA2 hW2
  obtain ⟨d0, d1, d2, d3⟩ := cellx4 hX3
  obtain ⟨e0, e1⟩ := cellx2 hO3
  go_wp2_with fail
  refine (HCA.out _ hB3 hW3).mono ?_
  rintro e w4 ⟨rfl, hbw4, hbl4, hap4⟩
  have hbl5 := hB3.trans hbl4
  have hap5 := hA3.trans hap4
  clear hbl4 hap4 d0 d1 d2 d3 e0 e1 hX3 hO3 hB3 hA3 hW3
  go_wp2_with fail
  go_end0
  exact ⟨rfl, hbw4, hbl5, hap5⟩

theorem wr_comp (m : Nat) (IH : WrWithin m) (T : Tm) (ad : Option Addr) (cap : Nat) (w : World) (B b : Nat) (l : List UInt8) (p : Int) (hk4 : T.kind = 4) (hm : T.size ≤ m + 1) (hM : T.size ≤ 1000000) (hmay : T.may = true) (hin : TmP w (fun k => k < B) T ad cap) (hB : B ≤ w.heap.size) (hT : ∀ W, Below B w W → AllT W) (hbw : BW B b l w) (hl : l.length + 1400 * T.size ≤ 2000000000) :
    Calls Tryd.prog 33 #[.pointer (some ⟨b, 0, none⟩), tmv T ad cap, .int .i64 p] w (Laid B b w (l ++ compK T.name.data.toList (T.args.map Tm.wr) p)) := by
  by_cases hp : PairT T
  · exact wr_compA m IH T ad cap w B b l p hk4 hm hM hmay hin hB hT hbw hl hp
  by_cases hc : T.name.data.toList = [123, 125] ∧ T.args.length = 1
  · exact wr_compB m IH T ad cap w B b l p hk4 hm hM hmay hin hB hT hbw hl hc.1 hc.2
  by_cases hl2 : T.args.length = 2
  · cases ho : opR T.name.data.toList 3 with
    | some o =>
      by_cases hpr : p < o.p
      · exact wr_compC m IH T ad cap w B b l p hk4 hm hM hmay hin hB hT hbw hl o hp ho hl2 hpr
      · exact wr_compD m IH T ad cap w B b l p hk4 hm hM hmay hin hB hT hbw hl o hp ho hl2 (by omega)
    | none =>
      by_cases hs : T.name.data.toList = [123, 125]
      · exact wr_compE1 m IH T ad cap w B b l p hk4 hm hM hmay hin hB hT hbw hl hp hc (fun _ => ho) hs
      · exact wr_compE2 m IH T ad cap w B b l p hk4 hm hM hmay hin hB hT hbw hl hp hc (fun _ => ho) hs ho
  · by_cases hs : T.name.data.toList = [123, 125]
    · exact wr_compE1 m IH T ad cap w B b l p hk4 hm hM hmay hin hB hT hbw hl hp hc (fun h => absurd h hl2) hs
    · cases ho : opR T.name.data.toList 3 with
      | none => exact wr_compE2 m IH T ad cap w B b l p hk4 hm hM hmay hin hB hT hbw hl hp hc (fun h => absurd h hl2) hs ho
      | some o => exact wr_compE3 m IH T ad cap w B b l p hk4 hm hM hmay hin hB hT hbw hl o hp hc (fun h => absurd h hl2) hs ho hl2
end Go.Proofs.YtdjejbgokamjeaaDoor
