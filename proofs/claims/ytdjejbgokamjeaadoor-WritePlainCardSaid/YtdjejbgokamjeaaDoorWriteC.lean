/-
  Package write's small functions: isOperator, isPair, isEmptyList, operand; pieces laid by one, two and three.
-/
import Derived.Test.YtdjejbgokamjeaaDoorWriteB
import Derived.Test.YtdjejbgokamjeaaDoorWriteK
import Derived.Test.YtdjejbgokamjeaaDoorNumTextB
import Derived.Test.YtdjejbgokamjeaaDoorTermDevLT
import Derived.Deep.RegionHeld3
namespace Go.Proofs.YtdjejbgokamjeaaDoor
open Go.RowKit

theorem opR_name (s : ByteArray) (n : Int) : opR s.data.toList n = findR tabR s n := by unfold opR; simp
theorem opAns_two (E : Option R) : ∃ (p : Int) (k : ByteArray), opAns E = .tuple #[.agg #[.int .i64 p, .string k], .bool E.isSome] := by
  cases E with
  | none => exact ⟨0, ⟨#[]⟩, rfl⟩
  | some r => exact ⟨r.p, r.k, rfl⟩

set_option maxHeartbeats 2000000 in
set_option maxRecDepth 100000 in
theorem wr_isOperator (s : ByteArray) (w : World) :
    Calls Tryd.prog 85 #[.string s] w fun e w' => e = .returned (.bool (opN s.data.toList)) ∧ Below w.heap.size w w' := by
  unfold opN
  rw [opR_name, opR_name]
  have h2 := fun W => ops_Prefix s W
  have h3 := fun W => ops_Infix s W
  obtain ⟨p2, k2, e2⟩ := opAns_two (findR tabR s 2)
  obtain ⟨p3, k3, e3⟩ := opAns_two (findR tabR s 3)
  rw [e2] at h2
  rw [e3] at h3
  have H2 := Lib.hid h2
  have H3 := Lib.hid h3
  have H0 := Lib.hid (Below.refl w.heap.size w)
  clear h2 h3 e2 e3
  generalize (findR tabR s 2).isSome = x at *
  generalize (findR tabR s 3).isSome = y at *
  cases x with
  | true =>
    go_enter Tryd.func85, Tryd.ntmps85
    go_wp2_with fail
    refine (H2.out _).mono ?_
    rintro e w1 ⟨rfl, hb1⟩
    go_wp2_with fail
    refine (H3.out _).mono ?_
    rintro e w2 ⟨rfl, hb2⟩
    have hb := (hb1.alloc hb1.size _).trans (hb2.mono (Nat.le_trans hb1.size (by simp)))
    clear hb1 hb2
    go_wp2_with fail
    go_ret
    exact ⟨rfl, hb.alloc hb.size _⟩
  | false =>
    cases y with
    | true =>
      go_enter Tryd.func85, Tryd.ntmps85
      go_wp2_with fail
      refine (H2.out _).mono ?_
      rintro e w1 ⟨rfl, hb1⟩
      go_wp2_with fail
      refine (H3.out _).mono ?_
      rintro e w2 ⟨rfl, hb2⟩
      have hb := (hb1.alloc hb1.size _).trans (hb2.mono (Nat.le_trans hb1.size (by simp)))
      clear hb1 hb2
      go_wp2_with fail
      go_ret
      exact ⟨rfl, hb.alloc hb.size _⟩
    | false =>
      go_enter Tryd.func85, Tryd.ntmps85
      go_wp2_with fail
      refine (H2.out _).mono ?_
      rintro e w1 ⟨rfl, hb1⟩
      go_wp2_with fail
      refine (H3.out _).mono ?_
      rintro e w2 ⟨rfl, hb2⟩
      have hb := (hb1.alloc hb1.size _).trans (hb2.mono (Nat.le_trans hb1.size (by simp)))
      clear hb1 hb2
      go_wp2_with fail
      go_ret
      exact ⟨rfl, hb.alloc hb.size _⟩

/-- A term that is a list's beginning; the empty list. -/
def pairB (k : Int) (s : List UInt8) (n : Nat) : Bool := decide (k = 4) && (decide (s = [46]) && decide (n = 2))
def nilB (k : Int) (s : List UInt8) : Bool := decide (k = 2) && decide (s = [91, 93])

set_option maxHeartbeats 2000000 in
set_option maxRecDepth 100000 in
theorem wr_isPair (k n : Int) (s : ByteArray) (ad : Option Addr) (len cap : Nat) (w : World) :
    Calls Tryd.prog 52 #[.agg #[.int .i64 k, .string s, .int .i64 n, .slice ad len cap]] w fun e w' => e = .returned (.bool (pairB k s.data.toList len)) ∧ Below w.heap.size w w' := by
  have HB0 := Lib.hid (fun o : Obj => (Below.refl w.heap.size w).alloc (Nat.le_refl _) o)
  unfold pairB
  by_cases hk : k = 4
  · subst hk
    by_cases hs : s.data.toList = [46]
    · have hs1 : (s.toList == [46]) = true := by rw [ByteArray.toList_eq, hs]; rfl
      rw [decide_eq_true hs]
      by_cases hl : len = 2
      · subst hl
        clear hs
        go_enter Tryd.func52, Tryd.ntmps52
        go_wp2_with fail
        go_ret
        exact ⟨rfl, HB0.out _⟩
      · rw [decide_eq_false hl]
        have hl1 : ((len : Int) == 2) = false := by simp; omega
        clear hs hl
        go_enter Tryd.func52, Tryd.ntmps52
        go_wp2_with fail
        go_ret
        exact ⟨rfl, HB0.out _⟩
    · have hs1 : (s.toList == [46]) = false := by rw [ByteArray.toList_eq]; exact beq_eq_false_iff_ne.2 hs
      rw [decide_eq_false hs]
      clear hs
      go_enter Tryd.func52, Tryd.ntmps52
      go_wp2_with fail
      go_ret
      exact ⟨rfl, HB0.out _⟩
  · have hk1 : (k == 4) = false := by simpa using hk
    rw [decide_eq_false hk]
    clear hk
    go_enter Tryd.func52, Tryd.ntmps52
    go_wp2_with fail
    go_ret
    exact ⟨rfl, HB0.out _⟩

set_option maxHeartbeats 2000000 in
set_option maxRecDepth 100000 in
theorem wr_isEmptyList (k n : Int) (s : ByteArray) (ad : Option Addr) (len cap : Nat) (w : World) :
    Calls Tryd.prog 72 #[.agg #[.int .i64 k, .string s, .int .i64 n, .slice ad len cap]] w fun e w' => e = .returned (.bool (nilB k s.data.toList)) ∧ Below w.heap.size w w' := by
  have HB0 := Lib.hid (fun o : Obj => (Below.refl w.heap.size w).alloc (Nat.le_refl _) o)
  unfold nilB
  by_cases hk : k = 2
  · subst hk
    by_cases hs : s.data.toList = [91, 93]
    · have hs1 : (s.toList == [91, 93]) = true := by rw [ByteArray.toList_eq, hs]; rfl
      rw [decide_eq_true hs]
      clear hs
      go_enter Tryd.func72, Tryd.ntmps72
      go_wp2_with fail
      go_ret
      exact ⟨rfl, HB0.out _⟩
    · have hs1 : (s.toList == [91, 93]) = false := by rw [ByteArray.toList_eq]; exact beq_eq_false_iff_ne.2 hs
      rw [decide_eq_false hs]
      clear hs
      go_enter Tryd.func72, Tryd.ntmps72
      go_wp2_with fail
      go_ret
      exact ⟨rfl, HB0.out _⟩
  · have hk1 : (k == 2) = false := by simpa using hk
    rw [decide_eq_false hk]
    clear hk
    go_enter Tryd.func72, Tryd.ntmps72
    go_wp2_with fail
    go_ret
    exact ⟨rfl, HB0.out _⟩

/-! ### Pieces by one, two and three, laid out of a slice that was just made -/
theorem apart_new {b : Nat} {w : World} {o : Obj} {w' : World} (h : Apart b (w.alloc o) w') : Apart b w w' := ((Lib.OthersKept.refl _ _ w).alloc o).trans h
theorem wr_lays (B b : Nat) (l : List UInt8) (ps : List ByteArray) (C : Array Value) (g n : Nat) (w : World) (hC : C = (ps.map Value.string).toArray) (hg : g = w.heap.size) (hn : n = ps.length) (hps : ps.length ≤ 1000) (h : BW B b l w) (hlen : l.length + (catL ps).length ≤ 100000000000) (hBw : B ≤ w.heap.size) :
    Calls Tryd.prog 30 #[.pointer (some ⟨b, 0, none⟩), .slice (some ⟨g, 0, none⟩) n n] (w.alloc (.cells C 9)) (Laid B b w (l ++ catL ps)) := by
  subst hg hn
  refine (wr_lay B b l ps w.heap.size C (0, 0) (w.alloc (.cells C 9)) (h.past _) (heap_alloc_new w _) hC hps hlen (by simp; omega)).mono ?_
  rintro e w1 ⟨rfl, hb, hbl, hap⟩
  exact ⟨rfl, hb, ((Below.refl B w).alloc hBw _).trans hbl, apart_new hap⟩
theorem wr_lay1 (B b : Nat) (l : List UInt8) (s : ByteArray) (g : Nat) (w : World) (hg : g = w.heap.size) (h : BW B b l w) (hlen : l.length + s.size ≤ 100000000000) (hBw : B ≤ w.heap.size) :
    Calls Tryd.prog 30 #[.pointer (some ⟨b, 0, none⟩), .slice (some ⟨g, 0, none⟩) 1 1] (w.alloc (.cells #[.string s] 9)) (Laid B b w (l ++ s.data.toList)) := by
  have e : catL [s] = s.data.toList := by show s.data.toList ++ [] = _; simp
  have h1 := wr_lays B b l [s] #[.string s] g 1 w rfl hg rfl (by show (1 : Nat) ≤ 1000; omega) h (by rw [e]; exact hlen) hBw
  rw [e] at h1
  exact h1
theorem wr_lay2 (B b : Nat) (l : List UInt8) (s t : ByteArray) (g : Nat) (w : World) (hg : g = w.heap.size) (h : BW B b l w) (hlen : l.length + (s.size + t.size) ≤ 100000000000) (hBw : B ≤ w.heap.size) :
    Calls Tryd.prog 30 #[.pointer (some ⟨b, 0, none⟩), .slice (some ⟨g, 0, none⟩) 2 2] (w.alloc (.cells #[.string s, .string t] 9)) (Laid B b w (l ++ (s.data.toList ++ t.data.toList))) := by
  have e : catL [s, t] = s.data.toList ++ t.data.toList := by show s.data.toList ++ (t.data.toList ++ []) = _; simp
  have h1 := wr_lays B b l [s, t] #[.string s, .string t] g 2 w rfl hg rfl (by show (2 : Nat) ≤ 1000; omega) h (by rw [e, List.length_append]; exact hlen) hBw
  rw [e] at h1
  exact h1
theorem wr_lay3 (B b : Nat) (l : List UInt8) (s t u : ByteArray) (g : Nat) (w : World) (hg : g = w.heap.size) (h : BW B b l w) (hlen : l.length + (s.size + (t.size + u.size)) ≤ 100000000000) (hBw : B ≤ w.heap.size) :
    Calls Tryd.prog 30 #[.pointer (some ⟨b, 0, none⟩), .slice (some ⟨g, 0, none⟩) 3 3] (w.alloc (.cells #[.string s, .string t, .string u] 9)) (Laid B b w (l ++ (s.data.toList ++ (t.data.toList ++ u.data.toList)))) := by
  have e : catL [s, t, u] = s.data.toList ++ (t.data.toList ++ u.data.toList) := by show s.data.toList ++ (t.data.toList ++ (u.data.toList ++ [])) = _; simp
  have h1 := wr_lays B b l [s, t, u] #[.string s, .string t, .string u] g 3 w rfl hg rfl (by show (3 : Nat) ≤ 1000; omega) h (by rw [e, List.length_append, List.length_append]; exact hlen) hBw
  rw [e] at h1
  exact h1

/-- What is known of within, for terms up to a size. -/
def WrWithin (m : Nat) : Prop := ∀ (T : Tm) (ad : Option Addr) (cap : Nat) (w : World) (B b : Nat) (l : List UInt8) (p : Int), T.size ≤ m → T.size ≤ 1000000 → T.may = true → TmP w (fun k => k < B) T ad cap → B ≤ w.heap.size → (∀ W, Below B w W → AllT W) → BW B b l w → l.length + 1400 * T.size ≤ 2000000000 →
  Calls Tryd.prog 19 #[.pointer (some ⟨b, 0, none⟩), tmv T ad cap, .int .i64 p] w (Laid B b w (l ++ T.wr.txt p))
theorem TmP.n64 {w : World} {P : Nat → Prop} {T : Tm} {ad : Option Addr} {cap : Nat} (h : TmP w P T ad cap) : T.n64 := (Tm.n64_eq T).2 ⟨h.n, (TArgsP.all h.args).n64⟩

set_option maxHeartbeats 4000000 in
set_option maxRecDepth 100000 in
theorem wr_operand (m : Nat) (IH : WrWithin m) (T : Tm) (ad : Option Addr) (cap : Nat) (w : World) (B b : Nat) (l : List UInt8) (p : Int) (hm : T.size ≤ m) (hM : T.size ≤ 1000000) (hmay : T.may = true) (hin : TmP w (fun k => k < B) T ad cap) (hB : B ≤ w.heap.size) (hT : ∀ W, Below B w W → AllT W) (hbw : BW B b l w) (hl : l.length + 1400 * T.size ≤ 2000000000) :
    Calls Tryd.prog 73 #[.pointer (some ⟨b, 0, none⟩), tmv T ad cap, .int .i64 p] w (Laid B b w (l ++ T.wr.opd p)) := by
  have hsz := T.size_pos
  have hb0 := fun o : Obj => (Below.refl B w).alloc hB o
  have ha0 := fun o : Obj => (Lib.OthersKept.refl 5 (some b) w).alloc o
  have HBW := Lib.hid hbw
  have HT := Lib.hid hT
  have HB0 := Lib.hid hb0
  have HA0 := Lib.hid ha0
  have HLT := Lib.hid hbw.lt
  have HSZ := Lib.hid hl
  have ex : T.wr = wrK T.kind T.name.data.toList T.n (T.args.map Tm.wr) := by rw [Tm.wr_eq, Tm.wrs_map]
  have eop : T.wr.op = (decide (T.kind = 2) && opN T.name.data.toList) := by rw [ex]; rfl
  have hwi := fun (W : World) (hW : Below B w W) (hbW : BW B b l W) => IH T ad cap W B b l p hm hM hmay (hin.onB hW) (Nat.le_trans hB hW.size) (fun V hV => hT V (hW.trans hV)) hbW hl
  have hop := fun W => wr_isOperator T.name W
  have hcw := fun W h => char_Write T.name W hin.name h
  have hwl := write_len T.name.data.toList
  unfold Wr.opd
  rw [eop]
  unfold tmv at hwi ⊢
  by_cases h2 : T.kind = 2
  · rw [decide_eq_true h2]
    rw [h2] at hwi
    have etx : T.wr.txt p = writeL T.name.data.toList := by rw [ex, h2]; rfl
    cases hon : opN T.name.data.toList with
    | true =>
      rw [hon] at hop
      rw [if_pos (show (true && true) = true from rfl), etx, h2]
      have HOP := Lib.hid hop
      have HCW := Lib.hid hcw
      clear hwi hop hcw hon etx eop ex hb0 ha0 hbw hT h2 hl hin hmay IH
      generalize writeL T.name.data.toList = x at *
      go_enter Tryd.func73, Tryd.ntmps73
      go_wp2_with fail
      refine (HOP.out _).mono ?_
      rintro e w1 ⟨rfl, hb1⟩
      have hbw1 := (HBW.out.past _).on hb1
      have hbl1 := (HB0.out _).trans (hb1.mono (by simp; omega))
      have hap1 := apart_on (HA0.out _) hb1
      obtain ⟨hc1, hf1⟩ := bcell_alloc hb1
      clear hb1
      go_wp2_with fail
      refine (HCW.out _ (HT.out _ hbl1).u).mono ?_
      rintro e w2 ⟨rfl, hb2⟩
      have hbw2 := hbw1.on hb2
      have hbl2 := hbl1.trans (hb2.mono (Nat.le_trans hB hbl1.size))
      have hap2 := apart_on hap1 hb2
      clear hb2 hbw1 hbl1 hap1 hc1 hf1
      go_wp2_with fail
      refine (wr_lay3 B b l _ _ _ _ w2 (by simp) hbw2 (by have := HSZ.out; show _ + (1 + (x.toArray.size + 1)) ≤ _; rw [List.size_toArray]; omega) (Nat.le_trans hB hbl2.size)).mono ?_
      rintro e w3 ⟨rfl, hbw3, hbl3, hap3⟩
      have hbl4 := hbl2.trans hbl3
      have hap4 := hap2.trans hap3
      clear hbw2 hbl2 hap2 hbl3 hap3
      go_wp2_with fail
      go_end0
      exact ⟨rfl, hbw3, hbl4, hap4⟩
    | false =>
      rw [hon] at hop
      rw [if_neg (by decide), h2]
      have HOP := Lib.hid hop
      have HWI := Lib.hid hwi
      clear hwi hop hcw hon etx eop ex hb0 ha0 hbw hT h2 hl hin hmay IH
      generalize T.wr.txt p = x at *
      go_enter Tryd.func73, Tryd.ntmps73
      go_wp2_with fail
      refine (HOP.out _).mono ?_
      rintro e w1 ⟨rfl, hb1⟩
      have hbw1 := (HBW.out.past _).on hb1
      have hbl1 := (HB0.out _).trans (hb1.mono (by simp; omega))
      have hap1 := apart_on (HA0.out _) hb1
      obtain ⟨hc1, hf1⟩ := bcell_alloc hb1
      clear hb1
      go_wp2_with fail
      refine (HWI.out _ hbl1 hbw1).mono ?_
      rintro e w3 ⟨rfl, hbw3, hbl3, hap3⟩
      have hbl4 := hbl1.trans hbl3
      have hap4 := hap1.trans hap3
      clear hbw1 hbl1 hap1 hbl3 hap3 hc1 hf1
      go_wp2_with fail
      go_end0
      exact ⟨rfl, hbw3, hbl4, hap4⟩
  · rw [decide_eq_false h2, Bool.false_and, if_neg (by decide)]
    have e2 : (T.kind == 2) = false := by simpa using h2
    have HWI := Lib.hid hwi
    clear hwi hop hcw eop ex hb0 ha0 hbw hT h2 hl hin hmay IH
    generalize T.wr.txt p = x at *
    go_enter Tryd.func73, Tryd.ntmps73
    go_wp2_with fail
    refine (HWI.out _ (HB0.out _) (HBW.out.past _)).mono ?_
    rintro e w3 ⟨rfl, hbw3, hbl3, hap3⟩
    have hbl4 := (HB0.out _).trans hbl3
    have hap4 := (HA0.out _).trans hap3
    clear hbl3 hap3
    go_wp2_with fail
    go_end0
    exact ⟨rfl, hbw3, hbl4, hap4⟩
end Go.Proofs.YtdjejbgokamjeaaDoor
