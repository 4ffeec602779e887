import Derived.Test.YtdjejbgokamjeaaGreatDoorWa
import Derived.Test.YtdjejbgokamjeaaGreatDoorWriteK
import Derived.Test.YtdjejbgokamjeaaGreatDoorNt
import Derived.Deep.RegionHeld3
namespace Go.Proofs.YtdjejbgokamjeaaGreatDoor
open Go.RowKit
theorem opR_name (s : ByteArray) (n : Int) : opR s.data.toList n = findR tabR s n := by unfold opR; simp
theorem opAns_two (E : Option R) : ∃ (p : Int) (k : ByteArray), opAns E = .tuple #[.agg #[.int .i64 p, .string k], .bool E.isSome] := by
 cases E with
 | none => exact ⟨0, ⟨#[]⟩, rfl⟩
 | some r => exact ⟨r.p, r.k, rfl⟩
set_option maxHeartbeats 2000000 in
set_option maxRecDepth 100000 in
theorem wr_isOperator (s : ByteArray) (w : World) :
 Calls Tryz.prog 109 #[.string s] w fun e w' => e = .returned (.bool (opN s.data.toList)) /\ Below w.heap.size w w' := by
 unfold opN;rw [opR_name, opR_name];have h2 := fun W => ops_Prefix s W;have h3 := fun W => ops_Infix s W;obtain ⟨p2, k2, e2⟩ := opAns_two (findR tabR s 2);obtain ⟨p3, k3, e3⟩ := opAns_two (findR tabR s 3);rw [e2] at h2;rw [e3] at h3;have H2 := Lib.hid h2;have H3 := Lib.hid h3;have H0 := Lib.hid (Below.refl w.heap.size w);clear h2 h3 e2 e3;generalize (findR tabR s 2).isSome = x at *;generalize (findR tabR s 3).isSome = y at *;cases x with
 | true =>
  go_enter Tryz.func109, Tryz.ntmps109;go_wp2_with fail;refine (H2.out _).mono ?_;rintro e w1 ⟨rfl, hb1⟩;go_wp2_with fail;refine (H3.out _).mono ?_;rintro e w2 ⟨rfl, hb2⟩;have hb := (hb1.alloc hb1.size _).trans (hb2.mono (Nat.le_trans hb1.size (by simp)));clear hb1 hb2;go_wp2_with fail;go_ret;exact ⟨rfl, hb.alloc hb.size _⟩
 | false =>
  cases y with
  | true =>
   go_enter Tryz.func109, Tryz.ntmps109;go_wp2_with fail;refine (H2.out _).mono ?_;rintro e w1 ⟨rfl, hb1⟩;go_wp2_with fail;refine (H3.out _).mono ?_;rintro e w2 ⟨rfl, hb2⟩;have hb := (hb1.alloc hb1.size _).trans (hb2.mono (Nat.le_trans hb1.size (by simp)));clear hb1 hb2;go_wp2_with fail;go_ret;exact ⟨rfl, hb.alloc hb.size _⟩
  | false =>
   go_enter Tryz.func109, Tryz.ntmps109;go_wp2_with fail;refine (H2.out _).mono ?_;rintro e w1 ⟨rfl, hb1⟩;go_wp2_with fail;refine (H3.out _).mono ?_;rintro e w2 ⟨rfl, hb2⟩;have hb := (hb1.alloc hb1.size _).trans (hb2.mono (Nat.le_trans hb1.size (by simp)));clear hb1 hb2;go_wp2_with fail;go_ret;exact ⟨rfl, hb.alloc hb.size _⟩
def pairB (k : Int) (s : List UInt8) (n : Nat) : Bool := decide (k = 4) && (decide (s = [46]) && decide (n = 2))
def nilB (k : Int) (s : List UInt8) : Bool := decide (k = 2) && decide (s = [91, 93])
set_option maxHeartbeats 2000000 in
set_option maxRecDepth 100000 in
theorem wr_isPair (k n : Int) (s : ByteArray) (ad : Option Addr) (len cap : Nat) (w : World) :
 Calls Tryz.prog 67 #[.agg #[.int .i64 k, .string s, .int .i64 n, .slice ad len cap]] w fun e w' => e = .returned (.bool (pairB k s.data.toList len)) /\ Below w.heap.size w w' := by
 have HB0 := Lib.hid (fun o : Obj => (Below.refl w.heap.size w).alloc (Nat.le_refl _) o);unfold pairB;by_cases hk : k = 4
 · subst hk;by_cases hs : s.data.toList = [46]
   · have hs1 : (s.toList == [46]) = true := by rw [ByteArray.toList_eq, hs]; rfl
     rw [decide_eq_true hs];by_cases hl : len = 2
     · subst hl;clear hs;go_enter Tryz.func67, Tryz.ntmps67;go_wp2_with fail;go_ret;exact ⟨rfl, HB0.out _⟩
     · rw [decide_eq_false hl];have hl1 : ((len : Int) == 2) = false := by simp; omega
       clear hs hl;go_enter Tryz.func67, Tryz.ntmps67;go_wp2_with fail;go_ret;exact ⟨rfl, HB0.out _⟩
   · have hs1 : (s.toList == [46]) = false := by rw [ByteArray.toList_eq]; exact beq_eq_false_iff_ne.2 hs
     rw [decide_eq_false hs];clear hs;go_enter Tryz.func67, Tryz.ntmps67;go_wp2_with fail;go_ret;exact ⟨rfl, HB0.out _⟩
 · have hk1 : (k == 4) = false := by simpa using hk
   rw [decide_eq_false hk];clear hk;go_enter Tryz.func67, Tryz.ntmps67;go_wp2_with fail;go_ret;exact ⟨rfl, HB0.out _⟩
set_option maxHeartbeats 2000000 in
set_option maxRecDepth 100000 in
theorem wr_isEmptyList (k n : Int) (s : ByteArray) (ad : Option Addr) (len cap : Nat) (w : World) :
 Calls Tryz.prog 86 #[.agg #[.int .i64 k, .string s, .int .i64 n, .slice ad len cap]] w fun e w' => e = .returned (.bool (nilB k s.data.toList)) /\ Below w.heap.size w w' := by
 have HB0 := Lib.hid (fun o : Obj => (Below.refl w.heap.size w).alloc (Nat.le_refl _) o);unfold nilB;by_cases hk : k = 2
 · subst hk;by_cases hs : s.data.toList = [91, 93]
   · have hs1 : (s.toList == [91, 93]) = true := by rw [ByteArray.toList_eq, hs]; rfl
     rw [decide_eq_true hs];clear hs;go_enter Tryz.func86, Tryz.ntmps86;go_wp2_with fail;go_ret;exact ⟨rfl, HB0.out _⟩
   · have hs1 : (s.toList == [91, 93]) = false := by rw [ByteArray.toList_eq]; exact beq_eq_false_iff_ne.2 hs
     rw [decide_eq_false hs];clear hs;go_enter Tryz.func86, Tryz.ntmps86;go_wp2_with fail;go_ret;exact ⟨rfl, HB0.out _⟩
 · have hk1 : (k == 2) = false := by simpa using hk
   rw [decide_eq_false hk];clear hk;go_enter Tryz.func86, Tryz.ntmps86;go_wp2_with fail;go_ret;exact ⟨rfl, HB0.out _⟩
theorem apart_new {b : Nat} {w : World} {o : Obj} {w' : World} (h : Apart b (w.alloc o) w') : Apart b w w' := ((Lib.OthersKept.refl _ _ w).alloc o).trans h
theorem wr_lays (B b : Nat) (l : List UInt8) (ps : List ByteArray) (C : Array Value) (g n : Nat) (w : World) (hC : C = (ps.map Value.string).toArray) (hg : g = w.heap.size) (hn : n = ps.length) (hps : ps.length <= 1000) (h : BW B b l w) (hlen : l.length + (catL ps).length <= 100000000000) (hBw : B <= w.heap.size) :
 Calls Tryz.prog 42 #[.pointer (some ⟨b, 0, none⟩), .slice (some ⟨g, 0, none⟩) n n] (w.alloc (.cells C 9)) (Laid B b w (l ++ catL ps)) := by
 subst hg hn;refine (wr_lay B b l ps w.heap.size C (0, 0) (w.alloc (.cells C 9)) (h.past _) (heap_alloc_new w _) hC hps hlen (by simp; omega)).mono ?_;rintro e w1 ⟨rfl, hb, hbl, hap⟩;exact ⟨rfl, hb, ((Below.refl B w).alloc hBw _).trans hbl, apart_new hap⟩
theorem wr_lay1 (B b : Nat) (l : List UInt8) (s : ByteArray) (g : Nat) (w : World) (hg : g = w.heap.size) (h : BW B b l w) (hlen : l.length + s.size <= 100000000000) (hBw : B <= w.heap.size) :
 Calls Tryz.prog 42 #[.pointer (some ⟨b, 0, none⟩), .slice (some ⟨g, 0, none⟩) 1 1] (w.alloc (.cells #[.string s] 9)) (Laid B b w (l ++ s.data.toList)) := by
 have e : catL [s] = s.data.toList := by show s.data.toList ++ [] = _; simp
 have h1 := wr_lays B b l [s] #[.string s] g 1 w rfl hg rfl (by show (1 : Nat) <= 1000; omega) h (by rw [e]; exact hlen) hBw;rw [e] at h1;exact h1
theorem wr_lay2 (B b : Nat) (l : List UInt8) (s t : ByteArray) (g : Nat) (w : World) (hg : g = w.heap.size) (h : BW B b l w) (hlen : l.length + (s.size + t.size) <= 100000000000) (hBw : B <= w.heap.size) :
 Calls Tryz.prog 42 #[.pointer (some ⟨b, 0, none⟩), .slice (some ⟨g, 0, none⟩) 2 2] (w.alloc (.cells #[.string s, .string t] 9)) (Laid B b w (l ++ (s.data.toList ++ t.data.toList))) := by
 have e : catL [s, t] = s.data.toList ++ t.data.toList := by show s.data.toList ++ (t.data.toList ++ []) = _; simp
 have h1 := wr_lays B b l [s, t] #[.string s, .string t] g 2 w rfl hg rfl (by show (2 : Nat) <= 1000; omega) h (by rw [e, List.length_append]; exact hlen) hBw;rw [e] at h1;exact h1
theorem wr_lay3 (B b : Nat) (l : List UInt8) (s t u : ByteArray) (g : Nat) (w : World) (hg : g = w.heap.size) (h : BW B b l w) (hlen : l.length + (s.size + (t.size + u.size)) <= 100000000000) (hBw : B <= w.heap.size) :
 Calls Tryz.prog 42 #[.pointer (some ⟨b, 0, none⟩), .slice (some ⟨g, 0, none⟩) 3 3] (w.alloc (.cells #[.string s, .string t, .string u] 9)) (Laid B b w (l ++ (s.data.toList ++ (t.data.toList ++ u.data.toList)))) := by
 have e : catL [s, t, u] = s.data.toList ++ (t.data.toList ++ u.data.toList) := by show s.data.toList ++ (t.data.toList ++ (u.data.toList ++ [])) = _; simp
 have h1 := wr_lays B b l [s, t, u] #[.string s, .string t, .string u] g 3 w rfl hg rfl (by show (3 : Nat) <= 1000; omega) h (by rw [e, List.length_append, List.length_append]; exact hlen) hBw;rw [e] at h1;exact h1
def WrWithin (m : Nat) : Prop := ∀ (T : Tm) (ad : Option Addr) (cap : Nat) (w : World) (B b : Nat) (l : List UInt8) (p : Int), T.size <= m -> T.size <= 1000000 -> T.may = true -> TmP w (fun k => k < B) T ad cap -> B <= w.heap.size -> (∀ W, Below B w W -> AllT W) -> BW B b l w -> l.length + 1400 * T.size <= 2000000000 ->
 Calls Tryz.prog 30 #[.pointer (some ⟨b, 0, none⟩), tmv T ad cap, .int .i64 p] w (Laid B b w (l ++ T.wr.txt p))
theorem TmP.n64 {w : World} {P : Nat -> Prop} {T : Tm} {ad : Option Addr} {cap : Nat} (h : TmP w P T ad cap) : T.n64 := (Tm.n64_eq T).2 ⟨h.n, (TArgsP.all h.args).n64⟩
set_option maxHeartbeats 4000000 in
set_option maxRecDepth 100000 in
theorem wr_operand (m : Nat) (IH : WrWithin m) (T : Tm) (ad : Option Addr) (cap : Nat) (w : World) (B b : Nat) (l : List UInt8) (p : Int) (hm : T.size <= m) (hM : T.size <= 1000000) (hmay : T.may = true) (hin : TmP w (fun k => k < B) T ad cap) (hB : B <= w.heap.size) (hT : ∀ W, Below B w W -> AllT W) (hbw : BW B b l w) (hl : l.length + 1400 * T.size <= 2000000000) :
 Calls Tryz.prog 87 #[.pointer (some ⟨b, 0, none⟩), tmv T ad cap, .int .i64 p] w (Laid B b w (l ++ T.wr.opd p)) := by
 have hsz := T.size_pos;have hb0 := fun o : Obj => (Below.refl B w).alloc hB o;have ha0 := fun o : Obj => (Lib.OthersKept.refl 5 (some b) w).alloc o;have HBW := Lib.hid hbw;have HT := Lib.hid hT;have HB0 := Lib.hid hb0;have HA0 := Lib.hid ha0;have HLT := Lib.hid hbw.lt;have HSZ := Lib.hid hl;have ex : T.wr = wrK T.kind T.name.data.toList T.n (T.args.map Tm.wr) := by rw [Tm.wr_eq, Tm.wrs_map]
 have eop : T.wr.op = (decide (T.kind = 2) && opN T.name.data.toList) := by rw [ex]; rfl
 have hwi := fun (W : World) (hW : Below B w W) (hbW : BW B b l W) => IH T ad cap W B b l p hm hM hmay (hin.onB hW) (Nat.le_trans hB hW.size) (fun V hV => hT V (hW.trans hV)) hbW hl;have hop := fun W => wr_isOperator T.name W;have hcw := fun W h => char_Write T.name W hin.name h;have hwl := write_len T.name.data.toList;unfold Wr.opd;rw [eop];unfold tmv at hwi ⊢;by_cases h2 : T.kind = 2
 · rw [decide_eq_true h2];rw [h2] at hwi;have etx : T.wr.txt p = writeL T.name.data.toList := by rw [ex, h2]; rfl
   cases hon : opN T.name.data.toList with
   | true =>
    rw [hon] at hop;rw [if_pos (show (true && true) = true from rfl), etx, h2];have HOP := Lib.hid hop;have HCW := Lib.hid hcw;clear hwi hop hcw hon etx eop ex hb0 ha0 hbw hT h2 hl hin hmay IH;generalize writeL T.name.data.toList = x at *;go_enter Tryz.func87, Tryz.ntmps87;go_wp2_with fail;refine (HOP.out _).mono ?_;rintro e w1 ⟨rfl, hb1⟩;have hbw1 := (HBW.out.past _).on hb1;have hbl1 := (HB0.out _).trans (hb1.mono (by simp; omega));have hap1 := apart_on (HA0.out _) hb1;obtain ⟨hc1, hf1⟩ := bcell_alloc hb1;clear hb1;go_wp2_with fail;refine (HCW.out _ (HT.out _ hbl1).u).mono ?_;rintro e w2 ⟨rfl, hb2⟩;have hbw2 := hbw1.on hb2;have hbl2 := hbl1.trans (hb2.mono (Nat.le_trans hB hbl1.size));have hap2 := apart_on hap1 hb2;clear hb2 hbw1 hbl1 hap1 hc1 hf1;go_wp2_with fail;refine (wr_lay3 B b l _ _ _ _ w2 (by simp) hbw2 (by have := HSZ.out; show _ + (1 + (x.toArray.size + 1)) <= _; rw [List.size_toArray]; omega) (Nat.le_trans hB hbl2.size)).mono ?_;rintro e w3 ⟨rfl, hbw3, hbl3, hap3⟩;have hbl4 := hbl2.trans hbl3;have hap4 := hap2.trans hap3;clear hbw2 hbl2 hap2 hbl3 hap3;go_wp2_with fail;go_end0;exact ⟨rfl, hbw3, hbl4, hap4⟩
   | false =>
    rw [hon] at hop;rw [if_neg (by decide), h2];have HOP := Lib.hid hop;have HWI := Lib.hid hwi;clear hwi hop hcw hon etx eop ex hb0 ha0 hbw hT h2 hl hin hmay IH;generalize T.wr.txt p = x at *;go_enter Tryz.func87, Tryz.ntmps87;go_wp2_with fail;refine (HOP.out _).mono ?_;rintro e w1 ⟨rfl, hb1⟩;have hbw1 := (HBW.out.past _).on hb1;have hbl1 := (HB0.out _).trans (hb1.mono (by simp; omega));have hap1 := apart_on (HA0.out _) hb1;obtain ⟨hc1, hf1⟩ := bcell_alloc hb1;clear hb1;go_wp2_with fail;refine (HWI.out _ hbl1 hbw1).mono ?_;rintro e w3 ⟨rfl, hbw3, hbl3, hap3⟩;have hbl4 := hbl1.trans hbl3;have hap4 := hap1.trans hap3;clear hbw1 hbl1 hap1 hbl3 hap3 hc1 hf1;go_wp2_with fail;go_end0;exact ⟨rfl, hbw3, hbl4, hap4⟩
 · rw [decide_eq_false h2, Bool.false_and, if_neg (by decide)];have e2 : (T.kind == 2) = false := by simpa using h2
   have HWI := Lib.hid hwi;clear hwi hop hcw eop ex hb0 ha0 hbw hT h2 hl hin hmay IH;generalize T.wr.txt p = x at *;go_enter Tryz.func87, Tryz.ntmps87;go_wp2_with fail;refine (HWI.out _ (HB0.out _) (HBW.out.past _)).mono ?_;rintro e w3 ⟨rfl, hbw3, hbl3, hap3⟩;have hbl4 := (HB0.out _).trans hbl3;have hap4 := (HA0.out _).trans hap3;clear hbl3 hap3;go_wp2_with fail;go_end0;exact ⟨rfl, hbw3, hbl4, hap4⟩
theorem keepx {b : Nat} {w0 w1 : World} {C : Array Value} {t : TypeId} (h : Apart b (w0.alloc (.cells C t)) w1) (ht : t ≠ 5) (hb : b < w0.heap.size) : w1.heap[w0.heap.size]? = some (.cells C t (0, 0)) :=
 apart_keep h (heap_alloc_new w0 _) ht (by omega)
def preW (ws : List Wr) (k : Nat) : List UInt8 := if k = 0 then [] else 40 :: commaW (ws.take k)
theorem commaW_snoc (x : Wr) : ∀ l : List Wr, commaW (l ++ [x]) = if l = [] then x.txt 999 else commaW l ++ 44 :: x.txt 999
 | [] => rfl
 | [a] => rfl
 | a :: c :: l => by
  rw [if_neg (by simp)];have h := commaW_snoc x (c :: l);rw [if_neg (by simp)] at h;show a.txt 999 ++ 44 :: commaW ((c :: l) ++ [x]) = (a.txt 999 ++ 44 :: commaW (c :: l)) ++ 44 :: x.txt 999
  rw [h];simp
theorem preW_step (ws : List Wr) (k : Nat) (h : k < ws.length) : preW ws (k + 1) = preW ws k ++ (betw k :: (ws[k]'h).txt 999) := by
 unfold preW betw;rw [if_neg (by omega), List.take_succ_eq_append_getElem h, commaW_snoc];by_cases hk : k = 0
 · subst hk;simp
 · rw [if_neg hk, if_neg hk, if_neg (by intro e; have := congrArg List.length e; rw [List.length_take, List.length_nil] at this; omega)];simp
theorem preW_all (ws : List Wr) (h : 0 < ws.length) : preW ws ws.length ++ [41] = 40 :: (commaW ws ++ [41]) := by
 unfold preW;rw [if_neg (by omega), List.take_length];rfl
theorem commaW_take (ws : List Wr) (k : Nat) : (commaW (ws.take k)).length <= (commaW ws).length := by
 by_cases h : k < ws.length
 · have h1 : (commaW (ws.take k)).length <= (commaW (ws.take (k + 1))).length := by
    rw [List.take_succ_eq_append_getElem h, commaW_snoc];split
    · rename_i e; rw [e]; exact Nat.zero_le _
    · rw [List.length_append]; omega
   exact Nat.le_trans h1 (commaW_take ws (k + 1))
 · rw [List.take_of_length_le (by omega)];exact Nat.le_refl _
termination_by ws.length - k
theorem preW_len (ws : List Wr) (k : Nat) : (preW ws k).length <= 1 + (commaW ws).length := by
 have := commaW_take ws k;unfold preW;split
 · exact Nat.zero_le _
 · rw [List.length_cons]; omega
theorem maps_get (l : List Tm) (k : Nat) (h : k < l.length) : (l.map Tm.wr)[k]'(by rw [List.length_map]; exact h) = (l[k]'h).wr := by simp
theorem n64s_mem : ∀ {ts : List Tm}, Tm.n64s ts -> ∀ y ∈ ts, y.n64
 | [], _, y, hy => by cases hy
 | a :: ts, h, y, hy => by
  rcases List.mem_cons.1 hy with rfl | hy
  · exact h.1
  · exact n64s_mem h.2 y hy
theorem mays_get (l : List Tm) (h : Tm.mays l = true) (k : Nat) (hk : k < l.length) : (l[k]'hk).may = true := by
 rw [Tm.mays_all, List.all_eq_true] at h;exact h _ (List.getElem_mem hk)
set_option maxRecDepth 100000 in
set_option maxHeartbeats 4000000 in
theorem wr_called0 (m : Nat) (IH : WrWithin m) (T : Tm) (ad : Option Addr) (cap : Nat) (w : World) (B b : Nat) (l : List UInt8) (hm : T.size <= m + 1) (hM : T.size <= 1000000) (hmays : Tm.mays T.args = true) (hlen : 1 <= T.args.length) (hin : TmP w (fun k => k < B) T ad cap) (hB : B <= w.heap.size) (hT : ∀ W, Below B w W -> AllT W) (hbw : BW B b l w) (hl : l.length + 1400 * T.size <= 2000000000) (hs : T.name.data.toList = [91, 93]) :
 Calls Tryz.prog 70 #[.pointer (some ⟨b, 0, none⟩), tmv T ad cap] w (Laid B b w (l ++ callK T.name.data.toList (T.args.map Tm.wr))) := by
 have hsz := T.size_eq;have hcl := comma_len T.args (fun x hx => wr_fits x (n64s_mem ((Tm.n64_eq T).1 hin.n64).2 x hx));have hfn := fn_len T.name.data.toList;have hpa := Lib.hid (preW_all (T.args.map Tm.wr) (by rw [List.length_map]; omega));have hpl := Lib.hid (preW_len (T.args.map Tm.wr));have hps := Lib.hid (preW_step (T.args.map Tm.wr));have hb0 := fun o : Obj => (Below.refl B w).alloc hB o;have ha0 := fun o : Obj => (Lib.OthersKept.refl 5 (some b) w).alloc o;have HBW := Lib.hid hbw;have HT := Lib.hid hT;have HB0 := Lib.hid hb0;have HA0 := Lib.hid ha0;have hlt := hbw.lt;have HM := Lib.hid (mays_get T.args hmays);have HG := Lib.hid (maps_get T.args);have HIN := Lib.hid hin;have HI := Lib.hid IH;have HSZ := Lib.hid hsz;have HLL := Lib.hid hl;have hcw := Lib.hid (fun W h => char_Write T.name W hin.name h);have hcapl := hin.len;have hcapm := hin.cap;have hM0 := HSZ.out;have hall : T.args.length <= 1000000 := by have := Tm.length_le_sizes T.args; omega
 unfold maxLen at hcapm;obtain ⟨F, hF⟩ : ∃ F, fnK T.name.data.toList = F := ⟨_, rfl⟩;have hFL : F.length <= 1277 := by rw [<- hF]; exact hfn
 unfold callK;rw [hF];have es : T.name = ⟨#[91, 93]⟩ := by apply ByteArray.ext; rw [<- Array.toList_inj]; exact hs
 rw [hs] at hF;have hF : [39, 91, 93, 39] = F := hF;clear hs;have HF := Lib.hid hF;have HCL := Lib.hid hcl;unfold tmv;rw [es];clear hT hbw hin hmays IH hb0 ha0 hF hsz hfn hcl hM0 hl;go_enter Tryz.func70, Tryz.ntmps70;go_wp2_with fail;refine (wr_lay3 B b l _ _ _ _ _ (by simp) (HBW.out.past _) (by show _ + (1 + (2 + 1)) <= _; have := HLL.out; omega) (by simp; omega)).mono ?_;rintro e w2 ⟨rfl, hbw2, hbl2, hap2⟩;have hbx := keepx hap2 (by decide) hlt;have hbl2 := (HB0.out _).trans hbl2;have hap2 := apart_new hap2;have hbw2 : BW B b (l ++ F) w2 := by rw [<- HF.out]; exact hbw2
 obtain ⟨d0, d1, d2, d3⟩ := cellx4 hbx;go_wp2_with fail;clear d0 d1 d2 d3;clear hbx;go_loopw [4, 26] (fun av iv wr => ∃ k : Nat, k <= T.args.length /\ iv = .int .i64 k /\ av = .string ⟨#[betw k]⟩ /\ BW B b (l ++ (F ++ preW (T.args.map Tm.wr) k)) wr /\ Below B w wr /\ Apart b w wr) (fun _ iv _ => T.args.length - (intOf iv).toNat)
 case atStart => exact ⟨0, Nat.zero_le _, rfl, rfl, by show BW B b (l ++ (F ++ [])) _; rw [List.append_nil]; exact hbw2, hbl2, hap2⟩
 case round =>
  obtain ⟨k, hk, rfl, rfl, hbwr, hblr, hapr⟩ := hrel;have hplk := hpl.out k;have hclk := HCL.out;have hszk := HSZ.out;have hlk := HLL.out;have hln : (l ++ (F ++ preW (T.args.map Tm.wr) k)).length <= 4000000000 := by rw [List.length_append, List.length_append]; omega
  have hBr : B <= wr.heap.size := Nat.le_trans hB hblr.size;by_cases hlt2 : k < T.args.length
  · obtain ⟨o1, o2, rfl⟩ := HIN.out.args.addr' (by omega);obtain ⟨ad1, cap1, c0, c1, c2, c3, hin1⟩ := (HIN.out.args.onB hblr).get k hlt2;have hmem := Tm.mem_size (List.getElem_mem hlt2);have hst := hps.out k (by rw [List.length_map]; exact hlt2);rw [HG.out k hlt2] at hst;have hmx := HM.out k hlt2;have hss : Tm.sizes (T.args.take k) + (T.args[k]).size <= Tm.sizes T.args := by
     have h1 := Tm.sizes_append (T.args.take k) [T.args[k]];rw [<- List.take_succ_eq_append_getElem hlt2] at h1;have h2 := Tm.sizes_take T.args (k + 1);have h3 : Tm.sizes [T.args[k]] = (T.args[k]).size := by show _ + 0 = _; omega
     omega
    have hpk1 : (preW (T.args.map Tm.wr) k).length <= 1 + 1400 * Tm.sizes (T.args.take k) := by
     have h2 := comma_len (T.args.take k) (fun x hx => wr_fits x (n64s_mem ((Tm.n64_eq T).1 HIN.out.n64).2 x (List.mem_of_mem_take hx)));unfold preW;split
     · exact Nat.zero_le _
     · rw [List.length_cons, <- List.map_take]; omega
    generalize T.args[k] = x at *;have hxm : x.size <= m := by omega
    have hxM : x.size <= 1000000 := by omega
    have hcond : (l ++ (F ++ preW (T.args.map Tm.wr) k) ++ [betw k]).length + 1400 * x.size <= 2000000000 := by
     rw [List.length_append, List.length_append, List.length_append, List.length_singleton]; omega
    have hne : b < wr.heap.size := hbwr.lt;have ho1 := fun o : Obj => (Below.refl B wr).alloc hBr o;have hwi := fun (W : World) (hW : Below B wr W) (hbW : BW B b (l ++ (F ++ preW (T.args.map Tm.wr) k) ++ [betw k]) W) => HI.out x ad1 cap1 W B b (l ++ (F ++ preW (T.args.map Tm.wr) k) ++ [betw k]) 999 hxm hxM hmx (hin1.onB hW) (Nat.le_trans hBr hW.size) (fun V hV => HT.out V ((hblr.trans hW).trans hV)) hbW hcond;unfold tmv at hwi;have HWI := Lib.hid hwi;have HO1 := Lib.hid ho1;have HST := Lib.hid hst;have HBR := Lib.hid hblr;have HAR := Lib.hid hapr;have HBWR := Lib.hid hbwr;clear hwi ho1 hst hblr hapr hbwr hin1 hcond hss hmem hplk hclk hszk hlk hmx hpk1;generalize betw k = bt at *;go_wp2_with fail;refine (wr_lay1 B b _ _ _ _ (by simp) (HBWR.out.past _) (by show _ + 1 <= _; omega) (by simp; omega)).mono ?_;rintro e w3 ⟨rfl, hbw3, hbl3, hap3⟩;have hbx3 := keepx hap3 (by decide) hne;have hbl4 := (HO1.out _).trans hbl3;have hap4 := apart_new hap3;obtain ⟨d0, d1, d2, d3⟩ := cellx4 hbx3;have hbs4 := hbl4.size;clear hbl3 hap3 c0 c1 c2 c3;go_wp2_with fail;refine (HWI.out _ hbl4 hbw3).mono ?_;rintro e w5 ⟨rfl, hbw5, hbl5, hap5⟩;have hbl6 := HBR.out.trans (hbl4.trans hbl5);have hap6 := HAR.out.trans (hap4.trans hap5);have hbw6 : BW B b (l ++ (F ++ preW (T.args.map Tm.wr) (k + 1))) w5 := by
     rw [HST.out];have e1 : l ++ (F ++ (preW (T.args.map Tm.wr) k ++ bt :: x.wr.txt 999)) = (l ++ (F ++ preW (T.args.map Tm.wr) k) ++ [bt]) ++ x.wr.txt 999 := by simp
     rw [e1];exact hbw5
    clear hbl4 hap4 hbl5 hap5 d0 d1 d2 d3 hbx3 hbw3 hbw5;go_wp2_with fail;go_roundw
    case rel => exact ⟨k + 1, by omega, by go_num, rfl, hbw6, hbl6, hap6⟩
    case measure => simp [intOf]; omega
  · have he : k = (T.args.map Tm.wr).length := by rw [List.length_map]; omega
    have hfin : (l ++ (F ++ preW (T.args.map Tm.wr) k)) ++ [41] = l ++ (F ++ 40 :: (commaW (T.args.map Tm.wr) ++ [41])) := by
     rw [<- hpa.out, <- he]; simp
    have HFIN := Lib.hid hfin;have HBR := Lib.hid hblr;have HAR := Lib.hid hapr;have HBWR := Lib.hid hbwr;clear hfin hblr hapr hbwr he hplk hclk hszk hlk;go_wp2_with fail;refine (wr_lay1 B b _ _ _ _ (by simp) HBWR.out (by show _ + 1 <= _; omega) hBr).mono ?_;rintro e w3 ⟨rfl, hbw3, hbl3, hap3⟩;have hbl4 := HBR.out.trans hbl3;have hap4 := HAR.out.trans hap3;have hbw4 : BW B b (l ++ (F ++ 40 :: (commaW (T.args.map Tm.wr) ++ [41]))) w3 := by rw [<- HFIN.out]; exact hbw3
    clear hbl3 hap3 hbw3;go_wp2_with fail;go_end0;exact ⟨rfl, hbw4, hbl4, hap4⟩
set_option maxRecDepth 100000 in
set_option maxHeartbeats 4000000 in
theorem wr_called1 (m : Nat) (IH : WrWithin m) (T : Tm) (ad : Option Addr) (cap : Nat) (w : World) (B b : Nat) (l : List UInt8) (hm : T.size <= m + 1) (hM : T.size <= 1000000) (hmays : Tm.mays T.args = true) (hlen : 1 <= T.args.length) (hin : TmP w (fun k => k < B) T ad cap) (hB : B <= w.heap.size) (hT : ∀ W, Below B w W -> AllT W) (hbw : BW B b l w) (hl : l.length + 1400 * T.size <= 2000000000) (hs : T.name.data.toList = [123, 125]) :
 Calls Tryz.prog 70 #[.pointer (some ⟨b, 0, none⟩), tmv T ad cap] w (Laid B b w (l ++ callK T.name.data.toList (T.args.map Tm.wr))) := by
 have hsz := T.size_eq;have hcl := comma_len T.args (fun x hx => wr_fits x (n64s_mem ((Tm.n64_eq T).1 hin.n64).2 x hx));have hfn := fn_len T.name.data.toList;have hpa := Lib.hid (preW_all (T.args.map Tm.wr) (by rw [List.length_map]; omega));have hpl := Lib.hid (preW_len (T.args.map Tm.wr));have hps := Lib.hid (preW_step (T.args.map Tm.wr));have hb0 := fun o : Obj => (Below.refl B w).alloc hB o;have ha0 := fun o : Obj => (Lib.OthersKept.refl 5 (some b) w).alloc o;have HBW := Lib.hid hbw;have HT := Lib.hid hT;have HB0 := Lib.hid hb0;have HA0 := Lib.hid ha0;have hlt := hbw.lt;have HM := Lib.hid (mays_get T.args hmays);have HG := Lib.hid (maps_get T.args);have HIN := Lib.hid hin;have HI := Lib.hid IH;have HSZ := Lib.hid hsz;have HLL := Lib.hid hl;have hcw := Lib.hid (fun W h => char_Write T.name W hin.name h);have hcapl := hin.len;have hcapm := hin.cap;have hM0 := HSZ.out;have hall : T.args.length <= 1000000 := by have := Tm.length_le_sizes T.args; omega
 unfold maxLen at hcapm;obtain ⟨F, hF⟩ : ∃ F, fnK T.name.data.toList = F := ⟨_, rfl⟩;have hFL : F.length <= 1277 := by rw [<- hF]; exact hfn
 unfold callK;rw [hF];have es : T.name = ⟨#[123, 125]⟩ := by apply ByteArray.ext; rw [<- Array.toList_inj]; exact hs
 rw [hs] at hF;have hF : [39, 123, 125, 39] = F := hF;clear hs;have HF := Lib.hid hF;have HCL := Lib.hid hcl;unfold tmv;rw [es];clear hT hbw hin hmays IH hb0 ha0 hF hsz hfn hcl hM0 hl;go_enter Tryz.func70, Tryz.ntmps70;go_wp2_with fail;refine (wr_lay3 B b l _ _ _ _ _ (by simp) (HBW.out.past _) (by show _ + (1 + (2 + 1)) <= _; have := HLL.out; omega) (by simp; omega)).mono ?_;rintro e w2 ⟨rfl, hbw2, hbl2, hap2⟩;have hbx := keepx hap2 (by decide) hlt;have hbl2 := (HB0.out _).trans hbl2;have hap2 := apart_new hap2;have hbw2 : BW B b (l ++ F) w2 := by rw [<- HF.out]; exact hbw2
 obtain ⟨d0, d1, d2, d3⟩ := cellx4 hbx;go_wp2_with fail;clear d0 d1 d2 d3;clear hbx;go_loopw [4, 26] (fun av iv wr => ∃ k : Nat, k <= T.args.length /\ iv = .int .i64 k /\ av = .string ⟨#[betw k]⟩ /\ BW B b (l ++ (F ++ preW (T.args.map Tm.wr) k)) wr /\ Below B w wr /\ Apart b w wr) (fun _ iv _ => T.args.length - (intOf iv).toNat)
 case atStart => exact ⟨0, Nat.zero_le _, rfl, rfl, by show BW B b (l ++ (F ++ [])) _; rw [List.append_nil]; exact hbw2, hbl2, hap2⟩
 case round =>
  obtain ⟨k, hk, rfl, rfl, hbwr, hblr, hapr⟩ := hrel;have hplk := hpl.out k;have hclk := HCL.out;have hszk := HSZ.out;have hlk := HLL.out;have hln : (l ++ (F ++ preW (T.args.map Tm.wr) k)).length <= 4000000000 := by rw [List.length_append, List.length_append]; omega
  have hBr : B <= wr.heap.size := Nat.le_trans hB hblr.size;by_cases hlt2 : k < T.args.length
  · obtain ⟨o1, o2, rfl⟩ := HIN.out.args.addr' (by omega);obtain ⟨ad1, cap1, c0, c1, c2, c3, hin1⟩ := (HIN.out.args.onB hblr).get k hlt2;have hmem := Tm.mem_size (List.getElem_mem hlt2);have hst := hps.out k (by rw [List.length_map]; exact hlt2);rw [HG.out k hlt2] at hst;have hmx := HM.out k hlt2;have hss : Tm.sizes (T.args.take k) + (T.args[k]).size <= Tm.sizes T.args := by
     have h1 := Tm.sizes_append (T.args.take k) [T.args[k]];rw [<- List.take_succ_eq_append_getElem hlt2] at h1;have h2 := Tm.sizes_take T.args (k + 1);have h3 : Tm.sizes [T.args[k]] = (T.args[k]).size := by show _ + 0 = _; omega
     omega
    have hpk1 : (preW (T.args.map Tm.wr) k).length <= 1 + 1400 * Tm.sizes (T.args.take k) := by
     have h2 := comma_len (T.args.take k) (fun x hx => wr_fits x (n64s_mem ((Tm.n64_eq T).1 HIN.out.n64).2 x (List.mem_of_mem_take hx)));unfold preW;split
     · exact Nat.zero_le _
     · rw [List.length_cons, <- List.map_take]; omega
    generalize T.args[k] = x at *;have hxm : x.size <= m := by omega
    have hxM : x.size <= 1000000 := by omega
    have hcond : (l ++ (F ++ preW (T.args.map Tm.wr) k) ++ [betw k]).length + 1400 * x.size <= 2000000000 := by
     rw [List.length_append, List.length_append, List.length_append, List.length_singleton]; omega
    have hne : b < wr.heap.size := hbwr.lt;have ho1 := fun o : Obj => (Below.refl B wr).alloc hBr o;have hwi := fun (W : World) (hW : Below B wr W) (hbW : BW B b (l ++ (F ++ preW (T.args.map Tm.wr) k) ++ [betw k]) W) => HI.out x ad1 cap1 W B b (l ++ (F ++ preW (T.args.map Tm.wr) k) ++ [betw k]) 999 hxm hxM hmx (hin1.onB hW) (Nat.le_trans hBr hW.size) (fun V hV => HT.out V ((hblr.trans hW).trans hV)) hbW hcond;unfold tmv at hwi;have HWI := Lib.hid hwi;have HO1 := Lib.hid ho1;have HST := Lib.hid hst;have HBR := Lib.hid hblr;have HAR := Lib.hid hapr;have HBWR := Lib.hid hbwr;clear hwi ho1 hst hblr hapr hbwr hin1 hcond hss hmem hplk hclk hszk hlk hmx hpk1;generalize betw k = bt at *;go_wp2_with fail;refine (wr_lay1 B b _ _ _ _ (by simp) (HBWR.out.past _) (by show _ + 1 <= _; omega) (by simp; omega)).mono ?_;rintro e w3 ⟨rfl, hbw3, hbl3, hap3⟩;have hbx3 := keepx hap3 (by decide) hne;have hbl4 := (HO1.out _).trans hbl3;have hap4 := apart_new hap3;obtain ⟨d0, d1, d2, d3⟩ := cellx4 hbx3;have hbs4 := hbl4.size;clear hbl3 hap3 c0 c1 c2 c3;go_wp2_with fail;refine (HWI.out _ hbl4 hbw3).mono ?_;rintro e w5 ⟨rfl, hbw5, hbl5, hap5⟩;have hbl6 := HBR.out.trans (hbl4.trans hbl5);have hap6 := HAR.out.trans (hap4.trans hap5);have hbw6 : BW B b (l ++ (F ++ preW (T.args.map Tm.wr) (k + 1))) w5 := by
     rw [HST.out];have e1 : l ++ (F ++ (preW (T.args.map Tm.wr) k ++ bt :: x.wr.txt 999)) = (l ++ (F ++ preW (T.args.map Tm.wr) k) ++ [bt]) ++ x.wr.txt 999 := by simp
     rw [e1];exact hbw5
    clear hbl4 hap4 hbl5 hap5 d0 d1 d2 d3 hbx3 hbw3 hbw5;go_wp2_with fail;go_roundw
    case rel => exact ⟨k + 1, by omega, by go_num, rfl, hbw6, hbl6, hap6⟩
    case measure => simp [intOf]; omega
  · have he : k = (T.args.map Tm.wr).length := by rw [List.length_map]; omega
    have hfin : (l ++ (F ++ preW (T.args.map Tm.wr) k)) ++ [41] = l ++ (F ++ 40 :: (commaW (T.args.map Tm.wr) ++ [41])) := by
     rw [<- hpa.out, <- he]; simp
    have HFIN := Lib.hid hfin;have HBR := Lib.hid hblr;have HAR := Lib.hid hapr;have HBWR := Lib.hid hbwr;clear hfin hblr hapr hbwr he hplk hclk hszk hlk;go_wp2_with fail;refine (wr_lay1 B b _ _ _ _ (by simp) HBWR.out (by show _ + 1 <= _; omega) hBr).mono ?_;rintro e w3 ⟨rfl, hbw3, hbl3, hap3⟩;have hbl4 := HBR.out.trans hbl3;have hap4 := HAR.out.trans hap3;have hbw4 : BW B b (l ++ (F ++ 40 :: (commaW (T.args.map Tm.wr) ++ [41]))) w3 := by rw [<- HFIN.out]; exact hbw3
    clear hbl3 hap3 hbw3;go_wp2_with fail;go_end0;exact ⟨rfl, hbw4, hbl4, hap4⟩
set_option maxRecDepth 100000 in
set_option maxHeartbeats 4000000 in
theorem wr_called2 (m : Nat) (IH : WrWithin m) (T : Tm) (ad : Option Addr) (cap : Nat) (w : World) (B b : Nat) (l : List UInt8) (hm : T.size <= m + 1) (hM : T.size <= 1000000) (hmays : Tm.mays T.args = true) (hlen : 1 <= T.args.length) (hin : TmP w (fun k => k < B) T ad cap) (hB : B <= w.heap.size) (hT : ∀ W, Below B w W -> AllT W) (hbw : BW B b l w) (hl : l.length + 1400 * T.size <= 2000000000) (hs : T.name.data.toList ≠ [91, 93]) (hs2 : T.name.data.toList ≠ [123, 125]) :
 Calls Tryz.prog 70 #[.pointer (some ⟨b, 0, none⟩), tmv T ad cap] w (Laid B b w (l ++ callK T.name.data.toList (T.args.map Tm.wr))) := by
 have hsz := T.size_eq;have hcl := comma_len T.args (fun x hx => wr_fits x (n64s_mem ((Tm.n64_eq T).1 hin.n64).2 x hx));have hfn := fn_len T.name.data.toList;have hpa := Lib.hid (preW_all (T.args.map Tm.wr) (by rw [List.length_map]; omega));have hpl := Lib.hid (preW_len (T.args.map Tm.wr));have hps := Lib.hid (preW_step (T.args.map Tm.wr));have hb0 := fun o : Obj => (Below.refl B w).alloc hB o;have ha0 := fun o : Obj => (Lib.OthersKept.refl 5 (some b) w).alloc o;have HBW := Lib.hid hbw;have HT := Lib.hid hT;have HB0 := Lib.hid hb0;have HA0 := Lib.hid ha0;have hlt := hbw.lt;have HM := Lib.hid (mays_get T.args hmays);have HG := Lib.hid (maps_get T.args);have HIN := Lib.hid hin;have HI := Lib.hid IH;have HSZ := Lib.hid hsz;have HLL := Lib.hid hl;have hcw := Lib.hid (fun W h => char_Write T.name W hin.name h);have hcapl := hin.len;have hcapm := hin.cap;have hM0 := HSZ.out;have hall : T.args.length <= 1000000 := by have := Tm.length_le_sizes T.args; omega
 unfold maxLen at hcapm;obtain ⟨F, hF⟩ : ∃ F, fnK T.name.data.toList = F := ⟨_, rfl⟩;have hFL : F.length <= 1277 := by rw [<- hF]; exact hfn
 unfold callK;rw [hF];have e1 : (T.name.toList == [91, 93]) = false := by rw [ByteArray.toList_eq]; exact beq_eq_false_iff_ne.2 hs
 have e2 : (T.name.toList == [123, 125]) = false := by rw [ByteArray.toList_eq]; exact beq_eq_false_iff_ne.2 hs2
 have hF : writeL T.name.data.toList = F := by rw [<- hF]; unfold fnK; rw [if_neg (fun h => h.elim hs hs2)]
 clear hs hs2;have HF := Lib.hid hF;have HCL := Lib.hid hcl;unfold tmv;clear hT hbw hin hmays IH hb0 ha0 hF hsz hfn hcl hM0 hl;go_enter Tryz.func70, Tryz.ntmps70;go_wp2_with fail;refine (hcw.out _ (HT.out _ (HB0.out _)).u).mono ?_;rintro e w1 ⟨rfl, hb1⟩;have hbw1 := (HBW.out.past _).on hb1;have hbl1 := (HB0.out _).trans (hb1.mono (by simp; omega));have hap1 := apart_on (HA0.out _) hb1;have hbx1 := (hb1.block w.heap.size (by simp)).trans (heap_alloc_new w _);clear hb1;go_wp2_with fail;refine (wr_lay1 B b l _ _ w1 (by simp) hbw1 (by have := HLL.out; show _ + (writeL T.name.data.toList).toArray.size <= _; rw [List.size_toArray, HF.out]; omega) (Nat.le_trans hB hbl1.size)).mono ?_;rintro e w2 ⟨rfl, hbw2, hbl2, hap2⟩;have hbx := apart_keep hap2 hbx1 (by decide) (by omega);have hbl2 := hbl1.trans hbl2;have hap2 := hap1.trans hap2;have hbw2 : BW B b (l ++ F) w2 := by rw [<- HF.out]; exact hbw2
 obtain ⟨d0, d1, d2, d3⟩ := cellx4 hbx;clear hbl1 hap1 hbw1 hbx1;go_wp2_with fail;clear d0 d1 d2 d3;clear hbx;go_loopw [4, 26] (fun av iv wr => ∃ k : Nat, k <= T.args.length /\ iv = .int .i64 k /\ av = .string ⟨#[betw k]⟩ /\ BW B b (l ++ (F ++ preW (T.args.map Tm.wr) k)) wr /\ Below B w wr /\ Apart b w wr) (fun _ iv _ => T.args.length - (intOf iv).toNat)
 case atStart => exact ⟨0, Nat.zero_le _, rfl, rfl, by show BW B b (l ++ (F ++ [])) _; rw [List.append_nil]; exact hbw2, hbl2, hap2⟩
 case round =>
  obtain ⟨k, hk, rfl, rfl, hbwr, hblr, hapr⟩ := hrel;have hplk := hpl.out k;have hclk := HCL.out;have hszk := HSZ.out;have hlk := HLL.out;have hln : (l ++ (F ++ preW (T.args.map Tm.wr) k)).length <= 4000000000 := by rw [List.length_append, List.length_append]; omega
  have hBr : B <= wr.heap.size := Nat.le_trans hB hblr.size;by_cases hlt2 : k < T.args.length
  · obtain ⟨o1, o2, rfl⟩ := HIN.out.args.addr' (by omega);obtain ⟨ad1, cap1, c0, c1, c2, c3, hin1⟩ := (HIN.out.args.onB hblr).get k hlt2;have hmem := Tm.mem_size (List.getElem_mem hlt2);have hst := hps.out k (by rw [List.length_map]; exact hlt2);rw [HG.out k hlt2] at hst;have hmx := HM.out k hlt2;have hss : Tm.sizes (T.args.take k) + (T.args[k]).size <= Tm.sizes T.args := by
     have h1 := Tm.sizes_append (T.args.take k) [T.args[k]];rw [<- List.take_succ_eq_append_getElem hlt2] at h1;have h2 := Tm.sizes_take T.args (k + 1);have h3 : Tm.sizes [T.args[k]] = (T.args[k]).size := by show _ + 0 = _; omega
     omega
    have hpk1 : (preW (T.args.map Tm.wr) k).length <= 1 + 1400 * Tm.sizes (T.args.take k) := by
     have h2 := comma_len (T.args.take k) (fun x hx => wr_fits x (n64s_mem ((Tm.n64_eq T).1 HIN.out.n64).2 x (List.mem_of_mem_take hx)));unfold preW;split
     · exact Nat.zero_le _
     · rw [List.length_cons, <- List.map_take]; omega
    generalize T.args[k] = x at *;have hxm : x.size <= m := by omega
    have hxM : x.size <= 1000000 := by omega
    have hcond : (l ++ (F ++ preW (T.args.map Tm.wr) k) ++ [betw k]).length + 1400 * x.size <= 2000000000 := by
     rw [List.length_append, List.length_append, List.length_append, List.length_singleton]; omega
    have hne : b < wr.heap.size := hbwr.lt;have ho1 := fun o : Obj => (Below.refl B wr).alloc hBr o;have hwi := fun (W : World) (hW : Below B wr W) (hbW : BW B b (l ++ (F ++ preW (T.args.map Tm.wr) k) ++ [betw k]) W) => HI.out x ad1 cap1 W B b (l ++ (F ++ preW (T.args.map Tm.wr) k) ++ [betw k]) 999 hxm hxM hmx (hin1.onB hW) (Nat.le_trans hBr hW.size) (fun V hV => HT.out V ((hblr.trans hW).trans hV)) hbW hcond;unfold tmv at hwi;have HWI := Lib.hid hwi;have HO1 := Lib.hid ho1;have HST := Lib.hid hst;have HBR := Lib.hid hblr;have HAR := Lib.hid hapr;have HBWR := Lib.hid hbwr;clear hwi ho1 hst hblr hapr hbwr hin1 hcond hss hmem hplk hclk hszk hlk hmx hpk1;generalize betw k = bt at *;go_wp2_with fail;refine (wr_lay1 B b _ _ _ _ (by simp) (HBWR.out.past _) (by show _ + 1 <= _; omega) (by simp; omega)).mono ?_;rintro e w3 ⟨rfl, hbw3, hbl3, hap3⟩;have hbx3 := keepx hap3 (by decide) hne;have hbl4 := (HO1.out _).trans hbl3;have hap4 := apart_new hap3;obtain ⟨d0, d1, d2, d3⟩ := cellx4 hbx3;have hbs4 := hbl4.size;clear hbl3 hap3 c0 c1 c2 c3;go_wp2_with fail;refine (HWI.out _ hbl4 hbw3).mono ?_;rintro e w5 ⟨rfl, hbw5, hbl5, hap5⟩;have hbl6 := HBR.out.trans (hbl4.trans hbl5);have hap6 := HAR.out.trans (hap4.trans hap5);have hbw6 : BW B b (l ++ (F ++ preW (T.args.map Tm.wr) (k + 1))) w5 := by
     rw [HST.out];have e1 : l ++ (F ++ (preW (T.args.map Tm.wr) k ++ bt :: x.wr.txt 999)) = (l ++ (F ++ preW (T.args.map Tm.wr) k) ++ [bt]) ++ x.wr.txt 999 := by simp
     rw [e1];exact hbw5
    clear hbl4 hap4 hbl5 hap5 d0 d1 d2 d3 hbx3 hbw3 hbw5;go_wp2_with fail;go_roundw
    case rel => exact ⟨k + 1, by omega, by go_num, rfl, hbw6, hbl6, hap6⟩
    case measure => simp [intOf]; omega
  · have he : k = (T.args.map Tm.wr).length := by rw [List.length_map]; omega
    have hfin : (l ++ (F ++ preW (T.args.map Tm.wr) k)) ++ [41] = l ++ (F ++ 40 :: (commaW (T.args.map Tm.wr) ++ [41])) := by
     rw [<- hpa.out, <- he]; simp
    have HFIN := Lib.hid hfin;have HBR := Lib.hid hblr;have HAR := Lib.hid hapr;have HBWR := Lib.hid hbwr;clear hfin hblr hapr hbwr he hplk hclk hszk hlk;go_wp2_with fail;refine (wr_lay1 B b _ _ _ _ (by simp) HBWR.out (by show _ + 1 <= _; omega) hBr).mono ?_;rintro e w3 ⟨rfl, hbw3, hbl3, hap3⟩;have hbl4 := HBR.out.trans hbl3;have hap4 := HAR.out.trans hap3;have hbw4 : BW B b (l ++ (F ++ 40 :: (commaW (T.args.map Tm.wr) ++ [41]))) w3 := by rw [<- HFIN.out]; exact hbw3
    clear hbl3 hap3 hbw3;go_wp2_with fail;go_end0;exact ⟨rfl, hbw4, hbl4, hap4⟩
theorem wr_called (m : Nat) (IH : WrWithin m) (T : Tm) (ad : Option Addr) (cap : Nat) (w : World) (B b : Nat) (l : List UInt8) (hm : T.size <= m + 1) (hM : T.size <= 1000000) (hmays : Tm.mays T.args = true) (hlen : 1 <= T.args.length) (hin : TmP w (fun k => k < B) T ad cap) (hB : B <= w.heap.size) (hT : ∀ W, Below B w W -> AllT W) (hbw : BW B b l w) (hl : l.length + 1400 * T.size <= 2000000000) :
 Calls Tryz.prog 70 #[.pointer (some ⟨b, 0, none⟩), tmv T ad cap] w (Laid B b w (l ++ callK T.name.data.toList (T.args.map Tm.wr))) := by
 by_cases h1 : T.name.data.toList = [91, 93]
 · exact wr_called0 m IH T ad cap w B b l hm hM hmays hlen hin hB hT hbw hl h1
 by_cases h2 : T.name.data.toList = [123, 125]
 · exact wr_called1 m IH T ad cap w B b l hm hM hmays hlen hin hB hT hbw hl h2
 exact wr_called2 m IH T ad cap w B b l hm hM hmays hlen hin hB hT hbw hl h1 h2
end Go.Proofs.YtdjejbgokamjeaaGreatDoor
