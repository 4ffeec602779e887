import Derived.Test.YtdjejbgokamjeaaGreatDoorWp
import Derived.Test.YtdjejbgokamjeaaGreatDoorWg
import Derived.Test.YtdjejbgokamjeaaGreatDoorRdK
import Derived.Test.YtdjejbgokamjeaaGreatDoorTvW
namespace Go.Proofs.YtdjejbgokamjeaaGreatDoor
open Go.RowKit
theorem tin_n64 {w : World} {t : Tm} {ad : Option Addr} {cap : Nat} (h : TmIn w t ad cap) : t.n64 := (Tm.n64_eq t).2 ⟨h.n, h.args.n64⟩
theorem by_size (NS : Nms) {t : Tm} (h : t.may = true) : (t.byNms NS).size = t.size := by
 have := congrArg Tm.size (by_bare NS h);rw [Tm.bare_size, Tm.bare_size] at this;exact this
theorem back_variant {t : Tm} (h : t.may = true) : (t.byNms (t.nmsOf [])).variant t = true := variant_true (by_bare _ h) (by_pairs h)
theorem clause_len (X : List UInt8) : (clauseL X).length <= X.length + 3 := by
 unfold clauseL;split
 · split <;> simp
 · simp
theorem onceGo_len : ∀ (l out : List Int), (onceGo out l).length <= out.length + l.length
 | [], out => Nat.le_refl _
 | n :: l, out => by
  show (if hasL out n then onceGo out l else onceGo (out ++ [n]) l).length <= _
  split
  · have := onceGo_len l out; rw [List.length_cons]; omega
  · have := onceGo_len l (out ++ [n]); rw [List.length_append, List.length_singleton] at this; rw [List.length_cons]; omega
theorem vars_len (t : Tm) : t.vars.length <= t.size := by
 have h1 := onceGo_len t.places [];have h2 := t.places_size;unfold Tm.vars once;rw [List.length_nil] at h1;omega
set_option maxRecDepth 100000 in
set_option maxHeartbeats 4000000 in
theorem walk_WriteBack (T : Tm) (ad : Option Addr) (cap : Nat) (w : World) (hin : TmIn w T ad cap) (hT : AllT w) (hS : TabsT w) :
 Calls Tryz.prog 3 #[tmv T ad cap] w fun e w' => e = .returned (.bool true) /\ Below w.heap.size w w' := by
 have HB0 := Lib.hid (fun o : Obj => (Below.refl _ w).alloc (Nat.le_refl _) o);have HT := Lib.hid hT;have HFW := Lib.hid (fun (W : World) (h : Below w.heap.size w W) => ref_Few T ad cap 3000 W (by decide) (by decide) (hin.on h));have HC1 := Lib.hid (fun (hM : T.size <= 1000000) (W : World) (h : Below w.heap.size w W) => write_Clause T ad cap W hM (hT.on h) (hin.on h));have HV := Lib.hid (fun (hM : T.size <= 1000000) (W : World) (h : Below w.heap.size w W) => ref_Vars T ad cap W hM (hin.on h));have HR := Lib.hid (fun (s : ByteArray) (W : World) (h : Below w.heap.size w W) => rf_Program s W (hS.on h));have HI := Lib.hid (fun (W : World) (h : Below w.heap.size w W) => hin.on h);have hback : T.chk = 0 -> T.vars.length <= 200 -> (⟨T.writeClause.toArray⟩ : ByteArray).size <= 4096 -> ∃ U : Tm, U.size = T.size /\ U.variant T = true /\ progL (⟨T.writeClause.toArray⟩ : ByteArray).data.toList = .ok [U] := fun hc hv hl => by
  have hok := chk_ok3 hc (tin_n64 hin);unfold Tm.writeClause at hl ⊢;rw [if_pos hc] at hl ⊢;exact ⟨_, by_size _ hok.may, back_variant hok.may, back_program hok hv (by have := hl; show _ <= 4096; exact hl)⟩
 have HP := Lib.hid hback;have hcl : (⟨T.writeClause.toArray⟩ : ByteArray).size <= 1400 * T.size + 3 := by
  show T.writeClause.toArray.size <= _
  rw [List.size_toArray];unfold Tm.writeClause;split
  · have h1 := clause_len (T.wr.txt 1200);have h2 := (wr_fits T (tin_n64 hin)).1 1200;omega
  · simp
 have hvl : T.vars.length <= T.size := vars_len T;clear hin hT hS hback;generalize (⟨T.writeClause.toArray⟩ : ByteArray) = tx at *;generalize T.chk = ck at *;have HSZ := Lib.hid hcl;have HVL := Lib.hid hvl;clear hcl hvl;unfold tmv at *;go_enter Tryz.func3, Tryz.ntmps3;go_wp2_with fail;refine (write_live _ (HT.out.on (HB0.out _))).mono ?_;rintro e w1 ⟨rfl, hb1⟩;have hX1 := (hb1.block w.heap.size (by simp)).trans (heap_alloc_new w _);have hB1 := (HB0.out _).trans (hb1.mono (by simp));clear hb1;obtain ⟨d0, d1, d2, d3⟩ := cellx4 hX1;go_wp2_with fail;refine (HFW.out _ hB1).mono ?_;rintro e w2 ⟨rfl, hb2⟩;have hX2 := (hb2.block w.heap.size (Array.getElem?_eq_some_iff.1 hX1).1).trans hX1;have hB2 := hB1.trans (hb2.mono hB1.size);clear hb2 hB1 hX1 d0 d1 d2 d3;obtain ⟨d0, d1, d2, d3⟩ := cellx4 hX2;cases hf : decide ((T.size : Int) <= 3000) with
 | false =>
  clear hf;go_wp2_with fail;go_ret;exact ⟨rfl, hB2⟩
 | true =>
  have hM0 : T.size <= 3000 := by have := of_decide_eq_true hf; omega
  have hM : T.size <= 1000000 := by omega
  clear hf;go_wp2_with fail;refine (HC1.out hM _ hB2).mono ?_;rintro e w3 ⟨rfl, hb3⟩;have hX3 := (hb3.block w.heap.size (Array.getElem?_eq_some_iff.1 hX2).1).trans hX2;have hB3 := hB2.trans (hb3.mono hB2.size);clear hb3 hB2 hX2 d0 d1 d2 d3;obtain ⟨d0, d1, d2, d3⟩ := cellx4 hX3;by_cases hc : ck = 0
  · have ec : (ck != 0) = false := by simpa using hc
    by_cases hlen : tx.size <= 4096
    · have el : decide ((4096 : Int) < (tx.size : Int)) = false := by simp; omega
      by_cases hvv : T.vars.length <= 200
      · obtain ⟨U, hUs, hUv, hU⟩ := HP.out hc hvv hlen;have ev : decide ((200 : Int) < (T.vars.length : Int)) = false := by simp; omega
        have HU := Lib.hid hU;have HUV := Lib.hid hUv;have HUS := Lib.hid hUs;clear hc HP hU hUv hUs hlen hvv;go_wp2_with fail;refine (HV.out hM _ hB3).mono ?_;rintro e w4 ⟨v4, rfl, hown, hb4⟩;obtain ⟨ad4, cap4, rfl, hlc, hcm, hcell⟩ := hown.view;have hX4 := (hb4.block w.heap.size (Array.getElem?_eq_some_iff.1 hX3).1).trans hX3;have hB4 := hB3.trans (hb4.mono hB3.size);clear hb4 hB3 hX3 d0 d1 d2 d3 hown hcell;obtain ⟨d0, d1, d2, d3⟩ := cellx4 hX4;go_wp2_with fail;refine (HR.out tx _ hB4).mono ?_;rintro e w5 hq5;rw [HU.out] at hq5;obtain ⟨ad5, cap5, rfl, hlc5, hcm5, hT5, hb5⟩ := hq5;have hX5 := (hb5.block w.heap.size (Array.getElem?_eq_some_iff.1 hX4).1).trans hX4;have hB5 := hB4.trans (hb5.mono hB4.size);have hAll := hT5.all;clear hb5 hB4 hX4 d0 d1 d2 d3 hT5;obtain ⟨d0, d1, d2, d3⟩ := cellx4 hX5;obtain ⟨b5, o5, rfl⟩ := hAll.addr (by simp);obtain ⟨adu, capu, c0, c1, c2, c3, hinu⟩ := hAll.get 0 (by simp);have HVR := Lib.hid (fun (W : World) (hb : Below w5.heap.size w5 W) => ref_Variant U T adu ad capu cap W (by have := HUS.out; omega) hM (hinu.on hb) ((HI.out _ hB5).on hb));rw [HUV.out] at HVR;clear hinu hAll;rw [Nat.zero_mul, Nat.add_zero] at c0 c1 c2 c3;unfold tmv at *;go_wp2_with fail;go_region_held3 (fun W => W.cell? ⟨w.heap.size, 0, none⟩ = some (.int .i64 T.kind) /\ W.cell? ⟨w.heap.size, 1, none⟩ = some (.string T.name) /\ W.cell? ⟨w.heap.size, 2, none⟩ = some (.int .i64 T.n) /\ W.cell? ⟨w.heap.size, 3, none⟩ = some (.slice ad T.args.length cap) /\
         W.cell? ⟨b5, o5, none⟩ = some (.int .i64 U.kind) /\ W.cell? ⟨b5, o5 + 1, none⟩ = some (.string U.name) /\ W.cell? ⟨b5, o5 + 2, none⟩ = some (.int .i64 U.n) /\ W.cell? ⟨b5, o5 + 3, none⟩ = some (.slice adu U.args.length capu)) (first | go_keep | (have keep : ∀ (b o : Nat) (v : Value), w5.cell? ⟨b, o, none⟩ = some v -> w6.cell? ⟨b, o, none⟩ = some v := fun b o v hc => (((Below.refl _ w5).drew.trans hb6).cell (World.block_lt_of_cell? w5 ⟨b, o, none⟩ hc)).trans hc; exact ⟨keep _ _ _ d0, keep _ _ _ d1, keep _ _ _ d2, keep _ _ _ d3, keep _ _ _ c0, keep _ _ _ c1, keep _ _ _ c2, keep _ _ _ c3⟩))
         ((go_at_call 10; refine (HVR.out _ (Below.refl _ w5).drew).mono ?_; rintro e w6 ⟨rfl, hb6⟩))
        go_wp2_with fail;go_ret;exact ⟨rfl, hB5.trans (((Below.refl _ w5).drew.trans hb6).mono hB5.size)⟩
      · have ev : decide ((200 : Int) < (T.vars.length : Int)) = true := by simp; omega
        clear hc HP hlen hvv;go_wp2_with fail;refine (HV.out hM _ hB3).mono ?_;rintro e w4 ⟨v4, rfl, hown, hb4⟩;obtain ⟨ad4, cap4, rfl, hlc, hcm, hcell⟩ := hown.view;have hB4 := hB3.trans (hb4.mono hB3.size);clear hb4 hB3 hX3 d0 d1 d2 d3 hown hcell;go_wp2_with fail;go_ret;exact ⟨rfl, hB4⟩
    · have el : decide ((4096 : Int) < (tx.size : Int)) = true := by simp; omega
      clear hc HP hlen;go_wp2_with fail;go_ret;exact ⟨rfl, hB3⟩
  · have ec : (ck != 0) = true := by simpa using hc
    clear hc HP;go_wp2_with fail;go_ret;exact ⟨rfl, hB3⟩
set_option maxRecDepth 100000 in
set_option maxHeartbeats 4000000 in
theorem walk_WriteAgain (s : ByteArray) (w : World) (hT : AllT w) (hS : TabsT w) :
 Calls Tryz.prog 4 #[.string s] w fun e w' => e = .returned (.bool true) /\ Below w.heap.size w w' := by
 have HL := Lib.hid (write_live w hT);have HT := Lib.hid hT;have HQ := Lib.hid (fun (s : ByteArray) W (hb : Below w.heap.size w W) => rf_Query s W (hS.on hb));clear hT hS;cases hq : queryL s.data.toList with
 | bad o er =>
  have HQ1 := Lib.hid (HQ.out s);rw [hq] at HQ1;have her := queryL_bad hq;have her2 : (er != 0) = true := by rw [bne, her]; rfl
  clear hq HQ;go_enter Tryz.func4, Tryz.ntmps4;go_wp2_with fail;refine HL.out.mono ?_; rintro e w1 ⟨rfl, hb1⟩;have HB1 := Lib.hid hb1;clear hb1;go_wp2_with fail;refine (HQ1.out _ HB1.out).mono ?_; rintro e w2 ⟨rfl, hb2⟩;have HB2 := Lib.hid (HB1.out.trans (hb2.mono HB1.out.size));clear hb2;unfold zeroT;go_wp2_with fail;go_ret;exact ⟨rfl, HB2.out.alloc HB2.out.size _⟩
 | ok y =>
  obtain ⟨t, ns⟩ := y;have HQ1 := Lib.hid (HQ.out s);rw [hq] at HQ1;obtain ⟨n1, n2, n3, n4⟩ := numbers_of hq;have HBK := Lib.hid (fun (h64 : t.n64) (hl : (t.wr.txt 1200).length <= 4096) => back_query hq n1 (chk_ok3 n2 h64) n4 hl);have HC2 := Lib.hid n2;clear hq n1 n2 n4;go_enter Tryz.func4, Tryz.ntmps4;go_wp2_with fail;refine HL.out.mono ?_; rintro e w1 ⟨rfl, hb1⟩;have HB1 := Lib.hid hb1;clear hb1;go_wp2_with fail;refine (HQ1.out _ HB1.out).mono ?_; rintro e w2 ⟨v, ad, cap, rfl, ho, ht, hb2⟩;have HB2 := Lib.hid (HB1.out.trans (hb2.mono HB1.out.size));have HT2 := Lib.hid ht.toIn;obtain ⟨adv, capv, rfl, _, _, _⟩ := ho.view;rw [nmB_len];clear hb2 ho ht HQ1;unfold tmv;go_upto_region 3 with fail;generalize hw : w2.alloc (.cells #[.int .i64 t.kind, .string t.name, .int .i64 t.n, .slice ad t.args.length cap] 24) = w2a;have HC2a : Hid (w2a.heap[w2.heap.size]? = some (.cells #[.int .i64 t.kind, .string t.name, .int .i64 t.n, .slice ad t.args.length cap] 24 (0, 0))) := Lib.hid (by rw [<- hw]; exact newR w2 _);have hb2a : Below w2.heap.size w2 w2a := by rw [<- hw]; exact (Below.refl _ _).alloc (Nat.le_refl _) _
  have HB2a := Lib.hid (HB2.out.trans (hb2a.mono HB2.out.size));have HT2a : Hid (TmIn w2a t ad cap) := Lib.hid (HT2.out.on hb2a);have HWT := Lib.hid (write_Text t ad cap w2a (by omega) (HT.out.on HB2a.out) HT2a.out);have h64 := tin_n64 HT2a.out;have htx : t.writeText = t.wr.txt 1200 := by unfold Tm.writeText; rw [if_pos HC2.out]
  rw [htx, HC2.out] at HWT;have HBK2 := Lib.hid (HBK.out h64);have hxl := (wr_fits t h64).1 1200;unfold tmv at HWT;obtain ⟨d0, d1, d2, d3, _⟩ := cellsR4 HC2a.out;clear hw hb2a HT2 HB2 h64 htx HBK;obtain ⟨X, hX⟩ : ∃ X, t.wr.txt 1200 = X := ⟨_, rfl⟩;rw [hX] at HWT HBK2 hxl;clear hX;obtain ⟨tx, htx⟩ : ∃ tx : ByteArray, (⟨X.toArray⟩ : ByteArray) = tx := ⟨_, rfl⟩;have hsz : tx.size = X.length := by rw [<- htx]; show X.toArray.size = _; rw [List.size_toArray]
  have hdx : tx.data.toList = X := by rw [<- htx]
  rw [htx] at HWT;have htl : tx.size <= 2000000000 := by omega
  clear htx;go_wp2_with fail;refine HWT.out.mono ?_; rintro e w3 ⟨rfl, hb3⟩;have HB3 := Lib.hid (HB2a.out.trans (hb3.mono HB2a.out.size));have HT3 : Hid (TmIn w3 t ad cap) := Lib.hid (HT2a.out.on hb3);have HC3 := Lib.hid (keptR hb3 HC2a.out);clear hb3 d0 d1 d2 d3 HT2a HC2a;by_cases hlen : tx.size <= 4096
  · have el : decide ((4096 : Int) < (tx.size : Int)) = false := by simp; omega
    obtain ⟨ns2, hq2⟩ := HBK2.out (by omega);have HQ2 := Lib.hid (HQ.out tx);rw [hdx, hq2] at HQ2;clear hq2 hlen hdx hsz hxl HQ;go_wp2_with fail;refine (HQ2.out _ HB3.out).mono ?_; rintro e w4 ⟨v2, ad2, cap2, rfl, ho, ht, hb4⟩;have HB4 := Lib.hid (HB3.out.trans (hb4.mono HB3.out.size));have HT4 := Lib.hid (HT3.out.on hb4);have HU4 := Lib.hid ht.toIn;have HC4 := Lib.hid (keptR hb4 HC3.out);obtain ⟨adv2, capv2, rfl, _, _, _⟩ := ho.view;rw [nmB_len];clear hb4 ho ht HT3 HC3 HQ2;unfold tmv;go_upto_region 11 with fail;have hb5 : Below w4.heap.size w4 (w4.alloc (.cells #[.int .i64 t.kind, .string t.name, .int .i64 t.n, .slice ad2 t.args.length cap2] 24)) := (Below.refl _ _).alloc (Nat.le_refl _) _;have HD5 := Lib.hid (newR w4 (.cells #[.int .i64 t.kind, .string t.name, .int .i64 t.n, .slice ad2 t.args.length cap2] 24));generalize w4.alloc (.cells #[.int .i64 t.kind, .string t.name, .int .i64 t.n, .slice ad2 t.args.length cap2] 24) = w5 at *;have HB5 := Lib.hid (HB4.out.trans (hb5.mono HB4.out.size));have HS5 := Lib.hid (ref_Same 100000 t t ad ad2 cap cap2 w5 (by omega) (by omega) (HT4.out.on hb5) (HU4.out.on hb5));rw [Tm.same_true rfl] at HS5;unfold tmv at HS5;obtain ⟨d0, d1, d2, d3, _⟩ := cellsR4 (keptR hb5 HC4.out);obtain ⟨x0, x1, x2, x3, _⟩ := cellsR4 HD5.out;clear hb5 HT4 HC4 HU4;go_wp2_with fail;refine HS5.out.mono ?_; rintro e w6 ⟨rfl, hb6⟩;have HB6 := Lib.hid (HB5.out.trans (hb6.mono HB5.out.size));clear hb6;go_wp2_with fail;go_ret;exact ⟨rfl, HB6.out⟩
  · have el : decide ((4096 : Int) < (tx.size : Int)) = true := by simp; omega
    clear hlen hdx hsz hxl HQ;go_wp2_with fail;go_ret;exact ⟨rfl, HB3.out⟩
end Go.Proofs.YtdjejbgokamjeaaGreatDoor
