import Derived.Test.YtinefdlkajnomaaGreatDoorClauseF
import Derived.Test.YtinefdlkajnomaaGreatDoorTermMk
import Derived.Test.YtinefdlkajnomaaGreatDoorTermVs
import Derived.Test.YtinefdlkajnomaaGreatDoorTermMay
import Derived.Deep.AppendLies
namespace Go.Proofs.YtinefdlkajnomaaGreatDoor
open Go.RowKit
set_option maxHeartbeats 1000000 in
theorem rc_place (l : List Int) (n : Int) (v : Value) (B : Nat) (w : World) (h : OwnNums B w v l) (hlen : l.length <= 1000000000) :
 Calls Tryz.prog 63 #[v, .int .i64 n] w fun e w' => e = .returned (.int .i64 (placeL l n)) /\ w = w' := by
 obtain ⟨ad, cap, rfl, hlc, _, hcell⟩ := h.view;obtain ⟨E, hE⟩ : ∃ E, placeL l n = E := ⟨_, rfl⟩;rw [hE];have HE := Lib.hid hE;have HC := Lib.hid hcell;clear h hE hcell;go_enter Tryz.func63, Tryz.ntmps63;go_wp2_with fail;go_loop [9] (fun iv => ∃ k : Nat, k <= l.length /\ iv = .int .i64 k /\ Hid (∀ j (hj : j < l.length), j < k -> l[j] ≠ n)) (fun iv => l.length - (intOf iv).toNat)
 case atStart => exact ⟨0, Nat.zero_le _, rfl, Lib.hid fun j _ hj => by cases hj⟩
 case round =>
  obtain ⟨k, hk, rfl, HB⟩ := hrel;by_cases hlt : k < l.length
  · obtain ⟨g, rfl, c0⟩ := HC.out k hlt;have HAT := Lib.hid (fun e => placeL_at l n k hlt e fun j hj => HB.out j (by omega) hj);have HNX : Hid (l[k] ≠ n -> ∀ j (hj : j < l.length), j < k + 1 -> l[j] ≠ n) := Lib.hid (fun hf j hj hjk => by
     by_cases e : j < k
     · exact HB.out j hj e
     · obtain rfl : j = k := by omega
       exact hf)
    generalize l[k] = x at *;cases hx : (x == n) with
    | true =>
     have HR : Hid ((k : Int) = E) := Lib.hid ((HAT.out (by simpa using hx)).symm.trans HE.out);go_wp2_with fail;go_ret;exact ⟨ret_i HR.out, rfl⟩
    | false =>
     have HN := Lib.hid (HNX.out (by simpa using hx));go_wp2_with fail;go_round
     case rel => exact ⟨k + 1, by omega, by go_num, HN⟩
     case measure => simp [intOf]; omega
  · have HR : Hid ((0 : Int) = E) := Lib.hid (by
     rw [<- HE.out]; unfold placeL;rw [if_neg fun hm => by
      obtain ⟨j, hj, e⟩ := List.mem_iff_getElem.1 hm;exact HB.out j hj (by omega) e])
    clear HB;go_wp2_with fail;go_ret;exact ⟨ret_i HR.out, rfl⟩
set_option maxRecDepth 100000 in
set_option maxHeartbeats 4000000 in
theorem rc_numbered (L : List Int) (hL : L.length <= 1000000000) (v : Value) (B : Nat) (m : Nat) : ∀ (T : Tm) (ad : Option Addr) (cap : Nat) (w : World), T.size <= m -> T.size <= 1000000 -> T.may = true -> OwnNums B w v L -> TmIn w T ad cap ->
 Calls Tryz.prog 43 #[tmv T ad cap, v] w (MadeTerm w.heap.size w (T.numT L)) := by
 induction m with
 | zero => intro T ad cap w h; have := T.size_pos; omega
 | succ m ih =>
  intro T ad cap w hm hM hmay hon hin;have HON := Lib.hid hon;have HMA := Lib.hid (fun a (ha : a ∈ T.args) => Tm.may_arg hmay ha);have HMY := Lib.hid hmay;clear hmay hon;have IH := Lib.hid ih;clear ih;have HI := Lib.hid hin;have hlen := Tm.length_le_sizes T.args;have hsz := T.size_eq;have hl : T.args.length <= 1000000 := by omega
  have hcapl := hin.len;have hcapm := hin.cap;unfold maxLen at hcapm;have HSZ := Lib.hid hsz;obtain ⟨i0, hi, hz0, hz1, hz2⟩ := info_parts infoTerm;have hkd := hin.kind;have hnm := hin.name;have hn64 := hin.n;clear hsz hlen hin;by_cases hkv : T.kind = 1
  · have hshape : T.name = ⟨#[]⟩ /\ T.args = [] := by
     have h9 := HMY.out;rw [Tm.may_eq] at h9;unfold mayK at h9;rw [if_pos hkv, Bool.and_eq_true, Bool.and_eq_true] at h9;obtain ⟨_, h1, h2⟩ := h9;exact ⟨ByteArray.ext (Array.toList_inj.1 (of_decide_eq_true h1)), List.eq_nil_of_length_eq_zero (of_decide_eq_true h2)⟩
    have hnt : T.numT L = .mk 1 ⟨#[]⟩ (placeL L T.n) [] := by rw [Tm.numT_eq, if_pos hkv, hkv, hshape.1, hshape.2]; rfl
    have HNT := Lib.hid hnt;have HPC := Lib.hid (fun W (hb : Below w.heap.size w W) => rc_place L T.n v B W (HON.out.below hb) hL);have hw0x := fun (o1 o2 : Obj) => (((Below.refl w.heap.size w).alloc (Nat.le_refl _) o1).alloc (by simp) o2);have HQX := Lib.hid (fun o1 o2 : Obj => And.intro ((Below.heap_alloc (w.alloc o1) o2 _ (by simp)).trans (alloc_new w o1)) (alloc_new2 w o1 o2));have hp64 : In64 (placeL L T.n) := by have := placeL_pos L T.n; exact ⟨by omega, by omega⟩
    unfold tmv;rw [hkv];clear hshape hnt hkd hn64 hnm;go_enter Tryz.func43, Tryz.ntmps43;go_wp2_with fail;obtain ⟨_, hq1⟩ := HQX.out (.cells #[.int .i64 1, .string T.name, .int .i64 T.n, .slice ad T.args.length cap] 26) (.cells #[.int .i64 0, .string ⟨#[]⟩, .int .i64 0, .slice none 0 0] 26);refine (HPC.out _ (hw0x _ _)).mono ?_; rintro e w9 ⟨rfl, rfl⟩;go_wp2_with fail;refine (ref_Var1 _ _).mono ?_; rintro e w2 ⟨rfl, hb2⟩;have HB2 := Lib.hid ((hw0x _ _).trans (hb2.mono (by simp; omega)));have HQ2 := Lib.hid (keptR hb2 hq1);obtain ⟨z0, z1, z2, z3, f0, f1, f2, f3⟩ := cellsT HQ2.out;clear hb2 hq1 HQX HPC hw0x;go_wp2_with fail;have hn : w.heap.size <= w.heap.size + 1 := Nat.le_succ _;have g4 := set4_block HQ2.out (.int .i64 1) (.string ⟨#[]⟩) (.int .i64 (placeL L T.n)) (.slice none 0 0);obtain ⟨y0, y1, y2, y3, _⟩ := cellsT g4;refine bodyPost_ret (v := .agg #[.int .i64 1, .string ⟨#[]⟩, .int .i64 (placeL L T.n), .slice none 0 0]) (by simp [results, Tryz.results43, go_sem, y0, y1, y2, y3]) rfl ?_;rw [HNT.out];exact ⟨none, 0, rfl, ⟨in64R (x := 1) (by decide) (by decide), hp64, Nat.zero_le _, Nat.le_refl _, Nat.zero_le _, .nil _⟩, (((HB2.out.setCell (p := ⟨w.heap.size + 1, 0, none⟩) hn _).setCell (p := ⟨w.heap.size + 1, 1, none⟩) hn _).setCell (p := ⟨w.heap.size + 1, 2, none⟩) hn _).setCell (p := ⟨w.heap.size + 1, 3, none⟩) hn _⟩
  have hkf : (T.kind == 1) = false := by simpa using hkv
  have hnt : T.numT L = .mk T.kind T.name T.n (T.args.map (Tm.numT L)) := by rw [Tm.numT_eq, if_neg hkv]
  have HSH := Lib.hid hnt;have HIN64 : Hid (In64 T.kind /\ In64 T.n) := Lib.hid ⟨hkd, hn64⟩;clear hnt hkv hkd hn64;unfold tmv;generalize hkd : T.kind = kd at *;generalize hnn : T.n = n' at *;clear hkd hnn;go_enter Tryz.func43, Tryz.ntmps43;go_wp2_with fail;have hw0x := fun (o1 o2 : Obj) => (((Below.refl w.heap.size w).alloc (Nat.le_refl _) o1).alloc (by simp) o2);generalize hw0 : (w.alloc _).alloc _ = w0;have hw0b : Below w.heap.size w w0 := by rw [<- hw0]; exact hw0x _ _
  have hw0s : w0.heap.size = w.heap.size + 2 := by rw [<- hw0]; simp
  have hq0 : w0.heap[w.heap.size]? = some (.cells #[.int .i64 kd, .string T.name, .int .i64 n', .slice ad T.args.length cap] 26 (0, 0)) := by
   rw [<- hw0, Below.heap_alloc _ _ _ (by simp)]; exact alloc_new _ _
  have hq1 : w0.heap[w.heap.size + 1]? = some (.cells #[.int .i64 0, .string ⟨#[]⟩, .int .i64 0, .slice none 0 0] 26 (0, 0)) := by
   rw [<- hw0]; exact alloc_new2 _ _ _
  clear hw0 hw0x;go_loopw [5, 19] (fun lv iv wr => ∃ k : Nat, k <= T.args.length /\ iv = .int .i64 k /\ Below (w.heap.size + 2) w0 wr /\ OwnTerms (w.heap.size + 2) wr lv ((T.args.take k).map (Tm.numT L))) (fun _ iv _ => T.args.length - (intOf iv).toNat)
  case atStart => exact ⟨0, Nat.zero_le _, rfl, Below.refl _ _, OwnTerms.nil _ _⟩
  case round =>
   obtain ⟨k, hk, rfl, hbw, hown⟩ := hrel;have hwr : Below w.heap.size w wr := hw0b.trans (hbw.mono (by omega));have hwrs := hbw.size;by_cases hlt : k < T.args.length
   · obtain ⟨b, o, rfl⟩ := HI.out.args.addr (by omega);obtain ⟨ad1, cap1, c0, c1, c2, c3, hin1⟩ := (HI.out.args.on hwr).get k hlt;have hmem := Tm.mem_size (List.getElem_mem hlt);have hxa := List.getElem_mem hlt;have hstep := Lib.hid (map_step (Tm.numT L) T.args k hlt);have hrl : ((T.args.take k).map (Tm.numT L)).length = k := by rw [List.length_map, List.length_take]; omega
     generalize T.args[k] = x at *;have hxm : x.size <= m := by have := HSZ.out; omega
     have hxM : x.size <= 1000000 := by have := HSZ.out; omega
     have HC := Lib.hid (IH.out x ad1 cap1 (wr.alloc (.cells #[.int .i64 x.kind, .string x.name, .int .i64 x.n, .slice ad1 x.args.length cap1] 26)) hxm hxM (HMA.out x hxa) (HON.out.below (hwr.trans ((((Below.refl _ wr).alloc (Nat.le_refl _) _)).mono hwr.size))) (hin1.on ((Below.refl _ wr).alloc (Nat.le_refl _) _)));have HOWN := Lib.hid hown;have HRL := Lib.hid hrl;clear hown hrl hin1 hmem;generalize (T.args.take k).map (Tm.numT L) = rs at *;generalize x.numT L = y at *;unfold tmv at HC;go_wp2_with fail;refine HC.out.mono ?_;rintro e w2 ⟨ad2, cap2, rfl, htp, hb2⟩;have hb3 : Below wr.heap.size wr w2 := ((Below.refl _ wr).alloc (Nat.le_refl _) _).trans (hb2.mono (by simp));have hw2s := hb2.size;obtain ⟨xs, hox, hrow⟩ := HOWN.out.below hb3;have hlt2 := HOWN.out.lt;rw [HRL.out] at hox;have HROW := Lib.hid hrow;have HTP := Lib.hid htp;have HLT := Lib.hid hlt2;have hbw2 := hbw.trans (hb3.mono (by omega));clear hrow htp hlt2 hb2 c0 c1 c2 c3 hb3;unfold tmv;rw [World.size_alloc] at hw2s;go_wp2_with (first
      | (at_builtin; refine wpList_append_lies _ rfl _ _ 24 rfl (w.heap.size + 2) 26 i0 (.agg #[.int .i64 0, .string ⟨#[]⟩, .int .i64 0, .slice none 0 0]) 4 56 Tryz.underlying24 hi hz0 hz1 hz2 rfl (by decide) _ _ _ rfl (hox.alloc _) ⟨w2.heap.size, 0, none⟩ 1 1 (tcells y ad2 cap2) rfl rfl ?c1 ?c2 (by decide) ?c3 ?c4 ?c5 _ rfl ?_))
     case c1 =>
      intro j u hj;match j, hj with
      | 0, hj => simp [tcells] at hj; subst hj; simp [Addr.add]
      | 1, hj => simp [tcells] at hj; subst hj; simp [Addr.add]
      | 2, hj => simp [tcells] at hj; subst hj; simp [Addr.add]
      | 3, hj => simp [tcells] at hj; subst hj; simp [Addr.add]
     case c2 => intro u hu; simp [tcells] at hu; rcases hu with rfl | rfl | rfl | rfl <;> rfl
     case c3 => unfold maxLen; omega
     case c4 => omega
     case c5 => simp; omega
     intro g cap3 w3 hown3 hgrow hat hlt3;have hPP : ∀ b, w2.heap.size + 1 > b -> wr.heap.size + 1 <= b -> (w.heap.size + 2 <= b /\ some b ≠ u5.ownBlock) := fun b _ hb => ⟨by omega, fun e => by have := (HLT.out b e.symm).2; omega⟩;have hkeep : ∀ (o : Obj) (b : Nat), b < w2.heap.size -> (w2.alloc o).heap[b]? = w2.heap[b]? := fun o b hb => Below.heap_alloc w2 o b hb;have hown4 : OwnTerms (w.heap.size + 2) w3 (.slice (some ⟨g, 0, none⟩) (k + 1) cap3) (rs ++ [y]) := by
      refine OwnTerms.grown (HROW.out.kept (fun b _ hb => hkeep _ b hb) (fun b hp _ => hp)) (by rw [HRL.out]; exact hown3) hgrow ?_ (HTP.out.kept (fun b _ hb => hkeep _ b hb) (fun b hp hb => hPP b (by omega) (by simpa using hp)));rcases hat with hat | hat
      · exact .inl hat.symm
      · exact .inr ⟨g, rfl, by rw [World.size_alloc]; omega⟩
     have hbw3 : Below (w.heap.size + 2) w0 w3 := (hbw2.alloc (by omega) _).grown hgrow (by simp; omega) (fun i hi => (HLT.out i hi).1);have HO4 := Lib.hid hown4;clear hown3 hgrow hat hPP hkeep hown4 hox;go_wp2;go_roundw
     case rel => exact ⟨k + 1, by omega, by go_num, hbw3, by rw [hstep.out]; exact HO4.out⟩
     case measure => simp [intOf]; omega
   · obtain rfl : k = T.args.length := by omega
     rw [List.take_of_length_le (Nat.le_refl _)] at hown;obtain ⟨ad', cap', rfl, hnc, hcm, hargs⟩ := hown.slice;rw [List.length_map] at hnc;rw [List.length_map];have hq0r := (hbw.block w.heap.size (by omega)).trans hq0;have hq1r := (hbw.block (w.heap.size + 1) (by omega)).trans hq1;obtain ⟨d0, d1, d2, d3, e0, e1, e2, e3⟩ := cellsT hq0r;obtain ⟨g0, g1, g2, g3, k0, k1, k2, k3⟩ := cellsT hq1r;have HARGS := Lib.hid hargs;clear hargs hown hq0r hq1r hq0 hq1;have hWR := Lib.hid hwr;clear hwr;go_wp2_with fail;refine bodyPost_ret (v := .agg #[.int .i64 kd, .string T.name, .int .i64 n', .slice ad' T.args.length cap']) (by simp [results, Tryz.results43, go_sem, g0, g1, g2, g3]) rfl ⟨ad', cap', ?_, ?_, ?_⟩
     · rw [HSH.out]; unfold tmv; rw [show (Tm.mk kd T.name n' (T.args.map (Tm.numT L))).args.length = T.args.length from List.length_map _]; rfl
     · rw [HSH.out];refine ⟨HIN64.out.1, HIN64.out.2, hnm, by show (T.args.map (Tm.numT L)).length <= cap'; rw [List.length_map]; exact hnc, hcm, HARGS.out.kept (fun b hp _ => ?_) (fun b hp _ => by omega)⟩;rw [Below.heap_setCell _ _ _ _ (show b ≠ w.heap.size + 1 by omega), Below.heap_setCell _ _ _ _ (show b ≠ w.heap.size + 1 by omega), Below.heap_setCell _ _ _ _ (show b ≠ w.heap.size + 1 by omega), Below.heap_setCell _ _ _ _ (show b ≠ w.heap.size + 1 by omega), Below.heap_setCell _ _ _ _ (show b ≠ w.heap.size by omega)]
     · exact ((((hWR.out.setCell (Nat.le_refl _) _).setCell (Nat.le_succ _) _).setCell (Nat.le_succ _) _).setCell (Nat.le_succ _) _).setCell (Nat.le_succ _) _
end Go.Proofs.YtinefdlkajnomaaGreatDoor
