import Derived.Test.YtlbdocdjijhkbaaGreatDoorReadP
import Derived.Deep.DeepCutAuto
namespace Go.Proofs.YtlbdocdjijhkbaaGreatDoor
open Go.RowKit
attribute [-go_sem] sliced
set_option maxRecDepth 100000 in
set_option maxHeartbeats 8000000 in
theorem rd_named_op {m : Nat} {W : Rdr} (hC : WithinC m W) (hM : m <= 10000) (p : Int) (ts : List Tok) (ns : Nms) (w : World) (r : Nat) (v : Value) (hm : ts.length <= m + 1) (hf : Fine ts) (hk : (fstT ts).isAtom = true) (hn : ns.length <= 200) (h : RMem w r v ts ns)  (h7 : (fstT ts.tail).kind ≠ 7) (hneg : ¬((fstT ts).kind = 3 /\ (fstT ts).text = [45] /\ (fstT ts.tail).kind = 5 /\ (fstT ts.tail).pos = (fstT ts).pos + 1)) {o : R} (ho : opR (fstT ts).text 2 = some o) (ha : aloneT (fstT ts.tail) (fstT ts.tail.tail) = false) (hpo : ¬ p < o.p) :
 Calls Tryz.prog 119 #[.pointer (some ⟨r, 0, none⟩), .int .i64 p] w fun e w' => ROut2 r v w ((W (rightOf o.k o.p) ts.tail ns).bind fun t ts' ns' => .ok (compT (fstT ts).text [t], o.p) ts' ns') e w' := by
 have hlt := h.lt;have h2 := hf.two (atom_not9 hk);obtain ⟨hft, hl2⟩ := hf.tail (atom_not9 hk);have hm2 : ts.tail.length <= m := by omega
 have hft1 := hft.pos;have HH := Lib.hid (fun W' (hb : Below w.heap.size w W') => h.below hb);have hnewR := h.new_ne (b := w.heap.size) (Nat.le_refl _);have hnewq := h.new_ne (b := w.heap.size + 1) (Nat.le_succ _);have HNEW := Lib.hid (fun b (hb : w.heap.size <= b) => h.new_ne hb);obtain ⟨g, k, cap, hgr, hr, hlc, hcm, htr⟩ := h.ex;have hgl : g < w.heap.size := by omega
 obtain ⟨r0, _, _, _⟩ := cellsR2 hr;obtain ⟨c0, c1, c2, c3, htr2⟩ := htr.first hf.pos;obtain ⟨c4, c5, c6, c7, _⟩ := htr2.first hft.pos;have HTR := Lib.hid htr2;have hL0 : 0 < ts.length := by omega
 have hL1 : (1 : Int) < (ts.length : Int) := by omega
 have hcap2 : 2 <= cap := by omega
 have hmf : ∀ (fn : Fn) (first cap : Array Value) (w : World), (Instr.makeFunc fn first cap).run Tryz.prog w = .ok (.func fn first cap) w := fun _ _ _ _ => rfl;have HB := Lib.hid (fun o o2 : Obj => ((Below.refl w.heap.size w).alloc (Nat.le_refl _) o).alloc (by simp) o2);have HS1 : Hid (∀ W', Below w.heap.size w W' -> W'.cell? ⟨r, 0, none⟩ = w.cell? ⟨r, 0, none⟩ /\ ∀ i, W'.cell? ⟨g, i, none⟩ = w.cell? ⟨g, i, none⟩) := Lib.hid (fun W' hb => ⟨hb.cell (p := ⟨r, 0, none⟩) hlt, fun i => hb.cell (p := ⟨g, i, none⟩) hgl⟩);have HPS := Lib.hid (fun W' hm' => rd_pass W' r v ts ns hm' h2);have hpos := hf.first.pos;have hsz := hf.first.size;have HOP := Lib.hid (fun W' => by have h := ops_Prefix ⟨(fstT ts).text.toArray⟩ W'; rw [show findR tabR ⟨(fstT ts).text.toArray⟩ 2 = some o from ho, opAns_some] at h; exact h);have HAL : Hid (∀ W', Below w.heap.size w W' -> Calls Tryz.prog 143 #[.slice (some ⟨g, k + 4, none⟩) (ts.length - 1) (cap - 1)] W' fun e w' => e = .returned (.bool false) /\ Below W'.heap.size W' w') := Lib.hid (fun W' hb => by
  have := rd_alone W' g (k + 4) (cap - 1) ts.tail (HTR.out.kept (fun _ => hb.block g hgl)) hft;rw [ha, show ts.tail.length = ts.length - 1 from by omega] at this;exact this)
 have HSL : Hid (sliced (some ⟨g, k, none⟩) 1 ts.length cap 4 = .slice (some ⟨g, k + 4, none⟩) (ts.length - 1) (cap - 1)) := Lib.hid (by have := sliced_tok g k (ts.length - 1) cap hcap2; rwa [Nat.sub_add_cancel (by omega)] at this);have HC := Lib.hid (fun W' hm' => hC (rightOf o.k o.p) ts.tail ns W' r v hm2 hft hn hm');have HRT := Lib.hid (fun W' => ops_Right o.k o.p W');have HCB : Hid (∀ (B : Nat) (w : World) (v : Value) (t : Tm) (ad : Option Addr), TArgsP w (fun b => B <= b /\ some b ≠ v.ownBlock) ad [t] -> TmB B w v (compT (fstT ts).text [t]) ad 1) := Lib.hid (fun B w v t ad h => compB (by omega) (Nat.le_refl _) (by show 1 <= maxLen; unfold maxLen; decide) h);have HTV : Hid (∀ t ad, tmv (compT (fstT ts).text [t]) ad 1 = .agg #[.int .i64 4, .string ⟨(fstT ts).text.toArray⟩, .int .i64 0, .slice ad 1 1]) := Lib.hid (fun t ad => rfl);generalize W (rightOf o.k o.p) ts.tail ns = E at *;clear ha hC hf hft hk;generalize fstT ts.tail = t1 at *;generalize fstT ts = t0 at *;obtain ⟨xk, xl, xn, xp⟩ := t0;obtain ⟨yk, yl, yn, yp⟩ := t1;dsimp only at *;generalize (⟨yl.toArray⟩ : ByteArray) = yt at *;have hb7 : (yk == 7) = false := by simpa using h7
 have HNB : Hid ((xk == 3 && (⟨xl.toArray⟩ : ByteArray).toList == [45] && yk == 5 && (yp : Int) == (xp : Int) + 1) = false) := Lib.hid (by
  rw [text_is];by_cases c1 : xk = 3
  · by_cases c2 : xl = [45]
    · by_cases c3 : yk = 5
      · have c4 : yp ≠ xp + 1 := fun c => hneg ⟨c1, c2, c3, c⟩;have c5 : ¬ ((yp : Int) = (xp : Int) + 1) := by omega
        simp [c5]
      · simp [c3]
    · simp [c2]
  · simp [c1])
 have HSZ : Hid ((⟨xl.toArray⟩ : ByteArray).size <= maxLen) := Lib.hid (show xl.toArray.size <= maxLen by have e : maxLen = 9223372036854775807 := rfl; simp only [List.size_toArray]; omega);clear h7 hneg hsz;have HE : Hid (Ending.returned (.tuple #[.agg #[.int .i64 2, .string ⟨xl.toArray⟩, .int .i64 0, .slice none 0 0], .int .i64 0]) = Ending.returned (.tuple #[tmv (atomT xl) none 0, .int .i64 0])) := Lib.hid rfl;have HSZ2 : Hid (xl.toArray.size <= maxLen) := Lib.hid HSZ.out;generalize (⟨xl.toArray⟩ : ByteArray) = xt at *;generalize hLn : ts.length = L at *;have HLN := Lib.hid hLn;clear hLn h hr htr htr2;have HS0 : Hid (∀ W, Below w.heap.size w W -> W.cell? ⟨r, 0, none⟩ = some (.slice (some ⟨g, k, none⟩) L cap) /\ W.cell? ⟨g, k, none⟩ = some (.int .i64 xk) /\ W.cell? ⟨g, k + 1, none⟩ = some (.string xt) /\ W.cell? ⟨g, k + 2, none⟩ = some (.int .i64 xn) /\ W.cell? ⟨g, k + 3, none⟩ = some (.int .i64 (xp : Nat)) /\ W.cell? ⟨g, k + 4, none⟩ = some (.int .i64 yk) /\ W.cell? ⟨g, k + 4 + 1, none⟩ = some (.string yt) /\ W.cell? ⟨g, k + 4 + 2, none⟩ = some (.int .i64 yn) /\ W.cell? ⟨g, k + 4 + 3, none⟩ = some (.int .i64 (yp : Nat))) := Lib.hid (fun W hb => by obtain ⟨q1, q2⟩ := HS1.out W hb; rw [q1, q2, q2, q2, q2, q2, q2, q2, q2]; exact ⟨r0, c0, c1, c2, c3, c4, c5, c6, c7⟩);clear r0 c0 c1 c2 c3 c4 c5 c6 c7;go_enter Tryz.func119, Tryz.ntmps119;go_wp2_with fail;generalize hw1 : (w.alloc (.cells #[.pointer (some ⟨r, 0, none⟩)] 53)).alloc (.cells #[.int .i64 0, .string ⟨#[]⟩, .int .i64 0, .slice none 0 0] 30) = w1;have hb01 : Below w.heap.size w w1 := by rw [<- hw1]; exact HB.out _ _
 have hs01 : w1.heap.size = w.heap.size + 2 := by rw [<- hw1]; simp
 have hR1 : w1.heap[w.heap.size]? = some (.cells #[.pointer (some ⟨r, 0, none⟩)] 53 (0, 0)) := by rw [<- hw1]; exact pastR (newR w _) _
 have hQ1 : w1.heap[w.heap.size + 1]? = some (.cells #[.int .i64 0, .string ⟨#[]⟩, .int .i64 0, .slice none 0 0] 30 (0, 0)) := by rw [<- hw1]; have := newR (w.alloc (.cells #[.pointer (some ⟨r, 0, none⟩)] 53)) (.cells #[.int .i64 0, .string ⟨#[]⟩, .int .i64 0, .slice none 0 0] 30); rwa [World.size_alloc] at this
 have HS : Hid (∀ W, Below w1.heap.size w1 W -> W.cell? ⟨w.heap.size, 0, none⟩ = some (.pointer (some ⟨r, 0, none⟩)) /\ W.cell? ⟨r, 0, none⟩ = some (.slice (some ⟨g, k, none⟩) L cap) /\ W.cell? ⟨g, k, none⟩ = some (.int .i64 xk) /\ W.cell? ⟨g, k + 1, none⟩ = some (.string xt) /\ W.cell? ⟨g, k + 2, none⟩ = some (.int .i64 xn) /\ W.cell? ⟨g, k + 3, none⟩ = some (.int .i64 (xp : Nat)) /\ W.cell? ⟨g, k + 4, none⟩ = some (.int .i64 yk) /\ W.cell? ⟨g, k + 4 + 1, none⟩ = some (.string yt) /\ W.cell? ⟨g, k + 4 + 2, none⟩ = some (.int .i64 yn) /\ W.cell? ⟨g, k + 4 + 3, none⟩ = some (.int .i64 (yp : Nat))) := Lib.hid (fun W hb => ⟨(cellsR1 (keptR hb hR1)).1, HS0.out W (hb01.trans (hb.mono hb01.size))⟩);have HBA := Lib.hid (fun o : Obj => (Below.refl w1.heap.size w1).drew.alloc (w := w1.drew) (Nat.le_refl _) o);have HBB := Lib.hid (fun o o2 : Obj => (HBA.out o).alloc (by simp) o2);have HBC := Lib.hid (fun o o2 : Obj => (((Below.refl w1.heap.size w1).alloc (Nat.le_refl _) o).alloc (by simp) o2).drew);have HR1 := Lib.hid hR1;have HQ1 := Lib.hid hQ1;have HB01 := Lib.hid hb01;have HS01 := Lib.hid hs01;clear hw1 hb01 hR1 hQ1 hs01;go_cut [6, 7] (fun s6 s7 wx => ∃ X Y, s6 = .pointer (some ⟨X, 0, none⟩) /\ s7 = .pointer (some ⟨Y, 0, none⟩) /\ Hid (Below w1.heap.size w1 wx /\ w1.heap.size <= X /\ w1.heap.size <= Y /\ wx.heap[X]? = some (.cells #[.int .i64 xk, .string xt, .int .i64 xn, .int .i64 (xp : Nat)] 41 (0, 0)) /\ wx.heap[Y]? = some (.cells #[.int .i64 yk, .string yt, .int .i64 yn, .int .i64 (yp : Nat)] 41 (0, 0))))
 case first =>
  refine wp_region_held_drew (S := (fun W => W.cell? ⟨w.heap.size, 0, none⟩ = some (.pointer (some ⟨r, 0, none⟩)) /\ W.cell? ⟨r, 0, none⟩ = some (.slice (some ⟨g, k, none⟩) L cap) /\ W.cell? ⟨g, k, none⟩ = some (.int .i64 xk) /\ W.cell? ⟨g, k + 1, none⟩ = some (.string xt) /\ W.cell? ⟨g, k + 2, none⟩ = some (.int .i64 xn) /\ W.cell? ⟨g, k + 3, none⟩ = some (.int .i64 (xp : Nat)) /\ W.cell? ⟨g, k + 4, none⟩ = some (.int .i64 yk) /\ W.cell? ⟨g, k + 4 + 1, none⟩ = some (.string yt) /\ W.cell? ⟨g, k + 4 + 2, none⟩ = some (.int .i64 yn) /\ W.cell? ⟨g, k + 4 + 3, none⟩ = some (.int .i64 (yp : Nat)))) (by kernel_rfl) (HS.out _ (Below.refl _ w1).drew) (fun hHeld79 => ?_);refine wpAnyH_take (i := 0) (oi := _) (v := ?v80) rfl (by kernel_rfl) (by kernel_rfl) (by kernel_rfl) (fun _ _ _ h => h) (Or.inl ⟨by rfl, ?y80⟩) (by assumption) ?r80
  case y80 => (intro w hSw; (try dsimp only at hSw); go_simp; try with_reducible rfl)
  (try simp only [Act.put]);(try simp only [List.setIfInBounds_toArray]);(try simp only [List.set_cons_zero]);(try simp only [List.set_cons_succ]);(try simp only [List.set_cons_zero])
  refine wpAnyH_take (i := 1) (oi := _) (v := ?v81) rfl (by kernel_rfl) (by kernel_rfl) (by kernel_rfl) (fun _ _ _ h => h) (Or.inl ⟨by rfl, ?y81⟩) (by assumption) ?r81
  case y81 => (intro w hSw; (try dsimp only at hSw); go_simp; try with_reducible rfl)
  (try simp only [Act.put]);(try simp only [List.setIfInBounds_toArray]);(try simp only [List.set_cons_zero]);(try simp only [List.set_cons_succ]);(try simp only [List.set_cons_zero])
  refine wpAnyH_take (i := 2) (oi := _) (v := ?v82) rfl (by kernel_rfl) (by kernel_rfl) (by kernel_rfl) (fun _ _ _ h => h) (Or.inl ⟨by rfl, ?y82⟩) (by assumption) ?r82
  case y82 => (intro w hSw; (try dsimp only at hSw); go_simp; try with_reducible rfl)
  (try simp only [Act.put]);(try simp only [List.setIfInBounds_toArray]);(try simp only [List.set_cons_zero]);(try simp only [List.set_cons_succ]);(try simp only [List.set_cons_zero])
  refine wpAnyH_take (i := 3) (oi := _) (v := ?v83) rfl (by kernel_rfl) (by kernel_rfl) (by kernel_rfl) (fun _ _ _ h => h) (Or.inl ⟨by rfl, ?y83⟩) (by assumption) ?r83
  case y83 => (intro w hSw; (try dsimp only at hSw); go_simp; try with_reducible rfl)
  (try simp only [Act.put]);(try simp only [List.setIfInBounds_toArray]);(try simp only [List.set_cons_zero]);(try simp only [List.set_cons_succ]);(try simp only [List.set_cons_zero])
  refine wpAnyH_take (i := 4) (oi := _) (v := ?v84) rfl (by kernel_rfl) (by kernel_rfl) (by kernel_rfl) (fun _ _ _ h => h) (Or.inl ⟨by rfl, ?y84⟩) (by assumption) ?r84
  case y84 => (intro w hSw; (try dsimp only at hSw); go_simp; try with_reducible rfl)
  (try simp only [Act.put]);(try simp only [List.setIfInBounds_toArray]);(try simp only [List.set_cons_zero]);(try simp only [List.set_cons_succ]);(try simp only [List.set_cons_zero])
  refine wpAnyH_take (i := 5) (oi := _) (v := ?v85) rfl (by kernel_rfl) (by kernel_rfl) (by kernel_rfl) (fun _ _ _ h => h) (Or.inl ⟨by rfl, ?y85⟩) (by assumption) ?r85
  case y85 => (intro w hSw; (try dsimp only at hSw); go_simp; try with_reducible rfl)
  (try simp only [Act.put]);(try simp only [List.setIfInBounds_toArray]);(try simp only [List.set_cons_zero]);(try simp only [List.set_cons_succ]);(try simp only [List.set_cons_zero])
  refine wpAnyH_take (i := 6) (oi := _) (v := ?v86) rfl (by kernel_rfl) (by kernel_rfl) (by kernel_rfl) (fun _ _ _ h => h) (Or.inl ⟨by rfl, ?y86⟩) (by assumption) ?r86
  case y86 => (intro w hSw; (try dsimp only at hSw); go_simp; try with_reducible rfl)
  (try simp only [Act.put]);(try simp only [List.setIfInBounds_toArray]);(try simp only [List.set_cons_zero]);(try simp only [List.set_cons_succ]);(try simp only [List.set_cons_zero])
  refine wpAnyH_take (i := 7) (oi := _) (v := ?v87) rfl (by kernel_rfl) (by kernel_rfl) (by kernel_rfl) (fun _ _ _ h => h) (Or.inl ⟨by rfl, ?y87⟩) (by assumption) ?r87
  case y87 => (intro w hSw; (try dsimp only at hSw); go_simp; try with_reducible rfl)
  (try simp only [Act.put]);(try simp only [List.setIfInBounds_toArray]);(try simp only [List.set_cons_zero]);(try simp only [List.set_cons_succ]);(try simp only [List.set_cons_zero])
  refine wpAnyH_take (i := 8) (oi := _) (v := ?v88) rfl (by kernel_rfl) (by kernel_rfl) (by kernel_rfl) (fun _ _ _ h => h) (Or.inl ⟨by rfl, ?y88⟩) (by assumption) ?r88
  case y88 => (intro w hSw; (try dsimp only at hSw); go_simp; try with_reducible rfl)
  (try simp only [Act.put]);(try simp only [List.setIfInBounds_toArray]);(try simp only [List.set_cons_zero]);(try simp only [List.set_cons_succ]);(try simp only [List.set_cons_zero])
  refine wpAnyH_take (i := 9) (oi := _) (v := ?v89) rfl (by kernel_rfl) (by kernel_rfl) (by kernel_rfl) (fun _ _ _ h => h) (Or.inl ⟨by rfl, ?y89⟩) (by assumption) ?r89
  case y89 => (intro w hSw; (try dsimp only at hSw); go_simp; try with_reducible rfl)
  (try simp only [Act.put]);(try simp only [List.setIfInBounds_toArray]);(try simp only [List.set_cons_zero]);(try simp only [List.set_cons_succ]);(try simp only [List.set_cons_zero])
  refine wpAnyH_take (i := 10) (oi := _) (v := ?v90) rfl (by kernel_rfl) (by kernel_rfl) (by kernel_rfl) (fun _ _ _ h => h) (Or.inl ⟨by rfl, ?y90⟩) (by assumption) ?r90
  case y90 => (intro w hSw; (try dsimp only at hSw); go_simp; try with_reducible rfl)
  (try simp only [Act.put]);(try simp only [List.setIfInBounds_toArray]);(try simp only [List.set_cons_zero]);(try simp only [List.set_cons_succ]);(try simp only [List.set_cons_zero])
  refine wpAnyH_take (i := 11) (oi := _) (v := ?v91) rfl (by kernel_rfl) (by kernel_rfl) (by kernel_rfl) (fun _ _ _ h => h) (Or.inl ⟨by rfl, ?y91⟩) (by assumption) ?r91
  case y91 => (intro w hSw; (try dsimp only at hSw); go_simp; try with_reducible rfl)
  (try simp only [Act.put]);(try simp only [List.setIfInBounds_toArray]);(try simp only [List.set_cons_zero]);(try simp only [List.set_cons_succ]);(try simp only [List.set_cons_zero])
  refine wpAnyH_ready (rs := [12, 13]) (by kernel_rfl) (by simp) ?_;refine AllReadyH.cons (o := _) rfl (fun K hK => ?_) (AllReadyH.cons (o := _) rfl (fun K hK => ?_) AllReadyH.nil)
  · go_simp
    refine hK.out _ _ (HS.out _ (HBA.out _)) (fun hHeldA => ?_);clear hK K;(try simp only [Act.put]);(try simp only [List.setIfInBounds_toArray]);(try simp only [List.set_cons_zero]);(try simp only [List.set_cons_succ]);(try simp only [List.set_cons_zero])
    refine wpAnyH_ready (rs := [13]) (by kernel_rfl) (by simp) ?_;refine AllReadyH.cons (o := _) rfl (fun K hK => ?_) AllReadyH.nil;go_simp
    refine hK.out _ _ (HS.out _ (HBB.out _ _)) (fun hHeldB => ?_);clear hK K hHeldA;(try simp only [Act.put]);(try simp only [List.setIfInBounds_toArray]);(try simp only [List.set_cons_zero]);(try simp only [List.set_cons_succ]);(try simp only [List.set_cons_zero])
    refine wpAnyH_ready (rs := [14]) (by kernel_rfl) (by simp) ?_;refine AllReadyH.cons (o := _) rfl (fun K hK => ?_) AllReadyH.nil;go_simp
    refine hK.out _ _ (HS.out _ (HBC.out _ _)) (fun hHeld14 => ?_);clear hK K hHeldB;(try simp only [Act.put]);(try simp only [List.setIfInBounds_toArray]);(try simp only [List.set_cons_zero]);(try simp only [List.set_cons_succ]);(try simp only [List.set_cons_zero])
    refine wpAnyH_ready (rs := [15]) (by kernel_rfl) (by simp) ?_;refine AllReadyH.cons (o := _) rfl (fun K hK => ?_) AllReadyH.nil;go_simp
    refine hK.out _ _ (HS.out _ (HBC.out _ _)) (fun hHeld15 => ?_);clear hK K hHeld14;(try simp only [Act.put]);(try simp only [List.setIfInBounds_toArray]);(try simp only [List.set_cons_zero]);(try simp only [List.set_cons_succ]);(try simp only [List.set_cons_zero])
    refine wpAnyH_done (by kernel_rfl) ?_ _;go_wp2_with fail;go_meet;exact ⟨w1.heap.size, w1.heap.size + 1, rfl, rfl, Lib.hid ⟨HBC.out _ _, Nat.le_refl _, Nat.le_succ _, (pastR (newR w1 (.cells #[.int .i64 xk, .string xt, .int .i64 xn, .int .i64 (xp : Nat)] 41)) (.cells #[.int .i64 yk, .string yt, .int .i64 yn, .int .i64 (yp : Nat)] 41) : ((w1.alloc (.cells #[.int .i64 xk, .string xt, .int .i64 xn, .int .i64 (xp : Nat)] 41)).alloc (.cells #[.int .i64 yk, .string yt, .int .i64 yn, .int .i64 (yp : Nat)] 41)).heap[w1.heap.size]? = _), (by have := newR (w1.alloc (.cells #[.int .i64 xk, .string xt, .int .i64 xn, .int .i64 (xp : Nat)] 41)) (.cells #[.int .i64 yk, .string yt, .int .i64 yn, .int .i64 (yp : Nat)] 41); rwa [World.size_alloc] at this : ((w1.alloc (.cells #[.int .i64 xk, .string xt, .int .i64 xn, .int .i64 (xp : Nat)] 41)).alloc (.cells #[.int .i64 yk, .string yt, .int .i64 yn, .int .i64 (yp : Nat)] 41)).heap[w1.heap.size + 1]? = some (.cells #[.int .i64 yk, .string yt, .int .i64 yn, .int .i64 (yp : Nat)] 41 (0, 0)))⟩⟩
  · go_simp
    refine hK.out _ _ (HS.out _ (HBA.out _)) (fun hHeldA => ?_);clear hK K;(try simp only [Act.put]);(try simp only [List.setIfInBounds_toArray]);(try simp only [List.set_cons_zero]);(try simp only [List.set_cons_succ]);(try simp only [List.set_cons_zero])
    refine wpAnyH_ready (rs := [12]) (by kernel_rfl) (by simp) ?_;refine AllReadyH.cons (o := _) rfl (fun K hK => ?_) AllReadyH.nil;go_simp
    refine hK.out _ _ (HS.out _ (HBB.out _ _)) (fun hHeldB => ?_);clear hK K hHeldA;(try simp only [Act.put]);(try simp only [List.setIfInBounds_toArray]);(try simp only [List.set_cons_zero]);(try simp only [List.set_cons_succ]);(try simp only [List.set_cons_zero])
    refine wpAnyH_ready (rs := [14]) (by kernel_rfl) (by simp) ?_;refine AllReadyH.cons (o := _) rfl (fun K hK => ?_) AllReadyH.nil;go_simp
    refine hK.out _ _ (HS.out _ (HBC.out _ _)) (fun hHeld14 => ?_);clear hK K hHeldB;(try simp only [Act.put]);(try simp only [List.setIfInBounds_toArray]);(try simp only [List.set_cons_zero]);(try simp only [List.set_cons_succ]);(try simp only [List.set_cons_zero])
    refine wpAnyH_ready (rs := [15]) (by kernel_rfl) (by simp) ?_;refine AllReadyH.cons (o := _) rfl (fun K hK => ?_) AllReadyH.nil;go_simp
    refine hK.out _ _ (HS.out _ (HBC.out _ _)) (fun hHeld15 => ?_);clear hK K hHeld14;(try simp only [Act.put]);(try simp only [List.setIfInBounds_toArray]);(try simp only [List.set_cons_zero]);(try simp only [List.set_cons_succ]);(try simp only [List.set_cons_zero])
    refine wpAnyH_done (by kernel_rfl) ?_ _;go_wp2_with fail;go_meet;exact ⟨w1.heap.size + 1, w1.heap.size, rfl, rfl, Lib.hid ⟨HBC.out _ _, Nat.le_succ _, Nat.le_refl _, (by have := newR (w1.alloc (.cells #[.int .i64 yk, .string yt, .int .i64 yn, .int .i64 (yp : Nat)] 41)) (.cells #[.int .i64 xk, .string xt, .int .i64 xn, .int .i64 (xp : Nat)] 41); rwa [World.size_alloc] at this : ((w1.alloc (.cells #[.int .i64 yk, .string yt, .int .i64 yn, .int .i64 (yp : Nat)] 41)).alloc (.cells #[.int .i64 xk, .string xt, .int .i64 xn, .int .i64 (xp : Nat)] 41)).heap[w1.heap.size + 1]? = some (.cells #[.int .i64 xk, .string xt, .int .i64 xn, .int .i64 (xp : Nat)] 41 (0, 0))), (pastR (newR w1 (.cells #[.int .i64 yk, .string yt, .int .i64 yn, .int .i64 (yp : Nat)] 41)) (.cells #[.int .i64 xk, .string xt, .int .i64 xn, .int .i64 (xp : Nat)] 41) : ((w1.alloc (.cells #[.int .i64 yk, .string yt, .int .i64 yn, .int .i64 (yp : Nat)] 41)).alloc (.cells #[.int .i64 xk, .string xt, .int .i64 xn, .int .i64 (xp : Nat)] 41)).heap[w1.heap.size]? = _)⟩⟩
 case rest =>
  obtain ⟨X, Y, rfl, rfl, HXY⟩ := hcut;obtain ⟨hbc, hX0, hY0, hX, hY⟩ := HXY.out;have hs01 := HS01.out;have HBW : Hid (Below w.heap.size w wc) := Lib.hid (HB01.out.trans (hbc.mono HB01.out.size));have HX := Lib.hid hX;have HY := Lib.hid hY;have HRB := Lib.hid (keptR hbc HR1.out);have HQB := Lib.hid (keptR hbc HQ1.out);obtain ⟨a0, a1, a2, a3, _⟩ := cellsR4 hX;obtain ⟨b0, b1, b2, b3, _⟩ := cellsR4 hY;obtain ⟨rr0, _⟩ := cellsR1 HRB.out;have hX1 : w.heap.size + 2 <= X := by omega
  have hY1 : w.heap.size + 2 <= Y := by omega
  clear hbc hX hY HXY hs01 HBA HBB HBC HS hX0 hY0 HS01;go_upto_region 5 with fail;go_cut [50] (fun s50 wx => s50 = .bool false /\ wx = wc)
  case first =>
   have hnb := HNB.out;cases hb3 : (xk == 3) with
   | false => (clear hnb; go_wp2_with (omega); go_meet; exact ⟨rfl, rfl⟩)
   | true =>
    cases hb4 : (xt.toList == [45]) with
    | false => (clear hnb; go_wp2_with (omega); go_meet; exact ⟨rfl, rfl⟩)
    | true =>
     cases hb5 : (yk == 5) with
     | false => (clear hnb; go_wp2_with (omega); go_meet; exact ⟨rfl, rfl⟩)
     | true =>
      have hbp : ((yp : Int) == (xp : Int) + 1) = false := by rw [hb3, hb4, hb5] at hnb; simpa using hnb
      clear hnb;go_wp2_with (omega);go_meet;exact ⟨rfl, rfl⟩
  case rest =>
   obtain ⟨rfl, hwc⟩ := hcut;subst hwc;go_wp2_with fail;refine (HOP.out _).mono ?_; rintro e w2 ⟨rfl, hb2⟩;have HB2 := Lib.hid (HBW.out.trans (hb2.mono HBW.out.size));have HBO := Lib.hid (fun o : Obj => HB2.out.alloc HB2.out.size o);go_upto_region 10 with fail;generalize hw3 : w2.alloc (.cells #[.int .i64 o.p, .string o.k] 102) = w3;have hb3 : Below wc.heap.size wc w3 := by rw [<- hw3]; exact hb2.alloc hb2.size _
   have HB3 : Hid (Below w.heap.size w w3) := Lib.hid (by rw [<- hw3]; exact HBO.out _);have HO3 : Hid (w3.heap[w2.heap.size]? = some (.cells #[.int .i64 o.p, .string o.k] 102 (0, 0))) := Lib.hid (by rw [<- hw3]; exact newR w2 _);have hs3 : w3.heap.size = w2.heap.size + 1 := by rw [<- hw3]; simp
   have HX3 := Lib.hid (keptR hb3 HX.out);have HR3 := Lib.hid (keptR hb3 HRB.out);have HQ3 := Lib.hid (keptR hb3 HQB.out);have hs2 := hb2.size;have hXl := (Array.getElem?_eq_some_iff.1 HX.out).1;obtain ⟨rr3, _⟩ := cellsR1 HR3.out;clear hw3 hb2 HBO a0 a1 a2 a3 b0 b1 b2 b3 rr0 hb3;obtain ⟨q0, _⟩ := HS0.out _ HB3.out;have hsl := HSL.out;have hl1 : (1 : Int) <= (L : Int) := by omega
   have hl2 : (L : Int) <= (cap : Int) := by omega
   go_wp2_with fail;refine (HAL.out _ HB3.out).mono ?_; rintro e w4 ⟨rfl, hb4⟩;have hs4 := hb4.size;have HB3 := Lib.hid (HB3.out.trans (hb4.mono HB3.out.size));have HX3 := Lib.hid (keptR hb4 HX3.out);have HR3 := Lib.hid (keptR hb4 HR3.out);have HQ3 := Lib.hid (keptR hb4 HQ3.out);have HO3 := Lib.hid (keptR hb4 HO3.out);obtain ⟨rr3, _⟩ := cellsR1 HR3.out;obtain ⟨oo0, oo1, _⟩ := cellsR2 HO3.out;clear hb4 q0 hsl HSL HAL;go_wp2_with fail;refine (HPS.out _ (HH.out _ HB3.out)).mono ?_; rintro e w5 ⟨rfl, hm5, hg5⟩;have HG5 := Lib.hid ((RGo.of_below (r := r) (v := v) HB3.out (Nat.le_of_lt hlt)).trans hg5);have hX2 := HNEW.out X (by omega);have hO2 := HNEW.out w2.heap.size HB2.out.size;have HQ5 := Lib.hid (hg5.at HQ3.out hnewq.1 hnewq.2);have HX5 := Lib.hid (hg5.at HX3.out hX2.1 hX2.2);have HR5 := Lib.hid (hg5.at HR3.out hnewR.1 hnewR.2);have HO5 := Lib.hid (hg5.at HO3.out hO2.1 hO2.2);have HM5 := Lib.hid hm5;have HM5d := Lib.hid (hm5.below (Below.refl _ w5).drew);have hs5 := hg5.below.size;clear hm5 hg5 rr3 oo0 oo1 HB3 HX3 HR3 HQ3 HO3 HNB HOP HPS HH;go_wp2_with fail;refine wp_region_held_drew (S := (fun W => W.cell? ⟨X, 1, none⟩ = some (.string xt) /\ W.cell? ⟨w.heap.size, 0, none⟩ = some (.pointer (some ⟨r, 0, none⟩)) /\ W.cell? ⟨w2.heap.size, 0, none⟩ = some (.int .i64 o.p) /\ W.cell? ⟨w2.heap.size, 1, none⟩ = some (.string o.k))) (by kernel_rfl) ⟨(cellsR4 HX5.out).2.1, (cellsR1 HR5.out).1, (cellsR2 HO5.out).1, (cellsR2 HO5.out).2.1⟩ (fun hHeld66 => ?_);refine wpAnyH_take (i := 0) (oi := _) (v := ?v67) rfl (by kernel_rfl) (by kernel_rfl) (by kernel_rfl) (fun _ _ _ h => h) (Or.inl ⟨by rfl, ?y67⟩) (by assumption) ?r67
   case y67 => (intro w hSw; (try dsimp only at hSw); go_simp; try with_reducible rfl)
   (try simp only [Act.put]);(try simp only [List.setIfInBounds_toArray]);(try simp only [List.set_cons_zero]);(try simp only [List.set_cons_succ]);(try simp only [List.set_cons_zero])
   refine wpAnyH_take (i := 1) (oi := _) (v := ?v68) rfl (by kernel_rfl) (by kernel_rfl) (by kernel_rfl) (fun _ _ _ h => h) (Or.inl ⟨by rfl, ?y68⟩) (by assumption) ?r68
   case y68 => (intro w hSw; (try dsimp only at hSw); go_simp; try with_reducible rfl)
   (try simp only [Act.put]);(try simp only [List.setIfInBounds_toArray]);(try simp only [List.set_cons_zero]);(try simp only [List.set_cons_succ]);(try simp only [List.set_cons_zero])
   refine wpAnyH_take (i := 2) (oi := _) (v := ?v69) rfl (by kernel_rfl) (by kernel_rfl) (by kernel_rfl) (fun _ _ _ h => h) (Or.inl ⟨by rfl, ?y69⟩) (by assumption) ?r69
   case y69 => (intro w hSw; (try dsimp only at hSw); go_simp; try with_reducible rfl)
   (try simp only [Act.put]);(try simp only [List.setIfInBounds_toArray]);(try simp only [List.set_cons_zero]);(try simp only [List.set_cons_succ]);(try simp only [List.set_cons_zero])
   refine wpAnyH_take (i := 3) (oi := _) (v := ?v70) rfl (by kernel_rfl) (by kernel_rfl) (by kernel_rfl) (fun _ _ _ h => h) (Or.inl ⟨by rfl, ?y70⟩) (by assumption) ?r70
   case y70 => (intro w hSw; (try dsimp only at hSw); go_simp; try with_reducible rfl)
   (try simp only [Act.put]);(try simp only [List.setIfInBounds_toArray]);(try simp only [List.set_cons_zero]);(try simp only [List.set_cons_succ]);(try simp only [List.set_cons_zero])
   refine wpAnyH_take (i := 8) (oi := _) (v := ?v71) rfl (by kernel_rfl) (by kernel_rfl) (by kernel_rfl) (fun _ _ _ h => h) (Or.inl ⟨by rfl, ?y71⟩) (by assumption) ?r71
   case y71 => (intro w hSw; (try dsimp only at hSw); go_simp; try with_reducible rfl)
   (try simp only [Act.put]);(try simp only [List.setIfInBounds_toArray]);(try simp only [List.set_cons_zero]);(try simp only [List.set_cons_succ]);(try simp only [List.set_cons_zero])
   refine wpAnyH_take (i := 9) (oi := _) (v := ?v72) rfl (by kernel_rfl) (by kernel_rfl) (by kernel_rfl) (fun _ _ _ h => h) (Or.inl ⟨by rfl, ?y72⟩) (by assumption) ?r72
   case y72 => (intro w hSw; (try dsimp only at hSw); go_simp; try with_reducible rfl)
   (try simp only [Act.put]);(try simp only [List.setIfInBounds_toArray]);(try simp only [List.set_cons_zero]);(try simp only [List.set_cons_succ]);(try simp only [List.set_cons_zero])
   refine wpAnyH_ready (rs := [4]) (by kernel_rfl) (by simp) ?_;refine AllReadyH.cons (o := _) rfl (fun K hK => ?_) AllReadyH.nil;go_simp
   (with_reducible refine (HRT.out _).mono ?_); rintro e w6 ⟨rfl, hb6⟩
   have HD6 := Lib.hid ((Below.refl w5.heap.size w5).drew.trans hb6);have HX6 := Lib.hid (keptR HD6.out HX5.out);have HR6 := Lib.hid (keptR HD6.out HR5.out);have HO6 := Lib.hid (keptR HD6.out HO5.out);have HQ6 := Lib.hid (keptR HD6.out HQ5.out);have hs56 := HD6.out.size;have HM6 := Lib.hid (HM5.out.below HD6.out);have HG6 := Lib.hid (HG5.out.trans (RGo.of_below (r := r) (v := v) HD6.out (Nat.le_of_lt HM5.out.lt)));clear hb6;try go_wp2_with fail
   refine hK.out _ _ ⟨(cellsR4 HX6.out).2.1, (cellsR1 HR6.out).1, (cellsR2 HO6.out).1, (cellsR2 HO6.out).2.1⟩ (fun hHeld73 => ?_);clear hK K hHeld66;(try simp only [Act.put]);(try simp only [List.setIfInBounds_toArray]);(try simp only [List.set_cons_zero]);(try simp only [List.set_cons_succ]);(try simp only [List.set_cons_zero])
   cases E with
   | bad o1 =>
    refine wpAnyH_ready (rs := [5]) (by kernel_rfl) (by simp) ?_;refine AllReadyH.cons (o := _) rfl (fun K hK => ?_) AllReadyH.nil;go_simp
    (with_reducible refine (HC.out _ HM6.out).mono ?_); rintro e w7 ⟨rfl, hc7⟩
    exact ⟨rfl, rfl, HG6.out.below.trans hc7⟩
   | ok t ts1 ns1 =>
    refine wpAnyH_ready (rs := [5]) (by kernel_rfl) (by simp) ?_;refine AllReadyH.cons (o := _) rfl (fun K hK => ?_) AllReadyH.nil;go_simp
    (with_reducible refine (HC.out _ HM6.out).mono ?_); rintro e w7 ⟨v7, ad, cap7, rfl, hm7, hg7, ht7⟩
    have hs6 := HG6.out.below.size;have HX7 := Lib.hid (hg7.at HX6.out hX2.1 hX2.2);have HR7 := Lib.hid (hg7.at HR6.out hnewR.1 hnewR.2);have HO7 := Lib.hid (hg7.at HO6.out hO2.1 hO2.2);have HQ7 := Lib.hid (hg7.at HQ6.out hnewq.1 hnewq.2);have hv7 := hg7.ne (b := w.heap.size + 1) (Array.getElem?_eq_some_iff.1 HQ6.out).1 hnewq.2;have HM7 := Lib.hid hm7;have HG7 := Lib.hid (HG6.out.trans hg7);have HA7 := Lib.hid (args1 hg7.below.size hm7.ltv ht7);clear hm7 hg7 ht7;unfold tmv;try go_wp2_with fail
    refine hK.out _ _ ⟨(cellsR4 HX7.out).2.1, (cellsR1 HR7.out).1, (cellsR2 HO7.out).1, (cellsR2 HO7.out).2.1⟩ (fun hHeld74 => ?_);clear hK K hHeld73;(try simp only [Act.put]);(try simp only [List.setIfInBounds_toArray]);(try simp only [List.set_cons_zero]);(try simp only [List.set_cons_succ]);(try simp only [List.set_cons_zero])
    refine wpAnyH_ready (rs := [6]) (by kernel_rfl) (by simp) ?_;refine AllReadyH.cons (o := _) rfl (fun K hK => ?_) AllReadyH.nil;go_simp
    try go_wp2_with fail
    refine hK.out _ _ ⟨(cellsR4 (pastR HX7.out _)).2.1, (cellsR1 (pastR HR7.out _)).1, (cellsR2 (pastR HO7.out _)).1, (cellsR2 (pastR HO7.out _)).2.1⟩ (fun hHeld75 => ?_);clear hK K hHeld74;(try simp only [Act.put]);(try simp only [List.setIfInBounds_toArray]);(try simp only [List.set_cons_zero]);(try simp only [List.set_cons_succ]);(try simp only [List.set_cons_zero])
    have hq8 := pastR HQ7.out (.cells #[.int .i64 t.kind, .string t.name, .int .i64 t.n, .slice ad t.args.length cap7] 30);have HM8 := Lib.hid (HM7.out.below ((Below.refl _ w7).alloc (Nat.le_refl _) (.cells #[.int .i64 t.kind, .string t.name, .int .i64 t.n, .slice ad t.args.length cap7] 30)));have HG8 := Lib.hid (HG7.out.alloc hlt (.cells #[.int .i64 t.kind, .string t.name, .int .i64 t.n, .slice ad t.args.length cap7] 30));have HQ8 := Lib.hid hq8;clear hq8;refine wpAnyH_ready (rs := [7]) (by kernel_rfl) (by simp) ?_;refine AllReadyH.cons (o := _) rfl (fun K hK => ?_) AllReadyH.nil;go_simp
    (with_reducible refine (rd_comp _ _ _ _ _).mono ?_); rintro e w9 ⟨rfl, hb9⟩
    have HX9 := Lib.hid (keptR hb9 (pastR HX7.out _));have HR9 := Lib.hid (keptR hb9 (pastR HR7.out _));have HO9 := Lib.hid (keptR hb9 (pastR HO7.out _));have HQ9 := Lib.hid (keptR hb9 HQ8.out);have HM9 := Lib.hid (HM8.out.below hb9);have HG9 := Lib.hid (HG8.out.trans (RGo.of_below hb9 (by have := HM8.out.lt; omega)));have HA9 := Lib.hid (TArgsP.kept HA7.out (fun b _ hb => hb9.block b hb) (fun _ hp _ => hp));obtain ⟨d0, d1, d2, d3, e0, e1, e2, e3⟩ := cellsR4 HQ9.out;clear hb9;try go_wp2_with fail
    refine hK.out _ _ ⟨(cellsR4 HX9.out).2.1, (cellsR1 HR9.out).1, (cellsR2 HO9.out).1, (cellsR2 HO9.out).2.1⟩ (fun hHeld76 => ?_);clear hK K hHeld75;(try simp only [Act.put]);(try simp only [List.setIfInBounds_toArray]);(try simp only [List.set_cons_zero]);(try simp only [List.set_cons_succ]);(try simp only [List.set_cons_zero])
    have hql := (Array.getElem?_eq_some_iff.1 HQB.out).1;have hq1 : X ≠ w.heap.size + 1 := by omega
    have hq2 : w.heap.size ≠ w.heap.size + 1 := by omega
    have hq3 : w2.heap.size ≠ w.heap.size + 1 := by omega
    refine wpAnyH_ready (rs := [10]) (by kernel_rfl) (by simp) ?_;refine AllReadyH.cons (o := _) rfl (fun K hK => ?_) AllReadyH.nil;go_simp
    try go_wp2_with fail
    refine hK.out _ _ ⟨(cell_set4 hq1 _ _ _ _).trans (cellsR4 HX9.out).2.1, (cell_set4 hq2 _ _ _ _).trans (cellsR1 HR9.out).1, (cell_set4 hq3 _ _ _ _).trans (cellsR2 HO9.out).1, (cell_set4 hq3 _ _ _ _).trans (cellsR2 HO9.out).2.1⟩ (fun hHeld77 => ?_);clear hK K hHeld76;(try simp only [Act.put]);(try simp only [List.setIfInBounds_toArray]);(try simp only [List.set_cons_zero]);(try simp only [List.set_cons_succ]);(try simp only [List.set_cons_zero])
    refine wpAnyH_ready (rs := [11]) (by kernel_rfl) (by simp) ?_;refine AllReadyH.cons (o := _) rfl (fun K hK => ?_) AllReadyH.nil;go_simp
    try go_wp2_with fail
    refine hK.out _ _ (by assumption) (fun hHeld78 => ?_);clear hK K hHeld77;(try simp only [Act.put]);(try simp only [List.setIfInBounds_toArray]);(try simp only [List.set_cons_zero]);(try simp only [List.set_cons_succ]);(try simp only [List.set_cons_zero])
    refine wpAnyH_done (by kernel_rfl) ?_ _;try go_wp2_with fail
    refine bodyPost_ret (v := .tuple #[.agg #[.int .i64 4, .string xt, .int .i64 0, .slice (some ⟨w7.heap.size, 0, none⟩) 1 1], .int .i64 o.p]) (by simp [results, Tryz.results119, go_sem, d0, d1, d2, d3]) rfl ⟨v7, some ⟨w7.heap.size, 0, none⟩, 1, by rw [<- HTV.out t], ?_⟩;exact ROk.fin (B := w.heap.size + 2) HM9.out HG9.out (TmB.mono (HCB.out _ _ _ _ _ HA9.out) (by omega)) hlt (Nat.le_succ _) (by omega) hv7 _ _ _ _
theorem rd_named {m : Nat} {W : Rdr} (hW : GoodW W m) (hC : WithinC m W) (hM : m <= 10000) (p : Int) (ts : List Tok) (ns : Nms) (w : World) (r : Nat) (v : Value) (hm : ts.length <= m + 1) (hf : Fine ts) (hk : (fstT ts).isAtom = true) (hn : ns.length <= 200) (h : RMem w r v ts ns) :
 Calls Tryz.prog 119 #[.pointer (some ⟨r, 0, none⟩), .int .i64 p] w fun e w' => ROut2 r v w (namedR W p ts ns) e w' := by
 unfold namedR;by_cases h7 : (fstT ts.tail).kind = 7
 · rw [if_pos h7]; exact rd_named_args hW hC hM p ts ns w r v hm hf hk hn h h7
 rw [if_neg h7];by_cases hneg : (fstT ts).kind = 3 /\ (fstT ts).text = [45] /\ (fstT ts.tail).kind = 5 /\ (fstT ts.tail).pos = (fstT ts).pos + 1
 · rw [if_pos hneg]; exact rd_named_neg hM p ts ns w r v hm hf hk h hneg.1 hneg.2.1 hneg.2.2.1 hneg.2.2.2
 rw [if_neg hneg];cases ho : opR (fstT ts).text 2 with
 | none => exact rd_named_atom1 hM p ts ns w r v hm hf hk h h7 hneg ho
 | some o =>
  dsimp only;by_cases ha : aloneT (fstT ts.tail) (fstT ts.tail.tail) = true
  · rw [if_pos ha]; exact rd_named_atom2 hM p ts ns w r v hm hf hk h h7 hneg ho ha
  rw [if_neg ha];have ha2 : aloneT (fstT ts.tail) (fstT ts.tail.tail) = false := by simpa using ha
  by_cases hp : p < o.p
  · rw [if_pos hp]; exact rd_named_low hM p ts ns w r v hm hf hk h h7 hneg ho ha2 hp
  · rw [if_neg hp]; exact rd_named_op hC hM p ts ns w r v hm hf hk hn h h7 hneg ho ha2 hp
end Go.Proofs.YtlbdocdjijhkbaaGreatDoor
