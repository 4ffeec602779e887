/-
  The contract of package read's own list: the elements, what stands at its end, and the list made of them from behind.
-/
import Derived.Test.YtlbdocdjijhkbaaGreatDoorReadI
namespace Go.Proofs.YtlbdocdjijhkbaaGreatDoor
open Go.RowKit
attribute [local go_sem] Oper.semAt_some
attribute [-go_sem] sliced

set_option maxRecDepth 100000 in
set_option maxHeartbeats 8000000 in
theorem rd_list_plain {m : Nat} {W : Rdr} (hW : GoodW W m) (hC : WithinC m W) (hM : m ≤ 10000) (ts : List Tok) (ns : Nms) (w : World) (r : Nat) (v : Value) (hm : ts.length ≤ m) (hf : Fine ts) (hn : ns.length ≤ 200) (h : RMem w r v ts ns) (l : List Tm) (ts1 : List Tok) (ns1 : Nms) (hx : manyR W 4096 ts ns = .ok l ts1 ns1) (hbar : (fstT ts1).isP [124] = false) :
    Calls Tryz.prog 148 #[.pointer (some ⟨r, 0, none⟩)] w fun e w' => ROut r v w (.ok (consT l (atomT [91, 93])) ts1 ns1) e w' := by
  have hlt := h.lt
  have hnew := h.new_ne (Nat.le_refl _)
  have HB := Lib.hid (fun o : Obj => (Below.refl w.heap.size w).alloc (Nat.le_refl _) o)
  have HC : Hid (∀ W', Below w.heap.size w W' → Calls Tryz.prog 141 #[.pointer (some ⟨r, 0, none⟩), .int .i64 4096] W' fun e w' => RList r v W' (manyR W 4096 ts ns) e w') := Lib.hid (fun W' (hb : Below w.heap.size w W') => rd_several hW hC hM 4096 ts ns W' r v hm hf hn (h.below hb))
  have HQ := Lib.hid (newR w (.cells #[.int .i64 0, .string ⟨#[]⟩, .int .i64 0, .slice none 0 0] 30))
  obtain ⟨⟨f1, f2, f3⟩, f4, f5, f6⟩ := manyR_left hW (by decide) hm hf hn hx
  have hl1 : l.length ≤ 1000000 := by omega
  have HF1 := Lib.hid f1
  rw [hx] at HC
  clear h hC hW hf hx f1
  refine (callsIn_wide (n := 4)).1 ?_
  refine callsIn_of_wp_marks Tryz.func148 rfl trivial ?_ rfl
  simp only [Tryz.ntmps148, List.size_toArray, List.length_cons, List.length_nil, Nat.reduceAdd, Nat.reduceSub, Array.replicate_succ, Array.replicate_zero, List.push_toArray, List.append_toArray, List.nil_append, List.cons_append]
  gi_wp2_with ((refine ⟨trivial, ?_⟩; gi_at_call 141; refine (callsIn_wide.2 (HC.out _ (HB.out _))).mono ?_; rintro e w2 ⟨v2, ad, cap, rfl, g1, g2, hm2, hg2, ha2⟩))
  have HG2 := Lib.hid ((RGo.of_below (r := r) (v := v) (HB.out (.cells #[.int .i64 0, .string ⟨#[]⟩, .int .i64 0, .slice none 0 0] 30)) (Nat.le_of_lt hlt)).trans hg2)
  have HR2 := Lib.hid (hg2.at HQ.out hnew.1 hnew.2)
  have hv2 := hg2.ne (b := w.heap.size) (by simp) hnew.2
  have hs2 := hg2.below.size
  rw [World.size_alloc] at hs2
  have HM2 := Lib.hid hm2
  have HA2 := Lib.hid (ha2.kept (w' := w2) (Q := fun b => w.heap.size + 1 ≤ b ∧ some b ≠ v2.ownBlock ∧ b < w2.heap.size) (fun _ _ _ => rfl) (fun b hp hb => ⟨by have h := hp.1; simpa using h, hp.2, hb⟩))
  clear hm2 hg2 ha2
  gi_wp2_with ((refine ⟨trivial, ?_⟩; gi_at_call 144; refine (callsIn_wide.2 (rd_atom _ _)).mono ?_; rintro e w3 ⟨rfl, hb3⟩))
  have hs3 := hb3.size
  have hqn := newR w3 (.cells #[.int .i64 2, .string ⟨#[91, 93]⟩, .int .i64 0, .slice none 0 0] 30)
  have hb4 : Below w2.heap.size w2 (w3.alloc (.cells #[.int .i64 2, .string ⟨#[91, 93]⟩, .int .i64 0, .slice none 0 0] 30)) := hb3.alloc hs3 _
  have hm4 := HM2.out.below hb4
  have hne4 := (HM2.out.below hb3).new_ne (b := w3.heap.size) (Nat.le_refl _)
  have HP := Lib.hid (rd_passed _ r v2 ts1 ns1 [124] ⟨#[124]⟩ rfl hm4 HF1.out)
  have HQN := Lib.hid hqn
  have HB4 := Lib.hid hb4
  have hs4 := hb4.size
  rw [World.size_alloc] at hs4
  rw [hbar] at HP
  clear hb3 hqn hb4 hm4
  rw [if_neg (by decide)] at HP
  gi_wp2_with ((refine ⟨trivial, ?_⟩; gi_at_call 159; refine (callsIn_wide.2 HP.out).mono ?_; rintro e w5 ⟨rfl, hm5, hg5⟩))
  have hq5 := hg5.at HQN.out hne4.1 hne4.2
  have hr5 := hg5.at (keptR HB4.out HR2.out) hnew.1 hv2
  have ha5 := HA2.out.kept (w' := w5) (Q := fun b => w.heap.size + 1 ≤ b ∧ some b ≠ v2.ownBlock ∧ b < w3.heap.size) (fun b hp hb => (hg5.keep b (by rw [World.size_alloc]; omega) (by omega) hp.2.1).trans (HB4.out.block b hb)) (fun b hp _ => ⟨hp.1, hp.2.1, by omega⟩)
  have hs5 := hg5.below.size
  rw [World.size_alloc] at hs5
  have hg5 := (HG2.out.trans (RGo.of_below HB4.out (by have := HM2.out.lt; omega))).trans hg5
  gi_wp2_with ((refine ⟨trivial, ?_⟩; gi_at_call 161; refine (callsIn_wide.2 (sl_Backward _ _ _ _)).mono ?_; rintro e w9 ⟨rfl, rfl⟩))
  have he5 : TmP w5 (fun b => w.heap.size + 1 ≤ b ∧ some b ≠ v2.ownBlock ∧ b ≠ w3.heap.size ∧ ¬ False) (atomT [91, 93]) none 0 := ⟨in64R (x := 2) (by decide) (by decide), in64R (x := 0) (by decide) (by decide), by show 2 ≤ maxLen; unfold maxLen; decide, Nat.le_refl _, Nat.zero_le _, .nil _⟩
  have hq5 : w5.heap[w3.heap.size]? = some (.cells (tcells (atomT [91, 93]) none 0).toArray 30 (0, 0)) := hq5
  have hvq5 := hne4.2
  have hv5 := hv2
  clear HP HQN HB4 HA2 HM2 HR2 HG2 HC
  generalize w3.heap.size = q at *
  have hE0 : consT (l.drop (l.length - 0)) (atomT [91, 93]) = (atomT [91, 93]) := by rw [Nat.sub_zero, List.drop_length]; rfl
  generalize hW6 : w5.alloc (.cells #[.slice ad l.length cap] 23) = w6
  have hs6 : w6.heap.size = w5.heap.size + 1 := by rw [← hW6]; simp
  have hbt : w6.heap[w5.heap.size]? = some (.cells #[.slice ad l.length cap] 23 (0, 0)) := by rw [← hW6]; exact newR _ _
  have hq6 : w6.heap[q]? = some (.cells (tcells (atomT [91, 93]) none 0).toArray 30 (0, 0)) := by rw [← hW6]; exact pastR hq5 _
  have hm6 : RMem w6 r v2 ts1 ns1 := by rw [← hW6]; exact hm5.below ((Below.refl _ w5).alloc (Nat.le_refl _) _)
  have hg6 : RGo r v w v2 w6 := by rw [← hW6]; exact hg5.alloc hlt _
  have hr6 : w6.heap[w.heap.size]? = some (.cells #[.int .i64 0, .string ⟨#[]⟩, .int .i64 0, .slice none 0 0] 30 (0, 0)) := by rw [← hW6]; exact pastR hr5 _
  have ha6 : TArgsP w6 (fun b => w.heap.size + 1 ≤ b ∧ some b ≠ v2.ownBlock ∧ b < q) ad l := by rw [← hW6]; exact ha5.kept (fun b _ hb => Below.heap_alloc _ _ _ hb) (fun _ hp _ => hp)
  have he6 : TmP w6 (fun b => w.heap.size + 1 ≤ b ∧ some b ≠ v2.ownBlock ∧ b ≠ q ∧ ¬ False) (atomT [91, 93]) none 0 := by rw [← hW6]; exact he5.kept (fun b _ hb => Below.heap_alloc _ _ _ hb) (fun _ hp _ => hp)
  have hseq := back_seq l ad cap w5.heap.size q w6 _ (fun b hp => hp.2.2) hl1 ha6 (by omega)
  have hI0 : BackI w6 q (w.heap.size + 1) v2 l (atomT [91, 93]) (fun _ => False) 0 w6 := by
    refine ⟨none, 0, Turn.refl _ _, fun _ h => h.elim, ?_, ?_⟩
    · rw [hE0]; exact hq6
    · rw [hE0]; exact he6
  have hvq := fun k hk => hm6.ltv k hk
  have hrl := hm6.lt
  have HM6 := Lib.hid hm6
  have HG6 := Lib.hid hg6
  have HR6 := Lib.hid hr6
  have HBT := Lib.hid hbt
  clear hW6 hbt hq6 hm6 hg6 hr6 ha6 he6 hE0 hm5 hg5 hr5 ha5 he5 hq5
  refine range_walkG (gf := 171) (lb := #[.pointer (some ⟨w5.heap.size, 0, none⟩)]) rfl (enters_of Tryz.func171 (by kernel_rfl) rfl) hseq (Below.refl _ _) (by omega) (fun _ => rfl)
    (BackI w6 q (w.heap.size + 1) v2 l (atomT [91, 93])) (fun _ _ _ _ => False)
    (fun M k W h => by obtain ⟨_, _, h1, _⟩ := h; exact (h1.block _ (by omega) (by omega)).trans HBT.out) (backI_abides _ _ _ _ _ _ (by omega)) (fun _ => by rintro _ _ _ _ _ h; exact h.elim) hI0 ?round ?done ?stop
  case round =>
    rintro lb M k ⟨i, t, tad, tcap⟩ W1 ⟨ad1, cap1, i1, i2, i3, i5⟩ hk hx hMl
    dsimp only [BackAt] at hx
    obtain ⟨x1, x2, x3⟩ := hx
    have HST := Lib.hid (consT_step l (atomT [91, 93]) i k t x1 x2)
    have hM1 : ∀ j, M j → j < W1.heap.size := fun j hj => (hMl j hj).2
    have hs1 := i1.size
    have HX3 := Lib.hid (x3.kept (w' := W1) (Q := fun b => w.heap.size + 1 ≤ b ∧ some b ≠ v2.ownBlock ∧ b < q) (fun b hp hb => i1.block b hb (by omega)) (fun _ hp _ => hp))
    have HI1 := Lib.hid i1
    have HI2 := Lib.hid i2
    have HI3 := Lib.hid i3
    have HI5 := Lib.hid i5
    have HM1 := Lib.hid hM1
    generalize consT (l.drop (l.length - k)) (atomT [91, 93]) = ek at *
    clear i1 i2 i3 i5 x2 x3 hMl hM1 hseq hI0
    unfold backv tmv
    dsimp only
    gi_wp2
    refine ⟨Keeps.alloc HM1.out _, (Below.refl q W1).alloc (by omega) _, fun W₂ ht hs2 => ?_⟩
    rw [World.size_alloc] at hs2
    have hs2a : W₂.heap.size ≤ W1.heap.size + 1 := by omega
    have hs2b : W1.heap.size + 1 ≤ W₂.heap.size := by omega
    clear hs2
    have hkeep : ∀ b, b < W1.heap.size → ¬ M b → W₂.heap[b]? = W1.heap[b]? := fun b hb hmb => (ht.block b (by simp; omega) hmb).trans (Below.heap_alloc _ _ _ hb)
    have hnq : ¬ M q := fun hm => by have := HI2.out q hm; omega
    have hbq2 : W₂.heap[q]? = some (.cells #[.int .i64 ek.kind, .string ek.name, .int .i64 ek.n, .slice ad1 ek.args.length cap1] 30 (0, 0)) := (hkeep q (by omega) hnq).trans HI3.out
    have hxn : W₂.heap[W1.heap.size]? = some (.cells #[.int .i64 t.kind, .string t.name, .int .i64 t.n, .slice tad t.args.length tcap] 30 (0, 0)) := (ht.block W1.heap.size (by simp) (fun hm => by have := HM1.out _ hm; omega)).trans (newR W1 _)
    have hturn : Turn (fun j => j = q) w6 W₂ := ⟨ht.os.trans HI1.out.os, ht.tape.trans HI1.out.tape, ht.output.trans HI1.out.output, by omega, fun b hb hn => (hkeep b (by omega) (fun hm => by have := HI2.out b hm; omega)).trans (HI1.out.block b hb hn)⟩
    have ht2 := HX3.out.kept (w' := W₂) (Q := fun b => w.heap.size + 1 ≤ b ∧ some b ≠ v2.ownBlock ∧ b ≠ q ∧ ¬ M b) (fun b hp hb => hkeep b hb (fun hm => by have := HI2.out b hm; omega)) (fun b hp _ => ⟨hp.1, hp.2.1, by omega, fun hm => by have := HI2.out b hm; omega⟩)
    have he2 := HI5.out.kept (w' := W₂) (Q := fun b => w.heap.size + 1 ≤ b ∧ some b ≠ v2.ownBlock ∧ b ≠ q ∧ ¬ M b) (fun b hp hb => hkeep b hb hp.2.2.2) (fun _ hp _ => hp)
    obtain ⟨c0, c1, c2, c3, _⟩ := cellsR4 hbq2
    obtain ⟨d0, d1, d2, d3, _⟩ := cellsR4 hxn
    have ha3 := args2P (B := w.heap.size + 1) (q := q) (M := M) (v := v2) (by omega) (fun b hb => by have := hvq b hb; omega) (by omega) (fun j hj => by have := HM1.out j hj; omega) ht2 he2
    have HA3 := Lib.hid ha3
    have HBQ := Lib.hid (pastR hbq2 (.cells (tcells t tad tcap ++ tcells ek ad1 cap1).toArray 30))
    have HTU := Lib.hid hturn
    have HM2 : Hid (∀ j, M j → j < W₂.heap.size) := Lib.hid (fun j hj => by have := HM1.out j hj; omega)
    clear hkeep hbq2 hxn hturn ht2 he2 ha3 ht
    gi_wp2_with ((refine ⟨trivial, ?_⟩; gi_at_call 93; refine (CallsIn.inRound lb (callsIn_wide.2 (rd_comp _ _ _ _ _))).mono ?_; rintro e W₄ ⟨rfl, hb4⟩; have hq4 := keptR hb4 HBQ.out; obtain ⟨f0, f1, f2, f3, z0, z1, z2, z3⟩ := cellsR4 hq4; have HB4 := Lib.hid hb4; clear hb4 hq4))
    have hs4 := HB4.out.size
    rw [World.size_alloc] at hs4
    have hset : ∀ (u0 u1 u2 u3 : Value) b, b ≠ q → ((((W₄.setCell ⟨q, 0, none⟩ u0).setCell ⟨q, 1, none⟩ u1).setCell ⟨q, 2, none⟩ u2).setCell ⟨q, 3, none⟩ u3).heap[b]? = W₄.heap[b]? := fun u0 u1 u2 u3 b hb => by
      rw [Below.heap_setCell _ _ _ _ (show b ≠ q from hb), Below.heap_setCell _ _ _ _ (show b ≠ q from hb), Below.heap_setCell _ _ _ _ (show b ≠ q from hb), Below.heap_setCell _ _ _ _ (show b ≠ q from hb)]
    have hold : ∀ b, b < W₂.heap.size → b ≠ q → ∀ u0 u1 u2 u3, ((((W₄.setCell ⟨q, 0, none⟩ u0).setCell ⟨q, 1, none⟩ u1).setCell ⟨q, 2, none⟩ u2).setCell ⟨q, 3, none⟩ u3).heap[b]? = W₂.heap[b]? := fun b hb hbq u0 u1 u2 u3 => by
      rw [hset _ _ _ _ _ hbq, HB4.out.block b (by rw [World.size_alloc]; omega), Below.heap_alloc _ _ _ hb]
    have hbel4 : ∀ (n : Nat) (u0 u1 u2 u3 : Value), n ≤ q → Below n W₂ ((((W₄.setCell ⟨q, 0, none⟩ u0).setCell ⟨q, 1, none⟩ u1).setCell ⟨q, 2, none⟩ u2).setCell ⟨q, 3, none⟩ u3) := fun n u0 u1 u2 u3 hn => by
      have h1 : Below n W₂ W₄ := ((Below.refl n W₂).alloc (by omega) _).trans (HB4.out.mono (by rw [World.size_alloc]; omega))
      exact (((h1.setCell (p := ⟨q, 0, none⟩) hn u0).setCell (p := ⟨q, 1, none⟩) hn u1).setCell (p := ⟨q, 2, none⟩) hn u2).setCell (p := ⟨q, 3, none⟩) hn u3
    have hb5 := hbel4 q (.int .i64 4) (.string ⟨#[46]⟩) (.int .i64 0) (.slice (some ⟨W₂.heap.size, 0, none⟩) 2 2) (Nat.le_refl _)
    refine ⟨⟨hb5.size, fun j hj => hold j (HM2.out j hj) (fun e => by have := HI2.out j hj; omega) _ _ _ _⟩, hb5, ?_⟩
    refine ⟨some ⟨W₂.heap.size, 0, none⟩, 2, HTU.out.trans ⟨hb5.os, hb5.tape, hb5.output, hb5.size, fun b hb hn => hold b hb hn _ _ _ _⟩, HI2.out, ?_, ?_⟩
    · rw [HST.out]
      have g0 := Lib.heap_setCell_same (i := 0) (keptR HB4.out HBQ.out) (.int .i64 4)
      have g1 := Lib.heap_setCell_same (i := 1) g0 (.string ⟨#[46]⟩)
      have g2 := Lib.heap_setCell_same (i := 2) g1 (.int .i64 0)
      have g3 := Lib.heap_setCell_same (i := 3) g2 (.slice (some ⟨W₂.heap.size, 0, none⟩) 2 2)
      show _ = some (Obj.cells #[.int .i64 4, .string ⟨#[46]⟩, .int .i64 0, .slice (some ⟨W₂.heap.size, 0, none⟩) 2 2] 30 (0, 0))
      simpa using g3
    · rw [HST.out]
      refine TmP.kept (w := W₄) (P := fun b => w.heap.size + 1 ≤ b ∧ some b ≠ v2.ownBlock ∧ b ≠ q ∧ ¬ M b) ?_ (fun b hp _ => hset _ _ _ _ b hp.2.2.1) (fun _ hp _ => hp)
      exact ⟨in64R (x := 4) (by decide) (by decide), in64R (x := 0) (by decide) (by decide), by show (1 : Nat) ≤ maxLen; unfold maxLen; decide, by show 2 ≤ 2; decide, by show 2 ≤ maxLen; unfold maxLen; decide, HA3.out.kept (fun b _ hb => HB4.out.block b hb) (fun _ hp _ => hp)⟩
  case done =>
    rintro D M W1 hD hMD ⟨ad1, cap1, i1, i2, i3, i5⟩ hK
    rw [Nat.sub_self, List.drop_zero] at i3 i5
    have hs1 := i1.size
    have hr1 := (i1.block w.heap.size (by omega) (by omega)).trans HR6.out
    obtain ⟨c0, c1, c2, c3, _⟩ := cellsR4 i3
    obtain ⟨d0, d1, d2, d3, z0, z1, z2, z3⟩ := cellsR4 hr1
    have HI1 := Lib.hid i1
    have HI5 := Lib.hid i5
    have HK := Lib.hid hK
    have HR1 := Lib.hid hr1
    have HMD := Lib.hid hMD
    generalize hek : consT l (atomT [91, 93]) = ek at *
    have HEK := Lib.hid hek
    clear hek
    clear i1 i2 i3 i5 hK hr1 hseq hI0 hMD
    gi_wp2
    refine ⟨by simp, .inl ⟨_, _, rfl, run_takeDeferred (((((Below.heap_setCell _ _ _ _ (show D ≠ w.heap.size by omega)).trans (Below.heap_setCell _ _ _ _ (show D ≠ w.heap.size by omega))).trans (Below.heap_setCell _ _ _ _ (show D ≠ w.heap.size by omega))).trans (Below.heap_setCell _ _ _ _ (show D ≠ w.heap.size by omega))).trans HK.out), ?_⟩⟩
    have g0 := Lib.heap_setCell_same (i := 0) HR1.out (.int .i64 ek.kind)
    have g1 := Lib.heap_setCell_same (i := 1) g0 (.string ek.name)
    have g2 := Lib.heap_setCell_same (i := 2) g1 (.int .i64 ek.n)
    have g3 := Lib.heap_setCell_same (i := 3) g2 (.slice ad1 ek.args.length cap1)
    have g4 := (World.putObj_heap_other (o := .deferred none) (show w.heap.size ≠ D by omega)).trans g3
    simp only [List.setIfInBounds_toArray, List.set_cons_zero, List.set_cons_succ] at g4
    obtain ⟨y0, y1, y2, y3, _⟩ := cellsR4 g4
    refine ⟨tmv ek ad1 cap1, by simp [results, Tryz.results148, go_sem, y0, y1, y2, y3, tmv], v2, ad1, cap1, by rw [HEK.out], ?_⟩
    rw [HEK.out]
    have hold : ∀ b, b ≠ w.heap.size → b ≠ D → ∀ u0 u1 u2 u3, (((((W1.setCell ⟨w.heap.size, 0, none⟩ u0).setCell ⟨w.heap.size, 1, none⟩ u1).setCell ⟨w.heap.size, 2, none⟩ u2).setCell ⟨w.heap.size, 3, none⟩ u3).putObj D (.deferred none)).heap[b]? = W1.heap[b]? := fun b h1 h2 u0 u1 u2 u3 => by
      rw [World.putObj_heap_other h2, Below.heap_setCell _ _ _ _ (show b ≠ w.heap.size from h1), Below.heap_setCell _ _ _ _ (show b ≠ w.heap.size from h1), Below.heap_setCell _ _ _ _ (show b ≠ w.heap.size from h1), Below.heap_setCell _ _ _ _ (show b ≠ w.heap.size from h1)]
    refine ⟨HM6.out.keptOn (fun b hb hlt6 => ?_), ⟨?_, fun b hb h1 h2 => ?_, HG6.out.own⟩, ?_⟩
    · have hb2 : b ≠ q ∧ b ≠ w.heap.size := by
        rcases hb with hb | hb
        · omega
        · exact ⟨fun e => hvq5 (by rw [hb, e]), fun e => hv2 (by rw [hb, e])⟩
      rw [hold b hb2.2 (by omega) _ _ _ _, HI1.out.block b hlt6 hb2.1]
    · have h1 := HG6.out.below.trans (HI1.out.below (n := r) (fun j hj => by omega) (by omega))
      exact ((((h1.setCell (p := ⟨w.heap.size, 0, none⟩) (Nat.le_of_lt hlt) _).setCell (p := ⟨w.heap.size, 1, none⟩) (Nat.le_of_lt hlt) _).setCell (p := ⟨w.heap.size, 2, none⟩) (Nat.le_of_lt hlt) _).setCell (p := ⟨w.heap.size, 3, none⟩) (Nat.le_of_lt hlt) _).trans (below_put _ _ (by omega))
    · rw [hold b (by omega) (by omega) _ _ _ _, HI1.out.block b (by have := HG6.out.below.size; omega) (by omega), HG6.out.keep b hb h1 h2]
    · exact TmP.kept HI5.out (fun b hp hb => hold b (by omega) (fun e => hp.2.2.2 (e ▸ HMD.out)) _ _ _ _) (fun b hp _ => ⟨by omega, hp.2.1⟩)
  case stop =>
    rintro D c M k W1 _ _ _ h _
    exact h.elim
end Go.Proofs.YtlbdocdjijhkbaaGreatDoor
