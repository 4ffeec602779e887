/-
  The contract of package subst's own resolve.
-/
import Derived.Test.YtjgjeafjnaodkaaSubKC
import Derived.Deep.RegionHeld3
namespace Go.Proofs.Ytjgjeafjnaodkaa
open Go.RowKit

/-- A term's four cells stored over a term of a row of one's own. -/
theorem rs_set4 {W : World} {B g n cap i : Nat} {ys zs : List Value} {a b c d : Value} (h : W.ownsRow B 25 4 (.slice (some ⟨g, 0, none⟩) n cap) n (ys ++ ([a, b, c, d] ++ zs))) (hy : ys.length = i * 4) (x y z u : Value) :
    ((((W.setCell ⟨g, i * 4, none⟩ x).setCell ⟨g, i * 4 + 1, none⟩ y).setCell ⟨g, i * 4 + 2, none⟩ z).setCell ⟨g, i * 4 + 3, none⟩ u).ownsRow B 25 4 (.slice (some ⟨g, 0, none⟩) n cap) n (ys ++ ([x, y, z, u] ++ zs)) := by
  have st : ∀ {W : World} {a b c d : Value} (j : Nat) (v : Value) (r : List Value), W.ownsRow B 25 4 (.slice (some ⟨g, 0, none⟩) n cap) n (ys ++ ([a, b, c, d] ++ zs)) → j < 4 → ([a, b, c, d] : List Value).set j v = r → (W.setCell ⟨g, i * 4 + j, none⟩ v).ownsRow B 25 4 (.slice (some ⟨g, 0, none⟩) n cap) n (ys ++ (r ++ zs)) := fun j v r h hj hr => by
    have h2 := (h.stored (i * 4 + j) v).1
    rw [List.set_append_right _ _ (by omega), hy, Nat.add_sub_cancel_left, List.set_append_left _ _ (by simpa using hj), hr] at h2
    exact h2
  exact st 3 u _ (st 2 z _ (st 1 y _ (st 0 x _ h (by omega) rfl) (by omega) rfl) (by omega) rfl) (by omega) rfl
/-- Within resolve's loop: k terms of the row g are done, they are ys; n steps were taken; all in all it comes to r0. -/
structure RIn (f : Nat → Tm → Tm × Int × Nat) (n₀ mb : Nat) (r0 : List Tm × Int × Nat) (ts : List Tm) (g cp : Nat) (C : Array Value) (w : World) (k n : Nat) (ys : List Tm) (W : World) : Prop where
  le : n ≤ 2000
  yl : ys.length = k
  ans : resCat ys (resList f n (ts.drop k)) = r0
  turn : Turn (fun j => j = mb) w W
  box : W.heap[w.heap.size]? = some (.cells C 25 (0, 0))
  res : W.heap[w.heap.size + 1]? = some (.cells #[.int .i64 0, .string ⟨#[]⟩, .int .i64 0, .slice none 0 0] 25 (0, 0))
  lf : LfAt W mb (2000 - n)
  row : 0 < ts.length → ∃ zs us, W.ownsRow (w.heap.size + 2) 25 4 (.slice (some ⟨g, 0, none⟩) ts.length cp) ts.length (zs ++ us) ∧
    TRow W (fun b => w.heap.size + 2 ≤ b ∧ b ≠ g) zs ys ∧ TRow W (fun b => b < n₀) us (ts.drop k)
theorem RIn.start {f : Nat → Tm → Tm × Int × Nat} {n₀ mb n : Nat} {ts : List Tm} {g cp : Nat} {w W1 W2 : World} {xs : List Value} (hn : n₀ ≤ w.heap.size) (hmb : mb < w.heap.size) (hle : n ≤ 2000) (h1 : Turn (fun j => j = mb) w W1) (hs : w.heap.size + 2 ≤ W1.heap.size)
    (hq1 : W1.heap[w.heap.size + 1]? = some (.cells #[.int .i64 0, .string ⟨#[]⟩, .int .i64 0, .slice none 0 0] 25 (0, 0)))
    (hm : LfAt W1 mb (2000 - n)) (hb : Below W1.heap.size W1 W2) (hrow : 0 < ts.length → W2.ownsRow W1.heap.size 25 4 (.slice (some ⟨g, 0, none⟩) ts.length cp) ts.length xs) (hx : TRow W1 (fun b => b < n₀) xs ts) (v : Value) (C' : Array Value)
    (hC' : (W2.setCell ⟨w.heap.size, 3, none⟩ v).heap[w.heap.size]? = some (.cells C' 25 (0, 0))) :
    RIn f n₀ mb (resList f n ts) ts g cp C' w 0 n [] (W2.setCell ⟨w.heap.size, 3, none⟩ v) := by
  have hk : ∀ b, b ≠ w.heap.size → b < W1.heap.size → (W2.setCell ⟨w.heap.size, 3, none⟩ v).heap[b]? = W1.heap[b]? := fun b hne hlt => (Below.heap_setCell _ _ _ _ hne).trans (hb.block b hlt)
  have h2 : Turn (fun j => j = mb) w (W2.setCell ⟨w.heap.size, 3, none⟩ v) := by
    have := hb.size
    refine ⟨hb.os.trans h1.os, hb.tape.trans h1.tape, hb.output.trans h1.output, by simp [World.setCell]; have := h1.size; omega, fun k hkk hne => (hk k (by omega) (by omega)).trans (h1.block k hkk hne)⟩
  refine ⟨hle, rfl, resCat_nil _ (resList_none f ts n), h2, hC', (hk _ (by omega) (by omega)).trans hq1, (hk mb (by omega) (by omega)).trans hm, fun hp => ⟨[], xs, ?_, .nil, ?_⟩⟩
  · have hr := hrow hp
    have hlt := hr.lt g rfl
    exact ownsRow_low (ownsRow_block hr (Below.heap_setCell _ _ _ _ (show g ≠ w.heap.size by omega))) hs
  · exact hx.kept (fun b hp hlt => hk b (by omega) hlt) fun b h _ => h
theorem RIn.next {f : Nat → Tm → Tm × Int × Nat} {n₀ mb : Nat} {r0 : List Tm × Int × Nat} {ts : List Tm} {g cp : Nat} {C : Array Value} {w wr w2 : World} {k n n' : Nat} {x y : Tm} {ys : List Tm} {zs us : List Value} {ad1 : Option Addr} {cap1 : Nat} {ad2 : Option Addr} {cap2 : Nat} {o : Obj} (hk : k < ts.length) (hn : n₀ ≤ mb) (hmb : mb < w.heap.size)
    (hN : RIn f n₀ mb r0 ts g cp C w k n ys wr) (hrow : wr.ownsRow (w.heap.size + 2) 25 4 (.slice (some ⟨g, 0, none⟩) ts.length cp) ts.length (zs ++ (tcells x ad1 cap1 ++ us)))
    (h1 : TRow wr (fun b => w.heap.size + 2 ≤ b ∧ b ≠ g) zs ys) (h2 : TRow wr (fun b => b < n₀) us (ts.drop (k + 1))) (hxk : ts[k] = x) (hf : f n x = (y, 0, n')) (hn' : n' ≤ 2000)
    (ht : Turn (fun j => j = mb) (wr.alloc o) w2) (hm : LfAt w2 mb (2000 - n'))
    (hx : TmP w2 (fun b => (wr.alloc o).heap.size ≤ b) y ad2 cap2) (hyl : zs.length = k * 4) :
      RIn f n₀ mb r0 ts g cp C w (k + 1) n' (ys ++ [y]) ((((w2.setCell ⟨g, k * 4, none⟩ (.int .i64 y.kind)).setCell ⟨g, k * 4 + 1, none⟩ (.string y.name)).setCell ⟨g, k * 4 + 2, none⟩ (.int .i64 y.n)).setCell ⟨g, k * 4 + 3, none⟩ (.slice ad2 y.args.length cap2)) := by
  have hgl := hrow.lt g rfl
  have hws : (wr.alloc o).heap.size = wr.heap.size + 1 := World.size_alloc _ _
  have hsz := ht.size
  have keep2 : ∀ j, j ≠ g → ((((w2.setCell ⟨g, k * 4, none⟩ (.int .i64 y.kind)).setCell ⟨g, k * 4 + 1, none⟩ (.string y.name)).setCell ⟨g, k * 4 + 2, none⟩ (.int .i64 y.n)).setCell ⟨g, k * 4 + 3, none⟩ (.slice ad2 y.args.length cap2)).heap[j]? = w2.heap[j]? := fun j hj => by
    rw [Below.heap_setCell _ _ _ _ (show j ≠ g from hj), Below.heap_setCell _ _ _ _ (show j ≠ g from hj), Below.heap_setCell _ _ _ _ (show j ≠ g from hj), Below.heap_setCell _ _ _ _ (show j ≠ g from hj)]
  have keep : ∀ j, j ≠ g → j ≠ mb → j < wr.heap.size → ((((w2.setCell ⟨g, k * 4, none⟩ (.int .i64 y.kind)).setCell ⟨g, k * 4 + 1, none⟩ (.string y.name)).setCell ⟨g, k * 4 + 2, none⟩ (.int .i64 y.n)).setCell ⟨g, k * 4 + 3, none⟩ (.slice ad2 y.args.length cap2)).heap[j]? = wr.heap[j]? := fun j hj hjm hjl => (keep2 j hj).trans ((ht.block j (by omega) hjm).trans (Below.heap_alloc _ _ _ hjl))
  have hT : Turn (fun j => j = mb) w ((((w2.setCell ⟨g, k * 4, none⟩ (.int .i64 y.kind)).setCell ⟨g, k * 4 + 1, none⟩ (.string y.name)).setCell ⟨g, k * 4 + 2, none⟩ (.int .i64 y.n)).setCell ⟨g, k * 4 + 3, none⟩ (.slice ad2 y.args.length cap2)) := by
    have h0 := hN.turn
    refine ⟨ht.os.trans h0.os, ht.tape.trans h0.tape, ht.output.trans h0.output, by simp [World.setCell]; have := h0.size; omega, fun j hj hne => (keep j (by omega) hne (by have := h0.size; omega)).trans (h0.block j hj hne)⟩
  have hgrow : w2.ownsRow (w.heap.size + 2) 25 4 (.slice (some ⟨g, 0, none⟩) ts.length cp) ts.length (zs ++ (tcells x ad1 cap1 ++ us)) :=
    ownsRow_block hrow ((ht.block g (by omega) (by omega)).trans (Below.heap_alloc _ _ _ (by omega)))
  have hset := rs_set4 hgrow hyl (.int .i64 y.kind) (.string y.name) (.int .i64 y.n) (.slice ad2 y.args.length cap2)
  have hxx := hx.kept (w' := (((w2.setCell ⟨g, k * 4, none⟩ (.int .i64 y.kind)).setCell ⟨g, k * 4 + 1, none⟩ (.string y.name)).setCell ⟨g, k * 4 + 2, none⟩ (.int .i64 y.n)).setCell ⟨g, k * 4 + 3, none⟩ (.slice ad2 y.args.length cap2)) (Q := fun b => w.heap.size + 2 ≤ b ∧ b ≠ g) (fun b hb _ => keep2 b (by omega)) (fun b hb _ => ⟨by have := hN.turn.size; omega, by omega⟩)
  have hans := hN.ans
  rw [List.drop_eq_getElem_cons hk, hxk, resList_cat f n x _ (by rw [hf]), hf, resCat_cat] at hans
  refine ⟨hn', by rw [List.length_append, hN.yl]; rfl, hans, hT, (keep _ (by omega) (by omega) (by omega)).trans hN.box, (keep _ (by omega) (by omega) (by omega)).trans hN.res, (keep2 mb (by omega)).trans hm, fun _ => ⟨zs ++ tcells y ad2 cap2, us, ?_, ?_, ?_⟩⟩
  · rw [List.append_assoc]; exact hset
  · exact (h1.kept (fun j hj hl => keep j hj.2 (by omega) hl) (fun _ h _ => h)).snoc hxx
  · exact h2.kept (fun j hj hl => keep j (by omega) (by omega) hl) (fun _ h _ => h)
/-- The last term is done. -/
theorem RIn.done {f : Nat → Tm → Tm × Int × Nat} {n₀ mb n : Nat} {r0 : List Tm × Int × Nat} {ts ys : List Tm} {g cp : Nat} {C : Array Value} {w W : World} {adc : Option Addr} (h : RIn f n₀ mb r0 ts g cp C w ts.length n ys W) (hadc : 0 < ts.length → adc = some ⟨g, 0, none⟩) :
    r0 = (ys, 0, n) ∧ TArgsP W (fun b => w.heap.size + 2 ≤ b) adc ys := by
  have ha := h.ans
  rw [List.drop_of_length_le (Nat.le_refl _)] at ha
  have ha' : (if (0 : Int) ≠ 0 then ([], 0, n) else (ys ++ [], (0 : Int), n)) = r0 := ha
  rw [if_neg (by nofun), List.append_nil] at ha'
  refine ⟨ha'.symm, ?_⟩
  by_cases hp : 0 < ts.length
  · obtain ⟨zs, us, hrow, h1, h2⟩ := h.row hp
    rw [List.drop_of_length_le (Nat.le_refl _)] at h2
    cases h2
    rw [List.append_nil] at hrow
    rw [hadc hp]
    refine h1.args g (hrow.lt g rfl).1 (fun b hb => hb.1) 0 (fun j hj => ?_)
    rw [Nat.zero_add]
    exact hrow.cellAt j (by rw [← hrow.1]; exact hj)
  · have hy := h.yl
    have : ys = [] := List.eq_nil_of_length_eq_zero (by omega)
    rw [this]; exact .nil _
/-- A term fell: what all comes to. -/
theorem RIn.fell {f : Nat → Tm → Tm × Int × Nat} {n₀ mb n k : Nat} {r0 : List Tm × Int × Nat} {ts ys : List Tm} {g cp : Nat} {C : Array Value} {w W : World} (h : RIn f n₀ mb r0 ts g cp C w k n ys W) (hk : k < ts.length) {x : Tm} (hx : ts[k] = x) (hf : (f n x).2.1 ≠ 0) : r0 = ([], (f n x).2.1, (f n x).2.2) := by
  have ha := h.ans
  rw [List.drop_eq_getElem_cons hk, hx, resList_bad f n x _ hf] at ha
  unfold resCat at ha
  rw [if_pos hf] at ha
  exact ha.symm

/-- The function's two boxes laid. -/
theorem res_boxes {w : World} {mb n : Nat} (hm : LfAt w mb n) (o1 o2 : Obj) : ((w.alloc o1).alloc o2).heap[w.heap.size]? = some o1 ∧ ((w.alloc o1).alloc o2).heap[w.heap.size + 1]? = some o2 ∧ Turn (fun j => j = mb) w ((w.alloc o1).alloc o2) ∧ LfAt ((w.alloc o1).alloc o2) mb n ∧ ((w.alloc o1).alloc o2).heap.size = w.heap.size + 2 :=
  ⟨(Below.heap_alloc _ _ _ (by simp)).trans (alloc_new _ _), alloc_new2 _ _ _, (Turn.alloc _ w o1).trans (Turn.alloc _ _ o2), hm.on (((Below.refl _ w).alloc (Nat.le_refl _) _).alloc (by simp) _), by simp⟩

set_option maxRecDepth 100000 in
set_option maxHeartbeats 4000000 in
/-- No step is left. -/
theorem dv_res_spent (ab : Option Addr) (lb cb mb : Nat) (o : Int) (t : Tm) (ad : Option Addr) (cap : Nat) (w : World) (hm : LfAt w mb 0) :
    Calls Try.prog 29 #[.slice ab lb cb, tmv t ad cap, .int .i64 o, .pointer (some ⟨mb, 0, none⟩)] w (DWalk (fun b => w.heap.size ≤ b) mb w (zeroT, 140, 2001)) := by
  have hmb := hm.lt
  have HB := Lib.hid (res_boxes hm (.cells #[.int .i64 t.kind, .string t.name, .int .i64 t.n, .slice ad t.args.length cap] 25) (.cells #[.int .i64 0, .string ⟨#[]⟩, .int .i64 0, .slice none 0 0] 25))
  clear hm
  unfold tmv
  go_enter Try.func29, Try.ntmps29
  go_wp2_with fail
  generalize (w.alloc _).alloc _ = w0 at *
  obtain ⟨q0, q1, t0, m0, s0⟩ := HB.out
  refine (dv_spend mb 0 w0 (by omega) m0).mono ?_; rintro e w1 ⟨rfl, m1, t1, s1⟩
  have g1 := (t1.block (w.heap.size + 1) (by omega) (by omega)).trans q1
  have HF := Lib.hid (dwalk_err (P := fun b => w.heap.size ≤ b) (er := 140) (n := 2001) hmb ((t0.trans t1).more fun j e => .inl e) m1)
  have G4 := Lib.hid (set4_blk g1 (.int .i64 0) (.string ⟨#[]⟩) (.int .i64 0) (.slice none 0 0))
  obtain ⟨z0, z1, z2, z3, e0, e1, e2, e3⟩ := cellsT g1
  have hd : decide (0 < 0) = false := rfl
  clear q0 q1 t0 m0 m1 t1 g1 HB
  go_wp2_with fail
  obtain ⟨y0, y1, y2, y3, _⟩ := cellsT G4.out
  refine bodyPost_ret (v := .tuple #[.agg #[.int .i64 0, .string ⟨#[]⟩, .int .i64 0, .slice none 0 0], .int .i64 140]) (by simp [results, Try.results29, go_sem, y0, y1, y2, y3]) rfl ?_
  exact HF.out

set_option maxRecDepth 100000 in
set_option maxHeartbeats 4000000 in
/-- The term stands too deep. -/
theorem dv_res_deep (ab : Option Addr) (lb cb mb n : Nat) (t : Tm) (ad : Option Addr) (cap : Nat) (w : World) (hn : n < 2000) (hm : LfAt w mb (2000 - n)) :
    Calls Try.prog 29 #[.slice ab lb cb, tmv t ad cap, .int .i64 60, .pointer (some ⟨mb, 0, none⟩)] w (DWalk (fun b => w.heap.size ≤ b) mb w (zeroT, 3, n + 1)) := by
  have hmb := hm.lt
  have HB := Lib.hid (res_boxes hm (.cells #[.int .i64 t.kind, .string t.name, .int .i64 t.n, .slice ad t.args.length cap] 25) (.cells #[.int .i64 0, .string ⟨#[]⟩, .int .i64 0, .slice none 0 0] 25))
  clear hm
  unfold tmv
  go_enter Try.func29, Try.ntmps29
  go_wp2_with fail
  generalize (w.alloc _).alloc _ = w0 at *
  obtain ⟨q0, q1, t0, m0, s0⟩ := HB.out
  have hsp := dv_spend mb (2000 - n) w0 (by omega) m0
  rw [show decide (0 < 2000 - n) = true from decide_eq_true (by omega)] at hsp
  refine hsp.mono ?_; rintro e w1 ⟨rfl, m1, t1, s1⟩
  rw [show 2000 - n - 1 = 2000 - (n + 1) by omega] at m1
  have g1 := (t1.block (w.heap.size + 1) (by omega) (by omega)).trans q1
  have HF := Lib.hid (dwalk_err (P := fun b => w.heap.size ≤ b) (er := 3) hmb ((t0.trans t1).more fun j e => .inl e) m1)
  have G4 := Lib.hid (set4_blk g1 (.int .i64 0) (.string ⟨#[]⟩) (.int .i64 0) (.slice none 0 0))
  obtain ⟨z0, z1, z2, z3, e0, e1, e2, e3⟩ := cellsT g1
  clear q0 q1 t0 m0 m1 t1 g1 HB hsp
  go_wp2_with fail
  obtain ⟨y0, y1, y2, y3, _⟩ := cellsT G4.out
  refine bodyPost_ret (v := .tuple #[.agg #[.int .i64 0, .string ⟨#[]⟩, .int .i64 0, .slice none 0 0], .int .i64 3]) (by simp [results, Try.results29, go_sem, y0, y1, y2, y3]) rfl ?_
  exact HF.out
end Go.Proofs.Ytjgjeafjnaodkaa
