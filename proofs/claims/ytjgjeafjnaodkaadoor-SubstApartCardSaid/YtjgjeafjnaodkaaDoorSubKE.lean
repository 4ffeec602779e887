/-
  The contract of package subst's own resolve, and of Resolve.
-/
import Derived.Test.YtjgjeafjnaodkaaDoorSubKD
import Derived.IntWalk
namespace Go.Proofs.YtjgjeafjnaodkaaDoor
open Go.RowKit

set_option maxRecDepth 100000 in
set_option maxHeartbeats 4000000 in
/-- The walk comes to no end. -/
theorem dv_res_bad (bs : List (Int × Tm)) (ab : Option Addr) (cb mb n₀ n : Nat) (o : Int) (t : Tm) (ad : Option Addr) (cap : Nat) (w : World) (hlen : bs.length ≤ 1000000) (hn0 : n₀ ≤ mb) (hn : n < 2000) (ho : 0 ≤ o ∧ o < 60) (hb : BdsAt w (fun b => b < n₀) ab bs) (ht : TmP w (fun b => b < n₀) t ad cap) (hm : LfAt w mb (2000 - n)) (hbad : walkL bs (n + 1) t = (zeroT, 140, 2001)) :
    Calls Tryd.prog 21 #[.slice ab bs.length cb, tmv t ad cap, .int .i64 o, .pointer (some ⟨mb, 0, none⟩)] w (DWalk (fun b => w.heap.size ≤ b) mb w (zeroT, 140, 2001)) := by
  have hmb := hm.lt
  have HB := Lib.hid (res_boxes hm (.cells #[.int .i64 t.kind, .string t.name, .int .i64 t.n, .slice ad t.args.length cap] 25) (.cells #[.int .i64 0, .string ⟨#[]⟩, .int .i64 0, .slice none 0 0] 25))
  have HW := Lib.hid (fun W (h : Turn (fun j => j = mb) w W) (hl : LfAt W mb (2000 - (n + 1))) => dv_walk bs ab cb mb (n + 1) t ad cap W (fun b => b < n₀) hlen (fun b hb' => by have := h.size; exact ⟨by omega, by omega⟩) (hb.turn h fun b hb' => by omega) hl (by omega) (ht.turnS h fun b hb' => by omega))
  clear hm hb ht
  rw [hbad] at HW
  clear hbad
  unfold DWalk at HW
  unfold tmv at *
  have ho1 : (o == 60) = false := by simp; omega
  go_enter Tryd.func21, Tryd.ntmps21
  go_wp2_with fail
  generalize (w.alloc _).alloc _ = w0 at *
  obtain ⟨q0, q1, t0, m0, s0⟩ := HB.out
  have hsp := dv_spend mb (2000 - n) w0 (by omega) m0
  rw [show decide (0 < 2000 - n) = true from decide_eq_true (by omega)] at hsp
  refine hsp.mono ?_; rintro e w1 ⟨rfl, m1, t1, s1⟩
  rw [show 2000 - n - 1 = 2000 - (n + 1) by omega] at m1
  have g0 := (t1.block w.heap.size (by omega) (by omega)).trans q0
  have g1 := (t1.block (w.heap.size + 1) (by omega) (by omega)).trans q1
  have HT1 := Lib.hid (t0.trans t1)
  have HWK := Lib.hid (HW.out w1 HT1.out m1)
  have HG0 := Lib.hid g0
  have HG1 := Lib.hid g1
  obtain ⟨z0, z1, z2, z3, e0, e1, e2, e3⟩ := cellsT g0
  clear q0 q1 t0 m0 m1 t1 g0 g1 HB hsp HW
  go_wp2_with fail
  refine HWK.out.mono ?_; rintro e w2 ⟨a2, c2, rfl, _, m2, t2⟩
  clear z0 z1 z2 z3 e0 e1 e2 e3
  obtain ⟨z0, z1, z2, z3, e0, e1, e2, e3⟩ := cellsT ((t2.block w.heap.size (by omega) (by omega)).trans HG0.out)
  have HM2 := Lib.hid m2
  have HT2 := Lib.hid (HT1.out.trans t2)
  have HG2 := Lib.hid ((t2.block (w.heap.size + 1) (by omega) (by omega)).trans HG1.out)
  clear m2 t2 HG0 HG1
  go_upto_region 6 with fail
  have HT3 := Lib.hid ((HT2.out.more (M' := fun j => j = mb ∨ w.heap.size ≤ j) fun j e => .inl e).trans (Turn.set4 (M := fun j => j = mb ∨ w.heap.size ≤ j) (W := w2) (q := w.heap.size) (.inr (Nat.le_refl _)) (.int .i64 zeroT.kind) (.string zeroT.name) (.int .i64 zeroT.n) (.slice a2 zeroT.args.length c2)))
  have HM3 := Lib.hid (HM2.out.turn (Turn.set4 (M := fun j => j = w.heap.size) (W := w2) (q := w.heap.size) rfl (.int .i64 zeroT.kind) (.string zeroT.name) (.int .i64 zeroT.n) (.slice a2 zeroT.args.length c2)) (by omega))
  have hg3 := (set4_oth (W := w2) (q := w.heap.size) (j := w.heap.size + 1) (.int .i64 zeroT.kind) (.string zeroT.name) (.int .i64 zeroT.n) (.slice a2 zeroT.args.length c2) (by omega)).trans HG2.out
  generalize (((w2.setCell _ _).setCell _ _).setCell _ _).setCell _ _ = w3 at *
  have HF := Lib.hid (dwalk_err (P := fun b => w.heap.size ≤ b) (er := 140) (n := 2001) hmb HT3.out HM3.out)
  have G4 := Lib.hid (set4_blk hg3 (.int .i64 0) (.string ⟨#[]⟩) (.int .i64 0) (.slice none 0 0))
  clear z0 z1 z2 z3 e0 e1 e2 e3
  obtain ⟨z0, z1, z2, z3, e0, e1, e2, e3⟩ := cellsT hg3
  clear hg3
  go_wp2_with fail
  obtain ⟨y0, y1, y2, y3, _⟩ := cellsT G4.out
  refine bodyPost_ret (v := .tuple #[.agg #[.int .i64 0, .string ⟨#[]⟩, .int .i64 0, .slice none 0 0], .int .i64 140]) (by simp [results, Tryd.results21, go_sem, y0, y1, y2, y3]) rfl ?_
  exact HF.out

theorem turn_row4 {M : Nat → Prop} {W : World} {q i : Nat} (hq : M q) (x y z u : Value) : Turn M W ((((W.setCell ⟨q, i, none⟩ x).setCell ⟨q, i + 1, none⟩ y).setCell ⟨q, i + 2, none⟩ z).setCell ⟨q, i + 3, none⟩ u) :=
  (((Turn.set M W (p := ⟨q, i, none⟩) hq x).trans (Turn.set M _ (p := ⟨q, i + 1, none⟩) hq y)).trans (Turn.set M _ (p := ⟨q, i + 2, none⟩) hq z)).trans (Turn.set M _ (p := ⟨q, i + 3, none⟩) hq u)

set_option maxRecDepth 100000 in
set_option maxHeartbeats 8000000 in
/-- A term that is walked, and its arguments resolved one behind the other. -/
theorem dv_res_go (bs : List (Int × Tm)) (ab : Option Addr) (cb mb n₀ d n n1 : Nat) (o : Int) (t X : Tm) (ad : Option Addr) (cap : Nat) (w : World) (r : Tm × Int × Nat) (hlen : bs.length ≤ 1000000) (hn0 : n₀ ≤ mb) (hn : n < 2000) (ho : o + (d + 1 : Nat) = 60) (hd9 : d ≤ 59) (hXs : X.size ≤ 1000000)
    (IH : ∀ (n : Nat) (t : Tm) (ad : Option Addr) (cap : Nat) (W : World), n ≤ 2000 → t.size ≤ 1000000 → BdsAt W (fun b => b < n₀) ab bs → TmP W (fun b => b < n₀) t ad cap → LfAt W mb (2000 - n) →
      Calls Tryd.prog 21 #[.slice ab bs.length cb, tmv t ad cap, .int .i64 (o + 1), .pointer (some ⟨mb, 0, none⟩)] W (DWalk (fun b => W.heap.size ≤ b) mb W (resD bs d n t)))
    (hb : BdsAt w (fun b => b < n₀) ab bs) (ht : TmP w (fun b => b < n₀) t ad cap) (hm : LfAt w mb (2000 - n)) (hwk : walkL bs (n + 1) t = (X, 0, n1)) (hn1 : n1 ≤ 2000)
    (hgood : (resList (resD bs d) n1 X.args).2.1 = 0 → r = (.mk X.kind X.name X.n (resList (resD bs d) n1 X.args).1, 0, (resList (resD bs d) n1 X.args).2.2))
    (hbad : (resList (resD bs d) n1 X.args).2.1 ≠ 0 → r = (zeroT, (resList (resD bs d) n1 X.args).2.1, (resList (resD bs d) n1 X.args).2.2)) :
    Calls Tryd.prog 21 #[.slice ab bs.length cb, tmv t ad cap, .int .i64 o, .pointer (some ⟨mb, 0, none⟩)] w (DWalk (fun b => w.heap.size ≤ b) mb w r) := by
  have hmb := hm.lt
  have HBX := Lib.hid (res_boxes hm (.cells #[.int .i64 t.kind, .string t.name, .int .i64 t.n, .slice ad t.args.length cap] 25) (.cells #[.int .i64 0, .string ⟨#[]⟩, .int .i64 0, .slice none 0 0] 25))
  have HW := Lib.hid (fun W (h : Turn (fun j => j = mb) w W) (hl : LfAt W mb (2000 - (n + 1))) => dv_walk bs ab cb mb (n + 1) t ad cap W (fun b => b < n₀) hlen (fun b hb' => by have := h.size; exact ⟨by omega, by omega⟩) (hb.turn h fun b hb' => by omega) hl (by omega) (ht.turnS h fun b hb' => by omega))
  have HBD := Lib.hid (fun W (h : Turn (fun j => j = mb) w W) => hb.turn h fun b (hb' : b < n₀) => by omega)
  have HIH := Lib.hid IH
  have HGOOD := Lib.hid hgood
  have HBAD := Lib.hid hbad
  have HSZ := Lib.hid X.size_eq
  have HNEG := Lib.hid (fun n t hn => resD_out bs d n t hn)
  clear hm hb ht IH hgood hbad
  rw [hwk] at HW
  clear hwk
  have hXl : X.args.length ≤ 1000000 := by have := HSZ.out; have := Tm.length_le_sizes X.args; omega
  unfold DWalk at HW
  unfold tmv at HW
  have ho0 : 0 ≤ o := by omega
  have ho9 : o ≤ 59 := by omega
  have ho1 : (o == 60) = false := by simp; omega
  have HO := Lib.hid ho
  clear ho
  rw [show (tmv t ad cap) = .agg #[.int .i64 t.kind, .string t.name, .int .i64 t.n, .slice ad t.args.length cap] from rfl]
  go_enter Tryd.func21, Tryd.ntmps21
  go_wp2_with fail
  generalize (w.alloc _).alloc _ = w0 at *
  obtain ⟨q0, q1, t0, m0, s0⟩ := HBX.out
  have hsp := dv_spend mb (2000 - n) w0 (by omega) m0
  rw [show decide (0 < 2000 - n) = true from decide_eq_true (by omega)] at hsp
  refine hsp.mono ?_; rintro e w1 ⟨rfl, m1, t1, s1⟩
  rw [show 2000 - n - 1 = 2000 - (n + 1) by omega] at m1
  have g0 := (t1.block w.heap.size (by omega) (by omega)).trans q0
  have g1 := (t1.block (w.heap.size + 1) (by omega) (by omega)).trans q1
  have HT1 := Lib.hid (t0.trans t1)
  have HWK := Lib.hid (HW.out w1 HT1.out m1)
  have HG0 := Lib.hid g0
  have HG1 := Lib.hid g1
  obtain ⟨z0, z1, z2, z3, e0, e1, e2, e3⟩ := cellsT g0
  clear q0 q1 t0 m0 m1 t1 g0 g1 HBX hsp HW
  go_wp2_with fail
  refine HWK.out.mono ?_; rintro e w2 ⟨a2, c2, rfl, hx2, m2, t2⟩
  clear z0 z1 z2 z3 e0 e1 e2 e3
  have hg2 := (t2.block w.heap.size (by omega) (by omega)).trans HG0.out
  obtain ⟨z0, z1, z2, z3, e0, e1, e2, e3⟩ := cellsT hg2
  have hs2 := t2.size
  have HM2 := Lib.hid m2
  have HT2 := Lib.hid (HT1.out.trans t2)
  have HG2 := Lib.hid ((t2.block (w.heap.size + 1) (by omega) (by omega)).trans HG1.out)
  have HX2 := Lib.hid hx2
  have HB2 := Lib.hid hg2
  have hcapl := hx2.len
  have hcapm := hx2.cap
  unfold maxLen at hcapm
  clear m2 t2 HG0 HG1 hx2 hg2 HWK
  go_upto_region 6 with fail
  have hb3 := set4_blk HB2.out (.int .i64 X.kind) (.string X.name) (.int .i64 X.n) (.slice a2 X.args.length c2)
  have HS4 := Lib.hid (fun j hj => set4_oth (W := w2) (q := w.heap.size) (j := j) (.int .i64 X.kind) (.string X.name) (.int .i64 X.n) (.slice a2 X.args.length c2) hj)
  have HK4 := Lib.hid (Turn.set4 (M := fun j => j = w.heap.size) (W := w2) (q := w.heap.size) rfl (.int .i64 X.kind) (.string X.name) (.int .i64 X.n) (.slice a2 X.args.length c2))
  generalize (((w2.setCell _ _).setCell _ _).setCell _ _).setCell _ _ = w3 at *
  have HT3 : Hid (Turn (fun j => j = mb) w w3) := Lib.hid ⟨HK4.out.os.trans HT2.out.os, HK4.out.tape.trans HT2.out.tape, HK4.out.output.trans HT2.out.output, Nat.le_trans HT2.out.size HK4.out.size, fun k hk hne => (HS4.out k (by omega)).trans (HT2.out.block k hk hne)⟩
  have HM3 := Lib.hid (HM2.out.turn HK4.out (by omega))
  have HG3 := Lib.hid ((HS4.out (w.heap.size + 1) (by omega)).trans HG2.out)
  have hx3 : TmP w3 (fun b => b < n₀) X a2 c2 := HX2.out.turnS HK4.out fun b hb => by omega
  have HX3 := Lib.hid hx3
  have HB3 := Lib.hid hb3
  have hs3 := HK4.out.size
  obtain ⟨xs, hxr, hxl, hcl⟩ := clone_any hx3.args hXl c2
  have HCL := Lib.hid (hcl w3 fun _ _ _ => rfl)
  have HXR := Lib.hid hxr
  clear z0 z1 z2 z3 e0 e1 e2 e3 HX2 HB2 HS4 HK4 HM2 HT2 HG2 hcl hxr hx3
  obtain ⟨z0, z1, z2, z3, e0, e1, e2, e3⟩ := cellsT hb3
  clear hb3
  go_wp2_with fail
  refine HCL.out.mono ?_; rintro e w4 ⟨adc, capc, rfl, h1c, h2c, hb4, hnew⟩
  have hq4 := keptR9 hb4 HB3.out
  obtain ⟨g, hg⟩ : ∃ g, 0 < X.args.length → adc = some ⟨g, 0, none⟩ ∧ w4.ownsRow w3.heap.size 25 4 (.slice (some ⟨g, 0, none⟩) X.args.length capc) X.args.length xs := by
    by_cases hp : 0 < X.args.length
    · obtain ⟨g, h3, _, h5⟩ := hnew hp; exact ⟨g, fun _ => ⟨h3, h5⟩⟩
    · exact ⟨0, fun h => absurd h hp⟩
  have HAD : Hid (0 < X.args.length → adc = some ⟨g, 0, none⟩) := Lib.hid fun hp => (hg hp).1
  have hset := Lib.heap_setCell_same (i := 3) hq4 (.slice adc X.args.length capc)
  have HN : Hid (RIn (resD bs d) n₀ mb (resList (resD bs d) n1 X.args) X.args g capc #[.int .i64 X.kind, .string X.name, .int .i64 X.n, .slice adc X.args.length capc] w 0 n1 [] (w4.setCell ⟨w.heap.size, 3, none⟩ (.slice adc X.args.length capc))) := Lib.hid (RIn.start (by omega) hmb hn1 HT3.out (by omega) HG3.out HM3.out hb4 (fun hp => (hg hp).2) HXR.out _ _ (by simpa using hset))
  clear z0 z1 z2 z3 e0 e1 e2 e3
  obtain ⟨z0, z1, z2, z3, e0, e1, e2, e3⟩ := cellsT hq4
  clear hb4 hnew hq4 hg hset HCL HXR hxl
  have HC2 := Lib.hid h2c
  unfold maxLen at h2c
  go_wp2_with fail
  generalize w4.setCell _ _ = w5 at *
  clear z0 z1 z2 z3 e0 e1 e2 e3
  go_loopw [38] (fun iv wr => ∃ (k n : Nat) (ys : List Tm), k ≤ X.args.length ∧ iv = .int .i64 k ∧ Hid (RIn (resD bs d) n₀ mb (resList (resD bs d) n1 X.args) X.args g capc #[.int .i64 X.kind, .string X.name, .int .i64 X.n, .slice adc X.args.length capc] w k n ys wr)) (fun iv _ => X.args.length - (intOf iv).toNat)
  case atStart => exact ⟨0, n1, [], Nat.zero_le _, rfl, HN⟩
  case round =>
    obtain ⟨k, n2, ys, hk, rfl, HNI⟩ := hrel
    obtain ⟨d0, d1, d2, d3, e0, e1, e2, e3⟩ := cellsT HNI.out.box
    by_cases hlt : k < X.args.length
    · obtain rfl := HAD.out (by omega)
      obtain ⟨zs, us, hrow, htr, hur⟩ := HNI.out.row (by omega)
      rw [List.drop_eq_getElem_cons hlt] at hur
      obtain ⟨ad1, cap1, us', rfl, hx, hu'⟩ := hur.head
      have hzl : zs.length = k * 4 := by rw [htr.length, HNI.out.yl]
      obtain ⟨c0, c1, c2', c3⟩ := row_cells hrow hzl
      have hwrs := HNI.out.turn.size
      have hgl := hrow.lt g rfl
      have hxs : X.args[k].size ≤ 1000000 := by have := HSZ.out; have := Tm.mem_size (List.getElem_mem hlt); omega
      have hle := HNI.out.le
      obtain ⟨x, hxk⟩ : ∃ x, X.args[k] = x := ⟨_, rfl⟩
      have HNX := Lib.hid (fun y n' o w2 ad2 cap2 hf hn' ht hm hx => RIn.next (o := o) (w2 := w2) (y := y) (n' := n') (ad2 := ad2) (cap2 := cap2) hlt hn0 hmb HNI.out hrow htr hu' rfl hf hn' ht hm hx hzl)
      have HGR := Lib.hid (fun (o : Obj) (w2 : World) (ht : Turn (fun j => j = mb) (wr.alloc o) w2) => show w2.ownsRow (w.heap.size + 2) 25 4 (.slice (some ⟨g, 0, none⟩) X.args.length capc) X.args.length (zs ++ (tcells X.args[k] ad1 cap1 ++ us')) from
        ownsRow_block hrow ((ht.block g (by rw [World.size_alloc]; omega) (by omega)).trans (Below.heap_alloc _ _ _ (by omega))))
      have HFELL := Lib.hid (HNI.out.fell hlt rfl)
      have HIH2 := Lib.hid (fun (ob : Obj) => HIH.out n2 X.args[k] ad1 cap1 ((wr.alloc ob).drew) hle hxs
        ((HBD.out wr HNI.out.turn).kept (w' := (wr.alloc ob).drew) (fun b _ hb => Below.heap_alloc _ _ _ hb) fun _ h _ => h)
        (hx.kept (w' := (wr.alloc ob).drew) (Q := fun b => b < n₀) (fun b _ hb => Below.heap_alloc _ _ _ hb) fun _ h _ => h)
        (HNI.out.lf.turn (M := fun _ => False) ((Turn.alloc _ wr ob).trans (Turn.drew _ _)) fun h => h))
      have HZL := Lib.hid hzl
      have hro := HNEG.out n2 X.args[k] hle
      clear hx hu' htr hur hrow hzl hxs
      rw [hxk] at c0 c1 c2' c3
      rw [hxk] at HNX HGR HFELL HIH2 hro
      clear hxk
      unfold ResOk at hro
      generalize resD bs d n2 x = ry at *
      obtain ⟨y, er, n3⟩ := ry
      dsimp only at hro HFELL HIH2
      unfold DWalk at HIH2
      unfold tmv at HIH2
      dsimp only at HIH2
      go_upto_region 12 with fail
      have hbx : (wr.alloc (.cells #[.int .i64 x.kind, .string x.name, .int .i64 x.n, .slice ad1 x.args.length cap1] 25)).cell? ⟨w.heap.size, 3, none⟩ = some (.slice (some ⟨g, 0, none⟩) X.args.length capc) :=
        (World.cell?_of_block (a := ⟨w.heap.size, 3, none⟩) (Below.heap_alloc wr _ _ (by show w.heap.size < wr.heap.size; omega))).trans d3
      have HX0 := Lib.hid (alloc_new wr (.cells #[.int .i64 x.kind, .string x.name, .int .i64 x.n, .slice ad1 x.args.length cap1] 25))
      have HW0 : Hid ((wr.alloc (.cells #[.int .i64 x.kind, .string x.name, .int .i64 x.n, .slice ad1 x.args.length cap1] 25)).heap.size = wr.heap.size + 1) := Lib.hid (World.size_alloc _ _)
      have HIH0 := Lib.hid (HIH2.out (.cells #[.int .i64 x.kind, .string x.name, .int .i64 x.n, .slice ad1 x.args.length cap1] 25))
      have HNX0 := Lib.hid (fun y n' => HNX.out y n' (.cells #[.int .i64 x.kind, .string x.name, .int .i64 x.n, .slice ad1 x.args.length cap1] 25))
      have HGR0 := Lib.hid (HGR.out (.cells #[.int .i64 x.kind, .string x.name, .int .i64 x.n, .slice ad1 x.args.length cap1] 25))
      have HTA : Hid (Turn (fun j => j = mb) w (wr.alloc (.cells #[.int .i64 x.kind, .string x.name, .int .i64 x.n, .slice ad1 x.args.length cap1] 25))) := Lib.hid (HNI.out.turn.trans (Turn.alloc _ _ _))
      have HRA : Hid ((wr.alloc (.cells #[.int .i64 x.kind, .string x.name, .int .i64 x.n, .slice ad1 x.args.length cap1] 25)).heap[w.heap.size + 1]? = some (.cells #[.int .i64 0, .string ⟨#[]⟩, .int .i64 0, .slice none 0 0] 25 (0, 0))) := Lib.hid ((Below.heap_alloc wr _ _ (by show w.heap.size + 1 < wr.heap.size; omega)).trans HNI.out.res)
      generalize wr.alloc (.cells #[.int .i64 x.kind, .string x.name, .int .i64 x.n, .slice ad1 x.args.length cap1] 25) = w0' at *
      obtain ⟨x0, x1, x2, x3, _⟩ := cellsT HX0.out
      have hS0 : w0'.drew.cell? ⟨w.heap.size, 3, none⟩ = some (.slice (some ⟨g, 0, none⟩) X.args.length capc) ∧ w0'.drew.cell? ⟨wr.heap.size, 0, none⟩ = some (.int .i64 x.kind) ∧ w0'.drew.cell? ⟨wr.heap.size, 1, none⟩ = some (.string x.name) ∧ w0'.drew.cell? ⟨wr.heap.size, 2, none⟩ = some (.int .i64 x.n) ∧ w0'.drew.cell? ⟨wr.heap.size, 3, none⟩ = some (.slice ad1 x.args.length cap1) := ⟨hbx, x0, x1, x2, x3⟩
      have HS1 : Hid (∀ W, Turn (fun j => j = mb) w0'.drew W → W.cell? ⟨w.heap.size, 3, none⟩ = some (.slice (some ⟨g, 0, none⟩) X.args.length capc) ∧ W.cell? ⟨wr.heap.size, 0, none⟩ = some (.int .i64 x.kind) ∧ W.cell? ⟨wr.heap.size, 1, none⟩ = some (.string x.name) ∧ W.cell? ⟨wr.heap.size, 2, none⟩ = some (.int .i64 x.n) ∧ W.cell? ⟨wr.heap.size, 3, none⟩ = some (.slice ad1 x.args.length cap1)) := Lib.hid (fun W t => by
        have h0 := HW0.out
        have k1 : ∀ b o : Nat, b < w0'.heap.size → b ≠ mb → W.cell? ⟨b, o, none⟩ = w0'.cell? ⟨b, o, none⟩ := fun b o h1 h2 => World.cell?_of_block (a := ⟨b, o, none⟩) (t.block b h1 h2)
        exact ⟨(k1 _ _ (by omega) (by omega)).trans hbx, (k1 _ _ (by omega) (by omega)).trans x0, (k1 _ _ (by omega) (by omega)).trans x1, (k1 _ _ (by omega) (by omega)).trans x2, (k1 _ _ (by omega) (by omega)).trans x3⟩)
      have HS3 : Hid (∀ (W : World) (a b c d' : Value), W.cell? ⟨w.heap.size, 3, none⟩ = some (.slice (some ⟨g, 0, none⟩) X.args.length capc) ∧ W.cell? ⟨wr.heap.size, 0, none⟩ = some (.int .i64 x.kind) ∧ W.cell? ⟨wr.heap.size, 1, none⟩ = some (.string x.name) ∧ W.cell? ⟨wr.heap.size, 2, none⟩ = some (.int .i64 x.n) ∧ W.cell? ⟨wr.heap.size, 3, none⟩ = some (.slice ad1 x.args.length cap1) → ((((W.setCell ⟨g, k * 4, none⟩ a).setCell ⟨g, k * 4 + 1, none⟩ b).setCell ⟨g, k * 4 + 2, none⟩ c).setCell ⟨g, k * 4 + 3, none⟩ d').cell? ⟨w.heap.size, 3, none⟩ = some (.slice (some ⟨g, 0, none⟩) X.args.length capc) ∧ ((((W.setCell ⟨g, k * 4, none⟩ a).setCell ⟨g, k * 4 + 1, none⟩ b).setCell ⟨g, k * 4 + 2, none⟩ c).setCell ⟨g, k * 4 + 3, none⟩ d').cell? ⟨wr.heap.size, 0, none⟩ = some (.int .i64 x.kind) ∧ ((((W.setCell ⟨g, k * 4, none⟩ a).setCell ⟨g, k * 4 + 1, none⟩ b).setCell ⟨g, k * 4 + 2, none⟩ c).setCell ⟨g, k * 4 + 3, none⟩ d').cell? ⟨wr.heap.size, 1, none⟩ = some (.string x.name) ∧ ((((W.setCell ⟨g, k * 4, none⟩ a).setCell ⟨g, k * 4 + 1, none⟩ b).setCell ⟨g, k * 4 + 2, none⟩ c).setCell ⟨g, k * 4 + 3, none⟩ d').cell? ⟨wr.heap.size, 2, none⟩ = some (.int .i64 x.n) ∧ ((((W.setCell ⟨g, k * 4, none⟩ a).setCell ⟨g, k * 4 + 1, none⟩ b).setCell ⟨g, k * 4 + 2, none⟩ c).setCell ⟨g, k * 4 + 3, none⟩ d').cell? ⟨wr.heap.size, 3, none⟩ = some (.slice ad1 x.args.length cap1)) := Lib.hid (fun W a b c d' h => by
        have k1 : ∀ b' o : Nat, b' ≠ g → ((((W.setCell ⟨g, k * 4, none⟩ a).setCell ⟨g, k * 4 + 1, none⟩ b).setCell ⟨g, k * 4 + 2, none⟩ c).setCell ⟨g, k * 4 + 3, none⟩ d').cell? ⟨b', o, none⟩ = W.cell? ⟨b', o, none⟩ := fun b' o h1 => World.cell?_of_block (a := ⟨b', o, none⟩) ((Below.heap_setCell _ _ _ _ (show b' ≠ g from h1)).trans ((Below.heap_setCell _ _ _ _ (show b' ≠ g from h1)).trans ((Below.heap_setCell _ _ _ _ (show b' ≠ g from h1)).trans (Below.heap_setCell _ _ _ _ (show b' ≠ g from h1)))))
        obtain ⟨h0, h1, h2, h3, h4⟩ := h
        exact ⟨(k1 _ _ (by omega)).trans h0, (k1 _ _ (by omega)).trans h1, (k1 _ _ (by omega)).trans h2, (k1 _ _ (by omega)).trans h3, (k1 _ _ (by omega)).trans h4⟩)
      have HFZ : Hid (∀ W, Turn (fun j => j = mb) w0' W → (∃ v, W.cell? ⟨g, k * 4, none⟩ = some v) ∧ (∃ v, W.cell? ⟨g, k * 4 + 1, none⟩ = some v) ∧ (∃ v, W.cell? ⟨g, k * 4 + 2, none⟩ = some v) ∧ (∃ v, W.cell? ⟨g, k * 4 + 3, none⟩ = some v) ∧ ∀ j, W.frozen? ⟨g, j, none⟩ = false) := Lib.hid (fun W t => by
        have h := HGR0.out W t
        obtain ⟨z0, z1, z2, z3⟩ := row_cells h HZL.out
        exact ⟨⟨_, z0⟩, ⟨_, z1⟩, ⟨_, z2⟩, ⟨_, z3⟩, fun j => h.frozenAt j⟩)
      clear HIH2 HNX HGR hbx x0 x1 x2 x3 c0 c1 c2' c3 d0 d1 d2 d3 e0 e1 e2 e3
      have hwr1 : IntKind.i64.wrap (o + 1) = o + 1 := IntWalk.i64_in _ (by omega)
      go_region_held3 (fun W => W.cell? ⟨w.heap.size, 3, none⟩ = some (.slice (some ⟨g, 0, none⟩) X.args.length capc) ∧ W.cell? ⟨wr.heap.size, 0, none⟩ = some (.int .i64 x.kind) ∧ W.cell? ⟨wr.heap.size, 1, none⟩ = some (.string x.name) ∧ W.cell? ⟨wr.heap.size, 2, none⟩ = some (.int .i64 x.n) ∧ W.cell? ⟨wr.heap.size, 3, none⟩ = some (.slice ad1 x.args.length cap1))
        (first | with_reducible exact HS3.out _ _ _ _ _ s4 | with_reducible exact s4 | with_reducible exact hS0)
        (first
          | (go_at_call 21; (with_reducible refine HIH0.out.mono ?_); rintro e w4 ⟨ad2, cap2, rfl, hx4, hl4, ht4⟩; have s4 := HS1.out _ ht4; have t4 : Turn (fun j => j = mb) w0' w4 := (Turn.drew _ w0').trans ht4; obtain ⟨⟨z0, y0⟩, ⟨z1, y1⟩, ⟨z2, y2⟩, ⟨z3, y3⟩, yf⟩ := HFZ.out _ t4; have f0 := yf (k * 4); have f1 := yf (k * 4 + 1); have f2 := yf (k * 4 + 2); have f3 := yf (k * 4 + 3)))
      clear hwr1
      by_cases her : er = 0
      · have hd1 : (er != 0) = false := by rw [her]; rfl
        have hn3 : n3 ≤ 2000 := by
          rcases hro with ⟨_, _, _, _, h⟩ | ⟨h, _⟩
          · exact h
          · exact absurd her h
        go_wp2_with fail
        go_roundw
        case rel => exact ⟨k + 1, n3, ys ++ [y], by omega, by go_num, Lib.hid (HNX0.out y n3 w4 ad2 cap2 (by rw [her]) hn3 t4 hl4 hx4)⟩
        case measure => simp [intOf]; omega
      · have hd1 : (er != 0) = true := bne_iff_ne.2 her
        have HR : Hid (r = (zeroT, er, n3)) := Lib.hid (by
          have h := HFELL.out her
          have hb := HBAD.out
          rw [h] at hb
          exact hb her)
        have hsz4 := t4.size
        have HT5 := Lib.hid (((HTA.out.trans t4).more (M' := fun j => j = mb ∨ w.heap.size ≤ j) fun j e => .inl e).trans (turn_row4 (M := fun j => j = mb ∨ w.heap.size ≤ j) (W := w4) (q := g) (i := k * 4) (.inr (by omega)) (.int .i64 y.kind) (.string y.name) (.int .i64 y.n) (.slice ad2 y.args.length cap2)))
        have HL5 := Lib.hid (hl4.turn (turn_row4 (M := fun j => j = g) (W := w4) (q := g) (i := k * 4) rfl (.int .i64 y.kind) (.string y.name) (.int .i64 y.n) (.slice ad2 y.args.length cap2)) (by omega))
        have hg5 := ((turn_row4 (M := fun j => j = g) (W := w4) (q := g) (i := k * 4) rfl (.int .i64 y.kind) (.string y.name) (.int .i64 y.n) (.slice ad2 y.args.length cap2)).block (w.heap.size + 1) (by have := HW0.out; omega) (by omega)).trans ((t4.block (w.heap.size + 1) (by have := HW0.out; omega) (by omega)).trans HRA.out)
        clear z0 y0 z1 y1 z2 y2 z3 y3 yf f0 f1 f2 f3 s4 hS0
        generalize (((w4.setCell _ _).setCell _ _).setCell _ _).setCell _ _ = w5' at *
        have HF := Lib.hid (dwalk_err (P := fun b => w.heap.size ≤ b) (er := er) (n := n3) hmb HT5.out HL5.out)
        have G4 := Lib.hid (set4_blk hg5 (.int .i64 0) (.string ⟨#[]⟩) (.int .i64 0) (.slice none 0 0))
        obtain ⟨z0, z1, z2, z3, e0, e1, e2, e3⟩ := cellsT hg5
        clear hg5 hro her
        go_wp2_with fail
        obtain ⟨y0, y1, y2, y3, _⟩ := cellsT G4.out
        refine bodyPost_ret (v := .tuple #[.agg #[.int .i64 0, .string ⟨#[]⟩, .int .i64 0, .slice none 0 0], .int .i64 er]) (by simp [results, Tryd.results21, go_sem, y0, y1, y2, y3]) rfl ?_
        rw [HR.out]
        exact HF.out
    · obtain rfl : k = X.args.length := by omega
      obtain ⟨hr0, ha⟩ := HNI.out.done HAD.out
      have HR : Hid (r = (.mk X.kind X.name X.n ys, 0, n2)) := Lib.hid (by
        have h := HGOOD.out
        rw [hr0] at h
        exact h rfl)
      have HYL := Lib.hid HNI.out.yl
      have hwrs := HNI.out.turn.size
      have HT5 := Lib.hid ((HNI.out.turn.more (M' := fun j => j = mb ∨ w.heap.size ≤ j) fun j e => .inl e).trans (Turn.set4 (M := fun j => j = mb ∨ w.heap.size ≤ j) (W := wr) (q := w.heap.size + 1) (.inr (Nat.le_succ _)) (.int .i64 X.kind) (.string X.name) (.int .i64 X.n) (.slice adc X.args.length capc)))
      have HTO : Hid (Turn (fun j => j = mb) w ((((wr.setCell ⟨w.heap.size + 1, 0, none⟩ (.int .i64 X.kind)).setCell ⟨w.heap.size + 1, 1, none⟩ (.string X.name)).setCell ⟨w.heap.size + 1, 2, none⟩ (.int .i64 X.n)).setCell ⟨w.heap.size + 1, 3, none⟩ (.slice adc X.args.length capc))) := Lib.hid ⟨HT5.out.os, HT5.out.tape, HT5.out.output, HT5.out.size, fun j hj hne => HT5.out.block j hj (by omega)⟩
      have HL5 := Lib.hid (HNI.out.lf.turn (Turn.set4 (M := fun j => j = w.heap.size + 1) (W := wr) (q := w.heap.size + 1) rfl (.int .i64 X.kind) (.string X.name) (.int .i64 X.n) (.slice adc X.args.length capc)) (by omega))
      have HA5 : Hid (TArgsP ((((wr.setCell ⟨w.heap.size + 1, 0, none⟩ (.int .i64 X.kind)).setCell ⟨w.heap.size + 1, 1, none⟩ (.string X.name)).setCell ⟨w.heap.size + 1, 2, none⟩ (.int .i64 X.n)).setCell ⟨w.heap.size + 1, 3, none⟩ (.slice adc X.args.length capc)) (fun b => w.heap.size ≤ b) adc ys) :=
        Lib.hid (ha.kept (fun b hb _ => set4_oth (W := wr) (q := w.heap.size + 1) _ _ _ _ (by omega)) fun b hb _ => by omega)
      have G4 := Lib.hid (set4_blk HNI.out.res (.int .i64 X.kind) (.string X.name) (.int .i64 X.n) (.slice adc X.args.length capc))
      obtain ⟨z0, z1, z2, z3, f0, f1, f2, f3⟩ := cellsT HNI.out.res
      clear ha hr0
      go_wp2_with fail
      obtain ⟨y0, y1, y2, y3, _⟩ := cellsT G4.out
      refine bodyPost_ret (v := .tuple #[.agg #[.int .i64 X.kind, .string X.name, .int .i64 X.n, .slice adc X.args.length capc], .int .i64 0]) (by simp [results, Tryd.results21, go_sem, y0, y1, y2, y3]) rfl ?_
      rw [HR.out]
      refine ⟨adc, capc, ?_, ⟨HX3.out.kind, HX3.out.n, HX3.out.name, ?_, HC2.out, HA5.out⟩, HL5.out, HTO.out⟩
      · show _ = Ending.returned (.tuple #[.agg #[.int .i64 X.kind, .string X.name, .int .i64 X.n, .slice adc ys.length capc], .int .i64 0])
        rw [HYL.out]
      · show ys.length ≤ capc
        rw [HYL.out]; exact h1c

/-- Package subst's own resolve of a term that may have d levels. -/
theorem dv_resolve (bs : List (Int × Tm)) (ab : Option Addr) (cb mb n₀ : Nat) (hlen : bs.length ≤ 1000000) (hsz : ∀ b ∈ bs, b.2.size ≤ 1000000) (hn0 : n₀ ≤ mb) : ∀ (d : Nat) (o : Int), o + (d : Nat) = 60 → d ≤ 60 → ∀ (n : Nat) (t : Tm) (ad : Option Addr) (cap : Nat) (w : World), n ≤ 2000 → t.size ≤ 1000000 →
    BdsAt w (fun b => b < n₀) ab bs → TmP w (fun b => b < n₀) t ad cap → LfAt w mb (2000 - n) →
    Calls Tryd.prog 21 #[.slice ab bs.length cb, tmv t ad cap, .int .i64 o, .pointer (some ⟨mb, 0, none⟩)] w (DWalk (fun b => w.heap.size ≤ b) mb w (resD bs d n t))
  | 0, o, ho, _, n, t, ad, cap, w, hn, hts, hb, ht, hm => by
    obtain rfl : o = 60 := by omega
    unfold resD
    by_cases h : n < 2000
    · rw [if_pos h]; exact dv_res_deep ab bs.length cb mb n t ad cap w h hm
    · rw [if_neg h]
      obtain rfl : n = 2000 := by omega
      exact dv_res_spent ab bs.length cb mb 60 t ad cap w hm
  | d + 1, o, ho, hd, n, t, ad, cap, w, hn, hts, hb, ht, hm => by
    by_cases h : n < 2000
    · have hmt : meetL bs n t = walkL bs (n + 1) t := if_pos h
      have hout := meet_out bs n t hn
      have hXs : (walkL bs (n + 1) t).1.size ≤ 1000000 := walkK_size hsz _ _ t hts
      rw [hmt] at hout
      unfold resD
      rw [hmt]
      generalize hw : walkL bs (n + 1) t = m at *
      obtain ⟨X, er, n1⟩ := m
      dsimp only at *
      rcases hout with ⟨rfl, _, _, h4⟩ | ⟨rfl, rfl, rfl⟩
      · rw [if_neg (by nofun)]
        refine dv_res_go bs ab cb mb n₀ d n n1 o t X ad cap w _ hlen hn0 h ho (by omega) hXs (fun n t ad cap W h1 h2 h3 h4 h5 => dv_resolve bs ab cb mb n₀ hlen hsz hn0 d (o + 1) (by omega) (by omega) n t ad cap W h1 h2 h3 h4 h5) hb ht hm hw h4 (fun hg => ?_) fun hbad => ?_
        · rw [if_neg (by rw [hg]; nofun)]
        · rw [if_pos hbad]
      · rw [if_pos (by nofun)]
        exact dv_res_bad bs ab cb mb n₀ n o t ad cap w hlen hn0 h ⟨by omega, by omega⟩ hb ht hm hw
    · obtain rfl : n = 2000 := by omega
      exact dv_res_spent ab bs.length cb mb o t ad cap w hm

set_option maxRecDepth 100000 in
set_option maxHeartbeats 4000000 in
theorem sb_Resolve (bs : List (Int × Tm)) (ab : Option Addr) (cb : Nat) (t : Tm) (ad : Option Addr) (cap : Nat) (w : World) (hlen : bs.length ≤ 1000000) (_hl : bs.length ≤ cb) (_hc : cb ≤ maxLen) (hsz : ∀ b ∈ bs, b.2.size ≤ 1000000) (hb : BdsAt w (fun b => b < w.heap.size) ab bs) (hts : t.size ≤ 1000000) (ht : TmIn w t ad cap) :
    Calls Tryd.prog 10 #[.slice ab bs.length cb, tmv t ad cap] w fun e w' => ∃ a2 c2, e = .returned (.tuple #[tmv (resD bs 60 0 t).1 a2 c2, .int .i64 (resD bs 60 0 t).2.1]) ∧ TmIn w' (resD bs 60 0 t).1 a2 c2 ∧ Below w.heap.size w w' := by
  have HW := Lib.hid (fun W (h : Below w.heap.size w W) (hm : LfAt W (w.heap.size + 2) (2000 - 0)) => dv_resolve bs ab cb (w.heap.size + 2) w.heap.size hlen hsz (by omega) 60 0 (by omega) (Nat.le_refl _) 0 t ad cap W (Nat.zero_le _) hts (hb.kept (fun b hb' _ => h.block b hb') fun _ h _ => h) (ht.inP.kept (fun b hb' _ => h.block b hb') fun _ h _ => h) hm)
  clear hb ht hts hsz
  generalize resD bs 60 0 t = r at *
  obtain ⟨X, er, n⟩ := r
  dsimp only at *
  unfold DWalk at HW
  unfold tmv at *
  have HB0 := Lib.hid ((((Below.refl w.heap.size w).alloc (Nat.le_refl _) (.cells #[.int .i64 t.kind, .string t.name, .int .i64 t.n, .slice ad t.args.length cap] 25)).alloc (by simp) (.cells #[.int .i64 0, .string ⟨#[]⟩, .int .i64 0, .slice none 0 0] 25)).alloc (by simp; omega) (.cells #[.int .i64 2000] 3))
  have HA := Lib.hid (stayB3 w (.cells #[.int .i64 t.kind, .string t.name, .int .i64 t.n, .slice ad t.args.length cap] 25) (.cells #[.int .i64 0, .string ⟨#[]⟩, .int .i64 0, .slice none 0 0] 25) (.cells #[.int .i64 2000] 3))
  go_enter Tryd.func10, Tryd.ntmps10
  go_wp2_with fail
  generalize ((w.alloc _).alloc _).alloc _ = w0 at *
  obtain ⟨hq0, hq1, hq2⟩ := HA.out
  refine (HW.out _ HB0.out hq2).mono ?_; rintro e w1 ⟨a2, c2, rfl, hx, _, ht1⟩
  have hz := (Array.getElem?_eq_some_iff.1 hq2).1
  have g1 := (ht1.block (w.heap.size + 1) (by omega) (by omega)).trans hq1
  have hb1 := below_turn HB0.out ht1 (fun j e => by omega) HB0.out.size
  have HR := Lib.hid (laid_result (w0 := w1) (w2 := w1) (q := w.heap.size + 1) hx hb1 (Below.refl _ _) (by omega) (by omega) (.int .i64 X.kind) (.string X.name) (.int .i64 X.n) (.slice a2 X.args.length c2))
  have G4 := Lib.hid (set4_blk g1 (.int .i64 X.kind) (.string X.name) (.int .i64 X.n) (.slice a2 X.args.length c2))
  obtain ⟨z0, z1, z2, z3, e0, e1, e2, e3⟩ := cellsT g1
  clear hx ht1 hb1 g1 hq0 hq1 hq2 HA HW
  go_wp2_with fail
  obtain ⟨y0, y1, y2, y3, _⟩ := cellsT G4.out
  refine bodyPost_ret (v := .tuple #[tmv X a2 c2, .int .i64 er]) (by simp [results, Tryd.results10, go_sem, tmv, y0, y1, y2, y3]) rfl ?_
  exact ⟨a2, c2, rfl, HR.out.1, HR.out.2⟩
end Go.Proofs.YtjgjeafjnaodkaaDoor
