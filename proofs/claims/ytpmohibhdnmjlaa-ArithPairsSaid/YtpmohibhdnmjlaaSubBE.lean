/-
  Joined texts: SubB, SubC, SubD, SubE.
-/
import Derived.Test.YtpmohibhdnmjlaaSubA
import Derived.Deep.DeepCutAuto

/-
  The contracts of the document's own Look, spend and Walk for subst.
-/
namespace Go.Proofs.Ytpmohibhdnmjlaa
open Go.RowKit

set_option maxRecDepth 100000 in
set_option maxHeartbeats 4000000 in
theorem r9_Look (bs : List (Int × Tm)) (v : Int) (ad : Option Addr) (cap : Nat) (w : World) (P : Nat → Prop) (hlen : bs.length ≤ 1000000) (h : BdsAt w P ad bs) :
    Calls Try.prog 52 #[.slice ad bs.length cap, .int .i64 v] w fun e w' => ∃ a2 c2, e = .returned (.tuple #[tmv ((lookL bs v).getD zeroT) a2 c2, .bool (lookL bs v).isSome]) ∧ TmP w' P ((lookL bs v).getD zeroT) a2 c2 ∧ Below w.heap.size w w' := by
  have H := Lib.hid h
  clear h
  obtain ⟨E, hE⟩ : ∃ E, lookL bs v = E := ⟨_, rfl⟩
  rw [hE]
  have HE := Lib.hid hE
  clear hE
  have HB0 := Lib.hid (fun o : Obj => (Below.refl w.heap.size w).alloc (Nat.le_refl _) o)
  have q1 := Lib.hid (alloc_new w (.cells #[.int .i64 0, .string ⟨#[]⟩, .int .i64 0, .slice none 0 0] 25))
  go_enter Try.func52, Try.ntmps52
  go_wp2_with fail
  go_loop [6] (fun iv => ∃ k : Nat, k ≤ bs.length ∧ iv = .int .i64 ((k : Int) - 1) ∧ Hid (∀ j (hj : j < bs.length), k ≤ j → bs[j].1 ≠ v)) (fun iv => (intOf iv + 1).toNat)
  case atStart => exact ⟨bs.length, Nat.le_refl _, by go_num, Lib.hid fun j hj hk => by omega⟩
  case round =>
    obtain ⟨k, hk, rfl, HN⟩ := hrel
    cases k with
    | zero =>
      have HM := Lib.hid (show E = none by rw [← HE.out]; exact lookL_none fun b hb => by obtain ⟨j, hj, rfl⟩ := List.mem_iff_getElem.1 hb; exact HN.out j hj (Nat.zero_le _))
      clear HN
      go_wp2_with fail
      obtain ⟨y0, y1, y2, y3, _⟩ := cellsT q1.out
      refine bodyPost_ret (v := .tuple #[.agg #[.int .i64 0, .string ⟨#[]⟩, .int .i64 0, .slice none 0 0], .bool false]) (by simp [results, Try.results52, go_sem, y0, y1, y2, y3]) rfl ?_
      rw [HM.out]
      exact ⟨none, 0, rfl, zero_tmS, HB0.out _⟩
    | succ k =>
      obtain ⟨b, o, a1, c1, rfl, hPb, hi64, hp, x0, x1, x2, x3, x4⟩ := H.out k (by omega)
      have hb0 := HB0.out (.cells #[.int .i64 0, .string ⟨#[]⟩, .int .i64 0, .slice none 0 0] 25)
      have hbl : b < w.heap.size := World.block_lt_of_cell? w ⟨b, o + k * 5, none⟩ x0
      have kb : ∀ i, (w.alloc (.cells #[.int .i64 0, .string ⟨#[]⟩, .int .i64 0, .slice none 0 0] 25)).cell? ⟨b, i, none⟩ = w.cell? ⟨b, i, none⟩ := fun i => hb0.cell (p := ⟨b, i, none⟩) hbl
      have x0 := (kb _).trans x0
      have x1 := (kb _).trans x1
      have x2 := (kb _).trans x2
      have x3 := (kb _).trans x3
      have x4 := (kb _).trans x4
      have HP := Lib.hid hp
      have HAT := Lib.hid (fun (e : (bs[k]'(by omega)).1 = v) => lookL_drop (bs := bs) (v := v) k (by omega) e fun j hj hkj => HN.out j hj (by omega))
      have HNX : Hid (bs[k].1 ≠ v → ∀ j (hj : j < bs.length), k ≤ j → bs[j].1 ≠ v) := Lib.hid (fun hf j hj hkj => by
        by_cases e : k = j
        · subst e; exact hf
        · exact HN.out j hj (by omega))
      have hk0 : (0 : Int) ≤ (k : Int) := by omega
      have hk1 : (k : Int) < (bs.length : Int) := by omega
      rw [show (((k + 1 : Nat) : Int) - 1) = (k : Int) by omega]
      clear hb0 kb hp HN
      generalize bs[k] = B at *
      obtain ⟨n, t⟩ := B
      dsimp only at *
      cases hx : (n == v) with
      | true =>
        have HM : Hid (E = some t) := Lib.hid (HE.out.symm.trans (HAT.out (by simpa using hx)))
        obtain ⟨z0, z1, z2, z3, f0, f1, f2, f3⟩ := cellsT q1.out
        go_wp2_with fail
        refine bodyPost_ret (v := .tuple #[tmv t a1 c1, .bool true]) (by simp [results, Try.results52, go_sem, tmv]) rfl ?_
        rw [HM.out]
        exact ⟨a1, c1, rfl, HP.out.kept (fun b _ hl => (HB0.out _).block b hl) fun _ h _ => h, HB0.out _⟩
      | false =>
        have HN := Lib.hid (HNX.out (by simpa using hx))
        go_wp2_with fail
        go_round
        case rel => exact ⟨k, by omega, by go_num, HN⟩
        case measure => simp [intOf]

/-- A meter in memory. -/
def MtAt (w : World) (mb n : Nat) : Prop := w.heap[mb]? = some (.cells #[.int .i64 (n : Nat)] 76 (0, 0))
theorem MtAt.lt {w : World} {mb n : Nat} (h : MtAt w mb n) : mb < w.heap.size := (Array.getElem?_eq_some_iff.1 h).1

set_option maxRecDepth 100000 in
set_option maxHeartbeats 2000000 in
theorem r9_spend (mb n : Nat) (w : World) (hn : n ≤ 5000) (h : MtAt w mb n) :
    Calls Try.prog 53 #[.pointer (some ⟨mb, 0, none⟩)] w fun e w' => e = .returned (.bool (decide (n < 2000))) ∧ MtAt w' mb (n + 1) ∧ Turn (fun j => j = mb) w w' ∧ w'.heap.size = w.heap.size := by
  have hm := h
  unfold MtAt at hm
  have c0 : w.cell? ⟨mb, 0, none⟩ = some (.int .i64 (n : Nat)) := by simp [World.cell?, hm]
  have f0 : w.frozen? ⟨mb, 0, none⟩ = false := by simp [World.frozen?, hm]
  have g0 := Lib.heap_setCell_same (i := 0) hm (.int .i64 ((n : Int) + 1))
  have HM : Hid (MtAt (w.setCell ⟨mb, 0, none⟩ (.int .i64 ((n : Int) + 1))) mb (n + 1)) := Lib.hid (by unfold MtAt; simpa using g0)
  have HT := Lib.hid (Turn.set (fun j => j = mb) w (p := ⟨mb, 0, none⟩) rfl (.int .i64 ((n : Int) + 1)))
  have HZ : Hid ((w.setCell ⟨mb, 0, none⟩ (.int .i64 ((n : Int) + 1))).heap.size = w.heap.size) := Lib.hid (by simp [World.setCell])
  clear h hm g0
  by_cases hlt : n < 2000
  · rw [show decide (n < 2000) = true from decide_eq_true hlt]
    have h2 : decide ((n : Int) + 1 ≤ 2000) = true := decide_eq_true (by omega)
    go_enter Try.func53, Try.ntmps53
    go_wp2_with fail
    go_ret
    exact ⟨rfl, HM.out, HT.out, HZ.out⟩
  · rw [show decide (n < 2000) = false from decide_eq_false hlt]
    have h2 : decide ((n : Int) + 1 ≤ 2000) = false := decide_eq_false (by omega)
    go_enter Try.func53, Try.ntmps53
    go_wp2_with fail
    go_ret
    exact ⟨rfl, HM.out, HT.out, HZ.out⟩
end Go.Proofs.Ytpmohibhdnmjlaa

/-
  The contracts of the document's own Walk for subst.
-/
namespace Go.Proofs.Ytpmohibhdnmjlaa
open Go.RowKit

/-- What a walk leaves: its answer, how many steps there were, all else as it was. -/
def WalkOut (P : Nat → Prop) (mb : Nat) (w : World) (r : Tm × Int × Nat) (e : Ending) (w' : World) : Prop :=
  ∃ a2 c2, e = .returned (.tuple #[tmv r.1 a2 c2, .int .i64 r.2.1]) ∧ TmP w' P r.1 a2 c2 ∧ MtAt w' mb r.2.2 ∧ Turn (fun j => j = mb) w w'
/-- How many steps a meter counts. -/
def mtOf (w : World) (mb : Nat) : Nat := match w.cell? ⟨mb, 0, none⟩ with | some (.int _ n) => n.toNat | _ => 0
theorem mtOf_at {w : World} {mb n : Nat} (h : MtAt w mb n) : mtOf w mb = n := by
  unfold MtAt at h
  have c0 : w.cell? ⟨mb, 0, none⟩ = some (.int .i64 (n : Nat)) := by simp [World.cell?, h]
  unfold mtOf
  rw [c0]
  exact Int.toNat_natCast n
theorem MtAt.on {w w' : World} {mb n : Nat} (h : MtAt w mb n) (hb : Below w.heap.size w w') : MtAt w' mb n := (hb.block mb h.lt).trans h
theorem turn_own {M : Nat → Prop} {w W W' : World} (h : Turn (fun j => M j ∨ w.heap.size ≤ j) w W) (k : Turn (fun j => w.heap.size ≤ j) W W') : Turn M w W' :=
  ⟨k.os.trans h.os, k.tape.trans h.tape, k.output.trans h.output, Nat.le_trans h.size k.size, fun j hj hn => (k.block j (Nat.lt_of_lt_of_le hj h.size) (Nat.not_le.2 hj)).trans (h.block j hj fun e => e.elim hn (Nat.not_le.2 hj))⟩
theorem Turn.set4 {M : Nat → Prop} {W : World} {q : Nat} (hq : M q) (x y z u : Value) : Turn M W ((((W.setCell ⟨q, 0, none⟩ x).setCell ⟨q, 1, none⟩ y).setCell ⟨q, 2, none⟩ z).setCell ⟨q, 3, none⟩ u) :=
  (((Turn.set M W (p := ⟨q, 0, none⟩) hq x).trans (Turn.set M _ (p := ⟨q, 1, none⟩) hq y)).trans (Turn.set M _ (p := ⟨q, 2, none⟩) hq z)).trans (Turn.set M _ (p := ⟨q, 3, none⟩) hq u)
theorem MtAt.turn {M : Nat → Prop} {w w' : World} {mb n : Nat} (h : MtAt w mb n) (ht : Turn M w w') (hM : ¬ M mb) : MtAt w' mb n := (ht.block mb h.lt hM).trans h
theorem walk_fin {P : Nat → Prop} {mb n : Nat} {w W : World} {t : Tm} {ad : Option Addr} {cap : Nat} (hm : mb < w.heap.size) (hP : ∀ b, P b → b < w.heap.size ∧ b ≠ mb) (ht : Turn (fun j => j = mb ∨ w.heap.size ≤ j) w W) (hmt : MtAt W mb n) (hp : TmP W P t ad cap) :
    WalkOut P mb w (t, 0, n) (.returned (.tuple #[tmv t ad cap, .int .i64 0])) ((((W.setCell ⟨w.heap.size + 1, 0, none⟩ (.int .i64 t.kind)).setCell ⟨w.heap.size + 1, 1, none⟩ (.string t.name)).setCell ⟨w.heap.size + 1, 2, none⟩ (.int .i64 t.n)).setCell ⟨w.heap.size + 1, 3, none⟩ (.slice ad t.args.length cap)) :=
  have k := Turn.set4 (M := fun j => w.heap.size ≤ j) (W := W) (q := w.heap.size + 1) (Nat.le_succ _) (.int .i64 t.kind) (.string t.name) (.int .i64 t.n) (.slice ad t.args.length cap)
  ⟨ad, cap, rfl, hp.turnS k fun b hb => Nat.not_le.2 (hP b hb).1, hmt.turn k (Nat.not_le.2 hm), turn_own ht k⟩
theorem walk_err {P : Nat → Prop} {mb n : Nat} {er : Int} {w W : World} (hm : mb < w.heap.size) (ht : Turn (fun j => j = mb ∨ w.heap.size ≤ j) w W) (hmt : MtAt W mb n) :
    WalkOut P mb w (zeroT, er, n) (.returned (.tuple #[.agg #[.int .i64 0, .string ⟨#[]⟩, .int .i64 0, .slice none 0 0], .int .i64 er])) ((((W.setCell ⟨w.heap.size + 1, 0, none⟩ (.int .i64 0)).setCell ⟨w.heap.size + 1, 1, none⟩ (.string ⟨#[]⟩)).setCell ⟨w.heap.size + 1, 2, none⟩ (.int .i64 0)).setCell ⟨w.heap.size + 1, 3, none⟩ (.slice none 0 0)) :=
  have k := Turn.set4 (M := fun j => w.heap.size ≤ j) (W := W) (q := w.heap.size + 1) (Nat.le_succ _) (.int .i64 0) (.string ⟨#[]⟩) (.int .i64 0) (.slice none 0 0)
  ⟨none, 0, rfl, zero_tmS, hmt.turn k (Nat.not_le.2 hm), turn_own ht k⟩
theorem keptR9 {w w1 : World} {q : Nat} {o : Obj} (hb : Below w.heap.size w w1) (hq : w.heap[q]? = some o) : w1.heap[q]? = some o := (hb.block q (Array.getElem?_eq_some_iff.1 hq).1).trans hq
/-- Within the walk: the term's own box, the meter, what is still to walk. -/
structure WlkI (bs : List (Int × Tm)) (P : Nat → Prop) (mb : Nat) (w : World) (r : Tm × Int × Nat) (n : Nat) (t : Tm) (W : World) : Prop where
  le : n ≤ 2000
  ans : walkL bs n t = r
  mt : MtAt W mb n
  box : ∃ ad cap, W.heap[w.heap.size]? = some (.cells #[.int .i64 t.kind, .string t.name, .int .i64 t.n, .slice ad t.args.length cap] 25 (0, 0)) ∧ TmP W P t ad cap
  res : W.heap[w.heap.size + 1]? = some (.cells #[.int .i64 0, .string ⟨#[]⟩, .int .i64 0, .slice none 0 0] 25 (0, 0))
  turn : Turn (fun j => j = mb ∨ w.heap.size ≤ j) w W
theorem WlkI.on {bs : List (Int × Tm)} {P : Nat → Prop} {mb : Nat} {w : World} {r : Tm × Int × Nat} {n : Nat} {t : Tm} {W W' : World} (h : WlkI bs P mb w r n t W) (hb : Below W.heap.size W W') : WlkI bs P mb w r n t W' := by
  obtain ⟨ad, cap, h1, h2⟩ := h.box
  exact ⟨h.le, h.ans, h.mt.on hb, ⟨ad, cap, keptR9 hb h1, h2.onS hb⟩, keptR9 hb h.res, ⟨hb.os.trans h.turn.os, hb.tape.trans h.turn.tape, hb.output.trans h.turn.output, Nat.le_trans h.turn.size hb.size, fun k hk hn => (hb.block k (Nat.lt_of_lt_of_le hk h.turn.size)).trans (h.turn.block k hk hn)⟩⟩
/-- One binding followed. -/
theorem WlkI.step {bs : List (Int × Tm)} {P : Nat → Prop} {mb : Nat} {w : World} {r : Tm × Int × Nat} {n : Nat} {t x : Tm} {W W3 : World} {xa : Option Addr} {xc : Nat} (h : WlkI bs P mb w r n t W) (hm : mb < w.heap.size) (hP : ∀ b, P b → b < w.heap.size ∧ b ≠ mb) (hn : n < 2000) (hk : t.kind = 1) (hl : lookL bs t.n = some x)
    (hx : TmP W P x xa xc) (h3 : Turn (fun j => j = mb) W W3) (hm3 : MtAt W3 mb (n + 1)) : WlkI bs P mb w r (n + 1) x ((((W3.setCell ⟨w.heap.size, 0, none⟩ (.int .i64 x.kind)).setCell ⟨w.heap.size, 1, none⟩ (.string x.name)).setCell ⟨w.heap.size, 2, none⟩ (.int .i64 x.n)).setCell ⟨w.heap.size, 3, none⟩ (.slice xa x.args.length xc)) := by
  obtain ⟨ad, cap, h1, _⟩ := h.box
  have h1l := (Array.getElem?_eq_some_iff.1 h1).1
  have h2l := (Array.getElem?_eq_some_iff.1 h.res).1
  have k := Turn.set4 (M := fun j => j = w.heap.size) (W := W3) (q := w.heap.size) rfl (.int .i64 x.kind) (.string x.name) (.int .i64 x.n) (.slice xa x.args.length xc)
  refine ⟨hn, (walk_step hn hk hl).symm.trans h.ans, hm3.turn k (by omega), ⟨xa, xc, set4_blk ((h3.block _ h1l (by omega)).trans h1) _ _ _ _, (hx.turnS h3 fun b hb => (hP b hb).2).turnS k fun b hb => by have := (hP b hb).1; omega⟩, (k.block _ (Nat.lt_of_lt_of_le h2l h3.size) (by omega)).trans ((h3.block _ h2l (by omega)).trans h.res), ?_⟩
  exact (h.turn.trans (h3.more fun j e => .inl e)).trans (k.more fun j e => .inr (by omega))

set_option maxRecDepth 100000 in
set_option maxHeartbeats 4000000 in
theorem r9_walk (bs : List (Int × Tm)) (ab : Option Addr) (cb mb n : Nat) (t : Tm) (ad : Option Addr) (cap : Nat) (w : World) (P : Nat → Prop) (hlen : bs.length ≤ 1000000) (hP : ∀ b, P b → b < w.heap.size ∧ b ≠ mb) (hb : BdsAt w P ab bs) (hm : MtAt w mb n) (hn : n ≤ 2000) (ht : TmP w P t ad cap) :
    Calls Try.prog 42 #[.pointer (some ⟨mb, 0, none⟩), .slice ab bs.length cb, tmv t ad cap] w (WalkOut P mb w (walkL bs n t)) := by
  obtain ⟨r, hr⟩ : ∃ r, walkL bs n t = r := ⟨_, rfl⟩
  rw [hr]
  have hml := hm.lt
  have HP := Lib.hid hP
  have HBD := Lib.hid hb
  have hI : WlkI bs P mb w r n t ((w.alloc (.cells #[.int .i64 t.kind, .string t.name, .int .i64 t.n, .slice ad t.args.length cap] 25)).alloc (.cells #[.int .i64 0, .string ⟨#[]⟩, .int .i64 0, .slice none 0 0] 25)) := by
    have hb1 : ∀ o1 o2 : Obj, Below w.heap.size w ((w.alloc o1).alloc o2) := fun o1 o2 => ((Below.refl _ w).alloc (Nat.le_refl _) o1).alloc (by simp) o2
    exact ⟨hn, hr, hm.on (hb1 _ _), ⟨ad, cap, (Below.heap_alloc (w.alloc _) _ _ (by simp)).trans (alloc_new w _), ht.onS (hb1 _ _)⟩, alloc_new2 w _ _, ⟨(hb1 _ _).os, (hb1 _ _).tape, (hb1 _ _).output, (hb1 _ _).size, fun k hk _ => (hb1 _ _).block k hk⟩⟩
  have HI := Lib.hid hI
  clear hI hm ht hr hb hP
  unfold tmv
  go_enter Try.func42, Try.ntmps42
  go_wp2_with fail
  go_loopw [] (fun wr => ∃ n t, WlkI bs P mb w r n t wr) (fun wr => 2001 - mtOf wr mb)
  case atStart => exact ⟨n, t, HI.out⟩
  case round =>
    obtain ⟨n, t, hi⟩ := hrel
    obtain ⟨ad, cap, hbx, hp⟩ := hi.box
    have hsz := hi.turn.size
    have hle := hi.le
    have hs2 := (Array.getElem?_eq_some_iff.1 hi.res).1
    have HIN := Lib.hid hi
    have HPT := Lib.hid hp
    have HBX := Lib.hid hbx
    have hML := hi.mt.lt
    clear hi hp hbx
    obtain ⟨c0, c1, c2, c3, f0, f1, f2, f3⟩ := cellsT HBX.out
    cases hk : (t.kind == 1) with
    | false =>
      have HR : Hid (r = (t, 0, n)) := Lib.hid (HIN.out.ans.symm.trans (walk_stop hle (.inl (by simpa using hk))))
      obtain ⟨z0, z1, z2, z3, e0, e1, e2, e3⟩ := cellsT HIN.out.res
      have HF := Lib.hid (walk_fin hml HP.out HIN.out.turn HIN.out.mt HPT.out)
      have g4 := set4_blk HIN.out.res (.int .i64 t.kind) (.string t.name) (.int .i64 t.n) (.slice ad t.args.length cap)
      have G4 := Lib.hid g4
      clear g4
      go_wp2_with fail
      obtain ⟨y0, y1, y2, y3, _⟩ := cellsT G4.out
      refine bodyPost_ret (v := .tuple #[tmv t ad cap, .int .i64 0]) (by simp [results, Try.results42, go_sem, tmv, y0, y1, y2, y3]) rfl ?_
      rw [HR.out]
      exact HF.out
    | true =>
      have HLK := Lib.hid (r9_Look bs t.n ab cb wr P hlen (HBD.out.turn HIN.out.turn fun b hb => by have := HP.out b hb; omega))
      obtain ⟨lk, hlk⟩ : ∃ lk, lookL bs t.n = lk := ⟨_, rfl⟩
      rw [hlk] at HLK
      cases lk with
      | none =>
        have HR : Hid (r = (t, 0, n)) := Lib.hid (HIN.out.ans.symm.trans (walk_stop hle (.inr hlk)))
        clear hlk
        unfold tmv at HLK
        go_wp2_with fail
        refine HLK.out.mono ?_; rintro e w1 ⟨xa, xc, rfl, hx, hb1⟩
        have hs1 := hb1.size
        go_upto_region 3 with fail
        have hb2 := hb1.trans (((Below.refl _ w1).alloc (Nat.le_refl _) (.cells #[.int .i64 zeroT.kind, .string zeroT.name, .int .i64 zeroT.n, .slice xa zeroT.args.length xc] 25)).mono hs1)
        generalize w1.alloc (.cells #[.int .i64 zeroT.kind, .string zeroT.name, .int .i64 zeroT.n, .slice xa zeroT.args.length xc] 25) = w2 at *
        have HI2 := Lib.hid (HIN.out.on hb2)
        have HF := Lib.hid (walk_fin hml HP.out HI2.out.turn HI2.out.mt (HPT.out.onS hb2))
        have g4 := set4_blk HI2.out.res (.int .i64 t.kind) (.string t.name) (.int .i64 t.n) (.slice ad t.args.length cap)
        have G4 := Lib.hid g4
        have hbx2 := keptR9 hb2 HBX.out
        clear g4 c0 c1 c2 c3 f0 f1 f2 f3 hx hb1 hb2
        obtain ⟨c0, c1, c2, c3, _⟩ := cellsT hbx2
        obtain ⟨z0, z1, z2, z3, e0, e1, e2, e3⟩ := cellsT HI2.out.res
        go_wp2_with fail
        obtain ⟨y0, y1, y2, y3, _⟩ := cellsT G4.out
        refine bodyPost_ret (v := .tuple #[tmv t ad cap, .int .i64 0]) (by simp [results, Try.results42, go_sem, tmv, y0, y1, y2, y3]) rfl ?_
        rw [HR.out]
        exact HF.out
      | some x =>
        have HST := Lib.hid (fun (hn : n < 2000) W W3 xa xc (h : WlkI bs P mb w r n t W) (hx : TmP W P x xa xc) h3 hm3 => WlkI.step (W3 := W3) (xa := xa) (xc := xc) h hml HP.out hn (by simpa using hk) hlk hx h3 hm3)
        have HRO : Hid (n = 2000 → r = (zeroT, 140, 2001)) := Lib.hid (fun e => by
          have h := HIN.out.ans
          rw [e, walk_over (by simpa using hk) hlk] at h
          exact h.symm)
        clear hlk
        unfold tmv at HLK
        dsimp only [Option.getD, Option.isSome] at HLK
        go_wp2_with fail
        refine HLK.out.mono ?_; rintro e w1 ⟨xa, xc, rfl, hx, hb1⟩
        have hs1 := hb1.size
        go_upto_region 4 with fail
        have hba := (Below.refl _ w1).alloc (Nat.le_refl _) (.cells #[.int .i64 x.kind, .string x.name, .int .i64 x.n, .slice xa x.args.length xc] 25)
        have hb2 := hb1.trans (hba.mono hs1)
        have hqx := alloc_new w1 (.cells #[.int .i64 x.kind, .string x.name, .int .i64 x.n, .slice xa x.args.length xc] 25)
        have hs2' : (w1.alloc (.cells #[.int .i64 x.kind, .string x.name, .int .i64 x.n, .slice xa x.args.length xc] 25)).heap.size = w1.heap.size + 1 := World.size_alloc _ _
        generalize w1.alloc (.cells #[.int .i64 x.kind, .string x.name, .int .i64 x.n, .slice xa x.args.length xc] 25) = w2 at *
        have HI2 := Lib.hid (HIN.out.on hb2)
        have HX2 := Lib.hid (hx.onS hba)
        have HQX := Lib.hid hqx
        have HSP := Lib.hid (r9_spend mb n w2 (by omega) HI2.out.mt)
        have hbx2 := Lib.hid (keptR9 hb2 HBX.out)
        clear c0 c1 c2 c3 f0 f1 f2 f3 hx hb1 hb2 hba hqx HLK
        go_wp2_with fail
        refine HSP.out.mono ?_; rintro e w3 ⟨rfl, hm3, ht3, hs3⟩
        have HM3 := Lib.hid hm3
        have HT3 := Lib.hid ht3
        obtain ⟨x0, x1, x2, x3, _⟩ := cellsT ((ht3.block w1.heap.size (by omega) (by omega)).trans HQX.out)
        obtain ⟨c0, c1, c2, c3, f0, f1, f2, f3⟩ := cellsT ((ht3.block w.heap.size (by omega) (by omega)).trans hbx2.out)
        clear hm3 ht3
        by_cases hn2 : n < 2000
        · have hd : decide (n < 2000) = true := decide_eq_true hn2
          have HN := Lib.hid (HST.out hn2 w2 w3 xa xc HI2.out HX2.out HT3.out HM3.out)
          have HMS := Lib.hid (mtOf_at HIN.out.mt)
          have HMT := Lib.hid (mtOf_at HN.out.mt)
          go_wp2_with fail
          go_roundw
          case rel => exact ⟨n + 1, x, HN.out⟩
          case measure => rw [HMS.out, HMT.out]; omega
        · have hd : decide (n < 2000) = false := decide_eq_false hn2
          have HR := Lib.hid (HRO.out (by omega))
          have HN9 : Hid (MtAt w3 mb 2001) := Lib.hid (by have h := HM3.out; rwa [show n + 1 = 2001 by omega] at h)
          have hres := (HT3.out.block (w.heap.size + 1) (by omega) (by omega)).trans HI2.out.res
          have HF := Lib.hid (walk_err (P := P) (er := 140) hml (HI2.out.turn.trans (HT3.out.more fun j e => .inl e)) HN9.out)
          have G4 := Lib.hid (set4_blk hres (.int .i64 0) (.string ⟨#[]⟩) (.int .i64 0) (.slice none 0 0))
          obtain ⟨z0, z1, z2, z3, e0, e1, e2, e3⟩ := cellsT hres
          clear hres
          go_wp2_with fail
          obtain ⟨y0, y1, y2, y3, _⟩ := cellsT G4.out
          refine bodyPost_ret (v := .tuple #[.agg #[.int .i64 0, .string ⟨#[]⟩, .int .i64 0, .slice none 0 0], .int .i64 140]) (by simp [results, Try.results42, go_sem, y0, y1, y2, y3]) rfl ?_
          rw [HR.out]
          exact HF.out
end Go.Proofs.Ytpmohibhdnmjlaa

/-
  The contracts of the document's own Walk and Fresh for subst, from outside.
-/
namespace Go.Proofs.Ytpmohibhdnmjlaa
open Go.RowKit

theorem below_turn {n : Nat} {M : Nat → Prop} {w W W' : World} (h : Below n w W) (k : Turn M W W') (hM : ∀ j, M j → n ≤ j) (hn : n ≤ W.heap.size) : Below n w W' := h.trans (k.below hM hn)

set_option maxRecDepth 100000 in
set_option maxHeartbeats 4000000 in
theorem r9_Walk (bs : List (Int × Tm)) (ab : Option Addr) (cb : Nat) (t : Tm) (ad : Option Addr) (cap : Nat) (w : World) (P : Nat → Prop) (hlen : bs.length ≤ 1000000) (hP : ∀ b, P b → b < w.heap.size) (hb : BdsAt w P ab bs) (ht : TmP w P t ad cap) :
    Calls Try.prog 34 #[.slice ab bs.length cb, tmv t ad cap] w fun e w' => ∃ a2 c2, e = .returned (.tuple #[tmv (walkL bs 0 t).1 a2 c2, .int .i64 (walkL bs 0 t).2.1]) ∧ TmP w' P (walkL bs 0 t).1 a2 c2 ∧ Below w.heap.size w w' := by
  have HP := Lib.hid hP
  have HB0 := Lib.hid (fun o1 o2 o3 : Obj => (((Below.refl w.heap.size w).alloc (Nat.le_refl _) o1).alloc (by simp) o2).alloc (by simp; omega) o3)
  have HBD := Lib.hid (fun W (h : Below w.heap.size w W) => hb.on h)
  have HT := Lib.hid (fun W (h : Below w.heap.size w W) => ht.onS h)
  clear hb ht hP
  obtain ⟨r, hr⟩ : ∃ r, walkL bs 0 t = r := ⟨_, rfl⟩
  rw [hr]
  have HR := Lib.hid hr
  clear hr
  unfold tmv
  go_enter Try.func34, Try.ntmps34
  go_wp2_with fail
  have hw0 := HB0.out (.cells #[.int .i64 t.kind, .string t.name, .int .i64 t.n, .slice ad t.args.length cap] 25) (.cells #[.int .i64 0, .string ⟨#[]⟩, .int .i64 0, .slice none 0 0] 25) (.cells #[.int .i64 0] 76)
  have hm0 := alloc_new ((w.alloc (.cells #[.int .i64 t.kind, .string t.name, .int .i64 t.n, .slice ad t.args.length cap] 25)).alloc (.cells #[.int .i64 0, .string ⟨#[]⟩, .int .i64 0, .slice none 0 0] 25)) (.cells #[.int .i64 0] 76)
  simp only [World.size_alloc] at hm0
  have hq0 := (Below.heap_alloc ((w.alloc (.cells #[.int .i64 t.kind, .string t.name, .int .i64 t.n, .slice ad t.args.length cap] 25)).alloc (.cells #[.int .i64 0, .string ⟨#[]⟩, .int .i64 0, .slice none 0 0] 25)) (.cells #[.int .i64 0] 76) (w.heap.size + 1) (by simp)).trans (alloc_new2 w (.cells #[.int .i64 t.kind, .string t.name, .int .i64 t.n, .slice ad t.args.length cap] 25) (.cells #[.int .i64 0, .string ⟨#[]⟩, .int .i64 0, .slice none 0 0] 25))
  generalize ((w.alloc _).alloc _).alloc _ = w0 at *
  have hz := (Array.getElem?_eq_some_iff.1 hm0).1
  have HW := Lib.hid (r9_walk bs ab cb (w.heap.size + 1 + 1) 0 t ad cap w0 P hlen (fun b hb => by have := HP.out b hb; omega) (HBD.out _ hw0) hm0 (Nat.zero_le _) (HT.out _ hw0))
  unfold tmv at HW
  rw [HR.out] at HW
  have HB := Lib.hid hw0
  have HQ := Lib.hid hq0
  clear hw0 hm0 hq0
  refine HW.out.mono ?_; rintro e w1 ⟨a2, c2, rfl, hp, _, htn⟩
  have hq1 := (htn.block (w.heap.size + 1) (by omega) (by omega)).trans HQ.out
  have HB1 := Lib.hid (below_turn HB.out htn (fun j e => by omega) HB.out.size)
  have HP1 := Lib.hid hp
  have HQ1 := Lib.hid hq1
  have HL := Lib.hid (set4_low (q := w.heap.size + 1) (x := .int .i64 r.1.kind) (y := .string r.1.name) (z := .int .i64 r.1.n) (u := .slice a2 r.1.args.length c2) HB1.out (Nat.le_succ _))
  have HO := Lib.hid (HP1.out.kept (Q := P) (fun b hb _ => set4_oth (W := w1) (q := w.heap.size + 1) (.int .i64 r.1.kind) (.string r.1.name) (.int .i64 r.1.n) (.slice a2 r.1.args.length c2) (by have := HP.out b hb; omega)) fun _ h _ => h)
  have G4 := Lib.hid (set4_blk hq1 (.int .i64 r.1.kind) (.string r.1.name) (.int .i64 r.1.n) (.slice a2 r.1.args.length c2))
  obtain ⟨z0, z1, z2, z3, e0, e1, e2, e3⟩ := cellsT hq1
  clear htn hp hq1
  unfold tmv
  go_wp2_with fail
  obtain ⟨y0, y1, y2, y3, _⟩ := cellsT G4.out
  refine bodyPost_ret (v := .tuple #[tmv r.1 a2 c2, .int .i64 r.2.1]) (by simp [results, Try.results34, go_sem, tmv, y0, y1, y2, y3]) rfl ?_
  exact ⟨a2, c2, rfl, HO.out, HL.out⟩

end Go.Proofs.Ytpmohibhdnmjlaa

/-
  The contract of the laws' helper big for subst.
-/
namespace Go.Proofs.Ytpmohibhdnmjlaa
open Go.RowKit

/-- Whether bindings and terms are too great to be played. -/
def bigB (bs : List (Int × Tm)) (ts : List Tm) : Bool := decide (100 < bs.length) || ((bs.any fun b => decide (300 < b.2.size)) || (ts.any fun t => decide (3000 < t.size)))
theorem bigB_no {bs : List (Int × Tm)} {ts : List Tm} (h : bigB bs ts = false) : bs.length ≤ 100 ∧ (∀ b ∈ bs, b.2.size ≤ 300) ∧ ∀ t ∈ ts, t.size ≤ 3000 := by
  unfold bigB at h
  rw [Bool.or_eq_false_iff, Bool.or_eq_false_iff] at h
  obtain ⟨h1, h2, h3⟩ := h
  refine ⟨by simpa using h1, fun b hb => ?_, fun t ht => ?_⟩
  · have := List.any_eq_false.1 h2 b hb; simpa using this
  · have := List.any_eq_false.1 h3 t ht; simpa using this
theorem any_snoc {α : Type} (p : α → Bool) (l : List α) (k : Nat) (hk : k < l.length) (h1 : (l.take k).any p = false) (h2 : p l[k] = false) : (l.take (k + 1)).any p = false := by
  rw [List.take_succ_eq_append_getElem hk, List.any_append, h1]; simp [h2]

end Go.Proofs.Ytpmohibhdnmjlaa
