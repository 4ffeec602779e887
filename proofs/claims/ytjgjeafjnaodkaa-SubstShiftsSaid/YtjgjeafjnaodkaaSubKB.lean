/-
  The contract of package subst's own walk.
-/
import Derived.Test.YtjgjeafjnaodkaaSubKA
namespace Go.Proofs.Ytjgjeafjnaodkaa
open Go.RowKit

/-- What a walk leaves: its answer, what is left, all else as it was. -/
def DWalk (P : Nat → Prop) (mb : Nat) (w : World) (r : Tm × Int × Nat) (e : Ending) (w' : World) : Prop :=
  ∃ a2 c2, e = .returned (.tuple #[tmv r.1 a2 c2, .int .i64 r.2.1]) ∧ TmP w' P r.1 a2 c2 ∧ LfAt w' mb (2000 - r.2.2) ∧ Turn (fun j => j = mb) w w'
/-- How much is left. -/
def lfOf (w : World) (mb : Nat) : Nat := match w.cell? ⟨mb, 0, none⟩ with | some (.int _ n) => n.toNat | _ => 0
theorem lfOf_at {w : World} {mb n : Nat} (h : LfAt w mb n) : lfOf w mb = n := by
  unfold LfAt at h
  have c0 : w.cell? ⟨mb, 0, none⟩ = some (.int .i64 (n : Nat)) := by simp [World.cell?, h]
  unfold lfOf
  rw [c0]
  exact Int.toNat_natCast n
theorem LfAt.on {w w' : World} {mb n : Nat} (h : LfAt w mb n) (hb : Below w.heap.size w w') : LfAt w' mb n := (hb.block mb h.lt).trans h
theorem LfAt.turn {M : Nat → Prop} {w w' : World} {mb n : Nat} (h : LfAt w mb n) (ht : Turn M w w') (hM : ¬ M mb) : LfAt w' mb n := (ht.block mb h.lt hM).trans h
theorem dwalk_fin {P : Nat → Prop} {mb n : Nat} {w W : World} {t : Tm} {ad : Option Addr} {cap : Nat} (hm : mb < w.heap.size) (hP : ∀ b, P b → b < w.heap.size ∧ b ≠ mb) (ht : Turn (fun j => j = mb ∨ w.heap.size ≤ j) w W) (hmt : LfAt W mb (2000 - n)) (hp : TmP W P t ad cap) :
    DWalk P mb w (t, 0, n) (.returned (.tuple #[tmv t ad cap, .int .i64 0])) ((((W.setCell ⟨w.heap.size + 1, 0, none⟩ (.int .i64 t.kind)).setCell ⟨w.heap.size + 1, 1, none⟩ (.string t.name)).setCell ⟨w.heap.size + 1, 2, none⟩ (.int .i64 t.n)).setCell ⟨w.heap.size + 1, 3, none⟩ (.slice ad t.args.length cap)) :=
  have k := Turn.set4 (M := fun j => w.heap.size ≤ j) (W := W) (q := w.heap.size + 1) (Nat.le_succ _) (.int .i64 t.kind) (.string t.name) (.int .i64 t.n) (.slice ad t.args.length cap)
  ⟨ad, cap, rfl, hp.turnS k fun b hb => Nat.not_le.2 (hP b hb).1, hmt.turn k (Nat.not_le.2 hm), turn_own ht k⟩
theorem dwalk_err {P : Nat → Prop} {mb n : Nat} {er : Int} {w W : World} (hm : mb < w.heap.size) (ht : Turn (fun j => j = mb ∨ w.heap.size ≤ j) w W) (hmt : LfAt W mb (2000 - n)) :
    DWalk P mb w (zeroT, er, n) (.returned (.tuple #[.agg #[.int .i64 0, .string ⟨#[]⟩, .int .i64 0, .slice none 0 0], .int .i64 er])) ((((W.setCell ⟨w.heap.size + 1, 0, none⟩ (.int .i64 0)).setCell ⟨w.heap.size + 1, 1, none⟩ (.string ⟨#[]⟩)).setCell ⟨w.heap.size + 1, 2, none⟩ (.int .i64 0)).setCell ⟨w.heap.size + 1, 3, none⟩ (.slice none 0 0)) :=
  have k := Turn.set4 (M := fun j => w.heap.size ≤ j) (W := W) (q := w.heap.size + 1) (Nat.le_succ _) (.int .i64 0) (.string ⟨#[]⟩) (.int .i64 0) (.slice none 0 0)
  ⟨none, 0, rfl, zero_tmS, hmt.turn k (Nat.not_le.2 hm), turn_own ht k⟩
/-- Within the walk: the term's own box, the meter, what is still to walk. -/
structure DlkI (bs : List (Int × Tm)) (P : Nat → Prop) (mb : Nat) (w : World) (r : Tm × Int × Nat) (n : Nat) (t : Tm) (W : World) : Prop where
  le : n ≤ 2000
  ans : walkL bs n t = r
  mt : LfAt W mb (2000 - n)
  box : ∃ ad cap, W.heap[w.heap.size]? = some (.cells #[.int .i64 t.kind, .string t.name, .int .i64 t.n, .slice ad t.args.length cap] 25 (0, 0)) ∧ TmP W P t ad cap
  res : W.heap[w.heap.size + 1]? = some (.cells #[.int .i64 0, .string ⟨#[]⟩, .int .i64 0, .slice none 0 0] 25 (0, 0))
  turn : Turn (fun j => j = mb ∨ w.heap.size ≤ j) w W
theorem DlkI.on {bs : List (Int × Tm)} {P : Nat → Prop} {mb : Nat} {w : World} {r : Tm × Int × Nat} {n : Nat} {t : Tm} {W W' : World} (h : DlkI bs P mb w r n t W) (hb : Below W.heap.size W W') : DlkI bs P mb w r n t W' := by
  obtain ⟨ad, cap, h1, h2⟩ := h.box
  exact ⟨h.le, h.ans, h.mt.on hb, ⟨ad, cap, keptR9 hb h1, h2.onS hb⟩, keptR9 hb h.res, ⟨hb.os.trans h.turn.os, hb.tape.trans h.turn.tape, hb.output.trans h.turn.output, Nat.le_trans h.turn.size hb.size, fun k hk hn => (hb.block k (Nat.lt_of_lt_of_le hk h.turn.size)).trans (h.turn.block k hk hn)⟩⟩
/-- One binding followed. -/
theorem DlkI.step {bs : List (Int × Tm)} {P : Nat → Prop} {mb : Nat} {w : World} {r : Tm × Int × Nat} {n : Nat} {t x : Tm} {W W3 : World} {xa : Option Addr} {xc : Nat} (h : DlkI bs P mb w r n t W) (hm : mb < w.heap.size) (hP : ∀ b, P b → b < w.heap.size ∧ b ≠ mb) (hn : n < 2000) (hk : t.kind = 1) (hl : lookL bs t.n = some x)
    (hx : TmP W P x xa xc) (h3 : Turn (fun j => j = mb) W W3) (hm3 : LfAt W3 mb (2000 - (n + 1))) : DlkI bs P mb w r (n + 1) x ((((W3.setCell ⟨w.heap.size, 0, none⟩ (.int .i64 x.kind)).setCell ⟨w.heap.size, 1, none⟩ (.string x.name)).setCell ⟨w.heap.size, 2, none⟩ (.int .i64 x.n)).setCell ⟨w.heap.size, 3, none⟩ (.slice xa x.args.length xc)) := by
  obtain ⟨ad, cap, h1, _⟩ := h.box
  have h1l := (Array.getElem?_eq_some_iff.1 h1).1
  have h2l := (Array.getElem?_eq_some_iff.1 h.res).1
  have k := Turn.set4 (M := fun j => j = w.heap.size) (W := W3) (q := w.heap.size) rfl (.int .i64 x.kind) (.string x.name) (.int .i64 x.n) (.slice xa x.args.length xc)
  refine ⟨hn, (walk_step hn hk hl).symm.trans h.ans, hm3.turn k (by omega), ⟨xa, xc, set4_blk ((h3.block _ h1l (by omega)).trans h1) _ _ _ _, (hx.turnS h3 fun b hb => (hP b hb).2).turnS k fun b hb => by have := (hP b hb).1; omega⟩, (k.block _ (Nat.lt_of_lt_of_le h2l h3.size) (by omega)).trans ((h3.block _ h2l (by omega)).trans h.res), ?_⟩
  exact (h.turn.trans (h3.more fun j e => .inl e)).trans (k.more fun j e => .inr (by omega))

set_option maxRecDepth 100000 in
set_option maxHeartbeats 4000000 in
theorem dv_walk (bs : List (Int × Tm)) (ab : Option Addr) (cb mb n : Nat) (t : Tm) (ad : Option Addr) (cap : Nat) (w : World) (P : Nat → Prop) (hlen : bs.length ≤ 1000000) (hP : ∀ b, P b → b < w.heap.size ∧ b ≠ mb) (hb : BdsAt w P ab bs) (hm : LfAt w mb (2000 - n)) (hn : n ≤ 2000) (ht : TmP w P t ad cap) :
    Calls Try.prog 23 #[.slice ab bs.length cb, tmv t ad cap, .pointer (some ⟨mb, 0, none⟩)] w (DWalk P mb w (walkL bs n t)) := by
  obtain ⟨r, hr⟩ : ∃ r, walkL bs n t = r := ⟨_, rfl⟩
  rw [hr]
  have hml := hm.lt
  have HP := Lib.hid hP
  have HBD := Lib.hid hb
  have hI : DlkI bs P mb w r n t ((w.alloc (.cells #[.int .i64 t.kind, .string t.name, .int .i64 t.n, .slice ad t.args.length cap] 25)).alloc (.cells #[.int .i64 0, .string ⟨#[]⟩, .int .i64 0, .slice none 0 0] 25)) := by
    have hb1 : ∀ o1 o2 : Obj, Below w.heap.size w ((w.alloc o1).alloc o2) := fun o1 o2 => ((Below.refl _ w).alloc (Nat.le_refl _) o1).alloc (by simp) o2
    exact ⟨hn, hr, hm.on (hb1 _ _), ⟨ad, cap, (Below.heap_alloc (w.alloc _) _ _ (by simp)).trans (alloc_new w _), ht.onS (hb1 _ _)⟩, alloc_new2 w _ _, ⟨(hb1 _ _).os, (hb1 _ _).tape, (hb1 _ _).output, (hb1 _ _).size, fun k hk _ => (hb1 _ _).block k hk⟩⟩
  have HI := Lib.hid hI
  clear hI hm ht hr hb hP
  unfold tmv
  go_enter Try.func23, Try.ntmps23
  go_wp2_with fail
  go_loopw [] (fun wr => ∃ n t, DlkI bs P mb w r n t wr) (fun wr => lfOf wr mb)
  case atStart => exact ⟨n, t, HI.out⟩
  case round =>
    obtain ⟨n, t, hi⟩ := hrel
    obtain ⟨ad, cap, hbx, hp⟩ := hi.box
    have hsz := hi.turn.size
    have hle := hi.le
    have hs2 := (Array.getElem?_eq_some_iff.1 hi.res).1
    have HIN := Lib.hid hi
    have HPT := Lib.hid hp
    have HBX := Lib.hid hbx
    have hML := hi.mt.lt
    clear hi hp hbx
    obtain ⟨c0, c1, c2, c3, f0, f1, f2, f3⟩ := cellsT HBX.out
    cases hk : (t.kind == 1) with
    | false =>
      have HR : Hid (r = (t, 0, n)) := Lib.hid (HIN.out.ans.symm.trans (walk_stop hle (.inl (by simpa using hk))))
      obtain ⟨z0, z1, z2, z3, e0, e1, e2, e3⟩ := cellsT HIN.out.res
      have HF := Lib.hid (dwalk_fin hml HP.out HIN.out.turn HIN.out.mt HPT.out)
      have g4 := set4_blk HIN.out.res (.int .i64 t.kind) (.string t.name) (.int .i64 t.n) (.slice ad t.args.length cap)
      have G4 := Lib.hid g4
      clear g4
      go_wp2_with fail
      obtain ⟨y0, y1, y2, y3, _⟩ := cellsT G4.out
      refine bodyPost_ret (v := .tuple #[tmv t ad cap, .int .i64 0]) (by simp [results, Try.results23, go_sem, tmv, y0, y1, y2, y3]) rfl ?_
      rw [HR.out]
      exact HF.out
    | true =>
      have HLK := Lib.hid (dv_look bs t.n ab cb wr P (fun b hb => by have := HP.out b hb; omega) hlen (HBD.out.turn HIN.out.turn fun b hb => by have := HP.out b hb; omega))
      obtain ⟨lk, hlk⟩ : ∃ lk, lookL bs t.n = lk := ⟨_, rfl⟩
      rw [hlk] at HLK
      cases lk with
      | none =>
        have HR : Hid (r = (t, 0, n)) := Lib.hid (HIN.out.ans.symm.trans (walk_stop hle (.inr hlk)))
        clear hlk
        unfold tmv at HLK
        go_wp2_with fail
        refine HLK.out.mono ?_; rintro e w1 ⟨xa, xc, rfl, hx, hb1⟩
        have hs1 := hb1.size
        go_upto_region 3 with fail
        have hb2 := hb1.trans (((Below.refl _ w1).alloc (Nat.le_refl _) (.cells #[.int .i64 zeroT.kind, .string zeroT.name, .int .i64 zeroT.n, .slice xa zeroT.args.length xc] 25)).mono hs1)
        generalize w1.alloc (.cells #[.int .i64 zeroT.kind, .string zeroT.name, .int .i64 zeroT.n, .slice xa zeroT.args.length xc] 25) = w2 at *
        have HI2 := Lib.hid (HIN.out.on hb2)
        have HF := Lib.hid (dwalk_fin hml HP.out HI2.out.turn HI2.out.mt (HPT.out.onS hb2))
        have g4 := set4_blk HI2.out.res (.int .i64 t.kind) (.string t.name) (.int .i64 t.n) (.slice ad t.args.length cap)
        have G4 := Lib.hid g4
        have hbx2 := keptR9 hb2 HBX.out
        clear g4 c0 c1 c2 c3 f0 f1 f2 f3 hx hb1 hb2
        obtain ⟨c0, c1, c2, c3, _⟩ := cellsT hbx2
        obtain ⟨z0, z1, z2, z3, e0, e1, e2, e3⟩ := cellsT HI2.out.res
        go_wp2_with fail
        obtain ⟨y0, y1, y2, y3, _⟩ := cellsT G4.out
        refine bodyPost_ret (v := .tuple #[tmv t ad cap, .int .i64 0]) (by simp [results, Try.results23, go_sem, tmv, y0, y1, y2, y3]) rfl ?_
        rw [HR.out]
        exact HF.out
      | some x =>
        have HST := Lib.hid (fun (hn : n < 2000) W W3 xa xc (h : DlkI bs P mb w r n t W) (hx : TmP W P x xa xc) h3 hm3 => DlkI.step (W3 := W3) (xa := xa) (xc := xc) h hml HP.out hn (by simpa using hk) hlk hx h3 hm3)
        have HRO : Hid (n = 2000 → r = (zeroT, 140, 2001)) := Lib.hid (fun e => by
          have h := HIN.out.ans
          rw [e, walk_over (by simpa using hk) hlk] at h
          exact h.symm)
        clear hlk
        unfold tmv at HLK
        dsimp only [Option.getD, Option.isSome] at HLK
        go_wp2_with fail
        refine HLK.out.mono ?_; rintro e w1 ⟨xa, xc, rfl, hx, hb1⟩
        have hs1 := hb1.size
        go_upto_region 4 with fail
        have hba := (Below.refl _ w1).alloc (Nat.le_refl _) (.cells #[.int .i64 x.kind, .string x.name, .int .i64 x.n, .slice xa x.args.length xc] 25)
        have hb2 := hb1.trans (hba.mono hs1)
        have hqx := alloc_new w1 (.cells #[.int .i64 x.kind, .string x.name, .int .i64 x.n, .slice xa x.args.length xc] 25)
        have hs2' : (w1.alloc (.cells #[.int .i64 x.kind, .string x.name, .int .i64 x.n, .slice xa x.args.length xc] 25)).heap.size = w1.heap.size + 1 := World.size_alloc _ _
        generalize w1.alloc (.cells #[.int .i64 x.kind, .string x.name, .int .i64 x.n, .slice xa x.args.length xc] 25) = w2 at *
        have HI2 := Lib.hid (HIN.out.on hb2)
        have HX2 := Lib.hid (hx.onS hba)
        have HQX := Lib.hid hqx
        have HSP := Lib.hid (dv_spend mb (2000 - n) w2 (by omega) HI2.out.mt)
        have hbx2 := Lib.hid (keptR9 hb2 HBX.out)
        clear c0 c1 c2 c3 f0 f1 f2 f3 hx hb1 hb2 hba hqx HLK
        go_wp2_with fail
        refine HSP.out.mono ?_; rintro e w3 ⟨rfl, hm3, ht3, hs3⟩
        rw [show 2000 - n - 1 = 2000 - (n + 1) by omega] at hm3
        have HM3 := Lib.hid hm3
        have HT3 := Lib.hid ht3
        obtain ⟨x0, x1, x2, x3, _⟩ := cellsT ((ht3.block w1.heap.size (by omega) (by omega)).trans HQX.out)
        obtain ⟨c0, c1, c2, c3, f0, f1, f2, f3⟩ := cellsT ((ht3.block w.heap.size (by omega) (by omega)).trans hbx2.out)
        clear hm3 ht3
        by_cases hn2 : n < 2000
        · have hd : decide (0 < 2000 - n) = true := decide_eq_true (by omega)
          have HN := Lib.hid (HST.out hn2 w2 w3 xa xc HI2.out HX2.out HT3.out HM3.out)
          have HMS := Lib.hid (lfOf_at HIN.out.mt)
          have HMT := Lib.hid (lfOf_at HN.out.mt)
          go_wp2_with fail
          go_roundw
          case rel => exact ⟨n + 1, x, HN.out⟩
          case measure => rw [HMS.out, HMT.out]; omega
        · have hd : decide (0 < 2000 - n) = false := decide_eq_false (by omega)
          have HR := Lib.hid (HRO.out (by omega))
          have HN9 : Hid (LfAt w3 mb (2000 - 2001)) := Lib.hid (by have h := HM3.out; rwa [show n + 1 = 2001 by omega] at h)
          have hres := (HT3.out.block (w.heap.size + 1) (by omega) (by omega)).trans HI2.out.res
          have HF := Lib.hid (dwalk_err (P := P) (er := 140) hml (HI2.out.turn.trans (HT3.out.more fun j e => .inl e)) HN9.out)
          have G4 := Lib.hid (set4_blk hres (.int .i64 0) (.string ⟨#[]⟩) (.int .i64 0) (.slice none 0 0))
          obtain ⟨z0, z1, z2, z3, e0, e1, e2, e3⟩ := cellsT hres
          clear hres
          go_wp2_with fail
          obtain ⟨y0, y1, y2, y3, _⟩ := cellsT G4.out
          refine bodyPost_ret (v := .tuple #[.agg #[.int .i64 0, .string ⟨#[]⟩, .int .i64 0, .slice none 0 0], .int .i64 140]) (by simp [results, Try.results23, go_sem, y0, y1, y2, y3]) rfl ?_
          rw [HR.out]
          exact HF.out
end Go.Proofs.Ytjgjeafjnaodkaa
