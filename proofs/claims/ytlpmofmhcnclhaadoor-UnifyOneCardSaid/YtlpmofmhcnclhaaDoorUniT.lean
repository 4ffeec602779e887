/-
  The contract of the document's own Resolve, argument by argument.
-/
import Derived.Test.YtlpmofmhcnclhaaDoorUniS
namespace Go.Proofs.YtlpmofmhcnclhaaDoor
open Go.RowKit

theorem below_turnU2 {n : Nat} {M : Nat → Prop} {w W W' : World} (h : Below n w W) (k : Turn M W W') (hM : ∀ j, M j → n ≤ j) (hn : n ≤ W.heap.size) : Below n w W' := h.trans (k.below hM hn)

set_option maxRecDepth 100000 in
set_option maxHeartbeats 8000000 in
theorem r9_res_go (bs : List (Int × Tm)) (ab : Option Addr) (cb mb d n n1 : Nat) (o : Int) (t X : Tm) (ad : Option Addr) (cap : Nat) (w : World) (r : Tm × Int × Nat) (hlen : bs.length ≤ 1000000) (ho : o + (d + 1 : Nat) = 60) (hd9 : d ≤ 59) (hXs : X.size ≤ 1000000)
    (IH : ∀ (n : Nat) (t : Tm) (ad : Option Addr) (cap : Nat) (W : World), n ≤ 2000 → t.size ≤ 1000000 → BdsAt W (Old mb W) ab bs → TmP W (Old mb W) t ad cap → MtAt W mb n →
      Calls Tryd.prog 33 #[.pointer (some ⟨mb, 0, none⟩), .slice ab bs.length cb, tmv t ad cap, .int .i64 (o + 1)] W (ResOut mb W (resR bs d n t)))
    (hb : BdsAt w (Old mb w) ab bs) (ht : TmP w (Old mb w) t ad cap) (hm : MtAt w mb n) (hn : n ≤ 2000) (hwk : meetL bs n t = (X, 0, n1)) (hn1 : n1 ≤ 2000)
    (hgood : (resList (resR bs d) n1 X.args).2.1 = 0 → r = (.mk X.kind X.name X.n (resList (resR bs d) n1 X.args).1, 0, (resList (resR bs d) n1 X.args).2.2))
    (hbad : (resList (resR bs d) n1 X.args).2.1 ≠ 0 → r = (zeroT, (resList (resR bs d) n1 X.args).2.1, (resList (resR bs d) n1 X.args).2.2)) :
    Calls Tryd.prog 33 #[.pointer (some ⟨mb, 0, none⟩), .slice ab bs.length cb, tmv t ad cap, .int .i64 o] w (ResOut mb w r) := by
  have hml := hm.lt
  have HBX := Lib.hid (meet_boxes hm (.cells #[.int .i64 t.kind, .string t.name, .int .i64 t.n, .slice ad t.args.length cap] 25) (.cells #[.int .i64 0, .string ⟨#[]⟩, .int .i64 0, .slice none 0 0] 25))
  have HM := Lib.hid (fun W (h : Turn (fun j => j = mb) w W) (hl : MtAt W mb n) => r9_Meet bs ab cb mb n t ad cap W (Old mb w) hlen (fun b hb' => by have h1 := h.size; exact ⟨Nat.lt_of_lt_of_le hb'.1 h1, hb'.2⟩) (hb.turn h fun b hb' => hb'.2) hl hn (ht.turnS h fun b hb' => hb'.2))
  have HBD := Lib.hid (fun W (h : Turn (fun j => j = mb) w W) => (hb.turn h fun b hb' => hb'.2).kept (w' := W) (Q := Old mb W) (fun _ _ _ => rfl) fun b hb' _ => hb'.on h.size)
  have HIH := Lib.hid IH
  have HGOOD := Lib.hid hgood
  have HBAD := Lib.hid hbad
  have HSZ := Lib.hid X.size_eq
  have HOUT := Lib.hid (fun n t hn => resR_out bs d n t hn)
  have hXl : X.args.length ≤ 1000000 := by have := HSZ.out; have := Tm.length_le_sizes X.args; omega
  have HXS := Lib.hid hXs
  clear hm hb ht IH hgood hbad hXs
  rw [hwk] at HM
  clear hwk
  unfold WalkOut at HM
  unfold tmv at HM
  dsimp only at HM
  have ho0 : 0 ≤ o := by omega
  have ho9 : o ≤ 59 := by omega
  clear ho
  obtain ⟨i0, hi, hz0, hz1, hz2⟩ := info_parts infoTerm
  rw [show (tmv t ad cap) = .agg #[.int .i64 t.kind, .string t.name, .int .i64 t.n, .slice ad t.args.length cap] from rfl]
  go_enter Tryd.func33, Tryd.ntmps33
  go_wp2_with fail
  generalize (w.alloc _).alloc _ = w0 at *
  obtain ⟨q0, q1, t0, m0, s0⟩ := HBX.out
  refine (HM.out w0 t0 m0).mono ?_; rintro e w1 ⟨a2, c2, rfl, hx1, m1, t1⟩
  have hg0 := (t1.block w.heap.size (by omega) (by omega)).trans q0
  obtain ⟨z0, z1, z2, z3, e0, e1, e2, e3⟩ := cellsT hg0
  have HG0 := Lib.hid hg0
  have HG1 := Lib.hid ((t1.block (w.heap.size + 1) (by omega) (by omega)).trans q1)
  have HT1 := Lib.hid (t0.trans t1)
  have HM1 := Lib.hid m1
  have HX1 := Lib.hid hx1
  have hs1 := t1.size
  clear q0 q1 t0 m0 t1 m1 hx1 hg0 HBX HM
  go_upto_region 2 with fail
  have hk4 := Turn.set4 (M := fun j => j = w.heap.size) (W := w1) (q := w.heap.size) rfl (.int .i64 X.kind) (.string X.name) (.int .i64 X.n) (.slice a2 X.args.length c2)
  have HK3 : Hid (RsK mb w X a2 c2 ((((w1.setCell ⟨w.heap.size, 0, none⟩ (.int .i64 X.kind)).setCell ⟨w.heap.size, 1, none⟩ (.string X.name)).setCell ⟨w.heap.size, 2, none⟩ (.int .i64 X.n)).setCell ⟨w.heap.size, 3, none⟩ (.slice a2 X.args.length c2))) := Lib.hid
    ⟨⟨hk4.os.trans HT1.out.os, hk4.tape.trans HT1.out.tape, hk4.output.trans HT1.out.output, Nat.le_trans HT1.out.size hk4.size, fun k hk hne => (set4_oth _ _ _ _ (by omega)).trans (HT1.out.block k hk hne)⟩,
      set4_blk HG0.out _ _ _ _, (set4_oth _ _ _ _ (by omega)).trans HG1.out, HX1.out.turnS hk4 fun b hb => by have := hb.1; omega⟩
  have HM3 := Lib.hid (HM1.out.turn hk4 (by omega))
  have hs3 := hk4.size
  clear hk4
  generalize (((w1.setCell _ _).setCell _ _).setCell _ _).setCell _ _ = w3 at *
  clear z0 z1 z2 z3 e0 e1 e2 e3 HG0 HG1 HT1 HM1 HX1
  obtain ⟨z0, z1, z2, z3, e0, e1, e2, e3⟩ := cellsT HK3.out.box
  go_wp2_with fail
  clear z0 z1 z2 z3 e0 e1 e2 e3
  go_loopw [11, 33] (fun lv iv wr => ∃ (k m : Nat) (ys : List Tm), k ≤ X.args.length ∧ iv = .int .i64 k ∧ Hid (RsK mb w X a2 c2 wr) ∧ Hid (OwnTerms (w.heap.size + 2) wr lv ys ∧ ys.length = k) ∧ Hid (MtAt wr mb m ∧ m ≤ 2000) ∧ Hid (resCat ys (resList (resR bs d) m (X.args.drop k)) = resList (resR bs d) n1 X.args)) (fun _ iv _ => X.args.length - (intOf iv).toNat)
  case atStart => exact ⟨0, n1, [], Nat.zero_le _, rfl, HK3, Lib.hid ⟨OwnTerms.nil _ _, rfl⟩, Lib.hid ⟨HM3.out, hn1⟩, Lib.hid (resCat_nil _ (resList_none _ _ _))⟩
  case round =>
    obtain ⟨k, m, ys, hk, rfl, HK, HOW, HMT, HAN⟩ := hrel
    obtain ⟨d0, d1, d2, d3, f0, f1, f2, f3⟩ := cellsT HK.out.box
    have hws := HK.out.turn.size
    have hwb := (Array.getElem?_eq_some_iff.1 HK.out.res).1
    by_cases hlt : k < X.args.length
    · obtain ⟨b, q, rfl⟩ := HK.out.px.args.addrU (by omega)
      obtain ⟨pa, pc, hb1, x0, x1, x2, x3, hp⟩ := HK.out.px.args.getU k hlt
      have hps : X.args[k].size ≤ 1000000 := by have h1 := Tm.mem_size (List.getElem_mem hlt); have h2 := HXS.out; have h3 := HSZ.out; omega
      have hans := HAN.out
      rw [List.drop_eq_getElem_cons hlt] at hans
      have hmle := HMT.out.2
      have HC := Lib.hid (fun ob : Obj => HIH.out m X.args[k] pa pc (wr.alloc ob) hmle hps (HBD.out _ (HK.out.turn.trans (Turn.alloc _ _ ob))) (hp.kept (fun b _ hb => Below.heap_alloc _ _ _ hb) fun b hb _ => hb.on (Nat.le_trans hws (by simp))) (HMT.out.1.turn (M := fun _ => False) (Turn.alloc _ wr ob) fun h => h))
      have hro := HOUT.out m X.args[k] hmle
      have hk0 : (0 : Int) ≤ (k : Int) := by omega
      have hk1 : (k : Int) < (X.args.length : Int) := by omega
      clear hp hps hmle
      generalize X.args[k] = p at *
      have hst := fun (y : Tm) (n' : Nat) (h : resR bs d m p = (y, 0, n')) => resList_step hans h
      have hfe := fun (h : (resR bs d m p).2.1 ≠ 0) => resList_fell hans h
      clear hans
      generalize resR bs d m p = ry at *
      obtain ⟨y, er, n'⟩ := ry
      unfold ResOk at hro
      dsimp only at hfe hro
      have HST := Lib.hid hst
      have HFE := Lib.hid hfe
      have HRO := Lib.hid hro
      clear hst hfe hro
      unfold ResOut WalkOut tmv at HC
      dsimp only at HC
      go_wp2_with fail
      refine (HC.out _).mono ?_; rintro e w5 ⟨ya, yc, rfl, hy5, m5, t5⟩
      have hs5 := t5.size
      rw [World.size_alloc] at hs5
      have ht5 : Turn (fun j => j = mb) wr w5 := (Turn.alloc _ wr _).trans t5
      have HK5 := Lib.hid (HK.out.on hml (ht5.more fun j e => .inl e))
      have HO5 := Lib.hid (HOW.out.1.turnU ht5 fun j e => by omega)
      have HLT := Lib.hid HOW.out.1.lt
      have HY5 := Lib.hid (hy5.kept (w' := w5) (Q := fun b => wr.heap.size + 1 ≤ b) (fun _ _ _ => rfl) fun b hb _ => by rw [World.size_alloc] at hb; exact hb)
      have HM5 := Lib.hid m5
      clear hy5 m5 t5 ht5 x0 x1 x2 x3 d0 d1 d2 d3 f0 f1 f2 f3 HC
      go_upto_region 11 with fail
      have hA6 := fun o : Obj => Turn.alloc (fun _ => False) w5 o
      have HK6 := Lib.hid (HK5.out.on hml ((hA6 (.cells #[.int .i64 y.kind, .string y.name, .int .i64 y.n, .slice ya y.args.length yc] 25)).more fun j h => h.elim))
      have HO6 := Lib.hid (HO5.out.turnU (hA6 (.cells #[.int .i64 y.kind, .string y.name, .int .i64 y.n, .slice ya y.args.length yc] 25)) fun j h => h.elim)
      have HY6 := Lib.hid (HY5.out.turnS (hA6 (.cells #[.int .i64 y.kind, .string y.name, .int .i64 y.n, .slice ya y.args.length yc] 25)) fun b _ h => h)
      have HM6 := Lib.hid (HM5.out.turn (hA6 (.cells #[.int .i64 y.kind, .string y.name, .int .i64 y.n, .slice ya y.args.length yc] 25)) fun h => h)
      have hq6 := alloc_new w5 (.cells #[.int .i64 y.kind, .string y.name, .int .i64 y.n, .slice ya y.args.length yc] 25)
      have hs6 : (w5.alloc (.cells #[.int .i64 y.kind, .string y.name, .int .i64 y.n, .slice ya y.args.length yc] 25)).heap.size = w5.heap.size + 1 := World.size_alloc _ _
      have hs6a := Nat.le_of_eq hs6
      have hs6b := Nat.le_of_eq hs6.symm
      clear hA6 HK5 HO5 HY5 HM5 hs6
      generalize w5.alloc (.cells #[.int .i64 y.kind, .string y.name, .int .i64 y.n, .slice ya y.args.length yc] 25) = w6 at *
      by_cases her : er = 0
      · have hd1 : (er != 0) = false := by rw [her]; rfl
        have HN' : Hid (n' ≤ 2000) := Lib.hid (by
          rcases HRO.out with ⟨_, _, _, _, h⟩ | ⟨h, _⟩
          · exact h
          · exact absurd her h)
        have HSTP := Lib.hid (HST.out y n' (by rw [her]))
        have hyl := HOW.out.2
        obtain ⟨xs, hox, hrow⟩ := HO6.out
        rw [hyl] at hox
        have HROW := Lib.hid hrow
        obtain ⟨z0, z1, z2, z3, _⟩ := cellsT hq6
        have HYL := Lib.hid hyl
        clear hrow hq6 her HO6 HST HFE HRO hyl
        go_wp2_with (first
          | (at_builtin; refine wpList_append_lies _ rfl _ _ 23 rfl (w.heap.size + 2) 25 i0 (.agg #[.int .i64 0, .string ⟨#[]⟩, .int .i64 0, .slice none 0 0]) 4 56 Tryd.underlying23 hi hz0 hz1 hz2 rfl (by decide) _ _ _ rfl (hox.alloc _) ⟨w6.heap.size, 0, none⟩ 1 1 (tcells y ya yc) rfl rfl ?c1 ?c2 (by decide) ?c3 ?c4 ?c5 _ rfl ?_))
        case c1 =>
          intro j u hj
          match j, hj with
          | 0, hj => simp [tcells] at hj; subst hj; simp [Addr.add]
          | 1, hj => simp [tcells] at hj; subst hj; simp [Addr.add]
          | 2, hj => simp [tcells] at hj; subst hj; simp [Addr.add]
          | 3, hj => simp [tcells] at hj; subst hj; simp [Addr.add]
        case c2 => intro u hu; simp [tcells] at hu; rcases hu with rfl | rfl | rfl | rfl <;> rfl
        case c3 => unfold maxLen; omega
        case c4 => omega
        case c5 => simp; omega
        intro g cap3 w7 hown7 hgrow hat hlt7
        have hkeep : ∀ (o : Obj) (b : Nat), b < w6.heap.size → (w6.alloc o).heap[b]? = w6.heap[b]? := fun o b hb => Below.heap_alloc w6 o b hb
        have hown8 : OwnTerms (w.heap.size + 2) w7 (.slice (some ⟨g, 0, none⟩) (k + 1) cap3) (ys ++ [y]) := by
          refine OwnTerms.grown (HROW.out.kept (fun b _ hb => hkeep _ b hb) (fun b hp _ => hp)) (by rw [HYL.out]; exact hown7) hgrow ?_ (HY6.out.kept (fun b _ hb => hkeep _ b hb) (fun b hp hb => ⟨by omega, fun e => by have := (HLT.out b e.symm).2; omega⟩))
          rcases hat with hat | hat
          · exact .inl hat.symm
          · exact .inr ⟨g, rfl, by rw [World.size_alloc]; omega⟩
        have ht7 : Turn (fun j => j = mb ∨ w.heap.size + 2 ≤ j) w6 w7 := by
          have h1 := Turn.alloc (fun j => j = mb ∨ w.heap.size + 2 ≤ j) w6 (.cells (tcells y ya yc).toArray 25)
          refine h1.trans ⟨hgrow.os, hgrow.tape, hgrow.output, hgrow.size, fun j hj hne => hgrow.block j hj fun e => hne (.inr (HLT.out j e.symm).1)⟩
        have HK7 := Lib.hid (HK6.out.on hml ht7)
        have hmt7 : MtAt w7 mb n' := HM6.out.turn ⟨ht7.os, ht7.tape, ht7.output, ht7.size, fun j hj hne => by
          by_cases e : j = mb
          · subst e
            exact (hgrow.block j (by rw [World.size_alloc]; omega) (fun e => by have := (HLT.out j e.symm).1; omega)).trans (hkeep _ j hj)
          · exact ht7.block j hj (fun h => h.elim e hne)⟩ (M := fun j => w.heap.size + 2 ≤ j) (by omega)
        have HO8 := Lib.hid (And.intro hown8 (show (ys ++ [y]).length = k + 1 by rw [List.length_append, HYL.out]; rfl))
        have HM7 := Lib.hid (And.intro hmt7 HN'.out)
        clear hown7 hgrow hat hkeep hown8 hox ht7 hmt7 hlt7 z0 z1 z2 z3
        go_wp2
        go_roundw
        case rel => exact ⟨k + 1, n', ys ++ [y], by omega, by go_num, HK7, HO8, HM7, HSTP⟩
        case measure => simp [intOf]; omega
      · have hd1 : (er != 0) = true := bne_iff_ne.2 her
        have HR : Hid (r = (zeroT, er, n')) := Lib.hid (by
          have h := HFE.out her
          have hb := HBAD.out
          rw [h] at hb
          exact hb her)
        have HF := Lib.hid (walk_err (P := fun b => w.heap.size ≤ b) (er := er) (n := n') hml (HK6.out.turn.more fun j e => .inl e) HM6.out)
        have G4 := Lib.hid (set4_blk HK6.out.res (.int .i64 0) (.string ⟨#[]⟩) (.int .i64 0) (.slice none 0 0))
        obtain ⟨z0, z1, z2, z3, e0, e1, e2, e3⟩ := cellsT HK6.out.res
        clear her hq6 HRO HST HFE
        go_wp2_with fail
        obtain ⟨y0, y1, y2, y3, _⟩ := cellsT G4.out
        refine bodyPost_ret (v := .tuple #[.agg #[.int .i64 0, .string ⟨#[]⟩, .int .i64 0, .slice none 0 0], .int .i64 er]) (by simp [results, Tryd.results33, go_sem, y0, y1, y2, y3]) rfl ?_
        rw [HR.out]
        exact HF.out
    · obtain rfl : k = X.args.length := by omega
      obtain ⟨la, lc, rfl, hnc, hcm, hargs⟩ := HOW.out.1.slice
      have hr0 : resList (resR bs d) n1 X.args = (ys, 0, m) := by
        have h := HAN.out
        rw [List.drop_of_length_le (Nat.le_refl _)] at h
        have h' : (if (0 : Int) ≠ 0 then ([], 0, m) else (ys ++ [], (0 : Int), m)) = resList (resR bs d) n1 X.args := h
        rw [if_neg (by nofun), List.append_nil] at h'
        exact h'.symm
      have HR : Hid (r = (.mk X.kind X.name X.n ys, 0, m)) := Lib.hid (by
        have h := HGOOD.out
        rw [hr0] at h
        exact h rfl)
      have HYL := Lib.hid HOW.out.2
      have HARGS := Lib.hid hargs
      have HLC := Lib.hid (And.intro hnc hcm)
      have hset := Lib.heap_setCell_same (i := 3) HK.out.box (.slice la ys.length lc)
      have hset' : (wr.setCell ⟨w.heap.size, 3, none⟩ (.slice la ys.length lc)).heap[w.heap.size]? = some (.cells #[.int .i64 X.kind, .string X.name, .int .i64 X.n, .slice la ys.length lc] 25 (0, 0)) := by simpa using hset
      have HST3 := Lib.hid hset'
      have HT3 := Lib.hid (Turn.set (fun j => j = w.heap.size) wr (p := ⟨w.heap.size, 3, none⟩) rfl (.slice la ys.length lc))
      clear hr0 hargs hnc hcm hset hset'
      go_upto_region 16 with fail
      generalize wr.setCell _ _ = w8 at *
      clear d0 d1 d2 d3 f0 f1 f2 f3
      have h8 := HT3.out.size
      have HRS := Lib.hid ((HT3.out.block (w.heap.size + 1) hwb (by omega)).trans HK.out.res)
      have HA8 := Lib.hid (HARGS.out.kept (w' := w8) (Q := fun b => w.heap.size + 2 ≤ b) (fun b hb hl => HT3.out.block b hl (by omega)) fun _ h _ => h)
      have HM8 := Lib.hid (HMT.out.1.turn HT3.out (by omega))
      have HT8 : Hid (Turn (fun j => j = mb ∨ w.heap.size ≤ j) w w8) := Lib.hid ((HK.out.turn.more fun j e => .inl e).trans (HT3.out.more fun j e => .inr (by omega)))
      obtain ⟨d0, d1, d2, d3, _⟩ := cellsT HST3.out
      obtain ⟨z0, z1, z2, z3, e0, e1, e2, e3⟩ := cellsT HRS.out
      have k4 := Turn.set4 (M := fun j => w.heap.size ≤ j) (W := w8) (q := w.heap.size + 1) (Nat.le_succ _) (.int .i64 X.kind) (.string X.name) (.int .i64 X.n) (.slice la ys.length lc)
      have HTO := Lib.hid (turn_own HT8.out k4)
      have HMO := Lib.hid (HM8.out.turn k4 (by omega))
      have HAO := Lib.hid (HA8.out.kept (w' := (((w8.setCell ⟨w.heap.size + 1, 0, none⟩ (.int .i64 X.kind)).setCell ⟨w.heap.size + 1, 1, none⟩ (.string X.name)).setCell ⟨w.heap.size + 1, 2, none⟩ (.int .i64 X.n)).setCell ⟨w.heap.size + 1, 3, none⟩ (.slice la ys.length lc)) (Q := fun b => w.heap.size ≤ b) (fun b hb _ => set4_oth _ _ _ _ (by omega)) fun b hb _ => by omega)
      have G4 := Lib.hid (set4_blk HRS.out (.int .i64 X.kind) (.string X.name) (.int .i64 X.n) (.slice la ys.length lc))
      clear k4
      go_wp2_with fail
      obtain ⟨y0, y1, y2, y3, _⟩ := cellsT G4.out
      refine bodyPost_ret (v := .tuple #[.agg #[.int .i64 X.kind, .string X.name, .int .i64 X.n, .slice la ys.length lc], .int .i64 0]) (by simp [results, Tryd.results33, go_sem, y0, y1, y2, y3]) rfl ?_
      rw [HR.out]
      exact ⟨la, lc, rfl, ⟨HK.out.px.kind, HK.out.px.n, HK.out.px.name, HLC.out.1, HLC.out.2, HAO.out⟩, HMO.out, HTO.out⟩

theorem r9_resolve (bs : List (Int × Tm)) (ab : Option Addr) (cb mb : Nat) (hlen : bs.length ≤ 1000000) (hsz : ∀ b ∈ bs, b.2.size ≤ 1000000) : ∀ (d : Nat) (o : Int), o + (d : Nat) = 60 → d ≤ 60 → ∀ (n : Nat) (t : Tm) (ad : Option Addr) (cap : Nat) (w : World), n ≤ 2000 → t.size ≤ 1000000 →
    BdsAt w (Old mb w) ab bs → TmP w (Old mb w) t ad cap → MtAt w mb n →
    Calls Tryd.prog 33 #[.pointer (some ⟨mb, 0, none⟩), .slice ab bs.length cb, tmv t ad cap, .int .i64 o] w (ResOut mb w (resR bs d n t))
  | 0, o, ho, _, n, t, ad, cap, w, hn, hts, hb, ht, hm => by
    obtain rfl : o = 60 := by omega
    have hout := meet_out bs n t hn
    unfold resR
    generalize hw : meetL bs n t = m at *
    obtain ⟨X, er, n1⟩ := m
    dsimp only at *
    rcases hout with ⟨rfl, _⟩ | ⟨rfl, _⟩
    · rw [if_neg (by nofun)]
      exact r9_res_end bs ab cb mb n 60 0 3 X t n1 ad cap w hlen hb ht hm hn hw (.inr ⟨rfl, rfl, rfl⟩)
    · rw [if_pos (by nofun)]
      exact r9_res_end bs ab cb mb n 60 140 140 X t n1 ad cap w hlen hb ht hm hn hw (.inl ⟨by decide, rfl⟩)
  | d + 1, o, ho, hd, n, t, ad, cap, w, hn, hts, hb, ht, hm => by
    have hout := meet_out bs n t hn
    have hXs : (meetL bs n t).2.1 = 0 → (meetL bs n t).1.size ≤ 1000000 := fun h => (meet_wlk h).keeps (Φ := fun t => t.size ≤ 1000000) hsz hts
    unfold resR
    generalize hw : meetL bs n t = m at *
    obtain ⟨X, er, n1⟩ := m
    dsimp only at *
    rcases hout with ⟨rfl, _, _, h4⟩ | ⟨rfl, _⟩
    · rw [if_neg (by nofun)]
      refine r9_res_go bs ab cb mb d n n1 o t X ad cap w _ hlen ho (by omega) (hXs rfl) (fun n t ad cap W h1 h2 h3 h4 h5 => r9_resolve bs ab cb mb hlen hsz d (o + 1) (by omega) (by omega) n t ad cap W h1 h2 h3 h4 h5) hb ht hm hn hw h4 (fun hg => ?_) fun hbad => ?_
      · rw [if_neg (by rw [hg]; nofun)]
      · rw [if_pos hbad]
    · rw [if_pos (by nofun)]
      exact r9_res_end bs ab cb mb n o 140 140 X t n1 ad cap w hlen hb ht hm hn hw (.inl ⟨by decide, rfl⟩)

set_option maxRecDepth 100000 in
set_option maxHeartbeats 4000000 in
/-- The document's own Resolve. -/
theorem r9_Resolve (bs : List (Int × Tm)) (ab : Option Addr) (cb : Nat) (t : Tm) (ad : Option Addr) (cap : Nat) (w : World) (hlen : bs.length ≤ 1000000) (hsz : ∀ b ∈ bs, b.2.size ≤ 1000000) (hts : t.size ≤ 1000000) (hb : BdsAt w (fun b => b < w.heap.size) ab bs) (ht : TmIn w t ad cap) :
    Calls Tryd.prog 14 #[.slice ab bs.length cb, tmv t ad cap] w fun e w' => ∃ a2 c2, e = .returned (.tuple #[tmv (resR bs 60 0 t).1 a2 c2, .int .i64 (resR bs 60 0 t).2.1]) ∧ TmIn w' (resR bs 60 0 t).1 a2 c2 ∧ Below w.heap.size w w' := by
  have HU := Lib.hid (fun W (h : Below w.heap.size w W) (hm : MtAt W (w.heap.size + 2) 0) => r9_resolve bs ab cb (w.heap.size + 2) hlen hsz 60 0 (by omega) (Nat.le_refl _) 0 t ad cap W (Nat.zero_le _) hts (hb.kept (w' := W) (Q := Old (w.heap.size + 2) W) (fun b hb _ => h.block b hb) fun b hb _ => ⟨Nat.lt_of_lt_of_le hb h.size, by omega⟩) (ht.inP.kept (fun b hb _ => h.block b hb) fun b hb _ => ⟨Nat.lt_of_lt_of_le hb h.size, by omega⟩) hm)
  clear hb ht hts hsz
  generalize resR bs 60 0 t = r at *
  obtain ⟨X, er, n⟩ := r
  unfold ResOut WalkOut at HU
  unfold tmv at *
  dsimp only at HU ⊢
  have HB0 := Lib.hid ((((Below.refl w.heap.size w).alloc (Nat.le_refl _) (.cells #[.int .i64 t.kind, .string t.name, .int .i64 t.n, .slice ad t.args.length cap] 25)).alloc (by simp) (.cells #[.int .i64 0, .string ⟨#[]⟩, .int .i64 0, .slice none 0 0] 25)).alloc (by simp <;> omega) (.cells #[.int .i64 0] 59))
  have HM0 := Lib.hid (alloc_new ((w.alloc (.cells #[.int .i64 t.kind, .string t.name, .int .i64 t.n, .slice ad t.args.length cap] 25)).alloc (.cells #[.int .i64 0, .string ⟨#[]⟩, .int .i64 0, .slice none 0 0] 25)) (.cells #[.int .i64 0] 59))
  have HZ0 := Lib.hid (show (((w.alloc (.cells #[.int .i64 t.kind, .string t.name, .int .i64 t.n, .slice ad t.args.length cap] 25)).alloc (.cells #[.int .i64 0, .string ⟨#[]⟩, .int .i64 0, .slice none 0 0] 25)).alloc (.cells #[.int .i64 0] 59)).heap[w.heap.size + 1]? = some (.cells #[.int .i64 0, .string ⟨#[]⟩, .int .i64 0, .slice none 0 0] 25 (0, 0)) from (Below.heap_alloc _ _ _ (by simp)).trans (alloc_new2 w _ _))
  go_enter Tryd.func14, Tryd.ntmps14
  go_wp2_with fail
  generalize hw0 : ((w.alloc _).alloc _).alloc _ = w0 at *
  have hm0 := HM0.out
  simp only [World.size_alloc] at hm0
  refine (HU.out w0 HB0.out hm0).mono ?_; rintro e w1 ⟨a2, c2, rfl, hx, _, ht1⟩
  have hz := (Array.getElem?_eq_some_iff.1 hm0).1
  have g1 := (ht1.block (w.heap.size + 1) (by omega) (by omega)).trans HZ0.out
  have hb1 := below_turnU2 HB0.out ht1 (fun j e => by omega) HB0.out.size
  have HR := Lib.hid (And.intro ((hx.kept (w' := (((w1.setCell ⟨w.heap.size + 1, 0, none⟩ (.int .i64 X.kind)).setCell ⟨w.heap.size + 1, 1, none⟩ (.string X.name)).setCell ⟨w.heap.size + 1, 2, none⟩ (.int .i64 X.n)).setCell ⟨w.heap.size + 1, 3, none⟩ (.slice a2 X.args.length c2)) (Q := fun _ => True) (fun b hb _ => set4_oth _ _ _ _ (by omega)) fun _ _ _ => trivial).toIn) (set4_low (q := w.heap.size + 1) (x := .int .i64 X.kind) (y := .string X.name) (z := .int .i64 X.n) (u := .slice a2 X.args.length c2) hb1 (by omega)))
  have G4 := Lib.hid (set4_blk g1 (.int .i64 X.kind) (.string X.name) (.int .i64 X.n) (.slice a2 X.args.length c2))
  obtain ⟨z0, z1, z2, z3, e0, e1, e2, e3⟩ := cellsT g1
  clear hx ht1 hb1 g1 hm0 HM0 hw0 HU HZ0
  go_wp2_with fail
  obtain ⟨y0, y1, y2, y3, _⟩ := cellsT G4.out
  refine bodyPost_ret (v := .tuple #[tmv X a2 c2, .int .i64 er]) (by simp [results, Tryd.results14, go_sem, tmv, y0, y1, y2, y3]) rfl ?_
  exact ⟨a2, c2, rfl, HR.out.1, HR.out.2⟩
end Go.Proofs.YtlpmofmhcnclhaaDoor
