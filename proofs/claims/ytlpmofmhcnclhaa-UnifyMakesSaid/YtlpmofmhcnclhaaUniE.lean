/-
  The document's own unify.
-/
import Derived.Test.YtlpmofmhcnclhaaUniD
namespace Go.Proofs.Ytlpmofmhcnclhaa
open Go.RowKit

theorem uni_len {bs l : Bds} {n n' : Nat} {L : List (Tm × Tm)} (hn : n ≤ 2000) (h : uni bs n L = (some l, 0, n')) : l.length ≤ bs.length + (n' - n) ∧ n ≤ n' :=
  (uni_all (Φ := fun _ => True) (fun _ _ _ _ => trivial) _ bs l n n' L (Nat.le_refl _) hn (fun _ _ => trivial) (fun _ _ => ⟨trivial, trivial⟩) h).2
/-- Within the loop: k arguments are made one. -/
structure UIn (mb : Nat) (w : World) (x y : Tm) (a1 : Option Addr) (c1 : Nat) (a2 : Option Addr) (c2 : Nat) (N : Nat) (r : Option Bds × Int × Nat) (k n : Nat) (L : Bds) (la : Option Addr) (W : World) : Prop where
  ans : uni L n ((List.zip x.args y.args).drop k) = r
  le : n ≤ 2000
  len : L.length + (2000 - n) ≤ N
  unb : UnB mb n w x y a1 c1 a2 c2 W
  bds : BdsAt W (Old mb W) la L
theorem UnB.drew {mb n : Nat} {w W : World} {x y : Tm} {a1 : Option Addr} {c1 : Nat} {a2 : Option Addr} {c2 : Nat} (h : UnB mb n w x y a1 c1 a2 c2 W) : UnB mb n w x y a1 c1 a2 c2 W.drew :=
  ⟨h.bx, h.bz, h.px.turnS (Turn.drew (fun _ => False) W) fun _ _ h => h, h.py.turnS (Turn.drew (fun _ => False) W) fun _ _ h => h, h.mt, h.turn.trans (Turn.drew _ W)⟩
theorem UnB.next {mb n n' : Nat} {w W W' : World} {x y : Tm} {a1 : Option Addr} {c1 : Nat} {a2 : Option Addr} {c2 : Nat} (h : UnB mb n w x y a1 c1 a2 c2 W) (hm : mb < w.heap.size) (ht : Turn (fun j => j = mb) W W') (hmt : MtAt W' mb n') : UnB mb n' w x y a1 c1 a2 c2 W' :=
  ⟨(ht.block _ (Array.getElem?_eq_some_iff.1 h.bx).1 (by omega)).trans h.bx, (ht.block _ (Array.getElem?_eq_some_iff.1 h.bz).1 (by omega)).trans h.bz, h.px.turnS ht fun b hb => hb.2, h.py.turnS ht fun b hb => hb.2, hmt, h.turn.trans ht⟩
theorem zip_drop {l m : List Tm} {k : Nat} (h1 : k < l.length) (h2 : k < m.length) : (List.zip l m).drop k = (l[k], m[k]) :: (List.zip l m).drop (k + 1) := by
  rw [List.drop_eq_getElem_cons (by rw [List.length_zip]; omega)]
  congr 1
  simp
theorem below_turnU {n : Nat} {M : Nat → Prop} {w W W' : World} (h : Below n w W) (k : Turn M W W') (hM : ∀ j, M j → n ≤ j) (hn : n ≤ W.heap.size) : Below n w W' := h.trans (k.below hM hn)

set_option maxRecDepth 100000 in
set_option maxHeartbeats 8000000 in
/-- Argument by argument. -/
theorem u_args (bs : List (Int × Tm)) (ab : Option Addr) (cb mb n n2 : Nat) (x y x' y' : Tm) (ax : Option Addr) (cx : Nat) (ay : Option Addr) (cy : Nat) (w : World) (hlen : bs.length ≤ 1000000) (hl : bs.length ≤ cb) (hc : cb ≤ maxLen) (hb : BdsAt w (Old mb w) ab bs) (hm : MtAt w mb n) (hn : n ≤ 2000) (hx : TmP w (Old mb w) x ax cx) (hy : TmP w (Old mb w) y ay cy) (hbo : bothL bs n x y = (x', y', 0, n2)) (N : Nat) (r : Option Bds × Int × Nat) (hN : bs.length + (2000 - n2) ≤ N) (hn2 : n2 ≤ 2000) (kx : x'.kind ≠ 1) (ky : y'.kind ≠ 1) (k : x'.kind = y'.kind) (ka : x'.name = y'.name) (kn : x'.n = y'.n) (kl : x'.args.length = y'.args.length) (hr : uni bs n2 (List.zip x'.args y'.args) = r)
    (IH : ∀ (L : Bds) (la : Option Addr) (lc n : Nat) (p q : Tm) (pa : Option Addr) (pc : Nat) (qa : Option Addr) (qc : Nat) (W : World), n2 ≤ n → n ≤ 2000 → L.length + (2000 - n) ≤ N → L.length ≤ lc → lc ≤ maxLen → BdsAt W (Old mb W) la L → MtAt W mb n → TmP W (Old mb W) p pa pc → TmP W (Old mb W) q qa qc → Calls Try.prog 23 #[.pointer (some ⟨mb, 0, none⟩), .slice la L.length lc, tmv p pa pc, tmv q qa qc] W (UniOut mb W (uni L n [(p, q)]))) :
    Calls Try.prog 23 #[.pointer (some ⟨mb, 0, none⟩), .slice ab bs.length cb, tmv x ax cx, tmv y ay cy] w (UniOut mb w r) := by
  have hxk : (x'.kind == 1) = false := by simp [kx]
  have hyk : (y'.kind == 1) = false := by simp [ky]
  clear kx ky
  have hk : (x'.kind != y'.kind) = false := by simp [k]
  have ha : (x'.name.toList == y'.name.toList) = true := by rw [ka]; exact beq_self_eq_true _
  have hnn : (x'.n != y'.n) = false := by simp [kn]
  have hll : ((x'.args.length : Int) != (y'.args.length : Int)) = false := by simp [kl]
  have HR := Lib.hid hr
  have HIH := Lib.hid IH
  have HN := Lib.hid hN
  have HKL := Lib.hid kl
  clear k ka kn kl hr IH hN
  have hml := hm.lt
  have HBD := Lib.hid hb
  have HC := Lib.hid hc
  have HBO := Lib.hid (fun W (h : Turn (fun j => j = mb) w W) (hm : MtAt W mb n) => r10_both bs ab cb mb n x y ax cx ay cy W (Old mb w) hlen (fun b hb => by have h1 := h.size; exact ⟨Nat.lt_of_lt_of_le hb.1 h1, hb.2⟩) (hb.turn h fun b hb => hb.2) hm hn (hx.turnS h fun b hb => hb.2) (hy.turnS h fun b hb => hb.2))
  have HBX := Lib.hid (meet_boxes hm (.cells #[.int .i64 x.kind, .string x.name, .int .i64 x.n, .slice ax x.args.length cx] 25) (.cells #[.int .i64 y.kind, .string y.name, .int .i64 y.n, .slice ay y.args.length cy] 25))
  clear hb hm hx hy hc
  rw [hbo] at HBO
  clear hbo
  unfold BothOut at HBO
  unfold tmv at HBO
  dsimp only at HBO
  rw [show (tmv x ax cx) = .agg #[.int .i64 x.kind, .string x.name, .int .i64 x.n, .slice ax x.args.length cx] from rfl, show (tmv y ay cy) = .agg #[.int .i64 y.kind, .string y.name, .int .i64 y.n, .slice ay y.args.length cy] from rfl]
  go_enter Try.func23, Try.ntmps23
  go_wp2_with fail
  generalize hw0 : (w.alloc _).alloc _ = w0 at *
  obtain ⟨q0, q1, t0, m0, s0⟩ := HBX.out
  refine (HBO.out w0 t0 m0).mono ?_; rintro e w1 ⟨a1, d1, a2, d2, rfl, hx1, hy1, m1, t1⟩
  have HU := Lib.hid (fun X hX => UnB.start (x' := x') (y' := y') hml hw0.symm hx1 hy1 m1 t1 X hX)
  obtain ⟨z0, z1, z2, z3, e0, e1, e2, e3⟩ := cellsT ((t1.block w.heap.size (by omega) (by omega)).trans q0)
  obtain ⟨u0, u1, u2, u3, f0, f1, f2, f3⟩ := cellsT ((t1.block (w.heap.size + 1) (by omega) (by omega)).trans q1)
  clear q0 q1 t0 m0 s0 hw0 hx1 hy1 m1 t1 HBX HBO
  go_upto_region 2 with fail
  generalize hX : World.setCell _ _ _ = w3
  have HUB := Lib.hid (HU.out w3 hX.symm)
  clear z0 z1 z2 z3 e0 e1 e2 e3 u0 u1 u2 u3 f0 f1 f2 f3 hX HU
  obtain ⟨c0, c1, c2, c3, e0, e1, e2, e3⟩ := cellsT HUB.out.bx
  obtain ⟨d0, g1, g2, g3, f0, f1, f2, f3⟩ := cellsT HUB.out.bz
  have HN2 := Lib.hid hn2
  go_wp2_with fail
  have HI0 : Hid (UIn mb w x' y' a1 d1 a2 d2 N r 0 n2 bs ab w3) := Lib.hid ⟨HR.out, hn2, HN.out, HUB.out, HBD.out.kept (fun b hb _ => HUB.out.turn.block b hb.1 hb.2) fun _ hb _ => hb.on HUB.out.turn.size⟩
  clear c0 c1 c2 c3 e0 e1 e2 e3 d0 g1 g2 g3 f0 f1 f2 f3
  go_loopw [1, 103] (fun bv iv wr => ∃ (k m : Nat) (L : Bds) (la : Option Addr) (lc : Nat), k ≤ x'.args.length ∧ iv = .int .i64 k ∧ bv = .slice la L.length lc ∧ Hid (L.length ≤ lc ∧ lc ≤ maxLen) ∧ Hid (n2 ≤ m) ∧ Hid (UIn mb w x' y' a1 d1 a2 d2 N r k m L la wr)) (fun _ iv _ => x'.args.length - (intOf iv).toNat)
  case atStart => exact ⟨0, n2, bs, ab, cb, Nat.zero_le _, rfl, rfl, Lib.hid ⟨hl, HC.out⟩, Lib.hid (Nat.le_refl _), HI0⟩
  case round =>
    obtain ⟨k, m, L, la, lc, hk, rfl, rfl, HLC, HM, HI⟩ := hrel
    obtain ⟨c0, c1, c2, c3, _⟩ := cellsT HI.out.unb.bx
    obtain ⟨d0, g1, g2, g3, _⟩ := cellsT HI.out.unb.bz
    by_cases hlt : k < x'.args.length
    · have hkl := HKL.out
      have hxl : x'.args.length ≤ 9223372036854775807 := by have h1 := HI.out.unb.px.len; have h2 := HI.out.unb.px.cap; unfold maxLen at h2; omega
      obtain ⟨b1, o1, rfl⟩ := HI.out.unb.px.args.addrU (by omega)
      obtain ⟨b2, o2, rfl⟩ := HI.out.unb.py.args.addrU (by omega)
      obtain ⟨pa, pc, hb1, x0, x1, x2, x3, hp⟩ := HI.out.unb.px.args.getU k hlt
      obtain ⟨qa, qc, hb2, y0, y1, y2, y3, hq⟩ := HI.out.unb.py.args.getU k (by omega)
      have hans := HI.out.ans
      have hzd := zip_drop (l := x'.args) (m := y'.args) hlt (by omega)
      rw [hzd] at hans
      clear hzd
      have hws := HI.out.unb.turn.size
      have HIH2 := Lib.hid (HIH.out L la lc m x'.args[k] (y'.args[k]'(by omega)) pa pc qa qc wr.drew HM.out HI.out.le HI.out.len HLC.out.1 HLC.out.2 (HI.out.bds.kept (fun _ _ _ => rfl) fun _ h _ => h) HI.out.unb.mt (hp.kept (fun _ _ _ => rfl) fun b hb _ => hb.on hws) (hq.kept (fun _ _ _ => rfl) fun b hb _ => hb.on hws))
      have hk0 : (0 : Int) ≤ (k : Int) := by omega
      have hk1 : (k : Int) < (x'.args.length : Int) := by omega
      have hk2 : (k : Int) < (y'.args.length : Int) := by omega
      have hmle := HI.out.le
      generalize (y'.args[k]'(by omega)) = q at *
      generalize x'.args[k] = p at *
      have hgood := fun (l' : Bds) (n' : Nat) (h : uni L m [(p, q)] = (some l', 0, n')) => (uni_one_good (L := (List.zip x'.args y'.args).drop (k + 1)) hmle h).symm.trans hans
      have hbad := fun (er : Int) (n' : Nat) (h : uni L m [(p, q)] = (none, er, n')) => hans.symm.trans (uni_one_bad (L := (List.zip x'.args y'.args).drop (k + 1)) hmle h)
      have hlen := fun (l' : Bds) (n' : Nat) (h : uni L m [(p, q)] = (some l', 0, n')) => uni_len hmle h
      have hway : (∃ l' n', uni L m [(p, q)] = (some l', 0, n') ∧ n' ≤ 2000) ∨ (∃ er n', uni L m [(p, q)] = (none, er, n')) := by
        rcases uni_out _ L m [(p, q)] (Nat.le_refl _) hmle with ⟨l', n', h, _, h2⟩ | ⟨n', h, _⟩ | h
        · exact .inl ⟨l', n', h, h2⟩
        · exact .inr ⟨0, n', h⟩
        · exact .inr ⟨140, 2001, h⟩
      have hS0 : wr.drew.cell? ⟨w.heap.size, 3, none⟩ = some (.slice (some ⟨b1, o1, none⟩) x'.args.length d1) ∧ wr.drew.cell? ⟨b1, o1 + k * 4, none⟩ = some (.int .i64 p.kind) ∧ wr.drew.cell? ⟨b1, o1 + k * 4 + 1, none⟩ = some (.string p.name) ∧ wr.drew.cell? ⟨b1, o1 + k * 4 + 2, none⟩ = some (.int .i64 p.n) ∧ wr.drew.cell? ⟨b1, o1 + k * 4 + 3, none⟩ = some (.slice pa p.args.length pc) ∧ wr.drew.cell? ⟨w.heap.size + 1, 3, none⟩ = some (.slice (some ⟨b2, o2, none⟩) y'.args.length d2) ∧ wr.drew.cell? ⟨b2, o2 + k * 4, none⟩ = some (.int .i64 q.kind) ∧ wr.drew.cell? ⟨b2, o2 + k * 4 + 1, none⟩ = some (.string q.name) ∧ wr.drew.cell? ⟨b2, o2 + k * 4 + 2, none⟩ = some (.int .i64 q.n) ∧ wr.drew.cell? ⟨b2, o2 + k * 4 + 3, none⟩ = some (.slice qa q.args.length qc) := ⟨c3, x0, x1, x2, x3, g3, y0, y1, y2, y3⟩
      have HS1 : Hid (∀ W, Turn (fun j => j = mb) wr.drew W → W.cell? ⟨w.heap.size, 3, none⟩ = some (.slice (some ⟨b1, o1, none⟩) x'.args.length d1) ∧ W.cell? ⟨b1, o1 + k * 4, none⟩ = some (.int .i64 p.kind) ∧ W.cell? ⟨b1, o1 + k * 4 + 1, none⟩ = some (.string p.name) ∧ W.cell? ⟨b1, o1 + k * 4 + 2, none⟩ = some (.int .i64 p.n) ∧ W.cell? ⟨b1, o1 + k * 4 + 3, none⟩ = some (.slice pa p.args.length pc) ∧ W.cell? ⟨w.heap.size + 1, 3, none⟩ = some (.slice (some ⟨b2, o2, none⟩) y'.args.length d2) ∧ W.cell? ⟨b2, o2 + k * 4, none⟩ = some (.int .i64 q.kind) ∧ W.cell? ⟨b2, o2 + k * 4 + 1, none⟩ = some (.string q.name) ∧ W.cell? ⟨b2, o2 + k * 4 + 2, none⟩ = some (.int .i64 q.n) ∧ W.cell? ⟨b2, o2 + k * 4 + 3, none⟩ = some (.slice qa q.args.length qc)) := Lib.hid (fun W t => by
        have l1 := (Array.getElem?_eq_some_iff.1 HI.out.unb.bx).1
        have l2 := (Array.getElem?_eq_some_iff.1 HI.out.unb.bz).1
        have k1 : ∀ b o : Nat, b < wr.heap.size → b ≠ mb → W.cell? ⟨b, o, none⟩ = wr.cell? ⟨b, o, none⟩ := fun b o h1 h2 => World.cell?_of_block (a := ⟨b, o, none⟩) (t.block b h1 h2)
        have h1 := (hb1.on hws)
        have h2 := (hb2.on hws)
        exact ⟨(k1 _ _ l1 (by omega)).trans c3, (k1 _ _ h1.1 h1.2).trans x0, (k1 _ _ h1.1 h1.2).trans x1, (k1 _ _ h1.1 h1.2).trans x2, (k1 _ _ h1.1 h1.2).trans x3, (k1 _ _ l2 (by omega)).trans g3, (k1 _ _ h2.1 h2.2).trans y0, (k1 _ _ h2.1 h2.2).trans y1, (k1 _ _ h2.1 h2.2).trans y2, (k1 _ _ h2.1 h2.2).trans y3⟩)
      unfold tmv at HIH2
      clear hkl
      go_upto_region 15 with fail
      rcases hway with ⟨l', n', hu, hn'⟩ | ⟨er, n', hu⟩
      · have HG := Lib.hid (hgood l' n' hu)
        have HL := Lib.hid (hlen l' n' hu)
        have HN' := Lib.hid hn'
        rw [hu] at HIH2
        unfold UniOut at HIH2
        dsimp only [Option.getD, Option.isSome] at HIH2
        clear hgood hbad hlen hans hu hn' c0 c1 c2 c3 d0 g1 g2 g3 x0 x1 x2 x3 y0 y1 y2 y3
        go_region_held3 (fun W => W.cell? ⟨w.heap.size, 3, none⟩ = some (.slice (some ⟨b1, o1, none⟩) x'.args.length d1) ∧ W.cell? ⟨b1, o1 + k * 4, none⟩ = some (.int .i64 p.kind) ∧ W.cell? ⟨b1, o1 + k * 4 + 1, none⟩ = some (.string p.name) ∧ W.cell? ⟨b1, o1 + k * 4 + 2, none⟩ = some (.int .i64 p.n) ∧ W.cell? ⟨b1, o1 + k * 4 + 3, none⟩ = some (.slice pa p.args.length pc) ∧ W.cell? ⟨w.heap.size + 1, 3, none⟩ = some (.slice (some ⟨b2, o2, none⟩) y'.args.length d2) ∧ W.cell? ⟨b2, o2 + k * 4, none⟩ = some (.int .i64 q.kind) ∧ W.cell? ⟨b2, o2 + k * 4 + 1, none⟩ = some (.string q.name) ∧ W.cell? ⟨b2, o2 + k * 4 + 2, none⟩ = some (.int .i64 q.n) ∧ W.cell? ⟨b2, o2 + k * 4 + 3, none⟩ = some (.slice qa q.args.length qc))
          (first | with_reducible exact s4 | with_reducible exact hS0)
          (first | (go_at_call 23; (with_reducible refine HIH2.out.mono ?_); rintro e w4 ⟨la', lc', rfl, hl4, hc4, hb4, hm4, ht4⟩; have s4 := HS1.out _ ht4; have HB4 := Lib.hid hb4; have HLC4 := Lib.hid (And.intro hl4 hc4); have HU4 := Lib.hid (HI.out.unb.drew.next hml ht4 hm4); clear hl4 hc4 hb4 hm4 ht4))
        go_wp2_with fail
        go_roundw
        case rel => exact ⟨k + 1, n', l', la', lc', by omega, by go_num, rfl, HLC4, Lib.hid (by have := HM.out; have := HL.out; omega), Lib.hid ⟨HG.out, HN'.out, by have h1 := HL.out; have h2 := HI.out.len; have h3 := HN'.out; omega, HU4.out, HB4.out⟩⟩
        case measure => simp [intOf]; omega
      · have HG := Lib.hid (hbad er n' hu)
        rw [hu] at HIH2
        unfold UniOut at HIH2
        dsimp only [Option.getD, Option.isSome] at HIH2
        clear hgood hbad hlen hans hu c0 c1 c2 c3 d0 g1 g2 g3 x0 x1 x2 x3 y0 y1 y2 y3
        go_region_held3 (fun W => W.cell? ⟨w.heap.size, 3, none⟩ = some (.slice (some ⟨b1, o1, none⟩) x'.args.length d1) ∧ W.cell? ⟨b1, o1 + k * 4, none⟩ = some (.int .i64 p.kind) ∧ W.cell? ⟨b1, o1 + k * 4 + 1, none⟩ = some (.string p.name) ∧ W.cell? ⟨b1, o1 + k * 4 + 2, none⟩ = some (.int .i64 p.n) ∧ W.cell? ⟨b1, o1 + k * 4 + 3, none⟩ = some (.slice pa p.args.length pc) ∧ W.cell? ⟨w.heap.size + 1, 3, none⟩ = some (.slice (some ⟨b2, o2, none⟩) y'.args.length d2) ∧ W.cell? ⟨b2, o2 + k * 4, none⟩ = some (.int .i64 q.kind) ∧ W.cell? ⟨b2, o2 + k * 4 + 1, none⟩ = some (.string q.name) ∧ W.cell? ⟨b2, o2 + k * 4 + 2, none⟩ = some (.int .i64 q.n) ∧ W.cell? ⟨b2, o2 + k * 4 + 3, none⟩ = some (.slice qa q.args.length qc))
          (first | with_reducible exact s4 | with_reducible exact hS0)
          (first | (go_at_call 23; (with_reducible refine HIH2.out.mono ?_); rintro e w4 ⟨la', lc', rfl, hl4, hc4, hb4, hm4, ht4⟩; have s4 := HS1.out _ ht4; have HU4 := Lib.hid (HI.out.unb.drew.next hml ht4 hm4); clear hl4 hc4 hb4 hm4 ht4))
        go_wp2_with fail
        refine bodyPost_ret (v := .tuple #[.slice none 0 0, .bool false, .int .i64 er]) (by simp [results, Try.results23, go_sem]) rfl ?_
        rw [HG.out]
        exact HU4.out.noneU
    · obtain rfl : k = x'.args.length := by omega
      have HRR : Hid (r = (some L, 0, m)) := Lib.hid (by
        have h := HI.out.ans
        have hkl := HKL.out
        rw [List.drop_of_length_le (by rw [List.length_zip]; omega), uni_nil L m HI.out.le] at h
        exact h.symm)
      go_wp2_with fail
      refine bodyPost_ret (v := .tuple #[.slice la L.length lc, .bool true, .int .i64 0]) (by simp [results, Try.results23, go_sem]) rfl ?_
      rw [HRR.out]
      exact ⟨la, lc, rfl, HLC.out.1, HLC.out.2, HI.out.bds, HI.out.unb.mt, HI.out.unb.turn⟩

/-- The document's own unify makes two terms one as the machine of pairs does. -/
theorem r10_unify (mb N : Nat) (hN : N ≤ 1000000) : ∀ (m : Nat) (bs : List (Int × Tm)) (ab : Option Addr) (cb n : Nat) (x y : Tm) (ax : Option Addr) (cx : Nat) (ay : Option Addr) (cy : Nat) (w : World), 2002 - n ≤ m → n ≤ 2000 → bs.length + (2000 - n) ≤ N → bs.length ≤ cb → cb ≤ maxLen →
    BdsAt w (Old mb w) ab bs → MtAt w mb n → TmP w (Old mb w) x ax cx → TmP w (Old mb w) y ay cy →
    Calls Try.prog 23 #[.pointer (some ⟨mb, 0, none⟩), .slice ab bs.length cb, tmv x ax cx, tmv y ay cy] w (UniOut mb w (uni bs n [(x, y)]))
  | 0, _, _, _, n, _, _, _, _, _, _, _, hm, hn, _, _, _, _, _, _, _ => by omega
  | m + 1, bs, ab, cb, n, x, y, ax, cx, ay, cy, w, hm, hn, hlen, hl, hc, hb, hmt, hx, hy => by
    have hle : bs.length ≤ 1000000 := by omega
    rcases uni_ways bs n x y hn with ⟨x', y', n1, n2, a1, a2, _, h2, h3, h4⟩ | ⟨hno, h⟩
    · have hbo : bothL bs n x y = (x', y', 0, n2) := by
        unfold bothL
        rw [a1]
        dsimp only
        rw [if_neg (by nofun), a2]
      rw [h4]
      unfold uniS
      by_cases kx : x'.kind = 1 <;> by_cases ky : y'.kind = 1
      · by_cases k1 : x'.n = y'.n
        · rw [ustep_same kx ky k1]
          dsimp only
          rw [uni_nil bs n2 h3]
          exact u_same bs ab cb mb n n2 x y x' y' ax cx ay cy w hle hl hc hb hmt hn hx hy hbo kx ky k1
        · by_cases k2 : x'.n < y'.n
          · rw [ustep_right ky (.inr k2)]
            dsimp only
            rw [uni_nil _ n2 h3]
            exact u_right2 bs ab cb mb n n2 x y x' y' ax cx ay cy w hle hl hc hb hmt hn hx hy hbo kx ky k2
          · rw [ustep_left kx (.inr (by omega))]
            dsimp only
            rw [uni_nil _ n2 h3]
            exact u_left2 bs ab cb mb n n2 x y x' y' ax cx ay cy w hle hl hc hb hmt hn hx hy hbo kx ky (by omega)
      · rw [ustep_left kx (.inl ky)]
        dsimp only
        rw [uni_nil _ n2 h3]
        exact u_left1 bs ab cb mb n n2 x y x' y' ax cx ay cy w hle hl hc hb hmt hn hx hy hbo kx ky
      · rw [ustep_right ky (.inl kx)]
        dsimp only
        rw [uni_nil _ n2 h3]
        exact u_right1 bs ab cb mb n n2 x y x' y' ax cx ay cy w hle hl hc hb hmt hn hx hy hbo kx ky
      · by_cases c1 : x'.kind = y'.kind
        · by_cases c2 : x'.name = y'.name
          · by_cases c3 : x'.n = y'.n
            · by_cases c4 : x'.args.length = y'.args.length
              · rw [ustep_args kx ky fun e => by rcases e with e | e | e | e <;> first | exact e c1 | exact e c2 | exact e c3 | exact e c4]
                dsimp only
                rw [List.append_nil]
                exact u_args bs ab cb mb n n2 x y x' y' ax cx ay cy w hle hl hc hb hmt hn hx hy hbo N _ (by omega) h3 kx ky c1 c2 c3 c4 rfl
                  fun L la lc n p q pa pc qa qc W k1 k2 k3 k4 k5 k6 k7 k8 k9 => r10_unify mb N hN m L la lc n p q pa pc qa qc W (by omega) k2 k3 k4 k5 k6 k7 k8 k9
              · rw [ustep_clash kx ky (.inr (.inr (.inr c4)))]
                exact u_clash4 bs ab cb mb n n2 x y x' y' ax cx ay cy w hle hl hc hb hmt hn hx hy hbo kx ky c1 c2 c3 c4
            · rw [ustep_clash kx ky (.inr (.inr (.inl c3)))]
              exact u_clash3 bs ab cb mb n n2 x y x' y' ax cx ay cy w hle hl hc hb hmt hn hx hy hbo kx ky c1 c2 c3
          · rw [ustep_clash kx ky (.inr (.inl c2))]
            exact u_clash2 bs ab cb mb n n2 x y x' y' ax cx ay cy w hle hl hc hb hmt hn hx hy hbo kx ky c1 c2
        · rw [ustep_clash kx ky (.inl c1)]
          exact u_clash1 bs ab cb mb n n2 x y x' y' ax cx ay cy w hle hl hc hb hmt hn hx hy hbo kx ky c1
    · rw [h]
      have hbo : ∃ x' y', bothL bs n x y = (x', y', 140, 2001) := by
        unfold bothL
        rcases meet_out bs n x hn with ⟨h1, _, _, h4⟩ | ⟨h1, _, h3⟩
        · rcases meet_out bs (meetL bs n x).2.2 y h4 with ⟨k1, _⟩ | ⟨k1, _, k3⟩
          · rcases hno with e | e
            · exact absurd h1 e
            · exact absurd k1 e
          · rw [if_neg (by rw [h1]; nofun), k1, k3]; exact ⟨_, _, rfl⟩
        · rw [if_pos (by rw [h1]; nofun), h1, h3]; exact ⟨_, _, rfl⟩
      obtain ⟨x', y', hbo⟩ := hbo
      exact u_err bs ab cb mb n 2001 x y x' y' 140 ax cx ay cy w hle hl hc hb hmt hn hx hy hbo (by decide)

set_option maxRecDepth 100000 in
set_option maxHeartbeats 4000000 in
/-- The document's own Unify. -/
theorem r10_Unify (bs : List (Int × Tm)) (ab : Option Addr) (cb : Nat) (x y : Tm) (ax : Option Addr) (cx : Nat) (ay : Option Addr) (cy : Nat) (w : World) (hlen : bs.length ≤ 100000) (hl : bs.length ≤ cb) (hc : cb ≤ maxLen) (hb : BdsAt w (fun b => b < w.heap.size) ab bs) (hx : TmIn w x ax cx) (hy : TmIn w y ay cy) :
    Calls Try.prog 9 #[.slice ab bs.length cb, tmv x ax cx, tmv y ay cy] w fun e w' => ∃ la lc, e = .returned (.tuple #[.slice la ((uni bs 0 [(x, y)]).1.getD []).length lc, .bool (uni bs 0 [(x, y)]).1.isSome, .int .i64 (uni bs 0 [(x, y)]).2.1]) ∧ ((uni bs 0 [(x, y)]).1.getD []).length ≤ lc ∧ lc ≤ maxLen ∧ BdsAt w' (fun b => b < w'.heap.size) la ((uni bs 0 [(x, y)]).1.getD []) ∧ Below w.heap.size w w' := by
  have HU := Lib.hid (fun W (h : Below w.heap.size w W) (hm : MtAt W (w.heap.size + 2) 0) => r10_unify (w.heap.size + 2) 1000000 (Nat.le_refl _) _ bs ab cb 0 x y ax cx ay cy W (Nat.le_refl _) (Nat.zero_le _) (by omega) hl hc (hb.kept (w' := W) (Q := Old (w.heap.size + 2) W) (fun b hb _ => h.block b hb) fun b hb _ => ⟨Nat.lt_of_lt_of_le hb h.size, by omega⟩) hm (hx.inP.kept (fun b hb _ => h.block b hb) fun b hb _ => ⟨Nat.lt_of_lt_of_le hb h.size, by omega⟩) (hy.inP.kept (fun b hb _ => h.block b hb) fun b hb _ => ⟨Nat.lt_of_lt_of_le hb h.size, by omega⟩))
  clear hb hx hy hc
  generalize uni bs 0 [(x, y)] = r at *
  obtain ⟨l, er, n⟩ := r
  unfold UniOut at HU
  unfold tmv at *
  dsimp only at HU ⊢
  generalize l.getD [] = L at *
  have HB0 := Lib.hid ((((Below.refl w.heap.size w).alloc (Nat.le_refl _) (.cells #[.int .i64 x.kind, .string x.name, .int .i64 x.n, .slice ax x.args.length cx] 25)).alloc (by simp) (.cells #[.int .i64 y.kind, .string y.name, .int .i64 y.n, .slice ay y.args.length cy] 25)).alloc (by simp <;> omega) (.cells #[.int .i64 0] 56))
  have HM0 := Lib.hid (alloc_new ((w.alloc (.cells #[.int .i64 x.kind, .string x.name, .int .i64 x.n, .slice ax x.args.length cx] 25)).alloc (.cells #[.int .i64 y.kind, .string y.name, .int .i64 y.n, .slice ay y.args.length cy] 25)) (.cells #[.int .i64 0] 56))
  go_enter Try.func9, Try.ntmps9
  go_wp2_with fail
  generalize hw0 : ((w.alloc _).alloc _).alloc _ = w0 at *
  have hm0 := HM0.out
  simp only [World.size_alloc] at hm0
  refine (HU.out w0 HB0.out hm0).mono ?_; rintro e w1 ⟨la, lc, rfl, h1, h2, h3, _, h5⟩
  have hz := (Array.getElem?_eq_some_iff.1 hm0).1
  have HR := Lib.hid (below_turnU HB0.out h5 (fun j e => by omega) HB0.out.size)
  have H3 := Lib.hid (h3.kept (w' := w1) (Q := fun b => b < w1.heap.size) (fun _ _ _ => rfl) fun b hb _ => hb.1)
  have H12 := Lib.hid (And.intro h1 h2)
  clear h1 h2 h3 h5 hm0 HM0 hw0
  go_wp2_with fail
  refine bodyPost_ret (v := .tuple #[.slice la L.length lc, .bool l.isSome, .int .i64 er]) (by simp [results, Try.results9, go_sem]) rfl ?_
  exact ⟨la, lc, rfl, H12.out.1, H12.out.2, H3.out, HR.out⟩
end Go.Proofs.Ytlpmofmhcnclhaa
