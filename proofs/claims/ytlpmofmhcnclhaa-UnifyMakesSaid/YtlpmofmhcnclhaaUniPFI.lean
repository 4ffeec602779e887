/-
  Joined texts: UniPF, UniPG, UniPH, UniPI.
-/
import Derived.Test.YtlpmofmhcnclhaaUniPAE
import Derived.Test.YtlpmofmhcnclhaaTermDevCS

/-
  The contract of package unify's own wait.
-/
namespace Go.Proofs.Ytlpmofmhcnclhaa
open Go.RowKit

theorem getU {w : World} {P : Nat → Prop} {b o : Nat} {ts : List Tm} (h : TArgsP w P (some ⟨b, o, none⟩) ts) (i : Nat) (hi : i < ts.length) :
    ∃ ad cap, P b ∧ w.cell? ⟨b, o + i * 4, none⟩ = some (.int .i64 (ts[i]'hi).kind) ∧ w.cell? ⟨b, o + i * 4 + 1, none⟩ = some (.string (ts[i]'hi).name) ∧ w.cell? ⟨b, o + i * 4 + 2, none⟩ = some (.int .i64 (ts[i]'hi).n) ∧
      w.cell? ⟨b, o + i * 4 + 3, none⟩ = some (.slice ad (ts[i]'hi).args.length cap) ∧ TmP w P (ts[i]'hi) ad cap := by
  induction i generalizing o ts with
  | zero =>
    rw [Nat.zero_mul, Nat.add_zero]
    cases h with
    | nil => cases hi
    | cons _ _ k n nm l ts ad cap hp c0 c1 c2 c3 hk hn hm hl hc ha _ => exact ⟨ad, cap, hp, c0, c1, c2, c3, ⟨hk, hn, hm, hl, hc, ha⟩⟩
  | succ i ih =>
    cases h with
    | nil => cases hi
    | cons _ _ k n nm l ts ad cap hp c0 c1 c2 c3 hk hn hm hl hc ha hr =>
      have h9 := ih hr (by simpa using hi)
      rw [show o + (i + 1) * 4 = o + 4 + i * 4 by omega]
      exact h9
theorem addrU {w : World} {P : Nat → Prop} {ad : Option Addr} {ts : List Tm} (h : TArgsP w P ad ts) (hp : 0 < ts.length) : ∃ b o, ad = some ⟨b, o, none⟩ := by
  cases h with
  | nil => cases hp
  | cons b o => exact ⟨b, o, rfl⟩
theorem cell_ltU {w : World} {b o : Nat} {v : Value} (h : w.cell? ⟨b, o, none⟩ = some v) : b < w.heap.size := World.block_lt_of_cell? w ⟨b, o, none⟩ h
theorem step_app_pr {w : World} {ops : Array Oper} {o : Oper} {a : Act} {K : Act → World → Prop} {Q : Exit → Act → World → Prop} {E : Prop} (hgd : o.guard = none) (s x : Operand)
    (ho : o.op = .call { callee := .builtin .append, args := #[s, x], argTypes := #[49, 49] }) {n₀ : Nat} {v : Value} {n : Nat} {xs : List Value} (hs : a.eval s = v) (hown : w.ownsRow n₀ 61 8 v n xs)
    {g c : Nat} {news : List Value} (hx : a.eval x = .slice (some ⟨g, 0, none⟩) 1 c) (hl : news.length = 8) (hnews : ∀ j u, news[j]? = some u → w.cell? ((⟨g, 0, none⟩ : Addr).add j) = some u) (h1 : ∀ u ∈ news, u.oneCell' = true)
    (hn : n ≤ 4000000000) (hbase : n₀ ≤ w.heap.size)
    (h : ∀ g cap w', w'.ownsRow n₀ 61 8 (.slice (some ⟨g, 0, none⟩) (n + 1) cap) (n + 1) (xs ++ news) → w.grownBy w' v.ownBlock → (v.ownBlock = some g ∨ w.heap.size ≤ g) → K (a.put o.dst (.slice (some ⟨g, 0, none⟩) (n + 1) cap)) w') :
    if Region.wanted o (yielded ops a.tmps) = true then Oper.wp Try.prog o a w K Q else E := by
  obtain ⟨i0, hi, hz0, hz1, hz2⟩ := info_partsB infoPr
  exact step_append_lies w hgd s x 49 ho n₀ 61 i0 _ 8 112 Try.underlying49 hi hz0 hz1 hz2 rfl (by decide) v n xs hs hown _ 1 c news hx (by omega) hnews h1 (by decide) (by unfold maxLen; omega) (by omega) hbase _ rfl fun g cap w' a1 a2 a3 _ => h g cap w' a1 a2 (a3.imp id fun e => by omega)
theorem one8U {p : Tm × Tm} {a : Option Addr} {c : Nat} {a' : Option Addr} {c' : Nat} : ∀ u ∈ pcells p a c a' c', u.oneCell' = true := by
  intro u hu; simp [pcells, tcells] at hu; rcases hu with rfl | rfl | rfl | rfl | rfl | rfl | rfl | rfl <;> rfl
theorem news8U {p : Tm × Tm} {a : Option Addr} {c : Nat} {a' : Option Addr} {c' : Nat} {w : World} : ∀ j u, (pcells p a c a' c')[j]? = some u → ((w.alloc (.cells #[.int .i64 p.1.kind, .string p.1.name, .int .i64 p.1.n, .slice a p.1.args.length c, .int .i64 p.2.kind, .string p.2.name, .int .i64 p.2.n, .slice a' p.2.args.length c'] 61)).drew).cell? ((⟨w.heap.size, 0, none⟩ : Addr).add j) = some u := by
  intro j u hj
  show (w.alloc _).cell? _ = _
  rw [addr_atB, Nat.zero_add, World.cell?_alloc_at _ _ _ _ rfl, ← hj, ← List.getElem?_toArray]; rfl
theorem zip_step {xs ys : List Tm} {k : Nat} (hx : k < xs.length) (hy : k < ys.length) : List.zip (xs.drop k) (ys.drop k) = (xs[k], ys[k]) :: List.zip (xs.drop (k + 1)) (ys.drop (k + 1)) := by
  rw [List.drop_eq_getElem_cons hx, List.drop_eq_getElem_cons hy]; rfl
/-- Within wait: k pairs of Args don't wait yet. -/
structure WtI (n₀ q : Nat) (full : Bool) (bs : Bds) (left : Nat) (L : List (Tm × Tm)) (xs ys : List Tm) (ax ay : Option Addr) (w : World) (k : Nat) (S : WS) (M : List (Tm × Tm)) (W : World) : Prop where
  eq : M = List.zip (xs.drop k) (ys.drop k) ++ L
  wk : Wk n₀ q full S bs left M W
  px : TArgsP W (UFree q S) ax xs
  py : TArgsP W (UFree q S) ay ys
  below : Below n₀ w W
theorem WtI.step {n₀ q : Nat} {full : Bool} {bs : Bds} {left : Nat} {L : List (Tm × Tm)} {xs ys : List Tm} {ax ay : Option Addr} {w : World} {k : Nat} {S : WS} {M : List (Tm × Tm)} {W w' W9 : World} {a a' : Option Addr} {c c' g cap : Nat} {zs : List Value} (h : WtI n₀ q full bs left L xs ys ax ay w (k + 1) S M W) (hx : k < xs.length) (hy : k < ys.length) (hb : Below W.heap.size W w') (hw : n₀ ≤ W.heap.size) (hrow : PRow W (UFree q S) zs M.reverse) (h1 : TmP W (UFree q S) xs[k] a c) (h2 : TmP W (UFree q S) ys[k] a' c')
    (ho : W9.ownsRow n₀ 61 8 (.slice (some ⟨g, 0, none⟩) (M.length + 1) cap) (M.length + 1) (zs ++ pcells (xs[k], ys[k]) a c a' c')) (hg : w'.grownBy W9 S.s) (hat : S.s = some g ∨ w'.heap.size ≤ g) :
    WtI n₀ q full bs left L xs ys ax ay w k { S with aw := some ⟨g, 0, none⟩, cw := cap, s := some g } ((xs[k], ys[k]) :: M) (W9.setCell ⟨q, 2, none⟩ (.slice (some ⟨g, 0, none⟩) (M.length + 1) cap)) := by
  obtain ⟨e1, e2⟩ := h.wk.waited (p := (xs[k], ys[k])) hb hrow h1 h2 ho hg hat
  have hlow := h.wk.low
  refine ⟨by rw [zip_step hx hy, h.eq]; rfl, e1, h.px.kept (fun b hf hl => (e2 b hf hl).1) fun b hf hl => (e2 b hf hl).2, h.py.kept (fun b hf hl => (e2 b hf hl).1) fun b hf hl => (e2 b hf hl).2, ?_⟩
  exact ((h.below.trans (hb.mono hw)).grown hg (by have := hb.size; omega) fun k hk => (h.wk.slt k hk).1).setCell (p := ⟨q, 2, none⟩) hlow _

set_option maxRecDepth 100000 in
set_option maxHeartbeats 16000000 in
theorem um_wait {n₀ q left : Nat} {full : Bool} {S : WS} {bs : Bds} {L : List (Tm × Tm)} (xs ys : List Tm) (ax ay : Option Addr) (cx cy : Nat) (w : World) (hw : n₀ ≤ w.heap.size) (h : Wk n₀ q full S bs left L w) (hl : xs.length = ys.length) (hx1 : xs.length ≤ 1000000) (hL : L.length ≤ 3000000000) (hx : TArgsP w (UFree q S) ax xs) (hy : TArgsP w (UFree q S) ay ys) :
    Calls Try.prog 26 #[.pointer (some ⟨q, 0, none⟩), .slice ax xs.length cx, .slice ay xs.length cy] w (WkO n₀ q full bs left (List.zip xs ys ++ L) w (.tuple #[])) := by
  have HI : Hid (WtI n₀ q full bs left L xs ys ax ay w xs.length S L w) := Lib.hid ⟨by rw [List.drop_of_length_le (Nat.le_refl _)]; rfl, h, hx, hy, Below.refl _ w⟩
  have HL := Lib.hid hl
  clear h hx hy hl
  have hwr : ∀ k : Nat, k ≤ xs.length → IntKind.i64.wrap ((k : Int) - 1) = (k : Int) - 1 := fun k hk => IntWalk.i64_in _ (by omega)
  have hw0 := hwr xs.length (Nat.le_refl _)
  go_enter Try.func26, Try.ntmps26
  go_wp2_with fail
  go_loopw [6] (fun iv wr => ∃ k S M, k ≤ xs.length ∧ iv = .int .i64 ((k : Int) - 1) ∧ Hid (WtI n₀ q full bs left L xs ys ax ay w k S M wr)) (fun iv _ => (intOf iv + 1).toNat)
  case atStart => exact ⟨xs.length, S, L, Nat.le_refl _, by first | rfl | (simp), HI⟩
  case round =>
    clear HI hw0
    obtain ⟨k, S, M, hk, rfl, HI⟩ := hrel
    cases k with
    | zero =>
      go_wp2_with fail
      go_end0
      have h := HI.out
      refine ⟨S, rfl, ?_, h.below⟩
      rw [← show M = List.zip xs ys ++ L from h.eq]
      exact h.wk
    | succ k =>
      have hk1 : k < xs.length := hk
      have hk2 : k < ys.length := HL.out ▸ hk1
      obtain ⟨bx, ox, rfl⟩ := addrU HI.out.px (by omega)
      obtain ⟨bY, oY, rfl⟩ := addrU HI.out.py (by omega)
      obtain ⟨a1, c1, _, x0, x1, x2, x3, hxp⟩ := getU HI.out.px k hk1
      obtain ⟨a2, c2, _, y0, y1, y2, y3, hyp⟩ := getU HI.out.py k hk2
      obtain ⟨zs, hown, hrow⟩ := HI.out.wk.wts
      have hbs := HI.out.below.size
      have hml : M.length ≤ 4000000000 := by
        rw [HI.out.eq, List.length_append, List.length_zip, List.length_drop, List.length_drop]
        omega
      have hwl := HI.out.wk.lt
      have HST := Lib.hid (fun (w' W9 : World) (g cap : Nat) hb ho hg hat => WtI.step (w' := w') (W9 := W9) (g := g) (cap := cap) (zs := zs) HI.out hk1 hk2 hb (Nat.le_trans hw hbs) hrow hxp hyp ho hg hat)
      have hblk := HI.out.wk.blk
      have hws := HI.out.wk.ws
      have hns := HI.out.wk.ns
      clear hrow hxp hyp HI
      generalize xs[k] = X at *
      generalize ys[k]'hk2 = Y at *
      rw [show ((k + 1 : Nat) : Int) - 1 = (k : Int) by omega]
      have hk0 : (0 : Int) ≤ (k : Int) := by omega
      have hki : (k : Int) < (xs.length : Int) := by omega
      have hwk := hwr k (by omega)
      obtain ⟨q0, q1, q2, qf0, qf1, qf2⟩ := cells3U hblk
      have HOW := Lib.hid (fun W (hb : Below wr.heap.size wr W) => ownsRow_keptP (w' := W) hown fun b _ hl => hb.block b hl)
      have HB1 : Hid (∀ o : Obj, Below wr.heap.size wr (wr.alloc o).drew) := Lib.hid (fun o => ((Below.refl _ wr).alloc (Nat.le_refl _) o).drew)
      have HQ9 : Hid (∀ (o : Obj) (W9 : World), (wr.alloc o).drew.grownBy W9 (Value.slice S.aw M.length S.cw).ownBlock → W9.heap[q]? = some (wkC S bs left M)) := Lib.hid (fun o W9 hg => by
        have h1 := HB1.out o
        have h2 := h1.size
        rw [hg.block q (by omega) (fun e => hns (hws.trans e.symm)), h1.block q hwl, hblk]; rfl)
      have hz : ∀ o : Obj, n₀ ≤ (wr.alloc o).drew.heap.size := fun o => Nat.le_trans (Nat.le_trans hw hbs) (HB1.out o).size
      obtain ⟨z0, z1, z2, zf0, zf1, zf2⟩ := cells3U (keptR9 ((Below.refl _ wr).alloc (Nat.le_refl _) (.cells #[.int .i64 X.kind, .string X.name, .int .i64 X.n, .slice a1 X.args.length c1, .int .i64 Y.kind, .string Y.name, .int .i64 Y.n, .slice a2 Y.args.length c2] 61)) hblk)
      have HWS := Lib.hid hws
      clear hblk hown hws hns
      go_upto_region 3 with fail
      go_region_law (refine step_app_pr (by rfl) (.tmp 21) (.tmp 31) (by rfl) (by rfl) (HOW.out _ (HB1.out _)) (by rfl) (by rfl) (news8U (p := (X, Y))) one8U hml (hz _) ?_; intro g9 cap9 W9 hown9 hgrow9 hat9; obtain ⟨p0, p1, p2, pf0, pf1, pf2⟩ := cells3U (HQ9.out _ W9 hgrow9))
      all_goals
        have HN := Lib.hid (HST.out _ W9 g9 cap9 (HB1.out _) hown9 (HWS.out ▸ hgrow9) (HWS.out ▸ hat9))
        clear hown9 hgrow9 hat9 HST HOW HQ9 HB1 z0 z1 z2 zf0 zf1 zf2 q0 q1 q2 qf0 qf1 qf2
        go_wp2_with fail
        go_roundw
        case rel => exact ⟨k, _, _, by omega, rfl, HN⟩
        case measure => simp [intOf] <;> omega
theorem um_waits2 {n₀ q left : Nat} {full : Bool} {S : WS} {bs : Bds} {L : List (Tm × Tm)} (xs ys : List Tm) (ax ay : Option Addr) (cx cy : Nat) (w : World) (hw : n₀ ≤ w.heap.size) (h : Wk n₀ q full S bs left L w) (hl : xs.length = ys.length) (hx1 : xs.length ≤ 1000000) (hL : L.length ≤ 3000000000) (hx : TArgsP w (UFree q S) ax xs) (hy : TArgsP w (UFree q S) ay ys) :
    Calls Try.prog 26 #[.pointer (some ⟨q, 0, none⟩), .slice ax xs.length cx, .slice ay ys.length cy] w (WkO n₀ q full bs left (List.zip xs ys ++ L) w (.tuple #[])) := by
  rw [← hl]
  exact um_wait xs ys ax ay cx cy w hw h hl hx1 hL hx hy
end Go.Proofs.Ytlpmofmhcnclhaa

/-
  The contract of package unify's own makeOne, a theorem a way (gen/genUniPG.py).
-/
namespace Go.Proofs.Ytlpmofmhcnclhaa
open Go.RowKit

/-- What two terms that were met leave: whether they can be one; the bindings; the pairs that wait. -/
def mkR (bs : Bds) (L : List (Tm × Tm)) (x y : Tm) : Bool × Bds × List (Tm × Tm) := match ustep x y with
  | .same => (true, bs, L)
  | .bind v t => (true, bs ++ [(v, t)], L)
  | .args => (true, bs, List.zip x.args y.args ++ L)
  | .clash => (false, bs, L)
/-- Within makeOne: two boxes, the work, both terms. -/
structure MkI (n₀ q : Nat) (S : WS) (bs : Bds) (left : Nat) (L : List (Tm × Tm)) (w : World) (x : Tm) (ax : Option Addr) (cx : Nat) (y : Tm) (ay : Option Addr) (cy : Nat) (W : World) : Prop where
  bx : W.heap[w.heap.size]? = some (.cells #[.int .i64 x.kind, .string x.name, .int .i64 x.n, .slice ax x.args.length cx] 25 (0, 0))
  bz : W.heap[w.heap.size + 1]? = some (.cells #[.int .i64 y.kind, .string y.name, .int .i64 y.n, .slice ay y.args.length cy] 25 (0, 0))
  wk : Wk n₀ q true S bs left L W
  px : TmP W (UFree q S) x ax cx
  py : TmP W (UFree q S) y ay cy
  below : Below w.heap.size w W
theorem MkI.on {n₀ q : Nat} {S : WS} {bs : Bds} {left : Nat} {L : List (Tm × Tm)} {w : World} {x : Tm} {ax : Option Addr} {cx : Nat} {y : Tm} {ay : Option Addr} {cy : Nat} {W W' : World} (h : MkI n₀ q S bs left L w x ax cx y ay cy W) (hb : Below W.heap.size W W') : MkI n₀ q S bs left L w x ax cx y ay cy W' :=
  ⟨keptR9 hb h.bx, keptR9 hb h.bz, h.wk.on hb, h.px.onS hb, h.py.onS hb, h.below.trans (hb.mono h.below.size)⟩
theorem MkI.start {n₀ q : Nat} {S : WS} {bs : Bds} {left : Nat} {L : List (Tm × Tm)} {w : World} {x : Tm} {ax : Option Addr} {cx : Nat} {y : Tm} {ay : Option Addr} {cy : Nat} (h : Wk n₀ q true S bs left L w) (hx : TmP w (UFree q S) x ax cx) (hy : TmP w (UFree q S) y ay cy) :
    MkI n₀ q S bs left L w x ax cx y ay cy ((w.alloc (.cells #[.int .i64 x.kind, .string x.name, .int .i64 x.n, .slice ax x.args.length cx] 25)).alloc (.cells #[.int .i64 y.kind, .string y.name, .int .i64 y.n, .slice ay y.args.length cy] 25)) := by
  have hb : ∀ o1 o2 : Obj, Below w.heap.size w ((w.alloc o1).alloc o2) := fun o1 o2 => ((Below.refl _ w).alloc (Nat.le_refl _) o1).alloc (by simp) o2
  exact ⟨(Below.heap_alloc (w.alloc _) _ _ (by simp)).trans (alloc_new w _), alloc_new2 w _ _, h.on (hb _ _), hx.onS (hb _ _), hy.onS (hb _ _), hb _ _⟩

set_option maxRecDepth 100000 in
set_option maxHeartbeats 8000000 in
theorem mk_same {n₀ q left : Nat} {S : WS} {bs : Bds} {L : List (Tm × Tm)} (x y : Tm) (ax : Option Addr) (cx : Nat) (ay : Option Addr) (cy : Nat) (w : World) (hw : n₀ ≤ w.heap.size) (_hlen : bs.length ≤ 1000000) (_hxa : x.args.length ≤ 1000000) (_hL : L.length ≤ 3000000000) (h : Wk n₀ q true S bs left L w) (hx : TmP w (UFree q S) x ax cx) (hy : TmP w (UFree q S) y ay cy) (hkx : x.kind = 1) (hky : y.kind = 1) (hn : x.n = y.n) :
    Calls Try.prog 20 #[.pointer (some ⟨q, 0, none⟩), tmv x ax cx, tmv y ay cy] w (WkO n₀ q true bs left L w (.bool true)) := by
  have HI := Lib.hid (MkI.start h hx hy)
  have HX := Lib.hid (fun W => um_isVar x ax cx W)
  have HY := Lib.hid (fun W => um_isVar y ay cy W)
  rw [show (x.kind == 1) = true from by simpa using hkx] at HX
  rw [show (y.kind == 1) = true from by simpa using hky] at HY
  have hE : (x.n == y.n) = true := by simpa using hn
  clear hn
  clear h hx hy hkx hky
  unfold tmv at *
  go_enter Try.func20, Try.ntmps20
  go_upto_region 2 with fail
  generalize (w.alloc _).alloc _ = w0 at *
  obtain ⟨x0, x1, x2, x3, _⟩ := cellsT HI.out.bx
  obtain ⟨y0, y1, y2, y3, _⟩ := cellsT HI.out.bz
  go_wp2_with fail
  refine (HX.out _).mono ?_; rintro e w1 ⟨rfl, hb⟩
  replace HI := Lib.hid (HI.out.on hb)
  clear hb x0 x1 x2 x3 y0 y1 y2 y3
  obtain ⟨x0, x1, x2, x3, _⟩ := cellsT HI.out.bx
  obtain ⟨y0, y1, y2, y3, _⟩ := cellsT HI.out.bz
  go_wp2_with fail
  refine (HY.out _).mono ?_; rintro e w2 ⟨rfl, hb⟩
  replace HI := Lib.hid (HI.out.on hb)
  clear hb x0 x1 x2 x3 y0 y1 y2 y3
  obtain ⟨x0, x1, x2, x3, _⟩ := cellsT HI.out.bx
  obtain ⟨y0, y1, y2, y3, _⟩ := cellsT HI.out.bz
  go_wp2_with fail
  go_ret
  exact ⟨S, rfl, HI.out.wk, HI.out.below.mono hw⟩

set_option maxRecDepth 100000 in
set_option maxHeartbeats 8000000 in
theorem mk_right {n₀ q left : Nat} {S : WS} {bs : Bds} {L : List (Tm × Tm)} (x y : Tm) (ax : Option Addr) (cx : Nat) (ay : Option Addr) (cy : Nat) (w : World) (hw : n₀ ≤ w.heap.size) (hlen : bs.length ≤ 1000000) (_hxa : x.args.length ≤ 1000000) (_hL : L.length ≤ 3000000000) (h : Wk n₀ q true S bs left L w) (hx : TmP w (UFree q S) x ax cx) (hy : TmP w (UFree q S) y ay cy) (hkx : x.kind = 1) (hky : y.kind = 1) (hn : y.n < x.n) :
    Calls Try.prog 20 #[.pointer (some ⟨q, 0, none⟩), tmv x ax cx, tmv y ay cy] w (WkO n₀ q true (bs ++ [(x.n, y)]) left L w (.bool true)) := by
  have HI := Lib.hid (MkI.start h hx hy)
  have HX := Lib.hid (fun W => um_isVar x ax cx W)
  have HY := Lib.hid (fun W => um_isVar y ay cy W)
  rw [show (x.kind == 1) = true from by simpa using hkx] at HX
  rw [show (y.kind == 1) = true from by simpa using hky] at HY
  have HXN := Lib.hid hx.n
  have hE : (x.n == y.n) = false := by simp; omega
  have hD : decide (y.n < x.n) = true := decide_eq_true hn
  clear hn
  clear h hx hy hkx hky
  unfold tmv at *
  go_enter Try.func20, Try.ntmps20
  go_upto_region 2 with fail
  generalize (w.alloc _).alloc _ = w0 at *
  obtain ⟨x0, x1, x2, x3, _⟩ := cellsT HI.out.bx
  obtain ⟨y0, y1, y2, y3, _⟩ := cellsT HI.out.bz
  go_wp2_with fail
  refine (HX.out _).mono ?_; rintro e w1 ⟨rfl, hb⟩
  replace HI := Lib.hid (HI.out.on hb)
  clear hb x0 x1 x2 x3 y0 y1 y2 y3
  obtain ⟨x0, x1, x2, x3, _⟩ := cellsT HI.out.bx
  obtain ⟨y0, y1, y2, y3, _⟩ := cellsT HI.out.bz
  go_wp2_with fail
  refine (HY.out _).mono ?_; rintro e w2 ⟨rfl, hb⟩
  replace HI := Lib.hid (HI.out.on hb)
  clear hb x0 x1 x2 x3 y0 y1 y2 y3
  obtain ⟨x0, x1, x2, x3, _⟩ := cellsT HI.out.bx
  obtain ⟨y0, y1, y2, y3, _⟩ := cellsT HI.out.bz
  go_wp2_with fail
  refine (HX.out _).mono ?_; rintro e w3 ⟨rfl, hb⟩
  replace HI := Lib.hid (HI.out.on hb)
  clear hb x0 x1 x2 x3 y0 y1 y2 y3
  obtain ⟨x0, x1, x2, x3, _⟩ := cellsT HI.out.bx
  obtain ⟨y0, y1, y2, y3, _⟩ := cellsT HI.out.bz
  go_wp2_with fail
  refine (HY.out _).mono ?_; rintro e w4 ⟨rfl, hb⟩
  replace HI := Lib.hid (HI.out.on hb)
  clear hb x0 x1 x2 x3 y0 y1 y2 y3
  obtain ⟨x0, x1, x2, x3, _⟩ := cellsT HI.out.bx
  obtain ⟨y0, y1, y2, y3, _⟩ := cellsT HI.out.bz
  go_wp2_with fail
  have hsw := HI.out.below.size
  have HB := Lib.hid (um_bind x.n y ay cy _ (Nat.le_trans hw hsw) hlen HI.out.wk HXN.out HI.out.py)
  unfold WkO tmv at HB
  refine HB.out.mono ?_; rintro e w9 ⟨S', rfl, hwk, hb9⟩
  have HWK := Lib.hid hwk
  have HB9 := Lib.hid ((HI.out.below.mono hw).trans hb9)
  clear hwk hb9 HB x0 x1 x2 x3 y0 y1 y2 y3
  go_wp2_with fail
  go_ret
  exact ⟨S', rfl, HWK.out, HB9.out⟩

set_option maxRecDepth 100000 in
set_option maxHeartbeats 8000000 in
theorem mk_left {n₀ q left : Nat} {S : WS} {bs : Bds} {L : List (Tm × Tm)} (x y : Tm) (ax : Option Addr) (cx : Nat) (ay : Option Addr) (cy : Nat) (w : World) (hw : n₀ ≤ w.heap.size) (hlen : bs.length ≤ 1000000) (_hxa : x.args.length ≤ 1000000) (_hL : L.length ≤ 3000000000) (h : Wk n₀ q true S bs left L w) (hx : TmP w (UFree q S) x ax cx) (hy : TmP w (UFree q S) y ay cy) (hkx : x.kind = 1) (hky : y.kind = 1) (hn : x.n < y.n) :
    Calls Try.prog 20 #[.pointer (some ⟨q, 0, none⟩), tmv x ax cx, tmv y ay cy] w (WkO n₀ q true (bs ++ [(y.n, x)]) left L w (.bool true)) := by
  have HI := Lib.hid (MkI.start h hx hy)
  have HX := Lib.hid (fun W => um_isVar x ax cx W)
  have HY := Lib.hid (fun W => um_isVar y ay cy W)
  rw [show (x.kind == 1) = true from by simpa using hkx] at HX
  rw [show (y.kind == 1) = true from by simpa using hky] at HY
  have HYN := Lib.hid hy.n
  have hE : (x.n == y.n) = false := by simp; omega
  have hD : decide (y.n < x.n) = false := decide_eq_false (by omega)
  clear hn
  clear h hx hy hkx hky
  unfold tmv at *
  go_enter Try.func20, Try.ntmps20
  go_upto_region 2 with fail
  generalize (w.alloc _).alloc _ = w0 at *
  obtain ⟨x0, x1, x2, x3, _⟩ := cellsT HI.out.bx
  obtain ⟨y0, y1, y2, y3, _⟩ := cellsT HI.out.bz
  go_wp2_with fail
  refine (HX.out _).mono ?_; rintro e w1 ⟨rfl, hb⟩
  replace HI := Lib.hid (HI.out.on hb)
  clear hb x0 x1 x2 x3 y0 y1 y2 y3
  obtain ⟨x0, x1, x2, x3, _⟩ := cellsT HI.out.bx
  obtain ⟨y0, y1, y2, y3, _⟩ := cellsT HI.out.bz
  go_wp2_with fail
  refine (HY.out _).mono ?_; rintro e w2 ⟨rfl, hb⟩
  replace HI := Lib.hid (HI.out.on hb)
  clear hb x0 x1 x2 x3 y0 y1 y2 y3
  obtain ⟨x0, x1, x2, x3, _⟩ := cellsT HI.out.bx
  obtain ⟨y0, y1, y2, y3, _⟩ := cellsT HI.out.bz
  go_wp2_with fail
  refine (HX.out _).mono ?_; rintro e w3 ⟨rfl, hb⟩
  replace HI := Lib.hid (HI.out.on hb)
  clear hb x0 x1 x2 x3 y0 y1 y2 y3
  obtain ⟨x0, x1, x2, x3, _⟩ := cellsT HI.out.bx
  obtain ⟨y0, y1, y2, y3, _⟩ := cellsT HI.out.bz
  go_wp2_with fail
  refine (HY.out _).mono ?_; rintro e w4 ⟨rfl, hb⟩
  replace HI := Lib.hid (HI.out.on hb)
  clear hb x0 x1 x2 x3 y0 y1 y2 y3
  obtain ⟨x0, x1, x2, x3, _⟩ := cellsT HI.out.bx
  obtain ⟨y0, y1, y2, y3, _⟩ := cellsT HI.out.bz
  go_wp2_with fail
  refine (HY.out _).mono ?_; rintro e w5 ⟨rfl, hb⟩
  replace HI := Lib.hid (HI.out.on hb)
  clear hb x0 x1 x2 x3 y0 y1 y2 y3
  obtain ⟨x0, x1, x2, x3, _⟩ := cellsT HI.out.bx
  obtain ⟨y0, y1, y2, y3, _⟩ := cellsT HI.out.bz
  go_wp2_with fail
  have hsw := HI.out.below.size
  have HB := Lib.hid (um_bind y.n x ax cx _ (Nat.le_trans hw hsw) hlen HI.out.wk HYN.out HI.out.px)
  unfold WkO tmv at HB
  refine HB.out.mono ?_; rintro e w9 ⟨S', rfl, hwk, hb9⟩
  have HWK := Lib.hid hwk
  have HB9 := Lib.hid ((HI.out.below.mono hw).trans hb9)
  clear hwk hb9 HB x0 x1 x2 x3 y0 y1 y2 y3
  go_wp2_with fail
  go_ret
  exact ⟨S', rfl, HWK.out, HB9.out⟩

set_option maxRecDepth 100000 in
set_option maxHeartbeats 8000000 in
theorem mk_right1 {n₀ q left : Nat} {S : WS} {bs : Bds} {L : List (Tm × Tm)} (x y : Tm) (ax : Option Addr) (cx : Nat) (ay : Option Addr) (cy : Nat) (w : World) (hw : n₀ ≤ w.heap.size) (hlen : bs.length ≤ 1000000) (_hxa : x.args.length ≤ 1000000) (_hL : L.length ≤ 3000000000) (h : Wk n₀ q true S bs left L w) (hx : TmP w (UFree q S) x ax cx) (hy : TmP w (UFree q S) y ay cy) (hkx : x.kind = 1) (hky : y.kind ≠ 1) :
    Calls Try.prog 20 #[.pointer (some ⟨q, 0, none⟩), tmv x ax cx, tmv y ay cy] w (WkO n₀ q true (bs ++ [(x.n, y)]) left L w (.bool true)) := by
  have HI := Lib.hid (MkI.start h hx hy)
  have HX := Lib.hid (fun W => um_isVar x ax cx W)
  have HY := Lib.hid (fun W => um_isVar y ay cy W)
  rw [show (x.kind == 1) = true from by simpa using hkx] at HX
  rw [show (y.kind == 1) = false from by simpa using hky] at HY
  have HXN := Lib.hid hx.n
  clear h hx hy hkx hky
  unfold tmv at *
  go_enter Try.func20, Try.ntmps20
  go_upto_region 2 with fail
  generalize (w.alloc _).alloc _ = w0 at *
  obtain ⟨x0, x1, x2, x3, _⟩ := cellsT HI.out.bx
  obtain ⟨y0, y1, y2, y3, _⟩ := cellsT HI.out.bz
  go_wp2_with fail
  refine (HX.out _).mono ?_; rintro e w1 ⟨rfl, hb⟩
  replace HI := Lib.hid (HI.out.on hb)
  clear hb x0 x1 x2 x3 y0 y1 y2 y3
  obtain ⟨x0, x1, x2, x3, _⟩ := cellsT HI.out.bx
  obtain ⟨y0, y1, y2, y3, _⟩ := cellsT HI.out.bz
  go_wp2_with fail
  refine (HY.out _).mono ?_; rintro e w2 ⟨rfl, hb⟩
  replace HI := Lib.hid (HI.out.on hb)
  clear hb x0 x1 x2 x3 y0 y1 y2 y3
  obtain ⟨x0, x1, x2, x3, _⟩ := cellsT HI.out.bx
  obtain ⟨y0, y1, y2, y3, _⟩ := cellsT HI.out.bz
  go_wp2_with fail
  refine (HX.out _).mono ?_; rintro e w3 ⟨rfl, hb⟩
  replace HI := Lib.hid (HI.out.on hb)
  clear hb x0 x1 x2 x3 y0 y1 y2 y3
  obtain ⟨x0, x1, x2, x3, _⟩ := cellsT HI.out.bx
  obtain ⟨y0, y1, y2, y3, _⟩ := cellsT HI.out.bz
  go_wp2_with fail
  refine (HY.out _).mono ?_; rintro e w4 ⟨rfl, hb⟩
  replace HI := Lib.hid (HI.out.on hb)
  clear hb x0 x1 x2 x3 y0 y1 y2 y3
  obtain ⟨x0, x1, x2, x3, _⟩ := cellsT HI.out.bx
  obtain ⟨y0, y1, y2, y3, _⟩ := cellsT HI.out.bz
  go_wp2_with fail
  have hsw := HI.out.below.size
  have HB := Lib.hid (um_bind x.n y ay cy _ (Nat.le_trans hw hsw) hlen HI.out.wk HXN.out HI.out.py)
  unfold WkO tmv at HB
  refine HB.out.mono ?_; rintro e w9 ⟨S', rfl, hwk, hb9⟩
  have HWK := Lib.hid hwk
  have HB9 := Lib.hid ((HI.out.below.mono hw).trans hb9)
  clear hwk hb9 HB x0 x1 x2 x3 y0 y1 y2 y3
  go_wp2_with fail
  go_ret
  exact ⟨S', rfl, HWK.out, HB9.out⟩

set_option maxRecDepth 100000 in
set_option maxHeartbeats 8000000 in
theorem mk_left1 {n₀ q left : Nat} {S : WS} {bs : Bds} {L : List (Tm × Tm)} (x y : Tm) (ax : Option Addr) (cx : Nat) (ay : Option Addr) (cy : Nat) (w : World) (hw : n₀ ≤ w.heap.size) (hlen : bs.length ≤ 1000000) (_hxa : x.args.length ≤ 1000000) (_hL : L.length ≤ 3000000000) (h : Wk n₀ q true S bs left L w) (hx : TmP w (UFree q S) x ax cx) (hy : TmP w (UFree q S) y ay cy) (hkx : x.kind ≠ 1) (hky : y.kind = 1) :
    Calls Try.prog 20 #[.pointer (some ⟨q, 0, none⟩), tmv x ax cx, tmv y ay cy] w (WkO n₀ q true (bs ++ [(y.n, x)]) left L w (.bool true)) := by
  have HI := Lib.hid (MkI.start h hx hy)
  have HX := Lib.hid (fun W => um_isVar x ax cx W)
  have HY := Lib.hid (fun W => um_isVar y ay cy W)
  rw [show (x.kind == 1) = false from by simpa using hkx] at HX
  rw [show (y.kind == 1) = true from by simpa using hky] at HY
  have HYN := Lib.hid hy.n
  clear h hx hy hkx hky
  unfold tmv at *
  go_enter Try.func20, Try.ntmps20
  go_upto_region 2 with fail
  generalize (w.alloc _).alloc _ = w0 at *
  obtain ⟨x0, x1, x2, x3, _⟩ := cellsT HI.out.bx
  obtain ⟨y0, y1, y2, y3, _⟩ := cellsT HI.out.bz
  go_wp2_with fail
  refine (HX.out _).mono ?_; rintro e w1 ⟨rfl, hb⟩
  replace HI := Lib.hid (HI.out.on hb)
  clear hb x0 x1 x2 x3 y0 y1 y2 y3
  obtain ⟨x0, x1, x2, x3, _⟩ := cellsT HI.out.bx
  obtain ⟨y0, y1, y2, y3, _⟩ := cellsT HI.out.bz
  go_wp2_with fail
  refine (HX.out _).mono ?_; rintro e w2 ⟨rfl, hb⟩
  replace HI := Lib.hid (HI.out.on hb)
  clear hb x0 x1 x2 x3 y0 y1 y2 y3
  obtain ⟨x0, x1, x2, x3, _⟩ := cellsT HI.out.bx
  obtain ⟨y0, y1, y2, y3, _⟩ := cellsT HI.out.bz
  go_wp2_with fail
  refine (HY.out _).mono ?_; rintro e w3 ⟨rfl, hb⟩
  replace HI := Lib.hid (HI.out.on hb)
  clear hb x0 x1 x2 x3 y0 y1 y2 y3
  obtain ⟨x0, x1, x2, x3, _⟩ := cellsT HI.out.bx
  obtain ⟨y0, y1, y2, y3, _⟩ := cellsT HI.out.bz
  go_wp2_with fail
  have hsw := HI.out.below.size
  have HB := Lib.hid (um_bind y.n x ax cx _ (Nat.le_trans hw hsw) hlen HI.out.wk HYN.out HI.out.px)
  unfold WkO tmv at HB
  refine HB.out.mono ?_; rintro e w9 ⟨S', rfl, hwk, hb9⟩
  have HWK := Lib.hid hwk
  have HB9 := Lib.hid ((HI.out.below.mono hw).trans hb9)
  clear hwk hb9 HB x0 x1 x2 x3 y0 y1 y2 y3
  go_wp2_with fail
  go_ret
  exact ⟨S', rfl, HWK.out, HB9.out⟩

set_option maxRecDepth 100000 in
set_option maxHeartbeats 8000000 in
theorem mk_args {n₀ q left : Nat} {S : WS} {bs : Bds} {L : List (Tm × Tm)} (x y : Tm) (ax : Option Addr) (cx : Nat) (ay : Option Addr) (cy : Nat) (w : World) (hw : n₀ ≤ w.heap.size) (_hlen : bs.length ≤ 1000000) (hxa : x.args.length ≤ 1000000) (hL : L.length ≤ 3000000000) (h : Wk n₀ q true S bs left L w) (hx : TmP w (UFree q S) x ax cx) (hy : TmP w (UFree q S) y ay cy) (hkx : x.kind ≠ 1) (hky : y.kind ≠ 1) (hal : alkU x y = true) :
    Calls Try.prog 20 #[.pointer (some ⟨q, 0, none⟩), tmv x ax cx, tmv y ay cy] w (WkO n₀ q true bs left (List.zip x.args y.args ++ L) w (.bool true)) := by
  have HI := Lib.hid (MkI.start h hx hy)
  have HX := Lib.hid (fun W => um_isVar x ax cx W)
  have HY := Lib.hid (fun W => um_isVar y ay cy W)
  rw [show (x.kind == 1) = false from by simpa using hkx] at HX
  rw [show (y.kind == 1) = false from by simpa using hky] at HY
  have HAL := Lib.hid (fun W => um_alike x y ax ay cx cy W)
  rw [hal] at HAL
  have HAR := Lib.hid ((alkU_iff x y).1 hal).2.2.2
  clear hal
  clear h hx hy hkx hky
  unfold tmv at *
  go_enter Try.func20, Try.ntmps20
  go_upto_region 2 with fail
  generalize (w.alloc _).alloc _ = w0 at *
  obtain ⟨x0, x1, x2, x3, _⟩ := cellsT HI.out.bx
  obtain ⟨y0, y1, y2, y3, _⟩ := cellsT HI.out.bz
  go_wp2_with fail
  refine (HX.out _).mono ?_; rintro e w1 ⟨rfl, hb⟩
  replace HI := Lib.hid (HI.out.on hb)
  clear hb x0 x1 x2 x3 y0 y1 y2 y3
  obtain ⟨x0, x1, x2, x3, _⟩ := cellsT HI.out.bx
  obtain ⟨y0, y1, y2, y3, _⟩ := cellsT HI.out.bz
  go_wp2_with fail
  refine (HX.out _).mono ?_; rintro e w2 ⟨rfl, hb⟩
  replace HI := Lib.hid (HI.out.on hb)
  clear hb x0 x1 x2 x3 y0 y1 y2 y3
  obtain ⟨x0, x1, x2, x3, _⟩ := cellsT HI.out.bx
  obtain ⟨y0, y1, y2, y3, _⟩ := cellsT HI.out.bz
  go_wp2_with fail
  refine (HY.out _).mono ?_; rintro e w3 ⟨rfl, hb⟩
  replace HI := Lib.hid (HI.out.on hb)
  clear hb x0 x1 x2 x3 y0 y1 y2 y3
  obtain ⟨x0, x1, x2, x3, _⟩ := cellsT HI.out.bx
  obtain ⟨y0, y1, y2, y3, _⟩ := cellsT HI.out.bz
  go_wp2_with fail
  refine (HAL.out _).mono ?_; rintro e w4 ⟨rfl, hb⟩
  replace HI := Lib.hid (HI.out.on hb)
  clear hb x0 x1 x2 x3 y0 y1 y2 y3
  obtain ⟨x0, x1, x2, x3, _⟩ := cellsT HI.out.bx
  obtain ⟨y0, y1, y2, y3, _⟩ := cellsT HI.out.bz
  go_wp2_with fail
  have hsw := HI.out.below.size
  have HB := Lib.hid (um_waits2 x.args y.args ax ay cx cy _ (Nat.le_trans hw hsw) HI.out.wk HAR.out hxa hL HI.out.px.args HI.out.py.args)
  unfold WkO at HB
  refine HB.out.mono ?_; rintro e w9 ⟨S', rfl, hwk, hb9⟩
  have HWK := Lib.hid hwk
  have HB9 := Lib.hid ((HI.out.below.mono hw).trans hb9)
  clear hwk hb9 HB x0 x1 x2 x3 y0 y1 y2 y3
  go_wp2_with fail
  go_ret
  exact ⟨S', rfl, HWK.out, HB9.out⟩

set_option maxRecDepth 100000 in
set_option maxHeartbeats 8000000 in
theorem mk_clash {n₀ q left : Nat} {S : WS} {bs : Bds} {L : List (Tm × Tm)} (x y : Tm) (ax : Option Addr) (cx : Nat) (ay : Option Addr) (cy : Nat) (w : World) (hw : n₀ ≤ w.heap.size) (_hlen : bs.length ≤ 1000000) (_hxa : x.args.length ≤ 1000000) (_hL : L.length ≤ 3000000000) (h : Wk n₀ q true S bs left L w) (hx : TmP w (UFree q S) x ax cx) (hy : TmP w (UFree q S) y ay cy) (hkx : x.kind ≠ 1) (hky : y.kind ≠ 1) (hal : alkU x y = false) :
    Calls Try.prog 20 #[.pointer (some ⟨q, 0, none⟩), tmv x ax cx, tmv y ay cy] w (WkO n₀ q true bs left L w (.bool false)) := by
  have HI := Lib.hid (MkI.start h hx hy)
  have HX := Lib.hid (fun W => um_isVar x ax cx W)
  have HY := Lib.hid (fun W => um_isVar y ay cy W)
  rw [show (x.kind == 1) = false from by simpa using hkx] at HX
  rw [show (y.kind == 1) = false from by simpa using hky] at HY
  have HAL := Lib.hid (fun W => um_alike x y ax ay cx cy W)
  rw [hal] at HAL
  clear hal
  clear h hx hy hkx hky
  unfold tmv at *
  go_enter Try.func20, Try.ntmps20
  go_upto_region 2 with fail
  generalize (w.alloc _).alloc _ = w0 at *
  obtain ⟨x0, x1, x2, x3, _⟩ := cellsT HI.out.bx
  obtain ⟨y0, y1, y2, y3, _⟩ := cellsT HI.out.bz
  go_wp2_with fail
  refine (HX.out _).mono ?_; rintro e w1 ⟨rfl, hb⟩
  replace HI := Lib.hid (HI.out.on hb)
  clear hb x0 x1 x2 x3 y0 y1 y2 y3
  obtain ⟨x0, x1, x2, x3, _⟩ := cellsT HI.out.bx
  obtain ⟨y0, y1, y2, y3, _⟩ := cellsT HI.out.bz
  go_wp2_with fail
  refine (HX.out _).mono ?_; rintro e w2 ⟨rfl, hb⟩
  replace HI := Lib.hid (HI.out.on hb)
  clear hb x0 x1 x2 x3 y0 y1 y2 y3
  obtain ⟨x0, x1, x2, x3, _⟩ := cellsT HI.out.bx
  obtain ⟨y0, y1, y2, y3, _⟩ := cellsT HI.out.bz
  go_wp2_with fail
  refine (HY.out _).mono ?_; rintro e w3 ⟨rfl, hb⟩
  replace HI := Lib.hid (HI.out.on hb)
  clear hb x0 x1 x2 x3 y0 y1 y2 y3
  obtain ⟨x0, x1, x2, x3, _⟩ := cellsT HI.out.bx
  obtain ⟨y0, y1, y2, y3, _⟩ := cellsT HI.out.bz
  go_wp2_with fail
  refine (HAL.out _).mono ?_; rintro e w4 ⟨rfl, hb⟩
  replace HI := Lib.hid (HI.out.on hb)
  clear hb x0 x1 x2 x3 y0 y1 y2 y3
  obtain ⟨x0, x1, x2, x3, _⟩ := cellsT HI.out.bx
  obtain ⟨y0, y1, y2, y3, _⟩ := cellsT HI.out.bz
  go_wp2_with fail
  go_ret
  exact ⟨S, rfl, HI.out.wk, HI.out.below.mono hw⟩

theorem um_makeOne {n₀ q left : Nat} {S : WS} {bs : Bds} {L : List (Tm × Tm)} (x y : Tm) (ax : Option Addr) (cx : Nat) (ay : Option Addr) (cy : Nat) (w : World) (hw : n₀ ≤ w.heap.size) (hlen : bs.length ≤ 1000000) (hxa : x.args.length ≤ 1000000) (hL : L.length ≤ 3000000000) (h : Wk n₀ q true S bs left L w) (hx : TmP w (UFree q S) x ax cx) (hy : TmP w (UFree q S) y ay cy) :
    Calls Try.prog 20 #[.pointer (some ⟨q, 0, none⟩), tmv x ax cx, tmv y ay cy] w (WkO n₀ q true (mkR bs L x y).2.1 left (mkR bs L x y).2.2 w (.bool (mkR bs L x y).1)) := by
  unfold mkR ustep
  by_cases hkx : x.kind = 1
  · by_cases hky : y.kind = 1
    · by_cases hn : x.n = y.n
      · rw [if_pos ⟨hkx, hky, hn⟩]; exact mk_same x y ax cx ay cy w hw hlen hxa hL h hx hy hkx hky hn
      · rw [if_neg (fun e => hn e.2.2)]
        by_cases hl : x.n < y.n
        · rw [if_pos ⟨hky, .inr hl⟩]; exact mk_left x y ax cx ay cy w hw hlen hxa hL h hx hy hkx hky hl
        · rw [if_neg (fun e => e.2.elim (fun k => k hkx) hl), if_pos hkx]; exact mk_right x y ax cx ay cy w hw hlen hxa hL h hx hy hkx hky (by omega)
    · rw [if_neg (fun e => hky e.2.1), if_neg (fun e => hky e.1), if_pos hkx]; exact mk_right1 x y ax cx ay cy w hw hlen hxa hL h hx hy hkx hky
  · rw [if_neg (fun e => hkx e.1)]
    by_cases hky : y.kind = 1
    · rw [if_pos ⟨hky, .inl hkx⟩]; exact mk_left1 x y ax cx ay cy w hw hlen hxa hL h hx hy hkx hky
    · rw [if_neg (fun e => hky e.1), if_neg hkx]
      by_cases hal : alkU x y = true
      · obtain ⟨a1, a2, a3, a4⟩ := (alkU_iff x y).1 hal
        rw [if_neg (fun e => e.elim (fun k => k a1) fun e => e.elim (fun k => k a2) fun e => e.elim (fun k => k a3) fun k => k a4)]
        exact mk_args x y ax cx ay cy w hw hlen hxa hL h hx hy hkx hky hal
      · have hno : x.kind ≠ y.kind ∨ x.name ≠ y.name ∨ x.n ≠ y.n ∨ x.args.length ≠ y.args.length := by
          by_cases a1 : x.kind = y.kind
          · by_cases a2 : x.name = y.name
            · by_cases a3 : x.n = y.n
              · by_cases a4 : x.args.length = y.args.length
                · exact absurd ((alkU_iff x y).2 ⟨a1, a2, a3, a4⟩) hal
                · exact .inr (.inr (.inr a4))
              · exact .inr (.inr (.inl a3))
            · exact .inr (.inl a2)
          · exact .inl a1
        rw [if_pos hno]
        exact mk_clash x y ax cx ay cy w hw hlen hxa hL h hx hy hkx hky (by simpa using hal)
end Go.Proofs.Ytlpmofmhcnclhaa

/-
  The contract of package unify's own own: a list of the same bindings in memory of its own.
-/
namespace Go.Proofs.Ytlpmofmhcnclhaa
open Go.RowKit

theorem run_eql_nilb (w : World) (a : Option Addr) (l c : Nat) : (binOp .eql 22 (.slice a l c) (.slice none 0 0)).run Try.prog w = .ok (.bool a.isNone) w := by
  simp [binOp, run_equal_slice_nil w _ _ a l c Try.underlying22]
theorem run_neq_nilt (w : World) (a : Option Addr) (l c : Nat) : (binOp .neq 23 (.slice a l c) (.slice none 0 0)).run Try.prog w = .ok (.bool (!a.isNone)) w := by
  simp [binOp, run_equal_slice_nil w _ _ a l c Try.underlying23]
attribute [local go_sem] run_eql_nilb run_neq_nilt
/-- What Clone answers: as many, in a new row with the cells xs. -/
def ClonedB (w : World) (n : Nat) (xs : List Value) (e : Ending) (w' : World) : Prop := ∃ ad cap, e = .returned (.slice ad n cap) ∧ w'.ownsRow w.heap.size 34 5 (.slice ad n cap) n xs ∧ Below w.heap.size w w'

set_option maxRecDepth 100000 in
set_option maxHeartbeats 1000000 in
theorem cloneb_nil (w : World) (cap : Nat) : Calls Try.prog 32 #[.slice none 0 cap] w (ClonedB w 0 []) := by
  go_enter Try.func32, Try.ntmps32
  go_wp2_with fail
  go_ret
  exact ⟨none, 0, rfl, World.ownsRow_nil _ _ _ _, Below.refl _ _⟩

set_option maxRecDepth 100000 in
set_option maxHeartbeats 2000000 in
theorem cloneb_some (w : World) (b o n cap : Nat) (xs : List Value) (hl : xs.length = n * 5) (hc : ∀ j u, xs[j]? = some u → w.cell? ⟨b, o + j, none⟩ = some u) (h1 : ∀ u ∈ xs, u.oneCell' = true) (hn : 0 < n) (hm : n ≤ 1000000) :
    Calls Try.prog 32 #[.slice (some ⟨b, o, none⟩) n cap] w (ClonedB w n xs) := by
  obtain ⟨i0, hi, hz0, hz1, hz2⟩ := info_partsB infoBd
  have HC : Hid (∀ o1 : Obj, ∀ j u, xs[j]? = some u → (w.alloc o1).cell? ((⟨b, o, none⟩ : Addr).add j) = some u) := Lib.hid (fun o1 j u hu => by
    have h := hc j u hu
    rw [addr_atB]
    exact (((Below.refl w.heap.size w).alloc (Nat.le_refl _) o1).cell (p := ⟨b, o + j, none⟩) (World.block_lt_of_cell? w ⟨b, o + j, none⟩ h)).trans h)
  have H1 := Lib.hid h1
  have hrow := World.ownsRow_lit (base := w.heap.size) (e := 34) (size := 5) w #[] 0 (Nat.le_refl _) (Nat.zero_le _) rfl
  have HB := Lib.hid ((Below.refl w.heap.size w).alloc (Nat.le_refl _) (.cells #[] 34))
  have HR := Lib.hid hrow
  have HL := Lib.hid hl
  clear hc h1 hrow hl
  go_enter Try.func32, Try.ntmps32
  go_wp2_with (at_builtin; refine wpList_append_lies _ rfl _ _ 22 rfl w.heap.size 34 i0 (.agg #[.int .i64 0, .int .i64 0, .string ⟨#[]⟩, .int .i64 0, .slice none 0 0]) 5 64 Try.underlying22 hi hz0 hz1 hz2 rfl (by decide) _ 0 [] rfl HR.out ⟨b, o, none⟩ n cap xs rfl HL.out (HC.out _) H1.out hn (by unfold maxLen; omega) (by omega) (by simp) (w.heap.size + 1) (by simp) ?_)
  intro g cap' w' hown hgrow hat hlt
  have hb : Below w.heap.size w w' := HB.out.grown hgrow (by simp) (fun k hk => by cases hk; exact Nat.le_refl _)
  have HO := Lib.hid hown
  have HBB := Lib.hid hb
  clear hown hgrow hb
  go_wp2_with fail
  go_ret
  exact ⟨_, _, rfl, HO.out, HBB.out⟩

set_option maxRecDepth 100000 in
set_option maxHeartbeats 1000000 in
theorem cloneb_zero (w : World) (a : Addr) (cap : Nat) : Calls Try.prog 32 #[.slice (some a) 0 cap] w (ClonedB w 0 []) := by
  have HB := Lib.hid ((Below.refl w.heap.size w).alloc (Nat.le_refl _) (.cells #[] 34))
  have HR := Lib.hid (World.ownsRow_lit (base := w.heap.size) (e := 34) (size := 5) w #[] 0 (Nat.le_refl _) (Nat.zero_le _) rfl)
  go_enter Try.func32, Try.ntmps32
  go_wp2_with fail
  go_ret
  exact ⟨_, _, rfl, HR.out, HB.out⟩
/-- A binding's term's cells written over. -/
def bset (xs : List Value) (k : Nat) (t : Tm) (a : Option Addr) (c : Nat) : List Value := (((xs.set (k * 5 + 1) (.int .i64 t.kind)).set (k * 5 + 2) (.string t.name)).set (k * 5 + 3) (.int .i64 t.n)).set (k * 5 + 4) (.slice a t.args.length c)
theorem bset_get {xs : List Value} {k : Nat} {t : Tm} {a : Option Addr} {c : Nat} (j : Nat) (h : j < k * 5 + 1 ∨ k * 5 + 4 < j) : (bset xs k t a c)[j]? = xs[j]? := by
  unfold bset
  rw [List.getElem?_set_ne (by omega), List.getElem?_set_ne (by omega), List.getElem?_set_ne (by omega), List.getElem?_set_ne (by omega)]
theorem BRow.over {w : World} {P : Nat → Prop} {xs : List Value} {bs : Bds} {k : Nat} {a : Option Addr} {c : Nat} (h : BRow w P xs bs) (hk : k < bs.length) (ht : TmP w P bs[k].2 a c) : BRow w P (bset xs k bs[k].2 a c) bs := by
  have hl : (bset xs k bs[k].2 a c).length = bs.length * 5 := by unfold bset; rw [List.length_set, List.length_set, List.length_set, List.length_set, h.1]
  refine ⟨hl, fun i hi => ?_⟩
  obtain ⟨a1, c1, h1, h2⟩ := h.2 i hi
  by_cases e : i = k
  · subst e
    refine ⟨a, c, ⟨h1.1, ht⟩, fun j hj => ?_⟩
    have hx := h.1
    match j, hj with
    | 0, _ => rw [bset_get _ (by omega)]; exact h2 0 (by omega)
    | 1, _ => unfold bset; rw [List.getElem?_set_ne (by omega), List.getElem?_set_ne (by omega), List.getElem?_set_ne (by omega), List.getElem?_set_self (by omega)]; rfl
    | 2, _ => unfold bset; rw [List.getElem?_set_ne (by omega), List.getElem?_set_ne (by omega), List.getElem?_set_self (by rw [List.length_set]; omega)]; rfl
    | 3, _ => unfold bset; rw [List.getElem?_set_ne (by omega), List.getElem?_set_self (by rw [List.length_set, List.length_set]; omega)]; rfl
    | 4, _ => unfold bset; rw [List.getElem?_set_self (by rw [List.length_set, List.length_set, List.length_set]; omega)]; rfl
    | j + 5, hj => omega
  · exact ⟨a1, c1, h1, fun j hj => by rw [bset_get _ (by omega)]; exact h2 j hj⟩
/-- Within own: the row of its own, the bindings in it. -/
structure OwI (bs : Bds) (g n cap : Nat) (w : World) (xs : List Value) (W : World) : Prop where
  own : W.ownsRow w.heap.size 34 5 (.slice (some ⟨g, 0, none⟩) n cap) n xs
  row : BRow W (fun b => b ≠ g) xs bs
  below : Below w.heap.size w W
theorem OwI.step {bs : Bds} {g n cap k : Nat} {w W W' : World} {xs : List Value} {a : Option Addr} {c : Nat} (h : OwI bs g n cap w xs W) (hk : k < bs.length) (hb : Below W.heap.size W W') (ht : TmP W' (fun b => W.heap.size ≤ b) bs[k].2 a c) :
    OwI bs g n cap w (bset xs k bs[k].2 a c) ((((W'.setCell ⟨g, k * 5 + 1, none⟩ (.int .i64 bs[k].2.kind)).setCell ⟨g, k * 5 + 2, none⟩ (.string bs[k].2.name)).setCell ⟨g, k * 5 + 3, none⟩ (.int .i64 bs[k].2.n)).setCell ⟨g, k * 5 + 4, none⟩ (.slice a bs[k].2.args.length c)) := by
  obtain ⟨h1, h2⟩ := h.own.lt g rfl
  have k9 : ∀ b, b ≠ g → ((((W'.setCell ⟨g, k * 5 + 1, none⟩ (.int .i64 bs[k].2.kind)).setCell ⟨g, k * 5 + 2, none⟩ (.string bs[k].2.name)).setCell ⟨g, k * 5 + 3, none⟩ (.int .i64 bs[k].2.n)).setCell ⟨g, k * 5 + 4, none⟩ (.slice a bs[k].2.args.length c)).heap[b]? = W'.heap[b]? := fun b hne => by
    rw [Below.heap_setCell _ _ _ _ (show b ≠ g from hne), Below.heap_setCell _ _ _ _ (show b ≠ g from hne), Below.heap_setCell _ _ _ _ (show b ≠ g from hne), Below.heap_setCell _ _ _ _ (show b ≠ g from hne)]
  refine ⟨?_, ?_, ?_⟩
  · have h0 : W'.ownsRow w.heap.size 34 5 (.slice (some ⟨g, 0, none⟩) n cap) n xs := ownsRow_keptP h.own fun b _ hl => hb.block b hl
    exact ((((h0.stored (k * 5 + 1) (.int .i64 bs[k].2.kind)).1.stored (k * 5 + 2) (.string bs[k].2.name)).1.stored (k * 5 + 3) (.int .i64 bs[k].2.n)).1.stored (k * 5 + 4) (.slice a bs[k].2.args.length c)).1
  · exact ((h.row.kept (Q := fun b => b ≠ g) (fun b _ hl => hb.block b hl) fun _ h _ => h).over hk (ht.kept (Q := fun b => b ≠ g) (fun _ _ _ => rfl) fun b hb' _ => by omega)).kept (fun b hne _ => k9 b hne) fun _ h _ => h
  · exact (((((h.below.trans (hb.mono h.below.size)).setCell (p := ⟨g, k * 5 + 1, none⟩) h1 _).setCell (p := ⟨g, k * 5 + 2, none⟩) h1 _).setCell (p := ⟨g, k * 5 + 3, none⟩) h1 _).setCell (p := ⟨g, k * 5 + 4, none⟩) h1 _)
theorem OwI.at {bs : Bds} {g n cap k : Nat} {w W : World} {xs : List Value} (h : OwI bs g n cap w xs W) (hn : bs.length = n) (hk : k < bs.length) : ∃ a c, TmP W (fun b => b ≠ g) bs[k].2 a c ∧ W.cell? ⟨g, k * 5 + 1, none⟩ = some (.int .i64 bs[k].2.kind) ∧ W.cell? ⟨g, k * 5 + 2, none⟩ = some (.string bs[k].2.name) ∧ W.cell? ⟨g, k * 5 + 3, none⟩ = some (.int .i64 bs[k].2.n) ∧ W.cell? ⟨g, k * 5 + 4, none⟩ = some (.slice a bs[k].2.args.length c) ∧ ∀ j, W.frozen? ⟨g, j, none⟩ = false := by
  obtain ⟨a, c, ⟨_, h1⟩, h2⟩ := h.row.2 k hk
  have c1 : ∀ j, j < 5 → W.cell? ⟨g, k * 5 + j, none⟩ = (bcellsP bs[k] a c)[j]? := fun j hj => by
    rw [h.own.cellAt (k * 5 + j) (by omega)]; exact h2 j hj
  exact ⟨a, c, h1, c1 1 (by omega), c1 2 (by omega), c1 3 (by omega), c1 4 (by omega), fun j => h.own.frozenAt j⟩

set_option maxRecDepth 100000 in
set_option maxHeartbeats 8000000 in
theorem um_own {n₀ q left : Nat} {full : Bool} {S : WS} {bs : Bds} {L : List (Tm × Tm)} (w : World) (hn0 : n₀ ≤ w.heap.size) (hlen : bs.length ≤ 1000000) (hsz : ∀ b ∈ bs, b.2.size ≤ 1000000) (h : Wk n₀ q full S bs left L w) :
    Calls Try.prog 21 #[.slice S.ab bs.length S.cb] w fun e w' => ∃ v, e = .returned v ∧ OwnBds (fun b => b < w'.heap.size) w.heap.size w' v bs ∧ Below w.heap.size w w' := by
  have HZ := Lib.hid hsz
  have HC : Hid (∃ xs, BRow w (fun b => b < w.heap.size) xs bs ∧ Calls Try.prog 32 #[.slice S.ab bs.length S.cb] w (ClonedB w bs.length xs)) := Lib.hid (by
    obtain ⟨_, _, hat⟩ := h.at hn0
    obtain ⟨xs, h1, h2, h3⟩ := brow_of hat bs.length (Nat.le_refl _)
    rw [List.take_length] at h1
    refine ⟨xs, h1, ?_⟩
    by_cases hz : bs.length = 0
    · have hxs : xs = [] := List.eq_nil_of_length_eq_zero (by rw [h1.1, hz])
      rw [hz, hxs]
      cases S.ab with
      | none => exact cloneb_nil w S.cb
      | some a => exact cloneb_zero w a S.cb
    · obtain ⟨b, o, e, _⟩ := h2 0 _ (List.getElem?_eq_getElem (by rw [h1.1]; omega))
      rw [e]
      exact cloneb_some w b o bs.length S.cb xs h1.1 (fun j u hu => by
        obtain ⟨b', o', e', hc⟩ := h2 j u hu
        rw [e] at e'
        have e1 := congrArg Addr.block (Option.some.inj e')
        have e2 := congrArg Addr.off (Option.some.inj e')
        dsimp only at e1 e2
        rw [e1, e2]
        exact hc) h3 (by omega) hlen)
  obtain ⟨xs, hrow, hcl⟩ := HC.out
  have HROW := Lib.hid hrow
  unfold ClonedB at hcl
  have HCL := Lib.hid hcl
  clear HC hrow hcl h hsz
  go_enter Try.func21, Try.ntmps21
  go_wp2_with fail
  refine HCL.out.mono ?_; rintro e w1 ⟨ad, cap, rfl, hown, hb1⟩
  by_cases hz : bs.length = 0
  · have hbs : bs = [] := List.eq_nil_of_length_eq_zero hz
    subst hbs
    have HF : Hid (OwnBds (fun b => b < w1.heap.size) w.heap.size w1 (.slice ad 0 cap) [] ∧ Below w.heap.size w w1) := Lib.hid ⟨⟨xs, hown, HROW.out.1, fun k hk => by cases hk⟩, hb1⟩
    clear hown hb1 hz HROW HCL
    go_wp2_with fail
    go_loopw [8] (fun iv wr => iv = .int .i64 0 ∧ wr = w1) (fun iv _ => 0)
    case atStart => exact ⟨rfl, rfl⟩
    case round =>
      obtain ⟨rfl, rfl⟩ := hrel
      go_wp2_with fail
      go_ret
      exact ⟨_, rfl, HF.out.1, HF.out.2⟩
  · obtain ⟨m, hm⟩ : ∃ m, bs.length = m + 1 := ⟨bs.length - 1, by omega⟩
    obtain ⟨g, cap', e, hg1, hg2, _⟩ := ownsRow_formU (n := m) (hm ▸ hown)
    rw [← hm] at e
    injection e with e1 _ e3
    subst e1
    have HI : Hid (OwI bs g bs.length cap w xs w1) := Lib.hid ⟨hown, HROW.out.kept (fun b _ hl => hb1.block b hl) fun b hb _ => by omega, hb1⟩
    clear hown hb1 HROW HCL e3 hm hz
    go_wp2_with fail
    go_loopw [8] (fun iv wr => ∃ (k : Nat) (xs : List Value), k ≤ bs.length ∧ iv = .int .i64 k ∧ Hid (OwI bs g bs.length cap w xs wr)) (fun iv _ => bs.length - (intOf iv).toNat)
    case atStart => exact ⟨0, xs, Nat.zero_le _, rfl, HI⟩
    case round =>
      clear HI
      obtain ⟨k, xs, hk, rfl, HI⟩ := hrel
      by_cases hlt : k < bs.length
      · obtain ⟨a, c, htm, x1, x2, x3, x4, hf⟩ := HI.out.at rfl hlt
        have hz := HZ.out _ (List.getElem_mem hlt)
        have HST := Lib.hid (fun W' a c hb ht => OwI.step (W' := W') (a := a) (c := c) HI.out hlt hb ht)
        have hk0 : (0 : Int) ≤ (k : Int) := by omega
        have hk1 : (k : Int) < (bs.length : Int) := by omega
        have HTM := Lib.hid htm.toIn
        have HIL := Lib.hid HI.out
        have hgl := (HI.out.own.lt g rfl).2
        clear htm HI
        generalize bs[k].2 = T at *
        cases a with
        | none =>
          clear HST HTM hf
          go_wp2_with fail
          go_roundw
          case rel => exact ⟨k + 1, xs, by omega, by go_num, Lib.hid HIL.out⟩
          case measure => simp [intOf] <;> omega
        | some a =>
          have HCP := Lib.hid (term_Copy T (some a) c wr hz HTM.out)
          unfold MadeTerm tmv at HCP
          go_wp2_with fail
          refine HCP.out.mono ?_; rintro e w2 ⟨a2, c2, rfl, htp, hb2⟩
          have HN := Lib.hid (HST.out w2 a2 c2 hb2 htp)
          have kc : ∀ j v, wr.cell? ⟨g, j, none⟩ = some v → w2.cell? ⟨g, j, none⟩ = some v := fun j v hv => (World.cell?_of_block (a := ⟨g, j, none⟩) (hb2.block g hgl)).trans hv
          have kf : ∀ j, w2.frozen? ⟨g, j, none⟩ = false := fun j => (World.frozen?_of_block (a := ⟨g, j, none⟩) (hb2.block g hgl)).trans (hf j)
          have y1 := kc _ _ x1
          have y2 := kc _ _ x2
          have y3 := kc _ _ x3
          have y4 := kc _ _ x4
          have f1 := kf (k * 5 + 1)
          have f2 := kf (k * 5 + 2)
          have f3 := kf (k * 5 + 3)
          have f4 := kf (k * 5 + 4)
          clear HCP HST HTM hf kc kf x1 x2 x3 x4 htp hb2 HIL
          go_wp2_with fail
          go_roundw
          case rel => exact ⟨k + 1, _, by omega, by go_num, HN⟩
          case measure => simp [intOf] <;> omega
      · obtain rfl : k = bs.length := by omega
        have HF : Hid (OwnBds (fun b => b < wr.heap.size) w.heap.size wr (.slice (some ⟨g, 0, none⟩) bs.length cap) bs) := Lib.hid ⟨xs, HI.out.own, HI.out.row.kept (fun _ _ _ => rfl) fun b hb hl => ⟨hl, fun e => hb (Option.some.inj e)⟩⟩
        go_wp2_with fail
        go_ret
        exact ⟨_, rfl, HF.out, HI.out.below⟩
end Go.Proofs.Ytlpmofmhcnclhaa

/-
  The contract of package unify's Unify.
-/
namespace Go.Proofs.Ytlpmofmhcnclhaa
open Go.RowKit

theorem meet_sizeU {bs : Bds} (hsz : ∀ b ∈ bs, b.2.size ≤ 1000000) (n : Nat) {t : Tm} (ht : t.size ≤ 1000000) : (meetL bs n t).1.size ≤ 1000000 := by
  unfold meetL
  by_cases h : n < 2000
  · rw [if_pos h]; exact walkK_size hsz _ _ t ht
  · rw [if_neg h]; exact zeroK_size
theorem next_ways (bs : Bds) (n : Nat) (p : Tm × Tm) (hn : n ≤ 2000) (hsz : ∀ b ∈ bs, b.2.size ≤ 1000000) (hp : p.1.size ≤ 1000000 ∧ p.2.size ≤ 1000000) :
    (∃ x y n1 n2, meetL bs n p.1 = (x, 0, n1) ∧ meetL bs n1 p.2 = (y, 0, n2) ∧ nextR bs n p = (x, y, 0, n2) ∧ n + 2 ≤ n2 ∧ n2 ≤ 2000 ∧ x.size ≤ 1000000 ∧ y.size ≤ 1000000 ∧ ∀ L, uni bs n (p :: L) = uniS uni bs x y n2 L ∧ cmpr bs n (p :: L) = cmpS (cmpr bs) x y n2 L) ∨
    (∃ x y n2, nextR bs n p = (x, y, 140, n2) ∧ ∀ L, uni bs n (p :: L) = (none, 140, 2001) ∧ cmpr bs n (p :: L) = (0, 140, 2001)) := by
  obtain ⟨x0, y0⟩ := p
  have m1 := meet_sizeU hsz n hp.1
  rcases pair_ways bs n x0 y0 hn with ⟨x', y', n1, n2, a1, a2, h1, h2, h3⟩ | ⟨h, h'⟩
  · refine .inl ⟨x', y', n1, n2, a1, a2, ?_, h2, h3, ?_, ?_, fun L => ⟨?_, cmpr_met hn a1 a2 L⟩⟩
    · unfold nextR
      dsimp only
      rw [a1]
      dsimp only
      rw [if_neg (by nofun), a2]
    · have := meet_sizeU hsz n hp.1
      rw [a1] at this; exact this
    · have := meet_sizeU hsz n1 hp.2
      rw [a2] at this; exact this
    · rw [uni_cons bs n x0 y0 L hn, a1]
      dsimp only
      rw [if_neg (by nofun), a2, if_neg (by nofun)]
  · refine .inr ?_
    have key : (nextR bs n (x0, y0)).2.2.1 = 140 := by
      unfold nextR
      dsimp only
      by_cases hx : (meetL bs n x0).2.1 ≠ 0
      · rw [if_pos hx]
        rcases meet_out bs n x0 hn with ⟨e, _⟩ | ⟨e, _⟩
        · exact absurd e hx
        · exact e
      · rw [if_neg hx]
        have hy := h.resolve_left hx
        rcases meet_out bs n x0 hn with ⟨_, _, _, hle⟩ | ⟨e, _⟩
        · rcases meet_out bs (meetL bs n x0).2.2 y0 hle with ⟨e, _⟩ | ⟨e, _⟩
          · exact absurd e hy
          · exact e
        · exact absurd (by rw [e]; nofun) hx
    exact ⟨(nextR bs n (x0, y0)).1, (nextR bs n (x0, y0)).2.1, (nextR bs n (x0, y0)).2.2.2, by rw [← key], h'⟩
theorem mk_uni (bs : Bds) (L : List (Tm × Tm)) (x y : Tm) (n : Nat) : uniS uni bs x y n L = if (mkR bs L x y).1 = true then uni (mkR bs L x y).2.1 n (mkR bs L x y).2.2 else (none, 0, n) := by
  unfold uniS mkR
  cases ustep x y <;> rfl
theorem zip_sizes {x y : Tm} (hx : x.size ≤ 1000000) (hy : y.size ≤ 1000000) : ∀ p ∈ List.zip x.args y.args, p.1.size ≤ 1000000 ∧ p.2.size ≤ 1000000 := fun p hp => by
  obtain ⟨h1, h2⟩ := List.of_mem_zip (show (p.1, p.2) ∈ List.zip x.args y.args from hp)
  have a1 := Tm.mem_size h1
  have a2 := Tm.mem_size h2
  have e1 := x.size_eq
  have e2 := y.size_eq
  omega
theorem args_few {x : Tm} (hx : x.size ≤ 1000000) : x.args.length ≤ 1000000 := by
  have := Tm.length_le_sizes x.args
  have := x.size_eq
  omega
theorem mk_keeps {bs : Bds} {L : List (Tm × Tm)} {x y : Tm} {n n2 : Nat} (hb : bs.length ≤ 100000 + n) (hn : n + 2 ≤ n2) (hsz : ∀ b ∈ bs, b.2.size ≤ 1000000) (hL : ∀ p ∈ L, p.1.size ≤ 1000000 ∧ p.2.size ≤ 1000000) (hl : L.length ≤ 1 + 1000000 * n) (hx : x.size ≤ 1000000) (hy : y.size ≤ 1000000) :
    (mkR bs L x y).2.1.length ≤ 100000 + n2 ∧ (∀ b ∈ (mkR bs L x y).2.1, b.2.size ≤ 1000000) ∧ (∀ p ∈ (mkR bs L x y).2.2, p.1.size ≤ 1000000 ∧ p.2.size ≤ 1000000) ∧ (mkR bs L x y).2.2.length ≤ 1 + 1000000 * n2 := by
  have hxl := args_few hx
  unfold mkR
  cases hu : ustep x y with
  | same => exact ⟨by show bs.length ≤ _; omega, hsz, hL, by show L.length ≤ _; omega⟩
  | clash => exact ⟨by show bs.length ≤ _; omega, hsz, hL, by show L.length ≤ _; omega⟩
  | args =>
    refine ⟨by show bs.length ≤ _; omega, hsz, fun p hp => ?_, ?_⟩
    · rcases List.mem_append.1 hp with h | h
      · exact zip_sizes hx hy p h
      · exact hL p h
    · show (List.zip x.args y.args ++ L).length ≤ _
      rw [List.length_append, List.length_zip]
      omega
  | bind v t =>
    have ht : t = x ∨ t = y := by
      unfold ustep at hu
      split at hu
      · cases hu
      · split at hu
        · injection hu with _ h; exact .inl h.symm
        · split at hu
          · injection hu with _ h; exact .inr h.symm
          · split at hu <;> cases hu
    refine ⟨by show (bs ++ [(v, t)]).length ≤ _; rw [List.length_append, List.length_singleton]; omega, fun b hb' => ?_, hL, by show L.length ≤ _; omega⟩
    rcases List.mem_append.1 hb' with h | h
    · exact hsz b h
    · obtain rfl := List.mem_singleton.1 h
      rcases ht with rfl | rfl
      · exact hx
      · exact hy
/-- Within Unify. -/
structure UnI (n₀ q : Nat) (R : Option Bds × Int × Nat) (w : World) (n : Nat) (bs : Bds) (L : List (Tm × Tm)) (S : WS) (W : World) : Prop where
  le : n ≤ 2000
  ans : uni bs n L = R
  wk : Wk n₀ q true S bs (2000 - n) L W
  len : bs.length ≤ 100000 + n
  bsz : ∀ b ∈ bs, b.2.size ≤ 1000000
  lsz : ∀ p ∈ L, p.1.size ≤ 1000000 ∧ p.2.size ≤ 1000000
  ll : L.length ≤ 1 + 1000000 * n
  below : Below w.heap.size w W
  big : n₀ ≤ W.heap.size
  low : w.heap.size ≤ n₀
theorem cells2T {W : World} {q1 q2 : Nat} {a b c d a' b' c' d' : Value} {t t' : TypeId} (h1 : W.heap[q1]? = some (.cells #[a, b, c, d] t (0, 0))) (h2 : W.heap[q2]? = some (.cells #[a', b', c', d'] t' (0, 0))) : W.cell? ⟨q1, 0, none⟩ = some a ∧ W.cell? ⟨q1, 1, none⟩ = some b ∧ W.cell? ⟨q1, 2, none⟩ = some c ∧ W.cell? ⟨q1, 3, none⟩ = some d ∧ W.cell? ⟨q2, 0, none⟩ = some a' ∧ W.cell? ⟨q2, 1, none⟩ = some b' ∧ W.cell? ⟨q2, 2, none⟩ = some c' ∧ W.cell? ⟨q2, 3, none⟩ = some d' := by
  simp [World.cell?, h1, h2]

set_option maxRecDepth 100000 in
set_option maxHeartbeats 8000000 in
theorem ub_Unify (bs : List (Int × Tm)) (ab : Option Addr) (cb : Nat) (x y : Tm) (ax : Option Addr) (cx : Nat) (ay : Option Addr) (cy : Nat) (w : World) (hlen : bs.length ≤ 100000) (hl : bs.length ≤ cb) (hc : cb ≤ maxLen) (hsz : ∀ b ∈ bs, b.2.size ≤ 1000000) (hxs : x.size ≤ 1000000) (hys : y.size ≤ 1000000) (hb : BdsAt w (fun b => b < w.heap.size) ab bs) (hx : TmIn w x ax cx) (hy : TmIn w y ay cy) :
    Calls Try.prog 7 #[.slice ab bs.length cb, tmv x ax cx, tmv y ay cy] w fun e w' => ∃ v, e = .returned (.tuple #[v, .bool (uni bs 0 [(x, y)]).1.isSome, .int .i64 (uni bs 0 [(x, y)]).2.1]) ∧ OwnBds (fun b => b < w'.heap.size) w.heap.size w' v ((uni bs 0 [(x, y)]).1.getD []) ∧ Below w.heap.size w w' := by
  obtain ⟨R, hR⟩ : ∃ R, uni bs 0 [(x, y)] = R := ⟨_, rfl⟩
  rw [hR]
  have HBA := Lib.hid (fun o1 o2 : Obj => ((Below.refl w.heap.size w).alloc (Nat.le_refl _) o1).alloc (by simp) o2)
  have HB := Lib.hid hb
  have HX := Lib.hid hx
  have HY := Lib.hid hy
  have HI0 := Lib.hid (fun (n₀ q : Nat) (S : WS) (W : World) (hw : Wk n₀ q true S bs 2000 [(x, y)] W) (h1 : Below w.heap.size w W) (h2 : n₀ ≤ W.heap.size) (h3 : w.heap.size ≤ n₀) => (UnI.mk (Nat.zero_le _) hR hw (by omega) hsz (fun p hp => by rw [List.mem_singleton.1 hp]; exact ⟨hxs, hys⟩) (show 1 ≤ _ by omega) h1 h2 h3 : UnI n₀ q R w 0 bs [(x, y)] S W))
  clear hb hx hy hR hsz hxs hys hlen
  unfold tmv
  go_enter Try.func7, Try.ntmps7
  go_upto_region 1 with fail
  have hb0 := HBA.out (.cells #[.int .i64 x.kind, .string x.name, .int .i64 x.n, .slice ax x.args.length cx] 25) (.cells #[.int .i64 y.kind, .string y.name, .int .i64 y.n, .slice ay y.args.length cy] 25)
  have hq0 := (Below.heap_alloc (w.alloc (.cells #[.int .i64 x.kind, .string x.name, .int .i64 x.n, .slice ax x.args.length cx] 25)) (.cells #[.int .i64 y.kind, .string y.name, .int .i64 y.n, .slice ay y.args.length cy] 25) w.heap.size (by simp)).trans (alloc_new w _)
  have hq1 := alloc_new2 w (.cells #[.int .i64 x.kind, .string x.name, .int .i64 x.n, .slice ax x.args.length cx] 25) (.cells #[.int .i64 y.kind, .string y.name, .int .i64 y.n, .slice ay y.args.length cy] 25)
  generalize (w.alloc _).alloc _ = w0 at *
  have hbd := hb0.drew
  have HBG := Lib.hid (um_begin true bs ab bs.length x y ax cx ay cy w0.drew (Nat.le_refl _) (Nat.le_trans hl hc) (fun _ => rfl) (HB.out.kept (fun b _ hl => hbd.block b hl) fun b hb' _ => Nat.lt_of_lt_of_le hb' hbd.size) (HX.out.on hbd) (HY.out.on hbd))
  have hs0 := hbd.size
  have HBD := Lib.hid hbd
  have HQ := Lib.hid (fun W (h : Below w0.heap.size w0 W) => cells2T (keptR9 h hq0) (keptR9 h hq1))
  have hQ := cells2T hq0 hq1
  clear hb0 hbd hq0 hq1 HB HX HY HBA
  unfold tmv at HBG
  have hii : (0 : Int) ≤ (bs.length : Int) := by omega
  go_cut [9] (fun s9 wx => ∃ q n₀ S, s9 = .pointer (some ⟨q, 0, none⟩) ∧ Hid (UnI n₀ q R w 0 bs [(x, y)] S wx))
  case first =>
    go_region_law (go_simp; go_at_call 17; refine HBG.out.mono ?_; rintro e w2 ⟨q, S, rfl, hwk, hb2⟩)
    all_goals
      have HI := Lib.hid (HI0.out _ q S w2 hwk (HBD.out.trans (hb2.mono hs0)) hb2.size hs0)
      clear hwk hb2
      go_wp2_with fail
      go_meet
      exact ⟨q, _, S, rfl, HI⟩
  case rest =>
  obtain ⟨q, n₀, S, rfl, HI⟩ := hcut
  obtain ⟨w2, rfl⟩ : ∃ z, z = wc := ⟨_, rfl⟩
  clear HI0 HBG HBD HQ hQ hs0 hii
  go_wp2_with fail
  go_loopw [] (fun wr => ∃ n bs L S, UnI n₀ q R w n bs L S wr) (fun wr => wkOf wr q)
  case atStart => exact ⟨0, bs, _, S, HI.out⟩
  case round =>
    clear HI
    obtain ⟨n, bs', L, S, hi⟩ := hrel
    have HI := Lib.hid hi
    have HWT := Lib.hid (um_waits wr hi.wk)
    clear hi
    cases L with
    | nil =>
      rw [show decide (0 < ([] : List (Tm × Tm)).length) = false from rfl] at HWT
      have HR : Hid (R = (some bs', 0, n)) := Lib.hid (HI.out.ans.symm.trans (uni_nil bs' n HI.out.le))
      obtain ⟨q0, q1, q2, _⟩ := cells3U HI.out.wk.blk
      have hbl : bs'.length ≤ 1000000 := by have := HI.out.len; have := HI.out.le; omega
      have HOW := Lib.hid (um_own wr HI.out.big hbl HI.out.bsz HI.out.wk)
      clear q1 q2 hbl
      go_wp2_with fail
      refine HWT.out.mono ?_; rintro e w3 ⟨rfl, rfl⟩
      go_wp2_with fail
      refine HOW.out.mono ?_; rintro e w4 ⟨v, rfl, hv, hb4⟩
      have HV := Lib.hid hv
      have HB4 := Lib.hid hb4
      clear hv hb4 HOW HWT q0
      go_wp2_with fail
      refine bodyPost_ret (v := .tuple #[v, .bool true, .int .i64 0]) (by simp [results, Try.results7, go_sem]) rfl ?_
      rw [HR.out]
      obtain ⟨xs, hv1, hv2⟩ := HV.out
      have hbs := HI.out.below.size
      exact ⟨v, rfl, ⟨xs, ownsRow_lowU hv1 hbs, hv2⟩, HI.out.below.trans (HB4.out.mono hbs)⟩
    | cons p L =>
      rw [show decide (0 < (p :: L).length) = true from decide_eq_true (Nat.succ_pos _)] at HWT
      have hps := HI.out.lsz p (.head _)
      have hbl : bs'.length ≤ 1000000 := by have := HI.out.len; have := HI.out.le; omega
      have hll0 := HI.out.ll
      rw [List.length_cons] at hll0
      have hll : L.length ≤ 3000000000 := by have := HI.out.le; omega
      have HNX := Lib.hid (um_next p wr HI.out.big hbl HI.out.bsz HI.out.wk HI.out.le hll)
      have HW := Lib.hid (next_ways bs' n p HI.out.le HI.out.bsz hps)
      clear hps hll0
      go_wp2_with fail
      refine HWT.out.mono ?_; rintro e w3 ⟨rfl, rfl⟩
      rcases HW.out with ⟨x', y', n1, n2, _, _, hnr, hn2, hn3, hxs, hys, hu⟩ | ⟨x', y', n2, hnr, hu⟩
      · have HA := Lib.hid ((HI.out.ans.symm.trans (hu L).1).trans (mk_uni bs' L x' y' n2))
        have HKP := Lib.hid (mk_keeps (x := x') (y := y') HI.out.len hn2 HI.out.bsz (fun p' hp => HI.out.lsz p' (.tail _ hp)) (by have := HI.out.ll; rw [List.length_cons] at this; omega) hxs hys)
        have hxl := args_few hxs
        rw [hnr] at HNX
        unfold NxtO tmv at HNX
        dsimp only at HNX
        clear hnr hu hxs hys HW HWT
        go_wp2_with fail
        refine HNX.out.mono ?_; rintro e w4 ⟨a1, c1, a2, c2, rfl, hx4, hy4, hk4, hb4⟩
        have HX4 := Lib.hid hx4
        have HY4 := Lib.hid hy4
        have HK4 := Lib.hid hk4
        have HB4 := Lib.hid (HI.out.below.trans (hb4.mono HI.out.low))
        have hs4 := Nat.le_trans HI.out.big hb4.size
        clear hx4 hy4 hk4 hb4 HNX
        go_upto_region 6 with fail
        have hbb := ((Below.refl w4.heap.size w4).alloc (Nat.le_refl _) (.cells #[.int .i64 x'.kind, .string x'.name, .int .i64 x'.n, .slice a1 x'.args.length c1] 25)).alloc (by simp) (.cells #[.int .i64 y'.kind, .string y'.name, .int .i64 y'.n, .slice a2 y'.args.length c2] 25)
        have hq0 := (Below.heap_alloc (w4.alloc (.cells #[.int .i64 x'.kind, .string x'.name, .int .i64 x'.n, .slice a1 x'.args.length c1] 25)) (.cells #[.int .i64 y'.kind, .string y'.name, .int .i64 y'.n, .slice a2 y'.args.length c2] 25) w4.heap.size (by simp)).trans (alloc_new w4 _)
        have hq1 := alloc_new2 w4 (.cells #[.int .i64 x'.kind, .string x'.name, .int .i64 x'.n, .slice a1 x'.args.length c1] 25) (.cells #[.int .i64 y'.kind, .string y'.name, .int .i64 y'.n, .slice a2 y'.args.length c2] 25)
        generalize (w4.alloc _).alloc _ = w5 at *
        have hs5 := hbb.size
        have HMK := Lib.hid (um_makeOne x' y' a1 c1 a2 c2 w5 (Nat.le_trans hs4 hs5) hbl hxl hll (HK4.out.on hbb) (HX4.out.onS hbb) (HY4.out.onS hbb))
        have HB5 := Lib.hid (HB4.out.trans (hbb.mono HB4.out.size))
        obtain ⟨b0, b1, b2, b3, d0, d1, d2, d3⟩ := cells2T hq0 hq1
        clear hbb hq0 hq1 HX4 HY4 HK4 HB4
        obtain ⟨r, hr⟩ : ∃ r, mkR bs' L x' y' = r := ⟨_, rfl⟩
        rw [hr] at HA HKP HMK
        obtain ⟨f, bs2, L2⟩ := r
        dsimp only at HA HKP HMK
        clear hr
        unfold WkO tmv at HMK
        cases f with
        | true =>
          rw [if_pos rfl] at HA
          go_wp2_with fail
          refine HMK.out.mono ?_; rintro e w6 ⟨S', rfl, hwk, hb6⟩
          have HN : Hid (UnI n₀ q R w n2 bs2 L2 S' w6) := Lib.hid ⟨hn3, HA.out.symm, hwk, HKP.out.1, HKP.out.2.1, HKP.out.2.2.1, HKP.out.2.2.2, HB5.out.trans (hb6.mono HI.out.low), Nat.le_trans (Nat.le_trans hs4 hs5) hb6.size, HI.out.low⟩
          have HMS := Lib.hid (wkOf_at HI.out.wk)
          have HMT := Lib.hid (wkOf_at HN.out.wk)
          have hnle := HI.out.le
          clear hwk hb6 HMK HA HKP b0 b1 b2 b3 d0 d1 d2 d3
          go_wp2_with fail
          go_roundw
          case rel => exact ⟨n2, bs2, L2, S', HN.out⟩
          case measure => rw [HMS.out, HMT.out]; omega
        | false =>
          rw [if_neg (by nofun)] at HA
          go_wp2_with fail
          refine HMK.out.mono ?_; rintro e w6 ⟨S', rfl, _, hb6⟩
          have HB6 := Lib.hid (HB5.out.trans (hb6.mono HI.out.low))
          clear hb6 HMK b0 b1 b2 b3 d0 d1 d2 d3
          go_wp2_with fail
          refine bodyPost_ret (v := .tuple #[.slice none 0 0, .bool false, .int .i64 0]) (by simp [results, Try.results7, go_sem]) rfl ?_
          rw [HA.out]
          exact ⟨_, rfl, OwnBds.nil _ _ _, HB6.out⟩
      · have HA := Lib.hid (HI.out.ans.symm.trans (hu L).1)
        rw [hnr] at HNX
        unfold NxtO tmv at HNX
        dsimp only at HNX
        clear hnr hu HW HWT
        go_wp2_with fail
        refine HNX.out.mono ?_; rintro e w4 ⟨a1, c1, a2, c2, rfl, _, _, _, hb4⟩
        have HB4 := Lib.hid (fun o1 o2 : Obj => HI.out.below.trans ((hb4.mono HI.out.low).trans ((((Below.refl w4.heap.size w4).alloc (Nat.le_refl _) o1).alloc (by simp) o2).mono (Nat.le_trans HI.out.low (Nat.le_trans HI.out.big hb4.size)))))
        clear hb4 HNX
        go_wp2_with fail
        refine bodyPost_ret (v := .tuple #[.slice none 0 0, .bool false, .int .i64 140]) (by simp [results, Try.results7, go_sem]) rfl ?_
        rw [HA.out]
        exact ⟨_, rfl, OwnBds.nil _ _ _, HB4.out _ _⟩
end Go.Proofs.Ytlpmofmhcnclhaa
