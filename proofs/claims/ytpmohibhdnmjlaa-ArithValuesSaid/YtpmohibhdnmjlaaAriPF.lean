/-
  The contract of package arith's own value: by the number of levels that are left.
-/
import Derived.Test.YtpmohibhdnmjlaaAriPE
import Derived.RegionTactic
import Derived.BigRegion
import Derived.Deep.RegionLawGrows
namespace Go.Proofs.Ytpmohibhdnmjlaa
open Go.RowKit Go.Maps

/-- Within value: the term's own box, the work. -/
structure VB (bs : List (Int × Tm)) (ab : Option Addr) (cb p mb : Nat) (w : World) (X : Tm) (a : Option Addr) (c : Nat) (W : World) : Prop where
  box : W.heap[w.heap.size]? = some (.cells #[.int .i64 X.kind, .string X.name, .int .i64 X.n, .slice a X.args.length c] 25 (0, 0))
  tm : TmIn W X a c
  stp : Stp bs ab cb p mb w W
theorem VB.start {bs : List (Int × Tm)} {ab : Option Addr} {cb p mb : Nat} {w : World} {t : Tm} {ad : Option Addr} {cap : Nat} (hw : WkAt bs ab cb p mb w) (ht : TmIn w t ad cap) : VB bs ab cb p mb w t ad cap (w.alloc (.cells #[.int .i64 t.kind, .string t.name, .int .i64 t.n, .slice ad t.args.length cap] 25)) :=
  ⟨alloc_new w _, ht.on ((Below.refl _ w).alloc (Nat.le_refl _) _), (Stp.refl hw).on ((Below.refl _ w).alloc (Nat.le_refl _) _)⟩
theorem VB.on {bs : List (Int × Tm)} {ab : Option Addr} {cb p mb : Nat} {w : World} {X : Tm} {a : Option Addr} {c : Nat} {W W' : World} (h : VB bs ab cb p mb w X a c W) (hb : Below W.heap.size W W') : VB bs ab cb p mb w X a c W' :=
  ⟨keptR9 hb h.box, h.tm.on hb, h.stp.on hb⟩
theorem VB.stepped {bs : List (Int × Tm)} {ab : Option Addr} {cb p mb : Nat} {w : World} {X : Tm} {a : Option Addr} {c : Nat} {W W' : World} (h : VB bs ab cb p mb w X a c W) (hs : Stp bs ab cb p mb W W') : VB bs ab cb p mb w X a c W' :=
  ⟨hs.block h.stp.wk h.box, hs.tm h.stp.wk h.tm, h.stp.trans hs⟩
theorem WkAt.lt {bs : List (Int × Tm)} {ab : Option Addr} {cb p mb : Nat} {w : World} (h : WkAt bs ab cb p mb w) : p < w.heap.size := (Array.getElem?_eq_some_iff.1 h.blk).1
theorem Turn.set4m {M : Nat → Prop} {w W : World} {q : Nat} (h : Turn M w W) (hq : w.heap.size ≤ q) (x y z u : Value) : Turn M w ((((W.setCell ⟨q, 0, none⟩ x).setCell ⟨q, 1, none⟩ y).setCell ⟨q, 2, none⟩ z).setCell ⟨q, 3, none⟩ u) :=
  h.trans' (Turn.set4 (M := fun j => j = q) rfl x y z u) fun j e => .inr (by have e : j = q := e; omega)
theorem VB.walked {bs : List (Int × Tm)} {ab : Option Addr} {cb p mb : Nat} {w : World} {t X : Tm} {a a2 : Option Addr} {c c2 : Nat} {W W' : World} (h : VB bs ab cb p mb w t a c W) (hw : WkAt bs ab cb p mb w) (hb : Below W.heap.size W W') (hx : TmP W' (fun b => W.heap.size ≤ b) X a2 c2) :
    VB bs ab cb p mb w X a2 c2 ((((W'.setCell ⟨w.heap.size, 0, none⟩ (.int .i64 X.kind)).setCell ⟨w.heap.size, 1, none⟩ (.string X.name)).setCell ⟨w.heap.size, 2, none⟩ (.int .i64 X.n)).setCell ⟨w.heap.size, 3, none⟩ (.slice a2 X.args.length c2)) := by
  have h2 := h.on hb
  have hq := (Array.getElem?_eq_some_iff.1 h.box).1
  have hp := hw.lt
  have hm := hw.known.lt
  have ht := h2.stp.turn.set4m (Nat.le_refl _) (.int .i64 X.kind) (.string X.name) (.int .i64 X.n) (.slice a2 X.args.length c2)
  refine ⟨set4_blk h2.box _ _ _ _, (hx.kept (Q := fun _ => True) (fun b hp _ => set4_oth (W := W') (q := w.heap.size) _ _ _ _ (by omega)) fun _ _ _ => trivial).toIn, ht, hw.map ht (h2.stp.wk.known.at (set4_oth _ _ _ _ (by omega)))⟩

theorem cells2T' {W : World} {q : Nat} {a b : Value} {t : TypeId} (h : W.heap[q]? = some (.cells #[a, b] t (0, 0))) : W.cell? ⟨q, 0, none⟩ = some a ∧ W.cell? ⟨q, 1, none⟩ = some b ∧ W.frozen? ⟨q, 0, none⟩ = false ∧ W.frozen? ⟨q, 1, none⟩ = false := by
  refine ⟨?_, ?_, ?_, ?_⟩ <;> simp [World.cell?, World.frozen?, h]

set_option maxRecDepth 100000 in
set_option maxHeartbeats 2000000 in
theorem va_deep (bs : List (Int × Tm)) (ab : Option Addr) (cb p mb : Nat) (t : Tm) (ad : Option Addr) (cap : Nat) (w : World) (hw : WkAt bs ab cb p mb w) :
    Calls Try.prog 25 #[.pointer (some ⟨p, 0, none⟩), tmv t ad cap, .int .i64 60] w (EvV bs ab cb p mb (0, 3) w) := by
  have HS := Lib.hid ((Stp.refl hw).on ((Below.refl _ w).alloc (Nat.le_refl _) (.cells #[.int .i64 t.kind, .string t.name, .int .i64 t.n, .slice ad t.args.length cap] 25)))
  clear hw
  unfold EvV tmv at *
  go_enter Try.func25, Try.ntmps25
  go_wp2_with fail
  go_ret2
  exact ⟨rfl, HS.out⟩

set_option maxRecDepth 100000 in
set_option maxHeartbeats 4000000 in
theorem va_other (bs : List (Int × Tm)) (ab : Option Addr) (cb p mb : Nat) (t : Tm) (ad : Option Addr) (cap : Nat) (o : Int) (w : World) (hw : WkAt bs ab cb p mb w) (ht : TmIn w t ad cap) (ho : o ≠ 60) (hk : t.kind ≠ 1) (r : Int × Int)
    (HC : ∀ W, WkAt bs ab cb p mb W → TmIn W t ad cap → Calls Try.prog 32 #[.pointer (some ⟨p, 0, none⟩), tmv t ad cap, .int .i64 o] W (EvV bs ab cb p mb r W)) :
    Calls Try.prog 25 #[.pointer (some ⟨p, 0, none⟩), tmv t ad cap, .int .i64 o] w (EvV bs ab cb p mb r w) := by
  have hV := VB.start hw ht
  have HW := Lib.hid (HC _ hV.stp.wk hV.tm)
  have HV := Lib.hid hV
  have g1 : (o == 60) = false := by simpa using ho
  have g2 : (t.kind != 1) = true := by simpa using hk
  clear hV hw ht HC ho hk
  unfold EvV tmv at *
  go_enter Try.func25, Try.ntmps25
  go_upto_region 3 with fail
  generalize w.alloc _ = w0 at *
  obtain ⟨x0, x1, x2, x3, _⟩ := cellsT HV.out.box
  go_wp2_with fail
  refine HW.out.mono ?_; rintro e w1 ⟨rfl, hs1⟩
  go_wp2_with fail
  go_ret2
  exact ⟨rfl, HV.out.stp.trans hs1⟩

set_option maxRecDepth 100000 in
set_option maxHeartbeats 4000000 in
theorem va_known (bs : List (Int × Tm)) (ab : Option Addr) (cb p mb d : Nat) (t : Tm) (ad : Option Addr) (cap : Nat) (o : Int) (w : World) (hw : WkAt bs ab cb p mb w) (ht : TmIn w t ad cap) (ho : o + (d : Nat) + 1 = 60) (ho0 : 0 ≤ o) (hk : t.kind = 1) (c : Int)
    (hl : ∀ W : World, W.heap[mb]? = w.heap[mb]? → (Instr.lookup 58 (.map (some mb)) (.agg #[.int .i64 t.n, .int .i64 o]) true).run Try.prog W = .ok (.tuple #[.int .i64 c, .bool true]) W) :
    Calls Try.prog 25 #[.pointer (some ⟨p, 0, none⟩), tmv t ad cap, .int .i64 o] w (EvV bs ab cb p mb (c, 0) w) := by
  have hV := VB.start hw ht
  have HV := Lib.hid hV
  have hm := hw.known.lt
  have HL := Lib.hid hl
  have HE := Lib.hid (Below.heap_alloc w (.cells #[.int .i64 t.kind, .string t.name, .int .i64 t.n, .slice ad t.args.length cap] 25) mb hm)
  have g1 : (o == 60) = false := by simpa using (show o ≠ 60 by omega)
  have g2 : (t.kind != 1) = false := by simpa using hk
  have HP := Lib.hid hw.lt
  clear hV hw ht ho ho0 hk hl hm
  unfold EvV tmv at *
  go_enter Try.func25, Try.ntmps25
  go_upto_region 3 with fail
  generalize w.alloc _ = w0 at *
  obtain ⟨x0, x1, x2, x3, _⟩ := cellsT HV.out.box
  go_upto_region 6 with fail
  have hlk := HL.out (w0.alloc (.cells #[.int .i64 t.n, .int .i64 o] 62)).drew ((Below.heap_alloc w0 _ mb HV.out.stp.wk.known.lt).trans HE.out)
  have hV := HV.out.on ((Below.refl _ w0).alloc (Nat.le_refl _) (.cells #[.int .i64 t.n, .int .i64 o] 62))
  have hH := alloc_new w0 (.cells #[.int .i64 t.n, .int .i64 o] 62)
  obtain ⟨y0, y1, _⟩ := cells2T' hV.stp.wk.blk
  obtain ⟨z0, z1, _⟩ := cells2T' hH
  have HV1 := Lib.hid hV
  clear hV hH x0 x1 x2 x3
  generalize w0.alloc _ = w1 at *
  go_region
  go_wp2_with fail
  go_ret2
  exact ⟨rfl, HV1.out.stp.on (Below.refl _ _).drew⟩

set_option maxRecDepth 100000 in
set_option maxHeartbeats 8000000 in
theorem va_new (bs : List (Int × Tm)) (ab : Option Addr) (cb p mb d : Nat) (hlen : bs.length ≤ 1000000) (hlb : bs.length ≤ cb) (hcb : cb ≤ maxLen) (hsz : ∀ b ∈ bs, b.2.size ≤ 1000000) (t : Tm) (ad : Option Addr) (cap : Nat) (o : Int) (w : World) (hts : t.size ≤ 1000000) (hw : WkAt bs ab cb p mb w) (ht : TmIn w t ad cap) (ho : o + (d : Nat) + 1 = 60) (ho0 : 0 ≤ o) (hk : t.kind = 1) (c : Int)
    (hl : ∀ W : World, W.heap[mb]? = w.heap[mb]? → (Instr.lookup 58 (.map (some mb)) (.agg #[.int .i64 t.n, .int .i64 o]) true).run Try.prog W = .ok (.tuple #[.int .i64 c, .bool false]) W)
    (X : Tm) (er : Int) (m : Nat) (hX : walkL bs 0 t = (X, er, m)) (n e : Int) (hok : EvOk (n, e))
    (HC : ∀ W a c, WkAt bs ab cb p mb W → TmIn W X a c → Calls Try.prog 32 #[.pointer (some ⟨p, 0, none⟩), tmv X a c, .int .i64 o] W (EvV bs ab cb p mb (n, e) W))
    (hmem : er = 0 → e = 0 → t.n ∈ bs.map Prod.fst ∧ evD bs (d + 1) (vr t.n) = (n, 0)) :
    Calls Try.prog 25 #[.pointer (some ⟨p, 0, none⟩), tmv t ad cap, .int .i64 o] w (EvV bs ab cb p mb (if er ≠ 0 then (0, er) else (n, e)) w) := by
  have hV := VB.start hw ht
  have HV := Lib.hid hV
  have hm := hw.known.lt
  have HL := Lib.hid hl
  have HE := Lib.hid (Below.heap_alloc w (.cells #[.int .i64 t.kind, .string t.name, .int .i64 t.n, .slice ad t.args.length cap] 25) mb hm)
  have HWK := Lib.hid (fun W (h : BdsAt W (fun b => b < W.heap.size) ab bs) (h' : TmIn W t ad cap) => sb_WalkN bs ab cb t ad cap W hlen hlb hcb hsz h hts h')
  have HPUT := Lib.hid (fun W (h : KMap bs W mb) (g : er = 0) (g' : e = 0) (hn : In64 n) => h.put (v := t.n) (o := o) (d := d) ht.n ho ho0 hn (hmem g g').1 hlen (hmem g g').2)
  have g1 : (o == 60) = false := by simpa using (show o ≠ 60 by omega)
  have g2 : (t.kind != 1) = false := by simpa using hk
  have HW := Lib.hid hw
  have HCC := Lib.hid HC
  have HOK := Lib.hid hok
  rw [hX] at HWK
  clear hV hw ht ho ho0 hk hl hm hX HC hmem hok hlen hlb hcb hsz hts
  obtain ⟨R, hR⟩ : ∃ R, (if er ≠ 0 then (0, er) else (n, e)) = R := ⟨_, rfl⟩
  rw [hR]
  have HR := Lib.hid hR
  clear hR
  unfold EvV tmv at *
  dsimp only at HWK HCC
  go_enter Try.func25, Try.ntmps25
  go_upto_region 3 with fail
  generalize w.alloc _ = w0 at *
  obtain ⟨x0, x1, x2, x3, _⟩ := cellsT HV.out.box
  go_upto_region 6 with fail
  have hlk := HL.out (w0.alloc (.cells #[.int .i64 t.n, .int .i64 o] 62)).drew ((Below.heap_alloc w0 _ mb HV.out.stp.wk.known.lt).trans HE.out)
  have hV := HV.out.on ((Below.refl _ w0).alloc (Nat.le_refl _) (.cells #[.int .i64 t.n, .int .i64 o] 62))
  have hH := alloc_new w0 (.cells #[.int .i64 t.n, .int .i64 o] 62)
  obtain ⟨y0, y1, _⟩ := cells2T' hV.stp.wk.blk
  obtain ⟨z0, z1, _⟩ := cells2T' hH
  have HV1 := Lib.hid hV
  have HH1 := Lib.hid hH
  clear hV hH x0 x1 x2 x3
  generalize w0.alloc _ = w1 at *
  go_region
  go_upto_region 9 with fail
  have hbd := (Below.refl w1.heap.size w1).drew
  have HV2 := Lib.hid (HV1.out.on hbd.drew)
  have HB2 := Lib.hid hbd.drew
  clear hbd
  obtain ⟨x0, x1, x2, x3, xf0, xf1, xf2, xf3⟩ := cellsT HV1.out.box
  have HWA := Lib.hid (HWK.out _ (HV2.out.stp.wk.binds.kept (fun _ _ _ => rfl) fun _ h _ => h.1) HV2.out.tm)
  go_region_law (go_simp; go_at_call 33; refine HWA.out.mono ?_; rintro e2 w2 ⟨a2, c2, rfl, hx, hb2⟩; obtain ⟨f0, f1, f2, f3, ff0, ff1, ff2, ff3⟩ := cellsT (keptR9 hb2 HV1.out.box))
  all_goals
    have HV3 := Lib.hid (HV2.out.walked HW.out hb2 hx)
    have hqq := (Array.getElem?_eq_some_iff.1 HV.out.box).1
    have HH3 := Lib.hid ((set4_oth (W := w2) (q := w.heap.size) (.int .i64 X.kind) (.string X.name) (.int .i64 X.n) (.slice a2 X.args.length c2) (show w0.heap.size ≠ w.heap.size by omega)).trans (keptR9 hb2 HH1.out))
    clear hb2 hx f0 f1 f2 f3 ff0 ff1 ff2 ff3 hqq x0 x1 x2 x3 xf0 xf1 xf2 xf3 y0 y1 z0 z1 HV2 HB2 HWA HWK hlk
    generalize (((w2.setCell _ _).setCell _ _).setCell _ _).setCell _ _ = w3 at *
    by_cases her : er = 0
    · subst her
      rw [if_neg (by simp)] at HR
      obtain ⟨x0, x1, x2, x3, _⟩ := cellsT HV3.out.box
      have HC3 := Lib.hid (HCC.out _ a2 c2 HV3.out.stp.wk HV3.out.tm)
      clear HCC
      go_wp2_with fail
      refine HC3.out.mono ?_; rintro e4 w4 ⟨rfl, hs4⟩
      have HV4 := Lib.hid (HV3.out.stepped hs4)
      have HH4 := Lib.hid (hs4.block HV3.out.stp.wk HH3.out)
      clear hs4 x0 x1 x2 x3 HC3
      by_cases he : e = 0
      · subst he
        obtain ⟨W', hr, hk', ht'⟩ := HPUT.out w4.drew (HV4.out.stp.wk.known.at rfl) (by first | rfl | trivial) (by first | rfl | trivial) (HOK.out.elim (fun h => absurd rfl h.1) And.right)
        obtain ⟨y0, y1, _⟩ := cells2T' HV4.out.stp.wk.blk
        obtain ⟨z0, z1, _⟩ := cells2T' HH4.out
        have HS := Lib.hid (HV4.out.stp.trans ⟨(Turn.drew _ w4).trans ht', HV4.out.stp.wk.map ((Turn.drew _ w4).trans ht') hk'⟩)
        clear hk' ht'
        go_upto_region 14 with fail
        go_region
        go_wp2_with fail
        go_ret2
        rw [← HR.out]
        exact ⟨rfl, HS.out⟩
      · have g3 : (e == 0) = false := by simpa using he
        clear he
        go_wp2_with fail
        go_ret2
        rw [← HR.out]
        exact ⟨rfl, HV4.out.stp⟩
    · rw [if_pos her] at HR
      have g3 : (er != 0) = true := by simpa using her
      clear her
      go_wp2_with fail
      go_ret2
      rw [← HR.out]
      exact ⟨rfl, HV3.out.stp⟩
theorem pa_value (bs : List (Int × Tm)) (ab : Option Addr) (cb p mb : Nat) (hlen : bs.length ≤ 1000000) (hlb : bs.length ≤ cb) (hcb : cb ≤ maxLen) (hsz : ∀ b ∈ bs, b.2.size ≤ 1000000) (hb : Bds64 bs) : ∀ (d : Nat) (o : Int), o + (d : Nat) = 60 → 0 ≤ o → ValC bs ab cb p mb d o
  | 0, o, ho, _ => fun t ad cap w _ hw _ => by
    obtain rfl : o = 60 := by omega
    exact va_deep bs ab cb p mb t ad cap w hw
  | d + 1, o, ho, ho0 => fun t ad cap w hts hw ht => by
    have ho1 : o + (d : Nat) + 1 = 60 := by omega
    have ih := pa_value bs ab cb p mb hlen hlb hcb hsz hb d (o + 1) (by omega) (by omega)
    have HC := fun (X : Tm) (hs : X.size ≤ 1000000) W a c (h : WkAt bs ab cb p mb W) (h' : TmIn W X a c) => pa_walked bs ab cb p mb d o ih hb ho0 (by omega) X a c W hs h h'
    by_cases hk : t.kind = 1
    · obtain ⟨c, b, hl, hkn⟩ := hw.known.look (v := t.n) (o := o) (d := d) ht.n ho1 ho0
      cases b with
      | true =>
        rw [vr_walk hk, hkn rfl]
        exact va_known bs ab cb p mb d t ad cap o w hw ht ho1 ho0 hk c hl
      | false =>
        have h64 : (walkL bs 0 t).1.n64 := walkF_n64 hb (2001 - 0) 0 t (tm_n64 ht)
        have hXs : (walkL bs 0 t).1.size ≤ 1000000 := walkK_size hsz (2001 - 0) 0 t hts
        have he : evD bs (d + 1) t = (if (walkL bs 0 t).2.1 ≠ 0 then (0, (walkL bs 0 t).2.1) else evK (evD bs d) (walkL bs 0 t).1) := rfl
        have hv := vr_walk (bs := bs) hk (d + 1)
        rw [he] at hv ⊢
        have hX0 : walkL bs 0 t = ((walkL bs 0 t).1, (walkL bs 0 t).2.1, (walkL bs 0 t).2.2) := rfl
        generalize (walkL bs 0 t).1 = X at *
        generalize (walkL bs 0 t).2.1 = er at *
        generalize (walkL bs 0 t).2.2 = m at *
        have hok : EvOk (evK (evD bs d) X) := evK_ok ((Tm.n64_eq _).1 h64).1 fun a ha => evD_ok hb d a (n64s_mem ((Tm.n64_eq _).1 h64).2 a ha)
        have hkn2 := fun h0 => ev_known (d := d) hk hX0 h0
        have HC2 := HC X hXs
        generalize evK (evD bs d) X = r at *
        obtain ⟨n, e⟩ := r
        refine va_new bs ab cb p mb d hlen hlb hcb hsz t ad cap o w hts hw ht ho1 ho0 hk c hl X er m hX0 n e hok HC2 fun h1 h2 => ⟨hkn2 h2, ?_⟩
        rw [← hv, if_neg (by simpa using h1), h2]
    · rw [ev_other hk]
      exact va_other bs ab cb p mb t ad cap o w hw ht (by omega) hk _ fun W h h' => HC t hts W ad cap h h'
end Go.Proofs.Ytpmohibhdnmjlaa
