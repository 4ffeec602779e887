/-
  The contracts of package subst's own Look, Walk, Fresh, from outside.
-/
import Derived.Test.YtjgjeafjnaodkaaSubKB
import Derived.Test.YtjgjeafjnaodkaaSubD
import Derived.Test.YtjgjeafjnaodkaaTermDevCS
namespace Go.Proofs.Ytjgjeafjnaodkaa
open Go.RowKit

theorem zeroK_size : zeroT.size ≤ 1000000 := by decide +kernel
theorem lookK_size {bs : List (Int × Tm)} (hsz : ∀ b ∈ bs, b.2.size ≤ 1000000) (v : Int) : ((lookL bs v).getD zeroT).size ≤ 1000000 := by
  cases hl : lookL bs v with
  | none => exact zeroK_size
  | some t => exact hsz _ (lookL_mem hl)
theorem walkK_size {bs : List (Int × Tm)} (hsz : ∀ b ∈ bs, b.2.size ≤ 1000000) : ∀ (f n : Nat) (t : Tm), t.size ≤ 1000000 → (walkF bs f n t).1.size ≤ 1000000
  | 0, _, _, _ => zeroK_size
  | f + 1, n, t, ht => by
    unfold walkF
    by_cases hk : t.kind = 1
    · rw [if_pos hk]
      cases hl : lookL bs t.n with
      | none => exact ht
      | some x =>
        dsimp only
        by_cases hn : n < 2000
        · rw [if_pos hn]; exact walkK_size hsz f (n + 1) x (hsz _ (lookL_mem hl))
        · rw [if_neg hn]; exact zeroK_size
    · rw [if_neg hk]; exact ht
/-- A term laid into the result's own block. -/
theorem laid_result {w w0 w2 : World} {B q : Nat} {R : Tm} {ad : Option Addr} {cap : Nat} (hp : TmP w2 (fun b => B ≤ b) R ad cap) (h0 : Below w.heap.size w w0) (hb : Below w0.heap.size w0 w2) (hB : q < B) (hq : w.heap.size ≤ q) (x y z u : Value) :
    TmIn ((((w2.setCell ⟨q, 0, none⟩ x).setCell ⟨q, 1, none⟩ y).setCell ⟨q, 2, none⟩ z).setCell ⟨q, 3, none⟩ u) R ad cap ∧ Below w.heap.size w ((((w2.setCell ⟨q, 0, none⟩ x).setCell ⟨q, 1, none⟩ y).setCell ⟨q, 2, none⟩ z).setCell ⟨q, 3, none⟩ u) :=
  ⟨(hp.kept (Q := fun _ => True) (fun b hb _ => set4_oth (W := w2) (q := q) x y z u (by omega)) fun _ _ _ => trivial).toIn, set4_low (h0.trans (hb.mono h0.size)) hq⟩

/-- Three blocks laid, one behind the other. -/
theorem stayB3 (w : World) (o1 o2 o3 : Obj) : (((w.alloc o1).alloc o2).alloc o3).heap[w.heap.size]? = some o1 ∧ (((w.alloc o1).alloc o2).alloc o3).heap[w.heap.size + 1]? = some o2 ∧ (((w.alloc o1).alloc o2).alloc o3).heap[w.heap.size + 2]? = some o3 := by
  have h := stayB4 w o1 o2 o3 o3
  have s3 : (((w.alloc o1).alloc o2).alloc o3).heap.size = w.heap.size + 3 := by simp
  have k : ∀ j, j < w.heap.size + 3 → (((w.alloc o1).alloc o2).alloc o3).heap[j]? = ((((w.alloc o1).alloc o2).alloc o3).alloc o3).heap[j]? := fun j hj => (Below.heap_alloc _ _ _ (by omega)).symm
  exact ⟨(k _ (by omega)).trans (h.has _ (.head _)), (k _ (by omega)).trans (h.has _ (.tail _ (.head _))), (k _ (by omega)).trans (h.has _ (.tail _ (.tail _ (.head _))))⟩

set_option maxRecDepth 100000 in
set_option maxHeartbeats 4000000 in
theorem sb_Look (bs : List (Int × Tm)) (v : Int) (ab : Option Addr) (cb : Nat) (w : World) (hlen : bs.length ≤ 1000000) (_hl : bs.length ≤ cb) (_hc : cb ≤ maxLen) (hsz : ∀ b ∈ bs, b.2.size ≤ 1000000) (h : BdsAt w (fun b => b < w.heap.size) ab bs) :
    Calls Try.prog 11 #[.slice ab bs.length cb, .int .i64 v] w fun e w' => ∃ a2 c2, e = .returned (.tuple #[tmv ((lookL bs v).getD zeroT) a2 c2, .bool (lookL bs v).isSome]) ∧ TmIn w' ((lookL bs v).getD zeroT) a2 c2 ∧ Below w.heap.size w w' := by
  have hXs := lookK_size hsz v
  have HLK := Lib.hid (fun W (hb : Below w.heap.size w W) => dv_look bs v ab cb W (fun b => b < w.heap.size) (fun b hb' => Nat.lt_of_lt_of_le hb' hb.size) hlen (h.kept (fun b hb' _ => hb.block b hb') fun _ h _ => h))
  have HC := Lib.hid (fun a c W (hin : TmIn W ((lookL bs v).getD zeroT) a c) => term_Copy ((lookL bs v).getD zeroT) a c W hXs hin)
  clear h hXs hsz
  generalize (lookL bs v).getD zeroT = X at *
  generalize (lookL bs v).isSome = f at *
  unfold MadeTerm tmv at *
  have hb0 := (Below.refl w.heap.size w).alloc (Nat.le_refl _) (.cells #[.int .i64 0, .string ⟨#[]⟩, .int .i64 0, .slice none 0 0] 25)
  have hq0 := alloc_new w (.cells #[.int .i64 0, .string ⟨#[]⟩, .int .i64 0, .slice none 0 0] 25)
  have HB0 := Lib.hid hb0
  have HQ0 := Lib.hid hq0
  clear hb0 hq0
  go_enter Try.func11, Try.ntmps11
  go_wp2_with fail
  have hz := (Array.getElem?_eq_some_iff.1 HQ0.out).1
  generalize w.alloc _ = w0 at *
  refine (HLK.out _ HB0.out).mono ?_; rintro e w1 ⟨a2, c2, rfl, hx, hb1⟩
  have HX1 := Lib.hid hx.toIn
  have HB1 := Lib.hid hb1
  have hs1 := hb1.size
  have HBA := Lib.hid ((Below.refl _ w1).alloc (Nat.le_refl _) (.cells #[.int .i64 X.kind, .string X.name, .int .i64 X.n, .slice a2 X.args.length c2] 25))
  clear hx hb1
  go_wp2_with fail
  refine (HC.out a2 c2 _ (HX1.out.on HBA.out)).mono ?_; rintro e w2 ⟨a3, c3, rfl, hp, hb2⟩
  have HB2 := Lib.hid (HB1.out.trans ((HBA.out.trans (hb2.mono HBA.out.size)).mono hs1))
  have hq2 := keptR9 HB2.out HQ0.out
  have HR := Lib.hid (laid_result hp HB0.out HB2.out (by simp; omega) (Nat.le_refl _) (.int .i64 X.kind) (.string X.name) (.int .i64 X.n) (.slice a3 X.args.length c3))
  have G4 := Lib.hid (set4_blk hq2 (.int .i64 X.kind) (.string X.name) (.int .i64 X.n) (.slice a3 X.args.length c3))
  obtain ⟨z0, z1, z2, z3, e0, e1, e2, e3⟩ := cellsT hq2
  clear hp hb2 hq2
  go_wp2_with fail
  obtain ⟨y0, y1, y2, y3, _⟩ := cellsT G4.out
  refine bodyPost_ret (v := .tuple #[tmv X a3 c3, .bool f]) (by simp [results, Try.results11, go_sem, tmv, y0, y1, y2, y3]) rfl ?_
  exact ⟨a3, c3, rfl, HR.out.1, HR.out.2⟩

set_option maxRecDepth 100000 in
set_option maxHeartbeats 4000000 in
theorem sb_Walk (bs : List (Int × Tm)) (ab : Option Addr) (cb : Nat) (t : Tm) (ad : Option Addr) (cap : Nat) (w : World) (hlen : bs.length ≤ 1000000) (_hl : bs.length ≤ cb) (_hc : cb ≤ maxLen) (hsz : ∀ b ∈ bs, b.2.size ≤ 1000000) (hb : BdsAt w (fun b => b < w.heap.size) ab bs) (hts : t.size ≤ 1000000) (ht : TmIn w t ad cap) :
    Calls Try.prog 9 #[.slice ab bs.length cb, tmv t ad cap] w fun e w' => ∃ a2 c2, e = .returned (.tuple #[tmv (walkL bs 0 t).1 a2 c2, .int .i64 (walkL bs 0 t).2.1]) ∧ TmIn w' (walkL bs 0 t).1 a2 c2 ∧ Below w.heap.size w w' := by
  have hXs : (walkL bs 0 t).1.size ≤ 1000000 := walkK_size hsz (2001 - 0) 0 t hts
  have HW := Lib.hid (fun W (h : Below w.heap.size w W) (hm : LfAt W (w.heap.size + 2) (2000 - 0)) => dv_walk bs ab cb (w.heap.size + 2) 0 t ad cap W (fun b => b < w.heap.size) hlen (fun b hb' => ⟨Nat.lt_of_lt_of_le hb' h.size, by omega⟩) (hb.kept (fun b hb' _ => h.block b hb') fun _ h _ => h) hm (Nat.zero_le _) (ht.inP.kept (fun b hb' _ => h.block b hb') fun _ h _ => h))
  clear hb ht hts hsz
  generalize walkL bs 0 t = r at *
  obtain ⟨X, er, n⟩ := r
  dsimp only at *
  have HC := Lib.hid (fun a c W (hin : TmIn W X a c) => term_Copy X a c W hXs hin)
  clear hXs
  unfold DWalk at HW
  unfold MadeTerm at HC
  unfold tmv at *
  have HB0 := Lib.hid ((((Below.refl w.heap.size w).alloc (Nat.le_refl _) (.cells #[.int .i64 t.kind, .string t.name, .int .i64 t.n, .slice ad t.args.length cap] 25)).alloc (by simp) (.cells #[.int .i64 0, .string ⟨#[]⟩, .int .i64 0, .slice none 0 0] 25)).alloc (by simp; omega) (.cells #[.int .i64 2000] 3))
  have HA := Lib.hid (stayB3 w (.cells #[.int .i64 t.kind, .string t.name, .int .i64 t.n, .slice ad t.args.length cap] 25) (.cells #[.int .i64 0, .string ⟨#[]⟩, .int .i64 0, .slice none 0 0] 25) (.cells #[.int .i64 2000] 3))
  go_enter Try.func9, Try.ntmps9
  go_wp2_with fail
  generalize ((w.alloc _).alloc _).alloc _ = w0 at *
  obtain ⟨hq0, hq1, hq2⟩ := HA.out
  refine (HW.out _ HB0.out hq2).mono ?_; rintro e w1 ⟨a2, c2, rfl, hx, _, ht1⟩
  have hz := (Array.getElem?_eq_some_iff.1 hq2).1
  have g0 := (ht1.block w.heap.size (by omega) (by omega)).trans hq0
  have g1 := (ht1.block (w.heap.size + 1) (by omega) (by omega)).trans hq1
  have hb1 := below_turn HB0.out ht1 (fun j e => by omega) HB0.out.size
  have HB1 := Lib.hid (set4_low (q := w.heap.size) (x := .int .i64 X.kind) (y := .string X.name) (z := .int .i64 X.n) (u := .slice a2 X.args.length c2) hb1 (Nat.le_refl _))
  have HG0 := Lib.hid (set4_blk g0 (.int .i64 X.kind) (.string X.name) (.int .i64 X.n) (.slice a2 X.args.length c2))
  have HG1 := Lib.hid ((set4_oth (W := w1) (q := w.heap.size) (j := w.heap.size + 1) (.int .i64 X.kind) (.string X.name) (.int .i64 X.n) (.slice a2 X.args.length c2) (by omega)).trans g1)
  have HX1 := Lib.hid (hx.kept (Q := fun _ => True) (fun b hb _ => set4_oth (W := w1) (q := w.heap.size) (.int .i64 X.kind) (.string X.name) (.int .i64 X.n) (.slice a2 X.args.length c2) (by omega)) fun _ _ _ => trivial).toIn
  obtain ⟨z0, z1, z2, z3, e0, e1, e2, e3⟩ := cellsT g0
  clear hx ht1 hb1 g0 g1 hq0 hq1 hq2 HA HW
  go_upto_region 3 with fail
  generalize (((w1.setCell _ _).setCell _ _).setCell _ _).setCell _ _ = w3 at *
  obtain ⟨y0, y1, y2, y3, _⟩ := cellsT HG0.out
  clear z0 z1 z2 z3 e0 e1 e2 e3
  go_wp2_with fail
  refine (HC.out a2 c2 _ HX1.out).mono ?_; rintro e w2 ⟨a3, c3, rfl, hp, hb2⟩
  have hz3 := (Array.getElem?_eq_some_iff.1 HG1.out).1
  have hq2 := keptR9 hb2 HG1.out
  have HR := Lib.hid (laid_result (q := w.heap.size + 1) hp HB1.out hb2 (by omega) (by omega) (.int .i64 X.kind) (.string X.name) (.int .i64 X.n) (.slice a3 X.args.length c3))
  have G4 := Lib.hid (set4_blk hq2 (.int .i64 X.kind) (.string X.name) (.int .i64 X.n) (.slice a3 X.args.length c3))
  obtain ⟨z0, z1, z2, z3, e0, e1, e2, e3⟩ := cellsT hq2
  clear hp hb2 hq2 y0 y1 y2 y3
  go_wp2_with fail
  obtain ⟨y0, y1, y2, y3, _⟩ := cellsT G4.out
  refine bodyPost_ret (v := .tuple #[tmv X a3 c3, .int .i64 er]) (by simp [results, Try.results9, go_sem, tmv, y0, y1, y2, y3]) rfl ?_
  exact ⟨a3, c3, rfl, HR.out.1, HR.out.2⟩

set_option maxRecDepth 100000 in
set_option maxHeartbeats 4000000 in
theorem sb_Fresh (c : Int) (t : Tm) (ad : Option Addr) (cap : Nat) (w : World) (_hc : In64 c) (hM : t.size ≤ 1000000) (ht : TmIn w t ad cap) :
    Calls Try.prog 14 #[tmv t ad cap, .int .i64 c] w (MadeTerm w.heap.size w (t.shift c)) := by
  have HB0 := Lib.hid (fun o1 o2 : Obj => ((Below.refl w.heap.size w).alloc (Nat.le_refl _) o1).alloc (by simp) o2)
  have HS := Lib.hid (fun W (h : Below w.heap.size w W) => term_Shift c t ad cap W hM (ht.on h))
  clear ht
  generalize t.shift c = x at *
  unfold MadeTerm tmv at *
  go_enter Try.func14, Try.ntmps14
  go_wp2_with fail
  have hw0 := HB0.out (.cells #[.int .i64 t.kind, .string t.name, .int .i64 t.n, .slice ad t.args.length cap] 25) (.cells #[.int .i64 0, .string ⟨#[]⟩, .int .i64 0, .slice none 0 0] 25)
  have hq0 := alloc_new2 w (.cells #[.int .i64 t.kind, .string t.name, .int .i64 t.n, .slice ad t.args.length cap] 25) (.cells #[.int .i64 0, .string ⟨#[]⟩, .int .i64 0, .slice none 0 0] 25)
  generalize (w.alloc _).alloc _ = w0 at *
  have hz := (Array.getElem?_eq_some_iff.1 hq0).1
  refine (HS.out _ hw0).mono ?_; rintro e w1 ⟨a2, c2, rfl, hp, hb⟩
  have hq1 := keptR9 hb hq0
  have HB1 := Lib.hid (hw0.trans (hb.mono hw0.size))
  have HL := Lib.hid (set4_low (q := w.heap.size + 1) (x := .int .i64 x.kind) (y := .string x.name) (z := .int .i64 x.n) (u := .slice a2 x.args.length c2) HB1.out (Nat.le_succ _))
  have HO := Lib.hid (hp.kept (Q := fun b => w.heap.size ≤ b) (fun b hb _ => set4_oth (W := w1) (q := w.heap.size + 1) (.int .i64 x.kind) (.string x.name) (.int .i64 x.n) (.slice a2 x.args.length c2) (by omega)) fun b h _ => by omega)
  have G4 := Lib.hid (set4_blk hq1 (.int .i64 x.kind) (.string x.name) (.int .i64 x.n) (.slice a2 x.args.length c2))
  obtain ⟨z0, z1, z2, z3, e0, e1, e2, e3⟩ := cellsT hq1
  clear hp hq1 hb hw0 hq0
  go_wp2_with fail
  obtain ⟨y0, y1, y2, y3, _⟩ := cellsT G4.out
  refine bodyPost_ret (v := tmv x a2 c2) (by simp [results, Try.results14, go_sem, tmv, y0, y1, y2, y3]) rfl ?_
  exact ⟨a2, c2, rfl, HO.out, HL.out⟩
end Go.Proofs.Ytjgjeafjnaodkaa
