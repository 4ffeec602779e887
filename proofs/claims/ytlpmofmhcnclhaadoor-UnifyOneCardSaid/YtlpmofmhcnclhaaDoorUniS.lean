/-
  The contract of the document's own Resolve.
-/
import Derived.Test.YtlpmofmhcnclhaaDoorUniA
import Derived.Test.YtlpmofmhcnclhaaDoorUniO
import Derived.Test.YtlpmofmhcnclhaaDoorUniD
import Derived.Deep.DeepCutAuto
import Derived.IntWalk
namespace Go.Proofs.YtlpmofmhcnclhaaDoor
open Go.RowKit

theorem resR_out (bs : List (Int × Tm)) : ∀ (d n : Nat) (t : Tm), n ≤ 2000 → ResOk bs d n (resR bs d n t)
  | 0, n, t, hn => by
    unfold resR
    rcases meet_out bs n t hn with ⟨h1, _⟩ | ⟨h1, _⟩
    · rw [if_neg (by rw [h1]; nofun)]; exact .inr ⟨by show (3 : Int) ≠ 0; decide, rfl, .inl rfl⟩
    · rw [if_pos (by rw [h1]; nofun)]; exact .inr ⟨by show (meetL bs n t).2.1 ≠ 0; rw [h1]; decide, rfl, .inr h1⟩
  | d + 1, n, t, hn => by
    unfold resR
    rcases meet_out bs n t hn with ⟨h1, h2, h3, h4⟩ | ⟨h1, _⟩
    · rw [if_neg (by rw [h1]; nofun)]
      rcases resList_out bs d (resR bs d) (fun n t hn => resR_out bs d n t hn) (meetL bs n t).1.args (meetL bs n t).2.2 h4 with ⟨k1, k2, k3, k4, k5, _⟩ | k1
      · rw [if_neg (by rw [k1]; nofun)]
        refine .inl ⟨rfl, fun v hv => ?_, ?_, ?_, k5⟩
        · have hv : v ∈ (Tm.mk _ _ _ _).places := hv
          rw [places_mk] at hv
          rcases List.mem_append.1 hv with hv | hv
          · by_cases hk : (meetL bs n t).1.kind = 1
            · rw [if_pos hk] at hv
              rw [List.mem_singleton.1 hv]; exact h2 hk
            · rw [if_neg hk] at hv; cases hv
          · exact k2 v hv
        · rw [Tm.deep_eq]; show Tm.deeps (resList _ _ _).1 + 1 ≤ d + 1; omega
        · rw [Tm.size_eq]; show n + (1 + Tm.sizes (resList _ _ _).1) ≤ (resList _ _ _).2.2; omega
      · rw [if_pos (by rcases k1 with k1 | k1 <;> rw [k1] <;> nofun)]
        exact .inr ⟨by rcases k1 with k1 | k1 <;> (show (resList _ _ _).2.1 ≠ 0; rw [k1]; decide), rfl, k1⟩
    · rw [if_pos (by rw [h1]; nofun)]; exact .inr ⟨by show (meetL bs n t).2.1 ≠ 0; rw [h1]; decide, rfl, .inr h1⟩

/-- What resolve leaves. -/
def ResOut (mb : Nat) (w : World) (r : Tm × Int × Nat) (e : Ending) (w' : World) : Prop := WalkOut (fun b => w.heap.size ≤ b) mb w r e w'
/-- Within the loop: k arguments are resolved, they are ys. -/
structure RsI (f : Nat → Tm → Tm × Int × Nat) (mb : Nat) (r0 : List Tm × Int × Nat) (w : World) (X : Tm) (a1 : Option Addr) (c1 : Nat) (k n : Nat) (ys : List Tm) (lv : Value) (W : World) : Prop where
  le : n ≤ 2000
  yl : ys.length = k
  ans : resCat ys (resList f n (X.args.drop k)) = r0
  turn : Turn (fun j => j = mb) w W
  box : W.heap[w.heap.size]? = some (.cells #[.int .i64 X.kind, .string X.name, .int .i64 X.n, .slice a1 X.args.length c1] 25 (0, 0))
  res : W.heap[w.heap.size + 1]? = some (.cells #[.int .i64 0, .string ⟨#[]⟩, .int .i64 0, .slice none 0 0] 25 (0, 0))
  px : TmP W (Old mb w) X a1 c1
  mt : MtAt W mb n
  own : OwnTerms (w.heap.size + 2) W lv ys
/-- The same but for the meter, and new blocks. -/
structure RsK (mb : Nat) (w : World) (X : Tm) (a1 : Option Addr) (c1 : Nat) (W : World) : Prop where
  turn : Turn (fun j => j = mb) w W
  box : W.heap[w.heap.size]? = some (.cells #[.int .i64 X.kind, .string X.name, .int .i64 X.n, .slice a1 X.args.length c1] 25 (0, 0))
  res : W.heap[w.heap.size + 1]? = some (.cells #[.int .i64 0, .string ⟨#[]⟩, .int .i64 0, .slice none 0 0] 25 (0, 0))
  px : TmP W (Old mb w) X a1 c1
theorem RsK.on {mb : Nat} {w W W' : World} {X : Tm} {a1 : Option Addr} {c1 : Nat} (h : RsK mb w X a1 c1 W) (hm : mb < w.heap.size) (ht : Turn (fun j => j = mb ∨ w.heap.size + 2 ≤ j) W W') : RsK mb w X a1 c1 W' :=
  ⟨⟨ht.os.trans h.turn.os, ht.tape.trans h.turn.tape, ht.output.trans h.turn.output, Nat.le_trans h.turn.size ht.size, fun k hk hn => (ht.block k (Nat.lt_of_lt_of_le hk h.turn.size) (by omega)).trans (h.turn.block k hk hn)⟩,
    (ht.block _ (Array.getElem?_eq_some_iff.1 h.box).1 (by omega)).trans h.box, (ht.block _ (Array.getElem?_eq_some_iff.1 h.res).1 (by omega)).trans h.res, h.px.turnS ht fun b hb => by have h1 := hb.1; have h2 := hb.2; omega⟩
theorem OwnTerms.turnU {B : Nat} {M : Nat → Prop} {w w' : World} {v : Value} {ts : List Tm} (h : OwnTerms B w v ts) (ht : Turn M w w') (hM : ∀ j, M j → j < B) : OwnTerms B w' v ts := by
  obtain ⟨xs, h1, h2⟩ := h
  have k : ∀ b, B ≤ b → b < w.heap.size → w'.heap[b]? = w.heap[b]? := fun b hb hl => ht.block b hl fun hm => by have := hM b hm; omega
  refine ⟨xs, ?_, h2.kept (fun b hb hl => k b hb.1 hl) fun _ h _ => h⟩
  obtain ⟨hl, h1⟩ := h1
  refine ⟨hl, ?_⟩
  rcases h1 with h0 | ⟨g, cap, cur, hv, hbg, hh, r⟩
  · exact .inl h0
  · exact .inr ⟨g, cap, cur, hv, hbg, (k g hbg (Array.getElem?_eq_some_iff.1 hh).1).trans hh, r⟩
theorem resList_step {f : Nat → Tm → Tm × Int × Nat} {n n' : Nat} {ys : List Tm} {x y : Tm} {ts : List Tm} {r0 : List Tm × Int × Nat} (h : resCat ys (resList f n (x :: ts)) = r0) (hf : f n x = (y, 0, n')) : resCat (ys ++ [y]) (resList f n' ts) = r0 := by
  rw [resList_cat f n x _ (by rw [hf]), hf, resCat_cat] at h; exact h
theorem resList_fell {f : Nat → Tm → Tm × Int × Nat} {n : Nat} {ys : List Tm} {x : Tm} {ts : List Tm} {r0 : List Tm × Int × Nat} (h : resCat ys (resList f n (x :: ts)) = r0) (hf : (f n x).2.1 ≠ 0) : r0 = ([], (f n x).2.1, (f n x).2.2) := by
  rw [resList_bad f n x _ hf] at h
  unfold resCat at h
  rw [if_pos hf] at h
  exact h.symm

set_option maxRecDepth 100000 in
set_option maxHeartbeats 8000000 in
/-- The term is not met, or too deep. -/
theorem r9_res_end (bs : List (Int × Tm)) (ab : Option Addr) (cb mb n : Nat) (o er er' : Int) (X t : Tm) (n1 : Nat) (ad : Option Addr) (cap : Nat) (w : World) (hlen : bs.length ≤ 1000000) (hb : BdsAt w (Old mb w) ab bs) (ht : TmP w (Old mb w) t ad cap) (hm : MtAt w mb n) (hn : n ≤ 2000) (hwk : meetL bs n t = (X, er, n1)) (hcase : (er ≠ 0 ∧ er' = er) ∨ (er = 0 ∧ o = 60 ∧ er' = 3)) :
    Calls Tryd.prog 33 #[.pointer (some ⟨mb, 0, none⟩), .slice ab bs.length cb, tmv t ad cap, .int .i64 o] w (ResOut mb w (zeroT, er', n1)) := by
  have hml := hm.lt
  have HBX := Lib.hid (meet_boxes hm (.cells #[.int .i64 t.kind, .string t.name, .int .i64 t.n, .slice ad t.args.length cap] 25) (.cells #[.int .i64 0, .string ⟨#[]⟩, .int .i64 0, .slice none 0 0] 25))
  have HM := Lib.hid (fun W (h : Turn (fun j => j = mb) w W) (hl : MtAt W mb n) => r9_Meet bs ab cb mb n t ad cap W (Old mb w) hlen (fun b hb' => by have h1 := h.size; exact ⟨Nat.lt_of_lt_of_le hb'.1 h1, hb'.2⟩) (hb.turn h fun b hb' => hb'.2) hl hn (ht.turnS h fun b hb' => hb'.2))
  clear hm hb ht
  rw [hwk] at HM
  clear hwk
  unfold WalkOut at HM
  unfold tmv at *
  dsimp only at HM
  rcases hcase with ⟨her, rfl⟩ | ⟨rfl, rfl, rfl⟩
  · have hd : (er' != 0) = true := bne_iff_ne.2 her
    clear her
    go_enter Tryd.func33, Tryd.ntmps33
    go_wp2_with fail
    generalize (w.alloc _).alloc _ = w0 at *
    obtain ⟨q0, q1, t0, m0, s0⟩ := HBX.out
    refine (HM.out w0 t0 m0).mono ?_; rintro e w1 ⟨a2, c2, rfl, _, m1, t1⟩
    obtain ⟨z0, z1, z2, z3, e0, e1, e2, e3⟩ := cellsT ((t1.block w.heap.size (by omega) (by omega)).trans q0)
    have HG1 := Lib.hid ((t1.block (w.heap.size + 1) (by omega) (by omega)).trans q1)
    have HT1 := Lib.hid (t0.trans t1)
    have HM1 := Lib.hid m1
    clear q0 q1 t0 m0 t1 m1 HBX HM
    go_upto_region 2 with fail
    have HT3 := Lib.hid ((HT1.out.more (M' := fun j => j = mb ∨ w.heap.size ≤ j) fun j e => .inl e).trans (Turn.set4 (M := fun j => j = mb ∨ w.heap.size ≤ j) (W := w1) (q := w.heap.size) (.inr (Nat.le_refl _)) (.int .i64 X.kind) (.string X.name) (.int .i64 X.n) (.slice a2 X.args.length c2)))
    have HM3 := Lib.hid (HM1.out.turn (Turn.set4 (M := fun j => j = w.heap.size) (W := w1) (q := w.heap.size) rfl (.int .i64 X.kind) (.string X.name) (.int .i64 X.n) (.slice a2 X.args.length c2)) (by omega))
    have hg3 := (set4_oth (W := w1) (q := w.heap.size) (j := w.heap.size + 1) (.int .i64 X.kind) (.string X.name) (.int .i64 X.n) (.slice a2 X.args.length c2) (by omega)).trans HG1.out
    generalize (((w1.setCell _ _).setCell _ _).setCell _ _).setCell _ _ = w3 at *
    have HF := Lib.hid (walk_err (P := fun b => w.heap.size ≤ b) (er := er') hml HT3.out HM3.out)
    have G4 := Lib.hid (set4_blk hg3 (.int .i64 0) (.string ⟨#[]⟩) (.int .i64 0) (.slice none 0 0))
    clear z0 z1 z2 z3 e0 e1 e2 e3
    obtain ⟨z0, z1, z2, z3, e0, e1, e2, e3⟩ := cellsT hg3
    clear hg3
    go_wp2_with fail
    obtain ⟨y0, y1, y2, y3, _⟩ := cellsT G4.out
    refine bodyPost_ret (v := .tuple #[.agg #[.int .i64 0, .string ⟨#[]⟩, .int .i64 0, .slice none 0 0], .int .i64 er']) (by simp [results, Tryd.results33, go_sem, y0, y1, y2, y3]) rfl ?_
    exact HF.out
  · go_enter Tryd.func33, Tryd.ntmps33
    go_wp2_with fail
    generalize (w.alloc _).alloc _ = w0 at *
    obtain ⟨q0, q1, t0, m0, s0⟩ := HBX.out
    refine (HM.out w0 t0 m0).mono ?_; rintro e w1 ⟨a2, c2, rfl, _, m1, t1⟩
    obtain ⟨z0, z1, z2, z3, e0, e1, e2, e3⟩ := cellsT ((t1.block w.heap.size (by omega) (by omega)).trans q0)
    have HG1 := Lib.hid ((t1.block (w.heap.size + 1) (by omega) (by omega)).trans q1)
    have HT1 := Lib.hid (t0.trans t1)
    have HM1 := Lib.hid m1
    clear q0 q1 t0 m0 t1 m1 HBX HM
    go_upto_region 2 with fail
    have HT3 := Lib.hid ((HT1.out.more (M' := fun j => j = mb ∨ w.heap.size ≤ j) fun j e => .inl e).trans (Turn.set4 (M := fun j => j = mb ∨ w.heap.size ≤ j) (W := w1) (q := w.heap.size) (.inr (Nat.le_refl _)) (.int .i64 X.kind) (.string X.name) (.int .i64 X.n) (.slice a2 X.args.length c2)))
    have HM3 := Lib.hid (HM1.out.turn (Turn.set4 (M := fun j => j = w.heap.size) (W := w1) (q := w.heap.size) rfl (.int .i64 X.kind) (.string X.name) (.int .i64 X.n) (.slice a2 X.args.length c2)) (by omega))
    have hg3 := (set4_oth (W := w1) (q := w.heap.size) (j := w.heap.size + 1) (.int .i64 X.kind) (.string X.name) (.int .i64 X.n) (.slice a2 X.args.length c2) (by omega)).trans HG1.out
    generalize (((w1.setCell _ _).setCell _ _).setCell _ _).setCell _ _ = w3 at *
    have HF := Lib.hid (walk_err (P := fun b => w.heap.size ≤ b) (er := 3) hml HT3.out HM3.out)
    have G4 := Lib.hid (set4_blk hg3 (.int .i64 0) (.string ⟨#[]⟩) (.int .i64 0) (.slice none 0 0))
    clear z0 z1 z2 z3 e0 e1 e2 e3
    obtain ⟨z0, z1, z2, z3, e0, e1, e2, e3⟩ := cellsT hg3
    clear hg3
    go_wp2_with fail
    obtain ⟨y0, y1, y2, y3, _⟩ := cellsT G4.out
    refine bodyPost_ret (v := .tuple #[.agg #[.int .i64 0, .string ⟨#[]⟩, .int .i64 0, .slice none 0 0], .int .i64 3]) (by simp [results, Tryd.results33, go_sem, y0, y1, y2, y3]) rfl ?_
    exact HF.out
end Go.Proofs.YtlpmofmhcnclhaaDoor
