/-
  The walk of the law TermVars.
-/
import Derived.Test.YthfdiclmbbngcaaDoorTermLaws
import Derived.Test.YthfdiclmbbngcaaDoorTermDevX
namespace Go.Proofs.YthfdiclmbbngcaaDoor
open Go.RowKit

/-- A row of terms in memory: its block, its first cell, and that all its cells are there. -/
theorem TArgsP.row {w : World} {P : Nat → Prop} {ad : Option Addr} {ts : List Tm} (h : TArgsP w P ad ts) (hpos : 0 < ts.length) : ∃ g o, ad = some ⟨g, o, none⟩ ∧ P g ∧ g < w.heap.size ∧ ∀ j, j < ts.length * 4 → ∃ u, w.cell? ⟨g, o + j, none⟩ = some u := by
  obtain ⟨xs, hx, _, h2⟩ := h.cells
  cases h with
  | nil ad => simp at hpos
  | cons b o k n nm l ts ad' cap' hp c0 c1 c2 c3 hk1 hn hm hl1 hc ha hr =>
    refine ⟨b, o, rfl, hp, World.block_lt_of_cell? w ⟨b, o, none⟩ c0, fun j hj => ?_⟩
    have hl := hx.length
    exact ⟨xs[j]'(by omega), h2 b o rfl j _ (List.getElem?_eq_getElem (by omega))⟩
theorem there_set {w : World} {a : Addr} {v : Value} {g o : Nat} (h : ∃ u, w.cell? ⟨g, o, none⟩ = some u) : ∃ u, (w.setCell a v).cell? ⟨g, o, none⟩ = some u := by
  obtain ⟨u, hu⟩ := h
  by_cases e : a = ⟨g, o, none⟩
  · subst e; exact ⟨v, World.cell?_setCell_same _ _ _ hu⟩
  · exact ⟨u, (World.cell?_setCell_other _ _ _ _ e).trans hu⟩
theorem onceGo_length : ∀ (l out : List Int), (onceGo out l).length ≤ out.length + l.length
  | [], out => Nat.le_refl _
  | x :: l, out => by
    have h := onceGo_drop (x :: l) 0 (by simp) out
    rw [List.drop_zero] at h
    rw [h]
    split
    · have := onceGo_length l out
      rw [List.length_cons]
      simp only [List.drop_succ_cons, List.drop_zero]
      omega
    · have := onceGo_length l (out ++ [x])
      rw [List.length_append, List.length_singleton] at this
      rw [List.length_cons]
      simp only [List.drop_succ_cons, List.drop_zero, List.getElem_cons_zero]
      omega
theorem vars_length (t : Tm) : t.vars.length ≤ t.size := by
  have h1 := onceGo_length t.places []
  have h2 := t.places_size
  have h3 : t.vars.length = (onceGo [] t.places).length := rfl
  rw [List.length_nil] at h1
  omega
/-- Within the round that writes over the copy's arguments: what was there ahead of the copy is as it was, the copy's own struct, too, and its row may be written. -/
structure CIn (w2 : World) (g o n q : Nat) (box : Obj) (W : World) : Prop where
  below : Below w2.heap.size w2 W
  box : W.heap[q]? = some box
  row : 0 < n → w2.heap.size ≤ g ∧ g < q ∧ (∀ j, j < n * 4 → ∃ u, W.cell? ⟨g, o + j, none⟩ = some u) ∧ ∀ j, W.frozen? ⟨g, j, none⟩ = false
theorem CIn.set {w2 : World} {g o n q : Nat} {box : Obj} {W : World} (h : CIn w2 g o n q box W) (hn : 0 < n) (j : Nat) (v : Value) : CIn w2 g o n q box (W.setCell ⟨g, j, none⟩ v) := by
  obtain ⟨h1, h2, h3, h4⟩ := h.row hn
  refine ⟨h.below.setCell h1 _, (Below.heap_setCell _ _ _ _ (show q ≠ g by omega)).trans h.box, fun _ => ⟨h1, h2, fun i hi => there_set (h3 i hi), fun i => (World.frozen?_setCell _ _ _ _).trans (h4 i)⟩⟩

set_option maxRecDepth 100000 in
set_option maxHeartbeats 4000000 in
theorem walk_TermVars (T : Tm) (ad : Option Addr) (cap : Nat) (by_ : Int) (_hby : In64 by_) (w : World) (hin : TmIn w T ad cap) (hT : AllT w) (hLive : Lives) :
    Calls Tryd.prog 5 #[tmv T ad cap, .int .i64 by_] w fun e w' => e = .returned (.bool true) ∧ Below w.heap.size w w' := by
  have HB := Lib.hid (fun o : Obj => (Below.refl w.heap.size w).alloc (Nat.le_refl _) o)
  have HL := Lib.hid hLive
  have HT := Lib.hid hT
  have HBIG := Lib.hid (fun (w0 : World) (hb : Below w.heap.size w w0) (g : Nat) (hg : g = w0.heap.size) => law_big [T] (some ⟨g, 0, none⟩) 1 (w0.alloc (.cells #[.int .i64 T.kind, .string T.name, .int .i64 T.n, .slice ad T.args.length cap] 24)) (Nat.le_refl 1) (by decide) (row1 hin hb g hg))
  have HI := Lib.hid (fun W (h : Below w.heap.size w W) => hin.on h)
  have HCF := Lib.hid (fun hM W (h : Below w.heap.size w W) => term_CopyF T ad cap W hM (hin.on h))
  have HCP := Lib.hid (fun hM W (h : Below w.heap.size w W) => term_Copy T ad cap W hM (hin.on h))
  have HRC := Lib.hid (fun hM W (h : Below w.heap.size w W) => ref_Copy T ad cap W hM (hin.on h))
  have HSH := Lib.hid (fun hM W (h : Below w.heap.size w W) => term_Shift by_ T ad cap W hM (hin.on h))
  have HRS := Lib.hid (fun hM W (h : Below w.heap.size w W) => ref_Shift by_ T.size T ad cap W (Nat.le_refl _) hM (hin.on h))
  have HV := Lib.hid (fun hM W (h : Below w.heap.size w W) => term_Vars T ad cap W hM (hin.on h))
  have HRV := Lib.hid (fun hM W (h : Below w.heap.size w W) => ref_Vars T ad cap W hM (hin.on h))
  have HST' := Lib.hid (fun hM sd ud cs cu W (hs : TmIn W T sd cs) (hu : TmIn W T ud cu) => ref_Same T.size T T sd ud cs cu W (Nat.le_refl _) hM hs hu)
  rw [Tm.same_true rfl] at HST'
  have HSS := Lib.hid (fun hM sd ud cs cu W (hs : TmIn W (T.shift by_) sd cs) (hu : TmIn W (T.shift by_) ud cu) => ref_Same (T.shift by_).size (T.shift by_) (T.shift by_) sd ud cs cu W (Nat.le_refl _) hM hs hu)
  rw [Tm.same_true rfl] at HSS
  have HSN := Lib.hid (fun hl v u B C W (h : OwnNums B W v T.vars) (h2 : OwnNums C W u T.vars) => ref_SameNums T.vars T.vars v u B C W h h2 hl hl)
  rw [beq_self_eq_true T.vars] at HSN
  have hvl := vars_length T
  have hshs := (Tm.shift_size by_ T).1
  clear hin hT hLive
  generalize T.shift by_ = S at *
  generalize T.vars = l at *
  unfold tmv at *
  go_enter Tryd.func5, Tryd.ntmps5
  go_wp2_with fail
  refine (HL.out _ (HT.out.on (HB.out _))).mono ?_; rintro e w1 ⟨rfl, hb1⟩
  have hbw1 := below_step (HB.out _) hb1
  obtain ⟨hc, hf⟩ := bcell_alloc hb1
  have hlt : w.heap.size < w1.heap.size := by have := hb1.size; rw [World.size_alloc] at this; omega
  have HKEEP : Hid (∀ W, Below w1.heap.size w1 W → W.cell? ⟨w.heap.size, 0, none⟩ = some (.int .i64 T.kind) ∧ W.cell? ⟨w.heap.size, 1, none⟩ = some (.string T.name) ∧ W.cell? ⟨w.heap.size, 2, none⟩ = some (.int .i64 T.n) ∧ W.cell? ⟨w.heap.size, 3, none⟩ = some (.slice ad T.args.length cap)) := by
    exact Lib.hid (fun W hb => ⟨(hb.cell (p := ⟨w.heap.size, 0, none⟩) hlt).trans (hc 0), (hb.cell (p := ⟨w.heap.size, 1, none⟩) hlt).trans (hc 1), (hb.cell (p := ⟨w.heap.size, 2, none⟩) hlt).trans (hc 2), (hb.cell (p := ⟨w.heap.size, 3, none⟩) hlt).trans (hc 3)⟩)
  have HST : Hid (∀ W W', Below w1.heap.size w1 W → Below W.heap.size W W' → Below w1.heap.size w1 W') := Lib.hid (fun W W' h h' => h.trans (h'.mono h.size))
  have HSW : Hid (∀ W, Below w1.heap.size w1 W → Below w.heap.size w W) := Lib.hid (fun W h => below_step hbw1 h)
  clear hb1
  go_wp2_with fail
  refine (HBIG.out w1 hbw1 _ rfl).mono ?_; rintro e w2 ⟨rfl, hb2⟩
  have b0 : Below w1.heap.size w1 w2 := ((Below.refl _ w1).alloc (Nat.le_refl _) _).trans (hb2.mono (by simp))
  clear hc hf hb2 hlt
  cases hbg : bigL [T] with
  | true =>
    go_wp2_with fail
    go_ret
    exact ⟨rfl, HSW.out _ b0⟩
  | false =>
    have hM : T.size ≤ 1000000 := by have := bigL_one T hbg; omega
    have hMS : S.size ≤ 1000000 := by omega
    have hvl' : l.length ≤ 1000000000 := by omega
    have hlen : T.args.length ≤ 1000000 := by have h1 := T.size_eq; have h2 := Tm.length_le_sizes T.args; omega
    clear hbg hshs hvl
    obtain ⟨aa0, aa1, aa2, aa3⟩ := HKEEP.out _ b0
    go_wp2_with fail
    refine (HCF.out hM _ (HSW.out _ b0)).mono ?_; rintro e v1 ⟨cd, cc, rfl, hcp, d1⟩
    have b1 := HST.out _ _ b0 d1
    clear aa0 aa1 aa2 aa3
    unfold tmv
    have hbx : Below v1.heap.size v1 (v1.alloc (.cells #[.int .i64 T.kind, .string T.name, .int .i64 T.n, .slice cd T.args.length cc] 24)) := (Below.refl _ v1).alloc (Nat.le_refl _) _
    obtain ⟨aa0, aa1, aa2, aa3⟩ := HKEEP.out _ (HST.out _ _ b1 hbx)
    go_wp2_with fail
    obtain ⟨bx, hbxe⟩ : ∃ bx : Obj, bx = .cells #[.int .i64 T.kind, .string T.name, .int .i64 T.n, .slice cd T.args.length cc] 24 (0, 0) := ⟨_, rfl⟩
    have hv2e : (v1.alloc (.cells #[.int .i64 T.kind, .string T.name, .int .i64 T.n, .slice cd T.args.length cc] 24)).heap[v1.heap.size]? = some bx := by rw [hbxe]; exact heap_alloc_new _ _
    have hd2 : Below w2.heap.size w2 (v1.alloc (.cells #[.int .i64 T.kind, .string T.name, .int .i64 T.n, .slice cd T.args.length cc] 24)) := d1.trans (hbx.mono d1.size)
    obtain ⟨g, o, hgo, HC0⟩ : ∃ g o, (0 < T.args.length → cd = some ⟨g, o, none⟩) ∧ Hid (∀ W, Below v1.heap.size v1 W → W.heap[v1.heap.size]? = some bx → CIn w2 g o T.args.length v1.heap.size bx W) := by
      by_cases hp : 0 < T.args.length
      · obtain ⟨g, o, h1, ⟨h2, h3⟩, h4, h5⟩ := hcp.args.row hp
        refine ⟨g, o, fun _ => h1, Lib.hid (fun W hW hq => ⟨d1.trans (hW.mono d1.size), hq, fun _ => ⟨h2, h4, fun j hj => ?_, fun j => (hW.frozen (p := ⟨g, j, none⟩) h4).trans (h3 j)⟩⟩)⟩
        obtain ⟨u, hu⟩ := h5 j hj
        exact ⟨u, (hW.cell (p := ⟨g, o + j, none⟩) h4).trans hu⟩
      · exact ⟨0, 0, fun h => absurd h hp, Lib.hid (fun W hW hq => ⟨d1.trans (hW.mono d1.size), hq, fun h => absurd h hp⟩)⟩
    have HGO := Lib.hid hgo
    have HBX := Lib.hid hbxe
    refine (HST'.out hM _ _ _ _ _ (hcp.toIn.on hbx) (HI.out _ (HSW.out _ (HST.out _ _ b1 hbx)))).mono ?_; rintro e v3 ⟨rfl, d3⟩
    have hq3 : v3.heap[v1.heap.size]? = some bx := (d3.block _ (by simp)).trans hv2e
    have HC3 := Lib.hid (HC0.out v3 (below_step hbx d3) hq3)
    obtain ⟨xx0, xx1, xx2, xx3⟩ := cellx4 (by rw [hbxe] at hq3; exact hq3)
    clear hv2e hd2 hgo hbxe hbx hcp d1 d3 aa0 aa1 aa2 aa3 b1 hq3 HC0
    go_wp2_with fail
    clear xx0 xx1 xx2 xx3
    go_loopw [23] (fun iv wr => ∃ k : Nat, k ≤ T.args.length ∧ iv = .int .i64 k ∧ Hid (CIn w2 g o T.args.length v1.heap.size bx wr)) (fun iv _ => T.args.length - (intOf iv).toNat)
    case atStart => exact ⟨0, Nat.zero_le _, rfl, HC3⟩
    case round =>
      obtain ⟨k, hk, rfl, HC⟩ := hrel
      obtain ⟨xx0, xx1, xx2, xx3⟩ := cellx4 (HC.out.box.trans (by rw [HBX.out]))
      by_cases hlt : k < T.args.length
      · obtain rfl := HGO.out (by omega)
        obtain ⟨r1, r2, r3, r4⟩ := HC.out.row (by omega)
        obtain ⟨u0, y0⟩ := r3 (k * 4) (by omega)
        obtain ⟨u1, y1⟩ := r3 (k * 4 + 1) (by omega)
        obtain ⟨u2, y2⟩ := r3 (k * 4 + 2) (by omega)
        obtain ⟨u3, y3⟩ := r3 (k * 4 + 3) (by omega)
        have z0 := r4 (o + k * 4)
        have z1 := r4 (o + k * 4 + 1)
        have z2 := r4 (o + k * 4 + 2)
        have z3 := r4 (o + k * 4 + 3)
        have HN : Hid (∀ a0 a1 a2 a3, CIn w2 g o T.args.length v1.heap.size bx ((((wr.setCell ⟨g, o + k * 4, none⟩ a0).setCell ⟨g, o + k * 4 + 1, none⟩ a1).setCell ⟨g, o + k * 4 + 2, none⟩ a2).setCell ⟨g, o + k * 4 + 3, none⟩ a3)) := Lib.hid (fun a0 a1 a2 a3 => (((HC.out.set (by omega) _ a0).set (by omega) _ a1).set (by omega) _ a2).set (by omega) _ a3)
        have hk0 : (0 : Int) ≤ (k : Int) := by omega
        have hk1 : (k : Int) < (T.args.length : Int) := by omega
        rw [← Nat.add_assoc] at y1 y2 y3
        clear r1 r2 r3 r4
        go_wp2_with fail
        go_roundw
        case rel => exact ⟨k + 1, by omega, by go_num, Lib.hid (HN.out _ _ _ _)⟩
        case measure => simp [intOf]; omega
      · have b3 : Below w1.heap.size w1 wr := HST.out _ _ b0 HC.out.below
        have hk1 : ¬ (k : Int) < (T.args.length : Int) := by omega
        obtain ⟨aa0, aa1, aa2, aa3⟩ := HKEEP.out _ b3
        clear xx0 xx1 xx2 xx3 HC
        go_wp2_with fail
        refine (HSH.out hM _ (HSW.out _ b3)).mono ?_; rintro e v4 ⟨sd, cs, rfl, hsp, d4⟩
        have b4 := HST.out _ _ b3 d4
        clear d4 aa0 aa1 aa2 aa3 HCF HC3 HGO HBX HSH
        unfold tmv
        have hbx : Below v4.heap.size v4 (v4.alloc (.cells #[.int .i64 S.kind, .string S.name, .int .i64 S.n, .slice sd S.args.length cs] 24)) := (Below.refl _ v4).alloc (Nat.le_refl _) _
        go_wp2_with fail
        generalize hv5 : v4.alloc _ = v5 at *
        have hx5 : v5.heap[v4.heap.size]? = some (.cells #[.int .i64 S.kind, .string S.name, .int .i64 S.n, .slice sd S.args.length cs] 24 (0, 0)) := by rw [← hv5]; exact heap_alloc_new _ _
        have hs5 : v4.heap.size < v5.heap.size := by rw [← hv5]; simp
        have b5 := HST.out _ _ b4 hbx
        have HKP : Hid (∀ W, Below v5.heap.size v5 W → Below v5.heap.size v5 W ∧ (W.cell? ⟨w.heap.size, 0, none⟩ = some (.int .i64 T.kind) ∧ W.cell? ⟨w.heap.size, 1, none⟩ = some (.string T.name) ∧ W.cell? ⟨w.heap.size, 2, none⟩ = some (.int .i64 T.n) ∧ W.cell? ⟨w.heap.size, 3, none⟩ = some (.slice ad T.args.length cap)) ∧ W.cell? ⟨v4.heap.size, 0, none⟩ = some (.int .i64 S.kind) ∧ W.cell? ⟨v4.heap.size, 1, none⟩ = some (.string S.name) ∧ W.cell? ⟨v4.heap.size, 2, none⟩ = some (.int .i64 S.n) ∧ W.cell? ⟨v4.heap.size, 3, none⟩ = some (.slice sd S.args.length cs)) := Lib.hid (fun W h => ⟨h, HKEEP.out W (HST.out _ _ b5 h), cellx4 ((h.block _ hs5).trans hx5)⟩)
        have HST2 : Hid (∀ W W', Below v5.heap.size v5 W → Below W.heap.size W W' → Below v5.heap.size v5 W') := Lib.hid (fun W W' h h' => h.trans (h'.mono h.size))
        have HSW2 : Hid (∀ W, Below v5.heap.size v5 W → Below w.heap.size w W) := Lib.hid (fun W h => HSW.out W (HST.out _ _ b5 h))
        have HSI : Hid (∀ W, Below v5.heap.size v5 W → TmIn W S sd cs) := Lib.hid (fun W h => (hsp.toIn.on hbx).on h)
        have hD0 : Below v5.heap.size v5 v5.drew := (Below.refl _ v5).drew
        have hK0 := HKP.out _ (Below.refl _ v5)
        clear hv5 hbx hx5 hsp b3 b4
        go_region_held3 (fun W => Below v5.heap.size v5 W ∧ (W.cell? ⟨w.heap.size, 0, none⟩ = some (.int .i64 T.kind) ∧ W.cell? ⟨w.heap.size, 1, none⟩ = some (.string T.name) ∧ W.cell? ⟨w.heap.size, 2, none⟩ = some (.int .i64 T.n) ∧ W.cell? ⟨w.heap.size, 3, none⟩ = some (.slice ad T.args.length cap)) ∧ W.cell? ⟨v4.heap.size, 0, none⟩ = some (.int .i64 S.kind) ∧ W.cell? ⟨v4.heap.size, 1, none⟩ = some (.string S.name) ∧ W.cell? ⟨v4.heap.size, 2, none⟩ = some (.int .i64 S.n) ∧ W.cell? ⟨v4.heap.size, 3, none⟩ = some (.slice sd S.args.length cs))
          (first | exact HKP.out _ hD0 | exact HKP.out _ q5 | exact HKP.out _ q4 | exact HKP.out _ q3 | exact HKP.out _ q2 | exact HKP.out _ q1)
          (first
            | (go_at_call 29; (refine (HSN.out hvl' _ _ _ _ _ (own3.below c4) own4).mono ?_); rintro e u5 ⟨rfl, c5⟩; have q5 := HST2.out _ _ q4 c5)
            | (go_at_call 31; (with_reducible refine (HRV.out hM _ (HSW2.out _ q3)).mono ?_); rintro e u4 ⟨x4, rfl, own4, c4⟩; have q4 := HST2.out _ _ q3 c4)
            | (go_at_call 30; (with_reducible refine (HV.out hM _ (HSW2.out _ q2)).mono ?_); rintro e u3 ⟨x3, rfl, own3, c3⟩; have q3 := HST2.out _ _ q2 c3)
            | (go_at_call 21; (refine (HSS.out hMS _ _ _ _ _ (HSI.out _ q1) tp1.toIn).mono ?_); rintro e u2 ⟨rfl, c2⟩; have q2 := HST2.out _ _ q1 c2)
            | (go_at_call 28; (with_reducible refine (HRS.out hM _ (HSW2.out _ hD0)).mono ?_); rintro e u1 ⟨ad1, cap1, rfl, tp1, c1⟩; have q1 := HST2.out _ _ hD0 c1))
        have b6 := HST.out _ _ b5 q5
        have HKQ : Hid (∀ W, Below w1.heap.size w1 W → Below w1.heap.size w1 W ∧ W.cell? ⟨w.heap.size, 0, none⟩ = some (.int .i64 T.kind) ∧ W.cell? ⟨w.heap.size, 1, none⟩ = some (.string T.name) ∧ W.cell? ⟨w.heap.size, 2, none⟩ = some (.int .i64 T.n) ∧ W.cell? ⟨w.heap.size, 3, none⟩ = some (.slice ad T.args.length cap)) := Lib.hid (fun W h => ⟨h, HKEEP.out W h⟩)
        have hE0 : Below w1.heap.size w1 u5.drew := b6.drew
        have hK6 := HKQ.out _ b6
        clear hK0 hD0 c1 c2 c3 c4 c5 q1 q2 q3 q4 own3 own4 tp1 HSN HRV HV HSS HRS HSI HKP HST2 HSW2
        go_wp2_with fail
        go_region_held3 (fun W => Below w1.heap.size w1 W ∧ W.cell? ⟨w.heap.size, 0, none⟩ = some (.int .i64 T.kind) ∧ W.cell? ⟨w.heap.size, 1, none⟩ = some (.string T.name) ∧ W.cell? ⟨w.heap.size, 2, none⟩ = some (.int .i64 T.n) ∧ W.cell? ⟨w.heap.size, 3, none⟩ = some (.slice ad T.args.length cap))
          (first | exact HKQ.out _ hE0 | exact HKQ.out _ p3 | exact HKQ.out _ p2 | exact HKQ.out _ p1)
          (first
            | (go_at_call 21; (refine (HST'.out hM _ _ _ _ _ (tq1.toIn.on f2) tq2.toIn).mono ?_); rintro e y3 ⟨rfl, f3⟩; have p3 := HST.out _ _ p2 f3)
            | (go_at_call 32; (with_reducible refine (HRC.out hM _ (HSW.out _ p1)).mono ?_); rintro e y2 ⟨ae2, ce2, rfl, tq2, f2⟩; have p2 := HST.out _ _ p1 f2)
            | (go_at_call 26; (with_reducible refine (HCP.out hM _ (HSW.out _ hE0)).mono ?_); rintro e y1 ⟨ae1, ce1, rfl, tq1, f1⟩; have p1 := HST.out _ _ hE0 f1))
        all_goals
          go_wp2_with fail
          go_ret
          exact ⟨rfl, HSW.out _ p3⟩
end Go.Proofs.YthfdiclmbbngcaaDoor
