/-
  The walk of the law TermShifts.
-/
import Derived.Test.YthfdiclmbbngcaaDoorTermLaws
import Derived.Test.YthfdiclmbbngcaaDoorTermDevX
namespace Go.Proofs.YthfdiclmbbngcaaDoor
open Go.RowKit

/-- A shifted list: each number has the same distance. -/
theorem map_sub {l : List Int} {c : Int} (hc : In64 c) (k : Nat) (h : k < l.length) (h' : k < (l.map (fun x => add64 x c)).length) : wrap64 ((l.map (fun x => add64 x c))[k] - l[k]) = c := by
  rw [List.getElem_map]
  exact add64_sub hc

set_option maxRecDepth 100000 in
set_option maxHeartbeats 4000000 in
theorem walk_TermShifts (T : Tm) (ad : Option Addr) (cap : Nat) (by_ : Int) (hby : In64 by_) (w : World) (hin : TmIn w T ad cap) (hT : AllT w) (hLive : Lives) :
    Calls Tryd.prog 11 #[tmv T ad cap, .int .i64 by_] w fun e w' => e = .returned (.bool true) ∧ Below w.heap.size w w' := by
  have HB := Lib.hid (fun o : Obj => (Below.refl w.heap.size w).alloc (Nat.le_refl _) o)
  have HL := Lib.hid hLive
  have HT := Lib.hid hT
  have HBIG := Lib.hid (fun (w0 : World) (hb : Below w.heap.size w w0) (g : Nat) (hg : g = w0.heap.size) => law_big [T] (some ⟨g, 0, none⟩) 1 (w0.alloc (.cells #[.int .i64 T.kind, .string T.name, .int .i64 T.n, .slice ad T.args.length cap] 24)) (Nat.le_refl 1) (by decide) (row1 hin hb g hg))
  have n64T := (Tm.n64_eq T).2 ⟨hin.n, hin.args.n64⟩
  have HSH := Lib.hid (fun hM W (h : Below w.heap.size w W) => term_Shift by_ T ad cap W hM (hin.on h))
  have HCP := Lib.hid (fun hM W (h : Below w.heap.size w W) => term_Copy T ad cap W hM (hin.on h))
  have HV := Lib.hid (fun hM W (h : Below w.heap.size w W) => term_Vars T ad cap W hM (hin.on h))
  have HVS := Lib.hid (fun hM sd cs W (hs : TmIn W (T.shift by_) sd cs) => term_Vars (T.shift by_) sd cs W hM hs)
  rw [vars_shift T by_ n64T] at HVS
  have HZ := Lib.hid (fun hM W (h : Below w.heap.size w W) => term_Size T ad cap W hM (hin.on h))
  have HZS := Lib.hid (fun hM sd cs W (hs : TmIn W (T.shift by_) sd cs) => term_Size (T.shift by_) sd cs W hM hs)
  have HD := Lib.hid (fun hM W (h : Below w.heap.size w W) => term_Deep T ad cap W hM (hin.on h))
  have HDS := Lib.hid (fun hM sd cs W (hs : TmIn W (T.shift by_) sd cs) => term_Deep (T.shift by_) sd cs W hM hs)
  have hshs := (Tm.shift_size by_ T).1
  have hshd := (Tm.shift_size by_ T).2
  have HSM := Lib.hid (fun (_ : T.vars = []) h1 h2 sd cs ud cu W (hs : TmIn W (T.shift by_) sd cs) (hu : TmIn W T ud cu) => term_Same (T.shift by_) T sd ud cs cu W h1 h2 hs hu)
  have HSAME : Hid (T.vars = [] → (T.shift by_).same T = true) := Lib.hid (fun h => Tm.same_true (Tm.shift_none by_ T (vars_nil h)))
  have hvl : T.vars.length ≤ 1000000 ∨ True := .inr trivial
  clear hvl hin hT hLive n64T
  generalize hS : T.shift by_ = S at *
  rw [hshs] at HZS
  rw [hshd] at HDS
  clear hS
  generalize T.vars = l at *
  have HSUB := Lib.hid (map_sub (l := l) (c := by_) hby)
  have hml : (l.map (fun x => add64 x by_)).length = l.length := List.length_map _
  generalize l.map (fun x => add64 x by_) = m at *
  unfold tmv at *
  go_enter Tryd.func11, Tryd.ntmps11
  go_wp2_with fail
  refine (HL.out _ (HT.out.on (HB.out _))).mono ?_; rintro e w1 ⟨rfl, hb1⟩
  have hbw1 := below_step (HB.out _) hb1
  obtain ⟨hc, hf⟩ := bcell_alloc hb1
  have hlt : w.heap.size < w1.heap.size := by have := hb1.size; rw [World.size_alloc] at this; omega
  have HKEEP : Hid (∀ W, Below w1.heap.size w1 W → W.cell? ⟨w.heap.size, 0, none⟩ = some (.int .i64 T.kind) ∧ W.cell? ⟨w.heap.size, 1, none⟩ = some (.string T.name) ∧ W.cell? ⟨w.heap.size, 2, none⟩ = some (.int .i64 T.n) ∧ W.cell? ⟨w.heap.size, 3, none⟩ = some (.slice ad T.args.length cap)) := by
    exact Lib.hid (fun W hb => ⟨(hb.cell (p := ⟨w.heap.size, 0, none⟩) hlt).trans (hc 0), (hb.cell (p := ⟨w.heap.size, 1, none⟩) hlt).trans (hc 1), (hb.cell (p := ⟨w.heap.size, 2, none⟩) hlt).trans (hc 2), (hb.cell (p := ⟨w.heap.size, 3, none⟩) hlt).trans (hc 3)⟩)
  have HST : Hid (∀ W W', Below w1.heap.size w1 W → Below W.heap.size W W' → Below w1.heap.size w1 W') := Lib.hid (fun W W' h h' => h.trans (h'.mono h.size))
  have HSW : Hid (∀ W, Below w1.heap.size w1 W → Below w.heap.size w W) := Lib.hid (fun W h => below_step hbw1 h)
  clear hb1
  go_wp2_with fail
  refine (HBIG.out w1 hbw1 _ rfl).mono ?_; rintro e w2 ⟨rfl, hb2⟩
  have b0 : Below w1.heap.size w1 w2 := ((Below.refl _ w1).alloc (Nat.le_refl _) _).trans (hb2.mono (by simp))
  clear hc hf hb2 hlt
  cases hbg : bigL [T] with
  | true =>
    go_wp2_with fail
    go_ret
    exact ⟨rfl, HSW.out _ b0⟩
  | false =>
    have hM : T.size ≤ 1000000 := by have := bigL_one T hbg; omega
    have hMS : S.size ≤ 1000000 := by omega
    clear hbg hshs hshd
    obtain ⟨aa0, aa1, aa2, aa3⟩ := HKEEP.out _ b0
    go_wp2_with fail
    refine (HSH.out hM _ (HSW.out _ b0)).mono ?_; rintro e v1 ⟨sd, cs, rfl, hsp, d1⟩
    have b1 := HST.out _ _ b0 d1
    clear d1 aa0 aa1 aa2 aa3
    unfold tmv
    have hbx : Below v1.heap.size v1 (v1.alloc (.cells #[.int .i64 S.kind, .string S.name, .int .i64 S.n, .slice sd S.args.length cs] 24)) := (Below.refl _ v1).alloc (Nat.le_refl _) _
    obtain ⟨aa0, aa1, aa2, aa3⟩ := HKEEP.out _ (HST.out _ _ b1 hbx)
    go_wp2_with fail
    generalize hv2 : v1.alloc _ = v2 at *
    have hx2 : v2.heap[v1.heap.size]? = some (.cells #[.int .i64 S.kind, .string S.name, .int .i64 S.n, .slice sd S.args.length cs] 24 (0, 0)) := by rw [← hv2]; exact heap_alloc_new _ _
    have hs2 : v1.heap.size < v2.heap.size := by rw [← hv2]; simp
    have b2 := HST.out _ _ b1 hbx
    have HKP : Hid (∀ W, Below v2.heap.size v2 W → Below v2.heap.size v2 W ∧ (W.cell? ⟨w.heap.size, 0, none⟩ = some (.int .i64 T.kind) ∧ W.cell? ⟨w.heap.size, 1, none⟩ = some (.string T.name) ∧ W.cell? ⟨w.heap.size, 2, none⟩ = some (.int .i64 T.n) ∧ W.cell? ⟨w.heap.size, 3, none⟩ = some (.slice ad T.args.length cap)) ∧ W.cell? ⟨v1.heap.size, 0, none⟩ = some (.int .i64 S.kind) ∧ W.cell? ⟨v1.heap.size, 1, none⟩ = some (.string S.name) ∧ W.cell? ⟨v1.heap.size, 2, none⟩ = some (.int .i64 S.n) ∧ W.cell? ⟨v1.heap.size, 3, none⟩ = some (.slice sd S.args.length cs)) := Lib.hid (fun W h => ⟨h, HKEEP.out W (HST.out _ _ b2 h), cellx4 ((h.block _ hs2).trans hx2)⟩)
    have HST2 : Hid (∀ W W', Below v2.heap.size v2 W → Below W.heap.size W W' → Below v2.heap.size v2 W') := Lib.hid (fun W W' h h' => h.trans (h'.mono h.size))
    have HSW2 : Hid (∀ W, Below v2.heap.size v2 W → Below w.heap.size w W) := Lib.hid (fun W h => HSW.out W (HST.out _ _ b2 h))
    have HSS : Hid (∀ W, Below v2.heap.size v2 W → TmIn W S sd cs) := Lib.hid (fun W h => (hsp.toIn.on hbx).on h)
    clear hv2 hbx hx2 hsp aa0 aa1 aa2 aa3 b1
    refine (HV.out hM _ (HSW2.out _ (Below.refl _ v2))).mono ?_; rintro e v3 ⟨x1, rfl, own1, d3⟩
    have g3 := HST2.out _ _ (Below.refl _ v2) d3
    obtain ⟨_, _, ss0, ss1, ss2, ss3⟩ := HKP.out _ g3
    clear d3
    go_wp2_with fail
    refine (HVS.out hMS _ _ _ (HSS.out _ g3)).mono ?_; rintro e v4 ⟨x2, rfl, own2, d4⟩
    have g4 := HST2.out _ _ g3 d4
    obtain ⟨ad1, cap1, rfl, hlc1, hcm1, hcell1⟩ := (own1.below d4).view
    obtain ⟨ad2, cap2, rfl, hlc2, hcm2, hcell2⟩ := own2.view
    have HX := Lib.hid hcell1
    have HY := Lib.hid hcell2
    have HML := Lib.hid hml
    unfold maxLen at hcm1 hcm2
    clear ss0 ss1 ss2 ss3 own1 own2 d4 hcell1 hcell2
    rw [hml]
    clear hml
    have eL : ((l.length : Int) != (l.length : Int)) = false := by simp
    have eZ : ((T.size : Int) != (T.size : Int)) = false := by simp
    have eD : ((T.deep : Int) != (T.deep : Int)) = false := by simp
    have hD0 : Below v2.heap.size v2 v4.drew := g4.drew
    have hK0 := HKP.out _ g4
    go_wp2_with fail
    go_region_held3 (fun W => Below v2.heap.size v2 W ∧ (W.cell? ⟨w.heap.size, 0, none⟩ = some (.int .i64 T.kind) ∧ W.cell? ⟨w.heap.size, 1, none⟩ = some (.string T.name) ∧ W.cell? ⟨w.heap.size, 2, none⟩ = some (.int .i64 T.n) ∧ W.cell? ⟨w.heap.size, 3, none⟩ = some (.slice ad T.args.length cap)) ∧ W.cell? ⟨v1.heap.size, 0, none⟩ = some (.int .i64 S.kind) ∧ W.cell? ⟨v1.heap.size, 1, none⟩ = some (.string S.name) ∧ W.cell? ⟨v1.heap.size, 2, none⟩ = some (.int .i64 S.n) ∧ W.cell? ⟨v1.heap.size, 3, none⟩ = some (.slice sd S.args.length cs))
      (first | exact HKP.out _ hD0 | exact HKP.out _ q4 | exact HKP.out _ q3 | exact HKP.out _ q2 | exact HKP.out _ q1)
      (first
        | (go_at_call 16; (with_reducible refine (HD.out hM _ (HSW2.out _ q3)).mono ?_); rintro e u4 ⟨rfl, c4⟩; have q4 := HST2.out _ _ q3 c4)
        | (go_at_call 16; (with_reducible refine (HDS.out hMS _ _ _ (HSS.out _ q2)).mono ?_); rintro e u3 ⟨rfl, c3⟩; have q3 := HST2.out _ _ q2 c3)
        | (go_at_call 18; (with_reducible refine (HZ.out hM _ (HSW2.out _ q1)).mono ?_); rintro e u2 ⟨rfl, c2⟩; have q2 := HST2.out _ _ q1 c2)
        | (go_at_call 18; (with_reducible refine (HZS.out hM _ _ _ (HSS.out _ hD0)).mono ?_); rintro e u1 ⟨rfl, c1⟩; have q1 := HST2.out _ _ hD0 c1))
    have hu4 : Below v4.heap.size v4 u4 := below_step (below_step (below_step (below_step ((Below.refl _ v4).drew) c1) c2) c3) c4
    clear hK0 eL eZ eD HZ HZS HD HDS c1 c2 c3 c4 q1 q2 q3
    go_wp2_with fail
    go_loopw [43] (fun iv wr => ∃ k : Nat, k ≤ l.length ∧ iv = .int .i64 k ∧ Below u4.heap.size u4 wr) (fun iv _ => l.length - (intOf iv).toNat)
    case atStart => exact ⟨0, Nat.zero_le _, rfl, Below.refl _ _⟩
    case round =>
      obtain ⟨k, hk, rfl, hbw⟩ := hrel
      have hbw4 : Below v4.heap.size v4 wr := below_step hu4 hbw
      by_cases hlt : k < l.length
      · have hltm : k < m.length := by have := HML.out; omega
        obtain ⟨g, rfl, c0⟩ := HX.out k hlt
        obtain ⟨g', rfl, d0⟩ := HY.out k hltm
        have c1 := (hbw4.cell (p := ⟨g, k, none⟩) (World.block_lt_of_cell? v4 _ c0)).trans c0
        have d1 := (hbw4.cell (p := ⟨g', k, none⟩) (World.block_lt_of_cell? v4 _ d0)).trans d0
        have hsub := HSUB.out k hlt hltm
        generalize l[k] = x at *
        generalize m[k] = y at *
        have hk0 : (0 : Int) ≤ (k : Int) := by omega
        have hk1 : (k : Int) < (l.length : Int) := by omega
        have eN : (wrap64 (y - x) != by_) = false := by rw [hsub]; simp
        clear c0 d0 hbw4 hsub
        go_wp2_with fail
        go_quiet (fail)
        go_wp2_with fail
        go_roundw
        case rel => exact ⟨k + 1, by omega, by go_num, below_drewN hbw _⟩
        case measure => simp [intOf]; omega
      · have hu5 : Below v2.heap.size v2 wr := HST2.out _ _ q4 hbw
        have hD1 : Below v2.heap.size v2 wr.drew := hu5.drew
        have hK1 := HKP.out _ hu5
        have hx1 : ¬ (k : Int) < (l.length : Int) := by omega
        by_cases hl0 : l = []
        · have HSM' := Lib.hid (HSM.out hl0 hMS hM)
          rw [HSAME.out hl0] at HSM'
          have e0 : ¬ (0 : Int) < (l.length : Int) := by rw [hl0]; decide
          go_wp2_with fail
          go_region_held3 (fun W => Below v2.heap.size v2 W ∧ (W.cell? ⟨w.heap.size, 0, none⟩ = some (.int .i64 T.kind) ∧ W.cell? ⟨w.heap.size, 1, none⟩ = some (.string T.name) ∧ W.cell? ⟨w.heap.size, 2, none⟩ = some (.int .i64 T.n) ∧ W.cell? ⟨w.heap.size, 3, none⟩ = some (.slice ad T.args.length cap)) ∧ W.cell? ⟨v1.heap.size, 0, none⟩ = some (.int .i64 S.kind) ∧ W.cell? ⟨v1.heap.size, 1, none⟩ = some (.string S.name) ∧ W.cell? ⟨v1.heap.size, 2, none⟩ = some (.int .i64 S.n) ∧ W.cell? ⟨v1.heap.size, 3, none⟩ = some (.slice sd S.args.length cs))
            (first | exact HKP.out _ hD1 | exact HKP.out _ p2 | exact HKP.out _ p1)
            (first
              | (go_at_call 20; (refine (HSM'.out _ _ _ _ _ (HSS.out _ p1) tp1.toIn).mono ?_); rintro e y2 ⟨rfl, f2⟩; have p2 := HST2.out _ _ p1 f2)
              | (go_at_call 26; (with_reducible refine (HCP.out hM _ (HSW2.out _ hD1)).mono ?_); rintro e y1 ⟨adc, capc, rfl, tp1, f1⟩; have p1 := HST2.out _ _ hD1 f1))
          all_goals
            go_wp2_with fail
            go_ret
            exact ⟨rfl, HSW2.out _ p2⟩
        · have e0 : (0 : Int) < (l.length : Int) := by have := List.length_pos_iff.2 hl0; omega
          go_wp2_with fail
          go_quiet (fail)
          go_wp2_with fail
          go_ret
          exact ⟨rfl, HSW2.out _ (below_drewN hu5 _)⟩
end Go.Proofs.YthfdiclmbbngcaaDoor
