/-
  The walk of the law TokenBlanks.
-/
import Derived.Test.YtglaoacdenecfaaDoorTokH
import Derived.Test.YtglaoacdenecfaaDoorTokJoin
import Derived.RegionTactic
import Derived.BigRegion
import Derived.Deep.RegionHeld3
namespace Go.Proofs.YtglaoacdenecfaaDoor
open Go.RowKit

theorem turned5 (i : Int) : ∃ J : Nat, J < 5 ∧ (wrap64 (i.tmod 5 + 5)).tmod 5 = (J : Int) := by
  have h1 := Int.tmod_lt_of_pos i (b := 5) (by decide)
  have h2 : -5 < i.tmod 5 := by
    have := Int.natAbs_tmod i 5
    have h3 : i.natAbs % (5 : Int).natAbs < 5 := Nat.mod_lt _ (by decide)
    omega
  rw [IntWalk.wrap64_in _ ⟨by omega, by omega⟩]
  have h4 := Int.tmod_lt_of_pos (i.tmod 5 + 5) (b := 5) (by decide)
  have h5 := Int.tmod_nonneg 5 (show 0 ≤ i.tmod 5 + 5 by omega)
  exact ⟨((i.tmod 5 + 5).tmod 5).toNat, by omega, by omega⟩

theorem five_at (j : Nat) (x0 x1 x2 x3 x4 y : ByteArray) (h : ([x0, x1, x2, x3, x4] : List ByteArray)[j]? = some y) (w : World) :
    (Instr.index 33 (.agg #[.string x0, .string x1, .string x2, .string x3, .string x4]) (.int .i64 (j : Nat))).run Tryd.prog w = .ok (.string y) w := by
  match j, h with
  | 0, h => obtain rfl := Option.some.inj h; simp [Instr.index, run_underlying Tryd.underlying33, asIntOf, go_sem]
  | 1, h => obtain rfl := Option.some.inj h; simp [Instr.index, run_underlying Tryd.underlying33, asIntOf, go_sem]
  | 2, h => obtain rfl := Option.some.inj h; simp [Instr.index, run_underlying Tryd.underlying33, asIntOf, go_sem]
  | 3, h => obtain rfl := Option.some.inj h; simp [Instr.index, run_underlying Tryd.underlying33, asIntOf, go_sem]
  | 4, h => obtain rfl := Option.some.inj h; simp [Instr.index, run_underlying Tryd.underlying33, asIntOf, go_sem]
def aheadB (J : Nat) : ByteArray := ⟨(aheadL J).toArray⟩
theorem ahead_at (J : Nat) (hJ : J < 5) (w : World) : (Instr.index 33 (.agg #[.string ⟨#[32]⟩, .string ⟨#[10]⟩, .string ⟨#[37, 32, 120, 32, 46, 32, 39, 32, 121, 10]⟩, .string ⟨#[47, 42, 32, 97, 10, 32, 39, 42, 47]⟩, .string ⟨#[47, 42, 42, 47, 9]⟩]) (.int .i64 (J : Nat))).run Tryd.prog w = .ok (.string (aheadB J)) w := by
  refine five_at J _ _ _ _ _ _ ?_ w
  match J, hJ with
  | 0, _ => rfl
  | 1, _ => rfl
  | 2, _ => rfl
  | 3, _ => rfl
  | 4, _ => rfl
theorem ahead_size (J : Nat) : 0 < (aheadB J).size ∧ (aheadB J).size ≤ 20 := by
  match J with
  | 0 => exact ⟨by decide, by decide⟩
  | 1 => exact ⟨by decide, by decide⟩
  | 2 => exact ⟨by decide, by decide⟩
  | 3 => exact ⟨by decide, by decide⟩
  | k + 4 => exact ⟨by show 0 < 5; decide, by show 5 ≤ 20; decide⟩
theorem ahead_list (J : Nat) : (aheadB J).data.toList = aheadL J := by unfold aheadB; simp
theorem ahead_len (J : Nat) : (aheadL J).length = (aheadB J).size := by rw [← ahead_list, size_listT]

/-- A token's four cells, turned by d places. -/
theorem TokAt.cells {w : World} {g j : Nat} {t : Tok} (h : TokAt w g j t) : w.cell? ⟨g, j * 4, none⟩ = some (.int .i64 t.kind) ∧ w.cell? ⟨g, j * 4 + 1, none⟩ = some (.string ⟨t.text.toArray⟩) ∧ w.cell? ⟨g, j * 4 + 2, none⟩ = some (.int .i64 t.n) ∧ w.cell? ⟨g, j * 4 + 3, none⟩ = some (.int .i64 (t.pos : Nat)) := ⟨h.kind, h.text, h.n, h.pos⟩

set_option maxRecDepth 100000 in
set_option maxHeartbeats 4000000 in
theorem walk_TokenBlanks (s : ByteArray) (n : Int) (w : World) (hs : s.data.toList.length ≤ reachBytes) (hn : In64 n) (hT : TabsT w) :
    Calls Tryd.prog 6 #[.string s, .int .i64 n] w fun e w' => e = .returned (.bool true) ∧ Below w.heap.size w w' := by
  have HT := Lib.hid hT
  have HL := Lib.hid (tok_live w hT)
  rw [size_listT] at hs
  unfold reachBytes at hs
  unfold In64 at hn
  obtain ⟨hn1, hn2⟩ := hn
  clear hT
  obtain ⟨J, hJ, eJ⟩ := turned5 n
  have hidx := ahead_at J hJ
  obtain ⟨hy0, hy1⟩ := ahead_size J
  have hyl := ahead_len J
  have hcat : (aheadB J ++ s).data.toList = aheadL J ++ s.data.toList := by rw [ByteArray.data_append, Array.toList_append, ahead_list]
  have hcut := cut_ahead J s.data.toList
  rw [hyl] at hcut
  have hlen : (aheadL J ++ s.data.toList).length = (aheadB J).size + s.size := by rw [List.length_append, hyl, size_listT]
  have hjj : (0 : Int) ≤ (J : Int) := by omega
  clear hJ hyl
  generalize aheadL J = yl at *
  generalize aheadB J = y at *
  by_cases hbig : 4076 < s.size
  · clear hcut hcat hlen
    go_enter Tryd.func6, Tryd.ntmps6
    go_wp2_with fail
    refine HL.out.mono ?_; rintro e w1 ⟨rfl, hb1⟩
    go_wp2_with fail
    go_ret
    exact ⟨rfl, hb1⟩
  · have hl1 : s.data.toList.length ≤ 4096 := by rw [size_listT]; omega
    have hl2 : (yl ++ s.data.toList).length ≤ 4096 := by omega
    cases hc : cutL s.data.toList 0 false with
    | bad o =>
      rw [hc] at hcut
      have H1 := Lib.hid (fun W h => cut_refused hl1 hc s rfl W h)
      have H2 := Lib.hid (fun W h => cut_refused hl2 hcut (y ++ s) hcat W h)
      have ho := (cut_bad _ _ _ _ hc).2
      rw [size_listT] at ho
      clear hc hcut hcat hlen hl1 hl2
      rw [show ((o + y.size : Nat) : Int) = (o : Int) + (y.size : Int) from by omega] at H2
      go_enter Tryd.func6, Tryd.ntmps6
      go_wp2_with fail
      refine HL.out.mono ?_; rintro e w1 ⟨rfl, hb1⟩
      go_wp2_with fail
      refine (H1.out _ (HT.out.on hb1)).mono ?_; rintro e w2 ⟨rfl, hb2⟩
      have hb := hb1.trans (hb2.mono hb1.size)
      clear hb1 hb2
      go_wp2_with fail
      refine (H2.out _ (HT.out.on hb)).mono ?_; rintro e w3 ⟨rfl, hb3⟩
      have hbw := hb.trans (hb3.mono hb.size)
      clear hb hb3
      go_wp2_with fail
      go_loopw [65] (fun iv wr => iv = .int .i64 0 ∧ wr = w3) (fun _ _ => 0)
      case atStart => exact ⟨rfl, rfl⟩
      case round =>
        obtain ⟨rfl, rfl⟩ := hrel
        go_wp2_with fail
        go_ret
        exact ⟨rfl, hbw⟩
    | good T =>
      rw [hc] at hcut
      have H1 := Lib.hid (fun W h => cut_good hl1 hc s rfl W h)
      have H2 := Lib.hid (fun W h => cut_good hl2 hcut (y ++ s) hcat W h)
      have hmany := cut_many hc
      have HIN := Lib.hid (cut_in hc)
      rw [size_listT] at hmany
      have hmap : (T.map (Tok.sh y.size)).length = T.length := List.length_map _
      clear hc hcut hcat hlen hl1 hl2
      go_enter Tryd.func6, Tryd.ntmps6
      go_wp2_with fail
      refine HL.out.mono ?_; rintro e w1 ⟨rfl, hb1⟩
      go_wp2_with fail
      refine (H1.out _ (HT.out.on hb1)).mono ?_; rintro e w2 ⟨v, rfl, hown, hb2⟩
      have hb := hb1.trans (hb2.mono hb1.size)
      clear hb1 hb2
      go_wp2_with fail
      refine (H2.out _ (HT.out.on hb)).mono ?_; rintro e w3 ⟨v2, rfl, hown2, hb3⟩
      have hbw := hb.trans (hb3.mono hb.size)
      obtain ⟨ad, cap, rfl, hlc, hcm, hcell⟩ := (hown.below hb3).view
      obtain ⟨ad2, cap2, rfl, hlc2, hcm2, hcell2⟩ := hown2.view
      rw [hmap] at *
      have HC1 := Lib.hid hcell
      have HC2 := Lib.hid hcell2
      clear hb hb3 hown hown2 hcell hcell2
      unfold maxLen at hcm hcm2
      go_wp2_with fail
      go_loopw [65] (fun iv wr => ∃ k : Nat, k ≤ T.length ∧ iv = .int .i64 k ∧ Below w3.heap.size w3 wr) (fun iv _ => T.length - (intOf iv).toNat)
      case atStart => exact ⟨0, Nat.zero_le _, rfl, Below.refl _ _⟩
      case round =>
        obtain ⟨k, hk, rfl, hbr⟩ := hrel
        by_cases hlt : k < T.length
        · obtain ⟨g, rfl, _, hat⟩ := HC1.out k hlt
          obtain ⟨g2, rfl, _, hat2⟩ := HC2.out k (by rw [List.length_map]; exact hlt)
          rw [List.getElem_map] at hat2
          have hpin := HIN.out _ (List.getElem_mem hlt)
          obtain ⟨c0, c1, c2, c3⟩ := (hat.on hbr).cells
          obtain ⟨d0, d1, d2, d3⟩ := (hat2.on hbr).cells
          have hws := hbr.size
          generalize T[k] = x at *
          rw [size_listT] at hpin
          have hps : ((Tok.sh y.size x).pos : Int) = (x.pos : Int) + (y.size : Int) := by show ((x.pos + y.size : Nat) : Int) = _; omega
          have e0 : (Tok.sh y.size x).kind = x.kind := rfl
          have e1 : (Tok.sh y.size x).text = x.text := rfl
          have e2 : (Tok.sh y.size x).n = x.n := rfl
          rw [hps] at d3
          rw [e0] at d0
          rw [e1] at d1
          rw [e2] at d2
          obtain ⟨hp1, hp2⟩ := hpin
          have hp3 : (x.pos : Int) ≤ 4096 := by omega
          have hp4 : (0 : Int) ≤ (x.pos : Int) := by omega
          have hg1 := World.block_lt_of_cell? wr _ d0
          have hk0 : (0 : Int) ≤ (k : Int) := by omega
          have hk1 : (k : Int) < (T.length : Int) := by omega
          clear hat hat2 hps e0 e1 e2 hp1 hp2
          generalize (⟨x.text.toArray⟩ : ByteArray) = u at *
          generalize x.pos = p at *
          generalize x.kind = kd at *
          generalize x.n = xn at *
          clear x
          go_wp2_with fail
          generalize hw5 : wr.alloc (Obj.cells #[.int .i64 kd, .string u, .int .i64 xn, .int .i64 ((p : Int) + (y.size : Int))] 30) = w5
          have hz := cells4 (show w5.heap[wr.heap.size]? = some (.cells #[.int .i64 kd, .string u, .int .i64 xn, .int .i64 ((p : Int) + (y.size : Int))] 30 (0, 0)) by rw [← hw5]; exact new_at wr _)
          have hb5 : Below wr.heap.size wr w5 := by rw [← hw5]; exact (Below.refl _ wr).alloc (Nat.le_refl _) _
          obtain ⟨z0, z1, z2, z3, _, _, _, _⟩ := hz
          have q0 := (hb5.cell (p := ⟨g2, k * 4, none⟩) hg1).trans d0
          have q1 := (hb5.cell (p := ⟨g2, k * 4 + 1, none⟩) hg1).trans d1
          have q2 := (hb5.cell (p := ⟨g2, k * 4 + 2, none⟩) hg1).trans d2
          have q3 := (hb5.cell (p := ⟨g2, k * 4 + 3, none⟩) hg1).trans d3
          have hs5 : wr.heap.size < w5.heap.size := World.block_lt_of_cell? w5 _ z0
          have hg5 : g2 < w5.heap.size := World.block_lt_of_cell? w5 _ q0
          have hb6 := hbr.trans (hb5.mono hws)
          clear hw5 hb5 c0 c1 c2 c3 d0 d1 d2 d3 hg1
          go_region_held3 (fun W => W.cell? ⟨wr.heap.size, 0, none⟩ = some (.int .i64 kd) ∧ W.cell? ⟨wr.heap.size, 1, none⟩ = some (.string u) ∧ W.cell? ⟨wr.heap.size, 2, none⟩ = some (.int .i64 xn) ∧ W.cell? ⟨wr.heap.size, 3, none⟩ = some (.int .i64 ((p : Int) + (y.size : Int))) ∧
            W.cell? ⟨g2, k * 4, none⟩ = some (.int .i64 kd) ∧ W.cell? ⟨g2, k * 4 + 1, none⟩ = some (.string u) ∧ W.cell? ⟨g2, k * 4 + 2, none⟩ = some (.int .i64 xn) ∧ W.cell? ⟨g2, k * 4 + 3, none⟩ = some (.int .i64 ((p : Int) + (y.size : Int)))) (first | go_keep) (fail)
          go_wp2_with fail
          go_roundw
          case rel => exact ⟨k + 1, by omega, by go_num, hb6.drew⟩
          case measure => simp [intOf]; omega
        · go_wp2_with fail
          go_ret
          exact ⟨rfl, hbw.trans (hbr.mono hbw.size)⟩
end Go.Proofs.YtglaoacdenecfaaDoor
