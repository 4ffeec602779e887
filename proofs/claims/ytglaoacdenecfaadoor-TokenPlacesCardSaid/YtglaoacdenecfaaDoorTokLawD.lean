/-
  The walk of the law TokenPlaces.
-/
import Derived.Test.YtglaoacdenecfaaDoorTokH
import Derived.RegionTactic
import Derived.BigRegion
import Derived.Deep.RegionHeld3
namespace Go.Proofs.YtglaoacdenecfaaDoor
open Go.RowKit

theorem turnedN (i : Int) (N : Nat) (hN2 : N ≤ 1000000) : ∃ J : Nat, J < N + 1 ∧ (wrap64 (i.tmod ((N : Int) + 1) + ((N : Int) + 1))).tmod ((N : Int) + 1) = (J : Int) := by
  have h1 := Int.tmod_lt_of_pos i (b := (N : Int) + 1) (by omega)
  have h2 : -((N : Int) + 1) < i.tmod ((N : Int) + 1) := by
    have := Int.natAbs_tmod i ((N : Int) + 1)
    have h3 : i.natAbs % ((N : Int) + 1).natAbs < ((N : Int) + 1).natAbs := Nat.mod_lt _ (by omega)
    omega
  rw [IntWalk.wrap64_in _ ⟨by omega, by omega⟩]
  have h4 := Int.tmod_lt_of_pos (i.tmod ((N : Int) + 1) + ((N : Int) + 1)) (b := (N : Int) + 1) (by omega)
  have h5 := Int.tmod_nonneg ((N : Int) + 1) (show 0 ≤ i.tmod ((N : Int) + 1) + ((N : Int) + 1) by omega)
  exact ⟨((i.tmod ((N : Int) + 1) + ((N : Int) + 1)).tmod ((N : Int) + 1)).toNat, by omega, by omega⟩
/-- What the law asks of the tokens that are cut again. -/
def Again (T M : List Tok) (J p : Nat) : Prop := ∀ m (h : m < M.length) (h2 : J + m < T.length), T[J + m].text = M[m].text ∧ T[J + m].n = M[m].n ∧ T[J + m].pos = M[m].pos + p ∧ (T[J + m].kind = M[m].kind ∨ (m = 0 ∧ T[J + m].kind = 7 ∧ M[m].kind = 6))
theorem again_of {T U : List Tok} {y : Tok} {J : Nat} (hJ : J < T.length) (ha : Alike (y.sh T[J].pos) T[J]) (hd : T.drop (J + 1) = U.map (Tok.sh T[J].pos)) : Again T (y :: U) J T[J].pos := by
  intro m h h2
  cases m with
  | zero =>
    rw [List.getElem_cons_zero]
    rcases ha with ha | ⟨h3, h4, h5, h6, h7⟩
    · have e : T[J + 0]'h2 = y.sh T[J].pos := ha.symm
      rw [e]
      exact ⟨rfl, rfl, rfl, .inl rfl⟩
    · exact ⟨h5.symm, h6.symm, h7.symm, .inr ⟨rfl, h3, h4⟩⟩
  | succ m =>
    rw [List.getElem_cons_succ]
    have hm : m < U.length := by rw [List.length_cons] at h; omega
    have e : T[J + (m + 1)]'h2 = (U[m]).sh T[J].pos := by
      have h3 : (T.drop (J + 1))[m]? = some (T[J + (m + 1)]'h2) := by
        rw [List.getElem?_drop, List.getElem?_eq_getElem (by omega)]
        congr 2
        omega
      rw [hd, List.getElem?_map, List.getElem?_eq_getElem hm] at h3
      exact (Option.some.inj h3).symm
    rw [e]
    exact ⟨rfl, rfl, rfl, .inl rfl⟩
theorem again_len {T U : List Tok} {J d N : Nat} (hN : T.length = N + 1) (hJ : J < N + 1) (hd : T.drop (J + 1) = U.map (Tok.sh d)) : U.length + 1 + J = N + 1 := by
  have := congrArg List.length hd
  rw [List.length_drop, List.length_map] at this
  omega

set_option maxRecDepth 100000 in
set_option maxHeartbeats 4000000 in
theorem places_good (s : ByteArray) (i : Int) (w : World) (hi : In64 i) (hT : TabsT w) (T : List Tok) (hl : s.data.toList.length ≤ 4096) (hc : cutL s.data.toList 0 false = .good T) :
    Calls Tryd.prog 4 #[.string s, .int .i64 i] w fun e w' => e = .returned (.bool true) ∧ Below w.heap.size w w' := by
  have HT := Lib.hid hT
  have HL := Lib.hid (tok_live w hT)
  unfold In64 at hi
  obtain ⟨hi1, hi2⟩ := hi
  clear hT
  have HC := Lib.hid (fun W h => cut_good hl hc s rfl W h)
  have hmany := cut_many hc
  have hne := cut_ne hc
  have hlast := cut_last hc
  have HSRT := Lib.hid (cut_sorted hc)
  have HIN := Lib.hid (cut_in hc)
  have HAG := Lib.hid (cut_again hc)
  rw [size_listT] at hmany hl hlast
  obtain ⟨N, hN⟩ : ∃ N, T.length = N + 1 := ⟨T.length - 1, by have := List.length_pos_iff.2 hne; omega⟩
  rw [List.getLast?_eq_getElem?, hN, Nat.add_sub_cancel, Nat.zero_add] at hlast
  have HLAST := Lib.hid hlast
  rw [hN] at hmany
  clear hc hne hlast
  go_enter Tryd.func4, Tryd.ntmps4
  go_wp2_with fail
  refine HL.out.mono ?_; rintro e w1 ⟨rfl, hb1⟩
  go_wp2_with fail
  refine (HC.out _ (HT.out.on hb1)).mono ?_; rintro e w2 ⟨v, rfl, hown, hb2⟩
  have hb := hb1.trans (hb2.mono hb1.size)
  obtain ⟨ad, cap, rfl, hlc, hcm, hcell⟩ := hown.view
  obtain ⟨g, rfl, _, hat⟩ := hcell N (by omega)
  have hlx : T[N]'(by omega) = ⟨9, [], 0, s.size⟩ := by
    have := HLAST.out
    rw [List.getElem?_eq_getElem (by omega)] at this
    exact Option.some.inj this
  rw [hlx] at hat
  obtain ⟨c0, c1, c2, c3⟩ := hat
  dsimp only at c0 c1 c2 c3
  have hg0 := World.block_lt_of_cell? w2 _ c0
  have HCELL := Lib.hid hcell
  rw [hN] at hlc ⊢
  unfold maxLen at hcm
  clear hb1 hb2 hown hcell hlx HLAST
  have hN0 : ((N : Int) + 1 == 0) = false := by simp; omega
  go_wp2_with fail
  clear c0 c1 c2 c3
  go_loopw [9] (fun iv wr => ∃ k : Nat, 1 ≤ k ∧ k ≤ N + 1 ∧ iv = .int .i64 (k : Nat) ∧ Below w2.heap.size w2 wr) (fun iv _ => N + 1 - (intOf iv).toNat)
  case atStart => exact ⟨1, Nat.le_refl _, by omega, rfl, Below.refl _ _⟩
  case round =>
    obtain ⟨k, hk0, hk, rfl, hbw⟩ := hrel
    by_cases hlt : k < N + 1
    · obtain ⟨j, hj⟩ : ∃ j, k = j + 1 := ⟨k - 1, by omega⟩
      obtain ⟨g', hg', _, hat1⟩ := HCELL.out j (by omega)
      obtain ⟨g'', hg'', _, hat2⟩ := HCELL.out (j + 1) (by omega)
      injection hg' with hg'
      injection hg' with hg'
      subst hg'
      injection hg'' with hg''
      injection hg'' with hg''
      subst hg''
      have hso := HSRT.out j (by omega)
      have c3 := (hat1.on hbw).pos
      have d3 := (hat2.on hbw).pos
      have hin := (HIN.out _ (List.getElem_mem (show j + 1 < T.length by omega))).2
      rw [size_listT] at hin
      generalize (T[j]'(by omega)).pos = p at *
      generalize (T[j + 1]'(by omega)).pos = q at *
      have hg1 := World.block_lt_of_cell? wr _ c3
      rw [← hj] at d3
      have hpq : (p : Int) < (q : Int) := by omega
      have hpq1 : (q : Int) ≤ 4096 := by omega
      have hdec : decide ((q : Int) ≤ (p : Int)) = false := by simp; omega
      have hdec2 : decide (q ≤ p) = false := by simp; omega
      have hdec3 : (decide ((p : Int) ≥ (q : Int))) = false := by simp; omega
      have hpq0 : (0 : Int) ≤ (p : Int) := by omega
      have hj0 : (0 : Int) ≤ (j : Int) := by omega
      have hj1 : (j : Int) < (N : Int) + 1 := by omega
      have hk1 : (0 : Int) ≤ (k : Int) := by omega
      have hk2 : (k : Int) < (N : Int) + 1 := by omega
      have hkj : IntKind.i64.wrap ((k : Int) - 1) = (j : Int) := by rw [IntWalk.i64_left, IntWalk.wrap64_in _ ⟨by omega, by omega⟩]; omega
      clear hat1 hat2 hso hin
      clear hj
      go_wp2_with fail
      go_region
      go_wp2_with fail
      go_roundw
      case rel => exact ⟨k + 1, by omega, by omega, by go_num, hbw.drew⟩
      case measure => simp [intOf]; omega
    · obtain rfl : k = N + 1 := by omega
      obtain ⟨J, hJ, eJ⟩ := turnedN i N (by omega)
      obtain ⟨y, U, hcut2, hal, hdr⟩ := HAG.out J (by omega)
      obtain ⟨g', hg', _, hatJ⟩ := HCELL.out J (by omega)
      injection hg' with hg'
      injection hg' with hg'
      subst hg'
      have hag := again_of (by omega) hal hdr
      have hul := again_len hN hJ hdr
      have hin := (HIN.out _ (List.getElem_mem (show J < T.length by omega))).2
      rw [size_listT] at hin
      obtain ⟨c0, c1, c2, c3⟩ := hatJ.on hbw
      have hg1 := World.block_lt_of_cell? wr _ c3
      generalize (T[J]'(by omega)).pos = p at *
      have H2 := Lib.hid (fun W h => cut_good (src := s.data.toList.drop p) (by rw [List.length_drop, size_listT]; omega) hcut2 (s.extract p s.size) (by rw [ext_drop]) W h)
      have HAGAIN := Lib.hid hag
      have hp0 : (0 : Int) ≤ (p : Int) := by omega
      have hp1 : (p : Int) ≤ (s.size : Int) := by omega
      have hJ0 : (0 : Int) ≤ (J : Int) := by omega
      have hJ1 : (J : Int) < (N : Int) + 1 := by omega
      have hbw2 := hb.trans (hbw.mono hb.size)
      clear hcut2 hal hdr hatJ hag hin
      go_wp2_with fail
      refine (H2.out _ (HT.out.on hbw2)).mono ?_; rintro e w3 ⟨v3, rfl, hown3, hb3⟩
      have hbw3 := hbw2.trans (hb3.mono hbw2.size)
      obtain ⟨ad3, cap3, rfl, hlc3, hcm3, hcell3⟩ := hown3.view
      have hc0 : w3.cell? ⟨g, J * 4, none⟩ = some (.int .i64 (T[J]'(by omega)).kind) := (hb3.cell (p := ⟨g, _, none⟩) (cell_in c0)).trans c0
      have HC3 := Lib.hid hcell3
      have HCT : Hid (∀ m (hm : J + m < T.length), TokAt w3 g (J + m) (T[J + m]'hm)) := Lib.hid (fun m hm => by
        obtain ⟨g9, h9, _, hat9⟩ := HCELL.out (J + m) hm
        injection h9 with h9
        injection h9 with h9
        subst h9
        exact (hat9.on hbw).on hb3)
      have hml : (y :: U).length = U.length + 1 := rfl
      rw [hml] at *
      obtain ⟨kj, hkj0⟩ : ∃ kj, (T[J]'(by omega)).kind = kj := ⟨_, rfl⟩
      rw [hkj0] at hc0
      have HKJ := Lib.hid (show ∀ (m : Nat) (hm : J + m < T.length), m = 0 → (T[J + m]'hm).kind = kj from fun m _ h => by subst h; exact hkj0)
      have HML : Hid ((y :: U).length = U.length + 1) := Lib.hid rfl
      generalize hMM : y :: U = M at *
      obtain ⟨R, hR⟩ : ∃ R, U.length = R := ⟨_, rfl⟩
      rw [hR] at hul HML ⊢
      have hlc4 : R + 1 ≤ cap3 := by rw [← HML.out]; exact hlc3
      clear hMM hR hlc3
      have hne1 : ((R : Int) + 1 != (N : Int) + 1 - (J : Int)) = false := by simp; omega
      unfold maxLen at hcm3
      clear hb3 hown3 hcell3 c0 c1 c2 c3 H2 hbw2
      go_wp2_with fail
      go_loopw [122] (fun iv wr => ∃ m : Nat, m ≤ R + 1 ∧ iv = .int .i64 (m : Nat) ∧ Below w3.heap.size w3 wr) (fun iv _ => R + 1 - (intOf iv).toNat)
      case atStart => exact ⟨0, Nat.zero_le _, rfl, Below.refl _ _⟩
      case round =>
        obtain ⟨m, hm, rfl, hbr⟩ := hrel
        by_cases hlt : m < R + 1
        · have hmT : J + m < T.length := by omega
          obtain ⟨g3, rfl, _, hat3⟩ := HC3.out m (by rw [HML.out]; exact hlt)
          have hatT := HCT.out m hmT
          obtain ⟨a1, a2, a3, a4⟩ := HAGAIN.out m (by rw [HML.out]; exact hlt) hmT
          obtain ⟨c0, c1, c2, c3⟩ := hat3.on hbr
          obtain ⟨d0, d1, d2, d3⟩ := hatT.on hbr
          have hkj : m = 0 → (T[J + m]'hmT).kind = kj := fun h => HKJ.out m hmT h
          have hzp : (T[J + m]'hmT).pos ≤ 4096 := by
            have := (HIN.out _ (List.getElem_mem hmT)).2
            rw [size_listT] at this
            omega
          have hws := hbr.size
          have e0 : w3.cell? ⟨g, J * 4, none⟩ = some (.int .i64 kj) := hc0
          have b0 : wr.cell? ⟨g, J * 4, none⟩ = some (.int .i64 kj) := (hbr.cell (p := ⟨g, _, none⟩) (cell_in e0)).trans e0
          generalize T[J + m]'hmT = z at *
          generalize M[m]'(by rw [HML.out]; exact hlt) = x at *
          rw [a1] at d1
          rw [a2] at d2
          have hzq : (z.pos : Int) = (x.pos : Int) + (p : Int) := by omega
          rw [hzq] at d3
          have hx0 : (0 : Int) ≤ (x.pos : Int) := by omega
          have hx1 : (x.pos : Int) ≤ 4096 := by omega
          obtain ⟨q, hq⟩ : ∃ q, q = J + m := ⟨_, rfl⟩
          rw [← hq] at d0 d1 d2 d3
          have hqi : IntKind.i64.wrap ((J : Int) + (m : Int)) = (q : Int) := by rw [IntWalk.i64_left, IntWalk.wrap64_in _ ⟨by omega, by omega⟩]; omega
          have hq0 : (0 : Int) ≤ (q : Int) := by omega
          have hq1 : (q : Int) < (N : Int) + 1 := by omega
          have hm0 : (0 : Int) ≤ (m : Int) := by omega
          have hm1 : (m : Int) < (R : Int) + 1 := by omega
          have hgd := World.block_lt_of_cell? wr _ d0
          have hways : (((m : Int) == 0) = false ∧ z.kind = x.kind) ∨ (((m : Int) == 0) = true ∧ kj = 7 ∧ x.kind = 6 ∧ z.kind = 7) ∨ (((m : Int) == 0) = true ∧ (kj == 7) = false ∧ z.kind = x.kind) ∨ (((m : Int) == 0) = true ∧ kj = 7 ∧ (x.kind == 6) = false ∧ z.kind = x.kind) := by
            by_cases hz : m = 0
            · have h1 := hkj hz
              have hz : ((m : Int) == 0) = true := by simp; omega
              rcases a4 with a4 | ⟨_, a5, a6⟩
              · by_cases h7 : kj = 7
                · exact .inr (.inr (.inr ⟨hz, h7, by simp; omega, a4⟩))
                · exact .inr (.inr (.inl ⟨hz, by simpa using h7, a4⟩))
              · exact .inr (.inl ⟨hz, by omega, a6, a5⟩)
            · rcases a4 with a4 | ⟨a5, _⟩
              · exact .inl ⟨by simp; omega, a4⟩
              · exact absurd a5 hz
          clear a1 a2 a3 a4 hkj hat3 hatT hzp hzq hq e0
          generalize (⟨x.text.toArray⟩ : ByteArray) = u at *
          generalize x.pos = xp at *
          generalize x.n = xn at *
          generalize x.kind = xk at *
          generalize z.kind = zk at *
          rcases hways with ⟨f1, rfl⟩ | ⟨f1, rfl, rfl, rfl⟩ | ⟨f1, f2, rfl⟩ | ⟨f1, rfl, f3, rfl⟩
          · go_wp2_with fail
            generalize hw5 : wr.alloc (Obj.cells #[.int .i64 zk, .string u, .int .i64 xn, .int .i64 ((xp : Int) + (p : Int))] 30) = w5
            have hz := cells4 (show w5.heap[wr.heap.size]? = some (.cells #[.int .i64 zk, .string u, .int .i64 xn, .int .i64 ((xp : Int) + (p : Int))] 30 (0, 0)) by rw [← hw5]; exact new_at wr _)
            have hb5 : Below wr.heap.size wr w5 := by rw [← hw5]; exact (Below.refl _ wr).alloc (Nat.le_refl _) _
            obtain ⟨z0, z1, z2, z3, _, _, _, _⟩ := hz
            have q0 := (hb5.cell (p := ⟨g, q * 4, none⟩) hgd).trans d0
            have q1 := (hb5.cell (p := ⟨g, q * 4 + 1, none⟩) hgd).trans d1
            have q2 := (hb5.cell (p := ⟨g, q * 4 + 2, none⟩) hgd).trans d2
            have q3 := (hb5.cell (p := ⟨g, q * 4 + 3, none⟩) hgd).trans d3
            have hs5 : wr.heap.size < w5.heap.size := World.block_lt_of_cell? w5 _ z0
            have hg5 : g < w5.heap.size := World.block_lt_of_cell? w5 _ q0
            have hb6 := hbr.trans (hb5.mono hws)
            clear hw5 hb5 c0 c1 c2 c3 d0 d1 d2 d3 hgd b0
            go_region_held3 (fun W => W.cell? ⟨wr.heap.size, 0, none⟩ = some (.int .i64 zk) ∧ W.cell? ⟨wr.heap.size, 1, none⟩ = some (.string u) ∧ W.cell? ⟨wr.heap.size, 2, none⟩ = some (.int .i64 xn) ∧ W.cell? ⟨wr.heap.size, 3, none⟩ = some (.int .i64 ((xp : Int) + (p : Int))) ∧
              W.cell? ⟨g, q * 4, none⟩ = some (.int .i64 zk) ∧ W.cell? ⟨g, q * 4 + 1, none⟩ = some (.string u) ∧ W.cell? ⟨g, q * 4 + 2, none⟩ = some (.int .i64 xn) ∧ W.cell? ⟨g, q * 4 + 3, none⟩ = some (.int .i64 ((xp : Int) + (p : Int)))) (first | go_keep) (fail)
            go_wp2_with fail
            go_roundw
            case rel => exact ⟨m + 1, by omega, by go_num, hb6.drew⟩
            case measure => simp [intOf]; omega
          · go_wp2_with fail
            generalize hw5 : wr.alloc (Obj.cells #[.int .i64 7, .string u, .int .i64 xn, .int .i64 ((xp : Int) + (p : Int))] 30) = w5
            have hz := cells4 (show w5.heap[wr.heap.size]? = some (.cells #[.int .i64 7, .string u, .int .i64 xn, .int .i64 ((xp : Int) + (p : Int))] 30 (0, 0)) by rw [← hw5]; exact new_at wr _)
            have hb5 : Below wr.heap.size wr w5 := by rw [← hw5]; exact (Below.refl _ wr).alloc (Nat.le_refl _) _
            obtain ⟨z0, z1, z2, z3, _, _, _, _⟩ := hz
            have q0 := (hb5.cell (p := ⟨g, q * 4, none⟩) hgd).trans d0
            have q1 := (hb5.cell (p := ⟨g, q * 4 + 1, none⟩) hgd).trans d1
            have q2 := (hb5.cell (p := ⟨g, q * 4 + 2, none⟩) hgd).trans d2
            have q3 := (hb5.cell (p := ⟨g, q * 4 + 3, none⟩) hgd).trans d3
            have hs5 : wr.heap.size < w5.heap.size := World.block_lt_of_cell? w5 _ z0
            have hg5 : g < w5.heap.size := World.block_lt_of_cell? w5 _ q0
            have hb6 := hbr.trans (hb5.mono hws)
            clear hw5 hb5 c0 c1 c2 c3 d0 d1 d2 d3 hgd b0
            go_region_held3 (fun W => W.cell? ⟨wr.heap.size, 0, none⟩ = some (.int .i64 7) ∧ W.cell? ⟨wr.heap.size, 1, none⟩ = some (.string u) ∧ W.cell? ⟨wr.heap.size, 2, none⟩ = some (.int .i64 xn) ∧ W.cell? ⟨wr.heap.size, 3, none⟩ = some (.int .i64 ((xp : Int) + (p : Int))) ∧
              W.cell? ⟨g, q * 4, none⟩ = some (.int .i64 7) ∧ W.cell? ⟨g, q * 4 + 1, none⟩ = some (.string u) ∧ W.cell? ⟨g, q * 4 + 2, none⟩ = some (.int .i64 xn) ∧ W.cell? ⟨g, q * 4 + 3, none⟩ = some (.int .i64 ((xp : Int) + (p : Int)))) (first | go_keep) (fail)
            go_wp2_with fail
            go_roundw
            case rel => exact ⟨m + 1, by omega, by go_num, hb6.drew⟩
            case measure => simp [intOf]; omega
          · go_wp2_with fail
            generalize hw5 : wr.alloc (Obj.cells #[.int .i64 zk, .string u, .int .i64 xn, .int .i64 ((xp : Int) + (p : Int))] 30) = w5
            have hz := cells4 (show w5.heap[wr.heap.size]? = some (.cells #[.int .i64 zk, .string u, .int .i64 xn, .int .i64 ((xp : Int) + (p : Int))] 30 (0, 0)) by rw [← hw5]; exact new_at wr _)
            have hb5 : Below wr.heap.size wr w5 := by rw [← hw5]; exact (Below.refl _ wr).alloc (Nat.le_refl _) _
            obtain ⟨z0, z1, z2, z3, _, _, _, _⟩ := hz
            have q0 := (hb5.cell (p := ⟨g, q * 4, none⟩) hgd).trans d0
            have q1 := (hb5.cell (p := ⟨g, q * 4 + 1, none⟩) hgd).trans d1
            have q2 := (hb5.cell (p := ⟨g, q * 4 + 2, none⟩) hgd).trans d2
            have q3 := (hb5.cell (p := ⟨g, q * 4 + 3, none⟩) hgd).trans d3
            have hs5 : wr.heap.size < w5.heap.size := World.block_lt_of_cell? w5 _ z0
            have hg5 : g < w5.heap.size := World.block_lt_of_cell? w5 _ q0
            have hb6 := hbr.trans (hb5.mono hws)
            clear hw5 hb5 c0 c1 c2 c3 d0 d1 d2 d3 hgd b0
            go_region_held3 (fun W => W.cell? ⟨wr.heap.size, 0, none⟩ = some (.int .i64 zk) ∧ W.cell? ⟨wr.heap.size, 1, none⟩ = some (.string u) ∧ W.cell? ⟨wr.heap.size, 2, none⟩ = some (.int .i64 xn) ∧ W.cell? ⟨wr.heap.size, 3, none⟩ = some (.int .i64 ((xp : Int) + (p : Int))) ∧
              W.cell? ⟨g, q * 4, none⟩ = some (.int .i64 zk) ∧ W.cell? ⟨g, q * 4 + 1, none⟩ = some (.string u) ∧ W.cell? ⟨g, q * 4 + 2, none⟩ = some (.int .i64 xn) ∧ W.cell? ⟨g, q * 4 + 3, none⟩ = some (.int .i64 ((xp : Int) + (p : Int)))) (first | go_keep) (fail)
            go_wp2_with fail
            go_roundw
            case rel => exact ⟨m + 1, by omega, by go_num, hb6.drew⟩
            case measure => simp [intOf]; omega
          · go_wp2_with fail
            generalize hw5 : wr.alloc (Obj.cells #[.int .i64 zk, .string u, .int .i64 xn, .int .i64 ((xp : Int) + (p : Int))] 30) = w5
            have hz := cells4 (show w5.heap[wr.heap.size]? = some (.cells #[.int .i64 zk, .string u, .int .i64 xn, .int .i64 ((xp : Int) + (p : Int))] 30 (0, 0)) by rw [← hw5]; exact new_at wr _)
            have hb5 : Below wr.heap.size wr w5 := by rw [← hw5]; exact (Below.refl _ wr).alloc (Nat.le_refl _) _
            obtain ⟨z0, z1, z2, z3, _, _, _, _⟩ := hz
            have q0 := (hb5.cell (p := ⟨g, q * 4, none⟩) hgd).trans d0
            have q1 := (hb5.cell (p := ⟨g, q * 4 + 1, none⟩) hgd).trans d1
            have q2 := (hb5.cell (p := ⟨g, q * 4 + 2, none⟩) hgd).trans d2
            have q3 := (hb5.cell (p := ⟨g, q * 4 + 3, none⟩) hgd).trans d3
            have hs5 : wr.heap.size < w5.heap.size := World.block_lt_of_cell? w5 _ z0
            have hg5 : g < w5.heap.size := World.block_lt_of_cell? w5 _ q0
            have hb6 := hbr.trans (hb5.mono hws)
            clear hw5 hb5 c0 c1 c2 c3 d0 d1 d2 d3 hgd b0
            go_region_held3 (fun W => W.cell? ⟨wr.heap.size, 0, none⟩ = some (.int .i64 zk) ∧ W.cell? ⟨wr.heap.size, 1, none⟩ = some (.string u) ∧ W.cell? ⟨wr.heap.size, 2, none⟩ = some (.int .i64 xn) ∧ W.cell? ⟨wr.heap.size, 3, none⟩ = some (.int .i64 ((xp : Int) + (p : Int))) ∧
              W.cell? ⟨g, q * 4, none⟩ = some (.int .i64 zk) ∧ W.cell? ⟨g, q * 4 + 1, none⟩ = some (.string u) ∧ W.cell? ⟨g, q * 4 + 2, none⟩ = some (.int .i64 xn) ∧ W.cell? ⟨g, q * 4 + 3, none⟩ = some (.int .i64 ((xp : Int) + (p : Int)))) (first | go_keep) (fail)
            go_wp2_with fail
            go_roundw
            case rel => exact ⟨m + 1, by omega, by go_num, hb6.drew⟩
            case measure => simp [intOf]; omega
        · go_wp2_with fail
          go_ret
          exact ⟨rfl, hbw3.trans (hbr.mono hbw3.size)⟩
end Go.Proofs.YtglaoacdenecfaaDoor
