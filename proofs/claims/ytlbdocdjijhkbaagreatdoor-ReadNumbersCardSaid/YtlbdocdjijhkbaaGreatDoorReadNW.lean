/-
  The walk of the law ReadNumbers.
-/
import Derived.Test.YtlbdocdjijhkbaaGreatDoorReadTop
import Derived.Test.YtlbdocdjijhkbaaGreatDoorReadNM
namespace Go.Proofs.YtlbdocdjijhkbaaGreatDoor
open Go.RowKit

theorem queryL_bad {src : List UInt8} {o : Nat} {er : Int} (h : queryL src = .bad o er) : (er == 0) = false := by
  unfold queryL cutThen at h
  split at h
  · injection h with h1 h2; subst h2; rfl
  · split at h
    · injection h with h1 h2; subst h2; rfl
    · rcases queryT_bad h with rfl | rfl <;> rfl
theorem queryL_ok {src : List UInt8} {t : Tm} {ns : Nms} (h : queryL src = .ok (t, ns)) : ∃ T, src.length ≤ 4096 ∧ cutL src 0 false = .good T ∧ queryT T = .ok (t, ns) := by
  unfold queryL cutThen at h
  split at h
  · cases h
  · cases hc : cutL src 0 false with
    | bad o => rw [hc] at h; cases h
    | good T => rw [hc] at h; exact ⟨T, by omega, rfl, h⟩
theorem queryT_small {T : List Tok} {t : Tm} {ns : Nms} (hf : Fine T) (h : queryT T = .ok (t, ns)) : t.size ≤ T.length ∧ ns.length ≤ 200 ∧ t.deep ≤ 60 ∧ t.may = true := by
  obtain ⟨ts, hr, hd, _⟩ := queryT_is h
  obtain ⟨_, h2, h3⟩ := termR_good T.length _ _ _ _ _ _ (Nat.le_refl _) hf (Nat.zero_le _) hr
  exact ⟨by omega, h3, hd, termR_may T.length _ _ _ _ _ _ (Nat.le_refl _) hf (Nat.zero_le _) hr⟩
theorem numbers_of {src : List UInt8} {t : Tm} {ns : Nms} (h : queryL src = .ok (t, ns)) : t.vars = rng ns.length ∧ t.chk = 0 ∧ t.size ≤ 5000 ∧ ns.length ≤ 200 := by
  obtain ⟨T, hl, hc, hq⟩ := queryL_ok h
  have hf := cut_fine hl hc
  obtain ⟨h1, h2, h3, h4⟩ := queryT_small hf hq
  have hm := cut_many hc
  obtain ⟨ts, hr, _, _⟩ := queryT_is hq
  refine ⟨vars_rng hr, ?_, by omega, h2⟩
  unfold Tm.chk
  rw [if_pos h4, if_neg (by omega)]

set_option maxRecDepth 100000 in
set_option maxHeartbeats 4000000 in
theorem walk_ReadNumbers (s : ByteArray) (w : World) (hT : TabsT w) :
    Calls Tryz.prog 7 #[.string s] w fun e w' => e = .returned (.bool true) ∧ Below w.heap.size w w' := by
  have HT := Lib.hid hT
  have HL := Lib.hid (read_live w hT)
  have HQ := Lib.hid (fun W (hb : Below w.heap.size w W) => rd_Query s W (hT.on hb))
  clear hT
  cases hq : queryL s.data.toList with
  | bad o er =>
    rw [hq] at HQ
    have her := queryL_bad hq
    have her2 : ¬ er = 0 := by simpa using her
    clear hq
    go_enter Tryz.func7, Tryz.ntmps7
    go_wp2_with fail
    refine HL.out.mono ?_; rintro e w1 ⟨rfl, hb1⟩
    have HB1 := Lib.hid hb1
    clear hb1
    go_wp2_with fail
    refine (HQ.out _ HB1.out).mono ?_; rintro e w2 ⟨rfl, hb2⟩
    have HB2 := Lib.hid (HB1.out.trans (hb2.mono HB1.out.size))
    clear hb2
    unfold zeroT
    go_wp2_with fail
    go_ret
    exact ⟨rfl, HB2.out.alloc HB2.out.size _⟩
  | ok y =>
    obtain ⟨t, ns⟩ := y
    rw [hq] at HQ
    obtain ⟨n1, n2, n3, n4⟩ := numbers_of hq
    have HN1 := Lib.hid n1
    clear hq n1
    go_enter Tryz.func7, Tryz.ntmps7
    go_wp2_with fail
    refine HL.out.mono ?_; rintro e w1 ⟨rfl, hb1⟩
    have HB1 := Lib.hid hb1
    clear hb1
    go_wp2_with fail
    refine (HQ.out _ HB1.out).mono ?_; rintro e w2 ⟨v, ad, cap, rfl, ho, ht, hb2⟩
    have HB2 := Lib.hid (HB1.out.trans (hb2.mono HB1.out.size))
    have HT2 := Lib.hid ht.toIn
    obtain ⟨adv, capv, rfl, _, _, _⟩ := ho.view
    rw [nmB_len]
    clear hb2 ho ht
    unfold tmv
    go_upto_region 3 with fail
    generalize hw : w2.alloc (.cells #[.int .i64 t.kind, .string t.name, .int .i64 t.n, .slice ad t.args.length cap] 30) = w2a
    have HC2 : Hid (w2a.heap[w2.heap.size]? = some (.cells #[.int .i64 t.kind, .string t.name, .int .i64 t.n, .slice ad t.args.length cap] 30 (0, 0))) := Lib.hid (by rw [← hw]; exact newR w2 _)
    have hb2a : Below w2.heap.size w2 w2a := by rw [← hw]; exact (Below.refl _ _).alloc (Nat.le_refl _) _
    have HB2a := Lib.hid (HB2.out.trans (hb2a.mono HB2.out.size))
    have HT2a : Hid (TmIn w2a t ad cap) := Lib.hid (HT2.out.on hb2a)
    have HV := Lib.hid (ref_Vars t ad cap w2a (by omega) HT2a.out)
    have HK := Lib.hid (fun W (hb : Below w2a.heap.size w2a W) (hT : Tabs W) => ref_TermCheck t ad cap W (by omega) hT (HT2a.out.on hb))
    unfold tmv at HV HK
    rw [HN1.out] at HV
    rw [n2] at HK
    obtain ⟨d0, d1, d2, d3, _⟩ := cellsR4 HC2.out
    clear hw hb2a HT2 HB2
    go_wp2_with fail
    refine HV.out.mono ?_; rintro e w3 ⟨v3, rfl, hown, hb3⟩
    obtain ⟨ad3, cap3, rfl, hlc, hcm, hcell⟩ := hown.view
    rw [rng_len] at hlc
    have HCELL := Lib.hid hcell
    have HB3 := Lib.hid hb3
    have HBW := Lib.hid (HB2a.out.trans (hb3.mono HB2a.out.size))
    have HC3 := Lib.hid (keptR hb3 HC2.out)
    obtain ⟨x0, x1, x2, x3, _⟩ := cellsR4 HC3.out
    clear hb3 hown hcell d0 d1 d2 d3
    rw [rng_len]
    have hne : ((ns.length : Int) != (ns.length : Int)) = false := by simp
    go_wp2_with fail
    refine (HK.out _ HB3.out ((HT.out.on HBW.out).1)).mono ?_; rintro e w4 ⟨rfl, hb4⟩
    have HB4 := Lib.hid (HBW.out.trans (hb4.mono HBW.out.size))
    have HCL4 : Hid (∀ (k : Nat), k < ns.length → ∃ g, ad3 = some ⟨g, 0, none⟩ ∧ w4.cell? ⟨g, k, none⟩ = some (.int .i64 (k : Nat))) := Lib.hid (fun k hk => by
      obtain ⟨g, e, h⟩ := HCELL.out k (by rw [rng_len]; exact hk)
      rw [rng_at] at h
      exact ⟨g, e, (hb4.cell (World.block_lt_of_cell? w3 _ h)).trans h⟩)
    clear hb4 HCELL
    go_wp2_with fail
    go_loopw [46] (fun iv wr => ∃ k : Nat, k ≤ ns.length ∧ iv = .int .i64 k ∧ Below w4.heap.size w4 wr) (fun iv _ => ns.length - (intOf iv).toNat)
    case atStart => exact ⟨0, Nat.zero_le _, rfl, Below.refl _ _⟩
    case round =>
      obtain ⟨k, hk, rfl, hbw⟩ := hrel
      have hws := hbw.size
      by_cases hlt : k < ns.length
      · obtain ⟨g, rfl, hat⟩ := HCL4.out k hlt
        have c0 := (hbw.cell (World.block_lt_of_cell? w4 _ hat)).trans hat
        have hk0 : (0 : Int) ≤ (k : Int) := by omega
        have hk1 : (k : Int) < (ns.length : Int) := by omega
        have hkk : ((k : Int) != (k : Int)) = false := by simp
        clear hat
        go_wp2_with fail
        go_roundw
        case rel => exact ⟨k + 1, by omega, by go_num, hbw⟩
        case measure => simp [intOf]; omega
      · have hk1 : ¬ (k : Int) < (ns.length : Int) := by omega
        go_wp2_with fail
        go_ret
        exact ⟨rfl, HB4.out.trans (hbw.mono HB4.out.size)⟩
end Go.Proofs.YtlbdocdjijhkbaaGreatDoor
