/-
  The walk of the law ReadBrackets.
-/
import Derived.Test.YtlbdocdjijhkbaaGreatDoorReadTop
import Derived.Test.YtlbdocdjijhkbaaGreatDoorReadPl
import Derived.Test.YtlbdocdjijhkbaaGreatDoorTokXC
namespace Go.Proofs.YtlbdocdjijhkbaaGreatDoor
open Go.RowKit

theorem ref_cut_good {T : List Tok} (s : ByteArray) (hl : s.data.toList.length ≤ 4096) (hc : cutL s.data.toList 0 false = .good T) (w : World) (hT : TabsT w) :
    Calls Tryz.prog 18 #[.string s] w fun e w' => ∃ v, e = .returned (.tuple #[v, .int .i64 0, .int .i64 0]) ∧ OwnToks w.heap.size w' v T ∧ Below w.heap.size w w' := by
  refine (ref_Cut s w hT).mono ?_
  rintro e w' ⟨h, hb⟩
  rcases h with ⟨h, _⟩ | ⟨_, ⟨o, h, _⟩ | ⟨T', v, h, he, ho⟩⟩
  · omega
  · rw [hc] at h; cases h
  · rw [hc] at h; injection h with h; subst h; exact ⟨v, he, ho, hb⟩
theorem queryL_bad {src : List UInt8} {o : Nat} {er : Int} (h : queryL src = .bad o er) : (er == 0) = false := by
  unfold queryL cutThen at h
  split at h
  · injection h with h1 h2; subst h2; rfl
  · split at h
    · injection h with h1 h2; subst h2; rfl
    · rcases queryT_bad h with rfl | rfl <;> rfl
theorem queryL_ok {src : List UInt8} {t : Tm} {ns : Nms} (h : queryL src = .ok (t, ns)) : ∃ T, src.length ≤ 4096 ∧ cutL src 0 false = .good T ∧ queryT T = .ok (t, ns) := by
  unfold queryL cutThen at h
  split at h
  · cases h
  · cases hc : cutL src 0 false with
    | bad o => rw [hc] at h; cases h
    | good T => rw [hc] at h; exact ⟨T, by omega, rfl, h⟩
theorem queryT_small {T : List Tok} {t : Tm} {ns : Nms} (hf : Fine T) (h : queryT T = .ok (t, ns)) : t.size ≤ T.length ∧ ns.length ≤ 200 ∧ t.deep ≤ 60 ∧ t.may = true := by
  obtain ⟨ts, hr, hd, _⟩ := queryT_is h
  obtain ⟨_, h2, h3⟩ := termR_good T.length _ _ _ _ _ _ (Nat.le_refl _) hf (Nat.zero_le _) hr
  exact ⟨by omega, h3, hd, termR_may T.length _ _ _ _ _ _ (Nat.le_refl _) hf (Nat.zero_le _) hr⟩

set_option maxRecDepth 100000 in
set_option maxHeartbeats 4000000 in
theorem walk_ReadBrackets (s : ByteArray) (w : World) (hs : s.size ≤ maxLen) (hT : TabsT w) :
    Calls Tryz.prog 6 #[.string s] w fun e w' => e = .returned (.bool true) ∧ Below w.heap.size w w' := by
  have HT := Lib.hid hT
  have HL := Lib.hid (read_live w hT)
  have HQ := Lib.hid (fun W (hb : Below w.heap.size w W) => rd_Query s W (hT.on hb))
  unfold maxLen at hs
  clear hT
  cases hq : queryL s.data.toList with
  | bad o er =>
    rw [hq] at HQ
    have her := queryL_bad hq
    have her2 : ¬ er = 0 := by simpa using her
    clear hq
    go_enter Tryz.func6, Tryz.ntmps6
    go_wp2_with fail
    refine HL.out.mono ?_; rintro e w1 ⟨rfl, hb1⟩
    have HB1 := Lib.hid hb1
    clear hb1
    go_wp2_with fail
    refine (HQ.out _ HB1.out).mono ?_; rintro e w2 ⟨rfl, hb2⟩
    have HB2 := Lib.hid (HB1.out.trans (hb2.mono HB1.out.size))
    clear hb2
    unfold zeroT
    go_wp2_with fail
    go_ret
    exact ⟨rfl, HB2.out.alloc HB2.out.size _⟩
  | ok y =>
    obtain ⟨t, ns⟩ := y
    rw [hq] at HQ
    obtain ⟨T, hl, hc, hqT⟩ := queryL_ok hq
    by_cases h4 : 4000 < s.size
    · clear hl hc hqT hq
      have h4i : (4000 : Int) < (s.size : Int) := by omega
      go_enter Tryz.func6, Tryz.ntmps6
      go_wp2_with fail
      refine HL.out.mono ?_; rintro e w1 ⟨rfl, hb1⟩
      have HB1 := Lib.hid hb1
      clear hb1
      go_wp2_with fail
      refine (HQ.out _ HB1.out).mono ?_; rintro e w2 ⟨v, ad, cap, rfl, _, _, hb2⟩
      have HB2 := Lib.hid (HB1.out.trans (hb2.mono HB1.out.size))
      clear hb2
      unfold tmv
      go_wp2_with fail
      go_ret
      exact ⟨rfl, HB2.out.alloc HB2.out.size _⟩
    · have hsz : s.data.toList.length = s.size := size_listT s
      have HC := Lib.hid (fun W (hb : Below w.heap.size w W) => ref_cut_good s hl hc W (HT.out.on hb))
      have hmany := cut_many hc
      have hf := cut_fine hl hc
      obtain ⟨hsm, hns, _, _⟩ := queryT_small hf hqT
      have h4i : (s.size : Int) ≤ 4000 := by omega
      have HB : Hid ((∀ x ∈ T, x.kind ≠ 8) → queryL ((⟨#[40]⟩ : ByteArray) ++ s ++ ⟨#[10, 41]⟩).data.toList = .ok (t, ns)) := Lib.hid (fun h8 => by
        have := query_brackets (by omega) hc h8 hqT
        rw [← this]
        congr 1)
      have HQ2 := Lib.hid (fun W (hb : Below w.heap.size w W) => rd_Query ((⟨#[40]⟩ : ByteArray) ++ s ++ ⟨#[10, 41]⟩) W (HT.out.on hb))
      have HSM := Lib.hid hsm
      have HNS := Lib.hid hns
      clear hl hc hqT hq hf hsm hns h4
      go_enter Tryz.func6, Tryz.ntmps6
      go_wp2_with fail
      refine HL.out.mono ?_; rintro e w1 ⟨rfl, hb1⟩
      have HB1 := Lib.hid hb1
      clear hb1
      go_wp2_with fail
      refine (HQ.out _ HB1.out).mono ?_; rintro e w2 ⟨v, ad, cap, rfl, ho, ht, hb2⟩
      have HB2 := Lib.hid (HB1.out.trans (hb2.mono HB1.out.size))
      have HO2 := Lib.hid ho
      have HT2 := Lib.hid ht.toIn
      clear hb2 ho ht
      unfold tmv
      go_upto_region 3 with fail
      generalize hw : w2.alloc (.cells #[.int .i64 t.kind, .string t.name, .int .i64 t.n, .slice ad t.args.length cap] 30) = w2a
      have HC2 : Hid (w2a.heap[w2.heap.size]? = some (.cells #[.int .i64 t.kind, .string t.name, .int .i64 t.n, .slice ad t.args.length cap] 30 (0, 0))) := Lib.hid (by rw [← hw]; exact newR w2 _)
      have hb2a : Below w2.heap.size w2 w2a := by rw [← hw]; exact (Below.refl _ _).alloc (Nat.le_refl _) _
      have HB2a := Lib.hid (HB2.out.trans (hb2a.mono HB2.out.size))
      have HO2a := Lib.hid (OwnStrs.below HO2.out hb2a)
      have HT2a : Hid (TmIn w2a t ad cap) := Lib.hid (HT2.out.on hb2a)
      clear hw hb2a HO2 HT2 HB2
      go_wp2_with fail
      refine (HC.out _ HB2a.out).mono ?_; rintro e w3 ⟨vt, rfl, hown, hb3⟩
      obtain ⟨adt, capt, rfl, hlc, hcm, hcell⟩ := hown.view
      have HCELL := Lib.hid hcell
      have HB3 := Lib.hid (HB2a.out.trans (hb3.mono HB2a.out.size))
      have HO3 := Lib.hid (OwnStrs.below HO2a.out hb3)
      have HT3 : Hid (TmIn w3 t ad cap) := Lib.hid (HT2a.out.on hb3)
      have HC3 := Lib.hid (keptR hb3 HC2.out)
      clear hb3 hown hcell
      go_wp2_with fail
      go_loopw [41] (fun iv wr => ∃ k : Nat, k ≤ T.length ∧ iv = .int .i64 k ∧ (∀ j (hj : j < T.length), j < k → T[j].kind ≠ 8) ∧ Below w3.heap.size w3 wr) (fun iv _ => T.length - (intOf iv).toNat)
      case atStart => exact ⟨0, Nat.zero_le _, rfl, fun j _ h => absurd h (Nat.not_lt_zero _), Below.refl _ _⟩
      case round =>
        obtain ⟨k, hk, rfl, hno, hbw⟩ := hrel
        have hws := hbw.size
        by_cases hlt : k < T.length
        · obtain ⟨g, rfl, _, hat⟩ := HCELL.out k hlt
          obtain ⟨c0, c1, c2, c3⟩ := hat.on hbw
          have HNO := Lib.hid hno
          have hk0 : (0 : Int) ≤ (k : Int) := by omega
          have hk1 : (k : Int) < (T.length : Int) := by omega
          have HX : Hid ((T[k].kind == 8) = false → ∀ j (hj : j < T.length), j < k + 1 → T[j].kind ≠ 8) := Lib.hid (fun h j hj hjk => by
            by_cases e : j = k
            · subst e; simpa using h
            · exact HNO.out j hj (by omega))
          clear hno hat
          generalize T[k] = x at *
          cases e8 : (x.kind == 8) with
          | true =>
            go_wp2_with fail
            go_ret
            exact ⟨rfl, HB3.out.trans ((hbw.alloc hws _).mono HB3.out.size)⟩
          | false =>
            go_wp2_with fail
            go_roundw
            case rel => exact ⟨k + 1, by omega, by go_num, HX.out e8, hbw.alloc hws _⟩
            case measure => simp [intOf]; omega
        · have hk1 : ¬ (k : Int) < (T.length : Int) := by omega
          have hall : ∀ x ∈ T, x.kind ≠ 8 := fun x hx => by
            obtain ⟨j, hj, rfl⟩ := List.getElem_of_mem hx
            exact hno j hj (by omega)
          have hq2 := HB.out hall
          rw [hq2] at HQ2
          have HBR := Lib.hid (HB3.out.trans (hbw.mono HB3.out.size))
          have HOR := Lib.hid (OwnStrs.below HO3.out hbw)
          have HTR : Hid (TmIn wr t ad cap) := Lib.hid (HT3.out.on hbw)
          have HCR := Lib.hid (keptR hbw HC3.out)
          clear hno hbw hall hq2 HB
          go_wp2_with fail
          refine (HQ2.out _ HBR.out).mono ?_; rintro e w4 ⟨v2, ad2, cap2, rfl, ho2, ht2, hb4⟩
          have HB4 := Lib.hid (HBR.out.trans (hb4.mono HBR.out.size))
          have HO4 := Lib.hid (OwnStrs.below HOR.out hb4)
          have HT4 : Hid (TmIn w4 t ad cap) := Lib.hid (HTR.out.on hb4)
          have HC4 := Lib.hid (keptR hb4 HCR.out)
          have HP4 := Lib.hid ho2
          have HU4 := Lib.hid ht2.toIn
          clear hb4 ho2 ht2
          unfold tmv
          go_upto_region 13 with fail
          generalize hw : w4.alloc (.cells #[.int .i64 t.kind, .string t.name, .int .i64 t.n, .slice ad2 t.args.length cap2] 30) = w5
          have HD5 : Hid (w5.heap[w4.heap.size]? = some (.cells #[.int .i64 t.kind, .string t.name, .int .i64 t.n, .slice ad2 t.args.length cap2] 30 (0, 0))) := Lib.hid (by rw [← hw]; exact newR w4 _)
          have hb5 : Below w4.heap.size w4 w5 := by rw [← hw]; exact (Below.refl _ _).alloc (Nat.le_refl _) _
          have HB5 := Lib.hid (HB4.out.trans (hb5.mono HB4.out.size))
          have HS5 := Lib.hid (ref_Same 100000 t t ad ad2 cap cap2 w5 (by have := HSM.out; omega) (by have := HSM.out; omega) (HT4.out.on hb5) (HU4.out.on hb5))
          rw [Tm.same_true rfl] at HS5
          unfold tmv at HS5
          have HN5 := Lib.hid (fun W (hb : Below w5.heap.size w5 W) => ref_SameNames (nmB ns) (nmB ns) v v2 _ _ W ((OwnStrs.below HO4.out hb5).below hb) ((OwnStrs.below HP4.out hb5).below hb) (by rw [nmB_len]; have := HNS.out; omega) rfl)
          obtain ⟨d0, d1, d2, d3, _⟩ := cellsR4 (keptR hb5 HC4.out)
          obtain ⟨x0, x1, x2, x3, _⟩ := cellsR4 HD5.out
          clear hw hb5 HO4 HT4 HC4 HP4 HU4
          go_wp2_with fail
          refine HS5.out.mono ?_; rintro e w6 ⟨rfl, hb6⟩
          have HB6 := Lib.hid hb6
          clear hb6
          go_wp2_with fail
          refine (HN5.out _ HB6.out).mono ?_; rintro e w7 ⟨rfl, hb7⟩
          have HB7 := Lib.hid (HB5.out.trans ((HB6.out.trans (hb7.mono HB6.out.size)).mono HB5.out.size))
          clear hb7
          go_wp2_with fail
          go_ret
          exact ⟨rfl, HB7.out⟩
end Go.Proofs.YtlbdocdjijhkbaaGreatDoor
