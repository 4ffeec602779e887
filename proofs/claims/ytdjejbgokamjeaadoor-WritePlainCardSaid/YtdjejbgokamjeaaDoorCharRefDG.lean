/-
  Joined texts: CharRefD, CharRefE, CharRefF, CharRefG.
-/
import Derived.Test.YtdjejbgokamjeaaDoorCharRefC
import Derived.Deep.AppendLies

/-
  The contract of the document's own Runes for char: a text's runes, in a slice of the call's own.
-/
namespace Go.Proofs.YtdjejbgokamjeaaDoor
open Go.RowKit

theorem ownsRow_below {w w' : World} {B : Nat} {e : TypeId} {size : Nat} {v : Value} {n : Nat} {xs : List Value} (h : w.ownsRow B e size v n xs) (hb : Below w.heap.size w w') : w'.ownsRow B e size v n xs := by
  obtain ⟨hl, h0 | ⟨g, cap, cur, hv, hbg, hh, r⟩⟩ := h
  · exact ⟨hl, .inl h0⟩
  · have hg : g < w.heap.size := (Array.getElem?_eq_some_iff.1 hh).1
    exact ⟨hl, .inr ⟨g, cap, cur, hv, hbg, (hb.block g hg).trans hh, r⟩⟩
theorem decodeGo_eq (s : ByteArray) (h : s.size ≠ 0) : Lib.decodeGo s = Lib.decodeL s.data.toList := by
  unfold Lib.decodeGo Lib.decodeL
  rw [if_neg h]
theorem extract_drop (s : ByteArray) (k : Nat) : (s.extract k s.size).data.toList = s.data.toList.drop k := by
  rw [ByteArray.data_extract, Array.toList_extract]
  simp
  exact List.take_of_length_le (by simp)
theorem list_ne (t : ByteArray) (h : t.size ≠ 0) : t.data.toList ≠ [] := fun e => by
  have h1 : t.data.toList.length = t.size := by simp
  rw [e] at h1
  exact h h1.symm
theorem infoRune : (Tryd.prog.info? 21).map (fun i => (i.zero, i.size, i.bytes)) = some (some (.int .i32 0), 1, 4) := by kernel_rfl

/-- A slice of runes of the call's own. -/
def OwnRunes (B : Nat) (w : World) (v : Value) (rs : List Int) : Prop := w.ownsRow B 21 1 v rs.length (rs.map (Value.int .i32))
def strSize : Value → Nat
  | .string t => t.size
  | _ => 0

set_option maxHeartbeats 4000000 in
theorem ref_Runes (s : ByteArray) (w : World) (hs : s.size ≤ 200000) (hT : Tabs w) :
    Calls Tryd.prog 59 #[.string s] w fun e w' => ∃ v, e = .returned v ∧ OwnRunes w.heap.size w' v (runesL s.data.toList) ∧ Below w.heap.size w w' := by
  have HT := Lib.hid hT
  clear hT
  obtain ⟨i0, hi, hz0, hz1, hz2⟩ := info_parts infoRune
  go_enter Tryd.func59, Tryd.ntmps59
  go_wp2
  go_loopw [0, 3] (fun sv v wr => ∃ (t : ByteArray) (rs : List Int), sv = .string t ∧ rs.length + t.size ≤ s.size ∧ OwnRunes w.heap.size wr v rs ∧ Below w.heap.size w wr ∧ Hid (rs ++ runesL t.data.toList = runesL s.data.toList)) (fun sv _ _ => strSize sv)
  case atStart => exact ⟨s, [], rfl, by simp, World.ownsRow_nil _ _ _ _, Below.refl _ _, Lib.hid rfl⟩
  case round =>
    obtain ⟨t, rs, rfl, hlen, hown, hbw, HR⟩ := hrel
    by_cases ht : t.size = 0
    · have e0 : t.data.toList = [] := List.eq_nil_of_length_eq_zero (by simpa using ht)
      have hfin : rs = runesL s.data.toList := by rw [← HR.out, e0, runesL_nil, List.append_nil]
      have HF := Lib.hid hfin
      clear hfin e0 HR
      go_wp2_with fail
      go_ret
      exact ⟨_, rfl, by rw [← HF.out]; exact hown, hbw⟩
    · have hd := Lib.hid (decodeGo_eq t ht)
      have hne := list_ne t ht
      have hc := Lib.hid (runesL_cons t.data.toList hne)
      have hw1 := Lib.decodeL_width t.data.toList
      have hw2 := Lib.decodeL_le t.data.toList hne
      have hr := Lib.decodeL_rune t.data.toList
      have hl : t.data.toList.length = t.size := by simp
      rw [hl] at hw2
      have cD := fun w (hT : Tabs w) => Tryd.utf8_DecodeRuneInString t w hT.1
      rw [decodeGo_eq t ht] at cD
      have HD := Lib.hid cD
      have hx := Lib.hid (extract_drop t (Lib.decodeL t.data.toList).2)
      have hpos : 0 < t.size := by omega
      clear cD hne hl ht
      generalize (Lib.decodeL t.data.toList).1 = c at *
      generalize (Lib.decodeL t.data.toList).2 = n at *
      go_wp2_with fail
      refine (HD.out _ (HT.out.on hbw)).mono ?_
      rintro e w1 ⟨rfl, hb1⟩
      have hown1 := ownsRow_below hown hb1
      have hbw1 := hbw.trans (hb1.mono hbw.size)
      have hsz := hbw1.size
      clear hown hbw hb1
      go_wp2_with (first
        | (at_builtin; refine wpList_append_own _ rfl _ _ 78 rfl w.heap.size 21 i0 (.int .i32 0) 1 4 Tryd.underlying78 hi hz0 hz1 hz2 rfl (by decide) _ _ _ rfl (hown1.alloc _) ⟨w1.heap.size, 0, none⟩ 1 1 [.int .i32 c] rfl rfl ?c1 ?c2 ?c3 ?c4 ?c5 ?_))
      case c1 =>
        intro j u hj
        match j, hj with
        | 0, hj => simp at hj; subst hj; simp [Addr.add]
      case c2 => intro u hu; simp at hu; subst hu; rfl
      case c3 => unfold maxLen; omega
      case c4 => omega
      case c5 => simp; omega
      intro v' w2 hown2 hgrow _
      have hown3 : OwnRunes w.heap.size w2 v' (rs ++ [(c : Int)]) := by
        unfold OwnRunes
        rw [List.length_append, List.map_append]
        exact hown2
      have hbw2 : Below w.heap.size w w2 := (hbw1.alloc hsz _).grown hgrow (by simp; omega) (fun k hk => (World.ownsRow.lt hown1 k hk).1)
      have hcat : (rs ++ [(c : Int)]) ++ runesL (t.extract n t.size).data.toList = runesL s.data.toList := by
        rw [hx.out, List.append_assoc, List.singleton_append, ← hc.out]
        exact HR.out
      have HC := Lib.hid hcat
      have hsz2 : (t.extract n t.size).size = t.size - n := by simp
      have HSZ := Lib.hid hsz2
      clear hcat hown1 hown2 hgrow hbw1 hsz2
      go_wp2
      go_roundw
      case rel => exact ⟨t.extract n t.size, rs ++ [(c : Int)], rfl, by rw [HSZ.out, List.length_append, List.length_singleton]; omega, hown3, hbw2, HC⟩
      case measure => show (t.extract n t.size).size < t.size; rw [HSZ.out]; omega
end Go.Proofs.YtdjejbgokamjeaaDoor

/-
  The contract of the document's own Bare for char.
-/
namespace Go.Proofs.YtdjejbgokamjeaaDoor
open Go.RowKit

/-- What the first tests of Bare come to. -/
theorem bare_no {l : List UInt8} (h : checkL l = false ∨ l = [] ∨ l = [46] ∨ l.take 2 = [47, 42]) : bareL l = false := by
  unfold bareL
  rcases h with h | h | h | h
  · rw [h]; rfl
  · rw [h]; rfl
  · rw [h]; rfl
  · rw [h]; simp
theorem bare_yes {l : List UInt8} (hc : checkL l = true) (h : l = [91, 93] ∨ l = [123, 125] ∨ l = [33] ∨ l = [59]) : bareL l = true := by
  unfold bareL
  rw [hc]
  rcases h with h | h | h | h
  all_goals rw [h]; rfl
def nameAll (rs : List Int) : Bool := decide (cls (rs.headD 0) = 1) && rs.all nameR
theorem name_snoc (nm0 : Bool) (rs : List Int) (k : Nat) (h : k < rs.length) : (nm0 && (rs.take (k + 1)).all nameR) = ((nm0 && (rs.take k).all nameR) && nameR rs[k]) := by
  rw [List.take_succ_eq_append_getElem h, List.all_append]
  simp [Bool.and_assoc]
theorem sign_snoc (rs : List Int) (k : Nat) (h : k < rs.length) : (rs.take (k + 1)).all signR = ((rs.take k).all signR && signR rs[k]) := by
  rw [List.take_succ_eq_append_getElem h, List.all_append]
  simp
theorem bare_rest {l : List UInt8} (hc : checkL l = true) (h0 : l ≠ []) (h1 : l ≠ [46]) (h2 : l.take 2 ≠ [47, 42]) (h3 : l ≠ [91, 93]) (h4 : l ≠ [123, 125]) (h5 : l ≠ [33]) (h6 : l ≠ [59]) :
    bareL l = (nameAll (runesL l) || (runesL l).all signR) := by
  unfold bareL nameAll
  rw [hc, decide_eq_false h0, decide_eq_false h1, decide_eq_false h2, decide_eq_false h3, decide_eq_false h4, decide_eq_false h5, decide_eq_false h6]
  simp

set_option maxHeartbeats 4000000 in
theorem ref_Bare_core (s : ByteArray) (w : World) (hsz : s.size ≤ 255) (hT : Tabs w) (rs : List Int) (hrs : runesL s.data.toList = rs) (hne : rs ≠ [])
    (cC : ∀ w, Tabs w → Calls Tryd.prog 56 #[.string s] w fun e w' => e = .returned (.bool true) ∧ Below w.heap.size w w')
    (f0 : s.toList.isEmpty = false) (f1 : (s.toList == [46]) = false) (f2 : s.size ≤ 1 ∨ ((s.extract 0 2).toList == [47, 42]) = false) (f3 : (s.toList == [91, 93]) = false) (f4 : (s.toList == [123, 125]) = false) (f5 : (s.toList == [33]) = false) (f6 : (s.toList == [59]) = false) :
    Calls Tryd.prog 58 #[.string s] w fun e w' => e = .returned (.bool (nameAll rs || rs.all signR)) ∧ Below w.heap.size w w' := by
  have HT := Lib.hid hT
  have HC := Lib.hid cC
  have cR := fun w hT => ref_Runes s w (by omega) hT
  rw [hrs] at cR
  have HR := Lib.hid cR
  have hlen : rs.length ≤ 255 := by
    have h1 := runesL_length s.data.toList
    have h2 : s.data.toList.length = s.size := by simp
    rw [hrs] at h1
    omega
  have hpos : 0 < rs.length := List.length_pos_iff.2 hne
  clear hT cC cR hrs hne
  obtain ⟨tl, htl⟩ : ∃ tl, s.toList = tl := ⟨_, rfl⟩
  have g2 : (1 : Int) < s.size ∨ (s.size : Int) ≤ 1 := by omega
  rcases g2 with g2 | g2
  · have f2' : ((s.extract 0 2).toList == [47, 42]) = false := f2.resolve_left (by omega)
    clear f2 htl
    go_enter Tryd.func58, Tryd.ntmps58
    go_wp2_with fail
    refine (HC.out _ HT.out).mono ?_; rintro e w1 ⟨rfl, hb1⟩
    go_wp2_with fail
    refine (HR.out _ (HT.out.on hb1)).mono ?_; rintro e w2 ⟨v, rfl, hown, hb2⟩
    have hb := hb1.trans (hb2.mono hb1.size)
    obtain ⟨g, cap, rfl, hform⟩ := hown.form hpos
    have hcell : ∀ k (h : k < rs.length), w2.cell? ⟨g, k, none⟩ = some (.int .i32 rs[k]) := fun k h => by
      have := World.ownsRow.cellAt hown k (by omega)
      rw [this, List.getElem?_map, List.getElem?_eq_getElem h]
      rfl
    have HCell := Lib.hid hcell
    have hc0 := hcell 0 hpos
    have hr0 : rs[0] = rs.headD 0 := by
      cases rs with
      | nil => cases hpos
      | cons a t => rfl
    obtain ⟨r0, hr1⟩ : ∃ r, rs.headD 0 = r := ⟨_, rfl⟩
    rw [hr0, hr1] at hc0
    have HR1 := Lib.hid hr1
    clear hcell hown hb1 hb2 hform hr0 hr1 f0 f1 f3 f4 f5 f6
    try clear f2'
    clear g2
    go_wp2_with fail
    refine (ref_Class _ _).mono ?_; rintro e w' ⟨rfl, rfl⟩
    obtain ⟨nm0, hb0⟩ : ∃ b, (cls r0 == 1) = b := ⟨_, rfl⟩
    have HNM : Hid (decide (cls (rs.headD 0) = 1) = nm0) := Lib.hid (by rw [HR1.out, ← hb0]; rfl)
    go_wp2_with fail
    clear hc0 hb0 HR1
    go_loop [4, 5, 53] (fun nm sg i => ∃ (k : Nat) (a b : Bool), k ≤ rs.length ∧ i = .int .i64 k ∧ nm = .bool a ∧ sg = .bool b ∧ Hid ((nm0 && (rs.take k).all nameR) = a ∧ (rs.take k).all signR = b)) (fun _ _ i => rs.length - (intOf i).toNat)
    case atStart => exact ⟨0, nm0, true, Nat.zero_le _, rfl, rfl, rfl, Lib.hid ⟨by simp, rfl⟩⟩
    case round =>
      obtain ⟨k, a, b, hk, rfl, rfl, rfl, HS⟩ := hrel
      by_cases hlt : k < rs.length
      · have hck := HCell.out k hlt
        have h1 := name_snoc nm0 rs k hlt
        have h2 := sign_snoc rs k hlt
        rw [HS.out.1] at h1
        rw [HS.out.2] at h2
        generalize rs[k] = c at *
        have H1 := Lib.hid h1
        have H2 := Lib.hid h2
        clear h1 h2
        obtain ⟨q, hq⟩ : ∃ q, cls c = q := ⟨_, rfl⟩
        have hn : nameR c = decide (q = 1 ∨ q = 2 ∨ q = 3) := by unfold nameR; rw [hq]
        have hsg : signR c = decide (q = 4) := by unfold signR; rw [hq]
        have HN := Lib.hid hn
        have HG := Lib.hid hsg
        have cK := fun w => ref_Class c w
        rw [hq] at cK
        have HK := Lib.hid cK
        clear hq hn hsg cK HS
        go_wp2_with fail
        refine (HK.out _).mono ?_; rintro e w' ⟨rfl, rfl⟩
        have hqc : q = 1 ∨ q = 2 ∨ q = 3 ∨ q = 4 ∨ (q ≠ 1 ∧ q ≠ 2 ∧ q ≠ 3 ∧ q ≠ 4) := by omega
        rcases hqc with rfl | rfl | rfl | rfl | ⟨hq1, hq2, hq3, hq4⟩
        all_goals
          try (
            have e1 : (q == 1) = false := by simpa using hq1
            have e2 : (q == 2) = false := by simpa using hq2
            have e3 : (q == 3) = false := by simpa using hq3
            have e4 : (q == 4) = false := by simpa using hq4
            have hn' : nameR c = false := by rw [HN.out, decide_eq_false_iff_not]; omega
            have hg' : signR c = false := by rw [HG.out, decide_eq_false_iff_not]; omega
            have HN' := Lib.hid hn'
            have HG' := Lib.hid hg'
            clear hn' hg' hq1 hq2 hq3 hq4)
          cases a
          all_goals
            cases b
            all_goals
              go_wp2_with fail
              go_round
              case rel =>
                refine ⟨k + 1, _, _, by omega, by go_num, rfl, rfl, Lib.hid ⟨?_, ?_⟩⟩
                · rw [H1.out]
                  first | (rw [HN'.out]; rfl) | (rw [HN.out]; rfl)
                · rw [H2.out]
                  first | (rw [HG'.out]; rfl) | (rw [HG.out]; rfl)
              case measure => simp [intOf]; omega
      · have hfin : nameAll rs = a ∧ rs.all signR = b := by
          have h := HS.out
          rw [List.take_of_length_le (by omega)] at h
          refine ⟨?_, h.2⟩
          unfold nameAll
          rw [HNM.out]
          exact h.1
        have HF := Lib.hid hfin
        clear hfin HS
        cases a
        all_goals
          cases b
          all_goals
            go_wp2_with fail
            go_ret
            exact ⟨by rw [HF.out.1, HF.out.2]; rfl, hb⟩
  · clear f2 htl
    go_enter Tryd.func58, Tryd.ntmps58
    go_wp2_with fail
    refine (HC.out _ HT.out).mono ?_; rintro e w1 ⟨rfl, hb1⟩
    go_wp2_with fail
    refine (HR.out _ (HT.out.on hb1)).mono ?_; rintro e w2 ⟨v, rfl, hown, hb2⟩
    have hb := hb1.trans (hb2.mono hb1.size)
    obtain ⟨g, cap, rfl, hform⟩ := hown.form hpos
    have hcell : ∀ k (h : k < rs.length), w2.cell? ⟨g, k, none⟩ = some (.int .i32 rs[k]) := fun k h => by
      have := World.ownsRow.cellAt hown k (by omega)
      rw [this, List.getElem?_map, List.getElem?_eq_getElem h]
      rfl
    have HCell := Lib.hid hcell
    have hc0 := hcell 0 hpos
    have hr0 : rs[0] = rs.headD 0 := by
      cases rs with
      | nil => cases hpos
      | cons a t => rfl
    obtain ⟨r0, hr1⟩ : ∃ r, rs.headD 0 = r := ⟨_, rfl⟩
    rw [hr0, hr1] at hc0
    have HR1 := Lib.hid hr1
    clear hcell hown hb1 hb2 hform hr0 hr1 f0 f1 f3 f4 f5 f6
    try clear f2'
    clear g2
    go_wp2_with fail
    refine (ref_Class _ _).mono ?_; rintro e w' ⟨rfl, rfl⟩
    obtain ⟨nm0, hb0⟩ : ∃ b, (cls r0 == 1) = b := ⟨_, rfl⟩
    have HNM : Hid (decide (cls (rs.headD 0) = 1) = nm0) := Lib.hid (by rw [HR1.out, ← hb0]; rfl)
    go_wp2_with fail
    clear hc0 hb0 HR1
    go_loop [4, 5, 53] (fun nm sg i => ∃ (k : Nat) (a b : Bool), k ≤ rs.length ∧ i = .int .i64 k ∧ nm = .bool a ∧ sg = .bool b ∧ Hid ((nm0 && (rs.take k).all nameR) = a ∧ (rs.take k).all signR = b)) (fun _ _ i => rs.length - (intOf i).toNat)
    case atStart => exact ⟨0, nm0, true, Nat.zero_le _, rfl, rfl, rfl, Lib.hid ⟨by simp, rfl⟩⟩
    case round =>
      obtain ⟨k, a, b, hk, rfl, rfl, rfl, HS⟩ := hrel
      by_cases hlt : k < rs.length
      · have hck := HCell.out k hlt
        have h1 := name_snoc nm0 rs k hlt
        have h2 := sign_snoc rs k hlt
        rw [HS.out.1] at h1
        rw [HS.out.2] at h2
        generalize rs[k] = c at *
        have H1 := Lib.hid h1
        have H2 := Lib.hid h2
        clear h1 h2
        obtain ⟨q, hq⟩ : ∃ q, cls c = q := ⟨_, rfl⟩
        have hn : nameR c = decide (q = 1 ∨ q = 2 ∨ q = 3) := by unfold nameR; rw [hq]
        have hsg : signR c = decide (q = 4) := by unfold signR; rw [hq]
        have HN := Lib.hid hn
        have HG := Lib.hid hsg
        have cK := fun w => ref_Class c w
        rw [hq] at cK
        have HK := Lib.hid cK
        clear hq hn hsg cK HS
        go_wp2_with fail
        refine (HK.out _).mono ?_; rintro e w' ⟨rfl, rfl⟩
        have hqc : q = 1 ∨ q = 2 ∨ q = 3 ∨ q = 4 ∨ (q ≠ 1 ∧ q ≠ 2 ∧ q ≠ 3 ∧ q ≠ 4) := by omega
        rcases hqc with rfl | rfl | rfl | rfl | ⟨hq1, hq2, hq3, hq4⟩
        all_goals
          try (
            have e1 : (q == 1) = false := by simpa using hq1
            have e2 : (q == 2) = false := by simpa using hq2
            have e3 : (q == 3) = false := by simpa using hq3
            have e4 : (q == 4) = false := by simpa using hq4
            have hn' : nameR c = false := by rw [HN.out, decide_eq_false_iff_not]; omega
            have hg' : signR c = false := by rw [HG.out, decide_eq_false_iff_not]; omega
            have HN' := Lib.hid hn'
            have HG' := Lib.hid hg'
            clear hn' hg' hq1 hq2 hq3 hq4)
          cases a
          all_goals
            cases b
            all_goals
              go_wp2_with fail
              go_round
              case rel =>
                refine ⟨k + 1, _, _, by omega, by go_num, rfl, rfl, Lib.hid ⟨?_, ?_⟩⟩
                · rw [H1.out]
                  first | (rw [HN'.out]; rfl) | (rw [HN.out]; rfl)
                · rw [H2.out]
                  first | (rw [HG'.out]; rfl) | (rw [HG.out]; rfl)
              case measure => simp [intOf]; omega
      · have hfin : nameAll rs = a ∧ rs.all signR = b := by
          have h := HS.out
          rw [List.take_of_length_le (by omega)] at h
          refine ⟨?_, h.2⟩
          unfold nameAll
          rw [HNM.out]
          exact h.1
        have HF := Lib.hid hfin
        clear hfin HS
        cases a
        all_goals
          cases b
          all_goals
            go_wp2_with fail
            go_ret
            exact ⟨by rw [HF.out.1, HF.out.2]; rfl, hb⟩
end Go.Proofs.YtdjejbgokamjeaaDoor

/-
  The contract of the document's own Bare for char, at every string.
-/
namespace Go.Proofs.YtdjejbgokamjeaaDoor
open Go.RowKit

theorem runesL_ne {l : List UInt8} (h : l ≠ []) : runesL l ≠ [] := by rw [runesL_cons l h]; simp
theorem take2 (s : ByteArray) : (s.extract 0 2).toList = s.data.toList.take 2 := by
  rw [ByteArray.toList_eq, ByteArray.data_extract, Array.toList_extract]
  simp

set_option maxHeartbeats 2000000 in
theorem ref_Bare_first (s : ByteArray) (w : World) (ck b0 b1 b2 b3 b4 b5 b6 r : Bool) (hT : Tabs w)
    (cC : ∀ w, Tabs w → Calls Tryd.prog 56 #[.string s] w fun e w' => e = .returned (.bool ck) ∧ Below w.heap.size w w')
    (f0 : s.toList.isEmpty = b0) (f1 : (s.toList == [46]) = b1) (f2 : ((s.extract 0 2).toList == [47, 42]) = b2) (f3 : (s.toList == [91, 93]) = b3) (f4 : (s.toList == [123, 125]) = b4) (f5 : (s.toList == [33]) = b5) (f6 : (s.toList == [59]) = b6)
    (h : (ck = false ∧ r = false) ∨ (ck = true ∧ b0 = true ∧ r = false) ∨ (ck = true ∧ b0 = false ∧ b1 = true ∧ r = false) ∨ (ck = true ∧ b0 = false ∧ b1 = false ∧ 1 < s.size ∧ b2 = true ∧ r = false) ∨
      (ck = true ∧ b0 = false ∧ b1 = false ∧ 1 < s.size ∧ b2 = false ∧ b3 = true ∧ r = true) ∨ (ck = true ∧ b0 = false ∧ b1 = false ∧ 1 < s.size ∧ b2 = false ∧ b3 = false ∧ b4 = true ∧ r = true) ∨
      (ck = true ∧ b0 = false ∧ b1 = false ∧ s.size ≤ 1 ∧ b3 = false ∧ b4 = false ∧ b5 = true ∧ r = true) ∨ (ck = true ∧ b0 = false ∧ b1 = false ∧ s.size ≤ 1 ∧ b3 = false ∧ b4 = false ∧ b5 = false ∧ b6 = true ∧ r = true)) :
    Calls Tryd.prog 58 #[.string s] w fun e w' => e = .returned (.bool r) ∧ Below w.heap.size w w' := by
  have HT := Lib.hid hT
  have HC := Lib.hid cC
  clear hT cC
  rcases h with ⟨rfl, rfl⟩ | ⟨rfl, rfl, rfl⟩ | ⟨rfl, rfl, rfl, rfl⟩ | ⟨rfl, rfl, rfl, hz, rfl, rfl⟩ | ⟨rfl, rfl, rfl, hz, rfl, rfl, rfl⟩ | ⟨rfl, rfl, rfl, hz, rfl, rfl, rfl, rfl⟩ | ⟨rfl, rfl, rfl, hz, rfl, rfl, rfl, rfl⟩ | ⟨rfl, rfl, rfl, hz, rfl, rfl, rfl, rfl, rfl⟩
  all_goals
    go_enter Tryd.func58, Tryd.ntmps58
    go_wp2_with fail
    refine (HC.out _ HT.out).mono ?_; rintro e w1 ⟨rfl, hb1⟩
    go_wp2_with fail
    go_ret
    exact ⟨rfl, hb1⟩

theorem ref_Bare (s : ByteArray) (w : World) (hs : s.size ≤ maxLen) (hT : Tabs w) :
    Calls Tryd.prog 58 #[.string s] w fun e w' => e = .returned (.bool (bareL s.data.toList)) ∧ Below w.heap.size w w' := by
  have cC : ∀ w, Tabs w → Calls Tryd.prog 56 #[.string s] w fun e w' => e = .returned (.bool (checkL s.data.toList)) ∧ Below w.heap.size w w' := fun w h => ref_Check s w hs h
  have hl : s.data.toList.length = s.size := by simp
  have ht := ByteArray.toList_eq s
  have ht2 := take2 s
  have first := fun r h => ref_Bare_first s w (checkL s.data.toList) _ _ _ _ _ _ _ r hT cC rfl rfl rfl rfl rfl rfl rfl h
  have core := fun (hsz : s.size ≤ 255) (hne : runesL s.data.toList ≠ []) (hck : checkL s.data.toList = true) => ref_Bare_core s w hsz hT (runesL s.data.toList) rfl hne (fun w h => by have h2 := cC w h; rw [hck] at h2; exact h2)
  rw [ht, ht2] at first core
  generalize s.data.toList = l at *
  by_cases hck : checkL l = true
  · by_cases h0 : l = []
    · rw [bare_no (.inr (.inl h0))]
      exact first false (.inr (.inl ⟨hck, by rw [h0]; rfl, rfl⟩))
    have g0 : l.isEmpty = false := by rw [List.isEmpty_eq_false_iff]; exact h0
    by_cases h1 : l = [46]
    · rw [bare_no (.inr (.inr (.inl h1)))]
      exact first false (.inr (.inr (.inl ⟨hck, g0, by rw [h1]; rfl, rfl⟩)))
    have g1 : (l == [46]) = false := by simpa using h1
    by_cases h2 : l.take 2 = [47, 42]
    · rw [bare_no (.inr (.inr (.inr h2)))]
      have hz : 1 < s.size := by
        have := congrArg List.length h2
        simp at this
        omega
      exact first false (.inr (.inr (.inr (.inl ⟨hck, g0, g1, hz, by rw [h2]; rfl, rfl⟩))))
    have g2 : (l.take 2 == [47, 42]) = false := by simpa using h2
    by_cases h3 : l = [91, 93]
    · rw [bare_yes hck (.inl h3)]
      have hz : 1 < s.size := by rw [← hl, h3]; decide
      exact first true (.inr (.inr (.inr (.inr (.inl ⟨hck, g0, g1, hz, g2, by rw [h3]; rfl, rfl⟩)))))
    have g3 : (l == [91, 93]) = false := by simpa using h3
    by_cases h4 : l = [123, 125]
    · rw [bare_yes hck (.inr (.inl h4))]
      have hz : 1 < s.size := by rw [← hl, h4]; decide
      exact first true (.inr (.inr (.inr (.inr (.inr (.inl ⟨hck, g0, g1, hz, g2, g3, by rw [h4]; rfl, rfl⟩))))))
    have g4 : (l == [123, 125]) = false := by simpa using h4
    by_cases h5 : l = [33]
    · rw [bare_yes hck (.inr (.inr (.inl h5)))]
      have hz : s.size ≤ 1 := by rw [← hl, h5]; decide
      exact first true (.inr (.inr (.inr (.inr (.inr (.inr (.inl ⟨hck, g0, g1, hz, g3, g4, by rw [h5]; rfl, rfl⟩)))))))
    have g5 : (l == [33]) = false := by simpa using h5
    by_cases h6 : l = [59]
    · rw [bare_yes hck (.inr (.inr (.inr h6)))]
      have hz : s.size ≤ 1 := by rw [← hl, h6]; decide
      exact first true (.inr (.inr (.inr (.inr (.inr (.inr (.inr ⟨hck, g0, g1, hz, g3, g4, g5, by rw [h6]; rfl, rfl⟩)))))))
    have g6 : (l == [59]) = false := by simpa using h6
    rw [bare_rest hck h0 h1 h2 h3 h4 h5 h6]
    have hsz : s.size ≤ 255 := by
      unfold checkL at hck
      rw [Bool.and_eq_true, decide_eq_true_eq] at hck
      omega
    exact core hsz (runesL_ne h0) hck g0 g1 (.inr g2) g3 g4 g5 g6
  · have hck' : checkL l = false := by simpa using hck
    rw [bare_no (.inl hck')]
    exact first false (.inl ⟨hck', rfl⟩)
end Go.Proofs.YtdjejbgokamjeaaDoor

/-
  The contract of the document's own Write for char.
-/
namespace Go.Proofs.YtdjejbgokamjeaaDoor
open Go.RowKit

theorem flat_snoc (rs : List Int) (k : Nat) (h : k < rs.length) : (rs.take (k + 1)).flatMap escR = (rs.take k).flatMap escR ++ escR rs[k] := by
  rw [List.take_succ_eq_append_getElem h, List.flatMap_append]
  simp
theorem data_cat (a b : ByteArray) : (a ++ b).data.toList = a.data.toList ++ b.data.toList := by
  rw [ByteArray.data_append]; simp
theorem size_list (a : ByteArray) : a.data.toList.length = a.size := by simp
theorem ret_str {a b : ByteArray} (h : a = b) : Ending.returned (.string a) = .returned (.string b) := by rw [h]
theorem of_list (a : ByteArray) (l : List UInt8) (h : a.data.toList = l) : a = ⟨l.toArray⟩ := by
  subst h
  rfl

theorem escR_cases (n : Nat) : (n = 39 ∧ escR n = 92 :: encL n) ∨ (n = 92 ∧ escR n = 92 :: encL n) ∨ (n = 10 ∧ escR n = [92, 110]) ∨ (n = 9 ∧ escR n = [92, 116]) ∨
    (n ≠ 39 ∧ n ≠ 92 ∧ n ≠ 10 ∧ n ≠ 9 ∧ n < 32 ∧ escR n = 92 :: 120 :: (hexL n ++ [92])) ∨ (32 ≤ n ∧ (n ≠ 39 ∧ n ≠ 92) ∧ escR n = encL n) := by
  unfold escR
  by_cases h1 : n = 39
  · exact .inl ⟨h1, if_pos (by omega)⟩
  by_cases h2 : n = 92
  · exact .inr (.inl ⟨h2, if_pos (by omega)⟩)
  rw [if_neg (by omega)]
  by_cases h3 : n = 10
  · exact .inr (.inr (.inl ⟨h3, if_pos (by omega)⟩))
  rw [if_neg (by omega)]
  by_cases h4 : n = 9
  · exact .inr (.inr (.inr (.inl ⟨h4, if_pos (by omega)⟩)))
  rw [if_neg (by omega)]
  by_cases h5 : n < 32
  · rw [if_pos (by omega)]
    exact .inr (.inr (.inr (.inr (.inl ⟨h1, h2, h3, h4, h5, rfl⟩))))
  · rw [if_neg (by omega)]
    exact .inr (.inr (.inr (.inr (.inr ⟨by omega, ⟨h1, h2⟩, rfl⟩))))

set_option maxRecDepth 100000 in
set_option maxHeartbeats 4000000 in
theorem ref_Write_quoted (s : ByteArray) (w : World) (hs : s.size ≤ maxLen) (hT : Tabs w) (hck : checkL s.data.toList = true) (hbr : bareL s.data.toList = false) :
    Calls Tryd.prog 37 #[.string s] w fun e w' => e = .returned (.string ⟨(quoteL s.data.toList).toArray⟩) ∧ Below w.heap.size w w' := by
  have hsz : s.size ≤ 255 := by
    have h1 := hck
    unfold checkL at h1
    rw [Bool.and_eq_true, decide_eq_true_eq, size_list] at h1
    exact h1.1
  have cC := fun w hT => ref_Check s w hs hT
  have cB := fun w hT => ref_Bare s w hs hT
  have cR := fun w hT => ref_Runes s w (by omega) hT
  rw [hck] at cC
  rw [hbr] at cB
  have hlen := runesL_length s.data.toList
  have hrg := runesL_range s.data.toList
  unfold quoteL
  rw [size_list] at hlen
  generalize runesL s.data.toList = rs at *
  have HT := Lib.hid hT
  have HC := Lib.hid cC
  have HB := Lib.hid cB
  have HR := Lib.hid cR
  have HG := Lib.hid hrg
  clear hT cC cB cR hrg hck hbr hs
  go_enter Tryd.func37, Tryd.ntmps37
  go_wp2_with fail
  refine (HC.out _ HT.out).mono ?_; rintro e w1 ⟨rfl, hb1⟩
  go_wp2_with fail
  refine (HB.out _ (HT.out.on hb1)).mono ?_; rintro e w2 ⟨rfl, hb2⟩
  have hb := hb1.trans (hb2.mono hb1.size)
  clear hb1 hb2
  go_wp2_with fail
  refine (HR.out _ (HT.out.on hb)).mono ?_; rintro e w3 ⟨v, rfl, hown, hb3⟩
  have hbb := hb.trans (hb3.mono hb.size)
  clear hb hb3
  obtain ⟨ad, len, cap, rfl⟩ : ∃ ad len cap, v = .slice ad len cap := by
    rcases hown.2 with ⟨rfl, _⟩ | ⟨g, cap, cur, rfl, _⟩
    · exact ⟨_, _, _, rfl⟩
    · exact ⟨_, _, _, rfl⟩
  obtain rfl : len = rs.length := by
    rcases hown.2 with ⟨h1, h2⟩ | ⟨g, cap', cur, h1, _⟩
    · simp only [Value.slice.injEq] at h1
      omega
    · simp only [Value.slice.injEq] at h1
      exact h1.2.1
  have hcell : ∀ k (h : k < rs.length), ∃ g, ad = some ⟨g, 0, none⟩ ∧ w3.cell? ⟨g, k, none⟩ = some (.int .i32 rs[k]) := fun k h => by
    obtain ⟨g, cap', he, _⟩ := hown.form (by omega)
    simp only [Value.slice.injEq] at he
    obtain ⟨rfl, -, rfl⟩ := he
    refine ⟨g, rfl, ?_⟩
    have := World.ownsRow.cellAt hown k (by omega)
    rw [this, List.getElem?_map, List.getElem?_eq_getElem h]
    rfl
  have HCell := Lib.hid hcell
  clear hcell hown
  go_wp2_with fail
  go_loop [3, 15] (fun o i => ∃ (k : Nat) (t : ByteArray), k ≤ rs.length ∧ i = .int .i64 k ∧ o = .string t ∧ t.size ≤ 1 + 5 * k ∧ Hid (t.data.toList = 39 :: (rs.take k).flatMap escR)) (fun _ i => rs.length - (intOf i).toNat)
  case atStart => exact ⟨0, ⟨#[39]⟩, Nat.zero_le _, rfl, rfl, by decide, Lib.hid rfl⟩
  case round =>
    obtain ⟨k, t, hk, rfl, rfl, htz, HO⟩ := hrel
    by_cases hlt : k < rs.length
    · obtain ⟨g, rfl, hck⟩ := HCell.out k hlt
      have hfl := flat_snoc rs k hlt
      have hcr := HG.out rs[k] (List.getElem_mem hlt)
      generalize rs[k] = c at *
      obtain ⟨hc0, hc1⟩ := hcr
      have henc := encode_size c
      obtain ⟨hen1, hen2⟩ := henc
      have hel := escR_length c
      have HE : Hid (∀ u : ByteArray, u.data.toList = t.data.toList ++ escR c → u.data.toList = 39 :: (rs.take (k + 1)).flatMap escR ∧ u.size ≤ 1 + 5 * (k + 1)) := Lib.hid (fun u hu => by
        constructor
        · rw [hu, HO.out, hfl]; rfl
        · rw [← size_list, hu, List.length_append, size_list]; omega)
      clear hfl hel
      obtain ⟨n, hn⟩ := Int.eq_ofNat_of_zero_le hc0
      have hx := escR_cases n
      rw [← hn] at hx
      have HN := Lib.hid hn
      rcases hx with ⟨h1, hx⟩ | ⟨h1, hx⟩ | ⟨h1, hx⟩ | ⟨h1, hx⟩ | ⟨h1, h2, h3, h4, h5, hx⟩ | ⟨h1, h2, hx⟩
      · have HX := Lib.hid hx
        have e39 : (c == 39) = true := by simp; omega
        clear h1
        clear hx hn hc0 hc1
        go_wp2_with fail
        go_round
        case rel =>
          have hu := HE.out (t ++ (⟨#[92]⟩ ++ Utf8.encode c)) (by rw [HX.out]; rw [data_cat, data_cat]; rfl)
          exact ⟨k + 1, _, by omega, by go_num, rfl, hu.2, Lib.hid hu.1⟩
        case measure => simp [intOf]; omega
      · have HX := Lib.hid hx
        have e39 : (c == 39) = false := by simp; omega
        have e92 : (c == 92) = true := by simp; omega
        clear h1
        clear hx hn hc0 hc1
        go_wp2_with fail
        go_round
        case rel =>
          have hu := HE.out (t ++ (⟨#[92]⟩ ++ Utf8.encode c)) (by rw [HX.out]; rw [data_cat, data_cat]; rfl)
          exact ⟨k + 1, _, by omega, by go_num, rfl, hu.2, Lib.hid hu.1⟩
        case measure => simp [intOf]; omega
      · have HX := Lib.hid hx
        have e39 : (c == 39) = false := by simp; omega
        have e92 : (c == 92) = false := by simp; omega
        have e10 : (c == 10) = true := by simp; omega
        clear h1
        clear hx hn hc0 hc1
        go_wp2_with fail
        go_round
        case rel =>
          have hu := HE.out (t ++ ⟨#[92, 110]⟩) (by rw [HX.out]; rw [data_cat])
          exact ⟨k + 1, _, by omega, by go_num, rfl, hu.2, Lib.hid hu.1⟩
        case measure => simp [intOf]; omega
      · have HX := Lib.hid hx
        have e39 : (c == 39) = false := by simp; omega
        have e92 : (c == 92) = false := by simp; omega
        have e10 : (c == 10) = false := by simp; omega
        have e9 : (c == 9) = true := by simp; omega
        clear h1
        clear hx hn hc0 hc1
        go_wp2_with fail
        go_round
        case rel =>
          have hu := HE.out (t ++ ⟨#[92, 116]⟩) (by rw [HX.out]; rw [data_cat])
          exact ⟨k + 1, _, by omega, by go_num, rfl, hu.2, Lib.hid hu.1⟩
        case measure => simp [intOf]; omega
      · have HX := Lib.hid hx
        have e39 : (c == 39) = false := by simp; omega
        have e92 : (c == 92) = false := by simp; omega
        have e10 : (c == 10) = false := by simp; omega
        have e9 : (c == 9) = false := by simp; omega
        have hH := ref_hex n (by omega) w3
        rw [← hn] at hH
        have HH := Lib.hid hH
        clear hH
        have hhl := hexL_length n
        generalize hexL n = hx2 at *
        have g32 : c < 32 := by omega
        clear h1 h2 h3 h4 h5
        clear hx hn hc0 hc1
        go_wp2_with fail
        refine HH.out.mono ?_; rintro e w' ⟨rfl, rfl⟩
        go_wp2_with fail
        go_round
        case rel =>
          have hu := HE.out (t ++ (⟨#[92, 120]⟩ ++ ⟨hx2.toArray⟩ ++ ⟨#[92]⟩)) (by rw [HX.out]; rw [data_cat, data_cat, data_cat]; rfl)
          exact ⟨k + 1, _, by omega, by go_num, rfl, hu.2, Lib.hid hu.1⟩
        case measure => simp [intOf]; omega
      · have HX := Lib.hid hx
        have e39 : (c == 39) = false := by simp; omega
        have e92 : (c == 92) = false := by simp; omega
        have e10 : (c == 10) = false := by simp; omega
        have e9 : (c == 9) = false := by simp; omega
        have g32 : 32 ≤ c := by omega
        clear h1 h2
        clear hx hn hc0 hc1
        go_wp2_with fail
        go_round
        case rel =>
          have hu := HE.out (t ++ Utf8.encode c) (by rw [HX.out]; rw [data_cat]; rfl)
          exact ⟨k + 1, _, by omega, by go_num, rfl, hu.2, Lib.hid hu.1⟩
        case measure => simp [intOf]; omega
    · have hfin : (t ++ ⟨#[39]⟩ : ByteArray) = ⟨(39 :: (rs.flatMap escR ++ [39])).toArray⟩ := by
        have h := HO.out
        rw [List.take_of_length_le (by omega)] at h
        refine of_list _ _ ?_
        rw [data_cat, h]
        rfl
      have HF := Lib.hid hfin
      clear hfin HO
      go_wp2_with fail
      go_ret
      exact ⟨by rw [← HF.out]; rfl, hbb⟩

set_option maxHeartbeats 1000000 in
theorem ref_Write_plain (s : ByteArray) (w : World) (hs : s.size ≤ maxLen) (hT : Tabs w) (h : checkL s.data.toList = false ∨ bareL s.data.toList = true) :
    Calls Tryd.prog 37 #[.string s] w fun e w' => e = .returned (.string ⟨(writeL s.data.toList).toArray⟩) ∧ Below w.heap.size w w' := by
  have HC := Lib.hid (fun w hT => ref_Check s w hs hT)
  have HB := Lib.hid (fun w hT => ref_Bare s w hs hT)
  have HT := Lib.hid hT
  clear hT hs
  unfold writeL
  by_cases hc : checkL s.data.toList = true
  · have hb := h.resolve_left (by rw [hc]; decide)
    rw [if_pos hc, if_pos hb]
    have HC := HC.out
    have HB := HB.out
    rw [hc] at HC
    rw [hb] at HB
    have HC := Lib.hid HC
    have HB := Lib.hid HB
    clear hc hb h
    go_enter Tryd.func37, Tryd.ntmps37
    go_wp2_with fail
    refine (HC.out _ HT.out).mono ?_; rintro e w1 ⟨rfl, hb1⟩
    go_wp2_with fail
    refine (HB.out _ (HT.out.on hb1)).mono ?_; rintro e w2 ⟨rfl, hb2⟩
    go_wp2_with fail
    go_ret
    exact ⟨rfl, hb1.trans (hb2.mono hb1.size)⟩
  · have hc' : checkL s.data.toList = false := by simpa using hc
    rw [if_neg hc]
    have HC := HC.out
    rw [hc'] at HC
    have HC := Lib.hid HC
    clear hc hc' h HB
    go_enter Tryd.func37, Tryd.ntmps37
    go_wp2_with fail
    refine (HC.out _ HT.out).mono ?_; rintro e w1 ⟨rfl, hb1⟩
    go_wp2_with fail
    go_ret
    exact ⟨rfl, hb1⟩

theorem ref_Write (s : ByteArray) (w : World) (hs : s.size ≤ maxLen) (hT : Tabs w) :
    Calls Tryd.prog 37 #[.string s] w fun e w' => e = .returned (.string ⟨(writeL s.data.toList).toArray⟩) ∧ Below w.heap.size w w' := by
  by_cases hc : checkL s.data.toList = true
  · by_cases hb : bareL s.data.toList = true
    · exact ref_Write_plain s w hs hT (.inr hb)
    · have h := ref_Write_quoted s w hs hT hc (by simpa using hb)
      unfold writeL
      rw [if_pos hc, if_neg hb]
      exact h
  · exact ref_Write_plain s w hs hT (.inl (by simpa using hc))
end Go.Proofs.YtdjejbgokamjeaaDoor
