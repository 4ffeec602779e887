/-
  The laws CharQuotes and CharAgain of package char, walked: each answers true; nothing that was there has changed.
-/
import Derived.Test.YtpiiliecdkemhaaDoorCharLawsB
namespace Go.Proofs.YtpiiliecdkemhaaDoor
open Go.RowKit

/-! ### The bytes between quotes -/
theorem ge_ofNat {n : Nat} (h : 32 ≤ n % 256) : 32 ≤ (UInt8.ofNat n).toNat := by
  rw [UInt8.toNat_ofNat']
  exact h
theorem encode_ge (r : Int) (h0 : 32 ≤ r) (h1 : r ≤ 1114111) : ∀ b ∈ encL r, 32 ≤ b.toNat := by
  unfold encL Utf8.encode
  dsimp only
  have hc : 32 ≤ (if Utf8.valid r = true then r.toNat else Utf8.runeError) ∧ (if Utf8.valid r = true then r.toNat else Utf8.runeError) ≤ 1114111 := by
    split
    · omega
    · exact ⟨by decide, by decide⟩
  generalize (if Utf8.valid r = true then r.toNat else Utf8.runeError) = c at hc
  obtain ⟨hc1, hc2⟩ := hc
  intro b hb
  split at hb
  · simp only [List.mem_singleton] at hb
    subst hb
    exact ge_ofNat (by omega)
  · split at hb
    · simp only [List.mem_cons, List.not_mem_nil, or_false] at hb
      rcases hb with rfl | rfl
      all_goals exact ge_ofNat (by omega)
    · split at hb
      · simp only [List.mem_cons, List.not_mem_nil, or_false] at hb
        rcases hb with rfl | rfl | rfl
        all_goals exact ge_ofNat (by omega)
      · simp only [List.mem_cons, List.not_mem_nil, or_false] at hb
        rcases hb with rfl | rfl | rfl | rfl
        all_goals exact ge_ofNat (by omega)
theorem hexD_ge : ∀ k : Fin 16, 32 ≤ (hexD k.val).toNat := by decide
theorem hexL_ge (n : Nat) (hn : n < 256) : ∀ b ∈ hexL n, 32 ≤ b.toNat := by
  intro b hb
  unfold hexL at hb
  split at hb
  · simp only [List.mem_singleton] at hb
    subst hb
    exact hexD_ge ⟨n, by omega⟩
  · simp only [List.mem_cons, List.not_mem_nil, or_false] at hb
    rcases hb with rfl | rfl
    · exact hexD_ge ⟨n / 16, by omega⟩
    · exact hexD_ge ⟨n % 16, by omega⟩
theorem escR_ge (n : Nat) (hn : n ≤ 1114111) : ∀ b ∈ escR (n : Int), 32 ≤ b.toNat := by
  intro b hb
  rcases escR_cases n with ⟨h, e⟩ | ⟨h, e⟩ | ⟨h, e⟩ | ⟨h, e⟩ | ⟨_, _, _, _, h, e⟩ | ⟨h, _, e⟩
  · rw [e, List.mem_cons] at hb
    rcases hb with rfl | hb
    · decide
    · exact encode_ge _ (by omega) (by omega) b hb
  · rw [e, List.mem_cons] at hb
    rcases hb with rfl | hb
    · decide
    · exact encode_ge _ (by omega) (by omega) b hb
  · rw [e] at hb
    simp only [List.mem_cons, List.not_mem_nil, or_false] at hb
    rcases hb with rfl | rfl <;> decide
  · rw [e] at hb
    simp only [List.mem_cons, List.not_mem_nil, or_false] at hb
    rcases hb with rfl | rfl <;> decide
  · rw [e] at hb
    simp only [List.mem_cons, List.mem_append, List.not_mem_nil, or_false] at hb
    rcases hb with rfl | rfl | hb | rfl
    · decide
    · decide
    · exact hexL_ge n (by omega) b hb
    · decide
  · rw [e] at hb
    exact encode_ge _ (by omega) (by omega) b hb
theorem quote_ge (l : List UInt8) : ∀ b ∈ quoteL l, 32 ≤ b.toNat := by
  intro b hb
  unfold quoteL at hb
  simp only [List.mem_cons, List.mem_append, List.mem_flatMap, List.not_mem_nil, or_false] at hb
  rcases hb with rfl | ⟨c, hc, hb⟩ | rfl
  · decide
  · obtain ⟨h0, h1⟩ := runesL_range l c hc
    obtain ⟨n, rfl⟩ := Int.eq_ofNat_of_zero_le h0
    exact escR_ge n (by omega) b hb
  · decide

/-- A text between quotes, as a law looks at it. -/
structure Quoted (q : ByteArray) : Prop where
  two : 2 ≤ q.size
  long : q.size ≤ 2000
  ge : ∀ i (h : i < q.size), 32 ≤ (q[i]'h).toNat
  head : ∀ h : 0 < q.size, (q[0]'h).toNat = 39
  last : ∀ h : q.size - 1 < q.size, (q[q.size - 1]'h).toNat = 39
theorem quoted_of (l : List UInt8) (hl : l.length ≤ 255) : Quoted ⟨(quoteL l).toArray⟩ := by
  have hql := quote_length l
  have hz : (⟨(quoteL l).toArray⟩ : ByteArray).size = (quoteL l).length := by show (quoteL l).toArray.size = _; rw [List.size_toArray]
  refine ⟨by omega, by omega, fun i h => ?_, fun h => rfl, fun h => ?_⟩
  · exact quote_ge l _ (by
      have : (⟨(quoteL l).toArray⟩ : ByteArray)[i]'h = (quoteL l)[i]'(by omega) := rfl
      rw [this]
      exact List.getElem_mem _)
  · have e : (⟨(quoteL l).toArray⟩ : ByteArray)[(⟨(quoteL l).toArray⟩ : ByteArray).size - 1]'h = (quoteL l).getLast (by intro e; rw [e] at hql; simp at hql) := by
      rw [List.getLast_eq_getElem]
      show (quoteL l)[(quoteL l).toArray.size - 1] = _
      simp only [List.size_toArray]
    rw [e]
    have e2 : (quoteL l).getLast (by intro e; rw [e] at hql; simp at hql) = 39 := by
      unfold quoteL
      rw [List.getLast_cons (by simp)]
      simp
    rw [e2]
    rfl

set_option maxHeartbeats 2000000 in
theorem quotes_plain (s q : ByteArray) (w : World) (ck br : Bool) (hT : Tabs w)
    (cW : ∀ w, Tabs w → Calls Tryd.prog 18 #[.string s] w fun e w' => e = .returned (.string q) ∧ Below w.heap.size w w')
    (cC : ∀ w, Tabs w → Calls Tryd.prog 14 #[.string s] w fun e w' => e = .returned (.bool ck) ∧ Below w.heap.size w w')
    (cB : ∀ w, Tabs w → Calls Tryd.prog 16 #[.string s] w fun e w' => e = .returned (.bool br) ∧ Below w.heap.size w w')
    (h : (ck = false ∧ q = ⟨#[]⟩) ∨ (ck = true ∧ br = true ∧ q = s)) :
    Calls Tryd.prog 9 #[.string s] w fun e w' => e = .returned (.bool true) ∧ Below w.heap.size w w' := by
  have HT := Lib.hid hT
  have HW := Lib.hid cW
  have HC := Lib.hid cC
  have HB := Lib.hid cB
  clear hT cC cB cW
  rcases h with ⟨rfl, rfl⟩ | ⟨rfl, rfl, rfl⟩
  · go_enter Tryd.func9, Tryd.ntmps9
    go_wp2_with fail
    refine (law_live _ HT.out).mono ?_; rintro e w1 ⟨rfl, hb1⟩
    go_wp2_with fail
    refine (HW.out _ (HT.out.on hb1)).mono ?_; rintro e w2 ⟨rfl, h⟩; have hb2 := bstep hb1 h; clear h hb1
    go_wp2_with fail
    refine (HC.out _ (HT.out.on hb2)).mono ?_; rintro e w3 ⟨rfl, h⟩; have hb3 := bstep hb2 h; clear h hb2
    go_wp2_with fail
    go_ret
    exact ⟨rfl, hb3⟩
  · go_enter Tryd.func9, Tryd.ntmps9
    go_wp2_with fail
    refine (law_live _ HT.out).mono ?_; rintro e w1 ⟨rfl, hb1⟩
    go_wp2_with fail
    refine (HW.out _ (HT.out.on hb1)).mono ?_; rintro e w2 ⟨rfl, h⟩; have hb2 := bstep hb1 h; clear h hb1
    go_wp2_with fail
    refine (HC.out _ (HT.out.on hb2)).mono ?_; rintro e w3 ⟨rfl, h⟩; have hb3 := bstep hb2 h; clear h hb2
    go_wp2_with fail
    refine (HB.out _ (HT.out.on hb3)).mono ?_; rintro e w4 ⟨rfl, h⟩; have hb4 := bstep hb3 h; clear h hb3
    go_wp2_with fail
    go_ret
    exact ⟨rfl, hb4⟩

set_option maxHeartbeats 2000000 in
theorem quotes_quoted (s q : ByteArray) (w : World) (hT : Tabs w) (hq : Quoted q)
    (cW : ∀ w, Tabs w → Calls Tryd.prog 18 #[.string s] w fun e w' => e = .returned (.string q) ∧ Below w.heap.size w w')
    (cC : ∀ w, Tabs w → Calls Tryd.prog 14 #[.string s] w fun e w' => e = .returned (.bool true) ∧ Below w.heap.size w w')
    (cB : ∀ w, Tabs w → Calls Tryd.prog 16 #[.string s] w fun e w' => e = .returned (.bool false) ∧ Below w.heap.size w w') :
    Calls Tryd.prog 9 #[.string s] w fun e w' => e = .returned (.bool true) ∧ Below w.heap.size w w' := by
  have HT := Lib.hid hT
  have HW := Lib.hid cW
  have HC := Lib.hid cC
  have HB := Lib.hid cB
  have HQ := Lib.hid hq
  have h2 := hq.two
  have h3 := hq.long
  clear hT cC cB cW hq
  go_enter Tryd.func9, Tryd.ntmps9
  go_wp2_with fail
  refine (law_live _ HT.out).mono ?_; rintro e w1 ⟨rfl, hb1⟩
  go_wp2_with fail
  refine (HW.out _ (HT.out.on hb1)).mono ?_; rintro e w2 ⟨rfl, h⟩; have hb2 := bstep hb1 h; clear h hb1
  go_wp2_with fail
  refine (HC.out _ (HT.out.on hb2)).mono ?_; rintro e w3 ⟨rfl, h⟩; have hb3 := bstep hb2 h; clear h hb2
  go_wp2_with fail
  refine (HB.out _ (HT.out.on hb3)).mono ?_; rintro e w4 ⟨rfl, h⟩; have hb4 := bstep hb3 h; clear h hb3
  go_wp2_with fail
  go_loop [5] (fun i => ∃ k : Nat, k ≤ q.size ∧ i = .int .i64 k) (fun i => q.size - (intOf i).toNat)
  case atStart => exact ⟨0, Nat.zero_le _, rfl⟩
  case round =>
    obtain ⟨k, hk, rfl⟩ := hrel
    by_cases hlt : k < q.size
    · have hge := HQ.out.ge k hlt
      have hge2 : (32 : Int) ≤ ((q[k]'hlt).toNat : Int) := by omega
      clear hge
      go_wp2_with fail
      go_round
      case rel => exact ⟨k + 1, by omega, by go_num⟩
      case measure => simp [intOf]; omega
    · have hp0 : 0 < q.size := by omega
      have hp1 : q.size - 1 < q.size := by omega
      have e1 : (((q[0]'hp0).toNat : Int) == 39) = true := by have := HQ.out.head hp0; simp; omega
      have e2 : (((q[q.size - 1]'hp1).toNat : Int) == 39) = true := by have := HQ.out.last hp1; simp; omega
      go_wp2_with fail
      go_ret
      exact ⟨rfl, hb4⟩

theorem walk_CharQuotes (s : ByteArray) (w : World) (hs : s.size ≤ maxLen) (hT : Tabs w) :
    Calls Tryd.prog 9 #[.string s] w fun e w' => e = .returned (.bool true) ∧ Below w.heap.size w w' := by
  have cC := fun w h => char_Check s w hs h
  have cB := fun w h => char_Bare s w hs h
  have cW := fun w h => char_Write s w hs h
  unfold writeL at cW
  by_cases hc : checkL s.data.toList = true
  · rw [hc] at cC
    by_cases hbr : bareL s.data.toList = true
    · rw [hbr] at cB
      rw [if_pos hc, if_pos hbr] at cW
      exact quotes_plain s _ w true true hT cW cC cB (.inr ⟨rfl, rfl, rfl⟩)
    · have hbr' : bareL s.data.toList = false := by simpa using hbr
      rw [hbr'] at cB
      rw [if_pos hc, if_neg hbr] at cW
      exact quotes_quoted s _ w hT (quoted_of _ (check_parts hc).1) cW cC cB
  · have hc' : checkL s.data.toList = false := by simpa using hc
    rw [hc'] at cC
    rw [if_neg hc] at cW
    exact quotes_plain s _ w false _ hT cW cC cB (.inl ⟨rfl, rfl⟩)
end Go.Proofs.YtpiiliecdkemhaaDoor
