/-
  The contracts of package char's own Check and Bare.
-/
import Derived.Test.YtpiiliecdkemhaaDoorCharDevB
import Derived.Lib.TrimAscii
namespace Go.Proofs.YtpiiliecdkemhaaDoor
open Go.RowKit

set_option maxHeartbeats 1000000 in
theorem char_Check (s : ByteArray) (w : World) (hs : s.size ≤ maxLen) (hT : Tabs w) :
    Calls Tryd.prog 14 #[.string s] w fun e w' => e = .returned (.bool (checkL s.data.toList)) ∧ Below w.heap.size w w' := by
  have hs1 : s.size ≤ 9223372036854775807 := by unfold maxLen at hs; omega
  clear hs
  have hl : s.data.toList.length = s.size := by simp
  have cV := Lib.hid (utf8_Valid s w hs1 hT)
  unfold checkL
  rw [hl]
  clear hl hT
  by_cases h : s.size ≤ 255
  · rw [decide_eq_true h, Bool.true_and]
    go_enter Tryd.func14, Tryd.ntmps14
    go_wp2_with fail
    refine cV.out.mono ?_; rintro e w1 ⟨rfl, hb⟩
    go_wp2_with fail
    go_ret
    exact ⟨rfl, hb⟩
  · rw [decide_eq_false h, Bool.false_and]
    have h' : 255 < s.size := by omega
    clear h
    go_enter Tryd.func14, Tryd.ntmps14
    go_wp2_with fail
    go_ret
    exact ⟨rfl, Below.refl _ _⟩

theorem head_rune (b : UInt8) (t : List UInt8) (hb : b.toNat < 128) : (runesL (b :: t)).headD 0 = (b.toNat : Int) := by
  rw [runesL_cons _ (by simp), List.headD_cons]
  rw [Lib.decodeL_ascii b t hb]
theorem nameAll_no (b : UInt8) (t : List UInt8) (hb : b.toNat < 128) (hc : cls (b.toNat : Int) ≠ 1) : nameAll (runesL (b :: t)) = false := by
  unfold nameAll
  rw [head_rune b t hb, decide_eq_false hc, Bool.false_and]
theorem bare_dev {l : List UInt8} (hc : checkL l = true) (h3 : l ≠ [91, 93]) (h4 : l ≠ [123, 125]) (h5 : l ≠ [33]) (h6 : l ≠ [59]) :
    bareL l = (nameAll (runesL l) || ((runesL l).all signR && !l.isEmpty && !(l == [46]) && !(l.take 2 == [47, 42]))) := by
  by_cases h0 : l = []
  · rw [bare_no (.inr (.inl h0)), h0, runesL_nil, nameAll_nil]; rfl
  by_cases h1 : l = [46]
  · rw [bare_no (.inr (.inr (.inl h1))), h1, nameAll_no 46 [] (by decide) (by decide)]; simp
  by_cases h2 : l.take 2 = [47, 42]
  · rw [bare_no (.inr (.inr (.inr h2))), h2]
    have hn : nameAll (runesL l) = false := by
      match l, h2 with
      | a :: t, h2 =>
        have ha : a = 47 := by cases t <;> simp at h2; exact h2.1
        subst ha
        exact nameAll_no 47 t (by decide) (by decide)
    rw [hn]; simp
  rw [bare_rest hc h0 h1 h2 h3 h4 h5 h6]
  have g0 : l.isEmpty = false := by rw [List.isEmpty_eq_false_iff]; exact h0
  have g1 : (l == [46]) = false := by simpa using h1
  have g2 : (l.take 2 == [47, 42]) = false := by simpa using h2
  rw [g0, g1, g2]; simp

set_option maxHeartbeats 2000000 in
theorem dev_Bare_core (s : ByteArray) (w : World) (ck b3 b4 b5 b6 nm sy r : Bool) (hT : Tabs w)
    (cC : ∀ w, Tabs w → Calls Tryd.prog 14 #[.string s] w fun e w' => e = .returned (.bool ck) ∧ Below w.heap.size w w')
    (cN : ∀ w, Calls Tryd.prog 24 #[.string s] w fun e w' => e = .returned (.bool nm) ∧ Below w.heap.size w w')
    (cS : ∀ w, Calls Tryd.prog 25 #[.string s] w fun e w' => e = .returned (.bool sy) ∧ Below w.heap.size w w')
    (f3 : (s.toList == [91, 93]) = b3) (f4 : (s.toList == [123, 125]) = b4) (f5 : (s.toList == [33]) = b5) (f6 : (s.toList == [59]) = b6)
    (h : (ck = false ∧ r = false) ∨ (ck = true ∧ b3 = true ∧ r = true) ∨ (ck = true ∧ b3 = false ∧ b4 = true ∧ r = true) ∨ (ck = true ∧ b3 = false ∧ b4 = false ∧ b5 = true ∧ r = true) ∨ (ck = true ∧ b3 = false ∧ b4 = false ∧ b5 = false ∧ b6 = true ∧ r = true) ∨
      (ck = true ∧ b3 = false ∧ b4 = false ∧ b5 = false ∧ b6 = false ∧ r = (nm || sy))) :
    Calls Tryd.prog 16 #[.string s] w fun e w' => e = .returned (.bool r) ∧ Below w.heap.size w w' := by
  have HT := Lib.hid hT
  have HC := Lib.hid cC
  have HN := Lib.hid cN
  have HS := Lib.hid cS
  clear hT cC cN cS
  rcases h with ⟨rfl, rfl⟩ | ⟨rfl, rfl, rfl⟩ | ⟨rfl, rfl, rfl, rfl⟩ | ⟨rfl, rfl, rfl, rfl, rfl⟩ | ⟨rfl, rfl, rfl, rfl, rfl, rfl⟩ | ⟨rfl, rfl, rfl, rfl, rfl, rfl⟩
  iterate 5
    · go_enter Tryd.func16, Tryd.ntmps16
      go_wp2_with fail
      refine (HC.out _ HT.out).mono ?_; rintro e w1 ⟨rfl, hb1⟩
      go_wp2_with fail
      go_ret
      exact ⟨rfl, hb1⟩
  cases nm
  · go_enter Tryd.func16, Tryd.ntmps16
    go_wp2_with fail
    refine (HC.out _ HT.out).mono ?_; rintro e w1 ⟨rfl, hb1⟩
    go_wp2_with fail
    refine (HN.out _).mono ?_; rintro e w2 ⟨rfl, hb2⟩
    have hb := hb1.trans (hb2.mono hb1.size)
    clear hb1 hb2
    go_wp2_with fail
    refine (HS.out _).mono ?_; rintro e w3 ⟨rfl, hb3⟩
    have hbb := hb.trans (hb3.mono hb.size)
    clear hb hb3
    go_wp2_with fail
    go_ret
    exact ⟨rfl, hbb⟩
  · go_enter Tryd.func16, Tryd.ntmps16
    go_wp2_with fail
    refine (HC.out _ HT.out).mono ?_; rintro e w1 ⟨rfl, hb1⟩
    go_wp2_with fail
    refine (HN.out _).mono ?_; rintro e w2 ⟨rfl, hb2⟩
    have hb := hb1.trans (hb2.mono hb1.size)
    clear hb1 hb2
    go_wp2_with fail
    go_ret
    exact ⟨rfl, hb⟩

theorem char_Bare (s : ByteArray) (w : World) (hs : s.size ≤ maxLen) (hT : Tabs w) :
    Calls Tryd.prog 16 #[.string s] w fun e w' => e = .returned (.bool (bareL s.data.toList)) ∧ Below w.heap.size w w' := by
  have hl : s.data.toList.length = s.size := by simp
  have ht := ByteArray.toList_eq s
  have ht2 := take2 s
  have h02 : s.size < 2 → ((s.extract 0 2).toList == [47, 42]) = false := fun h => by
    rw [ht2, beq_eq_false_iff_ne]
    intro h2
    have := congrArg List.length h2
    simp at this
    omega
  have core := fun r h => dev_Bare_core s w (checkL s.data.toList) _ _ _ _ _ _ r hT (fun w h => char_Check s w hs h) (fun w => dev_isName s w) (fun w => dev_isSymbol s w _ _ _ _ rfl rfl rfl rfl h02) rfl rfl rfl rfl h
  rw [ht, ht2] at core
  clear h02
  generalize s.data.toList = l at *
  by_cases hck : checkL l = true
  · by_cases h3 : l = [91, 93]
    · rw [bare_yes hck (.inl h3)]
      exact core true (.inr (.inl ⟨hck, by rw [h3]; rfl, rfl⟩))
    have g3 : (l == [91, 93]) = false := by simpa using h3
    by_cases h4 : l = [123, 125]
    · rw [bare_yes hck (.inr (.inl h4))]
      exact core true (.inr (.inr (.inl ⟨hck, g3, by rw [h4]; rfl, rfl⟩)))
    have g4 : (l == [123, 125]) = false := by simpa using h4
    by_cases h5 : l = [33]
    · rw [bare_yes hck (.inr (.inr (.inl h5)))]
      exact core true (.inr (.inr (.inr (.inl ⟨hck, g3, g4, by rw [h5]; rfl, rfl⟩))))
    have g5 : (l == [33]) = false := by simpa using h5
    by_cases h6 : l = [59]
    · rw [bare_yes hck (.inr (.inr (.inr h6)))]
      exact core true (.inr (.inr (.inr (.inr (.inl ⟨hck, g3, g4, g5, by rw [h6]; rfl, rfl⟩)))))
    have g6 : (l == [59]) = false := by simpa using h6
    exact core _ (.inr (.inr (.inr (.inr (.inr ⟨hck, g3, g4, g5, g6, bare_dev hck h3 h4 h5 h6⟩)))))
  · have hck' : checkL l = false := by simpa using hck
    rw [bare_no (.inl hck')]
    exact core false (.inl ⟨hck', rfl⟩)
end Go.Proofs.YtpiiliecdkemhaaDoor
