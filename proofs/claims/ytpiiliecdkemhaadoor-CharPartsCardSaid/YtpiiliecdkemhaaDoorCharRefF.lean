/-
  The contract of the document's own Bare for char, at every string.
-/
import Derived.Test.YtpiiliecdkemhaaDoorCharRefE
namespace Go.Proofs.YtpiiliecdkemhaaDoor
open Go.RowKit

theorem runesL_ne {l : List UInt8} (h : l ≠ []) : runesL l ≠ [] := by rw [runesL_cons l h]; simp
theorem take2 (s : ByteArray) : (s.extract 0 2).toList = s.data.toList.take 2 := by
  rw [ByteArray.toList_eq, ByteArray.data_extract, Array.toList_extract]
  simp

set_option maxHeartbeats 2000000 in
theorem ref_Bare_first (s : ByteArray) (w : World) (ck b0 b1 b2 b3 b4 b5 b6 r : Bool) (hT : Tabs w)
    (cC : ∀ w, Tabs w → Calls Tryd.prog 15 #[.string s] w fun e w' => e = .returned (.bool ck) ∧ Below w.heap.size w w')
    (f0 : s.toList.isEmpty = b0) (f1 : (s.toList == [46]) = b1) (f2 : ((s.extract 0 2).toList == [47, 42]) = b2) (f3 : (s.toList == [91, 93]) = b3) (f4 : (s.toList == [123, 125]) = b4) (f5 : (s.toList == [33]) = b5) (f6 : (s.toList == [59]) = b6)
    (h : (ck = false ∧ r = false) ∨ (ck = true ∧ b0 = true ∧ r = false) ∨ (ck = true ∧ b0 = false ∧ b1 = true ∧ r = false) ∨ (ck = true ∧ b0 = false ∧ b1 = false ∧ 1 < s.size ∧ b2 = true ∧ r = false) ∨
      (ck = true ∧ b0 = false ∧ b1 = false ∧ 1 < s.size ∧ b2 = false ∧ b3 = true ∧ r = true) ∨ (ck = true ∧ b0 = false ∧ b1 = false ∧ 1 < s.size ∧ b2 = false ∧ b3 = false ∧ b4 = true ∧ r = true) ∨
      (ck = true ∧ b0 = false ∧ b1 = false ∧ s.size ≤ 1 ∧ b3 = false ∧ b4 = false ∧ b5 = true ∧ r = true) ∨ (ck = true ∧ b0 = false ∧ b1 = false ∧ s.size ≤ 1 ∧ b3 = false ∧ b4 = false ∧ b5 = false ∧ b6 = true ∧ r = true)) :
    Calls Tryd.prog 17 #[.string s] w fun e w' => e = .returned (.bool r) ∧ Below w.heap.size w w' := by
  have HT := Lib.hid hT
  have HC := Lib.hid cC
  clear hT cC
  rcases h with ⟨rfl, rfl⟩ | ⟨rfl, rfl, rfl⟩ | ⟨rfl, rfl, rfl, rfl⟩ | ⟨rfl, rfl, rfl, hz, rfl, rfl⟩ | ⟨rfl, rfl, rfl, hz, rfl, rfl, rfl⟩ | ⟨rfl, rfl, rfl, hz, rfl, rfl, rfl, rfl⟩ | ⟨rfl, rfl, rfl, hz, rfl, rfl, rfl, rfl⟩ | ⟨rfl, rfl, rfl, hz, rfl, rfl, rfl, rfl, rfl⟩
  all_goals
    go_enter Tryd.func17, Tryd.ntmps17
    go_wp2_with fail
    refine (HC.out _ HT.out).mono ?_; rintro e w1 ⟨rfl, hb1⟩
    go_wp2_with fail
    go_ret
    exact ⟨rfl, hb1⟩

theorem ref_Bare (s : ByteArray) (w : World) (hs : s.size ≤ maxLen) (hT : Tabs w) :
    Calls Tryd.prog 17 #[.string s] w fun e w' => e = .returned (.bool (bareL s.data.toList)) ∧ Below w.heap.size w w' := by
  have cC : ∀ w, Tabs w → Calls Tryd.prog 15 #[.string s] w fun e w' => e = .returned (.bool (checkL s.data.toList)) ∧ Below w.heap.size w w' := fun w h => ref_Check s w hs h
  have hl : s.data.toList.length = s.size := by simp
  have ht := ByteArray.toList_eq s
  have ht2 := take2 s
  have first := fun r h => ref_Bare_first s w (checkL s.data.toList) _ _ _ _ _ _ _ r hT cC rfl rfl rfl rfl rfl rfl rfl h
  have core := fun (hsz : s.size ≤ 255) (hne : runesL s.data.toList ≠ []) (hck : checkL s.data.toList = true) => ref_Bare_core s w hsz hT (runesL s.data.toList) rfl hne (fun w h => by have h2 := cC w h; rw [hck] at h2; exact h2)
  rw [ht, ht2] at first core
  generalize s.data.toList = l at *
  by_cases hck : checkL l = true
  · by_cases h0 : l = []
    · rw [bare_no (.inr (.inl h0))]
      exact first false (.inr (.inl ⟨hck, by rw [h0]; rfl, rfl⟩))
    have g0 : l.isEmpty = false := by rw [List.isEmpty_eq_false_iff]; exact h0
    by_cases h1 : l = [46]
    · rw [bare_no (.inr (.inr (.inl h1)))]
      exact first false (.inr (.inr (.inl ⟨hck, g0, by rw [h1]; rfl, rfl⟩)))
    have g1 : (l == [46]) = false := by simpa using h1
    by_cases h2 : l.take 2 = [47, 42]
    · rw [bare_no (.inr (.inr (.inr h2)))]
      have hz : 1 < s.size := by
        have := congrArg List.length h2
        simp at this
        omega
      exact first false (.inr (.inr (.inr (.inl ⟨hck, g0, g1, hz, by rw [h2]; rfl, rfl⟩))))
    have g2 : (l.take 2 == [47, 42]) = false := by simpa using h2
    by_cases h3 : l = [91, 93]
    · rw [bare_yes hck (.inl h3)]
      have hz : 1 < s.size := by rw [← hl, h3]; decide
      exact first true (.inr (.inr (.inr (.inr (.inl ⟨hck, g0, g1, hz, g2, by rw [h3]; rfl, rfl⟩)))))
    have g3 : (l == [91, 93]) = false := by simpa using h3
    by_cases h4 : l = [123, 125]
    · rw [bare_yes hck (.inr (.inl h4))]
      have hz : 1 < s.size := by rw [← hl, h4]; decide
      exact first true (.inr (.inr (.inr (.inr (.inr (.inl ⟨hck, g0, g1, hz, g2, g3, by rw [h4]; rfl, rfl⟩))))))
    have g4 : (l == [123, 125]) = false := by simpa using h4
    by_cases h5 : l = [33]
    · rw [bare_yes hck (.inr (.inr (.inl h5)))]
      have hz : s.size ≤ 1 := by rw [← hl, h5]; decide
      exact first true (.inr (.inr (.inr (.inr (.inr (.inr (.inl ⟨hck, g0, g1, hz, g3, g4, by rw [h5]; rfl, rfl⟩)))))))
    have g5 : (l == [33]) = false := by simpa using h5
    by_cases h6 : l = [59]
    · rw [bare_yes hck (.inr (.inr (.inr h6)))]
      have hz : s.size ≤ 1 := by rw [← hl, h6]; decide
      exact first true (.inr (.inr (.inr (.inr (.inr (.inr (.inr ⟨hck, g0, g1, hz, g3, g4, g5, by rw [h6]; rfl, rfl⟩)))))))
    have g6 : (l == [59]) = false := by simpa using h6
    rw [bare_rest hck h0 h1 h2 h3 h4 h5 h6]
    have hsz : s.size ≤ 255 := by
      unfold checkL at hck
      rw [Bool.and_eq_true, decide_eq_true_eq] at hck
      omega
    exact core hsz (runesL_ne h0) hck g0 g1 (.inr g2) g3 g4 g5 g6
  · have hck' : checkL l = false := by simpa using hck
    rw [bare_no (.inl hck')]
    exact first false (.inl ⟨hck', rfl⟩)
end Go.Proofs.YtpiiliecdkemhaaDoor
