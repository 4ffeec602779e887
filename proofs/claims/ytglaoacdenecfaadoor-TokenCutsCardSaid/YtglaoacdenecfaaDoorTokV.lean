/-
  The contract of the document's own number for token.
-/
import Derived.Test.YtglaoacdenecfaaDoorTokVB
import Derived.Test.YtglaoacdenecfaaDoorTokVC
import Derived.Test.YtglaoacdenecfaaDoorTokVD
import Derived.Test.YtglaoacdenecfaaDoorTokVE
namespace Go.Proofs.YtglaoacdenecfaaDoor
open Go.RowKit

set_option maxHeartbeats 2000000 in
theorem ref_number (s : ByteArray) (p : Nat) (w : World) (hs : s.size ≤ 200000) (hp : p < s.size) (hd : digR (s[p].toNat : Int) = true) (hT : TabsT w) :
    Calls Tryd.prog 38 #[.string s, .int .i64 (p : Nat)] w fun e w' => NumAns (s.data.toList.drop p) p e ∧ Below w.heap.size w w' := by
  by_cases h48 : s[p] = 48
  case neg => exact num_not48 s p w hs hp hd h48
  by_cases h1 : p + 1 < s.size
  case neg => exact num_short s p w hs hp hd h48 (by omega)
  by_cases h39 : s[p + 1] = 39
  case neg => exact num_not39 s p w hs hp hd h48 h1 h39
  have hex : (s.extract (p + 2) s.size).data.toList = s.data.toList.drop (p + 2) := by rw [ext_drop]
  have hrw := rest_ways (s.extract (p + 2) s.size)
  rw [hex] at hrw
  rcases runeB_cases (s.data.toList.drop (p + 2)) with ⟨h2, h3⟩ | ⟨hn2, c, n, hcm, hn, hd2, h3⟩
  · rcases hrw with ⟨_, hu, e0, e1⟩ | ⟨hn2, _⟩
    · exact num_quote s p w hs hp hd h48 h1 h39 h2 hu e0 e1
    · exact absurd h2 hn2
  · have hn3 : n ≤ 200000 := by rw [List.length_drop, size_listT] at hn; omega
    have HDEC : Hid (∀ W, TabsT W → Calls Tryd.prog 41 #[.string (s.extract (p + 2) s.size)] W fun e w' => e = .returned (.tuple #[.int .i32 (c : Nat), .int .i64 (n : Nat)]) ∧ Below W.heap.size W w') := Lib.hid (fun W hW => by
      have := Tryd.utf8_DecodeRuneInString (s.extract (p + 2) s.size) W hW.1.1
      rw [ext_drop, hd2] at this
      rw [ext_drop]
      exact this)
    have hci : (0 : Int) ≤ (c : Int) ∧ (c : Int) ≤ 1114111 := by omega
    have hz := decodeGo_zero hd2
    rcases h3 with ⟨hbad, hB⟩ | ⟨hok, hB⟩
    · have hw : ((n : Int) ≤ 0) ∨ ((0 : Int) < (n : Int) ∧ ((c : Int) == 65533) = true ∧ ((n : Int) == 1) = true) ∨ ((0 : Int) < (n : Int) ∧ ((c : Int) == 65533) = false ∧ (c : Int) < 32) ∨ ((0 : Int) < (n : Int) ∧ ((c : Int) == 65533) = false ∧ (32 : Int) ≤ (c : Int) ∧ ((c : Int) != 39) = false) ∨ ((0 : Int) < (n : Int) ∧ ((c : Int) == 65533) = false ∧ (32 : Int) ≤ (c : Int) ∧ ((c : Int) != 39) = true ∧ ((c : Int) != 92) = false) := by
        simp only [bne_iff_ne, bne_eq_false_iff_eq, beq_iff_eq, beq_eq_false_iff_ne]
        by_cases a0 : n = 0
        · left; omega
        by_cases a1 : c = 65533
        · right; left; omega
        by_cases a2 : c < 32
        · right; right; left; omega
        by_cases a3 : c = 39
        · right; right; right; left; omega
        · right; right; right; right; omega
      rcases hrw with ⟨h2, _⟩ | ⟨_, hu | ⟨hu, e0 | ⟨e0, e1⟩⟩⟩
      · exact absurd h2 hn2
      · exact num_rune_bad1 s p w hs hp hd h48 h1 h39 hu c n hn3 hci HDEC hT hB hw
      · exact num_rune_bad2 s p w hs hp hd h48 h1 h39 hu e0 c n hn3 hci HDEC hT hB hw
      · exact num_rune_bad3 s p w hs hp hd h48 h1 h39 hu e0 e1 c n hn3 hci HDEC hT hB hw
    · have hw : ((0 : Int) < (n : Int) ∧ (32 : Int) ≤ (c : Int) ∧ ((c : Int) != 39) = true ∧ ((c : Int) != 92) = true ∧ ((c : Int) == 65533) = false) ∨ ((0 : Int) < (n : Int) ∧ (32 : Int) ≤ (c : Int) ∧ ((c : Int) != 39) = true ∧ ((c : Int) != 92) = true ∧ ((c : Int) == 65533) = true ∧ ((n : Int) == 1) = false) := by
        simp only [bne_iff_ne, beq_iff_eq, beq_eq_false_iff_ne]
        by_cases a1 : c = 65533
        · right; omega
        · left
          have : n ≠ 0 := fun h => a1 (hz h)
          omega
      rcases hrw with ⟨h2, _⟩ | ⟨_, hu | ⟨hu, e0 | ⟨e0, e1⟩⟩⟩
      · exact absurd h2 hn2
      · exact num_rune_ok1 s p w hs hp hd h48 h1 h39 hu c n hn3 hci HDEC hT hB hw
      · exact num_rune_ok2 s p w hs hp hd h48 h1 h39 hu e0 c n hn3 hci HDEC hT hB hw
      · exact num_rune_ok3 s p w hs hp hd h48 h1 h39 hu e0 e1 c n hn3 hci HDEC hT hB hw
end Go.Proofs.YtglaoacdenecfaaDoor
