/-
  The contracts of the document's own answers for char: hex (below 32), Check, Runes.
-/
import Derived.Test.YtlpmofmhcnclhaaDoorCharA
import Derived.Test.YtlpmofmhcnclhaaDoorShelf
import Derived.Shelf.Unicode.ValidAny
import Derived.Shelf.Unicode.DecodeAny
import Derived.Laws.IdiomStrings
namespace Go.Proofs.YtlpmofmhcnclhaaDoor
open Go.RowKit

theorem hex_cut : ∀ k : Fin 16, (⟨#[48, 49, 50, 51, 52, 53, 54, 55, 56, 57, 97, 98, 99, 100, 101, 102]⟩ : ByteArray).extract k.val (k.val + 1) = ⟨#[hexD k.val]⟩ := by decide
theorem hex_cut' (n : Nat) : (⟨#[48, 49, 50, 51, 52, 53, 54, 55, 56, 57, 97, 98, 99, 100, 101, 102]⟩ : ByteArray).extract (n % 16) (n % 16 + 1) = ⟨#[hexD (n % 16)]⟩ := hex_cut ⟨n % 16, Nat.mod_lt _ (by decide)⟩

theorem app_bytes (a b : List UInt8) : (⟨a.toArray⟩ ++ ⟨b.toArray⟩ : ByteArray) = ⟨(a ++ b).toArray⟩ := by
  apply ByteArray.ext
  simp [ByteArray.data_append]

theorem cell_in {w : World} {b o : Nat} {v : Value} (h : w.cell? ⟨b, o, none⟩ = some v) : b < w.heap.size := by
  rcases Nat.lt_or_ge b w.heap.size with hlt | hge
  · exact hlt
  · unfold World.cell? at h
    rw [Array.getElem?_eq_none hge] at h
    cases h

/-- The library's two tables for UTF-8 read as the program's text lays them. -/
-- lacks g{math/bits.deBruijn64tab}
def Tabs (w : World) : Prop := Lib.Utf8Tabs 1 2 w ∧ True
theorem Tabs.on {w w' : World} (h : Tabs w) (hb : Below w.heap.size w w') : Tabs w' := by
  obtain ⟨h, _⟩ := h
  refine ⟨⟨fun c hc => ?_, fun i hi => ⟨?_, ?_⟩⟩, trivial⟩
  · rw [← h.1 c hc]; exact hb.cell (p := ⟨_, _, none⟩) (cell_in (h.1 c hc))
  · rw [← (h.2 i hi).1]; exact hb.cell (p := ⟨_, _, none⟩) (cell_in (h.2 i hi).1)
  · rw [← (h.2 i hi).2]; exact hb.cell (p := ⟨_, _, none⟩) (cell_in (h.2 i hi).2)

theorem utf8_Valid (s : ByteArray) (w : World) (hs : s.size ≤ 9223372036854775807) (hT : Tabs w) :
    Calls Tryd.prog 66 #[.string s] w fun e w' => e = .returned (.bool (Lib.validD s.data.toList)) ∧ Below w.heap.size w w' := Any.utf8_ValidString Tryd.lays196 s w hs hT.1

set_option maxHeartbeats 1000000 in
theorem ref_Check (s : ByteArray) (w : World) (hs : s.size ≤ maxLen) (hT : Tabs w) :
    Calls Tryd.prog 53 #[.string s] w fun e w' => e = .returned (.bool (checkL s.data.toList)) ∧ Below w.heap.size w w' := by
  have hs1 : s.size ≤ 9223372036854775807 := by unfold maxLen at hs; omega
  clear hs
  have hl : s.data.toList.length = s.size := by simp
  have cV := Lib.hid (utf8_Valid s w hs1 hT)
  unfold checkL
  rw [hl]
  clear hl hT
  by_cases h : s.size ≤ 255
  · rw [decide_eq_true h, Bool.true_and]
    go_enter Tryd.func53, Tryd.ntmps53
    go_wp2_with fail
    refine cV.out.mono ?_; rintro e w1 ⟨rfl, hb⟩
    go_wp2_with fail
    go_ret
    exact ⟨rfl, hb⟩
  · rw [decide_eq_false h, Bool.false_and]
    have h' : 255 < s.size := by omega
    clear h
    go_enter Tryd.func53, Tryd.ntmps53
    go_wp2_with fail
    go_ret
    exact ⟨rfl, Below.refl _ _⟩
end Go.Proofs.YtlpmofmhcnclhaaDoor
