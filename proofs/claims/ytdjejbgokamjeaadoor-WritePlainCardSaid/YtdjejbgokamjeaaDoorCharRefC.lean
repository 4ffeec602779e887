/-
  The contracts of the document's own answers for char: hex (below 32), Check, Runes.
-/
import Derived.Test.YtdjejbgokamjeaaDoorCharA
import Derived.Test.YtdjejbgokamjeaaDoorShelf
import Derived.Shelf.Unicode.ValidAny
import Derived.Shelf.Unicode.DecodeAny
import Derived.Laws.IdiomStrings
namespace Go.Proofs.YtdjejbgokamjeaaDoor
open Go.RowKit

theorem hex_cut : ∀ k : Fin 16, (⟨#[48, 49, 50, 51, 52, 53, 54, 55, 56, 57, 97, 98, 99, 100, 101, 102]⟩ : ByteArray).extract k.val (k.val + 1) = ⟨#[hexD k.val]⟩ := by decide
theorem hex_cut' (n : Nat) : (⟨#[48, 49, 50, 51, 52, 53, 54, 55, 56, 57, 97, 98, 99, 100, 101, 102]⟩ : ByteArray).extract (n % 16) (n % 16 + 1) = ⟨#[hexD (n % 16)]⟩ := hex_cut ⟨n % 16, Nat.mod_lt _ (by decide)⟩

set_option maxHeartbeats 1000000 in
theorem ref_hex_small (n : Nat) (hn : n < 16) (w : World) :
    Calls Tryd.prog 60 #[.int .i32 n] w fun e w' => e = .returned (.string ⟨(hexL n).toArray⟩) ∧ w = w' := by
  have hc := Lib.hid (hex_cut' n)
  have hl : hexL n = [hexD (n % 16)] := by rw [Nat.mod_eq_of_lt hn]; exact if_pos hn
  rw [hl]
  clear hl
  go_enter Tryd.func60, Tryd.ntmps60
  go_wp2_with fail
  go_ret
  exact ⟨by rw [← hc.out]; rfl, rfl⟩

theorem app_bytes (a b : List UInt8) : (⟨a.toArray⟩ ++ ⟨b.toArray⟩ : ByteArray) = ⟨(a ++ b).toArray⟩ := by
  apply ByteArray.ext
  simp [ByteArray.data_append]

set_option maxHeartbeats 1000000 in
theorem ref_hex (n : Nat) (hn : n < 256) (w : World) :
    Calls Tryd.prog 60 #[.int .i32 n] w fun e w' => e = .returned (.string ⟨(hexL n).toArray⟩) ∧ w = w' := by
  by_cases h : n < 16
  · exact ref_hex_small n h w
  have hc := Lib.hid (hex_cut' n)
  have hl : hexL n = hexL (n / 16) ++ [hexD (n % 16)] := by
    unfold hexL
    rw [if_neg h, if_pos (by omega)]
    rfl
  have hlen : (hexL (n / 16)).length ≤ 2 := by
    unfold hexL
    split <;> simp
  have cH := Lib.hid (ref_hex_small (n / 16) (by omega) w)
  rw [show ((n / 16 : Nat) : Int) = (n : Int) / 16 from by omega] at cH
  rw [hl]
  clear hl
  generalize hexL (n / 16) = l at *
  go_enter Tryd.func60, Tryd.ntmps60
  go_wp2_with fail
  refine cH.out.mono ?_; rintro e w1 ⟨rfl, rfl⟩
  have hc2 := hc.out
  go_wp2_with fail
  go_ret
  exact ⟨by rw [← app_bytes]; rfl, rfl⟩

theorem cell_in {w : World} {b o : Nat} {v : Value} (h : w.cell? ⟨b, o, none⟩ = some v) : b < w.heap.size := by
  rcases Nat.lt_or_ge b w.heap.size with hlt | hge
  · exact hlt
  · unfold World.cell? at h
    rw [Array.getElem?_eq_none hge] at h
    cases h

/-- The library's two tables for UTF-8, and one row of its table for trailing noughts, read as the program's text lays them. -/
-- only g{math/bits.deBruijn64tab}
def Tabs (w : World) : Prop := Lib.Utf8Tabs 0 1 w ∧ w.cell? ⟨4, 15, none⟩ = some (.int .u8 4)
theorem Tabs.on {w w' : World} (h : Tabs w) (hb : Below w.heap.size w w') : Tabs w' := by
  obtain ⟨h, h4⟩ := h
  refine ⟨⟨fun c hc => ?_, fun i hi => ⟨?_, ?_⟩⟩, ?_⟩
  · rw [← h.1 c hc]; exact hb.cell (p := ⟨_, _, none⟩) (cell_in (h.1 c hc))
  · rw [← (h.2 i hi).1]; exact hb.cell (p := ⟨_, _, none⟩) (cell_in (h.2 i hi).1)
  · rw [← (h.2 i hi).2]; exact hb.cell (p := ⟨_, _, none⟩) (cell_in (h.2 i hi).2)
  · rw [← h4]; exact hb.cell (p := ⟨_, _, none⟩) (cell_in h4)

theorem utf8_Valid (s : ByteArray) (w : World) (hs : s.size ≤ 9223372036854775807) (hT : Tabs w) :
    Calls Tryd.prog 66 #[.string s] w fun e w' => e = .returned (.bool (Lib.validD s.data.toList)) ∧ Below w.heap.size w w' := Any.utf8_ValidString Tryd.lays196 s w hs hT.1

set_option maxHeartbeats 1000000 in
theorem ref_Check (s : ByteArray) (w : World) (hs : s.size ≤ maxLen) (hT : Tabs w) :
    Calls Tryd.prog 56 #[.string s] w fun e w' => e = .returned (.bool (checkL s.data.toList)) ∧ Below w.heap.size w w' := by
  have hs1 : s.size ≤ 9223372036854775807 := by unfold maxLen at hs; omega
  clear hs
  have hl : s.data.toList.length = s.size := by simp
  have cV := Lib.hid (utf8_Valid s w hs1 hT)
  unfold checkL
  rw [hl]
  clear hl hT
  by_cases h : s.size ≤ 255
  · rw [decide_eq_true h, Bool.true_and]
    go_enter Tryd.func56, Tryd.ntmps56
    go_wp2_with fail
    refine cV.out.mono ?_; rintro e w1 ⟨rfl, hb⟩
    go_wp2_with fail
    go_ret
    exact ⟨rfl, hb⟩
  · rw [decide_eq_false h, Bool.false_and]
    have h' : 255 < s.size := by omega
    clear h
    go_enter Tryd.func56, Tryd.ntmps56
    go_wp2_with fail
    go_ret
    exact ⟨rfl, Below.refl _ _⟩
end Go.Proofs.YtdjejbgokamjeaaDoor
