/-
  The contracts of the document's own answers for char: hex (below 32), Check, Runes.
-/
import Derived.Test.YtpmohibhdnmjlaaCharA
import Derived.Test.YtpmohibhdnmjlaaShelf
import Derived.Laws.IdiomStrings
namespace Go.Proofs.Ytpmohibhdnmjlaa
open Go.RowKit

theorem hex_cut : ∀ k : Fin 16, (⟨#[48, 49, 50, 51, 52, 53, 54, 55, 56, 57, 97, 98, 99, 100, 101, 102]⟩ : ByteArray).extract k.val (k.val + 1) = ⟨#[hexD k.val]⟩ := by decide
theorem hex_cut' (n : Nat) : (⟨#[48, 49, 50, 51, 52, 53, 54, 55, 56, 57, 97, 98, 99, 100, 101, 102]⟩ : ByteArray).extract (n % 16) (n % 16 + 1) = ⟨#[hexD (n % 16)]⟩ := hex_cut ⟨n % 16, Nat.mod_lt _ (by decide)⟩

theorem app_bytes (a b : List UInt8) : (⟨a.toArray⟩ ++ ⟨b.toArray⟩ : ByteArray) = ⟨(a ++ b).toArray⟩ := by
  apply ByteArray.ext
  simp [ByteArray.data_append]

theorem cell_in {w : World} {b o : Nat} {v : Value} (h : w.cell? ⟨b, o, none⟩ = some v) : b < w.heap.size := by
  rcases Nat.lt_or_ge b w.heap.size with hlt | hge
  · exact hlt
  · unfold World.cell? at h
    rw [Array.getElem?_eq_none hge] at h
    cases h

end Go.Proofs.Ytpmohibhdnmjlaa
