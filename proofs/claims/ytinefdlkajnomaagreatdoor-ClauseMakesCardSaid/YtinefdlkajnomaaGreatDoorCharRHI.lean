import Derived.Test.YtinefdlkajnomaaGreatDoorCharRef
import Derived.Test.YtinefdlkajnomaaGreatDoorCharM
namespace Go.Proofs.YtinefdlkajnomaaGreatDoor
open Go.RowKit
def Run (t : List UInt8) (j : Nat) (m : Int) : Prop :=
 (hexRun 6 t 0).1 = j + (hexRun (6 - j) (t.drop j) m).1 /\ (hexRun 6 t 0).2 = (hexRun (6 - j) (t.drop j) m).2 /\ 0 <= m /\ m < 16 ^ j
theorem ret_three {a b : ByteArray} {c d e f : Int} (h1 : a = b) (h2 : c = d) (h3 : e = f) : Ending.returned (.tuple #[.string a, .int .i64 c, .int .i64 e]) = .returned (.tuple #[.string b, .int .i64 d, .int .i64 f]) := by rw [h1, h2, h3]
theorem drop_ne (s : ByteArray) (p : Nat) (h : p < s.size) : s.data.toList.drop p ≠ [] := fun e => by
 have h1 := congrArg List.length e;rw [List.length_drop, size_list] at h1;simp at h1
 omega
end Go.Proofs.YtinefdlkajnomaaGreatDoor
