/-
  The walk of the law TokenPlaces, whole.
-/
import Derived.Test.YtglaoacdenecfaaDoorTokLawD
namespace Go.Proofs.YtglaoacdenecfaaDoor
open Go.RowKit

set_option maxRecDepth 100000 in
set_option maxHeartbeats 4000000 in
theorem places_refused (s : ByteArray) (i : Int) (w : World) (at_ er : Int) (her : (er != 0) = true) (hT : TabsT w)
    (hC : ∀ W, TabsT W → Calls Tryd.prog 10 #[.string s] W fun e w' => e = .returned (.tuple #[.slice none 0 0, .int .i64 at_, .int .i64 er]) ∧ Below W.heap.size W w') :
    Calls Tryd.prog 4 #[.string s, .int .i64 i] w fun e w' => e = .returned (.bool true) ∧ Below w.heap.size w w' := by
  have HT := Lib.hid hT
  have HL := Lib.hid (tok_live w hT)
  have HC := Lib.hid hC
  clear hT hC
  go_enter Tryd.func4, Tryd.ntmps4
  go_wp2_with fail
  refine HL.out.mono ?_; rintro e w1 ⟨rfl, hb1⟩
  go_wp2_with fail
  refine (HC.out _ (HT.out.on hb1)).mono ?_; rintro e w2 ⟨rfl, hb2⟩
  have hb := hb1.trans (hb2.mono hb1.size)
  clear hb1 hb2
  go_wp2_with fail
  go_ret
  exact ⟨rfl, hb⟩
theorem walk_TokenPlaces (s : ByteArray) (i : Int) (w : World) (hi : In64 i) (hT : TabsT w) :
    Calls Tryd.prog 4 #[.string s, .int .i64 i] w fun e w' => e = .returned (.bool true) ∧ Below w.heap.size w w' := by
  by_cases hl : 4096 < s.data.toList.length
  · exact places_refused s i w 0 2 (by decide) hT (fun W h => cut_long hl s rfl W h)
  · cases hc : cutL s.data.toList 0 false with
    | bad o => exact places_refused s i w (o : Nat) 50 (by decide) hT (fun W h => cut_refused (by omega) hc s rfl W h)
    | good T => exact places_good s i w hi hT T (by omega) hc
end Go.Proofs.YtglaoacdenecfaaDoor
