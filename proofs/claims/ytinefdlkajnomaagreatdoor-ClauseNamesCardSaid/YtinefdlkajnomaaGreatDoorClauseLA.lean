import Derived.Test.YtinefdlkajnomaaGreatDoorCl3
import Derived.Test.YtinefdlkajnomaaGreatDoorCl1
namespace Go.Proofs.YtinefdlkajnomaaGreatDoor
open Go.RowKit
set_option maxRecDepth 100000 in
set_option maxHeartbeats 4000000 in
theorem walk_ClauseNames (s : ByteArray) (n : Int) (w : World) (hT : TabsT w) :
 Calls Tryz.prog 3 #[.string s, .int .i64 n] w fun e w' => e = .returned (.bool true) /\ Below w.heap.size w w' := by
 have HL := Lib.hid (cl_live w hT);have HA := Lib.hid (fun W => cl_Builtin s n W);have HB := Lib.hid (fun W => rc_Builtin s n W);clear hT;generalize bltL s.data.toList n = v at *;cases v
 all_goals
  go_enter Tryz.func3, Tryz.ntmps3;go_wp2_with fail;refine HL.out.mono ?_; rintro e w1 ⟨rfl, hb1⟩;go_wp2_with fail;refine (HA.out _).mono ?_; rintro e w2 ⟨rfl, rfl⟩;go_wp2_with fail;refine (HB.out _).mono ?_; rintro e w3 ⟨rfl, hb3⟩;have hb := hb1.trans (hb3.mono hb1.size);clear hb1 hb3;go_wp2_with fail;go_ret;exact ⟨rfl, hb⟩
end Go.Proofs.YtinefdlkajnomaaGreatDoor
