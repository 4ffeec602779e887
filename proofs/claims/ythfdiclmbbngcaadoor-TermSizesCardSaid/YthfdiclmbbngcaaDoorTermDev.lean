/-
  The contracts of package term's own functions, together.
-/
import Derived.Test.YthfdiclmbbngcaaDoorTermMake
import Derived.Test.YthfdiclmbbngcaaDoorTermVarW
import Derived.Test.YthfdiclmbbngcaaDoorTermCmp
import Derived.Test.YthfdiclmbbngcaaDoorTermDevAB
import Derived.Test.YthfdiclmbbngcaaDoorTermDevCE
import Derived.Test.YthfdiclmbbngcaaDoorTermDevCS
import Derived.Test.YthfdiclmbbngcaaDoorTermDevTV
import Derived.Test.YthfdiclmbbngcaaDoorTermDevLT
namespace Go.Proofs.YthfdiclmbbngcaaDoor
open Go.RowKit

set_option maxHeartbeats 2000000 in
theorem ref_Copy (T : Tm) (ad : Option Addr) (cap : Nat) (w : World) (hM : T.size ≤ 1000000) (hin : TmIn w T ad cap) :
    Calls Tryd.prog 32 #[tmv T ad cap] w (MadeTerm w.heap.size w T) := by
  have HB := Lib.hid (fun o1 o2 : Obj => (((Below.refl w.heap.size w).alloc (Nat.le_refl _) o1).alloc (by simp) o2))
  have hC := fun o1 o2 => ref_Shift 0 T.size T ad cap ((w.alloc o1).alloc o2) (Nat.le_refl _) hM (hin.on (HB.out o1 o2))
  rw [Tm.shift_zero T (fun n h => wrap64_same h) ((Tm.n64_eq T).2 ⟨hin.n, hin.args.n64⟩)] at hC
  have HC := Lib.hid hC
  clear hin hC
  unfold tmv at *
  go_enter Tryd.func32, Tryd.ntmps32
  go_wp2_with fail
  refine (HC.out _ _).mono ?_; rintro e w2 ⟨ad2, cap2, rfl, htp, hb2⟩
  have hq1 := (hb2.block (w.heap.size + 1) (by rw [World.size_alloc, World.size_alloc]; omega)).trans (alloc_new2 w _ _)
  obtain ⟨g0, g1, g2, g3, k0, k1, k2, k3⟩ := cellsT hq1
  have HM := Lib.hid (made_store (w := w) (q := w.heap.size + 1) (htp.kept (fun _ _ _ => rfl) (fun b hp _ => by rw [World.size_alloc, World.size_alloc] at hp; omega)) ((HB.out _ _).trans (hb2.mono (by rw [World.size_alloc, World.size_alloc]; omega))) (by omega))
  clear htp hb2 hq1
  unfold tmv
  go_wp2_with fail
  exact bodyPost_ret (v := tmv T ad2 cap2) (by unfold tmv; simp [results, Tryd.results32, go_sem, g0, g1, g2, g3]) rfl (HM.out _ _ _ _)
end Go.Proofs.YthfdiclmbbngcaaDoor
