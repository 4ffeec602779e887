import Derived.Test.YtinefdlkajnomaaGreatDoorClauseAB
import Derived.Test.YtinefdlkajnomaaGreatDoorCl3
namespace Go.Proofs.YtinefdlkajnomaaGreatDoor
open Go.RowKit
def RMade (w : World) (c : Cl) (er : Int) (e : Ending) (w' : World) : Prop := ∃ a1 c1 bd bc, e = .returned (.tuple #[clv c a1 c1 bd bc, .int .i64 er]) /\ ClP w' (fun b => w.heap.size <= b) c a1 c1 bd bc /\ Below w.heap.size w w'
theorem rmade_none {w w' : World} {er : Int} (hb : Below w.heap.size w w') : RMade w Cl.none er (.returned (.tuple #[.agg #[.int .i64 0, .string ⟨#[]⟩, .int .i64 0, .slice none 0 0, .slice none 0 0, .int .i64 0], .int .i64 er])) w' :=
 ⟨none, 0, none, 0, rfl, ⟨zero_tm, Nat.le_refl _, Nat.zero_le _, .nil _, in64R (x := 0) (by decide) (by decide)⟩, hb⟩
set_option maxRecDepth 100000 in
set_option maxHeartbeats 4000000 in
theorem rc_MakeBad (T : Tm) (ad : Option Addr) (cap : Nat) (w : World) (hM : T.size <= 1000000) (hT : Tabs w) (hin : TmIn w T ad cap) (hc : T.chk ≠ 0) :
 Calls Tryz.prog 15 #[tmv T ad cap] w (RMade w T.make.1 T.make.2) := by
 have hb1 : ∀ o1 o2 : Obj, Below w.heap.size w ((w.alloc o1).alloc o2) := fun o1 o2 => ((Below.refl _ w).alloc (Nat.le_refl _) o1).alloc (by simp) o2;have HC := Lib.hid (fun o1 o2 => ref_TermCheck T ad cap ((w.alloc o1).alloc o2) hM (hT.on (hb1 o1 o2)) (hin.on (hb1 o1 o2)));have HB1 := Lib.hid hb1;have hmk : T.make = (Cl.none, T.chk) := by unfold Tm.make; rw [if_pos hc]
 rw [hmk];have hc2 : (T.chk != 0) = true := bne_iff_ne.2 hc;clear hT hin hb1 hmk hc;generalize T.chk = ck at *;unfold tmv at *;go_enter Tryz.func15, Tryz.ntmps15;go_wp2_with fail;have q2 := alloc_new2 w (.cells #[.int .i64 T.kind, .string T.name, .int .i64 T.n, .slice ad T.args.length cap] 26) (.cells #[.int .i64 0, .string ⟨#[]⟩, .int .i64 0, .slice none 0 0, .slice none 0 0, .int .i64 0] 30);refine (HC.out _ _).mono ?_; rintro e w1 ⟨rfl, hb⟩;have HB := Lib.hid ((HB1.out _ _).trans (hb.mono (by simp; omega)));have HQ := Lib.hid (keptR hb q2);obtain ⟨x0, x1, x2, x3, x4, x5, f0, f1, f2, f3, f4, f5⟩ := cells6 HQ.out;clear hb q2;go_wp2_with fail;have hn : w.heap.size <= w.heap.size + 1 := Nat.le_succ _;have g0 := Lib.heap_setCell_same (i := 0) HQ.out (.int .i64 0);have g1 := Lib.heap_setCell_same (i := 1) g0 (.string ⟨#[]⟩);have g2 := Lib.heap_setCell_same (i := 2) g1 (.int .i64 0);have g3 := Lib.heap_setCell_same (i := 3) g2 (.slice none 0 0);have g4 := Lib.heap_setCell_same (i := 4) g3 (.slice none 0 0);have g5 := Lib.heap_setCell_same (i := 5) g4 (.int .i64 0);simp only [List.setIfInBounds_toArray, List.set_cons_zero, List.set_cons_succ] at g5
 obtain ⟨y0, y1, y2, y3, y4, y5, _⟩ := cells6 g5;refine bodyPost_ret (v := .tuple #[.agg #[.int .i64 0, .string ⟨#[]⟩, .int .i64 0, .slice none 0 0, .slice none 0 0, .int .i64 0], .int .i64 ck]) (by simp [results, Tryz.results15, go_sem, y0, y1, y2, y3, y4, y5]) rfl ?_;exact rmade_none (set6_below _ _ _ _ _ _ HB.out hn)
end Go.Proofs.YtinefdlkajnomaaGreatDoor
