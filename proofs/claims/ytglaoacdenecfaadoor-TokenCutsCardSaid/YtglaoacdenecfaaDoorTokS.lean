/-
  The contract of the document's own Same, of two slices that hold the same tokens.
-/
import Derived.Test.YtglaoacdenecfaaDoorTokH
import Derived.RegionTactic
import Derived.BigRegion
import Derived.Deep.RegionHeld3
namespace Go.Proofs.YtglaoacdenecfaaDoor
open Go.RowKit

/-- A slice that holds these tokens. -/
def SeenToks (w : World) (v : Value) (l : List Tok) : Prop := ∃ ad cap, v = .slice ad l.length cap ∧ l.length ≤ cap ∧ cap ≤ maxLen ∧ ∀ j (hj : j < l.length), ∃ g, ad = some ⟨g, 0, none⟩ ∧ TokAt w g j l[j]
theorem OwnToks.seen {B : Nat} {w : World} {v : Value} {l : List Tok} (h : OwnToks B w v l) : SeenToks w v l := by
  obtain ⟨ad, cap, h1, h2, h3, h4⟩ := h.view
  refine ⟨ad, cap, h1, h2, h3, fun j hj => ?_⟩
  obtain ⟨g, e, _, hat⟩ := h4 j hj
  exact ⟨g, e, hat⟩
theorem SeenToks.none (w : World) : SeenToks w (.slice none 0 0) [] := ⟨_, _, rfl, Nat.le_refl _, Nat.zero_le _, fun _ hj => absurd hj (Nat.not_lt_zero _)⟩

set_option maxRecDepth 100000 in
set_option maxHeartbeats 4000000 in
theorem ref_Same (T : List Tok) (v1 v2 : Value) (w : World) (h1 : SeenToks w v1 T) (h2 : SeenToks w v2 T) :
    Calls Tryd.prog 12 #[v1, v2] w fun e w' => e = .returned (.bool true) ∧ Below w.heap.size w w' := by
  obtain ⟨ad, cap, rfl, hlc, hcm, hc1⟩ := h1
  obtain ⟨ad2, cap2, rfl, hlc2, hcm2, hc2⟩ := h2
  have HC1 := Lib.hid hc1
  have HC2 := Lib.hid hc2
  unfold maxLen at hcm hcm2
  clear hc1 hc2
  go_enter Tryd.func12, Tryd.ntmps12
  go_wp2_with fail
  go_loopw [13] (fun iv wr => ∃ k : Nat, k ≤ T.length ∧ iv = .int .i64 k ∧ Below w.heap.size w wr) (fun iv _ => T.length - (intOf iv).toNat)
  case atStart => exact ⟨0, Nat.zero_le _, rfl, Below.refl _ _⟩
  case round =>
    obtain ⟨k, hk, rfl, hbr⟩ := hrel
    by_cases hlt : k < T.length
    · obtain ⟨g, rfl, hat⟩ := HC1.out k hlt
      obtain ⟨g2, rfl, hat2⟩ := HC2.out k hlt
      obtain ⟨c0, c1, c2, c3⟩ := hat.on hbr
      obtain ⟨d0, d1, d2, d3⟩ := hat2.on hbr
      have hg1 := World.block_lt_of_cell? wr _ c0
      have hg2 := World.block_lt_of_cell? wr _ d0
      generalize T[k] = x at *
      have hk0 : (0 : Int) ≤ (k : Int) := by omega
      have hk1 : (k : Int) < (T.length : Int) := by omega
      clear hat hat2
      generalize (⟨x.text.toArray⟩ : ByteArray) = u at *
      generalize x.pos = p at *
      generalize x.kind = kd at *
      generalize x.n = xn at *
      clear x
      go_wp2_with fail
      go_region_held3 (fun W => W.cell? ⟨g, k * 4, none⟩ = some (.int .i64 kd) ∧ W.cell? ⟨g, k * 4 + 1, none⟩ = some (.string u) ∧ W.cell? ⟨g, k * 4 + 2, none⟩ = some (.int .i64 xn) ∧ W.cell? ⟨g, k * 4 + 3, none⟩ = some (.int .i64 (p : Nat)) ∧
        W.cell? ⟨g2, k * 4, none⟩ = some (.int .i64 kd) ∧ W.cell? ⟨g2, k * 4 + 1, none⟩ = some (.string u) ∧ W.cell? ⟨g2, k * 4 + 2, none⟩ = some (.int .i64 xn) ∧ W.cell? ⟨g2, k * 4 + 3, none⟩ = some (.int .i64 (p : Nat))) (first | go_keep) (fail)
      go_wp2_with fail
      go_roundw
      case rel => exact ⟨k + 1, by omega, by go_num, hbr.drew⟩
      case measure => simp [intOf]; omega
    · go_wp2_with fail
      go_ret
      exact ⟨rfl, hbr⟩
end Go.Proofs.YtglaoacdenecfaaDoor
