/-
  The contract of the document's own SameBinds for unify, of equal bindings.
-/
import Derived.Test.YtlpmofmhcnclhaaSubU
import Derived.Deep.RegionHeld3
import Derived.Deep.DeepCutAuto
namespace Go.Proofs.Ytlpmofmhcnclhaa
open Go.RowKit

theorem below_drew1 (w : World) : Below w.heap.size w w.drew := ⟨rfl, rfl, rfl, Nat.le_refl _, fun _ _ => rfl⟩

set_option maxRecDepth 100000 in
set_option maxHeartbeats 8000000 in
theorem r10_SameBinds (bs : List (Int × Tm)) (a1 : Option Addr) (c1 : Nat) (a2 : Option Addr) (c2 : Nat) (w : World) (P1 P2 : Nat → Prop) (hlen : bs.length ≤ 1000000) (hsz : ∀ b ∈ bs, b.2.size ≤ 1000000) (h1 : BdsAt w P1 a1 bs) (h2 : BdsAt w P2 a2 bs) :
    Calls Try.prog 10 #[.slice a1 bs.length c1, .slice a2 bs.length c2] w fun e w' => e = .returned (.bool true) ∧ Below w.heap.size w w' := by
  have H1 := Lib.hid h1
  have H2 := Lib.hid h2
  have HZ := Lib.hid hsz
  clear h1 h2 hsz
  go_enter Try.func10, Try.ntmps10
  go_wp2_with fail
  go_loopw [13] (fun iv wr => ∃ k : Nat, k ≤ bs.length ∧ iv = .int .i64 k ∧ Hid (Below w.heap.size w wr)) (fun iv _ => bs.length - (intOf iv).toNat)
  case atStart => exact ⟨0, Nat.zero_le _, rfl, Lib.hid (Below.refl _ _)⟩
  case round =>
    obtain ⟨k, hk, rfl, HB⟩ := hrel
    by_cases hlt : k < bs.length
    · obtain ⟨b, o, d1, e1, rfl, _, _, p1, x0, x1, x2, x3, x4⟩ := (H1.out.on HB.out) k hlt
      obtain ⟨b', o', d2, e2, rfl, _, _, p2, y0, y1, y2, y3, y4⟩ := (H2.out.on HB.out) k hlt
      have hz := HZ.out _ (List.getElem_mem hlt)
      have hk0 : (0 : Int) ≤ (k : Int) := by omega
      have hk1 : (k : Int) < (bs.length : Int) := by omega
      generalize bs[k] = B at *
      obtain ⟨n, t⟩ := B
      dsimp only at *
      go_upto_region 6 with fail
      have HSM := Lib.hid (same_yes t d1 d2 e1 e2 wr.drew hz (p1.toIn.on (below_drew1 wr)) (p2.toIn.on (below_drew1 wr)))
      unfold tmv at HSM
      have hS0 : wr.drew.cell? ⟨b, o + k * 5, none⟩ = some (.int .i64 n) ∧ wr.drew.cell? ⟨b, o + k * 5 + 1, none⟩ = some (.int .i64 t.kind) ∧ wr.drew.cell? ⟨b, o + k * 5 + 2, none⟩ = some (.string t.name) ∧ wr.drew.cell? ⟨b, o + k * 5 + 3, none⟩ = some (.int .i64 t.n) ∧ wr.drew.cell? ⟨b, o + k * 5 + 4, none⟩ = some (.slice d1 t.args.length e1) ∧ wr.drew.cell? ⟨b', o' + k * 5, none⟩ = some (.int .i64 n) ∧ wr.drew.cell? ⟨b', o' + k * 5 + 1, none⟩ = some (.int .i64 t.kind) ∧ wr.drew.cell? ⟨b', o' + k * 5 + 2, none⟩ = some (.string t.name) ∧ wr.drew.cell? ⟨b', o' + k * 5 + 3, none⟩ = some (.int .i64 t.n) ∧ wr.drew.cell? ⟨b', o' + k * 5 + 4, none⟩ = some (.slice d2 t.args.length e2) := ⟨x0, x1, x2, x3, x4, y0, y1, y2, y3, y4⟩
      have HS1 : Hid (∀ W, Below wr.drew.heap.size wr.drew W → W.cell? ⟨b, o + k * 5, none⟩ = some (.int .i64 n) ∧ W.cell? ⟨b, o + k * 5 + 1, none⟩ = some (.int .i64 t.kind) ∧ W.cell? ⟨b, o + k * 5 + 2, none⟩ = some (.string t.name) ∧ W.cell? ⟨b, o + k * 5 + 3, none⟩ = some (.int .i64 t.n) ∧ W.cell? ⟨b, o + k * 5 + 4, none⟩ = some (.slice d1 t.args.length e1) ∧ W.cell? ⟨b', o' + k * 5, none⟩ = some (.int .i64 n) ∧ W.cell? ⟨b', o' + k * 5 + 1, none⟩ = some (.int .i64 t.kind) ∧ W.cell? ⟨b', o' + k * 5 + 2, none⟩ = some (.string t.name) ∧ W.cell? ⟨b', o' + k * 5 + 3, none⟩ = some (.int .i64 t.n) ∧ W.cell? ⟨b', o' + k * 5 + 4, none⟩ = some (.slice d2 t.args.length e2)) := Lib.hid (fun W h => by
        have k1 : ∀ (q i : Nat) (v : Value), wr.cell? ⟨q, i, none⟩ = some v → W.cell? ⟨q, i, none⟩ = some v := fun q i v hv => (h.cell (p := ⟨q, i, none⟩) (World.block_lt_of_cell? wr ⟨q, i, none⟩ hv)).trans hv
        exact ⟨k1 _ _ _ x0, k1 _ _ _ x1, k1 _ _ _ x2, k1 _ _ _ x3, k1 _ _ _ x4, k1 _ _ _ y0, k1 _ _ _ y1, k1 _ _ _ y2, k1 _ _ _ y3, k1 _ _ _ y4⟩)
      clear x0 x1 x2 x3 x4 y0 y1 y2 y3 y4 p1 p2 hz
      go_region_held3 (fun W => W.cell? ⟨b, o + k * 5, none⟩ = some (.int .i64 n) ∧ W.cell? ⟨b, o + k * 5 + 1, none⟩ = some (.int .i64 t.kind) ∧ W.cell? ⟨b, o + k * 5 + 2, none⟩ = some (.string t.name) ∧ W.cell? ⟨b, o + k * 5 + 3, none⟩ = some (.int .i64 t.n) ∧ W.cell? ⟨b, o + k * 5 + 4, none⟩ = some (.slice d1 t.args.length e1) ∧ W.cell? ⟨b', o' + k * 5, none⟩ = some (.int .i64 n) ∧ W.cell? ⟨b', o' + k * 5 + 1, none⟩ = some (.int .i64 t.kind) ∧ W.cell? ⟨b', o' + k * 5 + 2, none⟩ = some (.string t.name) ∧ W.cell? ⟨b', o' + k * 5 + 3, none⟩ = some (.int .i64 t.n) ∧ W.cell? ⟨b', o' + k * 5 + 4, none⟩ = some (.slice d2 t.args.length e2))
        (first | with_reducible exact s4 | with_reducible exact hS0)
        (first | (go_at_call 24; (with_reducible refine HSM.out.mono ?_); rintro e w4 ⟨rfl, hb4⟩; have s4 := HS1.out _ hb4; have HB4 := Lib.hid (HB.out.trans (((below_drew1 wr).trans hb4).mono HB.out.size))))
      go_wp2_with fail
      go_roundw
      case rel => exact ⟨k + 1, by omega, by go_num, HB4⟩
      case measure => simp [intOf]; omega
    · go_wp2_with fail
      go_ret
      exact ⟨rfl, HB.out⟩
end Go.Proofs.Ytlpmofmhcnclhaa
