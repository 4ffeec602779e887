/-
  Joined texts: CharDevD, CharDevE, CharDevF.
-/
import Derived.Test.YtglaoacdenecfaaDoorCharDevAC
import Derived.Handy
import Derived.Laws.Bits64b
import Derived.Test.YtglaoacdenecfaaDoorCharRefDG
import Derived.Lib.AppendStr
import Derived.Lib.OthersKept

/-
  The contracts of strconv.FormatInt to the base 16 below 32, and of package char's own inQuotes.
-/
namespace Go.Proofs.YtglaoacdenecfaaDoor
open Go.RowKit

theorem tz_key : IntKind.u64.wrap (bits BinOp.and IntKind.u64 16 (IntKind.u64.wrap (-16)) * 285870213051353865) / 288230376151711744 = 15 := by decide +kernel

theorem pow2_key : bits BinOp.and IntKind.i64 16 15 = 0 := by decide +kernel

end Go.Proofs.YtglaoacdenecfaaDoor


/-
  The contract of package char's own inQuotes.
-/
namespace Go.Proofs.YtglaoacdenecfaaDoor
open Go.RowKit

end Go.Proofs.YtglaoacdenecfaaDoor


/-
  The contract of package char's own Write.
-/
namespace Go.Proofs.YtglaoacdenecfaaDoor
open Go.RowKit

/-- Bytes as cells. -/
def byc (l : List UInt8) : List Value := l.map fun b => Value.int .u8 b.toNat
theorem byc_append (a b : List UInt8) : byc (a ++ b) = byc a ++ byc b := List.map_append
theorem byc_length (l : List UInt8) : (byc l).length = l.length := List.length_map _
theorem byc_str (l : List UInt8) : Lib.strCells ⟨l.toArray⟩ = byc l := rfl
/-- A slice of bytes of the call's own. -/
def OwnBytes (B : Nat) (w : World) (v : Value) (l : List UInt8) : Prop := w.ownsRow B 5 1 v l.length (byc l)
theorem infoByte : (Tryd.prog.info? 5).map (fun i => (i.zero, i.size, i.bytes)) = some (some (.int .u8 0), 1, 1) := by kernel_rfl
theorem OwnBytes.below {B : Nat} {w w' : World} {v : Value} {l : List UInt8} (h : OwnBytes B w v l) (hb : Below w.heap.size w w') : OwnBytes B w' v l := ownsRow_below h hb
theorem OwnBytes.iter_ne {B : Nat} {w : World} {v : Value} {l : List UInt8} (h : OwnBytes B w v l) {k : Nat} {s : ByteArray} {pos : Nat} (hk : w.heap[k]? = some (.stringIter s pos)) : some k ≠ v.ownBlock := by
  intro e
  obtain ⟨_, h0 | ⟨g, cap, cur, hv, _, hh, _⟩⟩ := h
  · rw [h0.1] at e; cases e
  · rw [hv] at e
    have : k = g := Option.some.inj e
    subst this
    rw [hk] at hh
    cases hh
theorem OwnBytes.iterAt {B : Nat} {w : World} {v : Value} {l : List UInt8} (h : OwnBytes B w v l) {k : Nat} {s : ByteArray} {pos : Nat} (hk : w.heap[k]? = some (.stringIter s pos)) (pos' : Nat) : OwnBytes B (w.iterAt k s pos') v l := by
  have hne := h.iter_ne hk
  obtain ⟨hl, h0 | ⟨g, cap, cur, hv, hbg, hh, r⟩⟩ := h
  · exact ⟨hl, .inl h0⟩
  · refine ⟨hl, .inr ⟨g, cap, cur, hv, hbg, ?_, r⟩⟩
    rw [Lib.iterAt_other w k g s pos' (fun e => hne (by rw [hv, e]; rfl))]
    exact hh
theorem grown_iter {B : Nat} {w w' : World} {v : Value} {l : List UInt8} (h : OwnBytes B w v l) {k : Nat} {s : ByteArray} {pos : Nat} (hk : w.heap[k]? = some (.stringIter s pos)) (hg : w.grownBy w' v.ownBlock) : w'.heap[k]? = some (.stringIter s pos) :=
  (hg.block k (Array.getElem?_eq_some_iff.1 hk).1 (h.iter_ne hk)).trans hk
/-- Bytes of the call's own, as a string. -/
theorem conv_own {B : Nat} {w : World} {v : Value} {l : List UInt8} (h : OwnBytes B w v l) :
    (convert 77 9 v).run Tryd.prog w = .ok (.string ⟨l.toArray⟩) w := by
  by_cases hl : l = []
  · subst hl
    obtain ⟨_, h0 | ⟨g, cap, cur, hv, _⟩⟩ := h
    · rw [h0.1, run_convert_bytes_string w _ _ 5 none 0 0 Tryd.underlying77 Tryd.underlying5 Tryd.underlying9]
      rfl
    · rw [hv]
      exact run_convert_bytes_back (P := Tryd.prog) w 77 9 5 ⟨g, 0, none⟩ cap [] Tryd.underlying77 Tryd.underlying5 Tryd.underlying9 (fun j hj => absurd hj (Nat.not_lt_zero j))
  · have hpos : 0 < l.length := List.length_pos_iff.2 hl
    obtain ⟨g, cap, rfl, _⟩ := World.ownsRow.form h hpos
    refine run_convert_bytes_back (P := Tryd.prog) w 77 9 5 ⟨g, 0, none⟩ cap l Tryd.underlying77 Tryd.underlying5 Tryd.underlying9 (fun j hj => ?_)
    rw [show (⟨g, 0, none⟩ : Addr).add j = ⟨g, j, none⟩ from (by simp [Addr.add]; exact Eq.symm), World.ownsRow.cellAt h j (by omega)]
    unfold byc
    rw [List.getElem?_map, List.getElem?_eq_getElem hj]
    rfl

end Go.Proofs.YtglaoacdenecfaaDoor
