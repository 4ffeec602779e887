/-
  Joined texts: TermLay, TermDevT.
-/
import Derived.Test.YtdjejbgokamjeaaDoorNumTextB
import Derived.Test.YtdjejbgokamjeaaDoorTermMk
import Derived.Test.YtdjejbgokamjeaaDoorTermMR
import Derived.Deep.RegionHeld3
import Derived.Test.YtdjejbgokamjeaaDoorTermDevAB

/-
  The contract of package term's own layText.
-/
namespace Go.Proofs.YtdjejbgokamjeaaDoor
open Go.RowKit

/-- What layText answers: the bytes l in a row of the call's own, grown from v's. -/
def LaidOut (B : Nat) (w : World) (v : Value) (l : List UInt8) (e : Ending) (w' : World) : Prop := ∃ v', e = .returned v' ∧ OwnBytes B w' v' l ∧ Grew w w' v v'
theorem Grew.on {a b c : World} {u v : Value} (h : Grew a b u v) (hb : Below b.heap.size b c) : Grew a c u v := h.trans (Grew.below hb v)
theorem OwnBytes.far {B : Nat} {w : World} {v : Value} {l : List UInt8} (h : OwnBytes B w v l) : ∀ k, v.ownBlock = some k → B ≤ k ∧ k < w.heap.size := World.ownsRow.lt h
theorem OwnBytes.ne {B : Nat} {w : World} {v : Value} {l : List UInt8} (h : OwnBytes B w v l) {k : Nat} (hk : w.heap.size ≤ k ∨ k < B) : some k ≠ v.ownBlock := fun e => by
  have := h.far k e.symm; omega
theorem Grew.ne {a b : World} {u v : Value} (h : Grew a b u v) {k : Nat} (hk : k < a.heap.size) (hn : some k ≠ u.ownBlock) : some k ≠ v.ownBlock := by
  rcases h.lies with e | ⟨g, e, hg⟩
  · rw [e]; exact hn
  · rw [e]; intro e2; have := Option.some.inj e2; omega
theorem byte95 : (Value.int .u8 (95 : UInt8).toNat) = .int .u8 95 := rfl

/-- What stands behind the name when k arguments are laid. -/
def pre (l : List Tm) (k : Nat) : List UInt8 := if k = 0 then [] else 40 :: (Tm.commas (l.take k)).drop 1
def betw (k : Nat) : UInt8 := if k = 0 then 40 else 44
theorem pre_step (l : List Tm) (k : Nat) (h : k < l.length) : pre l (k + 1) = pre l k ++ (betw k :: (l[k]'h).txt) := by
  unfold pre betw
  rw [if_neg (by omega), commas_step l k h]
  by_cases h0 : k = 0
  · subst h0
    rw [if_pos rfl, if_pos rfl]
    rfl
  · rw [if_neg h0, if_neg h0]
    have hp := commas_pos l k (by omega) (by omega)
    rw [List.drop_append_of_le_length (by omega)]
    rfl
theorem pre_all (l : List Tm) (h : 0 < l.length) : pre l l.length ++ [41] = 40 :: ((Tm.commas l).drop 1 ++ [41]) := by
  unfold pre
  rw [if_neg (by omega), List.take_of_length_le (Nat.le_refl _)]
  rfl
theorem pre_len (l : List Tm) (k : Nat) (hk : k ≤ l.length) : (pre l k).length ≤ (Tm.commas (l.take k)).length := by
  unfold pre
  split
  · exact Nat.zero_le _
  · rename_i h
    cases l with
    | nil => exact absurd (Nat.le_zero.1 hk) h
    | cons t l => cases k with
      | zero => exact absurd rfl h
      | succ k =>
        show (40 :: (44 :: (t.txt ++ Tm.commas (l.take k))).drop 1).length ≤ (44 :: (t.txt ++ Tm.commas (l.take k))).length
        simp
theorem n64s_take {l : List Tm} (h : Tm.n64s l) (k : Nat) : Tm.n64s (l.take k) := by
  induction l generalizing k with
  | nil => rw [List.take_nil]; trivial
  | cons t l ih => cases k with
    | zero => trivial
    | succ k => exact ⟨h.1, ih h.2 k⟩

theorem TArgsP.get {w : World} {P : Nat → Prop} {b o : Nat} {ts : List Tm} (h : TArgsP w P (some ⟨b, o, none⟩) ts) (i : Nat) (hi : i < ts.length) :
    ∃ ad cap, w.cell? ⟨b, o + i * 4, none⟩ = some (.int .i64 (ts[i]'hi).kind) ∧ w.cell? ⟨b, o + i * 4 + 1, none⟩ = some (.string (ts[i]'hi).name) ∧ w.cell? ⟨b, o + i * 4 + 2, none⟩ = some (.int .i64 (ts[i]'hi).n) ∧
      w.cell? ⟨b, o + i * 4 + 3, none⟩ = some (.slice ad (ts[i]'hi).args.length cap) ∧ TmP w P (ts[i]'hi) ad cap := by
  induction i generalizing o ts with
  | zero =>
    rw [Nat.zero_mul, Nat.add_zero]
    cases h with
    | nil => cases hi
    | cons _ _ k n nm l ts ad cap hp c0 c1 c2 c3 hk hn hm hl hc ha _ => exact ⟨ad, cap, c0, c1, c2, c3, ⟨hk, hn, hm, hl, hc, ha⟩⟩
  | succ i ih =>
    cases h with
    | nil => cases hi
    | cons _ _ k n nm l ts ad cap hp c0 c1 c2 c3 hk hn hm hl hc ha hr =>
      have h9 := ih hr (by simpa using hi)
      rw [show o + (i + 1) * 4 = o + 4 + i * 4 by omega]
      exact h9
theorem TArgsP.addr' {w : World} {P : Nat → Prop} {ad : Option Addr} {ts : List Tm} (h : TArgsP w P ad ts) (hp : 0 < ts.length) : ∃ b o, ad = some ⟨b, o, none⟩ := by
  cases h with
  | nil => cases hp
  | cons b o => exact ⟨b, o, rfl⟩
theorem TmP.onB {w w' : World} {B : Nat} {t : Tm} {ad : Option Addr} {cap : Nat} (h : TmP w (fun b => b < B) t ad cap) (hb : Below B w w') : TmP w' (fun b => b < B) t ad cap := h.kept (fun b hp _ => hb.block b hp) (fun _ h _ => h)
theorem TArgsP.onB {w w' : World} {B : Nat} {ts : List Tm} {ad : Option Addr} (h : TArgsP w (fun b => b < B) ad ts) (hb : Below B w w') : TArgsP w' (fun b => b < B) ad ts := h.kept (fun b hp _ => hb.block b hp) (fun _ h _ => h)

theorem targs_in {w : World} {ad : Option Addr} {ts : List Tm} (h : TArgs w ad ts) : TArgsP w (fun b => b < w.heap.size) ad ts := by
  induction h with
  | nil ad => exact .nil ad
  | cons b o k n nm l ts ad cap c0 c1 c2 c3 hk hn hm hl hc _ _ ih1 ih2 => exact .cons b o k n nm l ts ad cap (World.block_lt_of_cell? w ⟨b, o, none⟩ c0) c0 c1 c2 c3 hk hn hm hl hc ih1 ih2
theorem cellx4 {W : World} {q t : Nat} {v0 v1 v2 v3 : Value} (h : W.heap[q]? = some (.cells #[v0, v1, v2, v3] t (0, 0))) : W.cell? ⟨q, 0, none⟩ = some v0 ∧ W.cell? ⟨q, 1, none⟩ = some v1 ∧ W.cell? ⟨q, 2, none⟩ = some v2 ∧ W.cell? ⟨q, 3, none⟩ = some v3 := by
  simp [World.cell?, h]

end Go.Proofs.YtdjejbgokamjeaaDoor


/-
  The contract of package term's own Text.
-/
namespace Go.Proofs.YtdjejbgokamjeaaDoor
open Go.RowKit

end Go.Proofs.YtdjejbgokamjeaaDoor
