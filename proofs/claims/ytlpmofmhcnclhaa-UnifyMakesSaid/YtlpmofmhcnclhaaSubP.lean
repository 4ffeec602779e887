/-
  Rows of bindings of a call's own, that are appended to.
-/
import Derived.Test.YtlpmofmhcnclhaaSubA
import Derived.Test.YtlpmofmhcnclhaaTermMk
import Derived.Deep.AppendLies
namespace Go.Proofs.Ytlpmofmhcnclhaa
open Go.RowKit

/-- A binding's five cells. -/
def bcellsP (b : Int × Tm) (ad : Option Addr) (cap : Nat) : List Value := [.int .i64 b.1, .int .i64 b.2.kind, .string b.2.name, .int .i64 b.2.n, .slice ad b.2.args.length cap]
/-- The cells xs are the bindings bs. -/
def BRow (w : World) (P : Nat → Prop) (xs : List Value) (bs : List (Int × Tm)) : Prop := xs.length = bs.length * 5 ∧ ∀ k (hk : k < bs.length), ∃ ad cap, (In64 bs[k].1 ∧ TmP w P bs[k].2 ad cap) ∧ ∀ j, j < 5 → xs[k * 5 + j]? = (bcellsP bs[k] ad cap)[j]?
theorem BRow.nil {w : World} {P : Nat → Prop} : BRow w P [] [] := ⟨rfl, fun k hk => by simp at hk⟩
theorem BRow.kept {w w' : World} {P Q : Nat → Prop} {xs : List Value} {bs : List (Int × Tm)} (h : BRow w P xs bs) (hk : ∀ b, P b → b < w.heap.size → w'.heap[b]? = w.heap[b]?) (hPQ : ∀ b, P b → b < w.heap.size → Q b) : BRow w' Q xs bs :=
  ⟨h.1, fun k hlt => by obtain ⟨ad, cap, ⟨hi, h1⟩, h2⟩ := h.2 k hlt; exact ⟨ad, cap, ⟨hi, h1.kept hk hPQ⟩, h2⟩⟩
theorem BRow.snoc {w : World} {P : Nat → Prop} {xs : List Value} {bs : List (Int × Tm)} {b : Int × Tm} {ad : Option Addr} {cap : Nat} (h : BRow w P xs bs) (hi : In64 b.1) (hc : TmP w P b.2 ad cap) : BRow w P (xs ++ bcellsP b ad cap) (bs ++ [b]) := by
  refine ⟨by rw [List.length_append, List.length_append, h.1]; show _ + 5 = (_ + 1) * 5; omega, fun k hk => ?_⟩
  by_cases hlt : k < bs.length
  · obtain ⟨ad', cap', h1, h2⟩ := h.2 k hlt
    have e : (bs ++ [b])[k] = bs[k] := List.getElem_append_left hlt
    rw [e]
    exact ⟨ad', cap', h1, fun j hj => by rw [List.getElem?_append_left (by rw [h.1]; omega)]; exact h2 j hj⟩
  · rw [List.length_append, List.length_singleton] at hk
    obtain rfl : k = bs.length := by omega
    have e : (bs ++ [b])[bs.length] = b := by simp
    rw [e]
    exact ⟨ad, cap, ⟨hi, hc⟩, fun j hj => by rw [List.getElem?_append_right (by rw [h.1]; omega), h.1, Nat.add_sub_cancel_left]⟩
/-- A slice of bindings of the call's own; M holds of the blocks that their terms lie in. -/
def OwnBds (M : Nat → Prop) (B : Nat) (w : World) (v : Value) (bs : List (Int × Tm)) : Prop := ∃ xs, w.ownsRow B 34 5 v bs.length xs ∧ BRow w (fun b => M b ∧ some b ≠ v.ownBlock) xs bs
theorem OwnBds.nil (M : Nat → Prop) (B : Nat) (w : World) : OwnBds M B w (.slice none 0 0) [] := ⟨[], World.ownsRow_nil _ _ _ _, .nil⟩
theorem ownsRow_keptP {B : Nat} {e : TypeId} {s n : Nat} {w w' : World} {v : Value} {xs : List Value} (h : w.ownsRow B e s v n xs) (hb : ∀ b, v.ownBlock = some b → b < w.heap.size → w'.heap[b]? = w.heap[b]?) : w'.ownsRow B e s v n xs := by
  obtain ⟨hl, h1⟩ := h
  refine ⟨hl, ?_⟩
  rcases h1 with h0 | ⟨g, cap, cur, hv, hbg, hh, r⟩
  · exact .inl h0
  · exact .inr ⟨g, cap, cur, hv, hbg, (hb g (by rw [hv]; rfl) (Array.getElem?_eq_some_iff.1 hh).1).trans hh, r⟩
theorem OwnBds.below {M : Nat → Prop} {B : Nat} {w w' : World} {v : Value} {bs : List (Int × Tm)} (h : OwnBds M B w v bs) (hb : Below w.heap.size w w') : OwnBds M B w' v bs := by
  obtain ⟨xs, h1, h2⟩ := h
  exact ⟨xs, ownsRow_keptP h1 fun g _ hl => hb.block g hl, h2.kept (fun b _ hl => hb.block b hl) fun b hp _ => hp⟩
theorem OwnBds.lt {M : Nat → Prop} {B : Nat} {w : World} {v : Value} {bs : List (Int × Tm)} (h : OwnBds M B w v bs) : ∀ k, v.ownBlock = some k → B ≤ k ∧ k < w.heap.size := by obtain ⟨xs, h1, _⟩ := h; exact h1.lt
theorem OwnBds.at {M : Nat → Prop} {B : Nat} {w : World} {v : Value} {bs : List (Int × Tm)} (h : OwnBds M B w v bs) : ∃ ad cap, v = .slice ad bs.length cap ∧ bs.length ≤ cap ∧ cap ≤ maxLen ∧ BdsAt w (fun b => b < w.heap.size) ad bs := by
  obtain ⟨xs, h1, h2⟩ := h
  have h0 := h1
  obtain ⟨hl, ⟨rfl, hz⟩ | ⟨g, cap, cur, rfl, hb, hh, hn, hm, _⟩⟩ := h1
  · exact ⟨_, _, by rw [hz], by omega, Nat.zero_le _, fun k hk => by omega⟩
  · refine ⟨_, _, rfl, hn, hm, fun k hk => ?_⟩
    obtain ⟨a1, c1, ⟨hi, g1⟩, g2⟩ := h2.2 k hk
    have hgl := (Array.getElem?_eq_some_iff.1 hh).1
    have at5 : ∀ j, j < 5 → w.cell? ⟨g, 0 + k * 5 + j, none⟩ = (bcellsP bs[k] a1 c1)[j]? := fun j hj => by
      rw [Nat.zero_add, h0.cellAt (k * 5 + j) (by omega), g2 j hj]
    exact ⟨g, 0, a1, c1, rfl, hgl, hi, g1.kept (fun _ _ _ => rfl) fun b _ hl => hl, at5 0 (by omega), at5 1 (by omega), at5 2 (by omega), at5 3 (by omega), at5 4 (by omega)⟩
theorem infoBd : (Try.prog.info? 34).map (fun i => (i.zero, i.size, i.bytes)) = some (some (.agg #[.int .i64 0, .int .i64 0, .string ⟨#[]⟩, .int .i64 0, .slice none 0 0]), 5, 64) := by kernel_rfl
theorem info_partsB {t : TypeId} {z : Value} {s b : Nat} (h : (Try.prog.info? t).map (fun i => (i.zero, i.size, i.bytes)) = some (some z, s, b)) : ∃ i, Try.prog.info? t = some i ∧ i.zero = some z ∧ i.size = s ∧ i.bytes = b := by
  cases hi : Try.prog.info? t with
  | none => rw [hi] at h; cases h
  | some i => rw [hi] at h; injection h with h; injection h with h1 h2; injection h2 with h2 h3; exact ⟨i, rfl, h1, h2, h3⟩
/-- One binding more. -/
theorem OwnBds.grown {M : Nat → Prop} {B : Nat} {w w' : World} {v v' : Value} {bs : List (Int × Tm)} {xs : List Value} {b : Int × Tm} {ad : Option Addr} {cap : Nat} (h2 : BRow w (fun b => M b ∧ some b ≠ v.ownBlock) xs bs)
    (ho : w'.ownsRow B 34 5 v' (bs.length + 1) (xs ++ bcellsP b ad cap)) (hg : w.grownBy w' v.ownBlock) (hnew : v'.ownBlock = v.ownBlock ∨ ∃ g, v'.ownBlock = some g ∧ w.heap.size ≤ g) (hi : In64 b.1) (hc : TmP w (fun b => M b ∧ some b ≠ v.ownBlock) b.2 ad cap) : OwnBds M B w' v' (bs ++ [b]) := by
  refine ⟨_, by rw [List.length_append]; exact ho, ?_⟩
  have hne : ∀ b, (M b ∧ some b ≠ v.ownBlock) → b < w.heap.size → (M b ∧ some b ≠ v'.ownBlock) := fun b hp hlt => by
    refine ⟨hp.1, ?_⟩
    rcases hnew with h | ⟨g, h, hgs⟩
    · rw [h]; exact hp.2
    · rw [h]; intro e; have := Option.some.inj e; omega
  exact (h2.kept (fun b hp hlt => hg.block b hlt hp.2) hne).snoc hi (hc.kept (fun b hp hlt => hg.block b hlt hp.2) hne)
theorem cells5P {b : Int × Tm} {w : World} {ad : Option Addr} {cap : Nat} : ∀ j u, (bcellsP b ad cap)[j]? = some u → (w.alloc (.cells #[.int .i64 b.1, .int .i64 b.2.kind, .string b.2.name, .int .i64 b.2.n, .slice ad b.2.args.length cap] 34)).cell? ((⟨w.heap.size, 0, none⟩ : Addr).add j) = some u := by
  intro j u hj
  rw [show (⟨w.heap.size, 0, none⟩ : Addr).add j = ⟨w.heap.size, j, none⟩ by unfold Addr.add; split <;> simp_all, World.cell?_alloc_at _ _ _ _ rfl, ← hj, ← List.getElem?_toArray]; rfl
theorem one5P {b : Int × Tm} {ad : Option Addr} {cap : Nat} : ∀ u ∈ bcellsP b ad cap, u.oneCell' = true := by
  intro u hu; simp [bcellsP] at hu; rcases hu with rfl | rfl | rfl | rfl | rfl <;> rfl
end Go.Proofs.Ytlpmofmhcnclhaa
