/-
  Proved: whatever memory reads as a slice of bindings holds bindings, one behind the other.
-/
import Derived.Test.YtpmohibhdnmjlaaSubA
import Derived.Test.YtpmohibhdnmjlaaTermOpen
import Derived.SizedLaws
namespace Go.Proofs.Ytpmohibhdnmjlaa
open Go.RowKit Go.ChangeShapes Go.WideShapes Go.Joins

theorem in64_of_wf {a : Int} (h : (Lit.int .i64 a).wf = true) : In64 a := in64_wf h
theorem list_chooseB {α : Type} {Q : Nat → α → Prop} : ∀ n : Nat, (∀ j, j < n → ∃ a, Q j a) → ∃ l : List α, l.length = n ∧ ∀ k (hk : k < l.length), Q k l[k]
  | 0, _ => ⟨[], rfl, fun k hk => by cases hk⟩
  | n + 1, h => by
    obtain ⟨l, hl, hq⟩ := list_chooseB n fun j hj => h j (by omega)
    obtain ⟨a, ha⟩ := h n (by omega)
    refine ⟨l ++ [a], by rw [List.length_append, hl]; rfl, fun k hk => ?_⟩
    by_cases hlt : k < l.length
    · have e : (l ++ [a])[k] = l[k] := List.getElem_append_left hlt
      rw [e]; exact hq k hlt
    · rw [List.length_append, List.length_singleton] at hk
      obtain rfl : k = l.length := by omega
      have e : (l ++ [a])[l.length] = a := by simp
      rw [e, hl]; exact ha
section
variable {H : Type} {enc : TypeId × Value → H} {w : World}

/-- A binding's five cells. -/
def bcells (b : Int × Tm) (ad : Option Addr) (cap : Nat) : List Value := [.int .i64 b.1, .int .i64 b.2.kind, .string b.2.name, .int .i64 b.2.n, .slice ad b.2.args.length cap]
set_option maxRecDepth 100000 in
theorem bind_open {n : Nat} {cs : List Value} {x : DataW H × List MemPlace} (h : DataW.trod enc Try.prog w 0 (fun _ => true) true n 45 cs = some x) :
    ∃ (B : Int × Tm) (ad : Option Addr) (cap : Nat), cs = bcells B ad cap ∧ In64 B.1 ∧ TmP w (fun b => b < w.heap.size) B.2 ad cap := by
  obtain ⟨xs, m, hm, hx, hlen, hxl, hg⟩ := DataW.trod_struct Try.underlying45 h
  rw [show Try.prog.cellsOf 45 = 5 by kernel_rfl] at hlen
  match cs, hlen with
  | [v0, v1, v2, v3, v4], _ =>
    match xs, hxl with
    | [y0, y1], _ =>
      have g0 : DataW.trod enc Try.prog w 0 (fun _ => true) true m 2 [v0] = some y0 := hg 0 _ rfl
      have g1 := hg 1 _ rfl
      obtain ⟨i, hi, _, wi⟩ := DataW.trod_int Try.underlying2 g0
      obtain rfl : v0 = .int .i64 i := by simpa using hi
      obtain ⟨T, ad, cap, h1, hin⟩ := term_open m (show DataW.trod enc Try.prog w 0 (fun _ => true) true m 25 [v1, v2, v3, v4] = some y1 from g1)
      injection h1 with e0 h1
      injection h1 with e1 h1
      injection h1 with e2 h1
      injection h1 with e3 _
      subst e0 e1 e2 e3
      exact ⟨(i, T), ad, cap, rfl, in64_wf wi, hin.inP⟩
set_option maxRecDepth 100000 in
/-- A parameter that is a slice of bindings. -/
theorem open_binds {r : Reach} {b0 : Nat} {v : Value} {d : DataW H} {p : List MemPlace} (hv : Value.okWide Try.prog w r b0 22 v) (h : DataW.Trod enc Try.prog w 0 (fun _ => true) true 22 v d p) :
    ∃ (bs : List (Int × Tm)) (ad : Option Addr) (cap : Nat), v = .slice ad bs.length cap ∧ bs.length ≤ cap ∧ cap ≤ maxLen ∧ BdsAt w (fun b => b < w.heap.size) ad bs := by
  obtain ⟨a0, l0, c0, rfl⟩ := okWide_slice Try.underlying22 hv
  obtain ⟨fuel, hf⟩ := h
  rcases DataW.trod_slice Try.underlying22 hf with ⟨h4, _⟩ | ⟨a, len, cap, elems, rest, q, hq, h4, hx, _, hlc, hcm, hel, hat, _⟩
  · have h5 : Value.slice a0 l0 c0 = .slice none 0 0 := by simpa [Value.cells] using h4
    rw [h5]
    exact ⟨[], none, 0, rfl, Nat.zero_le _, Nat.zero_le _, (fun k hk => by cases hk)⟩
  · have h5 : Value.slice a0 l0 c0 = .slice (some a) len cap := by simpa [Value.cells] using h4
    rw [h5]
    rw [show Try.prog.cellsOf 45 = 5 by kernel_rfl] at hat
    have hone : ∀ j, j < len → ∃ (B : Int × Tm), ∃ (ad : Option Addr) (c : Nat), (In64 B.1 ∧ TmP w (fun b => b < w.heap.size) B.2 ad c) ∧ ∀ i, i < 5 → w.cell? ((a.add (j * 5)).add i) = (bcells B ad c)[i]? := fun j hj => by
      have h5 := hat j hj
      rw [List.getElem?_eq_getElem (by omega)] at h5
      obtain ⟨cs', hc1, hc2⟩ := Option.bind_eq_some_iff.1 h5
      obtain ⟨B, ad, c, rfl, hi, hin⟩ := bind_open hc2
      obtain ⟨_, _, hcell⟩ := World.cells?_some hc1
      exact ⟨B, ad, c, ⟨hi, hin⟩, fun i hi => hcell i hi⟩
    obtain ⟨bs, hl, hcs⟩ := list_chooseB len hone
    refine ⟨bs, some a, cap, by rw [hl], by omega, hcm, fun k hk => ?_⟩
    obtain ⟨_, _, _, hcc0⟩ := hcs 0 (by omega)
    have ha : a = ⟨a.block, a.off, none⟩ := spot_none (show w.cell? a = some _ from hcc0 0 (by omega))
    obtain ⟨b, o, ha2⟩ : ∃ b o, a = ⟨b, o, none⟩ := ⟨_, _, ha⟩
    subst ha2
    obtain ⟨ad, c, ⟨hi, hp⟩, hcc⟩ := hcs k hk
    have hc : ∀ i, i < 5 → w.cell? ⟨b, o + k * 5 + i, none⟩ = (bcells bs[k] ad c)[i]? := fun i hi => by
      have := hcc i hi
      rw [add_plain, add_plain] at this
      exact this
    have h0 := hc 0 (by omega)
    exact ⟨b, o, ad, c, rfl, World.block_lt_of_cell? w ⟨b, o + k * 5, none⟩ h0, hi, hp, h0, hc 1 (by omega), hc 2 (by omega), hc 3 (by omega), hc 4 (by omega)⟩
end
end Go.Proofs.Ytpmohibhdnmjlaa
