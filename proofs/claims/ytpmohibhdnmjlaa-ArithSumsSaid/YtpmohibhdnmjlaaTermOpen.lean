/-
  Proved: whatever memory reads as a term (a struct of a number, a text, a number and a slice of such structs) holds a term, with all its arguments in their places.
-/
import Derived.Test.YtpmohibhdnmjlaaTermMR
import Derived.Lib.SmallJoins
import Derived.ChangeArms
import Derived.DataReads
namespace Go.Proofs.Ytpmohibhdnmjlaa
open Go.RowKit Go.ChangeShapes Go.WideShapes Go.Joins

theorem in64_wf {a : Int} (h : (Lit.int .i64 a).wf = true) : In64 a := by
  have e1 : IntKind.i64.min = -9223372036854775808 := rfl
  have e2 : IntKind.i64.max = 9223372036854775807 := rfl
  simp [Lit.wf, e1, e2] at h
  exact h
theorem spot_none {w : World} {a : Addr} {v : Value} (h : w.cell? a = some v) : a = ⟨a.block, a.off, none⟩ := by
  obtain ⟨b, o, s⟩ := a
  cases s with
  | none => rfl
  | some s =>
    unfold World.cell? at h
    split at h
    · simp at h
    · cases h
theorem add_plain (b o n : Nat) : (⟨b, o, none⟩ : Addr).add n = ⟨b, o + n, none⟩ := by
  unfold Addr.add
  split
  · next h => subst h; rfl
  · rfl
theorem targs_of {w : World} {b : Nat} : ∀ (len o : Nat), (∀ i, i < len → ∃ (T : Tm) (ad : Option Addr) (cap : Nat), w.cell? ⟨b, o + i * 4, none⟩ = some (.int .i64 T.kind) ∧ w.cell? ⟨b, o + i * 4 + 1, none⟩ = some (.string T.name) ∧
      w.cell? ⟨b, o + i * 4 + 2, none⟩ = some (.int .i64 T.n) ∧ w.cell? ⟨b, o + i * 4 + 3, none⟩ = some (.slice ad T.args.length cap) ∧ TmIn w T ad cap) → ∃ ts : List Tm, ts.length = len ∧ TArgs w (some ⟨b, o, none⟩) ts
  | 0, o, _ => ⟨[], rfl, .nil _⟩
  | len + 1, o, h => by
    obtain ⟨T, ad, cap, c0, c1, c2, c3, hin⟩ := h 0 (by omega)
    rw [Nat.zero_mul, Nat.add_zero] at c0 c1 c2 c3
    obtain ⟨ts, hl, hts⟩ := targs_of len (o + 4) (fun i hi => by
      have h1 := h (i + 1) (by omega)
      rw [show o + (i + 1) * 4 = o + 4 + i * 4 by omega] at h1
      exact h1)
    refine ⟨T :: ts, by rw [List.length_cons, hl], ?_⟩
    rw [T.eta]
    exact .cons b o T.kind T.n T.name T.args ts ad cap c0 c1 c2 c3 hin.kind hin.n hin.name hin.len hin.cap hin.args hts

section
variable {H : Type} {enc : TypeId × Value → H} {w : World}

set_option maxRecDepth 100000 in
theorem term_field {n : Nat} {cs : List Value} {x : DataW H × List MemPlace} (h : DataW.trod enc Try.prog w 0 (fun _ => true) true n 25 cs = some x) :
    ∃ (v0 v1 v2 v3 : Value) (y0 y1 y2 y3 : DataW H × List MemPlace) (m : Nat), n = m + 1 ∧ cs = [v0, v1, v2, v3] ∧ DataW.trod enc Try.prog w 0 (fun _ => true) true m 3 [v0] = some y0 ∧ DataW.trod enc Try.prog w 0 (fun _ => true) true m 9 [v1] = some y1 ∧
      DataW.trod enc Try.prog w 0 (fun _ => true) true m 2 [v2] = some y2 ∧ DataW.trod enc Try.prog w 0 (fun _ => true) true m 23 [v3] = some y3 := by
  obtain ⟨xs, m, hm, hx, hlen, hxl, hg⟩ := DataW.trod_struct Try.underlying25 h
  rw [show Try.prog.cellsOf 25 = 4 by kernel_rfl] at hlen
  match cs, hlen with
  | [v0, v1, v2, v3], _ =>
    match xs, hxl with
    | [y0, y1, y2, y3], _ =>
      exact ⟨v0, v1, v2, v3, y0, y1, y2, y3, m, hm, rfl, hg 0 _ rfl, hg 1 _ rfl, hg 2 _ rfl, hg 3 _ rfl⟩
theorem term_open : ∀ (n : Nat) {cs : List Value} {x : DataW H × List MemPlace}, DataW.trod enc Try.prog w 0 (fun _ => true) true n 25 cs = some x →
    ∃ (T : Tm) (ad : Option Addr) (cap : Nat), cs = [.int .i64 T.kind, .string T.name, .int .i64 T.n, .slice ad T.args.length cap] ∧ TmIn w T ad cap := by
  intro n
  induction n using Nat.strongRecOn with
  | _ n ih =>
    intro cs x h
    obtain ⟨v0, v1, v2, v3, y0, y1, y2, y3, m, rfl, rfl, h0, h1, h2, h3⟩ := term_field h
    obtain ⟨k, hk, _, wk⟩ := DataW.trod_int Try.underlying3 h0
    obtain ⟨s, hs, _, ws⟩ := DataW.trod_string Try.underlying9 h1
    obtain ⟨i, hi, _, wi⟩ := DataW.trod_int Try.underlying2 h2
    obtain rfl : v0 = .int .i64 k := by simpa using hk
    obtain rfl : v1 = .string s := by simpa using hs
    obtain rfl : v2 = .int .i64 i := by simpa using hi
    rcases DataW.trod_slice Try.underlying23 h3 with ⟨h4, _⟩ | ⟨a, len, cap, elems, rest, q, hq, h4, _, _, hlc, hcm, hel, hat, _⟩
    · obtain rfl : v3 = .slice none 0 0 := by simpa using h4
      exact ⟨.mk k s i [], none, 0, rfl, ⟨in64_wf wk, in64_wf wi, ws, Nat.zero_le _, Nat.zero_le _, .nil _⟩⟩
    · obtain rfl : v3 = .slice (some a) len cap := by simpa using h4
      rw [show Try.prog.cellsOf 25 = 4 by kernel_rfl] at hat
      have hone : ∀ j, j < len → ∃ (T : Tm) (ad : Option Addr) (c : Nat), w.cell? ((a.add (j * 4)).add 0) = some (.int .i64 T.kind) ∧ w.cell? ((a.add (j * 4)).add 1) = some (.string T.name) ∧ w.cell? ((a.add (j * 4)).add 2) = some (.int .i64 T.n) ∧
          w.cell? ((a.add (j * 4)).add 3) = some (.slice ad T.args.length c) ∧ TmIn w T ad c := fun j hj => by
        have h5 := hat j hj
        rw [List.getElem?_eq_getElem (by omega)] at h5
        obtain ⟨cs', hc1, hc2⟩ := Option.bind_eq_some_iff.1 h5
        obtain ⟨T, ad, c, rfl, hin⟩ := ih q (by omega) hc2
        obtain ⟨_, _, hcell⟩ := World.cells?_some hc1
        exact ⟨T, ad, c, hcell 0 (by omega), hcell 1 (by omega), hcell 2 (by omega), hcell 3 (by omega), hin⟩
      by_cases hz : len = 0
      · subst hz
        exact ⟨.mk k s i [], some a, cap, rfl, ⟨in64_wf wk, in64_wf wi, ws, Nat.zero_le _, hcm, .nil _⟩⟩
      · obtain ⟨_, _, _, hc, _⟩ := hone 0 (by omega)
        have ha : a = ⟨a.block, a.off, none⟩ := spot_none (show w.cell? a = _ from hc)
        obtain ⟨b, o, ha2⟩ : ∃ b o, a = ⟨b, o, none⟩ := ⟨_, _, ha⟩
        subst ha2
        obtain ⟨ts, hl, hts⟩ := targs_of (w := w) (b := b) len o (fun j hj => by
          have h6 := hone j hj
          rw [add_plain, add_plain, add_plain, add_plain, add_plain] at h6
          exact h6)
        exact ⟨.mk k s i ts, some ⟨b, o, none⟩, cap, by rw [← hl]; rfl, ⟨in64_wf wk, in64_wf wi, ws, by show ts.length ≤ cap; omega, hcm, hts⟩⟩
set_option maxRecDepth 100000 in
/-- A parameter that is a term. -/
theorem open_term {r : Reach} {b0 : Nat} {v : Value} {d : DataW H} {p : List MemPlace} (hv : Value.okWide Try.prog w r b0 25 v) (h : DataW.Trod enc Try.prog w 0 (fun _ => true) true 25 v d p) :
    ∃ (T : Tm) (ad : Option Addr) (cap : Nat), v = tmv T ad cap ∧ TmIn w T ad cap := by
  obtain ⟨cs, rfl, hsz⟩ := okWide_struct Try.underlying25 hv
  obtain ⟨fuel, hf⟩ := h
  obtain ⟨T, ad, cap, hcs, hin⟩ := term_open fuel hf
  refine ⟨T, ad, cap, ?_, hin⟩
  have : cs.toList = [.int .i64 T.kind, .string T.name, .int .i64 T.n, .slice ad T.args.length cap] := hcs
  unfold tmv
  rw [← this]
end
end Go.Proofs.Ytpmohibhdnmjlaa
