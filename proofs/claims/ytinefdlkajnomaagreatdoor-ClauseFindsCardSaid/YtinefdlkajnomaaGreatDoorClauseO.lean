import Derived.Test.YtinefdlkajnomaaGreatDoorCl3
import Derived.Test.YtinefdlkajnomaaGreatDoorTermOpen
import Derived.SizedLaws
namespace Go.Proofs.YtinefdlkajnomaaGreatDoor
open Go.RowKit Go.ChangeShapes Go.WideShapes Go.Joins
theorem list_choose {α : Type} {Q : Nat -> α -> Prop} : ∀ n : Nat, (∀ j, j < n -> ∃ a, Q j a) -> ∃ l : List α, l.length = n /\ ∀ k (hk : k < l.length), Q k l[k]
 | 0, _ => ⟨[], rfl, fun k hk => by cases hk⟩
 | n + 1, h => by
  obtain ⟨l, hl, hq⟩ := list_choose n fun j hj => h j (by omega);obtain ⟨a, ha⟩ := h n (by omega);refine ⟨l ++ [a], by rw [List.length_append, hl]; rfl, fun k hk => ?_⟩;by_cases hlt : k < l.length
  · have e : (l ++ [a])[k] = l[k] := List.getElem_append_left hlt;rw [e]; exact hq k hlt
  · rw [List.length_append, List.length_singleton] at hk;obtain rfl : k = l.length := by omega
    have e : (l ++ [a])[l.length] = a := by simp
    rw [e, hl]; exact ha
section
variable {H : Type} {enc : TypeId × Value -> H} {w : World}
set_option maxRecDepth 100000 in
theorem args_open {n : Nat} {v : Value} {x : DataW H × List MemPlace} (h : DataW.trod enc Tryz.prog w 0 (fun _ => true) true n 24 [v] = some x) :
 ∃ (ts : List Tm) (ad : Option Addr) (cap : Nat), v = .slice ad ts.length cap /\ ts.length <= cap /\ cap <= maxLen /\ TArgs w ad ts := by
 rcases DataW.trod_slice Tryz.underlying24 h with ⟨h4, _⟩ | ⟨a, len, cap, elems, rest, q, hq, h4, _, _, hlc, hcm, hel, hat, _⟩
 · obtain rfl : v = .slice none 0 0 := by simpa using h4
   exact ⟨[], none, 0, rfl, Nat.zero_le _, Nat.zero_le _, .nil _⟩
 · obtain rfl : v = .slice (some a) len cap := by simpa using h4
   rw [show Tryz.prog.cellsOf 26 = 4 by kernel_rfl] at hat;have hone : ∀ j, j < len -> ∃ (T : Tm) (ad : Option Addr) (c : Nat), w.cell? ((a.add (j * 4)).add 0) = some (.int .i64 T.kind) /\ w.cell? ((a.add (j * 4)).add 1) = some (.string T.name) /\ w.cell? ((a.add (j * 4)).add 2) = some (.int .i64 T.n) /\
    w.cell? ((a.add (j * 4)).add 3) = some (.slice ad T.args.length c) /\ TmIn w T ad c := fun j hj => by
    have h5 := hat j hj;rw [List.getElem?_eq_getElem (by omega)] at h5;obtain ⟨cs', hc1, hc2⟩ := Option.bind_eq_some_iff.1 h5;obtain ⟨T, ad, c, rfl, hin⟩ := term_open q hc2;obtain ⟨_, _, hcell⟩ := World.cells?_some hc1;exact ⟨T, ad, c, hcell 0 (by omega), hcell 1 (by omega), hcell 2 (by omega), hcell 3 (by omega), hin⟩
   by_cases hz : len = 0
   · subst hz;exact ⟨[], some a, cap, rfl, Nat.zero_le _, hcm, .nil _⟩
   · obtain ⟨_, _, _, hc, _⟩ := hone 0 (by omega);have ha : a = ⟨a.block, a.off, none⟩ := spot_none (show w.cell? a = _ from hc);obtain ⟨b, o, ha2⟩ : ∃ b o, a = ⟨b, o, none⟩ := ⟨_, _, ha⟩;subst ha2;obtain ⟨ts, hl, hts⟩ := targs_of (w := w) (b := b) len o (fun j hj => by
      have h6 := hone j hj;rw [add_plain, add_plain, add_plain, add_plain, add_plain] at h6;exact h6)
     exact ⟨ts, some ⟨b, o, none⟩, cap, by rw [<- hl], by omega, hcm, hts⟩
set_option maxRecDepth 100000 in
theorem clause_open {n : Nat} {cs : List Value} {x : DataW H × List MemPlace} (h : DataW.trod enc Tryz.prog w 0 (fun _ => true) true n 30 cs = some x) :
 ∃ (C : Cl) (ad : Option Addr) (cap : Nat) (bd : Option Addr) (bc : Nat), cs = ccells C ad cap bd bc /\ ClP w (fun b => b < w.heap.size) C ad cap bd bc := by
 obtain ⟨xs, m, hm, hx, hlen, hxl, hg⟩ := DataW.trod_struct Tryz.underlying30 h;rw [show Tryz.prog.cellsOf 30 = 6 by kernel_rfl] at hlen;match cs, hlen with
 | [v0, v1, v2, v3, v4, v5], _ =>
  match xs, hxl with
  | [y0, y1, y2], _ =>
   have g0 := hg 0 _ rfl;have g1 : DataW.trod enc Tryz.prog w 0 (fun _ => true) true m 24 [v4] = some y1 := hg 1 _ rfl;have g2 : DataW.trod enc Tryz.prog w 0 (fun _ => true) true m 3 [v5] = some y2 := hg 2 _ rfl;obtain ⟨T, ad, cap, h1, hin⟩ := term_open m (show DataW.trod enc Tryz.prog w 0 (fun _ => true) true m 26 [v0, v1, v2, v3] = some y0 from g0);obtain ⟨ts, bd, bc, rfl, hl, hc, hts⟩ := args_open g1;obtain ⟨i, hi, _, wi⟩ := DataW.trod_int Tryz.underlying3 g2;obtain rfl : v5 = .int .i64 i := by simpa using hi
   injection h1 with e0 h1;injection h1 with e1 h1;injection h1 with e2 h1;injection h1 with e3 _;subst e0 e1 e2 e3;exact ⟨⟨T, ts, i⟩, ad, cap, bd, bc, rfl, hin.inP, hl, hc, hts.inP, in64_wf wi⟩
set_option maxRecDepth 100000 in
theorem open_clauses {r : Reach} {b0 : Nat} {v : Value} {d : DataW H} {p : List MemPlace} (hv : Value.okWide Tryz.prog w r b0 40 v) (h : DataW.Trod enc Tryz.prog w 0 (fun _ => true) true 40 v d p) :
 ∃ (cs : List Cl) (ad : Option Addr) (cap : Nat), v = .slice ad cs.length cap /\ cs.length <= cap /\ cap <= maxLen /\ ClsAt w (fun b => b < w.heap.size) ad cs /\ (cs = [] \/ ∃ es sp, d = .slice es sp /\ es.length = cs.length) := by
 obtain ⟨a0, l0, c0, rfl⟩ := okWide_slice Tryz.underlying40 hv;obtain ⟨fuel, hf⟩ := h;rcases DataW.trod_slice Tryz.underlying40 hf with ⟨h4, _⟩ | ⟨a, len, cap, elems, rest, q, hq, h4, hx, _, hlc, hcm, hel, hat, _⟩
 · have h5 : Value.slice a0 l0 c0 = .slice none 0 0 := by simpa [Value.cells] using h4
   rw [h5];exact ⟨[], none, 0, rfl, Nat.zero_le _, Nat.zero_le _, (fun k hk => by cases hk), .inl rfl⟩
 · have h5 : Value.slice a0 l0 c0 = .slice (some a) len cap := by simpa [Value.cells] using h4
   rw [h5];rw [show Tryz.prog.cellsOf 30 = 6 by kernel_rfl] at hat;have hd : d = .slice (elems.map (·.1)) (rest.map (·.1)) := congrArg Prod.fst hx;have hone : ∀ j, j < len -> ∃ (C : Cl), ∃ (ad : Option Addr) (c : Nat) (bd : Option Addr) (bc : Nat), ClP w (fun b => b < w.heap.size) C ad c bd bc /\ ∀ i, i < 6 -> w.cell? ((a.add (j * 6)).add i) = (ccells C ad c bd bc)[i]? := fun j hj => by
    have h5 := hat j hj;rw [List.getElem?_eq_getElem (by omega)] at h5;obtain ⟨cs', hc1, hc2⟩ := Option.bind_eq_some_iff.1 h5;obtain ⟨C, ad, c, bd, bc, rfl, hin⟩ := clause_open hc2;obtain ⟨_, _, hcell⟩ := World.cells?_some hc1;exact ⟨C, ad, c, bd, bc, hin, fun i hi => hcell i hi⟩
   obtain ⟨cs, hl, hcs⟩ := list_choose len hone;refine ⟨cs, some a, cap, by rw [hl], by omega, hcm, fun k hk => ?_, .inr ⟨_, _, hd, by rw [List.length_map, hel, hl]⟩⟩;obtain ⟨_, _, _, _, _, hcc0⟩ := hcs 0 (by omega);have ha : a = ⟨a.block, a.off, none⟩ := spot_none (show w.cell? a = some _ from hcc0 0 (by omega));obtain ⟨b, o, ha2⟩ : ∃ b o, a = ⟨b, o, none⟩ := ⟨_, _, ha⟩;subst ha2;obtain ⟨ad, c, bd, bc, hp, hcc⟩ := hcs k hk;have hc : ∀ i, i < 6 -> w.cell? ⟨b, o + k * 6 + i, none⟩ = (ccells cs[k] ad c bd bc)[i]? := fun i hi => by
    have := hcc i hi;rw [add_plain, add_plain] at this;exact this
   have h0 := hc 0 (by omega);exact ⟨b, o, ad, c, bd, bc, rfl, World.block_lt_of_cell? w ⟨b, o + k * 6, none⟩ h0, hp, h0, hc 1 (by omega), hc 2 (by omega), hc 3 (by omega), hc 4 (by omega), hc 5 (by omega)⟩
end
end Go.Proofs.YtinefdlkajnomaaGreatDoor
