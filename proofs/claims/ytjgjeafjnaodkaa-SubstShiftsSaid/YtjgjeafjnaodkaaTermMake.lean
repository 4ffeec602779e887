/-
  The contracts of the document's own Var1, Atom1, Int1, Comp1 and Copy for term.
-/
import Derived.Test.YtjgjeafjnaodkaaTermShift
import Derived.Test.YtjgjeafjnaodkaaTermText
namespace Go.Proofs.Ytjgjeafjnaodkaa
open Go.RowKit

theorem MadeTerm.mono {B B' : Nat} {w : World} {t : Tm} {e : Ending} {w' : World} (h : MadeTerm B w t e w') (hB : B' ≤ B) : MadeTerm B' w t e w' := by
  obtain ⟨ad, cap, he, ht, hb⟩ := h
  exact ⟨ad, cap, he, ht.kept (fun _ _ _ => rfl) (fun b hp _ => by omega), hb.mono hB⟩
theorem in64_small {x : Int} (h0 : -1000 ≤ x) (h1 : x ≤ 1000) : In64 x := ⟨by omega, by omega⟩

set_option maxHeartbeats 1000000 in
theorem ref_Var1 (n : Int) (w : World) :
    Calls Try.prog 19 #[.int .i64 n] w fun e w' => e = .returned (.agg #[.int .i64 1, .string ⟨#[]⟩, .int .i64 n, .slice none 0 0]) ∧ Below w.heap.size w w' := by
  have HB := Lib.hid (fun o : Obj => (Below.refl w.heap.size w).alloc (Nat.le_refl _) o)
  go_enter Try.func19, Try.ntmps19
  go_wp2_with fail
  exact bodyPost_ret (v := .agg #[.int .i64 1, .string ⟨#[]⟩, .int .i64 n, .slice none 0 0]) (by simp [results, Try.results19, go_sem]) rfl ⟨rfl, HB.out _⟩

set_option maxHeartbeats 1000000 in
theorem ref_Atom1 (s : ByteArray) (w : World) :
    Calls Try.prog 20 #[.string s] w fun e w' => e = .returned (.agg #[.int .i64 2, .string s, .int .i64 0, .slice none 0 0]) ∧ Below w.heap.size w w' := by
  have HB := Lib.hid (fun o : Obj => (Below.refl w.heap.size w).alloc (Nat.le_refl _) o)
  go_enter Try.func20, Try.ntmps20
  go_wp2_with fail
  exact bodyPost_ret (v := .agg #[.int .i64 2, .string s, .int .i64 0, .slice none 0 0]) (by simp [results, Try.results20, go_sem]) rfl ⟨rfl, HB.out _⟩

theorem leaf_in (w : World) {k n : Int} {s : ByteArray} (hk : In64 k) (hn : In64 n) (hs : s.size ≤ maxLen) : TmIn w (.mk k s n []) none 0 := ⟨hk, hn, hs, Nat.le_refl _, Nat.zero_le _, .nil _⟩
/-- A row of three leaves, just laid. -/
def cell3 (t : Tm) : List Value := [.int .i64 t.kind, .string t.name, .int .i64 t.n, .slice none 0 0]
theorem row3 {w : World} {a b c : Tm} (ha : TmIn w a none 0) (hb : TmIn w b none 0) (hc : TmIn w c none 0) (la : a.args = []) (lb : b.args = []) (lc : c.args = []) (C : Array Value) (hC : C = (cell3 a ++ cell3 b ++ cell3 c).toArray) :
    TArgs (w.alloc (.cells C 25)) (some ⟨w.heap.size, 0, none⟩) [a, b, c] := by
  subst hC
  have hcell : ∀ i, (w.alloc (.cells (cell3 a ++ cell3 b ++ cell3 c).toArray 25)).cell? ⟨w.heap.size, i, none⟩ = (cell3 a ++ cell3 b ++ cell3 c).toArray[i]? := fun i => World.cell?_alloc_at _ _ _ _ rfl
  have c3a : (cell3 a ++ cell3 b ++ cell3 c).toArray[3]? = some (.slice none a.args.length 0) := by rw [la]; rfl
  have c3b : (cell3 a ++ cell3 b ++ cell3 c).toArray[7]? = some (.slice none b.args.length 0) := by rw [lb]; rfl
  have c3c : (cell3 a ++ cell3 b ++ cell3 c).toArray[11]? = some (.slice none c.args.length 0) := by rw [lc]; rfl
  rw [a.eta, b.eta, c.eta]
  refine .cons _ _ _ _ _ _ _ none 0 (hcell 0) (hcell 1) (hcell 2) ((hcell 3).trans c3a) ha.kind ha.n ha.name ha.len ha.cap (by rw [la]; exact .nil _) ?_
  refine .cons _ _ _ _ _ _ _ none 0 (hcell 4) (hcell 5) (hcell 6) ((hcell 7).trans c3b) hb.kind hb.n hb.name hb.len hb.cap (by rw [lb]; exact .nil _) ?_
  exact .cons _ _ _ _ _ _ _ none 0 (hcell 8) (hcell 9) (hcell 10) ((hcell 11).trans c3c) hc.kind hc.n hc.name hc.len hc.cap (by rw [lc]; exact .nil _) (.nil _)
theorem row3g {w : World} {a b c : Tm} (ha : TmIn w a none 0) (hb : TmIn w b none 0) (hc : TmIn w c none 0) (la : a.args = []) (lb : b.args = []) (lc : c.args = []) (C : Array Value) (hC : C = (cell3 a ++ cell3 b ++ cell3 c).toArray) (g : Nat) (hg : g = w.heap.size) :
    TArgs (w.alloc (.cells C 25)) (some ⟨g, 0, none⟩) [a, b, c] := by subst hg; exact row3 ha hb hc la lb lc C hC
/-- Comp1 hands its slice on: the term's arguments lie where they lay. -/
theorem comp_in {w w' : World} {s : ByteArray} {ad : Option Addr} {cap : Nat} {ts : List Tm} (hs : s.size ≤ maxLen) (hl : ts.length ≤ cap) (hc : cap ≤ maxLen) (h : TArgs w ad ts) (hb : Below w.heap.size w w') : TmIn w' (.mk 4 s 0 ts) ad cap :=
  ⟨in64_small (x := 4) (by decide) (by decide), in64_small (x := 0) (by decide) (by decide), hs, hl, hc, h.on hb⟩

set_option maxHeartbeats 1000000 in
theorem ref_Comp1 (s : ByteArray) (ad : Option Addr) (len cap : Nat) (w : World) :
    Calls Try.prog 21 #[.string s, .slice ad len cap] w fun e w' => e = .returned (.agg #[.int .i64 4, .string s, .int .i64 0, .slice ad len cap]) ∧ Below w.heap.size w w' := by
  have HB := Lib.hid (fun o : Obj => (Below.refl w.heap.size w).alloc (Nat.le_refl _) o)
  go_enter Try.func21, Try.ntmps21
  go_wp2_with fail
  exact bodyPost_ret (v := .agg #[.int .i64 4, .string s, .int .i64 0, .slice ad len cap]) (by simp [results, Try.results21, go_sem]) rfl ⟨rfl, HB.out _⟩

mutual
theorem Tm.shift_zero : ∀ (t : Tm), (∀ n, In64 n → wrap64 n = n) → t.n64 → t.shift 0 = t
  | .mk k s n l, hw, h => by
    show Tm.mk k s (if k = 1 then add64 n 0 else n) (Tm.shifts 0 l) = _
    rw [Tm.shifts_zero l hw h.2]
    split
    · unfold add64; rw [Int.add_zero, hw n h.1]
    · rfl
theorem Tm.shifts_zero : ∀ (l : List Tm), (∀ n, In64 n → wrap64 n = n) → Tm.n64s l → Tm.shifts 0 l = l
  | [], _, _ => rfl
  | t :: l, hw, h => by
    show t.shift 0 :: Tm.shifts 0 l = _
    rw [Tm.shift_zero t hw h.1, Tm.shifts_zero l hw h.2]
end
end Go.Proofs.Ytjgjeafjnaodkaa
