/-
  The contracts of the document's own Walk and Fresh for subst, from outside.
-/
import Derived.Test.YtjgjeafjnaodkaaSubC
namespace Go.Proofs.Ytjgjeafjnaodkaa
open Go.RowKit

theorem below_turn {n : Nat} {M : Nat → Prop} {w W W' : World} (h : Below n w W) (k : Turn M W W') (hM : ∀ j, M j → n ≤ j) (hn : n ≤ W.heap.size) : Below n w W' := h.trans (k.below hM hn)

set_option maxRecDepth 100000 in
set_option maxHeartbeats 4000000 in
theorem r9_Walk (bs : List (Int × Tm)) (ab : Option Addr) (cb : Nat) (t : Tm) (ad : Option Addr) (cap : Nat) (w : World) (P : Nat → Prop) (hlen : bs.length ≤ 1000000) (hP : ∀ b, P b → b < w.heap.size) (hb : BdsAt w P ab bs) (ht : TmP w P t ad cap) :
    Calls Try.prog 10 #[.slice ab bs.length cb, tmv t ad cap] w fun e w' => ∃ a2 c2, e = .returned (.tuple #[tmv (walkL bs 0 t).1 a2 c2, .int .i64 (walkL bs 0 t).2.1]) ∧ TmP w' P (walkL bs 0 t).1 a2 c2 ∧ Below w.heap.size w w' := by
  have HP := Lib.hid hP
  have HB0 := Lib.hid (fun o1 o2 o3 : Obj => (((Below.refl w.heap.size w).alloc (Nat.le_refl _) o1).alloc (by simp) o2).alloc (by simp; omega) o3)
  have HBD := Lib.hid (fun W (h : Below w.heap.size w W) => hb.on h)
  have HT := Lib.hid (fun W (h : Below w.heap.size w W) => ht.onS h)
  clear hb ht hP
  obtain ⟨r, hr⟩ : ∃ r, walkL bs 0 t = r := ⟨_, rfl⟩
  rw [hr]
  have HR := Lib.hid hr
  clear hr
  unfold tmv
  go_enter Try.func10, Try.ntmps10
  go_wp2_with fail
  have hw0 := HB0.out (.cells #[.int .i64 t.kind, .string t.name, .int .i64 t.n, .slice ad t.args.length cap] 25) (.cells #[.int .i64 0, .string ⟨#[]⟩, .int .i64 0, .slice none 0 0] 25) (.cells #[.int .i64 0] 52)
  have hm0 := alloc_new ((w.alloc (.cells #[.int .i64 t.kind, .string t.name, .int .i64 t.n, .slice ad t.args.length cap] 25)).alloc (.cells #[.int .i64 0, .string ⟨#[]⟩, .int .i64 0, .slice none 0 0] 25)) (.cells #[.int .i64 0] 52)
  simp only [World.size_alloc] at hm0
  have hq0 := (Below.heap_alloc ((w.alloc (.cells #[.int .i64 t.kind, .string t.name, .int .i64 t.n, .slice ad t.args.length cap] 25)).alloc (.cells #[.int .i64 0, .string ⟨#[]⟩, .int .i64 0, .slice none 0 0] 25)) (.cells #[.int .i64 0] 52) (w.heap.size + 1) (by simp)).trans (alloc_new2 w (.cells #[.int .i64 t.kind, .string t.name, .int .i64 t.n, .slice ad t.args.length cap] 25) (.cells #[.int .i64 0, .string ⟨#[]⟩, .int .i64 0, .slice none 0 0] 25))
  generalize ((w.alloc _).alloc _).alloc _ = w0 at *
  have hz := (Array.getElem?_eq_some_iff.1 hm0).1
  have HW := Lib.hid (r9_walk bs ab cb (w.heap.size + 1 + 1) 0 t ad cap w0 P hlen (fun b hb => by have := HP.out b hb; omega) (HBD.out _ hw0) hm0 (Nat.zero_le _) (HT.out _ hw0))
  unfold tmv at HW
  rw [HR.out] at HW
  have HB := Lib.hid hw0
  have HQ := Lib.hid hq0
  clear hw0 hm0 hq0
  refine HW.out.mono ?_; rintro e w1 ⟨a2, c2, rfl, hp, _, htn⟩
  have hq1 := (htn.block (w.heap.size + 1) (by omega) (by omega)).trans HQ.out
  have HB1 := Lib.hid (below_turn HB.out htn (fun j e => by omega) HB.out.size)
  have HP1 := Lib.hid hp
  have HQ1 := Lib.hid hq1
  have HL := Lib.hid (set4_low (q := w.heap.size + 1) (x := .int .i64 r.1.kind) (y := .string r.1.name) (z := .int .i64 r.1.n) (u := .slice a2 r.1.args.length c2) HB1.out (Nat.le_succ _))
  have HO := Lib.hid (HP1.out.kept (Q := P) (fun b hb _ => set4_oth (W := w1) (q := w.heap.size + 1) (.int .i64 r.1.kind) (.string r.1.name) (.int .i64 r.1.n) (.slice a2 r.1.args.length c2) (by have := HP.out b hb; omega)) fun _ h _ => h)
  have G4 := Lib.hid (set4_blk hq1 (.int .i64 r.1.kind) (.string r.1.name) (.int .i64 r.1.n) (.slice a2 r.1.args.length c2))
  obtain ⟨z0, z1, z2, z3, e0, e1, e2, e3⟩ := cellsT hq1
  clear htn hp hq1
  unfold tmv
  go_wp2_with fail
  obtain ⟨y0, y1, y2, y3, _⟩ := cellsT G4.out
  refine bodyPost_ret (v := .tuple #[tmv r.1 a2 c2, .int .i64 r.2.1]) (by simp [results, Try.results10, go_sem, tmv, y0, y1, y2, y3]) rfl ?_
  exact ⟨a2, c2, rfl, HO.out, HL.out⟩

set_option maxRecDepth 100000 in
set_option maxHeartbeats 4000000 in
theorem r9_Fresh (c : Int) (t : Tm) (ad : Option Addr) (cap : Nat) (w : World) (hM : t.size ≤ 1000000) (ht : TmIn w t ad cap) :
    Calls Try.prog 15 #[tmv t ad cap, .int .i64 c] w (MadeTerm w.heap.size w (t.shift c)) := by
  have HB0 := Lib.hid (fun o1 o2 : Obj => ((Below.refl w.heap.size w).alloc (Nat.le_refl _) o1).alloc (by simp) o2)
  have HS := Lib.hid (fun W (h : Below w.heap.size w W) => ref_Shift c t.size t ad cap W (Nat.le_refl _) hM (ht.on h))
  clear ht
  generalize t.shift c = x at *
  unfold MadeTerm tmv at *
  go_enter Try.func15, Try.ntmps15
  go_wp2_with fail
  have hw0 := HB0.out (.cells #[.int .i64 t.kind, .string t.name, .int .i64 t.n, .slice ad t.args.length cap] 25) (.cells #[.int .i64 0, .string ⟨#[]⟩, .int .i64 0, .slice none 0 0] 25)
  have hq0 := alloc_new2 w (.cells #[.int .i64 t.kind, .string t.name, .int .i64 t.n, .slice ad t.args.length cap] 25) (.cells #[.int .i64 0, .string ⟨#[]⟩, .int .i64 0, .slice none 0 0] 25)
  generalize (w.alloc _).alloc _ = w0 at *
  have hz := (Array.getElem?_eq_some_iff.1 hq0).1
  refine (HS.out _ hw0).mono ?_; rintro e w1 ⟨a2, c2, rfl, hp, hb⟩
  have hq1 := keptR9 hb hq0
  have HB1 := Lib.hid (hw0.trans (hb.mono hw0.size))
  have HL := Lib.hid (set4_low (q := w.heap.size + 1) (x := .int .i64 x.kind) (y := .string x.name) (z := .int .i64 x.n) (u := .slice a2 x.args.length c2) HB1.out (Nat.le_succ _))
  have HO := Lib.hid (hp.kept (Q := fun b => w.heap.size ≤ b) (fun b hb _ => set4_oth (W := w1) (q := w.heap.size + 1) (.int .i64 x.kind) (.string x.name) (.int .i64 x.n) (.slice a2 x.args.length c2) (by omega)) fun b h _ => by omega)
  have G4 := Lib.hid (set4_blk hq1 (.int .i64 x.kind) (.string x.name) (.int .i64 x.n) (.slice a2 x.args.length c2))
  obtain ⟨z0, z1, z2, z3, e0, e1, e2, e3⟩ := cellsT hq1
  clear hp hq1 hb hw0 hq0
  go_wp2_with fail
  obtain ⟨y0, y1, y2, y3, _⟩ := cellsT G4.out
  refine bodyPost_ret (v := tmv x a2 c2) (by simp [results, Try.results15, go_sem, tmv, y0, y1, y2, y3]) rfl ?_
  exact ⟨a2, c2, rfl, HO.out, HL.out⟩
end Go.Proofs.Ytjgjeafjnaodkaa
