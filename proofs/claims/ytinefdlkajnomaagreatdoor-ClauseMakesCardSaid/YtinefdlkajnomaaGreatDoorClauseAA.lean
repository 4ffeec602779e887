import Derived.Test.YtinefdlkajnomaaGreatDoorCl1
import Derived.Test.YtinefdlkajnomaaGreatDoorClauseZ
namespace Go.Proofs.YtinefdlkajnomaaGreatDoor
open Go.RowKit
def RBody (P : Nat -> Prop) (B : Nat) (w : World) (v : Value) (l : List Tm) : Prop := ∃ g cap xs, v = .slice (some ⟨g, 0, none⟩) l.length cap /\ w.ownsRow B 26 4 v l.length xs /\ TRow w P xs l
theorem trow_app {w : World} {P : Nat -> Prop} {xs ys : List Value} {l m : List Tm} (h : TRow w P xs l) (k : TRow w P ys m) : TRow w P (xs ++ ys) (l ++ m) := by
 induction h with
 | nil => exact k
 | cons t ad cap xs ts ht _ ih => rw [List.append_assoc]; exact .cons t ad cap _ _ ht ih
theorem trow_one {w : World} {P : Nat -> Prop} {xs : List Value} {l : List Tm} (h : TRow w P xs l) : ∀ u ∈ xs, u.oneCell' = true := by
 induction h with
 | nil => intro u hu; cases hu
 | cons t ad cap xs ts _ _ ih =>
  intro u hu;rcases List.mem_append.1 hu with hu | hu
  · simp [tcells] at hu
    rcases hu with rfl | rfl | rfl | rfl <;> rfl
  · exact ih u hu
set_option maxRecDepth 100000 in
set_option maxHeartbeats 4000000 in
theorem rc_body (P : Nat -> Prop) (n₀ : Nat) (hP : ∀ b, P b -> b < n₀) (m : Nat) : ∀ (T : Tm) (ad : Option Addr) (cap : Nat) (w : World), T.size <= m -> T.size <= 1000000 -> n₀ <= w.heap.size -> TmP w P T ad cap ->
 Calls Tryz.prog 47 #[tmv T ad cap] w fun e w' => ∃ v, e = .returned v /\ RBody P w.heap.size w' v T.body /\ Below w.heap.size w w' := by
 induction m with
 | zero => intro T ad cap w h; have := T.size_pos; omega
 | succ m ih =>
  intro T ad cap w hm hM hn hp;have IH := Lib.hid ih;have HP := Lib.hid hp;have HIS := Lib.hid (fun W => rc_IsC T.kind T.n T.name ad T.args.length cap W);have HB0 := Lib.hid (fun o : Obj => (Below.refl w.heap.size w).alloc (Nat.le_refl _) o);clear ih hp;cases ht : T.two [44] with
  | false =>
   rw [show twoK [44] T.kind T.name.data.toList T.args.length = false from ht] at HIS;rw [Tm.body_one ht];clear ht;unfold tmv;go_enter Tryz.func47, Tryz.ntmps47;go_wp2_with fail;have q1 := alloc_new w (.cells #[.int .i64 T.kind, .string T.name, .int .i64 T.n, .slice ad T.args.length cap] 26);refine (HIS.out _).mono ?_; rintro e w1 ⟨rfl, hb⟩;obtain ⟨c0, c1, c2, c3, _⟩ := cellsT (keptR hb q1);have hb1 := (HB0.out _).trans (hb.mono (by simp));clear hb q1;go_wp2_with fail;go_ret;have hs1 := hb1.size;refine ⟨_, rfl, ⟨w1.heap.size, 1, tcells T ad cap ++ [], rfl, ?_, .cons T ad cap _ _ (HP.out.kept (fun b h hl => (Below.heap_alloc _ _ _ (by have := hP b h; omega)).trans (hb1.block b hl)) fun _ h _ => h) .nil⟩, hb1.alloc hs1 _⟩;rw [List.append_nil];exact ownsRow_low (World.ownsRow_lit (base := w1.heap.size) (e := 26) (size := 4) w1 #[.int .i64 T.kind, .string T.name, .int .i64 T.n, .slice ad T.args.length cap] 1 (Nat.le_refl _) (by decide) rfl) hs1
  | true =>
   obtain ⟨a, b, hab⟩ := Tm.two_args ht;rw [show twoK [44] T.kind T.name.data.toList T.args.length = true from ht] at HIS;rw [Tm.body_two ht hab];have hsz : T.size = 1 + (a.size + (b.size + 0)) := by rw [T.size_eq, hab]; rfl
   have hlt2 : T.args.length = 2 := by rw [hab]; rfl
   have hta := HP.out.args;rw [hab] at hta;obtain ⟨b0, o, rfl⟩ := hta.addr2 (by simp);have HA0 := Lib.hid (hta.getP 0 (by simp));have HA1 := Lib.hid (hta.getP 1 (by simp));have hla := a.body_length;have hlb := b.body_length;have hpb := b.body_pos;clear ht hta hab;unfold tmv;rw [hlt2] at HIS ⊢;go_enter Tryz.func47, Tryz.ntmps47;go_wp2_with fail;have q1 := alloc_new w (.cells #[.int .i64 T.kind, .string T.name, .int .i64 T.n, .slice (some ⟨b0, o, none⟩) 2 cap] 26);refine (HIS.out _).mono ?_; rintro e w1 ⟨rfl, hb⟩;have hq1 := keptR hb q1;have hb1 := (HB0.out _).trans (hb.mono (by simp));obtain ⟨aad, acap, hbp, x0, x1, x2, x3, hxa⟩ := HA0.out;have hbn := hP _ hbp;obtain ⟨bad, bcap, _, z0, z1, z2, z3, hxb⟩ := HA1.out;simp only [Nat.zero_mul, Nat.one_mul, Nat.add_zero, List.getElem_cons_zero, List.getElem_cons_succ] at x0 x1 x2 x3 z0 z1 z2 z3 hxa hxb
   have HK : Hid (∀ W, Below w1.heap.size w1 W -> W.cell? ⟨w.heap.size, 3, none⟩ = some (.slice (some ⟨b0, o, none⟩) 2 cap) /\ W.cell? ⟨b0, o, none⟩ = some (.int .i64 a.kind) /\ W.cell? ⟨b0, o + 1, none⟩ = some (.string a.name) /\ W.cell? ⟨b0, o + 2, none⟩ = some (.int .i64 a.n) /\ W.cell? ⟨b0, o + 3, none⟩ = some (.slice aad a.args.length acap) /\ W.cell? ⟨b0, o + 4, none⟩ = some (.int .i64 b.kind) /\ W.cell? ⟨b0, o + 4 + 1, none⟩ = some (.string b.name) /\ W.cell? ⟨b0, o + 4 + 2, none⟩ = some (.int .i64 b.n) /\ W.cell? ⟨b0, o + 4 + 3, none⟩ = some (.slice bad b.args.length bcap)) := Lib.hid (fun W h => by
    have kb : ∀ i, W.cell? ⟨b0, i, none⟩ = w.cell? ⟨b0, i, none⟩ := fun i => (h.cell (p := ⟨b0, i, none⟩) (show b0 < w1.heap.size by have := hb1.size; omega)).trans (hb1.cell (p := ⟨b0, i, none⟩) (show b0 < w.heap.size by omega));exact ⟨(cellsT (keptR h hq1)).2.2.2.1, (kb _).trans x0, (kb _).trans x1, (kb _).trans x2, (kb _).trans x3, (kb _).trans z0, (kb _).trans z1, (kb _).trans z2, (kb _).trans z3⟩)
   have HB1 := Lib.hid hb1;have hs1 := hb1.size;have HCA := Lib.hid (fun W (h : Below w1.heap.size w1 W) => IH.out a aad acap W (by omega) (by omega) (by have := h.size; omega) (hxa.kept (fun b hb _ => (h.block b (by have := hP b hb; omega)).trans (hb1.block b (by have := hP b hb; omega))) fun _ h _ => h));have HCB := Lib.hid (fun W (h : Below w1.heap.size w1 W) => IH.out b bad bcap W (by omega) (by omega) (by have := h.size; omega) (hxb.kept (fun b hb _ => (h.block b (by have := hP b hb; omega)).trans (hb1.block b (by have := hP b hb; omega))) fun _ h _ => h));unfold tmv at HCA HCB;have bD : Below w1.heap.size w1 w1.drew := (Below.refl _ w1).drew;clear hb q1 hq1 hb1 x0 x1 x2 x3 z0 z1 z2 z3 hxa hxb HA0 HA1;go_upto_region 2 with fail;go_region_held3 (fun W => W.cell? ⟨w.heap.size, 3, none⟩ = some (.slice (some ⟨b0, o, none⟩) 2 cap) /\ W.cell? ⟨b0, o, none⟩ = some (.int .i64 a.kind) /\ W.cell? ⟨b0, o + 1, none⟩ = some (.string a.name) /\ W.cell? ⟨b0, o + 2, none⟩ = some (.int .i64 a.n) /\ W.cell? ⟨b0, o + 3, none⟩ = some (.slice aad a.args.length acap) /\ W.cell? ⟨b0, o + 4, none⟩ = some (.int .i64 b.kind) /\ W.cell? ⟨b0, o + 4 + 1, none⟩ = some (.string b.name) /\ W.cell? ⟨b0, o + 4 + 2, none⟩ = some (.int .i64 b.n) /\ W.cell? ⟨b0, o + 4 + 3, none⟩ = some (.slice bad b.args.length bcap))
    (first | with_reducible exact HK.out _ bD | with_reducible exact HK.out _ b2 | with_reducible exact HK.out _ b3 | with_reducible exact HK.out _ b9)
    (first
      | (go_at_call 47; (with_reducible refine (HCA.out _ bD).mono ?_); rintro e w2 ⟨v2, rfl, ⟨g2, cap2, xa, rfl, ho2, hr2⟩, hb2⟩; have b2 := bD.trans (hb2.mono bD.size); have HO2 := Lib.hid ho2; have HR2 := Lib.hid hr2; clear ho2 hr2)
      | (go_at_call 47; (with_reducible refine (HCB.out _ b2).mono ?_); rintro e w3 ⟨v3, rfl, ⟨g3, cap3, xb, rfl, ho3, hr3⟩, hb3⟩; have b3 := b2.trans (hb3.mono b2.size); have hoa := ownsRow_kept HO2.out fun g _ hl => hb3.block g hl; have hlb3 := ho3.1; have hlt2 := HO2.out.lt; have hc3 := World.ownsRow.cells ho3 (g := g3) rfl; have HO3 := Lib.hid ho3; have HR3 := Lib.hid hr3; clear ho3 hr3)
      | (refine step_app_terms (by rfl) (.tmp 9) (.tmp 14) (by rfl) (by rfl) hoa (by rfl) hlb3 hc3 (trow_one HR3.out) hpb (by omega) (show w1.drew.heap.size <= w3.heap.size from b3.size) ?_; intro g9 cap9 w9 hown9 hgrow hat hlt9; have b9 : Below w1.heap.size w1 w9 := b3.grown hgrow (by have := b3.size; omega) (fun i hi => (hlt2 i hi).1)))
   have ha9 : TRow w9 P xa a.body := HR2.out.kept (fun b hb _ => (b9.block b (by have := hP b hb; omega)).trans (b2.block b (by have := hP b hb; omega)).symm) fun _ h _ => h;have hb9 : TRow w9 P xb b.body := HR3.out.kept (fun b hb _ => (b9.block b (by have := hP b hb; omega)).trans (b3.block b (by have := hP b hb; omega)).symm) fun _ h _ => h;have HA9 := Lib.hid (trow_app ha9 hb9);have HO9 := Lib.hid hown9;have HB9 := Lib.hid (HB1.out.trans (b9.mono hs1));clear ha9 hb9 hown9 hgrow hat hoa hc3;go_wp2_with fail;go_ret;refine ⟨.slice (some ⟨g9, 0, none⟩) (a.body.length + b.body.length) cap9, rfl, ⟨g9, cap9, xa ++ xb, by rw [List.length_append], ?_, HA9.out⟩, HB9.out⟩;rw [List.length_append];exact ownsRow_low HO9.out hs1
end Go.Proofs.YtinefdlkajnomaaGreatDoor
