import Derived.Test.YtinefdlkajnomaaGreatDoorClauseI
namespace Go.Proofs.YtinefdlkajnomaaGreatDoor
open Go.RowKit
attribute [-go_sem] sliced
def joinT (a b : Tm) : Tm := compT [44] [a, b]
theorem goalsE_ok {t : Tm} (h : t.goalsE.2 = 0) : t.chk = 0 /\ t.body.all Tm.goal = true /\ t.goalsE.1 = t.body := by
 unfold Tm.goalsE at *;split at h
 · exact absurd h ‹_›
 · rename_i hc
   split at h
   · rename_i hb
     rw [if_neg hc, if_pos hb];exact ⟨by simpa using hc, hb, rfl⟩
   · cases h
theorem joinT_body (a b : Tm) : (joinT a b).body = a.body ++ b.body := Tm.body_two rfl rfl
theorem joinT_may {a b : Tm} (ha : a.may = true) (hb : b.may = true) : (joinT a b).may = true := by
 rw [Tm.may_eq];have : Tm.mays (joinT a b).args = true := by
  rw [Tm.mays_all];show (a.may && (b.may && true)) = true
  rw [ha, hb]; rfl
 rw [this];rfl
theorem joinT_chk {a b : Tm} (ha : a.chk = 0) (hb : b.chk = 0) : (joinT a b).chk = 0 \/ (joinT a b).chk = 3 := by
 have h := joinT_may (Tm.chk_may ha).1 (Tm.chk_may hb).1;unfold Tm.chk;rw [if_pos h];split
 · exact .inr rfl
 · exact .inl rfl
theorem joins_bad {a b : Tm} (h : ¬ (a.goalsE.2 = 0 /\ b.goalsE.2 = 0)) : (joinT a b).goalsE.2 ≠ 0 := by
 intro hj;obtain ⟨h1, h2, _⟩ := goalsE_ok hj;have ha : a.chk = 0 := Tm.chk_arg h1 (show a ∈ [a, b] by simp);have hb : b.chk = 0 := Tm.chk_arg h1 (show b ∈ [a, b] by simp);rw [joinT_body, List.all_append, Bool.and_eq_true] at h2;refine h ⟨?_, ?_⟩
 · unfold Tm.goalsE; rw [if_neg (by simpa using ha), if_pos h2.1]
 · unfold Tm.goalsE; rw [if_neg (by simpa using hb), if_pos h2.2]
theorem joins_ok {a b : Tm} (ha : a.goalsE.2 = 0) (hb : b.goalsE.2 = 0) (h : (joinT a b).goalsE.2 ≠ 3) : (joinT a b).goalsE.2 = 0 /\ (joinT a b).goalsE.1 = a.goalsE.1 ++ b.goalsE.1 := by
 obtain ⟨a1, a2, a3⟩ := goalsE_ok ha;obtain ⟨b1, b2, b3⟩ := goalsE_ok hb;have hg : (joinT a b).body.all Tm.goal = true := by rw [joinT_body, List.all_append, a2, b2]; rfl
 rcases joinT_chk a1 b1 with hc | hc
 · have e : (joinT a b).goalsE = ((joinT a b).body, 0) := by unfold Tm.goalsE; rw [if_neg (by simpa using hc), if_pos hg]
   rw [e, a3, b3, joinT_body];exact ⟨rfl, rfl⟩
 · refine absurd ?_ h;unfold Tm.goalsE;rw [if_pos (by rw [hc]; decide), hc]
theorem goalsE_len (t : Tm) : t.goalsE.1.length <= t.size := by
 unfold Tm.goalsE;have := t.body_length;split
 · exact Nat.zero_le _
 · split
   · exact this
   · exact Nat.zero_le _
theorem goalsE_sizes (t : Tm) : Tm.sizes t.goalsE.1 <= t.size := by
 unfold Tm.goalsE;have := t.body_sizes;split
 · exact Nat.zero_le _
 · split
   · exact this
   · exact Nat.zero_le _
theorem joinT_size (a b : Tm) : (joinT a b).size = 1 + (a.size + b.size) := by
 rw [Tm.size_eq];show 1 + (a.size + (b.size + 0)) = _
 omega
set_option maxRecDepth 100000 in
set_option maxHeartbeats 8000000 in
theorem walk_ClauseJoins (A B : Tm) (ad : Option Addr) (cap : Nat) (bd : Option Addr) (dap : Nat) (w : World) (hA : TmIn w A ad cap) (hB : TmIn w B bd dap) (hT : TabsT w) :
 Calls Tryz.prog 8 #[tmv A ad cap, tmv B bd dap] w fun e w' => e = .returned (.bool true) /\ Below w.heap.size w w' := by
 have HL := Lib.hid (fun W (hb : Below w.heap.size w W) => cl_live W (hT.on hb));have HB0 := Lib.hid (fun o1 o2 : Obj => ((Below.refl w.heap.size w).alloc (Nat.le_refl _) o1).alloc (by simp) o2);have HX0 := Lib.hid (fun o1 o2 : Obj => And.intro ((Below.heap_alloc (w.alloc o1) o2 _ (by simp)).trans (alloc_new w o1)) (alloc_new2 w o1 o2));have hsz : ∀ o1 o2 : Obj, ((w.alloc o1).alloc o2).heap.size = w.heap.size + 2 := fun _ _ => by simp
 have HA := Lib.hid (fun W (hb : Below w.heap.size w W) => hA.on hb);have HB := Lib.hid (fun W (hb : Below w.heap.size w W) => hB.on hb);have HGA := Lib.hid (fun W (h : A.size <= 3000) (hb : Below w.heap.size w W) => cl_Goals A ad cap W (by omega) (hT.on hb).1 (hA.on hb));have HGB := Lib.hid (fun W (h : B.size <= 3000) (hb : Below w.heap.size w W) => cl_Goals B bd dap W (by omega) (hT.on hb).1 (hB.on hb));have HGJ := Lib.hid (fun W (h : A.size <= 3000 /\ B.size <= 3000) (hb : Below w.heap.size w W) (g : Nat) (ht : TArgs W (some ⟨g, 0, none⟩) [A, B]) => (show Calls Tryz.prog 16 #[.agg #[.int .i64 4, .string ⟨#[44]⟩, .int .i64 0, .slice (some ⟨g, 0, none⟩) 2 2]] W _ from cl_Goals (joinT A B) (some ⟨g, 0, none⟩) 2 W (by rw [joinT_size]; omega) (hT.on hb).1 (compI (s := [44]) (cap := 2) (by decide) (Nat.le_refl 2) (by decide) ht)));have HBG := Lib.hid (fun W (hb : Below w.heap.size w W) (g : Nat) (ht : TArgs W (some ⟨g, 0, none⟩) [A, B]) => (show Calls Tryz.prog 12 #[.slice (some ⟨g, 0, none⟩) 2 2] W _ from law_big [A, B] (some ⟨g, 0, none⟩) 2 W (Nat.le_refl 2) (by decide) ht));have HBL : Hid (bigL [A, B] = false -> A.size <= 3000 /\ B.size <= 3000) := Lib.hid (fun h => ⟨bigL_mem h (by simp), bigL_mem h (by simp)⟩);have HJ1 := Lib.hid (@joins_bad A B);have HJ2 := Lib.hid (@joins_ok A B);have hlA := goalsE_len A;have hlB := goalsE_len B;have hsJ := goalsE_sizes (joinT A B);rw [joinT_size] at hsJ;clear hA hB hT;unfold tmv at *;generalize bigL [A, B] = bg at *;generalize A.goalsE = GA at *;generalize B.goalsE = GB at *;generalize (joinT A B).goalsE = GJ at *;obtain ⟨la, ea⟩ := GA;obtain ⟨lb, eb⟩ := GB;obtain ⟨lj, ej⟩ := GJ;dsimp only at *;go_enter Tryz.func8, Tryz.ntmps8;go_wp2_with fail;obtain ⟨q1, q2⟩ := HX0.out (.cells #[.int .i64 A.kind, .string A.name, .int .i64 A.n, .slice ad A.args.length cap] 26) (.cells #[.int .i64 B.kind, .string B.name, .int .i64 B.n, .slice bd B.args.length dap] 26);refine (HL.out _ (HB0.out _ _)).mono ?_; rintro e w1 ⟨rfl, hb⟩;have HB1 := Lib.hid ((HB0.out _ _).trans (hb.mono (by rw [hsz]; omega)));have HQ1 := Lib.hid (keptR hb q1);have HQ2 := Lib.hid (keptR hb q2);clear hb q1 q2 hsz HB0 HX0 HL;obtain ⟨c0, c1, c2, c3, _⟩ := cellsR4 HQ1.out;obtain ⟨d0, d1, d2, d3, _⟩ := cellsR4 HQ2.out;go_wp2_with fail;generalize hw : w1.alloc (.cells #[.int .i64 A.kind, .string A.name, .int .i64 A.n, .slice ad A.args.length cap, .int .i64 B.kind, .string B.name, .int .i64 B.n, .slice bd B.args.length dap] 26) = w1a;have HR1 : Hid (TArgs w1a (some ⟨w1.heap.size, 0, none⟩) [A, B]) := Lib.hid (by rw [<- hw]; exact row2L (HA.out _ HB1.out) (HB.out _ HB1.out) _ rfl);have hb1a : Below w1.heap.size w1 w1a := by rw [<- hw]; exact (Below.refl _ _).alloc (Nat.le_refl _) _
 have HB1a := Lib.hid (HB1.out.trans (hb1a.mono HB1.out.size));have HQ1a := Lib.hid (keptR hb1a HQ1.out);have HQ2a := Lib.hid (keptR hb1a HQ2.out);clear hw hb1a c0 c1 c2 c3 d0 d1 d2 d3 HQ1 HQ2 HB1;refine (HBG.out _ HB1a.out _ HR1.out).mono ?_; rintro e w2 ⟨rfl, hb2⟩;have HB2 := Lib.hid (HB1a.out.trans (hb2.mono HB1a.out.size));have HQ12 := Lib.hid (keptR hb2 HQ1a.out);have HQ22 := Lib.hid (keptR hb2 HQ2a.out);clear hb2 HQ1a HQ2a HR1 HB1a;cases bg with
 | true =>
  go_wp2_with fail;go_ret;exact ⟨rfl, HB2.out⟩
 | false =>
  obtain ⟨hsA, hsB⟩ := HBL.out rfl;obtain ⟨c0, c1, c2, c3, _⟩ := cellsR4 HQ12.out;go_wp2_with fail;refine (HGA.out _ hsA HB2.out).mono ?_; rintro e w3 ⟨v3, rfl, ho3, hb3⟩;have HB3 := Lib.hid (HB2.out.trans (hb3.mono HB2.out.size));have HQ13 := Lib.hid (keptR hb3 HQ12.out);have HQ23 := Lib.hid (keptR hb3 HQ22.out);have HO3 := Lib.hid ho3;clear hb3 ho3 c0 c1 c2 c3 HQ12 HQ22;obtain ⟨d0, d1, d2, d3, _⟩ := cellsR4 HQ23.out;go_wp2_with fail;refine (HGB.out _ hsB HB3.out).mono ?_; rintro e w4 ⟨v4, rfl, ho4, hb4⟩;have HB4 := Lib.hid (HB3.out.trans (hb4.mono HB3.out.size));have HO34 := Lib.hid (HO3.out.below hb4);have HO4 := Lib.hid ho4;have HQ14 := Lib.hid (keptR hb4 HQ13.out);have HQ24 := Lib.hid (keptR hb4 HQ23.out);clear hb4 ho4 d0 d1 d2 d3 HQ13 HQ23 HO3;obtain ⟨c0, c1, c2, c3, _⟩ := cellsR4 HQ14.out;obtain ⟨d0, d1, d2, d3, _⟩ := cellsR4 HQ24.out;go_wp2_with fail;generalize hw : w4.alloc (.cells #[.int .i64 A.kind, .string A.name, .int .i64 A.n, .slice ad A.args.length cap, .int .i64 B.kind, .string B.name, .int .i64 B.n, .slice bd B.args.length dap] 26) = w4a;have HR4 : Hid (TArgs w4a (some ⟨w4.heap.size, 0, none⟩) [A, B]) := Lib.hid (by rw [<- hw]; exact row2L (HA.out _ HB4.out) (HB.out _ HB4.out) _ rfl);have hb4a : Below w4.heap.size w4 w4a := by rw [<- hw]; exact (Below.refl _ _).alloc (Nat.le_refl _) _
  clear hw c0 c1 c2 c3 d0 d1 d2 d3 HQ14 HQ24;refine (ref_Comp1 _ _ _ _ _).mono ?_; rintro e w5 ⟨rfl, hb5⟩;have hb45 := hb4a.trans (hb5.mono hb4a.size);have HB5 := Lib.hid (HB4.out.trans (hb45.mono HB4.out.size));have HO35 := Lib.hid (HO34.out.below hb45);have HO45 := Lib.hid (HO4.out.below hb45);have HR5 := Lib.hid (HR4.out.on hb5);clear hb45 hb5 hb4a HR4 HO34 HO4;go_wp2_with fail;refine (HGJ.out _ ⟨hsA, hsB⟩ HB5.out _ HR5.out).mono ?_; rintro e w6 ⟨v6, rfl, ho6, hb6⟩;have HB6 := Lib.hid (HB5.out.trans (hb6.mono HB5.out.size));have HO36 := Lib.hid (HO35.out.below hb6);have HO46 := Lib.hid (HO45.out.below hb6);have HO6 := Lib.hid ho6;clear hb6 ho6 HO35 HO45 HR5;by_cases h1 : ea = 0
  · by_cases h2 : eb = 0
    · by_cases h3 : ej = 3
      · subst h1 h2 h3;go_wp2_with fail;go_ret;exact ⟨rfl, HB6.out⟩
      · obtain ⟨e0, rfl⟩ := HJ2.out h1 h2 h3;subst h1 h2 e0;obtain ⟨ad6, cap6, rfl, hl6, hc6, ht6⟩ := HO6.out.slice;obtain ⟨ad3, cap3, rfl, hl3, hc3, ht3⟩ := HO36.out.slice;obtain ⟨ad4, cap4, rfl, hl4, hc4, ht4⟩ := HO46.out.slice;obtain ⟨xa, hra, hca⟩ := row_of ht3.all.inP;obtain ⟨xb, hrb, hcb⟩ := row_of ht4.all.inP;have HRA := Lib.hid hra;have HCA := Lib.hid hca;have HRB := Lib.hid hrb;have HCB := Lib.hid hcb;have HZ6 := Lib.hid ht6.all;clear ht3 ht4 ht6 HO6 HO36 HO46 hra hrb hca hcb h3;obtain ⟨i0, hi, hz0, hz1, hz2⟩ := info_partsR infoTermR;go_wp2_with (first
         | (at_builtin; refine wpList_append_row (by rfl) _ _ 24 rfl w6.heap.size 26 i0 (.agg #[.int .i64 0, .string ⟨#[]⟩, .int .i64 0, .slice none 0 0]) 4 56 Tryz.underlying24 hi hz0 hz1 hz2 rfl (by decide) (.slice none 0 0) 0 [] rfl (World.ownsRow_nil _ _ _ _) ad3 la.length cap3 xa rfl ?c0 ?c1 ?c2 ?c3 ?c4 (Nat.le_refl _) ?_))
        case c0 => exact HRA.out.length
        case c1 =>
         intro j u hj;obtain ⟨g, o, e, h⟩ := HCA.out j u hj;exact ⟨⟨g, o, none⟩, e, by rw [addr_at]; exact h⟩
        case c2 => exact trow_cells HRA.out
        case c3 => unfold maxLen; omega
        case c4 => omega
        intro v7 w7 hown7 hgrow7 hat7;have HRA7 := Lib.hid (HRA.out.kept (Q := fun b => b < w6.heap.size) (fun b hp hs => hgrow7.block b hs (by intro e; cases e)) (fun b hp _ => hp));have HRB7 := Lib.hid (HRB.out.kept (Q := fun b => b < w6.heap.size) (fun b hp hs => hgrow7.block b hs (by intro e; cases e)) (fun b hp _ => hp));have HB7 : Hid (Below w6.heap.size w6 w7) := Lib.hid ((Below.refl _ w6).grown hgrow7 (Nat.le_refl _) (fun i hi => by cases hi));have HCB7 : Hid (∀ j u, xb[j]? = some u -> ∃ ad, ad4 = some ad /\ w7.cell? (ad.add j) = some u) := Lib.hid (fun j u hj => by
         obtain ⟨g, o, e, h⟩ := HCB.out j u hj;refine ⟨⟨g, o, none⟩, e, ?_⟩;have h2 : w6.cell? ((⟨g, o, none⟩ : Addr).add j) = some u := by rw [addr_at]; exact h
         rw [<- h2];exact HB7.out.cell (World.block_lt_of_cell? w6 _ h2))
        have HAT7 : Hid (∀ k, v7.ownBlock = some k -> k = w6.heap.size) := Lib.hid (fun k hk => by
         rcases hat7 with h | h
         · rw [h] at hk; cases hk
         · rw [h] at hk; exact (Option.some.inj hk).symm)
        have hs7 := HB7.out.size;clear hgrow7 hat7 HCA HCB HRA HRB;go_wp2_with (first
         | (at_builtin; refine wpList_append_row (by rfl) _ _ 24 rfl w6.heap.size 26 i0 (.agg #[.int .i64 0, .string ⟨#[]⟩, .int .i64 0, .slice none 0 0]) 4 56 Tryz.underlying24 hi hz0 hz1 hz2 rfl (by decide) v7 la.length xa rfl hown7 ad4 lb.length cap4 xb rfl ?d0 HCB7.out ?d2 ?d3 ?d4 hs7 ?_))
        case d0 => exact HRB7.out.length
        case d2 => exact trow_cells HRB7.out
        case d3 => unfold maxLen; omega
        case d4 => omega
        intro v8 w8 hown8 hgrow8 _;have hra8 := HRA7.out.kept (Q := fun _ => True) (fun b hp hs => hgrow8.block b hs (fun e => by have := HAT7.out b e.symm; omega)) (fun _ _ _ => trivial);have hrb8 := HRB7.out.kept (Q := fun _ => True) (fun b hp hs => hgrow8.block b hs (fun e => by have := HAT7.out b e.symm; omega)) (fun _ _ _ => trivial);have hb8 : Below w6.heap.size w6 w8 := HB7.out.grown hgrow8 hs7 (fun i hi => by have := HAT7.out i hi; omega);obtain ⟨ad8, cap8, rfl, hl8, hc8, ht8⟩ := ownT_slice (l := la ++ lb) (by rw [List.length_append]) hown8 (trow_append hra8 hrb8);have HS := Lib.hid (ref_SameAll (la ++ lb) (la ++ lb) ad6 ad8 cap6 cap8 w8 (by omega) hl6 hc6 hl8 hc8 (HZ6.out.on hb8) ht8);rw [Tm.same_true rfl, List.length_append] at HS;rw [List.length_append];have HB8 := Lib.hid (HB6.out.trans (hb8.mono HB6.out.size));clear hra8 hrb8 hgrow8 hb8 ht8 hown8 hown7;go_wp2_with fail;refine HS.out.mono ?_; rintro e w9 ⟨rfl, hb9⟩;have HB9 := Lib.hid (HB8.out.trans (hb9.mono HB8.out.size));clear hb9;go_wp2_with fail;go_ret;exact ⟨rfl, HB9.out⟩
    · have hj : (ej != 0) = true := by have := HJ1.out (fun h => h2 h.2); simpa using this
      have hb : (eb != 0) = true := by simpa using h2
      subst h1;go_wp2_with fail;go_ret;exact ⟨rfl, HB6.out⟩
  · have hj : (ej != 0) = true := by have := HJ1.out (fun h => h1 h.1); simpa using this
    have hb : (ea != 0) = true := by simpa using h1
    go_wp2_with fail;go_ret;exact ⟨rfl, HB6.out⟩
end Go.Proofs.YtinefdlkajnomaaGreatDoor
