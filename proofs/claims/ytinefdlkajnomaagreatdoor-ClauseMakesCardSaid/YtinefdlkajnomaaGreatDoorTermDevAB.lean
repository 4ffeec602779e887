import Derived.Test.YtinefdlkajnomaaGreatDoorIterAll
import Derived.Test.YtinefdlkajnomaaGreatDoorTermMay
import Derived.Test.YtinefdlkajnomaaGreatDoorCharDevAC
namespace Go.Proofs.YtinefdlkajnomaaGreatDoor
open Go.RowKit
attribute [local go_sem] Oper.semAt_some
def PartAt (T : Tm) (k : Nat) (x : Nat × Tm × Option Addr × Nat) : Prop := (T.parts 1)[k]? = some (x.1, x.2.1) /\ TmOk x.2.1 x.2.2.2 /\ x.1 <= 1000000
def partv (x : Nat × Tm × Option Addr × Nat) : Array Value := #[.int .i64 (x.1 : Nat), tmv x.2.1 x.2.2.1 x.2.2.2]
structure PIn (T : Tm) (n₀ q : Nat) (J : (Nat -> Prop) -> Nat -> World -> Prop) (k : Nat) (R : List Ent) (g cap : Nat) (W : World) : Prop where
 own : W.ownsRow (q + 1) 24 1 (.slice (some ⟨g, 0, none⟩) R.length cap) R.length (R.map Ent.v).reverse
 ok : ∀ e ∈ R, e.Ok W (fun b => b < n₀ \/ b = q)
 j : J (two q g) k W
 le : k <= T.size
 rest : (T.parts 1).drop k = remain (R.map Ent.ts)
 depth : R.length <= k + 1
 lt : q < W.heap.size
def PInv (T : Tm) (n₀ q : Nat) (J : (Nat -> Prop) -> Nat -> World -> Prop) (m : Nat) (p : Value) (W : World) : Prop :=
 ∃ k R g cap, p = .slice (some ⟨g, 0, none⟩) R.length cap /\ PIn T n₀ q J k R g cap W /\ m = 2 * (T.size - k) + R.length
theorem PIn.pop {T : Tm} {n₀ q : Nat} {J : (Nat -> Prop) -> Nat -> World -> Prop} {k : Nat} {ad : Option Addr} {c : Nat} {R : List Ent} {g cap : Nat} {W : World} (h : PIn T n₀ q J k (⟨[], ad, c⟩ :: R) g cap W) : PIn T n₀ q J k R g cap W :=
 ⟨by have := h.own; rw [List.map_cons, List.reverse_cons] at this; exact ownsRow_pop this, fun e he => h.ok e (.tail _ he), h.j, h.le, by have := h.rest; exact this, by have := h.depth; rw [List.length_cons] at this; omega, h.lt⟩
theorem row1P {w : World} {n₀ : Nat} {T : Tm} {ad : Option Addr} {cap : Nat} (h : TmP w (fun b => b < n₀) T ad cap) :
 TArgsP (w.alloc (.cells #[.int .i64 T.kind, .string T.name, .int .i64 T.n, .slice ad T.args.length cap] 26)) (fun b => b < n₀ \/ b = w.heap.size) (some ⟨w.heap.size, 0, none⟩) [T] := by
 have h1 := h.args.kept (w' := w.alloc (.cells #[.int .i64 T.kind, .string T.name, .int .i64 T.n, .slice ad T.args.length cap] 26)) (Q := fun b => b < n₀ \/ b = w.heap.size) (fun b _ hlt => Below.heap_alloc _ _ _ hlt) (fun b hb _ => .inl hb);rw [T.eta];exact .cons _ _ _ _ _ _ _ ad cap (.inr rfl) (World.cell?_alloc_at _ _ _ _ rfl) (World.cell?_alloc_at _ _ _ _ rfl) (World.cell?_alloc_at _ _ _ _ rfl) (World.cell?_alloc_at _ _ _ _ rfl) h.kind h.n h.name h.len h.cap h1 (.nil _)
theorem PIn.start {T : Tm} {ad : Option Addr} {cap n₀ : Nat} {J : (Nat -> Prop) -> Nat -> World -> Prop} {W : World} (hp : TmP W (fun b => b < n₀) T ad cap) (_hn : n₀ <= W.heap.size) (hJ : Abides J) (h0 : J (fun _ => False) 0 W) :
 PIn T n₀ W.heap.size J 0 [⟨[T], some ⟨W.heap.size, 0, none⟩, 1⟩] (W.heap.size + 1) 1
  ((W.alloc (.cells #[.int .i64 T.kind, .string T.name, .int .i64 T.n, .slice ad T.args.length cap] 26)).alloc (.cells #[.slice (some ⟨W.heap.size, 0, none⟩) 1 1] 24)) := by
 have hr := row1P hp;generalize hw : W.alloc (.cells #[.int .i64 T.kind, .string T.name, .int .i64 T.n, .slice ad T.args.length cap] 26) = W1 at *;have hs : W1.heap.size = W.heap.size + 1 := by rw [<- hw]; simp
 refine ⟨?_, ?_, ?_, Nat.zero_le _, ?_, Nat.le_refl _, by simp [hs]; omega⟩
 · have h1 := World.ownsRow_lit (base := W.heap.size + 1) (e := 24) (size := 1) W1 #[.slice (some ⟨W.heap.size, 0, none⟩) 1 1] 1 (by omega) (by decide) rfl;rw [hs] at h1;exact h1
 · intro e he;obtain rfl := List.mem_singleton.1 he;exact ⟨Nat.le_refl _, by show 1 <= maxLen; decide, hr.kept (fun b _ hlt => Below.heap_alloc _ _ _ hlt) fun _ h _ => h⟩
 · refine hJ _ _ 0 W _ h0 ?_ (fun j hj => .inr ?_) (fun j hj => ?_)
   · rw [<- hw]; exact (Turn.alloc _ W _).trans (Turn.alloc _ _ _)
   · rcases hj with rfl | rfl <;> omega
   · rcases hj with rfl | rfl <;> simp [hs] <;> omega
 · show (T.parts 1).drop 0 = Tm.partss [T] 1 ++ []
   rw [List.drop_zero, List.append_nil, Tm.partss_cons]; exact (List.append_nil _).symm
theorem infoTerms : (Tryz.prog.info? 24).map (fun i => (i.zero, i.size, i.bytes)) = some (some (.slice none 0 0), 1, 24) := by kernel_rfl
set_option maxRecDepth 100000 in
set_option maxHeartbeats 4000000 in
theorem parts_seq (T : Tm) (ad : Option Addr) (cap Bt n₀ : Nat) (w : World) (hM : T.size <= 1000000) (hB : w.heap[Bt]? = some (.cells #[.int .i64 T.kind, .string T.name, .int .i64 T.n, .slice ad T.args.length cap] 26 (0, 0)))
 (hp : TmP w (fun b => b < n₀) T ad cap) (hn : n₀ <= w.heap.size) :
 SeqM Tryz.prog 73 #[.pointer (some ⟨Bt, 0, none⟩)] partv (PartAt T) T.size n₀ w := fun l J Jx W hW hJ hJx hY h0 => by
 have HJ := Lib.hid hJ;have HJX := Lib.hid hJx;have HY := Lib.hid hY;have HP := Lib.hid (hp.kept (w' := W) (Q := fun b => b < n₀) (fun b _ hlt => hW.block b hlt) (fun b h _ => h));have hB' := (hW.block Bt (Array.getElem?_eq_some_iff.1 hB).1).trans hB;have hnW : n₀ <= W.heap.size := Nat.le_trans hn hW.size;clear hJ hJx hY hp hB hn hW;obtain ⟨i0, hi, hz0, hz1, hz2⟩ := info_parts infoTerms;obtain ⟨d0, d1, d2, d3, e0, e1, e2, e3⟩ : W.cell? ⟨Bt, 0, none⟩ = some (.int .i64 T.kind) /\ W.cell? ⟨Bt, 1, none⟩ = some (.string T.name) /\ W.cell? ⟨Bt, 2, none⟩ = some (.int .i64 T.n) /\ W.cell? ⟨Bt, 3, none⟩ = some (.slice ad T.args.length cap) /\
  W.frozen? ⟨Bt, 0, none⟩ = false /\ W.frozen? ⟨Bt, 1, none⟩ = false /\ W.frozen? ⟨Bt, 2, none⟩ = false /\ W.frozen? ⟨Bt, 3, none⟩ = false := by
  simp [World.cell?, World.frozen?, hB']
 clear hB';refine (callsIn_wide (n := 4)).1 ?_;refine callsIn_of_wp Tryz.func73 rfl trivial ?_ rfl;simp only [Tryz.ntmps73, List.size_toArray, List.length_cons, List.length_nil, Nat.reduceAdd, Nat.reduceSub, Array.replicate_succ, Array.replicate_zero, List.push_toArray, List.append_toArray, List.nil_append, List.cons_append]
 gi_wp2
 gi_loopw [3] (fun p wr => ∃ m, PInv T n₀ W.heap.size J m p wr) (fun p wr => least fun m => PInv T n₀ W.heap.size J m p wr)
 case atStart =>
  refine ⟨_, 0, [⟨[T], some ⟨W.heap.size, 0, none⟩, 1⟩], W.heap.size + 1, 1, rfl, ?_, rfl⟩;exact PIn.start HP.out hnW HJ.out h0
 case round =>
  obtain ⟨m0, hm0⟩ := hrel;have hm1 := least_is (R := fun m => PInv T n₀ W.heap.size J m u3 wr) hm0;generalize hmm : least (fun m => PInv T n₀ W.heap.size J m u3 wr) = m at *;have HMM := Lib.hid hmm;clear hm0 hmm;obtain ⟨k, R, g, cp, rfl, hP, hme⟩ := hm1;have hfr := fun j => hP.own.frozenAt j;obtain ⟨hg1, hg2, hnc, hcm⟩ := ownsRow_facts hP.own;have hk1 := hP.le;have hdp := hP.depth;have hq := hP.lt;have hME := Lib.hid hme;have HPP := Lib.hid hP;clear hme hP;unfold maxLen at hcm;cases R with
  | nil =>
   gi_wp2
   go_end0;have h9 := HPP.out.rest;have h8 := congrArg List.length h9;rw [List.length_drop, Tm.parts_len] at h8;have : remain (([] : List Ent).map Ent.ts) = [] := rfl;rw [this] at h8;obtain rfl : k = T.size := by simp at h8; omega
   exact ⟨⟨_, rfl⟩, .inl ⟨_, HPP.out.j⟩⟩
  | cons e R =>
   obtain ⟨ts, ead, ecap⟩ := e;have hrl : (Ent.mk ts ead ecap :: R).length = R.length + 1 := rfl;rw [hrl] at hnc hdp;have hown := HPP.out.own;have hce : wr.cell? ⟨g, R.length, none⟩ = some (.slice ead ts.length ecap) := by
    rw [hown.cellAt R.length (by rw [hrl]; omega)];simp [Ent.v]
   have hok := HPP.out.ok _ (.head _);have hel := hok.len;have hec := hok.cap;unfold maxLen at hec;dsimp only at hel hec;have HOWN := Lib.hid hown;have HOK := Lib.hid hok;clear hown hok;rw [hrl];generalize hr : R.length = r at *;have HR := Lib.hid hr;clear hr hrl;cases ts with
   | nil =>
    gi_wp2
    have h9 := PIn.pop HPP.out;refine ⟨⟨_, k, R, g, cp, by rw [HR.out], h9, rfl⟩, ?_⟩;have hmm := HMM.out;rw [List.length_cons, HR.out] at hmm;rw [hmm];refine Nat.lt_of_le_of_lt (least_le (m := 2 * (T.size - k) + R.length) ⟨k, R, g, cp, by rw [HR.out], h9, rfl⟩) ?_;have := hME.out;rw [List.length_cons] at this;omega
   | cons t ts =>
    obtain ⟨b, o, rfl⟩ := HOK.out.args.addr;obtain ⟨hPb, hblt, ad1, cap1, c0, c1, c2, c3, hto, hta, htr⟩ := HOK.out.args.head;have hbg : b ≠ g := by rcases hPb with h | h <;> omega
    have hrest := HPP.out.rest;rw [List.map_cons, remain_cons] at hrest;have hkx : (T.parts 1)[k]? = some (r + 1, t) := by
     have h8 : ((T.parts 1).drop k)[0]? = (T.parts 1)[k]? := by rw [List.getElem?_drop, Nat.add_zero]
     rw [<- h8, hrest, List.length_map, HR.out]; rfl
    have hklt : k < T.size := by
     have := (List.getElem?_eq_some_iff.1 hkx).1;rwa [Tm.parts_len] at this
    have hrest2 : (T.parts 1).drop (k + 1) = remain (t.args :: ts :: R.map Ent.ts) := by
     rw [<- List.drop_drop, hrest]; rfl
    have HAT : Hid (PartAt T k (r + 1, t, ad1, cap1)) := ⟨hkx, hto, by show r + 1 <= 1000000; omega⟩;have HTA := Lib.hid hta;have HTR := Lib.hid htr;have HREST := Lib.hid hrest2;have HPB := Lib.hid hPb;clear hto hta htr hrest hrest2 hkx hPb;rw [List.length_cons] at hce hel;have hfg := hfr r;have hsp : (ecap = 1 /\ ts = []) \/ ¬ ecap = 1 := by
     by_cases h1 : ecap = 1
     · exact .inl ⟨h1, List.eq_nil_of_length_eq_zero (by omega)⟩
     · exact .inr h1
    have hE : Hid (∃ E' : Ent, E'.v = (if ecap = 1 then .slice (some ⟨b, o, none⟩) 0 0 else .slice (some ⟨b, o + 4, none⟩) ts.length (ecap - 1)) /\ E'.ts = ts /\ E'.Ok wr (fun b => b < n₀ \/ b = W.heap.size)) := by
     rcases hsp with ⟨rfl, rfl⟩ | h1
     · exact ⟨⟨[], some ⟨b, o, none⟩, 0⟩, by rw [if_pos rfl]; rfl, rfl, Nat.le_refl _, Nat.zero_le _, .nil _⟩
     · exact ⟨⟨ts, some ⟨b, o + 4, none⟩, ecap - 1⟩, by rw [if_neg h1]; rfl, rfl, by show ts.length <= ecap - 1; omega, by unfold maxLen; show ecap - 1 <= _; omega, HTR.out⟩
    have hfg := hfr r;have hsp' : (ecap = 1 /\ ts = []) \/ (Hid (¬ ecap = 1) /\ ¬ ecap = 1) := hsp.imp id fun h => ⟨h, h⟩;clear hsp;rcases hsp' with ⟨rfl, rfl⟩ | ⟨HEC, hec1⟩
    all_goals gi_wp2
    all_goals obtain ⟨E', hE1, hE2, hE3⟩ := hE.out
    all_goals first | rw [if_pos True.intro] at hE1 | rw [if_neg HEC.out] at hE1
    all_goals try rw [List.length_nil]
    all_goals rw [<- hE1]
    all_goals have HE1 := Lib.hid hE1
    all_goals clear hE1
    all_goals have hJ1 : J (two W.heap.size g) k (wr.setCell ⟨g, r, none⟩ E'.v) := HJ.out _ _ k _ _ HPP.out.j (Turn.set _ _ (.inr rfl) _) (fun j hj => .inl hj) (fun j hj => by rcases hj with rfl | rfl <;> simp [World.setCell] <;> omega)
    all_goals obtain ⟨fn, tmps, assign, body, hy, hR⟩ := HY.out (two W.heap.size g) k (r + 1, t, ad1, cap1) _ hJ1 hklt HAT.out
    all_goals unfold partv tmv at hy
    all_goals dsimp only at hy
    all_goals rw [show (((r + 1 : Nat)) : Int) = (r : Int) + 1 from rfl] at hy
    all_goals rw [hy]
    all_goals clear hy
    all_goals gi_wp2
    all_goals
     refine hR.mono ?_;rintro e W3 (⟨rfl, hJ3, hb3, hk3⟩ | ⟨rfl, hJx3⟩)
     · have keepP : ∀ b', (b' < n₀ \/ b' = W.heap.size) -> W3.heap[b']? = wr.heap[b']? := fun b' hb' => by
        have hne : b' ≠ g := by rcases hb' with h | h <;> omega
        rcases hb' with h | h
        · exact (hb3.block b' h).trans (Below.heap_setCell _ _ _ _ hne)
        · exact (hk3.same b' (.inl h)).trans (Below.heap_setCell _ _ _ _ hne)
       have hown3 : W3.ownsRow (W.heap.size + 1) 24 1 (.slice (some ⟨g, 0, none⟩) (r + 1) cp) (r + 1) ((R.map Ent.v).reverse ++ [E'.v]) := by
        refine ownsRow_block ?_ (hk3.same g (.inr rfl));have h7 := HOWN.out.stored r E'.v;rw [List.map_cons, List.reverse_cons, List.set_append_right _ _ (by rw [List.length_reverse, List.length_map, HR.out]; exact Nat.le_refl _), List.length_reverse, List.length_map, HR.out, Nat.sub_self, List.set_cons_zero, List.length_cons, HR.out] at h7;exact h7.1
       have c3' : W3.cell? ⟨b, o + 3, none⟩ = some (.slice ad1 t.args.length cap1) := (World.cell?_of_block (w := wr) (a := ⟨b, o + 3, none⟩) (keepP b HPB.out)).trans c3;have hs3 : wr.heap.size <= W3.heap.size := Nat.le_trans (by simp [World.setCell]) hk3.size;have HK := Lib.hid keepP;have HJ3 := Lib.hid hJ3;have HB3 := Lib.hid hb3;have HK3 := Lib.hid hk3;clear keepP hJ3 hb3 hk3 hR hJ1;gi_wp2_with (gi_at_builtin; refine append_in rfl _ _ 100 rfl (W.heap.size + 1) 24 i0 (.slice none 0 0) 1 24 Tryz.underlying100 hi hz0 hz1 hz2 rfl (by decide) _ (r + 1) _ rfl (hown3.alloc _) ⟨W3.heap.size, 0, none⟩ 1 1 [.slice ad1 t.args.length cap1] rfl rfl ?c1 ?c2 (by decide) ?c3 ?c4 ?c5 (W3.heap.size + 1) (by simp) ?_)
       case c1 => exact cell_one_new _ _ _
       case c2 => intro u hu; simp at hu; subst hu; rfl
       case c3 => unfold maxLen; omega
       case c4 => omega
       case c5 => simp; omega
       intro g' cap' W4 hown4 hgrow hat hlt4;have hne4 : ∀ b', (b' < n₀ \/ b' = W.heap.size) -> some b' ≠ (Value.slice (some ⟨g, 0, none⟩) (r + 1) cp).ownBlock := fun b' hb' e => by
        have : b' = g := by simpa [Value.ownBlock] using e
        rcases hb' with h | h <;> omega
       have hsz4 := hgrow.size;rw [World.size_alloc] at hsz4;have keep4 : ∀ b', (b' < n₀ \/ b' = W.heap.size) -> b' < wr.heap.size -> W4.heap[b']? = wr.heap[b']? := fun b' hb' hlt' =>
        (hgrow.block b' (by rw [World.size_alloc]; omega) (hne4 b' hb')).trans ((Below.heap_alloc _ _ _ (by omega)).trans (HK.out b' hb'))
       have hg' : g' = g \/ g' = W3.heap.size + 1 := by
        rcases hat with h | h
        · left; simpa [Value.ownBlock] using h.symm
        · exact .inr h
       have hJ4 : J (two W.heap.size g') (k + 1) W4 := by
        refine HJ.out _ _ (k + 1) W3 W4 HJ3.out ⟨hgrow.os, hgrow.tape, hgrow.output, by omega, fun b' hb' hn => ?_⟩ (fun j hj => ?_) (fun j hj => ?_)
        · exact (hgrow.block b' (by rw [World.size_alloc]; omega) (fun e => hn (.inr (by simpa [Value.ownBlock] using e)))).trans (Below.heap_alloc _ _ _ hb')
        · rcases hj with rfl | rfl
          · exact .inl (.inl rfl)
          · rcases hg' with h | h
            · exact .inl (.inr h)
            · right; omega
        · rcases hj with rfl | rfl <;> omega
       have hP4 : PIn T n₀ W.heap.size J (k + 1) (⟨t.args, ad1, cap1⟩ :: E' :: R) g' cap' W4 := by
        refine ⟨?_, ?_, hJ4, by omega, ?_, by rw [List.length_cons, List.length_cons, HR.out]; omega, by omega⟩
        · rw [List.length_cons, List.length_cons, HR.out, List.map_cons, List.reverse_cons, List.map_cons, List.reverse_cons, List.append_assoc]; exact hown4
        · intro e he;have h1 : e.Ok wr (fun b => b < n₀ \/ b = W.heap.size) := by
           rcases List.mem_cons.1 he with rfl | he
           · exact ⟨HAT.out.2.1.len, HAT.out.2.1.cap, HTA.out⟩
           · rcases List.mem_cons.1 he with rfl | he
             · exact hE3
             · exact HPP.out.ok e (.tail _ he)
          exact h1.kept keep4
        · rw [HREST.out, List.map_cons, List.map_cons, hE2]
       have HP4 := Lib.hid hP4;clear hown4 hgrow hat hne4 keep4 hJ4 hP4 hown3 hE3 hE2 c3';gi_wp2
       have hlen4 : (⟨t.args, ad1, cap1⟩ :: E' :: R : List Ent).length = r + 1 + 1 := by rw [List.length_cons, List.length_cons, HR.out]
       refine ⟨⟨_, k + 1, _, g', cap', by rw [hlen4], HP4.out, rfl⟩, ?_⟩;have hmm := HMM.out;rw [List.length_cons, HR.out] at hmm;rw [hmm];refine Nat.lt_of_le_of_lt (least_le (m := 2 * (T.size - (k + 1)) + (r + 1 + 1)) ⟨k + 1, _, g', cap', by rw [hlen4], HP4.out, by rw [hlen4]⟩) ?_;have := hME.out;rw [List.length_cons, HR.out] at this;omega
     · clear hR hJ1;gi_wp2
       refine bodyPost_ret (results_none rfl _ _ _) rfl ?_;exact ⟨⟨_, rfl⟩, .inr ⟨_, k + 1, by omega, hJx3⟩⟩
end Go.Proofs.YtinefdlkajnomaaGreatDoor
namespace Go.Proofs.YtinefdlkajnomaaGreatDoor
open Go.RowKit Go.Shelf
attribute [local go_sem] Oper.semAt_some
def maxd (l : List (Nat × Tm)) : Nat := l.foldl (fun m p => max m p.1) 0
theorem foldmax (l : List (Nat × Tm)) (m : Nat) : l.foldl (fun m p => max m p.1) m = max m (maxd l) := by
 unfold maxd;induction l generalizing m with
 | nil => simp
 | cons p l ih => rw [List.foldl_cons, List.foldl_cons, ih, ih (max 0 p.1)]; omega
theorem maxd_append (a b : List (Nat × Tm)) : maxd (a ++ b) = max (maxd a) (maxd b) := by
 rw [maxd, List.foldl_append, foldmax]; rfl
theorem maxd_cons (p : Nat × Tm) (l : List (Nat × Tm)) : maxd (p :: l) = max p.1 (maxd l) := by
 rw [maxd, List.foldl_cons, foldmax]; omega
theorem maxd_partss' (m : Nat) : ∀ (l : List Tm) (d : Nat), Tm.sizes l <= m -> maxd (Tm.partss l (d + 1)) = if l = [] then 0 else d + Tm.deeps l := by
 induction m with
 | zero =>
  intro l d h;cases l with
  | nil => rfl
  | cons t l => rw [Tm.sizes_cons] at h; have := t.size_pos; omega
 | succ m ih =>
  intro l d h;cases l with
  | nil => rfl
  | cons t l =>
   rw [Tm.sizes_cons] at h;have h1 := t.size_eq;have h2 := ih t.args (d + 1) (by omega);have h3 := ih l d (by have := t.size_pos; omega);rw [Tm.partss_cons, Tm.parts_eq, maxd_append, maxd_cons, h2, h3, if_neg (show ¬ (t :: l = []) from nofun)];show max (max (d + 1) _) _ = d + max t.deep (Tm.deeps l)
   rw [t.deep_eq];have e1 : t.args = [] -> Tm.deeps t.args = 0 := fun e => by rw [e]; rfl
   have e2 : l = [] -> Tm.deeps l = 0 := fun e => by rw [e]; rfl
   by_cases a : t.args = [] <;> by_cases b : l = []
   · rw [if_pos a, if_pos b]; have := e1 a; have := e2 b; omega
   · rw [if_pos a, if_neg b]; have := e1 a; omega
   · rw [if_neg a, if_pos b]; have := e2 b; omega
   · rw [if_neg a, if_neg b]; omega
theorem maxd_parts (t : Tm) : maxd (t.parts 1) = t.deep := by
 rw [Tm.parts_eq, maxd_cons, maxd_partss' _ t.args 1 (Nat.le_refl _), t.deep_eq];have e1 : t.args = [] -> Tm.deeps t.args = 0 := fun e => by rw [e]; rfl
 split
 · rename_i a; have := e1 a; show max 1 0 = _; omega
 · show max 1 _ = _; omega
theorem maxd_step {l : List (Nat × Tm)} {k : Nat} {p : Nat × Tm} (h : l[k]? = some p) : maxd (l.take (k + 1)) = max (maxd (l.take k)) p.1 := by
 rw [List.take_add_one, h, maxd_append]; show max _ (maxd [p]) = _; rw [maxd_cons]; show max _ (max p.1 0) = _; omega
theorem maxd_le {T : Tm} {k : Nat} (h : T.size <= 1000000) : maxd ((T.parts 1).take k) <= 1000000 := by
 have h1 := maxd_append ((T.parts 1).take k) ((T.parts 1).drop k);rw [List.take_append_drop, maxd_parts] at h1;have := T.deep_le_size;omega
theorem new3 (w : World) (o1 o2 o3 : Obj) : (((w.alloc o1).alloc o2).alloc o3).heap[w.heap.size + 2]? = some o3 := by
 have := heap_alloc_new ((w.alloc o1).alloc o2) o3;rw [World.size_alloc, World.size_alloc] at this;exact this
theorem old3 (w : World) (o1 o2 o3 : Obj) {b : Nat} (h : b < w.heap.size) : (((w.alloc o1).alloc o2).alloc o3).heap[b]? = w.heap[b]? := by
 rw [Below.heap_alloc _ _ _ (by simp; omega), Below.heap_alloc _ _ _ (by simp; omega), Below.heap_alloc _ _ _ h]
theorem stay3 (w : World) (o1 o2 o3 : Obj) : Stay w.heap.size w [(w.heap.size + 1, o2)] (fun _ => False) (((w.alloc o1).alloc o2).alloc o3) := by
 refine ⟨(((Below.refl _ w).alloc (Nat.le_refl _) _).alloc (by simp) _).alloc (by simp; omega) _, fun _ h => h.elim, fun p hp => ?_⟩;obtain rfl := List.mem_singleton.1 hp;rw [Below.heap_alloc _ _ _ (by simp)];have := heap_alloc_new (w.alloc o1) o2;rw [World.size_alloc] at this;exact this
set_option maxHeartbeats 1000000 in
theorem term_parts (T : Tm) (ad : Option Addr) (cap : Nat) (w : World) :
 Calls Tryz.prog 55 #[tmv T ad cap] w fun e w' => e = .returned (.func (.func 73) #[] #[.pointer (some ⟨w.heap.size, 0, none⟩)]) /\ w.alloc (.cells #[.int .i64 T.kind, .string T.name, .int .i64 T.n, .slice ad T.args.length cap] 26) = w' := by
 unfold tmv;go_enter Tryz.func55, Tryz.ntmps55;go_wp2_with fail;go_ret;exact ⟨rfl, rfl⟩
end Go.Proofs.YtinefdlkajnomaaGreatDoor
namespace Go.Proofs.YtinefdlkajnomaaGreatDoor
open Go.RowKit Go.Shelf
attribute [local go_sem] Oper.semAt_some
def own1 (t : Tm) : Bool := mayK t.kind t.name t.n t.args.length true
theorem Tm.may_own (t : Tm) : t.may = (own1 t && Tm.mays t.args) := by
 rw [t.may_eq];unfold own1 mayK;by_cases h0 : t.args.length = 0
 · have : t.args = [] := List.eq_nil_of_length_eq_zero h0;rw [this];show _ = (_ && true)
   rw [Bool.and_true];rfl
 · by_cases h1 : t.kind = 1
   · rw [if_pos h1, if_pos h1, decide_eq_false h0]; simp
   rw [if_neg h1, if_neg h1];by_cases h2 : t.kind = 2
   · rw [if_pos h2, if_pos h2, decide_eq_false h0]; simp
   rw [if_neg h2, if_neg h2];by_cases h3 : t.kind = 3
   · rw [if_pos h3, if_pos h3, decide_eq_false h0]; simp
   rw [if_neg h3, if_neg h3];by_cases h4 : t.kind = 4
   · rw [if_pos h4, if_pos h4]; simp [Bool.and_assoc]
   rw [if_neg h4, if_neg h4];rfl
theorem mays_parts' (m : Nat) : ∀ (l : List Tm) (d : Nat), Tm.sizes l <= m -> (Tm.partss l d).all (fun p => own1 p.2) = Tm.mays l := by
 induction m with
 | zero =>
  intro l d h;cases l with
  | nil => rfl
  | cons t l => rw [Tm.sizes_cons] at h; have := t.size_pos; omega
 | succ m ih =>
  intro l d h;cases l with
  | nil => rfl
  | cons t l =>
   rw [Tm.sizes_cons] at h;have h1 := t.size_eq;have h2 := ih t.args (d + 1) (by omega);have h3 := ih l d (by have := t.size_pos; omega);rw [Tm.partss_cons, Tm.parts_eq, List.all_append, List.all_cons, h2, h3];show _ = (t.may && Tm.mays l)
   rw [t.may_own]
theorem may_allparts (t : Tm) : (t.parts 1).all (fun p => own1 p.2) = t.may := by
 rw [Tm.parts_eq, List.all_cons, mays_parts' _ _ _ (Nat.le_refl _), t.may_own]
set_option maxRecDepth 100000 in
set_option maxHeartbeats 4000000 in
theorem dev_may_leaf (k n : Int) (s : ByteArray) (len : Nat) (ad : Option Addr) (cap : Nat) (w : World) (all : Bool) (hT : Tabs w) (hs : s.size <= maxLen) (hk4 : k ≠ 4) :
 Calls Tryz.prog 56 #[.agg #[.int .i64 k, .string s, .int .i64 n, .slice ad len cap]] w fun e w' => e = .returned (.bool (mayK k s n len all)) /\ Below w.heap.size w w' := by
 have hC := fun w hT => char_Check s w hs hT;have HT := Lib.hid hT;unfold mayK;obtain ⟨b0, f0⟩ : ∃ b, s.toList.isEmpty = b := ⟨_, rfl⟩;rw [<- empty_tl s, f0];obtain ⟨ck, hck⟩ : ∃ c, checkL s.data.toList = c := ⟨_, rfl⟩;rw [hck] at hC;rw [hck];have HC := Lib.hid hC;clear hC hT hck hs;have hbw : ∀ o : Obj, Below w.heap.size w (w.alloc o) := fun o => (Below.refl _ w).alloc (Nat.le_refl _) _;have HBW := Lib.hid hbw;clear hbw;by_cases h1 : k = 1
 · rw [if_pos h1];subst h1;clear hk4;by_cases hn : 0 <= n
   · rw [decide_eq_true hn];by_cases hz : len = 0
     · subst hz;cases b0
       all_goals
        go_enter Tryz.func56, Tryz.ntmps56;go_wp2_with fail;go_ret;exact ⟨rfl, HBW.out _⟩
     · rw [decide_eq_false hz];have ez : ((len : Int) == 0) = false := by simp; omega
       clear hz;cases b0
       all_goals
        go_enter Tryz.func56, Tryz.ntmps56;go_wp2_with fail;go_ret;exact ⟨rfl, HBW.out _⟩
   · rw [decide_eq_false hn];have hn' : n < 0 := by omega
     clear hn f0;go_enter Tryz.func56, Tryz.ntmps56;go_wp2_with fail;go_ret;exact ⟨rfl, HBW.out _⟩
 rw [if_neg h1];have e1 : (k == 1) = false := by simpa using h1
 by_cases h2 : k = 2
 · rw [if_pos h2];subst h2;clear hk4 h1 f0;by_cases hn : n = 0
   · rw [decide_eq_true hn];subst hn;by_cases hz : len = 0
     · subst hz;cases ck
       all_goals
        go_enter Tryz.func56, Tryz.ntmps56;go_wp2_with fail;refine (HC.out _ (HT.out.on (HBW.out _))).mono ?_;rintro e w2 ⟨rfl, hb2⟩;have hb := (HBW.out _).trans (hb2.mono (by simp));obtain ⟨hc, hf⟩ := bcell_alloc hb2;clear hb2;go_wp2_with fail;go_ret;exact ⟨rfl, hb⟩
     · rw [decide_eq_false hz];have ez : ((len : Int) == 0) = false := by simp; omega
       clear hz;cases ck
       all_goals
        go_enter Tryz.func56, Tryz.ntmps56;go_wp2_with fail;refine (HC.out _ (HT.out.on (HBW.out _))).mono ?_;rintro e w2 ⟨rfl, hb2⟩;have hb := (HBW.out _).trans (hb2.mono (by simp));obtain ⟨hc, hf⟩ := bcell_alloc hb2;clear hb2;go_wp2_with fail;go_ret;exact ⟨rfl, hb⟩
   · rw [decide_eq_false hn];have en : (n == 0) = false := by simpa using hn
     clear hn;go_enter Tryz.func56, Tryz.ntmps56;go_wp2_with fail;go_ret;exact ⟨rfl, HBW.out _⟩
 rw [if_neg h2];have e2 : (k == 2) = false := by simpa using h2
 by_cases h3 : k = 3
 · rw [if_pos h3];subst h3;clear hk4 h1 h2;by_cases hz : len = 0
   · subst hz;cases b0
     all_goals
      go_enter Tryz.func56, Tryz.ntmps56;go_wp2_with fail;go_ret;exact ⟨rfl, HBW.out _⟩
   · rw [decide_eq_false hz];have ez : ((len : Int) == 0) = false := by simp; omega
     clear hz;cases b0
     all_goals
      go_enter Tryz.func56, Tryz.ntmps56;go_wp2_with fail;go_ret;exact ⟨rfl, HBW.out _⟩
 rw [if_neg h3, if_neg hk4];have e3 : (k == 3) = false := by simpa using h3
 have e4 : (k == 4) = false := by simpa using hk4
 clear h1 h2 h3 hk4 f0;go_enter Tryz.func56, Tryz.ntmps56;go_wp2_with fail;go_ret;exact ⟨rfl, HBW.out _⟩
set_option maxRecDepth 100000 in
set_option maxHeartbeats 4000000 in
theorem dev_may_comp (n : Int) (s : ByteArray) (len : Nat) (ad : Option Addr) (cap : Nat) (w : World) (hT : Tabs w) (hs : s.size <= maxLen) :
 Calls Tryz.prog 56 #[.agg #[.int .i64 4, .string s, .int .i64 n, .slice ad len cap]] w fun e w' => e = .returned (.bool (decide (n = 0) && (checkL s.data.toList && (decide (1 <= len) && (decide (len <= 16) && true))))) /\ Below w.heap.size w w' := by
 have hC := fun w hT => char_Check s w hs hT;have HT := Lib.hid hT;obtain ⟨ck, hck⟩ : ∃ c, checkL s.data.toList = c := ⟨_, rfl⟩;rw [hck] at hC;rw [hck];have HC := Lib.hid hC;clear hC hT hck hs;have hbw : ∀ o : Obj, Below w.heap.size w (w.alloc o) := fun o => (Below.refl _ w).alloc (Nat.le_refl _) _;have HBW := Lib.hid hbw;clear hbw;by_cases hn : n = 0
 · rw [decide_eq_true hn];subst hn;cases ck
   · go_enter Tryz.func56, Tryz.ntmps56;go_wp2_with fail;refine (HC.out _ (HT.out.on (HBW.out _))).mono ?_;rintro e w2 ⟨rfl, hb2⟩;have hb := (HBW.out _).trans (hb2.mono (by simp));clear hb2;go_wp2_with fail;go_ret;exact ⟨rfl, hb⟩
   · by_cases h1 : 1 <= len
     · by_cases h2 : len <= 16
       · rw [decide_eq_true h1, decide_eq_true h2];have h1' : (1 : Int) <= (len : Int) := by omega
         have h2' : (len : Int) <= 16 := by omega
         go_enter Tryz.func56, Tryz.ntmps56;go_wp2_with fail;refine (HC.out _ (HT.out.on (HBW.out _))).mono ?_;rintro e w2 ⟨rfl, hb2⟩;have hb := (HBW.out _).trans (hb2.mono (by simp));clear hb2;go_wp2_with fail;go_ret;exact ⟨rfl, hb⟩
       · rw [decide_eq_true h1, decide_eq_false h2];have h1' : (1 : Int) <= (len : Int) := by omega
         have h2' : (16 : Int) < (len : Int) := by omega
         clear h2;go_enter Tryz.func56, Tryz.ntmps56;go_wp2_with fail;refine (HC.out _ (HT.out.on (HBW.out _))).mono ?_;rintro e w2 ⟨rfl, hb2⟩;have hb := (HBW.out _).trans (hb2.mono (by simp));clear hb2;go_wp2_with fail;go_ret;exact ⟨by show Ending.returned (.bool (decide ((len : Int) <= 16))) = _; rw [decide_eq_false (by omega)]; rfl, hb⟩
     · rw [decide_eq_false h1];obtain rfl : len = 0 := by omega
       clear h1;go_enter Tryz.func56, Tryz.ntmps56;go_wp2_with fail;refine (HC.out _ (HT.out.on (HBW.out _))).mono ?_;rintro e w2 ⟨rfl, hb2⟩;have hb := (HBW.out _).trans (hb2.mono (by simp));clear hb2;go_wp2_with fail;go_ret;exact ⟨rfl, hb⟩
 · rw [decide_eq_false hn];have en : (n == 0) = false := by simpa using hn
   clear hn;go_enter Tryz.func56, Tryz.ntmps56;go_wp2_with fail;go_ret;exact ⟨rfl, HBW.out _⟩
theorem dev_mayBe (T : Tm) (ad : Option Addr) (cap : Nat) (w : World) (hT : Tabs w) (hs : T.name.size <= maxLen) :
 Calls Tryz.prog 56 #[tmv T ad cap] w fun e w' => e = .returned (.bool (own1 T)) /\ Below w.heap.size w w' := by
 unfold tmv own1;by_cases h4 : T.kind = 4
 · have h := dev_may_comp T.n T.name T.args.length ad cap w hT hs;unfold mayK;rw [if_neg (by omega), if_neg (by omega), if_neg (by omega), if_pos h4, h4];exact h
 · exact dev_may_leaf T.kind T.n T.name T.args.length ad cap w true hT hs h4
theorem size4 (w : World) (o1 o2 o3 o4 : Obj) : ((((w.alloc o1).alloc o2).alloc o3).alloc o4).heap.size = w.heap.size + 4 := by simp
theorem new4 (w : World) (o1 o2 o3 o4 : Obj) : ((((w.alloc o1).alloc o2).alloc o3).alloc o4).heap[w.heap.size + 3]? = some o4 := by
 have := heap_alloc_new (((w.alloc o1).alloc o2).alloc o3) o4;rw [World.size_alloc, World.size_alloc, World.size_alloc] at this;exact this
theorem old4 (w : World) (o1 o2 o3 o4 : Obj) {b : Nat} (h : b < w.heap.size) : ((((w.alloc o1).alloc o2).alloc o3).alloc o4).heap[b]? = w.heap[b]? := by
 rw [Below.heap_alloc _ _ _ (by simp; omega), old3 _ _ _ _ h]
theorem stay4 (w : World) (o1 o2 o3 o4 : Obj) : Stay w.heap.size w [(w.heap.size + 1, o2), (w.heap.size + 2, o3)] (fun _ => False) ((((w.alloc o1).alloc o2).alloc o3).alloc o4) := by
 refine ⟨((((Below.refl _ w).alloc (Nat.le_refl _) _).alloc (by simp) _).alloc (by simp; omega) _).alloc (by simp; omega) _, fun _ h => h.elim, fun p hp => ?_⟩;rcases List.mem_cons.1 hp with rfl | hp
 · have := (stay3 w o1 o2 o3).has _ (.head _);exact (Below.heap_alloc _ _ _ (by simp)).trans this
 · obtain rfl := List.mem_singleton.1 hp;exact (Below.heap_alloc _ _ _ (by simp)).trans (new3 w o1 o2 o3)
def OwnUpto (T : Tm) (k : Nat) : Prop := ((T.parts 1).take k).all (fun p => own1 p.2) = true
theorem cell4 {W : World} {q t : Nat} {v0 v1 v2 v3 : Value} (h : W.heap[q]? = some (.cells #[v0, v1, v2, v3] t (0, 0))) : W.cell? ⟨q, 0, none⟩ = some v0 /\ W.cell? ⟨q, 1, none⟩ = some v1 /\ W.cell? ⟨q, 2, none⟩ = some v2 /\ W.cell? ⟨q, 3, none⟩ = some v3 := by
 simp [World.cell?, h]
theorem all_step {l : List (Nat × Tm)} {k : Nat} {p : Nat × Tm} {f : Nat × Tm -> Bool} (h : l[k]? = some p) (h1 : (l.take k).all f = true) (h2 : f p = true) : (l.take (k + 1)).all f = true := by
 rw [List.take_add_one, h, List.all_append, h1]; show (true && (f p && true)) = true; rw [h2]; rfl
theorem all_hit {l : List (Nat × Tm)} {k : Nat} {p : Nat × Tm} {f : Nat × Tm -> Bool} (h : l[k]? = some p) (h2 : f p = false) : l.all f = false := by
 rw [List.all_eq_false]; exact ⟨p, List.mem_of_getElem? h, by rw [h2]; simp⟩
set_option maxRecDepth 100000 in
set_option maxHeartbeats 4000000 in
theorem term_Check (T : Tm) (ad : Option Addr) (cap : Nat) (w : World) (hM : T.size <= 1000000) (hT : Tabs w) (hin : TmIn w T ad cap) :
 Calls Tryz.prog 37 #[tmv T ad cap] w fun e w' => e = .returned (.int .i64 T.chk) /\ Below w.heap.size w w' := by
 have HP := Lib.hid hin.inP;have HTB := Lib.hid hT;clear hin hT;have HPART := Lib.hid (fun w => term_parts T ad cap w);unfold tmv at *;refine (callsIn_wide (n := 4)).1 ?_;refine callsIn_of_wp_marks Tryz.func37 rfl trivial ?_ rfl;simp only [Tryz.ntmps37, List.size_toArray, List.length_cons, List.length_nil, Nat.reduceAdd, Nat.reduceSub, Array.replicate_succ, Array.replicate_zero, List.push_toArray, List.append_toArray, List.nil_append, List.cons_append]
 gi_wp2_with ((refine ⟨trivial, ?_⟩; gi_at_call 55; refine (callsIn_wide.2 (HPART.out _)).mono ?_; rintro e w' ⟨rfl, rfl⟩))
 have hseq := parts_seq T ad cap (w.heap.size + 3) w.heap.size ((((w.alloc (.cells #[.int .i64 T.kind, .string T.name, .int .i64 T.n, .slice ad T.args.length cap] 26)).alloc (.cells #[.int .i64 0] 31)).alloc (.cells #[.int .i64 0] 3)).alloc (.cells #[.int .i64 T.kind, .string T.name, .int .i64 T.n, .slice ad T.args.length cap] 26)) hM (new4 w _ _ _ _) (HP.out.kept (fun b _ hlt => old4 w _ _ _ _ hlt) (fun b h _ => h)) (by simp; omega);have hst := stay4 w (.cells #[.int .i64 T.kind, .string T.name, .int .i64 T.n, .slice ad T.args.length cap] 26) (.cells #[.int .i64 0] 31) (.cells #[.int .i64 0] 3) (.cells #[.int .i64 T.kind, .string T.name, .int .i64 T.n, .slice ad T.args.length cap] 26);have hsz := size4 w (.cells #[.int .i64 T.kind, .string T.name, .int .i64 T.n, .slice ad T.args.length cap] 26) (.cells #[.int .i64 0] 31) (.cells #[.int .i64 0] 3) (.cells #[.int .i64 T.kind, .string T.name, .int .i64 T.n, .slice ad T.args.length cap] 26);generalize (((w.alloc (.cells #[.int .i64 T.kind, .string T.name, .int .i64 T.n, .slice ad T.args.length cap] 26)).alloc (.cells #[.int .i64 0] 31)).alloc (.cells #[.int .i64 0] 3)).alloc (.cells #[.int .i64 T.kind, .string T.name, .int .i64 T.n, .slice ad T.args.length cap] 26) = W0 at *;clear HP HPART;refine range_walk (gf := 73) (lb := #[.pointer (some ⟨w.heap.size + 3, 0, none⟩)]) rfl (enters_of Tryz.func73 (by kernel_rfl) rfl) hseq (Below.refl _ _) (by omega) (fun _ => rfl)
  (StayI w.heap.size w (fun k (_ : Unit) => [(w.heap.size + 1, .cells #[.int .i64 0] 31 (0, 0)), (w.heap.size + 2, .cells #[.int .i64 (maxd ((T.parts 1).take k) : Nat)] 3 (0, 0))]) (fun k _ => OwnUpto T k))
  (fun c => StayI w.heap.size w (fun _ (_ : Unit) => [(w.heap.size + 1, .cells #[.int .i64 30] 31 (0, 0))]) (fun _ _ => c = .ret /\ T.may = false))
  (stay_abides (Nat.le_refl _) _ _) (fun _ => stay_abides (Nat.le_refl _) _ _) ⟨(), hst, rfl⟩ ?round ?done ?stop
 case round =>
  rintro l M k ⟨d, t, tad, tcap⟩ W ⟨_, hS, hall⟩ hk hx hMl;have hM1 : ∀ j, M j -> j < W.heap.size := fun j hj => (hMl j hj).2;have hmx := maxd_le (k := k) hM;have hmx1 := Lib.hid (maxd_step hx.1);have hdle := hx.2.2;dsimp only at hdle;have HALL := Lib.hid hall;have HX := Lib.hid hx;have HS := Lib.hid hS;have HM1 := Lib.hid hM1;clear hS hx hMl hM1 hst hseq hall;unfold partv tmv;dsimp only;gi_wp2
  obtain ⟨a1, a2, a3⟩ := HS.out.grow (Nat.le_refl _) HM1.out ((Below.refl W.heap.size W).alloc (Nat.le_refl _) (.cells #[.int .i64 t.kind, .string t.name, .int .i64 t.n, .slice tad t.args.length tcap] 26));refine ⟨a1, a2, fun W₂ ht hs2 => ?_⟩;have hS3 := (a3.cons (q := W.heap.size) (fun j hj e => by have := HM1.out j hj; omega) (heap_alloc_new W _)).turn (M' := M) (Nat.le_refl _) ht (fun j hj => .inl hj);obtain ⟨c0, c1, c2, c3⟩ := cell4 (hS3.has _ (.head _));have hM3 : ∀ j, M j -> j < W₂.heap.size := fun j hj => by have := HM1.out j hj; omega
  have HS3 := Lib.hid hS3;have HM3 := Lib.hid hM3;have hmay := dev_mayBe t tad tcap W₂ (HTB.out.on hS3.below) HX.out.2.1.name;unfold tmv at hmay;clear hS3 hM3 ht a1 a2 a3;cases hown : own1 t with
  | false =>
   rw [hown] at hmay;have HMAY := Lib.hid hmay;have HNO := Lib.hid (may_allparts T ▸ all_hit HX.out.1 hown);clear hown hmay;gi_wp2_with ((refine ⟨trivial, ?_⟩; gi_at_call 56; refine (CallsIn.inRound l (callsIn_wide.2 HMAY.out)).mono ?_; rintro e W₄ ⟨rfl, hb4⟩; obtain ⟨k4, b4, s4⟩ := HS3.out.grow (Nat.le_refl _) HM3.out hb4; obtain ⟨hc4, hf4⟩ := cell1 (s4.has _ (.tail _ (.head _))); have K4 := Lib.hid k4; have B4 := Lib.hid b4; have S4 := Lib.hid s4; clear k4 b4 s4 hb4))
   obtain ⟨g1, g2, g3⟩ := S4.out.store (.tail _ (.head _)) (by omega) 0 _;refine ⟨K4.out.trans g1, (), ?_, rfl, HNO.out⟩;refine g3.less fun p hp => ?_;obtain rfl := List.mem_singleton.1 hp;unfold setL;rw [List.map_cons, List.map_cons, if_pos rfl];exact .tail _ (.head _)
  | true =>
   rw [hown] at hmay;have HMAY := Lib.hid hmay;have HYES := Lib.hid (all_step HX.out.1 HALL.out hown);clear hown hmay;gi_wp2_with ((refine ⟨trivial, ?_⟩; gi_at_call 56; refine (CallsIn.inRound l (callsIn_wide.2 HMAY.out)).mono ?_; rintro e W₄ ⟨rfl, hb4⟩; obtain ⟨k4, b4, s4⟩ := HS3.out.grow (Nat.le_refl _) HM3.out hb4; obtain ⟨hc4, hf4⟩ := cell1 (s4.has _ (.tail _ (.tail _ (.head _)))); have K4 := Lib.hid k4; have B4 := Lib.hid b4; have S4 := Lib.hid s4; clear k4 b4 s4 hb4))
   have hWs := HS.out.lt (.tail _ (.head _));dsimp only at hWs;obtain ⟨g1, g2, g3⟩ := S4.out.store (.tail _ (.tail _ (.head _))) (by omega) 0 _;refine ⟨K4.out.trans g1, B4.out.trans g2, (), ?_, HYES.out⟩;dsimp only;rw [hmx1.out, show ((max (maxd ((T.parts 1).take k)) d : Nat) : Int) = max (maxd ((T.parts 1).take k) : Int) (d : Int) by omega];refine g3.less fun p hp => ?_;simp only [setL, List.map_cons, List.map_nil]
   rw [if_neg (by omega), if_neg (by omega), if_pos trivial];rcases List.mem_cons.1 hp with rfl | hp
   · exact .tail _ (.head _)
   · obtain rfl := List.mem_singleton.1 hp;exact .tail _ (.tail _ (.head _))
 case done =>
  rintro D M W hD _ ⟨_, hS, hall⟩ hK;unfold OwnUpto at hall;rw [List.take_of_length_le (by rw [Tm.parts_len]; exact Nat.le_refl _), may_allparts] at hall;obtain ⟨hc, hf⟩ := cell1 (hS.has _ (.head _));obtain ⟨hc1, hf1⟩ := cell1 (hS.has _ (.tail _ (.head _)));have HS := Lib.hid hS;clear hS hst hseq;rw [List.take_of_length_le (by rw [Tm.parts_len]; exact Nat.le_refl _), maxd_parts] at hc1;have HA := Lib.hid hall;have HD := Lib.hid hD;have HK := Lib.hid hK;have hdl := T.deep_le_size;clear hall hD hK;by_cases h6 : 60 < T.deep
  all_goals
   gi_wp2
   have g := fun v => (HS.out.store (.head _) (by omega) 0 v).2.2.below;have hD' : w.heap.size + 4 <= D := by have := HD.out; omega
   refine ⟨by simp, .inl ⟨_, _, rfl, run_takeDeferred ((Below.heap_setCell _ _ _ _ (show D ≠ w.heap.size + 1 by omega)).trans HK.out), ?_⟩⟩;have hres := fun v : Value => (cell1 ((World.putObj_heap_other (o := .deferred none) (show w.heap.size + 1 ≠ D by omega)).trans (block_set1 (v := v) (HS.out.has _ (.head _))))).1;refine ⟨_, by simp [results, Tryz.results37, go_sem, hres]; rfl, ?_, below_mark (g _) (by omega)⟩;unfold Tm.chk;rw [if_pos HA.out];first | rw [if_pos (by omega)] | rw [if_neg (by omega)]
 case stop =>
  rintro D c M k W hD _ _ ⟨_, hS, rfl, hno⟩ hK;have HS := Lib.hid hS;have HNO := Lib.hid hno;have HK := Lib.hid hK;have hD' : w.heap.size + 4 <= D := by omega
  clear hS hno hK hst hseq hD;gi_wp2
  refine ⟨by simp, .inl ⟨_, _, rfl, run_takeDeferred HK.out, ?_⟩⟩;have hres := (cell1 ((World.putObj_heap_other (o := .deferred none) (show w.heap.size + 1 ≠ D by omega)).trans (HS.out.has _ (.head _)))).1;refine ⟨_, by simp [results, Tryz.results37, go_sem, hres]; rfl, ?_, below_mark HS.out.below (by omega)⟩;unfold Tm.chk;rw [HNO.out];rfl
end Go.Proofs.YtinefdlkajnomaaGreatDoor
