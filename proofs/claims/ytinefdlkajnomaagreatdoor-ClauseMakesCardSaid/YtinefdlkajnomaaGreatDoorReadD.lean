import Derived.Test.YtinefdlkajnomaaGreatDoorReadB
namespace Go.Proofs.YtinefdlkajnomaaGreatDoor
open Go.RowKit
attribute [-go_sem] sliced
theorem idxGo_is (s : List UInt8) : ∀ (ns : Nms) (i : Int), idxGo ⟨s.toArray⟩ (nmB ns) i = if s ∈ ns then i + (ns.idxOf s : Nat) else -1
 | [], i => rfl
 | x :: ns, i => by
  show (if (⟨s.toArray⟩ : ByteArray).toList == (⟨x.toArray⟩ : ByteArray).toList then i else idxGo ⟨s.toArray⟩ (nmB ns) (i + 1)) = _
  rw [ByteArray.toList_eq, ByteArray.toList_eq];show (if s == x then i else idxGo ⟨s.toArray⟩ (nmB ns) (i + 1)) = _
  by_cases hx : s = x
  · subst hx;rw [if_pos (by simp), if_pos (by simp), List.idxOf_cons_self]; simp
  · have h1 : (s == x) = false := by simpa using hx
    rw [h1, if_neg (by decide), idxGo_is s ns (i + 1)];by_cases hm : s ∈ ns
    · rw [if_pos hm, if_pos (List.mem_cons_of_mem _ hm), List.idxOf_cons, beq_eq_false_iff_ne.2 (fun e => hx e.symm)];show i + 1 + _ = i + ((ns.idxOf s + 1 : Nat) : Int)
      omega
    · rw [if_neg hm, if_neg (by simp [hm, hx])]
theorem nmB_len (ns : Nms) : (nmB ns).length = ns.length := List.length_map _
theorem nmB_snoc (ns : Nms) (s : List UInt8) : nmB (ns ++ [s]) = nmB ns ++ [⟨s.toArray⟩] := by unfold nmB; rw [List.map_append]; rfl
theorem leafR (w : World) (B : Nat) (v : Value) {k n : Int} {s : ByteArray} (hk : In64 k) (hn : In64 n) (hs : s.size <= maxLen) : TmB B w v (.mk k s n []) none 0 := ⟨hk, hn, hs, Nat.le_refl _, Nat.zero_le _, .nil _⟩
theorem info_partsR {t : TypeId} {z : Value} {s b : Nat} (h : (Tryz.prog.info? t).map (fun i => (i.zero, i.size, i.bytes)) = some (some z, s, b)) : ∃ i, Tryz.prog.info? t = some i /\ i.zero = some z /\ i.size = s /\ i.bytes = b := by
 cases hi : Tryz.prog.info? t with
 | none => rw [hi] at h; cases h
 | some i =>
  rw [hi] at h;simp only [Option.map_some, Option.some.injEq, Prod.mk.injEq] at h
  exact ⟨i, rfl, h.1, h.2.1, h.2.2⟩
theorem in64R {x : Int} (h0 : -1000 <= x) (h1 : x <= 1000) : In64 x := ⟨by omega, by omega⟩
theorem RMem.grow {w w3 : World} {r : Nat} {v v3 : Value} {ts : List Tok} {ns : Nms} (h : RMem w r v ts ns) (s : List UInt8) (o : Obj)
 (hown : w3.ownsRow (r + 1) 9 1 v3 (ns.length + 1) (strs (nmB ns) ++ [.string ⟨s.toArray⟩])) (hg : (w.alloc o).grownBy w3 v.ownBlock) (hnew : v3.ownBlock = v.ownBlock \/ ∃ g, v3.ownBlock = some g /\ w.heap.size <= g) :
 RMem (w3.setCell ⟨r, 1, none⟩ v3) r v3 ts (ns ++ [s]) /\ RGo r v w v3 (w3.setCell ⟨r, 1, none⟩ v3) /\ w3.cell? ⟨r, 1, none⟩ = some v /\ w3.frozen? ⟨r, 1, none⟩ = false /\ w3.cell? ⟨r, 0, none⟩ = w.cell? ⟨r, 0, none⟩ := by
 have hlt := h.lt;have hne : some r ≠ v.ownBlock := fun e => by have := (h.names.lt r e.symm).1; omega
 obtain ⟨g, k, cap, hgr, hr, hl, hc, ht⟩ := h.ex;have hneg : some g ≠ v.ownBlock := fun e => by have := (h.names.lt g e.symm).1; omega
 have keep : ∀ b, b < w.heap.size -> some b ≠ v.ownBlock -> w3.heap[b]? = w.heap[b]? := fun b hb hv => by
  rw [hg.block b (by rw [World.size_alloc]; omega) hv, Below.heap_alloc w o b hb]
 have hr3 := (keep r hlt hne).trans hr;have hr4 := Lib.heap_setCell_same (i := 1) hr3 v3;have hown2 : OwnStrs (r + 1) w3 v3 (nmB (ns ++ [s])) := by
  rw [nmB_snoc];exact OwnStrs.snoc hown (by rw [List.length_append, nmB_len]; rfl) rfl
 have hb : Below r w w3 := ((Below.refl r w).alloc (by omega) o).grown hg (by rw [World.size_alloc]; omega) (fun i hi => by have := (h.names.lt i hi).1; omega);refine ⟨⟨⟨g, k, cap, hgr, by simpa using hr4, hl, hc, ht.kept (fun hs => ?_)⟩, hown2.kept (fun b hb _ => Below.heap_setCell _ _ _ _ (show b ≠ r by have := (hown2.lt b hb).1; omega))⟩, ⟨hb.setCell (p := ⟨r, 1, none⟩) (Nat.le_refl _) v3, fun b hb h1 h2 => ?_, hnew⟩, (cellsR2 hr3).2.1, (cellsR2 hr3).2.2.2, by rw [(cellsR2 hr3).1, (cellsR2 hr).1]⟩
 · rw [Below.heap_setCell _ _ _ _ (show g ≠ r by omega), keep g hs hneg]
 · rw [Below.heap_setCell _ _ _ _ h1, keep b hb h2]
set_option maxRecDepth 100000 in
set_option maxHeartbeats 1500000 in
theorem rd_variable (w : World) (r : Nat) (v : Value) (ts : List Tok) (ns : Nms) (h : RMem w r v ts ns) (hf : Fine ts) (hk : (fstT ts).kind ≠ 9) (hn : ns.length <= 200) :
 Calls Tryz.prog 145 #[.pointer (some ⟨r, 0, none⟩)] w fun e w' => ROut r v w (varR ts ns) e w' := by
 have h2 := hf.two hk;have HH := Lib.hid h;have hlt := h.lt;have HF := Lib.hid (fun W (hb : Below w.heap.size w W) => rd_first W r v ts ns (h.below hb) hf.pos);have HX := Lib.hid (fun W (hb : Below w.heap.size w W) => slices_Index (nmB ns) ⟨(fstT ts).text.toArray⟩ v (r + 1) W (h.names.below hb) (by rw [nmB_len]; omega));have HB := Lib.hid (fun o : Obj => (Below.refl w.heap.size w).alloc (Nat.le_refl _) o);have hq0 := newR w (.cells #[.int .i64 0, .string ⟨#[]⟩, .int .i64 0, .slice none 0 0] 26);have HQ := Lib.hid hq0;have hi := idxGo_is (fstT ts).text ns 0;have heq := text_is (fstT ts).text [95];have f1 := tok_field1;rw [hi] at HX;unfold varR;clear h hf hk hq0 hi;unfold tokv at HF;have hnew := HH.out.new_ne (Nat.le_refl _);by_cases hA : (fstT ts).text ∈ ns /\ (fstT ts).text ≠ [95]
 · rw [if_pos hA.1] at HX;rw [if_pos hA];have h95 : ((fstT ts).text == [95]) = false := by simpa using hA.2
   have hlt0 : ns.idxOf (fstT ts).text < ns.length := List.idxOf_lt_length_of_mem hA.1;rw [h95] at heq;clear hA h95;generalize ns.idxOf (fstT ts).text = N at *;generalize (⟨(fstT ts).text.toArray⟩ : ByteArray) = u at *;generalize fstT ts = t at *;have hN0 : ¬ (0 + (N : Int)) < 0 := by omega
   go_enter Tryz.func145, Tryz.ntmps145;go_wp2_with fail;refine (HF.out _ (HB.out _)).mono ?_; rintro e w1 ⟨rfl, hb1⟩;have hq1 := keptR hb1 HQ.out;have hbw1 := (HB.out (.cells #[.int .i64 0, .string ⟨#[]⟩, .int .i64 0, .slice none 0 0] 26)).trans (hb1.mono (by simp));have hm1 := HH.out.below hbw1;have HQ1 := Lib.hid hq1;have HB1 := Lib.hid hbw1;have HM1 := Lib.hid hm1;obtain ⟨g, k, cap, hgr, hr, _⟩ := hm1.ex;obtain ⟨_, r1, _, z1⟩ := cellsR2 hr;clear hb1 hq1 hbw1 hm1 hr;go_wp2_with fail;refine (HX.out _ HB1.out).mono ?_; rintro e w2 ⟨rfl, rfl⟩;go_wp2_with fail;refine (rd_pass _ r v ts ns HM1.out h2).mono ?_; rintro e w3 ⟨rfl, hm3, hg3⟩;have hq3 := hg3.at HQ1.out (by have := hnew.1; omega) hnew.2;obtain ⟨d0, d1, d2, d3, e0, e1, e2, e3⟩ := cellsR4 hq3;have HM3 := Lib.hid hm3;have HG3 := Lib.hid ((RGo.of_below HB1.out (Nat.le_of_lt hlt)).trans hg3);clear hm3 hg3 hq3 r1 z1;go_wp2_with fail;refine bodyPost_ret (v := .agg #[.int .i64 1, .string ⟨#[]⟩, .int .i64 N, .slice none 0 0]) (by simp [results, Tryz.results145, go_sem, d0, d1, d2, d3]) rfl ⟨v, none, 0, rfl, ?_⟩;exact ROk.fin (B := w.heap.size + 1) HM3.out HG3.out (leafR _ _ _ (in64R (by decide) (by decide)) (in64R (by omega) (by omega)) (Nat.zero_le _)) hlt (Nat.le_refl _) (by omega) hnew.2 _ _ _ _
 · have hcase : ∃ N b95, Hid (idxGo ⟨(fstT ts).text.toArray⟩ (nmB ns) 0 = N) /\ ((⟨(fstT ts).text.toArray⟩ : ByteArray).toList == [95]) = b95 /\ ((N < 0 /\ b95 = false) \/ (N < 0 /\ b95 = true) \/ (¬ N < 0 /\ b95 = true)) := by
    refine ⟨_, _, Lib.hid (idxGo_is (fstT ts).text ns 0), heq, ?_⟩;by_cases hm : (fstT ts).text ∈ ns
    · rw [if_pos hm];refine .inr (.inr ⟨by omega, ?_⟩);apply Classical.byContradiction
      intro hc;exact hA ⟨hm, fun e => hc (by rw [e]; rfl)⟩
    · rw [if_neg hm];cases hb : ((fstT ts).text == [95])
      · exact .inl ⟨by decide, rfl⟩
      · exact .inr (.inl ⟨by decide, rfl⟩)
   rw [if_neg hA];obtain ⟨N, b95, hN, h95, hcs⟩ := hcase;rw [<- idxGo_is, hN.out] at HX;have HR := Lib.hid (fun W (hb : Below w.heap.size w W) => rd_refuse W r v ts ns (HH.out.below hb) (by omega));clear heq hN;obtain ⟨i0, hi, hz0, hz1, hz2⟩ := info_partsR infoStr;obtain ⟨adv, capv, hvv, hvl, hvc, _⟩ := HH.out.names.view;rw [nmB_len] at hvv hvl;subst hvv;generalize hsx : (fstT ts).text = sx at *;have HSX := Lib.hid hsx;clear hsx hA;generalize hux : (⟨sx.toArray⟩ : ByteArray) = u at *;have HUX := Lib.hid hux;clear hux;by_cases h200 : ns.length = 200
   · rw [if_pos h200];have e200 : (((ns.length : Nat) : Int) == 200) = true := by rw [h200]; rfl
     clear h200;generalize fstT ts = t at *;rcases hcs with ⟨hN0, rfl⟩ | ⟨hN0, rfl⟩ | ⟨hN0, rfl⟩
     all_goals
      go_enter Tryz.func145, Tryz.ntmps145;go_wp2_with fail;refine (HF.out _ (HB.out _)).mono ?_; rintro e w1 ⟨rfl, hb1⟩;have hbw1 := (HB.out (.cells #[.int .i64 0, .string ⟨#[]⟩, .int .i64 0, .slice none 0 0] 26)).trans (hb1.mono (by simp));have hm1 := HH.out.below hbw1;have HB1 := Lib.hid hbw1;obtain ⟨g, k, cap, hgr, hr, _⟩ := hm1.ex;obtain ⟨_, r1, _, z1⟩ := cellsR2 hr;clear hb1 hbw1 hm1 hr;go_wp2_with fail;refine (HX.out _ HB1.out).mono ?_; rintro e w2 ⟨rfl, rfl⟩;go_wp2_with fail;refine (HR.out _ HB1.out).mono ?_; rintro e w3 ⟨rfl, hb3⟩;exact ⟨rfl, rfl, (HB1.out.trans (hb3.mono HB1.out.size)).mono (Nat.le_of_lt hlt)⟩
   · rw [if_neg h200];have e200 : (((ns.length : Nat) : Int) == 200) = false := by simp; omega
     have hnl : ns.length < 200 := by omega
     clear h200 HR;generalize fstT ts = t at *;have HNM : Hid (w.ownsRow (r + 1) 9 1 (.slice adv ns.length capv) ns.length (strs (nmB ns))) := Lib.hid (by have := HH.out.names; unfold OwnStrs at this; rwa [nmB_len] at this);rcases hcs with ⟨hN0, rfl⟩ | ⟨hN0, rfl⟩ | ⟨hN0, rfl⟩
     all_goals
      go_enter Tryz.func145, Tryz.ntmps145;go_wp2_with fail;refine (HF.out _ (HB.out _)).mono ?_; rintro e w1 ⟨rfl, hb1⟩;have hq1 := keptR hb1 HQ.out;have hbw1 := (HB.out (.cells #[.int .i64 0, .string ⟨#[]⟩, .int .i64 0, .slice none 0 0] 26)).trans (hb1.mono (by simp));have hm1 := HH.out.below hbw1;have HQ1 := Lib.hid hq1;have HB1 := Lib.hid hbw1;have HM1 := Lib.hid hm1;obtain ⟨g, k, cap, hgr, hr, _⟩ := hm1.ex;obtain ⟨_, r1, _, z1⟩ := cellsR2 hr;have hown1 : w1.ownsRow (r + 1) 9 1 (.slice adv ns.length capv) ns.length (strs (nmB ns)) := by
       have := hm1.names; unfold OwnStrs at this; rwa [nmB_len] at this
      have hlt1 := hm1.lt;clear hb1 hq1 hbw1 hm1 hr;go_wp2_with fail;refine (HX.out _ HB1.out).mono ?_; rintro e w2 ⟨rfl, rfl⟩;go_wp2_with (first
       | (at_builtin; refine wpList_append_lies _ rfl _ _ 56 rfl (r + 1) 9 i0 (.string ⟨#[]⟩) 1 16 Tryz.underlying56 hi hz0 hz1 hz2 rfl (by decide) _ _ _ rfl (World.ownsRow.alloc hown1 _) ⟨w1.heap.size, 0, none⟩ 1 1 [.string u] rfl rfl ?c1 ?c2 (by decide) ?c3 ?c4 ?c5 _ rfl ?_))
      case c1 =>
       intro j x hj;match j, hj with
       | 0, hj => simp at hj; subst hj; simp [Addr.add]
      case c2 => intro x hx; simp at hx; subst hx; rfl
      case c3 => unfold maxLen; omega
      case c4 => omega
      case c5 => simp; omega
      intro g3 cap3 w3 hown3 hgrow hat hlt3;have hgr3 := HM1.out.grow (v3 := .slice (some ⟨g3, 0, none⟩) (ns.length + 1) cap3) sx (.cells #[.string u] 9) (by rw [HUX.out]; exact hown3) hgrow (hat.elim (fun e => .inl e.symm) (fun e => .inr ⟨g3, rfl, by omega⟩));obtain ⟨hm4, hg4, s1, s2, s0⟩ := hgr3;have hq4 := hg4.at HQ1.out (by have := hnew.1; omega) hnew.2;have HM4 := Lib.hid hm4;have HG4 := Lib.hid ((RGo.of_below HB1.out (Nat.le_of_lt hlt)).trans hg4);have HQ4 := Lib.hid hq4;have hlr : r < w3.heap.size := World.block_lt_of_cell? w3 ⟨r, 1, none⟩ s1;have hne4 := hg4.ne (b := w.heap.size) (by have := (Array.getElem?_eq_some_iff.1 HQ1.out).1; omega) hnew.2;clear hm4 hg4 hq4 hown3 hgrow hat hown1 r1 z1 s0;go_wp2_with fail;refine (rd_pass _ r _ ts _ HM4.out h2).mono ?_; rintro e w5 ⟨rfl, hm5, hg5⟩;have hq5 := hg5.at HQ4.out (by have := hnew.1; omega) hne4;obtain ⟨d0, d1, d2, d3, e0, e1, e2, e3⟩ := cellsR4 hq5;have HM5 := Lib.hid hm5;have HG5 := Lib.hid (HG4.out.trans hg5);clear hm5 hg5 hq5 s1 s2;go_wp2_with fail;refine bodyPost_ret (v := .agg #[.int .i64 1, .string ⟨#[]⟩, .int .i64 ns.length, .slice none 0 0]) (by simp [results, Tryz.results145, go_sem, d0, d1, d2, d3]) rfl ⟨.slice (some ⟨g3, 0, none⟩) (ns.length + 1) cap3, none, 0, rfl, ?_⟩;exact ROk.fin (B := w.heap.size + 1) HM5.out HG5.out (leafR _ _ _ (in64R (by decide) (by decide)) (in64R (by omega) (by omega)) (Nat.zero_le _)) hlt (Nat.le_refl _) (by omega) hne4 _ _ _ _
end Go.Proofs.YtinefdlkajnomaaGreatDoor
