/-
  The contract of the document's own Shift for term.
-/
import Derived.Test.YtjgjeafjnaodkaaTermRow
import Derived.Test.YtjgjeafjnaodkaaTermRefAC
namespace Go.Proofs.Ytjgjeafjnaodkaa
open Go.RowKit

/-- A number of 64 bits and another one, as Go adds them. -/
def add64 (a b : Int) : Int := wrap64 (a + b)
mutual
def Tm.shift (c : Int) : Tm → Tm
  | .mk k s n l => .mk k s (if k = 1 then add64 n c else n) (Tm.shifts c l)
def Tm.shifts (c : Int) : List Tm → List Tm
  | [] => []
  | t :: l => t.shift c :: Tm.shifts c l
end
theorem Tm.shifts_map (c : Int) (l : List Tm) : Tm.shifts c l = l.map (Tm.shift c) := by
  induction l with
  | nil => rfl
  | cons t l ih => show t.shift c :: Tm.shifts c l = _; rw [ih]; rfl
theorem Tm.shift_eq (c : Int) (t : Tm) : t.shift c = .mk t.kind t.name (if t.kind = 1 then add64 t.n c else t.n) (t.args.map (Tm.shift c)) := by
  cases t with
  | mk k s n l => show Tm.mk _ _ _ (Tm.shifts c l) = _; rw [Tm.shifts_map]; rfl
theorem map_step (f : Tm → Tm) (l : List Tm) (k : Nat) (h : k < l.length) : (l.take (k + 1)).map f = (l.take k).map f ++ [f (l[k]'h)] := by
  rw [List.take_succ_eq_append_getElem h, List.map_append]; rfl
theorem alloc_new (w : World) (o : Obj) : (w.alloc o).heap[w.heap.size]? = some o := Array.getElem?_push_size
theorem alloc_new2 (w : World) (o1 o2 : Obj) : ((w.alloc o1).alloc o2).heap[w.heap.size + 1]? = some o2 := by
  have h := alloc_new (w.alloc o1) o2
  rw [show (w.alloc o1).heap.size = w.heap.size + 1 by simp] at h
  exact h
theorem wrap64_in (x : Int) : In64 (wrap64 x) := by
  unfold In64 wrap64
  omega
/-- What a call answers that makes a term: it, in memory from B on. -/
def MadeTerm (B : Nat) (w : World) (t : Tm) (e : Ending) (w' : World) : Prop := ∃ ad cap, e = .returned (tmv t ad cap) ∧ TmP w' (fun b => B ≤ b) t ad cap ∧ Below B w w'
theorem cellsT {w : World} {q : Nat} {a b c d : Value} {t : TypeId} (h : w.heap[q]? = some (.cells #[a, b, c, d] t (0, 0))) :
    w.cell? ⟨q, 0, none⟩ = some a ∧ w.cell? ⟨q, 1, none⟩ = some b ∧ w.cell? ⟨q, 2, none⟩ = some c ∧ w.cell? ⟨q, 3, none⟩ = some d ∧ w.frozen? ⟨q, 0, none⟩ = false ∧ w.frozen? ⟨q, 1, none⟩ = false ∧ w.frozen? ⟨q, 2, none⟩ = false ∧ w.frozen? ⟨q, 3, none⟩ = false := by
  simp [World.cell?, World.frozen?, h]

set_option maxRecDepth 100000 in
set_option maxHeartbeats 4000000 in
theorem ref_Shift (c : Int) (m : Nat) : ∀ (T : Tm) (ad : Option Addr) (cap : Nat) (w : World), T.size ≤ m → T.size ≤ 1000000 → TmIn w T ad cap →
    Calls Try.prog 28 #[tmv T ad cap, .int .i64 c] w (MadeTerm w.heap.size w (T.shift c)) := by
  induction m with
  | zero => intro T ad cap w h; have := T.size_pos; omega
  | succ m ih =>
    intro T ad cap w hm hM hin
    have IH := Lib.hid ih
    clear ih
    have HI := Lib.hid hin
    have hlen := Tm.length_le_sizes T.args
    have hsz := T.size_eq
    have hl : T.args.length ≤ 1000000 := by omega
    have hcapl := hin.len
    have hcapm := hin.cap
    unfold maxLen at hcapm
    have HSZ := Lib.hid hsz
    obtain ⟨i0, hi, hz0, hz1, hz2⟩ := info_parts infoTerm
    have hkd := hin.kind
    have hnm := hin.name
    have hn64 := hin.n
    clear hsz hlen hin
    have hcase : ∃ kd n' : Int, Hid (T.kind = kd) ∧ Hid (T.shift c = .mk kd T.name n' (T.args.map (Tm.shift c))) ∧ Hid (In64 kd ∧ In64 n') ∧ (((kd == 1) = true ∧ wrap64 (T.n + c) = n') ∨ ((kd == 1) = false ∧ T.n = n')) := by
      by_cases hk1 : T.kind = 1
      · refine ⟨1, _, Lib.hid hk1, Lib.hid ?_, Lib.hid ⟨by unfold In64; decide, wrap64_in _⟩, .inl ⟨rfl, rfl⟩⟩
        rw [Tm.shift_eq, if_pos hk1, hk1]; rfl
      · refine ⟨T.kind, T.n, Lib.hid rfl, Lib.hid ?_, Lib.hid ⟨hkd, hn64⟩, .inr ⟨by simpa using hk1, rfl⟩⟩
        rw [Tm.shift_eq, if_neg hk1]
    clear hkd hn64
    obtain ⟨kd, n', HK, HSH, HIN64, hcs⟩ := hcase
    unfold tmv
    rw [HK.out]
    rcases hcs with ⟨hk1, hw64⟩ | ⟨hk1, hw64⟩
    all_goals
      go_enter Try.func28, Try.ntmps28
      go_wp2_with fail
      try rw [hw64]
      have HW := Lib.hid hw64
      clear hw64
      have hw0x := fun (o1 o2 : Obj) => (((Below.refl w.heap.size w).alloc (Nat.le_refl _) o1).alloc (by simp) o2)
      generalize hw0 : (w.alloc _).alloc _ = w0
      have hw0b : Below w.heap.size w w0 := by rw [← hw0]; exact hw0x _ _
      have hw0s : w0.heap.size = w.heap.size + 2 := by rw [← hw0]; simp
      have hq0 : w0.heap[w.heap.size]? = some (.cells #[.int .i64 kd, .string T.name, .int .i64 n', .slice ad T.args.length cap] 25 (0, 0)) := by
        rw [← hw0, Below.heap_alloc _ _ _ (by simp)]; exact alloc_new _ _
      have hq1 : w0.heap[w.heap.size + 1]? = some (.cells #[.int .i64 0, .string ⟨#[]⟩, .int .i64 0, .slice none 0 0] 25 (0, 0)) := by
        rw [← hw0]; exact alloc_new2 _ _ _
      clear hw0 hw0x
      go_loopw [5, 19] (fun lv iv wr => ∃ k : Nat, k ≤ T.args.length ∧ iv = .int .i64 k ∧ Below (w.heap.size + 2) w0 wr ∧ OwnTerms (w.heap.size + 2) wr lv ((T.args.take k).map (Tm.shift c))) (fun _ iv _ => T.args.length - (intOf iv).toNat)
      case atStart => exact ⟨0, Nat.zero_le _, rfl, Below.refl _ _, OwnTerms.nil _ _⟩
      case round =>
        obtain ⟨k, hk, rfl, hbw, hown⟩ := hrel
        have hwr : Below w.heap.size w wr := hw0b.trans (hbw.mono (by omega))
        have hwrs := hbw.size
        by_cases hlt : k < T.args.length
        · obtain ⟨b, o, rfl⟩ := HI.out.args.addr (by omega)
          obtain ⟨ad1, cap1, c0, c1, c2, c3, hin1⟩ := (HI.out.args.on hwr).get k hlt
          have hmem := Tm.mem_size (List.getElem_mem hlt)
          have hstep := Lib.hid (map_step (Tm.shift c) T.args k hlt)
          have hrl : ((T.args.take k).map (Tm.shift c)).length = k := by rw [List.length_map, List.length_take]; omega
          generalize T.args[k] = x at *
          have hxm : x.size ≤ m := by have := HSZ.out; omega
          have hxM : x.size ≤ 1000000 := by have := HSZ.out; omega
          have HC := Lib.hid (IH.out x ad1 cap1 (wr.alloc (.cells #[.int .i64 x.kind, .string x.name, .int .i64 x.n, .slice ad1 x.args.length cap1] 25)) hxm hxM (hin1.on ((Below.refl _ wr).alloc (Nat.le_refl _) _)))
          have HOWN := Lib.hid hown
          have HRL := Lib.hid hrl
          clear hown hrl hin1 hmem
          generalize (T.args.take k).map (Tm.shift c) = rs at *
          generalize x.shift c = y at *
          unfold tmv at HC
          go_wp2_with fail
          refine HC.out.mono ?_
          rintro e w2 ⟨ad2, cap2, rfl, htp, hb2⟩
          have hb3 : Below wr.heap.size wr w2 := ((Below.refl _ wr).alloc (Nat.le_refl _) _).trans (hb2.mono (by simp))
          have hw2s := hb2.size
          obtain ⟨xs, hox, hrow⟩ := HOWN.out.below hb3
          have hlt2 := HOWN.out.lt
          rw [HRL.out] at hox
          have HROW := Lib.hid hrow
          have HTP := Lib.hid htp
          have HLT := Lib.hid hlt2
          have hbw2 := hbw.trans (hb3.mono (by omega))
          clear hrow htp hlt2 hb2 c0 c1 c2 c3 hb3
          unfold tmv
          rw [World.size_alloc] at hw2s
          go_wp2_with (first
            | (at_builtin; refine wpList_append_lies _ rfl _ _ 23 rfl (w.heap.size + 2) 25 i0 (.agg #[.int .i64 0, .string ⟨#[]⟩, .int .i64 0, .slice none 0 0]) 4 56 Try.underlying23 hi hz0 hz1 hz2 rfl (by decide) _ _ _ rfl (hox.alloc _) ⟨w2.heap.size, 0, none⟩ 1 1 (tcells y ad2 cap2) rfl rfl ?c1 ?c2 (by decide) ?c3 ?c4 ?c5 _ rfl ?_))
          case c1 =>
            intro j u hj
            match j, hj with
            | 0, hj => simp [tcells] at hj; subst hj; simp [Addr.add]
            | 1, hj => simp [tcells] at hj; subst hj; simp [Addr.add]
            | 2, hj => simp [tcells] at hj; subst hj; simp [Addr.add]
            | 3, hj => simp [tcells] at hj; subst hj; simp [Addr.add]
          case c2 => intro u hu; simp [tcells] at hu; rcases hu with rfl | rfl | rfl | rfl <;> rfl
          case c3 => unfold maxLen; omega
          case c4 => omega
          case c5 => simp; omega
          intro g cap3 w3 hown3 hgrow hat hlt3
          have hPP : ∀ b, w2.heap.size + 1 > b → wr.heap.size + 1 ≤ b → (w.heap.size + 2 ≤ b ∧ some b ≠ u5.ownBlock) := fun b _ hb => ⟨by omega, fun e => by have := (HLT.out b e.symm).2; omega⟩
          have hkeep : ∀ (o : Obj) (b : Nat), b < w2.heap.size → (w2.alloc o).heap[b]? = w2.heap[b]? := fun o b hb => Below.heap_alloc w2 o b hb
          have hown4 : OwnTerms (w.heap.size + 2) w3 (.slice (some ⟨g, 0, none⟩) (k + 1) cap3) (rs ++ [y]) := by
            refine OwnTerms.grown (HROW.out.kept (fun b _ hb => hkeep _ b hb) (fun b hp _ => hp)) (by rw [HRL.out]; exact hown3) hgrow ?_ (HTP.out.kept (fun b _ hb => hkeep _ b hb) (fun b hp hb => hPP b (by omega) (by simpa using hp)))
            rcases hat with hat | hat
            · exact .inl hat.symm
            · exact .inr ⟨g, rfl, by rw [World.size_alloc]; omega⟩
          have hbw3 : Below (w.heap.size + 2) w0 w3 := (hbw2.alloc (by omega) _).grown hgrow (by simp; omega) (fun i hi => (HLT.out i hi).1)
          have HO4 := Lib.hid hown4
          clear hown3 hgrow hat hPP hkeep hown4 hox
          go_wp2
          go_roundw
          case rel => exact ⟨k + 1, by omega, by go_num, hbw3, by rw [hstep.out]; exact HO4.out⟩
          case measure => simp [intOf]; omega
        · obtain rfl : k = T.args.length := by omega
          rw [List.take_of_length_le (Nat.le_refl _)] at hown
          obtain ⟨ad', cap', rfl, hnc, hcm, hargs⟩ := hown.slice
          rw [List.length_map] at hnc
          rw [List.length_map]
          have hq0r := (hbw.block w.heap.size (by omega)).trans hq0
          have hq1r := (hbw.block (w.heap.size + 1) (by omega)).trans hq1
          obtain ⟨d0, d1, d2, d3, e0, e1, e2, e3⟩ := cellsT hq0r
          obtain ⟨g0, g1, g2, g3, k0, k1, k2, k3⟩ := cellsT hq1r
          have HARGS := Lib.hid hargs
          clear hargs hown hq0r hq1r hq0 hq1
          have hWR := Lib.hid hwr
          clear hwr
          go_wp2_with fail
          refine bodyPost_ret (v := .agg #[.int .i64 kd, .string T.name, .int .i64 n', .slice ad' T.args.length cap']) (by simp [results, Try.results28, go_sem, g0, g1, g2, g3]) rfl ⟨ad', cap', ?_, ?_, ?_⟩
          · rw [HSH.out]; unfold tmv; rw [show (Tm.mk kd T.name n' (T.args.map (Tm.shift c))).args.length = T.args.length from List.length_map _]; rfl
          · rw [HSH.out]
            refine ⟨HIN64.out.1, HIN64.out.2, hnm, by show (T.args.map (Tm.shift c)).length ≤ cap'; rw [List.length_map]; exact hnc, hcm, HARGS.out.kept (fun b hp _ => ?_) (fun b hp _ => by omega)⟩
            rw [Below.heap_setCell _ _ _ _ (show b ≠ w.heap.size + 1 by omega), Below.heap_setCell _ _ _ _ (show b ≠ w.heap.size + 1 by omega), Below.heap_setCell _ _ _ _ (show b ≠ w.heap.size + 1 by omega), Below.heap_setCell _ _ _ _ (show b ≠ w.heap.size + 1 by omega), Below.heap_setCell _ _ _ _ (show b ≠ w.heap.size by omega)]
          · exact ((((hWR.out.setCell (Nat.le_refl _) _).setCell (Nat.le_succ _) _).setCell (Nat.le_succ _) _).setCell (Nat.le_succ _) _).setCell (Nat.le_succ _) _
end Go.Proofs.Ytjgjeafjnaodkaa
