/-
  The contract of package term's own Vars: the numbers of a term's Vars, each once, in the order of their first places, in a row of the call's own.
-/
import Derived.Test.YthfdiclmbbngcaaDoorTermDevW
import Derived.Test.YthfdiclmbbngcaaDoorTermDevTV
namespace Go.Proofs.YthfdiclmbbngcaaDoor
open Go.RowKit Go.Shelf Go.Maps
attribute [local go_sem] Oper.semAt_some

theorem unitZero (w : World) : (zeroValue 66).run Tryd.prog w = .ok (.agg #[]) w := by kernel_rfl
/-- The datum D holds just the numbers of l. -/
structure SetHolds (D : DataW Unit) (l : List Int) : Prop where
  isMap : IsMap D
  has : ∀ a, Maps.has D (.int .i64 a) = hasL l a
/-- Block b is a set of just the numbers of l. -/
def SetAs (w : World) (b n : Nat) (l : List Int) : Prop := ∃ D : DataW Unit, w.ownsMap Tryd.prog 2 unitElem b n D ∧ SetHolds D l
def SetObj (o : Obj) (n : Nat) (l : List Int) : Prop := ∀ (w : World) (b : Nat), w.heap[b]? = some o → SetAs w b n l
theorem SetAs.obj {w : World} {b n : Nat} {l : List Int} (h : SetAs w b n l) : ∃ o, w.heap[b]? = some o ∧ SetObj o n l := by
  obtain ⟨D, ⟨es, clock, hb, F, hs, hD⟩, hH⟩ := h
  exact ⟨.map es clock, hb, fun w' b' hb' => ⟨D, ⟨es, clock, hb', F, hs, hD⟩, hH⟩⟩
theorem SetObj.up {o : Obj} {n : Nat} {l : List Int} (h : SetObj o n l) : SetObj o (n + 1) l := fun w b hb => by
  obtain ⟨D, h1, h2⟩ := h w b hb
  exact ⟨D, h1.mono (Nat.le_succ _), h2⟩
theorem SetObj.new : SetObj (.map #[] 0) 0 [] := by
  have h : SetAs (World.alloc default (.map #[] 0)) (default : World).heap.size 0 [] := ⟨.map [], World.ownsMap_made _ _ _ _, isMap_empty, fun a => by simp [has_eq, hasL]⟩
  obtain ⟨o, h1, h2⟩ := h.obj
  rw [heap_alloc_new] at h1
  injection h1 with h1
  rw [h1]; exact h2
theorem SetHolds.put {D : DataW Unit} {l : List Int} (h : SetHolds D l) (a : Int) : SetHolds (D.put (.int .i64 a) (.agg [])) (l ++ [a]) := by
  have hk : WideAt.IsKeyLit (.int .i64 a) := trivial
  refine ⟨h.isMap.put _ _, fun a' => ?_⟩
  unfold hasL
  rw [List.any_append]
  by_cases e : a' = a
  · subst e
    rw [has_put_same h.isMap hk]; simp
  · rw [has_put_other (by intro e'; injection e'; contradiction), h.has]
    unfold hasL
    simp [Ne.symm e]
theorem grown_turn {W W' : World} {b : Option Nat} (h : W.grownBy W' b) : Turn (fun j => b = some j) W W' := ⟨h.os, h.tape, h.output, h.size, fun k hk hn => h.block k hk (fun e => hn e.symm)⟩
/-- Blocks of the caller's have turned, and no others: the iterator's are as they were. -/
theorem Stay.turnT {n₀ : Nat} {w W W' : World} {L : List (Nat × Obj)} {M Z : Nat → Prop} (h : Stay n₀ w L M W) (ht : Turn Z W W') (hZ : ∀ j, Z j → n₀ ≤ j ∧ ∃ o, (j, o) ∈ L) (hn : n₀ ≤ w.heap.size) (hM : ∀ j, M j → j < W.heap.size) : Keeps M W W' ∧ Below n₀ W W' := by
  have h1 := h.below.size
  exact ⟨⟨ht.size, fun j hj => ht.block j (hM j hj) (fun hz => by obtain ⟨_, o, ho⟩ := hZ j hz; exact (h.far j hj).2 _ ho rfl)⟩, ht.below (fun j hj => (hZ j hj).1) (by omega)⟩
/-- The row of out: nothing, or a block. -/
structure RowIs (B : Nat) (v : Value) (out : List Int) (row : List (Nat × Obj)) : Prop where
  own : ∀ W : World, (∀ p ∈ row, W.heap[p.1]? = some p.2) → OwnNums B W v out
  at_ : ∀ g, v.ownBlock = some g → B ≤ g ∧ ∃ o, (g, o) ∈ row
  base : ∀ p ∈ row, B ≤ p.1
theorem RowIs.nil (B : Nat) : RowIs B (.slice none 0 0) [] [] := ⟨fun W _ => World.ownsRow_nil _ _ _ _, fun g h => by simp [Value.ownBlock] at h, fun p h => by cases h⟩
theorem RowIs.of {B : Nat} {W : World} {g cap n : Nat} {out : List Int} (h : OwnNums B W (.slice (some ⟨g, 0, none⟩) n cap) out) (hn : n = out.length) : ∃ o, W.heap[g]? = some o ∧ RowIs B (.slice (some ⟨g, 0, none⟩) n cap) out [(g, o)] := by
  subst hn
  unfold OwnNums at h
  obtain ⟨f1, f2, f3, f4⟩ := ownsRow_facts h
  refine ⟨W.heap[g], Array.getElem?_eq_getElem f2, fun W' hW' => ?_, fun g' hg' => ?_, fun p hp => ?_⟩
  · exact ownsRow_block h ((hW' _ (.head _)).trans (Array.getElem?_eq_getElem f2).symm)
  · have : g = g' := by simpa [Value.ownBlock] using hg'
    exact ⟨by omega, _, by rw [← this]; exact .head _⟩
  · rw [List.mem_singleton.1 hp]; exact f1
structure VS where
  out : List Int
  v : Value
  o : Obj
  row : List (Nat × Obj)
def vL' (H : Nat) (s : VS) : List (Nat × Obj) := (H + 1, .cells #[s.v] 36 (0, 0)) :: (H + 2, s.o) :: (H + 3, .cells #[.map (some (H + 2))] 62 (0, 0)) :: s.row
structure VOk (H : Nat) (l E : List Int) (k : Nat) (s : VS) : Prop where
  len : s.out.length ≤ k
  once : onceGo s.out (l.drop k) = E
  set : SetObj s.o k s.out
  row : RowIs (H + 5) s.v s.out s.row
theorem vsize5 (w : World) (o0 o1 o2 o3 o4 : Obj) : (((((w.alloc o0).alloc o1).alloc o2).alloc o3).alloc o4).heap.size = w.heap.size + 5 := by simp
theorem vnew5 (w : World) (o0 o1 o2 o3 o4 : Obj) : (((((w.alloc o0).alloc o1).alloc o2).alloc o3).alloc o4).heap[w.heap.size + 4]? = some o4 := by
  have := heap_alloc_new ((((w.alloc o0).alloc o1).alloc o2).alloc o3) o4
  rw [size4] at this
  exact this
theorem vold5 (w : World) (o0 o1 o2 o3 o4 : Obj) {b : Nat} (h : b < w.heap.size) : (((((w.alloc o0).alloc o1).alloc o2).alloc o3).alloc o4).heap[b]? = w.heap[b]? := by
  rw [Below.heap_alloc _ _ _ (by simp; omega), old4 _ _ _ _ _ h]
theorem vstay5 (w : World) (o0 o1 o2 o3 o4 : Obj) : Stay w.heap.size w [(w.heap.size + 1, o1), (w.heap.size + 2, o2), (w.heap.size + 3, o3)] (fun _ => False) (((((w.alloc o0).alloc o1).alloc o2).alloc o3).alloc o4) := by
  have h := stay4 w o0 o1 o2 o3
  refine ⟨h.below.alloc (by simp; omega) _, fun _ h => h.elim, fun p hp => ?_⟩
  have hlt : p.1 < ((((w.alloc o0).alloc o1).alloc o2).alloc o3).heap.size ∧ ((((w.alloc o0).alloc o1).alloc o2).alloc o3).heap[p.1]? = some p.2 := by
    rcases List.mem_cons.1 hp with rfl | hp
    · exact ⟨by simp, h.has _ (.head _)⟩
    · rcases List.mem_cons.1 hp with rfl | hp
      · exact ⟨by simp, h.has _ (.tail _ (.head _))⟩
      · obtain rfl := List.mem_singleton.1 hp
        exact ⟨by simp, new4 w o0 o1 o2 o3⟩
  exact (Below.heap_alloc _ _ _ hlt.1).trans hlt.2

set_option maxHeartbeats 1000000 in
theorem term_vars (T : Tm) (ad : Option Addr) (cap : Nat) (w : World) :
    Calls Tryd.prog 53 #[tmv T ad cap] w fun e w' => e = .returned (.func (.func 64) #[] #[.pointer (some ⟨w.heap.size, 0, none⟩)]) ∧ w.alloc (.cells #[.int .i64 T.kind, .string T.name, .int .i64 T.n, .slice ad T.args.length cap] 24) = w' := by
  unfold tmv
  go_enter Tryd.func53, Tryd.ntmps53
  go_wp2_with fail
  go_ret
  exact ⟨rfl, rfl⟩

set_option maxRecDepth 100000 in
set_option maxHeartbeats 4000000 in
theorem term_Vars (T : Tm) (ad : Option Addr) (cap : Nat) (w : World) (hM : T.size ≤ 1000000) (hin : TmIn w T ad cap) :
    Calls Tryd.prog 30 #[tmv T ad cap] w fun e w' => ∃ v, e = .returned v ∧ OwnNums w.heap.size w' v T.vars ∧ Below w.heap.size w w' := by
  have HP := Lib.hid hin.inP
  obtain ⟨E, hE⟩ : ∃ E, T.vars = E := ⟨_, rfl⟩
  rw [hE]
  have HE : Hid (onceGo [] T.places = E) := Lib.hid hE
  clear hin hE
  have hmm := @run_makeMap Tryd.prog
  obtain ⟨i0, hi, hz0, hz1, hz2⟩ := info_parts infoNum
  have HPART := Lib.hid (fun w => term_vars T ad cap w)
  unfold tmv at *
  refine (callsIn_wide (n := 4)).1 ?_
  refine callsIn_of_wp_marks Tryd.func30 rfl trivial ?_ rfl
  simp only [Tryd.ntmps30, List.size_toArray, List.length_cons, List.length_nil, Nat.reduceAdd, Nat.reduceSub, Array.replicate_succ, Array.replicate_zero, List.push_toArray, List.append_toArray, List.nil_append, List.cons_append]
  gi_wp2_with ((refine ⟨trivial, ?_⟩; gi_at_call 53; refine (callsIn_wide.2 (HPART.out _)).mono ?_; rintro e w' ⟨rfl, rfl⟩))
  have hseq := vars_seq T ad cap (w.heap.size + 4) w.heap.size (((((w.alloc (.cells #[.int .i64 T.kind, .string T.name, .int .i64 T.n, .slice ad T.args.length cap] 24)).alloc (.cells #[.slice none 0 0] 36)).alloc (.map #[] 0)).alloc (.cells #[.map (some (w.heap.size + 2))] 62)).alloc (.cells #[.int .i64 T.kind, .string T.name, .int .i64 T.n, .slice ad T.args.length cap] 24)) hM (vnew5 w _ _ _ _ _) (HP.out.kept (fun b _ hlt => vold5 w _ _ _ _ _ hlt) (fun b h _ => h)) (by simp; omega)
  have hst := vstay5 w (.cells #[.int .i64 T.kind, .string T.name, .int .i64 T.n, .slice ad T.args.length cap] 24) (.cells #[.slice none 0 0] 36) (.map #[] 0) (.cells #[.map (some (w.heap.size + 2))] 62) (.cells #[.int .i64 T.kind, .string T.name, .int .i64 T.n, .slice ad T.args.length cap] 24)
  have hsz := vsize5 w (.cells #[.int .i64 T.kind, .string T.name, .int .i64 T.n, .slice ad T.args.length cap] 24) (.cells #[.slice none 0 0] 36) (.map #[] 0) (.cells #[.map (some (w.heap.size + 2))] 62) (.cells #[.int .i64 T.kind, .string T.name, .int .i64 T.n, .slice ad T.args.length cap] 24)
  generalize (((((w.alloc (.cells #[.int .i64 T.kind, .string T.name, .int .i64 T.n, .slice ad T.args.length cap] 24)).alloc (.cells #[.slice none 0 0] 36)).alloc (.map #[] 0)).alloc (.cells #[.map (some (w.heap.size + 2))] 62)).alloc (.cells #[.int .i64 T.kind, .string T.name, .int .i64 T.n, .slice ad T.args.length cap] 24)) = W0 at *
  clear HP HPART hmm
  have hps := T.places_size
  generalize hl : T.places = l at *
  have HL := Lib.hid hl
  clear hl
  refine range_walkK (gf := 64) (lb := #[.pointer (some ⟨w.heap.size + 4, 0, none⟩)]) rfl (enters_of Tryd.func64 (by kernel_rfl) rfl) hseq (Below.refl _ _) (by omega) (fun _ => rfl)
    (StayI w.heap.size w (fun _ s => vL' w.heap.size s) (VOk w.heap.size l E))
    (fun _ => StayI w.heap.size w (fun _ (_ : Unit) => []) (fun _ _ => False))
    (stay_abides (Nat.le_refl _) _ _) (fun _ => stay_abides (Nat.le_refl _) _ _) ⟨⟨[], .slice none 0 0, .map #[] 0, []⟩, hst, Nat.le_refl _, HE.out, SetObj.new, RowIs.nil _⟩ ?round ?done ?stop
  case round =>
    rintro lp M k x W ⟨⟨out, v, o, row⟩, hS, h1, h2, h3, h4⟩ hk hx hMl
    dsimp only at hS h1 h2 h3 h4
    have hM1 : ∀ j, M j → j < W.heap.size := fun j hj => (hMl j hj).2
    have hWs := hS.lt (show (w.heap.size + 3, _) ∈ vL' w.heap.size _ from .tail _ (.tail _ (.head _)))
    dsimp only at hWs
    have HX := Lib.hid hx
    have HS := Lib.hid hS
    have HM1 := Lib.hid hM1
    have HO := Lib.hid h2
    have HSET := Lib.hid h3
    have HROW := Lib.hid h4
    clear hS hx hMl hM1 hst hseq h2 h3 h4
    unfold varv
    gi_wp2
    refine ⟨Keeps.refl _ _, Below.refl _ _, fun W₂ ht hs2 => ?_⟩
    have hS2 := HS.out.turn (M' := M) (Nat.le_refl _) ht (fun j hj => .inl hj)
    have hM2 : ∀ j, M j → j < W₂.heap.size := fun j hj => by have := HM1.out j hj; omega
    obtain ⟨cv, fv⟩ := cell1 (hS2.has _ (.head _))
    obtain ⟨cm, fm⟩ := cell1 (hS2.has _ (.tail _ (.tail _ (.head _))))
    have hb2 := hS2.has _ (.tail _ (.head _))
    obtain ⟨D, hown, hH⟩ := HSET.out W₂ _ hb2
    have hka := keyOf_int_mk Tryd.underlying2 (wf64 HX.out.2)
    have hhas := hH.has x
    have hst' : onceGo out (l.drop k) = if hasL out x then onceGo out (l.drop (k + 1)) else onceGo (out ++ [x]) (l.drop (k + 1)) := by
      have h9 := onceGo_drop l k hk out
      have h8 : l[k] = x := by
        have := HX.out.1
        rw [HL.out] at this
        rw [List.getElem?_eq_getElem hk] at this
        exact Option.some.inj this
      rw [h8] at h9; exact h9
    rw [HO.out] at hst'
    have HS2 := Lib.hid hS2
    have HM2 := Lib.hid hM2
    have HHD := Lib.hid (hH.put x)
    have hsz2 := hS2.below.size
    clear hS2 hM2 ht hb2 hH
    cases hh : hasL out x with
    | true =>
      rw [hh] at hst' hhas
      rw [if_pos rfl] at hst'
      have HST := Lib.hid hst'.symm
      clear hst' hh
      gi_wp2_with (first
        | (gi_at_lookup; refine wpListIn_lookup_own_unit _ rfl _ _ 62 rfl 2 66 mapLaw Tryd.underlying62 (unitZero _) (w.heap.size + 2) k D rfl hown _ _ rfl hka ?_; rw [hhas])
        | fail)
      obtain ⟨r1, r2, r3⟩ := HS2.out.grow (Nat.le_refl _) HM2.out ((Below.refl W₂.heap.size W₂).alloc (Nat.le_refl _) (.cells #[] 66))
      exact ⟨r1, r2, ⟨out, v, o, row⟩, r3, Nat.le_succ_of_le h1, HST.out, SetObj.up HSET.out, HROW.out⟩
    | false =>
      rw [hh] at hst' hhas
      rw [if_neg (by decide)] at hst'
      have HST := Lib.hid hst'.symm
      have hW2s : w.heap.size + 3 < W₂.heap.size := by omega
      have HK4 : Hid (∀ w4 : World, (W₂.alloc (.cells #[] 66)).grownBy w4 (some (w.heap.size + 2)) → w4.heap[w.heap.size + 1]? = some (.cells #[v] 36 (0, 0)) ∧ w4.ownsRow (w.heap.size + 5) 2 1 v out.length (nums out) ∧ w.heap.size + 5 ≤ w4.heap.size ∧ W₂.heap.size ≤ w4.heap.size ∧ w4.heap[w.heap.size + 3]? = some (.cells #[.map (some (w.heap.size + 2))] 62 (0, 0))) := Lib.hid (fun w4 hg => by
        have hb : ∀ j, j < W₂.heap.size → j ≠ w.heap.size + 2 → w4.heap[j]? = W₂.heap[j]? := fun j hj hne => (hg.block j (by simp; omega) (fun e => hne (Option.some.inj e))).trans (Below.heap_alloc _ _ _ hj)
        have hs := hg.size
        rw [World.size_alloc] at hs
        refine ⟨(hb _ (by omega) (by omega)).trans (HS2.out.has _ (.head _)), HROW.out.own w4 (fun p hp => ?_), by omega, by omega, (hb _ (by omega) (by omega)).trans (HS2.out.has _ (.tail _ (.tail _ (.head _))))⟩
        have h8 := HS2.out.lt (show p ∈ vL' w.heap.size ⟨out, v, o, row⟩ from .tail _ (.tail _ (.tail _ hp)))
        have h7 := HROW.out.base p hp
        exact (hb _ h8 (by omega)).trans (HS2.out.has p (.tail _ (.tail _ (.tail _ hp)))))
      have HNB : Hid (∀ j, j < w.heap.size + 5 → some j ≠ v.ownBlock) := Lib.hid (fun j hj e => by have := (HROW.out.at_ j e.symm).1; omega)
      clear hst' hh
      gi_wp2_with (first
        | (gi_at_lookup; refine wpListIn_lookup_own_unit _ rfl _ _ 62 rfl 2 66 mapLaw Tryd.underlying62 (unitZero _) (w.heap.size + 2) k D rfl hown _ _ rfl hka ?_; rw [hhas])
        | (gi_at_mapUpdate; refine wpListIn_mapUpdate_own _ rfl _ _ _ 62 rfl 2 66 mapLaw Tryd.underlying62 _ (w.heap.size + 2) k D rfl (hown.alloc _) (by unfold maxLen; omega) _ _ _ rfl rfl hka _ [] unitElem_mk ?_; intro w4 hown4 hgrow4; obtain ⟨x4, own4, hs4, hs4', y4⟩ := HK4.out w4 hgrow4; obtain ⟨cv4, fv4⟩ := cell1 x4; have X4 := Lib.hid x4; have Y4 := Lib.hid y4; have HG4 := Lib.hid hgrow4; have HOWN4 := Lib.hid hown4; have OWN4 := Lib.hid own4; clear x4 y4 hgrow4 hown4 own4)
        | (gi_at_builtin; refine append_in rfl _ _ 36 rfl (w.heap.size + 5) 2 i0 (.int .i64 0) 1 8 Tryd.underlying36 hi hz0 hz1 hz2 rfl (by decide) _ out.length _ rfl (World.ownsRow.alloc OWN4.out _) ⟨w4.heap.size, 0, none⟩ 1 1 [.int .i64 x] rfl rfl (cell_one_new _ _ _) (by intro u hu; simp at hu; subst hu; rfl) (by decide) (by unfold maxLen; omega) (by omega) (by simp; omega) (w4.heap.size + 1) (by simp) ?_; intro g cp w6 hown6 hgrow6 hat6 hlt6; obtain ⟨cv6, fv6⟩ := cell1 ((hgrow6.block (w.heap.size + 1) (by simp; omega) (HNB.out _ (by omega))).trans ((Below.heap_alloc _ _ _ (by omega)).trans X4.out)); have HG6 := Lib.hid hgrow6; have HOWN6 := Lib.hid hown6; have HAT6 := Lib.hid hat6; clear hgrow6 hown6 hat6))
      have hs6 := HG6.out.size
      rw [World.size_alloc] at hs6
      have htn : Turn (fun j => j = w.heap.size + 1 ∨ j = w.heap.size + 2 ∨ v.ownBlock = some j) W₂ (w6.setCell ⟨w.heap.size + 1, 0, none⟩ (.slice (some ⟨g, 0, none⟩) (out.length + 1) cp)) :=
        ((((Turn.alloc _ W₂ _).trans ((grown_turn HG4.out).more fun j hj => .inr (.inl (Option.some.inj hj).symm))).trans (Turn.alloc _ w4 _)).trans ((grown_turn HG6.out).more fun j hj => .inr (.inr hj))).trans (Turn.set _ w6 (p := ⟨w.heap.size + 1, 0, none⟩) (.inl rfl) _)
      obtain ⟨q1, q2⟩ := HS2.out.turnT htn (fun j hj => by
        rcases hj with rfl | rfl | hj
        · exact ⟨by omega, _, .head _⟩
        · exact ⟨by omega, _, .tail _ (.head _)⟩
        · obtain ⟨z1, z2, z3⟩ := HROW.out.at_ j hj
          exact ⟨by omega, z2, .tail _ (.tail _ (.tail _ z3))⟩) (Nat.le_refl _) HM2.out
      obtain ⟨o', ho', hso'⟩ := SetAs.obj (show SetAs w4 (w.heap.size + 2) (k + 1) (out ++ [x]) from ⟨_, HOWN4.out, HHD.out⟩)
      obtain ⟨f1, f2, _, _⟩ := ownsRow_facts HOWN6.out
      have hown7 : OwnNums (w.heap.size + 5) w6 (.slice (some ⟨g, 0, none⟩) (out.length + 1) cp) (out ++ [x]) := OwnNums.snoc HOWN6.out (by rw [List.length_append]; rfl) rfl
      obtain ⟨og, hog, hrow⟩ := RowIs.of hown7 (by rw [List.length_append]; rfl)
      have k6 : ∀ j, j < w4.heap.size → j < w.heap.size + 5 → j ≠ w.heap.size + 1 → (w6.setCell ⟨w.heap.size + 1, 0, none⟩ (.slice (some ⟨g, 0, none⟩) (out.length + 1) cp)).heap[j]? = w4.heap[j]? := fun j hj hj5 hne =>
        (Below.heap_setCell _ _ _ _ hne).trans ((HG6.out.block j (by simp; omega) (HNB.out j hj5)).trans (Below.heap_alloc _ _ _ hj))
      have x6 : w6.heap[w.heap.size + 1]? = some (.cells #[v] 36 (0, 0)) := (HG6.out.block _ (by simp; omega) (HNB.out _ (by omega))).trans ((Below.heap_alloc _ _ _ (by omega)).trans X4.out)
      refine ⟨q1, q2, ⟨out ++ [x], .slice (some ⟨g, 0, none⟩) (out.length + 1) cp, o', [(g, og)]⟩, HS2.out.put q2 (fun p hp => ?_) HM2.out (fun p hp => ?_), ?_, HST.out, hso', hrow⟩
      · rcases List.mem_cons.1 hp with rfl | hp
        · exact .inl ⟨_, .head _⟩
        · rcases List.mem_cons.1 hp with rfl | hp
          · exact .inl ⟨_, .tail _ (.head _)⟩
          · rcases List.mem_cons.1 hp with rfl | hp
            · exact .inl ⟨_, .tail _ (.tail _ (.head _))⟩
            · obtain rfl := List.mem_singleton.1 hp
              rcases HAT6.out with e | e
              · obtain ⟨_, z2, z3⟩ := HROW.out.at_ g e
                exact .inl ⟨z2, .tail _ (.tail _ (.tail _ z3))⟩
              · right; show W₂.heap.size ≤ g; omega
      · rcases List.mem_cons.1 hp with rfl | hp
        · exact block_set1 x6
        · rcases List.mem_cons.1 hp with rfl | hp
          · exact (k6 _ (by omega) (by omega) (by omega)).trans ho'
          · rcases List.mem_cons.1 hp with rfl | hp
            · exact (k6 _ (by omega) (by omega) (by omega)).trans Y4.out
            · obtain rfl := List.mem_singleton.1 hp
              exact (Below.heap_setCell _ _ _ _ (show g ≠ w.heap.size + 1 by omega)).trans hog
      · show (out ++ [x]).length ≤ k + 1
        rw [List.length_append, List.length_singleton]; omega
  case done =>
    rintro D M W hD hMD ⟨⟨out, v, o, row⟩, hS, h1, h2, h3, h4⟩ hK
    dsimp only at hS h1 h2 h3 h4
    obtain ⟨hc, hf⟩ := cell1 (hS.has _ (.head _))
    rw [List.drop_eq_nil_of_le (Nat.le_refl _)] at h2
    have h5 : OwnNums (w.heap.size + 5) (W.putObj D (.deferred none)) v out := h4.own _ fun p hp => (World.putObj_heap_other (fun e => (hS.far D hMD).2 p (.tail _ (.tail _ (.tail _ hp))) e)).trans (hS.has p (.tail _ (.tail _ (.tail _ hp))))
    rw [show out = E from h2] at h5
    have H5 := Lib.hid (OwnNums.mono (B' := w.heap.size) h5 (by omega))
    have HS := Lib.hid hS
    have hD' : w.heap.size + 5 ≤ D := by omega
    clear hS hst hseq h2 h3 h4 h5
    gi_wp2
    refine ⟨by simp, .inl ⟨_, _, rfl, run_takeDeferred hK, ?_⟩⟩
    exact ⟨_, results_tmp rfl _ _ _, v, rfl, H5.out, below_mark HS.out.below (by omega)⟩
  case stop =>
    rintro D c M k W _ _ _ ⟨_, _, hno⟩
    exact hno.elim
end Go.Proofs.YthfdiclmbbngcaaDoor
