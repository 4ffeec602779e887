/-
  Joined texts: TermPlaces, TermVars.
-/
import Derived.Test.YtlpmofmhcnclhaaDoorTermMR
import Derived.Laws.AppendOwnNone

/-
  The contracts of the document's own places, Has, Vars and SameNums for term.
-/
namespace Go.Proofs.YtlpmofmhcnclhaaDoor
open Go.RowKit

mutual
/-- The numbers of a term's variables, as often as they stand there. -/
def Tm.places : Tm → List Int
  | .mk k _ n l => (if k = 1 then [n] else []) ++ Tm.placess l
def Tm.placess : List Tm → List Int
  | [] => []
  | t :: l => t.places ++ Tm.placess l
end
theorem Tm.placess_flat (l : List Tm) : Tm.placess l = l.flatMap Tm.places := by
  induction l with
  | nil => rfl
  | cons t l ih => show t.places ++ Tm.placess l = _; rw [ih, List.flatMap_cons]
theorem Tm.places_eq (t : Tm) : t.places = (if t.kind = 1 then [t.n] else []) ++ t.args.flatMap Tm.places := by
  cases t with
  | mk k s n l => show _ ++ Tm.placess l = _; rw [Tm.placess_flat]; rfl
theorem Tm.places_size' (m : Nat) : ∀ l : List Tm, Tm.sizes l ≤ m → (l.flatMap Tm.places).length ≤ Tm.sizes l := by
  induction m with
  | zero =>
    intro l h
    cases l with
    | nil => exact Nat.le_refl 0
    | cons t l => rw [Tm.sizes_cons] at h; have := t.size_pos; omega
  | succ m ih =>
    intro l h
    cases l with
    | nil => exact Nat.le_refl 0
    | cons t l =>
      rw [Tm.sizes_cons] at h ⊢
      have h1 := t.size_eq
      have h2 := ih t.args (by omega)
      have h3 := ih l (by have := t.size_pos; omega)
      rw [List.flatMap_cons, List.length_append, t.places_eq, List.length_append]
      split <;> simp only [List.length_cons, List.length_nil] <;> omega
theorem Tm.places_size (t : Tm) : t.places.length ≤ t.size := by
  have := Tm.places_size' _ t.args (Nat.le_refl _)
  rw [t.places_eq, t.size_eq, List.length_append]
  split <;> simp only [List.length_cons, List.length_nil] <;> omega
theorem flat_step (f : Tm → List Int) (l : List Tm) (k : Nat) (h : k < l.length) : (l.take (k + 1)).flatMap f = (l.take k).flatMap f ++ f (l[k]'h) := by
  rw [List.take_succ_eq_append_getElem h, List.flatMap_append]; simp
theorem flat_take (l : List Tm) (k : Nat) : ((l.take k).flatMap Tm.places).length ≤ Tm.sizes l :=
  Nat.le_trans (Tm.places_size' _ (l.take k) (Nat.le_refl _)) (Tm.sizes_take l k)

/-- A slice of numbers of the call's own. -/
def nums (l : List Int) : List Value := l.map (Value.int .i64)
theorem nums_append (a b : List Int) : nums (a ++ b) = nums a ++ nums b := List.map_append
theorem nums_one (l : List Int) : ∀ u ∈ nums l, u.oneCell' = true := by
  intro u hu
  unfold nums at hu
  obtain ⟨x, _, rfl⟩ := List.mem_map.1 hu
  rfl
def OwnNums (B : Nat) (w : World) (v : Value) (l : List Int) : Prop := w.ownsRow B 2 1 v l.length (nums l)
theorem infoNum : (Tryd.prog.info? 2).map (fun i => (i.zero, i.size, i.bytes)) = some (some (.int .i64 0), 1, 8) := by kernel_rfl
theorem OwnNums.below {B : Nat} {w w' : World} {v : Value} {l : List Int} (h : OwnNums B w v l) (hb : Below w.heap.size w w') : OwnNums B w' v l := by
  obtain ⟨hl, h0 | ⟨g, cap, cur, hv, hbg, hh, r⟩⟩ := h
  · exact ⟨hl, .inl h0⟩
  · exact ⟨hl, .inr ⟨g, cap, cur, hv, hbg, (hb.block g (Array.getElem?_eq_some_iff.1 hh).1).trans hh, r⟩⟩
theorem OwnNums.mono {B B' : Nat} {w : World} {v : Value} {l : List Int} (h : OwnNums B w v l) (hB : B' ≤ B) : OwnNums B' w v l := by
  obtain ⟨hl, h0 | ⟨g, cap, cur, hv, hbg, r⟩⟩ := h
  · exact ⟨hl, .inl h0⟩
  · exact ⟨hl, .inr ⟨g, cap, cur, hv, Nat.le_trans hB hbg, r⟩⟩
theorem OwnNums.snoc {B : Nat} {w : World} {v : Value} {l l2 : List Int} {n : Nat} {xs : List Value} (h : w.ownsRow B 2 1 v n xs) (hn : n = (l ++ l2).length) (hx : xs = nums l ++ nums l2) : OwnNums B w v (l ++ l2) := by
  unfold OwnNums
  rw [nums_append, ← hn, ← hx]
  exact h
/-- What it is as a source of an append. -/
theorem OwnNums.src {B : Nat} {w : World} {v : Value} {l : List Int} (h : OwnNums B w v l) : (v = .slice none 0 0 ∧ l = []) ∨ ∃ g cap, v = .slice (some ⟨g, 0, none⟩) l.length cap ∧ B ≤ g ∧ g < w.heap.size ∧ ∀ j u, (nums l)[j]? = some u → w.cell? ((⟨g, 0, none⟩ : Addr).add j) = some u := by
  have h9 := h
  obtain ⟨hl, h0 | ⟨g, cap, cur, hv, hbg, hh, r⟩⟩ := h
  · exact .inl ⟨h0.1, List.eq_nil_of_length_eq_zero h0.2⟩
  · refine .inr ⟨g, cap, hv, hbg, (Array.getElem?_eq_some_iff.1 hh).1, fun j u hj => ?_⟩
    exact World.ownsRow.cells h9 (g := g) (by rw [hv]; rfl) j u hj

set_option maxRecDepth 100000 in
set_option maxHeartbeats 4000000 in
theorem ref_places (m : Nat) : ∀ (T : Tm) (ad : Option Addr) (cap : Nat) (w : World), T.size ≤ m → T.size ≤ 1000000 → TmIn w T ad cap →
    Calls Tryd.prog 36 #[tmv T ad cap] w fun e w' => ∃ v, e = .returned v ∧ OwnNums w.heap.size w' v T.places ∧ Below w.heap.size w w' := by
  induction m with
  | zero => intro T ad cap w h; have := T.size_pos; omega
  | succ m ih =>
    intro T ad cap w hm hM hin
    have IH := Lib.hid ih
    clear ih
    have HI := Lib.hid hin
    have hlen := Tm.length_le_sizes T.args
    have hsz := T.size_eq
    have hl : T.args.length ≤ 1000000 := by omega
    have hcapl := hin.len
    have hcapm := hin.cap
    unfold maxLen at hcapm
    have HSZ := Lib.hid hsz
    have HPE := Lib.hid T.places_eq
    obtain ⟨i0, hi, hz0, hz1, hz2⟩ := info_parts infoNum
    clear hsz hlen hin
    have key : ∃ (kd : Int) (l0 : List Int), Hid (T.kind = kd) ∧ Hid (T.places = l0 ++ T.args.flatMap Tm.places) ∧ l0.length ≤ 1 ∧ (((kd == 1) = true ∧ Hid (l0 = [T.n])) ∨ ((kd == 1) = false ∧ Hid (l0 = []))) := by
      by_cases hk : T.kind = 1
      · exact ⟨T.kind, [T.n], Lib.hid rfl, Lib.hid (by rw [T.places_eq, if_pos hk]), by simp, .inl ⟨by simpa using hk, Lib.hid rfl⟩⟩
      · exact ⟨T.kind, [], Lib.hid rfl, Lib.hid (by rw [T.places_eq, if_neg hk]), by simp, .inr ⟨by simpa using hk, Lib.hid rfl⟩⟩
    obtain ⟨kd, l0, HK, HPL, hl0, hcs⟩ := key
    clear HPE
    unfold tmv
    rw [HK.out]
    rcases hcs with ⟨hk1, HL0⟩ | ⟨hk1, HL0⟩
    · have HB0 := Lib.hid (fun (o1 o2 : Obj) => (((Below.refl w.heap.size w).alloc (Nat.le_refl _) o1).alloc (by simp) o2))
      go_enter Tryd.func36, Tryd.ntmps36
      go_wp2_with (first
        | (at_builtin; refine wpList_append_own _ rfl _ _ 42 rfl (w.heap.size + 1) 2 i0 (.int .i64 0) 1 8 Tryd.underlying42 hi hz0 hz1 hz2 rfl (by decide) _ _ _ rfl (World.ownsRow_nil _ _ _ _) ⟨w.heap.size + 1, 0, none⟩ 1 1 [.int .i64 T.n] rfl rfl ?c1 ?c2 ?c3 ?c4 ?c5 ?_))
      case c1 =>
        intro j u hj
        match j, hj with
        | 0, hj => simp at hj; subst hj; simp [Addr.add]
      case c2 => intro u hu; simp at hu; subst hu; rfl
      case c3 => decide
      case c4 => decide
      case c5 => simp
      intro v0 w0 hown9 hgrow _
      have hown0 : OwnNums (w.heap.size + 1) w0 v0 l0 := by rw [HL0.out]; exact hown9
      have hw0b : Below w.heap.size w w0 := (HB0.out _ _).grown hgrow (by rw [World.size_alloc, World.size_alloc]; omega) (fun i hi => by cases hi)
      have hw0s : w.heap.size + 1 ≤ w0.heap.size := by have := hgrow.size; simp at this; omega
      have d3 : w0.cell? ⟨w.heap.size, 3, none⟩ = some (.slice ad T.args.length cap) := by
        rw [World.cell?_of_block (hgrow.block w.heap.size (by rw [World.size_alloc, World.size_alloc]; omega) (fun h => by cases h)), World.cell?_alloc_past _ _ _ (by simp), World.cell?_alloc_at _ _ _ _ rfl]; rfl
      clear hown9 hgrow HB0
      go_wp2_with fail
      clear d3
      go_loopw [3, 17] (fun ov iv wr => ∃ k : Nat, k ≤ T.args.length ∧ iv = .int .i64 k ∧ w.heap.size + 1 ≤ wr.heap.size ∧ Below w.heap.size w wr ∧ OwnNums (w.heap.size + 1) wr ov (l0 ++ (T.args.take k).flatMap Tm.places)) (fun _ iv _ => T.args.length - (intOf iv).toNat)
      case atStart => exact ⟨0, Nat.zero_le _, rfl, hw0s, hw0b, by rw [List.take_zero, List.flatMap_nil, List.append_nil]; exact hown0⟩
      case round =>
        obtain ⟨k, hk, rfl, hwrs, hwr, hown⟩ := hrel
        by_cases hlt : k < T.args.length
        · obtain ⟨b, o, rfl⟩ := HI.out.args.addr (by omega)
          obtain ⟨ad1, cap1, c0, c1, c2, c3, hin1⟩ := (HI.out.args.on hwr).get k hlt
          have hmem := Tm.mem_size (List.getElem_mem hlt)
          have hstep := Lib.hid (flat_step Tm.places T.args k hlt)
          have hrl := flat_take T.args k
          generalize T.args[k] = x at *
          have hpx := x.places_size
          have hxm : x.size ≤ m := by have := HSZ.out; omega
          have hxM : x.size ≤ 1000000 := by have := HSZ.out; omega
          have hrl2 : (l0 ++ (T.args.take k).flatMap Tm.places).length ≤ 1000001 := by rw [List.length_append]; have := HSZ.out; omega
          have HC := Lib.hid (IH.out x ad1 cap1 (wr.alloc (.cells #[.int .i64 x.kind, .string x.name, .int .i64 x.n, .slice ad1 x.args.length cap1] 25)) hxm hxM (hin1.on ((Below.refl _ wr).alloc (Nat.le_refl _) _)))
          have HST : Hid (l0 ++ (T.args.take (k + 1)).flatMap Tm.places = (l0 ++ (T.args.take k).flatMap Tm.places) ++ x.places) := Lib.hid (by rw [hstep.out, List.append_assoc])
          clear hin1 hmem hstep hrl
          generalize l0 ++ (T.args.take k).flatMap Tm.places = rs at *
          generalize x.places = ys at *
          have HOWN := Lib.hid hown
          clear hown
          unfold tmv at HC
          go_wp2_with fail
          refine HC.out.mono ?_
          rintro e w2 ⟨v2, rfl, hown2, hb2⟩
          have hb3 : Below wr.heap.size wr w2 := ((Below.refl _ wr).alloc (Nat.le_refl _) _).trans (hb2.mono (by simp))
          have hownr := HOWN.out.below hb3
          have hlt2 := World.ownsRow.lt HOWN.out
          have hbw2 := hwr.trans (hb3.mono hwr.size)
          have hs2 := hb3.size
          have HLT := Lib.hid hlt2
          clear hb2 c0 c1 c2 c3 hb3 hlt2
          rcases hown2.src with ⟨rfl, rfl⟩ | ⟨g2, cap2, rfl, hg2, hg3, hsrc⟩
          · clear hown2
            go_wp2_with (first
              | (at_builtin; refine wpList_append_own_none rfl _ _ 42 rfl (w.heap.size + 1) 2 i0 1 Tryd.underlying42 hi _ _ _ rfl hownr rfl ?_))
            go_wp2
            go_roundw
            case rel => exact ⟨k + 1, by omega, by go_num, by omega, hbw2, by rw [HST.out, List.append_nil]; exact hownr⟩
            case measure => simp [intOf]; omega
          · have HSRC := Lib.hid hsrc
            clear hown2 hsrc
            go_wp2_with (first
              | (at_builtin; refine wpList_append_own _ rfl _ _ 42 rfl (w.heap.size + 1) 2 i0 (.int .i64 0) 1 8 Tryd.underlying42 hi hz0 hz1 hz2 rfl (by decide) _ _ _ rfl hownr ⟨g2, 0, none⟩ ys.length cap2 (nums ys) rfl (by unfold nums; rw [List.length_map]; omega) HSRC.out (nums_one ys) (by unfold maxLen; omega) (by omega) (by omega) ?_))
            intro v3 w3 hown3 hgrow _
            have hown4 : OwnNums (w.heap.size + 1) w3 v3 (rs ++ ys) := OwnNums.snoc hown3 (by rw [List.length_append]) rfl
            have hbw3 : Below w.heap.size w w3 := hbw2.grown hgrow hbw2.size (fun i hi => by have := (HLT.out i hi).1; omega)
            have hs3 := hgrow.size
            clear hown3 hgrow
            go_wp2
            go_roundw
            case rel => exact ⟨k + 1, by omega, by go_num, by omega, hbw3, by rw [HST.out]; exact hown4⟩
            case measure => simp [intOf]; omega
        · obtain rfl : k = T.args.length := by omega
          rw [List.take_of_length_le (Nat.le_refl _), ← HPL.out] at hown
          have HOWN := Lib.hid hown
          clear hown
          go_wp2_with fail
          go_ret
          exact ⟨_, rfl, HOWN.out.mono (Nat.le_succ _), hwr⟩
    · have HB0 := Lib.hid (fun (o1 : Obj) => ((Below.refl w.heap.size w).alloc (Nat.le_refl _) o1))
      go_enter Tryd.func36, Tryd.ntmps36
      go_wp2_with fail
      generalize hw0 : w.alloc _ = w0
      have hw0b : Below w.heap.size w w0 := by rw [← hw0]; exact HB0.out _
      have hw0s : w.heap.size + 1 ≤ w0.heap.size := by rw [← hw0]; simp
      have hown0 : OwnNums (w.heap.size + 1) w0 (.slice none 0 0) l0 := by rw [HL0.out]; exact World.ownsRow_nil _ _ _ _
      clear hw0 HB0
      go_loopw [3, 17] (fun ov iv wr => ∃ k : Nat, k ≤ T.args.length ∧ iv = .int .i64 k ∧ w.heap.size + 1 ≤ wr.heap.size ∧ Below w.heap.size w wr ∧ OwnNums (w.heap.size + 1) wr ov (l0 ++ (T.args.take k).flatMap Tm.places)) (fun _ iv _ => T.args.length - (intOf iv).toNat)
      case atStart => exact ⟨0, Nat.zero_le _, rfl, hw0s, hw0b, by rw [List.take_zero, List.flatMap_nil, List.append_nil]; exact hown0⟩
      case round =>
        obtain ⟨k, hk, rfl, hwrs, hwr, hown⟩ := hrel
        by_cases hlt : k < T.args.length
        · obtain ⟨b, o, rfl⟩ := HI.out.args.addr (by omega)
          obtain ⟨ad1, cap1, c0, c1, c2, c3, hin1⟩ := (HI.out.args.on hwr).get k hlt
          have hmem := Tm.mem_size (List.getElem_mem hlt)
          have hstep := Lib.hid (flat_step Tm.places T.args k hlt)
          have hrl := flat_take T.args k
          generalize T.args[k] = x at *
          have hpx := x.places_size
          have hxm : x.size ≤ m := by have := HSZ.out; omega
          have hxM : x.size ≤ 1000000 := by have := HSZ.out; omega
          have hrl2 : (l0 ++ (T.args.take k).flatMap Tm.places).length ≤ 1000001 := by rw [List.length_append]; have := HSZ.out; omega
          have HC := Lib.hid (IH.out x ad1 cap1 (wr.alloc (.cells #[.int .i64 x.kind, .string x.name, .int .i64 x.n, .slice ad1 x.args.length cap1] 25)) hxm hxM (hin1.on ((Below.refl _ wr).alloc (Nat.le_refl _) _)))
          have HST : Hid (l0 ++ (T.args.take (k + 1)).flatMap Tm.places = (l0 ++ (T.args.take k).flatMap Tm.places) ++ x.places) := Lib.hid (by rw [hstep.out, List.append_assoc])
          clear hin1 hmem hstep hrl
          generalize l0 ++ (T.args.take k).flatMap Tm.places = rs at *
          generalize x.places = ys at *
          have HOWN := Lib.hid hown
          clear hown
          unfold tmv at HC
          go_wp2_with fail
          refine HC.out.mono ?_
          rintro e w2 ⟨v2, rfl, hown2, hb2⟩
          have hb3 : Below wr.heap.size wr w2 := ((Below.refl _ wr).alloc (Nat.le_refl _) _).trans (hb2.mono (by simp))
          have hownr := HOWN.out.below hb3
          have hlt2 := World.ownsRow.lt HOWN.out
          have hbw2 := hwr.trans (hb3.mono hwr.size)
          have hs2 := hb3.size
          have HLT := Lib.hid hlt2
          clear hb2 c0 c1 c2 c3 hb3 hlt2
          rcases hown2.src with ⟨rfl, rfl⟩ | ⟨g2, cap2, rfl, hg2, hg3, hsrc⟩
          · clear hown2
            go_wp2_with (first
              | (at_builtin; refine wpList_append_own_none rfl _ _ 42 rfl (w.heap.size + 1) 2 i0 1 Tryd.underlying42 hi _ _ _ rfl hownr rfl ?_))
            go_wp2
            go_roundw
            case rel => exact ⟨k + 1, by omega, by go_num, by omega, hbw2, by rw [HST.out, List.append_nil]; exact hownr⟩
            case measure => simp [intOf]; omega
          · have HSRC := Lib.hid hsrc
            clear hown2 hsrc
            go_wp2_with (first
              | (at_builtin; refine wpList_append_own _ rfl _ _ 42 rfl (w.heap.size + 1) 2 i0 (.int .i64 0) 1 8 Tryd.underlying42 hi hz0 hz1 hz2 rfl (by decide) _ _ _ rfl hownr ⟨g2, 0, none⟩ ys.length cap2 (nums ys) rfl (by unfold nums; rw [List.length_map]; omega) HSRC.out (nums_one ys) (by unfold maxLen; omega) (by omega) (by omega) ?_))
            intro v3 w3 hown3 hgrow _
            have hown4 : OwnNums (w.heap.size + 1) w3 v3 (rs ++ ys) := OwnNums.snoc hown3 (by rw [List.length_append]) rfl
            have hbw3 : Below w.heap.size w w3 := hbw2.grown hgrow hbw2.size (fun i hi => by have := (HLT.out i hi).1; omega)
            have hs3 := hgrow.size
            clear hown3 hgrow
            go_wp2
            go_roundw
            case rel => exact ⟨k + 1, by omega, by go_num, by omega, hbw3, by rw [HST.out]; exact hown4⟩
            case measure => simp [intOf]; omega
        · obtain rfl : k = T.args.length := by omega
          rw [List.take_of_length_le (Nat.le_refl _), ← HPL.out] at hown
          have HOWN := Lib.hid hown
          clear hown
          go_wp2_with fail
          go_ret
          exact ⟨_, rfl, HOWN.out.mono (Nat.le_succ _), hwr⟩
end Go.Proofs.YtlpmofmhcnclhaaDoor

/-
  The contracts of the document's own Has, Vars and SameNums for term.
-/
namespace Go.Proofs.YtlpmofmhcnclhaaDoor
open Go.RowKit

/-- What a slice of numbers looks like to who reads it. -/
theorem OwnNums.view {B : Nat} {w : World} {v : Value} {l : List Int} (h : OwnNums B w v l) : ∃ ad cap, v = .slice ad l.length cap ∧ l.length ≤ cap ∧ cap ≤ maxLen ∧ ∀ j (hj : j < l.length), ∃ g, ad = some ⟨g, 0, none⟩ ∧ w.cell? ⟨g, j, none⟩ = some (.int .i64 l[j]) := by
  have h9 := h
  obtain ⟨hl, ⟨rfl, h0⟩ | ⟨g, cap, cur, rfl, hbg, hh, hnc, hcm, r⟩⟩ := h
  · refine ⟨none, 0, by rw [h0], by omega, Nat.zero_le _, fun j hj => by omega⟩
  · refine ⟨some ⟨g, 0, none⟩, cap, rfl, hnc, hcm, fun j hj => ⟨g, rfl, ?_⟩⟩
    rw [World.ownsRow.cellAt h9 j (by omega)]
    unfold nums
    rw [List.getElem?_map, List.getElem?_eq_getElem hj]
    rfl
def hasL (l : List Int) (n : Int) : Bool := l.any fun k => k == n
theorem hasL_snoc (l : List Int) (n : Int) (k : Nat) (h : k < l.length) : hasL (l.take (k + 1)) n = (hasL (l.take k) n || (l[k]'h == n)) := by
  unfold hasL
  rw [List.take_succ_eq_append_getElem h, List.any_append]; simp
theorem hasL_hit (l : List Int) (n : Int) (k : Nat) (h : k < l.length) (h1 : (l[k]'h == n) = true) : hasL l n = true := by
  unfold hasL
  rw [List.any_eq_true]
  exact ⟨_, List.getElem_mem h, h1⟩

set_option maxHeartbeats 2000000 in
theorem ref_Has (l : List Int) (n : Int) (v : Value) (B : Nat) (w : World) (h : OwnNums B w v l) (hlen : l.length ≤ 1000000000) :
    Calls Tryd.prog 37 #[v, .int .i64 n] w fun e w' => e = .returned (.bool (hasL l n)) ∧ w = w' := by
  obtain ⟨ad, cap, rfl, hlc, _, hcell⟩ := h.view
  obtain ⟨E, hE⟩ : ∃ E, hasL l n = E := ⟨_, rfl⟩
  rw [hE]
  have HE := Lib.hid hE
  have HC := Lib.hid hcell
  clear h hE hcell
  go_enter Tryd.func37, Tryd.ntmps37
  go_wp2_with fail
  go_loop [9] (fun iv => ∃ k : Nat, k ≤ l.length ∧ iv = .int .i64 k ∧ Hid (hasL (l.take k) n = false)) (fun iv => l.length - (intOf iv).toNat)
  case atStart => exact ⟨0, Nat.zero_le _, rfl, Lib.hid rfl⟩
  case round =>
    obtain ⟨k, hk, rfl, HB⟩ := hrel
    by_cases hlt : k < l.length
    · obtain ⟨g, rfl, c0⟩ := HC.out k hlt
      have hsn := Lib.hid (hasL_snoc l n k hlt)
      have hht := Lib.hid (hasL_hit l n k hlt)
      generalize l[k] = x at *
      cases hx : (x == n) with
      | true =>
        have HR : Hid (E = true) := Lib.hid (HE.out.symm.trans (hht.out hx))
        go_wp2_with fail
        go_ret
        exact ⟨ret_bool HR.out.symm, rfl⟩
      | false =>
        have HN : Hid (hasL (l.take (k + 1)) n = false) := Lib.hid (by rw [hsn.out, HB.out, hx]; rfl)
        go_wp2_with fail
        go_round
        case rel => exact ⟨k + 1, by omega, by go_num, HN⟩
        case measure => simp [intOf]; omega
    · have hR := HB.out
      rw [List.take_of_length_le (by omega)] at hR
      have HR : Hid (E = false) := Lib.hid (HE.out.symm.trans hR)
      clear hR HB
      go_wp2_with fail
      go_ret
      exact ⟨ret_bool HR.out.symm, rfl⟩

/-- Each once, in the order of their first places. -/
def onceGo : List Int → List Int → List Int
  | out, [] => out
  | out, n :: l => if hasL out n then onceGo out l else onceGo (out ++ [n]) l
def once (l : List Int) : List Int := onceGo [] l
theorem onceGo_drop (l : List Int) (k : Nat) (h : k < l.length) (out : List Int) : onceGo out (l.drop k) = if hasL out (l[k]'h) then onceGo out (l.drop (k + 1)) else onceGo (out ++ [l[k]'h]) (l.drop (k + 1)) := by
  rw [List.drop_eq_getElem_cons h]; rfl
def Tm.vars (t : Tm) : List Int := once t.places

set_option maxRecDepth 100000 in
set_option maxHeartbeats 4000000 in
theorem ref_Vars (T : Tm) (ad : Option Addr) (cap : Nat) (w : World) (hM : T.size ≤ 1000000) (hin : TmIn w T ad cap) :
    Calls Tryd.prog 19 #[tmv T ad cap] w fun e w' => ∃ v, e = .returned v ∧ OwnNums w.heap.size w' v T.vars ∧ Below w.heap.size w w' := by
  have hb1 : ∀ o : Obj, Below w.heap.size w (w.alloc o) := fun o => (Below.refl _ w).alloc (Nat.le_refl _) o
  have hP := fun o => ref_places T.size T ad cap (w.alloc o) (Nat.le_refl _) hM (hin.on (hb1 o))
  have hps := T.places_size
  obtain ⟨E, hE⟩ : ∃ E, T.vars = E := ⟨_, rfl⟩
  rw [hE]
  have HE : Hid (onceGo [] T.places = E) := Lib.hid hE
  have HP := Lib.hid hP
  have HB := Lib.hid hb1
  obtain ⟨i0, hi, hz0, hz1, hz2⟩ := info_parts infoNum
  clear hE hP hin hb1
  generalize T.places = l at *
  unfold tmv at *
  go_enter Tryd.func19, Tryd.ntmps19
  go_wp2_with fail
  refine (HP.out _).mono ?_
  rintro e w1 ⟨v1, rfl, hown1, hb1⟩
  have hbw1 := (HB.out _).trans (hb1.mono (by simp))
  have hs1 := hb1.size
  rw [World.size_alloc] at hs1
  obtain ⟨ad1, cap1, rfl, hlc, _, hcell⟩ := hown1.view
  have HC := Lib.hid hcell
  have HO1 := Lib.hid hown1
  clear hb1 hcell hown1
  go_wp2_with fail
  go_loopw [3, 9] (fun ov iv wr => ∃ (k : Nat) (out : List Int), k ≤ l.length ∧ iv = .int .i64 k ∧ out.length ≤ k ∧ Below w1.heap.size w1 wr ∧ OwnNums w1.heap.size wr ov out ∧ Hid (onceGo out (l.drop k) = E)) (fun _ iv _ => l.length - (intOf iv).toNat)
  case atStart => exact ⟨0, [], Nat.zero_le _, rfl, Nat.le_refl _, Below.refl _ _, World.ownsRow_nil _ _ _ _, HE⟩
  case round =>
    obtain ⟨k, out, hk, rfl, hol, hbw, hown, HG⟩ := hrel
    have hws := hbw.size
    by_cases hlt : k < l.length
    · obtain ⟨g, rfl, c0⟩ := HC.out k hlt
      have c1 := (hbw.cell (p := ⟨g, k, none⟩) (World.block_lt_of_cell? w1 _ c0)).trans c0
      have hst := onceGo_drop l k hlt out
      rw [HG.out] at hst
      generalize l[k] = x at *
      have hH := ref_Has out x u3 w1.heap.size wr hown (by omega)
      cases hx : hasL out x with
      | true =>
        rw [hx] at hst hH
        rw [if_pos rfl] at hst
        have HH := Lib.hid hH
        have HN := Lib.hid hst.symm
        clear hH hst hx c0
        go_wp2_with fail
        refine HH.out.mono ?_
        rintro e w' ⟨rfl, rfl⟩
        go_wp2_with fail
        go_roundw
        case rel => exact ⟨k + 1, out, by omega, by go_num, by omega, hbw, hown, HN⟩
        case measure => simp [intOf]; omega
      | false =>
        rw [hx] at hst hH
        rw [if_neg (by decide)] at hst
        have HH := Lib.hid hH
        have HN := Lib.hid hst.symm
        clear hH hst hx c0
        go_wp2_with fail
        refine HH.out.mono ?_
        rintro e w' ⟨rfl, rfl⟩
        go_wp2_with (first
          | (at_builtin; refine wpList_append_own _ rfl _ _ 42 rfl w1.heap.size 2 i0 (.int .i64 0) 1 8 Tryd.underlying42 hi hz0 hz1 hz2 rfl (by decide) _ _ _ rfl (World.ownsRow.alloc hown _) ⟨wr.heap.size, 0, none⟩ 1 1 [.int .i64 x] rfl rfl ?c1 ?c2 ?c3 ?c4 ?c5 ?_))
        case c1 =>
          intro j u hj
          match j, hj with
          | 0, hj => simp at hj; subst hj; simp [Addr.add]
        case c2 => intro u hu; simp at hu; subst hu; rfl
        case c3 => unfold maxLen; omega
        case c4 => omega
        case c5 => simp; omega
        intro v3 w3 hown3 hgrow _
        have hown4 : OwnNums w1.heap.size w3 v3 (out ++ [x]) := OwnNums.snoc hown3 (by rw [List.length_append]; rfl) rfl
        have hbw3 : Below w1.heap.size w1 w3 := (hbw.alloc hws _).grown hgrow (by rw [World.size_alloc]; omega) (fun i hi => (World.ownsRow.lt hown i hi).1)
        clear hown3 hgrow
        go_wp2
        go_roundw
        case rel => exact ⟨k + 1, out ++ [x], by omega, by go_num, by rw [List.length_append, List.length_singleton]; omega, hbw3, hown4, HN⟩
        case measure => simp [intOf]; omega
    · have hR := HG.out
      rw [List.drop_eq_nil_of_le (by omega)] at hR
      have HR : Hid (out = E) := Lib.hid hR
      clear hR HG
      go_wp2_with fail
      go_ret
      exact ⟨_, rfl, by rw [← HR.out]; exact OwnNums.mono hown (by omega), hbw1.trans (hbw.mono (by omega))⟩
end Go.Proofs.YtlpmofmhcnclhaaDoor
