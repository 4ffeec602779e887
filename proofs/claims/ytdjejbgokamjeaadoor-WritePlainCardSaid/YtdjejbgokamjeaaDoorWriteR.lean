/-
  The document's own writer: isList, operand, infix, text, tail (printed by gen/genWriteR.py).
-/
import Derived.Test.YtdjejbgokamjeaaDoorWriteF
import Derived.Test.YtdjejbgokamjeaaDoorOpsGJ
import Derived.Test.YtdjejbgokamjeaaDoorNumA
import Derived.Test.YtdjejbgokamjeaaDoorCharRefDG
namespace Go.Proofs.YtdjejbgokamjeaaDoor
open Go.RowKit

set_option maxHeartbeats 2000000 in
set_option maxRecDepth 100000 in
theorem rw_isList (k n : Int) (s : ByteArray) (ad : Option Addr) (len cap : Nat) (w : World) :
    Calls Tryd.prog 38 #[.agg #[.int .i64 k, .string s, .int .i64 n, .slice ad len cap]] w fun e w' => e = .returned (.bool (pairB k s.data.toList len)) ∧ Below w.heap.size w w' := by
  have HB0 := Lib.hid (fun o : Obj => (Below.refl w.heap.size w).alloc (Nat.le_refl _) o)
  unfold pairB
  by_cases hk : k = 4
  · subst hk
    by_cases hs : s.data.toList = [46]
    · have hs1 : (s.toList == [46]) = true := by rw [ByteArray.toList_eq, hs]; rfl
      rw [decide_eq_true hs]
      by_cases hl : len = 2
      · subst hl
        clear hs
        go_enter Tryd.func38, Tryd.ntmps38
        go_wp2_with fail
        go_ret
        exact ⟨rfl, HB0.out _⟩
      · rw [decide_eq_false hl]
        have hl1 : ((len : Int) == 2) = false := by simp; omega
        clear hs hl
        go_enter Tryd.func38, Tryd.ntmps38
        go_wp2_with fail
        go_ret
        exact ⟨rfl, HB0.out _⟩
    · have hs1 : (s.toList == [46]) = false := by rw [ByteArray.toList_eq]; exact beq_eq_false_iff_ne.2 hs
      rw [decide_eq_false hs]
      clear hs
      go_enter Tryd.func38, Tryd.ntmps38
      go_wp2_with fail
      go_ret
      exact ⟨rfl, HB0.out _⟩
  · have hk1 : (k == 4) = false := by simpa using hk
    rw [decide_eq_false hk]
    clear hk
    go_enter Tryd.func38, Tryd.ntmps38
    go_wp2_with fail
    go_ret
    exact ⟨rfl, HB0.out _⟩


/-- What is known of text and of tail, for terms up to a size. -/
def RwText (m : Nat) : Prop := ∀ (T : Tm) (ad : Option Addr) (cap : Nat) (p : Int) (w : World), T.size ≤ m → T.size ≤ 1000000 → T.may = true → Tabs w → TmIn w T ad cap →
  Calls Tryd.prog 22 #[tmv T ad cap, .int .i64 p] w fun e w' => e = .returned (.string ⟨(T.wr.txt p).toArray⟩) ∧ Below w.heap.size w w'
def RwTail (m : Nat) : Prop := ∀ (T : Tm) (ad : Option Addr) (cap : Nat) (w : World), T.size ≤ m → T.size ≤ 1000000 → T.may = true → Tabs w → TmIn w T ad cap →
  Calls Tryd.prog 39 #[tmv T ad cap] w fun e w' => e = .returned (.string ⟨T.wr.tail.toArray⟩) ∧ Below w.heap.size w w'
theorem TmIn.n64 {w : World} {T : Tm} {ad : Option Addr} {cap : Nat} (h : TmIn w T ad cap) : T.n64 := (Tm.n64_eq T).2 ⟨h.n, h.args.n64⟩
theorem two_in {w : World} {uad : Option Addr} {x y : Tm} (h : TArgs w uad [x, y]) :
    ∃ o1 o2 adx capx ady capy, uad = some ⟨o1, o2, none⟩ ∧ TmIn w x adx capx ∧ TmIn w y ady capy ∧
      ∀ W, Below w.heap.size w W → (W.cell? ⟨o1, o2, none⟩ = some (.int .i64 x.kind) ∧ W.cell? ⟨o1, o2 + 1, none⟩ = some (.string x.name) ∧ W.cell? ⟨o1, o2 + 2, none⟩ = some (.int .i64 x.n) ∧ W.cell? ⟨o1, o2 + 3, none⟩ = some (.slice adx x.args.length capx)) ∧
        (W.cell? ⟨o1, o2 + 4, none⟩ = some (.int .i64 y.kind) ∧ W.cell? ⟨o1, o2 + 4 + 1, none⟩ = some (.string y.name) ∧ W.cell? ⟨o1, o2 + 4 + 2, none⟩ = some (.int .i64 y.n) ∧ W.cell? ⟨o1, o2 + 4 + 3, none⟩ = some (.slice ady y.args.length capy)) := by
  obtain ⟨o1, o2, adx, capx, ady, capy, h1, hx, hy, hc⟩ := two_args (B := w.heap.size) (targs_in h)
  exact ⟨o1, o2, adx, capx, ady, capy, h1, hx.toIn, hy.toIn, hc⟩

set_option maxRecDepth 100000 in
set_option maxHeartbeats 4000000 in
theorem rw_operand (m : Nat) (IH : RwText m) (T : Tm) (ad : Option Addr) (cap : Nat) (p : Int) (w : World) (hm : T.size ≤ m) (hM : T.size ≤ 1000000) (hmay : T.may = true) (hT : Tabs w) (hin : TmIn w T ad cap) :
    Calls Tryd.prog 61 #[tmv T ad cap, .int .i64 p] w fun e w' => e = .returned (.string ⟨(T.wr.opd p).toArray⟩) ∧ Below w.heap.size w w' := by
  have HB0 := Lib.hid (fun o : Obj => (Below.refl w.heap.size w).alloc (Nat.le_refl _) o)
  have hxf := (wr_fits T hin.n64).1 p
  have eop : T.wr.op = (decide (T.kind = 2) && ((findR tabR T.name 2).isSome || (findR tabR T.name 3).isSome)) := by rw [Tm.wr_eq]; show (decide (T.kind = 2) && opN _) = _; unfold opN; rw [opR_name, opR_name]
  have hwi := fun (W : World) (hW : Below w.heap.size w W) => IH T ad cap p W hm hM hmay (hT.on hW) (hin.on hW)
  have h2 := fun W => ref_Prefix T.name W
  have h3 := fun W => ref_Infix T.name W
  obtain ⟨p2, k2, e2⟩ := opAns_two (findR tabR T.name 2)
  obtain ⟨p3, k3, e3⟩ := opAns_two (findR tabR T.name 3)
  rw [e2] at h2
  rw [e3] at h3
  unfold Wr.opd
  rw [eop]
  unfold tmv at hwi ⊢
  have hX : (T.wr.txt p).length ≤ 2000000000 := by omega
  generalize T.wr.txt p = X at *
  have HWI := Lib.hid hwi
  have H2 := Lib.hid h2
  have H3 := Lib.hid h3
  have HR : Hid ((⟨#[40]⟩ ++ ⟨X.toArray⟩ ++ ⟨#[41]⟩ : ByteArray) = ⟨(40 :: (X ++ [41])).toArray⟩) := Lib.hid (of_list _ _ (by rw [data_cat, data_cat]; simp))
  have hxs : (⟨X.toArray⟩ : ByteArray).size ≤ 2000000000 := by show X.toArray.size ≤ _; rw [List.size_toArray]; exact hX
  clear e2 e3 h2 h3 hwi hxf eop hmay hT hin IH hm hM
  generalize (findR tabR T.name 2).isSome = x at *
  generalize (findR tabR T.name 3).isSome = y at *
  by_cases hk : T.kind = 2
  · rw [decide_eq_true hk, hk]
    rw [hk] at HWI
    clear hk
    cases x with
    | true =>
      rw [if_pos (show (true && (true || y)) = true from rfl)]
      go_enter Tryd.func61, Tryd.ntmps61
      go_wp2_with fail
      refine (H2.out _).mono ?_
      rintro e w1 ⟨rfl, hb1⟩
      have hB1 := (HB0.out _).trans (hb1.mono (by simp))
      have hX1 := (hb1.block w.heap.size (by simp)).trans (heap_alloc_new w _)
      have hs1 : w.heap.size < w1.heap.size := by have := hb1.size; rw [World.size_alloc] at this; omega
      clear hb1
      obtain ⟨d0, d1, d2, d3⟩ := cellx4 hX1
      go_wp2_with fail
      refine (H3.out _).mono ?_
      rintro e w2 ⟨rfl, hb2⟩
      have hB2 := (hB1.alloc hB1.size _).trans (hb2.mono (Nat.le_trans hB1.size (by simp)))
      have hX2 := (hb2.block w.heap.size (by rw [World.size_alloc]; omega)).trans ((Lib.alloc_old w1 _ _ hs1).trans hX1)
      have hs2 : w.heap.size < w2.heap.size := by have := hb2.size; rw [World.size_alloc] at this; omega
      clear hb2 d0 d1 d2 d3 hX1 hB1
      obtain ⟨d0, d1, d2, d3⟩ := cellx4 hX2
      go_wp2_with fail
      refine (HWI.out _ (hB2.alloc hB2.size _)).mono ?_
      rintro e w3 ⟨rfl, hb3⟩
      have hB3 := (hB2.alloc hB2.size _).trans (hb3.mono (Nat.le_trans hB2.size (by simp)))
      clear hb3 hX2 hB2 d0 d1 d2 d3
      go_wp2_with fail
      go_ret
      exact ⟨by rw [HR.out]; rfl, hB3⟩
    | false =>
      cases y with
      | true =>
        rw [if_pos (show (true && (false || true)) = true from rfl)]
        go_enter Tryd.func61, Tryd.ntmps61
        go_wp2_with fail
        refine (H2.out _).mono ?_
        rintro e w1 ⟨rfl, hb1⟩
        have hB1 := (HB0.out _).trans (hb1.mono (by simp))
        have hX1 := (hb1.block w.heap.size (by simp)).trans (heap_alloc_new w _)
        have hs1 : w.heap.size < w1.heap.size := by have := hb1.size; rw [World.size_alloc] at this; omega
        clear hb1
        obtain ⟨d0, d1, d2, d3⟩ := cellx4 hX1
        go_wp2_with fail
        refine (H3.out _).mono ?_
        rintro e w2 ⟨rfl, hb2⟩
        have hB2 := (hB1.alloc hB1.size _).trans (hb2.mono (Nat.le_trans hB1.size (by simp)))
        have hX2 := (hb2.block w.heap.size (by rw [World.size_alloc]; omega)).trans ((Lib.alloc_old w1 _ _ hs1).trans hX1)
        have hs2 : w.heap.size < w2.heap.size := by have := hb2.size; rw [World.size_alloc] at this; omega
        clear hb2 d0 d1 d2 d3 hX1 hB1
        obtain ⟨d0, d1, d2, d3⟩ := cellx4 hX2
        go_wp2_with fail
        refine (HWI.out _ (hB2.alloc hB2.size _)).mono ?_
        rintro e w3 ⟨rfl, hb3⟩
        have hB3 := (hB2.alloc hB2.size _).trans (hb3.mono (Nat.le_trans hB2.size (by simp)))
        clear hb3 hX2 hB2 d0 d1 d2 d3
        go_wp2_with fail
        go_ret
        exact ⟨by rw [HR.out]; rfl, hB3⟩
      | false =>
        rw [if_neg (show ¬ (true && (false || false)) = true by decide)]
        go_enter Tryd.func61, Tryd.ntmps61
        go_wp2_with fail
        refine (H2.out _).mono ?_
        rintro e w1 ⟨rfl, hb1⟩
        have hB1 := (HB0.out _).trans (hb1.mono (by simp))
        have hX1 := (hb1.block w.heap.size (by simp)).trans (heap_alloc_new w _)
        have hs1 : w.heap.size < w1.heap.size := by have := hb1.size; rw [World.size_alloc] at this; omega
        clear hb1
        obtain ⟨d0, d1, d2, d3⟩ := cellx4 hX1
        go_wp2_with fail
        refine (H3.out _).mono ?_
        rintro e w2 ⟨rfl, hb2⟩
        have hB2 := (hB1.alloc hB1.size _).trans (hb2.mono (Nat.le_trans hB1.size (by simp)))
        have hX2 := (hb2.block w.heap.size (by rw [World.size_alloc]; omega)).trans ((Lib.alloc_old w1 _ _ hs1).trans hX1)
        have hs2 : w.heap.size < w2.heap.size := by have := hb2.size; rw [World.size_alloc] at this; omega
        clear hb2 d0 d1 d2 d3 hX1 hB1
        obtain ⟨d0, d1, d2, d3⟩ := cellx4 hX2
        go_wp2_with fail
        refine (HWI.out _ (hB2.alloc hB2.size _)).mono ?_
        rintro e w3 ⟨rfl, hb3⟩
        have hB3 := (hB2.alloc hB2.size _).trans (hb3.mono (Nat.le_trans hB2.size (by simp)))
        clear hb3 hX2 hB2 d0 d1 d2 d3
        go_wp2_with fail
        go_ret
        exact ⟨rfl, hB3⟩
  · rw [decide_eq_false hk, if_neg (show ¬ (false && (x || y)) = true by simp)]
    have hk2 : (T.kind == 2) = false := by simpa using hk
    clear hk
    go_enter Tryd.func61, Tryd.ntmps61
    go_wp2_with fail
    refine (H2.out _).mono ?_
    rintro e w1 ⟨rfl, hb1⟩
    have hB1 := (HB0.out _).trans (hb1.mono (by simp))
    have hX1 := (hb1.block w.heap.size (by simp)).trans (heap_alloc_new w _)
    have hs1 : w.heap.size < w1.heap.size := by have := hb1.size; rw [World.size_alloc] at this; omega
    clear hb1
    obtain ⟨d0, d1, d2, d3⟩ := cellx4 hX1
    go_wp2_with fail
    refine (H3.out _).mono ?_
    rintro e w2 ⟨rfl, hb2⟩
    have hB2 := (hB1.alloc hB1.size _).trans (hb2.mono (Nat.le_trans hB1.size (by simp)))
    have hX2 := (hb2.block w.heap.size (by rw [World.size_alloc]; omega)).trans ((Lib.alloc_old w1 _ _ hs1).trans hX1)
    have hs2 : w.heap.size < w2.heap.size := by have := hb2.size; rw [World.size_alloc] at this; omega
    clear hb2 d0 d1 d2 d3 hX1 hB1
    obtain ⟨d0, d1, d2, d3⟩ := cellx4 hX2
    go_wp2_with fail
    refine (HWI.out _ (hB2.alloc hB2.size _)).mono ?_
    rintro e w3 ⟨rfl, hb3⟩
    have hB3 := (hB2.alloc hB2.size _).trans (hb3.mono (Nat.le_trans hB2.size (by simp)))
    clear hb3 hX2 hB2 d0 d1 d2 d3
    go_wp2_with fail
    go_ret
    exact ⟨rfl, hB3⟩

set_option maxRecDepth 100000 in
set_option maxHeartbeats 4000000 in
theorem rw_infix00 (m : Nat) (IH : RwText m) (T x y : Tm) (o : R) (ad : Option Addr) (cap : Nat) (p : Int) (w : World) (hxy : T.args = [x, y]) (hm : T.size ≤ m + 1) (hM : T.size ≤ 1000000) (hmx : x.may = true) (hmy : y.may = true) (hT : Tabs w) (hin : TmIn w T ad cap) (hs : T.name.data.toList = [44]) (hpr : o.p ≤ p) :
    Calls Tryd.prog 40 #[tmv T ad cap, .agg #[.int .i64 o.p, .string o.k], .int .i64 p] w fun e w' => e = .returned (.string ⟨(infixK T.name.data.toList o x.wr y.wr p).toArray⟩) ∧ Below w.heap.size w w' := by
  have hl2 : T.args.length = 2 := by rw [hxy]; rfl
  have hsz : T.size = 1 + (x.size + y.size) := by rw [T.size_eq, hxy]; rfl
  obtain ⟨o1, o2, adx, capx, ady, capy, rfl, hinx, hiny, hcell⟩ := two_in (by have h := hin.args; rw [hxy] at h; exact h)
  have hxf := (wr_fits x hinx.n64).2.2 (leftOf o.k o.p)
  have hyf := (wr_fits y hiny.n64).2.2 (rightOf o.k o.p)
  have hopx := fun (W : World) (hW : Below w.heap.size w W) => rw_operand m IH x adx capx (leftOf o.k o.p) W (by omega) (by omega) hmx (hT.on hW) (hinx.on hW)
  have hopy := fun (W : World) (hW : Below w.heap.size w W) => rw_operand m IH y ady capy (rightOf o.k o.p) W (by omega) (by omega) hmy (hT.on hW) (hiny.on hW)
  have hcw := Lib.hid (fun (W : World) (hW : Below w.heap.size w W) => ref_Write T.name W hin.name (hT.on hW))
  have hwl := write_len T.name.data.toList
  have HB0 := Lib.hid (fun u v : Obj => ((Below.refl w.heap.size w).alloc (Nat.le_refl _) u).alloc (by simp) v)
  have hx0 : ∀ u v : Obj, ((w.alloc u).alloc v).heap[w.heap.size]? = some u := fun u v => (Lib.alloc_old _ _ _ (by simp)).trans (heap_alloc_new w u)
  have ho0 : ∀ u v : Obj, ((w.alloc u).alloc v).heap[w.heap.size + 1]? = some v := fun u v => by have h := heap_alloc_new (w.alloc u) v; rw [World.size_alloc] at h; exact h
  unfold infixK
  rw [if_neg (by omega)]
  unfold tmv at hopx hopy ⊢
  rw [hl2]
  have hXl : (x.wr.opd (leftOf o.k o.p)).length ≤ 1500000000 := by omega
  have hYl : (y.wr.opd (rightOf o.k o.p)).length ≤ 1500000000 := by omega
  generalize x.wr.opd (leftOf o.k o.p) = X at *
  generalize y.wr.opd (rightOf o.k o.p) = Y at *
  have HOPX := Lib.hid hopx
  have HOPY := Lib.hid hopy
  have HCELL := Lib.hid hcell
  have HLF := Lib.hid (fun W => ref_Left o.k o.p W)
  have HRT := Lib.hid (fun W => ref_Right o.k o.p W)
  have hpr2 : decide (p < o.p) = false := decide_eq_false (by omega)
  have hXs : (⟨X.toArray⟩ : ByteArray).size ≤ 1500000000 := by show X.toArray.size ≤ _; rw [List.size_toArray]; exact hXl
  have hYs : (⟨Y.toArray⟩ : ByteArray).size ≤ 1500000000 := by show Y.toArray.size ≤ _; rw [List.size_toArray]; exact hYl
  have es : T.name = ⟨#[44]⟩ := by apply ByteArray.ext; rw [← Array.toList_inj]; exact hs
  have eb : betweenK T.name.data.toList = [44] := by unfold betweenK; rw [if_pos hs]
  rw [eb]
  rw [es]
  have HR : Hid ((⟨X.toArray⟩ ++ ⟨#[44]⟩ ++ ⟨Y.toArray⟩ : ByteArray) = ⟨(X ++ ([44] ++ Y)).toArray⟩) := Lib.hid (of_list _ _ (by simp))
  clear hs es eb
  obtain ⟨E, hE⟩ : ∃ E, (⟨(X ++ ([44] ++ Y)).toArray⟩ : ByteArray) = E := ⟨_, rfl⟩
  rw [hE]
  rw [hE] at HR
  clear hE hopx hopy hcell hT hin hinx hiny hmx hmy IH hxy hxf hyf hm hM hsz
  go_enter Tryd.func40, Tryd.ntmps40
  go_wp2_with fail
  have hX := hx0 (.cells #[.int .i64 T.kind, .string ⟨#[44]⟩, .int .i64 T.n, .slice (some ⟨o1, o2, none⟩) 2 cap] 24) (.cells #[.int .i64 o.p, .string o.k] 51)
  have hO := ho0 (.cells #[.int .i64 T.kind, .string ⟨#[44]⟩, .int .i64 T.n, .slice (some ⟨o1, o2, none⟩) 2 cap] 24) (.cells #[.int .i64 o.p, .string o.k] 51)
  have hBL := HB0.out (.cells #[.int .i64 T.kind, .string ⟨#[44]⟩, .int .i64 T.n, .slice (some ⟨o1, o2, none⟩) 2 cap] 24) (.cells #[.int .i64 o.p, .string o.k] 51)
  clear hx0 ho0
  generalize (w.alloc (.cells #[.int .i64 T.kind, .string ⟨#[44]⟩, .int .i64 T.n, .slice (some ⟨o1, o2, none⟩) 2 cap] 24)).alloc (.cells #[.int .i64 o.p, .string o.k] 51) = W0 at *
  have HX0 := Lib.hid hX
  have HO0 := Lib.hid hO
  have HB0 := Lib.hid hBL
  clear hX hO hBL
  have HS1 : Hid (∀ W : World, W.heap[w.heap.size]? = some (.cells #[.int .i64 T.kind, .string ⟨#[44]⟩, .int .i64 T.n, .slice (some ⟨o1, o2, none⟩) 2 cap] 24 (0, 0)) → W.heap[w.heap.size + 1]? = some (.cells #[.int .i64 o.p, .string o.k] 51 (0, 0)) → Below w.heap.size w W → W.cell? ⟨w.heap.size, 3, none⟩ = some (.slice (some ⟨o1, o2, none⟩) 2 cap) ∧ W.cell? ⟨w.heap.size + 1, 0, none⟩ = some (.int .i64 o.p) ∧ W.cell? ⟨w.heap.size + 1, 1, none⟩ = some (.string o.k) ∧ W.cell? ⟨o1, o2, none⟩ = some (.int .i64 x.kind) ∧ W.cell? ⟨o1, o2 + 1, none⟩ = some (.string x.name) ∧ W.cell? ⟨o1, o2 + 2, none⟩ = some (.int .i64 x.n) ∧ W.cell? ⟨o1, o2 + 3, none⟩ = some (.slice adx x.args.length capx)) := Lib.hid (fun W h1 h2 h3 => ⟨(cellx4 h1).2.2.2, (cellx2 h2).1, (cellx2 h2).2, (HCELL.out W h3).1⟩)
  refine wp_region_held_drew (S := (fun W => W.cell? ⟨w.heap.size, 3, none⟩ = some (.slice (some ⟨o1, o2, none⟩) 2 cap) ∧ W.cell? ⟨w.heap.size + 1, 0, none⟩ = some (.int .i64 o.p) ∧ W.cell? ⟨w.heap.size + 1, 1, none⟩ = some (.string o.k) ∧ W.cell? ⟨o1, o2, none⟩ = some (.int .i64 x.kind) ∧ W.cell? ⟨o1, o2 + 1, none⟩ = some (.string x.name) ∧ W.cell? ⟨o1, o2 + 2, none⟩ = some (.int .i64 x.n) ∧ W.cell? ⟨o1, o2 + 3, none⟩ = some (.slice adx x.args.length capx))) (by kernel_rfl) (HS1.out _ HX0.out HO0.out HB0.out.drew) (fun hHeld1 => ?_)
  refine wpAnyH_take (i := 0) (oi := _) (v := ?v2) rfl (by kernel_rfl) (by kernel_rfl) (by kernel_rfl) (fun _ _ _ h => h) (Or.inl ⟨by rfl, ?y2⟩) (by assumption) ?r2
  case y2 => (intro w hSw; (try dsimp only at hSw); go_simp; try with_reducible rfl)
  try simp only [Act.put]
  try simp only [List.setIfInBounds_toArray]
  try simp only [List.set_cons_zero]
  try simp only [List.set_cons_succ]
  try simp only [List.set_cons_zero]
  refine wpAnyH_take (i := 1) (oi := _) (v := ?v3) rfl (by kernel_rfl) (by kernel_rfl) (by kernel_rfl) (fun _ _ _ h => h) (Or.inl ⟨by rfl, ?y3⟩) (by assumption) ?r3
  case y3 => (intro w hSw; (try dsimp only at hSw); go_simp; try with_reducible rfl)
  try simp only [Act.put]
  try simp only [List.setIfInBounds_toArray]
  try simp only [List.set_cons_zero]
  try simp only [List.set_cons_succ]
  try simp only [List.set_cons_zero]
  refine wpAnyH_take (i := 2) (oi := _) (v := ?v4) rfl (by kernel_rfl) (by kernel_rfl) (by kernel_rfl) (fun _ _ _ h => h) (Or.inl ⟨by rfl, ?y4⟩) (by assumption) ?r4
  case y4 => (intro w hSw; (try dsimp only at hSw); go_simp; try with_reducible rfl)
  try simp only [Act.put]
  try simp only [List.setIfInBounds_toArray]
  try simp only [List.set_cons_zero]
  try simp only [List.set_cons_succ]
  try simp only [List.set_cons_zero]
  refine wpAnyH_take (i := 3) (oi := _) (v := ?v5) rfl (by kernel_rfl) (by kernel_rfl) (by kernel_rfl) (fun _ _ _ h => h) (Or.inl ⟨by rfl, ?y5⟩) (by assumption) ?r5
  case y5 => (intro w hSw; (try dsimp only at hSw); go_simp; try with_reducible rfl)
  try simp only [Act.put]
  try simp only [List.setIfInBounds_toArray]
  try simp only [List.set_cons_zero]
  try simp only [List.set_cons_succ]
  try simp only [List.set_cons_zero]
  refine wpAnyH_take (i := 4) (oi := _) (v := ?v6) rfl (by kernel_rfl) (by kernel_rfl) (by kernel_rfl) (fun _ _ _ h => h) (Or.inl ⟨by rfl, ?y6⟩) (by assumption) ?r6
  case y6 => (intro w hSw; (try dsimp only at hSw); go_simp; try with_reducible rfl)
  try simp only [Act.put]
  try simp only [List.setIfInBounds_toArray]
  try simp only [List.set_cons_zero]
  try simp only [List.set_cons_succ]
  try simp only [List.set_cons_zero]
  refine wpAnyH_ready (rs := [5]) (by kernel_rfl) (by simp) ?_
  refine AllReadyH.cons (o := _) rfl (fun K hK => ?_) AllReadyH.nil
  go_simp
  (with_reducible refine (HLF.out _).mono ?_); rintro e y1 ⟨rfl, c1⟩
  have d1 := (Below.drew (Below.refl W0.heap.size W0)).trans c1
  have HXy1 := Lib.hid ((d1.block w.heap.size (Array.getElem?_eq_some_iff.1 HX0.out).1).trans HX0.out)
  have HOy1 := Lib.hid ((d1.block (w.heap.size + 1) (Array.getElem?_eq_some_iff.1 HO0.out).1).trans HO0.out)
  have HBy1 := Lib.hid (HB0.out.trans (d1.mono HB0.out.size))
  clear c1 d1
  try go_wp2_with fail
  refine hK.out _ _ (HS1.out _ HXy1.out HOy1.out HBy1.out) (fun hHeld7 => ?_)
  clear hK K hHeld1
  try simp only [Act.put]
  try simp only [List.setIfInBounds_toArray]
  try simp only [List.set_cons_zero]
  try simp only [List.set_cons_succ]
  try simp only [List.set_cons_zero]
  refine wpAnyH_ready (rs := [6]) (by kernel_rfl) (by simp) ?_
  refine AllReadyH.cons (o := _) rfl (fun K hK => ?_) AllReadyH.nil
  go_simp
  (with_reducible refine (HOPX.out _ HBy1.out).mono ?_); rintro e W1 ⟨rfl, c1⟩
  have HX1 := Lib.hid ((c1.block w.heap.size (Array.getElem?_eq_some_iff.1 HXy1.out).1).trans HXy1.out)
  have HO1 := Lib.hid ((c1.block (w.heap.size + 1) (Array.getElem?_eq_some_iff.1 HOy1.out).1).trans HOy1.out)
  have HB1 := Lib.hid (HBy1.out.trans (c1.mono HBy1.out.size))
  clear c1
  try go_wp2_with fail
  refine hK.out _ _ (HS1.out _ HX1.out HO1.out HB1.out) (fun hHeld8 => ?_)
  clear hK K hHeld7
  try simp only [Act.put]
  try simp only [List.setIfInBounds_toArray]
  try simp only [List.set_cons_zero]
  try simp only [List.set_cons_succ]
  try simp only [List.set_cons_zero]
  refine wpAnyH_ready (rs := [7]) (by kernel_rfl) (by simp) ?_
  refine AllReadyH.cons (o := _) rfl (fun K hK => ?_) AllReadyH.nil
  go_simp
  try go_wp2_with fail
  refine hK.out _ _ (HS1.out _ HX1.out HO1.out HB1.out) (fun hHeld9 => ?_)
  clear hK K hHeld8
  try simp only [Act.put]
  try simp only [List.setIfInBounds_toArray]
  try simp only [List.set_cons_zero]
  try simp only [List.set_cons_succ]
  try simp only [List.set_cons_zero]
  refine wpAnyH_done (by kernel_rfl) ?_ _
  obtain ⟨f0, f1, f2, f3⟩ := cellx4 HX1.out
  obtain ⟨g0, g1⟩ := cellx2 HO1.out
  go_wp2_with fail
  clear f0 f1 f2 f3 g0 g1
  have HS2 : Hid (∀ W : World, W.heap[w.heap.size]? = some (.cells #[.int .i64 T.kind, .string ⟨#[44]⟩, .int .i64 T.n, .slice (some ⟨o1, o2, none⟩) 2 cap] 24 (0, 0)) → W.heap[w.heap.size + 1]? = some (.cells #[.int .i64 o.p, .string o.k] 51 (0, 0)) → Below w.heap.size w W → W.cell? ⟨w.heap.size, 3, none⟩ = some (.slice (some ⟨o1, o2, none⟩) 2 cap) ∧ W.cell? ⟨w.heap.size + 1, 0, none⟩ = some (.int .i64 o.p) ∧ W.cell? ⟨w.heap.size + 1, 1, none⟩ = some (.string o.k) ∧ W.cell? ⟨o1, o2 + 4, none⟩ = some (.int .i64 y.kind) ∧ W.cell? ⟨o1, o2 + 4 + 1, none⟩ = some (.string y.name) ∧ W.cell? ⟨o1, o2 + 4 + 2, none⟩ = some (.int .i64 y.n) ∧ W.cell? ⟨o1, o2 + 4 + 3, none⟩ = some (.slice ady y.args.length capy)) := Lib.hid (fun W h1 h2 h3 => ⟨(cellx4 h1).2.2.2, (cellx2 h2).1, (cellx2 h2).2, (HCELL.out W h3).2⟩)
  refine wp_region_held_drew (S := (fun W => W.cell? ⟨w.heap.size, 3, none⟩ = some (.slice (some ⟨o1, o2, none⟩) 2 cap) ∧ W.cell? ⟨w.heap.size + 1, 0, none⟩ = some (.int .i64 o.p) ∧ W.cell? ⟨w.heap.size + 1, 1, none⟩ = some (.string o.k) ∧ W.cell? ⟨o1, o2 + 4, none⟩ = some (.int .i64 y.kind) ∧ W.cell? ⟨o1, o2 + 4 + 1, none⟩ = some (.string y.name) ∧ W.cell? ⟨o1, o2 + 4 + 2, none⟩ = some (.int .i64 y.n) ∧ W.cell? ⟨o1, o2 + 4 + 3, none⟩ = some (.slice ady y.args.length capy))) (by kernel_rfl) (HS2.out _ HX1.out HO1.out HB1.out.drew) (fun hHeld10 => ?_)
  refine wpAnyH_take (i := 0) (oi := _) (v := ?v11) rfl (by kernel_rfl) (by kernel_rfl) (by kernel_rfl) (fun _ _ _ h => h) (Or.inl ⟨by rfl, ?y11⟩) (by assumption) ?r11
  case y11 => (intro w hSw; (try dsimp only at hSw); go_simp; try with_reducible rfl)
  try simp only [Act.put]
  try simp only [List.setIfInBounds_toArray]
  try simp only [List.set_cons_zero]
  try simp only [List.set_cons_succ]
  try simp only [List.set_cons_zero]
  refine wpAnyH_take (i := 1) (oi := _) (v := ?v12) rfl (by kernel_rfl) (by kernel_rfl) (by kernel_rfl) (fun _ _ _ h => h) (Or.inl ⟨by rfl, ?y12⟩) (by assumption) ?r12
  case y12 => (intro w hSw; (try dsimp only at hSw); go_simp; try with_reducible rfl)
  try simp only [Act.put]
  try simp only [List.setIfInBounds_toArray]
  try simp only [List.set_cons_zero]
  try simp only [List.set_cons_succ]
  try simp only [List.set_cons_zero]
  refine wpAnyH_take (i := 2) (oi := _) (v := ?v13) rfl (by kernel_rfl) (by kernel_rfl) (by kernel_rfl) (fun _ _ _ h => h) (Or.inl ⟨by rfl, ?y13⟩) (by assumption) ?r13
  case y13 => (intro w hSw; (try dsimp only at hSw); go_simp; try with_reducible rfl)
  try simp only [Act.put]
  try simp only [List.setIfInBounds_toArray]
  try simp only [List.set_cons_zero]
  try simp only [List.set_cons_succ]
  try simp only [List.set_cons_zero]
  refine wpAnyH_take (i := 3) (oi := _) (v := ?v14) rfl (by kernel_rfl) (by kernel_rfl) (by kernel_rfl) (fun _ _ _ h => h) (Or.inl ⟨by rfl, ?y14⟩) (by assumption) ?r14
  case y14 => (intro w hSw; (try dsimp only at hSw); go_simp; try with_reducible rfl)
  try simp only [Act.put]
  try simp only [List.setIfInBounds_toArray]
  try simp only [List.set_cons_zero]
  try simp only [List.set_cons_succ]
  try simp only [List.set_cons_zero]
  refine wpAnyH_take (i := 4) (oi := _) (v := ?v15) rfl (by kernel_rfl) (by kernel_rfl) (by kernel_rfl) (fun _ _ _ h => h) (Or.inl ⟨by rfl, ?y15⟩) (by assumption) ?r15
  case y15 => (intro w hSw; (try dsimp only at hSw); go_simp; try with_reducible rfl)
  try simp only [Act.put]
  try simp only [List.setIfInBounds_toArray]
  try simp only [List.set_cons_zero]
  try simp only [List.set_cons_succ]
  try simp only [List.set_cons_zero]
  refine wpAnyH_take (i := 5) (oi := _) (v := ?v16) rfl (by kernel_rfl) (by kernel_rfl) (by kernel_rfl) (fun _ _ _ h => h) (Or.inl ⟨by rfl, ?y16⟩) (by assumption) ?r16
  case y16 => (intro w hSw; (try dsimp only at hSw); go_simp; try with_reducible rfl)
  try simp only [Act.put]
  try simp only [List.setIfInBounds_toArray]
  try simp only [List.set_cons_zero]
  try simp only [List.set_cons_succ]
  try simp only [List.set_cons_zero]
  refine wpAnyH_ready (rs := [6]) (by kernel_rfl) (by simp) ?_
  refine AllReadyH.cons (o := _) rfl (fun K hK => ?_) AllReadyH.nil
  go_simp
  (with_reducible refine (HRT.out _).mono ?_); rintro e y2 ⟨rfl, c2⟩
  have d2 := (Below.drew (Below.refl W1.heap.size W1)).trans c2
  have HXy2 := Lib.hid ((d2.block w.heap.size (Array.getElem?_eq_some_iff.1 HX1.out).1).trans HX1.out)
  have HOy2 := Lib.hid ((d2.block (w.heap.size + 1) (Array.getElem?_eq_some_iff.1 HO1.out).1).trans HO1.out)
  have HBy2 := Lib.hid (HB1.out.trans (d2.mono HB1.out.size))
  clear c2 d2
  try go_wp2_with fail
  refine hK.out _ _ (HS2.out _ HXy2.out HOy2.out HBy2.out) (fun hHeld17 => ?_)
  clear hK K hHeld10
  try simp only [Act.put]
  try simp only [List.setIfInBounds_toArray]
  try simp only [List.set_cons_zero]
  try simp only [List.set_cons_succ]
  try simp only [List.set_cons_zero]
  refine wpAnyH_ready (rs := [7]) (by kernel_rfl) (by simp) ?_
  refine AllReadyH.cons (o := _) rfl (fun K hK => ?_) AllReadyH.nil
  go_simp
  (with_reducible refine (HOPY.out _ HBy2.out).mono ?_); rintro e W5 ⟨rfl, c2⟩
  have HX5 := Lib.hid ((c2.block w.heap.size (Array.getElem?_eq_some_iff.1 HXy2.out).1).trans HXy2.out)
  have HO5 := Lib.hid ((c2.block (w.heap.size + 1) (Array.getElem?_eq_some_iff.1 HOy2.out).1).trans HOy2.out)
  have HB5 := Lib.hid (HBy2.out.trans (c2.mono HBy2.out.size))
  clear c2
  try go_wp2_with fail
  refine hK.out _ _ (HS2.out _ HX5.out HO5.out HB5.out) (fun hHeld18 => ?_)
  clear hK K hHeld17
  try simp only [Act.put]
  try simp only [List.setIfInBounds_toArray]
  try simp only [List.set_cons_zero]
  try simp only [List.set_cons_succ]
  try simp only [List.set_cons_zero]
  refine wpAnyH_ready (rs := [8]) (by kernel_rfl) (by simp) ?_
  refine AllReadyH.cons (o := _) rfl (fun K hK => ?_) AllReadyH.nil
  go_simp
  rw [if_neg (by omega)]
  try go_simp
  try go_wp2_with fail
  refine hK.out _ _ (HS2.out _ HX5.out HO5.out HB5.out) (fun hHeld19 => ?_)
  clear hK K hHeld18
  try simp only [Act.put]
  try simp only [List.setIfInBounds_toArray]
  try simp only [List.set_cons_zero]
  try simp only [List.set_cons_succ]
  try simp only [List.set_cons_zero]
  refine wpAnyH_ready (rs := [9]) (by kernel_rfl) (by simp) ?_
  refine AllReadyH.cons (o := _) rfl (fun K hK => ?_) AllReadyH.nil
  go_simp
  try go_wp2_with fail
  refine hK.out _ _ (HS2.out _ HX5.out HO5.out HB5.out) (fun hHeld20 => ?_)
  clear hK K hHeld19
  try simp only [Act.put]
  try simp only [List.setIfInBounds_toArray]
  try simp only [List.set_cons_zero]
  try simp only [List.set_cons_succ]
  try simp only [List.set_cons_zero]
  refine wpAnyH_done (by kernel_rfl) ?_ _
  obtain ⟨g0, g1⟩ := cellx2 HO5.out
  go_wp2_with fail
  go_ret
  exact ⟨by rw [HR.out]; rfl, HB5.out⟩

set_option maxRecDepth 100000 in
set_option maxHeartbeats 4000000 in
theorem rw_infix01 (m : Nat) (IH : RwText m) (T x y : Tm) (o : R) (ad : Option Addr) (cap : Nat) (p : Int) (w : World) (hxy : T.args = [x, y]) (hm : T.size ≤ m + 1) (hM : T.size ≤ 1000000) (hmx : x.may = true) (hmy : y.may = true) (hT : Tabs w) (hin : TmIn w T ad cap) (hs : T.name.data.toList = [44]) (hpr : p < o.p) :
    Calls Tryd.prog 40 #[tmv T ad cap, .agg #[.int .i64 o.p, .string o.k], .int .i64 p] w fun e w' => e = .returned (.string ⟨(infixK T.name.data.toList o x.wr y.wr p).toArray⟩) ∧ Below w.heap.size w w' := by
  have hl2 : T.args.length = 2 := by rw [hxy]; rfl
  have hsz : T.size = 1 + (x.size + y.size) := by rw [T.size_eq, hxy]; rfl
  obtain ⟨o1, o2, adx, capx, ady, capy, rfl, hinx, hiny, hcell⟩ := two_in (by have h := hin.args; rw [hxy] at h; exact h)
  have hxf := (wr_fits x hinx.n64).2.2 (leftOf o.k o.p)
  have hyf := (wr_fits y hiny.n64).2.2 (rightOf o.k o.p)
  have hopx := fun (W : World) (hW : Below w.heap.size w W) => rw_operand m IH x adx capx (leftOf o.k o.p) W (by omega) (by omega) hmx (hT.on hW) (hinx.on hW)
  have hopy := fun (W : World) (hW : Below w.heap.size w W) => rw_operand m IH y ady capy (rightOf o.k o.p) W (by omega) (by omega) hmy (hT.on hW) (hiny.on hW)
  have hcw := Lib.hid (fun (W : World) (hW : Below w.heap.size w W) => ref_Write T.name W hin.name (hT.on hW))
  have hwl := write_len T.name.data.toList
  have HB0 := Lib.hid (fun u v : Obj => ((Below.refl w.heap.size w).alloc (Nat.le_refl _) u).alloc (by simp) v)
  have hx0 : ∀ u v : Obj, ((w.alloc u).alloc v).heap[w.heap.size]? = some u := fun u v => (Lib.alloc_old _ _ _ (by simp)).trans (heap_alloc_new w u)
  have ho0 : ∀ u v : Obj, ((w.alloc u).alloc v).heap[w.heap.size + 1]? = some v := fun u v => by have h := heap_alloc_new (w.alloc u) v; rw [World.size_alloc] at h; exact h
  unfold infixK
  rw [if_pos hpr]
  unfold tmv at hopx hopy ⊢
  rw [hl2]
  have hXl : (x.wr.opd (leftOf o.k o.p)).length ≤ 1500000000 := by omega
  have hYl : (y.wr.opd (rightOf o.k o.p)).length ≤ 1500000000 := by omega
  generalize x.wr.opd (leftOf o.k o.p) = X at *
  generalize y.wr.opd (rightOf o.k o.p) = Y at *
  have HOPX := Lib.hid hopx
  have HOPY := Lib.hid hopy
  have HCELL := Lib.hid hcell
  have HLF := Lib.hid (fun W => ref_Left o.k o.p W)
  have HRT := Lib.hid (fun W => ref_Right o.k o.p W)
  have hpr2 : decide (p < o.p) = true := decide_eq_true hpr
  have hXs : (⟨X.toArray⟩ : ByteArray).size ≤ 1500000000 := by show X.toArray.size ≤ _; rw [List.size_toArray]; exact hXl
  have hYs : (⟨Y.toArray⟩ : ByteArray).size ≤ 1500000000 := by show Y.toArray.size ≤ _; rw [List.size_toArray]; exact hYl
  have es : T.name = ⟨#[44]⟩ := by apply ByteArray.ext; rw [← Array.toList_inj]; exact hs
  have eb : betweenK T.name.data.toList = [44] := by unfold betweenK; rw [if_pos hs]
  rw [eb]
  rw [es]
  have HR : Hid ((⟨#[40]⟩ ++ (⟨X.toArray⟩ ++ ⟨#[44]⟩ ++ ⟨Y.toArray⟩) ++ ⟨#[41]⟩ : ByteArray) = ⟨(40 :: ((X ++ ([44] ++ Y)) ++ [41])).toArray⟩) := Lib.hid (of_list _ _ (by simp))
  clear hs es eb
  obtain ⟨E, hE⟩ : ∃ E, (⟨(40 :: ((X ++ ([44] ++ Y)) ++ [41])).toArray⟩ : ByteArray) = E := ⟨_, rfl⟩
  rw [hE]
  rw [hE] at HR
  clear hE hopx hopy hcell hT hin hinx hiny hmx hmy IH hxy hxf hyf hm hM hsz
  go_enter Tryd.func40, Tryd.ntmps40
  go_wp2_with fail
  have hX := hx0 (.cells #[.int .i64 T.kind, .string ⟨#[44]⟩, .int .i64 T.n, .slice (some ⟨o1, o2, none⟩) 2 cap] 24) (.cells #[.int .i64 o.p, .string o.k] 51)
  have hO := ho0 (.cells #[.int .i64 T.kind, .string ⟨#[44]⟩, .int .i64 T.n, .slice (some ⟨o1, o2, none⟩) 2 cap] 24) (.cells #[.int .i64 o.p, .string o.k] 51)
  have hBL := HB0.out (.cells #[.int .i64 T.kind, .string ⟨#[44]⟩, .int .i64 T.n, .slice (some ⟨o1, o2, none⟩) 2 cap] 24) (.cells #[.int .i64 o.p, .string o.k] 51)
  clear hx0 ho0
  generalize (w.alloc (.cells #[.int .i64 T.kind, .string ⟨#[44]⟩, .int .i64 T.n, .slice (some ⟨o1, o2, none⟩) 2 cap] 24)).alloc (.cells #[.int .i64 o.p, .string o.k] 51) = W0 at *
  have HX0 := Lib.hid hX
  have HO0 := Lib.hid hO
  have HB0 := Lib.hid hBL
  clear hX hO hBL
  have HS1 : Hid (∀ W : World, W.heap[w.heap.size]? = some (.cells #[.int .i64 T.kind, .string ⟨#[44]⟩, .int .i64 T.n, .slice (some ⟨o1, o2, none⟩) 2 cap] 24 (0, 0)) → W.heap[w.heap.size + 1]? = some (.cells #[.int .i64 o.p, .string o.k] 51 (0, 0)) → Below w.heap.size w W → W.cell? ⟨w.heap.size, 3, none⟩ = some (.slice (some ⟨o1, o2, none⟩) 2 cap) ∧ W.cell? ⟨w.heap.size + 1, 0, none⟩ = some (.int .i64 o.p) ∧ W.cell? ⟨w.heap.size + 1, 1, none⟩ = some (.string o.k) ∧ W.cell? ⟨o1, o2, none⟩ = some (.int .i64 x.kind) ∧ W.cell? ⟨o1, o2 + 1, none⟩ = some (.string x.name) ∧ W.cell? ⟨o1, o2 + 2, none⟩ = some (.int .i64 x.n) ∧ W.cell? ⟨o1, o2 + 3, none⟩ = some (.slice adx x.args.length capx)) := Lib.hid (fun W h1 h2 h3 => ⟨(cellx4 h1).2.2.2, (cellx2 h2).1, (cellx2 h2).2, (HCELL.out W h3).1⟩)
  refine wp_region_held_drew (S := (fun W => W.cell? ⟨w.heap.size, 3, none⟩ = some (.slice (some ⟨o1, o2, none⟩) 2 cap) ∧ W.cell? ⟨w.heap.size + 1, 0, none⟩ = some (.int .i64 o.p) ∧ W.cell? ⟨w.heap.size + 1, 1, none⟩ = some (.string o.k) ∧ W.cell? ⟨o1, o2, none⟩ = some (.int .i64 x.kind) ∧ W.cell? ⟨o1, o2 + 1, none⟩ = some (.string x.name) ∧ W.cell? ⟨o1, o2 + 2, none⟩ = some (.int .i64 x.n) ∧ W.cell? ⟨o1, o2 + 3, none⟩ = some (.slice adx x.args.length capx))) (by kernel_rfl) (HS1.out _ HX0.out HO0.out HB0.out.drew) (fun hHeld1 => ?_)
  refine wpAnyH_take (i := 0) (oi := _) (v := ?v2) rfl (by kernel_rfl) (by kernel_rfl) (by kernel_rfl) (fun _ _ _ h => h) (Or.inl ⟨by rfl, ?y2⟩) (by assumption) ?r2
  case y2 => (intro w hSw; (try dsimp only at hSw); go_simp; try with_reducible rfl)
  try simp only [Act.put]
  try simp only [List.setIfInBounds_toArray]
  try simp only [List.set_cons_zero]
  try simp only [List.set_cons_succ]
  try simp only [List.set_cons_zero]
  refine wpAnyH_take (i := 1) (oi := _) (v := ?v3) rfl (by kernel_rfl) (by kernel_rfl) (by kernel_rfl) (fun _ _ _ h => h) (Or.inl ⟨by rfl, ?y3⟩) (by assumption) ?r3
  case y3 => (intro w hSw; (try dsimp only at hSw); go_simp; try with_reducible rfl)
  try simp only [Act.put]
  try simp only [List.setIfInBounds_toArray]
  try simp only [List.set_cons_zero]
  try simp only [List.set_cons_succ]
  try simp only [List.set_cons_zero]
  refine wpAnyH_take (i := 2) (oi := _) (v := ?v4) rfl (by kernel_rfl) (by kernel_rfl) (by kernel_rfl) (fun _ _ _ h => h) (Or.inl ⟨by rfl, ?y4⟩) (by assumption) ?r4
  case y4 => (intro w hSw; (try dsimp only at hSw); go_simp; try with_reducible rfl)
  try simp only [Act.put]
  try simp only [List.setIfInBounds_toArray]
  try simp only [List.set_cons_zero]
  try simp only [List.set_cons_succ]
  try simp only [List.set_cons_zero]
  refine wpAnyH_take (i := 3) (oi := _) (v := ?v5) rfl (by kernel_rfl) (by kernel_rfl) (by kernel_rfl) (fun _ _ _ h => h) (Or.inl ⟨by rfl, ?y5⟩) (by assumption) ?r5
  case y5 => (intro w hSw; (try dsimp only at hSw); go_simp; try with_reducible rfl)
  try simp only [Act.put]
  try simp only [List.setIfInBounds_toArray]
  try simp only [List.set_cons_zero]
  try simp only [List.set_cons_succ]
  try simp only [List.set_cons_zero]
  refine wpAnyH_take (i := 4) (oi := _) (v := ?v6) rfl (by kernel_rfl) (by kernel_rfl) (by kernel_rfl) (fun _ _ _ h => h) (Or.inl ⟨by rfl, ?y6⟩) (by assumption) ?r6
  case y6 => (intro w hSw; (try dsimp only at hSw); go_simp; try with_reducible rfl)
  try simp only [Act.put]
  try simp only [List.setIfInBounds_toArray]
  try simp only [List.set_cons_zero]
  try simp only [List.set_cons_succ]
  try simp only [List.set_cons_zero]
  refine wpAnyH_ready (rs := [5]) (by kernel_rfl) (by simp) ?_
  refine AllReadyH.cons (o := _) rfl (fun K hK => ?_) AllReadyH.nil
  go_simp
  (with_reducible refine (HLF.out _).mono ?_); rintro e y1 ⟨rfl, c1⟩
  have d1 := (Below.drew (Below.refl W0.heap.size W0)).trans c1
  have HXy1 := Lib.hid ((d1.block w.heap.size (Array.getElem?_eq_some_iff.1 HX0.out).1).trans HX0.out)
  have HOy1 := Lib.hid ((d1.block (w.heap.size + 1) (Array.getElem?_eq_some_iff.1 HO0.out).1).trans HO0.out)
  have HBy1 := Lib.hid (HB0.out.trans (d1.mono HB0.out.size))
  clear c1 d1
  try go_wp2_with fail
  refine hK.out _ _ (HS1.out _ HXy1.out HOy1.out HBy1.out) (fun hHeld7 => ?_)
  clear hK K hHeld1
  try simp only [Act.put]
  try simp only [List.setIfInBounds_toArray]
  try simp only [List.set_cons_zero]
  try simp only [List.set_cons_succ]
  try simp only [List.set_cons_zero]
  refine wpAnyH_ready (rs := [6]) (by kernel_rfl) (by simp) ?_
  refine AllReadyH.cons (o := _) rfl (fun K hK => ?_) AllReadyH.nil
  go_simp
  (with_reducible refine (HOPX.out _ HBy1.out).mono ?_); rintro e W1 ⟨rfl, c1⟩
  have HX1 := Lib.hid ((c1.block w.heap.size (Array.getElem?_eq_some_iff.1 HXy1.out).1).trans HXy1.out)
  have HO1 := Lib.hid ((c1.block (w.heap.size + 1) (Array.getElem?_eq_some_iff.1 HOy1.out).1).trans HOy1.out)
  have HB1 := Lib.hid (HBy1.out.trans (c1.mono HBy1.out.size))
  clear c1
  try go_wp2_with fail
  refine hK.out _ _ (HS1.out _ HX1.out HO1.out HB1.out) (fun hHeld8 => ?_)
  clear hK K hHeld7
  try simp only [Act.put]
  try simp only [List.setIfInBounds_toArray]
  try simp only [List.set_cons_zero]
  try simp only [List.set_cons_succ]
  try simp only [List.set_cons_zero]
  refine wpAnyH_ready (rs := [7]) (by kernel_rfl) (by simp) ?_
  refine AllReadyH.cons (o := _) rfl (fun K hK => ?_) AllReadyH.nil
  go_simp
  try go_wp2_with fail
  refine hK.out _ _ (HS1.out _ HX1.out HO1.out HB1.out) (fun hHeld9 => ?_)
  clear hK K hHeld8
  try simp only [Act.put]
  try simp only [List.setIfInBounds_toArray]
  try simp only [List.set_cons_zero]
  try simp only [List.set_cons_succ]
  try simp only [List.set_cons_zero]
  refine wpAnyH_done (by kernel_rfl) ?_ _
  obtain ⟨f0, f1, f2, f3⟩ := cellx4 HX1.out
  obtain ⟨g0, g1⟩ := cellx2 HO1.out
  go_wp2_with fail
  clear f0 f1 f2 f3 g0 g1
  have HS2 : Hid (∀ W : World, W.heap[w.heap.size]? = some (.cells #[.int .i64 T.kind, .string ⟨#[44]⟩, .int .i64 T.n, .slice (some ⟨o1, o2, none⟩) 2 cap] 24 (0, 0)) → W.heap[w.heap.size + 1]? = some (.cells #[.int .i64 o.p, .string o.k] 51 (0, 0)) → Below w.heap.size w W → W.cell? ⟨w.heap.size, 3, none⟩ = some (.slice (some ⟨o1, o2, none⟩) 2 cap) ∧ W.cell? ⟨w.heap.size + 1, 0, none⟩ = some (.int .i64 o.p) ∧ W.cell? ⟨w.heap.size + 1, 1, none⟩ = some (.string o.k) ∧ W.cell? ⟨o1, o2 + 4, none⟩ = some (.int .i64 y.kind) ∧ W.cell? ⟨o1, o2 + 4 + 1, none⟩ = some (.string y.name) ∧ W.cell? ⟨o1, o2 + 4 + 2, none⟩ = some (.int .i64 y.n) ∧ W.cell? ⟨o1, o2 + 4 + 3, none⟩ = some (.slice ady y.args.length capy)) := Lib.hid (fun W h1 h2 h3 => ⟨(cellx4 h1).2.2.2, (cellx2 h2).1, (cellx2 h2).2, (HCELL.out W h3).2⟩)
  refine wp_region_held_drew (S := (fun W => W.cell? ⟨w.heap.size, 3, none⟩ = some (.slice (some ⟨o1, o2, none⟩) 2 cap) ∧ W.cell? ⟨w.heap.size + 1, 0, none⟩ = some (.int .i64 o.p) ∧ W.cell? ⟨w.heap.size + 1, 1, none⟩ = some (.string o.k) ∧ W.cell? ⟨o1, o2 + 4, none⟩ = some (.int .i64 y.kind) ∧ W.cell? ⟨o1, o2 + 4 + 1, none⟩ = some (.string y.name) ∧ W.cell? ⟨o1, o2 + 4 + 2, none⟩ = some (.int .i64 y.n) ∧ W.cell? ⟨o1, o2 + 4 + 3, none⟩ = some (.slice ady y.args.length capy))) (by kernel_rfl) (HS2.out _ HX1.out HO1.out HB1.out.drew) (fun hHeld10 => ?_)
  refine wpAnyH_take (i := 0) (oi := _) (v := ?v11) rfl (by kernel_rfl) (by kernel_rfl) (by kernel_rfl) (fun _ _ _ h => h) (Or.inl ⟨by rfl, ?y11⟩) (by assumption) ?r11
  case y11 => (intro w hSw; (try dsimp only at hSw); go_simp; try with_reducible rfl)
  try simp only [Act.put]
  try simp only [List.setIfInBounds_toArray]
  try simp only [List.set_cons_zero]
  try simp only [List.set_cons_succ]
  try simp only [List.set_cons_zero]
  refine wpAnyH_take (i := 1) (oi := _) (v := ?v12) rfl (by kernel_rfl) (by kernel_rfl) (by kernel_rfl) (fun _ _ _ h => h) (Or.inl ⟨by rfl, ?y12⟩) (by assumption) ?r12
  case y12 => (intro w hSw; (try dsimp only at hSw); go_simp; try with_reducible rfl)
  try simp only [Act.put]
  try simp only [List.setIfInBounds_toArray]
  try simp only [List.set_cons_zero]
  try simp only [List.set_cons_succ]
  try simp only [List.set_cons_zero]
  refine wpAnyH_take (i := 2) (oi := _) (v := ?v13) rfl (by kernel_rfl) (by kernel_rfl) (by kernel_rfl) (fun _ _ _ h => h) (Or.inl ⟨by rfl, ?y13⟩) (by assumption) ?r13
  case y13 => (intro w hSw; (try dsimp only at hSw); go_simp; try with_reducible rfl)
  try simp only [Act.put]
  try simp only [List.setIfInBounds_toArray]
  try simp only [List.set_cons_zero]
  try simp only [List.set_cons_succ]
  try simp only [List.set_cons_zero]
  refine wpAnyH_take (i := 3) (oi := _) (v := ?v14) rfl (by kernel_rfl) (by kernel_rfl) (by kernel_rfl) (fun _ _ _ h => h) (Or.inl ⟨by rfl, ?y14⟩) (by assumption) ?r14
  case y14 => (intro w hSw; (try dsimp only at hSw); go_simp; try with_reducible rfl)
  try simp only [Act.put]
  try simp only [List.setIfInBounds_toArray]
  try simp only [List.set_cons_zero]
  try simp only [List.set_cons_succ]
  try simp only [List.set_cons_zero]
  refine wpAnyH_take (i := 4) (oi := _) (v := ?v15) rfl (by kernel_rfl) (by kernel_rfl) (by kernel_rfl) (fun _ _ _ h => h) (Or.inl ⟨by rfl, ?y15⟩) (by assumption) ?r15
  case y15 => (intro w hSw; (try dsimp only at hSw); go_simp; try with_reducible rfl)
  try simp only [Act.put]
  try simp only [List.setIfInBounds_toArray]
  try simp only [List.set_cons_zero]
  try simp only [List.set_cons_succ]
  try simp only [List.set_cons_zero]
  refine wpAnyH_take (i := 5) (oi := _) (v := ?v16) rfl (by kernel_rfl) (by kernel_rfl) (by kernel_rfl) (fun _ _ _ h => h) (Or.inl ⟨by rfl, ?y16⟩) (by assumption) ?r16
  case y16 => (intro w hSw; (try dsimp only at hSw); go_simp; try with_reducible rfl)
  try simp only [Act.put]
  try simp only [List.setIfInBounds_toArray]
  try simp only [List.set_cons_zero]
  try simp only [List.set_cons_succ]
  try simp only [List.set_cons_zero]
  refine wpAnyH_ready (rs := [6]) (by kernel_rfl) (by simp) ?_
  refine AllReadyH.cons (o := _) rfl (fun K hK => ?_) AllReadyH.nil
  go_simp
  (with_reducible refine (HRT.out _).mono ?_); rintro e y2 ⟨rfl, c2⟩
  have d2 := (Below.drew (Below.refl W1.heap.size W1)).trans c2
  have HXy2 := Lib.hid ((d2.block w.heap.size (Array.getElem?_eq_some_iff.1 HX1.out).1).trans HX1.out)
  have HOy2 := Lib.hid ((d2.block (w.heap.size + 1) (Array.getElem?_eq_some_iff.1 HO1.out).1).trans HO1.out)
  have HBy2 := Lib.hid (HB1.out.trans (d2.mono HB1.out.size))
  clear c2 d2
  try go_wp2_with fail
  refine hK.out _ _ (HS2.out _ HXy2.out HOy2.out HBy2.out) (fun hHeld17 => ?_)
  clear hK K hHeld10
  try simp only [Act.put]
  try simp only [List.setIfInBounds_toArray]
  try simp only [List.set_cons_zero]
  try simp only [List.set_cons_succ]
  try simp only [List.set_cons_zero]
  refine wpAnyH_ready (rs := [7]) (by kernel_rfl) (by simp) ?_
  refine AllReadyH.cons (o := _) rfl (fun K hK => ?_) AllReadyH.nil
  go_simp
  (with_reducible refine (HOPY.out _ HBy2.out).mono ?_); rintro e W5 ⟨rfl, c2⟩
  have HX5 := Lib.hid ((c2.block w.heap.size (Array.getElem?_eq_some_iff.1 HXy2.out).1).trans HXy2.out)
  have HO5 := Lib.hid ((c2.block (w.heap.size + 1) (Array.getElem?_eq_some_iff.1 HOy2.out).1).trans HOy2.out)
  have HB5 := Lib.hid (HBy2.out.trans (c2.mono HBy2.out.size))
  clear c2
  try go_wp2_with fail
  refine hK.out _ _ (HS2.out _ HX5.out HO5.out HB5.out) (fun hHeld18 => ?_)
  clear hK K hHeld17
  try simp only [Act.put]
  try simp only [List.setIfInBounds_toArray]
  try simp only [List.set_cons_zero]
  try simp only [List.set_cons_succ]
  try simp only [List.set_cons_zero]
  refine wpAnyH_ready (rs := [8]) (by kernel_rfl) (by simp) ?_
  refine AllReadyH.cons (o := _) rfl (fun K hK => ?_) AllReadyH.nil
  go_simp
  rw [if_neg (by omega)]
  try go_simp
  try go_wp2_with fail
  refine hK.out _ _ (HS2.out _ HX5.out HO5.out HB5.out) (fun hHeld19 => ?_)
  clear hK K hHeld18
  try simp only [Act.put]
  try simp only [List.setIfInBounds_toArray]
  try simp only [List.set_cons_zero]
  try simp only [List.set_cons_succ]
  try simp only [List.set_cons_zero]
  refine wpAnyH_ready (rs := [9]) (by kernel_rfl) (by simp) ?_
  refine AllReadyH.cons (o := _) rfl (fun K hK => ?_) AllReadyH.nil
  go_simp
  try go_wp2_with fail
  refine hK.out _ _ (HS2.out _ HX5.out HO5.out HB5.out) (fun hHeld20 => ?_)
  clear hK K hHeld19
  try simp only [Act.put]
  try simp only [List.setIfInBounds_toArray]
  try simp only [List.set_cons_zero]
  try simp only [List.set_cons_succ]
  try simp only [List.set_cons_zero]
  refine wpAnyH_done (by kernel_rfl) ?_ _
  obtain ⟨g0, g1⟩ := cellx2 HO5.out
  go_wp2_with fail
  go_ret
  exact ⟨by rw [HR.out]; rfl, HB5.out⟩

set_option maxRecDepth 100000 in
set_option maxHeartbeats 4000000 in
theorem rw_infix10 (m : Nat) (IH : RwText m) (T x y : Tm) (o : R) (ad : Option Addr) (cap : Nat) (p : Int) (w : World) (hxy : T.args = [x, y]) (hm : T.size ≤ m + 1) (hM : T.size ≤ 1000000) (hmx : x.may = true) (hmy : y.may = true) (hT : Tabs w) (hin : TmIn w T ad cap) (hs : T.name.data.toList ≠ [44]) (hpr : o.p ≤ p) :
    Calls Tryd.prog 40 #[tmv T ad cap, .agg #[.int .i64 o.p, .string o.k], .int .i64 p] w fun e w' => e = .returned (.string ⟨(infixK T.name.data.toList o x.wr y.wr p).toArray⟩) ∧ Below w.heap.size w w' := by
  have hl2 : T.args.length = 2 := by rw [hxy]; rfl
  have hsz : T.size = 1 + (x.size + y.size) := by rw [T.size_eq, hxy]; rfl
  obtain ⟨o1, o2, adx, capx, ady, capy, rfl, hinx, hiny, hcell⟩ := two_in (by have h := hin.args; rw [hxy] at h; exact h)
  have hxf := (wr_fits x hinx.n64).2.2 (leftOf o.k o.p)
  have hyf := (wr_fits y hiny.n64).2.2 (rightOf o.k o.p)
  have hopx := fun (W : World) (hW : Below w.heap.size w W) => rw_operand m IH x adx capx (leftOf o.k o.p) W (by omega) (by omega) hmx (hT.on hW) (hinx.on hW)
  have hopy := fun (W : World) (hW : Below w.heap.size w W) => rw_operand m IH y ady capy (rightOf o.k o.p) W (by omega) (by omega) hmy (hT.on hW) (hiny.on hW)
  have hcw := Lib.hid (fun (W : World) (hW : Below w.heap.size w W) => ref_Write T.name W hin.name (hT.on hW))
  have hwl := write_len T.name.data.toList
  have HB0 := Lib.hid (fun u v : Obj => ((Below.refl w.heap.size w).alloc (Nat.le_refl _) u).alloc (by simp) v)
  have hx0 : ∀ u v : Obj, ((w.alloc u).alloc v).heap[w.heap.size]? = some u := fun u v => (Lib.alloc_old _ _ _ (by simp)).trans (heap_alloc_new w u)
  have ho0 : ∀ u v : Obj, ((w.alloc u).alloc v).heap[w.heap.size + 1]? = some v := fun u v => by have h := heap_alloc_new (w.alloc u) v; rw [World.size_alloc] at h; exact h
  unfold infixK
  rw [if_neg (by omega)]
  unfold tmv at hopx hopy ⊢
  rw [hl2]
  have hXl : (x.wr.opd (leftOf o.k o.p)).length ≤ 1500000000 := by omega
  have hYl : (y.wr.opd (rightOf o.k o.p)).length ≤ 1500000000 := by omega
  generalize x.wr.opd (leftOf o.k o.p) = X at *
  generalize y.wr.opd (rightOf o.k o.p) = Y at *
  have HOPX := Lib.hid hopx
  have HOPY := Lib.hid hopy
  have HCELL := Lib.hid hcell
  have HLF := Lib.hid (fun W => ref_Left o.k o.p W)
  have HRT := Lib.hid (fun W => ref_Right o.k o.p W)
  have hpr2 : decide (p < o.p) = false := decide_eq_false (by omega)
  have hXs : (⟨X.toArray⟩ : ByteArray).size ≤ 1500000000 := by show X.toArray.size ≤ _; rw [List.size_toArray]; exact hXl
  have hYs : (⟨Y.toArray⟩ : ByteArray).size ≤ 1500000000 := by show Y.toArray.size ≤ _; rw [List.size_toArray]; exact hYl
  have hsb : (T.name.toList == [44]) = false := by rw [ByteArray.toList_eq]; exact beq_eq_false_iff_ne.2 hs
  have eb : betweenK T.name.data.toList = 32 :: (writeL T.name.data.toList ++ [32]) := by unfold betweenK; rw [if_neg hs]
  rw [eb]
  generalize writeL T.name.data.toList = N at *
  have hNs : (⟨N.toArray⟩ : ByteArray).size ≤ 1277 := by show N.toArray.size ≤ _; rw [List.size_toArray]; exact hwl
  have HR : Hid ((⟨X.toArray⟩ ++ (⟨#[32]⟩ ++ ⟨N.toArray⟩ ++ ⟨#[32]⟩) ++ ⟨Y.toArray⟩ : ByteArray) = ⟨(X ++ ((32 :: (N ++ [32])) ++ Y)).toArray⟩) := Lib.hid (of_list _ _ (by simp))
  clear hs eb
  obtain ⟨E, hE⟩ : ∃ E, (⟨(X ++ ((32 :: (N ++ [32])) ++ Y)).toArray⟩ : ByteArray) = E := ⟨_, rfl⟩
  rw [hE]
  rw [hE] at HR
  clear hE hopx hopy hcell hT hin hinx hiny hmx hmy IH hxy hxf hyf hm hM hsz
  go_enter Tryd.func40, Tryd.ntmps40
  go_wp2_with fail
  have hX := hx0 (.cells #[.int .i64 T.kind, .string T.name, .int .i64 T.n, .slice (some ⟨o1, o2, none⟩) 2 cap] 24) (.cells #[.int .i64 o.p, .string o.k] 51)
  have hO := ho0 (.cells #[.int .i64 T.kind, .string T.name, .int .i64 T.n, .slice (some ⟨o1, o2, none⟩) 2 cap] 24) (.cells #[.int .i64 o.p, .string o.k] 51)
  have hBL := HB0.out (.cells #[.int .i64 T.kind, .string T.name, .int .i64 T.n, .slice (some ⟨o1, o2, none⟩) 2 cap] 24) (.cells #[.int .i64 o.p, .string o.k] 51)
  clear hx0 ho0
  generalize (w.alloc (.cells #[.int .i64 T.kind, .string T.name, .int .i64 T.n, .slice (some ⟨o1, o2, none⟩) 2 cap] 24)).alloc (.cells #[.int .i64 o.p, .string o.k] 51) = W0 at *
  have HX0 := Lib.hid hX
  have HO0 := Lib.hid hO
  have HB0 := Lib.hid hBL
  clear hX hO hBL
  have HS1 : Hid (∀ W : World, W.heap[w.heap.size]? = some (.cells #[.int .i64 T.kind, .string T.name, .int .i64 T.n, .slice (some ⟨o1, o2, none⟩) 2 cap] 24 (0, 0)) → W.heap[w.heap.size + 1]? = some (.cells #[.int .i64 o.p, .string o.k] 51 (0, 0)) → Below w.heap.size w W → W.cell? ⟨w.heap.size, 3, none⟩ = some (.slice (some ⟨o1, o2, none⟩) 2 cap) ∧ W.cell? ⟨w.heap.size + 1, 0, none⟩ = some (.int .i64 o.p) ∧ W.cell? ⟨w.heap.size + 1, 1, none⟩ = some (.string o.k) ∧ W.cell? ⟨o1, o2, none⟩ = some (.int .i64 x.kind) ∧ W.cell? ⟨o1, o2 + 1, none⟩ = some (.string x.name) ∧ W.cell? ⟨o1, o2 + 2, none⟩ = some (.int .i64 x.n) ∧ W.cell? ⟨o1, o2 + 3, none⟩ = some (.slice adx x.args.length capx)) := Lib.hid (fun W h1 h2 h3 => ⟨(cellx4 h1).2.2.2, (cellx2 h2).1, (cellx2 h2).2, (HCELL.out W h3).1⟩)
  refine wp_region_held_drew (S := (fun W => W.cell? ⟨w.heap.size, 3, none⟩ = some (.slice (some ⟨o1, o2, none⟩) 2 cap) ∧ W.cell? ⟨w.heap.size + 1, 0, none⟩ = some (.int .i64 o.p) ∧ W.cell? ⟨w.heap.size + 1, 1, none⟩ = some (.string o.k) ∧ W.cell? ⟨o1, o2, none⟩ = some (.int .i64 x.kind) ∧ W.cell? ⟨o1, o2 + 1, none⟩ = some (.string x.name) ∧ W.cell? ⟨o1, o2 + 2, none⟩ = some (.int .i64 x.n) ∧ W.cell? ⟨o1, o2 + 3, none⟩ = some (.slice adx x.args.length capx))) (by kernel_rfl) (HS1.out _ HX0.out HO0.out HB0.out.drew) (fun hHeld1 => ?_)
  refine wpAnyH_take (i := 0) (oi := _) (v := ?v2) rfl (by kernel_rfl) (by kernel_rfl) (by kernel_rfl) (fun _ _ _ h => h) (Or.inl ⟨by rfl, ?y2⟩) (by assumption) ?r2
  case y2 => (intro w hSw; (try dsimp only at hSw); go_simp; try with_reducible rfl)
  try simp only [Act.put]
  try simp only [List.setIfInBounds_toArray]
  try simp only [List.set_cons_zero]
  try simp only [List.set_cons_succ]
  try simp only [List.set_cons_zero]
  refine wpAnyH_take (i := 1) (oi := _) (v := ?v3) rfl (by kernel_rfl) (by kernel_rfl) (by kernel_rfl) (fun _ _ _ h => h) (Or.inl ⟨by rfl, ?y3⟩) (by assumption) ?r3
  case y3 => (intro w hSw; (try dsimp only at hSw); go_simp; try with_reducible rfl)
  try simp only [Act.put]
  try simp only [List.setIfInBounds_toArray]
  try simp only [List.set_cons_zero]
  try simp only [List.set_cons_succ]
  try simp only [List.set_cons_zero]
  refine wpAnyH_take (i := 2) (oi := _) (v := ?v4) rfl (by kernel_rfl) (by kernel_rfl) (by kernel_rfl) (fun _ _ _ h => h) (Or.inl ⟨by rfl, ?y4⟩) (by assumption) ?r4
  case y4 => (intro w hSw; (try dsimp only at hSw); go_simp; try with_reducible rfl)
  try simp only [Act.put]
  try simp only [List.setIfInBounds_toArray]
  try simp only [List.set_cons_zero]
  try simp only [List.set_cons_succ]
  try simp only [List.set_cons_zero]
  refine wpAnyH_take (i := 3) (oi := _) (v := ?v5) rfl (by kernel_rfl) (by kernel_rfl) (by kernel_rfl) (fun _ _ _ h => h) (Or.inl ⟨by rfl, ?y5⟩) (by assumption) ?r5
  case y5 => (intro w hSw; (try dsimp only at hSw); go_simp; try with_reducible rfl)
  try simp only [Act.put]
  try simp only [List.setIfInBounds_toArray]
  try simp only [List.set_cons_zero]
  try simp only [List.set_cons_succ]
  try simp only [List.set_cons_zero]
  refine wpAnyH_take (i := 4) (oi := _) (v := ?v6) rfl (by kernel_rfl) (by kernel_rfl) (by kernel_rfl) (fun _ _ _ h => h) (Or.inl ⟨by rfl, ?y6⟩) (by assumption) ?r6
  case y6 => (intro w hSw; (try dsimp only at hSw); go_simp; try with_reducible rfl)
  try simp only [Act.put]
  try simp only [List.setIfInBounds_toArray]
  try simp only [List.set_cons_zero]
  try simp only [List.set_cons_succ]
  try simp only [List.set_cons_zero]
  refine wpAnyH_ready (rs := [5]) (by kernel_rfl) (by simp) ?_
  refine AllReadyH.cons (o := _) rfl (fun K hK => ?_) AllReadyH.nil
  go_simp
  (with_reducible refine (HLF.out _).mono ?_); rintro e y1 ⟨rfl, c1⟩
  have d1 := (Below.drew (Below.refl W0.heap.size W0)).trans c1
  have HXy1 := Lib.hid ((d1.block w.heap.size (Array.getElem?_eq_some_iff.1 HX0.out).1).trans HX0.out)
  have HOy1 := Lib.hid ((d1.block (w.heap.size + 1) (Array.getElem?_eq_some_iff.1 HO0.out).1).trans HO0.out)
  have HBy1 := Lib.hid (HB0.out.trans (d1.mono HB0.out.size))
  clear c1 d1
  try go_wp2_with fail
  refine hK.out _ _ (HS1.out _ HXy1.out HOy1.out HBy1.out) (fun hHeld7 => ?_)
  clear hK K hHeld1
  try simp only [Act.put]
  try simp only [List.setIfInBounds_toArray]
  try simp only [List.set_cons_zero]
  try simp only [List.set_cons_succ]
  try simp only [List.set_cons_zero]
  refine wpAnyH_ready (rs := [6]) (by kernel_rfl) (by simp) ?_
  refine AllReadyH.cons (o := _) rfl (fun K hK => ?_) AllReadyH.nil
  go_simp
  (with_reducible refine (HOPX.out _ HBy1.out).mono ?_); rintro e W1 ⟨rfl, c1⟩
  have HX1 := Lib.hid ((c1.block w.heap.size (Array.getElem?_eq_some_iff.1 HXy1.out).1).trans HXy1.out)
  have HO1 := Lib.hid ((c1.block (w.heap.size + 1) (Array.getElem?_eq_some_iff.1 HOy1.out).1).trans HOy1.out)
  have HB1 := Lib.hid (HBy1.out.trans (c1.mono HBy1.out.size))
  clear c1
  try go_wp2_with fail
  refine hK.out _ _ (HS1.out _ HX1.out HO1.out HB1.out) (fun hHeld8 => ?_)
  clear hK K hHeld7
  try simp only [Act.put]
  try simp only [List.setIfInBounds_toArray]
  try simp only [List.set_cons_zero]
  try simp only [List.set_cons_succ]
  try simp only [List.set_cons_zero]
  refine wpAnyH_ready (rs := [7]) (by kernel_rfl) (by simp) ?_
  refine AllReadyH.cons (o := _) rfl (fun K hK => ?_) AllReadyH.nil
  go_simp
  try go_wp2_with fail
  refine hK.out _ _ (HS1.out _ HX1.out HO1.out HB1.out) (fun hHeld9 => ?_)
  clear hK K hHeld8
  try simp only [Act.put]
  try simp only [List.setIfInBounds_toArray]
  try simp only [List.set_cons_zero]
  try simp only [List.set_cons_succ]
  try simp only [List.set_cons_zero]
  refine wpAnyH_done (by kernel_rfl) ?_ _
  obtain ⟨f0, f1, f2, f3⟩ := cellx4 HX1.out
  obtain ⟨g0, g1⟩ := cellx2 HO1.out
  go_wp2_with fail
  refine (hcw.out _ HB1.out).mono ?_
  rintro e W4 ⟨rfl, c4⟩
  have HX4 := Lib.hid ((c4.block w.heap.size (Array.getElem?_eq_some_iff.1 HX1.out).1).trans HX1.out)
  have HO4 := Lib.hid ((c4.block (w.heap.size + 1) (Array.getElem?_eq_some_iff.1 HO1.out).1).trans HO1.out)
  have HB4 := Lib.hid (HB1.out.trans (c4.mono HB1.out.size))
  clear c4 f0 f1 f2 f3 g0 g1
  go_wp2_with fail
  have HS2 : Hid (∀ W : World, W.heap[w.heap.size]? = some (.cells #[.int .i64 T.kind, .string T.name, .int .i64 T.n, .slice (some ⟨o1, o2, none⟩) 2 cap] 24 (0, 0)) → W.heap[w.heap.size + 1]? = some (.cells #[.int .i64 o.p, .string o.k] 51 (0, 0)) → Below w.heap.size w W → W.cell? ⟨w.heap.size, 3, none⟩ = some (.slice (some ⟨o1, o2, none⟩) 2 cap) ∧ W.cell? ⟨w.heap.size + 1, 0, none⟩ = some (.int .i64 o.p) ∧ W.cell? ⟨w.heap.size + 1, 1, none⟩ = some (.string o.k) ∧ W.cell? ⟨o1, o2 + 4, none⟩ = some (.int .i64 y.kind) ∧ W.cell? ⟨o1, o2 + 4 + 1, none⟩ = some (.string y.name) ∧ W.cell? ⟨o1, o2 + 4 + 2, none⟩ = some (.int .i64 y.n) ∧ W.cell? ⟨o1, o2 + 4 + 3, none⟩ = some (.slice ady y.args.length capy)) := Lib.hid (fun W h1 h2 h3 => ⟨(cellx4 h1).2.2.2, (cellx2 h2).1, (cellx2 h2).2, (HCELL.out W h3).2⟩)
  refine wp_region_held_drew (S := (fun W => W.cell? ⟨w.heap.size, 3, none⟩ = some (.slice (some ⟨o1, o2, none⟩) 2 cap) ∧ W.cell? ⟨w.heap.size + 1, 0, none⟩ = some (.int .i64 o.p) ∧ W.cell? ⟨w.heap.size + 1, 1, none⟩ = some (.string o.k) ∧ W.cell? ⟨o1, o2 + 4, none⟩ = some (.int .i64 y.kind) ∧ W.cell? ⟨o1, o2 + 4 + 1, none⟩ = some (.string y.name) ∧ W.cell? ⟨o1, o2 + 4 + 2, none⟩ = some (.int .i64 y.n) ∧ W.cell? ⟨o1, o2 + 4 + 3, none⟩ = some (.slice ady y.args.length capy))) (by kernel_rfl) (HS2.out _ HX4.out HO4.out HB4.out.drew) (fun hHeld10 => ?_)
  refine wpAnyH_take (i := 0) (oi := _) (v := ?v11) rfl (by kernel_rfl) (by kernel_rfl) (by kernel_rfl) (fun _ _ _ h => h) (Or.inl ⟨by rfl, ?y11⟩) (by assumption) ?r11
  case y11 => (intro w hSw; (try dsimp only at hSw); go_simp; try with_reducible rfl)
  try simp only [Act.put]
  try simp only [List.setIfInBounds_toArray]
  try simp only [List.set_cons_zero]
  try simp only [List.set_cons_succ]
  try simp only [List.set_cons_zero]
  refine wpAnyH_take (i := 1) (oi := _) (v := ?v12) rfl (by kernel_rfl) (by kernel_rfl) (by kernel_rfl) (fun _ _ _ h => h) (Or.inl ⟨by rfl, ?y12⟩) (by assumption) ?r12
  case y12 => (intro w hSw; (try dsimp only at hSw); go_simp; try with_reducible rfl)
  try simp only [Act.put]
  try simp only [List.setIfInBounds_toArray]
  try simp only [List.set_cons_zero]
  try simp only [List.set_cons_succ]
  try simp only [List.set_cons_zero]
  refine wpAnyH_take (i := 2) (oi := _) (v := ?v13) rfl (by kernel_rfl) (by kernel_rfl) (by kernel_rfl) (fun _ _ _ h => h) (Or.inl ⟨by rfl, ?y13⟩) (by assumption) ?r13
  case y13 => (intro w hSw; (try dsimp only at hSw); go_simp; try with_reducible rfl)
  try simp only [Act.put]
  try simp only [List.setIfInBounds_toArray]
  try simp only [List.set_cons_zero]
  try simp only [List.set_cons_succ]
  try simp only [List.set_cons_zero]
  refine wpAnyH_take (i := 3) (oi := _) (v := ?v14) rfl (by kernel_rfl) (by kernel_rfl) (by kernel_rfl) (fun _ _ _ h => h) (Or.inl ⟨by rfl, ?y14⟩) (by assumption) ?r14
  case y14 => (intro w hSw; (try dsimp only at hSw); go_simp; try with_reducible rfl)
  try simp only [Act.put]
  try simp only [List.setIfInBounds_toArray]
  try simp only [List.set_cons_zero]
  try simp only [List.set_cons_succ]
  try simp only [List.set_cons_zero]
  refine wpAnyH_take (i := 4) (oi := _) (v := ?v15) rfl (by kernel_rfl) (by kernel_rfl) (by kernel_rfl) (fun _ _ _ h => h) (Or.inl ⟨by rfl, ?y15⟩) (by assumption) ?r15
  case y15 => (intro w hSw; (try dsimp only at hSw); go_simp; try with_reducible rfl)
  try simp only [Act.put]
  try simp only [List.setIfInBounds_toArray]
  try simp only [List.set_cons_zero]
  try simp only [List.set_cons_succ]
  try simp only [List.set_cons_zero]
  refine wpAnyH_take (i := 5) (oi := _) (v := ?v16) rfl (by kernel_rfl) (by kernel_rfl) (by kernel_rfl) (fun _ _ _ h => h) (Or.inl ⟨by rfl, ?y16⟩) (by assumption) ?r16
  case y16 => (intro w hSw; (try dsimp only at hSw); go_simp; try with_reducible rfl)
  try simp only [Act.put]
  try simp only [List.setIfInBounds_toArray]
  try simp only [List.set_cons_zero]
  try simp only [List.set_cons_succ]
  try simp only [List.set_cons_zero]
  refine wpAnyH_ready (rs := [6]) (by kernel_rfl) (by simp) ?_
  refine AllReadyH.cons (o := _) rfl (fun K hK => ?_) AllReadyH.nil
  go_simp
  (with_reducible refine (HRT.out _).mono ?_); rintro e y2 ⟨rfl, c2⟩
  have d2 := (Below.drew (Below.refl W4.heap.size W4)).trans c2
  have HXy2 := Lib.hid ((d2.block w.heap.size (Array.getElem?_eq_some_iff.1 HX4.out).1).trans HX4.out)
  have HOy2 := Lib.hid ((d2.block (w.heap.size + 1) (Array.getElem?_eq_some_iff.1 HO4.out).1).trans HO4.out)
  have HBy2 := Lib.hid (HB4.out.trans (d2.mono HB4.out.size))
  clear c2 d2
  try go_wp2_with fail
  refine hK.out _ _ (HS2.out _ HXy2.out HOy2.out HBy2.out) (fun hHeld17 => ?_)
  clear hK K hHeld10
  try simp only [Act.put]
  try simp only [List.setIfInBounds_toArray]
  try simp only [List.set_cons_zero]
  try simp only [List.set_cons_succ]
  try simp only [List.set_cons_zero]
  refine wpAnyH_ready (rs := [7]) (by kernel_rfl) (by simp) ?_
  refine AllReadyH.cons (o := _) rfl (fun K hK => ?_) AllReadyH.nil
  go_simp
  (with_reducible refine (HOPY.out _ HBy2.out).mono ?_); rintro e W5 ⟨rfl, c2⟩
  have HX5 := Lib.hid ((c2.block w.heap.size (Array.getElem?_eq_some_iff.1 HXy2.out).1).trans HXy2.out)
  have HO5 := Lib.hid ((c2.block (w.heap.size + 1) (Array.getElem?_eq_some_iff.1 HOy2.out).1).trans HOy2.out)
  have HB5 := Lib.hid (HBy2.out.trans (c2.mono HBy2.out.size))
  clear c2
  try go_wp2_with fail
  refine hK.out _ _ (HS2.out _ HX5.out HO5.out HB5.out) (fun hHeld18 => ?_)
  clear hK K hHeld17
  try simp only [Act.put]
  try simp only [List.setIfInBounds_toArray]
  try simp only [List.set_cons_zero]
  try simp only [List.set_cons_succ]
  try simp only [List.set_cons_zero]
  refine wpAnyH_ready (rs := [8]) (by kernel_rfl) (by simp) ?_
  refine AllReadyH.cons (o := _) rfl (fun K hK => ?_) AllReadyH.nil
  go_simp
  rw [if_neg (by omega)]
  try go_simp
  try go_wp2_with fail
  refine hK.out _ _ (HS2.out _ HX5.out HO5.out HB5.out) (fun hHeld19 => ?_)
  clear hK K hHeld18
  try simp only [Act.put]
  try simp only [List.setIfInBounds_toArray]
  try simp only [List.set_cons_zero]
  try simp only [List.set_cons_succ]
  try simp only [List.set_cons_zero]
  refine wpAnyH_ready (rs := [9]) (by kernel_rfl) (by simp) ?_
  refine AllReadyH.cons (o := _) rfl (fun K hK => ?_) AllReadyH.nil
  go_simp
  try go_wp2_with fail
  refine hK.out _ _ (HS2.out _ HX5.out HO5.out HB5.out) (fun hHeld20 => ?_)
  clear hK K hHeld19
  try simp only [Act.put]
  try simp only [List.setIfInBounds_toArray]
  try simp only [List.set_cons_zero]
  try simp only [List.set_cons_succ]
  try simp only [List.set_cons_zero]
  refine wpAnyH_done (by kernel_rfl) ?_ _
  obtain ⟨g0, g1⟩ := cellx2 HO5.out
  go_wp2_with fail
  go_ret
  exact ⟨by rw [HR.out]; rfl, HB5.out⟩

set_option maxRecDepth 100000 in
set_option maxHeartbeats 4000000 in
theorem rw_infix11 (m : Nat) (IH : RwText m) (T x y : Tm) (o : R) (ad : Option Addr) (cap : Nat) (p : Int) (w : World) (hxy : T.args = [x, y]) (hm : T.size ≤ m + 1) (hM : T.size ≤ 1000000) (hmx : x.may = true) (hmy : y.may = true) (hT : Tabs w) (hin : TmIn w T ad cap) (hs : T.name.data.toList ≠ [44]) (hpr : p < o.p) :
    Calls Tryd.prog 40 #[tmv T ad cap, .agg #[.int .i64 o.p, .string o.k], .int .i64 p] w fun e w' => e = .returned (.string ⟨(infixK T.name.data.toList o x.wr y.wr p).toArray⟩) ∧ Below w.heap.size w w' := by
  have hl2 : T.args.length = 2 := by rw [hxy]; rfl
  have hsz : T.size = 1 + (x.size + y.size) := by rw [T.size_eq, hxy]; rfl
  obtain ⟨o1, o2, adx, capx, ady, capy, rfl, hinx, hiny, hcell⟩ := two_in (by have h := hin.args; rw [hxy] at h; exact h)
  have hxf := (wr_fits x hinx.n64).2.2 (leftOf o.k o.p)
  have hyf := (wr_fits y hiny.n64).2.2 (rightOf o.k o.p)
  have hopx := fun (W : World) (hW : Below w.heap.size w W) => rw_operand m IH x adx capx (leftOf o.k o.p) W (by omega) (by omega) hmx (hT.on hW) (hinx.on hW)
  have hopy := fun (W : World) (hW : Below w.heap.size w W) => rw_operand m IH y ady capy (rightOf o.k o.p) W (by omega) (by omega) hmy (hT.on hW) (hiny.on hW)
  have hcw := Lib.hid (fun (W : World) (hW : Below w.heap.size w W) => ref_Write T.name W hin.name (hT.on hW))
  have hwl := write_len T.name.data.toList
  have HB0 := Lib.hid (fun u v : Obj => ((Below.refl w.heap.size w).alloc (Nat.le_refl _) u).alloc (by simp) v)
  have hx0 : ∀ u v : Obj, ((w.alloc u).alloc v).heap[w.heap.size]? = some u := fun u v => (Lib.alloc_old _ _ _ (by simp)).trans (heap_alloc_new w u)
  have ho0 : ∀ u v : Obj, ((w.alloc u).alloc v).heap[w.heap.size + 1]? = some v := fun u v => by have h := heap_alloc_new (w.alloc u) v; rw [World.size_alloc] at h; exact h
  unfold infixK
  rw [if_pos hpr]
  unfold tmv at hopx hopy ⊢
  rw [hl2]
  have hXl : (x.wr.opd (leftOf o.k o.p)).length ≤ 1500000000 := by omega
  have hYl : (y.wr.opd (rightOf o.k o.p)).length ≤ 1500000000 := by omega
  generalize x.wr.opd (leftOf o.k o.p) = X at *
  generalize y.wr.opd (rightOf o.k o.p) = Y at *
  have HOPX := Lib.hid hopx
  have HOPY := Lib.hid hopy
  have HCELL := Lib.hid hcell
  have HLF := Lib.hid (fun W => ref_Left o.k o.p W)
  have HRT := Lib.hid (fun W => ref_Right o.k o.p W)
  have hpr2 : decide (p < o.p) = true := decide_eq_true hpr
  have hXs : (⟨X.toArray⟩ : ByteArray).size ≤ 1500000000 := by show X.toArray.size ≤ _; rw [List.size_toArray]; exact hXl
  have hYs : (⟨Y.toArray⟩ : ByteArray).size ≤ 1500000000 := by show Y.toArray.size ≤ _; rw [List.size_toArray]; exact hYl
  have hsb : (T.name.toList == [44]) = false := by rw [ByteArray.toList_eq]; exact beq_eq_false_iff_ne.2 hs
  have eb : betweenK T.name.data.toList = 32 :: (writeL T.name.data.toList ++ [32]) := by unfold betweenK; rw [if_neg hs]
  rw [eb]
  generalize writeL T.name.data.toList = N at *
  have hNs : (⟨N.toArray⟩ : ByteArray).size ≤ 1277 := by show N.toArray.size ≤ _; rw [List.size_toArray]; exact hwl
  have HR : Hid ((⟨#[40]⟩ ++ (⟨X.toArray⟩ ++ (⟨#[32]⟩ ++ ⟨N.toArray⟩ ++ ⟨#[32]⟩) ++ ⟨Y.toArray⟩) ++ ⟨#[41]⟩ : ByteArray) = ⟨(40 :: ((X ++ ((32 :: (N ++ [32])) ++ Y)) ++ [41])).toArray⟩) := Lib.hid (of_list _ _ (by simp))
  clear hs eb
  obtain ⟨E, hE⟩ : ∃ E, (⟨(40 :: ((X ++ ((32 :: (N ++ [32])) ++ Y)) ++ [41])).toArray⟩ : ByteArray) = E := ⟨_, rfl⟩
  rw [hE]
  rw [hE] at HR
  clear hE hopx hopy hcell hT hin hinx hiny hmx hmy IH hxy hxf hyf hm hM hsz
  go_enter Tryd.func40, Tryd.ntmps40
  go_wp2_with fail
  have hX := hx0 (.cells #[.int .i64 T.kind, .string T.name, .int .i64 T.n, .slice (some ⟨o1, o2, none⟩) 2 cap] 24) (.cells #[.int .i64 o.p, .string o.k] 51)
  have hO := ho0 (.cells #[.int .i64 T.kind, .string T.name, .int .i64 T.n, .slice (some ⟨o1, o2, none⟩) 2 cap] 24) (.cells #[.int .i64 o.p, .string o.k] 51)
  have hBL := HB0.out (.cells #[.int .i64 T.kind, .string T.name, .int .i64 T.n, .slice (some ⟨o1, o2, none⟩) 2 cap] 24) (.cells #[.int .i64 o.p, .string o.k] 51)
  clear hx0 ho0
  generalize (w.alloc (.cells #[.int .i64 T.kind, .string T.name, .int .i64 T.n, .slice (some ⟨o1, o2, none⟩) 2 cap] 24)).alloc (.cells #[.int .i64 o.p, .string o.k] 51) = W0 at *
  have HX0 := Lib.hid hX
  have HO0 := Lib.hid hO
  have HB0 := Lib.hid hBL
  clear hX hO hBL
  have HS1 : Hid (∀ W : World, W.heap[w.heap.size]? = some (.cells #[.int .i64 T.kind, .string T.name, .int .i64 T.n, .slice (some ⟨o1, o2, none⟩) 2 cap] 24 (0, 0)) → W.heap[w.heap.size + 1]? = some (.cells #[.int .i64 o.p, .string o.k] 51 (0, 0)) → Below w.heap.size w W → W.cell? ⟨w.heap.size, 3, none⟩ = some (.slice (some ⟨o1, o2, none⟩) 2 cap) ∧ W.cell? ⟨w.heap.size + 1, 0, none⟩ = some (.int .i64 o.p) ∧ W.cell? ⟨w.heap.size + 1, 1, none⟩ = some (.string o.k) ∧ W.cell? ⟨o1, o2, none⟩ = some (.int .i64 x.kind) ∧ W.cell? ⟨o1, o2 + 1, none⟩ = some (.string x.name) ∧ W.cell? ⟨o1, o2 + 2, none⟩ = some (.int .i64 x.n) ∧ W.cell? ⟨o1, o2 + 3, none⟩ = some (.slice adx x.args.length capx)) := Lib.hid (fun W h1 h2 h3 => ⟨(cellx4 h1).2.2.2, (cellx2 h2).1, (cellx2 h2).2, (HCELL.out W h3).1⟩)
  refine wp_region_held_drew (S := (fun W => W.cell? ⟨w.heap.size, 3, none⟩ = some (.slice (some ⟨o1, o2, none⟩) 2 cap) ∧ W.cell? ⟨w.heap.size + 1, 0, none⟩ = some (.int .i64 o.p) ∧ W.cell? ⟨w.heap.size + 1, 1, none⟩ = some (.string o.k) ∧ W.cell? ⟨o1, o2, none⟩ = some (.int .i64 x.kind) ∧ W.cell? ⟨o1, o2 + 1, none⟩ = some (.string x.name) ∧ W.cell? ⟨o1, o2 + 2, none⟩ = some (.int .i64 x.n) ∧ W.cell? ⟨o1, o2 + 3, none⟩ = some (.slice adx x.args.length capx))) (by kernel_rfl) (HS1.out _ HX0.out HO0.out HB0.out.drew) (fun hHeld1 => ?_)
  refine wpAnyH_take (i := 0) (oi := _) (v := ?v2) rfl (by kernel_rfl) (by kernel_rfl) (by kernel_rfl) (fun _ _ _ h => h) (Or.inl ⟨by rfl, ?y2⟩) (by assumption) ?r2
  case y2 => (intro w hSw; (try dsimp only at hSw); go_simp; try with_reducible rfl)
  try simp only [Act.put]
  try simp only [List.setIfInBounds_toArray]
  try simp only [List.set_cons_zero]
  try simp only [List.set_cons_succ]
  try simp only [List.set_cons_zero]
  refine wpAnyH_take (i := 1) (oi := _) (v := ?v3) rfl (by kernel_rfl) (by kernel_rfl) (by kernel_rfl) (fun _ _ _ h => h) (Or.inl ⟨by rfl, ?y3⟩) (by assumption) ?r3
  case y3 => (intro w hSw; (try dsimp only at hSw); go_simp; try with_reducible rfl)
  try simp only [Act.put]
  try simp only [List.setIfInBounds_toArray]
  try simp only [List.set_cons_zero]
  try simp only [List.set_cons_succ]
  try simp only [List.set_cons_zero]
  refine wpAnyH_take (i := 2) (oi := _) (v := ?v4) rfl (by kernel_rfl) (by kernel_rfl) (by kernel_rfl) (fun _ _ _ h => h) (Or.inl ⟨by rfl, ?y4⟩) (by assumption) ?r4
  case y4 => (intro w hSw; (try dsimp only at hSw); go_simp; try with_reducible rfl)
  try simp only [Act.put]
  try simp only [List.setIfInBounds_toArray]
  try simp only [List.set_cons_zero]
  try simp only [List.set_cons_succ]
  try simp only [List.set_cons_zero]
  refine wpAnyH_take (i := 3) (oi := _) (v := ?v5) rfl (by kernel_rfl) (by kernel_rfl) (by kernel_rfl) (fun _ _ _ h => h) (Or.inl ⟨by rfl, ?y5⟩) (by assumption) ?r5
  case y5 => (intro w hSw; (try dsimp only at hSw); go_simp; try with_reducible rfl)
  try simp only [Act.put]
  try simp only [List.setIfInBounds_toArray]
  try simp only [List.set_cons_zero]
  try simp only [List.set_cons_succ]
  try simp only [List.set_cons_zero]
  refine wpAnyH_take (i := 4) (oi := _) (v := ?v6) rfl (by kernel_rfl) (by kernel_rfl) (by kernel_rfl) (fun _ _ _ h => h) (Or.inl ⟨by rfl, ?y6⟩) (by assumption) ?r6
  case y6 => (intro w hSw; (try dsimp only at hSw); go_simp; try with_reducible rfl)
  try simp only [Act.put]
  try simp only [List.setIfInBounds_toArray]
  try simp only [List.set_cons_zero]
  try simp only [List.set_cons_succ]
  try simp only [List.set_cons_zero]
  refine wpAnyH_ready (rs := [5]) (by kernel_rfl) (by simp) ?_
  refine AllReadyH.cons (o := _) rfl (fun K hK => ?_) AllReadyH.nil
  go_simp
  (with_reducible refine (HLF.out _).mono ?_); rintro e y1 ⟨rfl, c1⟩
  have d1 := (Below.drew (Below.refl W0.heap.size W0)).trans c1
  have HXy1 := Lib.hid ((d1.block w.heap.size (Array.getElem?_eq_some_iff.1 HX0.out).1).trans HX0.out)
  have HOy1 := Lib.hid ((d1.block (w.heap.size + 1) (Array.getElem?_eq_some_iff.1 HO0.out).1).trans HO0.out)
  have HBy1 := Lib.hid (HB0.out.trans (d1.mono HB0.out.size))
  clear c1 d1
  try go_wp2_with fail
  refine hK.out _ _ (HS1.out _ HXy1.out HOy1.out HBy1.out) (fun hHeld7 => ?_)
  clear hK K hHeld1
  try simp only [Act.put]
  try simp only [List.setIfInBounds_toArray]
  try simp only [List.set_cons_zero]
  try simp only [List.set_cons_succ]
  try simp only [List.set_cons_zero]
  refine wpAnyH_ready (rs := [6]) (by kernel_rfl) (by simp) ?_
  refine AllReadyH.cons (o := _) rfl (fun K hK => ?_) AllReadyH.nil
  go_simp
  (with_reducible refine (HOPX.out _ HBy1.out).mono ?_); rintro e W1 ⟨rfl, c1⟩
  have HX1 := Lib.hid ((c1.block w.heap.size (Array.getElem?_eq_some_iff.1 HXy1.out).1).trans HXy1.out)
  have HO1 := Lib.hid ((c1.block (w.heap.size + 1) (Array.getElem?_eq_some_iff.1 HOy1.out).1).trans HOy1.out)
  have HB1 := Lib.hid (HBy1.out.trans (c1.mono HBy1.out.size))
  clear c1
  try go_wp2_with fail
  refine hK.out _ _ (HS1.out _ HX1.out HO1.out HB1.out) (fun hHeld8 => ?_)
  clear hK K hHeld7
  try simp only [Act.put]
  try simp only [List.setIfInBounds_toArray]
  try simp only [List.set_cons_zero]
  try simp only [List.set_cons_succ]
  try simp only [List.set_cons_zero]
  refine wpAnyH_ready (rs := [7]) (by kernel_rfl) (by simp) ?_
  refine AllReadyH.cons (o := _) rfl (fun K hK => ?_) AllReadyH.nil
  go_simp
  try go_wp2_with fail
  refine hK.out _ _ (HS1.out _ HX1.out HO1.out HB1.out) (fun hHeld9 => ?_)
  clear hK K hHeld8
  try simp only [Act.put]
  try simp only [List.setIfInBounds_toArray]
  try simp only [List.set_cons_zero]
  try simp only [List.set_cons_succ]
  try simp only [List.set_cons_zero]
  refine wpAnyH_done (by kernel_rfl) ?_ _
  obtain ⟨f0, f1, f2, f3⟩ := cellx4 HX1.out
  obtain ⟨g0, g1⟩ := cellx2 HO1.out
  go_wp2_with fail
  refine (hcw.out _ HB1.out).mono ?_
  rintro e W4 ⟨rfl, c4⟩
  have HX4 := Lib.hid ((c4.block w.heap.size (Array.getElem?_eq_some_iff.1 HX1.out).1).trans HX1.out)
  have HO4 := Lib.hid ((c4.block (w.heap.size + 1) (Array.getElem?_eq_some_iff.1 HO1.out).1).trans HO1.out)
  have HB4 := Lib.hid (HB1.out.trans (c4.mono HB1.out.size))
  clear c4 f0 f1 f2 f3 g0 g1
  go_wp2_with fail
  have HS2 : Hid (∀ W : World, W.heap[w.heap.size]? = some (.cells #[.int .i64 T.kind, .string T.name, .int .i64 T.n, .slice (some ⟨o1, o2, none⟩) 2 cap] 24 (0, 0)) → W.heap[w.heap.size + 1]? = some (.cells #[.int .i64 o.p, .string o.k] 51 (0, 0)) → Below w.heap.size w W → W.cell? ⟨w.heap.size, 3, none⟩ = some (.slice (some ⟨o1, o2, none⟩) 2 cap) ∧ W.cell? ⟨w.heap.size + 1, 0, none⟩ = some (.int .i64 o.p) ∧ W.cell? ⟨w.heap.size + 1, 1, none⟩ = some (.string o.k) ∧ W.cell? ⟨o1, o2 + 4, none⟩ = some (.int .i64 y.kind) ∧ W.cell? ⟨o1, o2 + 4 + 1, none⟩ = some (.string y.name) ∧ W.cell? ⟨o1, o2 + 4 + 2, none⟩ = some (.int .i64 y.n) ∧ W.cell? ⟨o1, o2 + 4 + 3, none⟩ = some (.slice ady y.args.length capy)) := Lib.hid (fun W h1 h2 h3 => ⟨(cellx4 h1).2.2.2, (cellx2 h2).1, (cellx2 h2).2, (HCELL.out W h3).2⟩)
  refine wp_region_held_drew (S := (fun W => W.cell? ⟨w.heap.size, 3, none⟩ = some (.slice (some ⟨o1, o2, none⟩) 2 cap) ∧ W.cell? ⟨w.heap.size + 1, 0, none⟩ = some (.int .i64 o.p) ∧ W.cell? ⟨w.heap.size + 1, 1, none⟩ = some (.string o.k) ∧ W.cell? ⟨o1, o2 + 4, none⟩ = some (.int .i64 y.kind) ∧ W.cell? ⟨o1, o2 + 4 + 1, none⟩ = some (.string y.name) ∧ W.cell? ⟨o1, o2 + 4 + 2, none⟩ = some (.int .i64 y.n) ∧ W.cell? ⟨o1, o2 + 4 + 3, none⟩ = some (.slice ady y.args.length capy))) (by kernel_rfl) (HS2.out _ HX4.out HO4.out HB4.out.drew) (fun hHeld10 => ?_)
  refine wpAnyH_take (i := 0) (oi := _) (v := ?v11) rfl (by kernel_rfl) (by kernel_rfl) (by kernel_rfl) (fun _ _ _ h => h) (Or.inl ⟨by rfl, ?y11⟩) (by assumption) ?r11
  case y11 => (intro w hSw; (try dsimp only at hSw); go_simp; try with_reducible rfl)
  try simp only [Act.put]
  try simp only [List.setIfInBounds_toArray]
  try simp only [List.set_cons_zero]
  try simp only [List.set_cons_succ]
  try simp only [List.set_cons_zero]
  refine wpAnyH_take (i := 1) (oi := _) (v := ?v12) rfl (by kernel_rfl) (by kernel_rfl) (by kernel_rfl) (fun _ _ _ h => h) (Or.inl ⟨by rfl, ?y12⟩) (by assumption) ?r12
  case y12 => (intro w hSw; (try dsimp only at hSw); go_simp; try with_reducible rfl)
  try simp only [Act.put]
  try simp only [List.setIfInBounds_toArray]
  try simp only [List.set_cons_zero]
  try simp only [List.set_cons_succ]
  try simp only [List.set_cons_zero]
  refine wpAnyH_take (i := 2) (oi := _) (v := ?v13) rfl (by kernel_rfl) (by kernel_rfl) (by kernel_rfl) (fun _ _ _ h => h) (Or.inl ⟨by rfl, ?y13⟩) (by assumption) ?r13
  case y13 => (intro w hSw; (try dsimp only at hSw); go_simp; try with_reducible rfl)
  try simp only [Act.put]
  try simp only [List.setIfInBounds_toArray]
  try simp only [List.set_cons_zero]
  try simp only [List.set_cons_succ]
  try simp only [List.set_cons_zero]
  refine wpAnyH_take (i := 3) (oi := _) (v := ?v14) rfl (by kernel_rfl) (by kernel_rfl) (by kernel_rfl) (fun _ _ _ h => h) (Or.inl ⟨by rfl, ?y14⟩) (by assumption) ?r14
  case y14 => (intro w hSw; (try dsimp only at hSw); go_simp; try with_reducible rfl)
  try simp only [Act.put]
  try simp only [List.setIfInBounds_toArray]
  try simp only [List.set_cons_zero]
  try simp only [List.set_cons_succ]
  try simp only [List.set_cons_zero]
  refine wpAnyH_take (i := 4) (oi := _) (v := ?v15) rfl (by kernel_rfl) (by kernel_rfl) (by kernel_rfl) (fun _ _ _ h => h) (Or.inl ⟨by rfl, ?y15⟩) (by assumption) ?r15
  case y15 => (intro w hSw; (try dsimp only at hSw); go_simp; try with_reducible rfl)
  try simp only [Act.put]
  try simp only [List.setIfInBounds_toArray]
  try simp only [List.set_cons_zero]
  try simp only [List.set_cons_succ]
  try simp only [List.set_cons_zero]
  refine wpAnyH_take (i := 5) (oi := _) (v := ?v16) rfl (by kernel_rfl) (by kernel_rfl) (by kernel_rfl) (fun _ _ _ h => h) (Or.inl ⟨by rfl, ?y16⟩) (by assumption) ?r16
  case y16 => (intro w hSw; (try dsimp only at hSw); go_simp; try with_reducible rfl)
  try simp only [Act.put]
  try simp only [List.setIfInBounds_toArray]
  try simp only [List.set_cons_zero]
  try simp only [List.set_cons_succ]
  try simp only [List.set_cons_zero]
  refine wpAnyH_ready (rs := [6]) (by kernel_rfl) (by simp) ?_
  refine AllReadyH.cons (o := _) rfl (fun K hK => ?_) AllReadyH.nil
  go_simp
  (with_reducible refine (HRT.out _).mono ?_); rintro e y2 ⟨rfl, c2⟩
  have d2 := (Below.drew (Below.refl W4.heap.size W4)).trans c2
  have HXy2 := Lib.hid ((d2.block w.heap.size (Array.getElem?_eq_some_iff.1 HX4.out).1).trans HX4.out)
  have HOy2 := Lib.hid ((d2.block (w.heap.size + 1) (Array.getElem?_eq_some_iff.1 HO4.out).1).trans HO4.out)
  have HBy2 := Lib.hid (HB4.out.trans (d2.mono HB4.out.size))
  clear c2 d2
  try go_wp2_with fail
  refine hK.out _ _ (HS2.out _ HXy2.out HOy2.out HBy2.out) (fun hHeld17 => ?_)
  clear hK K hHeld10
  try simp only [Act.put]
  try simp only [List.setIfInBounds_toArray]
  try simp only [List.set_cons_zero]
  try simp only [List.set_cons_succ]
  try simp only [List.set_cons_zero]
  refine wpAnyH_ready (rs := [7]) (by kernel_rfl) (by simp) ?_
  refine AllReadyH.cons (o := _) rfl (fun K hK => ?_) AllReadyH.nil
  go_simp
  (with_reducible refine (HOPY.out _ HBy2.out).mono ?_); rintro e W5 ⟨rfl, c2⟩
  have HX5 := Lib.hid ((c2.block w.heap.size (Array.getElem?_eq_some_iff.1 HXy2.out).1).trans HXy2.out)
  have HO5 := Lib.hid ((c2.block (w.heap.size + 1) (Array.getElem?_eq_some_iff.1 HOy2.out).1).trans HOy2.out)
  have HB5 := Lib.hid (HBy2.out.trans (c2.mono HBy2.out.size))
  clear c2
  try go_wp2_with fail
  refine hK.out _ _ (HS2.out _ HX5.out HO5.out HB5.out) (fun hHeld18 => ?_)
  clear hK K hHeld17
  try simp only [Act.put]
  try simp only [List.setIfInBounds_toArray]
  try simp only [List.set_cons_zero]
  try simp only [List.set_cons_succ]
  try simp only [List.set_cons_zero]
  refine wpAnyH_ready (rs := [8]) (by kernel_rfl) (by simp) ?_
  refine AllReadyH.cons (o := _) rfl (fun K hK => ?_) AllReadyH.nil
  go_simp
  rw [if_neg (by omega)]
  try go_simp
  try go_wp2_with fail
  refine hK.out _ _ (HS2.out _ HX5.out HO5.out HB5.out) (fun hHeld19 => ?_)
  clear hK K hHeld18
  try simp only [Act.put]
  try simp only [List.setIfInBounds_toArray]
  try simp only [List.set_cons_zero]
  try simp only [List.set_cons_succ]
  try simp only [List.set_cons_zero]
  refine wpAnyH_ready (rs := [9]) (by kernel_rfl) (by simp) ?_
  refine AllReadyH.cons (o := _) rfl (fun K hK => ?_) AllReadyH.nil
  go_simp
  try go_wp2_with fail
  refine hK.out _ _ (HS2.out _ HX5.out HO5.out HB5.out) (fun hHeld20 => ?_)
  clear hK K hHeld19
  try simp only [Act.put]
  try simp only [List.setIfInBounds_toArray]
  try simp only [List.set_cons_zero]
  try simp only [List.set_cons_succ]
  try simp only [List.set_cons_zero]
  refine wpAnyH_done (by kernel_rfl) ?_ _
  obtain ⟨g0, g1⟩ := cellx2 HO5.out
  go_wp2_with fail
  go_ret
  exact ⟨by rw [HR.out]; rfl, HB5.out⟩

theorem rw_infix (m : Nat) (IH : RwText m) (T x y : Tm) (o : R) (ad : Option Addr) (cap : Nat) (p : Int) (w : World) (hxy : T.args = [x, y]) (hm : T.size ≤ m + 1) (hM : T.size ≤ 1000000) (hmx : x.may = true) (hmy : y.may = true) (hT : Tabs w) (hin : TmIn w T ad cap) :
    Calls Tryd.prog 40 #[tmv T ad cap, .agg #[.int .i64 o.p, .string o.k], .int .i64 p] w fun e w' => e = .returned (.string ⟨(infixK T.name.data.toList o x.wr y.wr p).toArray⟩) ∧ Below w.heap.size w w' := by
  by_cases hs : T.name.data.toList = [44]
  · by_cases hp : p < o.p
    · exact rw_infix01 m IH T x y o ad cap p w hxy hm hM hmx hmy hT hin hs hp
    · exact rw_infix00 m IH T x y o ad cap p w hxy hm hM hmx hmy hT hin hs (by omega)
  · by_cases hp : p < o.p
    · exact rw_infix11 m IH T x y o ad cap p w hxy hm hM hmx hmy hT hin hs hp
    · exact rw_infix10 m IH T x y o ad cap p w hxy hm hM hmx hmy hT hin hs (by omega)
end Go.Proofs.YtdjejbgokamjeaaDoor
