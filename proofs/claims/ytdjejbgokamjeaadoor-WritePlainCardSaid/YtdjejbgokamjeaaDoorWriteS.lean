/-
  The document's own writer: text and tail (printed by gen/genWriteS.py).
-/
import Derived.Test.YtdjejbgokamjeaaDoorWriteR
import Derived.Test.YtdjejbgokamjeaaDoorWriteH
namespace Go.Proofs.YtdjejbgokamjeaaDoor
open Go.RowKit

theorem commaW_zero (ws : List Wr) (h : 0 < ws.length) : commaW (ws.take 1) = (ws[0]'h).txt 999 := by
  cases ws with
  | nil => cases h
  | cons a l => rfl
theorem commaW_step (ws : List Wr) (k : Nat) (hk : 0 < k) (h : k < ws.length) : commaW (ws.take (k + 1)) = commaW (ws.take k) ++ 44 :: (ws[k]'h).txt 999 := by
  rw [List.take_succ_eq_append_getElem h, commaW_snoc, if_neg (by intro e; have := congrArg List.length e; rw [List.length_take, List.length_nil] at this; omega)]

set_option maxRecDepth 100000 in
set_option maxHeartbeats 4000000 in
theorem rw_textA (m : Nat) (IH : RwText m) (IT : RwTail m) (T : Tm) (ad : Option Addr) (cap : Nat) (p : Int) (w : World) (hm : T.size ≤ m + 1) (hM : T.size ≤ 1000000) (hmay : T.may = true) (hT : Tabs w) (hin : TmIn w T ad cap) (hp : PairT T) :
    Calls Tryd.prog 22 #[tmv T ad cap, .int .i64 p] w fun e w' => e = .returned (.string ⟨(T.wr.txt p).toArray⟩) ∧ Below w.heap.size w w' := by
  obtain ⟨x, y, hxy, hsz, htx, htl⟩ := hp.two
  have hmxy := may_two hmay hp.1 hxy
  have hip := fun W => rw_isList T.kind T.n T.name ad T.args.length cap W
  rw [pairB_of hp, hp.2.2, hp.1] at hip
  obtain ⟨o1, o2, adx, capx, ady, capy, rfl, hinx, hiny, hcell⟩ := two_in (by have h := hin.args; rw [hxy] at h; exact h)
  have hxf := (wr_fits x hinx.n64).1 999
  have hyf := (wr_fits y hiny.n64).2.1
  have hcx := fun (W : World) (hW : Below w.heap.size w W) => IH x adx capx 999 W (by omega) (by omega) hmxy.1 (hT.on hW) (hinx.on hW)
  have hcy := fun (W : World) (hW : Below w.heap.size w W) => IT y ady capy W (by omega) (by omega) hmxy.2 (hT.on hW) (hiny.on hW)
  have HB0 := Lib.hid (fun o : Obj => (Below.refl w.heap.size w).alloc (Nat.le_refl _) o)
  rw [htx]
  unfold tmv at hcx hcy ⊢
  rw [hp.2.2, hp.1]
  have hXl : (x.wr.txt 999).length ≤ 1500000000 := by omega
  have hYl : y.wr.tail.length ≤ 1500000000 := by omega
  generalize x.wr.txt 999 = X at *
  generalize y.wr.tail = Y at *
  have HCX := Lib.hid hcx
  have HCY := Lib.hid hcy
  have HCELL := Lib.hid hcell
  have HIP := Lib.hid hip
  have HR : Hid ((⟨#[91]⟩ ++ ⟨X.toArray⟩ ++ ⟨Y.toArray⟩ ++ ⟨#[93]⟩ : ByteArray) = ⟨(91 :: (X ++ (Y ++ [93]))).toArray⟩) := Lib.hid (of_list _ _ (by simp))
  obtain ⟨E, hE⟩ : ∃ E, (⟨(91 :: (X ++ (Y ++ [93]))).toArray⟩ : ByteArray) = E := ⟨_, rfl⟩
  rw [hE]
  rw [hE] at HR
  clear hE hcx hcy hcell hip hT hin hinx hiny hmxy hmay IH IT hxy hxf hyf hsz htx htl hp hm hM
  go_enter Tryd.func22, Tryd.ntmps22
  go_wp2_with fail
  refine (HIP.out _).mono ?_
  rintro e w1 ⟨rfl, hb1⟩
  have hX1 := (hb1.block w.heap.size (by simp)).trans (heap_alloc_new w _)
  have hB1 := (HB0.out _).trans (hb1.mono (by simp))
  clear hb1
  obtain ⟨d0, d1, d2, d3⟩ := cellx4 hX1
  go_wp2_with fail
  clear d0 d1 d2 d3
  have HX1 := Lib.hid hX1
  have HB1 := Lib.hid hB1
  clear hX1 hB1
  have HS : Hid (∀ W : World, W.heap[w.heap.size]? = some (.cells #[.int .i64 4, .string T.name, .int .i64 T.n, .slice (some ⟨o1, o2, none⟩) 2 cap] 24 (0, 0)) → Below w.heap.size w W → W.cell? ⟨w.heap.size, 3, none⟩ = some (.slice (some ⟨o1, o2, none⟩) 2 cap) ∧ W.cell? ⟨o1, o2, none⟩ = some (.int .i64 x.kind) ∧ W.cell? ⟨o1, o2 + 1, none⟩ = some (.string x.name) ∧ W.cell? ⟨o1, o2 + 2, none⟩ = some (.int .i64 x.n) ∧ W.cell? ⟨o1, o2 + 3, none⟩ = some (.slice adx x.args.length capx) ∧ W.cell? ⟨o1, o2 + 4, none⟩ = some (.int .i64 y.kind) ∧ W.cell? ⟨o1, o2 + 4 + 1, none⟩ = some (.string y.name) ∧ W.cell? ⟨o1, o2 + 4 + 2, none⟩ = some (.int .i64 y.n) ∧ W.cell? ⟨o1, o2 + 4 + 3, none⟩ = some (.slice ady y.args.length capy)) := Lib.hid (fun W h1 h3 => ⟨(cellx4 h1).2.2.2, (HCELL.out W h3).1.1, (HCELL.out W h3).1.2.1, (HCELL.out W h3).1.2.2.1, (HCELL.out W h3).1.2.2.2, (HCELL.out W h3).2⟩)
  refine wp_region_held_drew (S := (fun W => W.cell? ⟨w.heap.size, 3, none⟩ = some (.slice (some ⟨o1, o2, none⟩) 2 cap) ∧ W.cell? ⟨o1, o2, none⟩ = some (.int .i64 x.kind) ∧ W.cell? ⟨o1, o2 + 1, none⟩ = some (.string x.name) ∧ W.cell? ⟨o1, o2 + 2, none⟩ = some (.int .i64 x.n) ∧ W.cell? ⟨o1, o2 + 3, none⟩ = some (.slice adx x.args.length capx) ∧ W.cell? ⟨o1, o2 + 4, none⟩ = some (.int .i64 y.kind) ∧ W.cell? ⟨o1, o2 + 4 + 1, none⟩ = some (.string y.name) ∧ W.cell? ⟨o1, o2 + 4 + 2, none⟩ = some (.int .i64 y.n) ∧ W.cell? ⟨o1, o2 + 4 + 3, none⟩ = some (.slice ady y.args.length capy))) (by kernel_rfl) (HS.out _ HX1.out HB1.out.drew) (fun hHeld1 => ?_)
  refine wpAnyH_take (i := 0) (oi := _) (v := ?v2) rfl (by kernel_rfl) (by kernel_rfl) (by kernel_rfl) (fun _ _ _ h => h) (Or.inl ⟨by rfl, ?y2⟩) (by assumption) ?r2
  case y2 => (intro w hSw; (try dsimp only at hSw); go_simp; try with_reducible rfl)
  try simp only [Act.put]
  try simp only [List.setIfInBounds_toArray]
  try simp only [List.set_cons_zero]
  try simp only [List.set_cons_succ]
  try simp only [List.set_cons_zero]
  refine wpAnyH_take (i := 1) (oi := _) (v := ?v3) rfl (by kernel_rfl) (by kernel_rfl) (by kernel_rfl) (fun _ _ _ h => h) (Or.inl ⟨by rfl, ?y3⟩) (by assumption) ?r3
  case y3 => (intro w hSw; (try dsimp only at hSw); go_simp; try with_reducible rfl)
  try simp only [Act.put]
  try simp only [List.setIfInBounds_toArray]
  try simp only [List.set_cons_zero]
  try simp only [List.set_cons_succ]
  try simp only [List.set_cons_zero]
  refine wpAnyH_take (i := 2) (oi := _) (v := ?v4) rfl (by kernel_rfl) (by kernel_rfl) (by kernel_rfl) (fun _ _ _ h => h) (Or.inl ⟨by rfl, ?y4⟩) (by assumption) ?r4
  case y4 => (intro w hSw; (try dsimp only at hSw); go_simp; try with_reducible rfl)
  try simp only [Act.put]
  try simp only [List.setIfInBounds_toArray]
  try simp only [List.set_cons_zero]
  try simp only [List.set_cons_succ]
  try simp only [List.set_cons_zero]
  refine wpAnyH_take (i := 3) (oi := _) (v := ?v5) rfl (by kernel_rfl) (by kernel_rfl) (by kernel_rfl) (fun _ _ _ h => h) (Or.inl ⟨by rfl, ?y5⟩) (by assumption) ?r5
  case y5 => (intro w hSw; (try dsimp only at hSw); go_simp; try with_reducible rfl)
  try simp only [Act.put]
  try simp only [List.setIfInBounds_toArray]
  try simp only [List.set_cons_zero]
  try simp only [List.set_cons_succ]
  try simp only [List.set_cons_zero]
  refine wpAnyH_take (i := 6) (oi := _) (v := ?v6) rfl (by kernel_rfl) (by kernel_rfl) (by kernel_rfl) (fun _ _ _ h => h) (Or.inl ⟨by rfl, ?y6⟩) (by assumption) ?r6
  case y6 => (intro w hSw; (try dsimp only at hSw); go_simp; try with_reducible rfl)
  try simp only [Act.put]
  try simp only [List.setIfInBounds_toArray]
  try simp only [List.set_cons_zero]
  try simp only [List.set_cons_succ]
  try simp only [List.set_cons_zero]
  refine wpAnyH_take (i := 7) (oi := _) (v := ?v7) rfl (by kernel_rfl) (by kernel_rfl) (by kernel_rfl) (fun _ _ _ h => h) (Or.inl ⟨by rfl, ?y7⟩) (by assumption) ?r7
  case y7 => (intro w hSw; (try dsimp only at hSw); go_simp; try with_reducible rfl)
  try simp only [Act.put]
  try simp only [List.setIfInBounds_toArray]
  try simp only [List.set_cons_zero]
  try simp only [List.set_cons_succ]
  try simp only [List.set_cons_zero]
  refine wpAnyH_take (i := 8) (oi := _) (v := ?v8) rfl (by kernel_rfl) (by kernel_rfl) (by kernel_rfl) (fun _ _ _ h => h) (Or.inl ⟨by rfl, ?y8⟩) (by assumption) ?r8
  case y8 => (intro w hSw; (try dsimp only at hSw); go_simp; try with_reducible rfl)
  try simp only [Act.put]
  try simp only [List.setIfInBounds_toArray]
  try simp only [List.set_cons_zero]
  try simp only [List.set_cons_succ]
  try simp only [List.set_cons_zero]
  refine wpAnyH_take (i := 9) (oi := _) (v := ?v9) rfl (by kernel_rfl) (by kernel_rfl) (by kernel_rfl) (fun _ _ _ h => h) (Or.inl ⟨by rfl, ?y9⟩) (by assumption) ?r9
  case y9 => (intro w hSw; (try dsimp only at hSw); go_simp; try with_reducible rfl)
  try simp only [Act.put]
  try simp only [List.setIfInBounds_toArray]
  try simp only [List.set_cons_zero]
  try simp only [List.set_cons_succ]
  try simp only [List.set_cons_zero]
  refine wpAnyH_ready (rs := [4]) (by kernel_rfl) (by simp) ?_
  refine AllReadyH.cons (o := _) rfl (fun K hK => ?_) (AllReadyH.nil)
  go_simp
  (with_reducible refine (HCX.out _ HB1.out.drew).mono ?_); rintro e y1 ⟨rfl, c1⟩
  have d1 := (Below.drew (Below.refl w1.heap.size w1)).trans c1
  have HXy1 := Lib.hid ((d1.block w.heap.size (Array.getElem?_eq_some_iff.1 HX1.out).1).trans HX1.out)
  have HBy1 := Lib.hid (HB1.out.trans (d1.mono HB1.out.size))
  clear d1
  clear c1
  try go_wp2_with fail
  refine hK.out _ _ (HS.out _ HXy1.out HBy1.out) (fun hHeld10 => ?_)
  clear hK K hHeld1
  try simp only [Act.put]
  try simp only [List.setIfInBounds_toArray]
  try simp only [List.set_cons_zero]
  try simp only [List.set_cons_succ]
  try simp only [List.set_cons_zero]
  refine wpAnyH_ready (rs := [5, 10]) (by kernel_rfl) (by simp) ?_
  refine AllReadyH.cons (o := _) rfl (fun K hK => ?_) (AllReadyH.cons (o := _) rfl (fun K hK => ?_) (AllReadyH.nil))
  · go_simp
    rw [if_neg (by omega)]
    try go_simp
    try go_wp2_with fail
    refine hK.out _ _ (HS.out _ HXy1.out HBy1.out) (fun hHeld11 => ?_)
    clear hK K hHeld10
    try simp only [Act.put]
    try simp only [List.setIfInBounds_toArray]
    try simp only [List.set_cons_zero]
    try simp only [List.set_cons_succ]
    try simp only [List.set_cons_zero]
    refine wpAnyH_ready (rs := [10]) (by kernel_rfl) (by simp) ?_
    refine AllReadyH.cons (o := _) rfl (fun K hK => ?_) (AllReadyH.nil)
    go_simp
    (with_reducible refine (HCY.out _ HBy1.out).mono ?_); rintro e y2 ⟨rfl, c2⟩
    have HXy2 := Lib.hid ((c2.block w.heap.size (Array.getElem?_eq_some_iff.1 HXy1.out).1).trans HXy1.out)
    have HBy2 := Lib.hid (HBy1.out.trans (c2.mono HBy1.out.size))
    clear c2
    try go_wp2_with fail
    refine hK.out _ _ (HS.out _ HXy2.out HBy2.out) (fun hHeld12 => ?_)
    clear hK K hHeld11
    try simp only [Act.put]
    try simp only [List.setIfInBounds_toArray]
    try simp only [List.set_cons_zero]
    try simp only [List.set_cons_succ]
    try simp only [List.set_cons_zero]
    refine wpAnyH_ready (rs := [11]) (by kernel_rfl) (by simp) ?_
    refine AllReadyH.cons (o := _) rfl (fun K hK => ?_) (AllReadyH.nil)
    go_simp
    rw [if_neg (by omega)]
    try go_simp
    try go_wp2_with fail
    refine hK.out _ _ (HS.out _ HXy2.out HBy2.out) (fun hHeld13 => ?_)
    clear hK K hHeld12
    try simp only [Act.put]
    try simp only [List.setIfInBounds_toArray]
    try simp only [List.set_cons_zero]
    try simp only [List.set_cons_succ]
    try simp only [List.set_cons_zero]
    refine wpAnyH_ready (rs := [12]) (by kernel_rfl) (by simp) ?_
    refine AllReadyH.cons (o := _) rfl (fun K hK => ?_) (AllReadyH.nil)
    go_simp
    rw [if_neg (by omega)]
    try go_simp
    try go_wp2_with fail
    refine hK.out _ _ (HS.out _ HXy2.out HBy2.out) (fun hHeld14 => ?_)
    clear hK K hHeld13
    try simp only [Act.put]
    try simp only [List.setIfInBounds_toArray]
    try simp only [List.set_cons_zero]
    try simp only [List.set_cons_succ]
    try simp only [List.set_cons_zero]
    refine wpAnyH_ready (rs := [13]) (by kernel_rfl) (by simp) ?_
    refine AllReadyH.cons (o := _) rfl (fun K hK => ?_) (AllReadyH.nil)
    go_simp
    try go_wp2_with fail
    refine hK.out _ _ (HS.out _ HXy2.out HBy2.out) (fun hHeld15 => ?_)
    clear hK K hHeld14
    try simp only [Act.put]
    try simp only [List.setIfInBounds_toArray]
    try simp only [List.set_cons_zero]
    try simp only [List.set_cons_succ]
    try simp only [List.set_cons_zero]
    refine wpAnyH_done (by kernel_rfl) ?_ _
    go_wp2_with fail
    go_ret
    exact ⟨by rw [HR.out]; rfl, HBy2.out⟩
  · go_simp
    (with_reducible refine (HCY.out _ HBy1.out).mono ?_); rintro e y3 ⟨rfl, c3⟩
    have HXy3 := Lib.hid ((c3.block w.heap.size (Array.getElem?_eq_some_iff.1 HXy1.out).1).trans HXy1.out)
    have HBy3 := Lib.hid (HBy1.out.trans (c3.mono HBy1.out.size))
    clear c3
    try go_wp2_with fail
    refine hK.out _ _ (HS.out _ HXy3.out HBy3.out) (fun hHeld16 => ?_)
    clear hK K hHeld10
    try simp only [Act.put]
    try simp only [List.setIfInBounds_toArray]
    try simp only [List.set_cons_zero]
    try simp only [List.set_cons_succ]
    try simp only [List.set_cons_zero]
    refine wpAnyH_ready (rs := [5]) (by kernel_rfl) (by simp) ?_
    refine AllReadyH.cons (o := _) rfl (fun K hK => ?_) (AllReadyH.nil)
    go_simp
    rw [if_neg (by omega)]
    try go_simp
    try go_wp2_with fail
    refine hK.out _ _ (HS.out _ HXy3.out HBy3.out) (fun hHeld17 => ?_)
    clear hK K hHeld16
    try simp only [Act.put]
    try simp only [List.setIfInBounds_toArray]
    try simp only [List.set_cons_zero]
    try simp only [List.set_cons_succ]
    try simp only [List.set_cons_zero]
    refine wpAnyH_ready (rs := [11]) (by kernel_rfl) (by simp) ?_
    refine AllReadyH.cons (o := _) rfl (fun K hK => ?_) (AllReadyH.nil)
    go_simp
    rw [if_neg (by omega)]
    try go_simp
    try go_wp2_with fail
    refine hK.out _ _ (HS.out _ HXy3.out HBy3.out) (fun hHeld18 => ?_)
    clear hK K hHeld17
    try simp only [Act.put]
    try simp only [List.setIfInBounds_toArray]
    try simp only [List.set_cons_zero]
    try simp only [List.set_cons_succ]
    try simp only [List.set_cons_zero]
    refine wpAnyH_ready (rs := [12]) (by kernel_rfl) (by simp) ?_
    refine AllReadyH.cons (o := _) rfl (fun K hK => ?_) (AllReadyH.nil)
    go_simp
    rw [if_neg (by omega)]
    try go_simp
    try go_wp2_with fail
    refine hK.out _ _ (HS.out _ HXy3.out HBy3.out) (fun hHeld19 => ?_)
    clear hK K hHeld18
    try simp only [Act.put]
    try simp only [List.setIfInBounds_toArray]
    try simp only [List.set_cons_zero]
    try simp only [List.set_cons_succ]
    try simp only [List.set_cons_zero]
    refine wpAnyH_ready (rs := [13]) (by kernel_rfl) (by simp) ?_
    refine AllReadyH.cons (o := _) rfl (fun K hK => ?_) (AllReadyH.nil)
    go_simp
    try go_wp2_with fail
    refine hK.out _ _ (HS.out _ HXy3.out HBy3.out) (fun hHeld20 => ?_)
    clear hK K hHeld19
    try simp only [Act.put]
    try simp only [List.setIfInBounds_toArray]
    try simp only [List.set_cons_zero]
    try simp only [List.set_cons_succ]
    try simp only [List.set_cons_zero]
    refine wpAnyH_done (by kernel_rfl) ?_ _
    go_wp2_with fail
    go_ret
    exact ⟨by rw [HR.out]; rfl, HBy3.out⟩

set_option maxRecDepth 100000 in
set_option maxHeartbeats 4000000 in
theorem rw_tailA (m : Nat) (IH : RwText m) (IT : RwTail m) (T : Tm) (ad : Option Addr) (cap : Nat) (_p : Int) (w : World) (hm : T.size ≤ m + 1) (hM : T.size ≤ 1000000) (hmay : T.may = true) (hT : Tabs w) (hin : TmIn w T ad cap) (hp : PairT T) :
    Calls Tryd.prog 39 #[tmv T ad cap] w fun e w' => e = .returned (.string ⟨(T.wr.tail).toArray⟩) ∧ Below w.heap.size w w' := by
  obtain ⟨x, y, hxy, hsz, htx, htl⟩ := hp.two
  have hmxy := may_two hmay hp.1 hxy
  have hip := fun W => rw_isList T.kind T.n T.name ad T.args.length cap W
  rw [pairB_of hp, hp.2.2, hp.1] at hip
  obtain ⟨o1, o2, adx, capx, ady, capy, rfl, hinx, hiny, hcell⟩ := two_in (by have h := hin.args; rw [hxy] at h; exact h)
  have hxf := (wr_fits x hinx.n64).1 999
  have hyf := (wr_fits y hiny.n64).2.1
  have hcx := fun (W : World) (hW : Below w.heap.size w W) => IH x adx capx 999 W (by omega) (by omega) hmxy.1 (hT.on hW) (hinx.on hW)
  have hcy := fun (W : World) (hW : Below w.heap.size w W) => IT y ady capy W (by omega) (by omega) hmxy.2 (hT.on hW) (hiny.on hW)
  have HB0 := Lib.hid (fun o : Obj => (Below.refl w.heap.size w).alloc (Nat.le_refl _) o)
  rw [htl]
  unfold tmv at hcx hcy ⊢
  rw [hp.2.2, hp.1]
  have hXl : (x.wr.txt 999).length ≤ 1500000000 := by omega
  have hYl : y.wr.tail.length ≤ 1500000000 := by omega
  generalize x.wr.txt 999 = X at *
  generalize y.wr.tail = Y at *
  have HCX := Lib.hid hcx
  have HCY := Lib.hid hcy
  have HCELL := Lib.hid hcell
  have HIP := Lib.hid hip
  have HR : Hid ((⟨#[44]⟩ ++ ⟨X.toArray⟩ ++ ⟨Y.toArray⟩ : ByteArray) = ⟨(44 :: (X ++ Y)).toArray⟩) := Lib.hid (of_list _ _ (by simp))
  obtain ⟨E, hE⟩ : ∃ E, (⟨(44 :: (X ++ Y)).toArray⟩ : ByteArray) = E := ⟨_, rfl⟩
  rw [hE]
  rw [hE] at HR
  clear hE hcx hcy hcell hip hT hin hinx hiny hmxy hmay IH IT hxy hxf hyf hsz htx htl hp hm hM
  go_enter Tryd.func39, Tryd.ntmps39
  go_wp2_with fail
  refine (HIP.out _).mono ?_
  rintro e w1 ⟨rfl, hb1⟩
  have hX1 := (hb1.block w.heap.size (by simp)).trans (heap_alloc_new w _)
  have hB1 := (HB0.out _).trans (hb1.mono (by simp))
  clear hb1
  obtain ⟨d0, d1, d2, d3⟩ := cellx4 hX1
  go_wp2_with fail
  clear d0 d1 d2 d3
  have HX1 := Lib.hid hX1
  have HB1 := Lib.hid hB1
  clear hX1 hB1
  have HS : Hid (∀ W : World, W.heap[w.heap.size]? = some (.cells #[.int .i64 4, .string T.name, .int .i64 T.n, .slice (some ⟨o1, o2, none⟩) 2 cap] 24 (0, 0)) → Below w.heap.size w W → W.cell? ⟨w.heap.size, 3, none⟩ = some (.slice (some ⟨o1, o2, none⟩) 2 cap) ∧ W.cell? ⟨o1, o2, none⟩ = some (.int .i64 x.kind) ∧ W.cell? ⟨o1, o2 + 1, none⟩ = some (.string x.name) ∧ W.cell? ⟨o1, o2 + 2, none⟩ = some (.int .i64 x.n) ∧ W.cell? ⟨o1, o2 + 3, none⟩ = some (.slice adx x.args.length capx) ∧ W.cell? ⟨o1, o2 + 4, none⟩ = some (.int .i64 y.kind) ∧ W.cell? ⟨o1, o2 + 4 + 1, none⟩ = some (.string y.name) ∧ W.cell? ⟨o1, o2 + 4 + 2, none⟩ = some (.int .i64 y.n) ∧ W.cell? ⟨o1, o2 + 4 + 3, none⟩ = some (.slice ady y.args.length capy)) := Lib.hid (fun W h1 h3 => ⟨(cellx4 h1).2.2.2, (HCELL.out W h3).1.1, (HCELL.out W h3).1.2.1, (HCELL.out W h3).1.2.2.1, (HCELL.out W h3).1.2.2.2, (HCELL.out W h3).2⟩)
  refine wp_region_held_drew (S := (fun W => W.cell? ⟨w.heap.size, 3, none⟩ = some (.slice (some ⟨o1, o2, none⟩) 2 cap) ∧ W.cell? ⟨o1, o2, none⟩ = some (.int .i64 x.kind) ∧ W.cell? ⟨o1, o2 + 1, none⟩ = some (.string x.name) ∧ W.cell? ⟨o1, o2 + 2, none⟩ = some (.int .i64 x.n) ∧ W.cell? ⟨o1, o2 + 3, none⟩ = some (.slice adx x.args.length capx) ∧ W.cell? ⟨o1, o2 + 4, none⟩ = some (.int .i64 y.kind) ∧ W.cell? ⟨o1, o2 + 4 + 1, none⟩ = some (.string y.name) ∧ W.cell? ⟨o1, o2 + 4 + 2, none⟩ = some (.int .i64 y.n) ∧ W.cell? ⟨o1, o2 + 4 + 3, none⟩ = some (.slice ady y.args.length capy))) (by kernel_rfl) (HS.out _ HX1.out HB1.out.drew) (fun hHeld1 => ?_)
  refine wpAnyH_take (i := 0) (oi := _) (v := ?v2) rfl (by kernel_rfl) (by kernel_rfl) (by kernel_rfl) (fun _ _ _ h => h) (Or.inl ⟨by rfl, ?y2⟩) (by assumption) ?r2
  case y2 => (intro w hSw; (try dsimp only at hSw); go_simp; try with_reducible rfl)
  try simp only [Act.put]
  try simp only [List.setIfInBounds_toArray]
  try simp only [List.set_cons_zero]
  try simp only [List.set_cons_succ]
  try simp only [List.set_cons_zero]
  refine wpAnyH_take (i := 1) (oi := _) (v := ?v3) rfl (by kernel_rfl) (by kernel_rfl) (by kernel_rfl) (fun _ _ _ h => h) (Or.inl ⟨by rfl, ?y3⟩) (by assumption) ?r3
  case y3 => (intro w hSw; (try dsimp only at hSw); go_simp; try with_reducible rfl)
  try simp only [Act.put]
  try simp only [List.setIfInBounds_toArray]
  try simp only [List.set_cons_zero]
  try simp only [List.set_cons_succ]
  try simp only [List.set_cons_zero]
  refine wpAnyH_take (i := 2) (oi := _) (v := ?v4) rfl (by kernel_rfl) (by kernel_rfl) (by kernel_rfl) (fun _ _ _ h => h) (Or.inl ⟨by rfl, ?y4⟩) (by assumption) ?r4
  case y4 => (intro w hSw; (try dsimp only at hSw); go_simp; try with_reducible rfl)
  try simp only [Act.put]
  try simp only [List.setIfInBounds_toArray]
  try simp only [List.set_cons_zero]
  try simp only [List.set_cons_succ]
  try simp only [List.set_cons_zero]
  refine wpAnyH_take (i := 3) (oi := _) (v := ?v5) rfl (by kernel_rfl) (by kernel_rfl) (by kernel_rfl) (fun _ _ _ h => h) (Or.inl ⟨by rfl, ?y5⟩) (by assumption) ?r5
  case y5 => (intro w hSw; (try dsimp only at hSw); go_simp; try with_reducible rfl)
  try simp only [Act.put]
  try simp only [List.setIfInBounds_toArray]
  try simp only [List.set_cons_zero]
  try simp only [List.set_cons_succ]
  try simp only [List.set_cons_zero]
  refine wpAnyH_take (i := 6) (oi := _) (v := ?v6) rfl (by kernel_rfl) (by kernel_rfl) (by kernel_rfl) (fun _ _ _ h => h) (Or.inl ⟨by rfl, ?y6⟩) (by assumption) ?r6
  case y6 => (intro w hSw; (try dsimp only at hSw); go_simp; try with_reducible rfl)
  try simp only [Act.put]
  try simp only [List.setIfInBounds_toArray]
  try simp only [List.set_cons_zero]
  try simp only [List.set_cons_succ]
  try simp only [List.set_cons_zero]
  refine wpAnyH_take (i := 7) (oi := _) (v := ?v7) rfl (by kernel_rfl) (by kernel_rfl) (by kernel_rfl) (fun _ _ _ h => h) (Or.inl ⟨by rfl, ?y7⟩) (by assumption) ?r7
  case y7 => (intro w hSw; (try dsimp only at hSw); go_simp; try with_reducible rfl)
  try simp only [Act.put]
  try simp only [List.setIfInBounds_toArray]
  try simp only [List.set_cons_zero]
  try simp only [List.set_cons_succ]
  try simp only [List.set_cons_zero]
  refine wpAnyH_take (i := 8) (oi := _) (v := ?v8) rfl (by kernel_rfl) (by kernel_rfl) (by kernel_rfl) (fun _ _ _ h => h) (Or.inl ⟨by rfl, ?y8⟩) (by assumption) ?r8
  case y8 => (intro w hSw; (try dsimp only at hSw); go_simp; try with_reducible rfl)
  try simp only [Act.put]
  try simp only [List.setIfInBounds_toArray]
  try simp only [List.set_cons_zero]
  try simp only [List.set_cons_succ]
  try simp only [List.set_cons_zero]
  refine wpAnyH_take (i := 9) (oi := _) (v := ?v9) rfl (by kernel_rfl) (by kernel_rfl) (by kernel_rfl) (fun _ _ _ h => h) (Or.inl ⟨by rfl, ?y9⟩) (by assumption) ?r9
  case y9 => (intro w hSw; (try dsimp only at hSw); go_simp; try with_reducible rfl)
  try simp only [Act.put]
  try simp only [List.setIfInBounds_toArray]
  try simp only [List.set_cons_zero]
  try simp only [List.set_cons_succ]
  try simp only [List.set_cons_zero]
  refine wpAnyH_ready (rs := [4]) (by kernel_rfl) (by simp) ?_
  refine AllReadyH.cons (o := _) rfl (fun K hK => ?_) (AllReadyH.nil)
  go_simp
  (with_reducible refine (HCX.out _ HB1.out.drew).mono ?_); rintro e y1 ⟨rfl, c1⟩
  have d1 := (Below.drew (Below.refl w1.heap.size w1)).trans c1
  have HXy1 := Lib.hid ((d1.block w.heap.size (Array.getElem?_eq_some_iff.1 HX1.out).1).trans HX1.out)
  have HBy1 := Lib.hid (HB1.out.trans (d1.mono HB1.out.size))
  clear d1
  clear c1
  try go_wp2_with fail
  refine hK.out _ _ (HS.out _ HXy1.out HBy1.out) (fun hHeld10 => ?_)
  clear hK K hHeld1
  try simp only [Act.put]
  try simp only [List.setIfInBounds_toArray]
  try simp only [List.set_cons_zero]
  try simp only [List.set_cons_succ]
  try simp only [List.set_cons_zero]
  refine wpAnyH_ready (rs := [5, 10]) (by kernel_rfl) (by simp) ?_
  refine AllReadyH.cons (o := _) rfl (fun K hK => ?_) (AllReadyH.cons (o := _) rfl (fun K hK => ?_) (AllReadyH.nil))
  · go_simp
    rw [if_neg (by omega)]
    try go_simp
    try go_wp2_with fail
    refine hK.out _ _ (HS.out _ HXy1.out HBy1.out) (fun hHeld11 => ?_)
    clear hK K hHeld10
    try simp only [Act.put]
    try simp only [List.setIfInBounds_toArray]
    try simp only [List.set_cons_zero]
    try simp only [List.set_cons_succ]
    try simp only [List.set_cons_zero]
    refine wpAnyH_ready (rs := [10]) (by kernel_rfl) (by simp) ?_
    refine AllReadyH.cons (o := _) rfl (fun K hK => ?_) (AllReadyH.nil)
    go_simp
    (with_reducible refine (HCY.out _ HBy1.out).mono ?_); rintro e y2 ⟨rfl, c2⟩
    have HXy2 := Lib.hid ((c2.block w.heap.size (Array.getElem?_eq_some_iff.1 HXy1.out).1).trans HXy1.out)
    have HBy2 := Lib.hid (HBy1.out.trans (c2.mono HBy1.out.size))
    clear c2
    try go_wp2_with fail
    refine hK.out _ _ (HS.out _ HXy2.out HBy2.out) (fun hHeld12 => ?_)
    clear hK K hHeld11
    try simp only [Act.put]
    try simp only [List.setIfInBounds_toArray]
    try simp only [List.set_cons_zero]
    try simp only [List.set_cons_succ]
    try simp only [List.set_cons_zero]
    refine wpAnyH_ready (rs := [11]) (by kernel_rfl) (by simp) ?_
    refine AllReadyH.cons (o := _) rfl (fun K hK => ?_) (AllReadyH.nil)
    go_simp
    rw [if_neg (by omega)]
    try go_simp
    try go_wp2_with fail
    refine hK.out _ _ (HS.out _ HXy2.out HBy2.out) (fun hHeld13 => ?_)
    clear hK K hHeld12
    try simp only [Act.put]
    try simp only [List.setIfInBounds_toArray]
    try simp only [List.set_cons_zero]
    try simp only [List.set_cons_succ]
    try simp only [List.set_cons_zero]
    refine wpAnyH_ready (rs := [12]) (by kernel_rfl) (by simp) ?_
    refine AllReadyH.cons (o := _) rfl (fun K hK => ?_) (AllReadyH.nil)
    go_simp
    try go_wp2_with fail
    refine hK.out _ _ (HS.out _ HXy2.out HBy2.out) (fun hHeld14 => ?_)
    clear hK K hHeld13
    try simp only [Act.put]
    try simp only [List.setIfInBounds_toArray]
    try simp only [List.set_cons_zero]
    try simp only [List.set_cons_succ]
    try simp only [List.set_cons_zero]
    refine wpAnyH_done (by kernel_rfl) ?_ _
    go_wp2_with fail
    go_ret
    exact ⟨by rw [HR.out]; rfl, HBy2.out⟩
  · go_simp
    (with_reducible refine (HCY.out _ HBy1.out).mono ?_); rintro e y3 ⟨rfl, c3⟩
    have HXy3 := Lib.hid ((c3.block w.heap.size (Array.getElem?_eq_some_iff.1 HXy1.out).1).trans HXy1.out)
    have HBy3 := Lib.hid (HBy1.out.trans (c3.mono HBy1.out.size))
    clear c3
    try go_wp2_with fail
    refine hK.out _ _ (HS.out _ HXy3.out HBy3.out) (fun hHeld15 => ?_)
    clear hK K hHeld10
    try simp only [Act.put]
    try simp only [List.setIfInBounds_toArray]
    try simp only [List.set_cons_zero]
    try simp only [List.set_cons_succ]
    try simp only [List.set_cons_zero]
    refine wpAnyH_ready (rs := [5]) (by kernel_rfl) (by simp) ?_
    refine AllReadyH.cons (o := _) rfl (fun K hK => ?_) (AllReadyH.nil)
    go_simp
    rw [if_neg (by omega)]
    try go_simp
    try go_wp2_with fail
    refine hK.out _ _ (HS.out _ HXy3.out HBy3.out) (fun hHeld16 => ?_)
    clear hK K hHeld15
    try simp only [Act.put]
    try simp only [List.setIfInBounds_toArray]
    try simp only [List.set_cons_zero]
    try simp only [List.set_cons_succ]
    try simp only [List.set_cons_zero]
    refine wpAnyH_ready (rs := [11]) (by kernel_rfl) (by simp) ?_
    refine AllReadyH.cons (o := _) rfl (fun K hK => ?_) (AllReadyH.nil)
    go_simp
    rw [if_neg (by omega)]
    try go_simp
    try go_wp2_with fail
    refine hK.out _ _ (HS.out _ HXy3.out HBy3.out) (fun hHeld17 => ?_)
    clear hK K hHeld16
    try simp only [Act.put]
    try simp only [List.setIfInBounds_toArray]
    try simp only [List.set_cons_zero]
    try simp only [List.set_cons_succ]
    try simp only [List.set_cons_zero]
    refine wpAnyH_ready (rs := [12]) (by kernel_rfl) (by simp) ?_
    refine AllReadyH.cons (o := _) rfl (fun K hK => ?_) (AllReadyH.nil)
    go_simp
    try go_wp2_with fail
    refine hK.out _ _ (HS.out _ HXy3.out HBy3.out) (fun hHeld18 => ?_)
    clear hK K hHeld17
    try simp only [Act.put]
    try simp only [List.setIfInBounds_toArray]
    try simp only [List.set_cons_zero]
    try simp only [List.set_cons_succ]
    try simp only [List.set_cons_zero]
    refine wpAnyH_done (by kernel_rfl) ?_ _
    go_wp2_with fail
    go_ret
    exact ⟨by rw [HR.out]; rfl, HBy3.out⟩

set_option maxRecDepth 100000 in
set_option maxHeartbeats 4000000 in
theorem rw_tailB (m : Nat) (_IH : RwText m) (_IT : RwTail m) (T : Tm) (ad : Option Addr) (cap : Nat) (_p : Int) (w : World) (_hm : T.size ≤ m + 1) (_hM : T.size ≤ 1000000) (hmay : T.may = true) (_hT : Tabs w) (_hin : TmIn w T ad cap) (hp : ¬ PairT T) (hn : nilB T.kind T.name.data.toList = true) :
    Calls Tryd.prog 39 #[tmv T ad cap] w fun e w' => e = .returned (.string ⟨(T.wr.tail).toArray⟩) ∧ Below w.heap.size w w' := by
  have hip := fun W => rw_isList T.kind T.n T.name ad T.args.length cap W
  rw [pairB_no hp] at hip
  have HB0 := Lib.hid (fun o : Obj => (Below.refl w.heap.size w).alloc (Nat.le_refl _) o)
  rw [tail_not hp hmay, if_pos hn]
  have e : T.kind = 2 ∧ T.name.data.toList = [91, 93] := by unfold nilB at hn; simpa using hn
  have es : T.name = ⟨#[91, 93]⟩ := by apply ByteArray.ext; rw [← Array.toList_inj]; exact e.2
  rw [e.1] at hip
  have HIP := Lib.hid hip
  unfold tmv
  rw [e.1]
  rw [es] at HIP ⊢
  clear e hip hn hp hmay _hin _hT _IH _IT
  go_enter Tryd.func39, Tryd.ntmps39
  go_wp2_with fail
  refine (HIP.out _).mono ?_
  rintro e w1 ⟨rfl, hb1⟩
  have hX1 := (hb1.block w.heap.size (by simp)).trans (heap_alloc_new w _)
  have hB1 := (HB0.out _).trans (hb1.mono (by simp))
  clear hb1
  obtain ⟨d0, d1, d2, d3⟩ := cellx4 hX1
  go_wp2_with fail
  go_ret
  exact ⟨rfl, hB1⟩

set_option maxRecDepth 100000 in
set_option maxHeartbeats 4000000 in
theorem rw_tailC (m : Nat) (_IH : RwText m) (_IT : RwTail m) (T : Tm) (ad : Option Addr) (cap : Nat) (_p : Int) (w : World) (hm : T.size ≤ m + 1) (hM : T.size ≤ 1000000) (hmay : T.may = true) (hT : Tabs w) (hin : TmIn w T ad cap) (IHs : RwText (m + 1)) (hp : ¬ PairT T) (hn : nilB T.kind T.name.data.toList = false) (h2 : T.kind = 2) :
    Calls Tryd.prog 39 #[tmv T ad cap] w fun e w' => e = .returned (.string ⟨(T.wr.tail).toArray⟩) ∧ Below w.heap.size w w' := by
  have hip := fun W => rw_isList T.kind T.n T.name ad T.args.length cap W
  rw [pairB_no hp] at hip
  have HB0 := Lib.hid (fun o : Obj => (Below.refl w.heap.size w).alloc (Nat.le_refl _) o)
  rw [tail_not hp hmay, if_neg (by rw [hn]; decide)]
  have hs : T.name.data.toList ≠ [91, 93] := fun h => by unfold nilB at hn; rw [h2, h] at hn; revert hn; decide
  have e1 : (T.name.toList == [91, 93]) = false := by rw [ByteArray.toList_eq]; exact beq_eq_false_iff_ne.2 hs
  have hxf := (wr_fits T hin.n64).1 999
  have hcx := fun (W : World) (hW : Below w.heap.size w W) => IHs T ad cap 999 W hm hM hmay (hT.on hW) (hin.on hW)
  unfold tmv at hcx ⊢
  rw [h2] at hip hcx ⊢
  have hXl : (T.wr.txt 999).length ≤ 1500000000 := by omega
  generalize T.wr.txt 999 = X at *
  have hXs : (⟨X.toArray⟩ : ByteArray).size ≤ 1500000000 := by show X.toArray.size ≤ _; rw [List.size_toArray]; exact hXl
  have HCX := Lib.hid hcx
  have HIP := Lib.hid hip
  have HR : Hid ((⟨#[124]⟩ ++ ⟨X.toArray⟩ : ByteArray) = ⟨(124 :: X).toArray⟩) := Lib.hid (of_list _ _ (by simp))
  clear hcx hip hn hp hmay hin hT _IH _IT IHs hs hxf h2
  go_enter Tryd.func39, Tryd.ntmps39
  go_wp2_with fail
  refine (HIP.out _).mono ?_
  rintro e w1 ⟨rfl, hb1⟩
  have hX1 := (hb1.block w.heap.size (by simp)).trans (heap_alloc_new w _)
  have hB1 := (HB0.out _).trans (hb1.mono (by simp))
  clear hb1
  obtain ⟨d0, d1, d2, d3⟩ := cellx4 hX1
  go_wp2_with fail
  refine (HCX.out _ hB1).mono ?_
  rintro e w2 ⟨rfl, hb2⟩
  have hB2 := hB1.trans (hb2.mono hB1.size)
  clear hb2 d0 d1 d2 d3 hX1 hB1
  go_wp2_with fail
  go_ret
  exact ⟨by rw [HR.out]; rfl, hB2⟩

set_option maxRecDepth 100000 in
set_option maxHeartbeats 4000000 in
theorem rw_tailD (m : Nat) (_IH : RwText m) (_IT : RwTail m) (T : Tm) (ad : Option Addr) (cap : Nat) (_p : Int) (w : World) (hm : T.size ≤ m + 1) (hM : T.size ≤ 1000000) (hmay : T.may = true) (hT : Tabs w) (hin : TmIn w T ad cap) (IHs : RwText (m + 1)) (hp : ¬ PairT T) (hn : nilB T.kind T.name.data.toList = false) (h2 : T.kind ≠ 2) :
    Calls Tryd.prog 39 #[tmv T ad cap] w fun e w' => e = .returned (.string ⟨(T.wr.tail).toArray⟩) ∧ Below w.heap.size w w' := by
  have hip := fun W => rw_isList T.kind T.n T.name ad T.args.length cap W
  rw [pairB_no hp] at hip
  have HB0 := Lib.hid (fun o : Obj => (Below.refl w.heap.size w).alloc (Nat.le_refl _) o)
  rw [tail_not hp hmay, if_neg (by rw [hn]; decide)]
  have e1 : (T.kind == 2) = false := by simpa using h2
  have hxf := (wr_fits T hin.n64).1 999
  have hcx := fun (W : World) (hW : Below w.heap.size w W) => IHs T ad cap 999 W hm hM hmay (hT.on hW) (hin.on hW)
  unfold tmv at hcx ⊢
  have hXl : (T.wr.txt 999).length ≤ 1500000000 := by omega
  generalize T.wr.txt 999 = X at *
  have hXs : (⟨X.toArray⟩ : ByteArray).size ≤ 1500000000 := by show X.toArray.size ≤ _; rw [List.size_toArray]; exact hXl
  have HCX := Lib.hid hcx
  have HIP := Lib.hid hip
  have HR : Hid ((⟨#[124]⟩ ++ ⟨X.toArray⟩ : ByteArray) = ⟨(124 :: X).toArray⟩) := Lib.hid (of_list _ _ (by simp))
  clear hcx hip hn hp hmay hin hT _IH _IT IHs hxf h2
  go_enter Tryd.func39, Tryd.ntmps39
  go_wp2_with fail
  refine (HIP.out _).mono ?_
  rintro e w1 ⟨rfl, hb1⟩
  have hX1 := (hb1.block w.heap.size (by simp)).trans (heap_alloc_new w _)
  have hB1 := (HB0.out _).trans (hb1.mono (by simp))
  clear hb1
  obtain ⟨d0, d1, d2, d3⟩ := cellx4 hX1
  go_wp2_with fail
  refine (HCX.out _ hB1).mono ?_
  rintro e w2 ⟨rfl, hb2⟩
  have hB2 := hB1.trans (hb2.mono hB1.size)
  clear hb2 d0 d1 d2 d3 hX1 hB1
  go_wp2_with fail
  go_ret
  exact ⟨by rw [HR.out]; rfl, hB2⟩

set_option maxRecDepth 100000 in
set_option maxHeartbeats 4000000 in
theorem rw_textV (m : Nat) (_IH : RwText m) (_IT : RwTail m) (T : Tm) (ad : Option Addr) (cap : Nat) (p : Int) (w : World) (_hm : T.size ≤ m + 1) (_hM : T.size ≤ 1000000) (_hmay : T.may = true) (hT : Tabs w) (hin : TmIn w T ad cap) (hk : T.kind = 1) :
    Calls Tryd.prog 22 #[tmv T ad cap, .int .i64 p] w fun e w' => e = .returned (.string ⟨(T.wr.txt p).toArray⟩) ∧ Below w.heap.size w w' := by
  have HB0 := Lib.hid (fun o : Obj => (Below.refl w.heap.size w).alloc (Nat.le_refl _) o)
  have HNT := Lib.hid (fun W => ref_Text T.n W hin.n)
  have HCW := Lib.hid (fun (W : World) (hW : Below w.heap.size w W) => ref_Write T.name W hin.name (hT.on hW))
  have hil := Lib.itoa_length_le T.n hin.n.1 hin.n.2
  have hwl := write_len T.name.data.toList
  rw [T.wr_txt]
  unfold textK tmv
  rw [hk]
  rw [if_pos rfl]
  generalize Lib.itoa T.n = it at *
  have HR : Hid ((⟨#[95]⟩ ++ ⟨it.toArray⟩ : ByteArray) = ⟨(95 :: it).toArray⟩) := Lib.hid (of_list _ _ (by simp))
  clear hT hin _hmay _IH _IT hk
  go_enter Tryd.func22, Tryd.ntmps22
  go_wp2_with fail
  refine (HNT.out _).mono ?_
  rintro e w1 ⟨rfl, hb1⟩
  have hB1 := (HB0.out _).trans (hb1.mono (by simp))
  clear hb1
  go_wp2_with fail
  go_ret
  exact ⟨by rw [HR.out]; rfl, hB1⟩

set_option maxRecDepth 100000 in
set_option maxHeartbeats 4000000 in
theorem rw_textI (m : Nat) (_IH : RwText m) (_IT : RwTail m) (T : Tm) (ad : Option Addr) (cap : Nat) (p : Int) (w : World) (_hm : T.size ≤ m + 1) (_hM : T.size ≤ 1000000) (_hmay : T.may = true) (hT : Tabs w) (hin : TmIn w T ad cap) (hk : T.kind = 3) :
    Calls Tryd.prog 22 #[tmv T ad cap, .int .i64 p] w fun e w' => e = .returned (.string ⟨(T.wr.txt p).toArray⟩) ∧ Below w.heap.size w w' := by
  have HB0 := Lib.hid (fun o : Obj => (Below.refl w.heap.size w).alloc (Nat.le_refl _) o)
  have HNT := Lib.hid (fun W => ref_Text T.n W hin.n)
  have HCW := Lib.hid (fun (W : World) (hW : Below w.heap.size w W) => ref_Write T.name W hin.name (hT.on hW))
  have hil := Lib.itoa_length_le T.n hin.n.1 hin.n.2
  have hwl := write_len T.name.data.toList
  rw [T.wr_txt]
  unfold textK tmv
  rw [hk]
  rw [if_neg (by decide), if_pos rfl]
  generalize Lib.itoa T.n = it at *
  clear hT hin _hmay _IH _IT hk
  go_enter Tryd.func22, Tryd.ntmps22
  go_wp2_with fail
  refine (HNT.out _).mono ?_
  rintro e w1 ⟨rfl, hb1⟩
  have hB1 := (HB0.out _).trans (hb1.mono (by simp))
  clear hb1
  go_wp2_with fail
  go_ret
  exact ⟨rfl, hB1⟩

set_option maxRecDepth 100000 in
set_option maxHeartbeats 4000000 in
theorem rw_textN (m : Nat) (_IH : RwText m) (_IT : RwTail m) (T : Tm) (ad : Option Addr) (cap : Nat) (p : Int) (w : World) (_hm : T.size ≤ m + 1) (_hM : T.size ≤ 1000000) (_hmay : T.may = true) (hT : Tabs w) (hin : TmIn w T ad cap) (hk : T.kind = 2) :
    Calls Tryd.prog 22 #[tmv T ad cap, .int .i64 p] w fun e w' => e = .returned (.string ⟨(T.wr.txt p).toArray⟩) ∧ Below w.heap.size w w' := by
  have HB0 := Lib.hid (fun o : Obj => (Below.refl w.heap.size w).alloc (Nat.le_refl _) o)
  have HNT := Lib.hid (fun W => ref_Text T.n W hin.n)
  have HCW := Lib.hid (fun (W : World) (hW : Below w.heap.size w W) => ref_Write T.name W hin.name (hT.on hW))
  have hil := Lib.itoa_length_le T.n hin.n.1 hin.n.2
  have hwl := write_len T.name.data.toList
  rw [T.wr_txt]
  unfold textK tmv
  rw [hk]
  rw [if_neg (by decide), if_neg (by decide), if_pos rfl]
  generalize writeL T.name.data.toList = it at *
  clear hT hin _hmay _IH _IT hk
  go_enter Tryd.func22, Tryd.ntmps22
  go_wp2_with fail
  refine (HCW.out _ (HB0.out _)).mono ?_
  rintro e w1 ⟨rfl, hb1⟩
  have hB1 := (HB0.out _).trans (hb1.mono (by simp))
  clear hb1
  go_wp2_with fail
  go_ret
  exact ⟨rfl, hB1⟩

set_option maxRecDepth 100000 in
set_option maxHeartbeats 4000000 in
theorem rw_textB (m : Nat) (IH : RwText m) (_IT : RwTail m) (T : Tm) (ad : Option Addr) (cap : Nat) (p : Int) (w : World) (hm : T.size ≤ m + 1) (hM : T.size ≤ 1000000) (hmay : T.may = true) (hT : Tabs w) (hin : TmIn w T ad cap) (hk4 : T.kind = 4) (hs : T.name.data.toList = [123, 125]) (hl1 : T.args.length = 1) :
    Calls Tryd.prog 22 #[tmv T ad cap, .int .i64 p] w fun e w' => e = .returned (.string ⟨(T.wr.txt p).toArray⟩) ∧ Below w.heap.size w w' := by
  obtain ⟨x, hx⟩ : ∃ x, T.args = [x] := by
    match h : T.args, hl1 with
    | [x], _ => exact ⟨x, rfl⟩
  have hp : ¬ PairT T := fun h => by have := h.2.1; rw [hs] at this; cases this
  have hip := fun W => rw_isList T.kind T.n T.name ad T.args.length cap W
  rw [pairB_no hp] at hip
  have HB0 := Lib.hid (fun o : Obj => (Below.refl w.heap.size w).alloc (Nat.le_refl _) o)
  have htx : T.wr.txt p = compK T.name.data.toList (T.args.map Tm.wr) p := by rw [T.wr_txt]; unfold textK; rw [hk4, if_neg (by decide), if_neg (by decide), if_neg (by decide)]
  rw [htx]
  rw [comp_curly hs hx]
  have hsz : T.size = 1 + x.size := by rw [T.size_eq, hx]; rfl
  have hmx : x.may = true := by have hmays := (may_comps hmay hk4).1; rw [hx] at hmays; have e : Tm.mays [x] = (x.may && true) := rfl; rw [e] at hmays; simpa using hmays
  have es : T.name = ⟨#[123, 125]⟩ := by apply ByteArray.ext; rw [← Array.toList_inj]; exact hs
  obtain ⟨o1, o2, rfl⟩ := hin.args.addr (by omega)
  obtain ⟨adx, capx, x0, x1, x2, x3, hinx⟩ := hin.args.get 0 (by omega)
  have ex : T.args[0]'(by omega) = x := by simp [hx]
  rw [Nat.zero_mul, Nat.add_zero, ex] at x0 x1 x2 x3
  rw [ex] at hinx
  have go : ∀ (i : Nat) (v : Value), w.cell? ⟨o1, i, none⟩ = some v → ∀ W, Below w.heap.size w W → W.cell? ⟨o1, i, none⟩ = some v := fun i v hv W hW => (hW.cell (p := ⟨o1, i, none⟩) (World.block_lt_of_cell? w ⟨o1, i, none⟩ hv)).trans hv
  have HXC := Lib.hid (fun (W : World) (hW : Below w.heap.size w W) => (⟨go _ _ x0 W hW, go _ _ x1 W hW, go _ _ x2 W hW, go _ _ x3 W hW⟩ : W.cell? ⟨o1, o2, none⟩ = some (.int .i64 x.kind) ∧ W.cell? ⟨o1, o2 + 1, none⟩ = some (.string x.name) ∧ W.cell? ⟨o1, o2 + 2, none⟩ = some (.int .i64 x.n) ∧ W.cell? ⟨o1, o2 + 3, none⟩ = some (.slice adx x.args.length capx)))
  have hxf := (wr_fits x hinx.n64).1 1200
  have hcx := fun (W : World) (hW : Below w.heap.size w W) => IH x adx capx 1200 W (by omega) (by omega) hmx (hT.on hW) (hinx.on hW)
  unfold tmv at hcx ⊢
  have hXl : (x.wr.txt 1200).length ≤ 1500000000 := by omega
  generalize x.wr.txt 1200 = X at *
  have hXs : (⟨X.toArray⟩ : ByteArray).size ≤ 1500000000 := by show X.toArray.size ≤ _; rw [List.size_toArray]; exact hXl
  have HCX := Lib.hid hcx
  rw [hl1, hk4, es] at hip ⊢
  have HIP := Lib.hid hip
  have HR : Hid ((⟨#[123]⟩ ++ ⟨X.toArray⟩ ++ ⟨#[125]⟩ : ByteArray) = ⟨(123 :: (X ++ [125])).toArray⟩) := Lib.hid (of_list _ _ (by simp))
  clear hcx hip hp hmay hin hT IH _IT hs hxf hk4 hl1 x0 x1 x2 x3 hinx ex hx es hmx htx go hsz hm hM
  go_enter Tryd.func22, Tryd.ntmps22
  go_wp2_with fail
  refine (HIP.out _).mono ?_
  rintro e w1 ⟨rfl, hb1⟩
  have hX1 := (hb1.block w.heap.size (by simp)).trans (heap_alloc_new w _)
  have hB1 := (HB0.out _).trans (hb1.mono (by simp))
  clear hb1
  obtain ⟨d0, d1, d2, d3⟩ := cellx4 hX1
  obtain ⟨x0, x1, x2, x3⟩ := HXC.out _ hB1
  go_wp2_with fail
  refine (HCX.out _ hB1).mono ?_
  rintro e w2 ⟨rfl, hb2⟩
  have hB2 := hB1.trans (hb2.mono hB1.size)
  clear hb2 d0 d1 d2 d3 hX1 hB1 x0 x1 x2 x3
  go_wp2_with fail
  go_ret
  exact ⟨by rw [HR.out]; rfl, hB2⟩

set_option maxRecDepth 100000 in
set_option maxHeartbeats 4000000 in
theorem rw_textD (m : Nat) (IH : RwText m) (_IT : RwTail m) (T : Tm) (ad : Option Addr) (cap : Nat) (p : Int) (w : World) (hm : T.size ≤ m + 1) (hM : T.size ≤ 1000000) (hmay : T.may = true) (hT : Tabs w) (hin : TmIn w T ad cap) (o : R) (hk4 : T.kind = 4) (hp : ¬ PairT T) (ho : opR T.name.data.toList 3 = some o) (hl2 : T.args.length = 2) :
    Calls Tryd.prog 22 #[tmv T ad cap, .int .i64 p] w fun e w' => e = .returned (.string ⟨(T.wr.txt p).toArray⟩) ∧ Below w.heap.size w w' := by
  have hip := fun W => rw_isList T.kind T.n T.name ad T.args.length cap W
  rw [pairB_no hp] at hip
  have HB0 := Lib.hid (fun o : Obj => (Below.refl w.heap.size w).alloc (Nat.le_refl _) o)
  have htx : T.wr.txt p = compK T.name.data.toList (T.args.map Tm.wr) p := by rw [T.wr_txt]; unfold textK; rw [hk4, if_neg (by decide), if_neg (by decide), if_neg (by decide)]
  rw [htx]
  obtain ⟨x, y, hxy⟩ : ∃ x y, T.args = [x, y] := by
    match h : T.args, hl2 with
    | [x, y], _ => exact ⟨x, y, rfl⟩
  have hnc : T.name.data.toList ≠ [123, 125] := fun h => by rw [h, show opR [123, 125] 3 = none from by decide +kernel] at ho; cases ho
  have hmxy := may_two hmay hk4 hxy
  rw [comp_infix hk4 hp hxy ho]
  have hif := fun W => ref_Infix T.name W
  rw [← opR_name, ho] at hif
  have hif : ∀ W, Calls Tryd.prog 27 #[.string T.name] W fun e w' => e = .returned (.tuple #[.agg #[.int .i64 o.p, .string o.k], .bool true]) ∧ Below W.heap.size W w' := hif
  have e1 : (T.name.toList == [123, 125]) = false := by rw [ByteArray.toList_eq]; exact beq_eq_false_iff_ne.2 hnc
  have hfx := fun (W : World) (hW : Below w.heap.size w W) => rw_infix m IH T x y o ad cap p W hxy hm hM hmxy.1 hmxy.2 (hT.on hW) (hin.on hW)
  unfold tmv at hfx ⊢
  generalize infixK T.name.data.toList o x.wr y.wr p = X at *
  rw [hl2, hk4] at hip hfx ⊢
  have HIP := Lib.hid hip
  have HIF := Lib.hid hif
  have HFX := Lib.hid hfx
  clear hfx hip hif hp hmay hin hT IH _IT hk4 hl2 hnc hxy hmxy htx ho hm hM
  go_enter Tryd.func22, Tryd.ntmps22
  go_wp2_with fail
  refine (HIP.out _).mono ?_
  rintro e w1 ⟨rfl, hb1⟩
  have hX1 := (hb1.block w.heap.size (by simp)).trans (heap_alloc_new w _)
  have hB1 := (HB0.out _).trans (hb1.mono (by simp))
  clear hb1
  obtain ⟨d0, d1, d2, d3⟩ := cellx4 hX1
  go_wp2_with fail
  refine (HIF.out _).mono ?_
  rintro e w2 ⟨rfl, hb2⟩
  have hX2 := (hb2.block w.heap.size (Array.getElem?_eq_some_iff.1 hX1).1).trans hX1
  have hB2 := hB1.trans (hb2.mono hB1.size)
  have hs2 := (Array.getElem?_eq_some_iff.1 hX2).1
  clear hb2 d0 d1 d2 d3 hX1 hB1
  obtain ⟨d0, d1, d2, d3⟩ := cellx4 hX2
  go_wp2_with fail
  refine (HFX.out _ (hB2.alloc hB2.size _)).mono ?_
  rintro e w3 ⟨rfl, hb3⟩
  have hB3 := (hB2.alloc hB2.size _).trans (hb3.mono (by rw [World.size_alloc]; have := hB2.size; omega))
  clear hb3 d0 d1 d2 d3 hX2 hB2
  go_wp2_with fail
  go_ret
  exact ⟨rfl, hB3⟩

set_option maxRecDepth 100000 in
set_option maxHeartbeats 4000000 in
theorem rw_textE0 (m : Nat) (IH : RwText m) (_IT : RwTail m) (T : Tm) (ad : Option Addr) (cap : Nat) (p : Int) (w : World) (hm : T.size ≤ m + 1) (hM : T.size ≤ 1000000) (hmay : T.may = true) (hT : Tabs w) (hin : TmIn w T ad cap) (hk4 : T.kind = 4) (hp : ¬ PairT T) (h1 : ¬ (T.name.data.toList = [123, 125] ∧ T.args.length = 1)) (h2 : T.args.length = 2 → opR T.name.data.toList 3 = none) (hs : T.name.data.toList = [123, 125]) :
    Calls Tryd.prog 22 #[tmv T ad cap, .int .i64 p] w fun e w' => e = .returned (.string ⟨(T.wr.txt p).toArray⟩) ∧ Below w.heap.size w w' := by
  have hip := fun W => rw_isList T.kind T.n T.name ad T.args.length cap W
  rw [pairB_no hp] at hip
  have HB0 := Lib.hid (fun o : Obj => (Below.refl w.heap.size w).alloc (Nat.le_refl _) o)
  have htx : T.wr.txt p = compK T.name.data.toList (T.args.map Tm.wr) p := by rw [T.wr_txt]; unfold textK; rw [hk4, if_neg (by decide), if_neg (by decide), if_neg (by decide)]
  rw [htx]
  rw [comp_call hk4 hp h1 h2]
  obtain ⟨hmays, hlen1, hlen16⟩ := may_comps hmay hk4
  have hif := fun W => ref_Infix T.name W
  rw [← opR_name] at hif
  have HMM := Lib.hid (mays_get T.args hmays)
  have HG := Lib.hid (maps_get T.args)
  have HI := Lib.hid hin
  have HIH := Lib.hid IH
  have HT := Lib.hid hT
  have HSZ := Lib.hid T.size_eq
  have HCW := Lib.hid (fun (W : World) (hW : Below w.heap.size w W) => ref_Write T.name W hin.name (hT.on hW))
  have hwl := write_len T.name.data.toList
  have hcapl := hin.len
  have hcapm := hin.cap
  have hall : T.args.length ≤ 1000000 := by have := Tm.length_le_sizes T.args; have := T.size_eq; omega
  unfold maxLen at hcapm
  unfold callK
  have ex : ((T.args.length : Int) == 1) = false := by have : T.args.length ≠ 1 := fun h => h1 ⟨hs, h⟩; simp; omega
  have es : T.name = ⟨#[123, 125]⟩ := by apply ByteArray.ext; rw [← Array.toList_inj]; exact hs
  rw [hs, show opR [123, 125] 3 = none from by decide +kernel] at hif
  have hif : ∀ W, Calls Tryd.prog 27 #[.string T.name] W fun e w' => e = .returned (.tuple #[.agg #[.int .i64 0, .string ⟨#[]⟩], .bool false]) ∧ Below W.heap.size W w' := hif
  obtain ⟨F, hF⟩ : ∃ F, fnK T.name.data.toList = F := ⟨_, rfl⟩
  rw [hF]
  rw [hs] at hF
  have HFF : Hid ([39, 123, 125, 39] = F) := Lib.hid hF
  have HIP := Lib.hid hip
  have HIF := Lib.hid hif
  unfold tmv
  rw [hk4] at HIP ⊢
  rw [es] at HIP HIF HCW ⊢
  clear hip hif hp h1 h2 hmay hmays hlen1 hin hT IH _IT hk4 htx hs hF
  go_enter Tryd.func22, Tryd.ntmps22
  go_wp2_with fail
  refine (HIP.out _).mono ?_
  rintro e w1 ⟨rfl, hb1⟩
  have hX1 := (hb1.block w.heap.size (by simp)).trans (heap_alloc_new w _)
  have hB1 := (HB0.out _).trans (hb1.mono (by simp))
  clear hb1
  obtain ⟨d0, d1, d2, d3⟩ := cellx4 hX1
  go_wp2_with fail
  refine (HIF.out _).mono ?_
  rintro e w2 ⟨rfl, hb2⟩
  have hX2 := (hb2.block w.heap.size (Array.getElem?_eq_some_iff.1 hX1).1).trans hX1
  have hB2 := hB1.trans (hb2.mono hB1.size)
  have hs2 := (Array.getElem?_eq_some_iff.1 hX2).1
  clear hb2 d0 d1 d2 d3 hX1 hB1
  obtain ⟨d0, d1, d2, d3⟩ := cellx4 hX2
  go_wp2_with fail
  refine (HCW.out _ (hB2.alloc hB2.size _)).mono ?_
  rintro e w4 ⟨rfl, hb4⟩
  have hX4 := (hb4.block w.heap.size (by rw [World.size_alloc]; omega)).trans ((Lib.alloc_old w2 _ _ hs2).trans hX2)
  have hB5 := (hB2.alloc hB2.size _).trans (hb4.mono (Nat.le_trans hB2.size (by simp)))
  clear hb4 d0 d1 d2 d3 hX2 hB2
  obtain ⟨d0, d1, d2, d3⟩ := cellx4 hX4
  go_wp2_with fail
  clear d0 d1 d2 d3
  go_loopw [7, 95] (fun sv iv wr => ∃ (k : Nat) (t : ByteArray), k ≤ T.args.length ∧ iv = .int .i64 k ∧ sv = .string t ∧ t.size ≤ 3000 + 1400 * Tm.sizes (T.args.take k) ∧ Below w.heap.size w wr ∧ Hid (t.data.toList = F ++ 40 :: commaW ((T.args.map Tm.wr).take k))) (fun _ iv _ => T.args.length - (intOf iv).toNat)
  case atStart =>
    refine ⟨0, _, Nat.zero_le _, rfl, rfl, ?_, hB5, Lib.hid ?_⟩
    · show (4 + 1 : Nat) ≤ _; omega
    · show _ = F ++ [40]; rw [← HFF.out]; decide +kernel
  case round =>
    obtain ⟨k, t, hk, rfl, rfl, htz, hbw, HS⟩ := hrel
    have hskM : Tm.sizes (T.args.take k) ≤ 1000000 := by have := HSZ.out; have := Tm.sizes_take T.args k; omega
    by_cases hlt : k < T.args.length
    · obtain ⟨b, o, rfl⟩ := HI.out.args.addr (by omega)
      obtain ⟨ad1, cap1, c0, c1, c2, c3, hin1⟩ := (HI.out.args.on hbw).get k hlt
      have hmem := Tm.mem_size (List.getElem_mem hlt)
      have hss := sizes_step T.args k hlt
      have hmx := HMM.out k hlt
      have hg := HG.out k hlt
      have hst1 := Lib.hid (fun hk => commaW_step (T.args.map Tm.wr) k hk (by rw [List.length_map]; exact hlt))
      have hxl := (wr_fits _ hin1.n64).1 999
      rw [hg] at hst1
      have hst0 := Lib.hid (fun (h0 : k = 0) => show commaW ((T.args.map Tm.wr).take (k + 1)) = (T.args[k]).wr.txt 999 from by subst h0; rw [commaW_zero _ (by rw [List.length_map]; exact hlt), hg])
      clear hg
      generalize T.args[k] = x at *
      have hxm : x.size ≤ m := by have := HSZ.out; omega
      have hxM : x.size ≤ 1000000 := by have := HSZ.out; omega
      have hF := HIH.out x ad1 cap1 999 (wr.alloc (.cells #[.int .i64 x.kind, .string x.name, .int .i64 x.n, .slice ad1 x.args.length cap1] 24)) hxm hxM hmx (HT.out.on (hbw.alloc hbw.size _)) (hin1.on ((Below.refl _ wr).alloc (Nat.le_refl _) _))
      unfold tmv at hF
      have HF := Lib.hid hF
      have HSS := Lib.hid hss
      clear hF hin1 hmem hss hmx
      generalize x.wr.txt 999 = y at *
      have hyz : y.toArray.size + 1 ≤ 1400 * x.size := by rw [List.size_toArray]; omega
      by_cases hk0 : k = 0
      · have HN : Hid ((t ++ ⟨y.toArray⟩ : ByteArray).data.toList = F ++ 40 :: commaW ((T.args.map Tm.wr).take (k + 1))) := Lib.hid (by
          rw [data_cat, HS.out, hst0.out hk0, hk0, List.take_zero]
          show (F ++ 40 :: []) ++ y = F ++ 40 :: y
          simp)
        subst hk0
        rw [Nat.zero_mul, Nat.add_zero] at c0 c1 c2 c3
        go_wp2_with fail
        refine HF.out.mono ?_
        rintro e w3 ⟨rfl, hb3⟩
        have hbw2 := (hbw.alloc hbw.size _).trans (hb3.mono (Nat.le_trans hbw.size (by simp)))
        clear hb3 hbw c0 c1 c2 c3
        go_wp2_with fail
        go_roundw
        case rel => exact ⟨0 + 1, _, by omega, by go_num, rfl, by rw [ByteArray.size_append, HSS.out]; show _ + y.toArray.size ≤ _; omega, hbw2, HN⟩
        case measure => simp [intOf]; omega
      · have hkp : (0 : Int) < (k : Int) := by omega
        have HN : Hid ((t ++ ⟨#[44]⟩ ++ ⟨y.toArray⟩ : ByteArray).data.toList = F ++ 40 :: commaW ((T.args.map Tm.wr).take (k + 1))) := Lib.hid (by
          rw [data_cat, data_cat, HS.out, hst1.out (by omega)]
          simp)
        clear hk0
        go_wp2_with fail
        refine HF.out.mono ?_
        rintro e w3 ⟨rfl, hb3⟩
        have hbw2 := (hbw.alloc hbw.size _).trans (hb3.mono (Nat.le_trans hbw.size (by simp)))
        clear hb3 hbw c0 c1 c2 c3
        go_wp2_with fail
        go_roundw
        case rel => exact ⟨k + 1, _, by omega, by go_num, rfl, by rw [ByteArray.size_append, ByteArray.size_append, HSS.out]; show _ + 1 + y.toArray.size ≤ _; omega, hbw2, HN⟩
        case measure => simp [intOf]; omega
    · have hR := HS.out
      rw [List.take_of_length_le (by rw [List.length_map]; omega)] at hR
      have HR : Hid ((t ++ ⟨#[41]⟩ : ByteArray).data.toList = F ++ 40 :: (commaW (T.args.map Tm.wr) ++ [41])) := Lib.hid (by rw [data_cat, hR]; simp)
      clear hR HS
      go_wp2_with fail
      go_ret
      exact ⟨ret_str (of_list _ _ HR.out), hbw⟩

set_option maxRecDepth 100000 in
set_option maxHeartbeats 4000000 in
theorem rw_textE1 (m : Nat) (IH : RwText m) (_IT : RwTail m) (T : Tm) (ad : Option Addr) (cap : Nat) (p : Int) (w : World) (hm : T.size ≤ m + 1) (hM : T.size ≤ 1000000) (hmay : T.may = true) (hT : Tabs w) (hin : TmIn w T ad cap) (hk4 : T.kind = 4) (hp : ¬ PairT T) (h1 : ¬ (T.name.data.toList = [123, 125] ∧ T.args.length = 1)) (h2 : T.args.length = 2 → opR T.name.data.toList 3 = none) (hs : T.name.data.toList = [91, 93]) :
    Calls Tryd.prog 22 #[tmv T ad cap, .int .i64 p] w fun e w' => e = .returned (.string ⟨(T.wr.txt p).toArray⟩) ∧ Below w.heap.size w w' := by
  have hip := fun W => rw_isList T.kind T.n T.name ad T.args.length cap W
  rw [pairB_no hp] at hip
  have HB0 := Lib.hid (fun o : Obj => (Below.refl w.heap.size w).alloc (Nat.le_refl _) o)
  have htx : T.wr.txt p = compK T.name.data.toList (T.args.map Tm.wr) p := by rw [T.wr_txt]; unfold textK; rw [hk4, if_neg (by decide), if_neg (by decide), if_neg (by decide)]
  rw [htx]
  rw [comp_call hk4 hp h1 h2]
  obtain ⟨hmays, hlen1, hlen16⟩ := may_comps hmay hk4
  have hif := fun W => ref_Infix T.name W
  rw [← opR_name] at hif
  have HMM := Lib.hid (mays_get T.args hmays)
  have HG := Lib.hid (maps_get T.args)
  have HI := Lib.hid hin
  have HIH := Lib.hid IH
  have HT := Lib.hid hT
  have HSZ := Lib.hid T.size_eq
  have HCW := Lib.hid (fun (W : World) (hW : Below w.heap.size w W) => ref_Write T.name W hin.name (hT.on hW))
  have hwl := write_len T.name.data.toList
  have hcapl := hin.len
  have hcapm := hin.cap
  have hall : T.args.length ≤ 1000000 := by have := Tm.length_le_sizes T.args; have := T.size_eq; omega
  unfold maxLen at hcapm
  unfold callK
  have es : T.name = ⟨#[91, 93]⟩ := by apply ByteArray.ext; rw [← Array.toList_inj]; exact hs
  rw [hs, show opR [91, 93] 3 = none from by decide +kernel] at hif
  have hif : ∀ W, Calls Tryd.prog 27 #[.string T.name] W fun e w' => e = .returned (.tuple #[.agg #[.int .i64 0, .string ⟨#[]⟩], .bool false]) ∧ Below W.heap.size W w' := hif
  obtain ⟨F, hF⟩ : ∃ F, fnK T.name.data.toList = F := ⟨_, rfl⟩
  rw [hF]
  rw [hs] at hF
  have HFF : Hid ([39, 91, 93, 39] = F) := Lib.hid hF
  have HIP := Lib.hid hip
  have HIF := Lib.hid hif
  unfold tmv
  rw [hk4] at HIP ⊢
  rw [es] at HIP HIF HCW ⊢
  clear hip hif hp h1 h2 hmay hmays hlen1 hin hT IH _IT hk4 htx hs hF
  go_enter Tryd.func22, Tryd.ntmps22
  go_wp2_with fail
  refine (HIP.out _).mono ?_
  rintro e w1 ⟨rfl, hb1⟩
  have hX1 := (hb1.block w.heap.size (by simp)).trans (heap_alloc_new w _)
  have hB1 := (HB0.out _).trans (hb1.mono (by simp))
  clear hb1
  obtain ⟨d0, d1, d2, d3⟩ := cellx4 hX1
  go_wp2_with fail
  refine (HIF.out _).mono ?_
  rintro e w2 ⟨rfl, hb2⟩
  have hX2 := (hb2.block w.heap.size (Array.getElem?_eq_some_iff.1 hX1).1).trans hX1
  have hB2 := hB1.trans (hb2.mono hB1.size)
  have hs2 := (Array.getElem?_eq_some_iff.1 hX2).1
  clear hb2 d0 d1 d2 d3 hX1 hB1
  obtain ⟨d0, d1, d2, d3⟩ := cellx4 hX2
  go_wp2_with fail
  refine (HCW.out _ (hB2.alloc hB2.size _)).mono ?_
  rintro e w4 ⟨rfl, hb4⟩
  have hX4 := (hb4.block w.heap.size (by rw [World.size_alloc]; omega)).trans ((Lib.alloc_old w2 _ _ hs2).trans hX2)
  have hB5 := (hB2.alloc hB2.size _).trans (hb4.mono (Nat.le_trans hB2.size (by simp)))
  clear hb4 d0 d1 d2 d3 hX2 hB2
  obtain ⟨d0, d1, d2, d3⟩ := cellx4 hX4
  go_wp2_with fail
  clear d0 d1 d2 d3
  go_loopw [7, 95] (fun sv iv wr => ∃ (k : Nat) (t : ByteArray), k ≤ T.args.length ∧ iv = .int .i64 k ∧ sv = .string t ∧ t.size ≤ 3000 + 1400 * Tm.sizes (T.args.take k) ∧ Below w.heap.size w wr ∧ Hid (t.data.toList = F ++ 40 :: commaW ((T.args.map Tm.wr).take k))) (fun _ iv _ => T.args.length - (intOf iv).toNat)
  case atStart =>
    refine ⟨0, _, Nat.zero_le _, rfl, rfl, ?_, hB5, Lib.hid ?_⟩
    · show (4 + 1 : Nat) ≤ _; omega
    · show _ = F ++ [40]; rw [← HFF.out]; decide +kernel
  case round =>
    obtain ⟨k, t, hk, rfl, rfl, htz, hbw, HS⟩ := hrel
    have hskM : Tm.sizes (T.args.take k) ≤ 1000000 := by have := HSZ.out; have := Tm.sizes_take T.args k; omega
    by_cases hlt : k < T.args.length
    · obtain ⟨b, o, rfl⟩ := HI.out.args.addr (by omega)
      obtain ⟨ad1, cap1, c0, c1, c2, c3, hin1⟩ := (HI.out.args.on hbw).get k hlt
      have hmem := Tm.mem_size (List.getElem_mem hlt)
      have hss := sizes_step T.args k hlt
      have hmx := HMM.out k hlt
      have hg := HG.out k hlt
      have hst1 := Lib.hid (fun hk => commaW_step (T.args.map Tm.wr) k hk (by rw [List.length_map]; exact hlt))
      have hxl := (wr_fits _ hin1.n64).1 999
      rw [hg] at hst1
      have hst0 := Lib.hid (fun (h0 : k = 0) => show commaW ((T.args.map Tm.wr).take (k + 1)) = (T.args[k]).wr.txt 999 from by subst h0; rw [commaW_zero _ (by rw [List.length_map]; exact hlt), hg])
      clear hg
      generalize T.args[k] = x at *
      have hxm : x.size ≤ m := by have := HSZ.out; omega
      have hxM : x.size ≤ 1000000 := by have := HSZ.out; omega
      have hF := HIH.out x ad1 cap1 999 (wr.alloc (.cells #[.int .i64 x.kind, .string x.name, .int .i64 x.n, .slice ad1 x.args.length cap1] 24)) hxm hxM hmx (HT.out.on (hbw.alloc hbw.size _)) (hin1.on ((Below.refl _ wr).alloc (Nat.le_refl _) _))
      unfold tmv at hF
      have HF := Lib.hid hF
      have HSS := Lib.hid hss
      clear hF hin1 hmem hss hmx
      generalize x.wr.txt 999 = y at *
      have hyz : y.toArray.size + 1 ≤ 1400 * x.size := by rw [List.size_toArray]; omega
      by_cases hk0 : k = 0
      · have HN : Hid ((t ++ ⟨y.toArray⟩ : ByteArray).data.toList = F ++ 40 :: commaW ((T.args.map Tm.wr).take (k + 1))) := Lib.hid (by
          rw [data_cat, HS.out, hst0.out hk0, hk0, List.take_zero]
          show (F ++ 40 :: []) ++ y = F ++ 40 :: y
          simp)
        subst hk0
        rw [Nat.zero_mul, Nat.add_zero] at c0 c1 c2 c3
        go_wp2_with fail
        refine HF.out.mono ?_
        rintro e w3 ⟨rfl, hb3⟩
        have hbw2 := (hbw.alloc hbw.size _).trans (hb3.mono (Nat.le_trans hbw.size (by simp)))
        clear hb3 hbw c0 c1 c2 c3
        go_wp2_with fail
        go_roundw
        case rel => exact ⟨0 + 1, _, by omega, by go_num, rfl, by rw [ByteArray.size_append, HSS.out]; show _ + y.toArray.size ≤ _; omega, hbw2, HN⟩
        case measure => simp [intOf]; omega
      · have hkp : (0 : Int) < (k : Int) := by omega
        have HN : Hid ((t ++ ⟨#[44]⟩ ++ ⟨y.toArray⟩ : ByteArray).data.toList = F ++ 40 :: commaW ((T.args.map Tm.wr).take (k + 1))) := Lib.hid (by
          rw [data_cat, data_cat, HS.out, hst1.out (by omega)]
          simp)
        clear hk0
        go_wp2_with fail
        refine HF.out.mono ?_
        rintro e w3 ⟨rfl, hb3⟩
        have hbw2 := (hbw.alloc hbw.size _).trans (hb3.mono (Nat.le_trans hbw.size (by simp)))
        clear hb3 hbw c0 c1 c2 c3
        go_wp2_with fail
        go_roundw
        case rel => exact ⟨k + 1, _, by omega, by go_num, rfl, by rw [ByteArray.size_append, ByteArray.size_append, HSS.out]; show _ + 1 + y.toArray.size ≤ _; omega, hbw2, HN⟩
        case measure => simp [intOf]; omega
    · have hR := HS.out
      rw [List.take_of_length_le (by rw [List.length_map]; omega)] at hR
      have HR : Hid ((t ++ ⟨#[41]⟩ : ByteArray).data.toList = F ++ 40 :: (commaW (T.args.map Tm.wr) ++ [41])) := Lib.hid (by rw [data_cat, hR]; simp)
      clear hR HS
      go_wp2_with fail
      go_ret
      exact ⟨ret_str (of_list _ _ HR.out), hbw⟩

set_option maxRecDepth 100000 in
set_option maxHeartbeats 4000000 in
theorem rw_textE2 (m : Nat) (IH : RwText m) (_IT : RwTail m) (T : Tm) (ad : Option Addr) (cap : Nat) (p : Int) (w : World) (hm : T.size ≤ m + 1) (hM : T.size ≤ 1000000) (hmay : T.may = true) (hT : Tabs w) (hin : TmIn w T ad cap) (hk4 : T.kind = 4) (hp : ¬ PairT T) (h1 : ¬ (T.name.data.toList = [123, 125] ∧ T.args.length = 1)) (h2 : T.args.length = 2 → opR T.name.data.toList 3 = none) (hs : T.name.data.toList ≠ [123, 125]) (hs2 : T.name.data.toList ≠ [91, 93]) (hn : opR T.name.data.toList 3 = none) :
    Calls Tryd.prog 22 #[tmv T ad cap, .int .i64 p] w fun e w' => e = .returned (.string ⟨(T.wr.txt p).toArray⟩) ∧ Below w.heap.size w w' := by
  have hip := fun W => rw_isList T.kind T.n T.name ad T.args.length cap W
  rw [pairB_no hp] at hip
  have HB0 := Lib.hid (fun o : Obj => (Below.refl w.heap.size w).alloc (Nat.le_refl _) o)
  have htx : T.wr.txt p = compK T.name.data.toList (T.args.map Tm.wr) p := by rw [T.wr_txt]; unfold textK; rw [hk4, if_neg (by decide), if_neg (by decide), if_neg (by decide)]
  rw [htx]
  rw [comp_call hk4 hp h1 h2]
  obtain ⟨hmays, hlen1, hlen16⟩ := may_comps hmay hk4
  have hif := fun W => ref_Infix T.name W
  rw [← opR_name] at hif
  have HMM := Lib.hid (mays_get T.args hmays)
  have HG := Lib.hid (maps_get T.args)
  have HI := Lib.hid hin
  have HIH := Lib.hid IH
  have HT := Lib.hid hT
  have HSZ := Lib.hid T.size_eq
  have HCW := Lib.hid (fun (W : World) (hW : Below w.heap.size w W) => ref_Write T.name W hin.name (hT.on hW))
  have hwl := write_len T.name.data.toList
  have hcapl := hin.len
  have hcapm := hin.cap
  have hall : T.args.length ≤ 1000000 := by have := Tm.length_le_sizes T.args; have := T.size_eq; omega
  unfold maxLen at hcapm
  unfold callK
  have ex : (T.name.toList == [123, 125]) = false := by rw [ByteArray.toList_eq]; exact beq_eq_false_iff_ne.2 hs
  have ey : (T.name.toList == [91, 93]) = false := by rw [ByteArray.toList_eq]; exact beq_eq_false_iff_ne.2 hs2
  rw [hn] at hif
  have hif : ∀ W, Calls Tryd.prog 27 #[.string T.name] W fun e w' => e = .returned (.tuple #[.agg #[.int .i64 0, .string ⟨#[]⟩], .bool false]) ∧ Below W.heap.size W w' := hif
  have hF : fnK T.name.data.toList = writeL T.name.data.toList := by unfold fnK; rw [if_neg (fun h => h.elim hs2 hs)]
  rw [hF]
  generalize writeL T.name.data.toList = F at *
  clear hn
  have HIP := Lib.hid hip
  have HIF := Lib.hid hif
  unfold tmv
  rw [hk4] at HIP ⊢
  clear hip hif hp h1 h2 hmay hmays hlen1 hin hT IH _IT hk4 htx hs hs2 hF
  go_enter Tryd.func22, Tryd.ntmps22
  go_wp2_with fail
  refine (HIP.out _).mono ?_
  rintro e w1 ⟨rfl, hb1⟩
  have hX1 := (hb1.block w.heap.size (by simp)).trans (heap_alloc_new w _)
  have hB1 := (HB0.out _).trans (hb1.mono (by simp))
  clear hb1
  obtain ⟨d0, d1, d2, d3⟩ := cellx4 hX1
  go_wp2_with fail
  refine (HIF.out _).mono ?_
  rintro e w2 ⟨rfl, hb2⟩
  have hX2 := (hb2.block w.heap.size (Array.getElem?_eq_some_iff.1 hX1).1).trans hX1
  have hB2 := hB1.trans (hb2.mono hB1.size)
  have hs2 := (Array.getElem?_eq_some_iff.1 hX2).1
  clear hb2 d0 d1 d2 d3 hX1 hB1
  obtain ⟨d0, d1, d2, d3⟩ := cellx4 hX2
  go_wp2_with fail
  refine (HCW.out _ (hB2.alloc hB2.size _)).mono ?_
  rintro e w4 ⟨rfl, hb4⟩
  have hX4 := (hb4.block w.heap.size (by rw [World.size_alloc]; omega)).trans ((Lib.alloc_old w2 _ _ hs2).trans hX2)
  have hB5 := (hB2.alloc hB2.size _).trans (hb4.mono (Nat.le_trans hB2.size (by simp)))
  clear hb4 d0 d1 d2 d3 hX2 hB2
  obtain ⟨d0, d1, d2, d3⟩ := cellx4 hX4
  go_wp2_with fail
  clear d0 d1 d2 d3
  go_loopw [7, 95] (fun sv iv wr => ∃ (k : Nat) (t : ByteArray), k ≤ T.args.length ∧ iv = .int .i64 k ∧ sv = .string t ∧ t.size ≤ 3000 + 1400 * Tm.sizes (T.args.take k) ∧ Below w.heap.size w wr ∧ Hid (t.data.toList = F ++ 40 :: commaW ((T.args.map Tm.wr).take k))) (fun _ iv _ => T.args.length - (intOf iv).toNat)
  case atStart =>
    refine ⟨0, _, Nat.zero_le _, rfl, rfl, ?_, hB5, Lib.hid ?_⟩
    · rw [ByteArray.size_append]; show F.toArray.size + 1 ≤ _; rw [List.size_toArray]; omega
    · rw [data_cat]; rfl
  case round =>
    obtain ⟨k, t, hk, rfl, rfl, htz, hbw, HS⟩ := hrel
    have hskM : Tm.sizes (T.args.take k) ≤ 1000000 := by have := HSZ.out; have := Tm.sizes_take T.args k; omega
    by_cases hlt : k < T.args.length
    · obtain ⟨b, o, rfl⟩ := HI.out.args.addr (by omega)
      obtain ⟨ad1, cap1, c0, c1, c2, c3, hin1⟩ := (HI.out.args.on hbw).get k hlt
      have hmem := Tm.mem_size (List.getElem_mem hlt)
      have hss := sizes_step T.args k hlt
      have hmx := HMM.out k hlt
      have hg := HG.out k hlt
      have hst1 := Lib.hid (fun hk => commaW_step (T.args.map Tm.wr) k hk (by rw [List.length_map]; exact hlt))
      have hxl := (wr_fits _ hin1.n64).1 999
      rw [hg] at hst1
      have hst0 := Lib.hid (fun (h0 : k = 0) => show commaW ((T.args.map Tm.wr).take (k + 1)) = (T.args[k]).wr.txt 999 from by subst h0; rw [commaW_zero _ (by rw [List.length_map]; exact hlt), hg])
      clear hg
      generalize T.args[k] = x at *
      have hxm : x.size ≤ m := by have := HSZ.out; omega
      have hxM : x.size ≤ 1000000 := by have := HSZ.out; omega
      have hF := HIH.out x ad1 cap1 999 (wr.alloc (.cells #[.int .i64 x.kind, .string x.name, .int .i64 x.n, .slice ad1 x.args.length cap1] 24)) hxm hxM hmx (HT.out.on (hbw.alloc hbw.size _)) (hin1.on ((Below.refl _ wr).alloc (Nat.le_refl _) _))
      unfold tmv at hF
      have HF := Lib.hid hF
      have HSS := Lib.hid hss
      clear hF hin1 hmem hss hmx
      generalize x.wr.txt 999 = y at *
      have hyz : y.toArray.size + 1 ≤ 1400 * x.size := by rw [List.size_toArray]; omega
      by_cases hk0 : k = 0
      · have HN : Hid ((t ++ ⟨y.toArray⟩ : ByteArray).data.toList = F ++ 40 :: commaW ((T.args.map Tm.wr).take (k + 1))) := Lib.hid (by
          rw [data_cat, HS.out, hst0.out hk0, hk0, List.take_zero]
          show (F ++ 40 :: []) ++ y = F ++ 40 :: y
          simp)
        subst hk0
        rw [Nat.zero_mul, Nat.add_zero] at c0 c1 c2 c3
        go_wp2_with fail
        refine HF.out.mono ?_
        rintro e w3 ⟨rfl, hb3⟩
        have hbw2 := (hbw.alloc hbw.size _).trans (hb3.mono (Nat.le_trans hbw.size (by simp)))
        clear hb3 hbw c0 c1 c2 c3
        go_wp2_with fail
        go_roundw
        case rel => exact ⟨0 + 1, _, by omega, by go_num, rfl, by rw [ByteArray.size_append, HSS.out]; show _ + y.toArray.size ≤ _; omega, hbw2, HN⟩
        case measure => simp [intOf]; omega
      · have hkp : (0 : Int) < (k : Int) := by omega
        have HN : Hid ((t ++ ⟨#[44]⟩ ++ ⟨y.toArray⟩ : ByteArray).data.toList = F ++ 40 :: commaW ((T.args.map Tm.wr).take (k + 1))) := Lib.hid (by
          rw [data_cat, data_cat, HS.out, hst1.out (by omega)]
          simp)
        clear hk0
        go_wp2_with fail
        refine HF.out.mono ?_
        rintro e w3 ⟨rfl, hb3⟩
        have hbw2 := (hbw.alloc hbw.size _).trans (hb3.mono (Nat.le_trans hbw.size (by simp)))
        clear hb3 hbw c0 c1 c2 c3
        go_wp2_with fail
        go_roundw
        case rel => exact ⟨k + 1, _, by omega, by go_num, rfl, by rw [ByteArray.size_append, ByteArray.size_append, HSS.out]; show _ + 1 + y.toArray.size ≤ _; omega, hbw2, HN⟩
        case measure => simp [intOf]; omega
    · have hR := HS.out
      rw [List.take_of_length_le (by rw [List.length_map]; omega)] at hR
      have HR : Hid ((t ++ ⟨#[41]⟩ : ByteArray).data.toList = F ++ 40 :: (commaW (T.args.map Tm.wr) ++ [41])) := Lib.hid (by rw [data_cat, hR]; simp)
      clear hR HS
      go_wp2_with fail
      go_ret
      exact ⟨ret_str (of_list _ _ HR.out), hbw⟩

set_option maxRecDepth 100000 in
set_option maxHeartbeats 4000000 in
theorem rw_textE3 (m : Nat) (IH : RwText m) (_IT : RwTail m) (T : Tm) (ad : Option Addr) (cap : Nat) (p : Int) (w : World) (hm : T.size ≤ m + 1) (hM : T.size ≤ 1000000) (hmay : T.may = true) (hT : Tabs w) (hin : TmIn w T ad cap) (hk4 : T.kind = 4) (hp : ¬ PairT T) (h1 : ¬ (T.name.data.toList = [123, 125] ∧ T.args.length = 1)) (h2 : T.args.length = 2 → opR T.name.data.toList 3 = none) (o : R) (hs : T.name.data.toList ≠ [123, 125]) (hs2 : T.name.data.toList ≠ [91, 93]) (hn : opR T.name.data.toList 3 = some o) (hl2 : T.args.length ≠ 2) :
    Calls Tryd.prog 22 #[tmv T ad cap, .int .i64 p] w fun e w' => e = .returned (.string ⟨(T.wr.txt p).toArray⟩) ∧ Below w.heap.size w w' := by
  have hip := fun W => rw_isList T.kind T.n T.name ad T.args.length cap W
  rw [pairB_no hp] at hip
  have HB0 := Lib.hid (fun o : Obj => (Below.refl w.heap.size w).alloc (Nat.le_refl _) o)
  have htx : T.wr.txt p = compK T.name.data.toList (T.args.map Tm.wr) p := by rw [T.wr_txt]; unfold textK; rw [hk4, if_neg (by decide), if_neg (by decide), if_neg (by decide)]
  rw [htx]
  rw [comp_call hk4 hp h1 h2]
  obtain ⟨hmays, hlen1, hlen16⟩ := may_comps hmay hk4
  have hif := fun W => ref_Infix T.name W
  rw [← opR_name] at hif
  have HMM := Lib.hid (mays_get T.args hmays)
  have HG := Lib.hid (maps_get T.args)
  have HI := Lib.hid hin
  have HIH := Lib.hid IH
  have HT := Lib.hid hT
  have HSZ := Lib.hid T.size_eq
  have HCW := Lib.hid (fun (W : World) (hW : Below w.heap.size w W) => ref_Write T.name W hin.name (hT.on hW))
  have hwl := write_len T.name.data.toList
  have hcapl := hin.len
  have hcapm := hin.cap
  have hall : T.args.length ≤ 1000000 := by have := Tm.length_le_sizes T.args; have := T.size_eq; omega
  unfold maxLen at hcapm
  unfold callK
  have ex : (T.name.toList == [123, 125]) = false := by rw [ByteArray.toList_eq]; exact beq_eq_false_iff_ne.2 hs
  have ey : (T.name.toList == [91, 93]) = false := by rw [ByteArray.toList_eq]; exact beq_eq_false_iff_ne.2 hs2
  have ez : ((T.args.length : Int) == 2) = false := by simp; omega
  rw [hn] at hif
  have hif : ∀ W, Calls Tryd.prog 27 #[.string T.name] W fun e w' => e = .returned (.tuple #[.agg #[.int .i64 o.p, .string o.k], .bool true]) ∧ Below W.heap.size W w' := hif
  have hF : fnK T.name.data.toList = writeL T.name.data.toList := by unfold fnK; rw [if_neg (fun h => h.elim hs2 hs)]
  rw [hF]
  generalize writeL T.name.data.toList = F at *
  clear hn hl2
  have HIP := Lib.hid hip
  have HIF := Lib.hid hif
  unfold tmv
  rw [hk4] at HIP ⊢
  clear hip hif hp h1 h2 hmay hmays hlen1 hin hT IH _IT hk4 htx hs hs2 hF
  go_enter Tryd.func22, Tryd.ntmps22
  go_wp2_with fail
  refine (HIP.out _).mono ?_
  rintro e w1 ⟨rfl, hb1⟩
  have hX1 := (hb1.block w.heap.size (by simp)).trans (heap_alloc_new w _)
  have hB1 := (HB0.out _).trans (hb1.mono (by simp))
  clear hb1
  obtain ⟨d0, d1, d2, d3⟩ := cellx4 hX1
  go_wp2_with fail
  refine (HIF.out _).mono ?_
  rintro e w2 ⟨rfl, hb2⟩
  have hX2 := (hb2.block w.heap.size (Array.getElem?_eq_some_iff.1 hX1).1).trans hX1
  have hB2 := hB1.trans (hb2.mono hB1.size)
  have hs2 := (Array.getElem?_eq_some_iff.1 hX2).1
  clear hb2 d0 d1 d2 d3 hX1 hB1
  obtain ⟨d0, d1, d2, d3⟩ := cellx4 hX2
  go_wp2_with fail
  refine (HCW.out _ (hB2.alloc hB2.size _)).mono ?_
  rintro e w4 ⟨rfl, hb4⟩
  have hX4 := (hb4.block w.heap.size (by rw [World.size_alloc]; omega)).trans ((Lib.alloc_old w2 _ _ hs2).trans hX2)
  have hB5 := (hB2.alloc hB2.size _).trans (hb4.mono (Nat.le_trans hB2.size (by simp)))
  clear hb4 d0 d1 d2 d3 hX2 hB2
  obtain ⟨d0, d1, d2, d3⟩ := cellx4 hX4
  go_wp2_with fail
  clear d0 d1 d2 d3
  go_loopw [7, 95] (fun sv iv wr => ∃ (k : Nat) (t : ByteArray), k ≤ T.args.length ∧ iv = .int .i64 k ∧ sv = .string t ∧ t.size ≤ 3000 + 1400 * Tm.sizes (T.args.take k) ∧ Below w.heap.size w wr ∧ Hid (t.data.toList = F ++ 40 :: commaW ((T.args.map Tm.wr).take k))) (fun _ iv _ => T.args.length - (intOf iv).toNat)
  case atStart =>
    refine ⟨0, _, Nat.zero_le _, rfl, rfl, ?_, hB5, Lib.hid ?_⟩
    · rw [ByteArray.size_append]; show F.toArray.size + 1 ≤ _; rw [List.size_toArray]; omega
    · rw [data_cat]; rfl
  case round =>
    obtain ⟨k, t, hk, rfl, rfl, htz, hbw, HS⟩ := hrel
    have hskM : Tm.sizes (T.args.take k) ≤ 1000000 := by have := HSZ.out; have := Tm.sizes_take T.args k; omega
    by_cases hlt : k < T.args.length
    · obtain ⟨b, o, rfl⟩ := HI.out.args.addr (by omega)
      obtain ⟨ad1, cap1, c0, c1, c2, c3, hin1⟩ := (HI.out.args.on hbw).get k hlt
      have hmem := Tm.mem_size (List.getElem_mem hlt)
      have hss := sizes_step T.args k hlt
      have hmx := HMM.out k hlt
      have hg := HG.out k hlt
      have hst1 := Lib.hid (fun hk => commaW_step (T.args.map Tm.wr) k hk (by rw [List.length_map]; exact hlt))
      have hxl := (wr_fits _ hin1.n64).1 999
      rw [hg] at hst1
      have hst0 := Lib.hid (fun (h0 : k = 0) => show commaW ((T.args.map Tm.wr).take (k + 1)) = (T.args[k]).wr.txt 999 from by subst h0; rw [commaW_zero _ (by rw [List.length_map]; exact hlt), hg])
      clear hg
      generalize T.args[k] = x at *
      have hxm : x.size ≤ m := by have := HSZ.out; omega
      have hxM : x.size ≤ 1000000 := by have := HSZ.out; omega
      have hF := HIH.out x ad1 cap1 999 (wr.alloc (.cells #[.int .i64 x.kind, .string x.name, .int .i64 x.n, .slice ad1 x.args.length cap1] 24)) hxm hxM hmx (HT.out.on (hbw.alloc hbw.size _)) (hin1.on ((Below.refl _ wr).alloc (Nat.le_refl _) _))
      unfold tmv at hF
      have HF := Lib.hid hF
      have HSS := Lib.hid hss
      clear hF hin1 hmem hss hmx
      generalize x.wr.txt 999 = y at *
      have hyz : y.toArray.size + 1 ≤ 1400 * x.size := by rw [List.size_toArray]; omega
      by_cases hk0 : k = 0
      · have HN : Hid ((t ++ ⟨y.toArray⟩ : ByteArray).data.toList = F ++ 40 :: commaW ((T.args.map Tm.wr).take (k + 1))) := Lib.hid (by
          rw [data_cat, HS.out, hst0.out hk0, hk0, List.take_zero]
          show (F ++ 40 :: []) ++ y = F ++ 40 :: y
          simp)
        subst hk0
        rw [Nat.zero_mul, Nat.add_zero] at c0 c1 c2 c3
        go_wp2_with fail
        refine HF.out.mono ?_
        rintro e w3 ⟨rfl, hb3⟩
        have hbw2 := (hbw.alloc hbw.size _).trans (hb3.mono (Nat.le_trans hbw.size (by simp)))
        clear hb3 hbw c0 c1 c2 c3
        go_wp2_with fail
        go_roundw
        case rel => exact ⟨0 + 1, _, by omega, by go_num, rfl, by rw [ByteArray.size_append, HSS.out]; show _ + y.toArray.size ≤ _; omega, hbw2, HN⟩
        case measure => simp [intOf]; omega
      · have hkp : (0 : Int) < (k : Int) := by omega
        have HN : Hid ((t ++ ⟨#[44]⟩ ++ ⟨y.toArray⟩ : ByteArray).data.toList = F ++ 40 :: commaW ((T.args.map Tm.wr).take (k + 1))) := Lib.hid (by
          rw [data_cat, data_cat, HS.out, hst1.out (by omega)]
          simp)
        clear hk0
        go_wp2_with fail
        refine HF.out.mono ?_
        rintro e w3 ⟨rfl, hb3⟩
        have hbw2 := (hbw.alloc hbw.size _).trans (hb3.mono (Nat.le_trans hbw.size (by simp)))
        clear hb3 hbw c0 c1 c2 c3
        go_wp2_with fail
        go_roundw
        case rel => exact ⟨k + 1, _, by omega, by go_num, rfl, by rw [ByteArray.size_append, ByteArray.size_append, HSS.out]; show _ + 1 + y.toArray.size ≤ _; omega, hbw2, HN⟩
        case measure => simp [intOf]; omega
    · have hR := HS.out
      rw [List.take_of_length_le (by rw [List.length_map]; omega)] at hR
      have HR : Hid ((t ++ ⟨#[41]⟩ : ByteArray).data.toList = F ++ 40 :: (commaW (T.args.map Tm.wr) ++ [41])) := Lib.hid (by rw [data_cat, hR]; simp)
      clear hR HS
      go_wp2_with fail
      go_ret
      exact ⟨ret_str (of_list _ _ HR.out), hbw⟩

theorem rw_text (m : Nat) (IH : RwText m) (IT : RwTail m) : RwText (m + 1) := by
  intro T ad cap p w hm hM hmay hT hin
  by_cases h1 : T.kind = 1
  · exact rw_textV m IH IT T ad cap p w hm hM hmay hT hin h1
  by_cases h3 : T.kind = 3
  · exact rw_textI m IH IT T ad cap p w hm hM hmay hT hin h3
  by_cases h2 : T.kind = 2
  · exact rw_textN m IH IT T ad cap p w hm hM hmay hT hin h2
  have hk4 := may_kind hmay h1 h3 h2
  by_cases hp : PairT T
  · exact rw_textA m IH IT T ad cap p w hm hM hmay hT hin hp
  by_cases hc : T.name.data.toList = [123, 125] ∧ T.args.length = 1
  · exact rw_textB m IH IT T ad cap p w hm hM hmay hT hin hk4 hc.1 hc.2
  by_cases hs : T.name.data.toList = [123, 125]
  · exact rw_textE0 m IH IT T ad cap p w hm hM hmay hT hin hk4 hp hc (fun _ => by rw [hs]; decide +kernel) hs
  by_cases hs2 : T.name.data.toList = [91, 93]
  · exact rw_textE1 m IH IT T ad cap p w hm hM hmay hT hin hk4 hp hc (fun _ => by rw [hs2]; decide +kernel) hs2
  cases ho : opR T.name.data.toList 3 with
  | none => exact rw_textE2 m IH IT T ad cap p w hm hM hmay hT hin hk4 hp hc (fun _ => ho) hs hs2 ho
  | some o =>
    by_cases hl2 : T.args.length = 2
    · exact rw_textD m IH IT T ad cap p w hm hM hmay hT hin o hk4 hp ho hl2
    · exact rw_textE3 m IH IT T ad cap p w hm hM hmay hT hin hk4 hp hc (fun h => absurd h hl2) o hs hs2 ho hl2
theorem rw_tail (m : Nat) (IH : RwText m) (IT : RwTail m) (IHs : RwText (m + 1)) : RwTail (m + 1) := by
  intro T ad cap w hm hM hmay hT hin
  by_cases hp : PairT T
  · exact rw_tailA m IH IT T ad cap 0 w hm hM hmay hT hin hp
  cases hn : nilB T.kind T.name.data.toList with
  | true => exact rw_tailB m IH IT T ad cap 0 w hm hM hmay hT hin hp hn
  | false =>
    by_cases h2 : T.kind = 2
    · exact rw_tailC m IH IT T ad cap 0 w hm hM hmay hT hin IHs hp hn h2
    · exact rw_tailD m IH IT T ad cap 0 w hm hM hmay hT hin IHs hp hn h2
theorem rw_both : ∀ m : Nat, RwText m ∧ RwTail m
  | 0 => ⟨fun T _ _ _ _ h => by have := T.size_pos; omega, fun T _ _ _ h => by have := T.size_pos; omega⟩
  | m + 1 => by
    obtain ⟨h1, h2⟩ := rw_both m
    have h3 := rw_text m h1 h2
    exact ⟨h3, rw_tail m h1 h2 h3⟩
end Go.Proofs.YtdjejbgokamjeaaDoor
