/-
  The walk of the law ReadJoins.
-/
import Derived.Test.YtlbdocdjijhkbaaGreatDoorReadTop
import Derived.Test.YtlbdocdjijhkbaaGreatDoorReadPl
namespace Go.Proofs.YtlbdocdjijhkbaaGreatDoor
open Go.RowKit
attribute [-go_sem] sliced

/-- Appended by nothing, a slice is as it was. -/
theorem run_append_zero {P : Program} (w : World) (t ty e : TypeId) (i : TypeInfo) (ht : P.underlying t = some (.slice e)) (hi : P.info? e = some i) (ad : Option Addr) (n cap : Nat) (hn : n ≤ cap) (adx : Option Addr) (c : Nat) :
    (Builtin.append_ #[t, t] ty #[.slice ad n cap, .slice adx 0 c]).run P w = .ok (.slice ad n cap) w := by
  cases adx with
  | none =>
    have hf := run_firstCells_none (P := P) w i.size 0 0 c
    cases ad <;> simp [Builtin.append_, run_underlying ht, sizeOf, typeInfo, hi, Builtin.lenOf, hn, hf, storeCells]
  | some a =>
    have hf := run_firstCells_some (P := P) w i.size 0 a 0 c [] (by simp) (by simp)
    cases ad <;> simp [Builtin.append_, run_underlying ht, sizeOf, typeInfo, hi, Builtin.lenOf, hn, hf, storeCells]
/-- A builtin append of a slice, empty or not, behind a guard that is on. -/
theorem wpList_append_row {P : Program} {w : World} {ops : Array Oper} {rest : List Oper} {o : Oper} {a : Act} {Q : Exit → Act → World → Prop} (hgd : Region.wanted o (yielded ops a.tmps) = true) (s x : Operand) (t : TypeId)
    (ho : o.op = .call { callee := .builtin .append, args := #[s, x], argTypes := #[t, t] })
    (base : Nat) (e : TypeId) (i : TypeInfo) (z : Value) (size bytes : Nat) (ht : P.underlying t = some (.slice e)) (hi : P.info? e = some i) (hz : i.zero = some z)
    (hsize : i.size = size) (hby : i.bytes = bytes) (hzs : z.cells.size = size) (hsz : 0 < size)
    (v : Value) (n : Nat) (xs : List Value) (hs : a.eval s = v) (hown : w.ownsRow base e size v n xs)
    (adx : Option Addr) (m c : Nat) (news : List Value) (hx : a.eval x = .slice adx m c) (hl : news.length = m * size) (hnews : ∀ j u, news[j]? = some u → ∃ ad, adx = some ad ∧ w.cell? (ad.add j) = some u) (h1 : ∀ u ∈ news, u.oneCell' = true)
    (h63 : n + m ≤ maxLen) (hbytes : (n + m) * bytes ≤ 140737488355328) (hbase : base ≤ w.heap.size)
    (h : ∀ v' w', w'.ownsRow base e size v' (n + m) (xs ++ news) → w.grownBy w' v.ownBlock → (v'.ownBlock = v.ownBlock ∨ v'.ownBlock = some w.heap.size) → wpList P ops Q rest (a.put o.dst v') w') : wpList P ops Q (o :: rest) a w := by
  refine wpList_step fun K hK => ?_
  rw [if_pos hgd]
  cases m with
  | zero =>
    have hnil : news = [] := List.eq_nil_of_length_eq_zero (by rw [hl, Nat.zero_mul])
    subst hnil
    have hslice : ∃ adv cap, v = .slice adv n cap ∧ n ≤ cap := by
      obtain ⟨hl2, ⟨rfl, h0⟩ | ⟨g, cap, cur, rfl, hbg, hh, hnc, _⟩⟩ := hown
      · exact ⟨none, 0, by rw [h0], by omega⟩
      · exact ⟨_, cap, rfl, hnc⟩
    obtain ⟨adv, cap, rfl, hnc⟩ := hslice
    have hr := run_append_zero (P := P) w t o.type e i ht hi adv n cap hnc adx c
    unfold Oper.wp execOp
    simp only [ho, resolve, invoke, builtin, Sem.run_bind, Sem.run_pure, Result.andThen_ok, List.map_toArray, List.map_cons, List.map_nil, hs, hx, hr]
    exact hK _ _ (h _ w (by rw [List.append_nil, Nat.add_zero]; exact hown) (World.grownBy.refl _ _) (.inl rfl))
  | succ m =>
    obtain ⟨ad, rfl⟩ : ∃ ad, adx = some ad := by
      cases news with
      | nil =>
        have h0 : 0 < (m + 1) * size := Nat.mul_pos (Nat.succ_pos m) hsz
        rw [← hl] at h0
        exact absurd h0 (Nat.lt_irrefl 0)
      | cons u us => obtain ⟨ad, h2, _⟩ := hnews 0 u rfl; exact ⟨ad, h2⟩
    refine wp_append_lies w s x t ho base e i z size bytes ht hi hz hsize hby hzs hsz v n xs hs hown ad (m + 1) c news hx hl (fun j u hj => by obtain ⟨a2, h2, h3⟩ := hnews j u hj; injection h2 with h2; subst h2; exact h3) h1 (by omega) h63 hbytes hbase _ rfl fun g cap w' h2 h3 h4 h5 => hK _ _ (h _ w' h2 h3 ?_)
    rcases h4 with h4 | h4
    · exact .inl h4.symm
    · exact .inr (by rw [h4]; rfl)
theorem addr_at (g o j : Nat) : (⟨g, o, none⟩ : Addr).add j = ⟨g, o + j, none⟩ := by unfold Addr.add; split <;> simp_all
/-- Terms in memory as a row of cells. -/
theorem row_of {w : World} {P : Nat → Prop} {ad : Option Addr} {l : List Tm} (h : TArgsP w P ad l) : ∃ xs, TRow w P xs l ∧ ∀ j u, xs[j]? = some u → ∃ g o, ad = some ⟨g, o, none⟩ ∧ w.cell? ⟨g, o + j, none⟩ = some u := by
  induction h with
  | nil => exact ⟨[], .nil, fun j u hj => by cases hj⟩
  | cons b o k n nm l ts ad cap hb c0 c1 c2 c3 hk hn hs hl hc ha _ _ ih =>
    obtain ⟨xs, h1, h2⟩ := ih
    refine ⟨tcells (.mk k nm n l) ad cap ++ xs, .cons _ ad cap _ _ ⟨hk, hn, hs, hl, hc, ha⟩ h1, fun j u hj => ⟨b, o, rfl, ?_⟩⟩
    match j, hj with
    | 0, hj => rw [← hj]; exact c0
    | 1, hj => rw [← hj]; exact c1
    | 2, hj => rw [← hj]; exact c2
    | 3, hj => rw [← hj]; exact c3
    | j + 4, hj =>
      obtain ⟨g, o2, e, h3⟩ := h2 j u hj
      injection e with e
      injection e with e1 e2 _
      subst e1 e2
      rw [show o + (j + 4) = o + 4 + j from by omega]
      exact h3
theorem row_cells {w : World} {P : Nat → Prop} {xs : List Value} {l : List Tm} (h : TRow w P xs l) : ∀ u ∈ xs, u.oneCell' = true := by
  induction h with
  | nil => intro u hu; cases hu
  | cons t ad cap xs ts _ _ ih =>
    intro u hu
    rcases List.mem_append.1 hu with hu | hu
    · simp [tcells] at hu
      rcases hu with rfl | rfl | rfl | rfl <;> rfl
    · exact ih u hu
theorem trow_append {w : World} {P : Nat → Prop} {xs ys : List Value} {l m : List Tm} (h : TRow w P xs l) (k : TRow w P ys m) : TRow w P (xs ++ ys) (l ++ m) := by
  induction h with
  | nil => exact k
  | cons t ad cap xs ts ht _ ih => rw [List.append_assoc]; exact .cons t ad cap _ _ ht ih
/-- A slice of one's own with terms in it. -/
theorem ownT_slice {B : Nat} {w : World} {v : Value} {n : Nat} {xs : List Value} {l : List Tm} {P : Nat → Prop} (hn : n = l.length) (h : w.ownsRow B 30 4 v n xs) (h2 : TRow w P xs l) : ∃ ad cap, v = .slice ad l.length cap ∧ l.length ≤ cap ∧ cap ≤ maxLen ∧ TArgs w ad l := by
  subst hn
  obtain ⟨hl, h1⟩ := h
  rcases h1 with ⟨rfl, h0⟩ | ⟨g, cap, cur, rfl, hbg, hh, hnc, hcm, hsz, htk⟩
  · cases l with
    | nil => exact ⟨none, 0, rfl, Nat.le_refl _, Nat.zero_le _, .nil _⟩
    | cons t ts => cases h0
  · refine ⟨some ⟨g, 0, none⟩, cap, rfl, hnc, hcm, (h2.args (Q := fun _ => True) g trivial (fun _ _ => trivial) 0 (fun j hj => ?_)).all⟩
    rw [Nat.zero_add]
    exact World.ownsRow.cellAt (w := w) (base := B) (e := 30) (size := 4) (n := l.length) (xs := xs) ⟨hl, .inr ⟨g, cap, cur, rfl, hbg, hh, hnc, hcm, hsz, htk⟩⟩ j (by rw [← hl]; exact hj)

theorem progR_small {ts : List Tok} {L : List Tm} (h : ProgR ts L) : Fine ts → Tm.sizes L + L.length ≤ 2 * ts.length := by
  induction h with
  | nil => intro _; exact Nat.zero_le _
  | cons ts ts' t ns L _ hx _ ih =>
    intro hf
    obtain ⟨a1, a2, _, _⟩ := wholeR_left hf hx
    have := ih a1
    have := t.size_pos
    rw [Tm.sizes_cons, List.length_cons]
    omega
theorem progL_small {src : List UInt8} {l : List Tm} (h : progL src = .ok l) : Tm.sizes l ≤ 10000 ∧ l.length ≤ 10000 := by
  unfold progL cutThen at h
  split at h
  · cases h
  · cases hc : cutL src 0 false with
    | bad o => rw [hc] at h; cases h
    | good T =>
      rw [hc] at h
      have hf := cut_fine (by omega) hc
      have hm := cut_many hc
      obtain ⟨L, h1, h2⟩ := progR_of _ _ _ _ hf (Nat.le_refl _) h
      rw [List.nil_append] at h1
      subst h1
      have := progR_small h2 hf
      omega

/-- What Program answers, whichever. -/
def ProgAny (w : World) (e : Ending) (w' : World) : Prop := ∃ v p er, e = .returned (.tuple #[v, .int .i64 p, .int .i64 er]) ∧ Below w.heap.size w w'
theorem prog_any {w : World} {x : Pr (List Tm)} {e : Ending} {w' : World} (h : ProgramOut w x e w') : ProgAny w e w' := by
  cases x with
  | bad o er => exact ⟨_, _, _, h⟩
  | ok l => obtain ⟨ad, cap, he, _, _, _, hb⟩ := h; exact ⟨_, _, _, he, hb⟩
theorem progL_bad {src : List UInt8} {o : Nat} {er : Int} (h : progL src = .bad o er) : (er == 0) = false := by
  unfold progL cutThen at h
  split at h
  · injection h with h1 h2; subst h2; rfl
  · split at h
    · injection h with h1 h2; subst h2; rfl
    · rcases progT_bad h with rfl | rfl <;> rfl

set_option maxRecDepth 100000 in
set_option maxHeartbeats 4000000 in
theorem joins_long (a b : ByteArray) (w : World) (hT : TabsT w) (hl : 2000 < a.size ∨ 2000 < b.size) (ha : a.size ≤ 9223372036854775807) (hb : b.size ≤ 9223372036854775807) :
    Calls Tryz.prog 5 #[.string a, .string b] w fun e w' => e = .returned (.bool true) ∧ Below w.heap.size w w' := by
  have HL := Lib.hid (read_live w hT)
  clear hT
  have hways : 2000 < (a.size : Int) ∨ (¬ 2000 < (a.size : Int) ∧ 2000 < (b.size : Int)) := by omega
  clear hl
  rcases hways with h1 | ⟨h1, h2⟩
  all_goals
    go_enter Tryz.func5, Tryz.ntmps5
    go_wp2_with fail
    refine HL.out.mono ?_; rintro e w1 ⟨rfl, hb1⟩
    have HB1 := Lib.hid hb1
    clear hb1
    go_wp2_with fail
    go_ret
    exact ⟨rfl, HB1.out⟩

set_option maxRecDepth 100000 in
set_option maxHeartbeats 4000000 in
theorem joins_no1 (a b : ByteArray) (w : World) (hT : TabsT w) (h1 : ¬ 2000 < (a.size : Int)) (h2 : ¬ 2000 < (b.size : Int)) (o : Nat) (er : Int) (hx : progL a.data.toList = .bad o er) :
    Calls Tryz.prog 5 #[.string a, .string b] w fun e w' => e = .returned (.bool true) ∧ Below w.heap.size w w' := by
  have g1 : decide (2000 < (a.size : Int)) = false := decide_eq_false h1
  have g2 : decide (2000 < (b.size : Int)) = false := decide_eq_false h2
  have HL := Lib.hid (read_live w hT)
  have HX := Lib.hid (fun W (hb : Below w.heap.size w W) => rd_Program a W (hT.on hb))
  have HY := Lib.hid (fun W (hb : Below w.heap.size w W) => (rd_Program b W (hT.on hb)).mono (fun _ _ h => prog_any h))
  have HZ := Lib.hid (fun W (hb : Below w.heap.size w W) => (rd_Program (a ++ ⟨#[10]⟩ ++ b) W (hT.on hb)).mono (fun _ _ h => prog_any h))
  rw [hx] at HX
  have her := progL_bad hx
  have her2 : ¬ er = 0 := by simpa using her
  clear hT hx
  go_enter Tryz.func5, Tryz.ntmps5
  go_wp2_with fail
  refine HL.out.mono ?_; rintro e w1 ⟨rfl, hb1⟩
  have HB1 := Lib.hid hb1
  clear hb1
  go_wp2_with fail
  refine (HX.out _ HB1.out).mono ?_; rintro e w2 ⟨rfl, hb2⟩
  have HB2 := Lib.hid (HB1.out.trans (hb2.mono HB1.out.size))
  clear hb2
  go_wp2_with fail
  refine (HY.out _ HB2.out).mono ?_; rintro e w3 ⟨v3, p3, e3, rfl, hb3⟩
  have HB3 := Lib.hid (HB2.out.trans (hb3.mono HB2.out.size))
  clear hb3
  go_wp2_with fail
  refine (HZ.out _ HB3.out).mono ?_; rintro e w4 ⟨v4, p4, e4, rfl, hb4⟩
  have HB4 := Lib.hid (HB3.out.trans (hb4.mono HB3.out.size))
  clear hb4
  go_wp2_with fail
  go_ret
  exact ⟨rfl, HB4.out⟩

set_option maxRecDepth 100000 in
set_option maxHeartbeats 4000000 in
theorem joins_no2 (a b : ByteArray) (w : World) (hT : TabsT w) (h1 : ¬ 2000 < (a.size : Int)) (h2 : ¬ 2000 < (b.size : Int)) (la : List Tm) (hx : progL a.data.toList = .ok la) (o : Nat) (er : Int) (hy : progL b.data.toList = .bad o er) :
    Calls Tryz.prog 5 #[.string a, .string b] w fun e w' => e = .returned (.bool true) ∧ Below w.heap.size w w' := by
  have g1 : decide (2000 < (a.size : Int)) = false := decide_eq_false h1
  have g2 : decide (2000 < (b.size : Int)) = false := decide_eq_false h2
  have HL := Lib.hid (read_live w hT)
  have HX := Lib.hid (fun W (hb : Below w.heap.size w W) => rd_Program a W (hT.on hb))
  have HY := Lib.hid (fun W (hb : Below w.heap.size w W) => rd_Program b W (hT.on hb))
  have HZ := Lib.hid (fun W (hb : Below w.heap.size w W) => (rd_Program (a ++ ⟨#[10]⟩ ++ b) W (hT.on hb)).mono (fun _ _ h => prog_any h))
  rw [hx] at HX
  rw [hy] at HY
  have her := progL_bad hy
  have her2 : ¬ er = 0 := by simpa using her
  clear hT hx hy
  go_enter Tryz.func5, Tryz.ntmps5
  go_wp2_with fail
  refine HL.out.mono ?_; rintro e w1 ⟨rfl, hb1⟩
  have HB1 := Lib.hid hb1
  clear hb1
  go_wp2_with fail
  refine (HX.out _ HB1.out).mono ?_; rintro e w2 ⟨ad, cap, rfl, _, _, _, hb2⟩
  have HB2 := Lib.hid (HB1.out.trans (hb2.mono HB1.out.size))
  clear hb2
  go_wp2_with fail
  refine (HY.out _ HB2.out).mono ?_; rintro e w3 ⟨rfl, hb3⟩
  have HB3 := Lib.hid (HB2.out.trans (hb3.mono HB2.out.size))
  clear hb3
  go_wp2_with fail
  refine (HZ.out _ HB3.out).mono ?_; rintro e w4 ⟨v4, p4, e4, rfl, hb4⟩
  have HB4 := Lib.hid (HB3.out.trans (hb4.mono HB3.out.size))
  clear hb4
  go_wp2_with fail
  go_ret
  exact ⟨rfl, HB4.out⟩

set_option maxRecDepth 100000 in
set_option maxHeartbeats 4000000 in
theorem joins_yes (a b : ByteArray) (w : World) (hT : TabsT w) (h1 : ¬ 2000 < (a.size : Int)) (h2 : ¬ 2000 < (b.size : Int)) (la lb : List Tm) (hx : progL a.data.toList = .ok la) (hy : progL b.data.toList = .ok lb) :
    Calls Tryz.prog 5 #[.string a, .string b] w fun e w' => e = .returned (.bool true) ∧ Below w.heap.size w w' := by
  have g1 : decide (2000 < (a.size : Int)) = false := decide_eq_false h1
  have g2 : decide (2000 < (b.size : Int)) = false := decide_eq_false h2
  have HL := Lib.hid (read_live w hT)
  have HX := Lib.hid (fun W (hb : Below w.heap.size w W) => rd_Program a W (hT.on hb))
  have HY := Lib.hid (fun W (hb : Below w.heap.size w W) => rd_Program b W (hT.on hb))
  have HZ := Lib.hid (fun W (hb : Below w.heap.size w W) => rd_Program (a ++ ⟨#[10]⟩ ++ b) W (hT.on hb))
  have hz : progL (a ++ ⟨#[10]⟩ ++ b).data.toList = .ok (la ++ lb) := by
    have hsa := size_listT a
    have hsb := size_listT b
    have := prog_join (a := a.data.toList) (b := b.data.toList) (by rw [List.length_append, List.length_cons]; omega) hx hy
    rw [← this]
    congr 1
    simp
  rw [hx] at HX
  rw [hy] at HY
  rw [hz] at HZ
  obtain ⟨sa1, sa2⟩ := progL_small hx
  obtain ⟨sb1, sb2⟩ := progL_small hy
  obtain ⟨sz1, _⟩ := progL_small hz
  clear hT hx hy hz
  go_enter Tryz.func5, Tryz.ntmps5
  go_wp2_with fail
  refine HL.out.mono ?_; rintro e w1 ⟨rfl, hb1⟩
  have HB1 := Lib.hid hb1
  clear hb1
  go_wp2_with fail
  refine (HX.out _ HB1.out).mono ?_; rintro e w2 ⟨ad2, cap2, rfl, hl2, hc2, ht2, hb2⟩
  have HB2 := Lib.hid (HB1.out.trans (hb2.mono HB1.out.size))
  have HT2 := Lib.hid ht2
  clear hb2 ht2
  go_wp2_with fail
  refine (HY.out _ HB2.out).mono ?_; rintro e w3 ⟨ad3, cap3, rfl, hl3, hc3, ht3, hb3⟩
  have HB3 := Lib.hid (HB2.out.trans (hb3.mono HB2.out.size))
  have HT3 := Lib.hid (TArgsP.kept HT2.out (Q := fun b => b < w3.heap.size) (fun b _ hs => hb3.block b hs) (fun b _ hs => by have := hb3.size; omega))
  have HU3 := Lib.hid ht3
  clear hb3 ht3 HT2
  go_wp2_with fail
  refine (HZ.out _ HB3.out).mono ?_; rintro e w4 ⟨ad4, cap4, rfl, hl4, hc4, ht4, hb4⟩
  have HB4 := Lib.hid (HB3.out.trans (hb4.mono HB3.out.size))
  obtain ⟨xa, hra, hca⟩ := row_of (TArgsP.kept HT3.out (Q := fun b => b < w4.heap.size) (fun b _ hs => hb4.block b hs) (fun b _ hs => by have := hb4.size; omega))
  obtain ⟨xb, hrb, hcb⟩ := row_of (TArgsP.kept HU3.out (Q := fun b => b < w4.heap.size) (fun b _ hs => hb4.block b hs) (fun b _ hs => by have := hb4.size; omega))
  have HRA := Lib.hid hra
  have HCA := Lib.hid hca
  have HRB := Lib.hid hrb
  have HCB := Lib.hid hcb
  have HZ4 := Lib.hid ht4.all
  clear hb4 ht4 HT3 HU3 hra hca hrb hcb
  obtain ⟨i0, hi, hz0, hz1, hz2⟩ := info_partsR infoTermR
  go_wp2_with (first
    | (at_builtin; refine wpList_append_row (by rfl) _ _ 23 rfl w4.heap.size 30 i0 (.agg #[.int .i64 0, .string ⟨#[]⟩, .int .i64 0, .slice none 0 0]) 4 56 Tryz.underlying23 hi hz0 hz1 hz2 rfl (by decide) (.slice none 0 0) 0 [] rfl (World.ownsRow_nil _ _ _ _) ad2 la.length cap2 xa rfl ?c0 ?c1 ?c2 ?c3 ?c4 (Nat.le_refl _) ?_))
  case c0 => exact HRA.out.length
  case c1 =>
    intro j u hj
    obtain ⟨g, o, e, h⟩ := HCA.out j u hj
    exact ⟨⟨g, o, none⟩, e, by rw [addr_at]; exact h⟩
  case c2 => exact row_cells HRA.out
  case c3 => unfold maxLen; omega
  case c4 => omega
  intro v5 w5 hown5 hgrow5 hat5
  have hra5 := HRA.out.kept (Q := fun b => b < w4.heap.size) (fun b hp hs => hgrow5.block b hs (by intro e; cases e)) (fun b hp _ => hp)
  have hrb5 := HRB.out.kept (Q := fun b => b < w4.heap.size) (fun b hp hs => hgrow5.block b hs (by intro e; cases e)) (fun b hp _ => hp)
  have hb5 : Below w4.heap.size w4 w5 := (Below.refl _ w4).grown hgrow5 (Nat.le_refl _) (fun i hi => by cases hi)
  have HRA5 := Lib.hid hra5
  have HRB5 := Lib.hid hrb5
  have HB5 := Lib.hid hb5
  have HCB5 : Hid (∀ j u, xb[j]? = some u → ∃ ad, ad3 = some ad ∧ w5.cell? (ad.add j) = some u) := Lib.hid (fun j u hj => by
    obtain ⟨g, o, e, h⟩ := HCB.out j u hj
    refine ⟨⟨g, o, none⟩, e, ?_⟩
    have h2 : w4.cell? ((⟨g, o, none⟩ : Addr).add j) = some u := by rw [addr_at]; exact h
    rw [← h2]
    exact hb5.cell (World.block_lt_of_cell? w4 _ h2))
  have HAT5 : Hid (∀ k, v5.ownBlock = some k → k = w4.heap.size) := Lib.hid (fun k hk => by
    rcases hat5 with h | h
    · rw [h] at hk; cases hk
    · rw [h] at hk; exact (Option.some.inj hk).symm)
  have hs5 := hb5.size
  clear hra5 hrb5 hgrow5 hat5 hb5 HCA HCB HRA HRB
  go_wp2_with (first
    | (at_builtin; refine wpList_append_row (by rfl) _ _ 23 rfl w4.heap.size 30 i0 (.agg #[.int .i64 0, .string ⟨#[]⟩, .int .i64 0, .slice none 0 0]) 4 56 Tryz.underlying23 hi hz0 hz1 hz2 rfl (by decide) v5 la.length xa rfl hown5 ad3 lb.length cap3 xb rfl ?d0 HCB5.out ?d2 ?d3 ?d4 hs5 ?_))
  case d0 => exact HRB5.out.length
  case d2 => exact row_cells HRB5.out
  case d3 => unfold maxLen; omega
  case d4 => omega
  intro v6 w6 hown6 hgrow6 _
  have hra6 := HRA5.out.kept (Q := fun _ => True) (fun b hp hs => hgrow6.block b hs (fun e => by have := HAT5.out b e.symm; omega)) (fun _ _ _ => trivial)
  have hrb6 := HRB5.out.kept (Q := fun _ => True) (fun b hp hs => hgrow6.block b hs (fun e => by have := HAT5.out b e.symm; omega)) (fun _ _ _ => trivial)
  have hb6 : Below w4.heap.size w4 w6 := HB5.out.grown hgrow6 hs5 (fun i hi => by have := HAT5.out i hi; omega)
  obtain ⟨ad6, cap6, rfl, hl6, hc6, ht6⟩ := ownT_slice (l := la ++ lb) (by rw [List.length_append]) hown6 (trow_append hra6 hrb6)
  have HS := Lib.hid (ref_SameAll (la ++ lb) (la ++ lb) ad4 ad6 cap4 cap6 w6 (by rw [Tm.sizes_append]; omega) hl4 hc4 hl6 hc6 (HZ4.out.on hb6) ht6)
  rw [Tm.same_true rfl, List.length_append] at HS
  have HB6 := Lib.hid (HB4.out.trans (hb6.mono HB4.out.size))
  clear hra6 hrb6 hgrow6 hb6 ht6 hown6 hown5
  go_wp2_with fail
  refine HS.out.mono ?_; rintro e w7 ⟨rfl, hb7⟩
  have HB7 := Lib.hid (HB6.out.trans (hb7.mono HB6.out.size))
  clear hb7
  go_wp2_with fail
  go_ret
  exact ⟨rfl, HB7.out⟩
theorem walk_ReadJoins (a b : ByteArray) (w : World) (ha : a.size ≤ maxLen) (hb : b.size ≤ maxLen) (hT : TabsT w) :
    Calls Tryz.prog 5 #[.string a, .string b] w fun e w' => e = .returned (.bool true) ∧ Below w.heap.size w w' := by
  unfold maxLen at ha hb
  by_cases h1 : 2000 < a.size
  · exact joins_long a b w hT (.inl h1) (by omega) (by omega)
  by_cases h2 : 2000 < b.size
  · exact joins_long a b w hT (.inr h2) (by omega) (by omega)
  cases hx : progL a.data.toList with
  | bad o er => exact joins_no1 a b w hT (by omega) (by omega) o er hx
  | ok la =>
    cases hy : progL b.data.toList with
    | bad o er => exact joins_no2 a b w hT (by omega) (by omega) la hx o er hy
    | ok lb => exact joins_yes a b w hT (by omega) (by omega) la lb hx hy
end Go.Proofs.YtlbdocdjijhkbaaGreatDoor
