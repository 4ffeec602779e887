/-
  The walk of the law ReadLists.
-/
import Derived.Test.YtlbdocdjijhkbaaGreatDoorReadTop
import Derived.Test.YtlbdocdjijhkbaaGreatDoorReadGM
import Derived.RegionCalls
namespace Go.Proofs.YtlbdocdjijhkbaaGreatDoor
open Go.RowKit

/-- Numbers in memory. -/
structure NumsIn (w : World) (l : List Int) (ad : Option Addr) (cap : Nat) : Prop where
  len : l.length ≤ cap
  cap : cap ≤ maxLen
  wf : ∀ n ∈ l, In64 n
  cells : ∀ j (hj : j < l.length), ∃ g o, ad = some ⟨g, o, none⟩ ∧ w.cell? ⟨g, o + j, none⟩ = some (.int .i64 l[j])
theorem NumsIn.on {w w' : World} {l : List Int} {ad : Option Addr} {cap : Nat} (h : NumsIn w l ad cap) (hb : Below w.heap.size w w') : NumsIn w' l ad cap :=
  ⟨h.len, h.cap, h.wf, fun j hj => by obtain ⟨g, o, e, hc⟩ := h.cells j hj; exact ⟨g, o, e, (hb.cell (World.block_lt_of_cell? w _ hc)).trans hc⟩⟩
/-- A list under way, in its variable T; U is the other's variable. -/
structure LMem (T U : Nat) (w : World) (t : Tm) (ad : Option Addr) (cap : Nat) : Prop where
  cells : w.heap[T]? = some (.cells #[.int .i64 t.kind, .string t.name, .int .i64 t.n, .slice ad t.args.length cap] 30 (0, 0))
  tm : TmP w (fun b => b ≠ T ∧ b ≠ U) t ad cap
theorem LMem.below {T U : Nat} {w w' : World} {t : Tm} {ad : Option Addr} {cap : Nat} (h : LMem T U w t ad cap) (hb : Below w.heap.size w w') : LMem T U w' t ad cap :=
  ⟨keptR hb h.cells, TmP.kept h.tm (fun b _ hs => hb.block b hs) (fun _ hp _ => hp)⟩

theorem cons_small : ∀ (l : List Int) (e : Tm), e.size = 1 → (consT (l.map intT) e).size = 2 * l.length + 1
  | [], e, h => h
  | n :: l, e, h => by
    show (compT [46] [intT n, consT (l.map intT) e]).size = _
    rw [size_comp2, cons_small l e h, List.length_cons, show (intT n).size = 1 from rfl]
    omega
theorem leafR0 (w : World) (P : Nat → Prop) {k n : Int} {s : ByteArray} (hk : In64 k) (hn : In64 n) (hs : s.size ≤ maxLen) : TmP w P (.mk k s n []) none 0 := ⟨hk, hn, hs, Nat.le_refl _, Nat.zero_le _, .nil _⟩
theorem below_past {v1 v2 : World} {o : Obj} (h : Below (v1.alloc o).heap.size (v1.alloc o) v2) : Below v1.heap.size v1 v2 :=
  ((Below.refl _ v1).alloc (Nat.le_refl _) o).trans (h.mono (by rw [World.size_alloc]; omega))
/-- One element more ahead of a list. -/
theorem LMem.step {T U : Nat} {w v1 v2 : World} {t t2 : Tm} {ad ad2 : Option Addr} {cap cap2 : Nat} {n : Int} {s : ByteArray} (hs : s = ⟨#[46]⟩) (hn : In64 n) (hT : LMem T U w t ad cap) (hU : LMem U T w t2 ad2 cap2) (hTU : T ≠ U) (h1 : Below w.heap.size w v1)
    (h2 : Below (v1.alloc (.cells #[.int .i64 3, .string ⟨#[]⟩, .int .i64 n, .slice none 0 0, .int .i64 t.kind, .string t.name, .int .i64 t.n, .slice ad t.args.length cap] 30)).heap.size (v1.alloc (.cells #[.int .i64 3, .string ⟨#[]⟩, .int .i64 n, .slice none 0 0, .int .i64 t.kind, .string t.name, .int .i64 t.n, .slice ad t.args.length cap] 30)) v2) :
    LMem U T ((((v2.setCell ⟨T, 0, none⟩ (.int .i64 4)).setCell ⟨T, 1, none⟩ (.string s)).setCell ⟨T, 2, none⟩ (.int .i64 0)).setCell ⟨T, 3, none⟩ (.slice (some ⟨v1.heap.size, 0, none⟩) 2 2)) t2 ad2 cap2 ∧ LMem T U ((((v2.setCell ⟨T, 0, none⟩ (.int .i64 4)).setCell ⟨T, 1, none⟩ (.string s)).setCell ⟨T, 2, none⟩ (.int .i64 0)).setCell ⟨T, 3, none⟩ (.slice (some ⟨v1.heap.size, 0, none⟩) 2 2)) (compT [46] [intT n, t]) (some ⟨v1.heap.size, 0, none⟩) 2 ∧ (∀ N, N ≤ T → Below N w ((((v2.setCell ⟨T, 0, none⟩ (.int .i64 4)).setCell ⟨T, 1, none⟩ (.string s)).setCell ⟨T, 2, none⟩ (.int .i64 0)).setCell ⟨T, 3, none⟩ (.slice (some ⟨v1.heap.size, 0, none⟩) 2 2))) ∧ w.heap.size ≤ (((((v2.setCell ⟨T, 0, none⟩ (.int .i64 4)).setCell ⟨T, 1, none⟩ (.string s)).setCell ⟨T, 2, none⟩ (.int .i64 0)).setCell ⟨T, 3, none⟩ (.slice (some ⟨v1.heap.size, 0, none⟩) 2 2))).heap.size := by
  subst hs
  have hTlt : T < w.heap.size := (Array.getElem?_eq_some_iff.1 hT.cells).1
  have hUlt : U < w.heap.size := (Array.getElem?_eq_some_iff.1 hU.cells).1
  have hs1 := h1.size
  have h3 := h1.trans ((below_past h2).mono hs1)
  have hk : ∀ q, q ≠ T → (((((v2.setCell ⟨T, 0, none⟩ (.int .i64 4)).setCell ⟨T, 1, none⟩ (.string ⟨#[46]⟩)).setCell ⟨T, 2, none⟩ (.int .i64 0)).setCell ⟨T, 3, none⟩ (.slice (some ⟨v1.heap.size, 0, none⟩) 2 2))).heap[q]? = v2.heap[q]? := fun q hq => by
    rw [Below.heap_setCell _ _ _ _ (show q ≠ T from hq), Below.heap_setCell _ _ _ _ (show q ≠ T from hq), Below.heap_setCell _ _ _ _ (show q ≠ T from hq), Below.heap_setCell _ _ _ _ (show q ≠ T from hq)]
  have hA : TArgsP (v1.alloc (.cells #[.int .i64 3, .string ⟨#[]⟩, .int .i64 n, .slice none 0 0, .int .i64 t.kind, .string t.name, .int .i64 t.n, .slice ad t.args.length cap] 30)) (fun b => b ≠ T ∧ b ≠ U) (some ⟨v1.heap.size, 0, none⟩) [intT n, t] :=
    args2T (w := v1) (t := intT n) (ad := none) (cap := 0) ⟨by omega, by omega⟩ (leafR0 _ _ (in64R (by decide) (by decide)) hn (Nat.zero_le _)) (TmP.kept hT.tm (fun b _ hb => h1.block b hb) (fun _ hp _ => hp))
  have hA2 := TArgsP.kept hA (Q := fun b => b ≠ T ∧ b ≠ U) (fun b _ hb => h2.block b hb) (fun _ hp _ => hp)
  refine ⟨⟨?_, TmP.kept hU.tm (fun b hp hb => (hk b hp.2).trans (h3.block b hb)) (fun _ hp _ => hp)⟩, ⟨?_, compP (by decide) (Nat.le_refl _) (by show 2 ≤ maxLen; unfold maxLen; decide) (TArgsP.kept hA2 (fun b hp _ => hk b hp.1) (fun _ hp _ => hp))⟩, fun N hN => ?_, ?_⟩
  · exact (hk U (fun e => hTU e.symm)).trans (keptR h3 hU.cells)
  · have p0 := keptR h3 hT.cells
    have p1 := Lib.heap_setCell_same (i := 0) p0 (.int .i64 4)
    have p2 := Lib.heap_setCell_same (i := 1) p1 (.string ⟨#[46]⟩)
    have p3 := Lib.heap_setCell_same (i := 2) p2 (.int .i64 0)
    have p4 := Lib.heap_setCell_same (i := 3) p3 (.slice (some ⟨v1.heap.size, 0, none⟩) 2 2)
    rw [p4]
    rfl
  · exact ((((h3.mono (by omega)).setCell (p := ⟨T, 0, none⟩) hN _).setCell (p := ⟨T, 1, none⟩) hN _).setCell (p := ⟨T, 2, none⟩) hN _).setCell (p := ⟨T, 3, none⟩) hN _
  · have := h3.size
    simpa using this

set_option maxRecDepth 100000 in
set_option maxHeartbeats 4000000 in
theorem lists_no (l : List Int) (ad : Option Addr) (cap : Nat) (w : World) (hT : TabsT w) (h : 50 < l.length ∨ l = []) (hin : NumsIn w l ad cap) :
    Calls Tryz.prog 9 #[.slice ad l.length cap] w fun e w' => e = .returned (.bool true) ∧ Below w.heap.size w w' := by
  have HL := Lib.hid (read_live w hT)
  have hways : decide (50 < (l.length : Int)) = true ∨ (decide (50 < (l.length : Int)) = false ∧ ((l.length : Int) == 0) = true) := by
    rcases h with h | h
    · exact .inl (decide_eq_true (by omega))
    · subst h; exact .inr ⟨rfl, rfl⟩
  clear hT h hin
  generalize l.length = m at *
  rcases hways with h1 | ⟨h1, h2⟩
  all_goals
    go_enter Tryz.func9, Tryz.ntmps9
    go_wp2_with fail
    refine HL.out.mono ?_; rintro e w1 ⟨rfl, hb1⟩
    have HB1 := Lib.hid hb1
    clear hb1
    go_wp2_with fail
    go_ret
    exact ⟨rfl, HB1.out⟩

set_option maxRecDepth 100000 in
set_option maxHeartbeats 8000000 in
theorem lists_yes (l : List Int) (ad : Option Addr) (cap : Nat) (w : World) (hT : TabsT w) (h1 : l.length ≤ 50) (h2 : l ≠ []) (hin : NumsIn w l ad cap) :
    Calls Tryz.prog 9 #[.slice ad l.length cap] w fun e w' => e = .returned (.bool true) ∧ Below w.heap.size w w' := by
  have HL := Lib.hid (read_live w hT)
  have HT := Lib.hid hT
  have HIN := Lib.hid hin
  have HNE := Lib.hid h2
  have hpos : 0 < l.length := by cases l with | nil => exact absurd rfl h2 | cons => simp
  have g1 : decide (50 < (l.length : Int)) = false := decide_eq_false (by omega)
  have g2 : ((l.length : Int) == 0) = false := by simp; omega
  have hcm := hin.cap
  have hlc := hin.len
  unfold maxLen at hcm
  clear hT hin h2
  go_enter Tryz.func9, Tryz.ntmps9
  go_wp2_with fail
  refine HL.out.mono ?_; rintro e w1 ⟨rfl, hb1⟩
  have HB1 := Lib.hid hb1
  have HIN1 : Hid (NumsIn w1 l ad cap) := Lib.hid (HIN.out.on hb1)
  clear hb1 HIN
  go_wp2_with fail
  go_loopw [4, 30] (fun sv iv wr => ∃ (k : Nat) (S : ByteArray), k ≤ l.length ∧ iv = .int .i64 k ∧ sv = .string S ∧ Hid (S.data.toList = 91 :: numsL (l.take k)) ∧ S.size ≤ 1 + 21 * k ∧ (∀ j (hj : j < l.length), j < k → 0 ≤ l[j]) ∧ Below w1.heap.size w1 wr) (fun _ iv _ => l.length - (intOf iv).toNat)
  case atStart => exact ⟨0, ⟨#[91]⟩, Nat.zero_le _, rfl, rfl, Lib.hid rfl, by decide, fun j _ h => absurd h (Nat.not_lt_zero _), Below.refl _ _⟩
  case round =>
    obtain ⟨k, S, hk, rfl, rfl, HS, hsz, hno, hbw⟩ := hrel
    have hws := hbw.size
    by_cases hlt : k < l.length
    · obtain ⟨g, o, rfl, hc⟩ := HIN1.out.cells k hlt
      have c0 := (hbw.cell (World.block_lt_of_cell? w1 _ hc)).trans hc
      have HNO := Lib.hid hno
      have hk0 : (0 : Int) ≤ (k : Int) := by omega
      have hk1 : (k : Int) < (l.length : Int) := by omega
      have hwf := HIN1.out.wf _ (List.getElem_mem hlt)
      clear hno hc
      have HTX := Lib.hid (fun W => ref_Text l[k] W hwf)
      have HITO := Lib.hid (fun (h : 0 ≤ l[k]) => itoa_len l[k] h hwf)
      have HSN : Hid (numsL (l.take (k + 1)) = if l.take k = [] then Lib.itoa l[k] else numsL (l.take k) ++ 44 :: Lib.itoa l[k]) := Lib.hid (by rw [List.take_succ_eq_append_getElem hlt, numsL_snoc])
      have HNO2 : Hid (0 ≤ l[k] → ∀ j (hj : j < l.length), j < k + 1 → 0 ≤ l[j]) := Lib.hid (fun h j hj hjk => by
        by_cases e : j = k
        · subst e; exact h
        · exact HNO.out j hj (by omega))
      have HTK : Hid (l.take k = [] ↔ k = 0) := Lib.hid (by
        rw [List.take_eq_nil_iff]
        exact ⟨fun h => h.elim id (fun h => by subst h; exact absurd hlt (Nat.not_lt_zero _)), .inl⟩)
      clear HNO hwf
      generalize l[k] = n at *
      have hkz : k = 0 ∨ ¬ k = 0 := Classical.em _
      rcases hkz with rfl | hkz
      · rw [Nat.add_zero] at c0
        by_cases hneg : n < 0
        · go_wp2_with fail
          go_ret
          exact ⟨rfl, HB1.out.trans (hbw.mono HB1.out.size)⟩
        · have hus : (⟨(Lib.itoa n).toArray⟩ : ByteArray).size ≤ 20 := by
            show (Lib.itoa n).toArray.size ≤ 20
            rw [List.size_toArray]; exact HITO.out (by omega)
          have HUL : Hid ((⟨(Lib.itoa n).toArray⟩ : ByteArray).data.toList = Lib.itoa n) := Lib.hid rfl
          generalize (⟨(Lib.itoa n).toArray⟩ : ByteArray) = u at *
          go_wp2_with fail
          refine (HTX.out _).mono ?_; rintro e w2 ⟨rfl, hb2⟩
          have HB2 := Lib.hid (hbw.trans (hb2.mono hws))
          clear hb2
          go_wp2_with fail
          go_roundw
          case rel =>
            refine ⟨1, S ++ u, by omega, by go_num, rfl, Lib.hid ?_, ?_, HNO2.out (by omega), HB2.out⟩
            · rw [HSN.out, if_pos (HTK.out.2 (by first | rfl | trivial)), ByteArray.data_append, Array.toList_append, HS.out, HUL.out]
              rfl
            · rw [ByteArray.size_append]; omega
          case measure => simp [intOf]; omega
      · have hk2 : (0 : Int) < (k : Int) := by omega
        by_cases hneg : n < 0
        · go_wp2_with fail
          go_ret
          exact ⟨rfl, HB1.out.trans (hbw.mono HB1.out.size)⟩
        · have hus : (⟨(Lib.itoa n).toArray⟩ : ByteArray).size ≤ 20 := by
            show (Lib.itoa n).toArray.size ≤ 20
            rw [List.size_toArray]; exact HITO.out (by omega)
          have HUL : Hid ((⟨(Lib.itoa n).toArray⟩ : ByteArray).data.toList = Lib.itoa n) := Lib.hid rfl
          generalize (⟨(Lib.itoa n).toArray⟩ : ByteArray) = u at *
          go_wp2_with fail
          refine (HTX.out _).mono ?_; rintro e w2 ⟨rfl, hb2⟩
          have HB2 := Lib.hid (hbw.trans (hb2.mono hws))
          clear hb2
          go_wp2_with fail
          go_roundw
          case rel =>
            refine ⟨k + 1, S ++ ⟨#[44]⟩ ++ u, by omega, by go_num, rfl, Lib.hid ?_, ?_, HNO2.out (by omega), HB2.out⟩
            · rw [HSN.out, if_neg (fun h => hkz (HTK.out.1 h)), ByteArray.data_append, Array.toList_append, ByteArray.data_append, Array.toList_append, HS.out, HUL.out]
              simp
            · rw [ByteArray.size_append, ByteArray.size_append]
              show S.size + 1 + u.size ≤ _
              omega
          case measure => simp [intOf]; omega
    · have hkl : k = l.length := by omega
      subst hkl
      have hk1 : ¬ (l.length : Int) < (l.length : Int) := by omega
      rw [List.take_length] at HS
      have hall : ∀ n ∈ l, 0 ≤ n ∧ In64 n := fun n hn => by
        obtain ⟨j, hj, rfl⟩ := List.getElem_of_mem hn
        exact ⟨hno j hj hj, HIN1.out.wf _ hn⟩
      have hq1 : queryL (S ++ ⟨#[93]⟩).data.toList = .ok (consT (l.map intT) (atomT [91, 93]), []) := by
        rw [← query_list1 l HNE.out h1 hall, ByteArray.data_append, Array.toList_append, HS.out]
        rfl
      have hq2 : queryL (S ++ ⟨#[124, 90, 93]⟩).data.toList = .ok (consT (l.map intT) (varT 0), [[90]]) := by
        rw [← query_list2 l HNE.out h1 hall, ByteArray.data_append, Array.toList_append, HS.out]
        rfl
      have HBR := Lib.hid (HB1.out.trans (hbw.mono HB1.out.size))
      have HQ1 := Lib.hid (fun W (hb : Below w.heap.size w W) => rd_Query (S ++ ⟨#[93]⟩) W (HT.out.on hb))
      have HQ2 := Lib.hid (fun W (hb : Below w.heap.size w W) => rd_Query (S ++ ⟨#[124, 90, 93]⟩) W (HT.out.on hb))
      rw [hq1] at HQ1
      rw [hq2] at HQ2
      have HINR : Hid (NumsIn wr l ad cap) := Lib.hid (HIN1.out.on hbw)
      have hz1 : (S ++ ⟨#[93]⟩ : ByteArray).size ≤ 2000 := by rw [ByteArray.size_append]; show S.size + 1 ≤ _; omega
      have hz2 : (S ++ ⟨#[124, 90, 93]⟩ : ByteArray).size ≤ 2000 := by rw [ByteArray.size_append]; show S.size + 3 ≤ _; omega
      clear hno hq1 hq2 hall hbw HIN1 HB1 HT HS
      go_wp2_with fail
      refine (HQ1.out _ HBR.out).mono ?_; rintro e w2 ⟨v2, ad2, cap2, rfl, ho2, ht2, hb2⟩
      generalize htl : consT (l.map intT) (atomT [91, 93]) = tl at *
      generalize htz : consT (l.map intT) (varT 0) = tz at *
      have HTL := Lib.hid htl
      have HTZ := Lib.hid htz
      have HB2 := Lib.hid (HBR.out.trans (hb2.mono HBR.out.size))
      have HIN2 : Hid (NumsIn w2 l ad cap) := Lib.hid (HINR.out.on hb2)
      have HX2 : Hid (TmIn w2 tl ad2 cap2) := Lib.hid ht2.toIn
      clear htl htz hb2 ho2 ht2 HINR HBR HQ1
      unfold tmv
      go_upto_region 15 with fail
      generalize hw : w2.alloc (.cells #[.int .i64 tl.kind, .string tl.name, .int .i64 tl.n, .slice ad2 tl.args.length cap2] 30) = w3
      have HC3 : Hid (w3.heap[w2.heap.size]? = some (.cells #[.int .i64 tl.kind, .string tl.name, .int .i64 tl.n, .slice ad2 tl.args.length cap2] 30 (0, 0))) := Lib.hid (by rw [← hw]; exact newR w2 _)
      have hb3 : Below w2.heap.size w2 w3 := by rw [← hw]; exact (Below.refl _ _).alloc (Nat.le_refl _) _
      have HB3 := Lib.hid (HB2.out.trans (hb3.mono HB2.out.size))
      have HIN3 : Hid (NumsIn w3 l ad cap) := Lib.hid (HIN2.out.on hb3)
      have HX3 : Hid (TmIn w3 tl ad2 cap2) := Lib.hid (HX2.out.on hb3)
      have hs3 : w3.heap.size = w2.heap.size + 1 := by rw [← hw]; exact World.size_alloc _ _
      clear hw hb3 HIN2 HX2 HB2
      go_wp2_with fail
      refine (HQ2.out _ HB3.out).mono ?_; rintro e w4 ⟨v4, ad4, cap4, rfl, ho4, ht4, hb4⟩
      have HB4 := Lib.hid (HB3.out.trans (hb4.mono HB3.out.size))
      have HIN4 : Hid (NumsIn w4 l ad cap) := Lib.hid (HIN3.out.on hb4)
      have HX4 : Hid (TmIn w4 tl ad2 cap2) := Lib.hid (HX3.out.on hb4)
      have HY4 : Hid (TmIn w4 tz ad4 cap4) := Lib.hid ht4.toIn
      have HC4 := Lib.hid (keptR hb4 HC3.out)
      have hs4 := hb4.size
      clear hb4 ho4 ht4 HIN3 HX3 HB3 HC3 HQ2
      unfold tmv
      go_upto_region 16 with fail
      generalize hw : w4.alloc (.cells #[.int .i64 tz.kind, .string tz.name, .int .i64 tz.n, .slice ad4 tz.args.length cap4] 30) = w5
      have HD5 : Hid (w5.heap[w4.heap.size]? = some (.cells #[.int .i64 tz.kind, .string tz.name, .int .i64 tz.n, .slice ad4 tz.args.length cap4] 30 (0, 0))) := Lib.hid (by rw [← hw]; exact newR w4 _)
      have hb5 : Below w4.heap.size w4 w5 := by rw [← hw]; exact (Below.refl _ _).alloc (Nat.le_refl _) _
      have HB5 := Lib.hid (HB4.out.trans (hb5.mono HB4.out.size))
      have HIN5 : Hid (NumsIn w5 l ad cap) := Lib.hid (HIN4.out.on hb5)
      have HX5 : Hid (TmIn w5 tl ad2 cap2) := Lib.hid (HX4.out.on hb5)
      have HY5 : Hid (TmIn w5 tz ad4 cap4) := Lib.hid (HY4.out.on hb5)
      have HC5 := Lib.hid (keptR hb5 HC4.out)
      have hs5 : w5.heap.size = w4.heap.size + 1 := by rw [← hw]; exact World.size_alloc _ _
      clear hw hb5 HIN4 HX4 HY4 HB4 HC4
      go_wp2_with fail
      refine (ref_Atom1 _ _).mono ?_; rintro e w6 ⟨rfl, hb6⟩
      have HB6 := Lib.hid (HB5.out.trans (hb6.mono HB5.out.size))
      have HIN6 : Hid (NumsIn w6 l ad cap) := Lib.hid (HIN5.out.on hb6)
      have HX6 : Hid (TmIn w6 tl ad2 cap2) := Lib.hid (HX5.out.on hb6)
      have HY6 : Hid (TmIn w6 tz ad4 cap4) := Lib.hid (HY5.out.on hb6)
      have HC6 := Lib.hid (keptR hb6 HC5.out)
      have HD6 := Lib.hid (keptR hb6 HD5.out)
      have hs6 := hb6.size
      clear hb6 HIN5 HX5 HY5 HB5 HC5 HD5
      go_upto_region 17 with fail
      generalize hw : w6.alloc (.cells #[.int .i64 2, .string ⟨#[91, 93]⟩, .int .i64 0, .slice none 0 0] 30) = w7
      have HA7 : Hid (w7.heap[w6.heap.size]? = some (.cells #[.int .i64 2, .string ⟨#[91, 93]⟩, .int .i64 0, .slice none 0 0] 30 (0, 0))) := Lib.hid (by rw [← hw]; exact newR w6 _)
      have HB7 : Hid (Below w6.heap.size w6 w7) := Lib.hid (by rw [← hw]; exact (Below.refl _ _).alloc (Nat.le_refl _) _)
      have hs7 : w7.heap.size = w6.heap.size + 1 := by rw [← hw]; exact World.size_alloc _ _
      clear hw
      go_wp2_with fail
      refine (ref_Var1 _ _).mono ?_; rintro e w8 ⟨rfl, hb8⟩
      have HB8 := Lib.hid (HB7.out.trans (hb8.mono HB7.out.size))
      have HA8 := Lib.hid (keptR hb8 HA7.out)
      have hs8 := hb8.size
      clear hb8 HA7 HB7
      go_upto_region 18 with fail
      generalize hw : w8.alloc (.cells #[.int .i64 1, .string ⟨#[]⟩, .int .i64 0, .slice none 0 0] 30) = w9
      have hb9 : Below w8.heap.size w8 w9 := by rw [← hw]; exact (Below.refl _ _).alloc (Nat.le_refl _) _
      have HA9 : Hid (LMem w6.heap.size w8.heap.size w9 (atomT [91, 93]) none 0) := Lib.hid ⟨keptR hb9 HA8.out, leafR0 _ _ (in64R (by decide) (by decide)) (in64R (by decide) (by decide)) (by show 2 ≤ maxLen; unfold maxLen; decide)⟩
      have HV9 : Hid (LMem w8.heap.size w6.heap.size w9 (varT 0) none 0) := Lib.hid ⟨by rw [← hw]; exact newR w8 _, leafR0 _ _ (in64R (by decide) (by decide)) (in64R (by decide) (by decide)) (by show 0 ≤ maxLen; unfold maxLen; decide)⟩
      have HB9 := Lib.hid (HB8.out.trans (hb9.mono (by omega)))
      have hs9 : w9.heap.size = w8.heap.size + 1 := by rw [← hw]; exact World.size_alloc _ _
      clear hw hb9 HA8 HB8
      go_wp2_with fail
      generalize hA : w6.heap.size = A at *
      generalize hB : w8.heap.size = B at *
      have hAB : A ≠ B := by omega
      go_loopw [17] (fun iv wr => ∃ (k : Nat) (tA tB : Tm) (adA adB : Option Addr) (cA cB : Nat), k ≤ l.length ∧ iv = .int .i64 ((k : Int) - 1) ∧ Hid (tA = consT ((l.drop k).map intT) (atomT [91, 93])) ∧ Hid (tB = consT ((l.drop k).map intT) (varT 0)) ∧ LMem A B wr tA adA cA ∧ LMem B A wr tB adB cB ∧ Below A w6 wr ∧ B < wr.heap.size) (fun iv _ => (intOf iv + 1).toNat)
      case atStart => exact ⟨l.length, _, _, _, _, _, _, Nat.le_refl _, rfl, Lib.hid (by rw [List.drop_length]; rfl), Lib.hid (by rw [List.drop_length]; rfl), HA9.out, HV9.out, HB9.out, by omega⟩
      case round =>
        obtain ⟨k, tA, tB, adA, adB, cA, cB, hk, rfl, HTA, HTB, hA1, hB1, hbr, hBs⟩ := hrel
        cases k with
        | zero =>
          have eA : tA = tl := by rw [HTA.out, List.drop_zero, HTL.out]
          have eB : tB = tz := by rw [HTB.out, List.drop_zero, HTZ.out]
          subst eA eB
          have hbr6 : Below w6.heap.size w6 wr := by rw [hA]; exact hbr
          have hsA : tA.size ≤ 1000 := by rw [← HTL.out]; have := cons_small l (atomT [91, 93]) rfl; omega
          have hsB : tB.size ≤ 1000 := by rw [← HTZ.out]; have := cons_small l (varT 0) rfl; omega
          have HS1 := Lib.hid (fun W (hb : Below wr.heap.size wr W) => ref_Same 100000 tA tA ad2 adA cap2 cA W (by omega) (by omega) ((HX6.out.on hbr6).on hb) (hA1.tm.toIn.on hb))
          have HS2 := Lib.hid (fun W (hb : Below wr.heap.size wr W) => ref_Same 100000 tB tB ad4 adB cap4 cB W (by omega) (by omega) ((HY6.out.on hbr6).on hb) (hB1.tm.toIn.on hb))
          rw [Tm.same_true rfl] at HS1 HS2
          unfold tmv at HS1 HS2
          have HBW := Lib.hid (HB6.out.trans (hbr6.mono HB6.out.size))
          have HCR := Lib.hid (keptR hbr6 HC6.out)
          have HDR := Lib.hid (keptR hbr6 HD6.out)
          have HAR := Lib.hid hA1.cells
          have HBR := Lib.hid hB1.cells
          obtain ⟨d0, d1, d2, d3, _⟩ := cellsR4 HCR.out
          obtain ⟨x0, x1, x2, x3, _⟩ := cellsR4 HAR.out
          have h0 : ¬ ((0 : Nat) : Int) - 1 ≥ 0 := by omega
          clear hA1 hB1 hbr hbr6
          go_wp2_with fail
          refine (HS1.out _ (Below.refl _ _)).mono ?_; rintro e z1 ⟨rfl, c1⟩
          obtain ⟨f0, f1, f2, f3, _⟩ := cellsR4 (keptR c1 HDR.out)
          obtain ⟨k0, k1, k2, k3, _⟩ := cellsR4 (keptR c1 HBR.out)
          have HC1 := Lib.hid c1
          clear c1
          go_wp2_with fail
          refine (HS2.out _ HC1.out).mono ?_; rintro e z2 ⟨rfl, c2⟩
          have HZ := Lib.hid (HBW.out.trans ((HC1.out.trans (c2.mono HC1.out.size)).mono HBW.out.size))
          clear c2
          go_wp2_with fail
          go_ret
          exact ⟨rfl, HZ.out⟩
        | succ k =>
          have hlt : k < l.length := by omega
          obtain ⟨g, o, rfl, hc⟩ := HIN6.out.cells k hlt
          have hgl := World.block_lt_of_cell? w6 _ hc
          have c0 := (hbr.cell (by show g < A; have : g < w6.heap.size := hgl; omega)).trans hc
          have hk0 : (0 : Int) ≤ (k : Int) := by omega
          have hk1 : (k : Int) < (l.length : Int) := by omega
          have hkk : ((k + 1 : Nat) : Int) - 1 = (k : Int) := by omega
          rw [hkk]
          obtain ⟨d0, d1, d2, d3, e0, e1, e2, e3⟩ := cellsR4 hA1.cells
          obtain ⟨x0, x1, x2, x3, y0, y1, y2, y3⟩ := cellsR4 hB1.cells
          have HA1 := Lib.hid hA1
          have HB1 := Lib.hid hB1
          have HBR := Lib.hid hbr
          have HMA := Lib.hid hA1
          have HMAU := Lib.hid hB1
          have hnn := HIN6.out.wf _ (List.getElem_mem hlt)
          have HDR : Hid ((l.drop k).map intT = intT l[k] :: (l.drop (k + 1)).map intT) := Lib.hid (by rw [List.drop_eq_getElem_cons hlt]; rfl)
          have HSCA : Hid (∀ W, Below A w6 W → W.cell? ⟨g, o + k, none⟩ = some (.int .i64 l[k])) := Lib.hid (fun W hb => (hb.cell (by show g < A; have : g < w6.heap.size := hgl; omega)).trans hc)
          have HSCwr : Hid (∀ W, Below wr.heap.size wr W → W.cell? ⟨g, o + k, none⟩ = some (.int .i64 l[k])) := Lib.hid (fun W hb => HSCA.out W (HBR.out.trans (hb.mono (by omega))))
          have hgA : g < A := by have : g < w6.heap.size := hgl; omega
          generalize l[k] = n at *
          have hkz : k = 0 ∨ ¬ k = 0 := Classical.em _
          clear hc hA1 hB1 hbr HA1 HB1 hgl d0 d1 d2 d3 e0 e1 e2 e3 x0 x1 x2 x3 y0 y1 y2 y3
          rcases hkz with rfl | hkz
          · rw [Nat.add_zero] at c0 HSCA HSCwr
            go_wp2_with fail
            refine wp_region_held_drew (S := (fun W => W.cell? ⟨g, o, none⟩ = some (.int .i64 n))) (by kernel_rfl) (HSCwr.out _ (Below.refl _ _).drew) (fun hHeld1 => ?_)
            refine wpAnyH_take (i := 0) (oi := _) (v := ?v2) rfl (by kernel_rfl) (by kernel_rfl) (by kernel_rfl) (fun _ _ _ h => h) (Or.inl ⟨by rfl, ?y2⟩) (by assumption) ?r2
            case y2 => (intro w hSw; (try dsimp only at hSw); go_simp; try with_reducible rfl)
            try simp only [Act.put]
            try simp only [List.setIfInBounds_toArray]
            try simp only [List.set_cons_zero]
            try simp only [List.set_cons_succ]
            try simp only [List.set_cons_zero]
            refine wpAnyH_take (i := 1) (oi := _) (v := ?v3) rfl (by kernel_rfl) (by kernel_rfl) (by kernel_rfl) (fun _ _ _ h => h) (Or.inl ⟨by rfl, ?y3⟩) (by assumption) ?r3
            case y3 => (intro w hSw; (try dsimp only at hSw); go_simp; try with_reducible rfl)
            try simp only [Act.put]
            try simp only [List.setIfInBounds_toArray]
            try simp only [List.set_cons_zero]
            try simp only [List.set_cons_succ]
            try simp only [List.set_cons_zero]
            refine wpAnyH_take (i := 2) (oi := _) (v := ?v4) rfl (by kernel_rfl) (by kernel_rfl) (by kernel_rfl) (fun _ _ _ h => h) (Or.inl ⟨by rfl, ?y4⟩) (by assumption) ?r4
            case y4 => (intro w hSw; (try dsimp only at hSw); go_simp; try with_reducible rfl)
            try simp only [Act.put]
            try simp only [List.setIfInBounds_toArray]
            try simp only [List.set_cons_zero]
            try simp only [List.set_cons_succ]
            try simp only [List.set_cons_zero]
            refine wpAnyH_take (i := 3) (oi := _) (v := ?v5) rfl (by kernel_rfl) (by kernel_rfl) (by kernel_rfl) (fun _ _ _ h => h) (Or.inl ⟨by rfl, ?y5⟩) (by assumption) ?r5
            case y5 => (intro w hSw; (try dsimp only at hSw); go_simp; try with_reducible rfl)
            try simp only [Act.put]
            try simp only [List.setIfInBounds_toArray]
            try simp only [List.set_cons_zero]
            try simp only [List.set_cons_succ]
            try simp only [List.set_cons_zero]
            refine wpAnyH_ready (rs := [4, 5]) (by kernel_rfl) (by simp) ?_
            refine AllReadyH.cons (o := _) rfl (fun K hK => ?_) (AllReadyH.cons (o := _) rfl (fun K hK => ?_) (AllReadyH.nil))
            · go_simp
              (with_reducible refine (ref_Int1 _ _).mono ?_); rintro e p1 ⟨rfl, cp1⟩
              have HDp1 := Lib.hid ((Below.refl wr.heap.size wr).drew.trans cp1)
              clear cp1
              try go_wp2_with fail
              refine hK.out _ _ (HSCwr.out _ HDp1.out) (fun hHeld6 => ?_)
              clear hK K hHeld1
              try simp only [Act.put]
              try simp only [List.setIfInBounds_toArray]
              try simp only [List.set_cons_zero]
              try simp only [List.set_cons_succ]
              try simp only [List.set_cons_zero]
              refine wpAnyH_ready (rs := [5]) (by kernel_rfl) (by simp) ?_
              refine AllReadyH.cons (o := _) rfl (fun K hK => ?_) (AllReadyH.nil)
              obtain ⟨u0, u1, u2, u3, _⟩ := cellsR4 (keptR HDp1.out HMA.out.cells)
              go_simp
              try go_wp2_with fail
              refine hK.out _ _ (HSCwr.out _ HDp1.out) (fun hHeld7 => ?_)
              clear hK K hHeld6
              try simp only [Act.put]
              try simp only [List.setIfInBounds_toArray]
              try simp only [List.set_cons_zero]
              try simp only [List.set_cons_succ]
              try simp only [List.set_cons_zero]
              refine wpAnyH_ready (rs := [6]) (by kernel_rfl) (by simp) ?_
              refine AllReadyH.cons (o := _) rfl (fun K hK => ?_) (AllReadyH.nil)
              go_simp
              try go_wp2_with fail
              refine hK.out _ _ (HSCwr.out _ (HDp1.out.alloc HDp1.out.size _)) (fun hHeld8 => ?_)
              clear hK K hHeld7
              try simp only [Act.put]
              try simp only [List.setIfInBounds_toArray]
              try simp only [List.set_cons_zero]
              try simp only [List.set_cons_succ]
              try simp only [List.set_cons_zero]
              refine wpAnyH_ready (rs := [7]) (by kernel_rfl) (by simp) ?_
              refine AllReadyH.cons (o := _) rfl (fun K hK => ?_) (AllReadyH.nil)
              go_simp
              (with_reducible refine (ref_Comp1 _ _ _ _ _).mono ?_); rintro e p2 ⟨rfl, cp2⟩
              have HSTp := Lib.hid (fun (s : ByteArray) (hs : s = ⟨#[46]⟩) => LMem.step hs hnn HMA.out HMAU.out (by omega) HDp1.out cp2)
              have HDp2 := Lib.hid (HDp1.out.trans ((below_past cp2).mono HDp1.out.size))
              obtain ⟨d0, d1, d2, d3, e0, e1, e2, e3⟩ := cellsR4 (keptR HDp2.out HMA.out.cells)
              clear cp2
              try go_wp2_with fail
              refine hK.out _ _ (HSCwr.out _ HDp2.out) (fun hHeld9 => ?_)
              clear hK K hHeld8
              try simp only [Act.put]
              try simp only [List.setIfInBounds_toArray]
              try simp only [List.set_cons_zero]
              try simp only [List.set_cons_succ]
              try simp only [List.set_cons_zero]
              refine wpAnyH_ready (rs := [8]) (by kernel_rfl) (by simp) ?_
              refine AllReadyH.cons (o := _) rfl (fun K hK => ?_) (AllReadyH.nil)
              go_simp
              try go_wp2_with fail
              refine hK.out _ _ ((cell_set4 (show g ≠ A by omega) _ _ _ _).trans (HSCwr.out _ HDp2.out)) (fun hHeld10 => ?_)
              clear hK K hHeld9
              try simp only [Act.put]
              try simp only [List.setIfInBounds_toArray]
              try simp only [List.set_cons_zero]
              try simp only [List.set_cons_succ]
              try simp only [List.set_cons_zero]
              refine wpAnyH_done (by kernel_rfl) ?_ _
              go_wp2_with fail
              obtain ⟨m1, m2, m3, m4⟩ := HSTp.out ⟨#[46]⟩ rfl
              generalize ((((p2.setCell ⟨A, 0, none⟩ (.int .i64 4)).setCell ⟨A, 1, none⟩ (.string ⟨#[46]⟩)).setCell ⟨A, 2, none⟩ (.int .i64 0)).setCell ⟨A, 3, none⟩ (.slice (some ⟨p1.heap.size, 0, none⟩) 2 2)) = wm at *
              have HMB := Lib.hid m1
              have HMBU := Lib.hid m2
              have HBM := Lib.hid (HBR.out.trans (m3 A (Nat.le_refl _)))
              have HSCwm : Hid (∀ W, Below wm.heap.size wm W → W.cell? ⟨g, o, none⟩ = some (.int .i64 n)) := Lib.hid (fun W hb => HSCA.out W (HBM.out.trans (hb.mono (by have := m4; omega))))
              have hms := m4
              clear m1 m2 m3 m4 HSTp d0 d1 d2 d3 e0 e1 e2 e3 u0 u1 u2 u3 HSCwr
              refine wp_region_held_drew (S := (fun W => W.cell? ⟨g, o, none⟩ = some (.int .i64 n))) (by kernel_rfl) (HSCwm.out _ (Below.refl _ _).drew) (fun hHeld11 => ?_)
              refine wpAnyH_take (i := 0) (oi := _) (v := ?v12) rfl (by kernel_rfl) (by kernel_rfl) (by kernel_rfl) (fun _ _ _ h => h) (Or.inl ⟨by rfl, ?y12⟩) (by assumption) ?r12
              case y12 => (intro w hSw; (try dsimp only at hSw); go_simp; try with_reducible rfl)
              try simp only [Act.put]
              try simp only [List.setIfInBounds_toArray]
              try simp only [List.set_cons_zero]
              try simp only [List.set_cons_succ]
              try simp only [List.set_cons_zero]
              refine wpAnyH_take (i := 1) (oi := _) (v := ?v13) rfl (by kernel_rfl) (by kernel_rfl) (by kernel_rfl) (fun _ _ _ h => h) (Or.inl ⟨by rfl, ?y13⟩) (by assumption) ?r13
              case y13 => (intro w hSw; (try dsimp only at hSw); go_simp; try with_reducible rfl)
              try simp only [Act.put]
              try simp only [List.setIfInBounds_toArray]
              try simp only [List.set_cons_zero]
              try simp only [List.set_cons_succ]
              try simp only [List.set_cons_zero]
              refine wpAnyH_take (i := 2) (oi := _) (v := ?v14) rfl (by kernel_rfl) (by kernel_rfl) (by kernel_rfl) (fun _ _ _ h => h) (Or.inl ⟨by rfl, ?y14⟩) (by assumption) ?r14
              case y14 => (intro w hSw; (try dsimp only at hSw); go_simp; try with_reducible rfl)
              try simp only [Act.put]
              try simp only [List.setIfInBounds_toArray]
              try simp only [List.set_cons_zero]
              try simp only [List.set_cons_succ]
              try simp only [List.set_cons_zero]
              refine wpAnyH_take (i := 3) (oi := _) (v := ?v15) rfl (by kernel_rfl) (by kernel_rfl) (by kernel_rfl) (fun _ _ _ h => h) (Or.inl ⟨by rfl, ?y15⟩) (by assumption) ?r15
              case y15 => (intro w hSw; (try dsimp only at hSw); go_simp; try with_reducible rfl)
              try simp only [Act.put]
              try simp only [List.setIfInBounds_toArray]
              try simp only [List.set_cons_zero]
              try simp only [List.set_cons_succ]
              try simp only [List.set_cons_zero]
              refine wpAnyH_ready (rs := [4, 5]) (by kernel_rfl) (by simp) ?_
              refine AllReadyH.cons (o := _) rfl (fun K hK => ?_) (AllReadyH.cons (o := _) rfl (fun K hK => ?_) (AllReadyH.nil))
              · go_simp
                (with_reducible refine (ref_Int1 _ _).mono ?_); rintro e q1 ⟨rfl, cq1⟩
                have HDq1 := Lib.hid ((Below.refl wm.heap.size wm).drew.trans cq1)
                clear cq1
                try go_wp2_with fail
                refine hK.out _ _ (HSCwm.out _ HDq1.out) (fun hHeld16 => ?_)
                clear hK K hHeld11
                try simp only [Act.put]
                try simp only [List.setIfInBounds_toArray]
                try simp only [List.set_cons_zero]
                try simp only [List.set_cons_succ]
                try simp only [List.set_cons_zero]
                refine wpAnyH_ready (rs := [5]) (by kernel_rfl) (by simp) ?_
                refine AllReadyH.cons (o := _) rfl (fun K hK => ?_) (AllReadyH.nil)
                obtain ⟨u0, u1, u2, u3, _⟩ := cellsR4 (keptR HDq1.out HMB.out.cells)
                go_simp
                try go_wp2_with fail
                refine hK.out _ _ (HSCwm.out _ HDq1.out) (fun hHeld17 => ?_)
                clear hK K hHeld16
                try simp only [Act.put]
                try simp only [List.setIfInBounds_toArray]
                try simp only [List.set_cons_zero]
                try simp only [List.set_cons_succ]
                try simp only [List.set_cons_zero]
                refine wpAnyH_ready (rs := [6]) (by kernel_rfl) (by simp) ?_
                refine AllReadyH.cons (o := _) rfl (fun K hK => ?_) (AllReadyH.nil)
                go_simp
                try go_wp2_with fail
                refine hK.out _ _ (HSCwm.out _ (HDq1.out.alloc HDq1.out.size _)) (fun hHeld18 => ?_)
                clear hK K hHeld17
                try simp only [Act.put]
                try simp only [List.setIfInBounds_toArray]
                try simp only [List.set_cons_zero]
                try simp only [List.set_cons_succ]
                try simp only [List.set_cons_zero]
                refine wpAnyH_ready (rs := [7]) (by kernel_rfl) (by simp) ?_
                refine AllReadyH.cons (o := _) rfl (fun K hK => ?_) (AllReadyH.nil)
                go_simp
                (with_reducible refine (ref_Comp1 _ _ _ _ _).mono ?_); rintro e q2 ⟨rfl, cq2⟩
                have HSTq := Lib.hid (fun (s : ByteArray) (hs : s = ⟨#[46]⟩) => LMem.step hs hnn HMB.out HMBU.out (by omega) HDq1.out cq2)
                have HDq2 := Lib.hid (HDq1.out.trans ((below_past cq2).mono HDq1.out.size))
                obtain ⟨d0, d1, d2, d3, e0, e1, e2, e3⟩ := cellsR4 (keptR HDq2.out HMB.out.cells)
                clear cq2
                try go_wp2_with fail
                refine hK.out _ _ (HSCwm.out _ HDq2.out) (fun hHeld19 => ?_)
                clear hK K hHeld18
                try simp only [Act.put]
                try simp only [List.setIfInBounds_toArray]
                try simp only [List.set_cons_zero]
                try simp only [List.set_cons_succ]
                try simp only [List.set_cons_zero]
                refine wpAnyH_ready (rs := [8]) (by kernel_rfl) (by simp) ?_
                refine AllReadyH.cons (o := _) rfl (fun K hK => ?_) (AllReadyH.nil)
                go_simp
                try go_wp2_with fail
                refine hK.out _ _ ((cell_set4 (show g ≠ B by omega) _ _ _ _).trans (HSCwm.out _ HDq2.out)) (fun hHeld20 => ?_)
                clear hK K hHeld19
                try simp only [Act.put]
                try simp only [List.setIfInBounds_toArray]
                try simp only [List.set_cons_zero]
                try simp only [List.set_cons_succ]
                try simp only [List.set_cons_zero]
                refine wpAnyH_done (by kernel_rfl) ?_ _
                go_wp2_with fail
                obtain ⟨l1, l2, l3, l4⟩ := HSTq.out ⟨#[46]⟩ rfl
                go_roundw
                case rel => exact ⟨0, _, _, _, _, _, _, by omega, by go_num, Lib.hid (by rw [HDR.out, HTA.out]; rfl), Lib.hid (by rw [HDR.out, HTB.out]; rfl), l1, l2, HBM.out.trans (l3 A (by omega)), by omega⟩
                case measure => simp [intOf]; try omega
              · obtain ⟨u0, u1, u2, u3, _⟩ := cellsR4 (keptR (Below.refl wm.heap.size wm).drew HMB.out.cells)
                go_simp
                try go_wp2_with fail
                refine hK.out _ _ (HSCwm.out _ (Below.refl wm.heap.size wm).drew) (fun hHeld21 => ?_)
                clear hK K hHeld11
                try simp only [Act.put]
                try simp only [List.setIfInBounds_toArray]
                try simp only [List.set_cons_zero]
                try simp only [List.set_cons_succ]
                try simp only [List.set_cons_zero]
                refine wpAnyH_ready (rs := [4]) (by kernel_rfl) (by simp) ?_
                refine AllReadyH.cons (o := _) rfl (fun K hK => ?_) (AllReadyH.nil)
                go_simp
                (with_reducible refine (ref_Int1 _ _).mono ?_); rintro e q1 ⟨rfl, cq1⟩
                have HDq1 := Lib.hid ((Below.refl wm.heap.size wm).drew.trans cq1)
                clear cq1
                try go_wp2_with fail
                refine hK.out _ _ (HSCwm.out _ HDq1.out) (fun hHeld22 => ?_)
                clear hK K hHeld21
                try simp only [Act.put]
                try simp only [List.setIfInBounds_toArray]
                try simp only [List.set_cons_zero]
                try simp only [List.set_cons_succ]
                try simp only [List.set_cons_zero]
                refine wpAnyH_ready (rs := [6]) (by kernel_rfl) (by simp) ?_
                refine AllReadyH.cons (o := _) rfl (fun K hK => ?_) (AllReadyH.nil)
                go_simp
                try go_wp2_with fail
                refine hK.out _ _ (HSCwm.out _ (HDq1.out.alloc HDq1.out.size _)) (fun hHeld23 => ?_)
                clear hK K hHeld22
                try simp only [Act.put]
                try simp only [List.setIfInBounds_toArray]
                try simp only [List.set_cons_zero]
                try simp only [List.set_cons_succ]
                try simp only [List.set_cons_zero]
                refine wpAnyH_ready (rs := [7]) (by kernel_rfl) (by simp) ?_
                refine AllReadyH.cons (o := _) rfl (fun K hK => ?_) (AllReadyH.nil)
                go_simp
                (with_reducible refine (ref_Comp1 _ _ _ _ _).mono ?_); rintro e q2 ⟨rfl, cq2⟩
                have HSTq := Lib.hid (fun (s : ByteArray) (hs : s = ⟨#[46]⟩) => LMem.step hs hnn HMB.out HMBU.out (by omega) HDq1.out cq2)
                have HDq2 := Lib.hid (HDq1.out.trans ((below_past cq2).mono HDq1.out.size))
                obtain ⟨d0, d1, d2, d3, e0, e1, e2, e3⟩ := cellsR4 (keptR HDq2.out HMB.out.cells)
                clear cq2
                try go_wp2_with fail
                refine hK.out _ _ (HSCwm.out _ HDq2.out) (fun hHeld24 => ?_)
                clear hK K hHeld23
                try simp only [Act.put]
                try simp only [List.setIfInBounds_toArray]
                try simp only [List.set_cons_zero]
                try simp only [List.set_cons_succ]
                try simp only [List.set_cons_zero]
                refine wpAnyH_ready (rs := [8]) (by kernel_rfl) (by simp) ?_
                refine AllReadyH.cons (o := _) rfl (fun K hK => ?_) (AllReadyH.nil)
                go_simp
                try go_wp2_with fail
                refine hK.out _ _ ((cell_set4 (show g ≠ B by omega) _ _ _ _).trans (HSCwm.out _ HDq2.out)) (fun hHeld25 => ?_)
                clear hK K hHeld24
                try simp only [Act.put]
                try simp only [List.setIfInBounds_toArray]
                try simp only [List.set_cons_zero]
                try simp only [List.set_cons_succ]
                try simp only [List.set_cons_zero]
                refine wpAnyH_done (by kernel_rfl) ?_ _
                go_wp2_with fail
                obtain ⟨l1, l2, l3, l4⟩ := HSTq.out ⟨#[46]⟩ rfl
                go_roundw
                case rel => exact ⟨0, _, _, _, _, _, _, by omega, by go_num, Lib.hid (by rw [HDR.out, HTA.out]; rfl), Lib.hid (by rw [HDR.out, HTB.out]; rfl), l1, l2, HBM.out.trans (l3 A (by omega)), by omega⟩
                case measure => simp [intOf]; try omega
            · obtain ⟨u0, u1, u2, u3, _⟩ := cellsR4 (keptR (Below.refl wr.heap.size wr).drew HMA.out.cells)
              go_simp
              try go_wp2_with fail
              refine hK.out _ _ (HSCwr.out _ (Below.refl wr.heap.size wr).drew) (fun hHeld26 => ?_)
              clear hK K hHeld1
              try simp only [Act.put]
              try simp only [List.setIfInBounds_toArray]
              try simp only [List.set_cons_zero]
              try simp only [List.set_cons_succ]
              try simp only [List.set_cons_zero]
              refine wpAnyH_ready (rs := [4]) (by kernel_rfl) (by simp) ?_
              refine AllReadyH.cons (o := _) rfl (fun K hK => ?_) (AllReadyH.nil)
              go_simp
              (with_reducible refine (ref_Int1 _ _).mono ?_); rintro e p1 ⟨rfl, cp1⟩
              have HDp1 := Lib.hid ((Below.refl wr.heap.size wr).drew.trans cp1)
              clear cp1
              try go_wp2_with fail
              refine hK.out _ _ (HSCwr.out _ HDp1.out) (fun hHeld27 => ?_)
              clear hK K hHeld26
              try simp only [Act.put]
              try simp only [List.setIfInBounds_toArray]
              try simp only [List.set_cons_zero]
              try simp only [List.set_cons_succ]
              try simp only [List.set_cons_zero]
              refine wpAnyH_ready (rs := [6]) (by kernel_rfl) (by simp) ?_
              refine AllReadyH.cons (o := _) rfl (fun K hK => ?_) (AllReadyH.nil)
              go_simp
              try go_wp2_with fail
              refine hK.out _ _ (HSCwr.out _ (HDp1.out.alloc HDp1.out.size _)) (fun hHeld28 => ?_)
              clear hK K hHeld27
              try simp only [Act.put]
              try simp only [List.setIfInBounds_toArray]
              try simp only [List.set_cons_zero]
              try simp only [List.set_cons_succ]
              try simp only [List.set_cons_zero]
              refine wpAnyH_ready (rs := [7]) (by kernel_rfl) (by simp) ?_
              refine AllReadyH.cons (o := _) rfl (fun K hK => ?_) (AllReadyH.nil)
              go_simp
              (with_reducible refine (ref_Comp1 _ _ _ _ _).mono ?_); rintro e p2 ⟨rfl, cp2⟩
              have HSTp := Lib.hid (fun (s : ByteArray) (hs : s = ⟨#[46]⟩) => LMem.step hs hnn HMA.out HMAU.out (by omega) HDp1.out cp2)
              have HDp2 := Lib.hid (HDp1.out.trans ((below_past cp2).mono HDp1.out.size))
              obtain ⟨d0, d1, d2, d3, e0, e1, e2, e3⟩ := cellsR4 (keptR HDp2.out HMA.out.cells)
              clear cp2
              try go_wp2_with fail
              refine hK.out _ _ (HSCwr.out _ HDp2.out) (fun hHeld29 => ?_)
              clear hK K hHeld28
              try simp only [Act.put]
              try simp only [List.setIfInBounds_toArray]
              try simp only [List.set_cons_zero]
              try simp only [List.set_cons_succ]
              try simp only [List.set_cons_zero]
              refine wpAnyH_ready (rs := [8]) (by kernel_rfl) (by simp) ?_
              refine AllReadyH.cons (o := _) rfl (fun K hK => ?_) (AllReadyH.nil)
              go_simp
              try go_wp2_with fail
              refine hK.out _ _ ((cell_set4 (show g ≠ A by omega) _ _ _ _).trans (HSCwr.out _ HDp2.out)) (fun hHeld30 => ?_)
              clear hK K hHeld29
              try simp only [Act.put]
              try simp only [List.setIfInBounds_toArray]
              try simp only [List.set_cons_zero]
              try simp only [List.set_cons_succ]
              try simp only [List.set_cons_zero]
              refine wpAnyH_done (by kernel_rfl) ?_ _
              go_wp2_with fail
              obtain ⟨m1, m2, m3, m4⟩ := HSTp.out ⟨#[46]⟩ rfl
              generalize ((((p2.setCell ⟨A, 0, none⟩ (.int .i64 4)).setCell ⟨A, 1, none⟩ (.string ⟨#[46]⟩)).setCell ⟨A, 2, none⟩ (.int .i64 0)).setCell ⟨A, 3, none⟩ (.slice (some ⟨p1.heap.size, 0, none⟩) 2 2)) = wm at *
              have HMB := Lib.hid m1
              have HMBU := Lib.hid m2
              have HBM := Lib.hid (HBR.out.trans (m3 A (Nat.le_refl _)))
              have HSCwm : Hid (∀ W, Below wm.heap.size wm W → W.cell? ⟨g, o, none⟩ = some (.int .i64 n)) := Lib.hid (fun W hb => HSCA.out W (HBM.out.trans (hb.mono (by have := m4; omega))))
              have hms := m4
              clear m1 m2 m3 m4 HSTp d0 d1 d2 d3 e0 e1 e2 e3 u0 u1 u2 u3 HSCwr
              refine wp_region_held_drew (S := (fun W => W.cell? ⟨g, o, none⟩ = some (.int .i64 n))) (by kernel_rfl) (HSCwm.out _ (Below.refl _ _).drew) (fun hHeld31 => ?_)
              refine wpAnyH_take (i := 0) (oi := _) (v := ?v32) rfl (by kernel_rfl) (by kernel_rfl) (by kernel_rfl) (fun _ _ _ h => h) (Or.inl ⟨by rfl, ?y32⟩) (by assumption) ?r32
              case y32 => (intro w hSw; (try dsimp only at hSw); go_simp; try with_reducible rfl)
              try simp only [Act.put]
              try simp only [List.setIfInBounds_toArray]
              try simp only [List.set_cons_zero]
              try simp only [List.set_cons_succ]
              try simp only [List.set_cons_zero]
              refine wpAnyH_take (i := 1) (oi := _) (v := ?v33) rfl (by kernel_rfl) (by kernel_rfl) (by kernel_rfl) (fun _ _ _ h => h) (Or.inl ⟨by rfl, ?y33⟩) (by assumption) ?r33
              case y33 => (intro w hSw; (try dsimp only at hSw); go_simp; try with_reducible rfl)
              try simp only [Act.put]
              try simp only [List.setIfInBounds_toArray]
              try simp only [List.set_cons_zero]
              try simp only [List.set_cons_succ]
              try simp only [List.set_cons_zero]
              refine wpAnyH_take (i := 2) (oi := _) (v := ?v34) rfl (by kernel_rfl) (by kernel_rfl) (by kernel_rfl) (fun _ _ _ h => h) (Or.inl ⟨by rfl, ?y34⟩) (by assumption) ?r34
              case y34 => (intro w hSw; (try dsimp only at hSw); go_simp; try with_reducible rfl)
              try simp only [Act.put]
              try simp only [List.setIfInBounds_toArray]
              try simp only [List.set_cons_zero]
              try simp only [List.set_cons_succ]
              try simp only [List.set_cons_zero]
              refine wpAnyH_take (i := 3) (oi := _) (v := ?v35) rfl (by kernel_rfl) (by kernel_rfl) (by kernel_rfl) (fun _ _ _ h => h) (Or.inl ⟨by rfl, ?y35⟩) (by assumption) ?r35
              case y35 => (intro w hSw; (try dsimp only at hSw); go_simp; try with_reducible rfl)
              try simp only [Act.put]
              try simp only [List.setIfInBounds_toArray]
              try simp only [List.set_cons_zero]
              try simp only [List.set_cons_succ]
              try simp only [List.set_cons_zero]
              refine wpAnyH_ready (rs := [4, 5]) (by kernel_rfl) (by simp) ?_
              refine AllReadyH.cons (o := _) rfl (fun K hK => ?_) (AllReadyH.cons (o := _) rfl (fun K hK => ?_) (AllReadyH.nil))
              · go_simp
                (with_reducible refine (ref_Int1 _ _).mono ?_); rintro e q1 ⟨rfl, cq1⟩
                have HDq1 := Lib.hid ((Below.refl wm.heap.size wm).drew.trans cq1)
                clear cq1
                try go_wp2_with fail
                refine hK.out _ _ (HSCwm.out _ HDq1.out) (fun hHeld36 => ?_)
                clear hK K hHeld31
                try simp only [Act.put]
                try simp only [List.setIfInBounds_toArray]
                try simp only [List.set_cons_zero]
                try simp only [List.set_cons_succ]
                try simp only [List.set_cons_zero]
                refine wpAnyH_ready (rs := [5]) (by kernel_rfl) (by simp) ?_
                refine AllReadyH.cons (o := _) rfl (fun K hK => ?_) (AllReadyH.nil)
                obtain ⟨u0, u1, u2, u3, _⟩ := cellsR4 (keptR HDq1.out HMB.out.cells)
                go_simp
                try go_wp2_with fail
                refine hK.out _ _ (HSCwm.out _ HDq1.out) (fun hHeld37 => ?_)
                clear hK K hHeld36
                try simp only [Act.put]
                try simp only [List.setIfInBounds_toArray]
                try simp only [List.set_cons_zero]
                try simp only [List.set_cons_succ]
                try simp only [List.set_cons_zero]
                refine wpAnyH_ready (rs := [6]) (by kernel_rfl) (by simp) ?_
                refine AllReadyH.cons (o := _) rfl (fun K hK => ?_) (AllReadyH.nil)
                go_simp
                try go_wp2_with fail
                refine hK.out _ _ (HSCwm.out _ (HDq1.out.alloc HDq1.out.size _)) (fun hHeld38 => ?_)
                clear hK K hHeld37
                try simp only [Act.put]
                try simp only [List.setIfInBounds_toArray]
                try simp only [List.set_cons_zero]
                try simp only [List.set_cons_succ]
                try simp only [List.set_cons_zero]
                refine wpAnyH_ready (rs := [7]) (by kernel_rfl) (by simp) ?_
                refine AllReadyH.cons (o := _) rfl (fun K hK => ?_) (AllReadyH.nil)
                go_simp
                (with_reducible refine (ref_Comp1 _ _ _ _ _).mono ?_); rintro e q2 ⟨rfl, cq2⟩
                have HSTq := Lib.hid (fun (s : ByteArray) (hs : s = ⟨#[46]⟩) => LMem.step hs hnn HMB.out HMBU.out (by omega) HDq1.out cq2)
                have HDq2 := Lib.hid (HDq1.out.trans ((below_past cq2).mono HDq1.out.size))
                obtain ⟨d0, d1, d2, d3, e0, e1, e2, e3⟩ := cellsR4 (keptR HDq2.out HMB.out.cells)
                clear cq2
                try go_wp2_with fail
                refine hK.out _ _ (HSCwm.out _ HDq2.out) (fun hHeld39 => ?_)
                clear hK K hHeld38
                try simp only [Act.put]
                try simp only [List.setIfInBounds_toArray]
                try simp only [List.set_cons_zero]
                try simp only [List.set_cons_succ]
                try simp only [List.set_cons_zero]
                refine wpAnyH_ready (rs := [8]) (by kernel_rfl) (by simp) ?_
                refine AllReadyH.cons (o := _) rfl (fun K hK => ?_) (AllReadyH.nil)
                go_simp
                try go_wp2_with fail
                refine hK.out _ _ ((cell_set4 (show g ≠ B by omega) _ _ _ _).trans (HSCwm.out _ HDq2.out)) (fun hHeld40 => ?_)
                clear hK K hHeld39
                try simp only [Act.put]
                try simp only [List.setIfInBounds_toArray]
                try simp only [List.set_cons_zero]
                try simp only [List.set_cons_succ]
                try simp only [List.set_cons_zero]
                refine wpAnyH_done (by kernel_rfl) ?_ _
                go_wp2_with fail
                obtain ⟨l1, l2, l3, l4⟩ := HSTq.out ⟨#[46]⟩ rfl
                go_roundw
                case rel => exact ⟨0, _, _, _, _, _, _, by omega, by go_num, Lib.hid (by rw [HDR.out, HTA.out]; rfl), Lib.hid (by rw [HDR.out, HTB.out]; rfl), l1, l2, HBM.out.trans (l3 A (by omega)), by omega⟩
                case measure => simp [intOf]; try omega
              · obtain ⟨u0, u1, u2, u3, _⟩ := cellsR4 (keptR (Below.refl wm.heap.size wm).drew HMB.out.cells)
                go_simp
                try go_wp2_with fail
                refine hK.out _ _ (HSCwm.out _ (Below.refl wm.heap.size wm).drew) (fun hHeld41 => ?_)
                clear hK K hHeld31
                try simp only [Act.put]
                try simp only [List.setIfInBounds_toArray]
                try simp only [List.set_cons_zero]
                try simp only [List.set_cons_succ]
                try simp only [List.set_cons_zero]
                refine wpAnyH_ready (rs := [4]) (by kernel_rfl) (by simp) ?_
                refine AllReadyH.cons (o := _) rfl (fun K hK => ?_) (AllReadyH.nil)
                go_simp
                (with_reducible refine (ref_Int1 _ _).mono ?_); rintro e q1 ⟨rfl, cq1⟩
                have HDq1 := Lib.hid ((Below.refl wm.heap.size wm).drew.trans cq1)
                clear cq1
                try go_wp2_with fail
                refine hK.out _ _ (HSCwm.out _ HDq1.out) (fun hHeld42 => ?_)
                clear hK K hHeld41
                try simp only [Act.put]
                try simp only [List.setIfInBounds_toArray]
                try simp only [List.set_cons_zero]
                try simp only [List.set_cons_succ]
                try simp only [List.set_cons_zero]
                refine wpAnyH_ready (rs := [6]) (by kernel_rfl) (by simp) ?_
                refine AllReadyH.cons (o := _) rfl (fun K hK => ?_) (AllReadyH.nil)
                go_simp
                try go_wp2_with fail
                refine hK.out _ _ (HSCwm.out _ (HDq1.out.alloc HDq1.out.size _)) (fun hHeld43 => ?_)
                clear hK K hHeld42
                try simp only [Act.put]
                try simp only [List.setIfInBounds_toArray]
                try simp only [List.set_cons_zero]
                try simp only [List.set_cons_succ]
                try simp only [List.set_cons_zero]
                refine wpAnyH_ready (rs := [7]) (by kernel_rfl) (by simp) ?_
                refine AllReadyH.cons (o := _) rfl (fun K hK => ?_) (AllReadyH.nil)
                go_simp
                (with_reducible refine (ref_Comp1 _ _ _ _ _).mono ?_); rintro e q2 ⟨rfl, cq2⟩
                have HSTq := Lib.hid (fun (s : ByteArray) (hs : s = ⟨#[46]⟩) => LMem.step hs hnn HMB.out HMBU.out (by omega) HDq1.out cq2)
                have HDq2 := Lib.hid (HDq1.out.trans ((below_past cq2).mono HDq1.out.size))
                obtain ⟨d0, d1, d2, d3, e0, e1, e2, e3⟩ := cellsR4 (keptR HDq2.out HMB.out.cells)
                clear cq2
                try go_wp2_with fail
                refine hK.out _ _ (HSCwm.out _ HDq2.out) (fun hHeld44 => ?_)
                clear hK K hHeld43
                try simp only [Act.put]
                try simp only [List.setIfInBounds_toArray]
                try simp only [List.set_cons_zero]
                try simp only [List.set_cons_succ]
                try simp only [List.set_cons_zero]
                refine wpAnyH_ready (rs := [8]) (by kernel_rfl) (by simp) ?_
                refine AllReadyH.cons (o := _) rfl (fun K hK => ?_) (AllReadyH.nil)
                go_simp
                try go_wp2_with fail
                refine hK.out _ _ ((cell_set4 (show g ≠ B by omega) _ _ _ _).trans (HSCwm.out _ HDq2.out)) (fun hHeld45 => ?_)
                clear hK K hHeld44
                try simp only [Act.put]
                try simp only [List.setIfInBounds_toArray]
                try simp only [List.set_cons_zero]
                try simp only [List.set_cons_succ]
                try simp only [List.set_cons_zero]
                refine wpAnyH_done (by kernel_rfl) ?_ _
                go_wp2_with fail
                obtain ⟨l1, l2, l3, l4⟩ := HSTq.out ⟨#[46]⟩ rfl
                go_roundw
                case rel => exact ⟨0, _, _, _, _, _, _, by omega, by go_num, Lib.hid (by rw [HDR.out, HTA.out]; rfl), Lib.hid (by rw [HDR.out, HTB.out]; rfl), l1, l2, HBM.out.trans (l3 A (by omega)), by omega⟩
                case measure => simp [intOf]; try omega
          · go_wp2_with fail
            refine wp_region_held_drew (S := (fun W => W.cell? ⟨g, o + k, none⟩ = some (.int .i64 n))) (by kernel_rfl) (HSCwr.out _ (Below.refl _ _).drew) (fun hHeld46 => ?_)
            refine wpAnyH_take (i := 0) (oi := _) (v := ?v47) rfl (by kernel_rfl) (by kernel_rfl) (by kernel_rfl) (fun _ _ _ h => h) (Or.inl ⟨by rfl, ?y47⟩) (by assumption) ?r47
            case y47 => (intro w hSw; (try dsimp only at hSw); go_simp; try with_reducible rfl)
            try simp only [Act.put]
            try simp only [List.setIfInBounds_toArray]
            try simp only [List.set_cons_zero]
            try simp only [List.set_cons_succ]
            try simp only [List.set_cons_zero]
            refine wpAnyH_take (i := 1) (oi := _) (v := ?v48) rfl (by kernel_rfl) (by kernel_rfl) (by kernel_rfl) (fun _ _ _ h => h) (Or.inl ⟨by rfl, ?y48⟩) (by assumption) ?r48
            case y48 => (intro w hSw; (try dsimp only at hSw); go_simp; try with_reducible rfl)
            try simp only [Act.put]
            try simp only [List.setIfInBounds_toArray]
            try simp only [List.set_cons_zero]
            try simp only [List.set_cons_succ]
            try simp only [List.set_cons_zero]
            refine wpAnyH_take (i := 2) (oi := _) (v := ?v49) rfl (by kernel_rfl) (by kernel_rfl) (by kernel_rfl) (fun _ _ _ h => h) (Or.inl ⟨by rfl, ?y49⟩) (by assumption) ?r49
            case y49 => (intro w hSw; (try dsimp only at hSw); go_simp; try with_reducible rfl)
            try simp only [Act.put]
            try simp only [List.setIfInBounds_toArray]
            try simp only [List.set_cons_zero]
            try simp only [List.set_cons_succ]
            try simp only [List.set_cons_zero]
            refine wpAnyH_take (i := 3) (oi := _) (v := ?v50) rfl (by kernel_rfl) (by kernel_rfl) (by kernel_rfl) (fun _ _ _ h => h) (Or.inl ⟨by rfl, ?y50⟩) (by assumption) ?r50
            case y50 => (intro w hSw; (try dsimp only at hSw); go_simp; try with_reducible rfl)
            try simp only [Act.put]
            try simp only [List.setIfInBounds_toArray]
            try simp only [List.set_cons_zero]
            try simp only [List.set_cons_succ]
            try simp only [List.set_cons_zero]
            refine wpAnyH_ready (rs := [4, 5]) (by kernel_rfl) (by simp) ?_
            refine AllReadyH.cons (o := _) rfl (fun K hK => ?_) (AllReadyH.cons (o := _) rfl (fun K hK => ?_) (AllReadyH.nil))
            · go_simp
              (with_reducible refine (ref_Int1 _ _).mono ?_); rintro e p1 ⟨rfl, cp1⟩
              have HDp1 := Lib.hid ((Below.refl wr.heap.size wr).drew.trans cp1)
              clear cp1
              try go_wp2_with fail
              refine hK.out _ _ (HSCwr.out _ HDp1.out) (fun hHeld51 => ?_)
              clear hK K hHeld46
              try simp only [Act.put]
              try simp only [List.setIfInBounds_toArray]
              try simp only [List.set_cons_zero]
              try simp only [List.set_cons_succ]
              try simp only [List.set_cons_zero]
              refine wpAnyH_ready (rs := [5]) (by kernel_rfl) (by simp) ?_
              refine AllReadyH.cons (o := _) rfl (fun K hK => ?_) (AllReadyH.nil)
              obtain ⟨u0, u1, u2, u3, _⟩ := cellsR4 (keptR HDp1.out HMA.out.cells)
              go_simp
              try go_wp2_with fail
              refine hK.out _ _ (HSCwr.out _ HDp1.out) (fun hHeld52 => ?_)
              clear hK K hHeld51
              try simp only [Act.put]
              try simp only [List.setIfInBounds_toArray]
              try simp only [List.set_cons_zero]
              try simp only [List.set_cons_succ]
              try simp only [List.set_cons_zero]
              refine wpAnyH_ready (rs := [6]) (by kernel_rfl) (by simp) ?_
              refine AllReadyH.cons (o := _) rfl (fun K hK => ?_) (AllReadyH.nil)
              go_simp
              try go_wp2_with fail
              refine hK.out _ _ (HSCwr.out _ (HDp1.out.alloc HDp1.out.size _)) (fun hHeld53 => ?_)
              clear hK K hHeld52
              try simp only [Act.put]
              try simp only [List.setIfInBounds_toArray]
              try simp only [List.set_cons_zero]
              try simp only [List.set_cons_succ]
              try simp only [List.set_cons_zero]
              refine wpAnyH_ready (rs := [7]) (by kernel_rfl) (by simp) ?_
              refine AllReadyH.cons (o := _) rfl (fun K hK => ?_) (AllReadyH.nil)
              go_simp
              (with_reducible refine (ref_Comp1 _ _ _ _ _).mono ?_); rintro e p2 ⟨rfl, cp2⟩
              have HSTp := Lib.hid (fun (s : ByteArray) (hs : s = ⟨#[46]⟩) => LMem.step hs hnn HMA.out HMAU.out (by omega) HDp1.out cp2)
              have HDp2 := Lib.hid (HDp1.out.trans ((below_past cp2).mono HDp1.out.size))
              obtain ⟨d0, d1, d2, d3, e0, e1, e2, e3⟩ := cellsR4 (keptR HDp2.out HMA.out.cells)
              clear cp2
              try go_wp2_with fail
              refine hK.out _ _ (HSCwr.out _ HDp2.out) (fun hHeld54 => ?_)
              clear hK K hHeld53
              try simp only [Act.put]
              try simp only [List.setIfInBounds_toArray]
              try simp only [List.set_cons_zero]
              try simp only [List.set_cons_succ]
              try simp only [List.set_cons_zero]
              refine wpAnyH_ready (rs := [8]) (by kernel_rfl) (by simp) ?_
              refine AllReadyH.cons (o := _) rfl (fun K hK => ?_) (AllReadyH.nil)
              go_simp
              try go_wp2_with fail
              refine hK.out _ _ ((cell_set4 (show g ≠ A by omega) _ _ _ _).trans (HSCwr.out _ HDp2.out)) (fun hHeld55 => ?_)
              clear hK K hHeld54
              try simp only [Act.put]
              try simp only [List.setIfInBounds_toArray]
              try simp only [List.set_cons_zero]
              try simp only [List.set_cons_succ]
              try simp only [List.set_cons_zero]
              refine wpAnyH_done (by kernel_rfl) ?_ _
              go_wp2_with fail
              obtain ⟨m1, m2, m3, m4⟩ := HSTp.out ⟨#[46]⟩ rfl
              generalize ((((p2.setCell ⟨A, 0, none⟩ (.int .i64 4)).setCell ⟨A, 1, none⟩ (.string ⟨#[46]⟩)).setCell ⟨A, 2, none⟩ (.int .i64 0)).setCell ⟨A, 3, none⟩ (.slice (some ⟨p1.heap.size, 0, none⟩) 2 2)) = wm at *
              have HMB := Lib.hid m1
              have HMBU := Lib.hid m2
              have HBM := Lib.hid (HBR.out.trans (m3 A (Nat.le_refl _)))
              have HSCwm : Hid (∀ W, Below wm.heap.size wm W → W.cell? ⟨g, o + k, none⟩ = some (.int .i64 n)) := Lib.hid (fun W hb => HSCA.out W (HBM.out.trans (hb.mono (by have := m4; omega))))
              have hms := m4
              clear m1 m2 m3 m4 HSTp d0 d1 d2 d3 e0 e1 e2 e3 u0 u1 u2 u3 HSCwr
              refine wp_region_held_drew (S := (fun W => W.cell? ⟨g, o + k, none⟩ = some (.int .i64 n))) (by kernel_rfl) (HSCwm.out _ (Below.refl _ _).drew) (fun hHeld56 => ?_)
              refine wpAnyH_take (i := 0) (oi := _) (v := ?v57) rfl (by kernel_rfl) (by kernel_rfl) (by kernel_rfl) (fun _ _ _ h => h) (Or.inl ⟨by rfl, ?y57⟩) (by assumption) ?r57
              case y57 => (intro w hSw; (try dsimp only at hSw); go_simp; try with_reducible rfl)
              try simp only [Act.put]
              try simp only [List.setIfInBounds_toArray]
              try simp only [List.set_cons_zero]
              try simp only [List.set_cons_succ]
              try simp only [List.set_cons_zero]
              refine wpAnyH_take (i := 1) (oi := _) (v := ?v58) rfl (by kernel_rfl) (by kernel_rfl) (by kernel_rfl) (fun _ _ _ h => h) (Or.inl ⟨by rfl, ?y58⟩) (by assumption) ?r58
              case y58 => (intro w hSw; (try dsimp only at hSw); go_simp; try with_reducible rfl)
              try simp only [Act.put]
              try simp only [List.setIfInBounds_toArray]
              try simp only [List.set_cons_zero]
              try simp only [List.set_cons_succ]
              try simp only [List.set_cons_zero]
              refine wpAnyH_take (i := 2) (oi := _) (v := ?v59) rfl (by kernel_rfl) (by kernel_rfl) (by kernel_rfl) (fun _ _ _ h => h) (Or.inl ⟨by rfl, ?y59⟩) (by assumption) ?r59
              case y59 => (intro w hSw; (try dsimp only at hSw); go_simp; try with_reducible rfl)
              try simp only [Act.put]
              try simp only [List.setIfInBounds_toArray]
              try simp only [List.set_cons_zero]
              try simp only [List.set_cons_succ]
              try simp only [List.set_cons_zero]
              refine wpAnyH_take (i := 3) (oi := _) (v := ?v60) rfl (by kernel_rfl) (by kernel_rfl) (by kernel_rfl) (fun _ _ _ h => h) (Or.inl ⟨by rfl, ?y60⟩) (by assumption) ?r60
              case y60 => (intro w hSw; (try dsimp only at hSw); go_simp; try with_reducible rfl)
              try simp only [Act.put]
              try simp only [List.setIfInBounds_toArray]
              try simp only [List.set_cons_zero]
              try simp only [List.set_cons_succ]
              try simp only [List.set_cons_zero]
              refine wpAnyH_ready (rs := [4, 5]) (by kernel_rfl) (by simp) ?_
              refine AllReadyH.cons (o := _) rfl (fun K hK => ?_) (AllReadyH.cons (o := _) rfl (fun K hK => ?_) (AllReadyH.nil))
              · go_simp
                (with_reducible refine (ref_Int1 _ _).mono ?_); rintro e q1 ⟨rfl, cq1⟩
                have HDq1 := Lib.hid ((Below.refl wm.heap.size wm).drew.trans cq1)
                clear cq1
                try go_wp2_with fail
                refine hK.out _ _ (HSCwm.out _ HDq1.out) (fun hHeld61 => ?_)
                clear hK K hHeld56
                try simp only [Act.put]
                try simp only [List.setIfInBounds_toArray]
                try simp only [List.set_cons_zero]
                try simp only [List.set_cons_succ]
                try simp only [List.set_cons_zero]
                refine wpAnyH_ready (rs := [5]) (by kernel_rfl) (by simp) ?_
                refine AllReadyH.cons (o := _) rfl (fun K hK => ?_) (AllReadyH.nil)
                obtain ⟨u0, u1, u2, u3, _⟩ := cellsR4 (keptR HDq1.out HMB.out.cells)
                go_simp
                try go_wp2_with fail
                refine hK.out _ _ (HSCwm.out _ HDq1.out) (fun hHeld62 => ?_)
                clear hK K hHeld61
                try simp only [Act.put]
                try simp only [List.setIfInBounds_toArray]
                try simp only [List.set_cons_zero]
                try simp only [List.set_cons_succ]
                try simp only [List.set_cons_zero]
                refine wpAnyH_ready (rs := [6]) (by kernel_rfl) (by simp) ?_
                refine AllReadyH.cons (o := _) rfl (fun K hK => ?_) (AllReadyH.nil)
                go_simp
                try go_wp2_with fail
                refine hK.out _ _ (HSCwm.out _ (HDq1.out.alloc HDq1.out.size _)) (fun hHeld63 => ?_)
                clear hK K hHeld62
                try simp only [Act.put]
                try simp only [List.setIfInBounds_toArray]
                try simp only [List.set_cons_zero]
                try simp only [List.set_cons_succ]
                try simp only [List.set_cons_zero]
                refine wpAnyH_ready (rs := [7]) (by kernel_rfl) (by simp) ?_
                refine AllReadyH.cons (o := _) rfl (fun K hK => ?_) (AllReadyH.nil)
                go_simp
                (with_reducible refine (ref_Comp1 _ _ _ _ _).mono ?_); rintro e q2 ⟨rfl, cq2⟩
                have HSTq := Lib.hid (fun (s : ByteArray) (hs : s = ⟨#[46]⟩) => LMem.step hs hnn HMB.out HMBU.out (by omega) HDq1.out cq2)
                have HDq2 := Lib.hid (HDq1.out.trans ((below_past cq2).mono HDq1.out.size))
                obtain ⟨d0, d1, d2, d3, e0, e1, e2, e3⟩ := cellsR4 (keptR HDq2.out HMB.out.cells)
                clear cq2
                try go_wp2_with fail
                refine hK.out _ _ (HSCwm.out _ HDq2.out) (fun hHeld64 => ?_)
                clear hK K hHeld63
                try simp only [Act.put]
                try simp only [List.setIfInBounds_toArray]
                try simp only [List.set_cons_zero]
                try simp only [List.set_cons_succ]
                try simp only [List.set_cons_zero]
                refine wpAnyH_ready (rs := [8]) (by kernel_rfl) (by simp) ?_
                refine AllReadyH.cons (o := _) rfl (fun K hK => ?_) (AllReadyH.nil)
                go_simp
                try go_wp2_with fail
                refine hK.out _ _ ((cell_set4 (show g ≠ B by omega) _ _ _ _).trans (HSCwm.out _ HDq2.out)) (fun hHeld65 => ?_)
                clear hK K hHeld64
                try simp only [Act.put]
                try simp only [List.setIfInBounds_toArray]
                try simp only [List.set_cons_zero]
                try simp only [List.set_cons_succ]
                try simp only [List.set_cons_zero]
                refine wpAnyH_done (by kernel_rfl) ?_ _
                go_wp2_with fail
                obtain ⟨l1, l2, l3, l4⟩ := HSTq.out ⟨#[46]⟩ rfl
                go_roundw
                case rel => exact ⟨k, _, _, _, _, _, _, by omega, by go_num, Lib.hid (by rw [HDR.out, HTA.out]; rfl), Lib.hid (by rw [HDR.out, HTB.out]; rfl), l1, l2, HBM.out.trans (l3 A (by omega)), by omega⟩
                case measure => simp [intOf]; try omega
              · obtain ⟨u0, u1, u2, u3, _⟩ := cellsR4 (keptR (Below.refl wm.heap.size wm).drew HMB.out.cells)
                go_simp
                try go_wp2_with fail
                refine hK.out _ _ (HSCwm.out _ (Below.refl wm.heap.size wm).drew) (fun hHeld66 => ?_)
                clear hK K hHeld56
                try simp only [Act.put]
                try simp only [List.setIfInBounds_toArray]
                try simp only [List.set_cons_zero]
                try simp only [List.set_cons_succ]
                try simp only [List.set_cons_zero]
                refine wpAnyH_ready (rs := [4]) (by kernel_rfl) (by simp) ?_
                refine AllReadyH.cons (o := _) rfl (fun K hK => ?_) (AllReadyH.nil)
                go_simp
                (with_reducible refine (ref_Int1 _ _).mono ?_); rintro e q1 ⟨rfl, cq1⟩
                have HDq1 := Lib.hid ((Below.refl wm.heap.size wm).drew.trans cq1)
                clear cq1
                try go_wp2_with fail
                refine hK.out _ _ (HSCwm.out _ HDq1.out) (fun hHeld67 => ?_)
                clear hK K hHeld66
                try simp only [Act.put]
                try simp only [List.setIfInBounds_toArray]
                try simp only [List.set_cons_zero]
                try simp only [List.set_cons_succ]
                try simp only [List.set_cons_zero]
                refine wpAnyH_ready (rs := [6]) (by kernel_rfl) (by simp) ?_
                refine AllReadyH.cons (o := _) rfl (fun K hK => ?_) (AllReadyH.nil)
                go_simp
                try go_wp2_with fail
                refine hK.out _ _ (HSCwm.out _ (HDq1.out.alloc HDq1.out.size _)) (fun hHeld68 => ?_)
                clear hK K hHeld67
                try simp only [Act.put]
                try simp only [List.setIfInBounds_toArray]
                try simp only [List.set_cons_zero]
                try simp only [List.set_cons_succ]
                try simp only [List.set_cons_zero]
                refine wpAnyH_ready (rs := [7]) (by kernel_rfl) (by simp) ?_
                refine AllReadyH.cons (o := _) rfl (fun K hK => ?_) (AllReadyH.nil)
                go_simp
                (with_reducible refine (ref_Comp1 _ _ _ _ _).mono ?_); rintro e q2 ⟨rfl, cq2⟩
                have HSTq := Lib.hid (fun (s : ByteArray) (hs : s = ⟨#[46]⟩) => LMem.step hs hnn HMB.out HMBU.out (by omega) HDq1.out cq2)
                have HDq2 := Lib.hid (HDq1.out.trans ((below_past cq2).mono HDq1.out.size))
                obtain ⟨d0, d1, d2, d3, e0, e1, e2, e3⟩ := cellsR4 (keptR HDq2.out HMB.out.cells)
                clear cq2
                try go_wp2_with fail
                refine hK.out _ _ (HSCwm.out _ HDq2.out) (fun hHeld69 => ?_)
                clear hK K hHeld68
                try simp only [Act.put]
                try simp only [List.setIfInBounds_toArray]
                try simp only [List.set_cons_zero]
                try simp only [List.set_cons_succ]
                try simp only [List.set_cons_zero]
                refine wpAnyH_ready (rs := [8]) (by kernel_rfl) (by simp) ?_
                refine AllReadyH.cons (o := _) rfl (fun K hK => ?_) (AllReadyH.nil)
                go_simp
                try go_wp2_with fail
                refine hK.out _ _ ((cell_set4 (show g ≠ B by omega) _ _ _ _).trans (HSCwm.out _ HDq2.out)) (fun hHeld70 => ?_)
                clear hK K hHeld69
                try simp only [Act.put]
                try simp only [List.setIfInBounds_toArray]
                try simp only [List.set_cons_zero]
                try simp only [List.set_cons_succ]
                try simp only [List.set_cons_zero]
                refine wpAnyH_done (by kernel_rfl) ?_ _
                go_wp2_with fail
                obtain ⟨l1, l2, l3, l4⟩ := HSTq.out ⟨#[46]⟩ rfl
                go_roundw
                case rel => exact ⟨k, _, _, _, _, _, _, by omega, by go_num, Lib.hid (by rw [HDR.out, HTA.out]; rfl), Lib.hid (by rw [HDR.out, HTB.out]; rfl), l1, l2, HBM.out.trans (l3 A (by omega)), by omega⟩
                case measure => simp [intOf]; try omega
            · obtain ⟨u0, u1, u2, u3, _⟩ := cellsR4 (keptR (Below.refl wr.heap.size wr).drew HMA.out.cells)
              go_simp
              try go_wp2_with fail
              refine hK.out _ _ (HSCwr.out _ (Below.refl wr.heap.size wr).drew) (fun hHeld71 => ?_)
              clear hK K hHeld46
              try simp only [Act.put]
              try simp only [List.setIfInBounds_toArray]
              try simp only [List.set_cons_zero]
              try simp only [List.set_cons_succ]
              try simp only [List.set_cons_zero]
              refine wpAnyH_ready (rs := [4]) (by kernel_rfl) (by simp) ?_
              refine AllReadyH.cons (o := _) rfl (fun K hK => ?_) (AllReadyH.nil)
              go_simp
              (with_reducible refine (ref_Int1 _ _).mono ?_); rintro e p1 ⟨rfl, cp1⟩
              have HDp1 := Lib.hid ((Below.refl wr.heap.size wr).drew.trans cp1)
              clear cp1
              try go_wp2_with fail
              refine hK.out _ _ (HSCwr.out _ HDp1.out) (fun hHeld72 => ?_)
              clear hK K hHeld71
              try simp only [Act.put]
              try simp only [List.setIfInBounds_toArray]
              try simp only [List.set_cons_zero]
              try simp only [List.set_cons_succ]
              try simp only [List.set_cons_zero]
              refine wpAnyH_ready (rs := [6]) (by kernel_rfl) (by simp) ?_
              refine AllReadyH.cons (o := _) rfl (fun K hK => ?_) (AllReadyH.nil)
              go_simp
              try go_wp2_with fail
              refine hK.out _ _ (HSCwr.out _ (HDp1.out.alloc HDp1.out.size _)) (fun hHeld73 => ?_)
              clear hK K hHeld72
              try simp only [Act.put]
              try simp only [List.setIfInBounds_toArray]
              try simp only [List.set_cons_zero]
              try simp only [List.set_cons_succ]
              try simp only [List.set_cons_zero]
              refine wpAnyH_ready (rs := [7]) (by kernel_rfl) (by simp) ?_
              refine AllReadyH.cons (o := _) rfl (fun K hK => ?_) (AllReadyH.nil)
              go_simp
              (with_reducible refine (ref_Comp1 _ _ _ _ _).mono ?_); rintro e p2 ⟨rfl, cp2⟩
              have HSTp := Lib.hid (fun (s : ByteArray) (hs : s = ⟨#[46]⟩) => LMem.step hs hnn HMA.out HMAU.out (by omega) HDp1.out cp2)
              have HDp2 := Lib.hid (HDp1.out.trans ((below_past cp2).mono HDp1.out.size))
              obtain ⟨d0, d1, d2, d3, e0, e1, e2, e3⟩ := cellsR4 (keptR HDp2.out HMA.out.cells)
              clear cp2
              try go_wp2_with fail
              refine hK.out _ _ (HSCwr.out _ HDp2.out) (fun hHeld74 => ?_)
              clear hK K hHeld73
              try simp only [Act.put]
              try simp only [List.setIfInBounds_toArray]
              try simp only [List.set_cons_zero]
              try simp only [List.set_cons_succ]
              try simp only [List.set_cons_zero]
              refine wpAnyH_ready (rs := [8]) (by kernel_rfl) (by simp) ?_
              refine AllReadyH.cons (o := _) rfl (fun K hK => ?_) (AllReadyH.nil)
              go_simp
              try go_wp2_with fail
              refine hK.out _ _ ((cell_set4 (show g ≠ A by omega) _ _ _ _).trans (HSCwr.out _ HDp2.out)) (fun hHeld75 => ?_)
              clear hK K hHeld74
              try simp only [Act.put]
              try simp only [List.setIfInBounds_toArray]
              try simp only [List.set_cons_zero]
              try simp only [List.set_cons_succ]
              try simp only [List.set_cons_zero]
              refine wpAnyH_done (by kernel_rfl) ?_ _
              go_wp2_with fail
              obtain ⟨m1, m2, m3, m4⟩ := HSTp.out ⟨#[46]⟩ rfl
              generalize ((((p2.setCell ⟨A, 0, none⟩ (.int .i64 4)).setCell ⟨A, 1, none⟩ (.string ⟨#[46]⟩)).setCell ⟨A, 2, none⟩ (.int .i64 0)).setCell ⟨A, 3, none⟩ (.slice (some ⟨p1.heap.size, 0, none⟩) 2 2)) = wm at *
              have HMB := Lib.hid m1
              have HMBU := Lib.hid m2
              have HBM := Lib.hid (HBR.out.trans (m3 A (Nat.le_refl _)))
              have HSCwm : Hid (∀ W, Below wm.heap.size wm W → W.cell? ⟨g, o + k, none⟩ = some (.int .i64 n)) := Lib.hid (fun W hb => HSCA.out W (HBM.out.trans (hb.mono (by have := m4; omega))))
              have hms := m4
              clear m1 m2 m3 m4 HSTp d0 d1 d2 d3 e0 e1 e2 e3 u0 u1 u2 u3 HSCwr
              refine wp_region_held_drew (S := (fun W => W.cell? ⟨g, o + k, none⟩ = some (.int .i64 n))) (by kernel_rfl) (HSCwm.out _ (Below.refl _ _).drew) (fun hHeld76 => ?_)
              refine wpAnyH_take (i := 0) (oi := _) (v := ?v77) rfl (by kernel_rfl) (by kernel_rfl) (by kernel_rfl) (fun _ _ _ h => h) (Or.inl ⟨by rfl, ?y77⟩) (by assumption) ?r77
              case y77 => (intro w hSw; (try dsimp only at hSw); go_simp; try with_reducible rfl)
              try simp only [Act.put]
              try simp only [List.setIfInBounds_toArray]
              try simp only [List.set_cons_zero]
              try simp only [List.set_cons_succ]
              try simp only [List.set_cons_zero]
              refine wpAnyH_take (i := 1) (oi := _) (v := ?v78) rfl (by kernel_rfl) (by kernel_rfl) (by kernel_rfl) (fun _ _ _ h => h) (Or.inl ⟨by rfl, ?y78⟩) (by assumption) ?r78
              case y78 => (intro w hSw; (try dsimp only at hSw); go_simp; try with_reducible rfl)
              try simp only [Act.put]
              try simp only [List.setIfInBounds_toArray]
              try simp only [List.set_cons_zero]
              try simp only [List.set_cons_succ]
              try simp only [List.set_cons_zero]
              refine wpAnyH_take (i := 2) (oi := _) (v := ?v79) rfl (by kernel_rfl) (by kernel_rfl) (by kernel_rfl) (fun _ _ _ h => h) (Or.inl ⟨by rfl, ?y79⟩) (by assumption) ?r79
              case y79 => (intro w hSw; (try dsimp only at hSw); go_simp; try with_reducible rfl)
              try simp only [Act.put]
              try simp only [List.setIfInBounds_toArray]
              try simp only [List.set_cons_zero]
              try simp only [List.set_cons_succ]
              try simp only [List.set_cons_zero]
              refine wpAnyH_take (i := 3) (oi := _) (v := ?v80) rfl (by kernel_rfl) (by kernel_rfl) (by kernel_rfl) (fun _ _ _ h => h) (Or.inl ⟨by rfl, ?y80⟩) (by assumption) ?r80
              case y80 => (intro w hSw; (try dsimp only at hSw); go_simp; try with_reducible rfl)
              try simp only [Act.put]
              try simp only [List.setIfInBounds_toArray]
              try simp only [List.set_cons_zero]
              try simp only [List.set_cons_succ]
              try simp only [List.set_cons_zero]
              refine wpAnyH_ready (rs := [4, 5]) (by kernel_rfl) (by simp) ?_
              refine AllReadyH.cons (o := _) rfl (fun K hK => ?_) (AllReadyH.cons (o := _) rfl (fun K hK => ?_) (AllReadyH.nil))
              · go_simp
                (with_reducible refine (ref_Int1 _ _).mono ?_); rintro e q1 ⟨rfl, cq1⟩
                have HDq1 := Lib.hid ((Below.refl wm.heap.size wm).drew.trans cq1)
                clear cq1
                try go_wp2_with fail
                refine hK.out _ _ (HSCwm.out _ HDq1.out) (fun hHeld81 => ?_)
                clear hK K hHeld76
                try simp only [Act.put]
                try simp only [List.setIfInBounds_toArray]
                try simp only [List.set_cons_zero]
                try simp only [List.set_cons_succ]
                try simp only [List.set_cons_zero]
                refine wpAnyH_ready (rs := [5]) (by kernel_rfl) (by simp) ?_
                refine AllReadyH.cons (o := _) rfl (fun K hK => ?_) (AllReadyH.nil)
                obtain ⟨u0, u1, u2, u3, _⟩ := cellsR4 (keptR HDq1.out HMB.out.cells)
                go_simp
                try go_wp2_with fail
                refine hK.out _ _ (HSCwm.out _ HDq1.out) (fun hHeld82 => ?_)
                clear hK K hHeld81
                try simp only [Act.put]
                try simp only [List.setIfInBounds_toArray]
                try simp only [List.set_cons_zero]
                try simp only [List.set_cons_succ]
                try simp only [List.set_cons_zero]
                refine wpAnyH_ready (rs := [6]) (by kernel_rfl) (by simp) ?_
                refine AllReadyH.cons (o := _) rfl (fun K hK => ?_) (AllReadyH.nil)
                go_simp
                try go_wp2_with fail
                refine hK.out _ _ (HSCwm.out _ (HDq1.out.alloc HDq1.out.size _)) (fun hHeld83 => ?_)
                clear hK K hHeld82
                try simp only [Act.put]
                try simp only [List.setIfInBounds_toArray]
                try simp only [List.set_cons_zero]
                try simp only [List.set_cons_succ]
                try simp only [List.set_cons_zero]
                refine wpAnyH_ready (rs := [7]) (by kernel_rfl) (by simp) ?_
                refine AllReadyH.cons (o := _) rfl (fun K hK => ?_) (AllReadyH.nil)
                go_simp
                (with_reducible refine (ref_Comp1 _ _ _ _ _).mono ?_); rintro e q2 ⟨rfl, cq2⟩
                have HSTq := Lib.hid (fun (s : ByteArray) (hs : s = ⟨#[46]⟩) => LMem.step hs hnn HMB.out HMBU.out (by omega) HDq1.out cq2)
                have HDq2 := Lib.hid (HDq1.out.trans ((below_past cq2).mono HDq1.out.size))
                obtain ⟨d0, d1, d2, d3, e0, e1, e2, e3⟩ := cellsR4 (keptR HDq2.out HMB.out.cells)
                clear cq2
                try go_wp2_with fail
                refine hK.out _ _ (HSCwm.out _ HDq2.out) (fun hHeld84 => ?_)
                clear hK K hHeld83
                try simp only [Act.put]
                try simp only [List.setIfInBounds_toArray]
                try simp only [List.set_cons_zero]
                try simp only [List.set_cons_succ]
                try simp only [List.set_cons_zero]
                refine wpAnyH_ready (rs := [8]) (by kernel_rfl) (by simp) ?_
                refine AllReadyH.cons (o := _) rfl (fun K hK => ?_) (AllReadyH.nil)
                go_simp
                try go_wp2_with fail
                refine hK.out _ _ ((cell_set4 (show g ≠ B by omega) _ _ _ _).trans (HSCwm.out _ HDq2.out)) (fun hHeld85 => ?_)
                clear hK K hHeld84
                try simp only [Act.put]
                try simp only [List.setIfInBounds_toArray]
                try simp only [List.set_cons_zero]
                try simp only [List.set_cons_succ]
                try simp only [List.set_cons_zero]
                refine wpAnyH_done (by kernel_rfl) ?_ _
                go_wp2_with fail
                obtain ⟨l1, l2, l3, l4⟩ := HSTq.out ⟨#[46]⟩ rfl
                go_roundw
                case rel => exact ⟨k, _, _, _, _, _, _, by omega, by go_num, Lib.hid (by rw [HDR.out, HTA.out]; rfl), Lib.hid (by rw [HDR.out, HTB.out]; rfl), l1, l2, HBM.out.trans (l3 A (by omega)), by omega⟩
                case measure => simp [intOf]; try omega
              · obtain ⟨u0, u1, u2, u3, _⟩ := cellsR4 (keptR (Below.refl wm.heap.size wm).drew HMB.out.cells)
                go_simp
                try go_wp2_with fail
                refine hK.out _ _ (HSCwm.out _ (Below.refl wm.heap.size wm).drew) (fun hHeld86 => ?_)
                clear hK K hHeld76
                try simp only [Act.put]
                try simp only [List.setIfInBounds_toArray]
                try simp only [List.set_cons_zero]
                try simp only [List.set_cons_succ]
                try simp only [List.set_cons_zero]
                refine wpAnyH_ready (rs := [4]) (by kernel_rfl) (by simp) ?_
                refine AllReadyH.cons (o := _) rfl (fun K hK => ?_) (AllReadyH.nil)
                go_simp
                (with_reducible refine (ref_Int1 _ _).mono ?_); rintro e q1 ⟨rfl, cq1⟩
                have HDq1 := Lib.hid ((Below.refl wm.heap.size wm).drew.trans cq1)
                clear cq1
                try go_wp2_with fail
                refine hK.out _ _ (HSCwm.out _ HDq1.out) (fun hHeld87 => ?_)
                clear hK K hHeld86
                try simp only [Act.put]
                try simp only [List.setIfInBounds_toArray]
                try simp only [List.set_cons_zero]
                try simp only [List.set_cons_succ]
                try simp only [List.set_cons_zero]
                refine wpAnyH_ready (rs := [6]) (by kernel_rfl) (by simp) ?_
                refine AllReadyH.cons (o := _) rfl (fun K hK => ?_) (AllReadyH.nil)
                go_simp
                try go_wp2_with fail
                refine hK.out _ _ (HSCwm.out _ (HDq1.out.alloc HDq1.out.size _)) (fun hHeld88 => ?_)
                clear hK K hHeld87
                try simp only [Act.put]
                try simp only [List.setIfInBounds_toArray]
                try simp only [List.set_cons_zero]
                try simp only [List.set_cons_succ]
                try simp only [List.set_cons_zero]
                refine wpAnyH_ready (rs := [7]) (by kernel_rfl) (by simp) ?_
                refine AllReadyH.cons (o := _) rfl (fun K hK => ?_) (AllReadyH.nil)
                go_simp
                (with_reducible refine (ref_Comp1 _ _ _ _ _).mono ?_); rintro e q2 ⟨rfl, cq2⟩
                have HSTq := Lib.hid (fun (s : ByteArray) (hs : s = ⟨#[46]⟩) => LMem.step hs hnn HMB.out HMBU.out (by omega) HDq1.out cq2)
                have HDq2 := Lib.hid (HDq1.out.trans ((below_past cq2).mono HDq1.out.size))
                obtain ⟨d0, d1, d2, d3, e0, e1, e2, e3⟩ := cellsR4 (keptR HDq2.out HMB.out.cells)
                clear cq2
                try go_wp2_with fail
                refine hK.out _ _ (HSCwm.out _ HDq2.out) (fun hHeld89 => ?_)
                clear hK K hHeld88
                try simp only [Act.put]
                try simp only [List.setIfInBounds_toArray]
                try simp only [List.set_cons_zero]
                try simp only [List.set_cons_succ]
                try simp only [List.set_cons_zero]
                refine wpAnyH_ready (rs := [8]) (by kernel_rfl) (by simp) ?_
                refine AllReadyH.cons (o := _) rfl (fun K hK => ?_) (AllReadyH.nil)
                go_simp
                try go_wp2_with fail
                refine hK.out _ _ ((cell_set4 (show g ≠ B by omega) _ _ _ _).trans (HSCwm.out _ HDq2.out)) (fun hHeld90 => ?_)
                clear hK K hHeld89
                try simp only [Act.put]
                try simp only [List.setIfInBounds_toArray]
                try simp only [List.set_cons_zero]
                try simp only [List.set_cons_succ]
                try simp only [List.set_cons_zero]
                refine wpAnyH_done (by kernel_rfl) ?_ _
                go_wp2_with fail
                obtain ⟨l1, l2, l3, l4⟩ := HSTq.out ⟨#[46]⟩ rfl
                go_roundw
                case rel => exact ⟨k, _, _, _, _, _, _, by omega, by go_num, Lib.hid (by rw [HDR.out, HTA.out]; rfl), Lib.hid (by rw [HDR.out, HTB.out]; rfl), l1, l2, HBM.out.trans (l3 A (by omega)), by omega⟩
                case measure => simp [intOf]; try omega
end Go.Proofs.YtlbdocdjijhkbaaGreatDoor
