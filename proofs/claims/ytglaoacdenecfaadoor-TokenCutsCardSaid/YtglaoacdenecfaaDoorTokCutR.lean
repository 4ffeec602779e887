/-
  The contract of the document's own Cut.
-/
import Derived.Test.YtglaoacdenecfaaDoorTokZ
import Derived.Test.YtglaoacdenecfaaDoorTokS
namespace Go.Proofs.YtglaoacdenecfaaDoor
open Go.RowKit

def lastB (l : List Tok) : Bool := match l.getLast? with | some t => opensL t.kind t.text | none => false
theorem lastB_nil : lastB [] = false := rfl
theorem lastB_snoc (l : List Tok) (x : Tok) : lastB (l ++ [x]) = opensL x.kind x.text := by
  unfold lastB
  rw [List.getLast?_append]; rfl
theorem lastB_at (l : List Tok) (m : Nat) (h : l.length = m + 1) : lastB l = opensL (l[m]).kind (l[m]).text := by
  unfold lastB
  rw [List.getLast?_eq_getElem?, show l.length - 1 = m from by omega, List.getElem?_eq_getElem (by omega)]
theorem drop_neT (s : ByteArray) (f : Nat) (h : f < s.size) : s.data.toList.drop f ≠ [] := fun e => by
  rw [drop_at s f h] at e; cases e
/-- A place at which nothing goes. -/
theorem ref_bad {s : ByteArray} {f : Nat} {gl : Bool} {l : List Tok} (h : cutL s.data.toList 0 false = (cutL (s.data.toList.drop f) f gl).pre l) (hf : f < s.size) (h4 : s.size ≤ 4096) (hw : (lexL (s.data.toList.drop f)).w = 0) (B : Nat) (W : World) :
    CutAns B s.data.toList (.returned (.tuple #[.slice none 0 0, .int .i64 (f : Nat), .int .i64 50])) W := by
  refine .inr ⟨by rw [size_listT]; exact h4, .inl ⟨f, ?_, rfl⟩⟩
  rw [h, cutL_step _ _ _ (drop_neT s f hf), if_pos hw]; rfl
theorem ref_end {s : ByteArray} {f : Nat} {gl : Bool} {l : List Tok} (h : cutL s.data.toList 0 false = (cutL (s.data.toList.drop f) f gl).pre l) (hf : s.size ≤ f) : cutL s.data.toList 0 false = .good (l ++ [⟨9, [], 0, f⟩]) := by
  rw [h, List.drop_eq_nil_of_le (by rw [size_listT]; exact hf), cutL_nil]; rfl
theorem ref_step {s : ByteArray} {f : Nat} {gl : Bool} {l : List Tok} (h : cutL s.data.toList 0 false = (cutL (s.data.toList.drop f) f gl).pre l) (hf : f < s.size) (hw : (lexL (s.data.toList.drop f)).w ≠ 0) (hk : (lexL (s.data.toList.drop f)).kind ≠ 0) :
    cutL s.data.toList 0 false = (cutL (s.data.toList.drop (f + (lexL (s.data.toList.drop f)).w)) (f + (lexL (s.data.toList.drop f)).w) (lastB (l ++ [⟨kindL gl (lexL (s.data.toList.drop f)), (lexL (s.data.toList.drop f)).text, (lexL (s.data.toList.drop f)).n, f⟩]))).pre (l ++ [⟨kindL gl (lexL (s.data.toList.drop f)), (lexL (s.data.toList.drop f)).text, (lexL (s.data.toList.drop f)).n, f⟩]) := by
  rw [h, cutL_step _ _ _ (drop_neT s f hf), if_neg hw, if_neg hk, pre_pre, lastB_snoc, List.drop_drop]

set_option maxRecDepth 100000 in
set_option maxHeartbeats 8000000 in
theorem ref_Cut (s : ByteArray) (w : World) (hT : TabsT w) :
    Calls Tryd.prog 11 #[.string s] w fun e w' => CutAns w.heap.size s.data.toList e w' ∧ Below w.heap.size w w' := by
  by_cases hlong : 4096 < s.size
  · have h0 : (4096 : Int) < (s.size : Int) := by omega
    have HANS := Lib.hid (fun W => show CutAns w.heap.size s.data.toList (.returned (.tuple #[.slice none 0 0, .int .i64 0, .int .i64 2])) W from .inl ⟨by rw [size_listT]; omega, rfl⟩)
    clear hlong hT
    go_enter Tryd.func11, Tryd.ntmps11
    go_wp2_with fail
    go_ret3
    exact ⟨HANS.out _, Below.refl _ _⟩
  have h4096 : s.size ≤ 4096 := by omega
  have h0 : (s.size : Int) ≤ 4096 := by omega
  have HT := Lib.hid hT
  obtain ⟨i0, hi, hz0, hz1, hz2⟩ := info_parts infoTok
  clear hlong hT
  go_enter Tryd.func11, Tryd.ntmps11
  go_wp2_with fail
  go_loopw [5, 6] (fun vv av wr => ∃ (a : Nat) (l : List Tok), a ≤ s.size ∧ l.length ≤ a ∧ av = .int .i64 (a : Nat) ∧ Below w.heap.size w wr ∧ OwnToks w.heap.size wr vv l ∧ Hid (cutL s.data.toList 0 false = (cutL (s.data.toList.drop a) a (lastB l)).pre l)) (fun _ av _ => s.size - (intOf av).toNat)
  case atStart => exact ⟨0, [], Nat.zero_le _, Nat.le_refl _, rfl, Below.refl _ _, World.ownsRow_nil _ _ _ _, Lib.hid (by rw [List.drop_zero, pre_nil]; rfl)⟩
  case round =>
    obtain ⟨a, l, ha, hla, rfl, hbr, hw, HCUT⟩ := hrel
    have hws := hbr.size
    have HSK := Lib.hid (ref_skip s a wr (by omega) ha)
    obtain ⟨ad, cap, rfl, hlc, hcm, hcell⟩ := hw.view
    have HCELL := Lib.hid hcell
    have HW0 := Lib.hid hw
    unfold maxLen at hcm
    clear hcell hw
    go_wp2_with fail
    refine HSK.out.mono ?_; rintro e w1 ⟨⟨f, ok, rfl, hres⟩, rfl⟩
    obtain ⟨haf, hfs, hst, hyes, hno⟩ := hres
    rw [size_listT] at hfs hyes hno
    have hcutF := HCUT.out
    rw [hst (lastB l)] at hcutF
    have HCUTF := Lib.hid hcutF
    clear hst hcutF HCUT
    cases ok with
    | false =>
      obtain ⟨hf, hw0⟩ := hno rfl
      have HANS := Lib.hid (fun W => ref_bad HCUTF.out hf h4096 hw0 w.heap.size W)
      clear hyes hno hw0
      go_wp2_with fail
      go_ret3
      exact ⟨HANS.out _, hbr⟩
    | true =>
      have hor := hyes rfl
      clear hyes hno
      by_cases hf : f < s.size
      case neg =>
        have hfe : f = s.size := by omega
        have HEND := Lib.hid (ref_end HCUTF.out (by omega))
        have HX : Hid (tok4 ⟨9, [], 0, f⟩ = [.int .i64 9, .string ⟨#[]⟩, .int .i64 0, .int .i64 (s.size : Nat)]) := Lib.hid (by rw [hfe]; rfl)
        have hq1 : (s.size : Int) ≤ (f : Int) := by omega
        have hf9 : f ≤ 4096 := by omega
        have HFE := Lib.hid hfe
        clear hor hfe
        go_wp2_with (first
          | (at_builtin; refine wpList_append_lies _ rfl _ _ 23 rfl w.heap.size 30 i0 (.agg #[.int .i64 0, .string ⟨#[]⟩, .int .i64 0, .int .i64 0]) 4 40 Tryd.underlying23 hi hz0 hz1 hz2 rfl (by decide) _ _ _ rfl (World.ownsRow.alloc HW0.out _) ⟨wr.heap.size, 0, none⟩ 1 1 [.int .i64 9, .string ⟨#[]⟩, .int .i64 0, .int .i64 (s.size : Nat)] rfl rfl ?c1 ?c2 (by decide) ?c3 ?c4 ?c5 _ rfl ?_))
        case c1 =>
          intro j y hj
          match j, hj with
          | 0, hj => simp at hj; subst hj; simp [Addr.add]
          | 1, hj => simp at hj; subst hj; simp [Addr.add]
          | 2, hj => simp at hj; subst hj; simp [Addr.add]
          | 3, hj => simp at hj; subst hj; simp [Addr.add]
        case c2 => intro y hy; simp at hy; rcases hy with rfl | rfl | rfl | rfl <;> rfl
        case c3 => unfold maxLen; omega
        case c4 => omega
        case c5 => simp; omega
        intro g3 cap3 w5 hown5 hgrow _ _
        have hown6 : OwnToks w.heap.size w5 (.slice (some ⟨g3, 0, none⟩) (l.length + 1) cap3) (l ++ [⟨9, [], 0, f⟩]) := by
          unfold OwnToks
          rw [List.length_append, tokCells_append]
          have e : tokCells [(⟨9, [], 0, f⟩ : Tok)] = tok4 ⟨9, [], 0, f⟩ := by show tok4 ⟨9, [], 0, f⟩ ++ [] = _; rw [List.append_nil]
          rw [e, HX.out]
          exact hown5
        have hb5 : Below w.heap.size w w5 := (hbr.alloc hws _).grown hgrow (by simp; omega) (fun i hi => (World.ownsRow.lt HW0.out i hi).1)
        clear hown5 hgrow
        go_wp2_with fail
        go_ret3
        exact ⟨.inr ⟨by rw [size_listT]; exact h4096, .inr ⟨_, _, HEND.out, rfl, hown6⟩⟩, hb5⟩
      case pos =>
        have hns : NotSkip (s.data.toList.drop f) := by
          rcases hor with h | h
          · omega
          · exact h
        have hf1 : (f : Int) < (s.size : Int) := by omega
        clear hor
        by_cases hfa : f = a
        · have hq : ((f : Int) == (a : Int)) = true := by rw [hfa]; exact beq_self_eq_true _
          have hcutG := HCUTF.out
          rw [if_pos hfa] at hcutG
          by_cases hl0 : l.length = 0
          · rw [show lastB l = false from by rw [List.eq_nil_of_length_eq_zero hl0]; rfl] at hcutG
            have hbG := hbr
            have hwG := HW0.out
            rw [hl0] at hlc hwG ⊢
            subst hfa
            have HTK := Lib.hid (fun W h => ref_token s f false W (by omega) hf h hns)
            have HHT := Lib.hid (HT.out.on hbG)
            have HCUTG := Lib.hid hcutG
            clear hcutG hns
            go_wp2_with fail
            refine (HTK.out _ HHT.out).mono ?_; rintro e w3 ⟨⟨k, n, q, t, en, ok2, rfl, h1, h2⟩, hb3⟩
            have hb4 : Below w.heap.size w w3 := hbG.trans (hb3.mono hbG.size)
            have hws4 := hb4.size
            have hw4 := hwG.below hb3
            clear hb3 hbG hwG
            cases ok2 with
            | false =>
              have HANS := Lib.hid (fun W => ref_bad HCUTG.out hf h4096 (by
                apply Classical.byContradiction
                intro h
                rw [decide_eq_true h] at h1
                cases h1) w.heap.size W)
              clear h1 h2 hw4
              go_wp2_with fail
              go_ret3
              first
                | exact ⟨HANS.out _, hb4⟩
                | exact ⟨HANS.out _, hb4.alloc hws4 _⟩
            | true =>
              obtain ⟨x0, x1, x2, x3, x4, x5⟩ := h2 rfl
              have hw0 : (lexL (s.data.toList.drop f)).w ≠ 0 := of_decide_eq_true h1.symm
              have hle := lexL_le (s.data.toList.drop f)
              rw [List.length_drop, size_listT] at hle
              have hstep := ref_step HCUTG.out hf hw0 x0
              have HX : Hid (tok4 ⟨kindL false (lexL (s.data.toList.drop f)), (lexL (s.data.toList.drop f)).text, (lexL (s.data.toList.drop f)).n, f⟩ = [.int .i64 k, .string t, .int .i64 n, .int .i64 q]) := Lib.hid (by rw [x1, x2, x3, x4]; rfl)
              generalize (⟨kindL false (lexL (s.data.toList.drop f)), (lexL (s.data.toList.drop f)).text, (lexL (s.data.toList.drop f)).n, f⟩ : Tok) = x at *
              rw [← x5] at hstep
              have HSTEP := Lib.hid hstep
              have hen1 : en ≤ s.size := by omega
              have hen2 : f < en := by omega
              have HW := Lib.hid hw4
              clear x0 x1 x2 x3 x4 x5 hw0 hle hstep h1 h2 hw4
              go_wp2_with (first
                | (at_builtin; refine wpList_append_lies _ rfl _ _ 23 rfl w.heap.size 30 i0 (.agg #[.int .i64 0, .string ⟨#[]⟩, .int .i64 0, .int .i64 0]) 4 40 Tryd.underlying23 hi hz0 hz1 hz2 rfl (by decide) _ _ _ rfl (World.ownsRow.alloc (World.ownsRow.alloc HW.out _) _) ⟨w3.heap.size + 1, 0, none⟩ 1 1 [.int .i64 k, .string t, .int .i64 n, .int .i64 q] rfl rfl ?c1 ?c2 (by decide) ?c3 ?c4 ?c5 _ rfl ?_))
              case c1 =>
                intro j y hj
                match j, hj with
                | 0, hj => simp at hj; subst hj; simp [Addr.add]
                | 1, hj => simp at hj; subst hj; simp [Addr.add]
                | 2, hj => simp at hj; subst hj; simp [Addr.add]
                | 3, hj => simp at hj; subst hj; simp [Addr.add]
              case c2 => intro y hy; simp at hy; rcases hy with rfl | rfl | rfl | rfl <;> rfl
              case c3 => unfold maxLen; omega
              case c4 => omega
              case c5 => simp; omega
              intro g3 cap3 w5 hown5 hgrow _ _
              have hown6 : OwnToks w.heap.size w5 (.slice (some ⟨g3, 0, none⟩) (1) cap3) (l ++ [x]) := by
                unfold OwnToks
                rw [List.length_append, tokCells_append, hl0]
                have e : tokCells [x] = tok4 x := by show tok4 x ++ [] = _; rw [List.append_nil]
                rw [e, HX.out]
                exact hown5
              have hb5 : Below w.heap.size w w5 := ((hb4.alloc hws4 _).alloc (by simp; omega) _).grown hgrow (by simp; omega) (fun i hi => (World.ownsRow.lt HW.out i hi).1)
              clear hown5 hgrow
              go_wp2_with fail
              go_roundw
              case rel => exact ⟨en, l ++ [x], hen1, by rw [List.length_append, List.length_singleton]; omega, rfl, hb5, hown6, HSTEP⟩
              case measure => simp [intOf]; omega
          · obtain ⟨m, hm⟩ : ∃ m, l.length = m + 1 := ⟨l.length - 1, by omega⟩
            have hbG0 := hbr
            have hwG0 := HW0.out
            obtain ⟨g, rfl, _, hat⟩ := HCELL.out m (by omega)
            obtain ⟨c0, c1, c2, c3⟩ := hat
            have HG := Lib.hid (fun W => ref_glues (l[m]).kind (l[m]).n (l[m]).pos (l[m]).text W)
            rw [lastB_at l m hm] at hcutG
            generalize opensL (l[m]).kind (l[m]).text = gl at *
            generalize (⟨(l[m]).text.toArray⟩ : ByteArray) = u at *
            generalize (l[m]).pos = lp at *
            generalize (l[m]).kind = kd at *
            generalize (l[m]).n = xn at *
            have hm0 : (0 : Int) < (m : Int) + 1 := by omega
            have HCG := Lib.hid hcutG
            have HNS := Lib.hid hns
            rw [hm] at hlc ⊢
            rw [hm] at hwG0
            have HWG := Lib.hid hwG0
            clear hcutG hns hwG0 HW0 HCELL
            subst hfa
            go_wp2_with fail
            refine (HG.out _).mono ?_; rintro e wG ⟨rfl, hbg⟩
            have hbG : Below w.heap.size w wG := hbG0.trans (hbg.mono hbG0.size)
            have hwG := HWG.out.below hbg
            have hcutG := HCG.out
            have hns := HNS.out
            clear hbg HWG HCG HNS HG c0 c1 c2 c3 hbG0
            have HTK := Lib.hid (fun W h => ref_token s f gl W (by omega) hf h hns)
            have HHT := Lib.hid (HT.out.on hbG)
            have HCUTG := Lib.hid hcutG
            clear hcutG hns
            go_wp2_with fail
            refine (HTK.out _ HHT.out).mono ?_; rintro e w3 ⟨⟨k, n, q, t, en, ok2, rfl, h1, h2⟩, hb3⟩
            have hb4 : Below w.heap.size w w3 := hbG.trans (hb3.mono hbG.size)
            have hws4 := hb4.size
            have hw4 := hwG.below hb3
            clear hb3 hbG hwG
            cases ok2 with
            | false =>
              have HANS := Lib.hid (fun W => ref_bad HCUTG.out hf h4096 (by
                apply Classical.byContradiction
                intro h
                rw [decide_eq_true h] at h1
                cases h1) w.heap.size W)
              clear h1 h2 hw4
              go_wp2_with fail
              go_ret3
              first
                | exact ⟨HANS.out _, hb4⟩
                | exact ⟨HANS.out _, hb4.alloc hws4 _⟩
            | true =>
              obtain ⟨x0, x1, x2, x3, x4, x5⟩ := h2 rfl
              have hw0 : (lexL (s.data.toList.drop f)).w ≠ 0 := of_decide_eq_true h1.symm
              have hle := lexL_le (s.data.toList.drop f)
              rw [List.length_drop, size_listT] at hle
              have hstep := ref_step HCUTG.out hf hw0 x0
              have HX : Hid (tok4 ⟨kindL gl (lexL (s.data.toList.drop f)), (lexL (s.data.toList.drop f)).text, (lexL (s.data.toList.drop f)).n, f⟩ = [.int .i64 k, .string t, .int .i64 n, .int .i64 q]) := Lib.hid (by rw [x1, x2, x3, x4]; rfl)
              generalize (⟨kindL gl (lexL (s.data.toList.drop f)), (lexL (s.data.toList.drop f)).text, (lexL (s.data.toList.drop f)).n, f⟩ : Tok) = x at *
              rw [← x5] at hstep
              have HSTEP := Lib.hid hstep
              have hen1 : en ≤ s.size := by omega
              have hen2 : f < en := by omega
              have HW := Lib.hid hw4
              clear x0 x1 x2 x3 x4 x5 hw0 hle hstep h1 h2 hw4
              go_wp2_with (first
                | (at_builtin; refine wpList_append_lies _ rfl _ _ 23 rfl w.heap.size 30 i0 (.agg #[.int .i64 0, .string ⟨#[]⟩, .int .i64 0, .int .i64 0]) 4 40 Tryd.underlying23 hi hz0 hz1 hz2 rfl (by decide) _ _ _ rfl (World.ownsRow.alloc (World.ownsRow.alloc HW.out _) _) ⟨w3.heap.size + 1, 0, none⟩ 1 1 [.int .i64 k, .string t, .int .i64 n, .int .i64 q] rfl rfl ?c1 ?c2 (by decide) ?c3 ?c4 ?c5 _ rfl ?_))
              case c1 =>
                intro j y hj
                match j, hj with
                | 0, hj => simp at hj; subst hj; simp [Addr.add]
                | 1, hj => simp at hj; subst hj; simp [Addr.add]
                | 2, hj => simp at hj; subst hj; simp [Addr.add]
                | 3, hj => simp at hj; subst hj; simp [Addr.add]
              case c2 => intro y hy; simp at hy; rcases hy with rfl | rfl | rfl | rfl <;> rfl
              case c3 => unfold maxLen; omega
              case c4 => omega
              case c5 => simp; omega
              intro g3 cap3 w5 hown5 hgrow _ _
              have hown6 : OwnToks w.heap.size w5 (.slice (some ⟨g3, 0, none⟩) (m + 1 + 1) cap3) (l ++ [x]) := by
                unfold OwnToks
                rw [List.length_append, tokCells_append, hm]
                have e : tokCells [x] = tok4 x := by show tok4 x ++ [] = _; rw [List.append_nil]
                rw [e, HX.out]
                exact hown5
              have hb5 : Below w.heap.size w w5 := ((hb4.alloc hws4 _).alloc (by simp; omega) _).grown hgrow (by simp; omega) (fun i hi => (World.ownsRow.lt HW.out i hi).1)
              clear hown5 hgrow
              go_wp2_with fail
              go_roundw
              case rel => exact ⟨en, l ++ [x], hen1, by rw [List.length_append, List.length_singleton]; omega, rfl, hb5, hown6, HSTEP⟩
              case measure => simp [intOf]; omega
        · have hq : ((f : Int) == (a : Int)) = false := by rw [beq_eq_false_iff_ne]; omega
          have hcutG := HCUTF.out
          rw [if_neg hfa] at hcutG
          have hbG := hbr
          have hwG := HW0.out
          clear hfa
          have HTK := Lib.hid (fun W h => ref_token s f false W (by omega) hf h hns)
          have HHT := Lib.hid (HT.out.on hbG)
          have HCUTG := Lib.hid hcutG
          clear hcutG hns
          go_wp2_with fail
          refine (HTK.out _ HHT.out).mono ?_; rintro e w3 ⟨⟨k, n, q, t, en, ok2, rfl, h1, h2⟩, hb3⟩
          have hb4 : Below w.heap.size w w3 := hbG.trans (hb3.mono hbG.size)
          have hws4 := hb4.size
          have hw4 := hwG.below hb3
          clear hb3 hbG hwG
          cases ok2 with
          | false =>
            have HANS := Lib.hid (fun W => ref_bad HCUTG.out hf h4096 (by
              apply Classical.byContradiction
              intro h
              rw [decide_eq_true h] at h1
              cases h1) w.heap.size W)
            clear h1 h2 hw4
            go_wp2_with fail
            go_ret3
            first
              | exact ⟨HANS.out _, hb4⟩
              | exact ⟨HANS.out _, hb4.alloc hws4 _⟩
          | true =>
            obtain ⟨x0, x1, x2, x3, x4, x5⟩ := h2 rfl
            have hw0 : (lexL (s.data.toList.drop f)).w ≠ 0 := of_decide_eq_true h1.symm
            have hle := lexL_le (s.data.toList.drop f)
            rw [List.length_drop, size_listT] at hle
            have hstep := ref_step HCUTG.out hf hw0 x0
            have HX : Hid (tok4 ⟨kindL false (lexL (s.data.toList.drop f)), (lexL (s.data.toList.drop f)).text, (lexL (s.data.toList.drop f)).n, f⟩ = [.int .i64 k, .string t, .int .i64 n, .int .i64 q]) := Lib.hid (by rw [x1, x2, x3, x4]; rfl)
            generalize (⟨kindL false (lexL (s.data.toList.drop f)), (lexL (s.data.toList.drop f)).text, (lexL (s.data.toList.drop f)).n, f⟩ : Tok) = x at *
            rw [← x5] at hstep
            have HSTEP := Lib.hid hstep
            have hen1 : en ≤ s.size := by omega
            have hen2 : f < en := by omega
            have HW := Lib.hid hw4
            clear x0 x1 x2 x3 x4 x5 hw0 hle hstep h1 h2 hw4
            go_wp2_with (first
              | (at_builtin; refine wpList_append_lies _ rfl _ _ 23 rfl w.heap.size 30 i0 (.agg #[.int .i64 0, .string ⟨#[]⟩, .int .i64 0, .int .i64 0]) 4 40 Tryd.underlying23 hi hz0 hz1 hz2 rfl (by decide) _ _ _ rfl (World.ownsRow.alloc (World.ownsRow.alloc HW.out _) _) ⟨w3.heap.size + 1, 0, none⟩ 1 1 [.int .i64 k, .string t, .int .i64 n, .int .i64 q] rfl rfl ?c1 ?c2 (by decide) ?c3 ?c4 ?c5 _ rfl ?_))
            case c1 =>
              intro j y hj
              match j, hj with
              | 0, hj => simp at hj; subst hj; simp [Addr.add]
              | 1, hj => simp at hj; subst hj; simp [Addr.add]
              | 2, hj => simp at hj; subst hj; simp [Addr.add]
              | 3, hj => simp at hj; subst hj; simp [Addr.add]
            case c2 => intro y hy; simp at hy; rcases hy with rfl | rfl | rfl | rfl <;> rfl
            case c3 => unfold maxLen; omega
            case c4 => omega
            case c5 => simp; omega
            intro g3 cap3 w5 hown5 hgrow _ _
            have hown6 : OwnToks w.heap.size w5 (.slice (some ⟨g3, 0, none⟩) (l.length + 1) cap3) (l ++ [x]) := by
              unfold OwnToks
              rw [List.length_append, tokCells_append]
              have e : tokCells [x] = tok4 x := by show tok4 x ++ [] = _; rw [List.append_nil]
              rw [e, HX.out]
              exact hown5
            have hb5 : Below w.heap.size w w5 := ((hb4.alloc hws4 _).alloc (by simp; omega) _).grown hgrow (by simp; omega) (fun i hi => (World.ownsRow.lt HW.out i hi).1)
            clear hown5 hgrow
            go_wp2_with fail
            go_roundw
            case rel => exact ⟨en, l ++ [x], hen1, by rw [List.length_append, List.length_singleton]; omega, rfl, hb5, hown6, HSTEP⟩
            case measure => simp [intOf]; omega
end Go.Proofs.YtglaoacdenecfaaDoor
