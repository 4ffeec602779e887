/-
  The contracts of the document's own may and Check for term.
-/
import Derived.Test.YtlpmofmhcnclhaaDoorTermMR
import Derived.Test.YtlpmofmhcnclhaaDoorCharRefC
import Derived.Lib.Strings
namespace Go.Proofs.YtlpmofmhcnclhaaDoor
open Go.RowKit

/-- Whether a term may be, its depth aside. -/
def mayK (k : Int) (s : ByteArray) (n : Int) (len : Nat) (all : Bool) : Bool :=
  if k = 1 then decide (0 ≤ n) && (decide (s.data.toList = []) && decide (len = 0))
  else if k = 2 then decide (n = 0) && (checkL s.data.toList && decide (len = 0))
  else if k = 3 then decide (s.data.toList = []) && decide (len = 0)
  else if k = 4 then decide (n = 0) && (checkL s.data.toList && (decide (1 ≤ len) && (decide (len ≤ 16) && all)))
  else false
mutual
def Tm.may : Tm → Bool
  | .mk k s n l => mayK k s n l.length (Tm.mays l)
def Tm.mays : List Tm → Bool
  | [] => true
  | t :: l => t.may && Tm.mays l
end
theorem Tm.may_eq (t : Tm) : t.may = mayK t.kind t.name t.n t.args.length (Tm.mays t.args) := by cases t; rfl
theorem Tm.mays_all (l : List Tm) : Tm.mays l = l.all Tm.may := by
  induction l with
  | nil => rfl
  | cons t l ih => show (t.may && Tm.mays l) = _; rw [ih, List.all_cons]
theorem mays_snoc (l : List Tm) (k : Nat) (h : k < l.length) : Tm.mays (l.take (k + 1)) = (Tm.mays (l.take k) && (l[k]'h).may) := by
  rw [Tm.mays_all, Tm.mays_all, List.take_succ_eq_append_getElem h, List.all_append]; simp
theorem mays_hit (l : List Tm) (k : Nat) (h : k < l.length) (h1 : (l[k]'h).may = false) : Tm.mays l = false := by
  rw [Tm.mays_all, List.all_eq_false]
  exact ⟨l[k], List.getElem_mem h, by rw [h1]; simp⟩
theorem empty_tl (s : ByteArray) : s.toList.isEmpty = decide (s.data.toList = []) := by
  rw [ByteArray.toList_eq]
  cases s.data.toList <;> rfl

/-- The cells of a block just laid, behind a call that leaves what is old. -/
theorem bcell_alloc {w w1 : World} {C : Array Value} {t : TypeId} (hb : Below (w.alloc (.cells C t)).heap.size (w.alloc (.cells C t)) w1) :
    (∀ i, w1.cell? ⟨w.heap.size, i, none⟩ = C[i]?) ∧ (∀ i, w1.frozen? ⟨w.heap.size, i, none⟩ = (w.alloc (.cells C t)).frozen? ⟨w.heap.size, i, none⟩) := by
  have hlt : w.heap.size < (w.alloc (.cells C t)).heap.size := by simp
  exact ⟨fun i => (hb.cell (p := ⟨w.heap.size, i, none⟩) hlt).trans (World.cell?_alloc_at _ _ _ _ rfl), fun i => hb.frozen (p := ⟨w.heap.size, i, none⟩) hlt⟩

set_option maxRecDepth 100000 in
set_option maxHeartbeats 4000000 in
theorem ref_may_leaf (k n : Int) (s : ByteArray) (len : Nat) (ad : Option Addr) (cap : Nat) (w : World) (all : Bool) (hT : Tabs w) (hs : s.size ≤ maxLen) (hk4 : k ≠ 4) :
    Calls Tryd.prog 34 #[.agg #[.int .i64 k, .string s, .int .i64 n, .slice ad len cap]] w fun e w' => e = .returned (.bool (mayK k s n len all)) ∧ Below w.heap.size w w' := by
  have hC := fun w hT => ref_Check s w hs hT
  have HT := Lib.hid hT
  unfold mayK
  obtain ⟨b0, f0⟩ : ∃ b, s.toList.isEmpty = b := ⟨_, rfl⟩
  rw [← empty_tl s, f0]
  obtain ⟨ck, hck⟩ : ∃ c, checkL s.data.toList = c := ⟨_, rfl⟩
  rw [hck] at hC
  rw [hck]
  have HC := Lib.hid hC
  clear hC hT hck hs
  have hbw : ∀ o : Obj, Below w.heap.size w (w.alloc o) := fun o => (Below.refl _ w).alloc (Nat.le_refl _) _
  have HBW := Lib.hid hbw
  clear hbw
  by_cases h1 : k = 1
  · rw [if_pos h1]
    subst h1
    clear hk4
    by_cases hn : 0 ≤ n
    · rw [decide_eq_true hn]
      by_cases hz : len = 0
      · subst hz
        cases b0
        all_goals
          go_enter Tryd.func34, Tryd.ntmps34
          go_wp2_with fail
          go_ret
          exact ⟨rfl, HBW.out _⟩
      · rw [decide_eq_false hz]
        have ez : ((len : Int) == 0) = false := by simp; omega
        clear hz
        cases b0
        all_goals
          go_enter Tryd.func34, Tryd.ntmps34
          go_wp2_with fail
          go_ret
          exact ⟨rfl, HBW.out _⟩
    · rw [decide_eq_false hn]
      have hn' : n < 0 := by omega
      clear hn f0
      go_enter Tryd.func34, Tryd.ntmps34
      go_wp2_with fail
      go_ret
      exact ⟨rfl, HBW.out _⟩
  rw [if_neg h1]
  have e1 : (k == 1) = false := by simpa using h1
  by_cases h2 : k = 2
  · rw [if_pos h2]
    subst h2
    clear hk4 h1 f0
    by_cases hn : n = 0
    · rw [decide_eq_true hn]
      subst hn
      by_cases hz : len = 0
      · subst hz
        cases ck
        all_goals
          go_enter Tryd.func34, Tryd.ntmps34
          go_wp2_with fail
          refine (HC.out _ (HT.out.on (HBW.out _))).mono ?_
          rintro e w2 ⟨rfl, hb2⟩
          have hb := (HBW.out _).trans (hb2.mono (by simp))
          obtain ⟨hc, hf⟩ := bcell_alloc hb2
          clear hb2
          go_wp2_with fail
          go_ret
          exact ⟨rfl, hb⟩
      · rw [decide_eq_false hz]
        have ez : ((len : Int) == 0) = false := by simp; omega
        clear hz
        cases ck
        all_goals
          go_enter Tryd.func34, Tryd.ntmps34
          go_wp2_with fail
          refine (HC.out _ (HT.out.on (HBW.out _))).mono ?_
          rintro e w2 ⟨rfl, hb2⟩
          have hb := (HBW.out _).trans (hb2.mono (by simp))
          obtain ⟨hc, hf⟩ := bcell_alloc hb2
          clear hb2
          go_wp2_with fail
          go_ret
          exact ⟨rfl, hb⟩
    · rw [decide_eq_false hn]
      have en : (n == 0) = false := by simpa using hn
      clear hn
      go_enter Tryd.func34, Tryd.ntmps34
      go_wp2_with fail
      go_ret
      exact ⟨rfl, HBW.out _⟩
  rw [if_neg h2]
  have e2 : (k == 2) = false := by simpa using h2
  by_cases h3 : k = 3
  · rw [if_pos h3]
    subst h3
    clear hk4 h1 h2
    by_cases hz : len = 0
    · subst hz
      cases b0
      all_goals
        go_enter Tryd.func34, Tryd.ntmps34
        go_wp2_with fail
        go_ret
        exact ⟨rfl, HBW.out _⟩
    · rw [decide_eq_false hz]
      have ez : ((len : Int) == 0) = false := by simp; omega
      clear hz
      cases b0
      all_goals
        go_enter Tryd.func34, Tryd.ntmps34
        go_wp2_with fail
        go_ret
        exact ⟨rfl, HBW.out _⟩
  rw [if_neg h3, if_neg hk4]
  have e3 : (k == 3) = false := by simpa using h3
  have e4 : (k == 4) = false := by simpa using hk4
  clear h1 h2 h3 hk4 f0
  go_enter Tryd.func34, Tryd.ntmps34
  go_wp2_with fail
  go_ret
  exact ⟨rfl, HBW.out _⟩
set_option maxRecDepth 100000 in
set_option maxHeartbeats 4000000 in
theorem ref_may_no (n : Int) (s : ByteArray) (len : Nat) (ad : Option Addr) (cap : Nat) (w : World) (ck : Bool) (hT : Tabs w) (hC : ∀ w, Tabs w → Calls Tryd.prog 53 #[.string s] w fun e w' => e = .returned (.bool ck) ∧ Below w.heap.size w w')
    (h : n ≠ 0 ∨ (n = 0 ∧ ck = false) ∨ (n = 0 ∧ ck = true ∧ len < 1) ∨ (n = 0 ∧ ck = true ∧ 16 < len)) :
    Calls Tryd.prog 34 #[.agg #[.int .i64 4, .string s, .int .i64 n, .slice ad len cap]] w fun e w' => e = .returned (.bool false) ∧ Below w.heap.size w w' := by
  have HT := Lib.hid hT
  have HC := Lib.hid hC
  have HBW := Lib.hid (fun o : Obj => (Below.refl w.heap.size w).alloc (Nat.le_refl _) o)
  clear hT hC
  rcases h with h | ⟨rfl, rfl⟩ | ⟨rfl, rfl, h⟩ | ⟨rfl, rfl, h⟩
  · have en : (n != 0) = true := by simpa using h
    clear h
    go_enter Tryd.func34, Tryd.ntmps34
    go_wp2_with fail
    go_ret
    exact ⟨rfl, HBW.out _⟩
  · go_enter Tryd.func34, Tryd.ntmps34
    go_wp2_with fail
    refine (HC.out _ (HT.out.on (HBW.out _))).mono ?_
    rintro e w2 ⟨rfl, hb2⟩
    have hb := (HBW.out _).trans (hb2.mono (by simp))
    obtain ⟨hc, hf⟩ := bcell_alloc hb2
    clear hb2
    go_wp2_with fail
    go_ret
    exact ⟨rfl, hb⟩
  · obtain rfl : len = 0 := by omega
    clear h
    go_enter Tryd.func34, Tryd.ntmps34
    go_wp2_with fail
    refine (HC.out _ (HT.out.on (HBW.out _))).mono ?_
    rintro e w2 ⟨rfl, hb2⟩
    have hb := (HBW.out _).trans (hb2.mono (by simp))
    obtain ⟨hc, hf⟩ := bcell_alloc hb2
    clear hb2
    go_wp2_with fail
    go_ret
    exact ⟨rfl, hb⟩
  · have h' : (16 : Int) < (len : Int) := by omega
    go_enter Tryd.func34, Tryd.ntmps34
    go_wp2_with fail
    refine (HC.out _ (HT.out.on (HBW.out _))).mono ?_
    rintro e w2 ⟨rfl, hb2⟩
    have hb := (HBW.out _).trans (hb2.mono (by simp))
    obtain ⟨hc, hf⟩ := bcell_alloc hb2
    clear hb2
    go_wp2_with fail
    go_ret
    exact ⟨rfl, hb⟩

set_option maxRecDepth 100000 in
set_option maxHeartbeats 4000000 in
theorem ref_may (m : Nat) : ∀ (T : Tm) (ad : Option Addr) (cap : Nat) (w : World), T.size ≤ m → Tabs w → TmIn w T ad cap →
    Calls Tryd.prog 34 #[tmv T ad cap] w fun e w' => e = .returned (.bool T.may) ∧ Below w.heap.size w w' := by
  induction m with
  | zero => intro T ad cap w h; have := T.size_pos; omega
  | succ m ih =>
    intro T ad cap w hm hT hin
    have IH := Lib.hid ih
    clear ih
    rw [T.may_eq]
    by_cases hk4 : T.kind = 4
    · have hC := fun w hT => ref_Check T.name w hin.name hT
      have hmk : mayK T.kind T.name T.n T.args.length (Tm.mays T.args) = (decide (T.n = 0) && (checkL T.name.data.toList && (decide (1 ≤ T.args.length) && (decide (T.args.length ≤ 16) && Tm.mays T.args)))) := by
        unfold mayK
        rw [if_neg (by omega), if_neg (by omega), if_neg (by omega), if_pos hk4]
      rw [hmk]
      unfold tmv
      rw [hk4]
      clear hmk
      have no := fun h => ref_may_no T.n T.name T.args.length ad cap w (checkL T.name.data.toList) hT hC h
      by_cases hn : T.n = 0
      · cases hck : checkL T.name.data.toList with
        | false =>
          rw [hck] at no
          have h1 := no (.inr (.inl ⟨hn, rfl⟩))
          simpa using h1
        | true =>
          rw [hck] at no hC
          by_cases hl1 : T.args.length < 1
          · have h1 := no (.inr (.inr (.inl ⟨hn, rfl, hl1⟩)))
            rw [decide_eq_false (show ¬ 1 ≤ T.args.length by omega)]
            simpa using h1
          by_cases hl2 : 16 < T.args.length
          · have h1 := no (.inr (.inr (.inr ⟨hn, rfl, hl2⟩)))
            rw [decide_eq_false (show ¬ T.args.length ≤ 16 by omega)]
            simpa using h1
          rw [decide_eq_true hn, decide_eq_true (show 1 ≤ T.args.length by omega), decide_eq_true (show T.args.length ≤ 16 by omega), Bool.true_and, Bool.true_and, Bool.true_and, Bool.true_and, hn]
          obtain ⟨E, hE⟩ : ∃ E, Tm.mays T.args = E := ⟨_, rfl⟩
          rw [hE]
          have HE := Lib.hid hE
          have HC := Lib.hid hC
          have HT := Lib.hid hT
          have HI := Lib.hid hin
          have HSZ := Lib.hid T.size_eq
          have HBW := Lib.hid (fun o : Obj => (Below.refl w.heap.size w).alloc (Nat.le_refl _) o)
          have hcapl := hin.len
          have hg1 : (1 : Int) ≤ (T.args.length : Int) := by omega
          have hg2 : (T.args.length : Int) ≤ 16 := by omega
          clear no hC hT hin hE hck hl1 hl2 hn hk4
          go_enter Tryd.func34, Tryd.ntmps34
          go_wp2_with fail
          refine (HC.out _ (HT.out.on (HBW.out _))).mono ?_
          rintro e w2 ⟨rfl, hb2⟩
          have hb := (HBW.out _).trans (hb2.mono (by simp))
          obtain ⟨hc, hf⟩ := bcell_alloc hb2
          clear hb2
          go_wp2_with fail
          clear hc hf
          go_loopw [76] (fun iv wr => ∃ k : Nat, k ≤ T.args.length ∧ iv = .int .i64 k ∧ Below w.heap.size w wr ∧ Hid (Tm.mays (T.args.take k) = true)) (fun iv _ => T.args.length - (intOf iv).toNat)
          case atStart => exact ⟨0, Nat.zero_le _, rfl, hb, Lib.hid rfl⟩
          case round =>
            obtain ⟨k, hk, rfl, hbw, HB⟩ := hrel
            by_cases hlt : k < T.args.length
            · obtain ⟨b, o, rfl⟩ := HI.out.args.addr (by omega)
              obtain ⟨ad1, cap1, c0, c1, c2, c3, hin1⟩ := (HI.out.args.on hbw).get k hlt
              have hmem := Tm.mem_size (List.getElem_mem hlt)
              have hsn := Lib.hid (mays_snoc T.args k hlt)
              have hht := Lib.hid (mays_hit T.args k hlt)
              generalize T.args[k] = x at *
              have hxm : x.size ≤ m := by have := HSZ.out; omega
              have hF := IH.out x ad1 cap1 (wr.alloc (.cells #[.int .i64 x.kind, .string x.name, .int .i64 x.n, .slice ad1 x.args.length cap1] 25)) hxm (HT.out.on (hbw.alloc hbw.size _)) (hin1.on ((Below.refl _ wr).alloc (Nat.le_refl _) _))
              unfold tmv at hF
              cases hx : x.may with
              | false =>
                rw [hx] at hF
                have HF := Lib.hid hF
                have HR : Hid (E = false) := Lib.hid (HE.out.symm.trans (hht.out hx))
                clear hF hx hin1 hmem
                go_wp2_with fail
                refine HF.out.mono ?_
                rintro e w3 ⟨rfl, hb3⟩
                have hbw2 := (hbw.alloc hbw.size _).trans (hb3.mono (Nat.le_trans hbw.size (by simp)))
                clear hb3 hbw c0 c1 c2 c3
                go_wp2_with fail
                go_ret
                exact ⟨ret_bool HR.out.symm, hbw2⟩
              | true =>
                rw [hx] at hF
                have HF := Lib.hid hF
                have HN : Hid (Tm.mays (T.args.take (k + 1)) = true) := Lib.hid (by rw [hsn.out, HB.out, hx]; rfl)
                clear hF hx hin1 hmem
                go_wp2_with fail
                refine HF.out.mono ?_
                rintro e w3 ⟨rfl, hb3⟩
                have hbw2 := (hbw.alloc hbw.size _).trans (hb3.mono (Nat.le_trans hbw.size (by simp)))
                clear hb3 hbw c0 c1 c2 c3
                go_wp2_with fail
                go_roundw
                case rel => exact ⟨k + 1, by omega, by go_num, hbw2, HN⟩
                case measure => simp [intOf]; omega
            · have hR := HB.out
              rw [List.take_of_length_le (by omega)] at hR
              have HR : Hid (E = true) := Lib.hid (HE.out.symm.trans hR)
              clear hR HB
              go_wp2_with fail
              go_ret
              exact ⟨ret_bool HR.out.symm, hbw⟩
      · have h1 := no (.inl hn)
        rw [decide_eq_false hn, Bool.false_and]
        exact h1
    · unfold tmv
      exact ref_may_leaf T.kind T.n T.name T.args.length ad cap w (Tm.mays T.args) hT hin.name hk4

/-- Check's answer. -/
def Tm.chk (t : Tm) : Int := if t.may then (if 60 < t.deep then 3 else 0) else 30

set_option maxRecDepth 100000 in
set_option maxHeartbeats 2000000 in
theorem ref_TermCheck (T : Tm) (ad : Option Addr) (cap : Nat) (w : World) (hM : T.size ≤ 1000000) (hT : Tabs w) (hin : TmIn w T ad cap) :
    Calls Tryd.prog 18 #[tmv T ad cap] w fun e w' => e = .returned (.int .i64 T.chk) ∧ Below w.heap.size w w' := by
  have hb1 : ∀ o : Obj, Below w.heap.size w (w.alloc o) := fun o => (Below.refl _ w).alloc (Nat.le_refl _) o
  have hmay := fun o => ref_may T.size T ad cap (w.alloc o) (Nat.le_refl _) (hT.on (hb1 o)) (hin.on (hb1 o))
  have hdeep := fun w' hin => ref_Deep T.size T ad cap w' (Nat.le_refl _) hM hin
  have hdl := T.deep_le_size
  unfold Tm.chk
  have HI := Lib.hid hin
  have HBW := Lib.hid hb1
  cases hmy : T.may with
  | false =>
    rw [hmy] at hmay
    have HM := Lib.hid hmay
    clear hmay hdeep hmy hT hin hb1
    unfold tmv at *
    go_enter Tryd.func18, Tryd.ntmps18
    go_wp2_with fail
    refine (HM.out _).mono ?_
    rintro e w2 ⟨rfl, hb2⟩
    have hb := (HBW.out _).trans (hb2.mono (by simp))
    clear hb2
    go_wp2_with fail
    go_ret
    exact ⟨rfl, hb⟩
  | true =>
    rw [hmy] at hmay
    have HM := Lib.hid hmay
    have HD := Lib.hid hdeep
    clear hmay hdeep hmy hT hin hb1
    unfold tmv at *
    by_cases hd : 60 < T.deep
    · rw [if_pos rfl, if_pos hd]
      go_enter Tryd.func18, Tryd.ntmps18
      go_wp2_with fail
      refine (HM.out _).mono ?_
      rintro e w2 ⟨rfl, hb2⟩
      have hb := (HBW.out _).trans (hb2.mono (by simp))
      obtain ⟨hc, hf⟩ := bcell_alloc hb2
      clear hb2
      go_wp2_with fail
      refine (HD.out _ (HI.out.on hb)).mono ?_
      rintro e w3 ⟨rfl, hb3⟩
      have hbb := hb.trans (hb3.mono hb.size)
      clear hb3 hb hc hf
      go_wp2_with fail
      go_ret
      exact ⟨rfl, hbb⟩
    · rw [if_pos rfl, if_neg hd]
      have hd' : (T.deep : Int) ≤ 60 := by omega
      clear hd
      go_enter Tryd.func18, Tryd.ntmps18
      go_wp2_with fail
      refine (HM.out _).mono ?_
      rintro e w2 ⟨rfl, hb2⟩
      have hb := (HBW.out _).trans (hb2.mono (by simp))
      obtain ⟨hc, hf⟩ := bcell_alloc hb2
      clear hb2
      go_wp2_with fail
      refine (HD.out _ (HI.out.on hb)).mono ?_
      rintro e w3 ⟨rfl, hb3⟩
      have hbb := hb.trans (hb3.mono hb.size)
      clear hb3 hb hc hf
      go_wp2_with fail
      go_ret
      exact ⟨rfl, hbb⟩
end Go.Proofs.YtlpmofmhcnclhaaDoor
