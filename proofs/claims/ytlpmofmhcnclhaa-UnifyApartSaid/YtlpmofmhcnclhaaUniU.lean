/-
  The walk of the law UnifyApart (over stand-ins).
-/
import Derived.Test.YtlpmofmhcnclhaaUniV
namespace Go.Proofs.Ytlpmofmhcnclhaa
open Go.RowKit Go.Maps

theorem lookL_not {bs : Bds} {v : Int} (h : lookL bs v = none) : v ∉ bs.map Prod.fst := by
  induction bs with
  | nil => intro h; cases h
  | cons b bs ih =>
    obtain ⟨k, x⟩ := b
    have h' : (match lookL bs v with | some y => some y | none => if k = v then some x else none) = none := h
    cases hl : lookL bs v with
    | some y => rw [hl] at h'; cases h'
    | none =>
      rw [hl] at h'
      dsimp only at h'
      intro hm
      rcases List.mem_cons.1 hm with e | hm
      · rw [if_pos e.symm] at h'; cases h'
      · exact ih hl hm
theorem BdsAt.front {w : World} {P : Nat → Prop} {ad : Option Addr} {l1 l2 : Bds} (h : BdsAt w P ad (l1 ++ l2)) : BdsAt w P ad l1 := fun k hk => by
  have := h k (by rw [List.length_append]; omega)
  rw [List.getElem_append_left hk] at this
  exact this
theorem cells5V {w : World} {q : Nat} {a b c d e : Value} {t : TypeId} (h : w.heap[q]? = some (.cells #[a, b, c, d, e] t (0, 0))) : w.cell? ⟨q, 0, none⟩ = some a ∧ w.cell? ⟨q, 1, none⟩ = some b ∧ w.cell? ⟨q, 2, none⟩ = some c ∧ w.cell? ⟨q, 3, none⟩ = some d ∧ w.cell? ⟨q, 4, none⟩ = some e := by
  simp [World.cell?, h]
theorem num_lawU : Keyed Try.prog 2 := int_keyed Try.underlying2
theorem bool_zeroU (w : World) : (zeroValue 4).run Try.prog w = .ok (.bool false) w := by kernel_rfl
theorem num_wfU {a : Int} (h : In64 a) : (Lit.int .i64 a).wf = true := by
  have e1 : IntKind.i64.min = -9223372036854775808 := rfl
  have e2 : IntKind.i64.max = 9223372036854775807 := rfl
  simp [Lit.wf, e1, e2]
  exact h
/-- Block b is a map of at most n entries that holds just the numbers of l. -/
def MSet (w : World) (b n : Nat) (l : List Int) : Prop := ∃ D : DataW Unit, w.ownsMap Try.prog 2 (plainElem Try.prog 4) b n D ∧ IsMap D ∧ ∀ a, Maps.has D (.int .i64 a) = decide (a ∈ l)
theorem MSet.new (w : World) : MSet (w.alloc (.map #[] 0)) w.heap.size 0 [] :=
  ⟨.map [], World.ownsMap_made _ _ _ _, isMap_empty, fun a => by simp [has_eq]⟩
theorem MSet.at {w w' : World} {b n : Nat} {l : List Int} (h : MSet w b n l) (he : w'.heap[b]? = w.heap[b]?) : MSet w' b n l := by
  obtain ⟨D, ⟨es, clock, hb, F, hs, hD⟩, hH⟩ := h
  exact ⟨D, ⟨es, clock, he.trans hb, F, hs, hD⟩, hH⟩
theorem MSet.lt {w : World} {b n : Nat} {l : List Int} (h : MSet w b n l) : b < w.heap.size := by
  obtain ⟨D, ⟨es, clock, hb, F, hs, hD⟩, hH⟩ := h
  exact (Array.getElem?_eq_some_iff.1 hb).1
theorem has_put_set {D : DataW Unit} {l : List Int} (hI : IsMap D) (hH : ∀ a, Maps.has D (.int .i64 a) = decide (a ∈ l)) (a : Int) (d : DataW Unit) : ∀ a', Maps.has (D.put (.int .i64 a) d) (.int .i64 a') = decide (a' ∈ l ++ [a]) := fun a' => by
  by_cases e : a' = a
  · subst e
    rw [has_put_same hI (show WideAt.IsKeyLit (.int .i64 a') from trivial)]
    simp
  · rw [has_put_other (by intro e'; injection e'; contradiction), hH]
    simp [e]
theorem MSet.look {w : World} {b n : Nat} {l : List Int} (h : MSet w b n l) {a : Int} (ha : In64 a) (hn : a ∉ l) : (Instr.lookup 36 (.map (some b)) (.int .i64 a) false).run Try.prog w = .ok (.bool false) w := by
  obtain ⟨D, hown, hI, hH⟩ := h
  obtain ⟨v, ps, hrun, hv⟩ := hown.lookup num_lawU Try.underlying36 (bool_zeroU w) (plainElem_bool (H := Unit) Try.underlying4 false) (keyOf_int_mk Try.underlying2 (num_wfU ha))
  have hno : Maps.has D (.int .i64 a) = false := by rw [hH, decide_eq_false hn]
  rw [atKey_of_not_has hno] at hv
  have : v = .bool false := by
    unfold plainElem at hv
    rw [Try.underlying4] at hv
    cases v <;> simp at hv
    rename_i x
    obtain ⟨h1, _⟩ := hv
    rw [h1]
  rw [this] at hrun
  exact hrun
theorem Below.of_grown {w w' : World} {b n : Nat} (h : w.grownBy w' (some b)) (hn : n ≤ b) (hs : n ≤ w.heap.size) : Below n w w' :=
  (Below.refl n w).grown h hs (fun j hj => by cases hj; exact hn)

set_option maxRecDepth 100000 in
set_option maxHeartbeats 8000000 in
theorem walk_UnifyApart (bs : List (Int × Tm)) (ab : Option Addr) (cb : Nat) (x y : Tm) (ax : Option Addr) (cx : Nat) (ay : Option Addr) (cy : Nat) (w : World) (hl : bs.length ≤ cb) (hc : cb ≤ maxLen) (hb : BdsAt w (fun b => b < w.heap.size) ab bs) (hx : TmIn w x ax cx) (hy : TmIn w y ay cy) :
    Calls Try.prog 4 #[.slice ab bs.length cb, tmv x ax cx, tmv y ay cy] w fun e w' => e = .returned (.bool true) ∧ Below w.heap.size w w' := by
  have HL := Lib.hid (fun W => uni_live W)
  have HB0 := Lib.hid (fun o1 o2 : Obj => ((Below.refl w.heap.size w).alloc (Nat.le_refl _) o1).alloc (by simp) o2)
  have HXN := Lib.hid (fun W (h : Below w.heap.size w W) => hx.on h)
  have HYN := Lib.hid (fun W (h : Below w.heap.size w W) => hy.on h)
  have HBD := Lib.hid (fun W (h : Below w.heap.size w W) => hb.kept (w' := W) (Q := fun b => b < W.heap.size) (fun b _ hl => h.block b hl) fun b hb _ => Nat.lt_of_lt_of_le hb h.size)
  have HBG := Lib.hid (fun W (g : Nat) (h : Below w.heap.size w W) (ht : TArgs W (some ⟨g, 0, none⟩) [x, y]) => (show Calls Try.prog 6 #[.slice ab bs.length cb, .slice (some ⟨g, 0, none⟩) 2 2] W _ from law_big10 bs ab cb [x, y] (some ⟨g, 0, none⟩) 2 W (HBD.out W h) (Nat.le_refl 2) (by decide) ht))
  have HNO := Lib.hid (fun (h : bigB bs [x, y] = false) => bigB_no h)
  have HU1 := Lib.hid (fun W (hle : bs.length ≤ 100000) (hz : ∀ b ∈ bs, b.2.size ≤ 300) (hxs : x.size ≤ 3000) (hys : y.size ≤ 3000) (h : Below w.heap.size w W) => ub_Unify bs ab cb x y ax cx ay cy W hle hl hc (fun b hb => Nat.le_trans (hz b hb) (by decide)) (Nat.le_trans hxs (by decide)) (Nat.le_trans hys (by decide)) (HBD.out W h) (hx.on h) (hy.on h))
  have HUO := Lib.hid (uni_out _ bs 0 [(x, y)] (Nat.le_refl _) (Nat.zero_le _))
  have HNW := Lib.hid (fun (L : Bds) (n' : Nat) (h : uni bs 0 [(x, y)] = (some L, 0, n')) => uni_news _ bs L 0 n' [(x, y)] (Nat.le_refl _) (Nat.zero_le _) h)
  have HSZ := Lib.hid (fun (L : Bds) (n' : Nat) (hz : ∀ b ∈ bs, b.2.size ≤ 300) (hxs : x.size ≤ 3000) (hys : y.size ≤ 3000) (h : uni bs 0 [(x, y)] = (some L, 0, n')) => uni_sizes (M := 3000) (Nat.zero_le _) (fun p hp => Nat.le_trans (hz p hp) (by decide)) (fun p hp => by rw [List.mem_singleton.1 hp]; exact ⟨hxs, hys⟩) h)
  have HSB := Lib.hid (fun W (a1 : Option Addr) (k1 : Nat) (hle : bs.length ≤ 100000) (hz : ∀ b ∈ bs, b.2.size ≤ 300) (h : Below w.heap.size w W) (h1 : BdsAt W (fun b => b < W.heap.size) a1 bs) => r10_SameBinds bs a1 k1 ab cb W (fun b => b < W.heap.size) (fun b => b < W.heap.size) (by omega) (fun b hb => Nat.le_trans (hz b hb) (by decide)) h1 (HBD.out W h))
  clear hb hx hy
  generalize bigB bs [x, y] = bg at *
  generalize uni bs 0 [(x, y)] = r at *
  have hmm := @run_makeMap Try.prog
  unfold tmv at *
  go_enter Try.func4, Try.ntmps4
  go_wp2_with fail
  have qx := (Below.heap_alloc (w.alloc (.cells #[.int .i64 x.kind, .string x.name, .int .i64 x.n, .slice ax x.args.length cx] 25)) (.cells #[.int .i64 y.kind, .string y.name, .int .i64 y.n, .slice ay y.args.length cy] 25) w.heap.size (by simp)).trans (alloc_new w (.cells #[.int .i64 x.kind, .string x.name, .int .i64 x.n, .slice ax x.args.length cx] 25))
  have qy := alloc_new2 w (.cells #[.int .i64 x.kind, .string x.name, .int .i64 x.n, .slice ax x.args.length cx] 25) (.cells #[.int .i64 y.kind, .string y.name, .int .i64 y.n, .slice ay y.args.length cy] 25)
  refine (HL.out _).mono ?_; rintro e w1 ⟨rfl, hb⟩
  have HB1 := Lib.hid ((HB0.out _ _).trans (hb.mono (by simp <;> omega)))
  have HX1 := Lib.hid (keptR9 hb qx)
  have HY1 := Lib.hid (keptR9 hb qy)
  clear hb qx qy HB0 HL
  obtain ⟨c0, c1, c2, c3, _⟩ := cellsT HX1.out
  obtain ⟨d0, d1, d2, d3, _⟩ := cellsT HY1.out
  go_wp2_with fail
  generalize hw : w1.alloc (.cells #[.int .i64 x.kind, .string x.name, .int .i64 x.n, .slice ax x.args.length cx, .int .i64 y.kind, .string y.name, .int .i64 y.n, .slice ay y.args.length cy] 25) = w1a
  have HR1 : Hid (TArgs w1a (some ⟨w1.heap.size, 0, none⟩) [x, y]) := Lib.hid (by rw [← hw]; exact rowS2 (HXN.out _ HB1.out) (HYN.out _ HB1.out) _ rfl)
  have hb1a : Below w1.heap.size w1 w1a := by rw [← hw]; exact (Below.refl _ _).alloc (Nat.le_refl _) _
  have HB1a := Lib.hid (HB1.out.trans (hb1a.mono HB1.out.size))
  have HX1a := Lib.hid (keptR9 hb1a HX1.out)
  have HY1a := Lib.hid (keptR9 hb1a HY1.out)
  clear hw hb1a c0 c1 c2 c3 d0 d1 d2 d3 HX1 HY1 HB1
  refine (HBG.out _ _ HB1a.out HR1.out).mono ?_; rintro e w2 ⟨rfl, hb2⟩
  have HB2 := Lib.hid (HB1a.out.trans (hb2.mono HB1a.out.size))
  have HX2 := Lib.hid (keptR9 hb2 HX1a.out)
  have HY2 := Lib.hid (keptR9 hb2 HY1a.out)
  clear hb2 HX1a HY1a HR1 HB1a HBG
  cases bg with
  | true =>
    go_wp2_with fail
    go_ret
    exact ⟨rfl, HB2.out⟩
  | false =>
    obtain ⟨hn1, hn2, hn3⟩ := HNO.out rfl
    have hle : bs.length ≤ 100000 := by omega
    have HXS : Hid (x.size ≤ 3000) := Lib.hid (hn3 x (by simp))
    have HYS : Hid (y.size ≤ 3000) := Lib.hid (hn3 y (by simp))
    have HZ2 := Lib.hid hn2
    have HLE := Lib.hid hn1
    clear hn1 hn2 hn3 HNO
    obtain ⟨c0, c1, c2, c3, _⟩ := cellsT HX2.out
    obtain ⟨d0, d1, d2, d3, _⟩ := cellsT HY2.out
    go_wp2_with fail
    refine (HU1.out _ hle HZ2.out HXS.out HYS.out HB2.out).mono ?_; rintro e w4 ⟨v1, rfl, hv1, hb4⟩
    have HB4 := Lib.hid (HB2.out.trans (hb4.mono HB2.out.size))
    have HV1 := Lib.hid hv1.at
    clear hv1 HU1
    clear hb4 c0 c1 c2 c3 d0 d1 d2 d3 HX2 HY2 HB2
    rcases HUO.out with ⟨L, n', rfl, _, hn'⟩ | ⟨n', rfl, _⟩ | rfl
    · obtain ⟨news, hLn, hnew⟩ := HNW.out L n' rfl
      have hll : L.length ≤ 3000 := by have h1 := (HSZ.out L n' HZ2.out HXS.out HYS.out rfl).2.1; have h2 := HLE.out; omega
      obtain ⟨a1, k1, rfl, hl1, hc1, hbl⟩ := HV1.out
      dsimp only [Option.getD, Option.isSome] at hl1 hc1 hbl ⊢
      have hlb : bs.length ≤ L.length := by rw [hLn, List.length_append]; omega
      have HFR := Lib.hid ((show BdsAt w4 (fun b => b < w4.heap.size) a1 (bs ++ news) from hLn ▸ hbl).front)
      have HBL : Hid (∀ W, Below w4.heap.size w4 W → BdsAt W (fun b => b < w4.heap.size) a1 L) := Lib.hid (fun W h => hbl.kept (fun b _ hl => h.block b hl) fun b hb _ => hb)
      have HNOT : Hid (∀ k (hk : k < L.length), bs.length ≤ k → L[k].1 ∉ (L.take k).map Prod.fst) := Lib.hid (fun k hk hbk => by
        subst hLn
        obtain ⟨i, rfl⟩ : ∃ i, k = bs.length + i := ⟨k - bs.length, by omega⟩
        have hi : i < news.length := by rw [List.length_append] at hk; omega
        have h := lookL_not (hnew i hi)
        have e1 : (bs ++ news)[bs.length + i] = news[i] := by rw [List.getElem_append_right (by omega)]; simp
        have e2 : (bs ++ news).take (bs.length + i) = bs ++ news.take i := by rw [List.take_append, List.take_of_length_le (by omega)]; simp
        rw [e1, e2]; exact h)
      have HS := Lib.hid (HSB.out w4 a1 k1 hle HZ2.out HB4.out HFR.out)
      clear HV1 HUO HNW HSZ hnew hLn hbl HSB HFR
      unfold maxLen at hc1
      have hdec : decide ((L.length : Int) < (bs.length : Int)) = false := decide_eq_false (by omega)
      have hdecN : decide (L.length < bs.length) = false := decide_eq_false (by omega)
      go_wp2_with fail
      refine HS.out.mono ?_; rintro e w5 ⟨rfl, hb5⟩
      have HB5 := Lib.hid (HB4.out.trans (hb5.mono HB4.out.size))
      have HB45 := Lib.hid hb5
      clear hb5 HS
      go_wp2_with fail
      go_loopw [54] (fun iv wr => ∃ k : Nat, k ≤ L.length ∧ iv = .int .i64 k ∧ Below w5.heap.size w5 wr ∧ MSet wr w5.heap.size k ((L.take k).map Prod.fst)) (fun iv _ => L.length - (intOf iv).toNat)
      case atStart => exact ⟨0, Nat.zero_le _, rfl, (Below.refl _ _).alloc (Nat.le_refl _) _, MSet.new w5⟩
      case round =>
        obtain ⟨k, hk, rfl, hbw, hset⟩ := hrel
        have hwrs := hbw.size
        have hltm := hset.lt
        have hw5s := HB5.out.size
        have hw45 := HB45.out.size
        by_cases hlt : k < L.length
        · obtain ⟨b, o, a2, c2, rfl, hPb, hi64, hp, x0, x1, x2, x3, x4⟩ := HBL.out wr (HB45.out.trans (hbw.mono hw45)) k hlt
          have HST : Hid ((L.take (k + 1)).map Prod.fst = (L.take k).map Prod.fst ++ [L[k].1]) := Lib.hid (by rw [List.take_succ_eq_append_getElem hlt, List.map_append]; rfl)
          have HNK : Hid (bs.length ≤ k → L[k].1 ∉ (L.take k).map Prod.fst) := Lib.hid (fun h => HNOT.out k hlt h)
          have HSET := Lib.hid hset
          have HI := Lib.hid hi64
          have hk0 : (0 : Int) ≤ (k : Int) := by omega
          have hk1 : (k : Int) < (L.length : Int) := by omega
          clear hp hset hi64
          generalize (L.take k).map Prod.fst = l at *
          generalize L[k] = X at *
          obtain ⟨xv, x⟩ := X
          dsimp only at *
          go_upto_region 13 with fail
          have hb6 : Below wr.heap.size wr (wr.alloc (.cells #[.int .i64 xv, .int .i64 x.kind, .string x.name, .int .i64 x.n, .slice a2 x.args.length c2] 34)) := (Below.refl _ _).alloc (Nat.le_refl _) _
          have hq6 := alloc_new wr (.cells #[.int .i64 xv, .int .i64 x.kind, .string x.name, .int .i64 x.n, .slice a2 x.args.length c2] 34)
          generalize wr.alloc (.cells #[.int .i64 xv, .int .i64 x.kind, .string x.name, .int .i64 x.n, .slice a2 x.args.length c2] 34) = w6 at *
          have hset6 := HSET.out.at (hb6.block _ hltm)
          have HB56 := Lib.hid (hbw.trans (hb6.mono hwrs))
          clear hbw HSET x0 x1 x2 x3 x4
          obtain ⟨e0, _, _, _, _⟩ := cells5V hq6
          have hka := keyOf_int_mk Try.underlying2 (num_wfU HI.out)
          have hva := plainElem_bool (H := Unit) Try.underlying4 true
          have hkc : k < 10000000 := by omega
          obtain ⟨D, hown, hI, hH⟩ := id hset6
          have HH := Lib.hid (has_put_set hI hH xv (.lit (.bool true)))
          have HIP := Lib.hid (hI.put (.int .i64 xv) (.lit (.bool true)))
          clear hI hH
          by_cases hge : bs.length ≤ k
          · have HLK := hset6.look HI.out (HNK.out hge)
            have h1 : decide ((bs.length : Int) ≤ (k : Int)) = true := decide_eq_true (by omega)
            clear hset6
            go_wp2_with (first
              | (at_mapUpdate; refine wpList_mapUpdate_own _ rfl _ _ _ 36 rfl 2 4 num_lawU Try.underlying36 _ w5.heap.size k D rfl hown (by unfold maxLen; omega) _ _ _ rfl rfl hka _ [] hva ?_; intro w7 hown7 hgrow7)
              | fail)
            go_roundw
            case rel => exact ⟨k + 1, by omega, by go_num, HB56.out.trans (Below.of_grown hgrow7 (Nat.le_refl _) HB56.out.size), by rw [HST.out]; exact ⟨_, hown7, HIP.out, HH.out⟩⟩
            case measure => simp [intOf]; omega
          · have h1 : decide ((bs.length : Int) ≤ (k : Int)) = false := decide_eq_false (by omega)
            clear hset6
            go_wp2_with (first
              | (at_mapUpdate; refine wpList_mapUpdate_own _ rfl _ _ _ 36 rfl 2 4 num_lawU Try.underlying36 _ w5.heap.size k D rfl hown (by unfold maxLen; omega) _ _ _ rfl rfl hka _ [] hva ?_; intro w7 hown7 hgrow7)
              | fail)
            go_roundw
            case rel => exact ⟨k + 1, by omega, by go_num, HB56.out.trans (Below.of_grown hgrow7 (Nat.le_refl _) HB56.out.size), by rw [HST.out]; exact ⟨_, hown7, HIP.out, HH.out⟩⟩
            case measure => simp [intOf]; omega
        · go_wp2_with fail
          go_ret
          exact ⟨rfl, HB5.out.trans (hbw.mono hw5s)⟩
    · obtain ⟨a1, k1, rfl, _⟩ := HV1.out
      dsimp only [Option.getD, Option.isSome]
      go_wp2_with fail
      go_ret
      exact ⟨rfl, HB4.out⟩
    · obtain ⟨a1, k1, rfl, _⟩ := HV1.out
      dsimp only [Option.getD, Option.isSome]
      go_wp2_with fail
      go_ret
      exact ⟨rfl, HB4.out⟩
end Go.Proofs.Ytlpmofmhcnclhaa
