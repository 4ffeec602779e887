/-
  The walk of the law TokenJoins.
-/
import Derived.Test.YtglaoacdenecfaaDoorTokS
import Derived.Test.YtglaoacdenecfaaDoorTokJoin
namespace Go.Proofs.YtglaoacdenecfaaDoor
open Go.RowKit

/-- What Cut answers of any text, as far as nobody looks into it. -/
theorem cut_any (s : ByteArray) (W : World) (hT : TabsT W) : Calls Tryd.prog 10 #[.string s] W fun e w' => (∃ o n c p er, e = .returned (.tuple #[.slice o n c, .int .i64 p, .int .i64 er])) ∧ Below W.heap.size W w' := by
  refine (token_Cut s W hT).mono ?_
  rintro e w' ⟨h, hb⟩
  refine ⟨?_, hb⟩
  rcases h with ⟨_, h⟩ | ⟨_, ⟨o, _, h⟩ | ⟨T, v, _, h, ho⟩⟩
  · exact ⟨_, _, _, _, _, h⟩
  · exact ⟨_, _, _, _, _, h⟩
  · obtain ⟨ad, cap, rfl, _⟩ := ho.view
    exact ⟨_, _, _, _, _, h⟩
/-- A text that is refused. -/
def Refused (s : ByteArray) : Prop := ∃ p er : Int, (er != 0) = true ∧ ∀ W, TabsT W → Calls Tryd.prog 10 #[.string s] W fun e w' => e = .returned (.tuple #[.slice none 0 0, .int .i64 p, .int .i64 er]) ∧ Below W.heap.size W w'
theorem refused_or (s : ByteArray) : Refused s ∨ ∃ T, s.data.toList.length ≤ 4096 ∧ cutL s.data.toList 0 false = .good T := by
  by_cases hl : 4096 < s.data.toList.length
  · exact .inl ⟨0, 2, by decide, fun W h => cut_long hl s rfl W h⟩
  · cases hc : cutL s.data.toList 0 false with
    | bad o => exact .inl ⟨(o : Nat), 50, by decide, fun W h => cut_refused (by omega) hc s rfl W h⟩
    | good T => exact .inr ⟨T, by omega, rfl⟩

set_option maxRecDepth 100000 in
set_option maxHeartbeats 4000000 in
theorem joins_no1 (a b : ByteArray) (w : World) (hT : TabsT w) (h : Refused a) :
    Calls Tryd.prog 8 #[.string a, .string b] w fun e w' => e = .returned (.bool true) ∧ Below w.heap.size w w' := by
  have HT := Lib.hid hT
  have HL := Lib.hid (tok_live w hT)
  obtain ⟨p, er, her, hC⟩ := h
  have H1 := Lib.hid hC
  have H2 := Lib.hid (fun W h => cut_any b W h)
  clear hT hC
  go_enter Tryd.func8, Tryd.ntmps8
  go_wp2_with fail
  refine HL.out.mono ?_; rintro e w1 ⟨rfl, hb1⟩
  go_wp2_with fail
  refine (H1.out _ (HT.out.on hb1)).mono ?_; rintro e w2 ⟨rfl, hb2⟩
  have hb := hb1.trans (hb2.mono hb1.size)
  clear hb1 hb2
  go_wp2_with fail
  refine (H2.out _ (HT.out.on hb)).mono ?_; rintro e w3 ⟨⟨o, n, c, p2, er2, rfl⟩, hb3⟩
  have hbw := hb.trans (hb3.mono hb.size)
  clear hb hb3
  go_wp2_with fail
  go_ret
  exact ⟨rfl, hbw⟩

set_option maxRecDepth 100000 in
set_option maxHeartbeats 4000000 in
theorem joins_no2 (a b : ByteArray) (w : World) (hT : TabsT w) (T : List Tok) (hl : a.data.toList.length ≤ 4096) (hc : cutL a.data.toList 0 false = .good T) (h : Refused b) :
    Calls Tryd.prog 8 #[.string a, .string b] w fun e w' => e = .returned (.bool true) ∧ Below w.heap.size w w' := by
  have HT := Lib.hid hT
  have HL := Lib.hid (tok_live w hT)
  obtain ⟨p, er, her, hC⟩ := h
  have H2 := Lib.hid hC
  have H1 := Lib.hid (fun W h => cut_good hl hc a rfl W h)
  clear hT hC
  go_enter Tryd.func8, Tryd.ntmps8
  go_wp2_with fail
  refine HL.out.mono ?_; rintro e w1 ⟨rfl, hb1⟩
  go_wp2_with fail
  refine (H1.out _ (HT.out.on hb1)).mono ?_; rintro e w2 ⟨v, rfl, ho, hb2⟩
  have hb := hb1.trans (hb2.mono hb1.size)
  obtain ⟨ad, cap, rfl, _⟩ := ho.view
  clear hb1 hb2 ho
  go_wp2_with fail
  refine (H2.out _ (HT.out.on hb)).mono ?_; rintro e w3 ⟨rfl, hb3⟩
  have hbw := hb.trans (hb3.mono hb.size)
  clear hb hb3
  go_wp2_with fail
  go_ret
  exact ⟨rfl, hbw⟩

set_option maxRecDepth 100000 in
set_option maxHeartbeats 4000000 in
theorem joins_no3 (a b : ByteArray) (w : World) (hT : TabsT w) (T U : List Tok) (hl : a.data.toList.length ≤ 4096) (hc : cutL a.data.toList 0 false = .good T) (hl2 : b.data.toList.length ≤ 4096) (hc2 : cutL b.data.toList 0 false = .good U)
    (hbig : (2000 : Int) < (a.size : Int) ∨ ((a.size : Int) ≤ 2000 ∧ (2000 : Int) < (b.size : Int))) :
    Calls Tryd.prog 8 #[.string a, .string b] w fun e w' => e = .returned (.bool true) ∧ Below w.heap.size w w' := by
  have HT := Lib.hid hT
  have HL := Lib.hid (tok_live w hT)
  have H1 := Lib.hid (fun W h => cut_good hl hc a rfl W h)
  have H2 := Lib.hid (fun W h => cut_good hl2 hc2 b rfl W h)
  clear hT hl hc hl2 hc2
  rcases hbig with g1 | ⟨g1, g2⟩
  all_goals
    go_enter Tryd.func8, Tryd.ntmps8
    go_wp2_with fail
    refine HL.out.mono ?_; rintro e w1 ⟨rfl, hb1⟩
    go_wp2_with fail
    refine (H1.out _ (HT.out.on hb1)).mono ?_; rintro e w2 ⟨v, rfl, ho, hb2⟩
    have hb := hb1.trans (hb2.mono hb1.size)
    obtain ⟨ad, cap, rfl, _⟩ := ho.view
    clear hb1 hb2 ho
    go_wp2_with fail
    refine (H2.out _ (HT.out.on hb)).mono ?_; rintro e w3 ⟨v2, rfl, ho2, hb3⟩
    obtain ⟨ad2, cap2, rfl, _⟩ := ho2.view
    have hbw := hb.trans (hb3.mono hb.size)
    clear hb hb3 ho2
    go_wp2_with fail
    go_ret
    exact ⟨rfl, hbw⟩

set_option maxRecDepth 100000 in
set_option maxHeartbeats 8000000 in
theorem joins_good (a b : ByteArray) (w : World) (hT : TabsT w) (T U : List Tok) (ha : a.size ≤ 2000) (hb0 : b.size ≤ 2000) (hc : cutL a.data.toList 0 false = .good T) (hc2 : cutL b.data.toList 0 false = .good U) :
    Calls Tryd.prog 8 #[.string a, .string b] w fun e w' => e = .returned (.bool true) ∧ Below w.heap.size w w' := by
  have HT := Lib.hid hT
  have HL := Lib.hid (tok_live w hT)
  have H1 := Lib.hid (fun W h => cut_good (by rw [size_listT]; omega) hc a rfl W h)
  have H2 := Lib.hid (fun W h => cut_good (by rw [size_listT]; omega) hc2 b rfl W h)
  have hcat : (a ++ ⟨#[10]⟩ ++ b : ByteArray).data.toList = a.data.toList ++ 10 :: b.data.toList := by
    rw [ByteArray.data_append, ByteArray.data_append, Array.toList_append, Array.toList_append]; simp
  have hj := cut_join b.data.toList hc
  have hs := cutL_shift b.data.toList (a.size + 1) 0 false
  rw [Nat.zero_add, hc2] at hs
  rw [Nat.zero_add, size_listT, hs] at hj
  have hj2 : cutL (a.data.toList ++ 10 :: b.data.toList) 0 false = .good (T.dropLast ++ U.map (Tok.sh (a.size + 1))) := hj
  have hlj : (a.data.toList ++ 10 :: b.data.toList).length ≤ 4096 := by rw [List.length_append, List.length_cons, size_listT, size_listT]; omega
  have H3 := Lib.hid (fun W h => cut_good hlj hj2 (a ++ ⟨#[10]⟩ ++ b) hcat W h)
  have hne := cut_ne hc
  have hm1 := cut_many hc
  have hm2 := cut_many hc2
  rw [size_listT] at hm1 hm2
  have HIN := Lib.hid (cut_in hc2)
  obtain ⟨N, hN⟩ : ∃ N, T.length = N + 1 := ⟨T.length - 1, by have := List.length_pos_iff.2 hne; omega⟩
  have hdl : T.dropLast.length = N := by rw [List.length_dropLast]; omega
  clear hT hc hc2 hcat hj hs hj2 hlj hne
  go_enter Tryd.func8, Tryd.ntmps8
  go_wp2_with fail
  refine HL.out.mono ?_; rintro e w1 ⟨rfl, hb1⟩
  go_wp2_with fail
  refine (H1.out _ (HT.out.on hb1)).mono ?_; rintro e w2 ⟨v, rfl, ho, hb2⟩
  have hb := hb1.trans (hb2.mono hb1.size)
  have ho1 := ho
  obtain ⟨ad, cap, rfl, hlc, hcm, hcell⟩ := ho.view
  rw [hN] at hlc ⊢
  clear hb1 hb2
  go_wp2_with fail
  refine (H2.out _ (HT.out.on hb)).mono ?_; rintro e w3 ⟨v2, rfl, ho2, hb3⟩
  obtain ⟨ad2, cap2, rfl, hlc2, hcm2, hcell2⟩ := ho2.view
  have hbw := hb.trans (hb3.mono hb.size)
  have ho3 := ho1.below hb3
  clear hb ho1 ho
  have hN0 : ((N : Int) + 1 == 0) = false := by simp; omega
  go_wp2_with fail
  refine (H3.out _ (HT.out.on hbw)).mono ?_; rintro e w4 ⟨v3, rfl, hz, hb4⟩
  have hbw4 := hbw.trans (hb4.mono hbw.size)
  have ho4 := ho3.below hb4
  have hu4 := ho2.below hb4
  clear hbw hb3 ho3 ho2 hcell hcell2
  obtain ⟨i0, hi, hz0, hz1, hz2⟩ := info_parts infoTok
  obtain ⟨ad', cap', hva, _, _, hcT⟩ := ho4.view
  obtain ⟨g, hg, _, _⟩ := hcT 0 (by omega)
  injection hva with hva1 _ _
  rw [hg] at hva1
  subst hva1
  obtain ⟨ad3, cap3', hvu, _, _, hcU⟩ := hu4.view
  injection hvu with hvu1 _ _
  subst hvu1
  have HU := Lib.hid hcU
  have HT4 := Lib.hid ho4
  unfold maxLen at hcm hcm2
  clear hcU hcT ho4 hu4 hg
  by_cases hN1 : N = 0
  · subst hN1
    have hd0 : T.dropLast = [] := List.eq_nil_of_length_eq_zero hdl
    go_wp2_with fail
    go_loopw [15, 70] (fun wv iv wr => ∃ k : Nat, k ≤ U.length ∧ iv = .int .i64 (k : Nat) ∧ Below w4.heap.size w4 wr ∧ OwnToks w4.heap.size wr wv (T.dropLast ++ (U.take k).map (Tok.sh (a.size + 1)))) (fun _ iv _ => U.length - (intOf iv).toNat)
    case atStart => exact ⟨0, Nat.zero_le _, rfl, Below.refl _ _, by rw [hd0, List.take_zero]; exact World.ownsRow_nil _ _ _ _⟩
    case round =>
      obtain ⟨k, hk, rfl, hbr, hw⟩ := hrel
      have hws := hbr.size
      by_cases hlt : k < U.length
      · obtain ⟨g2, rfl, _, hat⟩ := HU.out k hlt
        obtain ⟨c0, c1, c2, c3⟩ := hat.on hbr
        have hin := (HIN.out _ (List.getElem_mem hlt)).2
        rw [size_listT] at hin
        have htk : T.dropLast ++ (U.take (k + 1)).map (Tok.sh (a.size + 1)) = (T.dropLast ++ (U.take k).map (Tok.sh (a.size + 1))) ++ [(U[k]).sh (a.size + 1)] := by
          rw [List.take_succ_eq_append_getElem hlt, List.map_append, List.append_assoc]; rfl
        have HTK := Lib.hid htk
        have hlw : (T.dropLast ++ (U.take k).map (Tok.sh (a.size + 1))).length ≤ 5000 := by
          rw [List.length_append, List.length_map, List.length_take, hdl]; omega
        have HT4 : Hid (tok4 ((U[k]).sh (a.size + 1)) = [.int .i64 (U[k]).kind, .string ⟨(U[k]).text.toArray⟩, .int .i64 (U[k]).n, .int .i64 (((U[k]).pos : Int) + ((a.size : Int) + 1))]) := Lib.hid (by
          show [_, _, _, Value.int .i64 (((U[k]).pos + (a.size + 1) : Nat) : Int)] = _
          rw [show (((U[k]).pos + (a.size + 1) : Nat) : Int) = ((U[k]).pos : Int) + ((a.size : Int) + 1) from by omega]; rfl)
        have HW := Lib.hid hw
        have hk0 : (0 : Int) ≤ (k : Int) := by omega
        have hk1 : (k : Int) < (U.length : Int) := by omega
        clear hat htk hw
        generalize (T.dropLast ++ (U.take k).map (Tok.sh (a.size + 1))) = L at *
        generalize hx : U[k] = x at *
        clear hx
        generalize hxs : x.sh (a.size + 1) = xs at *
        clear hxs
        generalize (⟨x.text.toArray⟩ : ByteArray) = u at *
        generalize x.pos = p at *
        generalize x.kind = kd at *
        generalize x.n = xn at *
        have hp0 : (0 : Int) ≤ (p : Int) := by omega
        have hp1 : (p : Int) ≤ 2000 := by omega
        go_wp2_with (first
          | (at_builtin; refine wpList_append_lies _ rfl _ _ 23 rfl w4.heap.size 30 i0 (.agg #[.int .i64 0, .string ⟨#[]⟩, .int .i64 0, .int .i64 0]) 4 40 Tryd.underlying23 hi hz0 hz1 hz2 rfl (by decide) _ _ _ rfl (World.ownsRow.alloc (World.ownsRow.alloc HW.out _) _) ⟨wr.heap.size + 1, 0, none⟩ 1 1 [.int .i64 kd, .string u, .int .i64 xn, .int .i64 ((p : Int) + ((a.size : Int) + 1))] rfl rfl ?c1 ?c2 (by decide) ?c3 ?c4 ?c5 _ rfl ?_))
        case c1 =>
          intro j y hj
          match j, hj with
          | 0, hj => simp at hj; subst hj; simp [Addr.add]
          | 1, hj => simp at hj; subst hj; simp [Addr.add]
          | 2, hj => simp at hj; subst hj; simp [Addr.add]
          | 3, hj => simp at hj; subst hj; simp [Addr.add]
        case c2 => intro y hy; simp at hy; rcases hy with rfl | rfl | rfl | rfl <;> rfl
        case c3 => unfold maxLen; omega
        case c4 => omega
        case c5 => simp; omega
        intro g3 cap3 w5 hown5 hgrow _ _
        have hown6 : OwnToks w4.heap.size w5 (.slice (some ⟨g3, 0, none⟩) (L.length + 1) cap3) (L ++ [xs]) := by
          unfold OwnToks
          rw [List.length_append, tokCells_append]
          have e : tokCells [xs] = tok4 xs := by show tok4 xs ++ [] = _; rw [List.append_nil]
          rw [e, HT4.out]
          exact hown5
        have hb5 : Below w4.heap.size w4 w5 := ((hbr.alloc hws _).alloc (by simp; omega) _).grown hgrow (by simp; omega) (fun i hi => (World.ownsRow.lt HW.out i hi).1)
        clear hown5 hgrow
        go_wp2_with fail
        go_roundw
        case rel => exact ⟨k + 1, by omega, by go_num, hb5, by rw [HTK.out]; exact hown6⟩
        case measure => simp [intOf]; omega
      · obtain rfl : k = U.length := by omega
        rw [List.take_length] at hw
        have HS := Lib.hid (ref_Same _ _ _ wr (hz.below hbr).seen hw.seen)
        clear hw
        go_wp2_with fail
        refine HS.out.mono ?_; rintro e w6 ⟨rfl, hb6⟩
        have hb7 := hbw4.trans ((hbr.trans (hb6.mono hws)).mono hbw4.size)
        clear hb6
        go_wp2_with fail
        go_ret
        exact ⟨rfl, hb7⟩
  · have hNp : (0 : Int) < (N : Int) := by omega
    have hNe : ((N : Int) == 0) = false := by simp; omega
    have HNW : Hid (∀ j u, (tokCells T.dropLast)[j]? = some u → w4.cell? ((⟨g, 0, none⟩ : Addr).add j) = some u) := Lib.hid (fun j u hj => by
      have hjl : j < (tokCells T.dropLast).length := by
        apply Classical.byContradiction
        intro h
        rw [List.getElem?_eq_none (by omega)] at hj; cases hj
      rw [tokCells_length, hdl] at hjl
      have h9 := HT4.out
      unfold OwnToks at h9
      have h10 := World.ownsRow.cellAt h9 j (by omega)
      have hsp : tokCells T = tokCells T.dropLast ++ tokCells [T.getLast (by intro e; rw [e] at hN; cases hN)] := by
        rw [← tokCells_append, List.dropLast_concat_getLast]
      rw [show ((⟨g, 0, none⟩ : Addr).add j) = ⟨g, j, none⟩ from by unfold Addr.add; split <;> simp_all]
      rw [h10, hsp, List.getElem?_append_left (by rw [tokCells_length, hdl]; omega), hj])
    go_wp2_with (first
      | (at_builtin; (refine wpList_append_lies _ rfl _ _ 23 rfl w4.heap.size 30 i0 (.agg #[.int .i64 0, .string ⟨#[]⟩, .int .i64 0, .int .i64 0]) 4 40 Tryd.underlying23 hi hz0 hz1 hz2 rfl (by decide) _ 0 [] rfl (World.ownsRow_nil _ _ _ _) ⟨g, 0, none⟩ N _ (tokCells T.dropLast) rfl ?c0 ?c1 ?c2 ?c6 ?c3 ?c4 ?c5 _ rfl ?_)))
    case c0 => rw [tokCells_length, hdl]; omega
    case c1 => exact HNW.out
    case c2 =>
      intro y hy
      unfold tokCells at hy
      obtain ⟨t, _, ht⟩ := List.mem_flatMap.1 hy
      unfold tok4 at ht
      simp at ht
      rcases ht with rfl | rfl | rfl | rfl <;> rfl
    case c6 => omega
    case c3 => unfold maxLen; omega
    case c4 => omega
    case c5 => exact Nat.le_refl _
    intro g5 cap5 w5 hown5 hgrow _ _
    have hownW : OwnToks w4.heap.size w5 (.slice (some ⟨g5, 0, none⟩) N cap5) T.dropLast := by
      unfold OwnToks
      rw [hdl]
      exact hown5
    have hb5 : Below w4.heap.size w4 w5 := (Below.refl _ w4).grown hgrow (Nat.le_refl _) (fun i hi => by cases hi)
    clear hown5 hgrow
    go_wp2_with fail
    go_loopw [15, 70] (fun wv iv wr => ∃ k : Nat, k ≤ U.length ∧ iv = .int .i64 (k : Nat) ∧ Below w4.heap.size w4 wr ∧ OwnToks w4.heap.size wr wv (T.dropLast ++ (U.take k).map (Tok.sh (a.size + 1)))) (fun _ iv _ => U.length - (intOf iv).toNat)
    case atStart => exact ⟨0, Nat.zero_le _, rfl, hb5, by rw [List.take_zero, List.map_nil, List.append_nil]; exact hownW⟩
    case round =>
      obtain ⟨k, hk, rfl, hbr, hw⟩ := hrel
      have hws := hbr.size
      by_cases hlt : k < U.length
      · obtain ⟨g2, rfl, _, hat⟩ := HU.out k hlt
        obtain ⟨c0, c1, c2, c3⟩ := hat.on hbr
        have hin := (HIN.out _ (List.getElem_mem hlt)).2
        rw [size_listT] at hin
        have htk : T.dropLast ++ (U.take (k + 1)).map (Tok.sh (a.size + 1)) = (T.dropLast ++ (U.take k).map (Tok.sh (a.size + 1))) ++ [(U[k]).sh (a.size + 1)] := by
          rw [List.take_succ_eq_append_getElem hlt, List.map_append, List.append_assoc]; rfl
        have HTK := Lib.hid htk
        have hlw : (T.dropLast ++ (U.take k).map (Tok.sh (a.size + 1))).length ≤ 5000 := by
          rw [List.length_append, List.length_map, List.length_take, hdl]; omega
        have HT4 : Hid (tok4 ((U[k]).sh (a.size + 1)) = [.int .i64 (U[k]).kind, .string ⟨(U[k]).text.toArray⟩, .int .i64 (U[k]).n, .int .i64 (((U[k]).pos : Int) + ((a.size : Int) + 1))]) := Lib.hid (by
          show [_, _, _, Value.int .i64 (((U[k]).pos + (a.size + 1) : Nat) : Int)] = _
          rw [show (((U[k]).pos + (a.size + 1) : Nat) : Int) = ((U[k]).pos : Int) + ((a.size : Int) + 1) from by omega]; rfl)
        have HW := Lib.hid hw
        have hk0 : (0 : Int) ≤ (k : Int) := by omega
        have hk1 : (k : Int) < (U.length : Int) := by omega
        clear hat htk hw
        generalize (T.dropLast ++ (U.take k).map (Tok.sh (a.size + 1))) = L at *
        generalize hx : U[k] = x at *
        clear hx
        generalize hxs : x.sh (a.size + 1) = xs at *
        clear hxs
        generalize (⟨x.text.toArray⟩ : ByteArray) = u at *
        generalize x.pos = p at *
        generalize x.kind = kd at *
        generalize x.n = xn at *
        have hp0 : (0 : Int) ≤ (p : Int) := by omega
        have hp1 : (p : Int) ≤ 2000 := by omega
        go_wp2_with (first
          | (at_builtin; refine wpList_append_lies _ rfl _ _ 23 rfl w4.heap.size 30 i0 (.agg #[.int .i64 0, .string ⟨#[]⟩, .int .i64 0, .int .i64 0]) 4 40 Tryd.underlying23 hi hz0 hz1 hz2 rfl (by decide) _ _ _ rfl (World.ownsRow.alloc (World.ownsRow.alloc HW.out _) _) ⟨wr.heap.size + 1, 0, none⟩ 1 1 [.int .i64 kd, .string u, .int .i64 xn, .int .i64 ((p : Int) + ((a.size : Int) + 1))] rfl rfl ?c1 ?c2 (by decide) ?c3 ?c4 ?c5 _ rfl ?_))
        case c1 =>
          intro j y hj
          match j, hj with
          | 0, hj => simp at hj; subst hj; simp [Addr.add]
          | 1, hj => simp at hj; subst hj; simp [Addr.add]
          | 2, hj => simp at hj; subst hj; simp [Addr.add]
          | 3, hj => simp at hj; subst hj; simp [Addr.add]
        case c2 => intro y hy; simp at hy; rcases hy with rfl | rfl | rfl | rfl <;> rfl
        case c3 => unfold maxLen; omega
        case c4 => omega
        case c5 => simp; omega
        intro g3 cap3 w5 hown5 hgrow _ _
        have hown6 : OwnToks w4.heap.size w5 (.slice (some ⟨g3, 0, none⟩) (L.length + 1) cap3) (L ++ [xs]) := by
          unfold OwnToks
          rw [List.length_append, tokCells_append]
          have e : tokCells [xs] = tok4 xs := by show tok4 xs ++ [] = _; rw [List.append_nil]
          rw [e, HT4.out]
          exact hown5
        have hb5 : Below w4.heap.size w4 w5 := ((hbr.alloc hws _).alloc (by simp; omega) _).grown hgrow (by simp; omega) (fun i hi => (World.ownsRow.lt HW.out i hi).1)
        clear hown5 hgrow
        go_wp2_with fail
        go_roundw
        case rel => exact ⟨k + 1, by omega, by go_num, hb5, by rw [HTK.out]; exact hown6⟩
        case measure => simp [intOf]; omega
      · obtain rfl : k = U.length := by omega
        rw [List.take_length] at hw
        have HS := Lib.hid (ref_Same _ _ _ wr (hz.below hbr).seen hw.seen)
        clear hw
        go_wp2_with fail
        refine HS.out.mono ?_; rintro e w6 ⟨rfl, hb6⟩
        have hb7 := hbw4.trans ((hbr.trans (hb6.mono hws)).mono hbw4.size)
        clear hb6
        go_wp2_with fail
        go_ret
        exact ⟨rfl, hb7⟩
theorem walk_TokenJoins (a b : ByteArray) (w : World) (hT : TabsT w) :
    Calls Tryd.prog 8 #[.string a, .string b] w fun e w' => e = .returned (.bool true) ∧ Below w.heap.size w w' := by
  rcases refused_or a with h | ⟨T, hl, hc⟩
  · exact joins_no1 a b w hT h
  rcases refused_or b with h | ⟨U, hl2, hc2⟩
  · exact joins_no2 a b w hT T hl hc h
  by_cases h1 : a.size ≤ 2000
  · by_cases h2 : b.size ≤ 2000
    · exact joins_good a b w hT T U h1 h2 hc hc2
    · exact joins_no3 a b w hT T U hl hc hl2 hc2 (.inr ⟨by omega, by omega⟩)
  · exact joins_no3 a b w hT T U hl hc hl2 hc2 (.inl (by omega))
end Go.Proofs.YtglaoacdenecfaaDoor
