/-
  The contract of the document's own Names for ops, and the walk of the law OpsTells.
-/
import Derived.Test.YtfkkembjlahjfaaOpsJ
import Derived.Test.YtfkkembjlahjfaaOpsD
namespace Go.Proofs.Ytfkkembjlahjfaa
open Go.RowKit

theorem rows_names : rows10.flatMap Q.ns = tabR.map R.n := by rfl
theorem names_flat (k : Nat) (h : k < rows10.length) : (rows10.drop k).flatMap Q.ns = (rows10[k]'h).ns.drop 0 ++ (rows10.drop (k + 1)).flatMap Q.ns := by
  rw [List.drop_eq_getElem_cons h, List.flatMap_cons]; rfl
def hasT (l : List ByteArray) (n : ByteArray) : Bool := l.any fun k => k.toList == n.toList
theorem hasT_eq (l : List ByteArray) (n : ByteArray) : hasT l n = hasS l n := by
  unfold hasT hasS
  congr 1
  funext k
  rw [Bool.eq_iff_iff]
  simp only [beq_iff_eq]
  exact ⟨Eq.symm, Eq.symm⟩
theorem hasT_snoc (l : List ByteArray) (n : ByteArray) (k : Nat) (h : k < l.length) : hasT (l.take (k + 1)) n = (hasT (l.take k) n || ((l[k]'h).toList == n.toList)) := by
  unfold hasT
  rw [List.take_succ_eq_append_getElem h, List.any_append]; simp
theorem names_in (ns : List ByteArray) (j : Nat) (h : j < ns.length) (rest out : List ByteArray) : namesGo out (ns.drop j ++ rest) = if hasS out (ns[j]'h) then namesGo out (ns.drop (j + 1) ++ rest) else namesGo (out ++ [ns[j]'h]) (ns.drop (j + 1) ++ rest) := by
  rw [List.drop_eq_getElem_cons h]; rfl

set_option maxRecDepth 100000 in
set_option maxHeartbeats 8000000 in
theorem ref_Names (w : World) :
    Calls Try.prog 14 #[] w fun e w' => ∃ v, e = .returned v ∧ OwnStrs w.heap.size w' v namesL ∧ Below w.heap.size w w' := by
  obtain ⟨E, hE⟩ : ∃ E, namesL = E := ⟨_, rfl⟩
  rw [hE]
  have HE : Hid (namesGo [] ((rows10.drop 0).flatMap Q.ns) = E) := Lib.hid (by rw [← hE]; show namesGo [] (rows10.flatMap Q.ns) = _; rw [rows_names]; rfl)
  obtain ⟨i0, hi, hz0, hz1, hz2⟩ := info_parts infoStr
  clear hE
  go_enter Try.func14, Try.ntmps14
  go_wp2_with fail
  refine (ref_Rows _).mono ?_
  rintro e w1 ⟨g, rfl, hrows, hbw1⟩
  have HR := Lib.hid hrows
  have HS1 := Lib.hid hbw1.size
  clear hrows
  go_wp2_with fail
  go_loopw [1, 11] (fun ov iv wr => ∃ (k : Nat) (out : List ByteArray), k ≤ 10 ∧ iv = .int .i64 k ∧ out.length ≤ 16 * k ∧ Below w1.heap.size w1 wr ∧ OwnStrs w1.heap.size wr ov out ∧ Hid (namesGo out ((rows10.drop k).flatMap Q.ns) = E)) (fun _ iv _ => 10 - (intOf iv).toNat)
  case atStart => exact ⟨0, [], Nat.zero_le _, rfl, Nat.le_refl _, Below.refl _ _, World.ownsRow_nil _ _ _ _, HE⟩
  case round =>
    obtain ⟨k, out, hk, rfl, hol, hbw, hown, HG⟩ := hrel
    have hws := hbw.size
    by_cases hlt : k < 10
    · have hr := HR.out k hlt
      have hfl := names_flat k hlt
      have hn16 := ns_len k hlt
      generalize rows10[k] = q at *
      have HRQ := Lib.hid hr
      obtain ⟨h, c0', c1', c2', hst⟩ := hr
      have c0 := (hbw.cell (p := ⟨g, k * 3, none⟩) (World.block_lt_of_cell? w1 _ c0')).trans c0'
      have c1 := (hbw.cell (p := ⟨g, k * 3 + 1, none⟩) (World.block_lt_of_cell? w1 _ c1')).trans c1'
      have c2 := (hbw.cell (p := ⟨g, k * 3 + 2, none⟩) (World.block_lt_of_cell? w1 _ c2')).trans c2'
      have HFL : Hid (namesGo out (q.ns.drop 0 ++ (rows10.drop (k + 1)).flatMap Q.ns) = E) := Lib.hid (by rw [← hfl]; exact HG.out)
      have HST := Lib.hid hst
      have hi0 : (0 : Int) ≤ (k : Int) := by omega
      have hi1 : (k : Int) < 10 := by omega
      have hb3 : Below w1.heap.size w1 (wr.alloc (.cells #[.int .i64 q.p, .string q.k, .slice (some ⟨h, 0, none⟩) q.ns.length q.ns.length] 43)) := hbw.alloc hws _
      have hown3 : OwnStrs w1.heap.size (wr.alloc (.cells #[.int .i64 q.p, .string q.k, .slice (some ⟨h, 0, none⟩) q.ns.length q.ns.length] 43)) u1 out := hown.below ((Below.refl _ _).alloc (Nat.le_refl _) _)
      clear hfl hst HG c0' c1' c2' HRQ
      go_wp2_with fail
      generalize wr.alloc _ = w3 at *
      clear c0 c1 c2 hbw hown hws
      go_loopw [1, 18] (fun ov jv wr2 => ∃ (j : Nat) (out2 : List ByteArray), j ≤ q.ns.length ∧ jv = .int .i64 j ∧ out2.length ≤ 16 * k + j ∧ Below w1.heap.size w1 wr2 ∧ OwnStrs w1.heap.size wr2 ov out2 ∧ Hid (namesGo out2 (q.ns.drop j ++ (rows10.drop (k + 1)).flatMap Q.ns) = E)) (fun _ jv _ => q.ns.length - (intOf jv).toNat)
      case atStart => exact ⟨0, out, Nat.zero_le _, rfl, by omega, hb3, hown3, HFL⟩
      case round =>
        obtain ⟨j, out2, hj, rfl, hol2, hbw2, hown2, HJ⟩ := hrel
        have hws2 := hbw2.size
        by_cases hjl : j < q.ns.length
        · have d0 := (HST.out.on hbw2) j hjl
          have hst2 := names_in q.ns j hjl ((rows10.drop (k + 1)).flatMap Q.ns) out2
          rw [HJ.out] at hst2
          generalize q.ns[j] = x at *
          have hj0 : (0 : Int) ≤ (j : Int) := by omega
          have hj1 : (j : Int) < (q.ns.length : Int) := by omega
          have HO2 := Lib.hid hown2
          have HST3 := Lib.hid hst2
          have HB2 := Lib.hid hbw2
          obtain ⟨ad, cap, rfl, hlc, hcm, hcell⟩ := hown2.view
          have HC := Lib.hid hcell
          unfold maxLen at hcm
          clear hown2 hst2 hcell hb3 hown3 HFL
          have hlen2 : out2.length ≤ 200 := by omega
          go_wp2_with fail
          go_loop [6, 24] (fun hv iv => ∃ i : Nat, i ≤ out2.length ∧ iv = .int .i64 i ∧ hv = .bool (hasT (out2.take i) x)) (fun _ iv => out2.length - (intOf iv).toNat)
          case atStart => exact ⟨0, Nat.zero_le _, rfl, rfl⟩
          case round =>
            obtain ⟨i, hil, rfl, rfl⟩ := hrel
            by_cases hil2 : i < out2.length
            · obtain ⟨g2, rfl, f0⟩ := HC.out i hil2
              have HSN := Lib.hid (hasT_snoc out2 x i hil2)
              generalize out2[i] = y at *
              have hi20 : (0 : Int) ≤ (i : Int) := by omega
              have hi21 : (i : Int) < (out2.length : Int) := by omega
              generalize hasT (out2.take i) x = bb at *
              cases bb with
              | true =>
                go_wp2_with fail
                go_round
                case rel => exact ⟨i + 1, by omega, by go_num, by rw [HSN.out]; rfl⟩
                case measure => simp [intOf]; omega
              | false =>
                cases ey : (y.toList == x.toList) with
                | true =>
                  rw [ey] at HSN
                  go_wp2_with fail
                  go_round
                  case rel => exact ⟨i + 1, by omega, by go_num, by rw [HSN.out]; rfl⟩
                  case measure => simp [intOf]; omega
                | false =>
                  rw [ey] at HSN
                  go_wp2_with fail
                  go_round
                  case rel => exact ⟨i + 1, by omega, by go_num, by rw [HSN.out]; rfl⟩
                  case measure => simp [intOf]; omega
            · have hst2 := HST3.out
              rw [List.take_of_length_le (by omega), hasT_eq]
              clear HST3 HC
              cases hx : hasS out2 x with
              | true =>
                rw [hx, if_pos rfl] at hst2
                have HN := Lib.hid hst2.symm
                clear hst2 hx
                go_wp2_with fail
                go_roundw
                case rel => exact ⟨j + 1, out2, by omega, by go_num, by omega, HB2.out, HO2.out, HN⟩
                case measure => simp [intOf]; omega
              | false =>
                rw [hx, if_neg (by decide)] at hst2
                have HN := Lib.hid hst2.symm
                clear hst2 hx
                go_wp2_with (first
                  | (at_builtin; refine wpList_append_own _ rfl _ _ 28 rfl w1.heap.size 9 i0 (.string ⟨#[]⟩) 1 16 Try.underlying28 hi hz0 hz1 hz2 rfl (by decide) _ _ _ rfl (World.ownsRow.alloc HO2.out _) ⟨wr.heap.size, 0, none⟩ 1 1 [.string x] rfl rfl ?k1 ?k2 ?k3 ?k4 ?k5 ?_))
                case k2 => rfl
                case k3 => unfold maxLen; omega
                case k4 => omega
                case k5 => omega
                intro v3 w4 hown4 hgrow _
                have hown5 : OwnStrs w1.heap.size w4 v3 (out2 ++ [x]) := OwnStrs.snoc hown4 (by rw [List.length_append]; rfl) rfl
                have hbw4 : Below w1.heap.size w1 w4 := (HB2.out.alloc hws2 _).grown hgrow (by rw [World.size_alloc]; omega) (fun i hi => (World.ownsRow.lt HO2.out i hi).1)
                clear hown4 hgrow
                go_wp2
                go_roundw
                case rel => exact ⟨j + 1, out2 ++ [x], by omega, by go_num, by rw [List.length_append, List.length_singleton]; omega, hbw4, hown5, HN⟩
                case measure => simp [intOf]; omega
        · have hN := HJ.out
          rw [List.drop_eq_nil_of_le (by omega), List.nil_append] at hN
          have HN := Lib.hid hN
          clear hN HJ
          go_wp2_with fail
          go_roundw
          case rel => exact ⟨k + 1, out2, by omega, by go_num, by omega, hbw2, hown2, HN⟩
          case measure => simp [intOf]; omega
    · have hR := HG.out
      rw [List.drop_eq_nil_of_le (by rw [rows_len]; omega)] at hR
      have HV : Hid (out = E) := Lib.hid hR
      clear hR HG
      go_wp2_with fail
      go_ret
      exact ⟨_, rfl, by rw [← HV.out]; exact OwnStrs.mono hown HS1.out, hbw1.trans (hbw.mono HS1.out)⟩
end Go.Proofs.Ytfkkembjlahjfaa
