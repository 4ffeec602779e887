/-
  The contracts of the document's own find, Prefix, Infix and SameNames for ops.
-/
import Derived.Test.YtfkkembjlahjfaaOpsI
namespace Go.Proofs.Ytfkkembjlahjfaa
open Go.RowKit

theorem rows_len : rows10.length = 10 := rfl
theorem findR_none {l : List R} {name : ByteArray} {n : Int} (h : l = []) : findR l name n = none := by subst h; rfl
theorem find_in (q : Q) (j : Nat) (h : j < q.ns.length) (rest : List R) (name : ByteArray) (n : Int) :
    findR (((q.ns.drop j).map fun x => (⟨q.p, q.k, x⟩ : R)) ++ rest) name n = if ((q.ns[j]'h).toList == name.toList && (q.k.size : Int) == n) then some ⟨q.p, q.k, q.ns[j]'h⟩ else findR (((q.ns.drop (j + 1)).map fun x => (⟨q.p, q.k, x⟩ : R)) ++ rest) name n := by
  rw [List.drop_eq_getElem_cons h]
  show List.find? _ (_ :: _) = _
  rw [List.find?_cons]
  show (match ((q.ns[j]'h).toList == name.toList && (q.k.size : Int) == n) with | true => _ | false => _) = _
  cases ((q.ns[j]'h).toList == name.toList && (q.k.size : Int) == n) <;> rfl
theorem flat_drop (k : Nat) (h : k < rows10.length) : (rows10.drop k).flatMap Q.rs = (((rows10[k]'h).ns.drop 0).map fun x => (⟨(rows10[k]'h).p, (rows10[k]'h).k, x⟩ : R)) ++ (rows10.drop (k + 1)).flatMap Q.rs := by
  rw [List.drop_eq_getElem_cons h, List.flatMap_cons]; rfl
theorem ns_len (k : Nat) (h : k < rows10.length) : (rows10[k]'h).ns.length ≤ 16 := by
  have h1 : rows10.all (fun q => decide (q.ns.length ≤ 16)) = true := by decide +kernel
  simpa using List.all_eq_true.1 h1 _ (List.getElem_mem h)

set_option maxRecDepth 100000 in
set_option maxHeartbeats 4000000 in
theorem ref_find (name : ByteArray) (n : Int) (w : World) :
    Calls Try.prog 20 #[.string name, .int .i64 n] w fun e w' => e = .returned (opAns (findR tabR name n)) ∧ Below w.heap.size w w' := by
  have HB := Lib.hid (fun o : Obj => (Below.refl w.heap.size w).alloc (Nat.le_refl _) o)
  obtain ⟨E, hE⟩ : ∃ E, findR tabR name n = E := ⟨_, rfl⟩
  rw [hE]
  have HE : Hid (findR ((rows10.drop 0).flatMap Q.rs) name n = E) := Lib.hid (by rw [← hE, ← rows_flat]; rfl)
  clear hE
  go_enter Try.func20, Try.ntmps20
  go_wp2_with fail
  refine (ref_Rows _).mono ?_
  rintro e w1 ⟨g, rfl, hrows, hb1⟩
  have hbw1 := (HB.out _).trans (hb1.mono (by simp))
  have hs1 := hb1.size
  rw [World.size_alloc] at hs1
  have hz := op_made hb1
  have HZ : Hid (∀ W, Below w1.heap.size w1 W → W.cell? ⟨w.heap.size, 0, none⟩ = some (.int .i64 0) ∧ W.cell? ⟨w.heap.size, 1, none⟩ = some (.string ⟨#[]⟩) ∧ W.frozen? ⟨w.heap.size, 0, none⟩ = false ∧ W.frozen? ⟨w.heap.size, 1, none⟩ = false) := Lib.hid (fun W hb => by
    obtain ⟨hc, hf⟩ := bcell hb
    rw [hc _ _ (by omega), hc _ _ (by omega), hf _ _ (by omega), hf _ _ (by omega)]
    exact hz)
  have HR := Lib.hid hrows
  clear hz hrows hb1
  go_wp2_with fail
  go_loopw [12] (fun iv wr => ∃ k : Nat, k ≤ 10 ∧ iv = .int .i64 k ∧ Below w1.heap.size w1 wr ∧ Hid (findR ((rows10.drop k).flatMap Q.rs) name n = E)) (fun iv _ => 10 - (intOf iv).toNat)
  case atStart => exact ⟨0, Nat.zero_le _, rfl, Below.refl _ _, HE⟩
  case round =>
    obtain ⟨k, hk, rfl, hbw, HG⟩ := hrel
    obtain ⟨z0, z1, g0, g1⟩ := HZ.out wr hbw
    have hws := hbw.size
    by_cases hlt : k < 10
    · have hr := (HR.out k hlt).on hbw
      have hfl := flat_drop k hlt
      have hn16 := ns_len k hlt
      generalize rows10[k] = q at *
      obtain ⟨h, c0, c1, c2, hst⟩ := hr
      have HFL : Hid (findR (((q.ns.drop 0).map fun x => (⟨q.p, q.k, x⟩ : R)) ++ (rows10.drop (k + 1)).flatMap Q.rs) name n = E) := Lib.hid (by rw [← hfl]; exact HG.out)
      have HST := Lib.hid hst
      have hi0 : (0 : Int) ≤ (k : Int) := by omega
      have hi1 : (k : Int) < 10 := by omega
      clear hfl hst HG
      go_wp2_with fail
      go_loop [19] (fun jv => ∃ j : Nat, j ≤ q.ns.length ∧ jv = .int .i64 j ∧ Hid (findR (((q.ns.drop j).map fun x => (⟨q.p, q.k, x⟩ : R)) ++ (rows10.drop (k + 1)).flatMap Q.rs) name n = E)) (fun jv => q.ns.length - (intOf jv).toNat)
      case atStart => exact ⟨0, Nat.zero_le _, rfl, HFL⟩
      case round =>
        obtain ⟨j, hj, rfl, HJ⟩ := hrel
        by_cases hjl : j < q.ns.length
        · have d0 := HST.out j hjl
          have hhl := World.block_lt_of_cell? wr _ d0
          have HST2 := Lib.hid (find_in q j hjl ((rows10.drop (k + 1)).flatMap Q.rs) name n)
          generalize q.ns[j] = x at *
          have hj0 : (0 : Int) ≤ (j : Int) := by omega
          have hj1 : (j : Int) < (q.ns.length : Int) := by omega
          cases e1 : (x.toList == name.toList) with
          | false =>
            have HN : Hid (findR (((q.ns.drop (j + 1)).map fun x => (⟨q.p, q.k, x⟩ : R)) ++ (rows10.drop (k + 1)).flatMap Q.rs) name n = E) := Lib.hid (by rw [← HJ.out, HST2.out, e1]; rfl)
            go_wp2_with fail
            go_round
            case rel => exact ⟨j + 1, by omega, by go_num, HN⟩
            case measure => simp [intOf]; omega
          | true =>
            cases e2 : ((q.k.size : Int) == n) with
            | false =>
              have HN : Hid (findR (((q.ns.drop (j + 1)).map fun x => (⟨q.p, q.k, x⟩ : R)) ++ (rows10.drop (k + 1)).flatMap Q.rs) name n = E) := Lib.hid (by rw [← HJ.out, HST2.out, e1, e2]; rfl)
              go_wp2_with fail
              go_round
              case rel => exact ⟨j + 1, by omega, by go_num, HN⟩
              case measure => simp [intOf]; omega
            | true =>
              have HV : Hid (E = some ⟨q.p, q.k, x⟩) := Lib.hid (by rw [← HJ.out, HST2.out, e1, e2]; rfl)
              have hlt2 : w.heap.size < wr.heap.size := by omega
              go_wp2_with fail
              refine bodyPost_ret (v := .tuple #[.agg #[.int .i64 q.p, .string q.k], .bool true]) (by simp [results, Try.results20, go_sem, hlt2, z0, z1]) rfl ⟨by rw [HV.out]; rfl, ?_⟩
              have hb3 : Below w.heap.size w wr := hbw1.trans (hbw.mono hbw1.size)
              have hb4 := (hb3.setCell (p := ⟨w.heap.size, 0, none⟩) (Nat.le_refl _) (.int .i64 q.p)).setCell (p := ⟨w.heap.size, 1, none⟩) (Nat.le_refl _) (.string q.k)
              exact hb4.alloc hb4.size _
        · have hN := HJ.out
          rw [List.drop_eq_nil_of_le (by omega), List.map_nil, List.nil_append] at hN
          have HN := Lib.hid hN
          clear hN HJ
          go_wp2_with fail
          go_roundw
          case rel => exact ⟨k + 1, by omega, by go_num, hbw.alloc hws _, HN⟩
          case measure => simp [intOf]; omega
    · have hN := HG.out
      rw [List.drop_eq_nil_of_le (by rw [rows_len]; omega)] at hN
      have HV : Hid (E = none) := Lib.hid hN.symm
      clear hN HG
      go_wp2_with fail
      refine bodyPost_ret (v := .tuple #[.agg #[.int .i64 0, .string ⟨#[]⟩], .bool false]) (by simp [results, Try.results20, go_sem, z0, z1]) rfl ⟨by rw [HV.out]; rfl, ?_⟩
      have hb3 : Below w.heap.size w wr := hbw1.trans (hbw.mono hbw1.size)
      exact (hb3.setCell (Nat.le_refl _) _).setCell (Nat.le_refl _) _

set_option maxHeartbeats 1000000 in
theorem ref_Prefix (name : ByteArray) (w : World) :
    Calls Try.prog 8 #[.string name] w fun e w' => e = .returned (opAns (findR tabR name 2)) ∧ Below w.heap.size w w' := by
  have HB := Lib.hid (fun o : Obj => (Below.refl w.heap.size w).alloc (Nat.le_refl _) o)
  have HF := Lib.hid (fun W => ref_find name 2 W)
  generalize findR tabR name 2 = E at *
  cases E with
  | none =>
    unfold opAns at *
    go_enter Try.func8, Try.ntmps8
    go_wp2_with fail
    refine (HF.out _).mono ?_
    rintro e w1 ⟨rfl, hb1⟩
    have hbw1 := (HB.out _).trans (hb1.mono (by simp))
    obtain ⟨z0, z1, g0, g1⟩ := op_made hb1
    clear hb1
    go_wp2_with fail
    exact bodyPost_ret (v := .tuple #[.agg #[.int .i64 0, .string ⟨#[]⟩], .bool false]) (by simp [results, Try.results8, go_sem, z0, z1]) rfl ⟨rfl, (hbw1.setCell (Nat.le_refl _) _).setCell (Nat.le_refl _) _⟩
  | some r =>
    unfold opAns at *
    go_enter Try.func8, Try.ntmps8
    go_wp2_with fail
    refine (HF.out _).mono ?_
    rintro e w1 ⟨rfl, hb1⟩
    have hbw1 := (HB.out _).trans (hb1.mono (by simp))
    obtain ⟨z0, z1, g0, g1⟩ := op_made hb1
    clear hb1
    go_wp2_with fail
    exact bodyPost_ret (v := .tuple #[.agg #[.int .i64 r.p, .string r.k], .bool true]) (by simp [results, Try.results8, go_sem, z0, z1]) rfl ⟨rfl, (hbw1.setCell (Nat.le_refl _) _).setCell (Nat.le_refl _) _⟩

set_option maxHeartbeats 1000000 in
theorem ref_Infix (name : ByteArray) (w : World) :
    Calls Try.prog 10 #[.string name] w fun e w' => e = .returned (opAns (findR tabR name 3)) ∧ Below w.heap.size w w' := by
  have HB := Lib.hid (fun o : Obj => (Below.refl w.heap.size w).alloc (Nat.le_refl _) o)
  have HF := Lib.hid (fun W => ref_find name 3 W)
  generalize findR tabR name 3 = E at *
  cases E with
  | none =>
    unfold opAns at *
    go_enter Try.func10, Try.ntmps10
    go_wp2_with fail
    refine (HF.out _).mono ?_
    rintro e w1 ⟨rfl, hb1⟩
    have hbw1 := (HB.out _).trans (hb1.mono (by simp))
    obtain ⟨z0, z1, g0, g1⟩ := op_made hb1
    clear hb1
    go_wp2_with fail
    exact bodyPost_ret (v := .tuple #[.agg #[.int .i64 0, .string ⟨#[]⟩], .bool false]) (by simp [results, Try.results10, go_sem, z0, z1]) rfl ⟨rfl, (hbw1.setCell (Nat.le_refl _) _).setCell (Nat.le_refl _) _⟩
  | some r =>
    unfold opAns at *
    go_enter Try.func10, Try.ntmps10
    go_wp2_with fail
    refine (HF.out _).mono ?_
    rintro e w1 ⟨rfl, hb1⟩
    have hbw1 := (HB.out _).trans (hb1.mono (by simp))
    obtain ⟨z0, z1, g0, g1⟩ := op_made hb1
    clear hb1
    go_wp2_with fail
    exact bodyPost_ret (v := .tuple #[.agg #[.int .i64 r.p, .string r.k], .bool true]) (by simp [results, Try.results10, go_sem, z0, z1]) rfl ⟨rfl, (hbw1.setCell (Nat.le_refl _) _).setCell (Nat.le_refl _) _⟩

set_option maxHeartbeats 2000000 in
theorem ref_SameNames (l r : List ByteArray) (v u : Value) (B C : Nat) (w : World) (h : OwnStrs B w v l) (h2 : OwnStrs C w u r) (hlen : l.length ≤ 1000000000) (he : l = r) :
    Calls Try.prog 12 #[v, u] w fun e w' => e = .returned (.bool true) ∧ Below w.heap.size w w' := by
  subst he
  obtain ⟨ad, cap, rfl, hlc, _, hcell⟩ := h.view
  obtain ⟨bd, cbp, rfl, hrc, _, hcell2⟩ := h2.view
  have HC := Lib.hid hcell
  have HD := Lib.hid hcell2
  clear h h2 hcell hcell2
  have eL : ((l.length : Int) != (l.length : Int)) = false := by simp
  go_enter Try.func12, Try.ntmps12
  go_wp2_with fail
  clear eL
  go_loopw [13] (fun iv wr => ∃ k : Nat, k ≤ l.length ∧ iv = .int .i64 k ∧ Below w.heap.size w wr) (fun iv _ => l.length - (intOf iv).toNat)
  case atStart => exact ⟨0, Nat.zero_le _, rfl, Below.refl _ _⟩
  case round =>
    obtain ⟨k, hk, rfl, hbw⟩ := hrel
    by_cases hlt : k < l.length
    · obtain ⟨g, rfl, c0⟩ := HC.out k hlt
      obtain ⟨g2, rfl, d0⟩ := HD.out k hlt
      have c1 := (hbw.cell (p := ⟨g, k, none⟩) (World.block_lt_of_cell? w _ c0)).trans c0
      have d1 := (hbw.cell (p := ⟨g2, k, none⟩) (World.block_lt_of_cell? w _ d0)).trans d0
      generalize l[k] = x at *
      have hk0 : (0 : Int) ≤ (k : Int) := by omega
      have hk1 : (k : Int) < (l.length : Int) := by omega
      clear c0 d0
      go_wp2_with fail
      go_quiet (fail)
      go_wp2_with fail
      go_roundw
      case rel => exact ⟨k + 1, by omega, by go_num, below_drewN hbw _⟩
      case measure => simp [intOf]; omega
    · go_wp2_with fail
      go_ret
      exact ⟨rfl, hbw⟩
end Go.Proofs.Ytfkkembjlahjfaa
