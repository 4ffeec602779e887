/-
  The walk of the law TermSizes, and a parameter that is a list of terms.
-/
import Derived.Test.YthfdiclmbbngcaaDoorTermLaws
import Derived.Test.YthfdiclmbbngcaaDoorTermOpen
namespace Go.Proofs.YthfdiclmbbngcaaDoor
open Go.RowKit Go.ChangeShapes Go.WideShapes Go.Joins

section
variable {H : Type} {enc : TypeId × Value → H} {w : World}

set_option maxRecDepth 100000 in
/-- A parameter that is a list of terms. -/
theorem open_terms {r : Reach} {b0 : Nat} {v : Value} {d : DataW H} {p : List MemPlace} (hv : Value.okWide Tryd.prog w r b0 22 v) (h : DataW.Trod enc Tryd.prog w 0 (fun _ => true) true 22 v d p) :
    ∃ (ts : List Tm) (ad : Option Addr) (cap : Nat), v = .slice ad ts.length cap ∧ ts.length ≤ cap ∧ cap ≤ maxLen ∧ TArgs w ad ts := by
  obtain ⟨a0, l0, c0, rfl⟩ := okWide_slice Tryd.underlying22 hv
  obtain ⟨fuel, hf⟩ := h
  rcases DataW.trod_slice Tryd.underlying22 hf with ⟨h4, _⟩ | ⟨a, len, cap, elems, rest, q, hq, h4, _, _, hlc, hcm, hel, hat, _⟩
  · have h5 : Value.slice a0 l0 c0 = .slice none 0 0 := by simpa [Value.cells] using h4
    rw [h5]
    exact ⟨[], none, 0, rfl, Nat.zero_le _, Nat.zero_le _, .nil _⟩
  · have h5 : Value.slice a0 l0 c0 = .slice (some a) len cap := by simpa [Value.cells] using h4
    rw [h5]
    rw [show Tryd.prog.cellsOf 24 = 4 by kernel_rfl] at hat
    have hone : ∀ j, j < len → ∃ (T : Tm) (ad : Option Addr) (c : Nat), w.cell? ((a.add (j * 4)).add 0) = some (.int .i64 T.kind) ∧ w.cell? ((a.add (j * 4)).add 1) = some (.string T.name) ∧ w.cell? ((a.add (j * 4)).add 2) = some (.int .i64 T.n) ∧
        w.cell? ((a.add (j * 4)).add 3) = some (.slice ad T.args.length c) ∧ TmIn w T ad c := fun j hj => by
      have h5 := hat j hj
      rw [List.getElem?_eq_getElem (by omega)] at h5
      obtain ⟨cs', hc1, hc2⟩ := Option.bind_eq_some_iff.1 h5
      obtain ⟨T, ad, c, rfl, hin⟩ := term_open q hc2
      obtain ⟨_, _, hcell⟩ := World.cells?_some hc1
      exact ⟨T, ad, c, hcell 0 (by omega), hcell 1 (by omega), hcell 2 (by omega), hcell 3 (by omega), hin⟩
    by_cases hz : len = 0
    · subst hz
      exact ⟨[], some a, cap, rfl, Nat.zero_le _, hcm, .nil _⟩
    · obtain ⟨_, _, _, hc, _⟩ := hone 0 (by omega)
      have ha : a = ⟨a.block, a.off, none⟩ := spot_none (show w.cell? a = _ from hc)
      obtain ⟨b, o, ha2⟩ : ∃ b o, a = ⟨b, o, none⟩ := ⟨_, _, ha⟩
      subst ha2
      obtain ⟨ts, hl, hts⟩ := targs_of (w := w) (b := b) len o (fun j hj => by
        have h6 := hone j hj
        rw [add_plain, add_plain, add_plain, add_plain, add_plain] at h6
        exact h6)
      exact ⟨ts, some ⟨b, o, none⟩, cap, by rw [← hl], by omega, hcm, hts⟩
end

theorem sizes_few {ts : List Tm} (h : bigL ts = false) : Tm.sizes ts ≤ 3000 * ts.length := by
  induction ts with
  | nil => exact Nat.le_refl _
  | cons t ts ih =>
    have h1 := bigL_mem h (.head _)
    have h2 : bigL ts = false := by
      unfold bigL at h ⊢
      rw [List.any_cons, Bool.or_eq_false_iff] at h
      exact h.2
    have := ih h2
    rw [Tm.sizes_cons, List.length_cons]
    omega

set_option maxRecDepth 100000 in
set_option maxHeartbeats 4000000 in
theorem walk_TermSizes (s : ByteArray) (ts : List Tm) (ad : Option Addr) (cap : Nat) (w : World) (hs : s.size ≤ maxLen) (hlen : ts.length ≤ cap) (hcap : cap ≤ maxLen) (hts : TArgs w ad ts) (hT : AllT w) (hLive : Lives) :
    Calls Tryd.prog 10 #[.string s, .slice ad ts.length cap] w fun e w' => e = .returned (.bool true) ∧ Below w.heap.size w w' := by
  have HL := Lib.hid hLive
  have HT := Lib.hid hT
  have HTS := Lib.hid (fun W (h : Below w.heap.size w W) => hts.on h)
  have HBIG := Lib.hid (fun W (h : Below w.heap.size w W) => law_big ts ad cap W hlen hcap (hts.on h))
  have HSZ := Lib.hid (fun W (h : Below w.heap.size w W) hM => term_Size (.mk 4 s 0 ts) ad cap W hM (comp_in hs hlen hcap hts h))
  have HDP := Lib.hid (fun W (h : Below w.heap.size w W) hM => term_Deep (.mk 4 s 0 ts) ad cap W hM (comp_in hs hlen hcap hts h))
  have hcz : (Tm.mk 4 s 0 ts).size = 1 + Tm.sizes ts := rfl
  have hcd : (Tm.mk 4 s 0 ts).deep = Tm.deeps ts + 1 := rfl
  rw [hcz] at HSZ
  rw [hcd, hcz] at HDP
  have etmv : tmv (.mk 4 s 0 ts) ad cap = .agg #[.int .i64 4, .string s, .int .i64 0, .slice ad ts.length cap] := rfl
  rw [etmv] at HSZ HDP
  unfold maxLen at hcap
  clear hts hT hLive hs hcz hcd etmv
  go_enter Tryd.func10, Tryd.ntmps10
  go_wp2_with fail
  refine (HL.out _ HT.out).mono ?_; rintro e w1 ⟨rfl, b1⟩
  go_wp2_with fail
  refine (HBIG.out _ b1).mono ?_; rintro e w2 ⟨rfl, d2⟩
  have b2 := below_step b1 d2
  clear d2 HBIG
  cases hbg : bigL ts with
  | true =>
    go_wp2_with fail
    go_ret
    exact ⟨rfl, b2⟩
  | false =>
    have hfew := sizes_few hbg
    have HBG := Lib.hid hbg
    clear hbg
    by_cases h1 : 100 < ts.length
    · have h1' : (100 : Int) < (ts.length : Int) := by omega
      clear h1
      go_wp2_with fail
      go_ret
      exact ⟨rfl, b2⟩
    · by_cases h0 : ts.length = 0
      · have h0' : ((ts.length : Int) == 0) = true := by rw [beq_iff_eq]; omega
        have h1' : ¬ (100 : Int) < (ts.length : Int) := by omega
        clear h0 h1
        go_wp2_with fail
        go_ret
        exact ⟨rfl, b2⟩
      · have h0' : ((ts.length : Int) == 0) = false := by rw [beq_eq_false_iff_ne]; omega
        have h1' : ¬ (100 : Int) < (ts.length : Int) := by omega
        have hMC : 1 + Tm.sizes ts ≤ 1000000 := by omega
        have hl100 : ts.length ≤ 100 := by omega
        clear h0 h1 hfew
        go_wp2_with fail
        clear h0' h1'
        go_loopw [6, 7, 27] (fun nv dv iv wr => ∃ k : Nat, k ≤ ts.length ∧ iv = .int .i64 k ∧ nv = .int .i64 (1 + Tm.sizes (ts.take k) : Nat) ∧ dv = .int .i64 (Tm.deeps (ts.take k) : Nat) ∧ Below w.heap.size w wr) (fun _ _ iv _ => ts.length - (intOf iv).toNat)
        case atStart => exact ⟨0, Nat.zero_le _, rfl, rfl, rfl, b2⟩
        case round =>
          obtain ⟨k, hk, rfl, rfl, rfl, hbw⟩ := hrel
          by_cases hlt : k < ts.length
          · obtain ⟨b, o, rfl⟩ := (HTS.out _ hbw).addr (by omega)
            obtain ⟨ad1, cap1, c0, c1, c2, c3, hin1⟩ := (HTS.out _ hbw).get k hlt
            have hmem := bigL_mem HBG.out (List.getElem_mem hlt)
            have hst := Lib.hid (sizes_step ts k hlt)
            have hdt := Lib.hid (deeps_step ts k hlt)
            have hds := Tm.sizes_take ts k
            have hdd := Tm.deeps_le (ts.take k)
            generalize ts[k] = x at *
            have hxM : x.size ≤ 1000000 := by omega
            have hxd := x.deep_le_size
            have HZ := Lib.hid (fun W (h : Below wr.heap.size wr W) => term_Size x ad1 cap1 W hxM (hin1.on h))
            have HD := Lib.hid (fun W (h : Below wr.heap.size wr W) => term_Deep x ad1 cap1 W hxM (hin1.on h))
            unfold tmv at HZ HD
            generalize hS : Tm.sizes (ts.take k) = sz at *
            generalize hP : Tm.deeps (ts.take k) = dp at *
            have hsz : sz ≤ 1000000 := by omega
            have hdz : dp ≤ 1000000 := by omega
            have hxz : x.deep ≤ 1000000 := by omega
            have HS' := Lib.hid hS
            have HP' := Lib.hid hP
            have hbx : Below wr.heap.size wr (wr.alloc (.cells #[.int .i64 x.kind, .string x.name, .int .i64 x.n, .slice ad1 x.args.length cap1] 24)) := (Below.refl _ wr).alloc (Nat.le_refl _) _
            have HBX := Lib.hid hbx
            clear hin1 hds hdd hS hP hmem hxd hbx
            go_wp2_with fail
            refine (HZ.out _ HBX.out).mono ?_; rintro e w3 ⟨rfl, d3⟩
            have g3 := below_step HBX.out d3
            obtain ⟨x0, x1, x2, x3⟩ := cellx4 ((d3.block wr.heap.size (by simp)).trans (heap_alloc_new _ _))
            clear d3 c0 c1 c2 c3
            go_wp2_with fail
            refine (HD.out _ g3).mono ?_; rintro e w4 ⟨rfl, d4⟩
            have g4 := below_step hbw (below_step g3 d4)
            clear d4 x0 x1 x2 x3
            go_wp2_with fail
            go_roundw
            case rel =>
              refine ⟨k + 1, by omega, by go_num, ?_, ?_, g4⟩
              · rw [hst.out]; go_num
              · rw [hdt.out]; go_num
            case measure => simp [intOf]; omega
          · have hall : ts.take k = ts := List.take_of_length_le (by omega)
            rw [hall]
            have hx1 : ¬ (k : Int) < (ts.length : Int) := by omega
            have HSZ' := Lib.hid (fun W h => HSZ.out W h hMC)
            have HDP' := Lib.hid (fun W h => HDP.out W h hMC)
            have hdd := Tm.deeps_le ts
            generalize Tm.sizes ts = sz at *
            generalize Tm.deeps ts = dp at *
            have hdz : dp ≤ 1000000 := by omega
            have eS : (((1 + sz : Nat) : Int) == ((1 + sz : Nat) : Int)) = true := by simp
            have eD : (((dp + 1 : Nat) : Int) == ((dp : Nat) : Int) + 1) = true := by rw [beq_iff_eq]; omega
            clear hall hdd HSZ HDP hlt
            go_wp2_with fail
            refine (ref_Comp1 s ad ts.length cap wr).mono ?_; rintro e w3 ⟨rfl, d3⟩
            have g3 := below_step hbw d3
            have hbx : Below w3.heap.size w3 (w3.alloc (.cells #[.int .i64 4, .string s, .int .i64 0, .slice ad ts.length cap] 24)) := (Below.refl _ w3).alloc (Nat.le_refl _) _
            have HBX := Lib.hid (below_step g3 hbx)
            clear d3 hbx
            go_wp2_with fail
            refine (HSZ'.out _ HBX.out).mono ?_; rintro e w4 ⟨rfl, d4⟩
            have g4 := below_step HBX.out d4
            obtain ⟨x0, x1, x2, x3⟩ := cellx4 ((d4.block w3.heap.size (by simp)).trans (heap_alloc_new _ _))
            clear d4
            go_wp2_with fail
            refine (HDP'.out _ g4).mono ?_; rintro e w5 ⟨rfl, d5⟩
            have g5 := below_step g4 d5
            clear d5 x0 x1 x2 x3
            go_wp2_with fail
            go_ret
            exact ⟨rfl, g5⟩
end Go.Proofs.YthfdiclmbbngcaaDoor
