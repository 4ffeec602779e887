/-
  The walk of the law SubstTwice.
-/
import Derived.Test.YtjgjeafjnaodkaaSubF
namespace Go.Proofs.Ytjgjeafjnaodkaa
open Go.RowKit

theorem onceGo_fromS : ∀ (l L : List Int) (x : Int), x ∈ onceGo L l → x ∈ L ∨ x ∈ l
  | [], L, x, h => by unfold onceGo at h; exact .inl h
  | n :: l, L, x, h => by
    unfold onceGo at h
    split at h
    · rcases onceGo_fromS l L x h with h | h
      · exact .inl h
      · exact .inr (.tail _ h)
    · rcases onceGo_fromS l (L ++ [n]) x h with h | h
      · rcases List.mem_append.1 h with h | h
        · exact .inl h
        · rw [List.mem_singleton.1 h]; exact .inr (.head _)
      · exact .inr (.tail _ h)
theorem vars_sub {t : Tm} {x : Int} (h : x ∈ t.vars) : x ∈ t.places := by
  rcases onceGo_fromS t.places [] x h with h | h
  · cases h
  · exact h
theorem vars_lenS (t : Tm) : t.vars.length ≤ t.size := by
  have h : ∀ (l L : List Int), (onceGo L l).length ≤ L.length + l.length := by
    intro l
    induction l with
    | nil => intro L; unfold onceGo; simp
    | cons n l ih =>
      intro L
      unfold onceGo
      split
      · have := ih L; rw [List.length_cons]; omega
      · have := ih (L ++ [n]); rw [List.length_append] at this; simp at this ⊢; omega
  have h1 := h t.places []
  have h2 := t.places_size
  unfold Tm.vars once
  simp at h1
  omega
/-- What the law holds of what is resolved. -/
theorem twice_facts (bs : List (Int × Tm)) (t : Tm) : ((resD bs 60 0 t).2.1 = 0 ∧ (∀ v ∈ (resD bs 60 0 t).1.vars, lookL bs v = none) ∧ (resD bs 60 0 t).1.size ≤ 2000 ∧ resD [] 60 0 (resD bs 60 0 t).1 = ((resD bs 60 0 t).1, 0, (resD bs 60 0 t).1.size)) ∨ ((resD bs 60 0 t).2.1 ≠ 0 ∧ (resD bs 60 0 t).1 = zeroT) := by
  rcases resD_out bs 60 0 t (Nat.zero_le _) with ⟨h1, h2, h3, h4, h5⟩ | ⟨h1, h2, _⟩
  · refine .inl ⟨h1, fun v hv => h2 v (vars_sub hv), by omega, ?_⟩
    have h := resD_self [] 60 0 (resD bs 60 0 t).1 (by omega) h3 fun _ _ => rfl
    rwa [Nat.zero_add] at h
  · exact .inr ⟨h1, h2⟩

set_option maxRecDepth 100000 in
set_option maxHeartbeats 8000000 in
theorem walk_SubstTwice (bs : List (Int × Tm)) (ab : Option Addr) (cb : Nat) (t : Tm) (ad : Option Addr) (cap : Nat) (w : World) (hl : bs.length ≤ cb) (hc : cb ≤ maxLen) (hb : BdsAt w (fun b => b < w.heap.size) ab bs) (hin : TmIn w t ad cap) :
    Calls Try.prog 4 #[.slice ab bs.length cb, tmv t ad cap] w fun e w' => e = .returned (.bool true) ∧ Below w.heap.size w w' := by
  have HL := Lib.hid (fun W => sub_live W)
  have HB0 := Lib.hid (fun o : Obj => (Below.refl w.heap.size w).alloc (Nat.le_refl _) o)
  have HIN := Lib.hid (fun W (h : Below w.heap.size w W) => hin.on h)
  have HBD := Lib.hid (fun W (h : Below w.heap.size w W) => hb.kept (w' := W) (Q := fun b => b < W.heap.size) (fun b _ hl => h.block b hl) fun b hb _ => Nat.lt_of_lt_of_le hb h.size)
  have HBG := Lib.hid (fun W (g : Nat) (h : Below w.heap.size w W) (ht : TArgs W (some ⟨g, 0, none⟩) [t]) => (show Calls Try.prog 8 #[.slice ab bs.length cb, .slice (some ⟨g, 0, none⟩) 1 1] W _ from law_big9 bs ab cb [t] (some ⟨g, 0, none⟩) 1 W (HBD.out W h) (Nat.le_refl 1) (by decide) ht))
  have HNO := Lib.hid (fun (h : bigB bs [t] = false) => bigB_no h)
  have HRS := Lib.hid (fun W (hle : bs.length ≤ 1000000) (hz : ∀ b ∈ bs, b.2.size ≤ 300) (hts : t.size ≤ 1000000) (h : Below w.heap.size w W) => sb_Resolve bs ab cb t ad cap W hle hl hc (fun b hb => Nat.le_trans (hz b hb) (by decide)) (HBD.out W h) hts (hin.on h))
  have HLK := Lib.hid (fun n W (hle : bs.length ≤ 1000000) (hz : ∀ b ∈ bs, b.2.size ≤ 300) (h : Below w.heap.size w W) => sb_Look bs n ab cb W hle hl hc (fun b hb => Nat.le_trans (hz b hb) (by decide)) (HBD.out W h))
  have HTF := Lib.hid (twice_facts bs t)
  clear hb hin
  generalize bigB bs [t] = bg at *
  obtain ⟨r, hr⟩ : ∃ r, resD bs 60 0 t = r := ⟨_, rfl⟩
  rw [hr] at HTF
  simp only [hr] at HRS
  clear hr
  unfold tmv at *
  go_enter Try.func4, Try.ntmps4
  go_wp2_with fail
  have q1 := alloc_new w (.cells #[.int .i64 t.kind, .string t.name, .int .i64 t.n, .slice ad t.args.length cap] 25)
  refine (HL.out _).mono ?_; rintro e w1 ⟨rfl, hb⟩
  have HB1 := Lib.hid ((HB0.out _).trans (hb.mono (by simp)))
  have HQ1 := Lib.hid (keptR9 hb q1)
  clear hb q1 HB0 HL
  obtain ⟨c0, c1, c2, c3, _⟩ := cellsT HQ1.out
  go_wp2_with fail
  generalize hw : w1.alloc (.cells #[.int .i64 t.kind, .string t.name, .int .i64 t.n, .slice ad t.args.length cap] 25) = w1a
  have HR1 : Hid (TArgs w1a (some ⟨w1.heap.size, 0, none⟩) [t]) := Lib.hid (by rw [← hw]; exact rowS1 (HIN.out _ HB1.out) _ rfl)
  have hb1a : Below w1.heap.size w1 w1a := by rw [← hw]; exact (Below.refl _ _).alloc (Nat.le_refl _) _
  have HB1a := Lib.hid (HB1.out.trans (hb1a.mono HB1.out.size))
  have HQ1a := Lib.hid (keptR9 hb1a HQ1.out)
  clear hw hb1a c0 c1 c2 c3 HQ1 HB1
  refine (HBG.out _ _ HB1a.out HR1.out).mono ?_; rintro e w2 ⟨rfl, hb2⟩
  have HB2 := Lib.hid (HB1a.out.trans (hb2.mono HB1a.out.size))
  have HQ2 := Lib.hid (keptR9 hb2 HQ1a.out)
  clear hb2 HQ1a HR1 HB1a HBG
  cases bg with
  | true =>
    go_wp2_with fail
    go_ret
    exact ⟨rfl, HB2.out⟩
  | false =>
    obtain ⟨hn1, hn2, hn3⟩ := HNO.out rfl
    have hle : bs.length ≤ 1000000 := by omega
    have hts : t.size ≤ 1000000 := Nat.le_trans (hn3 t (by simp)) (by decide)
    have HZ2 := Lib.hid hn2
    clear hn1 hn2 hn3
    obtain ⟨c0, c1, c2, c3, _⟩ := cellsT HQ2.out
    go_wp2_with fail
    refine (HRS.out _ hle HZ2.out hts HB2.out).mono ?_; rintro e w3 ⟨xa, xc, rfl, hx, hb3⟩
    have HX3 := Lib.hid hx
    have HB3 := Lib.hid (HB2.out.trans (hb3.mono HB2.out.size))
    clear hx hb3 c0 c1 c2 c3 HRS HQ2 HB2
    go_upto_region 5 with fail
    generalize hw : w3.alloc (.cells #[.int .i64 r.1.kind, .string r.1.name, .int .i64 r.1.n, .slice xa r.1.args.length xc] 25) = w4
    have HQx4 : Hid (w4.heap[w3.heap.size]? = some (.cells #[.int .i64 r.1.kind, .string r.1.name, .int .i64 r.1.n, .slice xa r.1.args.length xc] 25 (0, 0))) := Lib.hid (by rw [← hw]; exact alloc_new w3 _)
    have hb4 : Below w3.heap.size w3 w4 := by rw [← hw]; exact (Below.refl _ _).alloc (Nat.le_refl _) _
    have HB4 := Lib.hid (HB3.out.trans (hb4.mono HB3.out.size))
    have HX4 := Lib.hid (HX3.out.on hb4)
    clear hw hb4 HB3 HX3
    obtain ⟨x0, x1, x2, x3, _⟩ := cellsT HQx4.out
    rcases HTF.out with ⟨h1, h2, h3, h4⟩ | ⟨h1, h2⟩
    · have hsz := h3
      have HUN := Lib.hid h2
      have HSF := Lib.hid h4
      have hvl := vars_lenS r.1
      have HVR := Lib.hid (fun W (h : Below w4.heap.size w4 W) => ref_Vars r.1 xa xc W (by omega) (HX4.out.on h))
      have HR2 := Lib.hid (fun W (h : Below w4.heap.size w4 W) => sb_Resolve [] none 0 r.1 xa xc W (Nat.zero_le _) (Nat.le_refl _) (Nat.zero_le _) (fun b hb => by cases hb) BdsAt.nil (by omega) (HX4.out.on h))
      simp only [h4] at HR2
      have h1' : (r.2.1 != 0) = false := by rw [h1]; rfl
      obtain ⟨R, er, nn⟩ := r
      dsimp only at *
      clear h1 h2 h3 h4 HTF HSF
      unfold tmv at *
      go_wp2_with fail
      refine (HVR.out _ (Below.refl _ _)).mono ?_; rintro e w5 ⟨v, rfl, hv, hb5⟩
      obtain ⟨vad, vcap, rfl, hv1, hv2, hv3⟩ := hv.view
      unfold maxLen at hv2
      have HV := Lib.hid hv3
      have HB45 := Lib.hid hb5
      clear hv hv3 hb5 x0 x1 x2 x3 HVR
      go_wp2_with fail
      go_loopw [37] (fun iv wr => ∃ k : Nat, k ≤ R.vars.length ∧ iv = .int .i64 k ∧ Below w5.heap.size w5 wr) (fun iv _ => R.vars.length - (intOf iv).toNat)
      case atStart => exact ⟨0, Nat.zero_le _, rfl, Below.refl _ _⟩
      case round =>
        obtain ⟨k, hk, rfl, hbw⟩ := hrel
        have HBW := Lib.hid (HB45.out.trans (hbw.mono HB45.out.size))
        have HBR := Lib.hid (HB4.out.trans (HBW.out.mono HB4.out.size))
        by_cases hlt : k < R.vars.length
        · obtain ⟨g, rfl, hcell⟩ := HV.out k hlt
          have hcell := (hbw.cell (p := ⟨g, k, none⟩) (World.block_lt_of_cell? w5 ⟨g, k, none⟩ hcell)).trans hcell
          have hun := HUN.out R.vars[k] (List.getElem_mem hlt)
          have hk0 : (0 : Int) ≤ (k : Int) := by omega
          have hk1 : (k : Int) < (R.vars.length : Int) := by omega
          generalize R.vars[k] = n at *
          have hlk := HLK.out n wr hle HZ2.out HBR.out
          rw [hun] at hlk
          dsimp only [Option.getD, Option.isSome] at hlk
          have HLKn := Lib.hid hlk
          clear hlk hun
          go_wp2_with fail
          refine HLKn.out.mono ?_; rintro e w6 ⟨la, lc, rfl, _, hb6⟩
          have HBN := Lib.hid ((hbw.trans (hb6.mono hbw.size)))
          clear hb6 hcell hbw
          go_wp2_with fail
          go_roundw
          case rel => exact ⟨k + 1, by omega, by go_num, HBN.out.alloc HBN.out.size _⟩
          case measure => simp [intOf]; omega
        · have hk1 : ¬ (k : Int) < (R.vars.length : Int) := by omega
          obtain ⟨wD, rfl⟩ : ∃ x, x = wr := ⟨_, rfl⟩
          have HQxD := Lib.hid (keptR9 HBW.out HQx4.out)
          obtain ⟨x0, x1, x2, x3, _⟩ := cellsT HQxD.out
          clear hbw
          go_wp2_with fail
          refine (HR2.out _ HBW.out).mono ?_; rintro e w6 ⟨ya, yc, rfl, hy, hb6⟩
          have HY6 := Lib.hid hy
          have HQx6 := Lib.hid (keptR9 hb6 HQxD.out)
          have HB6 := Lib.hid (HBR.out.trans (hb6.mono HBR.out.size))
          have HX6 := Lib.hid ((HX4.out.on HBW.out).on hb6)
          clear hy hb6 x0 x1 x2 x3 HQxD
          go_upto_region 15 with fail
          generalize hw : w6.alloc (.cells #[.int .i64 R.kind, .string R.name, .int .i64 R.n, .slice ya R.args.length yc] 25) = w7
          have HQy7 : Hid (w7.heap[w6.heap.size]? = some (.cells #[.int .i64 R.kind, .string R.name, .int .i64 R.n, .slice ya R.args.length yc] 25 (0, 0))) := Lib.hid (by rw [← hw]; exact alloc_new w6 _)
          have hb7 : Below w6.heap.size w6 w7 := by rw [← hw]; exact (Below.refl _ _).alloc (Nat.le_refl _) _
          have HSM := Lib.hid (same_yes R xa ya xc yc w7 (by omega) (HX6.out.on hb7) (HY6.out.on hb7))
          have HB7 := Lib.hid (HB6.out.trans (hb7.mono HB6.out.size))
          obtain ⟨x0, x1, x2, x3, _⟩ := cellsT (keptR9 hb7 HQx6.out)
          obtain ⟨y0, y1, y2, y3, _⟩ := cellsT HQy7.out
          clear hw hb7
          unfold tmv at HSM
          go_wp2_with fail
          refine HSM.out.mono ?_; rintro e w8 ⟨rfl, hb8⟩
          have HB8 := Lib.hid (HB7.out.trans (hb8.mono HB7.out.size))
          clear hb8 x0 x1 x2 x3 y0 y1 y2 y3
          go_wp2_with fail
          go_ret
          exact ⟨rfl, HB8.out⟩
    · have h1' : (r.2.1 != 0) = true := bne_iff_ne.2 h1
      have hk0 : r.1.kind = 0 := by rw [h2]; rfl
      rw [hk0] at x0
      clear h1 h2 HTF
      go_wp2_with fail
      go_ret
      exact ⟨rfl, HB4.out⟩
end Go.Proofs.Ytjgjeafjnaodkaa
