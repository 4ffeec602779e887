/-
  The walk of the law SubstApart.
-/
import Derived.Test.YtjgjeafjnaodkaaDoorSubP
import Derived.Test.YtjgjeafjnaodkaaDoorSubG
import Derived.Deep.RegionHeld3
namespace Go.Proofs.YtjgjeafjnaodkaaDoor
open Go.RowKit

theorem hasL_iffS (l : List Int) (n : Int) : hasL l n = true ↔ n ∈ l := by
  unfold hasL
  rw [List.any_eq_true]
  constructor
  · rintro ⟨x, h1, h2⟩; rw [← beq_iff_eq.1 h2]; exact h1
  · intro h; exact ⟨n, h, beq_self_eq_true n⟩
theorem onceGo_inS : ∀ (l L : List Int) (x : Int), x ∈ L ∨ x ∈ l → x ∈ onceGo L l
  | [], L, x, h => by unfold onceGo; simpa using h
  | n :: l, L, x, h => by
    unfold onceGo
    split
    · rename_i hh
      refine onceGo_inS l L x ?_
      rcases h with h | h
      · exact .inl h
      · rcases List.mem_cons.1 h with rfl | h
        · exact .inl ((hasL_iffS L x).1 hh)
        · exact .inr h
    · refine onceGo_inS l (L ++ [n]) x ?_
      rcases h with h | h
      · exact .inl (by simp [h])
      · rcases List.mem_cons.1 h with rfl | h
        · exact .inl (by simp)
        · exact .inr h
theorem cells5Q {w : World} {q : Nat} {a b c d e : Value} {t : TypeId} (h : w.heap[q]? = some (.cells #[a, b, c, d, e] t (0, 0))) : w.cell? ⟨q, 0, none⟩ = some a ∧ w.cell? ⟨q, 1, none⟩ = some b ∧ w.cell? ⟨q, 2, none⟩ = some c ∧ w.cell? ⟨q, 3, none⟩ = some d ∧ w.cell? ⟨q, 4, none⟩ = some e := by
  simp [World.cell?, h]
/-- The bindings of variables that a term has not. -/
def apartB (t : Tm) (bs : List (Int × Tm)) : List (Int × Tm) := bs.filter fun b => !hasL t.vars b.1
theorem apart_res (t : Tm) (bs : List (Int × Tm)) (hs : t.size ≤ 1900) (hc : t.chk = 0) : resD (apartB t bs) 60 0 t = (t, 0, t.size) := by
  have hd : t.deep ≤ 60 := by
    unfold Tm.chk at hc
    split at hc
    · split at hc
      · cases hc
      · omega
    · cases hc
  have h := resD_self (apartB t bs) 60 0 t (by omega) hd fun v hv => lookL_none fun b hb e => by
    obtain ⟨_, h2⟩ := List.mem_filter.1 hb
    have h3 : hasL t.vars b.1 = true := (hasL_iffS _ _).2 (by rw [e]; exact onceGo_inS _ _ _ (.inr hv))
    rw [h3] at h2; cases h2
  rwa [Nat.zero_add] at h
theorem apart_step (t : Tm) (bs : List (Int × Tm)) (k : Nat) (hk : k < bs.length) : apartB t (bs.take (k + 1)) = if hasL t.vars bs[k].1 = true then apartB t (bs.take k) else apartB t (bs.take k) ++ [bs[k]] := by
  unfold apartB
  rw [List.take_succ_eq_append_getElem hk, List.filter_append]
  by_cases h : hasL t.vars bs[k].1 = true
  · rw [if_pos h]; simp [h]
  · rw [if_neg h]; simp [h]
theorem apart_len (t : Tm) (bs : List (Int × Tm)) (k : Nat) : (apartB t (bs.take k)).length ≤ bs.length := by
  unfold apartB
  exact Nat.le_trans (List.length_filter_le _ _) (by rw [List.length_take]; omega)

set_option maxRecDepth 100000 in
set_option maxHeartbeats 8000000 in
theorem walk_SubstApart (bs : List (Int × Tm)) (ab : Option Addr) (cb : Nat) (t : Tm) (ad : Option Addr) (cap : Nat) (w : World) (hb : BdsAt w (fun b => b < w.heap.size) ab bs) (hin : TmIn w t ad cap) (hT : Tabs w) :
    Calls Tryd.prog 3 #[.slice ab bs.length cb, tmv t ad cap] w fun e w' => e = .returned (.bool true) ∧ Below w.heap.size w w' := by
  have HL := Lib.hid (fun W => sub_live W)
  have HB0 := Lib.hid (fun o : Obj => (Below.refl w.heap.size w).alloc (Nat.le_refl _) o)
  have HIN := Lib.hid (fun W (h : Below w.heap.size w W) => hin.on h)
  have HBD := Lib.hid (fun W (h : Below w.heap.size w W) => hb.kept (w' := W) (Q := fun b => b < w.heap.size) (fun b _ hl => h.block b hl) fun b hb _ => hb)
  have HBG := Lib.hid (fun W (g : Nat) (h : Below w.heap.size w W) (ht : TArgs W (some ⟨g, 0, none⟩) [t]) => (show Calls Tryd.prog 5 #[.slice ab bs.length cb, .slice (some ⟨g, 0, none⟩) 1 1] W _ from law_big9 bs ab cb [t] (some ⟨g, 0, none⟩) 1 W ((HBD.out W h).kept (fun _ _ _ => rfl) fun b hb _ => Nat.lt_of_lt_of_le hb h.size) (Nat.le_refl 1) (by decide) ht))
  have HNO := Lib.hid (fun (h : bigB bs [t] = false) => bigB_no h)
  have HFW := Lib.hid (fun W (h : Below w.heap.size w W) => ref_Few t ad cap 1900 W (by decide) (by decide) (hin.on h))
  have HCK := Lib.hid (fun W (hts : t.size ≤ 1000000) (h : Below w.heap.size w W) => ref_TermCheck t ad cap W hts (hT.on h) (hin.on h))
  have HVR := Lib.hid (fun W (hts : t.size ≤ 1000000) (h : Below w.heap.size w W) => ref_Vars t ad cap W hts (hin.on h))
  have HRS := Lib.hid (fun (hs : t.size ≤ 1900) (hc : t.chk = 0) W ab' cb' (h1 : (apartB t bs).length ≤ cb') (h2 : cb' ≤ maxLen) (hle : (apartB t bs).length ≤ 1000000) (hz : ∀ b ∈ bs, b.2.size ≤ 300) (hbd : BdsAt W (fun b => b < W.heap.size) ab' (apartB t bs)) (h : Below w.heap.size w W) => (show Calls Tryd.prog 10 #[.slice ab' (apartB t bs).length cb', tmv t ad cap] W fun e w' => ∃ a2 c2, e = .returned (.tuple #[tmv t a2 c2, .int .i64 0]) ∧ TmIn w' t a2 c2 ∧ Below W.heap.size W w' by
    have hh := sb_Resolve (apartB t bs) ab' cb' t ad cap W hle h1 h2 (fun b hb => Nat.le_trans (hz b ((List.mem_filter.1 hb).1)) (by decide)) hbd (by omega) (hin.on h)
    rwa [apart_res t bs hs hc] at hh))
  have hvl := vars_lenS t
  obtain ⟨i0, hi, hz0, hz1, hz2⟩ := info_partsB infoBd
  clear hb hin hT
  generalize bigB bs [t] = bg at *
  unfold tmv at *
  go_enter Tryd.func3, Tryd.ntmps3
  go_wp2_with fail
  have q1 := alloc_new w (.cells #[.int .i64 t.kind, .string t.name, .int .i64 t.n, .slice ad t.args.length cap] 25)
  refine (HL.out _).mono ?_; rintro e w1 ⟨rfl, hb⟩
  have HB1 := Lib.hid ((HB0.out _).trans (hb.mono (by simp)))
  have HQ1 := Lib.hid (keptR9 hb q1)
  clear hb q1 HB0 HL
  obtain ⟨c0, c1, c2, c3, _⟩ := cellsT HQ1.out
  go_wp2_with fail
  generalize hw : w1.alloc (.cells #[.int .i64 t.kind, .string t.name, .int .i64 t.n, .slice ad t.args.length cap] 25) = w1a
  have HR1 : Hid (TArgs w1a (some ⟨w1.heap.size, 0, none⟩) [t]) := Lib.hid (by rw [← hw]; exact rowS1 (HIN.out _ HB1.out) _ rfl)
  have hb1a : Below w1.heap.size w1 w1a := by rw [← hw]; exact (Below.refl _ _).alloc (Nat.le_refl _) _
  have HB1a := Lib.hid (HB1.out.trans (hb1a.mono HB1.out.size))
  have HQ1a := Lib.hid (keptR9 hb1a HQ1.out)
  clear hw hb1a c0 c1 c2 c3 HQ1 HB1
  refine (HBG.out _ _ HB1a.out HR1.out).mono ?_; rintro e w2 ⟨rfl, hb2⟩
  have HB2 := Lib.hid (HB1a.out.trans (hb2.mono HB1a.out.size))
  have HQ2 := Lib.hid (keptR9 hb2 HQ1a.out)
  clear hb2 HQ1a HR1 HB1a HBG
  cases bg with
  | true =>
    go_wp2_with fail
    go_ret
    exact ⟨rfl, HB2.out⟩
  | false =>
    obtain ⟨hn1, hn2, hn3⟩ := HNO.out rfl
    have hts : t.size ≤ 3000 := hn3 t (by simp)
    have HZ2 := Lib.hid hn2
    clear hn2 hn3
    obtain ⟨c0, c1, c2, c3, _⟩ := cellsT HQ2.out
    have hfw := HFW.out _ HB2.out
    by_cases hsz : t.size ≤ 1900
    · rw [decide_eq_true (show ((t.size : Int) ≤ 1900) by omega)] at hfw
      have HF := Lib.hid hfw
      clear hfw
      go_wp2_with fail
      refine HF.out.mono ?_; rintro e w3 ⟨rfl, hb3⟩
      have HB3 := Lib.hid (HB2.out.trans (hb3.mono HB2.out.size))
      have HQ3 := Lib.hid (keptR9 hb3 HQ2.out)
      clear hb3 c0 c1 c2 c3 HQ2 HB2 HF HFW
      obtain ⟨c0, c1, c2, c3, _⟩ := cellsT HQ3.out
      have HCK3 := Lib.hid (HCK.out _ (by omega) HB3.out)
      by_cases hck : t.chk = 0
      · rw [hck] at HCK3
        have HCKZ := Lib.hid hck
        clear hck HCK
        go_wp2_with fail
        refine HCK3.out.mono ?_; rintro e w4 ⟨rfl, hb4⟩
        have HB4 := Lib.hid (HB3.out.trans (hb4.mono HB3.out.size))
        have HQ4 := Lib.hid (keptR9 hb4 HQ3.out)
        clear hb4 c0 c1 c2 c3 HQ3 HB3 HCK3
        go_wp2_with fail
        go_loopw [6, 29] (fun lv iv wr => ∃ k : Nat, k ≤ bs.length ∧ iv = .int .i64 k ∧ Below w4.heap.size w4 wr ∧ OwnBds (fun b => b < w.heap.size) w4.heap.size wr lv (apartB t (bs.take k))) (fun _ iv _ => bs.length - (intOf iv).toNat)
        case atStart => exact ⟨0, Nat.zero_le _, rfl, Below.refl _ _, OwnBds.nil _ _ _⟩
        case round =>
          obtain ⟨k, hk, rfl, hbw, hown⟩ := hrel
          have hwrs := hbw.size
          have hw4s := HB4.out.size
          have HBW := Lib.hid (HB4.out.trans (hbw.mono HB4.out.size))
          have HQW := Lib.hid (keptR9 hbw HQ4.out)
          by_cases hlt : k < bs.length
          · obtain ⟨b, o, a1, c1, rfl, hPb, hi64, hp, x0, x1, x2, x3, x4⟩ := HBD.out wr HBW.out k hlt
            have HST := Lib.hid (apart_step t bs k hlt)
            have hal := apart_len t bs k
            have HP := Lib.hid hp
            have HOWN := Lib.hid hown
            have hk0 : (0 : Int) ≤ (k : Int) := by omega
            have hk1 : (k : Int) < (bs.length : Int) := by omega
            clear hp hown
            generalize apartB t (bs.take k) = cs at *
            generalize bs[k] = X at *
            obtain ⟨xv, x⟩ := X
            dsimp only at *
            go_upto_region 8 with fail
            have hb5 : Below wr.heap.size wr (wr.alloc (.cells #[.int .i64 xv, .int .i64 x.kind, .string x.name, .int .i64 x.n, .slice a1 x.args.length c1] 32)) := (Below.refl _ _).alloc (Nat.le_refl _) _
            have hq5 := alloc_new wr (.cells #[.int .i64 xv, .int .i64 x.kind, .string x.name, .int .i64 x.n, .slice a1 x.args.length c1] 32)
            generalize wr.alloc (.cells #[.int .i64 xv, .int .i64 x.kind, .string x.name, .int .i64 x.n, .slice a1 x.args.length c1] 32) = w5 at *
            have HB5 := Lib.hid (HBW.out.trans (hb5.mono HBW.out.size))
            have HB45 := Lib.hid (hbw.trans (hb5.mono hwrs))
            have HQ5 := Lib.hid (keptR9 hb5 HQW.out)
            have HX5 := Lib.hid hq5
            have HO5 := Lib.hid (HOWN.out.below hb5)
            have HP5 := Lib.hid (HP.out.onS hb5)
            clear hb5 hq5 x0 x1 x2 x3 x4 hbw HBW HQW HP
            have HK : Hid (∀ W, Below w5.heap.size w5 W → W.cell? ⟨w.heap.size, 0, none⟩ = some (.int .i64 t.kind) ∧ W.cell? ⟨w.heap.size, 1, none⟩ = some (.string t.name) ∧ W.cell? ⟨w.heap.size, 2, none⟩ = some (.int .i64 t.n) ∧ W.cell? ⟨w.heap.size, 3, none⟩ = some (.slice ad t.args.length cap) ∧ W.cell? ⟨wr.heap.size, 0, none⟩ = some (.int .i64 xv)) := Lib.hid (fun W h => by
              obtain ⟨c0, c1, c2, c3, _⟩ := cellsT (keptR9 h HQ5.out)
              have hx := keptR9 h HX5.out
              exact ⟨c0, c1, c2, c3, by simp [World.cell?, hx]⟩)
            have HV5 := Lib.hid (fun W (h : Below w5.heap.size w5 W) => HVR.out W (by omega) (HB5.out.trans (h.mono HB5.out.size)))
            have bD : Below w5.heap.size w5 w5.drew := (Below.refl _ w5).drew
            have HH := Lib.hid (fun v B W (h : OwnNums B W v t.vars) => ref_Has t.vars xv v B W h (by omega))
            go_region_held3 (fun W => W.cell? ⟨w.heap.size, 0, none⟩ = some (.int .i64 t.kind) ∧ W.cell? ⟨w.heap.size, 1, none⟩ = some (.string t.name) ∧ W.cell? ⟨w.heap.size, 2, none⟩ = some (.int .i64 t.n) ∧ W.cell? ⟨w.heap.size, 3, none⟩ = some (.slice ad t.args.length cap) ∧ W.cell? ⟨wr.heap.size, 0, none⟩ = some (.int .i64 xv))
              (first | with_reducible exact HK.out _ bD | with_reducible exact HK.out _ b6)
              (first
                | (go_at_call 9; (refine (HV5.out _ bD).mono ?_); rintro e w6 ⟨v, rfl, hv, hb6⟩; have b6 := bD.trans (hb6.mono bD.size); have HVN := Lib.hid hv; clear hv)
                | (go_at_call 8; (refine (HH.out _ _ _ HVN.out).mono ?_); rintro e w7 ⟨rfl, rfl⟩))
            have HO6 := Lib.hid (HO5.out.below b6)
            have HP6 := Lib.hid (HP5.out.onS b6)
            have HX6 := Lib.hid (keptR9 b6 HX5.out)
            have HB46 := Lib.hid (HB45.out.trans (b6.mono HB45.out.size))
            have hs6 := b6.size
            have hs45 := HB45.out.size
            cases hh : hasL t.vars xv with
            | true =>
              have HSN := Lib.hid (HST.out.trans (if_pos hh))
              go_wp2_with fail
              go_roundw
              case rel => exact ⟨k + 1, by omega, by go_num, HB46.out, by rw [HSN.out]; exact HO6.out⟩
              case measure => simp [intOf]; omega
            | false =>
              have HSN : Hid (apartB t (bs.take (k + 1)) = cs ++ [(xv, x)]) := Lib.hid (HST.out.trans (if_neg (by rw [hh]; nofun)))
              obtain ⟨x0, x1, x2, x3, x4⟩ := cells5Q HX6.out
              obtain ⟨xs, hox, hrow⟩ := HO6.out
              have HLT := Lib.hid hox.lt
              have HOX := Lib.hid hox
              have HROW := Lib.hid hrow
              clear hox hrow
              go_wp2_with (first
                | (at_builtin; refine wpList_append_lies _ rfl _ _ 22 rfl w4.heap.size 32 i0 (.agg #[.int .i64 0, .int .i64 0, .string ⟨#[]⟩, .int .i64 0, .slice none 0 0]) 5 64 Tryd.underlying22 hi hz0 hz1 hz2 rfl (by decide) _ _ _ rfl (HOX.out.alloc _) ⟨w6.heap.size, 0, none⟩ 1 1 (bcellsP (xv, x) a1 c1) rfl rfl ?c1 one5P (by decide) ?c3 ?c4 ?c5 _ rfl ?_))
              case c1 => exact fun j u h => h
              case c3 => unfold maxLen; omega
              case c4 => omega
              case c5 => omega
              intro g cap3 w8 hown8 hgrow hat hlt8
              have hkeep : ∀ (o : Obj) (b : Nat), b < w6.heap.size → (w6.alloc o).heap[b]? = w6.heap[b]? := fun o b hb => Below.heap_alloc w6 o b hb
              have hO8 : OwnBds (fun b => b < w.heap.size) w4.heap.size w8 (.slice (some ⟨g, 0, none⟩) (cs.length + 1) cap3) (cs ++ [(xv, x)]) := by
                refine OwnBds.grown (b := (xv, x)) (HROW.out.kept (fun b _ hb => hkeep _ b hb) fun _ h _ => h) hown8 hgrow ?_ hi64 (HP6.out.kept (fun b _ hb => hkeep _ b hb) fun b hb _ => ⟨hb, fun e => by have := (HLT.out b e.symm).1; omega⟩)
                rcases hat with hat | hat
                · exact .inl hat.symm
                · exact .inr ⟨g, rfl, by rw [hat]; simp⟩
              have hb8 : Below w4.heap.size w4 w8 := (HB46.out.alloc HB46.out.size _).grown hgrow (by simp; omega) (fun i hi => (HLT.out i hi).1)
              have HO8 := Lib.hid hO8
              clear hown8 hgrow hat hO8 x0 x1 x2 x3 x4
              go_wp2
              go_roundw
              case rel => exact ⟨k + 1, by omega, by go_num, hb8, by rw [HSN.out]; exact HO8.out⟩
              case measure => simp [intOf]; omega
          · obtain rfl : k = bs.length := by omega
            rw [List.take_of_length_le (Nat.le_refl _)] at hown
            have hal := apart_len t bs bs.length
            rw [List.take_of_length_le (Nat.le_refl _)] at hal
            obtain ⟨aad, acap, rfl, ha1, ha2, hat⟩ := hown.at
            have HRS3 := Lib.hid (HRS.out hsz HCKZ.out wr aad acap ha1 ha2 (by omega) HZ2.out hat HBW.out)
            obtain ⟨wD, rfl⟩ : ∃ x, x = wr := ⟨_, rfl⟩
            obtain ⟨c0, c1, c2, c3, _⟩ := cellsT HQW.out
            clear hown hat hbw HRS
            generalize apartB t bs = cs at *
            unfold maxLen at ha2
            go_wp2_with fail
            refine HRS3.out.mono ?_; rintro e w9 ⟨ra, rc, rfl, hr, hb9⟩
            have HB9 := Lib.hid (HBW.out.trans (hb9.mono HBW.out.size))
            have HQ9 := Lib.hid (keptR9 hb9 HQW.out)
            have HR9 := Lib.hid hr
            clear hr hb9 c0 c1 c2 c3 HQW HBW HRS3
            go_upto_region 12 with fail
            generalize hw : w9.alloc (.cells #[.int .i64 t.kind, .string t.name, .int .i64 t.n, .slice ra t.args.length rc] 25) = w10
            have HQy : Hid (w10.heap[w9.heap.size]? = some (.cells #[.int .i64 t.kind, .string t.name, .int .i64 t.n, .slice ra t.args.length rc] 25 (0, 0))) := Lib.hid (by rw [← hw]; exact alloc_new w9 _)
            have hb10 : Below w9.heap.size w9 w10 := by rw [← hw]; exact (Below.refl _ _).alloc (Nat.le_refl _) _
            have HB10 := Lib.hid (HB9.out.trans (hb10.mono HB9.out.size))
            have HSM := Lib.hid (same_yes t ra ad rc cap w10 (by omega) (HR9.out.on hb10) (HIN.out _ HB10.out))
            obtain ⟨c0, c1, c2, c3, _⟩ := cellsT (keptR9 hb10 HQ9.out)
            obtain ⟨y0, y1, y2, y3, _⟩ := cellsT HQy.out
            clear hw hb10
            unfold tmv at HSM
            go_wp2_with fail
            refine HSM.out.mono ?_; rintro e w11 ⟨rfl, hb11⟩
            have HB11 := Lib.hid (HB10.out.trans (hb11.mono HB10.out.size))
            clear hb11 c0 c1 c2 c3 y0 y1 y2 y3
            go_wp2_with fail
            go_ret
            exact ⟨rfl, HB11.out⟩
      · have hck2 : (t.chk != 0) = true := bne_iff_ne.2 hck
        generalize t.chk = ck at *
        clear hck HCK HRS
        go_wp2_with fail
        refine HCK3.out.mono ?_; rintro e w4 ⟨rfl, hb4⟩
        have HB4 := Lib.hid (HB3.out.trans (hb4.mono HB3.out.size))
        clear hb4 c0 c1 c2 c3
        go_wp2_with fail
        go_ret
        exact ⟨rfl, HB4.out⟩
    · rw [decide_eq_false (show ¬ ((t.size : Int) ≤ 1900) by omega)] at hfw
      have HF := Lib.hid hfw
      clear hfw
      go_wp2_with fail
      refine HF.out.mono ?_; rintro e w3 ⟨rfl, hb3⟩
      have HB3 := Lib.hid (HB2.out.trans (hb3.mono HB2.out.size))
      clear hb3 c0 c1 c2 c3
      go_wp2_with fail
      go_ret
      exact ⟨rfl, HB3.out⟩
end Go.Proofs.YtjgjeafjnaodkaaDoor
