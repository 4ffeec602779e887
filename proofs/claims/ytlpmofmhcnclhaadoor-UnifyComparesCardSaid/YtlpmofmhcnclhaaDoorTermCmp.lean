/-
  The contracts of the document's own rank, text and Compare for term.
-/
import Derived.Test.YtlpmofmhcnclhaaDoorTermMR
import Derived.Test.YtlpmofmhcnclhaaDoorNumA
import Derived.Deep.RegionHeld3
import Derived.Deep.QuietTactic
import Derived.BigQuiet
import Derived.Laws.Cover1
import Derived.Sort.Walk0
import Derived.Lib.Strings
namespace Go.Proofs.YtlpmofmhcnclhaaDoor
open Go.RowKit

/-- How two texts compare. -/
noncomputable def textV (a b : List UInt8) : Int := if a < b then -1 else if a = b then 0 else 1
def rankV (k : Int) : Int := if k = 1 then 0 else if k = 3 then 1 else if k = 2 then 2 else 3

set_option maxHeartbeats 1000000 in
theorem ref_text (a b : ByteArray) (w : World) :
    Calls Tryd.prog 62 #[.string a, .string b] w fun e w' => e = .returned (.int .i64 (textV a.data.toList b.data.toList)) ∧ w = w' := by
  have hl := bytesLess_eq a.data.toList b.data.toList
  rw [← Lib.toList_data, ← Lib.toList_data] at hl
  unfold textV
  rw [← Lib.toList_data, ← Lib.toList_data]
  by_cases h1 : a.toList < b.toList
  · rw [decide_eq_true h1] at hl
    rw [if_pos h1]
    clear h1
    go_enter Tryd.func62, Tryd.ntmps62
    go_wp2_with fail
    go_ret
    exact ⟨rfl, rfl⟩
  · rw [decide_eq_false h1] at hl
    rw [if_neg h1]
    by_cases h2 : a.toList = b.toList
    · rw [if_pos h2]
      have h3 : (a.toList == b.toList) = true := by simpa using h2
      clear h1 h2
      go_enter Tryd.func62, Tryd.ntmps62
      go_wp2_with fail
      go_ret
      exact ⟨rfl, rfl⟩
    · rw [if_neg h2]
      have h3 : (a.toList == b.toList) = false := by simpa using h2
      clear h1 h2
      go_enter Tryd.func62, Tryd.ntmps62
      go_wp2_with fail
      go_ret
      exact ⟨rfl, rfl⟩

set_option maxHeartbeats 1000000 in
theorem ref_rank (k : Int) (w : World) :
    Calls Tryd.prog 61 #[.int .i64 k] w fun e w' => e = .returned (.int .i64 (rankV k)) ∧ w = w' := by
  unfold rankV
  by_cases h1 : k = 1
  · rw [if_pos h1]; subst h1
    go_enter Tryd.func61, Tryd.ntmps61
    go_wp2_with fail
    go_ret
    exact ⟨rfl, rfl⟩
  rw [if_neg h1]
  by_cases h3 : k = 3
  · rw [if_pos h3]; subst h3
    clear h1
    go_enter Tryd.func61, Tryd.ntmps61
    go_wp2_with fail
    go_ret
    exact ⟨rfl, rfl⟩
  rw [if_neg h3]
  by_cases h2 : k = 2
  · rw [if_pos h2]; subst h2
    clear h1 h3
    go_enter Tryd.func61, Tryd.ntmps61
    go_wp2_with fail
    go_ret
    exact ⟨rfl, rfl⟩
  rw [if_neg h2]
  have e1 : (k == 1) = false := by simpa using h1
  have e2 : (k == 2) = false := by simpa using h2
  have e3 : (k == 3) = false := by simpa using h3
  clear h1 h2 h3
  go_enter Tryd.func61, Tryd.ntmps61
  go_wp2_with fail
  go_ret
  exact ⟨rfl, rfl⟩

mutual
/-- The standard order. -/
noncomputable def Tm.cmp : Tm → Tm → Int
  | .mk k s n l, .mk k' s' n' l' => if k ≠ k' then cmpV (rankV k) (rankV k') else if k = 1 ∨ k = 3 then cmpV n n' else if k = 2 then textV s.data.toList s'.data.toList
      else if l.length ≠ l'.length then cmpV l.length l'.length else if textV s.data.toList s'.data.toList ≠ 0 then textV s.data.toList s'.data.toList else Tm.cmps l l'
noncomputable def Tm.cmps : List Tm → List Tm → Int
  | [], _ => 0
  | _ :: _, [] => 0
  | t :: l, t' :: l' => if t.cmp t' ≠ 0 then t.cmp t' else Tm.cmps l l'
end
theorem Tm.cmp_eq (a b : Tm) : a.cmp b = if a.kind ≠ b.kind then cmpV (rankV a.kind) (rankV b.kind) else if a.kind = 1 ∨ a.kind = 3 then cmpV a.n b.n else if a.kind = 2 then textV a.name.data.toList b.name.data.toList
      else if a.args.length ≠ b.args.length then cmpV a.args.length b.args.length else if textV a.name.data.toList b.name.data.toList ≠ 0 then textV a.name.data.toList b.name.data.toList else Tm.cmps a.args b.args := by
  cases a; cases b
  rw [Tm.cmp]
  rfl
/-- Up to a place all are the same: so the first that differ tell it. -/
theorem cmps_hit : ∀ (l r : List Tm) (k : Nat) (h : k < l.length) (h' : k < r.length), (∀ j (h1 : j < l.length) (h2 : j < r.length), j < k → (l[j]'h1).cmp (r[j]'h2) = 0) → (l[k]'h).cmp (r[k]'h') ≠ 0 → Tm.cmps l r = (l[k]'h).cmp (r[k]'h')
  | [], _, k, h, _, _, _ => absurd h (Nat.not_lt_zero _)
  | _ :: _, [], k, _, h', _, _ => absurd h' (Nat.not_lt_zero _)
  | t :: l, t' :: l', 0, _, _, _, hn => by
    rw [Tm.cmps]
    exact if_pos hn
  | t :: l, t' :: l', k + 1, h, h', hz, hn => by
    rw [Tm.cmps, if_neg (by rw [show t.cmp t' = 0 from hz 0 (by simp) (by simp) (by omega)]; simp)]
    exact cmps_hit l l' k (by simpa using h) (by simpa using h') (fun j h1 h2 hj => hz (j + 1) (by simpa using h1) (by simpa using h2) (by omega)) hn
theorem cmps_zero : ∀ (l r : List Tm), (∀ j (h1 : j < l.length) (h2 : j < r.length), (l[j]'h1).cmp (r[j]'h2) = 0) → Tm.cmps l r = 0
  | [], _, _ => by rw [Tm.cmps]
  | _ :: _, [], _ => by rw [Tm.cmps]
  | t :: l, t' :: l', hz => by
    rw [Tm.cmps, if_neg (by rw [show t.cmp t' = 0 from hz 0 (by simp) (by simp)]; simp)]
    exact cmps_zero l l' (fun j h1 h2 => hz (j + 1) (by simpa using h1) (by simpa using h2))
theorem below_dn {B : Nat} {a w : World} (h : Below B a w) (n : Nat) : Below B a (w.drewN n) := ⟨h.os, h.tape, h.output, h.size, h.block⟩
theorem quiet_left {P : Program} {f : FuncId} {args : Array Value} {w : World} {n : Nat} {v : Value} (h : Calls P f args (w.drewN n) fun e w' => e = .returned v ∧ w.drewN n = w') : Calls P f args (w.drewN n) fun e w'' => e = .returned v ∧ ∃ m, w'' = w.drewN m :=
  h.mono fun _ _ ⟨he, hm⟩ => ⟨he, n, hm.symm⟩

set_option maxRecDepth 100000 in
set_option maxHeartbeats 2000000 in
theorem ref_Cmp_kinds (A B : Tm) (ad bd : Option Addr) (ca cb : Nat) (w : World) (hk : A.kind ≠ B.kind) :
    Calls Tryd.prog 46 #[tmv A ad ca, tmv B bd cb] w fun e w' => e = .returned (.int .i64 (cmpV (rankV A.kind) (rankV B.kind))) ∧ Below w.heap.size w w' := by
  have ek : (A.kind != B.kind) = true := by simpa using hk
  have HB := Lib.hid (fun (o1 o2 : Obj) => (((Below.refl w.heap.size w).alloc (Nat.le_refl _) o1).alloc (by simp) o2))
  clear hk
  unfold tmv
  go_enter Tryd.func46, Tryd.ntmps46
  go_wp2_with fail
  go_quiet (first
    | (go_at_call 61; exact quiet_left (ref_rank _ _))
    | (go_at_call 60; exact quiet_left (ref_Cmp _ _ _)))
  go_wp2_with fail
  go_ret
  exact ⟨rfl, below_dn (HB.out _ _) _⟩

set_option maxRecDepth 100000 in
set_option maxHeartbeats 2000000 in
theorem ref_Cmp_leaf (A B : Tm) (ad bd : Option Addr) (ca cb : Nat) (w : World) (hk : A.kind = B.kind) (r : Int) (hr : ((A.kind = 1 ∨ A.kind = 3) ∧ r = cmpV A.n B.n) ∨ (A.kind = 2 ∧ r = textV A.name.data.toList B.name.data.toList)) :
    Calls Tryd.prog 46 #[tmv A ad ca, tmv B bd cb] w fun e w' => e = .returned (.int .i64 r) ∧ Below w.heap.size w w' := by
  have HB := Lib.hid (fun (o1 o2 : Obj) => (((Below.refl w.heap.size w).alloc (Nat.le_refl _) o1).alloc (by simp) o2))
  unfold tmv
  rw [← hk]
  clear hk
  generalize A.kind = k at *
  rcases hr with ⟨h1 | h1, rfl⟩ | ⟨h1, rfl⟩
  · subst h1
    go_enter Tryd.func46, Tryd.ntmps46
    go_wp2_with fail
    refine (ref_Cmp _ _ _).mono ?_; rintro e w' ⟨rfl, rfl⟩
    go_wp2_with fail
    go_ret
    exact ⟨rfl, HB.out _ _⟩
  · subst h1
    go_enter Tryd.func46, Tryd.ntmps46
    go_wp2_with fail
    refine (ref_Cmp _ _ _).mono ?_; rintro e w' ⟨rfl, rfl⟩
    go_wp2_with fail
    go_ret
    exact ⟨rfl, HB.out _ _⟩
  · subst h1
    go_enter Tryd.func46, Tryd.ntmps46
    go_wp2_with fail
    refine (ref_text _ _ _).mono ?_; rintro e w' ⟨rfl, rfl⟩
    go_wp2_with fail
    go_ret
    exact ⟨rfl, HB.out _ _⟩

set_option maxRecDepth 100000 in
set_option maxHeartbeats 4000000 in
theorem ref_Compare (m : Nat) : ∀ (A B : Tm) (ad bd : Option Addr) (ca cb : Nat) (w : World), A.size ≤ m → A.size ≤ 1000000 → TmIn w A ad ca → TmIn w B bd cb →
    Calls Tryd.prog 46 #[tmv A ad ca, tmv B bd cb] w fun e w' => e = .returned (.int .i64 (A.cmp B)) ∧ Below w.heap.size w w' := by
  induction m with
  | zero => intro T _ ad _ cap _ w h; have := T.size_pos; omega
  | succ m ih =>
    intro A B ad bd ca cb w hm hM hA hB
    rw [Tm.cmp_eq]
    by_cases hk : A.kind = B.kind
    · rw [if_neg (by simpa using hk)]
      by_cases h13 : A.kind = 1 ∨ A.kind = 3
      · rw [if_pos h13]; exact ref_Cmp_leaf A B ad bd ca cb w hk _ (.inl ⟨h13, rfl⟩)
      rw [if_neg h13]
      by_cases h2 : A.kind = 2
      · rw [if_pos h2]; exact ref_Cmp_leaf A B ad bd ca cb w hk _ (.inr ⟨h2, rfl⟩)
      rw [if_neg h2]
      have IH := Lib.hid ih
      clear ih
      have HA := Lib.hid hA
      have HB := Lib.hid hB
      have hlen := Tm.length_le_sizes A.args
      have hsz := A.size_eq
      have hl : A.args.length ≤ 1000000 := by omega
      have hca := hA.len
      have hcam := hA.cap
      have hcb := hB.len
      have hcbm := hB.cap
      unfold maxLen at hcam hcbm
      have HSZ := Lib.hid hsz
      have HBB := Lib.hid (fun (o1 o2 : Obj) => (((Below.refl w.heap.size w).alloc (Nat.le_refl _) o1).alloc (by simp) o2))
      have e1 : (A.kind == 1) = false := by simp; omega
      have e3 : (A.kind == 3) = false := by simp; omega
      have e2 : (A.kind == 2) = false := by simpa using h2
      clear hsz hlen hA hB h13 h2
      unfold tmv
      rw [← hk]
      clear hk
      by_cases hq : A.args.length = B.args.length
      · rw [if_neg (by simpa using hq)]
        obtain ⟨tv, htv⟩ : ∃ t, textV A.name.data.toList B.name.data.toList = t := ⟨_, rfl⟩
        have cT := fun w => ref_text A.name B.name w
        rw [htv] at cT
        rw [htv]
        have HT := Lib.hid cT
        clear cT htv
        by_cases ht0 : tv = 0
        · rw [if_neg (by simpa using ht0)]
          subst ht0
          obtain ⟨E, hE⟩ : ∃ E, Tm.cmps A.args B.args = E := ⟨_, rfl⟩
          rw [hE]
          have HE := Lib.hid hE
          have HHIT := Lib.hid (cmps_hit A.args B.args)
          have HZERO := Lib.hid (cmps_zero A.args B.args)
          clear hE
          rw [← hq]
          have HQ := Lib.hid hq
          clear hq
          go_enter Tryd.func46, Tryd.ntmps46
          go_wp2_with fail
          refine (HT.out _).mono ?_; rintro e w' ⟨rfl, rfl⟩
          go_wp2_with fail
          generalize hw0 : (w.alloc _).alloc _ = w0
          have hw0b : Below w.heap.size w w0 := by rw [← hw0]; exact HBB.out _ _
          have hw0s : w0.heap.size = w.heap.size + 2 := by rw [← hw0]; simp
          have q0 : w0.cell? ⟨w.heap.size, 3, none⟩ = some (.slice ad A.args.length ca) := by rw [← hw0, World.cell?_alloc_past _ _ _ (by simp), World.cell?_alloc_at _ _ _ _ rfl]; rfl
          have q1 : w0.cell? ⟨w.heap.size + 1, 3, none⟩ = some (.slice bd A.args.length cb) := by rw [← hw0, World.cell?_alloc_at _ _ _ _ (by simp)]; rfl
          clear hw0 HBB
          go_loopw [62] (fun iv wr => ∃ k : Nat, k ≤ A.args.length ∧ iv = .int .i64 k ∧ Below w0.heap.size w0 wr ∧ Hid (∀ j (h1 : j < A.args.length) (h2 : j < B.args.length), j < k → (A.args[j]'h1).cmp (B.args[j]'h2) = 0)) (fun iv _ => A.args.length - (intOf iv).toNat)
          case atStart => exact ⟨0, Nat.zero_le _, rfl, Below.refl _ w0, Lib.hid (fun _ _ _ h => absurd h (Nat.not_lt_zero _))⟩
          case round =>
            obtain ⟨k, hk, rfl, hbw, HZ⟩ := hrel
            have f0 := (hbw.cell (p := ⟨w.heap.size, 3, none⟩) (by show w.heap.size < _; omega)).trans q0
            have f1 := (hbw.cell (p := ⟨w.heap.size + 1, 3, none⟩) (by show w.heap.size + 1 < _; omega)).trans q1
            by_cases hlt : k < A.args.length
            · have hltB : k < B.args.length := by have := HQ.out; omega
              obtain ⟨b, o, rfl⟩ := HA.out.args.addr (by omega)
              obtain ⟨b', o', rfl⟩ := HB.out.args.addr (by omega)
              have hwr : Below w.heap.size w wr := hw0b.trans (hbw.mono (by omega))
              obtain ⟨ad1, cap1, c0, c1, c2, c3, hin1⟩ := (HA.out.args.on hwr).get k hlt
              obtain ⟨ad2, cap2, d0, d1, d2, d3, hin2⟩ := (HB.out.args.on hwr).get k hltB
              have hmem := Tm.mem_size (List.getElem_mem hlt)
              have hhit := Lib.hid (HHIT.out k hlt hltB HZ.out)
              have hnext : Hid ((A.args[k]'hlt).cmp (B.args[k]'hltB) = 0 → ∀ j (h1 : j < A.args.length) (h2 : j < B.args.length), j < k + 1 → (A.args[j]'h1).cmp (B.args[j]'h2) = 0) := Lib.hid (fun h0 j h1 h2 hj => by
                rcases Nat.lt_or_ge j k with h3 | h3
                · exact HZ.out j h1 h2 h3
                · obtain rfl : j = k := by omega
                  exact h0)
              generalize A.args[k] = x at *
              generalize B.args[k]'hltB = y at *
              have HIN1 := Lib.hid hin1
              have HIN2 := Lib.hid hin2
              clear hin1 hin2
              have hxm : x.size ≤ m := by have := HSZ.out; omega
              have hxM : x.size ≤ 1000000 := by have := HSZ.out; omega
              clear hmem HZ
              have hk0 : (0 : Int) ≤ (k : Int) := by omega
              have hk1 : (k : Int) < (A.args.length : Int) := by omega
              go_wp2_with fail
              go_region_held3 (fun w' => w'.cell? ⟨w.heap.size, 3, none⟩ = some (.slice (some ⟨b, o, none⟩) A.args.length ca) ∧ w'.cell? ⟨w.heap.size + 1, 3, none⟩ = some (.slice (some ⟨b', o', none⟩) A.args.length cb) ∧
                  w'.cell? ⟨b, o + k * 4, none⟩ = some (.int .i64 x.kind) ∧ w'.cell? ⟨b, o + k * 4 + 1, none⟩ = some (.string x.name) ∧ w'.cell? ⟨b, o + k * 4 + 2, none⟩ = some (.int .i64 x.n) ∧ w'.cell? ⟨b, o + k * 4 + 3, none⟩ = some (.slice ad1 x.args.length cap1) ∧
                  w'.cell? ⟨b', o' + k * 4, none⟩ = some (.int .i64 y.kind) ∧ w'.cell? ⟨b', o' + k * 4 + 1, none⟩ = some (.string y.name) ∧ w'.cell? ⟨b', o' + k * 4 + 2, none⟩ = some (.int .i64 y.n) ∧ w'.cell? ⟨b', o' + k * 4 + 3, none⟩ = some (.slice ad2 y.args.length cap2)) (first | go_keep | (have keep : ∀ (b o : Nat) (v : Value), wr.cell? ⟨b, o, none⟩ = some v → w2.cell? ⟨b, o, none⟩ = some v := fun b o v hc => (((Below.refl _ wr).drew.trans hb2).cell (World.block_lt_of_cell? wr ⟨b, o, none⟩ hc)).trans hc; exact ⟨keep _ _ _ f0, keep _ _ _ f1, keep _ _ _ c0, keep _ _ _ c1, keep _ _ _ c2, keep _ _ _ c3, keep _ _ _ d0, keep _ _ _ d1, keep _ _ _ d2, keep _ _ _ d3⟩))
                ((go_at_call 46; refine (IH.out x y ad1 ad2 cap1 cap2 _ hxm hxM (HIN1.out.on (Below.refl _ wr).drew) (HIN2.out.on (Below.refl _ wr).drew)).mono ?_; rintro e w2 ⟨rfl, hb2⟩))
              obtain ⟨cv, hcv⟩ : ∃ c, x.cmp y = c := ⟨_, rfl⟩
              have HCV := Lib.hid hcv
              rw [hcv]
              have hbw2 := hbw.trans (((Below.refl _ wr).drew.trans hb2).mono hbw.size)
              clear hb2 hbw c0 c1 c2 c3 d0 d1 d2 d3 f0 f1 hcv
              by_cases hc0 : cv = 0
              · have HN := Lib.hid (hnext.out (HCV.out.trans hc0))
                have ec : (cv != 0) = false := by simpa using hc0
                clear hc0
                go_wp2_with fail
                go_roundw
                case rel => exact ⟨k + 1, by omega, by go_num, hbw2, HN⟩
                case measure => simp [intOf]; omega
              · have HR : Hid (E = cv) := Lib.hid (HE.out.symm.trans ((hhit.out (by rw [HCV.out]; exact hc0)).trans HCV.out))
                have ec : (cv != 0) = true := by simpa using hc0
                clear hc0
                go_wp2_with fail
                go_ret
                exact ⟨ret_i HR.out.symm, hw0b.trans (hbw2.mono (by omega))⟩
            · have HR : Hid (E = 0) := Lib.hid (HE.out.symm.trans (HZERO.out (fun j h1 h2 => HZ.out j h1 h2 (by omega))))
              clear HZ
              go_wp2_with fail
              go_ret
              exact ⟨ret_i HR.out.symm, hw0b.trans (hbw.mono (by omega))⟩
        · rw [if_pos ht0]
          have et : (tv != 0) = true := by simpa using ht0
          clear ht0
          rw [← hq]
          clear hq
          go_enter Tryd.func46, Tryd.ntmps46
          go_wp2_with fail
          refine (HT.out _).mono ?_; rintro e w' ⟨rfl, rfl⟩
          go_wp2_with fail
          go_ret
          exact ⟨rfl, HBB.out _ _⟩
      · rw [if_pos hq]
        have el : ((A.args.length : Int) != (B.args.length : Int)) = true := by simp; omega
        clear hq
        go_enter Tryd.func46, Tryd.ntmps46
        go_wp2_with fail
        refine (ref_Cmp _ _ _).mono ?_; rintro e w' ⟨rfl, rfl⟩
        go_wp2_with fail
        go_ret
        exact ⟨rfl, HBB.out _ _⟩
    · rw [if_pos hk]
      exact ref_Cmp_kinds A B ad bd ca cb w hk
end Go.Proofs.YtlpmofmhcnclhaaDoor
