/-
  Joined texts: AriPA, AriPB, AriPC.
-/
import Derived.Test.YtpmohibhdnmjlaaAriC
import Derived.Test.YtpmohibhdnmjlaaSubKAC
import Derived.Maps.OwnSet
import Derived.Maps.Views
import Derived.Maps.OwnIn
import Derived.DeepKeys4
import Derived.Test.YtpmohibhdnmjlaaAriB

/-
  The memory of a call of package arith: its bindings, and the Vars that are known, a map whose keys are pairs.
-/
namespace Go.Proofs.Ytpmohibhdnmjlaa
open Go.RowKit Go.Maps

theorem pl_laid : laidOutB Try.prog = true := by kernel_rfl
theorem pl_row : (62 : TypeId) < Try.prog.types.size := of_decide_eq_true (by kernel_rfl)
theorem pl_wide : (match Try.prog.underlying 62 with | some (.array _ _) | some (.struct _) => true | _ => false) = true := by rw [Try.underlying62]
theorem pl_law : Keyed Try.prog 62 := Keyed.of_law (deep_law_laid pl_laid (m := 2) (by omega) pl_row (by kernel_rfl) pl_wide)
theorem pl_zero (w : World) : (zeroValue 2).run Try.prog w = .ok (.int .i64 0) w := by kernel_rfl
theorem pl_wf {a : Int} (h : In64 a) : (Lit.int .i64 a).wf = true := by
  have e1 : IntKind.i64.min = -9223372036854775808 := rfl
  have e2 : IntKind.i64.max = 9223372036854775807 := rfl
  simp [Lit.wf, e1, e2]
  exact h
/-- A place: a Var's number, and in how many others it stands. -/
def plv (v o : Int) : Value := .agg #[.int .i64 v, .int .i64 o]
theorem plv_inj {v o v' o' : Int} (h : plv v o = plv v' o') : v = v' ∧ o = o' := by
  unfold plv at h
  simp at h
  exact h
def pkey (v o : Int) : Lit := .string (keyBytes [.int .i64 v, .int .i64 o])
theorem pl_lits {v o : Int} (hv : (Lit.int .i64 v).wf = true) (ho : (Lit.int .i64 o).wf = true) (d : Nat) : Try.prog.keyLits (d + 2) 62 [.int .i64 v, .int .i64 o] = some [.int .i64 v, .int .i64 o] := by
  have hc : Try.prog.cellsOf 62 = 2 := by kernel_rfl
  have h2 : Try.prog.cellsOf 2 = 1 := by kernel_rfl
  have h3 : Try.prog.cellsOf 3 = 1 := by kernel_rfl
  have k2 : Try.prog.keyLits (d + 1) 2 [.int .i64 v] = some [.int .i64 v] := by
    unfold Program.keyLits
    rw [Try.underlying2]
    simp [hv]
  have k3 : Try.prog.keyLits (d + 1) 3 [.int .i64 o] = some [.int .i64 o] := by
    unfold Program.keyLits
    rw [Try.underlying3]
    simp [ho]
  unfold Program.keyLits
  rw [Try.underlying62]
  simp [hc, h2, h3, k2, k3]
theorem pl_key {v o : Int} (hv : In64 v) (ho : In64 o) : keyOf Try.prog 62 (plv v o) = some (pkey v o) := by
  have hv := pl_wf hv
  have ho := pl_wf ho
  have hf : Try.prog.keyType 62 = true := by kernel_rfl
  have hg : (plv v o).formed Try.prog 62 = true := by
    have hc : Try.prog.cellsOf 62 = 2 := by kernel_rfl
    simp [plv, Value.formed, Try.underlying62, hc]
  have hl : Try.prog.keyLits (Try.prog.types.size + 1) 62 [.int .i64 v, .int .i64 o] = some [.int .i64 v, .int .i64 o] := by
    have : Try.prog.types.size + 1 = (Try.prog.types.size - 1) + 2 := by have h := Nat.lt_of_le_of_lt (Nat.zero_le _) pl_row; rw [show Try.prog.types.size - 1 + 2 = (Try.prog.types.size - 1 + 1) + 1 from rfl, Nat.sub_add_cancel h]
    rw [this]
    exact pl_lits hv ho _
  unfold keyOf
  rw [Try.underlying62]
  simp only [hf, hg, Bool.and_self, if_true]
  rw [show (plv v o).cells.toList = [.int .i64 v, .int .i64 o] from rfl, hl]
  rfl
theorem pkey_inj {v o v' o' : Int} (hv : In64 v) (ho : In64 o) (hv' : In64 v') (ho' : In64 o') (h : pkey v o = pkey v' o') : v = v' ∧ o = o' :=
  plv_inj (pl_law.inj (pl_key hv ho) (h ▸ pl_key hv' ho'))

/-- The datum D holds just what is known. -/
structure Kn (D : DataW Unit) (l : List ((Int × Int) × Int)) : Prop where
  isMap : IsMap D
  inn : ∀ e ∈ l, In64 e.1.1 ∧ In64 e.1.2
  has : ∀ v o, In64 v → In64 o → (Maps.has D (pkey v o) = true ↔ ∃ c, ((v, o), c) ∈ l)
  at_ : ∀ v o c, ((v, o), c) ∈ l → D.atKey (pkey v o) (.lit (.int .i64 0)) = .lit (.int .i64 c)
theorem Kn.put {D : DataW Unit} {l : List ((Int × Int) × Int)} (h : Kn D l) {v o c : Int} (hv : In64 v) (ho : In64 o) (hn : ¬ ∃ c, ((v, o), c) ∈ l) : Kn (D.put (pkey v o) (.lit (.int .i64 c))) (l ++ [((v, o), c)]) := by
  have hk : WideAt.IsKeyLit (pkey v o) := trivial
  refine ⟨h.isMap.put _ _, fun e he => ?_, fun v' o' hv' ho' => ?_, fun v' o' c' hm => ?_⟩
  · rcases List.mem_append.1 he with he | he
    · exact h.inn e he
    · rw [List.mem_singleton.1 he]; exact ⟨hv, ho⟩
  · by_cases e : v' = v ∧ o' = o
    · obtain ⟨rfl, rfl⟩ := e
      rw [has_put_same h.isMap hk]
      exact ⟨fun _ => ⟨c, by simp⟩, fun _ => rfl⟩
    · rw [has_put_other (fun e' => e (pkey_inj hv' ho' hv ho e')), h.has v' o' hv' ho']
      constructor
      · rintro ⟨c', hc⟩; exact ⟨c', List.mem_append_left _ hc⟩
      · rintro ⟨c', hc⟩
        rcases List.mem_append.1 hc with hc | hc
        · exact ⟨c', hc⟩
        · have := List.mem_singleton.1 hc
          injection this with h1 h2
          injection h1 with h3 h4
          exact absurd ⟨h3, h4⟩ e
  · rcases List.mem_append.1 hm with hm | hm
    · have hi : In64 v' ∧ In64 o' := h.inn _ hm
      have e : pkey v' o' ≠ pkey v o := fun e' => by
        obtain ⟨h1, h2⟩ := pkey_inj hi.1 hi.2 hv ho e'
        exact hn ⟨c', by rw [← h1, ← h2]; exact hm⟩
      rw [atKey_put_other e, h.at_ v' o' c' hm]
    · have := List.mem_singleton.1 hm
      injection this with h1 h2
      injection h1 with h3 h4
      subst h3 h4 h2
      rw [atKey_put_same h.isMap hk]

/-- A Var that is bound. -/
def vr (v : Int) : Tm := .mk 1 ⟨#[]⟩ v []
/-- What is known is so. -/
structure Kf (bs : List (Int × Tm)) (l : List ((Int × Int) × Int)) : Prop where
  once : (l.map Prod.fst).Nodup
  is : ∀ e ∈ l, e.1.1 ∈ bs.map Prod.fst ∧ ∃ d : Nat, e.1.2 + ((d : Nat) : Int) + 1 = 60 ∧ d < 60 ∧ evD bs (d + 1) (vr e.1.1) = (e.2, 0)
def allP : List Int → List (Int × Int)
  | [] => []
  | v :: vs => (List.range 60).map (fun i : Nat => (v, (i : Int))) ++ allP vs
theorem allP_len : ∀ vs, (allP vs).length = 60 * vs.length
  | [] => rfl
  | v :: vs => by
    show ((List.range 60).map (fun i : Nat => (v, (i : Int))) ++ allP vs).length = 60 * (vs.length + 1)
    rw [List.length_append, allP_len vs, List.length_map, List.length_range]
    omega
theorem allP_mem {v o : Int} (h1 : 0 ≤ o) (h2 : o < 60) : ∀ vs, v ∈ vs → (v, o) ∈ allP vs
  | [], h => by cases h
  | u :: vs, h => by
    refine List.mem_append.2 ?_
    rcases List.mem_cons.1 h with rfl | h
    · exact .inl (List.mem_map.2 ⟨o.toNat, List.mem_range.2 (by omega), by rw [Int.toNat_of_nonneg h1]⟩)
    · exact .inr (allP_mem h1 h2 vs h)
theorem Kf.len {bs : List (Int × Tm)} {l : List ((Int × Int) × Int)} (h : Kf bs l) : l.length ≤ 60 * bs.length := by
  have h1 : (l.map Prod.fst).length ≤ (allP (bs.map Prod.fst)).length := h.once.length_le_of_subset fun p hp => by
    obtain ⟨e, he, rfl⟩ := List.mem_map.1 hp
    obtain ⟨hv, d, hd, hd2, _⟩ := h.is e he
    have hd : e.1.2 + (d : Nat) + 1 = 60 := hd
    have h0 : 0 ≤ e.1.2 ∧ e.1.2 < 60 := by omega
    exact allP_mem h0.1 h0.2 _ hv
  rw [allP_len] at h1
  simpa using h1
/-- Block mb is the map of what is known. -/
def KMap (bs : List (Int × Tm)) (w : World) (mb : Nat) : Prop := ∃ (D : DataW Unit) (l : List ((Int × Int) × Int)), w.ownsMap Try.prog 62 (plainElem Try.prog 2) mb l.length D ∧ Kn D l ∧ Kf bs l
theorem KMap.new (bs : List (Int × Tm)) (w : World) : KMap bs (w.alloc (.map #[] 0)) w.heap.size :=
  ⟨.map [], [], World.ownsMap_made _ _ _ _, ⟨isMap_empty, (fun e h => by cases h), (fun v o _ _ => by simp [has_eq]), (fun v o c h => by cases h)⟩, ⟨List.nodup_nil, fun e h => by cases h⟩⟩
theorem KMap.at {bs : List (Int × Tm)} {w w' : World} {mb : Nat} (h : KMap bs w mb) (he : w'.heap[mb]? = w.heap[mb]?) : KMap bs w' mb := by
  obtain ⟨D, l, ⟨es, clock, hb, r⟩, h2⟩ := h
  exact ⟨D, l, ⟨es, clock, he.trans hb, r⟩, h2⟩
theorem KMap.nocell {bs : List (Int × Tm)} {w : World} {mb : Nat} (h : KMap bs w mb) (o : Nat) : w.cell? ⟨mb, o, none⟩ = none := by
  obtain ⟨D, l, ⟨es, clock, hb, r⟩, h2⟩ := h
  simp [World.cell?, hb]
theorem KMap.lt {bs : List (Int × Tm)} {w : World} {mb : Nat} (h : KMap bs w mb) : mb < w.heap.size := by
  obtain ⟨D, l, hown, _⟩ := h
  exact hown.lt
/-- A Var that is looked up: what is known of it is so. -/
theorem KMap.look {bs : List (Int × Tm)} {w : World} {mb : Nat} (h : KMap bs w mb) {v o : Int} {d : Nat} (hv : In64 v) (ho : o + (d : Nat) + 1 = 60) (ho0 : 0 ≤ o) : ∃ c b, (∀ W : World, W.heap[mb]? = w.heap[mb]? → (Instr.lookup 58 (.map (some mb)) (.agg #[.int .i64 v, .int .i64 o]) true).run Try.prog W = .ok (.tuple #[.int .i64 c, .bool b]) W) ∧
    (b = true → evD bs (d + 1) (vr v) = (c, 0)) := by
  obtain ⟨D, l, hown, hK, hF⟩ := h
  have ho6 : In64 o := ⟨by omega, by omega⟩
  have hkey := pl_key hv ho6
  have one : ∀ W : World, W.heap[mb]? = w.heap[mb]? → ∃ c, (Instr.lookup 58 (.map (some mb)) (plv v o) true).run Try.prog W = .ok (.tuple #[.int .i64 c, .bool (Maps.has D (pkey v o))]) W ∧ D.atKey (pkey v o) (.lit (.int .i64 0)) = .lit (.int .i64 c) := fun W hW => by
    have hown' : W.ownsMap Try.prog 62 (plainElem Try.prog 2) mb l.length D := by
      obtain ⟨es, clock, hb, r⟩ := hown
      exact ⟨es, clock, hW.trans hb, r⟩
    obtain ⟨x, ps, hr, hx⟩ := hown'.look_ok pl_law Try.underlying58 (pl_zero W) (plainElem_int (H := Unit) Try.underlying2 (pl_wf ⟨by decide, by decide⟩)) hkey
    obtain ⟨c, rfl, hc, hwc⟩ := plainElem_int_inv Try.underlying2 hx
    exact ⟨c, hr, congrArg Prod.fst hc⟩
  obtain ⟨c, _, hat⟩ := one w rfl
  refine ⟨c, Maps.has D (pkey v o), fun W hW => ?_, fun hb => ?_⟩
  · obtain ⟨c', hr, hat'⟩ := one W hW
    rw [hat] at hat'
    injection hat' with h1
    injection h1 with _ h1
    rw [h1]
    exact hr
  · obtain ⟨c', hc'⟩ := (hK.has v o hv ho6).1 hb
    have h1 := hK.at_ v o c' hc'
    rw [hat] at h1
    injection h1 with h1
    injection h1 with _ h1
    obtain ⟨_, d', hd, _, hev⟩ := hF.is _ hc'
    obtain rfl : d' = d := by have : o + (d' : Nat) + 1 = 60 := hd; omega
    rw [h1]
    exact hev
theorem owns_tight {H : Type} {P : Program} {k : TypeId} {R : Value → Option (DataW H × List MemPlace)} {w : World} {b n : Nat} {D : DataW H} (h : w.ownsMap P k R b n D) : w.ownsMap P k R b (Maps.size D) D := by
  obtain ⟨es, clock, hb, F, _, rfl⟩ := h
  exact ⟨es, clock, hb, F, by simp [Maps.size, length_sorted], rfl⟩
/-- A Var laid into what is known. -/
theorem KMap.put {bs : List (Int × Tm)} {W : World} {mb : Nat} (h : KMap bs W mb) {v o n : Int} {d : Nat} (hv : In64 v) (ho : o + (d : Nat) + 1 = 60) (ho0 : 0 ≤ o) (hn : In64 n) (hmem : v ∈ bs.map Prod.fst) (hlen : bs.length ≤ 1000000) (hev : evD bs (d + 1) (vr v) = (n, 0)) :
    ∃ W', (Instr.mapUpdate 58 (.map (some mb)) (.agg #[.int .i64 v, .int .i64 o]) (.int .i64 n)).run Try.prog W = .ok () W' ∧ KMap bs W' mb ∧ Turn (fun j => j = mb) W W' := by
  obtain ⟨D, l, hown, hK, hF⟩ := h
  have ho6 : In64 o := ⟨by omega, by omega⟩
  have hkey := pl_key hv ho6
  have hl := hF.len
  have hti := hown.tidy pl_law
  obtain ⟨W', hr, h1, h2⟩ := hown.update pl_law Try.underlying58 (by unfold maxLen; omega) hkey (plainElem_int (H := Unit) Try.underlying2 (pl_wf hn))
  refine ⟨W', hr, ?_, ⟨h2.os, h2.tape, h2.output, h2.size, fun k hk hne => h2.block k hk fun e => hne (Option.some.inj e)⟩⟩
  by_cases hno : ∃ c, ((v, o), c) ∈ l
  · obtain ⟨c, hc⟩ := hno
    have hk : WideAt.IsKeyLit (pkey v o) := trivial
    have same : ∀ c', ((v, o), c') ∈ l → c' = n := fun c' hc' => by
      obtain ⟨_, d', hd, _, h⟩ := hF.is _ hc'
      obtain rfl : d' = d := by have : o + (d' : Nat) + 1 = 60 := hd; omega
      have h : evD bs (d' + 1) (vr v) = (c', 0) := h
      rw [hev] at h
      injection h with h
      exact h.symm
    have hsz : Maps.size (D.put (pkey v o) (.lit (.int .i64 n))) ≤ l.length := by
      rw [size_put hti, if_pos ((hK.has v o hv ho6).2 ⟨c, hc⟩)]
      exact hown.size_le
    refine ⟨_, l, World.ownsMap.mono (owns_tight h1) hsz, ⟨hK.isMap.put _ _, hK.inn, fun v' o' hv' ho' => ?_, fun v' o' c' hm => ?_⟩, hF⟩
    · by_cases e : v' = v ∧ o' = o
      · obtain ⟨rfl, rfl⟩ := e
        rw [has_put_same hK.isMap hk]
        exact ⟨fun _ => ⟨c, hc⟩, fun _ => rfl⟩
      · rw [has_put_other (fun e' => e (pkey_inj hv' ho' hv ho6 e')), hK.has v' o' hv' ho']
    · by_cases e : v' = v ∧ o' = o
      · obtain ⟨rfl, rfl⟩ := e
        rw [atKey_put_same hK.isMap hk, same c' hm]
      · have hi : In64 v' ∧ In64 o' := hK.inn _ hm
        rw [atKey_put_other (fun e' => e (pkey_inj hi.1 hi.2 hv ho6 e')), hK.at_ v' o' c' hm]
  · refine ⟨_, l ++ [((v, o), n)], ?_, hK.put hv ho6 hno, ?_, fun e he => ?_⟩
    · rw [List.length_append]; exact h1
    · rw [List.map_append, List.nodup_append]
      refine ⟨hF.once, by simp, fun a ha b hb' e => ?_⟩
      obtain ⟨x, hx, rfl⟩ := List.mem_map.1 ha
      have hb2 : b = (v, o) := by simpa using hb'
      exact hno ⟨x.2, by rw [← hb2, ← e]; exact hx⟩
    · rcases List.mem_append.1 he with he | he
      · exact hF.is e he
      · rw [List.mem_singleton.1 he]
        exact ⟨hmem, d, by show o + (d : Nat) + 1 = 60; exact ho, by omega, hev⟩
/-- The numbers of a known Var have 64 bits. -/
theorem vr_walk {bs : List (Int × Tm)} {t : Tm} (h : t.kind = 1) (d : Nat) : evD bs d t = evD bs d (vr t.n) := by
  cases d with
  | zero => rfl
  | succ d =>
    have hw : ∀ f, lookL bs t.n ≠ none → walkF bs (f + 1) 0 t = walkF bs (f + 1) 0 (vr t.n) := fun f hl => by
      unfold walkF
      rw [if_pos h, if_pos (show (vr t.n).kind = 1 from rfl)]
      show (match lookL bs t.n with | none => _ | some x => _) = (match lookL bs t.n with | none => _ | some x => _)
      cases hx : lookL bs t.n with
      | none => exact absurd hx hl
      | some x => rfl
    cases hl : lookL bs t.n with
    | none =>
      have h1 : walkL bs 0 t = (t, 0, 0) := by
        show walkF bs (2000 + 1) 0 t = _
        unfold walkF
        rw [if_pos h, hl]
      have h2 : walkL bs 0 (vr t.n) = (vr t.n, 0, 0) := by
        show walkF bs (2000 + 1) 0 (vr t.n) = _
        unfold walkF
        rw [if_pos (show (vr t.n).kind = 1 from rfl), show (vr t.n).n = t.n from rfl, hl]
      unfold evD
      rw [h1, h2]
      show (if (0 : Int) ≠ 0 then _ else evK _ t) = (if (0 : Int) ≠ 0 then _ else evK _ (vr t.n))
      rw [if_neg (by decide), if_neg (by decide)]
      unfold evK
      rw [if_pos h, if_pos (show (vr t.n).kind = 1 from rfl)]
    | some x =>
      have := hw 2000 (by rw [hl]; nofun)
      unfold evD walkL
      rw [show 2001 - 0 = 2000 + 1 from rfl, this]
theorem walk_other {bs : List (Int × Tm)} {t : Tm} (h : t.kind ≠ 1) : walkL bs 0 t = (t, 0, 0) := by
  show walkF bs (2000 + 1) 0 t = _
  unfold walkF
  rw [if_neg h]
theorem ev_other {bs : List (Int × Tm)} {t : Tm} (h : t.kind ≠ 1) (d : Nat) : evD bs (d + 1) t = evK (evD bs d) t := by
  unfold evD
  rw [walk_other h]
  rw [if_neg (by simp)]
theorem ev_known {bs : List (Int × Tm)} {t X : Tm} {er : Int} {n d : Nat} (hk : t.kind = 1) (hX : walkL bs 0 t = (X, er, n)) (h0 : (evK (evD bs d) X).2 = 0) : t.n ∈ bs.map Prod.fst := by
  cases hl : lookL bs t.n with
  | some x => exact List.mem_map.2 ⟨_, lookL_mem hl, rfl⟩
  | none =>
    have h1 : walkL bs 0 t = (t, 0, 0) := by
      show walkF bs (2000 + 1) 0 t = _
      unfold walkF
      rw [if_pos hk, hl]
    rw [h1] at hX
    injection hX with e1 e2
    subst e1
    unfold evK at h0
    rw [if_pos hk] at h0
    exact absurd h0 (by decide)
end Go.Proofs.Ytpmohibhdnmjlaa

/-
  The contracts of package arith's small functions: checked, ofOne, ofTwo, begin (gen/genAriPB.py).
-/
namespace Go.Proofs.Ytpmohibhdnmjlaa
open Go.RowKit

set_option maxHeartbeats 1000000 in
theorem pa_checked (n e : Int) (w : World) : Calls Try.prog 47 #[.int .i64 n, .int .i64 e] w fun r w' => r = .returned (.tuple #[.int .i64 (tellV (n, e)).1, .int .i64 (tellV (n, e)).2]) ∧ w = w' := by
  unfold tellV
  dsimp only
  by_cases h : e = 0
  · rw [if_neg (by simpa using h), h]
    go_enter Try.func47, Try.ntmps47
    go_wp2_with fail
    go_ret2
    exact ⟨rfl, rfl⟩
  · rw [if_pos h]
    have e1 : (e != 0) = true := by simpa using h
    clear h
    go_enter Try.func47, Try.ntmps47
    go_wp2_with fail
    go_ret2
    exact ⟨rfl, rfl⟩

set_option maxHeartbeats 1000000 in
theorem pa_sign (x : Int) (w : World) : Calls Try.prog 57 #[.int .i64 x] w fun r w' => r = .returned (.tuple #[.int .i64 (cmpV x 0), .int .i64 0]) ∧ w = w' := by
  go_enter Try.func57, Try.ntmps57
  go_wp2_with fail
  refine (num_Sign _ _).mono ?_; rintro e w' ⟨rfl, rfl⟩
  go_wp2_with fail
  go_ret2
  exact ⟨rfl, rfl⟩
/-- What an operator of one Arg does, as a value. -/
def oneF (s : ByteArray) : Value := if (s.toList == [45]) = true then .func (.func 55) #[] #[] else if (s.toList == [97, 98, 115]) = true then .func (.func 56) #[] #[] else if (s.toList == [115, 105, 103, 110]) = true then .func (.func 57) #[] #[] else .nilFunc
def twoF (s : ByteArray) : Value := if (s.toList == [43]) = true then .func (.func 59) #[] #[] else if (s.toList == [45]) = true then .func (.func 60) #[] #[] else if (s.toList == [42]) = true then .func (.func 61) #[] #[] else if (s.toList == [47, 47]) = true then .func (.func 62) #[] #[] else if (s.toList == [114, 101, 109]) = true then .func (.func 63) #[] #[] else if (s.toList == [109, 111, 100]) = true then .func (.func 64) #[] #[] else .nilFunc

set_option maxRecDepth 100000 in
set_option maxHeartbeats 2000000 in
theorem pa_ofOne (s : ByteArray) (w : World) : Calls Try.prog 46 #[.string s] w fun r w' => r = .returned (oneF s) ∧ w = w' := by
  unfold oneF
  cases e0 : (s.toList == [45]) with
  | true =>
    rw [if_pos rfl]
    go_enter Try.func46, Try.ntmps46
    go_wp2_with fail
    go_ret
    exact ⟨rfl, rfl⟩
  | false =>
    rw [if_neg (by nofun)]
    cases e1 : (s.toList == [97, 98, 115]) with
    | true =>
      rw [if_pos rfl]
      go_enter Try.func46, Try.ntmps46
      go_wp2_with fail
      go_ret
      exact ⟨rfl, rfl⟩
    | false =>
      rw [if_neg (by nofun)]
      cases e2 : (s.toList == [115, 105, 103, 110]) with
      | true =>
        rw [if_pos rfl]
        go_enter Try.func46, Try.ntmps46
        go_wp2_with fail
        go_ret
        exact ⟨rfl, rfl⟩
      | false =>
        rw [if_neg (by nofun)]
        go_enter Try.func46, Try.ntmps46
        go_wp2_with fail
        go_ret
        exact ⟨rfl, rfl⟩

set_option maxRecDepth 100000 in
set_option maxHeartbeats 2000000 in
theorem pa_ofTwo (s : ByteArray) (w : World) : Calls Try.prog 48 #[.string s] w fun r w' => r = .returned (twoF s) ∧ w = w' := by
  unfold twoF
  cases e0 : (s.toList == [43]) with
  | true =>
    rw [if_pos rfl]
    go_enter Try.func48, Try.ntmps48
    go_wp2_with fail
    go_ret
    exact ⟨rfl, rfl⟩
  | false =>
    rw [if_neg (by nofun)]
    cases e1 : (s.toList == [45]) with
    | true =>
      rw [if_pos rfl]
      go_enter Try.func48, Try.ntmps48
      go_wp2_with fail
      go_ret
      exact ⟨rfl, rfl⟩
    | false =>
      rw [if_neg (by nofun)]
      cases e2 : (s.toList == [42]) with
      | true =>
        rw [if_pos rfl]
        go_enter Try.func48, Try.ntmps48
        go_wp2_with fail
        go_ret
        exact ⟨rfl, rfl⟩
      | false =>
        rw [if_neg (by nofun)]
        cases e3 : (s.toList == [47, 47]) with
        | true =>
          rw [if_pos rfl]
          go_enter Try.func48, Try.ntmps48
          go_wp2_with fail
          go_ret
          exact ⟨rfl, rfl⟩
        | false =>
          rw [if_neg (by nofun)]
          cases e4 : (s.toList == [114, 101, 109]) with
          | true =>
            rw [if_pos rfl]
            go_enter Try.func48, Try.ntmps48
            go_wp2_with fail
            go_ret
            exact ⟨rfl, rfl⟩
          | false =>
            rw [if_neg (by nofun)]
            cases e5 : (s.toList == [109, 111, 100]) with
            | true =>
              rw [if_pos rfl]
              go_enter Try.func48, Try.ntmps48
              go_wp2_with fail
              go_ret
              exact ⟨rfl, rfl⟩
            | false =>
              rw [if_neg (by nofun)]
              go_enter Try.func48, Try.ntmps48
              go_wp2_with fail
              go_ret
              exact ⟨rfl, rfl⟩

/-- What num.Cmp may answer, so that an operator holds. -/
def wantL (s : ByteArray) : List Int := if (s.toList == [61, 60]) = true then [0, -1] else if (s.toList == [60]) = true then [-1] else if (s.toList == [62, 61]) = true then [0, 1] else if (s.toList == [62]) = true then [1] else if (s.toList == [61, 92, 61]) = true then [-1, 1] else if (s.toList == [61, 58, 61]) = true then [0] else []
theorem pa_info : (Try.prog.info? 3).map (fun i => (i.zero, i.size, i.bytes)) = some (some (.int .i64 0), 1, 8) := by kernel_rfl
def WantO (l : List Int) (w : World) (e : Ending) (w' : World) : Prop := ∃ v, e = .returned v ∧ w'.ownsRow w.heap.size 3 1 v l.length (l.map (.int .i64)) ∧ Below w.heap.size w w'

set_option maxRecDepth 100000 in
set_option maxHeartbeats 4000000 in
theorem cmp_0 (s : ByteArray) (w : World) (s1 : (s.toList == [61, 60]) = true) : Calls Try.prog 27 #[.string s] w (WantO [0, -1] w) := by
  obtain ⟨i0, hi, hz0, hz1, hz2⟩ := info_parts pa_info
  go_enter Try.func27, Try.ntmps27
  go_wp2_with (first
    | (at_builtin; refine wpList_append_own _ rfl _ _ 51 rfl w.heap.size 3 i0 (.int .i64 0) 1 8 Try.underlying51 hi hz0 hz1 hz2 rfl (by decide) _ _ _ rfl (World.ownsRow_nil _ _ _ _) ⟨w.heap.size, 0, none⟩ 1 1 [.int .i64 (0)] rfl rfl ?c1 ?c2 ?c3 ?c4 ?c5 ?_))
  case c1 =>
    intro j u hj
    match j, hj with
    | 0, hj => simp at hj; subst hj; simp [Addr.add]
  case c2 => intro u hu; simp at hu; subst hu; rfl
  case c3 => unfold maxLen; omega
  case c4 => omega
  case c5 => simp
  intro v0 w0 hown0 hgrow _
  have hb0 : Below w.heap.size w w0 := ((Below.refl _ w).alloc (Nat.le_refl _) _).grown hgrow (by simp) (fun i hi => by cases hi)
  clear hgrow
  have HOR := Lib.hid (World.ownsRow.alloc hown0 (.cells #[.int .i64 (-1)] 3))
  have hlt := hown0.lt
  have hs := hb0.size
  go_wp2_with (first
    | (at_builtin; refine wpList_append_own _ rfl _ _ 51 rfl w.heap.size 3 i0 (.int .i64 0) 1 8 Try.underlying51 hi hz0 hz1 hz2 rfl (by decide) _ _ _ rfl HOR.out ⟨w0.heap.size, 0, none⟩ 1 1 [.int .i64 (-1)] rfl rfl ?c1 ?c2 ?c3 ?c4 ?c5 ?_))
  case c1 =>
    intro j u hj
    match j, hj with
    | 0, hj => simp at hj; subst hj; simp [Addr.add]
  case c2 => intro u hu; simp at hu; subst hu; rfl
  case c3 => unfold maxLen; omega
  case c4 => omega
  case c5 => simp; omega
  intro v1 w1 hown1 hgrow _
  have hb1 : Below w.heap.size w w1 := (hb0.alloc hs _).grown hgrow (by simp; omega) (fun i hi => (hlt i hi).1)
  clear hgrow
  have HO := Lib.hid hown1
  have HB := Lib.hid hb1
  clear hown1 hb1
  go_wp2_with fail
  go_ret
  exact ⟨_, rfl, HO.out, HB.out⟩

set_option maxRecDepth 100000 in
set_option maxHeartbeats 4000000 in
theorem cmp_1 (s : ByteArray) (w : World) (s1 : (s.toList == [61, 60]) = false) (s2 : (s.toList == [60]) = true) : Calls Try.prog 27 #[.string s] w (WantO [-1] w) := by
  obtain ⟨i0, hi, hz0, hz1, hz2⟩ := info_parts pa_info
  go_enter Try.func27, Try.ntmps27
  go_wp2_with (first
    | (at_builtin; refine wpList_append_own _ rfl _ _ 51 rfl w.heap.size 3 i0 (.int .i64 0) 1 8 Try.underlying51 hi hz0 hz1 hz2 rfl (by decide) _ _ _ rfl (World.ownsRow_nil _ _ _ _) ⟨w.heap.size, 0, none⟩ 1 1 [.int .i64 (-1)] rfl rfl ?c1 ?c2 ?c3 ?c4 ?c5 ?_))
  case c1 =>
    intro j u hj
    match j, hj with
    | 0, hj => simp at hj; subst hj; simp [Addr.add]
  case c2 => intro u hu; simp at hu; subst hu; rfl
  case c3 => unfold maxLen; omega
  case c4 => omega
  case c5 => simp
  intro v0 w0 hown0 hgrow _
  have hb0 : Below w.heap.size w w0 := ((Below.refl _ w).alloc (Nat.le_refl _) _).grown hgrow (by simp) (fun i hi => by cases hi)
  clear hgrow
  have HO := Lib.hid hown0
  have HB := Lib.hid hb0
  clear hown0 hb0
  go_wp2_with fail
  go_ret
  exact ⟨_, rfl, HO.out, HB.out⟩

set_option maxRecDepth 100000 in
set_option maxHeartbeats 4000000 in
theorem cmp_2 (s : ByteArray) (w : World) (s1 : (s.toList == [61, 60]) = false) (s2 : (s.toList == [60]) = false) (s3 : (s.toList == [62, 61]) = true) : Calls Try.prog 27 #[.string s] w (WantO [0, 1] w) := by
  obtain ⟨i0, hi, hz0, hz1, hz2⟩ := info_parts pa_info
  go_enter Try.func27, Try.ntmps27
  go_wp2_with (first
    | (at_builtin; refine wpList_append_own _ rfl _ _ 51 rfl w.heap.size 3 i0 (.int .i64 0) 1 8 Try.underlying51 hi hz0 hz1 hz2 rfl (by decide) _ _ _ rfl (World.ownsRow_nil _ _ _ _) ⟨w.heap.size, 0, none⟩ 1 1 [.int .i64 (0)] rfl rfl ?c1 ?c2 ?c3 ?c4 ?c5 ?_))
  case c1 =>
    intro j u hj
    match j, hj with
    | 0, hj => simp at hj; subst hj; simp [Addr.add]
  case c2 => intro u hu; simp at hu; subst hu; rfl
  case c3 => unfold maxLen; omega
  case c4 => omega
  case c5 => simp
  intro v0 w0 hown0 hgrow _
  have hb0 : Below w.heap.size w w0 := ((Below.refl _ w).alloc (Nat.le_refl _) _).grown hgrow (by simp) (fun i hi => by cases hi)
  clear hgrow
  have HOR := Lib.hid (World.ownsRow.alloc hown0 (.cells #[.int .i64 (1)] 3))
  have hlt := hown0.lt
  have hs := hb0.size
  go_wp2_with (first
    | (at_builtin; refine wpList_append_own _ rfl _ _ 51 rfl w.heap.size 3 i0 (.int .i64 0) 1 8 Try.underlying51 hi hz0 hz1 hz2 rfl (by decide) _ _ _ rfl HOR.out ⟨w0.heap.size, 0, none⟩ 1 1 [.int .i64 (1)] rfl rfl ?c1 ?c2 ?c3 ?c4 ?c5 ?_))
  case c1 =>
    intro j u hj
    match j, hj with
    | 0, hj => simp at hj; subst hj; simp [Addr.add]
  case c2 => intro u hu; simp at hu; subst hu; rfl
  case c3 => unfold maxLen; omega
  case c4 => omega
  case c5 => simp; omega
  intro v1 w1 hown1 hgrow _
  have hb1 : Below w.heap.size w w1 := (hb0.alloc hs _).grown hgrow (by simp; omega) (fun i hi => (hlt i hi).1)
  clear hgrow
  have HO := Lib.hid hown1
  have HB := Lib.hid hb1
  clear hown1 hb1
  go_wp2_with fail
  go_ret
  exact ⟨_, rfl, HO.out, HB.out⟩

set_option maxRecDepth 100000 in
set_option maxHeartbeats 4000000 in
theorem cmp_3 (s : ByteArray) (w : World) (s1 : (s.toList == [61, 60]) = false) (s2 : (s.toList == [60]) = false) (s3 : (s.toList == [62, 61]) = false) (s4 : (s.toList == [62]) = true) : Calls Try.prog 27 #[.string s] w (WantO [1] w) := by
  obtain ⟨i0, hi, hz0, hz1, hz2⟩ := info_parts pa_info
  go_enter Try.func27, Try.ntmps27
  go_wp2_with (first
    | (at_builtin; refine wpList_append_own _ rfl _ _ 51 rfl w.heap.size 3 i0 (.int .i64 0) 1 8 Try.underlying51 hi hz0 hz1 hz2 rfl (by decide) _ _ _ rfl (World.ownsRow_nil _ _ _ _) ⟨w.heap.size, 0, none⟩ 1 1 [.int .i64 (1)] rfl rfl ?c1 ?c2 ?c3 ?c4 ?c5 ?_))
  case c1 =>
    intro j u hj
    match j, hj with
    | 0, hj => simp at hj; subst hj; simp [Addr.add]
  case c2 => intro u hu; simp at hu; subst hu; rfl
  case c3 => unfold maxLen; omega
  case c4 => omega
  case c5 => simp
  intro v0 w0 hown0 hgrow _
  have hb0 : Below w.heap.size w w0 := ((Below.refl _ w).alloc (Nat.le_refl _) _).grown hgrow (by simp) (fun i hi => by cases hi)
  clear hgrow
  have HO := Lib.hid hown0
  have HB := Lib.hid hb0
  clear hown0 hb0
  go_wp2_with fail
  go_ret
  exact ⟨_, rfl, HO.out, HB.out⟩

set_option maxRecDepth 100000 in
set_option maxHeartbeats 4000000 in
theorem cmp_4 (s : ByteArray) (w : World) (s1 : (s.toList == [61, 60]) = false) (s2 : (s.toList == [60]) = false) (s3 : (s.toList == [62, 61]) = false) (s4 : (s.toList == [62]) = false) (s5 : (s.toList == [61, 92, 61]) = true) : Calls Try.prog 27 #[.string s] w (WantO [-1, 1] w) := by
  obtain ⟨i0, hi, hz0, hz1, hz2⟩ := info_parts pa_info
  go_enter Try.func27, Try.ntmps27
  go_wp2_with (first
    | (at_builtin; refine wpList_append_own _ rfl _ _ 51 rfl w.heap.size 3 i0 (.int .i64 0) 1 8 Try.underlying51 hi hz0 hz1 hz2 rfl (by decide) _ _ _ rfl (World.ownsRow_nil _ _ _ _) ⟨w.heap.size, 0, none⟩ 2 2 [.int .i64 (-1), .int .i64 (1)] rfl rfl ?c1 ?c2 ?c3 ?c4 ?c5 ?_))
  case c1 =>
    intro j u hj
    match j, hj with
    | 0, hj => simp at hj; subst hj; simp [Addr.add]
    | 1, hj => simp at hj; subst hj; simp [Addr.add]
  case c2 => intro u hu; simp at hu; rcases hu with rfl | rfl <;> rfl
  case c3 => unfold maxLen; omega
  case c4 => omega
  case c5 => simp
  intro v0 w0 hown0 hgrow _
  have hb0 : Below w.heap.size w w0 := ((Below.refl _ w).alloc (Nat.le_refl _) _).grown hgrow (by simp) (fun i hi => by cases hi)
  clear hgrow
  have HO := Lib.hid hown0
  have HB := Lib.hid hb0
  clear hown0 hb0
  go_wp2_with fail
  go_ret
  exact ⟨_, rfl, HO.out, HB.out⟩

set_option maxRecDepth 100000 in
set_option maxHeartbeats 4000000 in
theorem cmp_5 (s : ByteArray) (w : World) (s1 : (s.toList == [61, 60]) = false) (s2 : (s.toList == [60]) = false) (s3 : (s.toList == [62, 61]) = false) (s4 : (s.toList == [62]) = false) (s5 : (s.toList == [61, 92, 61]) = false) (s6 : (s.toList == [61, 58, 61]) = true) : Calls Try.prog 27 #[.string s] w (WantO [0] w) := by
  obtain ⟨i0, hi, hz0, hz1, hz2⟩ := info_parts pa_info
  go_enter Try.func27, Try.ntmps27
  go_wp2_with (first
    | (at_builtin; refine wpList_append_own _ rfl _ _ 51 rfl w.heap.size 3 i0 (.int .i64 0) 1 8 Try.underlying51 hi hz0 hz1 hz2 rfl (by decide) _ _ _ rfl (World.ownsRow_nil _ _ _ _) ⟨w.heap.size, 0, none⟩ 1 1 [.int .i64 (0)] rfl rfl ?c1 ?c2 ?c3 ?c4 ?c5 ?_))
  case c1 =>
    intro j u hj
    match j, hj with
    | 0, hj => simp at hj; subst hj; simp [Addr.add]
  case c2 => intro u hu; simp at hu; subst hu; rfl
  case c3 => unfold maxLen; omega
  case c4 => omega
  case c5 => simp
  intro v0 w0 hown0 hgrow _
  have hb0 : Below w.heap.size w w0 := ((Below.refl _ w).alloc (Nat.le_refl _) _).grown hgrow (by simp) (fun i hi => by cases hi)
  clear hgrow
  have HO := Lib.hid hown0
  have HB := Lib.hid hb0
  clear hown0 hb0
  go_wp2_with fail
  go_ret
  exact ⟨_, rfl, HO.out, HB.out⟩

set_option maxRecDepth 100000 in
set_option maxHeartbeats 4000000 in
theorem cmp_6 (s : ByteArray) (w : World) (s1 : (s.toList == [61, 60]) = false) (s2 : (s.toList == [60]) = false) (s3 : (s.toList == [62, 61]) = false) (s4 : (s.toList == [62]) = false) (s5 : (s.toList == [61, 92, 61]) = false) (s6 : (s.toList == [61, 58, 61]) = false) : Calls Try.prog 27 #[.string s] w (WantO [] w) := by
  obtain ⟨i0, hi, hz0, hz1, hz2⟩ := info_parts pa_info
  go_enter Try.func27, Try.ntmps27
  go_wp2_with fail
  go_ret
  exact ⟨_, rfl, World.ownsRow_nil _ _ _ _, Below.refl _ _⟩

theorem pa_comparison (s : ByteArray) (w : World) : Calls Try.prog 27 #[.string s] w (WantO (wantL s) w) := by
  unfold wantL
  cases e0 : (s.toList == [61, 60]) with
  | true => rw [if_pos rfl]; exact cmp_0 s w e0
  | false =>
    rw [if_neg (by nofun)]
    cases e1 : (s.toList == [60]) with
    | true => rw [if_pos rfl]; exact cmp_1 s w e0 e1
    | false =>
      rw [if_neg (by nofun)]
      cases e2 : (s.toList == [62, 61]) with
      | true => rw [if_pos rfl]; exact cmp_2 s w e0 e1 e2
      | false =>
        rw [if_neg (by nofun)]
        cases e3 : (s.toList == [62]) with
        | true => rw [if_pos rfl]; exact cmp_3 s w e0 e1 e2 e3
        | false =>
          rw [if_neg (by nofun)]
          cases e4 : (s.toList == [61, 92, 61]) with
          | true => rw [if_pos rfl]; exact cmp_4 s w e0 e1 e2 e3 e4
          | false =>
            rw [if_neg (by nofun)]
            cases e5 : (s.toList == [61, 58, 61]) with
            | true => rw [if_pos rfl]; exact cmp_5 s w e0 e1 e2 e3 e4 e5
            | false =>
              rw [if_neg (by nofun)]
              exact cmp_6 s w e0 e1 e2 e3 e4 e5

end Go.Proofs.Ytpmohibhdnmjlaa

/-
  Package arith's work in memory; begin and values.
-/
namespace Go.Proofs.Ytpmohibhdnmjlaa
open Go.RowKit Go.Maps

theorem TArgs.map {w w' : World} {mb : Nat} (ht : Turn (fun j => j = mb) w w') (hq : ∀ o, w.cell? ⟨mb, o, none⟩ = none) {ad : Option Addr} {ts : List Tm} (h : TArgs w ad ts) : TArgs w' ad ts := by
  have keep : ∀ (b o : Nat) (v : Value), w.cell? ⟨b, o, none⟩ = some v → w'.cell? ⟨b, o, none⟩ = some v := fun b o v hc =>
    (World.cell?_of_block (w := w) (w' := w') (a := ⟨b, o, none⟩) (ht.block b (World.block_lt_of_cell? w ⟨b, o, none⟩ hc) (fun e => by
      have e : b = mb := e
      rw [e, hq] at hc
      cases hc))).trans hc
  induction h with
  | nil ad => exact .nil ad
  | cons b o k n nm l ts ad cap c0 c1 c2 c3 hk hn hm hl hc _ _ ih1 ih2 => exact .cons b o k n nm l ts ad cap (keep _ _ _ c0) (keep _ _ _ c1) (keep _ _ _ c2) (keep _ _ _ c3) hk hn hm hl hc ih1 ih2
theorem TmIn.map {w w' : World} {mb : Nat} (ht : Turn (fun j => j = mb) w w') (hq : ∀ o, w.cell? ⟨mb, o, none⟩ = none) {t : Tm} {ad : Option Addr} {cap : Nat} (h : TmIn w t ad cap) : TmIn w' t ad cap := ⟨h.kind, h.n, h.name, h.len, h.cap, h.args.map ht hq⟩
/-- The work of a call: its block p, its bindings, its map mb. -/
structure WkAt (bs : List (Int × Tm)) (ab : Option Addr) (cb p mb : Nat) (w : World) : Prop where
  blk : w.heap[p]? = some (.cells #[.slice ab bs.length cb, .map (some mb)] 60 (0, 0))
  known : KMap bs w mb
  binds : BdsAt w (fun b => b < w.heap.size ∧ b ≠ mb) ab bs
theorem WkAt.ne {bs : List (Int × Tm)} {ab : Option Addr} {cb p mb : Nat} {w : World} (h : WkAt bs ab cb p mb w) : p ≠ mb := fun e => by
  obtain ⟨_, _, ⟨es, clock, hb, _⟩, _⟩ := h.known
  rw [← e, h.blk] at hb
  cases hb
theorem WkAt.on {bs : List (Int × Tm)} {ab : Option Addr} {cb p mb : Nat} {w w' : World} (h : WkAt bs ab cb p mb w) (hb : Below w.heap.size w w') : WkAt bs ab cb p mb w' :=
  ⟨(hb.block p (Array.getElem?_eq_some_iff.1 h.blk).1).trans h.blk, h.known.at (hb.block mb h.known.lt), h.binds.kept (fun b _ hl => hb.block b hl) fun _ hp _ => ⟨Nat.lt_of_lt_of_le hp.1 hb.size, hp.2⟩⟩
theorem WkAt.map {bs : List (Int × Tm)} {ab : Option Addr} {cb p mb : Nat} {w w' : World} (h : WkAt bs ab cb p mb w) (ht : Turn (fun j => j = mb) w w') (hk : KMap bs w' mb) : WkAt bs ab cb p mb w' :=
  ⟨(ht.block p (Array.getElem?_eq_some_iff.1 h.blk).1 h.ne).trans h.blk, hk, h.binds.kept (fun b hp hl => ht.block b hl hp.2) fun _ hp _ => ⟨Nat.lt_of_lt_of_le hp.1 ht.size, hp.2⟩⟩
/-- A step of the work: nothing else has turned. -/
structure Stp (bs : List (Int × Tm)) (ab : Option Addr) (cb p mb : Nat) (w w' : World) : Prop where
  turn : Turn (fun j => j = mb) w w'
  wk : WkAt bs ab cb p mb w'
theorem Stp.refl {bs : List (Int × Tm)} {ab : Option Addr} {cb p mb : Nat} {w : World} (h : WkAt bs ab cb p mb w) : Stp bs ab cb p mb w w := ⟨Turn.refl _ _, h⟩
theorem Stp.trans {bs : List (Int × Tm)} {ab : Option Addr} {cb p mb : Nat} {w w1 w2 : World} (h : Stp bs ab cb p mb w w1) (k : Stp bs ab cb p mb w1 w2) : Stp bs ab cb p mb w w2 := ⟨h.turn.trans k.turn, k.wk⟩
theorem Turn.below_all {M : Nat → Prop} {w w' : World} (h : Below w.heap.size w w') : Turn M w w' := ⟨h.os, h.tape, h.output, h.size, fun k hk _ => h.block k hk⟩
theorem Stp.on {bs : List (Int × Tm)} {ab : Option Addr} {cb p mb : Nat} {w w1 w2 : World} (h : Stp bs ab cb p mb w w1) (hb : Below w1.heap.size w1 w2) : Stp bs ab cb p mb w w2 := ⟨h.turn.trans (Turn.below_all hb), h.wk.on hb⟩
theorem Stp.tm {bs : List (Int × Tm)} {ab : Option Addr} {cb p mb : Nat} {w w' : World} (h : Stp bs ab cb p mb w w') (hw : WkAt bs ab cb p mb w) {t : Tm} {ad : Option Addr} {cap : Nat} (ht : TmIn w t ad cap) : TmIn w' t ad cap := ht.map h.turn hw.known.nocell
theorem Stp.args {bs : List (Int × Tm)} {ab : Option Addr} {cb p mb : Nat} {w w' : World} (h : Stp bs ab cb p mb w w') (hw : WkAt bs ab cb p mb w) {ts : List Tm} {ad : Option Addr} (ht : TArgs w ad ts) : TArgs w' ad ts := ht.map h.turn hw.known.nocell
theorem Stp.block {bs : List (Int × Tm)} {ab : Option Addr} {cb p mb : Nat} {w w' : World} (h : Stp bs ab cb p mb w w') (hw : WkAt bs ab cb p mb w) {q : Nat} {cs : Array Value} {t : TypeId} (hq : w.heap[q]? = some (.cells cs t (0, 0))) : w'.heap[q]? = some (.cells cs t (0, 0)) :=
  (h.turn.block q (Array.getElem?_eq_some_iff.1 hq).1 (fun e => by
    have e : q = mb := e
    obtain ⟨_, _, ⟨es, clock, hb, _⟩, _⟩ := hw.known
    rw [e, hb] at hq
    cases hq)).trans hq
/-- A call's answer: a value and an error. -/
def EvV (bs : List (Int × Tm)) (ab : Option Addr) (cb p mb : Nat) (r : Int × Int) (w : World) (e : Ending) (w' : World) : Prop := e = .returned (.tuple #[.int .i64 r.1, .int .i64 r.2]) ∧ Stp bs ab cb p mb w w'

set_option maxRecDepth 100000 in
set_option maxHeartbeats 2000000 in
theorem pa_begin (bs : List (Int × Tm)) (ab : Option Addr) (cb : Nat) (w : World) (hb : BdsAt w (fun b => b < w.heap.size) ab bs) :
    Calls Try.prog 24 #[.slice ab bs.length cb] w fun e w' => ∃ p mb, e = .returned (.pointer (some ⟨p, 0, none⟩)) ∧ w.heap.size ≤ mb ∧ WkAt bs ab cb p mb w' ∧ Below w.heap.size w w' := by
  have HB := Lib.hid (fun o1 o2 : Obj => ((Below.refl w.heap.size w).alloc (Nat.le_refl _) o1).alloc (by simp) o2)
  have HK := Lib.hid (KMap.new bs w)
  have HBD := Lib.hid hb
  have hmm := @run_makeMap Try.prog
  clear hb
  go_enter Try.func24, Try.ntmps24
  go_wp2_with fail
  go_ret
  have hB := HB.out (.map #[] 0) (.cells #[.slice ab bs.length cb, .map (some w.heap.size)] 60)
  refine ⟨w.heap.size + 1, w.heap.size, by simp, Nat.le_refl _, ⟨alloc_new2 w _ _, HK.out.at (Below.heap_alloc _ _ _ (by simp)), ?_⟩, hB⟩
  exact HBD.out.kept (fun b hb _ => hB.block b hb) fun b hb _ => ⟨Nat.lt_of_lt_of_le hb hB.size, by omega⟩

/-- The value of a term, as the work tells it. -/
def ValC (bs : List (Int × Tm)) (ab : Option Addr) (cb p mb : Nat) (d : Nat) (o : Int) : Prop := ∀ (t : Tm) (ad : Option Addr) (cap : Nat) (w : World), t.size ≤ 1000000 → WkAt bs ab cb p mb w → TmIn w t ad cap → Calls Try.prog 25 #[.pointer (some ⟨p, 0, none⟩), tmv t ad cap, .int .i64 o] w (EvV bs ab cb p mb (evD bs d t) w)
/-- The values of two terms. -/
def valsV (x y : Int × Int) : Int × Int × Int := if x.2 ≠ 0 then (0, 0, x.2) else (x.1, y.1, y.2)

set_option maxRecDepth 100000 in
set_option maxHeartbeats 4000000 in
theorem pa_values (bs : List (Int × Tm)) (ab : Option Addr) (cb p mb d : Nat) (o : Int) (HV : ValC bs ab cb p mb d o) (x y : Tm) (ax : Option Addr) (cx : Nat) (ay : Option Addr) (cy : Nat) (w : World) (hxs : x.size ≤ 1000000) (hys : y.size ≤ 1000000) (hw : WkAt bs ab cb p mb w) (hx : TmIn w x ax cx) (hy : TmIn w y ay cy) :
    Calls Try.prog 28 #[.pointer (some ⟨p, 0, none⟩), tmv x ax cx, tmv y ay cy, .int .i64 o] w fun e w' => e = .returned (.tuple #[.int .i64 (valsV (evD bs d x) (evD bs d y)).1, .int .i64 (valsV (evD bs d x) (evD bs d y)).2.1, .int .i64 (valsV (evD bs d x) (evD bs d y)).2.2]) ∧ Stp bs ab cb p mb w w' := by
  have hB := (two_boxes w x ax cx y ay cy)
  have h0 := hw.on hB.2.2
  have HX := Lib.hid (HV x ax cx _ hxs h0 (hx.on hB.2.2))
  have HY := Lib.hid (fun W (h : Stp bs ab cb p mb ((w.alloc (.cells #[.int .i64 x.kind, .string x.name, .int .i64 x.n, .slice ax x.args.length cx] 25)).alloc (.cells #[.int .i64 y.kind, .string y.name, .int .i64 y.n, .slice ay y.args.length cy] 25)) W) => HV y ay cy W hys h.wk (h.tm h0 (hy.on hB.2.2)))
  have HS := Lib.hid ((Stp.refl hw).on hB.2.2)
  have HW := Lib.hid h0
  have HI := Lib.hid hB
  clear hB h0 hw hx hy hxs hys HV
  generalize evD bs d x = rx at *
  generalize evD bs d y = ry at *
  obtain ⟨n, e1⟩ := rx
  obtain ⟨m, e2⟩ := ry
  unfold EvV tmv at *
  dsimp only at HX HY
  obtain ⟨R, hR⟩ : ∃ R, valsV (n, e1) (m, e2) = R := ⟨_, rfl⟩
  rw [hR]
  unfold valsV at hR
  dsimp only at hR
  have HR := Lib.hid hR
  clear hR
  go_enter Try.func28, Try.ntmps28
  go_upto_region 1 with fail
  generalize (w.alloc _).alloc _ = w0 at *
  obtain ⟨x0, x1, x2, x3, _⟩ := cellsT HI.out.1
  go_wp2_with fail
  refine HX.out.mono ?_; rintro e w1 ⟨rfl, hs1⟩
  have hy1 := hs1.block HW.out HI.out.2.1
  have HS1 := Lib.hid hs1
  clear hs1 x0 x1 x2 x3
  obtain ⟨y0, y1, y2, y3, _⟩ := cellsT hy1
  by_cases hz : e1 = 0
  · rw [if_neg (by simpa using hz)] at HR
    subst hz
    go_wp2_with fail
    refine (HY.out _ HS1.out).mono ?_; rintro e w2 ⟨rfl, hs2⟩
    have HS2 := Lib.hid hs2
    clear hs2 y0 y1 y2 y3
    go_wp2_with fail
    refine bodyPost_ret (v := .tuple #[.int .i64 n, .int .i64 m, .int .i64 e2]) (by simp [results, Try.results28, go_sem]) rfl ?_
    rw [← HR.out]
    exact ⟨rfl, (HS.out.trans HS1.out).trans HS2.out⟩
  · rw [if_pos hz] at HR
    have g1 : (e1 != 0) = true := by simpa using hz
    clear hz
    go_wp2_with fail
    refine bodyPost_ret (v := .tuple #[.int .i64 0, .int .i64 0, .int .i64 e1]) (by simp [results, Try.results28, go_sem]) rfl ?_
    rw [← HR.out]
    exact ⟨rfl, HS.out.trans HS1.out⟩
end Go.Proofs.Ytpmohibhdnmjlaa
