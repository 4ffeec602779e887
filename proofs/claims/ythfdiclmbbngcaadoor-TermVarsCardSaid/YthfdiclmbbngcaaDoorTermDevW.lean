/-
  Package term's own iterator over the numbers of a term's Vars, place by place: it ranges over the parts, and hands over what is a Var.
-/
import Derived.Test.YthfdiclmbbngcaaDoorIterKeep
import Derived.Test.YthfdiclmbbngcaaDoorTermDevAB
import Derived.Test.YthfdiclmbbngcaaDoorTermVars
namespace Go.Proofs.YthfdiclmbbngcaaDoor
open Go.RowKit Go.Shelf
attribute [local go_sem] Oper.semAt_some

/-- The numbers of the Vars among parts. -/
def pvs (l : List (Nat × Tm)) : List Int := l.filterMap fun p => if p.2.kind = 1 then some p.2.n else none
theorem pvs_append (l m : List (Nat × Tm)) : pvs (l ++ m) = pvs l ++ pvs m := List.filterMap_append
theorem pvs_partss' (m : Nat) : ∀ (l : List Tm) (d : Nat), Tm.sizes l ≤ m → pvs (Tm.partss l d) = l.flatMap Tm.places := by
  induction m with
  | zero =>
    intro l d h
    cases l with
    | nil => rfl
    | cons t l => rw [Tm.sizes_cons] at h; have := t.size_pos; omega
  | succ m ih =>
    intro l d h
    cases l with
    | nil => rfl
    | cons t l =>
      rw [Tm.sizes_cons] at h
      have h1 := t.size_eq
      have h2 := ih t.args (d + 1) (by omega)
      have h3 := ih l d (by have := t.size_pos; omega)
      rw [Tm.partss_cons, Tm.parts_eq, pvs_append, h3, List.flatMap_cons, Tm.places_eq t, ← h2]
      congr 1
      by_cases e : t.kind = 1
      · simp [pvs, e]
      · simp [pvs, e]
theorem pvs_parts (t : Tm) : pvs (t.parts 1) = t.places := by
  have h := pvs_partss' _ [t] 1 (Nat.le_refl _)
  rw [Tm.partss_cons, pvs_append, show Tm.partss [] 1 = [] from rfl, show pvs [] = [] from rfl, List.append_nil, List.flatMap_cons, List.flatMap_nil, List.append_nil] at h
  exact h
/-- How many Vars are among the first c parts. -/
def vcnt (T : Tm) (c : Nat) : Nat := (pvs ((T.parts 1).take c)).length
theorem vcnt_all (T : Tm) : vcnt T T.size = T.places.length := by
  unfold vcnt
  rw [List.take_of_length_le (by rw [Tm.parts_len]; exact Nat.le_refl _), pvs_parts]
theorem vcnt_yes {T t : Tm} {c d : Nat} (h : (T.parts 1)[c]? = some (d, t)) (hk : t.kind = 1) : vcnt T (c + 1) = vcnt T c + 1 ∧ T.places[vcnt T c]? = some t.n ∧ vcnt T c < T.places.length := by
  have h1 : pvs ((T.parts 1).take (c + 1)) = pvs ((T.parts 1).take c) ++ [t.n] := by
    rw [List.take_add_one, h, pvs_append]
    congr 1
    simp [pvs, hk]
  have h2 : T.places = pvs ((T.parts 1).take (c + 1)) ++ pvs ((T.parts 1).drop (c + 1)) := by rw [← pvs_append, List.take_append_drop, pvs_parts]
  have h3 : T.places[vcnt T c]? = some t.n := by
    rw [h2, h1]
    unfold vcnt
    rw [List.append_assoc, List.getElem?_append_right (Nat.le_refl _), Nat.sub_self]; rfl
  exact ⟨by unfold vcnt; rw [h1, List.length_append]; rfl, h3, (List.getElem?_eq_some_iff.1 h3).1⟩
theorem vcnt_no {T t : Tm} {c d : Nat} (h : (T.parts 1)[c]? = some (d, t)) (hk : t.kind ≠ 1) : vcnt T (c + 1) = vcnt T c := by
  unfold vcnt
  rw [List.take_add_one, h, pvs_append, List.length_append]
  simp [pvs, hk]

/-- The k-th place's number. -/
def VarAt (T : Tm) (k : Nat) (x : Int) : Prop := T.places[k]? = some x ∧ In64 x
def varv (x : Int) : Array Value := #[.int .i64 x]
/-- M, and the block that holds yield. -/
def plus (M : Nat → Prop) (y : Nat) : Nat → Prop := fun j => M j ∨ j = y
/-- Between two rounds over the parts. -/
structure WIn (T : Tm) (n₀ y : Nat) (o : Obj) (w : World) (J : (Nat → Prop) → Nat → World → Prop) (M : Nat → Prop) (c : Nat) (W : World) : Prop where
  j : J (plus M y) (vcnt T c) W
  s : Stay n₀ w [(y, o)] M W
  lt : ∀ j, M j → j < W.heap.size
theorem WIn.abides {T : Tm} {n₀ y : Nat} {o : Obj} {w : World} {J : (Nat → Prop) → Nat → World → Prop} (hn : n₀ ≤ w.heap.size) (hJ : Abides J) : Abides (WIn T n₀ y o w J) := by
  rintro M M' k A B ⟨hj, hs, hlt⟩ ht hs' hlt'
  have hy := hs.lt (.head _)
  have hsz := ht.size
  dsimp only at hy
  refine ⟨hJ _ _ _ A B hj (ht.more fun j h => .inl h) (fun j h => ?_) (fun j h => ?_), hs.turn hn ht hs', hlt'⟩
  · rcases h with h | h
    · exact (hs' j h).imp .inl id
    · exact .inl (.inr h)
  · rcases h with h | h
    · exact hlt' j h
    · omega
structure WOut (N y : Nat) (Jx : (Nat → Prop) → Nat → World → Prop) (c : Code) (M : Nat → Prop) (W : World) : Prop where
  ret : c = .ret
  j : ∃ k, k ≤ N ∧ Jx (plus M y) k W
  y : y < W.heap.size
  lt : ∀ j, M j → j < W.heap.size
theorem WOut.abides {N y : Nat} {Jx : (Nat → Prop) → Nat → World → Prop} (hJ : Abides Jx) (c : Code) : Abides (fun M _ W => WOut N y Jx c M W) := by
  rintro M M' k A B ⟨hr, ⟨k', hk', hj⟩, hy, hlt⟩ ht hs' hlt'
  have hsz := ht.size
  refine ⟨hr, ⟨k', hk', hJ _ _ _ A B hj (ht.more fun j h => .inl h) (fun j h => ?_) (fun j h => ?_)⟩, by omega, hlt'⟩
  · rcases h with h | h
    · exact (hs' j h).imp .inl id
    · exact .inl (.inr h)
  · rcases h with h | h
    · exact hlt' j h
    · omega
theorem size2 (w : World) (o1 o2 : Obj) : ((w.alloc o1).alloc o2).heap.size = w.heap.size + 2 := by simp
theorem new2 (w : World) (o1 o2 : Obj) : ((w.alloc o1).alloc o2).heap[w.heap.size + 1]? = some o2 := by
  have := heap_alloc_new (w.alloc o1) o2
  rw [World.size_alloc] at this
  exact this
theorem old2 (w : World) (o1 o2 : Obj) {b : Nat} (h : b < w.heap.size) : ((w.alloc o1).alloc o2).heap[b]? = w.heap[b]? := by
  rw [Below.heap_alloc _ _ _ (by simp; omega), Below.heap_alloc _ _ _ h]
theorem stay2 {n₀ : Nat} (w : World) (o1 o2 : Obj) (hn : n₀ ≤ w.heap.size) : Stay n₀ w [(w.heap.size, o1)] (fun _ => False) ((w.alloc o1).alloc o2) := by
  refine ⟨((Below.refl _ w).alloc hn _).alloc (by simp; omega) _, fun _ h => h.elim, fun p hp => ?_⟩
  obtain rfl := List.mem_singleton.1 hp
  exact (Below.heap_alloc _ _ _ (by simp)).trans (heap_alloc_new w o1)

set_option maxRecDepth 100000 in
set_option maxHeartbeats 4000000 in
theorem vars_seq (T : Tm) (ad : Option Addr) (cap Bt n₀ : Nat) (w : World) (hM : T.size ≤ 1000000) (hB : w.heap[Bt]? = some (.cells #[.int .i64 T.kind, .string T.name, .int .i64 T.n, .slice ad T.args.length cap] 24 (0, 0)))
    (hp : TmP w (fun b => b < n₀) T ad cap) (hn : n₀ ≤ w.heap.size) :
    SeqK Tryd.prog 64 #[.pointer (some ⟨Bt, 0, none⟩)] varv (VarAt T) T.places.length n₀ w := fun l J Jx W hW hJ hJx hY h0 => by
  have HJ := Lib.hid hJ
  have HJX := Lib.hid hJx
  have HY := Lib.hid hY
  have HP := Lib.hid (hp.kept (w' := W) (Q := fun b => b < n₀) (fun b _ hlt => hW.block b hlt) (fun b h _ => h))
  have hB' := (hW.block Bt (Array.getElem?_eq_some_iff.1 hB).1).trans hB
  have hnW : n₀ ≤ W.heap.size := Nat.le_trans hn hW.size
  have hBt := (Array.getElem?_eq_some_iff.1 hB').1
  clear hJ hJx hY hp hB hn hW
  obtain ⟨d0, d1, d2, d3⟩ := cell4 hB'
  clear hB'
  have HPART := Lib.hid (fun w => term_parts T ad cap w)
  unfold tmv at HPART
  refine (callsIn_wide (n := 4)).1 ?_
  refine callsIn_of_wp_marks Tryd.func64 rfl trivial ?_ rfl
  simp only [Tryd.ntmps64, List.size_toArray, List.length_cons, List.length_nil, Nat.reduceAdd, Nat.reduceSub, Array.replicate_succ, Array.replicate_zero, List.push_toArray, List.append_toArray, List.nil_append, List.cons_append]
  gi_wp2_with ((refine ⟨trivial, ?_⟩; gi_at_call 40; refine (callsIn_wide.2 (HPART.out _)).mono ?_; rintro e w' ⟨rfl, rfl⟩))
  have hseq := parts_seq T ad cap (W.heap.size + 1) n₀ ((W.alloc (.cells #[.func (.yield l) #[] #[]] 79)).alloc (.cells #[.int .i64 T.kind, .string T.name, .int .i64 T.n, .slice ad T.args.length cap] 24)) hM (new2 W _ _) (HP.out.kept (fun b _ hlt => old2 W _ _ hlt) (fun b h _ => h)) (by simp; omega)
  have hst : WIn T n₀ W.heap.size (.cells #[.func (.yield l) #[] #[]] 79 (0, 0)) W J (fun _ => False) 0 ((W.alloc (.cells #[.func (.yield l) #[] #[]] 79)).alloc (.cells #[.int .i64 T.kind, .string T.name, .int .i64 T.n, .slice ad T.args.length cap] 24)) := by
    refine ⟨?_, stay2 W _ _ hnW, fun j h => h.elim⟩
    refine HJ.out _ _ 0 W _ h0 ((Turn.alloc _ W _).trans (Turn.alloc _ _ _)) (fun j hj => .inr ?_) (fun j hj => ?_)
    · rcases hj with hj | rfl
      · exact hj.elim
      · exact Nat.le_refl _
    · rcases hj with hj | rfl
      · exact hj.elim
      · simp; omega
  have hsz := size2 W (.cells #[.func (.yield l) #[] #[]] 79) (.cells #[.int .i64 T.kind, .string T.name, .int .i64 T.n, .slice ad T.args.length cap] 24)
  generalize ((W.alloc (.cells #[.func (.yield l) #[] #[]] 79)).alloc (.cells #[.int .i64 T.kind, .string T.name, .int .i64 T.n, .slice ad T.args.length cap] 24)) = W0 at *
  clear HP HPART d0 d1 d2 d3 h0
  refine range_walk (gf := 58) (lb := #[.pointer (some ⟨W.heap.size + 1, 0, none⟩)]) rfl (enters_of Tryd.func58 (by kernel_rfl) rfl) hseq (Below.refl _ _) (by omega) (fun _ => rfl)
    (WIn T n₀ W.heap.size (.cells #[.func (.yield l) #[] #[]] 79 (0, 0)) W J)
    (fun c M _ W' => WOut T.places.length W.heap.size Jx c M W')
    (WIn.abides hnW HJ.out) (fun c => WOut.abides HJX.out c) hst ?round ?done ?stop
  case round =>
    rintro l' M c ⟨d, t, tad, tcap⟩ W1 ⟨hj, hS, hlt⟩ hc hx _
    have HX := Lib.hid hx
    have HS := Lib.hid hS
    have HLT := Lib.hid hlt
    have HJ1 := Lib.hid hj
    have hWs := hS.lt (.head _)
    dsimp only at hWs
    clear hj hS hlt hx hst hseq
    unfold partv tmv
    dsimp only
    gi_wp2
    obtain ⟨a1, a2, a3⟩ := HS.out.grow hnW HLT.out ((Below.refl W1.heap.size W1).alloc (Nat.le_refl _) (.cells #[.int .i64 t.kind, .string t.name, .int .i64 t.n, .slice tad t.args.length tcap] 24))
    refine ⟨a1, a2, fun W₂ ht hs2 => ?_⟩
    have hS3 := (a3.cons (q := W1.heap.size) (fun j hj e => by have := HLT.out j hj; omega) (heap_alloc_new W1 _)).turn (M' := M) hnW ht (fun j hj => .inl hj)
    obtain ⟨c0, c1, c2, c3⟩ := cell4 (hS3.has _ (.head _))
    obtain ⟨cy, fy⟩ := cell1 (hS3.has _ (.tail _ (.head _)))
    have hs2' : W₂.heap.size = W1.heap.size + 1 := by first | (rw [hs2]; done) | (rw [hs2]; simp)
    have hlt2 : ∀ j, M j → j < W₂.heap.size := fun j hj => by have := HLT.out j hj; omega
    have hJ2 : J (plus M W.heap.size) (vcnt T c) W₂ := HJ.out _ _ _ W1 W₂ HJ1.out ((Turn.alloc _ W1 _).trans (ht.more fun j h => .inl h)) (fun j h => .inl h) (fun j h => by
      rcases h with h | rfl
      · exact hlt2 j h
      · omega)
    have HS3 := Lib.hid hS3
    have HLT2 := Lib.hid hlt2
    have HJ2 := Lib.hid hJ2
    clear hS3 ht a1 a2 a3 hs2 hs2' hlt2 hJ2
    by_cases hk : t.kind = 1
    · obtain ⟨v1, v2, v3⟩ := vcnt_yes HX.out.1 hk
      obtain ⟨fn, tmps, assign, body, hy, hR⟩ := HY.out (plus M W.heap.size) (vcnt T c) t.n W₂ HJ2.out v3 ⟨v2, HX.out.2.1.n⟩
      have hR' : RoundIn (Fence.wide.inRound l') 2 Tryd.prog l fn tmps assign body W₂ _ := ⟨hR.1, fun c cs _ => hR.2 c cs (fun d hd => by cases hd)⟩
      unfold varv at hy
      rw [hk] at c0
      rw [hk]
      have HV1 := Lib.hid v1
      have HV3 := Lib.hid v3
      have HR' := Lib.hid hR'
      clear hk v1 v2 v3 hR hR'
      gi_wp2
      refine HR'.out.mono ?_
      rintro e W3 (⟨rfl, hJ3, hb3, hk3⟩ | ⟨rfl, hJx3, hk3⟩)
      · have HJ3 := Lib.hid hJ3
        have HB3 := Lib.hid hb3
        have HK3 := Lib.hid hk3
        clear hJ3 hb3 hk3
        gi_wp2
        have hs3 := HK3.out.size
        refine ⟨HK3.out.less fun j h => .inl h, HB3.out, ?_, ?_, fun j h => Nat.lt_of_lt_of_le (HLT2.out j h) hs3⟩
        · rw [HV1.out]; exact HJ3.out
        · have h9 := HS3.out
          refine ⟨h9.below.trans HB3.out, fun j h => ⟨(h9.far j h).1, fun p hp => (h9.far j h).2 p (.tail _ hp)⟩, fun p hp => ?_⟩
          obtain rfl := List.mem_singleton.1 hp
          exact (HK3.out.same _ (.inr rfl)).trans (h9.has _ (.tail _ (.head _)))
      · have HJ3 := Lib.hid hJx3
        have HK3 := Lib.hid hk3
        clear hJx3 hk3
        gi_wp2
        have hs3 := HK3.out.size
        have hy2 := HS3.out.lt (.tail _ (.head _))
        dsimp only at hy2
        exact ⟨HK3.out.less fun j h => .inl h, rfl, ⟨_, HV3.out, HJ3.out⟩, by omega, fun j h => Nat.lt_of_lt_of_le (HLT2.out j h) hs3⟩
    · have e1 := vcnt_no HX.out.1 hk
      have hk' : (t.kind == 1) = false := by simpa using hk
      have E1 := Lib.hid e1
      clear e1 hk
      gi_wp2
      refine And.intro (fun f h => by cases h) ?_
      gi_wp2
      refine ⟨Keeps.refl _ _, Below.refl _ _, ?_, HS3.out.less fun p hp => .tail _ hp, HLT2.out⟩
      rw [E1.out]; exact HJ2.out
  case done =>
    rintro D M W' hD hMD ⟨hj, hS, hlt⟩ hK
    have hy := hS.lt (.head _)
    dsimp only at hy
    rw [vcnt_all] at hj
    have hEND : Hid (J (plus M W.heap.size) T.places.length (W'.putObj D (.deferred none))) := Lib.hid (HJ.out _ _ _ W' _ hj (Turn.put _ _ (.inl hMD) _) (fun j h => .inl h) (fun j h => by
      rw [World.putObj_size]
      rcases h with h | rfl
      · exact hlt j h
      · exact hy))
    clear hj hS hlt hst hseq
    gi_wp2
    refine ⟨by simp, .inl ⟨_, _, rfl, run_takeDeferred hK, ?_⟩⟩
    refine ⟨_, by simp [results, Tryd.results64, go_sem]; rfl, ⟨_, rfl⟩, .inl ⟨_, hEND.out⟩⟩
  case stop =>
    rintro D c M k W' hD hMD hkN ⟨rfl, ⟨k', hk', hj⟩, hy, hlt⟩ hK
    have hEND : Hid (Jx (plus M W.heap.size) k' (W'.putObj D (.deferred none))) := Lib.hid (HJX.out _ _ _ W' _ hj (Turn.put _ _ (.inl hMD) _) (fun j h => .inl h) (fun j h => by
      rw [World.putObj_size]
      rcases h with h | rfl
      · exact hlt j h
      · exact hy))
    clear hj hlt hst hseq
    gi_wp2
    refine ⟨by simp, .inl ⟨_, _, rfl, run_takeDeferred hK, ?_⟩⟩
    refine ⟨_, by simp [results, Tryd.results64, go_sem]; rfl, ⟨_, rfl⟩, .inr ⟨_, _, hk', hEND.out⟩⟩
end Go.Proofs.YthfdiclmbbngcaaDoor
