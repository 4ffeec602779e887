/-
  Joined texts: BytesOwn, NumText.
-/
import Derived.Test.YtdjejbgokamjeaaDoorCharDevDF
import Derived.Deep.AppendLies
import Derived.Test.YtdjejbgokamjeaaDoorCharRefC
import Derived.Test.YtdjejbgokamjeaaDoorShelf3
import Derived.Test.YtdjejbgokamjeaaDoorNumA
import Derived.Lib.AppendIntMem

/-
  A row of bytes of the call's own that is appended to, byte by byte and string by string: what it holds then, and where it lies: in its old block or in a new one.
-/
namespace Go.Proofs.YtdjejbgokamjeaaDoor
open Go.RowKit

/-- From w to w' nothing old turned but v's own block; v' lies there, or in a new one. -/
structure Grew (w w' : World) (v v' : Value) : Prop where
  grown : w.grownBy w' v.ownBlock
  lies : v'.ownBlock = v.ownBlock ∨ ∃ g, v'.ownBlock = some g ∧ w.heap.size ≤ g
theorem Grew.trans {a b c : World} {u v x : Value} (h : Grew a b u v) (k : Grew b c v x) : Grew a c u x := by
  have hs := h.grown.size
  refine ⟨⟨k.grown.os.trans h.grown.os, k.grown.tape.trans h.grown.tape, k.grown.output.trans h.grown.output, Nat.le_trans hs k.grown.size, fun j hj hn => ?_⟩, ?_⟩
  · refine (k.grown.block j (by omega) ?_).trans (h.grown.block j hj hn)
    rcases h.lies with e | ⟨g, e, hg⟩
    · rw [e]; exact hn
    · rw [e]; intro e2; have := Option.some.inj e2; omega
  · rcases k.lies with e | ⟨g, e, hg⟩
    · rw [e]; exact h.lies
    · exact .inr ⟨g, e, by omega⟩
theorem Grew.below {a b : World} (h : Below a.heap.size a b) (v : Value) : Grew a b v v := ⟨⟨h.os, h.tape, h.output, h.size, fun j hj _ => h.block j hj⟩, .inl rfl⟩
theorem Grew.all {B : Nat} {w0 a b : World} {u v : Value} (h0 : Below B w0 a) (h : Grew a b u v) (hB : B ≤ w0.heap.size) (hu : ∀ k, u.ownBlock = some k → B ≤ k) : Below B w0 b :=
  h0.grown h.grown (Nat.le_trans hB h0.size) hu
theorem Grew.keep {a b : World} {u v : Value} (h : Grew a b u v) {k : Nat} (hk : k < a.heap.size) (hn : some k ≠ u.ownBlock) : b.heap[k]? = a.heap[k]? := h.grown.block k hk hn

theorem run_append_str_at {P : Program} (w : World) (base : Nat) (t u ty e : TypeId) (i : TypeInfo) (ht : P.underlying t = some (.slice e)) (hu : P.underlying u = some .string) (hi : P.info? e = some i) (hz : i.zero = some (.int .u8 0))
    (hsize : i.size = 1) (hby : i.bytes = 1) (v : Value) (n : Nat) (xs : List Value) (hown : w.ownsRow base e 1 v n xs) (s : ByteArray)
    (h63 : n + s.size ≤ maxLen) (hbytes : n + s.size ≤ 140737488355328) (hbase : base ≤ w.heap.size) :
    ∃ v' w', (Builtin.append_ #[t, u] ty #[v, .string s]).run P w = .ok v' w' ∧ w'.ownsRow base e 1 v' (n + s.size) (xs ++ Lib.strCells s) ∧ Grew w w' v v' := by
  obtain ⟨v', w', hr, h2, h3, _⟩ := Lib.run_append_own_string (P := P) w base t u ty e i ht hu hi hz hsize hby v n xs hown s h63 hbytes hbase
  refine ⟨v', w', hr, h2, h3, ?_⟩
  have hsmall : n + s.size ≤ 9223372036854775807 := by simp only [maxLen] at h63; omega
  have hxl : xs.length = n := by simpa using hown.1
  rcases hown.2 with ⟨rfl, rfl⟩ | ⟨g, cap, cur, rfl, hbg, hg, hnc, hcm, hcs, htake⟩
  · obtain ⟨v2, w2, hr2, h22, _, _⟩ := Lib.run_append_own_string (P := P) w w.heap.size t u ty e i ht hu hi hz hsize hby (.slice none 0 0) 0 [] (World.ownsRow_nil _ _ _ _) s h63 hbytes (Nat.le_refl _)
    rw [hr] at hr2
    injection hr2 with e1 e2
    cases hv : v'.ownBlock with
    | none => exact .inl rfl
    | some k => exact .inr ⟨k, rfl, (h22.lt k (by rw [← e1]; exact hv)).1⟩
  · by_cases hroom : n + s.size ≤ cap
    · have hcs' : cur.size = cap := by simpa using hcs
      have hr2 := Lib.run_append_room_string (P := P) w t u ty e i ht hu hi hsize g n cap cur hg s hroom (by omega)
      rw [hr] at hr2
      injection hr2 with e1 e2
      exact .inl (by rw [e1]; rfl)
    · have holds : ∀ j u, xs[j]? = some u → w.cell? ((⟨g, 0, none⟩ : Addr).add j) = some u := hown.cells (g := g) rfl
      have hr2 := Lib.run_append_grow_string (P := P) w t u ty e i (.int .u8 0) ht hu hi hz ⟨g, 0, none⟩ n cap xs (by rw [hsize]; simpa using hxl) holds s (by omega) (by omega) (by rw [hby]; exact growslice_fits (by omega) (by omega))
      rw [hr] at hr2
      injection hr2 with e1 e2
      exact .inr ⟨w.heap.size, by rw [e1]; rfl, Nat.le_refl _⟩

/-- 'append(v, s...)' over bytes, at an operation. -/
theorem wp_app_str {w : World} {o : Oper} {a : Act} {K : Act → World → Prop} {Q : Exit → Act → World → Prop} (sl x : Operand)
    (ho : o.op = .call { callee := .builtin .append, args := #[sl, x], argTypes := #[38, 9] })
    {B : Nat} {v : Value} {l : List UInt8} (hs : a.eval sl = v) (hown : OwnBytes B w v l) {s : List UInt8} (hx : a.eval x = .string ⟨s.toArray⟩) (hl : l.length + s.length ≤ 140737488355328) (hbase : B ≤ w.heap.size)
    (h : ∀ v' w', OwnBytes B w' v' (l ++ s) → Grew w w' v v' → K (a.put o.dst v') w') : Oper.wp Tryd.prog o a w K Q := by
  obtain ⟨i0, hi, hz0, hz1, hz2⟩ := info_parts infoByte
  obtain ⟨v', w', hr, h2, h3⟩ := run_append_str_at (P := Tryd.prog) w B 38 9 o.type 5 i0 Tryd.underlying38 Tryd.underlying9 hi hz0 hz1 hz2 v l.length (byc l) hown ⟨s.toArray⟩ (by unfold maxLen; show l.length + s.toArray.size ≤ _; rw [List.size_toArray]; omega) (by show l.length + s.toArray.size ≤ _; rw [List.size_toArray]; omega) hbase
  unfold Oper.wp execOp
  simp only [ho, resolve, invoke, builtin, Sem.run_bind, Sem.run_pure, Result.andThen_ok, List.map_toArray, List.map_cons, List.map_nil, hs, hx, hr]
  refine h v' w' ?_ h3
  unfold OwnBytes
  rw [List.length_append, byc_append]
  exact h2
theorem list_app_str {w : World} {ops : Array Oper} {rest : List Oper} {o : Oper} {a : Act} {Q : Exit → Act → World → Prop} (hgd : o.guard = none) (sl x : Operand)
    (ho : o.op = .call { callee := .builtin .append, args := #[sl, x], argTypes := #[38, 9] })
    {B : Nat} {v : Value} {l : List UInt8} (hs : a.eval sl = v) (hown : OwnBytes B w v l) {s : List UInt8} (hx : a.eval x = .string ⟨s.toArray⟩) (hl : l.length + s.length ≤ 140737488355328) (hbase : B ≤ w.heap.size)
    (h : ∀ v' w', OwnBytes B w' v' (l ++ s) → Grew w w' v v' → wpList Tryd.prog ops Q rest (a.put o.dst v') w') : wpList Tryd.prog ops Q (o :: rest) a w :=
  wpList_plain hgd fun _ hK => wp_app_str sl x ho hs hown hx hl hbase fun v' w' h2 h3 => hK _ _ (h v' w' h2 h3)
theorem step_app_str {w : World} {ops : Array Oper} {o : Oper} {a : Act} {K : Act → World → Prop} {Q : Exit → Act → World → Prop} {E : Prop} (hgd : o.guard = none) (sl x : Operand)
    (ho : o.op = .call { callee := .builtin .append, args := #[sl, x], argTypes := #[38, 9] })
    {B : Nat} {v : Value} {l : List UInt8} (hs : a.eval sl = v) (hown : OwnBytes B w v l) {s : List UInt8} (hx : a.eval x = .string ⟨s.toArray⟩) (hl : l.length + s.length ≤ 140737488355328) (hbase : B ≤ w.heap.size)
    (h : ∀ v' w', OwnBytes B w' v' (l ++ s) → Grew w w' v v' → K (a.put o.dst v') w') : if Region.wanted o (yielded ops a.tmps) = true then Oper.wp Tryd.prog o a w K Q else E := by
  have hw : Region.wanted o (yielded ops a.tmps) = true := by simp [Region.wanted, hgd]
  rw [if_pos hw]
  exact wp_app_str sl x ho hs hown hx hl hbase h
/-- 'append(v, b)' over bytes: the one byte lies in a block of its own. -/
theorem wp_app_byte {w : World} {o : Oper} {a : Act} {K : Act → World → Prop} {Q : Exit → Act → World → Prop} (sl x : Operand)
    (ho : o.op = .call { callee := .builtin .append, args := #[sl, x], argTypes := #[38, 38] })
    {B : Nat} {v : Value} {l : List UInt8} (hs : a.eval sl = v) (hown : OwnBytes B w v l) {g : Nat} {b : UInt8} (hx : a.eval x = .slice (some ⟨g, 0, none⟩) 1 1) (hc : w.cell? ⟨g, 0, none⟩ = some (.int .u8 b.toNat)) (hl : l.length ≤ 100000000000) (hbase : B ≤ w.heap.size)
    (h : ∀ v' w', OwnBytes B w' v' (l ++ [b]) → Grew w w' v v' → K (a.put o.dst v') w') : Oper.wp Tryd.prog o a w K Q := by
  obtain ⟨i0, hi, hz0, hz1, hz2⟩ := info_parts infoByte
  refine wp_append_lies w sl x 38 ho B 5 i0 (.int .u8 0) 1 1 Tryd.underlying38 hi hz0 hz1 hz2 rfl (by decide) v l.length (byc l) hs hown ⟨g, 0, none⟩ 1 1 [.int .u8 b.toNat] hx rfl ?_ ?_ (by decide) (by unfold maxLen; omega) (by omega) hbase w.heap.size rfl ?_
  · intro j u hj
    match j, hj with
    | 0, hj => simp at hj; subst hj; simpa [Addr.add] using hc
  · intro u hu; simp at hu; subst hu; rfl
  · intro g' cap' w' h1 h2 h3 h4
    refine h _ w' ?_ ⟨h2, ?_⟩
    · unfold OwnBytes
      rw [List.length_append, byc_append]
      exact h1
    · rcases h3 with h3 | h3
      · exact .inl h3.symm
      · exact .inr ⟨g', rfl, by omega⟩
theorem list_app_byte {w : World} {ops : Array Oper} {rest : List Oper} {o : Oper} {a : Act} {Q : Exit → Act → World → Prop} (hgd : o.guard = none) (sl x : Operand)
    (ho : o.op = .call { callee := .builtin .append, args := #[sl, x], argTypes := #[38, 38] })
    {B : Nat} {v : Value} {l : List UInt8} (hs : a.eval sl = v) (hown : OwnBytes B w v l) {g : Nat} {b : UInt8} (hx : a.eval x = .slice (some ⟨g, 0, none⟩) 1 1) (hc : w.cell? ⟨g, 0, none⟩ = some (.int .u8 b.toNat)) (hl : l.length ≤ 100000000000) (hbase : B ≤ w.heap.size)
    (h : ∀ v' w', OwnBytes B w' v' (l ++ [b]) → Grew w w' v v' → wpList Tryd.prog ops Q rest (a.put o.dst v') w') : wpList Tryd.prog ops Q (o :: rest) a w :=
  wpList_plain hgd fun _ hK => wp_app_byte sl x ho hs hown hx hc hl hbase fun v' w' h2 h3 => hK _ _ (h v' w' h2 h3)
theorem step_app_byte {w : World} {ops : Array Oper} {o : Oper} {a : Act} {K : Act → World → Prop} {Q : Exit → Act → World → Prop} {E : Prop} (hgd : o.guard = none) (sl x : Operand)
    (ho : o.op = .call { callee := .builtin .append, args := #[sl, x], argTypes := #[38, 38] })
    {B : Nat} {v : Value} {l : List UInt8} (hs : a.eval sl = v) (hown : OwnBytes B w v l) {g : Nat} {b : UInt8} (hx : a.eval x = .slice (some ⟨g, 0, none⟩) 1 1) (hc : w.cell? ⟨g, 0, none⟩ = some (.int .u8 b.toNat)) (hl : l.length ≤ 100000000000) (hbase : B ≤ w.heap.size)
    (h : ∀ v' w', OwnBytes B w' v' (l ++ [b]) → Grew w w' v v' → K (a.put o.dst v') w') : if Region.wanted o (yielded ops a.tmps) = true then Oper.wp Tryd.prog o a w K Q else E := by
  have hw : Region.wanted o (yielded ops a.tmps) = true := by simp [Region.wanted, hgd]
  rw [if_pos hw]
  exact wp_app_byte sl x ho hs hown hx hc hl hbase h
end Go.Proofs.YtdjejbgokamjeaaDoor

/-
  The contract of num.Text over the library's own table of powers of ten; all tables that the laws of terms lean on.
-/
namespace Go.Proofs.YtdjejbgokamjeaaDoor
open Go.RowKit

/-- The library's table of powers of ten reads so. -/
def Tab (w : World) : Prop := Lib.TabIs Tryd.prog w "internal/strconv.uint64pow10" .u64 Lib.pow10Tab
theorem Tab.on {w w' : World} (h : Tab w) (hb : Below w.heap.size w w') : Tab w' := Lib.tabBelow_of_tabIs h w' hb
/-- All tables. -/
structure AllT (w : World) : Prop where
  u : Tabs w
  p : Tab w
theorem AllT.on {w w' : World} (h : AllT w) (hb : Below w.heap.size w w') : AllT w' := ⟨h.u.on hb, h.p.on hb⟩

theorem num_Text (a : Int) (w : World) (ha : In64 a) (ht : Tab w) :
    Calls Tryd.prog 31 #[.int .i64 a] w fun e w' => e = .returned (.string ⟨(Lib.itoa a).toArray⟩) ∧ Below w.heap.size w w' := by
  go_enter Tryd.func31, Tryd.ntmps31
  go_wp2_with (go_at_call 48; refine (Tryd.strconv_FormatInt_10 _ ha.1 ha.2 _ ht).mono ?_; rintro e w' ⟨rfl, k, os, rfl⟩)
  go_ret
  exact ⟨rfl, Lib.below_grow _ w (Nat.le_refl _) k os⟩
end Go.Proofs.YtdjejbgokamjeaaDoor
