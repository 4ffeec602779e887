/-
  Joined texts: TermClone, TermShfM, TermDevS.
-/
import Derived.Test.YtpmohibhdnmjlaaTermMk
import Derived.Test.YtpmohibhdnmjlaaTermOpen
import Derived.Test.YtpmohibhdnmjlaaIterAll
import Derived.Laws.Cover3

/-
  The contract of slices.Clone over terms: a new row with the same cells.
-/
namespace Go.Proofs.Ytpmohibhdnmjlaa
open Go.RowKit

theorem run_eql_nil (w : World) (a : Option Addr) (l c : Nat) : (binOp .eql 23 (.slice a l c) (.slice none 0 0)).run Try.prog w = .ok (.bool a.isNone) w := by
  simp [binOp, run_equal_slice_nil w _ _ a l c Try.underlying23]
attribute [local go_sem] run_eql_nil
/-- What Clone answers: as many, in a new row with the cells xs. -/
def Cloned (w : World) (n : Nat) (xs : List Value) (e : Ending) (w' : World) : Prop :=
  ∃ ad cap, e = .returned (.slice ad n cap) ∧ n ≤ cap ∧ cap ≤ maxLen ∧ Below w.heap.size w w' ∧ (0 < n → ∃ g, ad = some ⟨g, 0, none⟩ ∧ w.heap.size ≤ g ∧ w'.ownsRow w.heap.size 25 4 (.slice (some ⟨g, 0, none⟩) n cap) n xs)

set_option maxRecDepth 100000 in
set_option maxHeartbeats 1000000 in
theorem clone_nil (w : World) (cap : Nat) : Calls Try.prog 66 #[.slice none 0 cap] w (Cloned w 0 []) := by
  go_enter Try.func66, Try.ntmps66
  go_wp2_with fail
  go_ret
  exact ⟨none, 0, rfl, Nat.le_refl _, Nat.zero_le _, Below.refl _ _, fun h => by cases h⟩

set_option maxRecDepth 100000 in
set_option maxHeartbeats 1000000 in
theorem clone_some (w : World) (b o n cap : Nat) (xs : List Value) (hl : xs.length = n * 4) (hc : ∀ j u, xs[j]? = some u → w.cell? ⟨b, o + j, none⟩ = some u) (h1 : ∀ u ∈ xs, u.oneCell' = true) (hn : 0 < n) (hm : n ≤ 1000000) :
    Calls Try.prog 66 #[.slice (some ⟨b, o, none⟩) n cap] w (Cloned w n xs) := by
  obtain ⟨i0, hi, hz0, hz1, hz2⟩ := info_parts infoTerm
  have HC : Hid (∀ o1 : Obj, ∀ j u, xs[j]? = some u → (w.alloc o1).cell? ((⟨b, o, none⟩ : Addr).add j) = some u) := Lib.hid (fun o1 j u hu => by
    have h := hc j u hu
    rw [add_plain]
    exact (((Below.refl w.heap.size w).alloc (Nat.le_refl _) o1).cell (p := ⟨b, o + j, none⟩) (World.block_lt_of_cell? w ⟨b, o + j, none⟩ h)).trans h)
  have H1 := Lib.hid h1
  have hrow := World.ownsRow_lit (base := w.heap.size) (e := 25) (size := 4) w #[] 0 (Nat.le_refl _) (Nat.zero_le _) rfl
  have HB := Lib.hid ((Below.refl w.heap.size w).alloc (Nat.le_refl _) (.cells #[] 25))
  have HR := Lib.hid hrow
  have HL := Lib.hid hl
  clear hc h1 hrow hl
  go_enter Try.func66, Try.ntmps66
  go_wp2_with (at_builtin; refine wpList_append_lies _ rfl _ _ 23 rfl w.heap.size 25 i0 (.agg #[.int .i64 0, .string ⟨#[]⟩, .int .i64 0, .slice none 0 0]) 4 56 Try.underlying23 hi hz0 hz1 hz2 rfl (by decide) _ 0 [] rfl HR.out ⟨b, o, none⟩ n cap xs rfl HL.out (HC.out _) H1.out hn (by unfold maxLen; omega) (by omega) (by simp) (w.heap.size + 1) (by simp) ?_)
  intro g cap' w' hown hgrow hat hlt
  have hb : Below w.heap.size w w' := HB.out.grown hgrow (by simp) (fun k hk => by cases hk; exact Nat.le_refl _)
  have HO := Lib.hid hown
  have HBB := Lib.hid hb
  clear hown hgrow hb
  go_wp2_with fail
  go_ret
  obtain ⟨h1, h2, h3, h4⟩ := ownsRow_facts HO.out
  exact ⟨_, _, rfl, h3, h4, HBB.out, fun _ => ⟨g, rfl, h1, HO.out⟩⟩

set_option maxRecDepth 100000 in
set_option maxHeartbeats 1000000 in
theorem clone_zero (w : World) (a : Addr) (cap : Nat) : Calls Try.prog 66 #[.slice (some a) 0 cap] w (Cloned w 0 []) := by
  have HB := Lib.hid ((Below.refl w.heap.size w).alloc (Nat.le_refl _) (.cells #[] 25))
  go_enter Try.func66, Try.ntmps66
  go_wp2_with fail
  go_ret
  exact ⟨_, _, rfl, Nat.le_refl _, Nat.zero_le _, HB.out, fun h => by cases h⟩
end Go.Proofs.Ytpmohibhdnmjlaa

/-
  The memory of package term's own Shift: rows that are copied but still have the old arguments wait; rows that are done have shifted terms whose arguments lie in rows that are done or wait.
-/
namespace Go.Proofs.Ytpmohibhdnmjlaa
open Go.RowKit

/-- A row that waits: its block, its capacity, its terms. -/
structure PE where
  g : Nat
  cap : Nat
  ts : List Tm
def PE.v (e : PE) : Value := .slice (some ⟨e.g, 0, none⟩) e.ts.length e.cap
def shn (c : Int) (k n : Int) : Int := if k = 1 then add64 n c else n
theorem shn_in {c k n : Int} (h : In64 n) : In64 (shn c k n) := by
  unfold shn
  split
  · exact wrap64_in _
  · exact h
/-- The terms ts, shifted, lie from ad on in blocks of D, or wait. -/
inductive Shf (c : Int) (W : World) (D : Nat → Prop) (R : List PE) : Option Addr → List Tm → Prop where
  | nil (ad : Option Addr) : Shf c W D R ad []
  | wait (e : PE) : e ∈ R → Shf c W D R (some ⟨e.g, 0, none⟩) e.ts
  | cons (g o : Nat) (k n : Int) (nm : ByteArray) (l ts : List Tm) (ad : Option Addr) (cap : Nat) : D g →
      W.cell? ⟨g, o, none⟩ = some (.int .i64 k) → W.cell? ⟨g, o + 1, none⟩ = some (.string nm) → W.cell? ⟨g, o + 2, none⟩ = some (.int .i64 (shn c k n)) → W.cell? ⟨g, o + 3, none⟩ = some (.slice ad l.length cap) →
      In64 k → In64 n → nm.size ≤ maxLen → l.length ≤ cap → cap ≤ maxLen →
      Shf c W D R ad l → Shf c W D R (some ⟨g, o + 4, none⟩) ts → Shf c W D R (some ⟨g, o, none⟩) (.mk k nm n l :: ts)
theorem Shf.mono {c : Int} {W W' : World} {D D' : Nat → Prop} {R R' : List PE} {ad : Option Addr} {ts : List Tm} (h : Shf c W D R ad ts) (hk : ∀ b, D b → b < W.heap.size → W'.heap[b]? = W.heap[b]?) (hD : ∀ b, D b → D' b) (hR : ∀ e ∈ R, Shf c W' D' R' (some ⟨e.g, 0, none⟩) e.ts) : Shf c W' D' R' ad ts := by
  have keep : ∀ (b o : Nat) (v : Value), D b → W.cell? ⟨b, o, none⟩ = some v → W'.cell? ⟨b, o, none⟩ = some v := fun b o v hp hc =>
    (World.cell?_of_block (w := W) (w' := W') (a := ⟨b, o, none⟩) (hk b hp (World.block_lt_of_cell? W ⟨b, o, none⟩ hc))).trans hc
  induction h with
  | nil ad => exact .nil ad
  | wait e he => exact hR e he
  | cons g o k n nm l ts ad cap hg c0 c1 c2 c3 h1 h2 h3 h4 h5 _ _ ih1 ih2 => exact .cons g o k n nm l ts ad cap (hD g hg) (keep _ _ _ hg c0) (keep _ _ _ hg c1) (keep _ _ _ hg c2) (keep _ _ _ hg c3) h1 h2 h3 h4 h5 ih1 ih2
theorem Shf.done {c : Int} {W : World} {D P : Nat → Prop} {ad : Option Addr} {ts : List Tm} (h : Shf c W D [] ad ts) (hP : ∀ b, D b → P b) : TArgsP W P ad (ts.map (Tm.shift c)) := by
  induction h with
  | nil ad => exact .nil ad
  | wait e he => cases he
  | cons g o k n nm l ts ad cap hg c0 c1 c2 c3 h1 h2 h3 h4 h5 _ _ ih1 ih2 =>
    rw [List.map_cons, Tm.shift_eq]
    exact .cons g o k _ nm _ _ ad cap (hP g hg) c0 c1 c2 (by rw [List.length_map]; exact c3) h1 (shn_in h2) h3 (by rw [List.length_map]; exact h4) h5 ih1 ih2
/-- A row that waits, in memory: its terms are as they were, their arguments lie below B. -/
def WRow (B : Nat) (W : World) (e : PE) : Prop := ∃ xs, W.ownsRow B 25 4 e.v e.ts.length xs ∧ TRow W (fun b => b < B) xs e.ts
theorem WRow.lt {B : Nat} {W : World} {e : PE} (h : WRow B W e) : B ≤ e.g ∧ e.g < W.heap.size := by obtain ⟨xs, h1, _⟩ := h; exact h1.lt e.g rfl
theorem WRow.kept {B : Nat} {W W' : World} {e : PE} (h : WRow B W e) (hg : W'.heap[e.g]? = W.heap[e.g]?) (hk : ∀ b, b < B → b < W.heap.size → W'.heap[b]? = W.heap[b]?) : WRow B W' e := by
  obtain ⟨xs, h1, h2⟩ := h
  exact ⟨xs, ownsRow_block h1 hg, h2.kept hk fun _ h _ => h⟩
/-- Four cells of a shifted term. -/
def scells (c : Int) (t : Tm) (ad : Option Addr) (cap : Nat) : List Value := [.int .i64 t.kind, .string t.name, .int .i64 (shn c t.kind t.n), .slice ad t.args.length cap]
structure TmBs (t : Tm) (cap : Nat) : Prop where
  kind : In64 t.kind
  n : In64 t.n
  name : t.name.size ≤ maxLen
  len : t.args.length ≤ cap
  cap : cap ≤ maxLen
/-- The first terms of a row, done. -/
inductive SRow (c : Int) (W : World) (D : Nat → Prop) (R : List PE) : List Value → List Tm → Prop where
  | nil : SRow c W D R [] []
  | snoc (t : Tm) (ad : Option Addr) (cap : Nat) (xs : List Value) (ts : List Tm) : TmBs t cap → Shf c W D R ad t.args → SRow c W D R xs ts → SRow c W D R (xs ++ scells c t ad cap) (ts ++ [t])
theorem SRow.mono {c : Int} {W W' : World} {D D' : Nat → Prop} {R R' : List PE} {xs : List Value} {ts : List Tm} (h : SRow c W D R xs ts) (hk : ∀ b, D b → b < W.heap.size → W'.heap[b]? = W.heap[b]?) (hD : ∀ b, D b → D' b) (hR : ∀ e ∈ R, Shf c W' D' R' (some ⟨e.g, 0, none⟩) e.ts) : SRow c W' D' R' xs ts := by
  induction h with
  | nil => exact .nil
  | snoc t ad cap xs ts hb hs _ ih => exact .snoc t ad cap xs ts hb (hs.mono hk hD hR) ih
theorem SRow.length {c : Int} {W : World} {D : Nat → Prop} {R : List PE} {xs : List Value} {ts : List Tm} (h : SRow c W D R xs ts) : xs.length = ts.length * 4 := by
  induction h with
  | nil => rfl
  | snoc t ad cap xs ts _ _ _ ih => rw [List.length_append, List.length_append, ih]; show _ + 4 = (_ + 1) * 4; omega
theorem Shf.rows {c : Int} {W : World} {D : Nat → Prop} {R : List PE} {xs : List Value} {ts : List Tm} (h : SRow c W D R xs ts) (g : Nat) (hg : D g) : ∀ (us : List Tm), Shf c W D R (some ⟨g, xs.length, none⟩) us → (∀ j, j < xs.length → W.cell? ⟨g, j, none⟩ = xs[j]?) → Shf c W D R (some ⟨g, 0, none⟩) (ts ++ us) := by
  induction h with
  | nil => intro us hu _; exact hu
  | snoc t ad cap xs ts hb hs _ ih =>
    intro us hu hc
    have hl : (xs ++ scells c t ad cap).length = xs.length + 4 := by rw [List.length_append]; rfl
    have at4 : ∀ i, i < 4 → W.cell? ⟨g, xs.length + i, none⟩ = (scells c t ad cap)[i]? := fun i hi => by
      rw [hc (xs.length + i) (by omega), List.getElem?_append_right (by omega), Nat.add_sub_cancel_left]
    rw [List.append_assoc]
    refine ih _ ?_ (fun j hj => by rw [hc j (by omega), List.getElem?_append_left hj])
    show Shf c W D R (some ⟨g, xs.length, none⟩) (t :: us)
    rw [t.eta]
    rw [hl] at hu
    exact .cons g xs.length t.kind t.n t.name t.args us ad cap hg (at4 0 (by omega)) (at4 1 (by omega)) (at4 2 (by omega)) (at4 3 (by omega)) hb.kind hb.n hb.name hb.len hb.cap hs hu
/-- The cells of a list of terms in memory. -/
theorem TArgsP.cells {w : World} {P : Nat → Prop} {ad : Option Addr} {ts : List Tm} (h : TArgsP w P ad ts) : ∃ xs, TRow w P xs ts ∧ (∀ u ∈ xs, u.oneCell' = true) ∧ ∀ b o, ad = some ⟨b, o, none⟩ → ∀ j u, xs[j]? = some u → w.cell? ⟨b, o + j, none⟩ = some u := by
  induction h with
  | nil ad => exact ⟨[], .nil, (fun u hu => by cases hu), (fun b o _ j u hj => by simp at hj)⟩
  | cons b o k n nm l ts ad cap hp c0 c1 c2 c3 hk hn hm hl hc ha _ ih1 ih2 =>
    obtain ⟨xs, hx, h1, h2⟩ := ih2
    refine ⟨tcells (.mk k nm n l) ad cap ++ xs, .cons _ ad cap xs ts ⟨hk, hn, hm, hl, hc, ha⟩ hx, ?_, ?_⟩
    · intro u hu
      rcases List.mem_append.1 hu with hu | hu
      · simp only [tcells, List.mem_cons, List.not_mem_nil, or_false] at hu
        rcases hu with rfl | rfl | rfl | rfl <;> rfl
      · exact h1 u hu
    · intro b' o' e j u hj
      cases e
      by_cases hj4 : j < 4
      · rw [List.getElem?_append_left (by exact hj4)] at hj
        match j, hj4, hj with
        | 0, _, hj => simp [tcells, Tm.kind] at hj; subst hj; exact c0
        | 1, _, hj => simp [tcells, Tm.name] at hj; subst hj; exact c1
        | 2, _, hj => simp [tcells, Tm.n] at hj; subst hj; exact c2
        | 3, _, hj => simp [tcells, Tm.args] at hj; subst hj; exact c3
      · rw [List.getElem?_append_right (by show 4 ≤ j; omega)] at hj
        have h3 := h2 b (o + 4) rfl (j - 4) u hj
        rw [show o + 4 + (j - 4) = o + j by omega] at h3
        exact h3
theorem TRow.head {w : World} {P : Nat → Prop} {xs : List Value} {t : Tm} {ts : List Tm} (h : TRow w P xs (t :: ts)) : ∃ ad cap ys, xs = tcells t ad cap ++ ys ∧ TmP w P t ad cap ∧ TRow w P ys ts := by
  cases h with
  | cons _ ad cap ys _ ht hr => exact ⟨ad, cap, ys, rfl, ht, hr⟩
/-- How many terms wait, with all that they are made of. -/
def psize : List PE → Nat
  | [] => 0
  | e :: R => Tm.sizes e.ts + psize R
theorem psize_len {R : List PE} (h : ∀ e ∈ R, 0 < e.ts.length) : R.length ≤ psize R := by
  induction R with
  | nil => exact Nat.le_refl 0
  | cons e R ih =>
    have h1 := ih fun x hx => h x (.tail _ hx)
    have h2 := h e (.head _)
    have h3 := Tm.length_le_sizes e.ts
    show R.length + 1 ≤ Tm.sizes e.ts + psize R
    omega
theorem frozen_block {w w' : World} {b : Nat} (h : w'.heap[b]? = w.heap[b]?) (o : Nat) : w'.frozen? ⟨b, o, none⟩ = w.frozen? ⟨b, o, none⟩ := by
  unfold World.frozen?
  rw [h]
/-- Between two rows. -/
structure OIn (c : Int) (w2 : World) (q : Nat) (T : Tm) (D : Nat → Prop) (R : List PE) (s scap : Nat) (W : World) : Prop where
  below : Below w2.heap.size w2 W
  stack : W.ownsRow w2.heap.size 23 1 (.slice (some ⟨s, 0, none⟩) R.length scap) R.length (R.map PE.v).reverse
  rows : ∀ e ∈ R, WRow w2.heap.size W e ∧ 0 < e.ts.length ∧ ¬ D e.g ∧ e.g ≠ s
  nodup : (R.map PE.g).Nodup
  sfree : ¬ D s
  dlow : ∀ b, D b → w2.heap.size ≤ b ∧ b < W.heap.size
  root : Shf c W D R (some ⟨q, 0, none⟩) [T]
  size : psize R ≤ T.size
  free : ∀ b, D b → ∀ o, W.frozen? ⟨b, o, none⟩ = false
/-- Within the row e, of which i terms are done. -/
structure IIn (c : Int) (w2 : World) (T : Tm) (D : Nat → Prop) (R0 : List PE) (W1 : World) (e : PE) (i : Nat) (R : List PE) (s scap : Nat) (W : World) : Prop where
  below : Below w2.heap.size w2 W
  stack : W.ownsRow w2.heap.size 23 1 (.slice (some ⟨s, 0, none⟩) R.length scap) R.length (R.map PE.v).reverse
  rows : ∀ x ∈ R, WRow w2.heap.size W x ∧ 0 < x.ts.length ∧ ¬ D x.g ∧ x.g ≠ s ∧ x.g ≠ e.g
  nodup : (R.map PE.g).Nodup
  sfree : ¬ D s ∧ s ≠ e.g
  dkeep : ∀ b, D b → W.heap[b]? = W1.heap[b]?
  sub : ∀ x ∈ R0, x ∈ R
  row : ∃ ys zs, W.ownsRow w2.heap.size 25 4 e.v e.ts.length (ys ++ zs) ∧ SRow c W D R ys (e.ts.take i) ∧ TRow W (fun b => b < w2.heap.size) zs (e.ts.drop i)
  size : psize R + Tm.sizes (e.ts.drop i) + i ≤ psize R0 + Tm.sizes e.ts
  low : W1.heap.size ≤ W.heap.size
theorem OIn.pop {c : Int} {w2 : World} {q : Nat} {T : Tm} {D : Nat → Prop} {e : PE} {R : List PE} {s scap : Nat} {W : World} (h : OIn c w2 q T D (e :: R) s scap W) : IIn c w2 T D R W e 0 R s scap W := by
  have hn := h.nodup
  rw [List.map_cons, List.nodup_cons] at hn
  refine ⟨h.below, ?_, fun x hx => ⟨(h.rows x (.tail _ hx)).1, (h.rows x (.tail _ hx)).2.1, (h.rows x (.tail _ hx)).2.2.1, (h.rows x (.tail _ hx)).2.2.2, fun e' => hn.1 (by rw [← e']; exact List.mem_map_of_mem hx)⟩, hn.2, ⟨h.sfree, fun e' => (h.rows e (.head _)).2.2.2 e'.symm⟩, fun _ _ => rfl, fun x hx => hx, ?_, Nat.le_refl _, Nat.le_refl _⟩
  · have := h.stack
    rw [List.map_cons, List.reverse_cons] at this
    exact ownsRow_pop this
  · obtain ⟨xs, h1, h2⟩ := (h.rows e (.head _)).1
    exact ⟨[], xs, h1, .nil, h2⟩
/-- One term more of the row. -/
theorem IIn.next {c : Int} {w2 : World} {T : Tm} {D : Nat → Prop} {R0 : List PE} {W1 : World} {e : PE} {i : Nat} {R : List PE} {s scap : Nat} {W Wd : World} (h : IIn c w2 T D R0 W1 e i R s scap W) (hD : ¬ D e.g) (hDl : ∀ b, D b → w2.heap.size ≤ b ∧ b < W1.heap.size)
    {t : Tm} {ys zs : List Value} (hi : i < e.ts.length) (ht : e.ts[i]'hi = t) (hsr : SRow c W D R ys (e.ts.take i)) (htr : TRow W (fun b => b < w2.heap.size) zs (e.ts.drop (i + 1)))
    (hT : Turn (fun j => j = e.g ∨ j = s) W Wd) {ad : Option Addr} {cap : Nat} (hrow : Wd.ownsRow w2.heap.size 25 4 e.v e.ts.length ((ys ++ scells c t ad cap) ++ zs)) (hb : TmBs t cap)
    {R' : List PE} {s' scap' : Nat} (hst : Wd.ownsRow w2.heap.size 23 1 (.slice (some ⟨s', 0, none⟩) R'.length scap') R'.length (R'.map PE.v).reverse) (hs' : s' = s ∨ W.heap.size ≤ s')
    (hR : (t.args = [] ∧ R' = R) ∨ ∃ g1, 0 < t.args.length ∧ ad = some ⟨g1, 0, none⟩ ∧ R' = ⟨g1, cap, t.args⟩ :: R ∧ W.heap.size ≤ g1 ∧ g1 ≠ s' ∧ WRow w2.heap.size Wd ⟨g1, cap, t.args⟩) : IIn c w2 T D R0 W1 e (i + 1) R' s' scap' Wd := by
  have hbs := h.below.size
  have hge : w2.heap.size ≤ e.g ∧ e.g < W.heap.size := by obtain ⟨ys, zs, h1, _⟩ := h.row; exact h1.lt e.g rfl
  have hgs : w2.heap.size ≤ s ∧ s < W.heap.size := h.stack.lt s rfl
  have hlow : ∀ b, b < w2.heap.size → b < W.heap.size → Wd.heap[b]? = W.heap[b]? := fun b hb' hlt => hT.block b hlt (fun hm => by rcases hm with rfl | rfl <;> omega)
  have hDk : ∀ b, D b → b < W.heap.size → Wd.heap[b]? = W.heap[b]? := fun b hb' hlt => hT.block b hlt (fun hm => by rcases hm with rfl | rfl; exact hD hb'; exact h.sfree.1 hb')
  have hsub : ∀ x ∈ R, x ∈ R' := fun x hx => by
    rcases hR with ⟨_, rfl⟩ | ⟨g1, _, _, rfl, _⟩
    · exact hx
    · exact .tail _ hx
  have hold : ∀ x ∈ R, WRow w2.heap.size Wd x := fun x hx => by
    have h1 := h.rows x hx
    exact h1.1.kept (hT.block x.g h1.1.lt.2 (fun hm => by rcases hm with e1 | e1; exact h1.2.2.2.2 e1; exact h1.2.2.2.1 e1)) hlow
  have hs2 : ∀ b, b < W.heap.size → b ≠ s → b ≠ s' := fun b hb1 hb2 e1 => by rcases hs' with e2 | e2 <;> omega
  have hrest : ∀ x ∈ R, WRow w2.heap.size Wd x ∧ 0 < x.ts.length ∧ ¬ D x.g ∧ x.g ≠ s' ∧ x.g ≠ e.g := fun x hx => by
    have h1 := h.rows x hx
    exact ⟨hold x hx, h1.2.1, h1.2.2.1, hs2 _ h1.1.lt.2 h1.2.2.2.1, h1.2.2.2.2⟩
  have hnD : ∀ b, W.heap.size ≤ b → ¬ D b := fun b hb1 hb2 => by have := (hDl b hb2).2; have := h.low; omega
  have hdrop : e.ts.drop i = t :: e.ts.drop (i + 1) := by rw [← ht]; exact List.drop_eq_getElem_cons hi
  have hsz : Tm.sizes (e.ts.drop i) = 1 + Tm.sizes t.args + Tm.sizes (e.ts.drop (i + 1)) := by rw [hdrop, Tm.sizes_cons, t.size_eq]
  have hwait : ∀ x ∈ R, Shf c Wd D R' (some ⟨x.g, 0, none⟩) x.ts := fun x hx => .wait x (hsub x hx)
  refine ⟨h.below.trans ⟨hT.os, hT.tape, hT.output, hT.size, fun b hb1 => hlow b hb1 (by omega)⟩, hst, ?_, ?_, ?_, fun b hb1 => (hDk b hb1 (by have := (hDl b hb1).2; have := h.low; omega)).trans (h.dkeep b hb1), fun x hx => hsub x (h.sub x hx), ?_, ?_, Nat.le_trans h.low hT.size⟩
  · rcases hR with ⟨_, rfl⟩ | ⟨g1, hp, rfl, rfl, hg1, hne, hw⟩
    · exact hrest
    · intro x hx
      rcases List.mem_cons.1 hx with rfl | hx
      · exact ⟨hw, hp, hnD _ hg1, hne, by show g1 ≠ e.g; omega⟩
      · exact hrest x hx
  · rcases hR with ⟨_, rfl⟩ | ⟨g1, hp, rfl, rfl, hg1, hne, hw⟩
    · exact h.nodup
    · rw [List.map_cons, List.nodup_cons]
      refine ⟨fun hm => ?_, h.nodup⟩
      obtain ⟨x, hx, e1⟩ := List.mem_map.1 hm
      have := (h.rows x hx).1.lt.2
      have e2 : x.g = g1 := e1
      omega
  · rcases hs' with rfl | e1
    · exact h.sfree
    · exact ⟨hnD _ e1, by omega⟩
  · refine ⟨ys ++ scells c t ad cap, zs, hrow, ?_, htr.kept hlow fun _ h _ => h⟩
    rw [List.take_succ_eq_append_getElem hi, ht]
    refine .snoc t ad cap ys _ hb ?_ (hsr.mono hDk (fun _ h => h) hwait)
    rcases hR with ⟨h0, rfl⟩ | ⟨g1, hp, rfl, rfl, _⟩
    · rw [h0]; exact .nil _
    · exact .wait ⟨g1, cap, t.args⟩ (.head _)
  · have h1 := h.size
    rw [hsz] at h1
    rcases hR with ⟨h0, rfl⟩ | ⟨g1, hp, rfl, rfl, _⟩
    · omega
    · show Tm.sizes t.args + psize R + _ + _ ≤ _
      omega
/-- The row is done. -/
theorem IIn.whole {c : Int} {w2 : World} {q : Nat} {T : Tm} {D : Nat → Prop} {R0 : List PE} {W1 : World} {e : PE} {R : List PE} {s scap s0 scap0 : Nat} {W : World} (h0 : OIn c w2 q T D (e :: R0) s0 scap0 W1) (h : IIn c w2 T D R0 W1 e e.ts.length R s scap W) :
    OIn c w2 q T (fun b => D b ∨ b = e.g) R s scap W ∧ psize R < psize (e :: R0) := by
  obtain ⟨ys, zs, hrow, hsr, htr⟩ := h.row
  rw [List.drop_length] at htr
  rw [List.take_length] at hsr
  have hz : zs = [] := by cases htr; rfl
  subst hz
  rw [List.append_nil] at hrow
  have hge := hrow.lt e.g rfl
  have hs := h.size
  rw [List.drop_length, show Tm.sizes [] = 0 from rfl] at hs
  have hp := (h0.rows e (.head _)).2.1
  have hroot : Shf c W (fun b => D b ∨ b = e.g) R (some ⟨q, 0, none⟩) [T] := by
    refine h0.root.mono (fun b hb _ => h.dkeep b hb) (fun b hb => .inl hb) (fun x hx => ?_)
    rcases List.mem_cons.1 hx with rfl | hx
    · have h1 : SRow c W (fun b => D b ∨ b = x.g) R ys x.ts := hsr.mono (fun _ _ _ => rfl) (fun b hb => .inl hb) (fun y hy => .wait y hy)
      have h2 := Shf.rows h1 x.g (.inr rfl) [] (.nil _) (fun j hj => World.ownsRow.cellAt (cap := x.cap) hrow j (by rw [← hrow.1]; exact hj))
      rw [List.append_nil] at h2
      exact h2
    · exact .wait x (h.sub x hx)
  refine ⟨⟨h.below, h.stack, fun x hx => ⟨(h.rows x hx).1, (h.rows x hx).2.1, fun hd => ?_, (h.rows x hx).2.2.2.1⟩, h.nodup, fun hd => ?_, fun b hb => ?_, hroot, ?_, fun b hb => ?_⟩, ?_⟩
  · rcases hd with hd | hd
    · exact (h.rows x hx).2.2.1 hd
    · exact (h.rows x hx).2.2.2.2 hd
  · rcases hd with hd | hd
    · exact h.sfree.1 hd
    · exact h.sfree.2 hd
  · rcases hb with hb | rfl
    · exact ⟨(h0.dlow b hb).1, Nat.lt_of_lt_of_le (h0.dlow b hb).2 h.low⟩
    · exact hge
  · have h1 := h0.size
    have h2 : psize (e :: R0) = Tm.sizes e.ts + psize R0 := rfl
    omega
  · rcases hb with hb | rfl
    · exact fun o => (frozen_block (h.dkeep b hb) o).trans (h0.free b hb o)
    · exact fun o => World.ownsRow.frozenAt (cap := e.cap) hrow o
  · show _ < Tm.sizes e.ts + psize R0
    omega
end Go.Proofs.Ytpmohibhdnmjlaa

/-
  The contracts of package term's own Shift and Copy.
-/
namespace Go.Proofs.Ytpmohibhdnmjlaa
open Go.RowKit

theorem clone_any {w : World} {P : Nat → Prop} {ad : Option Addr} {ts : List Tm} (h : TArgsP w P ad ts) (hl : ts.length ≤ 1000000) (cap : Nat) :
    ∃ xs, TRow w P xs ts ∧ xs.length = ts.length * 4 ∧ ∀ W, (∀ b, P b → b < w.heap.size → W.heap[b]? = w.heap[b]?) → Calls Try.prog 66 #[.slice ad ts.length cap] W (Cloned W ts.length xs) := by
  obtain ⟨xs, hx, h1, h2⟩ := h.cells
  refine ⟨xs, hx, hx.length, fun W hk => ?_⟩
  cases h with
  | nil ad =>
    have hx0 : xs = [] := by cases hx; rfl
    subst hx0
    cases ad with
    | none => exact clone_nil W cap
    | some a => exact clone_zero W a cap
  | cons b o k n nm l ts ad' cap' hp c0 c1 c2 c3 hk1 hn hm hl1 hc ha hr =>
    refine clone_some W b o _ cap xs hx.length (fun j u hj => ?_) h1 (by simp) hl
    exact (World.cell?_of_block (w := w) (w' := W) (a := ⟨b, o + j, none⟩) (hk b hp (World.block_lt_of_cell? w ⟨b, o, none⟩ c0))).trans (h2 b o rfl j u hj)
/-- A term that was made, in blocks from B on, none of which is frozen. -/
def MadeFree (B : Nat) (w : World) (t : Tm) (e : Ending) (w' : World) : Prop := ∃ ad cap, e = .returned (tmv t ad cap) ∧ TmP w' (fun b => B ≤ b ∧ ∀ o, w'.frozen? ⟨b, o, none⟩ = false) t ad cap ∧ Below B w w'
theorem MadeFree.made {B : Nat} {w : World} {t : Tm} {e : Ending} {w' : World} (h : MadeFree B w t e w') : MadeTerm B w t e w' := by
  obtain ⟨ad, cap, h1, h2, h3⟩ := h
  exact ⟨ad, cap, h1, h2.kept (fun _ _ _ => rfl) (fun b hp _ => hp.1), h3⟩
/-- A term that was made, laid into the result's own block. -/
theorem made_store {w w2 : World} {q : Nat} {R : Tm} {ad : Option Addr} {cap : Nat} (htp : TmP w2 (fun b => q < b) R ad cap) (hb : Below w.heap.size w w2) (hq : w.heap.size ≤ q) (v0 v1 v2 v3 : Value) :
    MadeTerm w.heap.size w R (.returned (tmv R ad cap)) ((((w2.setCell ⟨q, 0, none⟩ v0).setCell ⟨q, 1, none⟩ v1).setCell ⟨q, 2, none⟩ v2).setCell ⟨q, 3, none⟩ v3) := by
  refine ⟨ad, cap, rfl, htp.kept (fun b hp _ => ?_) (fun b hp _ => by omega), (((hb.setCell hq _).setCell hq _).setCell hq _).setCell hq _⟩
  rw [Below.heap_setCell _ _ _ _ (show b ≠ q by omega), Below.heap_setCell _ _ _ _ (show b ≠ q by omega), Below.heap_setCell _ _ _ _ (show b ≠ q by omega), Below.heap_setCell _ _ _ _ (show b ≠ q by omega)]
theorem made_storeF {w w2 : World} {q : Nat} {R : Tm} {ad : Option Addr} {cap : Nat} (htp : TmP w2 (fun b => q < b ∧ ∀ o, w2.frozen? ⟨b, o, none⟩ = false) R ad cap) (hb : Below w.heap.size w w2) (hq : w.heap.size ≤ q) (v0 v1 v2 v3 : Value) :
    MadeFree w.heap.size w R (.returned (tmv R ad cap)) ((((w2.setCell ⟨q, 0, none⟩ v0).setCell ⟨q, 1, none⟩ v1).setCell ⟨q, 2, none⟩ v2).setCell ⟨q, 3, none⟩ v3) := by
  have keep : ∀ b, b ≠ q → ((((w2.setCell ⟨q, 0, none⟩ v0).setCell ⟨q, 1, none⟩ v1).setCell ⟨q, 2, none⟩ v2).setCell ⟨q, 3, none⟩ v3).heap[b]? = w2.heap[b]? := fun b hne => by
    rw [Below.heap_setCell _ _ _ _ (show b ≠ q by omega), Below.heap_setCell _ _ _ _ (show b ≠ q by omega), Below.heap_setCell _ _ _ _ (show b ≠ q by omega), Below.heap_setCell _ _ _ _ (show b ≠ q by omega)]
  exact ⟨ad, cap, rfl, htp.kept (fun b hp _ => keep b (by have := hp.1; omega)) (fun b hp _ => ⟨by have := hp.1; omega, fun o => (frozen_block (keep b (by have := hp.1; omega)) o).trans (hp.2 o)⟩), (((hb.setCell hq _).setCell hq _).setCell hq _).setCell hq _⟩
def SInv (c : Int) (w2 : World) (q : Nat) (T : Tm) (m : Nat) (p : Value) (W : World) : Prop :=
  ∃ D R s scap, p = .slice (some ⟨s, 0, none⟩) R.length scap ∧ OIn c w2 q T D R s scap W ∧ m = psize R
theorem OIn.start {c : Int} {w2 : World} {T : Tm} {ad : Option Addr} {cap : Nat} (hp : TmP w2 (fun b => b < w2.heap.size) T ad cap) :
    OIn c w2 w2.heap.size T (fun _ => False) [⟨w2.heap.size, 1, [T]⟩] (w2.heap.size + 1) 1 ((w2.alloc (.cells #[.int .i64 T.kind, .string T.name, .int .i64 T.n, .slice ad T.args.length cap] 25)).alloc (.cells #[.slice (some ⟨w2.heap.size, 0, none⟩) 1 1] 23)) := by
  have hrow := World.ownsRow_lit (base := w2.heap.size) (e := 25) (size := 4) w2 #[.int .i64 T.kind, .string T.name, .int .i64 T.n, .slice ad T.args.length cap] 1 (Nat.le_refl _) (by decide) rfl
  have htr : TRow w2 (fun b => b < w2.heap.size) (tcells T ad cap ++ []) [T] := .cons T ad cap [] [] hp .nil
  refine ⟨((Below.refl _ w2).alloc (Nat.le_refl _) _).alloc (by simp) _, ?_, ?_, by simp, fun h => h, fun _ h => h.elim, ?_, ?_, ?_⟩
  · have h1 := World.ownsRow_lit (base := w2.heap.size) (e := 23) (size := 1) (w2.alloc (.cells #[.int .i64 T.kind, .string T.name, .int .i64 T.n, .slice ad T.args.length cap] 25)) #[.slice (some ⟨w2.heap.size, 0, none⟩) 1 1] 1 (by simp) (by decide) rfl
    rw [World.size_alloc] at h1
    exact h1
  · intro e he
    obtain rfl := List.mem_singleton.1 he
    refine ⟨⟨tcells T ad cap ++ [], ?_, htr.kept (fun b _ hlt => (Below.heap_alloc _ _ _ (by simp; omega)).trans (Below.heap_alloc _ _ _ hlt)) fun _ h _ => h⟩, by show 0 < 1; omega, fun h => h, by show w2.heap.size ≠ w2.heap.size + 1; omega⟩
    exact World.ownsRow.alloc hrow _
  · exact .wait ⟨w2.heap.size, 1, [T]⟩ (.head _)
  · show Tm.sizes [T] + 0 ≤ _
    have : Tm.sizes [T] = T.size := by show T.size + 0 = _; omega
    omega
  · exact fun _ h => h.elim
theorem row_cells {W : World} {B g n cap i : Nat} {ys zs : List Value} {v0 v1 v2 v3 : Value} (h : W.ownsRow B 25 4 (.slice (some ⟨g, 0, none⟩) n cap) n (ys ++ ([v0, v1, v2, v3] ++ zs))) (hy : ys.length = i * 4) :
    W.cell? ⟨g, i * 4, none⟩ = some v0 ∧ W.cell? ⟨g, i * 4 + 1, none⟩ = some v1 ∧ W.cell? ⟨g, i * 4 + 2, none⟩ = some v2 ∧ W.cell? ⟨g, i * 4 + 3, none⟩ = some v3 := by
  have hl := h.1
  rw [List.length_append, List.length_append, hy] at hl
  have hl4 : ([v0, v1, v2, v3] : List Value).length = 4 := rfl
  have at4 : ∀ j, j < 4 → W.cell? ⟨g, i * 4 + j, none⟩ = ([v0, v1, v2, v3] : List Value)[j]? := fun j hj => by
    rw [h.cellAt (i * 4 + j) (by omega), List.getElem?_append_right (by omega), hy, Nat.add_sub_cancel_left, List.getElem?_append_left (by omega)]
  exact ⟨at4 0 (by omega), at4 1 (by omega), at4 2 (by omega), at4 3 (by omega)⟩
theorem row_set {W : World} {B g n cap i : Nat} {ys zs : List Value} {v0 v1 v2 v3 : Value} (h : W.ownsRow B 25 4 (.slice (some ⟨g, 0, none⟩) n cap) n (ys ++ ([v0, v1, v2, v3] ++ zs))) (hy : ys.length = i * 4) (u : Value) :
    (W.setCell ⟨g, i * 4 + 2, none⟩ u).ownsRow B 25 4 (.slice (some ⟨g, 0, none⟩) n cap) n (ys ++ ([v0, v1, u, v3] ++ zs)) ∧ (W.setCell ⟨g, i * 4 + 3, none⟩ u).ownsRow B 25 4 (.slice (some ⟨g, 0, none⟩) n cap) n (ys ++ ([v0, v1, v2, u] ++ zs)) := by
  have h2 := (h.stored (i * 4 + 2) u).1
  have h3 := (h.stored (i * 4 + 3) u).1
  rw [List.set_append_right _ _ (by omega), hy, Nat.add_sub_cancel_left] at h2 h3
  exact ⟨h2, h3⟩

theorem ownsRow_low {w : World} {base base' : Nat} {e : TypeId} {size : Nat} {v : Value} {n : Nat} {xs : List Value} (h : w.ownsRow base e size v n xs) (hb : base' ≤ base) : w.ownsRow base' e size v n xs := by
  obtain ⟨hl, h2⟩ := h
  refine ⟨hl, ?_⟩
  rcases h2 with h0 | ⟨g, cap, cur, hv, hbg, r⟩
  · exact .inl h0
  · exact .inr ⟨g, cap, cur, hv, by omega, r⟩
/-- What Clone leaves within Shift's inner loop: the row can take the new arguments' slice. -/
def SCl (B g i cp : Nat) (ts : List Tm) (t : Tm) (c : Int) (ys zs : List Value) (xs : List Value) (wr : World) (e : Ending) (Wb : World) : Prop :=
  ∃ ad cap, e = .returned (.slice ad t.args.length cap) ∧ t.args.length ≤ cap ∧ cap ≤ maxLen ∧ Wb.frozen? ⟨g, i * 4 + 3, none⟩ = false ∧ (∃ v, Wb.cell? ⟨g, i * 4 + 3, none⟩ = some v) ∧
    Hid (∀ Wc, Wc = Wb.setCell ⟨g, i * 4 + 3, none⟩ (.slice ad t.args.length cap) → Turn (fun j => j = g) wr Wc ∧ Wc.heap.size = Wb.heap.size ∧ wr.heap.size ≤ Wb.heap.size ∧ Wc.cell? ⟨g, i * 4 + 3, none⟩ = some (.slice ad t.args.length cap) ∧
      Wc.ownsRow B 25 4 (.slice (some ⟨g, 0, none⟩) ts.length cp) ts.length ((ys ++ scells c t ad cap) ++ zs) ∧
      (0 < t.args.length → ∃ g1, ad = some ⟨g1, 0, none⟩ ∧ wr.heap.size ≤ g1 ∧ g1 < Wc.heap.size ∧ Wc.ownsRow B 25 4 (.slice (some ⟨g1, 0, none⟩) t.args.length cap) t.args.length xs))
theorem scl_of {B g i cp : Nat} {ts : List Tm} {t : Tm} {c n' : Int} {ys zs : List Value} {xs : List Value} {wr Wa : World} {ad1 : Option Addr} {cap1 : Nat} (hT : Turn (fun j => j = g) wr Wa) (hsz : Wa.heap.size = wr.heap.size)
    (hrow : Wa.ownsRow B 25 4 (.slice (some ⟨g, 0, none⟩) ts.length cp) ts.length (ys ++ ([.int .i64 t.kind, .string t.name, .int .i64 n', .slice ad1 t.args.length cap1] ++ zs))) (hy : ys.length = i * 4) (hn : shn c t.kind t.n = n') (hB : B ≤ wr.heap.size) (hgW : g < wr.heap.size) :
    ∀ e Wb, Cloned Wa t.args.length xs e Wb → SCl B g i cp ts t c ys zs xs wr e Wb := by
  rintro e Wb ⟨ad, cap, rfl, h1, h2, hb, hnew⟩
  have hrb := ownsRow_block hrow (hb.block g (by omega))
  have hbs := hb.size
  refine ⟨ad, cap, rfl, h1, h2, hrb.frozenAt _, ⟨_, (row_cells hrb hy).2.2.2⟩, Lib.hid (fun Wc hWc => ?_)⟩
  subst hWc
  have hrc := (row_set hrb hy (.slice ad t.args.length cap)).2
  have hTb : Turn (fun j => j = g) wr Wb := hT.trans ⟨hb.os, hb.tape, hb.output, hb.size, fun k hk _ => hb.block k hk⟩
  refine ⟨hTb.trans (Turn.set (fun j => j = g) Wb (p := ⟨g, i * 4 + 3, none⟩) rfl _), by simp [World.setCell], by omega, (row_cells hrc hy).2.2.2, ?_, fun hp => ?_⟩
  · rw [List.append_assoc]
    unfold scells
    rw [hn]
    exact hrc
  · obtain ⟨g1, rfl, hg1, ho⟩ := hnew hp
    have hlt := (ho.lt g1 rfl).2
    refine ⟨g1, rfl, by omega, by simpa [World.setCell] using hlt, ?_⟩
    exact ownsRow_block (ownsRow_low ho (by omega)) (Below.heap_setCell _ _ _ _ (show g1 ≠ g by omega))
theorem infoRows : (Try.prog.info? 23).map (fun i => (i.zero, i.size, i.bytes)) = some (some (.slice none 0 0), 1, 24) := by kernel_rfl

set_option maxRecDepth 100000 in
set_option maxHeartbeats 2000000 in
theorem term_ShiftF (c : Int) (T : Tm) (ad : Option Addr) (cap : Nat) (w : World) (hM : T.size ≤ 1000000) (hin : TmIn w T ad cap) :
    Calls Try.prog 51 #[tmv T ad cap, .int .i64 c] w (MadeFree w.heap.size w (T.shift c)) := by
  have HI := Lib.hid hin
  clear hin
  obtain ⟨i0, hi, hz0, hz1, hz2⟩ := info_parts infoRows
  unfold tmv
  go_enter Try.func51, Try.ntmps51
  go_wp2_with fail
  generalize hw2 : (w.alloc _).alloc (.cells #[.int .i64 0, .string ⟨#[]⟩, .int .i64 0, .slice none 0 0] _) = w2
  have hb2 : Below w.heap.size w w2 := by rw [← hw2]; exact ((Below.refl _ w).alloc (Nat.le_refl _) _).alloc (by simp) _
  have hs2 : w2.heap.size = w.heap.size + 2 := by rw [← hw2]; simp
  have hres : w2.heap[w.heap.size + 1]? = some (.cells #[.int .i64 0, .string ⟨#[]⟩, .int .i64 0, .slice none 0 0] 25 (0, 0)) := by rw [← hw2]; exact alloc_new2 w _ _
  have hst := OIn.start (c := c) (show TmP w2 (fun b => b < w2.heap.size) T ad cap from ⟨HI.out.kind, HI.out.n, HI.out.name, HI.out.len, HI.out.cap, (HI.out.args.on hb2).inP⟩)
  have HST := Lib.hid hst
  have HRES := Lib.hid hres
  have HB2 := Lib.hid hb2
  have HS2 := Lib.hid hs2
  clear hst hw2 hres hb2 hs2
  go_loopw [6] (fun p wr => ∃ m, SInv c w2 w2.heap.size T m p wr) (fun p wr => least fun m => SInv c w2 w2.heap.size T m p wr)
  case atStart =>
    refine ⟨_, fun _ => False, [⟨w2.heap.size, 1, [T]⟩], w.heap.size + 1 + 1 + 1, 1, rfl, ?_, rfl⟩
    rw [← show w2.heap.size = w.heap.size + 1 + 1 from HS2.out]
    exact HST.out
  case round =>
    obtain ⟨m0, hm0⟩ := hrel
    have hm1 := least_is (R := fun m => SInv c w2 w2.heap.size T m u6 wr) hm0
    generalize hmm : least (fun m => SInv c w2 w2.heap.size T m u6 wr) = m at *
    have HMM := Lib.hid hmm
    clear hm0 hmm
    obtain ⟨D, R, s, scap, rfl, hO, hme⟩ := hm1
    have hME := Lib.hid hme
    have HO := Lib.hid hO
    clear hme
    cases R with
    | nil =>
      have hdone := hO.root.done (P := fun b => w2.heap.size ≤ b ∧ ∀ o, wr.frozen? ⟨b, o, none⟩ = false) (fun b hb => ⟨(hO.dlow b hb).1, hO.free b hb⟩)
      rw [List.map_cons, List.map_nil] at hdone
      obtain ⟨_, _, ad9, cap9, c0, c1, c2, c3, hok9, ha9, _⟩ := hdone.head
      have hrd := (hO.below.block (w.heap.size + 1) (by rw [HS2.out]; omega)).trans HRES.out
      obtain ⟨g0, g1, g2, g3, k0, k1, k2, k3⟩ := cellsT hrd
      have HM := Lib.hid (fun v0 v1 v2 v3 => made_storeF (w := w) (w2 := wr) (q := w.heap.size + 1) (R := T.shift c) (ad := ad9) (cap := cap9) ⟨hok9.kind, hok9.n, hok9.name, hok9.len, hok9.cap, ha9.kept (fun _ _ _ => rfl) (fun b hp _ => ⟨by have := HS2.out; have := hp.1; omega, hp.2⟩)⟩ (HB2.out.trans (hO.below.mono (by rw [HS2.out]; omega))) (by omega) v0 v1 v2 v3)
      rw [HS2.out] at c0 c1 c2 c3
      generalize T.shift c = RR at *
      clear hO hdone hok9 ha9 hrd
      go_wp2_with fail
      exact bodyPost_ret (v := tmv RR ad9 cap9) (by unfold tmv; simp [results, Try.results51, go_sem, g0, g1, g2, g3]) rfl (HM.out _ _ _ _)
    | cons e R =>
      obtain ⟨g, cp, ts⟩ := e
      obtain ⟨hg1, hg2, hnc, hcm⟩ := ownsRow_facts hO.stack
      rw [List.length_cons] at hnc
      have hce : wr.cell? ⟨s, R.length, none⟩ = some (.slice (some ⟨g, 0, none⟩) ts.length cp) := by
        rw [hO.stack.cellAt R.length (by rw [List.length_cons]; omega)]
        simp [PE.v]
      obtain ⟨xs0, hrow0, htr0⟩ := (hO.rows _ (.head _)).1
      have hrf := ownsRow_facts hrow0
      have HPOP := Lib.hid hO.pop
      have hRl := psize_len fun x hx => (hO.rows x hx).2.1
      have hps := hO.size
      have hcp1 := hrf.2.2.1
      have hcp2 := hrf.2.2.2
      unfold maxLen at hcm hcp2
      dsimp only at hcp1
      have hlen : ts.length ≤ 1000000 := by
        have h1 := Tm.length_le_sizes ts
        have h2 : psize (⟨g, cp, ts⟩ :: R) = Tm.sizes ts + psize R := rfl
        omega
      have hRl' : R.length ≤ 1000000 := by rw [List.length_cons] at hRl; omega
      rw [List.length_cons]
      have HPS := Lib.hid hps
      clear hO hrow0 htr0 hrf hRl hps
      generalize hr : R.length = r at *
      have HR := Lib.hid hr
      clear hr
      go_wp2_with fail
      clear hce
      generalize hW1 : wr = W1 at *
      have HW1 := Lib.hid hW1
      clear hW1
      go_loopw [6, 30] (fun p iv wd => ∃ (i : Nat) (R' : List PE) (s' scap' : Nat), i ≤ ts.length ∧ iv = .int .i64 i ∧ p = .slice (some ⟨s', 0, none⟩) R'.length scap' ∧ IIn c w2 T D R W1 ⟨g, cp, ts⟩ i R' s' scap' wd) (fun _ iv _ => ts.length - (intOf iv).toNat)
      case atStart => exact ⟨0, R, s, scap, Nat.zero_le _, rfl, by rw [HR.out], HPOP.out⟩
      case round =>
        obtain ⟨i, R', s', scap', hi1, rfl, rfl, hIn⟩ := hrel
        by_cases hlt : i < ts.length
        · obtain ⟨ys, zs, hrow, hsr, htr⟩ := hIn.row
          obtain ⟨t, ht⟩ : ∃ t, ts[i] = t := ⟨_, rfl⟩
          have hdr : ts.drop i = t :: ts.drop (i + 1) := by rw [← ht]; exact List.drop_eq_getElem_cons hlt
          rw [show (PE.mk g cp ts).ts = ts from rfl, hdr] at htr
          obtain ⟨ad1, cap1, zs', rfl, htm, htr'⟩ := htr.head
          have hyl : ys.length = i * 4 := by
            rw [hsr.length]
            show (ts.take i).length * 4 = _
            rw [List.length_take, Nat.min_eq_left (by omega)]
          obtain ⟨c0, c1, c2, c3⟩ := row_cells hrow hyl
          have hIs := hIn.size
          have hIl := psize_len fun x hx => (hIn.rows x hx).2.1
          have hpsz : psize (⟨g, cp, ts⟩ :: R) = Tm.sizes ts + psize R := rfl
          rw [show (PE.mk g cp ts).ts = ts from rfl, hdr, Tm.sizes_cons, t.size_eq] at hIs
          have hal := Tm.length_le_sizes t.args
          have hpsT := HPS.out
          have htl : t.args.length ≤ 1000000 := by omega
          have hR1 : R'.length ≤ 1000000 := by omega
          obtain ⟨xs, hxr, hxl, hcl⟩ := clone_any htm.args htl cap1
          obtain ⟨n', hn', hn2⟩ : ∃ n', shn c t.kind t.n = n' ∧ (((t.kind == 1) = true ∧ wrap64 (t.n + c) = n') ∨ ((t.kind == 1) = false ∧ Hid (t.n = n'))) := by
            refine ⟨_, rfl, ?_⟩
            unfold shn add64
            by_cases h1 : t.kind = 1
            · exact .inl ⟨by simpa using h1, by rw [if_pos h1]⟩
            · exact .inr ⟨by simpa using h1, Lib.hid (by rw [if_neg h1])⟩
          have hgl := hrow.lt g rfl
          have hgs := hIn.stack.lt s' rfl
          have hsg : s' ≠ g := hIn.sfree.2
          have HB := Lib.hid (show TmBs t cap1 from ⟨htm.kind, htm.n, htm.name, htm.len, htm.cap⟩)
          have HRA : Hid (∀ Wa, (Wa = wr ∧ t.n = n') ∨ Wa = wr.setCell ⟨g, i * 4 + 2, none⟩ (.int .i64 n') → Turn (fun j => j = g) wr Wa ∧ Wa.heap.size = wr.heap.size ∧ Wa.ownsRow w2.heap.size 25 4 (.slice (some ⟨g, 0, none⟩) ts.length cp) ts.length (ys ++ ([.int .i64 t.kind, .string t.name, .int .i64 n', .slice ad1 t.args.length cap1] ++ zs'))) := Lib.hid (fun Wa h => by
            rcases h with ⟨rfl, h⟩ | rfl
            · rw [← h]; exact ⟨Turn.refl _ _, rfl, hrow⟩
            · exact ⟨Turn.set (fun j => j = g) wr (p := ⟨g, i * 4 + 2, none⟩) rfl _, by simp [World.setCell], (row_set hrow hyl _).1⟩)
          have HIN := Lib.hid hIn
          have HHT := Lib.hid ht
          have HSR := Lib.hid hsr
          have HTR := Lib.hid htr'
          have HXR := Lib.hid hxr
          have HCL := Lib.hid (fun W (h : Turn (fun j => j = g) wr W) => hcl W (fun b hb hlt => h.block b hlt (fun e => by omega)))
          have HYL := Lib.hid hyl
          have HN := Lib.hid hn'
          have hz2' := hrow.frozenAt (i * 4 + 2)
          have hz3' := hrow.frozenAt (i * 4 + 3)
          have hgB := hgl.1
          have hBW : w2.heap.size ≤ wr.heap.size := hIn.below.size
          have hgW := hgl.2
          clear hIn hdr ht htr htm hrow hsr htr' hyl hIs hIl hpsz hal hpsT hxr hcl hn' hgl
          have HRB : Hid (∀ Wa, Turn (fun j => j = g) wr Wa ∧ Wa.heap.size = wr.heap.size ∧ Wa.ownsRow w2.heap.size 25 4 (.slice (some ⟨g, 0, none⟩) ts.length cp) ts.length (ys ++ ([.int .i64 t.kind, .string t.name, .int .i64 n', .slice ad1 t.args.length cap1] ++ zs')) → Calls Try.prog 66 #[.slice ad1 t.args.length cap1] Wa (SCl w2.heap.size g i cp ts t c ys zs' xs wr)) := Lib.hid (fun Wa h => (HCL.out Wa h.1).mono (scl_of h.1 h.2.1 h.2.2 HYL.out HN.out hBW hgW))
          rcases hn2 with ⟨hk, hn2⟩ | ⟨hk, hn2⟩
          all_goals
            go_wp2_with fail
            refine (HRB.out _ (by first | exact HRA.out _ (.inr rfl) | exact HRA.out _ (.inl ⟨rfl, hn2.out⟩))).mono ?_
            rintro e Wb ⟨adb, capb, rfl, hlb, hcb, hfb, ⟨vb3, cb3⟩, hset⟩
            obtain ⟨hTc, hsc, hsb, hcc, hrc, hnw⟩ := hset.out _ rfl
            have hstc : (Wb.setCell ⟨g, i * 4 + 3, none⟩ (.slice adb t.args.length capb)).ownsRow w2.heap.size 23 1 (.slice (some ⟨s', 0, none⟩) R'.length scap') R'.length (R'.map PE.v).reverse := ownsRow_block HIN.out.stack (hTc.block s' hgs.2 (fun e => hsg e))
            have HTC := Lib.hid hTc
            have HSC := Lib.hid hsc
            have HRC := Lib.hid hrc
            have HNW := Lib.hid hnw
            have HTB := Lib.hid (show TmBs t capb from ⟨HB.out.kind, HB.out.n, HB.out.name, hlb, hcb⟩)
            have hDg : Hid (¬ D g) := Lib.hid (HO.out.rows _ (.head _)).2.2.1
            have hdl := Lib.hid HO.out.dlow
            unfold maxLen at hcb
            clear hset hTc hsc hrc hnw
            by_cases h0 : t.args.length = 0
            · have hz : ¬ 0 < t.args.length := by omega
              have HZ := Lib.hid h0
              have HSTC := Lib.hid hstc
              clear h0 hstc
              go_wp2_with fail
              go_roundw
              case rel =>
                refine ⟨i + 1, R', s', scap', by omega, by go_num, rfl, ?_⟩
                exact HIN.out.next hDg.out hdl.out hlt HHT.out HSR.out HTR.out (HTC.out.more fun j hj => .inl hj) HRC.out HTB.out HSTC.out (.inl rfl) (.inl ⟨List.eq_nil_of_length_eq_zero HZ.out, rfl⟩)
              case measure => simp [intOf]; omega
            · have hz : 0 < t.args.length := by omega
              have hB4 : w2.heap.size ≤ (Wb.setCell ⟨g, i * 4 + 3, none⟩ (.slice adb t.args.length capb)).heap.size := by have := HSC.out; omega
              have HB4 := Lib.hid hB4
              have HC1 := Lib.hid (fun (v : Value) (ty : TypeId) => by
                have h := cell_one_new (Wb.setCell ⟨g, i * 4 + 3, none⟩ (.slice adb t.args.length capb)) v ty
                rw [HSC.out] at h
                exact h)
              have HC2 : Hid (((Wb.setCell ⟨g, i * 4 + 3, none⟩ (.slice adb t.args.length capb)).alloc (.cells #[.slice adb t.args.length capb] 23)).heap.size = Wb.heap.size + 1) := Lib.hid (by rw [World.size_alloc, HSC.out])
              have HSTC := Lib.hid hstc
              clear h0 hB4 hstc
              go_wp2_with (at_builtin; refine wpList_append_lies _ rfl _ _ 88 rfl w2.heap.size 23 i0 (.slice none 0 0) 1 24 Try.underlying88 hi hz0 hz1 hz2 rfl (by decide) _ R'.length _ rfl (HSTC.out.alloc _) ⟨Wb.heap.size, 0, none⟩ 1 1 [.slice adb t.args.length capb] rfl rfl (HC1.out _ _) ?c2 (by decide) ?c3 ?c4 ?c5 (Wb.heap.size + 1) HC2.out ?_)
              case c2 => intro u hu; simp at hu; subst hu; rfl
              case c3 => unfold maxLen; omega
              case c4 => omega
              case c5 => rw [World.size_alloc]; have := HB4.out; omega
              intro g9 cap9 W9 hown9 hgrow hat hlt9
              obtain ⟨g1, rfl, hg1, hg1l, hro1⟩ := HNW.out hz
              rw [HSC.out] at hg1l
              have hsz9 := hgrow.size
              rw [World.size_alloc, HSC.out] at hsz9
              have hk9 : ∀ b, b < Wb.heap.size → b ≠ s' → W9.heap[b]? = (Wb.setCell ⟨g, i * 4 + 3, none⟩ (.slice (some ⟨g1, 0, none⟩) t.args.length capb)).heap[b]? := fun b hb hne =>
                (hgrow.block b (by rw [World.size_alloc, HSC.out]; omega) (fun e => hne (by simpa [Value.ownBlock] using e))).trans (Below.heap_alloc _ _ _ (by rw [HSC.out]; exact hb))
              have hT9 : Turn (fun j => j = g ∨ j = s') wr W9 := ⟨hgrow.os.trans HTC.out.os, hgrow.tape.trans HTC.out.tape, hgrow.output.trans HTC.out.output, by omega, fun b hb hn => (hk9 b (by omega) (fun e => hn (.inr e))).trans (HTC.out.block b hb (fun e => hn (.inl e)))⟩
              have hg9 : g9 = s' ∨ g9 = Wb.heap.size + 1 := by
                rcases hat with h | h
                · left; simpa [Value.ownBlock] using h.symm
                · exact .inr h
              have hgs2 := hgs.2
              have hgs1 := hgs.1
              have hw9 : WRow w2.heap.size W9 ⟨g1, capb, t.args⟩ := ⟨xs, ownsRow_block hro1 (hk9 g1 hg1l (by omega)), HXR.out.kept (fun b hb hlt => hT9.block b hlt (fun e => by rcases e with rfl | rfl <;> omega)) fun _ h _ => h⟩
              have hst9 : W9.ownsRow w2.heap.size 23 1 (.slice (some ⟨g9, 0, none⟩) (⟨g1, capb, t.args⟩ :: R' : List PE).length cap9) (⟨g1, capb, t.args⟩ :: R' : List PE).length ((⟨g1, capb, t.args⟩ :: R' : List PE).map PE.v).reverse := by
                rw [List.map_cons, List.reverse_cons]; exact hown9
              have HNX := Lib.hid (HIN.out.next hDg.out hdl.out hlt HHT.out HSR.out HTR.out hT9 (ownsRow_block HRC.out (hk9 g (by omega) (fun e => hsg e.symm))) HTB.out hst9 (hg9.imp id fun e => by omega) (.inr ⟨g1, hz, rfl, rfl, by omega, by omega, hw9⟩))
              clear hown9 hgrow hat hsz9 hk9 hT9 hw9 hst9 hro1
              go_wp2_with fail
              go_roundw
              case rel => exact ⟨i + 1, ⟨g1, capb, t.args⟩ :: R', g9, cap9, by omega, by go_num, rfl, HNX.out⟩
              case measure => simp [intOf]; omega
        · obtain rfl : i = ts.length := by omega
          obtain ⟨hw, hlt9⟩ := IIn.whole HO.out hIn
          have HW := Lib.hid hw
          have HLT := Lib.hid hlt9
          clear hIn hw hlt9
          go_wp2_with fail
          refine ⟨⟨_, _, R', s', scap', rfl, HW.out, rfl⟩, ?_⟩
          have hmm := HMM.out
          rw [List.length_cons, HR.out] at hmm
          rw [HW1.out, hmm]
          refine Nat.lt_of_le_of_lt (least_le (m := psize R') ⟨_, R', s', scap', rfl, HW.out, rfl⟩) ?_
          have h1 := hME.out
          have h2 := HLT.out
          omega
theorem term_Shift (c : Int) (T : Tm) (ad : Option Addr) (cap : Nat) (w : World) (hM : T.size ≤ 1000000) (hin : TmIn w T ad cap) :
    Calls Try.prog 51 #[tmv T ad cap, .int .i64 c] w (MadeTerm w.heap.size w (T.shift c)) := (term_ShiftF c T ad cap w hM hin).mono fun _ _ h => h.made
theorem wrap64_same {n : Int} (h : In64 n) : wrap64 n = n := by
  unfold In64 at h
  unfold wrap64
  omega

set_option maxHeartbeats 2000000 in
theorem term_CopyF (T : Tm) (ad : Option Addr) (cap : Nat) (w : World) (hM : T.size ≤ 1000000) (hin : TmIn w T ad cap) :
    Calls Try.prog 41 #[tmv T ad cap] w (MadeFree w.heap.size w T) := by
  have HB := Lib.hid (fun o1 o2 : Obj => (((Below.refl w.heap.size w).alloc (Nat.le_refl _) o1).alloc (by simp) o2))
  have hC := fun o1 o2 => term_ShiftF 0 T ad cap ((w.alloc o1).alloc o2) hM (hin.on (HB.out o1 o2))
  rw [Tm.shift_zero T (fun n h => wrap64_same h) ((Tm.n64_eq T).2 ⟨hin.n, hin.args.n64⟩)] at hC
  have HC := Lib.hid hC
  clear hin hC
  unfold tmv at *
  go_enter Try.func41, Try.ntmps41
  go_wp2_with fail
  refine (HC.out _ _).mono ?_; rintro e w2 ⟨ad2, cap2, rfl, htp, hb2⟩
  have hq1 := (hb2.block (w.heap.size + 1) (by rw [World.size_alloc, World.size_alloc]; omega)).trans (alloc_new2 w _ _)
  obtain ⟨g0, g1, g2, g3, k0, k1, k2, k3⟩ := cellsT hq1
  have HM := Lib.hid (made_storeF (w := w) (q := w.heap.size + 1) (htp.kept (fun _ _ _ => rfl) (fun b hp _ => ⟨by have h1 := hp.1; rw [World.size_alloc, World.size_alloc] at h1; omega, hp.2⟩)) ((HB.out _ _).trans (hb2.mono (by rw [World.size_alloc, World.size_alloc]; omega))) (by omega))
  clear htp hb2 hq1
  unfold tmv
  go_wp2_with fail
  exact bodyPost_ret (v := tmv T ad2 cap2) (by unfold tmv; simp [results, Try.results41, go_sem, g0, g1, g2, g3]) rfl (HM.out _ _ _ _)
theorem term_Copy (T : Tm) (ad : Option Addr) (cap : Nat) (w : World) (hM : T.size ≤ 1000000) (hin : TmIn w T ad cap) :
    Calls Try.prog 41 #[tmv T ad cap] w (MadeTerm w.heap.size w T) := (term_CopyF T ad cap w hM hin).mono fun _ _ h => h.made
end Go.Proofs.Ytpmohibhdnmjlaa
