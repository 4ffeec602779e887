import Derived.Test.YtinefdlkajnomaaGreatDoorTermMk
import Derived.Test.YtinefdlkajnomaaGreatDoorTermOpen
import Derived.Test.YtinefdlkajnomaaGreatDoorIterAll
import Derived.Laws.Cover3
namespace Go.Proofs.YtinefdlkajnomaaGreatDoor
open Go.RowKit
theorem run_eql_nil (w : World) (a : Option Addr) (l c : Nat) : (binOp .eql 24 (.slice a l c) (.slice none 0 0)).run Tryz.prog w = .ok (.bool a.isNone) w := by
 simp [binOp, run_equal_slice_nil w _ _ a l c Tryz.underlying24]
attribute [local go_sem] run_eql_nil
def Cloned (w : World) (n : Nat) (xs : List Value) (e : Ending) (w' : World) : Prop :=
 ∃ ad cap, e = .returned (.slice ad n cap) /\ n <= cap /\ cap <= maxLen /\ Below w.heap.size w w' /\ (0 < n -> ∃ g, ad = some ⟨g, 0, none⟩ /\ w.heap.size <= g /\ w'.ownsRow w.heap.size 26 4 (.slice (some ⟨g, 0, none⟩) n cap) n xs)
set_option maxRecDepth 100000 in
set_option maxHeartbeats 1000000 in
theorem clone_nil (w : World) (cap : Nat) : Calls Tryz.prog 59 #[.slice none 0 cap] w (Cloned w 0 []) := by
 go_enter Tryz.func59, Tryz.ntmps59;go_wp2_with fail;go_ret;exact ⟨none, 0, rfl, Nat.le_refl _, Nat.zero_le _, Below.refl _ _, fun h => by cases h⟩
set_option maxRecDepth 100000 in
set_option maxHeartbeats 1000000 in
theorem clone_some (w : World) (b o n cap : Nat) (xs : List Value) (hl : xs.length = n * 4) (hc : ∀ j u, xs[j]? = some u -> w.cell? ⟨b, o + j, none⟩ = some u) (h1 : ∀ u ∈ xs, u.oneCell' = true) (hn : 0 < n) (hm : n <= 1000000) :
 Calls Tryz.prog 59 #[.slice (some ⟨b, o, none⟩) n cap] w (Cloned w n xs) := by
 obtain ⟨i0, hi, hz0, hz1, hz2⟩ := info_parts infoTerm;have HC : Hid (∀ o1 : Obj, ∀ j u, xs[j]? = some u -> (w.alloc o1).cell? ((⟨b, o, none⟩ : Addr).add j) = some u) := Lib.hid (fun o1 j u hu => by
  have h := hc j u hu;rw [add_plain];exact (((Below.refl w.heap.size w).alloc (Nat.le_refl _) o1).cell (p := ⟨b, o + j, none⟩) (World.block_lt_of_cell? w ⟨b, o + j, none⟩ h)).trans h)
 have H1 := Lib.hid h1;have hrow := World.ownsRow_lit (base := w.heap.size) (e := 26) (size := 4) w #[] 0 (Nat.le_refl _) (Nat.zero_le _) rfl;have HB := Lib.hid ((Below.refl w.heap.size w).alloc (Nat.le_refl _) (.cells #[] 26));have HR := Lib.hid hrow;have HL := Lib.hid hl;clear hc h1 hrow hl;go_enter Tryz.func59, Tryz.ntmps59;go_wp2_with (at_builtin; refine wpList_append_lies _ rfl _ _ 24 rfl w.heap.size 26 i0 (.agg #[.int .i64 0, .string ⟨#[]⟩, .int .i64 0, .slice none 0 0]) 4 56 Tryz.underlying24 hi hz0 hz1 hz2 rfl (by decide) _ 0 [] rfl HR.out ⟨b, o, none⟩ n cap xs rfl HL.out (HC.out _) H1.out hn (by unfold maxLen; omega) (by omega) (by simp) (w.heap.size + 1) (by simp) ?_);intro g cap' w' hown hgrow hat hlt;have hb : Below w.heap.size w w' := HB.out.grown hgrow (by simp) (fun k hk => by cases hk; exact Nat.le_refl _);have HO := Lib.hid hown;have HBB := Lib.hid hb;clear hown hgrow hb;go_wp2_with fail;go_ret;obtain ⟨h1, h2, h3, h4⟩ := ownsRow_facts HO.out;exact ⟨_, _, rfl, h3, h4, HBB.out, fun _ => ⟨g, rfl, h1, HO.out⟩⟩
set_option maxRecDepth 100000 in
set_option maxHeartbeats 1000000 in
theorem clone_zero (w : World) (a : Addr) (cap : Nat) : Calls Tryz.prog 59 #[.slice (some a) 0 cap] w (Cloned w 0 []) := by
 have HB := Lib.hid ((Below.refl w.heap.size w).alloc (Nat.le_refl _) (.cells #[] 26));go_enter Tryz.func59, Tryz.ntmps59;go_wp2_with fail;go_ret;exact ⟨_, _, rfl, Nat.le_refl _, Nat.zero_le _, HB.out, fun h => by cases h⟩
end Go.Proofs.YtinefdlkajnomaaGreatDoor
namespace Go.Proofs.YtinefdlkajnomaaGreatDoor
open Go.RowKit
structure PE where
 g : Nat
 cap : Nat
 ts : List Tm
def PE.v (e : PE) : Value := .slice (some ⟨e.g, 0, none⟩) e.ts.length e.cap
def shn (c : Int) (k n : Int) : Int := if k = 1 then add64 n c else n
theorem shn_in {c k n : Int} (h : In64 n) : In64 (shn c k n) := by
 unfold shn;split
 · exact wrap64_in _
 · exact h
inductive Shf (c : Int) (W : World) (D : Nat -> Prop) (R : List PE) : Option Addr -> List Tm -> Prop where
 | nil (ad : Option Addr) : Shf c W D R ad []
 | wait (e : PE) : e ∈ R -> Shf c W D R (some ⟨e.g, 0, none⟩) e.ts
 | cons (g o : Nat) (k n : Int) (nm : ByteArray) (l ts : List Tm) (ad : Option Addr) (cap : Nat) : D g ->
  W.cell? ⟨g, o, none⟩ = some (.int .i64 k) -> W.cell? ⟨g, o + 1, none⟩ = some (.string nm) -> W.cell? ⟨g, o + 2, none⟩ = some (.int .i64 (shn c k n)) -> W.cell? ⟨g, o + 3, none⟩ = some (.slice ad l.length cap) ->
  In64 k -> In64 n -> nm.size <= maxLen -> l.length <= cap -> cap <= maxLen ->
  Shf c W D R ad l -> Shf c W D R (some ⟨g, o + 4, none⟩) ts -> Shf c W D R (some ⟨g, o, none⟩) (.mk k nm n l :: ts)
theorem Shf.mono {c : Int} {W W' : World} {D D' : Nat -> Prop} {R R' : List PE} {ad : Option Addr} {ts : List Tm} (h : Shf c W D R ad ts) (hk : ∀ b, D b -> b < W.heap.size -> W'.heap[b]? = W.heap[b]?) (hD : ∀ b, D b -> D' b) (hR : ∀ e ∈ R, Shf c W' D' R' (some ⟨e.g, 0, none⟩) e.ts) : Shf c W' D' R' ad ts := by
 have keep : ∀ (b o : Nat) (v : Value), D b -> W.cell? ⟨b, o, none⟩ = some v -> W'.cell? ⟨b, o, none⟩ = some v := fun b o v hp hc =>
  (World.cell?_of_block (w := W) (w' := W') (a := ⟨b, o, none⟩) (hk b hp (World.block_lt_of_cell? W ⟨b, o, none⟩ hc))).trans hc
 induction h with
 | nil ad => exact .nil ad
 | wait e he => exact hR e he
 | cons g o k n nm l ts ad cap hg c0 c1 c2 c3 h1 h2 h3 h4 h5 _ _ ih1 ih2 => exact .cons g o k n nm l ts ad cap (hD g hg) (keep _ _ _ hg c0) (keep _ _ _ hg c1) (keep _ _ _ hg c2) (keep _ _ _ hg c3) h1 h2 h3 h4 h5 ih1 ih2
theorem Shf.done {c : Int} {W : World} {D P : Nat -> Prop} {ad : Option Addr} {ts : List Tm} (h : Shf c W D [] ad ts) (hP : ∀ b, D b -> P b) : TArgsP W P ad (ts.map (Tm.shift c)) := by
 induction h with
 | nil ad => exact .nil ad
 | wait e he => cases he
 | cons g o k n nm l ts ad cap hg c0 c1 c2 c3 h1 h2 h3 h4 h5 _ _ ih1 ih2 =>
  rw [List.map_cons, Tm.shift_eq];exact .cons g o k _ nm _ _ ad cap (hP g hg) c0 c1 c2 (by rw [List.length_map]; exact c3) h1 (shn_in h2) h3 (by rw [List.length_map]; exact h4) h5 ih1 ih2
def WRow (B : Nat) (W : World) (e : PE) : Prop := ∃ xs, W.ownsRow B 26 4 e.v e.ts.length xs /\ TRow W (fun b => b < B) xs e.ts
theorem WRow.lt {B : Nat} {W : World} {e : PE} (h : WRow B W e) : B <= e.g /\ e.g < W.heap.size := by obtain ⟨xs, h1, _⟩ := h; exact h1.lt e.g rfl
theorem WRow.kept {B : Nat} {W W' : World} {e : PE} (h : WRow B W e) (hg : W'.heap[e.g]? = W.heap[e.g]?) (hk : ∀ b, b < B -> b < W.heap.size -> W'.heap[b]? = W.heap[b]?) : WRow B W' e := by
 obtain ⟨xs, h1, h2⟩ := h;exact ⟨xs, ownsRow_block h1 hg, h2.kept hk fun _ h _ => h⟩
def scells (c : Int) (t : Tm) (ad : Option Addr) (cap : Nat) : List Value := [.int .i64 t.kind, .string t.name, .int .i64 (shn c t.kind t.n), .slice ad t.args.length cap]
structure TmBs (t : Tm) (cap : Nat) : Prop where
 kind : In64 t.kind
 n : In64 t.n
 name : t.name.size <= maxLen
 len : t.args.length <= cap
 cap : cap <= maxLen
inductive SRow (c : Int) (W : World) (D : Nat -> Prop) (R : List PE) : List Value -> List Tm -> Prop where
 | nil : SRow c W D R [] []
 | snoc (t : Tm) (ad : Option Addr) (cap : Nat) (xs : List Value) (ts : List Tm) : TmBs t cap -> Shf c W D R ad t.args -> SRow c W D R xs ts -> SRow c W D R (xs ++ scells c t ad cap) (ts ++ [t])
theorem SRow.mono {c : Int} {W W' : World} {D D' : Nat -> Prop} {R R' : List PE} {xs : List Value} {ts : List Tm} (h : SRow c W D R xs ts) (hk : ∀ b, D b -> b < W.heap.size -> W'.heap[b]? = W.heap[b]?) (hD : ∀ b, D b -> D' b) (hR : ∀ e ∈ R, Shf c W' D' R' (some ⟨e.g, 0, none⟩) e.ts) : SRow c W' D' R' xs ts := by
 induction h with
 | nil => exact .nil
 | snoc t ad cap xs ts hb hs _ ih => exact .snoc t ad cap xs ts hb (hs.mono hk hD hR) ih
theorem SRow.length {c : Int} {W : World} {D : Nat -> Prop} {R : List PE} {xs : List Value} {ts : List Tm} (h : SRow c W D R xs ts) : xs.length = ts.length * 4 := by
 induction h with
 | nil => rfl
 | snoc t ad cap xs ts _ _ _ ih => rw [List.length_append, List.length_append, ih]; show _ + 4 = (_ + 1) * 4; omega
theorem Shf.rows {c : Int} {W : World} {D : Nat -> Prop} {R : List PE} {xs : List Value} {ts : List Tm} (h : SRow c W D R xs ts) (g : Nat) (hg : D g) : ∀ (us : List Tm), Shf c W D R (some ⟨g, xs.length, none⟩) us -> (∀ j, j < xs.length -> W.cell? ⟨g, j, none⟩ = xs[j]?) -> Shf c W D R (some ⟨g, 0, none⟩) (ts ++ us) := by
 induction h with
 | nil => intro us hu _; exact hu
 | snoc t ad cap xs ts hb hs _ ih =>
  intro us hu hc;have hl : (xs ++ scells c t ad cap).length = xs.length + 4 := by rw [List.length_append]; rfl
  have at4 : ∀ i, i < 4 -> W.cell? ⟨g, xs.length + i, none⟩ = (scells c t ad cap)[i]? := fun i hi => by
   rw [hc (xs.length + i) (by omega), List.getElem?_append_right (by omega), Nat.add_sub_cancel_left]
  rw [List.append_assoc];refine ih _ ?_ (fun j hj => by rw [hc j (by omega), List.getElem?_append_left hj]);show Shf c W D R (some ⟨g, xs.length, none⟩) (t :: us)
  rw [t.eta];rw [hl] at hu;exact .cons g xs.length t.kind t.n t.name t.args us ad cap hg (at4 0 (by omega)) (at4 1 (by omega)) (at4 2 (by omega)) (at4 3 (by omega)) hb.kind hb.n hb.name hb.len hb.cap hs hu
theorem TArgsP.cells {w : World} {P : Nat -> Prop} {ad : Option Addr} {ts : List Tm} (h : TArgsP w P ad ts) : ∃ xs, TRow w P xs ts /\ (∀ u ∈ xs, u.oneCell' = true) /\ ∀ b o, ad = some ⟨b, o, none⟩ -> ∀ j u, xs[j]? = some u -> w.cell? ⟨b, o + j, none⟩ = some u := by
 induction h with
 | nil ad => exact ⟨[], .nil, (fun u hu => by cases hu), (fun b o _ j u hj => by simp at hj)⟩
 | cons b o k n nm l ts ad cap hp c0 c1 c2 c3 hk hn hm hl hc ha _ ih1 ih2 =>
  obtain ⟨xs, hx, h1, h2⟩ := ih2;refine ⟨tcells (.mk k nm n l) ad cap ++ xs, .cons _ ad cap xs ts ⟨hk, hn, hm, hl, hc, ha⟩ hx, ?_, ?_⟩
  · intro u hu;rcases List.mem_append.1 hu with hu | hu
    · simp only [tcells, List.mem_cons, List.not_mem_nil, or_false] at hu
      rcases hu with rfl | rfl | rfl | rfl <;> rfl
    · exact h1 u hu
  · intro b' o' e j u hj;cases e
    by_cases hj4 : j < 4
    · rw [List.getElem?_append_left (by exact hj4)] at hj;match j, hj4, hj with
      | 0, _, hj => simp [tcells, Tm.kind] at hj; subst hj; exact c0
      | 1, _, hj => simp [tcells, Tm.name] at hj; subst hj; exact c1
      | 2, _, hj => simp [tcells, Tm.n] at hj; subst hj; exact c2
      | 3, _, hj => simp [tcells, Tm.args] at hj; subst hj; exact c3
    · rw [List.getElem?_append_right (by show 4 <= j; omega)] at hj;have h3 := h2 b (o + 4) rfl (j - 4) u hj;rw [show o + 4 + (j - 4) = o + j by omega] at h3;exact h3
theorem TRow.head {w : World} {P : Nat -> Prop} {xs : List Value} {t : Tm} {ts : List Tm} (h : TRow w P xs (t :: ts)) : ∃ ad cap ys, xs = tcells t ad cap ++ ys /\ TmP w P t ad cap /\ TRow w P ys ts := by
 cases h with
 | cons _ ad cap ys _ ht hr => exact ⟨ad, cap, ys, rfl, ht, hr⟩
def psize : List PE -> Nat
 | [] => 0
 | e :: R => Tm.sizes e.ts + psize R
structure OIn (c : Int) (w2 : World) (q : Nat) (T : Tm) (D : Nat -> Prop) (R : List PE) (s scap : Nat) (W : World) : Prop where
 below : Below w2.heap.size w2 W
 stack : W.ownsRow w2.heap.size 24 1 (.slice (some ⟨s, 0, none⟩) R.length scap) R.length (R.map PE.v).reverse
 rows : ∀ e ∈ R, WRow w2.heap.size W e /\ 0 < e.ts.length /\ ¬ D e.g /\ e.g ≠ s
 nodup : (R.map PE.g).Nodup
 sfree : ¬ D s
 dlow : ∀ b, D b -> w2.heap.size <= b /\ b < W.heap.size
 root : Shf c W D R (some ⟨q, 0, none⟩) [T]
 size : psize R <= T.size
 free : ∀ b, D b -> ∀ o, W.frozen? ⟨b, o, none⟩ = false
structure IIn (c : Int) (w2 : World) (T : Tm) (D : Nat -> Prop) (R0 : List PE) (W1 : World) (e : PE) (i : Nat) (R : List PE) (s scap : Nat) (W : World) : Prop where
 below : Below w2.heap.size w2 W
 stack : W.ownsRow w2.heap.size 24 1 (.slice (some ⟨s, 0, none⟩) R.length scap) R.length (R.map PE.v).reverse
 rows : ∀ x ∈ R, WRow w2.heap.size W x /\ 0 < x.ts.length /\ ¬ D x.g /\ x.g ≠ s /\ x.g ≠ e.g
 nodup : (R.map PE.g).Nodup
 sfree : ¬ D s /\ s ≠ e.g
 dkeep : ∀ b, D b -> W.heap[b]? = W1.heap[b]?
 sub : ∀ x ∈ R0, x ∈ R
 row : ∃ ys zs, W.ownsRow w2.heap.size 26 4 e.v e.ts.length (ys ++ zs) /\ SRow c W D R ys (e.ts.take i) /\ TRow W (fun b => b < w2.heap.size) zs (e.ts.drop i)
 size : psize R + Tm.sizes (e.ts.drop i) + i <= psize R0 + Tm.sizes e.ts
 low : W1.heap.size <= W.heap.size
theorem OIn.pop {c : Int} {w2 : World} {q : Nat} {T : Tm} {D : Nat -> Prop} {e : PE} {R : List PE} {s scap : Nat} {W : World} (h : OIn c w2 q T D (e :: R) s scap W) : IIn c w2 T D R W e 0 R s scap W := by
 have hn := h.nodup;rw [List.map_cons, List.nodup_cons] at hn;refine ⟨h.below, ?_, fun x hx => ⟨(h.rows x (.tail _ hx)).1, (h.rows x (.tail _ hx)).2.1, (h.rows x (.tail _ hx)).2.2.1, (h.rows x (.tail _ hx)).2.2.2, fun e' => hn.1 (by rw [<- e']; exact List.mem_map_of_mem hx)⟩, hn.2, ⟨h.sfree, fun e' => (h.rows e (.head _)).2.2.2 e'.symm⟩, fun _ _ => rfl, fun x hx => hx, ?_, Nat.le_refl _, Nat.le_refl _⟩
 · have := h.stack;rw [List.map_cons, List.reverse_cons] at this;exact ownsRow_pop this
 · obtain ⟨xs, h1, h2⟩ := (h.rows e (.head _)).1;exact ⟨[], xs, h1, .nil, h2⟩
theorem IIn.next {c : Int} {w2 : World} {T : Tm} {D : Nat -> Prop} {R0 : List PE} {W1 : World} {e : PE} {i : Nat} {R : List PE} {s scap : Nat} {W Wd : World} (h : IIn c w2 T D R0 W1 e i R s scap W) (hD : ¬ D e.g) (hDl : ∀ b, D b -> w2.heap.size <= b /\ b < W1.heap.size)
 {t : Tm} {ys zs : List Value} (hi : i < e.ts.length) (ht : e.ts[i]'hi = t) (hsr : SRow c W D R ys (e.ts.take i)) (htr : TRow W (fun b => b < w2.heap.size) zs (e.ts.drop (i + 1)))
 (hT : Turn (fun j => j = e.g \/ j = s) W Wd) {ad : Option Addr} {cap : Nat} (hrow : Wd.ownsRow w2.heap.size 26 4 e.v e.ts.length ((ys ++ scells c t ad cap) ++ zs)) (hb : TmBs t cap)
 {R' : List PE} {s' scap' : Nat} (hst : Wd.ownsRow w2.heap.size 24 1 (.slice (some ⟨s', 0, none⟩) R'.length scap') R'.length (R'.map PE.v).reverse) (hs' : s' = s \/ W.heap.size <= s')
 (hR : (t.args = [] /\ R' = R) \/ ∃ g1, 0 < t.args.length /\ ad = some ⟨g1, 0, none⟩ /\ R' = ⟨g1, cap, t.args⟩ :: R /\ W.heap.size <= g1 /\ g1 ≠ s' /\ WRow w2.heap.size Wd ⟨g1, cap, t.args⟩) : IIn c w2 T D R0 W1 e (i + 1) R' s' scap' Wd := by
 have hbs := h.below.size;have hge : w2.heap.size <= e.g /\ e.g < W.heap.size := by obtain ⟨ys, zs, h1, _⟩ := h.row; exact h1.lt e.g rfl
 have hgs : w2.heap.size <= s /\ s < W.heap.size := h.stack.lt s rfl;have hlow : ∀ b, b < w2.heap.size -> b < W.heap.size -> Wd.heap[b]? = W.heap[b]? := fun b hb' hlt => hT.block b hlt (fun hm => by rcases hm with rfl | rfl <;> omega);have hDk : ∀ b, D b -> b < W.heap.size -> Wd.heap[b]? = W.heap[b]? := fun b hb' hlt => hT.block b hlt (fun hm => by rcases hm with rfl | rfl; exact hD hb'; exact h.sfree.1 hb');have hsub : ∀ x ∈ R, x ∈ R' := fun x hx => by
  rcases hR with ⟨_, rfl⟩ | ⟨g1, _, _, rfl, _⟩
  · exact hx
  · exact .tail _ hx
 have hold : ∀ x ∈ R, WRow w2.heap.size Wd x := fun x hx => by
  have h1 := h.rows x hx;exact h1.1.kept (hT.block x.g h1.1.lt.2 (fun hm => by rcases hm with e1 | e1; exact h1.2.2.2.2 e1; exact h1.2.2.2.1 e1)) hlow
 have hs2 : ∀ b, b < W.heap.size -> b ≠ s -> b ≠ s' := fun b hb1 hb2 e1 => by rcases hs' with e2 | e2 <;> omega
 have hrest : ∀ x ∈ R, WRow w2.heap.size Wd x /\ 0 < x.ts.length /\ ¬ D x.g /\ x.g ≠ s' /\ x.g ≠ e.g := fun x hx => by
  have h1 := h.rows x hx;exact ⟨hold x hx, h1.2.1, h1.2.2.1, hs2 _ h1.1.lt.2 h1.2.2.2.1, h1.2.2.2.2⟩
 have hnD : ∀ b, W.heap.size <= b -> ¬ D b := fun b hb1 hb2 => by have := (hDl b hb2).2; have := h.low; omega
 have hdrop : e.ts.drop i = t :: e.ts.drop (i + 1) := by rw [<- ht]; exact List.drop_eq_getElem_cons hi
 have hsz : Tm.sizes (e.ts.drop i) = 1 + Tm.sizes t.args + Tm.sizes (e.ts.drop (i + 1)) := by rw [hdrop, Tm.sizes_cons, t.size_eq]
 have hwait : ∀ x ∈ R, Shf c Wd D R' (some ⟨x.g, 0, none⟩) x.ts := fun x hx => .wait x (hsub x hx);refine ⟨h.below.trans ⟨hT.os, hT.tape, hT.output, hT.size, fun b hb1 => hlow b hb1 (by omega)⟩, hst, ?_, ?_, ?_, fun b hb1 => (hDk b hb1 (by have := (hDl b hb1).2; have := h.low; omega)).trans (h.dkeep b hb1), fun x hx => hsub x (h.sub x hx), ?_, ?_, Nat.le_trans h.low hT.size⟩
 · rcases hR with ⟨_, rfl⟩ | ⟨g1, hp, rfl, rfl, hg1, hne, hw⟩
   · exact hrest
   · intro x hx;rcases List.mem_cons.1 hx with rfl | hx
     · exact ⟨hw, hp, hnD _ hg1, hne, by show g1 ≠ e.g; omega⟩
     · exact hrest x hx
 · rcases hR with ⟨_, rfl⟩ | ⟨g1, hp, rfl, rfl, hg1, hne, hw⟩
   · exact h.nodup
   · rw [List.map_cons, List.nodup_cons];refine ⟨fun hm => ?_, h.nodup⟩;obtain ⟨x, hx, e1⟩ := List.mem_map.1 hm;have := (h.rows x hx).1.lt.2;have e2 : x.g = g1 := e1;omega
 · rcases hs' with rfl | e1
   · exact h.sfree
   · exact ⟨hnD _ e1, by omega⟩
 · refine ⟨ys ++ scells c t ad cap, zs, hrow, ?_, htr.kept hlow fun _ h _ => h⟩;rw [List.take_succ_eq_append_getElem hi, ht];refine .snoc t ad cap ys _ hb ?_ (hsr.mono hDk (fun _ h => h) hwait);rcases hR with ⟨h0, rfl⟩ | ⟨g1, hp, rfl, rfl, _⟩
   · rw [h0]; exact .nil _
   · exact .wait ⟨g1, cap, t.args⟩ (.head _)
 · have h1 := h.size;rw [hsz] at h1;rcases hR with ⟨h0, rfl⟩ | ⟨g1, hp, rfl, rfl, _⟩
   · omega
   · show Tm.sizes t.args + psize R + _ + _ <= _
     omega
end Go.Proofs.YtinefdlkajnomaaGreatDoor
namespace Go.Proofs.YtinefdlkajnomaaGreatDoor
open Go.RowKit
theorem clone_any {w : World} {P : Nat -> Prop} {ad : Option Addr} {ts : List Tm} (h : TArgsP w P ad ts) (hl : ts.length <= 1000000) (cap : Nat) :
 ∃ xs, TRow w P xs ts /\ xs.length = ts.length * 4 /\ ∀ W, (∀ b, P b -> b < w.heap.size -> W.heap[b]? = w.heap[b]?) -> Calls Tryz.prog 59 #[.slice ad ts.length cap] W (Cloned W ts.length xs) := by
 obtain ⟨xs, hx, h1, h2⟩ := h.cells;refine ⟨xs, hx, hx.length, fun W hk => ?_⟩;cases h with
 | nil ad =>
  have hx0 : xs = [] := by cases hx; rfl
  subst hx0;cases ad with
  | none => exact clone_nil W cap
  | some a => exact clone_zero W a cap
 | cons b o k n nm l ts ad' cap' hp c0 c1 c2 c3 hk1 hn hm hl1 hc ha hr =>
  refine clone_some W b o _ cap xs hx.length (fun j u hj => ?_) h1 (by simp) hl;exact (World.cell?_of_block (w := w) (w' := W) (a := ⟨b, o + j, none⟩) (hk b hp (World.block_lt_of_cell? w ⟨b, o, none⟩ c0))).trans (h2 b o rfl j u hj)
def MadeFree (B : Nat) (w : World) (t : Tm) (e : Ending) (w' : World) : Prop := ∃ ad cap, e = .returned (tmv t ad cap) /\ TmP w' (fun b => B <= b /\ ∀ o, w'.frozen? ⟨b, o, none⟩ = false) t ad cap /\ Below B w w'
def SInv (c : Int) (w2 : World) (q : Nat) (T : Tm) (m : Nat) (p : Value) (W : World) : Prop :=
 ∃ D R s scap, p = .slice (some ⟨s, 0, none⟩) R.length scap /\ OIn c w2 q T D R s scap W /\ m = psize R
theorem OIn.start {c : Int} {w2 : World} {T : Tm} {ad : Option Addr} {cap : Nat} (hp : TmP w2 (fun b => b < w2.heap.size) T ad cap) :
 OIn c w2 w2.heap.size T (fun _ => False) [⟨w2.heap.size, 1, [T]⟩] (w2.heap.size + 1) 1 ((w2.alloc (.cells #[.int .i64 T.kind, .string T.name, .int .i64 T.n, .slice ad T.args.length cap] 26)).alloc (.cells #[.slice (some ⟨w2.heap.size, 0, none⟩) 1 1] 24)) := by
 have hrow := World.ownsRow_lit (base := w2.heap.size) (e := 26) (size := 4) w2 #[.int .i64 T.kind, .string T.name, .int .i64 T.n, .slice ad T.args.length cap] 1 (Nat.le_refl _) (by decide) rfl;have htr : TRow w2 (fun b => b < w2.heap.size) (tcells T ad cap ++ []) [T] := .cons T ad cap [] [] hp .nil;refine ⟨((Below.refl _ w2).alloc (Nat.le_refl _) _).alloc (by simp) _, ?_, ?_, by simp, fun h => h, fun _ h => h.elim, ?_, ?_, ?_⟩
 · have h1 := World.ownsRow_lit (base := w2.heap.size) (e := 24) (size := 1) (w2.alloc (.cells #[.int .i64 T.kind, .string T.name, .int .i64 T.n, .slice ad T.args.length cap] 26)) #[.slice (some ⟨w2.heap.size, 0, none⟩) 1 1] 1 (by simp) (by decide) rfl;rw [World.size_alloc] at h1;exact h1
 · intro e he;obtain rfl := List.mem_singleton.1 he;refine ⟨⟨tcells T ad cap ++ [], ?_, htr.kept (fun b _ hlt => (Below.heap_alloc _ _ _ (by simp; omega)).trans (Below.heap_alloc _ _ _ hlt)) fun _ h _ => h⟩, by show 0 < 1; omega, fun h => h, by show w2.heap.size ≠ w2.heap.size + 1; omega⟩;exact World.ownsRow.alloc hrow _
 · exact .wait ⟨w2.heap.size, 1, [T]⟩ (.head _)
 · show Tm.sizes [T] + 0 <= _
   have : Tm.sizes [T] = T.size := by show T.size + 0 = _; omega
   omega
 · exact fun _ h => h.elim
theorem row_cells {W : World} {B g n cap i : Nat} {ys zs : List Value} {v0 v1 v2 v3 : Value} (h : W.ownsRow B 26 4 (.slice (some ⟨g, 0, none⟩) n cap) n (ys ++ ([v0, v1, v2, v3] ++ zs))) (hy : ys.length = i * 4) :
 W.cell? ⟨g, i * 4, none⟩ = some v0 /\ W.cell? ⟨g, i * 4 + 1, none⟩ = some v1 /\ W.cell? ⟨g, i * 4 + 2, none⟩ = some v2 /\ W.cell? ⟨g, i * 4 + 3, none⟩ = some v3 := by
 have hl := h.1;rw [List.length_append, List.length_append, hy] at hl;have hl4 : ([v0, v1, v2, v3] : List Value).length = 4 := rfl;have at4 : ∀ j, j < 4 -> W.cell? ⟨g, i * 4 + j, none⟩ = ([v0, v1, v2, v3] : List Value)[j]? := fun j hj => by
  rw [h.cellAt (i * 4 + j) (by omega), List.getElem?_append_right (by omega), hy, Nat.add_sub_cancel_left, List.getElem?_append_left (by omega)]
 exact ⟨at4 0 (by omega), at4 1 (by omega), at4 2 (by omega), at4 3 (by omega)⟩
theorem ownsRow_low {w : World} {base base' : Nat} {e : TypeId} {size : Nat} {v : Value} {n : Nat} {xs : List Value} (h : w.ownsRow base e size v n xs) (hb : base' <= base) : w.ownsRow base' e size v n xs := by
 obtain ⟨hl, h2⟩ := h;refine ⟨hl, ?_⟩;rcases h2 with h0 | ⟨g, cap, cur, hv, hbg, r⟩
 · exact .inl h0
 · exact .inr ⟨g, cap, cur, hv, by omega, r⟩
def SCl (B g i cp : Nat) (ts : List Tm) (t : Tm) (c : Int) (ys zs : List Value) (xs : List Value) (wr : World) (e : Ending) (Wb : World) : Prop :=
 ∃ ad cap, e = .returned (.slice ad t.args.length cap) /\ t.args.length <= cap /\ cap <= maxLen /\ Wb.frozen? ⟨g, i * 4 + 3, none⟩ = false /\ (∃ v, Wb.cell? ⟨g, i * 4 + 3, none⟩ = some v) /\
  Hid (∀ Wc, Wc = Wb.setCell ⟨g, i * 4 + 3, none⟩ (.slice ad t.args.length cap) -> Turn (fun j => j = g) wr Wc /\ Wc.heap.size = Wb.heap.size /\ wr.heap.size <= Wb.heap.size /\ Wc.cell? ⟨g, i * 4 + 3, none⟩ = some (.slice ad t.args.length cap) /\
   Wc.ownsRow B 26 4 (.slice (some ⟨g, 0, none⟩) ts.length cp) ts.length ((ys ++ scells c t ad cap) ++ zs) /\
   (0 < t.args.length -> ∃ g1, ad = some ⟨g1, 0, none⟩ /\ wr.heap.size <= g1 /\ g1 < Wc.heap.size /\ Wc.ownsRow B 26 4 (.slice (some ⟨g1, 0, none⟩) t.args.length cap) t.args.length xs))
end Go.Proofs.YtinefdlkajnomaaGreatDoor
