/-
  Joined texts: TermLay, TermDevT.
-/
import Derived.Test.YthfdiclmbbngcaaDoorNumTextB
import Derived.Test.YthfdiclmbbngcaaDoorTermText
import Derived.Test.YthfdiclmbbngcaaDoorTermRow
import Derived.Deep.RegionHeld3
import Derived.Test.YthfdiclmbbngcaaDoorTermDevAB

/-
  The contract of package term's own layText.
-/
namespace Go.Proofs.YthfdiclmbbngcaaDoor
open Go.RowKit

/-- What layText answers: the bytes l in a row of the call's own, grown from v's. -/
def LaidOut (B : Nat) (w : World) (v : Value) (l : List UInt8) (e : Ending) (w' : World) : Prop := ∃ v', e = .returned v' ∧ OwnBytes B w' v' l ∧ Grew w w' v v'
theorem Grew.on {a b c : World} {u v : Value} (h : Grew a b u v) (hb : Below b.heap.size b c) : Grew a c u v := h.trans (Grew.below hb v)
theorem OwnBytes.far {B : Nat} {w : World} {v : Value} {l : List UInt8} (h : OwnBytes B w v l) : ∀ k, v.ownBlock = some k → B ≤ k ∧ k < w.heap.size := World.ownsRow.lt h
theorem OwnBytes.ne {B : Nat} {w : World} {v : Value} {l : List UInt8} (h : OwnBytes B w v l) {k : Nat} (hk : w.heap.size ≤ k ∨ k < B) : some k ≠ v.ownBlock := fun e => by
  have := h.far k e.symm; omega
theorem Grew.ne {a b : World} {u v : Value} (h : Grew a b u v) {k : Nat} (hk : k < a.heap.size) (hn : some k ≠ u.ownBlock) : some k ≠ v.ownBlock := by
  rcases h.lies with e | ⟨g, e, hg⟩
  · rw [e]; exact hn
  · rw [e]; intro e2; have := Option.some.inj e2; omega
theorem byte95 : (Value.int .u8 (95 : UInt8).toNat) = .int .u8 95 := rfl

set_option maxRecDepth 100000 in
set_option maxHeartbeats 4000000 in
theorem lay_int (n : Int) (s : ByteArray) (len : Nat) (ad : Option Addr) (cap : Nat) (w : World) (B : Nat) (v : Value) (l : List UInt8) (hn : In64 n) (hB : B ≤ w.heap.size) (hT : ∀ W, Below B w W → AllT W) (hown : OwnBytes B w v l) (hl : l.length ≤ 10000000000) :
    Calls Tryd.prog 55 #[v, .agg #[.int .i64 3, .string s, .int .i64 n, .slice ad len cap]] w (LaidOut B w v (l ++ Lib.itoa n)) := by
  have hi := Lib.itoa_length_le n hn.1 hn.2
  have HT := Lib.hid hT
  have HO := Lib.hid hown
  have HX := Lib.hid (fun W h => num_Text n W hn h)
  have hb0 := fun o : Obj => (Below.refl w.heap.size w).alloc (Nat.le_refl _) o
  have HB0 := Lib.hid hb0
  clear hT hown hn hb0
  generalize Lib.itoa n = x at *
  go_enter Tryd.func55, Tryd.ntmps55
  go_wp2_with fail
  refine (HX.out _ (HT.out _ ((HB0.out _).mono hB)).p).mono ?_; rintro e w1 ⟨rfl, hb1⟩
  have hw1 := (HB0.out _).trans (hb1.mono (by simp))
  have ho1 := HO.out.below hw1
  have HW1 := Lib.hid hw1
  have hs1 := hw1.size
  have hB1 : B ≤ w1.heap.size := by omega
  clear hw1 hb1
  go_wp2_with (at_builtin; refine list_app_str rfl _ _ rfl rfl ho1 rfl (by omega) hB1 ?_)
  intro v' w2 ho2 hg2
  have HO2 := Lib.hid ho2
  have HG2 := Lib.hid hg2
  clear ho2 hg2 ho1
  go_wp2_with fail
  go_ret
  exact ⟨_, rfl, HO2.out, (Grew.below HW1.out v).trans HG2.out⟩

set_option maxRecDepth 100000 in
set_option maxHeartbeats 4000000 in
theorem lay_var (n : Int) (s : ByteArray) (len : Nat) (ad : Option Addr) (cap : Nat) (w : World) (B : Nat) (v : Value) (l : List UInt8) (hn : In64 n) (hB : B ≤ w.heap.size) (hT : ∀ W, Below B w W → AllT W) (hown : OwnBytes B w v l) (hl : l.length ≤ 10000000000) :
    Calls Tryd.prog 55 #[v, .agg #[.int .i64 1, .string s, .int .i64 n, .slice ad len cap]] w (LaidOut B w v (l ++ (95 :: Lib.itoa n))) := by
  have hi := Lib.itoa_length_le n hn.1 hn.2
  have HT := Lib.hid hT
  have HX := Lib.hid (fun W h => num_Text n W hn h)
  clear hT hn
  generalize Lib.itoa n = x at *
  have HNE := Lib.hid (fun k (h : w.heap.size ≤ k) => hown.ne (.inl h))
  have HFAR := Lib.hid hown.far
  have HO := Lib.hid hown
  clear hown
  go_enter Tryd.func55, Tryd.ntmps55
  go_wp2_with fail
  generalize hw0 : w.alloc _ = w0
  have hb0 : Below w.heap.size w w0 := by rw [← hw0]; exact (Below.refl _ w).alloc (Nat.le_refl _) _
  have hs0 : w0.heap.size = w.heap.size + 1 := by rw [← hw0]; simp
  have hc0 : w0.cell? ⟨w.heap.size, 2, none⟩ = some (.int .i64 n) := by rw [← hw0]; exact World.cell?_alloc_at _ _ _ _ rfl
  have bA : ∀ o, Below w.heap.size w (w0.alloc o).drew := fun o => (hb0.alloc hb0.size _).drew
  have oA : ∀ o, OwnBytes B (w0.alloc o).drew v l := fun o => HO.out.below (bA o)
  have hcD : w0.drew.cell? ⟨w.heap.size, 2, none⟩ = some (.int .i64 n) := hc0
  have HA := Lib.hid (fun o v' W (g : Grew (w0.alloc o).drew W v v') => And.intro ((Grew.below (bA o) v).trans g) (And.intro (g.ne (show w.heap.size < (w0.alloc o).heap.size by rw [World.size_alloc]; omega) (HNE.out _ (Nat.le_refl _))) (And.intro (Grew.all ((bA o).mono hB) g hB fun k hk => (HFAR.out k hk).1)
    ((World.cell?_of_block (a := ⟨w.heap.size, 2, none⟩) ((g.keep (by show w.heap.size < (w0.alloc o).heap.size; rw [World.size_alloc]; omega) (HNE.out _ (Nat.le_refl _))).trans (Below.heap_alloc w0 _ _ (by show w.heap.size < w0.heap.size; omega)))).trans hc0))))
  have HC := Lib.hid (fun (t : TypeId) (v : Value) => show (w0.alloc (.cells #[v] t)).drew.cell? ⟨w0.heap.size, 0, none⟩ = some v from (World.cell?_alloc_at _ _ _ _ rfl : (w0.alloc (.cells #[v] t)).cell? ⟨w0.heap.size, 0, none⟩ = _))
  have HOA := Lib.hid oA
  have hlt0 : w.heap.size < w0.heap.size := by omega
  clear hw0 bA hb0 oA hs0
  go_region_held3 (fun W => W.cell? ⟨w.heap.size, 2, none⟩ = some (.int .i64 n))
    (first | exact c3 | exact c2 | exact c1 | exact hcD | go_keep)
    (first
      | (refine step_app_byte (B := B) (v := v) (l := l) (g := w0.heap.size) (b := 95) (by rfl) (.tmp 12) (.tmp 13) (by rfl) (by rfl) (HOA.out _) (by rfl) (HC.out _ _) (by omega) (by show B ≤ (w0.alloc _).heap.size; rw [World.size_alloc]; omega) ?_; intro v1 w1 o1 g1; obtain ⟨G1, n1, b1, c1⟩ := HA.out _ _ _ g1)
      | (go_at_call 65; (with_reducible refine (HX.out _ (HT.out _ b1).p).mono ?_); rintro e w2 ⟨rfl, d2⟩; have o2 := o1.below d2; have G2 := G1.on d2; have b2 := b1.trans (d2.mono (Nat.le_trans hB b1.size)); have c2 : w2.cell? ⟨w.heap.size, 2, none⟩ = some (.int .i64 n) := (d2.cell (p := ⟨w.heap.size, 2, none⟩) (World.block_lt_of_cell? w1 ⟨w.heap.size, 2, none⟩ c1)).trans c1)
      | (refine step_app_str (B := B) (v := v1) (l := l ++ [95]) (s := x) (by rfl) (.tmp 14) (.tmp 17) (by rfl) (by rfl) o2 (by rfl) (by rw [List.length_append, List.length_singleton]; omega) (Nat.le_trans hB b2.size) ?_; intro v3 w3 o3 g3; have G3 := G2.trans g3; have c3 : w3.cell? ⟨w.heap.size, 2, none⟩ = some (.int .i64 n) := (World.cell?_of_block (a := ⟨w.heap.size, 2, none⟩) (g3.keep (World.block_lt_of_cell? w2 ⟨w.heap.size, 2, none⟩ c2) n1)).trans c2))
  go_wp2_with fail
  go_ret
  refine ⟨_, rfl, ?_, G3⟩
  rw [List.append_assoc] at o3
  exact o3

set_option maxRecDepth 100000 in
set_option maxHeartbeats 4000000 in
theorem lay_atom (n : Int) (s : ByteArray) (len : Nat) (ad : Option Addr) (cap : Nat) (w : World) (B : Nat) (v : Value) (l : List UInt8) (hs : s.size ≤ maxLen) (hB : B ≤ w.heap.size) (hT : ∀ W, Below B w W → AllT W) (hown : OwnBytes B w v l) (hl : l.length ≤ 10000000000) :
    Calls Tryd.prog 55 #[v, .agg #[.int .i64 2, .string s, .int .i64 n, .slice ad len cap]] w (LaidOut B w v (l ++ writeL s.data.toList)) := by
  have hi := write_len s.data.toList
  have HT := Lib.hid hT
  have HO := Lib.hid hown
  have HNE := Lib.hid (hown.ne (k := w.heap.size) (.inl (Nat.le_refl _)))
  have HX := Lib.hid (fun W h => char_Write s W hs h)
  have hb0 := fun o : Obj => (Below.refl w.heap.size w).alloc (Nat.le_refl _) o
  have HB0 := Lib.hid hb0
  clear hT hown hb0 hs
  generalize writeL s.data.toList = x at *
  go_enter Tryd.func55, Tryd.ntmps55
  go_wp2_with fail
  refine (HX.out _ (HT.out _ ((HB0.out _).mono hB)).u).mono ?_; rintro e w1 ⟨rfl, hb1⟩
  have hw1 := (HB0.out _).trans (hb1.mono (by simp))
  have hc1 := (bcell_alloc hb1).1 0
  have ho1 := HO.out.below hw1
  have HW1 := Lib.hid hw1
  have hs1 := hb1.size
  rw [World.size_alloc] at hs1
  have hB1 : B ≤ w1.heap.size := by omega
  clear hw1 hb1
  go_wp2_with (at_builtin; refine list_app_str rfl _ _ rfl rfl ho1 rfl (by omega) hB1 ?_)
  intro v' w2 ho2 hg2
  have hc2 : w2.cell? ⟨w.heap.size, 0, none⟩ = some (.int .i64 2) := (World.cell?_of_block (a := ⟨w.heap.size, 0, none⟩) (hg2.keep (show w.heap.size < w1.heap.size by omega) HNE.out)).trans hc1
  have HO2 := Lib.hid ho2
  have HG2 := Lib.hid hg2
  clear ho2 hg2 ho1 hc1
  go_wp2_with fail
  go_ret
  exact ⟨_, rfl, HO2.out, (Grew.below HW1.out v).trans HG2.out⟩

/-- What stands behind the name when k arguments are laid. -/
def pre (l : List Tm) (k : Nat) : List UInt8 := if k = 0 then [] else 40 :: (Tm.commas (l.take k)).drop 1
def betw (k : Nat) : UInt8 := if k = 0 then 40 else 44
theorem pre_step (l : List Tm) (k : Nat) (h : k < l.length) : pre l (k + 1) = pre l k ++ (betw k :: (l[k]'h).txt) := by
  unfold pre betw
  rw [if_neg (by omega), commas_step l k h]
  by_cases h0 : k = 0
  · subst h0
    rw [if_pos rfl, if_pos rfl]
    rfl
  · rw [if_neg h0, if_neg h0]
    have hp := commas_pos l k (by omega) (by omega)
    rw [List.drop_append_of_le_length (by omega)]
    rfl
theorem pre_all (l : List Tm) (h : 0 < l.length) : pre l l.length ++ [41] = 40 :: ((Tm.commas l).drop 1 ++ [41]) := by
  unfold pre
  rw [if_neg (by omega), List.take_of_length_le (Nat.le_refl _)]
  rfl
theorem pre_len (l : List Tm) (k : Nat) (hk : k ≤ l.length) : (pre l k).length ≤ (Tm.commas (l.take k)).length := by
  unfold pre
  split
  · exact Nat.zero_le _
  · rename_i h
    cases l with
    | nil => exact absurd (Nat.le_zero.1 hk) h
    | cons t l => cases k with
      | zero => exact absurd rfl h
      | succ k =>
        show (40 :: (44 :: (t.txt ++ Tm.commas (l.take k))).drop 1).length ≤ (44 :: (t.txt ++ Tm.commas (l.take k))).length
        simp
theorem n64s_take {l : List Tm} (h : Tm.n64s l) (k : Nat) : Tm.n64s (l.take k) := by
  induction l generalizing k with
  | nil => rw [List.take_nil]; trivial
  | cons t l ih => cases k with
    | zero => trivial
    | succ k => exact ⟨h.1, ih h.2 k⟩

theorem TArgsP.get {w : World} {P : Nat → Prop} {b o : Nat} {ts : List Tm} (h : TArgsP w P (some ⟨b, o, none⟩) ts) (i : Nat) (hi : i < ts.length) :
    ∃ ad cap, w.cell? ⟨b, o + i * 4, none⟩ = some (.int .i64 (ts[i]'hi).kind) ∧ w.cell? ⟨b, o + i * 4 + 1, none⟩ = some (.string (ts[i]'hi).name) ∧ w.cell? ⟨b, o + i * 4 + 2, none⟩ = some (.int .i64 (ts[i]'hi).n) ∧
      w.cell? ⟨b, o + i * 4 + 3, none⟩ = some (.slice ad (ts[i]'hi).args.length cap) ∧ TmP w P (ts[i]'hi) ad cap := by
  induction i generalizing o ts with
  | zero =>
    rw [Nat.zero_mul, Nat.add_zero]
    cases h with
    | nil => cases hi
    | cons _ _ k n nm l ts ad cap hp c0 c1 c2 c3 hk hn hm hl hc ha _ => exact ⟨ad, cap, c0, c1, c2, c3, ⟨hk, hn, hm, hl, hc, ha⟩⟩
  | succ i ih =>
    cases h with
    | nil => cases hi
    | cons _ _ k n nm l ts ad cap hp c0 c1 c2 c3 hk hn hm hl hc ha hr =>
      have h9 := ih hr (by simpa using hi)
      rw [show o + (i + 1) * 4 = o + 4 + i * 4 by omega]
      exact h9
theorem TArgsP.addr' {w : World} {P : Nat → Prop} {ad : Option Addr} {ts : List Tm} (h : TArgsP w P ad ts) (hp : 0 < ts.length) : ∃ b o, ad = some ⟨b, o, none⟩ := by
  cases h with
  | nil => cases hp
  | cons b o => exact ⟨b, o, rfl⟩
theorem TmP.onB {w w' : World} {B : Nat} {t : Tm} {ad : Option Addr} {cap : Nat} (h : TmP w (fun b => b < B) t ad cap) (hb : Below B w w') : TmP w' (fun b => b < B) t ad cap := h.kept (fun b hp _ => hb.block b hp) (fun _ h _ => h)
theorem TArgsP.onB {w w' : World} {B : Nat} {ts : List Tm} {ad : Option Addr} (h : TArgsP w (fun b => b < B) ad ts) (hb : Below B w w') : TArgsP w' (fun b => b < B) ad ts := h.kept (fun b hp _ => hb.block b hp) (fun _ h _ => h)

theorem targs_in {w : World} {ad : Option Addr} {ts : List Tm} (h : TArgs w ad ts) : TArgsP w (fun b => b < w.heap.size) ad ts := by
  induction h with
  | nil ad => exact .nil ad
  | cons b o k n nm l ts ad cap c0 c1 c2 c3 hk hn hm hl hc _ _ ih1 ih2 => exact .cons b o k n nm l ts ad cap (World.block_lt_of_cell? w ⟨b, o, none⟩ c0) c0 c1 c2 c3 hk hn hm hl hc ih1 ih2
theorem cellx4 {W : World} {q t : Nat} {v0 v1 v2 v3 : Value} (h : W.heap[q]? = some (.cells #[v0, v1, v2, v3] t (0, 0))) : W.cell? ⟨q, 0, none⟩ = some v0 ∧ W.cell? ⟨q, 1, none⟩ = some v1 ∧ W.cell? ⟨q, 2, none⟩ = some v2 ∧ W.cell? ⟨q, 3, none⟩ = some v3 := by
  simp [World.cell?, h]

set_option maxRecDepth 100000 in
set_option maxHeartbeats 4000000 in
theorem dev_layText (m : Nat) : ∀ (T : Tm) (ad : Option Addr) (cap : Nat) (w : World) (B : Nat) (v : Value) (l : List UInt8), T.size ≤ m → T.size ≤ 1000000 → T.may = true → TmP w (fun b => b < B) T ad cap → B ≤ w.heap.size → (∀ W, Below B w W → AllT W) → OwnBytes B w v l → l.length + 1400 * T.size ≤ 2000000000 →
    Calls Tryd.prog 55 #[v, tmv T ad cap] w (LaidOut B w v (l ++ T.txt)) := by
  induction m with
  | zero => intro T ad cap w B v l h; have := T.size_pos; omega
  | succ m ih =>
    intro T ad cap w B v l hm hM hmay hin hB hT hown hl
    have hsz := T.size_pos
    rw [T.txt_eq]
    rw [T.may_eq] at hmay
    unfold tmv txtK
    by_cases h1 : T.kind = 1
    · rw [if_pos h1, h1]
      exact lay_var T.n T.name T.args.length ad cap w B v l hin.n hB hT hown (by omega)
    rw [if_neg h1]
    by_cases h3 : T.kind = 3
    · rw [if_pos h3, h3]
      exact lay_int T.n T.name T.args.length ad cap w B v l hin.n hB hT hown (by omega)
    rw [if_neg h3]
    by_cases h2 : T.kind = 2
    · rw [if_pos h2, h2]
      exact lay_atom T.n T.name T.args.length ad cap w B v l hin.name hB hT hown (by omega)
    rw [if_neg h2]
    by_cases h4 : T.kind = 4
    · unfold mayK at hmay
      rw [if_neg h1, if_neg h2, if_neg h3, if_pos h4] at hmay
      rw [h4]
      simp only [Bool.and_eq_true, decide_eq_true_eq] at hmay
      obtain ⟨_, _, hl1, hl2, hmays⟩ := hmay
      have hi := write_len T.name.data.toList
      have hsq := T.size_eq
      have HX := Lib.hid (fun W h => char_Write T.name W hin.name h)
      have hpa := Lib.hid (pre_all T.args (by omega))
      have hpl := Lib.hid (fun k hk => pre_len T.args k hk)
      have hn64 := (TArgsP.all hin.args).n64
      have hcl := fun k => txt_len' _ (T.args.take k) (Nat.le_refl _) (n64s_take hn64 k)
      generalize writeL T.name.data.toList = nm at *
      have HM := Lib.hid hmays
      have HT := Lib.hid hT
      have HO := Lib.hid hown
      have HIN := Lib.hid hin
      have IH := Lib.hid ih
      have HNE := Lib.hid (hown.ne (k := w.heap.size) (.inl (Nat.le_refl _)))
      have HFAR := Lib.hid hown.far
      have HB0 := Lib.hid (fun o : Obj => (Below.refl w.heap.size w).alloc (Nat.le_refl _) o)
      have HSQ := Lib.hid hsq
      have HCL := Lib.hid hcl
      have hcapl := hin.len
      have hcapm := hin.cap
      unfold maxLen at hcapm
      clear hT hown hin ih hmays hsq hcl h1 h2 h3 h4 hn64
      go_enter Tryd.func55, Tryd.ntmps55
      go_wp2_with fail
      refine (HX.out _ (HT.out _ ((HB0.out _).mono hB)).u).mono ?_; rintro e w1 ⟨rfl, hb1⟩
      have hw1 := (HB0.out _).trans (hb1.mono (by simp))
      have hc1 := (bcell_alloc hb1).1 0
      have hc3 := (bcell_alloc hb1).1 3
      have ho1 := HO.out.below hw1
      have HW1 := Lib.hid hw1
      have hs1 := hb1.size
      rw [World.size_alloc] at hs1
      have hB1 : B ≤ w1.heap.size := by omega
      clear hw1 hb1
      go_wp2_with (at_builtin; refine list_app_str rfl _ _ rfl rfl ho1 rfl (by omega) hB1 ?_)
      intro v2 w2 ho2 hg2
      have hc2 : w2.cell? ⟨w.heap.size, 0, none⟩ = some (.int .i64 4) := (World.cell?_of_block (a := ⟨w.heap.size, 0, none⟩) (hg2.keep (show w.heap.size < w1.heap.size by omega) HNE.out)).trans hc1
      have hc4 : w2.cell? ⟨w.heap.size, 3, none⟩ = some (.slice ad T.args.length cap) := (World.cell?_of_block (a := ⟨w.heap.size, 3, none⟩) (hg2.keep (show w.heap.size < w1.heap.size by omega) HNE.out)).trans hc3
      have HO2 := Lib.hid ho2
      have HG2 := Lib.hid ((Grew.below HW1.out v).trans hg2)
      clear ho2 hg2 ho1 hc1 hc3
      go_wp2_with fail
      clear hc2 hc4
      go_loopw [0, 5, 38] (fun lv bv iv wr => ∃ k : Nat, k ≤ T.args.length ∧ iv = .int .i64 k ∧ bv = .int .u8 (betw k).toNat ∧ OwnBytes B wr lv (l ++ (nm ++ pre T.args k)) ∧ Grew w wr v lv) (fun _ _ iv _ => T.args.length - (intOf iv).toNat)
      case atStart => exact ⟨0, Nat.zero_le _, rfl, rfl, by show OwnBytes B w2 v2 (l ++ (nm ++ [])); rw [List.append_nil]; exact HO2.out, HG2.out⟩
      case round =>
        obtain ⟨k, hk, rfl, rfl, ho, hg⟩ := hrel
        have hbw := Grew.all (B := B) ((Below.refl B w)) hg hB (fun k hk => (HFAR.out k hk).1)
        have hplk := hpl.out k hk
        have hclk := HCL.out k
        have hsqk := HSQ.out
        have hstk := Tm.sizes_take T.args k
        have hlen : (l ++ (nm ++ pre T.args k)).length ≤ 10000000000 := by rw [List.length_append, List.length_append]; omega
        have hBr := hbw.size
        have hrr := hg.grown.size
        by_cases hlt : k < T.args.length
        · obtain ⟨b, o, rfl⟩ := HIN.out.args.addr' (by omega)
          obtain ⟨ad1, cap1, c0, c1, c2, c3, hin1⟩ := (HIN.out.args.onB hbw).get k hlt
          have hmem := Tm.mem_size (List.getElem_mem hlt)
          have hps := Lib.hid (pre_step T.args k hlt)
          have hss : Tm.sizes (T.args.take k) + (T.args[k]).size ≤ Tm.sizes T.args := by
            have h1 := Tm.sizes_append (T.args.take k) [T.args[k]]
            rw [← List.take_succ_eq_append_getElem hlt] at h1
            have h2 := Tm.sizes_take T.args (k + 1)
            have h3 : Tm.sizes [T.args[k]] = (T.args[k]).size := by show _ + 0 = _; omega
            omega
          have hmk : (T.args[k]).may = true := by
            have h := HM.out
            rw [Tm.mays_all, List.all_eq_true] at h
            exact h _ (List.getElem_mem hlt)
          generalize T.args[k] = x at *
          have HMK := Lib.hid hmk
          have HIN1 := Lib.hid hin1
          have hxm : x.size ≤ m := by omega
          have hxM : x.size ≤ 1000000 := by omega
          have hxl : (l ++ (nm ++ pre T.args k)).length + 1 + 1400 * x.size ≤ 2000000000 := by rw [List.length_append, List.length_append]; omega
          clear hmk hin1
          generalize betw k = bb at *
          generalize hLL : l ++ (nm ++ pre T.args k) = LL at *
          have HLL := Lib.hid hLL
          have HBW := Lib.hid hbw
          have HG := Lib.hid hg
          have HOK := Lib.hid ho
          have hle : LL.length ≤ 10000000000 := by omega
          clear hLL hbw hg ho hplk hclk hsqk hBr hlen hss hstk
          have hob := fun o : Obj => (Below.refl wr.heap.size wr).alloc (Nat.le_refl _) o
          go_wp2_with fail
          generalize hw0 : wr.alloc _ = w0
          have hb0 : Below wr.heap.size wr w0 := by rw [← hw0]; exact hob _
          have hs0 : w0.heap.size = wr.heap.size + 1 := by rw [← hw0]; simp
          have hx0 : w0.heap[wr.heap.size]? = some (.cells #[.int .i64 x.kind, .string x.name, .int .i64 x.n, .slice ad1 x.args.length cap1] 24 (0, 0)) := by rw [← hw0]; exact heap_alloc_new _ _
          obtain ⟨e0, e1, e2, e3⟩ := cellx4 hx0
          have bA : ∀ o, Below wr.heap.size wr (w0.alloc o).drew := fun o => (hb0.alloc hb0.size _).drew
          have oA : ∀ o, OwnBytes B (w0.alloc o).drew u0 LL := fun o => HOK.out.below (bA o)
          have HFK := Lib.hid HOK.out.far
          have hne0 := HOK.out.ne (k := wr.heap.size) (.inl (Nat.le_refl _))
          have hBw : B ≤ wr.heap.size := Nat.le_trans hB hrr
          have HA := Lib.hid (fun o v' W (g : Grew (w0.alloc o).drew W u0 v') => And.intro ((HG.out.trans (Grew.below (bA o) u0)).trans g) (And.intro (g.ne (show wr.heap.size < (w0.alloc o).heap.size by rw [World.size_alloc]; omega) hne0) (And.intro (Grew.all (HBW.out.trans ((bA o).mono hBw)) g hB fun k hk => (HFK.out k hk).1)
            ((g.keep (by show wr.heap.size < (w0.alloc o).heap.size; rw [World.size_alloc]; omega) hne0).trans ((Below.heap_alloc w0 _ _ (by show wr.heap.size < w0.heap.size; omega)).trans hx0)))))
          have HC := Lib.hid (fun (t : TypeId) (v : Value) => show (w0.alloc (.cells #[v] t)).drew.cell? ⟨w0.heap.size, 0, none⟩ = some v from (World.cell?_alloc_at _ _ _ _ rfl : (w0.alloc (.cells #[v] t)).cell? ⟨w0.heap.size, 0, none⟩ = _))
          have HOA := Lib.hid oA
          have hlt0 : wr.heap.size < w0.heap.size := by omega
          have hCD : w0.drew.cell? ⟨wr.heap.size, 0, none⟩ = some (.int .i64 x.kind) ∧ w0.drew.cell? ⟨wr.heap.size, 1, none⟩ = some (.string x.name) ∧ w0.drew.cell? ⟨wr.heap.size, 2, none⟩ = some (.int .i64 x.n) ∧ w0.drew.cell? ⟨wr.heap.size, 3, none⟩ = some (.slice ad1 x.args.length cap1) := ⟨e0, e1, e2, e3⟩
          have HIH := Lib.hid (fun W (hb : Below B w W) v1 (ho : OwnBytes B W v1 (LL ++ [bb])) => IH.out x ad1 cap1 W B v1 (LL ++ [bb]) hxm hxM HMK.out (HIN1.out.kept (fun b hp _ => (hb.block b hp).trans (HBW.out.block b hp).symm) (fun _ h _ => h)) (Nat.le_trans hB hb.size) (fun W' h' => HT.out W' (hb.trans h')) ho (by rw [List.length_append, List.length_singleton]; omega))
          unfold tmv at HIH
          clear hw0 bA hb0 oA hs0 hx0 hob hne0 c0 c1 c2 c3
          go_region_held3 (fun W => W.cell? ⟨wr.heap.size, 0, none⟩ = some (.int .i64 x.kind) ∧ W.cell? ⟨wr.heap.size, 1, none⟩ = some (.string x.name) ∧ W.cell? ⟨wr.heap.size, 2, none⟩ = some (.int .i64 x.n) ∧ W.cell? ⟨wr.heap.size, 3, none⟩ = some (.slice ad1 x.args.length cap1))
            (first | exact cellx4 x2 | exact cellx4 x1 | exact hCD | go_keep)
            (first
              | (refine step_app_byte (B := B) (v := u0) (l := LL) (g := w0.heap.size) (b := bb) (by rfl) (.tmp 42) (.tmp 44) (by rfl) (by rfl) (HOA.out _) (by rfl) (HC.out _ _) (by omega) (by show B ≤ (w0.alloc _).heap.size; rw [World.size_alloc]; omega) ?_; intro v1 w3 o1 g1; obtain ⟨G1, n1, b1, x1⟩ := HA.out _ _ _ g1)
              | (go_at_call 55; (with_reducible refine (HIH.out _ b1 v1 o1).mono ?_); rintro e w4 ⟨v4, rfl, o4, g4⟩; have G4 := G1.trans g4; have x2 := (g4.keep (Array.getElem?_eq_some_iff.1 x1).1 n1).trans x1))
          go_wp2_with fail
          go_roundw
          case rel =>
            refine ⟨k + 1, by omega, by go_num, by rfl, ?_, G4⟩
            rw [hps.out]
            have h := o4
            rw [← HLL.out, List.append_assoc, List.append_assoc, List.append_assoc] at h
            exact h
          case measure => simp [intOf]; omega
        · obtain rfl : k = T.args.length := by omega
          have HCW := Lib.hid (fun (t : TypeId) (v : Value) => (World.cell?_alloc_at _ _ _ _ rfl : (wr.alloc (.cells #[v] t)).cell? ⟨wr.heap.size, 0, none⟩ = _))
          have hBA : ∀ o, B ≤ (wr.alloc o).heap.size := fun o => by rw [World.size_alloc]; omega
          have HBA := Lib.hid hBA
          have HOW := Lib.hid (fun o => show OwnBytes B (wr.alloc o) u0 (l ++ (nm ++ pre T.args T.args.length)) from World.ownsRow.alloc ho o)
          clear hBA
          go_wp2_with (at_builtin; refine list_app_byte (B := B) (v := u0) (l := l ++ (nm ++ pre T.args T.args.length)) (g := wr.heap.size) (b := 41) rfl (.tmp 49) (.tmp 50) rfl rfl (HOW.out _) rfl (HCW.out _ _) (Nat.le_trans hlen (by decide)) (HBA.out _) ?_)
          intro v3 w3 o3 g3
          have HO3 := Lib.hid o3
          have HG3 := Lib.hid (hg.trans ((Grew.below ((Below.refl _ wr).alloc (Nat.le_refl _) _) _).trans g3))
          clear o3 g3 ho hg
          go_wp2_with fail
          go_ret
          refine ⟨_, rfl, ?_, HG3.out⟩
          have h := HO3.out
          have h' : OwnBytes B w3 v3 (l ++ (nm ++ (pre T.args T.args.length ++ [41]))) := by first | exact h | (rw [List.append_assoc, List.append_assoc] at h; exact h)
          rw [hpa.out] at h'
          exact h'
    · unfold mayK at hmay
      rw [if_neg h1, if_neg h2, if_neg h3, if_neg h4] at hmay
      cases hmay

set_option maxRecDepth 100000 in
set_option maxHeartbeats 2000000 in
theorem dev_text (T : Tm) (ad : Option Addr) (cap : Nat) (w : World) (hM : T.size ≤ 1000000) (hmay : T.may = true) (hT : AllT w) (hin : TmIn w T ad cap) :
    Calls Tryd.prog 55 #[.slice none 0 0, tmv T ad cap] w (LaidOut w.heap.size w (.slice none 0 0) T.txt) := by
  have h := dev_layText T.size T ad cap w w.heap.size (.slice none 0 0) [] (Nat.le_refl _) hM hmay ⟨hin.kind, hin.n, hin.name, hin.len, hin.cap, targs_in hin.args⟩ (Nat.le_refl _) (fun W h => hT.on h) (World.ownsRow_nil _ _ _ _) (by show 0 + _ ≤ _; omega)
  exact h
end Go.Proofs.YthfdiclmbbngcaaDoor

/-
  The contract of package term's own Text.
-/
namespace Go.Proofs.YthfdiclmbbngcaaDoor
open Go.RowKit

set_option maxRecDepth 100000 in
set_option maxHeartbeats 2000000 in
theorem term_Text (T : Tm) (ad : Option Addr) (cap : Nat) (w : World) (hM : T.size ≤ 1000000) (hT : AllT w) (hin : TmIn w T ad cap) :
    Calls Tryd.prog 33 #[tmv T ad cap] w fun e w' => e = .returned (.tuple #[.string ⟨(if T.chk = 0 then T.txt else []).toArray⟩, .int .i64 T.chk]) ∧ Below w.heap.size w w' := by
  have HB := Lib.hid (fun o : Obj => (Below.refl w.heap.size w).alloc (Nat.le_refl _) o)
  have HC := Lib.hid (fun o => term_Check T ad cap (w.alloc o) hM (hT.u.on (HB.out o)) (hin.on (HB.out o)))
  by_cases h0 : T.chk = 0
  · rw [if_pos h0]
    have hmay : T.may = true := by
      unfold Tm.chk at h0
      cases h : T.may with
      | true => rfl
      | false => rw [h] at h0; cases h0
    have HX := Lib.hid (fun W (h : Below w.heap.size w W) => dev_text T ad cap W hM hmay (hT.on h) (hin.on h))
    rw [h0] at HC
    rw [h0]
    clear h0 hmay hT hin
    generalize T.txt = tx at *
    unfold tmv at *
    go_enter Tryd.func33, Tryd.ntmps33
    go_wp2_with fail
    refine (HC.out _).mono ?_; rintro e w2 ⟨rfl, hb2⟩
    obtain ⟨hc, hf⟩ := bcell_alloc hb2
    have hb := (HB.out _).trans (hb2.mono (by simp))
    clear hb2
    go_wp2_with fail
    refine (HX.out _ hb).mono ?_; rintro e w3 ⟨v3, rfl, o3, g3⟩
    have hcv := conv_own o3
    have HB3 := Lib.hid (hb.trans ((Grew.all (Below.refl _ _) g3 (Nat.le_refl _) (fun k hk => by cases hk)).mono hb.size))
    clear o3 g3 hc hf hb
    go_wp2_with fail
    go_ret2
    exact ⟨rfl, HB3.out⟩
  · rw [if_neg h0]
    have e0 : (T.chk != 0) = true := by simpa using h0
    generalize T.chk = ck at *
    clear h0 hT hin
    unfold tmv at *
    go_enter Tryd.func33, Tryd.ntmps33
    go_wp2_with fail
    refine (HC.out _).mono ?_; rintro e w2 ⟨rfl, hb2⟩
    have hb := (HB.out _).trans (hb2.mono (by simp))
    clear hb2
    go_wp2_with fail
    go_ret2
    exact ⟨rfl, hb⟩
end Go.Proofs.YthfdiclmbbngcaaDoor
