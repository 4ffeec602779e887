/-
  The contract of the closure of package token's Cut.
-/
import Derived.Test.YtglaoacdenecfaaDoorTokE
namespace Go.Proofs.YtglaoacdenecfaaDoor
open Go.RowKit

/-- The variables that Cut's closure captures. -/
structure CutMem (L : Nat) (w : World) (l : List Tok) (e : Int) (t : Bool) (v : Value) : Prop where
  list : w.heap[L]? = some (.cells #[v] 23 (0, 0))
  fin : w.heap[L + 1]? = some (.cells #[.int .i64 e] 3 (0, 0))
  tight : w.heap[L + 2]? = some (.cells #[.bool t] 4 (0, 0))
  own : OwnToks (L + 4) w v l
theorem cells1 {w : World} {q : Nat} {a : Value} {t : TypeId} (h : w.heap[q]? = some (.cells #[a] t (0, 0))) : w.cell? ⟨q, 0, none⟩ = some a ∧ w.frozen? ⟨q, 0, none⟩ = false := by
  simp [World.cell?, World.frozen?, h]
theorem CutMem.below {L : Nat} {w w' : World} {l : List Tok} {e : Int} {t : Bool} {v : Value} (h : CutMem L w l e t v) (hb : Below w.heap.size w w') : CutMem L w' l e t v :=
  ⟨kept_at hb h.list, kept_at hb h.fin, kept_at hb h.tight, h.own.below hb⟩
theorem set1 {w : World} {q : Nat} {a : Value} {t : TypeId} (h : w.heap[q]? = some (.cells #[a] t (0, 0))) (u : Value) : (w.setCell ⟨q, 0, none⟩ u).heap[q]? = some (.cells #[u] t (0, 0)) := by
  have := Lib.heap_setCell_same (i := 0) h u
  simpa using this
theorem setO {w : World} {q k : Nat} {i : Nat} {o : Obj} (h : w.heap[k]? = some o) (hne : k ≠ q) (u : Value) : (w.setCell ⟨q, i, none⟩ u).heap[k]? = some o := by
  rw [Below.heap_setCell _ _ _ _ hne]; exact h
theorem CutMem.setFin {L : Nat} {w : World} {l : List Tok} {e : Int} {t : Bool} {v : Value} (h : CutMem L w l e t v) (e2 : Int) : CutMem L (w.setCell ⟨L + 1, 0, none⟩ (.int .i64 e2)) l e2 t v :=
  ⟨setO h.list (by omega) _, set1 h.fin _, setO h.tight (by omega) _, h.own.setOther (by omega) _⟩
theorem CutMem.setTight {L : Nat} {w : World} {l : List Tok} {e : Int} {t : Bool} {v : Value} (h : CutMem L w l e t v) (t2 : Bool) : CutMem L (w.setCell ⟨L + 2, 0, none⟩ (.bool t2)) l e t2 v :=
  ⟨setO h.list (by omega) _, setO h.fin (by omega) _, set1 h.tight _, h.own.setOther (by omega) _⟩
/-- What the closure leaves as it was. -/
def CutKeep (L : Nat) (w w' : World) : Prop := Below L w w' ∧ ∀ s pos, w.heap[L + 3]? = some (.stringIter s pos) → w'.heap[L + 3]? = some (.stringIter s pos)
theorem CutKeep.trans {L : Nat} {a b c : World} (h : CutKeep L a b) (k : CutKeep L b c) : CutKeep L a c := ⟨h.1.trans k.1, fun s p hi => k.2 s p (h.2 s p hi)⟩
theorem CutKeep.below {L : Nat} {a b : World} (h : Below a.heap.size a b) (hL : L ≤ a.heap.size) : CutKeep L a b := ⟨h.mono hL, fun _ _ hi => kept_at h hi⟩
theorem CutKeep.set {L : Nat} (w : World) {q i : Nat} (h1 : L ≤ q) (h2 : q ≠ L + 3) (u : Value) : CutKeep L w (w.setCell ⟨q, i, none⟩ u) :=
  ⟨(Below.refl _ _).setCell (p := ⟨q, i, none⟩) h1 u, fun _ _ hi => setO hi (by omega) u⟩
theorem CutKeep.set2 {L : Nat} {a w : World} (h : CutKeep L a w) (u u2 : Value) : CutKeep L a ((w.setCell ⟨L + 1, 0, none⟩ u).setCell ⟨L + 2, 0, none⟩ u2) :=
  (h.trans (CutKeep.set w (by omega) (by omega) u)).trans (CutKeep.set _ (by omega) (by omega) u2)
theorem OwnToks.big {B : Nat} {w : World} {v : Value} {l : List Tok} (h : OwnToks B w v l) {k : Nat} (hk : k < B) : some k ≠ v.ownBlock := fun e => by
  have := (World.ownsRow.lt h k e.symm).1
  omega
theorem CutMem.grow {L : Nat} {w w1 w3 : World} {l : List Tok} {e : Int} {t : Bool} {v v3 : Value} (h : CutMem L w1 l e t v) (hk : CutKeep L w w1) (hL : L + 4 ≤ w1.heap.size) (x : Tok)
    (hown : w3.ownsRow (L + 4) 30 4 v3 (l.length + 1) (tokCells l ++ tok4 x)) (hg : w1.grownBy w3 v.ownBlock) :
    CutMem L (w3.setCell ⟨L, 0, none⟩ v3) (l ++ [x]) e t v3 ∧ CutKeep L w (w3.setCell ⟨L, 0, none⟩ v3) ∧ (∀ k o, L + 4 ≤ k → some k ≠ v.ownBlock → w1.heap[k]? = some o → (w3.setCell ⟨L, 0, none⟩ v3).heap[k]? = some o) ∧ w3.heap[L]? = some (.cells #[v] 23 (0, 0)) := by
  have keep : ∀ k o, some k ≠ v.ownBlock → w1.heap[k]? = some o → w3.heap[k]? = some o := fun k o hne ho => by
    rw [hg.block k (Array.getElem?_eq_some_iff.1 ho).1 hne]; exact ho
  have hB : ∀ k, k < L + 4 → some k ≠ v.ownBlock := fun k hk => h.own.big hk
  have hlist := keep _ _ (hB L (by omega)) h.list
  have hown4 : OwnToks (L + 4) w3 v3 (l ++ [x]) := by
    unfold OwnToks
    rw [List.length_append, tokCells_append]
    exact hown
  refine ⟨⟨set1 hlist _, setO (keep _ _ (hB _ (by omega)) h.fin) (by omega) _, setO (keep _ _ (hB _ (by omega)) h.tight) (by omega) _, hown4.setOther (by omega) _⟩, ?_, ?_, hlist⟩
  · refine CutKeep.trans (b := w3) ?_ (CutKeep.set w3 (Nat.le_refl _) (by omega) v3)
    refine hk.trans ⟨(Below.refl L w1).grown hg (by omega) (fun k hk => Nat.le_trans (by omega) (World.ownsRow.lt h.own k hk).1), fun s pos hi => keep _ _ (hB _ (by omega)) hi⟩
  · intro k o hk hne ho
    exact setO (keep _ _ hne ho) (by omega) _

def CutOut (L : Nat) (w : World) (l : List Tok) (e : Int) (t : Bool) (w' : World) : Prop := (∃ v, CutMem L w' l e t v) ∧ CutKeep L w w'

set_option maxHeartbeats 4000000 in
theorem cut1_token (L : Nat) (w : World) (l : List Tok) (e : Int) (tg : Bool) (v : Value) (k n : Int) (t : List UInt8) (p m : Nat) (k2 : Int) (h : CutMem L w l e tg v) (hL : L + 4 ≤ w.heap.size) (hp : p ≤ 1000000) (hm : m ≤ 1000000) (hl : l.length ≤ 1000000)
    (h0 : (k2 != 0) = true)
    (hw : (tg = true ∧ ((⟨t.toArray⟩ : ByteArray).toList == [40]) = true ∧ (k == 6) = true ∧ k2 = 7) ∨ (tg = false ∧ k2 = k) ∨ (tg = true ∧ ((⟨t.toArray⟩ : ByteArray).toList == [40]) = false ∧ k2 = k) ∨ (tg = true ∧ ((⟨t.toArray⟩ : ByteArray).toList == [40]) = true ∧ (k == 6) = false ∧ k2 = k)) :
    Calls Tryd.prog 15 #[.agg #[.int .i64 k, .string ⟨t.toArray⟩, .int .i64 n, .int .i64 0], .int .i64 (p : Nat), .int .i64 (m : Nat), .pointer (some ⟨L + 2, 0, none⟩), .pointer (some ⟨L, 0, none⟩), .pointer (some ⟨L + 1, 0, none⟩)] w
      fun e' w' => (∃ r, e' = .returned r) ∧ CutOut L w (l ++ [⟨k2, t, n, p⟩]) ((p + m : Nat) : Int) (opensL k2 t) w' := by
  have HO := Lib.hid (fun W => tok_opens k2 n (p : Nat) t W)
  have HB := Lib.hid (fun o o2 : Obj => ((Below.refl w.heap.size w).alloc (Nat.le_refl _) o).alloc (by simp) o2)
  obtain ⟨l0, l1⟩ := cells1 h.list
  obtain ⟨e0, e1⟩ := cells1 h.fin
  obtain ⟨t0, t1⟩ := cells1 h.tight
  obtain ⟨i0, hi, hz0, hz1, hz2⟩ := info_parts infoTok
  have hlt0 : L < w.heap.size := by omega
  have hlt1 : L + 1 < w.heap.size := by omega
  have hlt2 : L + 2 < w.heap.size := by omega
  have HH := Lib.hid h
  have HT : Hid (tok4 ⟨k2, t, n, p⟩ = [.int .i64 k2, .string ⟨t.toArray⟩, .int .i64 n, .int .i64 (p : Nat)]) := Lib.hid rfl
  clear h
  generalize (⟨t.toArray⟩ : ByteArray) = u at *
  rcases hw with ⟨rfl, f1, f2, rfl⟩ | ⟨rfl, rfl⟩ | ⟨rfl, f1, rfl⟩ | ⟨rfl, f1, f2, rfl⟩
  · go_enter Tryd.func15, Tryd.ntmps15
    go_wp2_with (first
      | (at_builtin; refine wpList_append_lies _ rfl _ _ 23 rfl (L + 4) 30 i0 (.agg #[.int .i64 0, .string ⟨#[]⟩, .int .i64 0, .int .i64 0]) 4 40 Tryd.underlying23 hi hz0 hz1 hz2 rfl (by decide) _ _ _ rfl (World.ownsRow.alloc (World.ownsRow.alloc HH.out.own _) _) ⟨w.heap.size + 1, 0, none⟩ 1 1 [.int .i64 7, .string u, .int .i64 n, .int .i64 (p : Nat)] rfl rfl ?c1 ?c2 (by decide) ?c3 ?c4 ?c5 _ rfl ?_))
    case c1 =>
      intro j x hj
      match j, hj with
      | 0, hj => simp at hj; subst hj; simp [Addr.add]
      | 1, hj => simp at hj; subst hj; simp [Addr.add]
      | 2, hj => simp at hj; subst hj; simp [Addr.add]
      | 3, hj => simp at hj; subst hj; simp [Addr.add]
    case c2 => intro x hx; simp at hx; rcases hx with rfl | rfl | rfl | rfl <;> rfl
    case c3 => unfold maxLen; omega
    case c4 => omega
    case c5 => simp; omega
    intro g3 cap3 w3 hown3 hgrow _ hlt4
    have hb2 : Below w.heap.size w ((w.alloc (.cells #[.int .i64 7, .string u, .int .i64 n, .int .i64 (p : Nat)] 30)).alloc (.cells #[.int .i64 7, .string u, .int .i64 n, .int .i64 (p : Nat)] 30)) := HB.out _ _
    have hg := (HH.out.below hb2).grow (CutKeep.below hb2 (by omega)) (by simp; omega) ⟨7, t, n, p⟩ (by rw [show tok4 ⟨7, t, n, p⟩ = _ from HT.out]; exact hown3) hgrow
    obtain ⟨hcm, hck, hkp, hls⟩ := hg
    obtain ⟨l2, l3⟩ := cells1 hls
    have hbx := hkp w.heap.size _ (by omega) (fun e => by have := (World.ownsRow.lt HH.out.own _ e.symm).2; omega) (past_at (new_at w _) _)
    obtain ⟨x0, x1, x2, x3, y0, y1, y2, y3⟩ := cells4 hbx
    have hlt3 : L < w3.heap.size := World.block_lt_of_cell? w3 _ l2
    have HCM := Lib.hid hcm
    have HCK := Lib.hid hck
    have HBX := Lib.hid hbx
    clear hown3 hgrow hcm hck hkp hls hb2 hbx
    go_wp2_with fail
    refine (HO.out _).mono ?_; rintro e w4 ⟨rfl, hb4⟩
    have hc4 := HCM.out.below hb4
    have hk4 := HCK.out.trans (CutKeep.below hb4 (by simp; omega))
    obtain ⟨m0, m1⟩ := cells1 hc4.fin
    obtain ⟨q0, q1⟩ := cells1 hc4.tight
    have HC4 := Lib.hid hc4
    have HK4 := Lib.hid hk4
    have hs1 : L + 1 < w4.heap.size := World.block_lt_of_cell? w4 _ m0
    have hs2 : L + 2 < w4.heap.size := World.block_lt_of_cell? w4 _ q0
    clear hb4 hc4 hk4 l2 l3 x0 x1 x2 x3 y0 y1 y2 y3
    go_wp2_with fail
    go_end0
    refine ⟨⟨_, rfl⟩, ⟨.slice (some ⟨g3, 0, none⟩) (l.length + 1) cap3, ?_⟩, ?_⟩
    · have := (HC4.out.setFin ((p : Int) + m)).setTight (opensL 7 t)
      rw [show ((p + m : Nat) : Int) = (p : Int) + m from by omega]
      exact this
    · exact HK4.out.set2 _ _
  · go_enter Tryd.func15, Tryd.ntmps15
    go_wp2_with (first
      | (at_builtin; refine wpList_append_lies _ rfl _ _ 23 rfl (L + 4) 30 i0 (.agg #[.int .i64 0, .string ⟨#[]⟩, .int .i64 0, .int .i64 0]) 4 40 Tryd.underlying23 hi hz0 hz1 hz2 rfl (by decide) _ _ _ rfl (World.ownsRow.alloc (World.ownsRow.alloc HH.out.own _) _) ⟨w.heap.size + 1, 0, none⟩ 1 1 [.int .i64 k2, .string u, .int .i64 n, .int .i64 (p : Nat)] rfl rfl ?c1 ?c2 (by decide) ?c3 ?c4 ?c5 _ rfl ?_))
    case c1 =>
      intro j x hj
      match j, hj with
      | 0, hj => simp at hj; subst hj; simp [Addr.add]
      | 1, hj => simp at hj; subst hj; simp [Addr.add]
      | 2, hj => simp at hj; subst hj; simp [Addr.add]
      | 3, hj => simp at hj; subst hj; simp [Addr.add]
    case c2 => intro x hx; simp at hx; rcases hx with rfl | rfl | rfl | rfl <;> rfl
    case c3 => unfold maxLen; omega
    case c4 => omega
    case c5 => simp; omega
    intro g3 cap3 w3 hown3 hgrow _ hlt4
    have hb2 : Below w.heap.size w ((w.alloc (.cells #[.int .i64 k2, .string u, .int .i64 n, .int .i64 (p : Nat)] 30)).alloc (.cells #[.int .i64 k2, .string u, .int .i64 n, .int .i64 (p : Nat)] 30)) := HB.out _ _
    have hg := (HH.out.below hb2).grow (CutKeep.below hb2 (by omega)) (by simp; omega) ⟨k2, t, n, p⟩ (by rw [show tok4 ⟨k2, t, n, p⟩ = _ from HT.out]; exact hown3) hgrow
    obtain ⟨hcm, hck, hkp, hls⟩ := hg
    obtain ⟨l2, l3⟩ := cells1 hls
    have hbx := hkp w.heap.size _ (by omega) (fun e => by have := (World.ownsRow.lt HH.out.own _ e.symm).2; omega) (past_at (new_at w _) _)
    obtain ⟨x0, x1, x2, x3, y0, y1, y2, y3⟩ := cells4 hbx
    have hlt3 : L < w3.heap.size := World.block_lt_of_cell? w3 _ l2
    have HCM := Lib.hid hcm
    have HCK := Lib.hid hck
    have HBX := Lib.hid hbx
    clear hown3 hgrow hcm hck hkp hls hb2 hbx
    go_wp2_with fail
    refine (HO.out _).mono ?_; rintro e w4 ⟨rfl, hb4⟩
    have hc4 := HCM.out.below hb4
    have hk4 := HCK.out.trans (CutKeep.below hb4 (by simp; omega))
    obtain ⟨m0, m1⟩ := cells1 hc4.fin
    obtain ⟨q0, q1⟩ := cells1 hc4.tight
    have HC4 := Lib.hid hc4
    have HK4 := Lib.hid hk4
    have hs1 : L + 1 < w4.heap.size := World.block_lt_of_cell? w4 _ m0
    have hs2 : L + 2 < w4.heap.size := World.block_lt_of_cell? w4 _ q0
    clear hb4 hc4 hk4 l2 l3 x0 x1 x2 x3 y0 y1 y2 y3
    go_wp2_with fail
    go_end0
    refine ⟨⟨_, rfl⟩, ⟨.slice (some ⟨g3, 0, none⟩) (l.length + 1) cap3, ?_⟩, ?_⟩
    · have := (HC4.out.setFin ((p : Int) + m)).setTight (opensL k2 t)
      rw [show ((p + m : Nat) : Int) = (p : Int) + m from by omega]
      exact this
    · exact HK4.out.set2 _ _
  · go_enter Tryd.func15, Tryd.ntmps15
    go_wp2_with (first
      | (at_builtin; refine wpList_append_lies _ rfl _ _ 23 rfl (L + 4) 30 i0 (.agg #[.int .i64 0, .string ⟨#[]⟩, .int .i64 0, .int .i64 0]) 4 40 Tryd.underlying23 hi hz0 hz1 hz2 rfl (by decide) _ _ _ rfl (World.ownsRow.alloc (World.ownsRow.alloc HH.out.own _) _) ⟨w.heap.size + 1, 0, none⟩ 1 1 [.int .i64 k2, .string u, .int .i64 n, .int .i64 (p : Nat)] rfl rfl ?c1 ?c2 (by decide) ?c3 ?c4 ?c5 _ rfl ?_))
    case c1 =>
      intro j x hj
      match j, hj with
      | 0, hj => simp at hj; subst hj; simp [Addr.add]
      | 1, hj => simp at hj; subst hj; simp [Addr.add]
      | 2, hj => simp at hj; subst hj; simp [Addr.add]
      | 3, hj => simp at hj; subst hj; simp [Addr.add]
    case c2 => intro x hx; simp at hx; rcases hx with rfl | rfl | rfl | rfl <;> rfl
    case c3 => unfold maxLen; omega
    case c4 => omega
    case c5 => simp; omega
    intro g3 cap3 w3 hown3 hgrow _ hlt4
    have hb2 : Below w.heap.size w ((w.alloc (.cells #[.int .i64 k2, .string u, .int .i64 n, .int .i64 (p : Nat)] 30)).alloc (.cells #[.int .i64 k2, .string u, .int .i64 n, .int .i64 (p : Nat)] 30)) := HB.out _ _
    have hg := (HH.out.below hb2).grow (CutKeep.below hb2 (by omega)) (by simp; omega) ⟨k2, t, n, p⟩ (by rw [show tok4 ⟨k2, t, n, p⟩ = _ from HT.out]; exact hown3) hgrow
    obtain ⟨hcm, hck, hkp, hls⟩ := hg
    obtain ⟨l2, l3⟩ := cells1 hls
    have hbx := hkp w.heap.size _ (by omega) (fun e => by have := (World.ownsRow.lt HH.out.own _ e.symm).2; omega) (past_at (new_at w _) _)
    obtain ⟨x0, x1, x2, x3, y0, y1, y2, y3⟩ := cells4 hbx
    have hlt3 : L < w3.heap.size := World.block_lt_of_cell? w3 _ l2
    have HCM := Lib.hid hcm
    have HCK := Lib.hid hck
    have HBX := Lib.hid hbx
    clear hown3 hgrow hcm hck hkp hls hb2 hbx
    go_wp2_with fail
    refine (HO.out _).mono ?_; rintro e w4 ⟨rfl, hb4⟩
    have hc4 := HCM.out.below hb4
    have hk4 := HCK.out.trans (CutKeep.below hb4 (by simp; omega))
    obtain ⟨m0, m1⟩ := cells1 hc4.fin
    obtain ⟨q0, q1⟩ := cells1 hc4.tight
    have HC4 := Lib.hid hc4
    have HK4 := Lib.hid hk4
    have hs1 : L + 1 < w4.heap.size := World.block_lt_of_cell? w4 _ m0
    have hs2 : L + 2 < w4.heap.size := World.block_lt_of_cell? w4 _ q0
    clear hb4 hc4 hk4 l2 l3 x0 x1 x2 x3 y0 y1 y2 y3
    go_wp2_with fail
    go_end0
    refine ⟨⟨_, rfl⟩, ⟨.slice (some ⟨g3, 0, none⟩) (l.length + 1) cap3, ?_⟩, ?_⟩
    · have := (HC4.out.setFin ((p : Int) + m)).setTight (opensL k2 t)
      rw [show ((p + m : Nat) : Int) = (p : Int) + m from by omega]
      exact this
    · exact HK4.out.set2 _ _
  · go_enter Tryd.func15, Tryd.ntmps15
    go_wp2_with (first
      | (at_builtin; refine wpList_append_lies _ rfl _ _ 23 rfl (L + 4) 30 i0 (.agg #[.int .i64 0, .string ⟨#[]⟩, .int .i64 0, .int .i64 0]) 4 40 Tryd.underlying23 hi hz0 hz1 hz2 rfl (by decide) _ _ _ rfl (World.ownsRow.alloc (World.ownsRow.alloc HH.out.own _) _) ⟨w.heap.size + 1, 0, none⟩ 1 1 [.int .i64 k2, .string u, .int .i64 n, .int .i64 (p : Nat)] rfl rfl ?c1 ?c2 (by decide) ?c3 ?c4 ?c5 _ rfl ?_))
    case c1 =>
      intro j x hj
      match j, hj with
      | 0, hj => simp at hj; subst hj; simp [Addr.add]
      | 1, hj => simp at hj; subst hj; simp [Addr.add]
      | 2, hj => simp at hj; subst hj; simp [Addr.add]
      | 3, hj => simp at hj; subst hj; simp [Addr.add]
    case c2 => intro x hx; simp at hx; rcases hx with rfl | rfl | rfl | rfl <;> rfl
    case c3 => unfold maxLen; omega
    case c4 => omega
    case c5 => simp; omega
    intro g3 cap3 w3 hown3 hgrow _ hlt4
    have hb2 : Below w.heap.size w ((w.alloc (.cells #[.int .i64 k2, .string u, .int .i64 n, .int .i64 (p : Nat)] 30)).alloc (.cells #[.int .i64 k2, .string u, .int .i64 n, .int .i64 (p : Nat)] 30)) := HB.out _ _
    have hg := (HH.out.below hb2).grow (CutKeep.below hb2 (by omega)) (by simp; omega) ⟨k2, t, n, p⟩ (by rw [show tok4 ⟨k2, t, n, p⟩ = _ from HT.out]; exact hown3) hgrow
    obtain ⟨hcm, hck, hkp, hls⟩ := hg
    obtain ⟨l2, l3⟩ := cells1 hls
    have hbx := hkp w.heap.size _ (by omega) (fun e => by have := (World.ownsRow.lt HH.out.own _ e.symm).2; omega) (past_at (new_at w _) _)
    obtain ⟨x0, x1, x2, x3, y0, y1, y2, y3⟩ := cells4 hbx
    have hlt3 : L < w3.heap.size := World.block_lt_of_cell? w3 _ l2
    have HCM := Lib.hid hcm
    have HCK := Lib.hid hck
    have HBX := Lib.hid hbx
    clear hown3 hgrow hcm hck hkp hls hb2 hbx
    go_wp2_with fail
    refine (HO.out _).mono ?_; rintro e w4 ⟨rfl, hb4⟩
    have hc4 := HCM.out.below hb4
    have hk4 := HCK.out.trans (CutKeep.below hb4 (by simp; omega))
    obtain ⟨m0, m1⟩ := cells1 hc4.fin
    obtain ⟨q0, q1⟩ := cells1 hc4.tight
    have HC4 := Lib.hid hc4
    have HK4 := Lib.hid hk4
    have hs1 : L + 1 < w4.heap.size := World.block_lt_of_cell? w4 _ m0
    have hs2 : L + 2 < w4.heap.size := World.block_lt_of_cell? w4 _ q0
    clear hb4 hc4 hk4 l2 l3 x0 x1 x2 x3 y0 y1 y2 y3
    go_wp2_with fail
    go_end0
    refine ⟨⟨_, rfl⟩, ⟨.slice (some ⟨g3, 0, none⟩) (l.length + 1) cap3, ?_⟩, ?_⟩
    · have := (HC4.out.setFin ((p : Int) + m)).setTight (opensL k2 t)
      rw [show ((p + m : Nat) : Int) = (p : Int) + m from by omega]
      exact this
    · exact HK4.out.set2 _ _

set_option maxHeartbeats 4000000 in
theorem cut1_passed (L : Nat) (w : World) (l : List Tok) (e : Int) (tg : Bool) (v : Value) (n : Int) (p m : Nat) (h : CutMem L w l e tg v) (hL : L + 4 ≤ w.heap.size) (hp : p ≤ 1000000) (hm : m ≤ 1000000) :
    Calls Tryd.prog 15 #[.agg #[.int .i64 0, .string ⟨#[]⟩, .int .i64 n, .int .i64 0], .int .i64 (p : Nat), .int .i64 (m : Nat), .pointer (some ⟨L + 2, 0, none⟩), .pointer (some ⟨L, 0, none⟩), .pointer (some ⟨L + 1, 0, none⟩)] w
      fun e' w' => (∃ r, e' = .returned r) ∧ CutOut L w l ((p + m : Nat) : Int) false w' := by
  have HO := Lib.hid (fun W => tok_opens 0 n 0 [] W)
  rw [show opensL 0 [] = false from rfl] at HO
  have HB := Lib.hid (fun o : Obj => (Below.refl w.heap.size w).alloc (Nat.le_refl _) o)
  obtain ⟨e0, e1⟩ := cells1 h.fin
  obtain ⟨t0, t1⟩ := cells1 h.tight
  have f1 : ((⟨#[]⟩ : ByteArray).toList == [40]) = false := by decide +kernel
  have hlt1 : L + 1 < w.heap.size := by omega
  have hlt2 : L + 2 < w.heap.size := by omega
  have HH := Lib.hid h
  clear h
  cases tg
  all_goals
    go_enter Tryd.func15, Tryd.ntmps15
    go_wp2_with fail
    refine (HO.out _).mono ?_; rintro e w4 ⟨rfl, hb4⟩
    have hb5 := (HB.out _).trans (hb4.mono (by simp))
    have hc4 := HH.out.below hb5
    have hk4 := CutKeep.below hb5 (show L ≤ w.heap.size by omega)
    obtain ⟨m0, m1⟩ := cells1 hc4.fin
    obtain ⟨q0, q1⟩ := cells1 hc4.tight
    have HC4 := Lib.hid hc4
    have HK4 := Lib.hid hk4
    have hs1 : L + 1 < w4.heap.size := World.block_lt_of_cell? w4 _ m0
    have hs2 : L + 2 < w4.heap.size := World.block_lt_of_cell? w4 _ q0
    clear hb4 hb5 hc4 hk4 e0 e1 t0 t1
    go_wp2_with fail
    go_end0
    refine ⟨⟨_, rfl⟩, ⟨v, ?_⟩, ?_⟩
    · have := (HC4.out.setFin ((p : Int) + m)).setTight false
      rw [show ((p + m : Nat) : Int) = (p : Int) + m from by omega]
      exact this
    · exact HK4.out.set2 _ _

/-- The closure, whole: a token more, or none, where it was passed over. -/
theorem cut1 (L : Nat) (w : World) (l : List Tok) (e : Int) (tg : Bool) (v : Value) (x : Lx) (p m : Nat) (h : CutMem L w l e tg v) (hL : L + 4 ≤ w.heap.size) (hp : p ≤ 1000000) (hm : m ≤ 1000000) (hl : l.length ≤ 1000000) (hx : x.kind = 0 → x.text = []) :
    Calls Tryd.prog 15 #[lxv x, .int .i64 (p : Nat), .int .i64 (m : Nat), .pointer (some ⟨L + 2, 0, none⟩), .pointer (some ⟨L, 0, none⟩), .pointer (some ⟨L + 1, 0, none⟩)] w
      fun e' w' => (∃ r, e' = .returned r) ∧ CutOut L w (if x.kind = 0 then l else l ++ [⟨kindL tg x, x.text, x.n, p⟩]) ((p + m : Nat) : Int) (if x.kind = 0 then false else opensL (kindL tg x) x.text) w' := by
  obtain ⟨k, t, n, wd⟩ := x
  unfold lxv
  dsimp only at hx ⊢
  by_cases h0 : k = 0
  · rw [if_pos h0, if_pos h0, hx h0, h0]
    exact cut1_passed L w l e tg v n p m h hL hp hm
  · rw [if_neg h0, if_neg h0]
    have e40 : ((⟨t.toArray⟩ : ByteArray).toList == [40]) = decide (t = [40]) := by rw [ByteArray.toList_eq, Bool.eq_iff_iff]; simp
    by_cases h7 : tg = true ∧ t = [40] ∧ k = 6
    · have hk : kindL tg ⟨k, t, n, wd⟩ = 7 := if_pos h7
      rw [hk]
      exact cut1_token L w l e tg v k n t p m 7 h hL hp hm hl (by decide) (.inl ⟨h7.1, by rw [e40, decide_eq_true h7.2.1], by rw [h7.2.2]; rfl, rfl⟩)
    · have hk : kindL tg ⟨k, t, n, wd⟩ = k := if_neg h7
      rw [hk]
      refine cut1_token L w l e tg v k n t p m k h hL hp hm hl (by simpa using h0) (.inr ?_)
      cases tg with
      | false => exact .inl ⟨rfl, rfl⟩
      | true =>
        by_cases h8 : t = [40]
        · exact .inr (.inr ⟨rfl, by rw [e40, decide_eq_true h8], by simpa using fun h9 => h7 ⟨rfl, h8, h9⟩, rfl⟩)
        · exact .inr (.inl ⟨rfl, by rw [e40, decide_eq_false h8], rfl⟩)
end Go.Proofs.YtglaoacdenecfaaDoor
