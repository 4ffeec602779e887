/-
  The contracts of package token's own pieces: named, word, parts, signs, quoted, single, lineRemark, closedRemark.
-/
import Derived.Test.YtglaoacdenecfaaDoorTokA
namespace Go.Proofs.YtglaoacdenecfaaDoor
open Go.RowKit

/-- The tables of the library that are listed, and that the library's own MaxLen holds some number. -/
def TabsT (w : World) : Prop := Tabs w ∧ ∃ m, w.cell? ⟨2, 0, none⟩ = some (.int .i64 m)
theorem TabsT.on {w w' : World} (h : TabsT w) (hb : Below w.heap.size w w') : TabsT w' := by
  obtain ⟨h, m, h4⟩ := h
  exact ⟨h.on hb, m, by rw [← h4]; exact hb.cell (p := ⟨_, _, none⟩) (cell_in h4)⟩
/-- What is cut off, as a value. -/
def lxv (x : Lx) : Value := .agg #[.int .i64 x.kind, .string ⟨x.text.toArray⟩, .int .i64 x.n, .int .i64 0]
def lxr (x : Lx) : Value := .tuple #[lxv x, .int .i64 (x.w : Nat)]
theorem ret_val {a b : Value} (h : a = b) : Ending.returned a = .returned b := by rw [h]
theorem ext_take (s : ByteArray) (n : Nat) : s.extract 0 n = ⟨(s.data.toList.take n).toArray⟩ := by
  rw [Lib.extract_eq]; simp
theorem ext_drop (s : ByteArray) (n : Nat) : s.extract n s.size = ⟨(s.data.toList.drop n).toArray⟩ := by
  rw [Lib.extract_eq]
  congr 1
  rw [List.take_of_length_le (by rw [List.length_drop]; simp)]
theorem size_listT (s : ByteArray) : s.data.toList.length = s.size := by simp
theorem mk_list (s : ByteArray) : (⟨s.data.toList.toArray⟩ : ByteArray) = s := by simp
theorem size_mk (l : List UInt8) : (⟨l.toArray⟩ : ByteArray).size = l.length := by show l.toArray.size = _; simp

theorem kept_at {w w1 : World} {q : Nat} {o : Obj} (hb : Below w.heap.size w w1) (hq : w.heap[q]? = some o) : w1.heap[q]? = some o := (hb.block q (Array.getElem?_eq_some_iff.1 hq).1).trans hq
theorem new_at (w : World) (o : Obj) : (w.alloc o).heap[w.heap.size]? = some o := by unfold World.alloc; simp
theorem past_at {w : World} {q : Nat} {o : Obj} (hq : w.heap[q]? = some o) (o2 : Obj) : (w.alloc o2).heap[q]? = some o := (Below.heap_alloc w o2 q (Array.getElem?_eq_some_iff.1 hq).1).trans hq
/-- The four cells of a token's variable. -/
def tcell (k : Int) (t : List UInt8) (n at_ : Int) : Obj := .cells #[.int .i64 k, .string ⟨t.toArray⟩, .int .i64 n, .int .i64 at_] 30 (0, 0)
def zcell : Obj := .cells #[.int .i64 0, .string ⟨#[]⟩, .int .i64 0, .int .i64 0] 30 (0, 0)
theorem below_set4 {B : Nat} {a w : World} (h : Below B a w) {q : Nat} (hB : B ≤ q) (v0 v1 v2 v3 : Value) : Below B a ((((w.setCell ⟨q, 0, none⟩ v0).setCell ⟨q, 1, none⟩ v1).setCell ⟨q, 2, none⟩ v2).setCell ⟨q, 3, none⟩ v3) :=
  (((h.setCell (p := ⟨q, 0, none⟩) hB v0).setCell (p := ⟨q, 1, none⟩) hB v1).setCell (p := ⟨q, 2, none⟩) hB v2).setCell (p := ⟨q, 3, none⟩) hB v3

set_option maxHeartbeats 1000000 in
theorem tok_word (s : ByteArray) (k : Int) (w : World) :
    Calls Tryd.prog 27 #[.string s, .int .i64 k] w fun e w' => e = .returned (lxr (wordL k s.data.toList)) ∧ Below w.heap.size w w' := by
  have HS := Lib.hid (fun W => tok_span_word1 s W)
  have hle := spanL_le nameR s.data.toList
  rw [size_listT] at hle
  have HX := Lib.hid (ext_take s)
  have HB := Lib.hid (fun o : Obj => (Below.refl w.heap.size w).alloc (Nat.le_refl _) o)
  unfold lxr lxv wordL
  dsimp only
  generalize spanL nameR s.data.toList = n at *
  go_enter Tryd.func27, Tryd.ntmps27
  go_wp2_with fail
  refine (HS.out _).mono ?_; rintro e w1 ⟨rfl, hb⟩
  obtain ⟨c0, c1, c2, c3, f0, f1, f2, f3⟩ := cells4 (kept_at hb (new_at w _))
  have hbw := (HB.out _).trans (hb.mono (by simp))
  clear hb
  go_wp2_with fail
  refine bodyPost_ret (v := .tuple #[.agg #[.int .i64 k, .string (s.extract 0 n), .int .i64 0, .int .i64 0], .int .i64 (n : Nat)]) (by simp [results, Tryd.results27, go_sem, c0, c1, c2, c3]) rfl ⟨by rw [HX.out], below_set4 hbw (Nat.le_refl _) _ _ _ _⟩

set_option maxHeartbeats 1000000 in
theorem tok_named (x : Lx) (w : World) (hs : x.text.length ≤ maxLen) (hT : TabsT w) :
    Calls Tryd.prog 26 #[lxv x, .int .i64 (x.w : Nat)] w fun e w' => e = .returned (lxr (namedL x)) ∧ Below w.heap.size w w' := by
  obtain ⟨k, t, n, m⟩ := x
  have hs' : (⟨t.toArray⟩ : ByteArray).size ≤ maxLen := by rw [size_mk]; exact hs
  have HC := Lib.hid (fun W (h : TabsT W) => char_Check ⟨t.toArray⟩ W hs' h.1)
  have hl : (⟨t.toArray⟩ : ByteArray).data.toList = t := by simp
  rw [hl] at HC
  have HB := Lib.hid (fun o o2 : Obj => ((Below.refl w.heap.size w).alloc (Nat.le_refl _) o).alloc (by simp) o2)
  have HT := Lib.hid (fun o o2 : Obj => hT.on (((Below.refl w.heap.size w).alloc (Nat.le_refl _) o).alloc (by simp) o2))
  clear hs hs' hl hT
  unfold lxr lxv namedL
  dsimp only
  cases hc : checkL t with
  | true =>
    rw [hc] at HC
    rw [if_pos rfl]
    go_enter Tryd.func26, Tryd.ntmps26
    go_wp2_with fail
    refine (HC.out _ (HT.out _ _)).mono ?_; rintro e w1 ⟨rfl, hb⟩
    obtain ⟨c0, c1, c2, c3, f0, f1, f2, f3⟩ := cells4 (kept_at hb (past_at (new_at w _) _))
    have hz := cells4 (kept_at hb (new_at (w.alloc _) _))
    rw [World.size_alloc] at hz
    obtain ⟨d0, d1, d2, d3, g0, g1, g2, g3⟩ := hz
    have hbw := (HB.out _ _).trans (hb.mono (by simp; omega))
    clear hb f0 f1 f2 f3
    go_wp2_with fail
    refine bodyPost_ret (v := .tuple #[.agg #[.int .i64 k, .string ⟨t.toArray⟩, .int .i64 n, .int .i64 0], .int .i64 (m : Nat)]) (by simp [results, Tryd.results26, go_sem, d0, d1, d2, d3]) rfl ⟨rfl, below_set4 hbw (by omega) _ _ _ _⟩
  | false =>
    rw [hc] at HC
    rw [if_neg (by decide)]
    go_enter Tryd.func26, Tryd.ntmps26
    go_wp2_with fail
    refine (HC.out _ (HT.out _ _)).mono ?_; rintro e w1 ⟨rfl, hb⟩
    have hz := cells4 (kept_at hb (new_at (w.alloc _) _))
    rw [World.size_alloc] at hz
    obtain ⟨d0, d1, d2, d3, g0, g1, g2, g3⟩ := hz
    have hbw := (HB.out _ _).trans (hb.mono (by simp; omega))
    clear hb
    go_wp2_with fail
    refine bodyPost_ret (v := .tuple #[.agg #[.int .i64 0, .string ⟨#[]⟩, .int .i64 0, .int .i64 0], .int .i64 0]) (by simp [results, Tryd.results26, go_sem, d0, d1, d2, d3]) rfl ⟨rfl, below_set4 hbw (by omega) _ _ _ _⟩

set_option maxHeartbeats 1000000 in
theorem tok_lineRemark (s : ByteArray) (w : World) :
    Calls Tryd.prog 34 #[.string s] w fun e w' => e = .returned (lxr ⟨0, [], 0, spanL lineR s.data.toList⟩) ∧ Below w.heap.size w w' := by
  have HS := Lib.hid (fun W => tok_span_line1 s W)
  have HB := Lib.hid (fun o : Obj => (Below.refl w.heap.size w).alloc (Nat.le_refl _) o)
  unfold lxr lxv
  dsimp only
  generalize spanL lineR s.data.toList = n at *
  go_enter Tryd.func34, Tryd.ntmps34
  go_wp2_with fail
  refine (HS.out _).mono ?_; rintro e w1 ⟨rfl, hb⟩
  obtain ⟨c0, c1, c2, c3, f0, f1, f2, f3⟩ := cells4 (kept_at hb (new_at w _))
  have hbw := (HB.out _).trans (hb.mono (by simp))
  clear hb
  go_wp2_with fail
  refine bodyPost_ret (v := .tuple #[.agg #[.int .i64 0, .string ⟨#[]⟩, .int .i64 0, .int .i64 0], .int .i64 (n : Nat)]) (by simp [results, Tryd.results34, go_sem, c0, c1, c2, c3]) rfl ⟨rfl, below_set4 hbw (Nat.le_refl _) _ _ _ _⟩

set_option maxHeartbeats 1000000 in
theorem tok_quoted (s : ByteArray) (w : World) (hs : s.size ≤ 200000) (hT : TabsT w) :
    Calls Tryd.prog 32 #[.string s] w fun e w' => e = .returned (lxr (quotedL s.data.toList)) ∧ Below w.heap.size w w' := by
  have HR := Lib.hid (fun W (h : TabsT W) => char_Read s W hs h.1)
  have HB := Lib.hid (fun o : Obj => (Below.refl w.heap.size w).alloc (Nat.le_refl _) o)
  have HT := Lib.hid (fun o : Obj => hT.on ((Below.refl w.heap.size w).alloc (Nat.le_refl _) o))
  clear hT
  unfold quotedL
  cases hr : readL s.data.toList with
  | none =>
    obtain ⟨e1, e2, e3⟩ := read_none hr
    rw [e1, e2, e3] at HR
    clear hr e1 e2 e3
    unfold lxr lxv lx0
    dsimp only
    go_enter Tryd.func32, Tryd.ntmps32
    go_wp2_with fail
    refine (HR.out _ (HT.out _)).mono ?_; rintro e w1 ⟨rfl, hb⟩
    obtain ⟨c0, c1, c2, c3, f0, f1, f2, f3⟩ := cells4 (kept_at hb (new_at w _))
    have hbw := (HB.out _).trans (hb.mono (by simp))
    clear hb
    go_wp2_with fail
    refine bodyPost_ret (v := .tuple #[.agg #[.int .i64 0, .string ⟨#[]⟩, .int .i64 0, .int .i64 0], .int .i64 0]) (by simp [results, Tryd.results32, go_sem, c0, c1, c2, c3]) rfl ⟨rfl, below_set4 hbw (Nat.le_refl _) _ _ _ _⟩
  | some r =>
    obtain ⟨t, k⟩ := r
    obtain ⟨e1, e2, e3⟩ := read_some hr
    rw [e1, e2, e3] at HR
    clear hr e1 e2 e3
    unfold lxr lxv
    dsimp only
    generalize (⟨t.toArray⟩ : ByteArray) = u at *
    go_enter Tryd.func32, Tryd.ntmps32
    go_wp2_with fail
    refine (HR.out _ (HT.out _)).mono ?_; rintro e w1 ⟨rfl, hb⟩
    obtain ⟨c0, c1, c2, c3, f0, f1, f2, f3⟩ := cells4 (kept_at hb (new_at w _))
    have hbw := (HB.out _).trans (hb.mono (by simp))
    clear hb
    go_wp2_with fail
    refine bodyPost_ret (v := .tuple #[.agg #[.int .i64 2, .string u, .int .i64 0, .int .i64 0], .int .i64 (k : Nat)]) (by simp [results, Tryd.results32, go_sem, c0, c1, c2, c3]) rfl ⟨rfl, below_set4 hbw (Nat.le_refl _) _ _ _ _⟩

/-- A text's first byte. -/
theorem first_byte {s : ByteArray} {b : UInt8} {t : List UInt8} (h : s.data.toList = b :: t) : ∃ h0 : 0 < s.size, s[0] = b := by
  have h1 : s.data.toList.length = s.size := by simp
  have h0 : 0 < s.size := by rw [← h1, h, List.length_cons]; omega
  refine ⟨h0, ?_⟩
  have h2 : s.data.toList[0]? = some b := by rw [h]; rfl
  have h3 : s.data.toList[0]? = some s[0] := by
    rw [List.getElem?_eq_getElem (by omega)]; rfl
  rw [h3] at h2
  exact Option.some.inj h2

set_option maxHeartbeats 1000000 in
theorem tok_single (s : ByteArray) (c : Int) (b : UInt8) (t : List UInt8) (w : World) (h : s.data.toList = b :: t) (hc : c = (b.toNat : Int)) :
    Calls Tryd.prog 33 #[.string s, .int .i32 c] w fun e w' => e = .returned (lxr (singleL b)) ∧ Below w.heap.size w w' := by
  obtain ⟨h0, _⟩ := first_byte h
  have HX := Lib.hid (ext_take s 1)
  rw [h, List.take_succ_cons, List.take_zero] at HX
  have HB := Lib.hid (fun o : Obj => (Below.refl w.heap.size w).alloc (Nat.le_refl _) o)
  have hk : (c == 33) = true ∨ ((c == 33) = false ∧ (c == 59) = true) ∨ ((c == 33) = false ∧ (c == 59) = false ∧ b ≠ 33 ∧ b ≠ 59) := by
    by_cases h1 : c = 33
    · exact .inl (by simpa using h1)
    by_cases h2 : c = 59
    · exact .inr (.inl ⟨by simpa using h1, by simpa using h2⟩)
    · exact .inr (.inr ⟨by simpa using h1, by simpa using h2, fun e => h1 (by rw [hc, e]; rfl), fun e => h2 (by rw [hc, e]; rfl)⟩)
  obtain ⟨E, hE⟩ : ∃ E, singleL b = E := ⟨_, rfl⟩
  have hk1 : (c == 33) = true ∨ (c == 59) = true → singleL b = ⟨1, [b], 0, 1⟩ := fun h => by
    unfold singleL
    have : b = 33 ∨ b = 59 := by
      rcases h with h | h
      · left; apply UInt8.toNat_inj.1; simp at h; have : ((33 : UInt8).toNat : Int) = 33 := rfl; omega
      · right; apply UInt8.toNat_inj.1; simp at h; have : ((59 : UInt8).toNat : Int) = 59 := rfl; omega
    rw [if_pos this]
  have hk2 : b ≠ 33 ∧ b ≠ 59 → singleL b = ⟨6, [b], 0, 1⟩ := fun h => by
    unfold singleL
    rw [if_neg (by rintro (e | e); exact h.1 e; exact h.2 e)]
  rw [hE] at hk1 hk2 ⊢
  have HK1 := Lib.hid hk1
  have HK2 := Lib.hid hk2
  clear hk1 hk2 hE hc h
  rcases hk with e1 | ⟨e1, e2⟩ | ⟨e1, e2, n1⟩
  · rw [HK1.out (.inl e1)]
    unfold lxr lxv
    dsimp only
    go_enter Tryd.func33, Tryd.ntmps33
    go_wp2_with fail
    refine bodyPost_ret (v := .tuple #[.agg #[.int .i64 1, .string (s.extract 0 1), .int .i64 0, .int .i64 0], .int .i64 1]) (by simp [results, Tryd.results33, go_sem]) rfl ⟨by rw [HX.out]; rfl, HB.out _⟩
  · rw [HK1.out (.inr e2)]
    unfold lxr lxv
    dsimp only
    go_enter Tryd.func33, Tryd.ntmps33
    go_wp2_with fail
    refine bodyPost_ret (v := .tuple #[.agg #[.int .i64 1, .string (s.extract 0 1), .int .i64 0, .int .i64 0], .int .i64 1]) (by simp [results, Tryd.results33, go_sem]) rfl ⟨by rw [HX.out]; rfl, HB.out _⟩
  · rw [HK2.out n1]
    clear n1
    unfold lxr lxv
    dsimp only
    go_enter Tryd.func33, Tryd.ntmps33
    go_wp2_with fail
    refine bodyPost_ret (v := .tuple #[.agg #[.int .i64 6, .string (s.extract 0 1), .int .i64 0, .int .i64 0], .int .i64 1]) (by simp [results, Tryd.results33, go_sem]) rfl ⟨by rw [HX.out]; rfl, HB.out _⟩

set_option maxHeartbeats 1000000 in
theorem tok_parts (s : ByteArray) (w : World) :
    Calls Tryd.prog 52 #[.string s] w fun e w' => e = .returned (.bool (partsL s.data.toList)) ∧ w = w' := by
  cases hl : s.data.toList with
  | nil =>
    have h0 : s.size = 0 := by rw [← size_listT, hl]; rfl
    have f0 : s.toList.isEmpty = true := by rw [ByteArray.toList_eq, hl]; rfl
    clear hl
    unfold partsL
    go_enter Tryd.func52, Tryd.ntmps52
    go_wp2_with fail
    go_ret
    exact ⟨rfl, rfl⟩
  | cons b t =>
    obtain ⟨h0, hb⟩ := first_byte hl
    have f0 : s.toList.isEmpty = false := by rw [ByteArray.toList_eq, hl]; rfl
    have hb2 : (b.toNat : Int) < 256 := by have := b.toNat_lt; omega
    have HC := Lib.hid (dev_Class (b.toNat : Int) w)
    unfold partsL
    dsimp only
    generalize cls (b.toNat : Int) = q at *
    have e1 : ((b.toNat : Int) == 37) = decide (b = 37) := by
      rw [Bool.eq_iff_iff]
      simp only [beq_iff_eq, decide_eq_true_eq]
      constructor
      · intro h; apply UInt8.toNat_inj.1; have : ((37 : UInt8).toNat : Int) = 37 := rfl; omega
      · rintro rfl; rfl
    clear hl
    generalize hx : s[0] = x at *
    subst hb
    cases h37 : decide (x = 37) with
    | true =>
      rw [h37] at e1
      go_enter Tryd.func52, Tryd.ntmps52
      go_wp2_with fail
      go_ret
      exact ⟨rfl, rfl⟩
    | false =>
      rw [h37] at e1
      go_enter Tryd.func52, Tryd.ntmps52
      go_wp2_with fail
      refine HC.out.mono ?_; rintro e w1 ⟨rfl, rfl⟩
      go_wp2_with fail
      go_ret
      exact ⟨ret_boolT (by rw [Bool.false_or, Bool.eq_iff_iff]; simp), rfl⟩
end Go.Proofs.YtglaoacdenecfaaDoor
