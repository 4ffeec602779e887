/-
  What the document's own token answers, in plain words.
-/
import Derived.Test.YtglaoacdenecfaaDoorTokU
import Derived.Test.YtglaoacdenecfaaDoorCharAgainM
namespace Go.Proofs.YtglaoacdenecfaaDoor
open Go.RowKit

theorem valid_low : ∀ (l : List UInt8), (∀ b ∈ l, b.toNat < 128) → Lib.validD l = true
  | [], _ => rfl
  | b :: t, h => by
    have hb := h b (List.mem_cons_self ..)
    rw [valid_step _ (List.cons_ne_nil _ _), Lib.decodeL_ascii b t hb]
    dsimp only
    rw [if_neg (by omega)]
    exact valid_low t (fun c hc => h c (List.mem_cons_of_mem _ hc))
theorem check_span (P : Int → Bool) (hP : ∀ c : Int, 128 ≤ c → P c = false) (l : List UInt8) : checkL (l.take (spanL P l)) = decide (spanL P l ≤ 255) := by
  unfold checkL
  rw [valid_low _ (fun b hb => ?_), Bool.and_true, List.length_take, Nat.min_eq_left (spanL_le P l)]
  rw [take_spanL] at hb
  have h := List.all_eq_true.1 (List.all_takeWhile (p := fun b : UInt8 => P (b.toNat : Int)) (l := l)) b hb
  apply Classical.byContradiction
  intro h2
  rw [hP _ (by omega)] at h
  cases h
theorem named_span (k : Int) (P : Int → Bool) (hP : ∀ c : Int, 128 ≤ c → P c = false) (l : List UInt8) : namedL ⟨k, l.take (spanL P l), 0, spanL P l⟩ = if spanL P l ≤ 255 then ⟨k, l.take (spanL P l), 0, spanL P l⟩ else lx0 := by
  unfold namedL
  dsimp only
  rw [check_span P hP]
  by_cases h : spanL P l ≤ 255
  · rw [decide_eq_true h, if_pos rfl, if_pos h]
  · rw [decide_eq_false h, if_neg (by decide), if_neg h]
theorem kind_same {x : Lx} (gl : Bool) (h : x.kind ≠ 6) : kindL gl x = x.kind := by
  unfold kindL
  rw [if_neg (fun h2 => h h2.2.2)]
/-- What token answers. -/
def TokAns (l : List UInt8) (p : Nat) (gl : Bool) (e : Ending) : Prop := ∃ (k n q : Int) (t : ByteArray) (en : Nat) (ok : Bool), e = .returned (.tuple #[.agg #[.int .i64 k, .string t, .int .i64 n, .int .i64 q], .int .i64 (en : Nat), .bool ok]) ∧
  ok = decide ((lexL l).w ≠ 0) ∧ (ok = true → (lexL l).kind ≠ 0 ∧ k = kindL gl (lexL l) ∧ t = ⟨(lexL l).text.toArray⟩ ∧ n = (lexL l).n ∧ q = (p : Nat) ∧ en = p + (lexL l).w)
theorem ans_own {s : ByteArray} {p E n : Nat} {k kx : Int} {gl : Bool} (hE : p + n = E) (hn : n ≠ 0) (hkx : kx ≠ 0) (hlex : lexL (s.data.toList.drop p) = if longB k n = true then lx0 else ⟨kx, (s.data.toList.drop p).take n, 0, n⟩)
    (hk : kindL gl ⟨kx, (s.data.toList.drop p).take n, 0, n⟩ = k) :
    TokAns (s.data.toList.drop p) p gl (.returned (.tuple #[.agg #[.int .i64 k, .string (s.extract p E), .int .i64 0, .int .i64 (p : Nat)], .int .i64 (E : Nat), .bool (!longB k (E - p))])) := by
  have hEp : E - p = n := by omega
  refine ⟨k, 0, (p : Nat), s.extract p E, E, !longB k (E - p), rfl, ?_, fun h => ?_⟩
  · rw [hEp, hlex]
    cases longB k n with
    | true => rfl
    | false =>
      rw [if_neg (by decide)]
      symm
      exact decide_eq_true hn
  · rw [hEp] at h
    have hl : longB k n = false := by simpa using h
    rw [hlex, hl, if_neg (by decide)]
    exact ⟨hkx, hk.symm, by rw [Lib.extract_eq, hEp], rfl, rfl, hE.symm⟩
theorem ks_three (w : World) (t : TypeId) (a b c : Int) : Ks (w.alloc (.cells #[.int .i64 a, .int .i64 b, .int .i64 c] t)) w.heap.size [a, b, c] := by
  intro i h
  match i, h with
  | 0, _ => exact World.cell?_alloc_at _ _ _ _ rfl
  | 1, _ => exact World.cell?_alloc_at _ _ _ _ rfl
  | 2, _ => exact World.cell?_alloc_at _ _ _ _ rfl
theorem ks_one (w : World) (t : TypeId) (k : Int) : Ks (w.alloc (.cells #[.int .i64 k] t)) w.heap.size [k] := by
  intro i h
  have : i = 0 := by simp at h; omega
  subst this
  exact World.cell?_alloc_at _ _ _ _ rfl
theorem amongW : amongK [1, 2, 3] = nameR := by
  funext c
  unfold amongK nameR
  rw [Bool.eq_iff_iff]; simp
theorem amongS : amongK [4] = signR := by
  funext c
  unfold amongK signR
  rw [Bool.eq_iff_iff]; simp
theorem long_no (k : Int) (n : Nat) (h1 : k ≠ 1) (h3 : k ≠ 3) : longB k n = false := by
  unfold longB
  rw [beq_eq_false_iff_ne.2 h1, beq_eq_false_iff_ne.2 h3]; simp
theorem long_one (k : Int) (n : Nat) (h : k = 1 ∨ k = 3) : longB k n = decide (255 < n) := by
  unfold longB
  rcases h with rfl | rfl <;> simp
theorem long_if {k : Int} {n : Nat} (h : k = 1 ∨ k = 3) (x : Lx) : (if n ≤ 255 then x else lx0) = if longB k n = true then lx0 else x := by
  rw [long_one k n h]
  by_cases h2 : n ≤ 255
  · rw [if_pos h2, decide_eq_false (by omega), if_neg (by decide)]
  · rw [if_neg h2, decide_eq_true (by omega), if_pos rfl]

set_option maxRecDepth 100000 in
set_option maxHeartbeats 4000000 in
theorem tok_c1 (s : ByteArray) (p : Nat) (gl : Bool) (w : World) (hs : s.size ≤ 200000) (hp : p < s.size) (hc : cls (s[p].toNat : Int) = 1) :
    Calls Tryd.prog 20 #[.string s, .int .i64 (p : Nat), .bool gl] w fun e w' => TokAns (s.data.toList.drop p) p gl e ∧ Below w.heap.size w w' := by
  have hda := drop_at s p hp
  have hp0 : (0 : Int) ≤ (p : Int) := by omega
  have hp1 : (p : Int) < (s.size : Int) := by omega
  have HC := Lib.hid (fun W => by
    have := ref_class s p W (by omega)
    rw [cl1_at s p hp, hc] at this
    exact this)
  obtain ⟨n, hn⟩ : ∃ n, spanL nameR (s.data.toList.drop p) = n := ⟨_, rfl⟩
  have hn0 : n ≠ 0 := by rw [← hn, hda]; exact Nat.pos_iff_ne_zero.1 (spanL_pos _ _ _ (by unfold nameR; rw [hc]; decide))
  have hnl := spanL_le nameR (s.data.toList.drop p)
  rw [hn, List.length_drop, size_listT] at hnl
  obtain ⟨E, hE⟩ : ∃ E, p + n = E := ⟨_, rfl⟩
  have HRUN := Lib.hid (fun (W : World) (g : Nat) (h : Ks W g [1, 2, 3]) => by
    have := ref_run s p [1, 2, 3] g W hs (by omega) h (by decide) (by decide)
    rw [amongW, hn, hE] at this
    exact this)
  have hE0 : (p : Int) < (E : Int) := by omega
  have hE1 : (E : Int) ≤ (s.size : Int) := by omega
  have hlex : lexL (s.data.toList.drop p) = if longB 1 n = true then lx0 else ⟨1, (s.data.toList.drop p).take n, 0, n⟩ := by
    have h : lexL (s.data.toList.drop p) = namedL (wordL 1 (s.data.toList.drop p)) := by
      rw [hda]; unfold lexL; dsimp only; rw [hc, if_neg (by decide), if_pos rfl]
    rw [h]
    unfold wordL
    rw [named_span 1 nameR nameR_high, hn]
    exact long_if (.inl rfl) _
  have HB := Lib.hid (fun o : Obj => (Below.refl w.heap.size w).alloc (Nat.le_refl _) o)
  have HOWN := Lib.hid (fun W => ref_own s p 1 E W hs (by omega) (by omega))
  have hans := ans_own (s := s) (gl := gl) hE hn0 (by decide) hlex (kind_same gl (show (1 : Int) ≠ 6 by decide))
  generalize (!longB 1 (E - p)) = ok at *
  have HANS := Lib.hid hans
  clear hans
  clear hda hc hlex hn hE
  go_enter Tryd.func20, Tryd.ntmps20
  go_wp2_with fail
  refine (HC.out _).mono ?_; rintro e w0 ⟨rfl, rfl⟩
  go_wp2_with fail
  generalize hW0 : w.alloc (.cells #[.int .i64 0, .string ⟨#[]⟩, .int .i64 0, .int .i64 0] 30) = W0
  have kz : W0.heap[w.heap.size]? = some (.cells #[.int .i64 0, .string ⟨#[]⟩, .int .i64 0, .int .i64 0] 30) := by rw [← hW0]; exact new_at w _
  have hbW : Below w.heap.size w W0 := by rw [← hW0]; exact HB.out _
  have hsz : W0.heap.size = w.heap.size + 1 := by rw [← hW0]; simp
  rw [← hsz]
  refine (HRUN.out _ _ (ks_three W0 3 1 2 3)).mono ?_; rintro e w8 ⟨rfl, rfl⟩
  have kz8 := past_at kz (.cells #[.int .i64 1, .int .i64 2, .int .i64 3] 3)
  have hb8 := hbW.alloc hbW.size (.cells #[.int .i64 1, .int .i64 2, .int .i64 3] 3)
  generalize W0.alloc (.cells #[.int .i64 1, .int .i64 2, .int .i64 3] 3) = w8 at *
  clear hW0 kz hbW hsz
  go_wp2_with fail
  refine (HOWN.out _).mono ?_; rintro e w9 ⟨rfl, hb9⟩
  have kz9 := kept_at hb9 kz8
  have hbA := hb8.trans (hb9.mono hb8.size)
  have hl9 : w.heap.size < w9.heap.size := (Array.getElem?_eq_some_iff.1 kz9).1
  obtain ⟨c0, c1, c2, c3, f0, f1, f2, f3⟩ := cells4 kz9
  clear kz8 kz9 hb8 hb9
  go_wp2_with fail
  refine bodyPost_ret (v := .tuple #[.agg #[.int .i64 1, .string (s.extract p E), .int .i64 0, .int .i64 (p : Nat)], .int .i64 (E : Nat), .bool ok]) (by simp [results, Tryd.results20, go_sem, c0, c1, c2, c3]) rfl ⟨HANS.out, ?_⟩
  exact below_set4 hbA (Nat.le_refl _) _ _ _ _

set_option maxRecDepth 100000 in
set_option maxHeartbeats 4000000 in
theorem tok_c2 (s : ByteArray) (p : Nat) (gl : Bool) (w : World) (hs : s.size ≤ 200000) (hp : p < s.size) (hc : cls (s[p].toNat : Int) = 2) :
    Calls Tryd.prog 20 #[.string s, .int .i64 (p : Nat), .bool gl] w fun e w' => TokAns (s.data.toList.drop p) p gl e ∧ Below w.heap.size w w' := by
  have hda := drop_at s p hp
  have hp0 : (0 : Int) ≤ (p : Int) := by omega
  have hp1 : (p : Int) < (s.size : Int) := by omega
  have HC := Lib.hid (fun W => by
    have := ref_class s p W (by omega)
    rw [cl1_at s p hp, hc] at this
    exact this)
  obtain ⟨n, hn⟩ : ∃ n, spanL nameR (s.data.toList.drop p) = n := ⟨_, rfl⟩
  have hn0 : n ≠ 0 := by rw [← hn, hda]; exact Nat.pos_iff_ne_zero.1 (spanL_pos _ _ _ (by unfold nameR; rw [hc]; decide))
  have hnl := spanL_le nameR (s.data.toList.drop p)
  rw [hn, List.length_drop, size_listT] at hnl
  obtain ⟨E, hE⟩ : ∃ E, p + n = E := ⟨_, rfl⟩
  have HRUN := Lib.hid (fun (W : World) (g : Nat) (h : Ks W g [1, 2, 3]) => by
    have := ref_run s p [1, 2, 3] g W hs (by omega) h (by decide) (by decide)
    rw [amongW, hn, hE] at this
    exact this)
  have hE0 : (p : Int) < (E : Int) := by omega
  have hE1 : (E : Int) ≤ (s.size : Int) := by omega
  have hlex : lexL (s.data.toList.drop p) = if longB 4 n = true then lx0 else ⟨4, (s.data.toList.drop p).take n, 0, n⟩ := by
    have h : lexL (s.data.toList.drop p) = wordL 4 (s.data.toList.drop p) := by
      rw [hda]; unfold lexL; dsimp only; rw [hc, if_neg (by decide), if_neg (by decide), if_pos rfl]
    rw [h, long_no 4 n (by decide) (by decide), if_neg (by decide)]
    unfold wordL
    rw [hn]
  have HB := Lib.hid (fun o : Obj => (Below.refl w.heap.size w).alloc (Nat.le_refl _) o)
  have HOWN := Lib.hid (fun W => ref_own s p 4 E W hs (by omega) (by omega))
  have hans := ans_own (s := s) (gl := gl) hE hn0 (by decide) hlex (kind_same gl (show (4 : Int) ≠ 6 by decide))
  generalize (!longB 4 (E - p)) = ok at *
  have HANS := Lib.hid hans
  clear hans
  clear hda hc hlex hn hE
  go_enter Tryd.func20, Tryd.ntmps20
  go_wp2_with fail
  refine (HC.out _).mono ?_; rintro e w0 ⟨rfl, rfl⟩
  go_wp2_with fail
  generalize hW0 : w.alloc (.cells #[.int .i64 0, .string ⟨#[]⟩, .int .i64 0, .int .i64 0] 30) = W0
  have kz : W0.heap[w.heap.size]? = some (.cells #[.int .i64 0, .string ⟨#[]⟩, .int .i64 0, .int .i64 0] 30) := by rw [← hW0]; exact new_at w _
  have hbW : Below w.heap.size w W0 := by rw [← hW0]; exact HB.out _
  have hsz : W0.heap.size = w.heap.size + 1 := by rw [← hW0]; simp
  rw [← hsz]
  refine (HRUN.out _ _ (ks_three W0 3 1 2 3)).mono ?_; rintro e w8 ⟨rfl, rfl⟩
  have kz8 := past_at kz (.cells #[.int .i64 1, .int .i64 2, .int .i64 3] 3)
  have hb8 := hbW.alloc hbW.size (.cells #[.int .i64 1, .int .i64 2, .int .i64 3] 3)
  generalize W0.alloc (.cells #[.int .i64 1, .int .i64 2, .int .i64 3] 3) = w8 at *
  clear hW0 kz hbW hsz
  go_wp2_with fail
  refine (HOWN.out _).mono ?_; rintro e w9 ⟨rfl, hb9⟩
  have kz9 := kept_at hb9 kz8
  have hbA := hb8.trans (hb9.mono hb8.size)
  have hl9 : w.heap.size < w9.heap.size := (Array.getElem?_eq_some_iff.1 kz9).1
  obtain ⟨c0, c1, c2, c3, f0, f1, f2, f3⟩ := cells4 kz9
  clear kz8 kz9 hb8 hb9
  go_wp2_with fail
  refine bodyPost_ret (v := .tuple #[.agg #[.int .i64 4, .string (s.extract p E), .int .i64 0, .int .i64 (p : Nat)], .int .i64 (E : Nat), .bool ok]) (by simp [results, Tryd.results20, go_sem, c0, c1, c2, c3]) rfl ⟨HANS.out, ?_⟩
  exact below_set4 hbA (Nat.le_refl _) _ _ _ _
end Go.Proofs.YtglaoacdenecfaaDoor
