/-
  What the document's own token answers at a single byte, signs, a quote, and elsewhere.
-/
import Derived.Test.YtglaoacdenecfaaDoorTokW
namespace Go.Proofs.YtglaoacdenecfaaDoor
open Go.RowKit

set_option maxRecDepth 100000 in
set_option maxHeartbeats 4000000 in
theorem tok_c6a (s : ByteArray) (p : Nat) (gl : Bool) (w : World) (hs : s.size ≤ 200000) (hp : p < s.size) (hc : cls (s[p].toNat : Int) = 6) (hb : s[p] = 33) :
    Calls Tryd.prog 20 #[.string s, .int .i64 (p : Nat), .bool gl] w fun e w' => TokAns (s.data.toList.drop p) p gl e ∧ Below w.heap.size w w' := by
  have hda := drop_at s p hp
  have hp0 : (0 : Int) ≤ (p : Int) := by omega
  have hp1 : (p : Int) < (s.size : Int) := by omega
  have HC := Lib.hid (fun W => by
    have := ref_class s p W (by omega)
    rw [cl1_at s p hp, hc] at this
    exact this)
  have f33 : ((s[p].toNat : Int) == 33) = true := (byte_is s[p] 33).trans (decide_eq_true hb)
  have htk : (s.data.toList.drop p).take 1 = [s[p]] := by rw [hda]; rfl
  have hlex : lexL (s.data.toList.drop p) = if longB 1 1 = true then lx0 else ⟨1, (s.data.toList.drop p).take 1, 0, 1⟩ := by
    rw [show longB 1 1 = false from by decide, if_neg (by decide), htk, hda]
    unfold lexL
    dsimp only
    rw [hc, if_neg (by decide), if_neg (by decide), if_neg (by decide), if_neg (by decide), if_neg (by decide), if_neg (by decide), if_pos (by decide)]
    unfold singleL
    rw [if_pos (.inl hb)]
  obtain ⟨E, hE⟩ : ∃ E, p + 1 = E := ⟨_, rfl⟩
  have HE := Lib.hid (show ((p : Int) + 1) = (E : Int) by omega)
  have HB := Lib.hid (fun o : Obj => (Below.refl w.heap.size w).alloc (Nat.le_refl _) o)
  have HOWN := Lib.hid (fun W => by
    have := ref_own s p 1 E W hs (by omega) (by omega)
    rw [← HE.out] at this
    exact this)
  have hans := ans_own (s := s) (gl := gl) (n := 1) (k := 1) hE (by decide) (by decide) hlex (by rw [htk]; exact kind_same gl (show (1 : Int) ≠ 6 by decide))
  rw [← HE.out] at hans
  generalize (!longB 1 (E - p)) = ok at *
  have HANS := Lib.hid hans
  have hq2 : (p : Int) + 1 ≤ (s.size : Int) := by omega
  clear hans hda hc htk hlex hE
  go_enter Tryd.func20, Tryd.ntmps20
  go_wp2_with fail
  refine (HC.out _).mono ?_; rintro e w0 ⟨rfl, rfl⟩
  go_wp2_with fail
  have kz8 := new_at w (.cells #[.int .i64 0, .string ⟨#[]⟩, .int .i64 0, .int .i64 0] 30)
  have hb8 := HB.out (.cells #[.int .i64 0, .string ⟨#[]⟩, .int .i64 0, .int .i64 0] 30)
  generalize w.alloc (.cells #[.int .i64 0, .string ⟨#[]⟩, .int .i64 0, .int .i64 0] 30) = w8 at *
  refine (HOWN.out _).mono ?_; rintro e w9 ⟨rfl, hb9⟩
  have kz9 := kept_at hb9 kz8
  have hbA := hb8.trans (hb9.mono hb8.size)
  have hl9 : w.heap.size < w9.heap.size := (Array.getElem?_eq_some_iff.1 kz9).1
  obtain ⟨c0, c1, c2, c3, f0, f1, f2, f3⟩ := cells4 kz9
  clear kz8 kz9 hb8 hb9
  go_wp2_with fail
  refine bodyPost_ret (v := .tuple #[.agg #[.int .i64 1, .string (s.extract p E), .int .i64 0, .int .i64 (p : Nat)], .int .i64 ((p : Int) + 1), .bool ok]) (by simp [results, Tryd.results20, go_sem, c0, c1, c2, c3]) rfl ⟨HANS.out, ?_⟩
  exact below_set4 hbA (Nat.le_refl _) _ _ _ _

set_option maxRecDepth 100000 in
set_option maxHeartbeats 4000000 in
theorem tok_c6b (s : ByteArray) (p : Nat) (gl : Bool) (w : World) (hs : s.size ≤ 200000) (hp : p < s.size) (hc : cls (s[p].toNat : Int) = 6) (hb : s[p] ≠ 33) (hb2 : s[p] = 59) :
    Calls Tryd.prog 20 #[.string s, .int .i64 (p : Nat), .bool gl] w fun e w' => TokAns (s.data.toList.drop p) p gl e ∧ Below w.heap.size w w' := by
  have hda := drop_at s p hp
  have hp0 : (0 : Int) ≤ (p : Int) := by omega
  have hp1 : (p : Int) < (s.size : Int) := by omega
  have HC := Lib.hid (fun W => by
    have := ref_class s p W (by omega)
    rw [cl1_at s p hp, hc] at this
    exact this)
  have f33 : ((s[p].toNat : Int) == 33) = false := (byte_is s[p] 33).trans (decide_eq_false hb)
  have f59 : ((s[p].toNat : Int) == 59) = true := (byte_is s[p] 59).trans (decide_eq_true hb2)
  have htk : (s.data.toList.drop p).take 1 = [s[p]] := by rw [hda]; rfl
  have hlex : lexL (s.data.toList.drop p) = if longB 1 1 = true then lx0 else ⟨1, (s.data.toList.drop p).take 1, 0, 1⟩ := by
    rw [show longB 1 1 = false from by decide, if_neg (by decide), htk, hda]
    unfold lexL
    dsimp only
    rw [hc, if_neg (by decide), if_neg (by decide), if_neg (by decide), if_neg (by decide), if_neg (by decide), if_neg (by decide), if_pos (by decide)]
    unfold singleL
    rw [if_pos (.inr hb2)]
  obtain ⟨E, hE⟩ : ∃ E, p + 1 = E := ⟨_, rfl⟩
  have HE := Lib.hid (show ((p : Int) + 1) = (E : Int) by omega)
  have HB := Lib.hid (fun o : Obj => (Below.refl w.heap.size w).alloc (Nat.le_refl _) o)
  have HOWN := Lib.hid (fun W => by
    have := ref_own s p 1 E W hs (by omega) (by omega)
    rw [← HE.out] at this
    exact this)
  have hans := ans_own (s := s) (gl := gl) (n := 1) (k := 1) hE (by decide) (by decide) hlex (by rw [htk]; exact kind_same gl (show (1 : Int) ≠ 6 by decide))
  rw [← HE.out] at hans
  generalize (!longB 1 (E - p)) = ok at *
  have HANS := Lib.hid hans
  have hq2 : (p : Int) + 1 ≤ (s.size : Int) := by omega
  clear hans hda hc htk hlex hE
  go_enter Tryd.func20, Tryd.ntmps20
  go_wp2_with fail
  refine (HC.out _).mono ?_; rintro e w0 ⟨rfl, rfl⟩
  go_wp2_with fail
  have kz8 := new_at w (.cells #[.int .i64 0, .string ⟨#[]⟩, .int .i64 0, .int .i64 0] 30)
  have hb8 := HB.out (.cells #[.int .i64 0, .string ⟨#[]⟩, .int .i64 0, .int .i64 0] 30)
  generalize w.alloc (.cells #[.int .i64 0, .string ⟨#[]⟩, .int .i64 0, .int .i64 0] 30) = w8 at *
  refine (HOWN.out _).mono ?_; rintro e w9 ⟨rfl, hb9⟩
  have kz9 := kept_at hb9 kz8
  have hbA := hb8.trans (hb9.mono hb8.size)
  have hl9 : w.heap.size < w9.heap.size := (Array.getElem?_eq_some_iff.1 kz9).1
  obtain ⟨c0, c1, c2, c3, f0, f1, f2, f3⟩ := cells4 kz9
  clear kz8 kz9 hb8 hb9
  go_wp2_with fail
  refine bodyPost_ret (v := .tuple #[.agg #[.int .i64 1, .string (s.extract p E), .int .i64 0, .int .i64 (p : Nat)], .int .i64 ((p : Int) + 1), .bool ok]) (by simp [results, Tryd.results20, go_sem, c0, c1, c2, c3]) rfl ⟨HANS.out, ?_⟩
  exact below_set4 hbA (Nat.le_refl _) _ _ _ _

set_option maxRecDepth 100000 in
set_option maxHeartbeats 4000000 in
theorem tok_c6c (s : ByteArray) (p : Nat) (gl : Bool) (w : World) (hs : s.size ≤ 200000) (hp : p < s.size) (hc : cls (s[p].toNat : Int) = 6) (hb : s[p] ≠ 33) (hb2 : s[p] ≠ 59) (hb3 : s[p] ≠ 40) :
    Calls Tryd.prog 20 #[.string s, .int .i64 (p : Nat), .bool gl] w fun e w' => TokAns (s.data.toList.drop p) p gl e ∧ Below w.heap.size w w' := by
  have hda := drop_at s p hp
  have hp0 : (0 : Int) ≤ (p : Int) := by omega
  have hp1 : (p : Int) < (s.size : Int) := by omega
  have HC := Lib.hid (fun W => by
    have := ref_class s p W (by omega)
    rw [cl1_at s p hp, hc] at this
    exact this)
  have f33 : ((s[p].toNat : Int) == 33) = false := (byte_is s[p] 33).trans (decide_eq_false hb)
  have f59 : ((s[p].toNat : Int) == 59) = false := (byte_is s[p] 59).trans (decide_eq_false hb2)
  have htk : (s.data.toList.drop p).take 1 = [s[p]] := by rw [hda]; rfl
  have hlex : lexL (s.data.toList.drop p) = if longB 6 1 = true then lx0 else ⟨6, (s.data.toList.drop p).take 1, 0, 1⟩ := by
    rw [show longB 6 1 = false from by decide, if_neg (by decide), htk, hda]
    unfold lexL
    dsimp only
    rw [hc, if_neg (by decide), if_neg (by decide), if_neg (by decide), if_neg (by decide), if_neg (by decide), if_neg (by decide), if_pos (by decide)]
    unfold singleL
    rw [if_neg (by rintro (h | h); exact hb h; exact hb2 h)]
  obtain ⟨E, hE⟩ : ∃ E, p + 1 = E := ⟨_, rfl⟩
  have HE := Lib.hid (show ((p : Int) + 1) = (E : Int) by omega)
  have HB := Lib.hid (fun o : Obj => (Below.refl w.heap.size w).alloc (Nat.le_refl _) o)
  have HOWN := Lib.hid (fun W => by
    have := ref_own s p 6 E W hs (by omega) (by omega)
    rw [← HE.out] at this
    exact this)
  have hans := ans_own (s := s) (gl := gl) (n := 1) (k := 6) hE (by decide) (by decide) hlex (by rw [htk]; unfold kindL; rw [if_neg]; rintro ⟨_, h, _⟩; injection h with h _; exact hb3 h)
  rw [← HE.out] at hans
  generalize (!longB 6 (E - p)) = ok at *
  have HANS := Lib.hid hans
  have hq2 : (p : Int) + 1 ≤ (s.size : Int) := by omega
  clear hans hda hc htk hlex hE
  go_enter Tryd.func20, Tryd.ntmps20
  go_wp2_with fail
  refine (HC.out _).mono ?_; rintro e w0 ⟨rfl, rfl⟩
  go_wp2_with fail
  have kz8 := new_at w (.cells #[.int .i64 0, .string ⟨#[]⟩, .int .i64 0, .int .i64 0] 30)
  have hb8 := HB.out (.cells #[.int .i64 0, .string ⟨#[]⟩, .int .i64 0, .int .i64 0] 30)
  generalize w.alloc (.cells #[.int .i64 0, .string ⟨#[]⟩, .int .i64 0, .int .i64 0] 30) = w8 at *
  refine (HOWN.out _).mono ?_; rintro e w9 ⟨rfl, hb9⟩
  have kz9 := kept_at hb9 kz8
  have hbA := hb8.trans (hb9.mono hb8.size)
  have hl9 : w.heap.size < w9.heap.size := (Array.getElem?_eq_some_iff.1 kz9).1
  obtain ⟨c0, c1, c2, c3, f0, f1, f2, f3⟩ := cells4 kz9
  clear kz8 kz9 hb8 hb9
  go_wp2_with fail
  refine bodyPost_ret (v := .tuple #[.agg #[.int .i64 6, .string (s.extract p E), .int .i64 0, .int .i64 (p : Nat)], .int .i64 ((p : Int) + 1), .bool ok]) (by simp [results, Tryd.results20, go_sem, c0, c1, c2, c3]) rfl ⟨HANS.out, ?_⟩
  exact below_set4 hbA (Nat.le_refl _) _ _ _ _

set_option maxRecDepth 100000 in
set_option maxHeartbeats 4000000 in
theorem tok_c7a (s : ByteArray) (p : Nat) (gl : Bool) (w : World) (hs : s.size ≤ 200000) (hp : p < s.size) (hc : cls (s[p].toNat : Int) = 7) (hb : s[p] ≠ 33) (hb2 : s[p] ≠ 59) (hb3 : s[p] ≠ 40) :
    Calls Tryd.prog 20 #[.string s, .int .i64 (p : Nat), .bool gl] w fun e w' => TokAns (s.data.toList.drop p) p gl e ∧ Below w.heap.size w w' := by
  have hda := drop_at s p hp
  have hp0 : (0 : Int) ≤ (p : Int) := by omega
  have hp1 : (p : Int) < (s.size : Int) := by omega
  have HC := Lib.hid (fun W => by
    have := ref_class s p W (by omega)
    rw [cl1_at s p hp, hc] at this
    exact this)
  have f40 : ((s[p].toNat : Int) == 40) = false := (byte_is s[p] 40).trans (decide_eq_false hb3)
  have htk : (s.data.toList.drop p).take 1 = [s[p]] := by rw [hda]; rfl
  have hlex : lexL (s.data.toList.drop p) = if longB 6 1 = true then lx0 else ⟨6, (s.data.toList.drop p).take 1, 0, 1⟩ := by
    rw [show longB 6 1 = false from by decide, if_neg (by decide), htk, hda]
    unfold lexL
    dsimp only
    rw [hc, if_neg (by decide), if_neg (by decide), if_neg (by decide), if_neg (by decide), if_neg (by decide), if_neg (by decide), if_pos (by decide)]
    unfold singleL
    rw [if_neg (by rintro (h | h); exact hb h; exact hb2 h)]
  obtain ⟨E, hE⟩ : ∃ E, p + 1 = E := ⟨_, rfl⟩
  have HE := Lib.hid (show ((p : Int) + 1) = (E : Int) by omega)
  have HB := Lib.hid (fun o : Obj => (Below.refl w.heap.size w).alloc (Nat.le_refl _) o)
  have HOWN := Lib.hid (fun W => by
    have := ref_own s p 6 E W hs (by omega) (by omega)
    rw [← HE.out] at this
    exact this)
  have hans := ans_own (s := s) (gl := gl) (n := 1) (k := 6) hE (by decide) (by decide) hlex (by rw [htk]; unfold kindL; rw [if_neg]; rintro ⟨_, h, _⟩; injection h with h _; exact hb3 h)
  rw [← HE.out] at hans
  generalize (!longB 6 (E - p)) = ok at *
  have HANS := Lib.hid hans
  have hq2 : (p : Int) + 1 ≤ (s.size : Int) := by omega
  clear hans hda hc htk hlex hE
  go_enter Tryd.func20, Tryd.ntmps20
  go_wp2_with fail
  refine (HC.out _).mono ?_; rintro e w0 ⟨rfl, rfl⟩
  go_wp2_with fail
  have kz8 := new_at w (.cells #[.int .i64 0, .string ⟨#[]⟩, .int .i64 0, .int .i64 0] 30)
  have hb8 := HB.out (.cells #[.int .i64 0, .string ⟨#[]⟩, .int .i64 0, .int .i64 0] 30)
  generalize w.alloc (.cells #[.int .i64 0, .string ⟨#[]⟩, .int .i64 0, .int .i64 0] 30) = w8 at *
  refine (HOWN.out _).mono ?_; rintro e w9 ⟨rfl, hb9⟩
  have kz9 := kept_at hb9 kz8
  have hbA := hb8.trans (hb9.mono hb8.size)
  have hl9 : w.heap.size < w9.heap.size := (Array.getElem?_eq_some_iff.1 kz9).1
  obtain ⟨c0, c1, c2, c3, f0, f1, f2, f3⟩ := cells4 kz9
  clear kz8 kz9 hb8 hb9
  go_wp2_with fail
  refine bodyPost_ret (v := .tuple #[.agg #[.int .i64 6, .string (s.extract p E), .int .i64 0, .int .i64 (p : Nat)], .int .i64 ((p : Int) + 1), .bool ok]) (by simp [results, Tryd.results20, go_sem, c0, c1, c2, c3]) rfl ⟨HANS.out, ?_⟩
  exact below_set4 hbA (Nat.le_refl _) _ _ _ _

set_option maxRecDepth 100000 in
set_option maxHeartbeats 4000000 in
theorem tok_c7b (s : ByteArray) (p : Nat) (gl : Bool) (w : World) (hs : s.size ≤ 200000) (hp : p < s.size) (hc : cls (s[p].toNat : Int) = 7) (hb : s[p] ≠ 33) (hb2 : s[p] ≠ 59) (hb3 : s[p] = 40) (hg : gl = false) :
    Calls Tryd.prog 20 #[.string s, .int .i64 (p : Nat), .bool gl] w fun e w' => TokAns (s.data.toList.drop p) p gl e ∧ Below w.heap.size w w' := by
  have hda := drop_at s p hp
  have hp0 : (0 : Int) ≤ (p : Int) := by omega
  have hp1 : (p : Int) < (s.size : Int) := by omega
  have HC := Lib.hid (fun W => by
    have := ref_class s p W (by omega)
    rw [cl1_at s p hp, hc] at this
    exact this)
  have f40 : ((s[p].toNat : Int) == 40) = true := (byte_is s[p] 40).trans (decide_eq_true hb3)
  have htk : (s.data.toList.drop p).take 1 = [s[p]] := by rw [hda]; rfl
  have hlex : lexL (s.data.toList.drop p) = if longB 6 1 = true then lx0 else ⟨6, (s.data.toList.drop p).take 1, 0, 1⟩ := by
    rw [show longB 6 1 = false from by decide, if_neg (by decide), htk, hda]
    unfold lexL
    dsimp only
    rw [hc, if_neg (by decide), if_neg (by decide), if_neg (by decide), if_neg (by decide), if_neg (by decide), if_neg (by decide), if_pos (by decide)]
    unfold singleL
    rw [if_neg (by rintro (h | h); exact hb h; exact hb2 h)]
  obtain ⟨E, hE⟩ : ∃ E, p + 1 = E := ⟨_, rfl⟩
  have HE := Lib.hid (show ((p : Int) + 1) = (E : Int) by omega)
  have HB := Lib.hid (fun o : Obj => (Below.refl w.heap.size w).alloc (Nat.le_refl _) o)
  have HOWN := Lib.hid (fun W => by
    have := ref_own s p 6 E W hs (by omega) (by omega)
    rw [← HE.out] at this
    exact this)
  have hans := ans_own (s := s) (gl := gl) (n := 1) (k := 6) hE (by decide) (by decide) hlex (by rw [htk]; unfold kindL; rw [if_neg]; rintro ⟨h, _⟩; rw [hg] at h; cases h)
  rw [← HE.out] at hans
  generalize (!longB 6 (E - p)) = ok at *
  have HANS := Lib.hid hans
  have hq2 : (p : Int) + 1 ≤ (s.size : Int) := by omega
  subst hg
  clear hans hda hc htk hlex hE
  go_enter Tryd.func20, Tryd.ntmps20
  go_wp2_with fail
  refine (HC.out _).mono ?_; rintro e w0 ⟨rfl, rfl⟩
  go_wp2_with fail
  have kz8 := new_at w (.cells #[.int .i64 0, .string ⟨#[]⟩, .int .i64 0, .int .i64 0] 30)
  have hb8 := HB.out (.cells #[.int .i64 0, .string ⟨#[]⟩, .int .i64 0, .int .i64 0] 30)
  generalize w.alloc (.cells #[.int .i64 0, .string ⟨#[]⟩, .int .i64 0, .int .i64 0] 30) = w8 at *
  refine (HOWN.out _).mono ?_; rintro e w9 ⟨rfl, hb9⟩
  have kz9 := kept_at hb9 kz8
  have hbA := hb8.trans (hb9.mono hb8.size)
  have hl9 : w.heap.size < w9.heap.size := (Array.getElem?_eq_some_iff.1 kz9).1
  obtain ⟨c0, c1, c2, c3, f0, f1, f2, f3⟩ := cells4 kz9
  clear kz8 kz9 hb8 hb9
  go_wp2_with fail
  refine bodyPost_ret (v := .tuple #[.agg #[.int .i64 6, .string (s.extract p E), .int .i64 0, .int .i64 (p : Nat)], .int .i64 ((p : Int) + 1), .bool ok]) (by simp [results, Tryd.results20, go_sem, c0, c1, c2, c3]) rfl ⟨HANS.out, ?_⟩
  exact below_set4 hbA (Nat.le_refl _) _ _ _ _

set_option maxRecDepth 100000 in
set_option maxHeartbeats 4000000 in
theorem tok_c7c (s : ByteArray) (p : Nat) (gl : Bool) (w : World) (hs : s.size ≤ 200000) (hp : p < s.size) (hc : cls (s[p].toNat : Int) = 7) (hb : s[p] ≠ 33) (hb2 : s[p] ≠ 59) (hb3 : s[p] = 40) (hg : gl = true) :
    Calls Tryd.prog 20 #[.string s, .int .i64 (p : Nat), .bool gl] w fun e w' => TokAns (s.data.toList.drop p) p gl e ∧ Below w.heap.size w w' := by
  have hda := drop_at s p hp
  have hp0 : (0 : Int) ≤ (p : Int) := by omega
  have hp1 : (p : Int) < (s.size : Int) := by omega
  have HC := Lib.hid (fun W => by
    have := ref_class s p W (by omega)
    rw [cl1_at s p hp, hc] at this
    exact this)
  have f40 : ((s[p].toNat : Int) == 40) = true := (byte_is s[p] 40).trans (decide_eq_true hb3)
  have htk : (s.data.toList.drop p).take 1 = [s[p]] := by rw [hda]; rfl
  have hlex : lexL (s.data.toList.drop p) = if longB 7 1 = true then lx0 else ⟨6, (s.data.toList.drop p).take 1, 0, 1⟩ := by
    rw [show longB 7 1 = false from by decide, if_neg (by decide), htk, hda]
    unfold lexL
    dsimp only
    rw [hc, if_neg (by decide), if_neg (by decide), if_neg (by decide), if_neg (by decide), if_neg (by decide), if_neg (by decide), if_pos (by decide)]
    unfold singleL
    rw [if_neg (by rintro (h | h); exact hb h; exact hb2 h)]
  obtain ⟨E, hE⟩ : ∃ E, p + 1 = E := ⟨_, rfl⟩
  have HE := Lib.hid (show ((p : Int) + 1) = (E : Int) by omega)
  have HB := Lib.hid (fun o : Obj => (Below.refl w.heap.size w).alloc (Nat.le_refl _) o)
  have HOWN := Lib.hid (fun W => by
    have := ref_own s p 7 E W hs (by omega) (by omega)
    rw [← HE.out] at this
    exact this)
  have hans := ans_own (s := s) (gl := gl) (n := 1) (k := 7) hE (by decide) (by decide) hlex (by rw [htk]; unfold kindL; rw [if_pos ⟨hg, by rw [hb3], rfl⟩])
  rw [← HE.out] at hans
  generalize (!longB 7 (E - p)) = ok at *
  have HANS := Lib.hid hans
  have hq2 : (p : Int) + 1 ≤ (s.size : Int) := by omega
  subst hg
  clear hans hda hc htk hlex hE
  go_enter Tryd.func20, Tryd.ntmps20
  go_wp2_with fail
  refine (HC.out _).mono ?_; rintro e w0 ⟨rfl, rfl⟩
  go_wp2_with fail
  have kz8 := new_at w (.cells #[.int .i64 0, .string ⟨#[]⟩, .int .i64 0, .int .i64 0] 30)
  have hb8 := HB.out (.cells #[.int .i64 0, .string ⟨#[]⟩, .int .i64 0, .int .i64 0] 30)
  generalize w.alloc (.cells #[.int .i64 0, .string ⟨#[]⟩, .int .i64 0, .int .i64 0] 30) = w8 at *
  refine (HOWN.out _).mono ?_; rintro e w9 ⟨rfl, hb9⟩
  have kz9 := kept_at hb9 kz8
  have hbA := hb8.trans (hb9.mono hb8.size)
  have hl9 : w.heap.size < w9.heap.size := (Array.getElem?_eq_some_iff.1 kz9).1
  obtain ⟨c0, c1, c2, c3, f0, f1, f2, f3⟩ := cells4 kz9
  clear kz8 kz9 hb8 hb9
  go_wp2_with fail
  refine bodyPost_ret (v := .tuple #[.agg #[.int .i64 7, .string (s.extract p E), .int .i64 0, .int .i64 (p : Nat)], .int .i64 ((p : Int) + 1), .bool ok]) (by simp [results, Tryd.results20, go_sem, c0, c1, c2, c3]) rfl ⟨HANS.out, ?_⟩
  exact below_set4 hbA (Nat.le_refl _) _ _ _ _

set_option maxRecDepth 100000 in
set_option maxHeartbeats 4000000 in
theorem tok_c8a (s : ByteArray) (p : Nat) (gl : Bool) (w : World) (hs : s.size ≤ 200000) (hp : p < s.size) (hc : cls (s[p].toNat : Int) = 8) (hT : TabsT w) (hr : readL (s.data.toList.drop p) = none) :
    Calls Tryd.prog 20 #[.string s, .int .i64 (p : Nat), .bool gl] w fun e w' => TokAns (s.data.toList.drop p) p gl e ∧ Below w.heap.size w w' := by
  have hda := drop_at s p hp
  have hp0 : (0 : Int) ≤ (p : Int) := by omega
  have hp1 : (p : Int) < (s.size : Int) := by omega
  have HC := Lib.hid (fun W => by
    have := ref_class s p W (by omega)
    rw [cl1_at s p hp, hc] at this
    exact this)
  have hlex : lexL (s.data.toList.drop p) = namedL (quotedL (s.data.toList.drop p)) := by
    rw [hda]; unfold lexL; dsimp only
    rw [hc, if_neg (by decide), if_neg (by decide), if_neg (by decide), if_neg (by decide), if_neg (by decide), if_pos rfl]
  have hex : (s.extract p s.size).data.toList = s.data.toList.drop p := by rw [ext_drop]
  have HT := Lib.hid hT
  have hRD := fun W (h : TabsT W) => ref_Read (s.extract p s.size) W (by rw [ByteArray.size_extract]; omega) h.1
  rw [hex] at hRD
  have HB := Lib.hid (fun o : Obj => (Below.refl w.heap.size w).alloc (Nat.le_refl _) o)
  obtain ⟨r1, r2, r3⟩ := read_none hr
  rw [r1, r2, r3] at hRD
  have HANS : Hid (TokAns (s.data.toList.drop p) p gl (.returned (.tuple #[.agg #[.int .i64 0, .string ⟨#[]⟩, .int .i64 0, .int .i64 0], .int .i64 0, .bool false]))) := Lib.hid (by
    refine ⟨0, 0, 0, ⟨#[]⟩, 0, false, rfl, ?_, fun h => by cases h⟩
    rw [hlex]
    unfold quotedL
    rw [hr]
    rfl)
  clear hr r1 r2 r3
  have HREAD := Lib.hid hRD
  clear hda hc hlex hex hRD hT
  go_enter Tryd.func20, Tryd.ntmps20
  go_wp2_with fail
  refine (HC.out _).mono ?_; rintro e w0 ⟨rfl, rfl⟩
  go_wp2_with fail
  have kz8 := new_at w (.cells #[.int .i64 0, .string ⟨#[]⟩, .int .i64 0, .int .i64 0] 30)
  have hb8 := HB.out (.cells #[.int .i64 0, .string ⟨#[]⟩, .int .i64 0, .int .i64 0] 30)
  generalize w.alloc (.cells #[.int .i64 0, .string ⟨#[]⟩, .int .i64 0, .int .i64 0] 30) = w8 at *
  refine (HREAD.out _ (HT.out.on hb8)).mono ?_; rintro e w9 ⟨rfl, hb9⟩
  have kz9 := kept_at hb9 kz8
  have hbA := hb8.trans (hb9.mono hb8.size)
  have hl9 : w.heap.size < w9.heap.size := (Array.getElem?_eq_some_iff.1 kz9).1
  obtain ⟨c0, c1, c2, c3, f0, f1, f2, f3⟩ := cells4 kz9
  clear kz8 kz9 hb8 hb9
  go_wp2_with fail
  refine bodyPost_ret (v := .tuple #[.agg #[.int .i64 0, .string ⟨#[]⟩, .int .i64 0, .int .i64 0], .int .i64 0, .bool false]) (by simp [results, Tryd.results20, go_sem, c0, c1, c2, c3]) rfl ⟨HANS.out, ?_⟩
  exact below_set4 hbA (Nat.le_refl _) _ _ _ _

set_option maxRecDepth 100000 in
set_option maxHeartbeats 4000000 in
theorem tok_c8b (s : ByteArray) (p : Nat) (gl : Bool) (w : World) (hs : s.size ≤ 200000) (hp : p < s.size) (hc : cls (s[p].toNat : Int) = 8) (hT : TabsT w) (t : List UInt8) (k : Nat) (hr : readL (s.data.toList.drop p) = some (t, k)) (hlong : 255 < t.length) :
    Calls Tryd.prog 20 #[.string s, .int .i64 (p : Nat), .bool gl] w fun e w' => TokAns (s.data.toList.drop p) p gl e ∧ Below w.heap.size w w' := by
  have hda := drop_at s p hp
  have hp0 : (0 : Int) ≤ (p : Int) := by omega
  have hp1 : (p : Int) < (s.size : Int) := by omega
  have HC := Lib.hid (fun W => by
    have := ref_class s p W (by omega)
    rw [cl1_at s p hp, hc] at this
    exact this)
  have hlex : lexL (s.data.toList.drop p) = namedL (quotedL (s.data.toList.drop p)) := by
    rw [hda]; unfold lexL; dsimp only
    rw [hc, if_neg (by decide), if_neg (by decide), if_neg (by decide), if_neg (by decide), if_neg (by decide), if_pos rfl]
  have hex : (s.extract p s.size).data.toList = s.data.toList.drop p := by rw [ext_drop]
  have HT := Lib.hid hT
  have hRD := fun W (h : TabsT W) => ref_Read (s.extract p s.size) W (by rw [ByteArray.size_extract]; omega) h.1
  rw [hex] at hRD
  have HB := Lib.hid (fun o : Obj => (Below.refl w.heap.size w).alloc (Nat.le_refl _) o)
  obtain ⟨r1, r2, r3⟩ := read_some hr
  rw [r1, r2, r3] at hRD
  have HANS : Hid (TokAns (s.data.toList.drop p) p gl (.returned (.tuple #[.agg #[.int .i64 0, .string ⟨#[]⟩, .int .i64 0, .int .i64 0], .int .i64 0, .bool false]))) := Lib.hid (by
    have hl : lexL (s.data.toList.drop p) = lx0 := by
      rw [hlex]
      unfold quotedL
      rw [hr]
      unfold namedL checkL
      dsimp only
      rw [decide_eq_false (show ¬ t.length ≤ 255 by omega), Bool.false_and, if_neg (by decide)]
    refine ⟨0, 0, 0, ⟨#[]⟩, 0, false, rfl, ?_, fun h => by cases h⟩
    rw [hl]
    rfl)
  have hz : (255 : Int) < ((⟨t.toArray⟩ : ByteArray).size : Int) := by rw [size_mk]; omega
  generalize (⟨t.toArray⟩ : ByteArray) = u at *
  clear hr r1 r2 r3 hlong
  have HREAD := Lib.hid hRD
  clear hda hc hlex hex hRD hT
  go_enter Tryd.func20, Tryd.ntmps20
  go_wp2_with fail
  refine (HC.out _).mono ?_; rintro e w0 ⟨rfl, rfl⟩
  go_wp2_with fail
  have kz8 := new_at w (.cells #[.int .i64 0, .string ⟨#[]⟩, .int .i64 0, .int .i64 0] 30)
  have hb8 := HB.out (.cells #[.int .i64 0, .string ⟨#[]⟩, .int .i64 0, .int .i64 0] 30)
  generalize w.alloc (.cells #[.int .i64 0, .string ⟨#[]⟩, .int .i64 0, .int .i64 0] 30) = w8 at *
  refine (HREAD.out _ (HT.out.on hb8)).mono ?_; rintro e w9 ⟨rfl, hb9⟩
  have kz9 := kept_at hb9 kz8
  have hbA := hb8.trans (hb9.mono hb8.size)
  have hl9 : w.heap.size < w9.heap.size := (Array.getElem?_eq_some_iff.1 kz9).1
  obtain ⟨c0, c1, c2, c3, f0, f1, f2, f3⟩ := cells4 kz9
  clear kz8 kz9 hb8 hb9
  go_wp2_with fail
  refine bodyPost_ret (v := .tuple #[.agg #[.int .i64 0, .string ⟨#[]⟩, .int .i64 0, .int .i64 0], .int .i64 0, .bool false]) (by simp [results, Tryd.results20, go_sem, c0, c1, c2, c3]) rfl ⟨HANS.out, ?_⟩
  exact below_set4 hbA (Nat.le_refl _) _ _ _ _

set_option maxRecDepth 100000 in
set_option maxHeartbeats 4000000 in
theorem tok_c8c (s : ByteArray) (p : Nat) (gl : Bool) (w : World) (hs : s.size ≤ 200000) (hp : p < s.size) (hc : cls (s[p].toNat : Int) = 8) (hT : TabsT w) (t : List UInt8) (k : Nat) (hr : readL (s.data.toList.drop p) = some (t, k)) (hshort : t.length ≤ 255) :
    Calls Tryd.prog 20 #[.string s, .int .i64 (p : Nat), .bool gl] w fun e w' => TokAns (s.data.toList.drop p) p gl e ∧ Below w.heap.size w w' := by
  have hda := drop_at s p hp
  have hp0 : (0 : Int) ≤ (p : Int) := by omega
  have hp1 : (p : Int) < (s.size : Int) := by omega
  have HC := Lib.hid (fun W => by
    have := ref_class s p W (by omega)
    rw [cl1_at s p hp, hc] at this
    exact this)
  have hlex : lexL (s.data.toList.drop p) = namedL (quotedL (s.data.toList.drop p)) := by
    rw [hda]; unfold lexL; dsimp only
    rw [hc, if_neg (by decide), if_neg (by decide), if_neg (by decide), if_neg (by decide), if_neg (by decide), if_pos rfl]
  have hex : (s.extract p s.size).data.toList = s.data.toList.drop p := by rw [ext_drop]
  have HT := Lib.hid hT
  have hRD := fun W (h : TabsT W) => ref_Read (s.extract p s.size) W (by rw [ByteArray.size_extract]; omega) h.1
  rw [hex] at hRD
  have HB := Lib.hid (fun o : Obj => (Below.refl w.heap.size w).alloc (Nat.le_refl _) o)
  obtain ⟨r1, r2, r3⟩ := read_some hr
  rw [r1, r2, r3] at hRD
  obtain ⟨hv, hk1, hk2⟩ := readL_within _ _ _ hr
  rw [List.length_drop, size_listT] at hk2
  have hl : lexL (s.data.toList.drop p) = ⟨2, t, 0, k⟩ := by
    rw [hlex]
    unfold quotedL
    rw [hr]
    unfold namedL checkL
    dsimp only
    rw [decide_eq_true hshort, hv]
    rfl
  have HANS : Hid (TokAns (s.data.toList.drop p) p gl (.returned (.tuple #[.agg #[.int .i64 2, .string ⟨t.toArray⟩, .int .i64 0, .int .i64 (p : Nat)], .int .i64 ((p : Int) + (k : Int)), .bool true]))) := Lib.hid (by
    refine ⟨2, 0, (p : Nat), ⟨t.toArray⟩, p + k, true, rfl, ?_, fun _ => ?_⟩
    · rw [hl]
      symm
      exact decide_eq_true (show k ≠ 0 by omega)
    · rw [hl]
      exact ⟨show (2 : Int) ≠ 0 by decide, (kind_same (x := ⟨2, t, 0, k⟩) gl (show (2 : Int) ≠ 6 by decide)).symm, rfl, rfl, rfl, rfl⟩)
  have hz : ((⟨t.toArray⟩ : ByteArray).size : Int) ≤ 255 := by rw [size_mk]; omega
  have hk3 : (p : Int) + (k : Int) ≤ (s.size : Int) := by omega
  have hk4 : (0 : Int) ≤ (k : Int) := by omega
  generalize (⟨t.toArray⟩ : ByteArray) = u at *
  clear hr r1 r2 r3 hshort hv hl hk1 hk2
  have HREAD := Lib.hid hRD
  clear hda hc hlex hex hRD hT
  go_enter Tryd.func20, Tryd.ntmps20
  go_wp2_with fail
  refine (HC.out _).mono ?_; rintro e w0 ⟨rfl, rfl⟩
  go_wp2_with fail
  have kz8 := new_at w (.cells #[.int .i64 0, .string ⟨#[]⟩, .int .i64 0, .int .i64 0] 30)
  have hb8 := HB.out (.cells #[.int .i64 0, .string ⟨#[]⟩, .int .i64 0, .int .i64 0] 30)
  generalize w.alloc (.cells #[.int .i64 0, .string ⟨#[]⟩, .int .i64 0, .int .i64 0] 30) = w8 at *
  refine (HREAD.out _ (HT.out.on hb8)).mono ?_; rintro e w9 ⟨rfl, hb9⟩
  have kz9 := kept_at hb9 kz8
  have hbA := hb8.trans (hb9.mono hb8.size)
  have hl9 : w.heap.size < w9.heap.size := (Array.getElem?_eq_some_iff.1 kz9).1
  obtain ⟨c0, c1, c2, c3, f0, f1, f2, f3⟩ := cells4 kz9
  clear kz8 kz9 hb8 hb9
  go_wp2_with fail
  refine bodyPost_ret (v := .tuple #[.agg #[.int .i64 2, .string u, .int .i64 0, .int .i64 (p : Nat)], .int .i64 ((p : Int) + (k : Int)), .bool true]) (by simp [results, Tryd.results20, go_sem, c0, c1, c2, c3]) rfl ⟨HANS.out, ?_⟩
  exact below_set4 hbA (Nat.le_refl _) _ _ _ _

set_option maxRecDepth 100000 in
set_option maxHeartbeats 4000000 in
theorem tok_c0 (s : ByteArray) (p : Nat) (gl : Bool) (w : World) (hs : s.size ≤ 200000) (hp : p < s.size) (h : cls (s[p].toNat : Int) ≠ 1 ∧ cls (s[p].toNat : Int) ≠ 2 ∧ cls (s[p].toNat : Int) ≠ 3 ∧ cls (s[p].toNat : Int) ≠ 4 ∧ cls (s[p].toNat : Int) ≠ 5 ∧ cls (s[p].toNat : Int) ≠ 6 ∧ cls (s[p].toNat : Int) ≠ 7 ∧ cls (s[p].toNat : Int) ≠ 8) (h37 : s[p] ≠ 37) :
    Calls Tryd.prog 20 #[.string s, .int .i64 (p : Nat), .bool gl] w fun e w' => TokAns (s.data.toList.drop p) p gl e ∧ Below w.heap.size w w' := by
  have hda := drop_at s p hp
  have hp0 : (0 : Int) ≤ (p : Int) := by omega
  have hp1 : (p : Int) < (s.size : Int) := by omega
  have hCL := fun W => ref_class s p W (by omega)
  rw [cl1_at s p hp] at hCL
  have HANS : Hid (TokAns (s.data.toList.drop p) p gl (.returned (.tuple #[.agg #[.int .i64 0, .string ⟨#[]⟩, .int .i64 0, .int .i64 0], .int .i64 0, .bool false]))) := Lib.hid (by
    have hl : lexL (s.data.toList.drop p) = lx0 := by
      rw [hda]
      unfold lexL
      dsimp only
      rw [if_neg h.2.2.2.2.1, if_neg h.1, if_neg h.2.1, if_neg h.2.2.1, if_neg h.2.2.2.1, if_neg h.2.2.2.2.2.2.2, if_neg (by rintro (e | e); exact h.2.2.2.2.2.1 e; exact h.2.2.2.2.2.2.1 e), if_neg h37]
    refine ⟨0, 0, 0, ⟨#[]⟩, 0, false, rfl, ?_, fun h => by cases h⟩
    rw [hl]
    rfl)
  obtain ⟨h1, h2, h3, h4, _, h6, h7, h8⟩ := h
  have e1 := beq_eq_false_iff_ne.2 h1
  have e2 := beq_eq_false_iff_ne.2 h2
  have e3 := beq_eq_false_iff_ne.2 h3
  have e4 := beq_eq_false_iff_ne.2 h4
  have e6 := beq_eq_false_iff_ne.2 h6
  have e7 := beq_eq_false_iff_ne.2 h7
  have e8 := beq_eq_false_iff_ne.2 h8
  generalize cls (s[p].toNat : Int) = q at *
  have HC := Lib.hid hCL
  clear hda hCL h1 h2 h3 h4 h6 h7 h8
  have HB := Lib.hid (fun o : Obj => (Below.refl w.heap.size w).alloc (Nat.le_refl _) o)
  go_enter Tryd.func20, Tryd.ntmps20
  go_wp2_with fail
  refine (HC.out _).mono ?_; rintro e w0 ⟨rfl, rfl⟩
  go_wp2_with fail
  refine bodyPost_ret (v := .tuple #[.agg #[.int .i64 0, .string ⟨#[]⟩, .int .i64 0, .int .i64 0], .int .i64 0, .bool false]) (by simp [results, Tryd.results20, go_sem]) rfl ⟨HANS.out, ?_⟩
  first | exact HB.out _ | exact below_set4 (HB.out _) (Nat.le_refl _) _ _ _ _
end Go.Proofs.YtglaoacdenecfaaDoor
