/-
  What the document's own token answers at signs.
-/
import Derived.Test.YtglaoacdenecfaaDoorTokW
namespace Go.Proofs.YtglaoacdenecfaaDoor
open Go.RowKit

theorem lex_signs {l : List UInt8} {b : UInt8} {t : List UInt8} (hl : l = b :: t) (hc : cls (b.toNat : Int) = 4) (h2 : l.take 2 ≠ [47, 42]) {n : Nat} (hn : spanL signR l = n) {k : Int}
    (hk : k = if l.take n = [46] ∧ partsL (l.drop n) = true then 8 else 3) : lexL l = if longB k n = true then lx0 else ⟨k, l.take n, 0, n⟩ := by
  have h : lexL l = namedL (signsL l) := by
    subst hl
    unfold lexL
    dsimp only
    rw [hc, if_neg (by decide), if_neg (by decide), if_neg (by decide), if_neg (by decide), if_pos rfl, if_neg h2]
  rw [h]
  unfold signsL
  rw [hn, ← hk]
  have hs := named_span k signR signR_high l
  rw [hn] at hs
  rw [hs]
  by_cases h8 : l.take n = [46] ∧ partsL (l.drop n) = true
  · rw [if_pos h8] at hk
    have h1 : n = 1 := by
      have := congrArg List.length h8.1
      have hle := spanL_le signR l
      rw [hn] at hle
      rw [List.length_take] at this
      simp at this; omega
    rw [hk, if_pos (show n ≤ 255 by omega), long_no 8 n (by decide) (by decide), if_neg (by decide)]
  · rw [if_neg h8] at hk
    exact long_if (.inr hk) _
theorem ext_is (s : ByteArray) (p E : Nat) (n : Nat) (hE : p + n = E) : ((s.extract p E).toList == [46]) = decide ((s.data.toList.drop p).take n = [46]) := by
  rw [ByteArray.toList_eq, Lib.extract_eq, show E - p = n from by omega, Bool.eq_iff_iff]
  simp

set_option maxRecDepth 100000 in
set_option maxHeartbeats 4000000 in
theorem tok_c4a (s : ByteArray) (p : Nat) (gl : Bool) (w : World) (hs : s.size ≤ 200000) (hp : p < s.size) (hc : cls (s[p].toNat : Int) = 4) (h2 : (s.data.toList.drop p).take 2 ≠ [47, 42]) (n E : Nat) (hn : spanL signR (s.data.toList.drop p) = n) (hE : p + n = E) (hd : (s.data.toList.drop p).take n ≠ [46]) :
    Calls Tryd.prog 20 #[.string s, .int .i64 (p : Nat), .bool gl] w fun e w' => TokAns (s.data.toList.drop p) p gl e ∧ Below w.heap.size w w' := by
  have hda := drop_at s p hp
  have hp0 : (0 : Int) ≤ (p : Int) := by omega
  have hp1 : (p : Int) < (s.size : Int) := by omega
  have HC := Lib.hid (fun W => by
    have := ref_class s p W (by omega)
    rw [cl1_at s p hp, hc] at this
    exact this)
  have hn0 : n ≠ 0 := by rw [← hn, hda]; exact Nat.pos_iff_ne_zero.1 (spanL_pos _ _ _ (by unfold signR; rw [hc]; decide))
  have hnl := spanL_le signR (s.data.toList.drop p)
  rw [hn, List.length_drop, size_listT] at hnl
  have HRUN := Lib.hid (fun (W : World) (g : Nat) (h : Ks W g [4]) => by
    have := ref_run s p [4] g W hs (by omega) h (by decide) (by decide)
    rw [amongS, hn, hE] at this
    exact this)
  have hE0 : (p : Int) < (E : Int) := by omega
  have hE1 : (E : Int) ≤ (s.size : Int) := by omega
  have hE2 : (p : Int) ≤ (E : Int) := by omega
  have hex := ext_is s p E n hE
  have hdd : (s.data.toList.drop p).drop n = s.data.toList.drop E := by rw [List.drop_drop, hE]
  have hlex := lex_signs hda hc h2 hn (k := 3) (by rw [hdd]; rw [if_neg (fun h => hd h.1)])
  have HB := Lib.hid (fun o : Obj => (Below.refl w.heap.size w).alloc (Nat.le_refl _) o)
  have HOWN := Lib.hid (fun W => ref_own s p 3 E W hs (by omega) (by omega))
  have hans := ans_own (s := s) (gl := gl) hE hn0 (by decide) hlex (kind_same gl (show (3 : Int) ≠ 6 by decide))
  generalize (!longB 3 (E - p)) = ok at *
  have HANS := Lib.hid hans
  clear hans
  have f46 : ((s.extract p E).toList == [46]) = false := hex.trans (decide_eq_false hd)
  clear hex hd
  clear hda hc h2 hn hE hlex hdd hnl
  go_enter Tryd.func20, Tryd.ntmps20
  go_wp2_with fail
  refine (HC.out _).mono ?_; rintro e w0 ⟨rfl, rfl⟩
  go_wp2_with fail
  generalize hW0 : w.alloc (.cells #[.int .i64 0, .string ⟨#[]⟩, .int .i64 0, .int .i64 0] 30) = W0
  have kz : W0.heap[w.heap.size]? = some (.cells #[.int .i64 0, .string ⟨#[]⟩, .int .i64 0, .int .i64 0] 30) := by rw [← hW0]; exact new_at w _
  have hbW : Below w.heap.size w W0 := by rw [← hW0]; exact HB.out _
  have hsz : W0.heap.size = w.heap.size + 1 := by rw [← hW0]; simp
  rw [← hsz]
  refine (HRUN.out _ _ (ks_one W0 3 4)).mono ?_; rintro e w8 ⟨rfl, rfl⟩
  have kz8 := past_at kz (.cells #[.int .i64 4] 3)
  have hb8 := hbW.alloc hbW.size (.cells #[.int .i64 4] 3)
  generalize W0.alloc (.cells #[.int .i64 4] 3) = w8 at *
  clear hW0 kz hbW hsz
  go_wp2_with fail
  refine (HOWN.out _).mono ?_; rintro e w9 ⟨rfl, hb9⟩
  have kz9 := kept_at hb9 kz8
  have hbA := hb8.trans (hb9.mono hb8.size)
  have hl9 : w.heap.size < w9.heap.size := (Array.getElem?_eq_some_iff.1 kz9).1
  obtain ⟨c0, c1, c2, c3, f0, f1, f2, f3⟩ := cells4 kz9
  clear kz8 kz9 hb8 hb9
  go_wp2_with fail
  refine bodyPost_ret (v := .tuple #[.agg #[.int .i64 3, .string (s.extract p E), .int .i64 0, .int .i64 (p : Nat)], .int .i64 (E : Nat), .bool ok]) (by simp [results, Tryd.results20, go_sem, c0, c1, c2, c3]) rfl ⟨HANS.out, ?_⟩
  exact below_set4 hbA (Nat.le_refl _) _ _ _ _

set_option maxRecDepth 100000 in
set_option maxHeartbeats 4000000 in
theorem tok_c4b (s : ByteArray) (p : Nat) (gl : Bool) (w : World) (hs : s.size ≤ 200000) (hp : p < s.size) (hc : cls (s[p].toNat : Int) = 4) (h2 : (s.data.toList.drop p).take 2 ≠ [47, 42]) (n E : Nat) (hn : spanL signR (s.data.toList.drop p) = n) (hE : p + n = E) (hd : (s.data.toList.drop p).take n = [46]) (hend : E = s.size) :
    Calls Tryd.prog 20 #[.string s, .int .i64 (p : Nat), .bool gl] w fun e w' => TokAns (s.data.toList.drop p) p gl e ∧ Below w.heap.size w w' := by
  have hda := drop_at s p hp
  have hp0 : (0 : Int) ≤ (p : Int) := by omega
  have hp1 : (p : Int) < (s.size : Int) := by omega
  have HC := Lib.hid (fun W => by
    have := ref_class s p W (by omega)
    rw [cl1_at s p hp, hc] at this
    exact this)
  have hn0 : n ≠ 0 := by rw [← hn, hda]; exact Nat.pos_iff_ne_zero.1 (spanL_pos _ _ _ (by unfold signR; rw [hc]; decide))
  have hnl := spanL_le signR (s.data.toList.drop p)
  rw [hn, List.length_drop, size_listT] at hnl
  have HRUN := Lib.hid (fun (W : World) (g : Nat) (h : Ks W g [4]) => by
    have := ref_run s p [4] g W hs (by omega) h (by decide) (by decide)
    rw [amongS, hn, hE] at this
    exact this)
  have hE0 : (p : Int) < (E : Int) := by omega
  have hE1 : (E : Int) ≤ (s.size : Int) := by omega
  have hE2 : (p : Int) ≤ (E : Int) := by omega
  have hex := ext_is s p E n hE
  have hdd : (s.data.toList.drop p).drop n = s.data.toList.drop E := by rw [List.drop_drop, hE]
  have hlex := lex_signs hda hc h2 hn (k := 8) (by rw [hdd]; rw [if_pos ⟨hd, by rw [List.drop_eq_nil_of_le (by rw [size_listT]; omega)]; rfl⟩])
  have HB := Lib.hid (fun o : Obj => (Below.refl w.heap.size w).alloc (Nat.le_refl _) o)
  have HOWN := Lib.hid (fun W => ref_own s p 8 E W hs (by omega) (by omega))
  have hans := ans_own (s := s) (gl := gl) hE hn0 (by decide) hlex (kind_same gl (show (8 : Int) ≠ 6 by decide))
  generalize (!longB 8 (E - p)) = ok at *
  have HANS := Lib.hid hans
  clear hans
  have f46 : ((s.extract p E).toList == [46]) = true := hex.trans (decide_eq_true hd)
  clear hex hd
  have hq : ((E : Int) == (s.size : Int)) = true := by rw [hend]; exact beq_self_eq_true _
  clear hend
  clear hda hc h2 hn hE hlex hdd hnl
  go_enter Tryd.func20, Tryd.ntmps20
  go_wp2_with fail
  refine (HC.out _).mono ?_; rintro e w0 ⟨rfl, rfl⟩
  go_wp2_with fail
  generalize hW0 : w.alloc (.cells #[.int .i64 0, .string ⟨#[]⟩, .int .i64 0, .int .i64 0] 30) = W0
  have kz : W0.heap[w.heap.size]? = some (.cells #[.int .i64 0, .string ⟨#[]⟩, .int .i64 0, .int .i64 0] 30) := by rw [← hW0]; exact new_at w _
  have hbW : Below w.heap.size w W0 := by rw [← hW0]; exact HB.out _
  have hsz : W0.heap.size = w.heap.size + 1 := by rw [← hW0]; simp
  rw [← hsz]
  refine (HRUN.out _ _ (ks_one W0 3 4)).mono ?_; rintro e w8 ⟨rfl, rfl⟩
  have kz8 := past_at kz (.cells #[.int .i64 4] 3)
  have hb8 := hbW.alloc hbW.size (.cells #[.int .i64 4] 3)
  generalize W0.alloc (.cells #[.int .i64 4] 3) = w8 at *
  clear hW0 kz hbW hsz
  go_wp2_with fail
  refine (HOWN.out _).mono ?_; rintro e w9 ⟨rfl, hb9⟩
  have kz9 := kept_at hb9 kz8
  have hbA := hb8.trans (hb9.mono hb8.size)
  have hl9 : w.heap.size < w9.heap.size := (Array.getElem?_eq_some_iff.1 kz9).1
  obtain ⟨c0, c1, c2, c3, f0, f1, f2, f3⟩ := cells4 kz9
  clear kz8 kz9 hb8 hb9
  go_wp2_with fail
  refine bodyPost_ret (v := .tuple #[.agg #[.int .i64 8, .string (s.extract p E), .int .i64 0, .int .i64 (p : Nat)], .int .i64 (E : Nat), .bool ok]) (by simp [results, Tryd.results20, go_sem, c0, c1, c2, c3]) rfl ⟨HANS.out, ?_⟩
  exact below_set4 hbA (Nat.le_refl _) _ _ _ _

set_option maxRecDepth 100000 in
set_option maxHeartbeats 4000000 in
theorem tok_c4c (s : ByteArray) (p : Nat) (gl : Bool) (w : World) (hs : s.size ≤ 200000) (hp : p < s.size) (hc : cls (s[p].toNat : Int) = 4) (h2 : (s.data.toList.drop p).take 2 ≠ [47, 42]) (n E : Nat) (hn : spanL signR (s.data.toList.drop p) = n) (hE : p + n = E) (hd : (s.data.toList.drop p).take n = [46]) (hlt : E < s.size) (h5 : cls (s[E].toNat : Int) = 5) :
    Calls Tryd.prog 20 #[.string s, .int .i64 (p : Nat), .bool gl] w fun e w' => TokAns (s.data.toList.drop p) p gl e ∧ Below w.heap.size w w' := by
  have hda := drop_at s p hp
  have hp0 : (0 : Int) ≤ (p : Int) := by omega
  have hp1 : (p : Int) < (s.size : Int) := by omega
  have HC := Lib.hid (fun W => by
    have := ref_class s p W (by omega)
    rw [cl1_at s p hp, hc] at this
    exact this)
  have hn0 : n ≠ 0 := by rw [← hn, hda]; exact Nat.pos_iff_ne_zero.1 (spanL_pos _ _ _ (by unfold signR; rw [hc]; decide))
  have hnl := spanL_le signR (s.data.toList.drop p)
  rw [hn, List.length_drop, size_listT] at hnl
  have HRUN := Lib.hid (fun (W : World) (g : Nat) (h : Ks W g [4]) => by
    have := ref_run s p [4] g W hs (by omega) h (by decide) (by decide)
    rw [amongS, hn, hE] at this
    exact this)
  have hE0 : (p : Int) < (E : Int) := by omega
  have hE1 : (E : Int) ≤ (s.size : Int) := by omega
  have hE2 : (p : Int) ≤ (E : Int) := by omega
  have hex := ext_is s p E n hE
  have hdd : (s.data.toList.drop p).drop n = s.data.toList.drop E := by rw [List.drop_drop, hE]
  have hlex := lex_signs hda hc h2 hn (k := 8) (by rw [hdd]; rw [if_pos ⟨hd, by rw [drop_at s E hlt]; unfold partsL; dsimp only; rw [Bool.or_eq_true]; exact .inr (decide_eq_true h5)⟩])
  have HB := Lib.hid (fun o : Obj => (Below.refl w.heap.size w).alloc (Nat.le_refl _) o)
  have HOWN := Lib.hid (fun W => ref_own s p 8 E W hs (by omega) (by omega))
  have hans := ans_own (s := s) (gl := gl) hE hn0 (by decide) hlex (kind_same gl (show (8 : Int) ≠ 6 by decide))
  generalize (!longB 8 (E - p)) = ok at *
  have HANS := Lib.hid hans
  clear hans
  have f46 : ((s.extract p E).toList == [46]) = true := hex.trans (decide_eq_true hd)
  clear hex hd
  have hC2 := fun W => ref_class s E W (by omega)
  rw [cl1_at s E hlt] at hC2
  have hq : ((E : Int) == (s.size : Int)) = false := by rw [beq_eq_false_iff_ne]; omega
  have hE3 : (E : Int) < (s.size : Int) := by omega
  have hE4 : (0 : Int) ≤ (E : Int) := by omega
  rw [h5] at hC2
  clear h5
  have HC2 := Lib.hid hC2
  clear hC2 hlt
  clear hda hc h2 hn hE hlex hdd hnl
  go_enter Tryd.func20, Tryd.ntmps20
  go_wp2_with fail
  refine (HC.out _).mono ?_; rintro e w0 ⟨rfl, rfl⟩
  go_wp2_with fail
  generalize hW0 : w.alloc (.cells #[.int .i64 0, .string ⟨#[]⟩, .int .i64 0, .int .i64 0] 30) = W0
  have kz : W0.heap[w.heap.size]? = some (.cells #[.int .i64 0, .string ⟨#[]⟩, .int .i64 0, .int .i64 0] 30) := by rw [← hW0]; exact new_at w _
  have hbW : Below w.heap.size w W0 := by rw [← hW0]; exact HB.out _
  have hsz : W0.heap.size = w.heap.size + 1 := by rw [← hW0]; simp
  rw [← hsz]
  refine (HRUN.out _ _ (ks_one W0 3 4)).mono ?_; rintro e w8 ⟨rfl, rfl⟩
  have kz8 := past_at kz (.cells #[.int .i64 4] 3)
  have hb8 := hbW.alloc hbW.size (.cells #[.int .i64 4] 3)
  generalize W0.alloc (.cells #[.int .i64 4] 3) = w8 at *
  clear hW0 kz hbW hsz
  go_wp2_with fail
  refine (HC2.out _).mono ?_; rintro e w3 ⟨rfl, rfl⟩
  go_wp2_with fail
  refine (HOWN.out _).mono ?_; rintro e w9 ⟨rfl, hb9⟩
  have kz9 := kept_at hb9 kz8
  have hbA := hb8.trans (hb9.mono hb8.size)
  have hl9 : w.heap.size < w9.heap.size := (Array.getElem?_eq_some_iff.1 kz9).1
  obtain ⟨c0, c1, c2, c3, f0, f1, f2, f3⟩ := cells4 kz9
  clear kz8 kz9 hb8 hb9
  go_wp2_with fail
  refine bodyPost_ret (v := .tuple #[.agg #[.int .i64 8, .string (s.extract p E), .int .i64 0, .int .i64 (p : Nat)], .int .i64 (E : Nat), .bool ok]) (by simp [results, Tryd.results20, go_sem, c0, c1, c2, c3]) rfl ⟨HANS.out, ?_⟩
  exact below_set4 hbA (Nat.le_refl _) _ _ _ _

set_option maxRecDepth 100000 in
set_option maxHeartbeats 4000000 in
theorem tok_c4d (s : ByteArray) (p : Nat) (gl : Bool) (w : World) (hs : s.size ≤ 200000) (hp : p < s.size) (hc : cls (s[p].toNat : Int) = 4) (h2 : (s.data.toList.drop p).take 2 ≠ [47, 42]) (n E : Nat) (hn : spanL signR (s.data.toList.drop p) = n) (hE : p + n = E) (hd : (s.data.toList.drop p).take n = [46]) (hlt : E < s.size) (h5 : cls (s[E].toNat : Int) ≠ 5) (h37 : s[E] = 37) :
    Calls Tryd.prog 20 #[.string s, .int .i64 (p : Nat), .bool gl] w fun e w' => TokAns (s.data.toList.drop p) p gl e ∧ Below w.heap.size w w' := by
  have hda := drop_at s p hp
  have hp0 : (0 : Int) ≤ (p : Int) := by omega
  have hp1 : (p : Int) < (s.size : Int) := by omega
  have HC := Lib.hid (fun W => by
    have := ref_class s p W (by omega)
    rw [cl1_at s p hp, hc] at this
    exact this)
  have hn0 : n ≠ 0 := by rw [← hn, hda]; exact Nat.pos_iff_ne_zero.1 (spanL_pos _ _ _ (by unfold signR; rw [hc]; decide))
  have hnl := spanL_le signR (s.data.toList.drop p)
  rw [hn, List.length_drop, size_listT] at hnl
  have HRUN := Lib.hid (fun (W : World) (g : Nat) (h : Ks W g [4]) => by
    have := ref_run s p [4] g W hs (by omega) h (by decide) (by decide)
    rw [amongS, hn, hE] at this
    exact this)
  have hE0 : (p : Int) < (E : Int) := by omega
  have hE1 : (E : Int) ≤ (s.size : Int) := by omega
  have hE2 : (p : Int) ≤ (E : Int) := by omega
  have hex := ext_is s p E n hE
  have hdd : (s.data.toList.drop p).drop n = s.data.toList.drop E := by rw [List.drop_drop, hE]
  have hlex := lex_signs hda hc h2 hn (k := 8) (by rw [hdd]; rw [if_pos ⟨hd, by rw [drop_at s E hlt]; unfold partsL; dsimp only; rw [Bool.or_eq_true]; exact .inl (decide_eq_true h37)⟩])
  have HB := Lib.hid (fun o : Obj => (Below.refl w.heap.size w).alloc (Nat.le_refl _) o)
  have HOWN := Lib.hid (fun W => ref_own s p 8 E W hs (by omega) (by omega))
  have hans := ans_own (s := s) (gl := gl) hE hn0 (by decide) hlex (kind_same gl (show (8 : Int) ≠ 6 by decide))
  generalize (!longB 8 (E - p)) = ok at *
  have HANS := Lib.hid hans
  clear hans
  have f46 : ((s.extract p E).toList == [46]) = true := hex.trans (decide_eq_true hd)
  clear hex hd
  have hC2 := fun W => ref_class s E W (by omega)
  rw [cl1_at s E hlt] at hC2
  have hq : ((E : Int) == (s.size : Int)) = false := by rw [beq_eq_false_iff_ne]; omega
  have hE3 : (E : Int) < (s.size : Int) := by omega
  have hE4 : (0 : Int) ≤ (E : Int) := by omega
  have f37 : ((s[E].toNat : Int) == 37) = true := (byte_is s[E] 37).trans (decide_eq_true h37)
  have e5 := beq_eq_false_iff_ne.2 h5
  clear h37 h5
  generalize cls (s[E].toNat : Int) = q at *
  have HC2 := Lib.hid hC2
  clear hC2
  clear hda hc h2 hn hE hlex hdd hnl
  go_enter Tryd.func20, Tryd.ntmps20
  go_wp2_with fail
  refine (HC.out _).mono ?_; rintro e w0 ⟨rfl, rfl⟩
  go_wp2_with fail
  generalize hW0 : w.alloc (.cells #[.int .i64 0, .string ⟨#[]⟩, .int .i64 0, .int .i64 0] 30) = W0
  have kz : W0.heap[w.heap.size]? = some (.cells #[.int .i64 0, .string ⟨#[]⟩, .int .i64 0, .int .i64 0] 30) := by rw [← hW0]; exact new_at w _
  have hbW : Below w.heap.size w W0 := by rw [← hW0]; exact HB.out _
  have hsz : W0.heap.size = w.heap.size + 1 := by rw [← hW0]; simp
  rw [← hsz]
  refine (HRUN.out _ _ (ks_one W0 3 4)).mono ?_; rintro e w8 ⟨rfl, rfl⟩
  have kz8 := past_at kz (.cells #[.int .i64 4] 3)
  have hb8 := hbW.alloc hbW.size (.cells #[.int .i64 4] 3)
  generalize W0.alloc (.cells #[.int .i64 4] 3) = w8 at *
  clear hW0 kz hbW hsz
  go_wp2_with fail
  refine (HC2.out _).mono ?_; rintro e w3 ⟨rfl, rfl⟩
  go_wp2_with fail
  refine (HOWN.out _).mono ?_; rintro e w9 ⟨rfl, hb9⟩
  have kz9 := kept_at hb9 kz8
  have hbA := hb8.trans (hb9.mono hb8.size)
  have hl9 : w.heap.size < w9.heap.size := (Array.getElem?_eq_some_iff.1 kz9).1
  obtain ⟨c0, c1, c2, c3, f0, f1, f2, f3⟩ := cells4 kz9
  clear kz8 kz9 hb8 hb9
  go_wp2_with fail
  refine bodyPost_ret (v := .tuple #[.agg #[.int .i64 8, .string (s.extract p E), .int .i64 0, .int .i64 (p : Nat)], .int .i64 (E : Nat), .bool ok]) (by simp [results, Tryd.results20, go_sem, c0, c1, c2, c3]) rfl ⟨HANS.out, ?_⟩
  exact below_set4 hbA (Nat.le_refl _) _ _ _ _

set_option maxRecDepth 100000 in
set_option maxHeartbeats 4000000 in
theorem tok_c4e (s : ByteArray) (p : Nat) (gl : Bool) (w : World) (hs : s.size ≤ 200000) (hp : p < s.size) (hc : cls (s[p].toNat : Int) = 4) (h2 : (s.data.toList.drop p).take 2 ≠ [47, 42]) (n E : Nat) (hn : spanL signR (s.data.toList.drop p) = n) (hE : p + n = E) (hd : (s.data.toList.drop p).take n = [46]) (hlt : E < s.size) (h5 : cls (s[E].toNat : Int) ≠ 5) (h37 : s[E] ≠ 37) :
    Calls Tryd.prog 20 #[.string s, .int .i64 (p : Nat), .bool gl] w fun e w' => TokAns (s.data.toList.drop p) p gl e ∧ Below w.heap.size w w' := by
  have hda := drop_at s p hp
  have hp0 : (0 : Int) ≤ (p : Int) := by omega
  have hp1 : (p : Int) < (s.size : Int) := by omega
  have HC := Lib.hid (fun W => by
    have := ref_class s p W (by omega)
    rw [cl1_at s p hp, hc] at this
    exact this)
  have hn0 : n ≠ 0 := by rw [← hn, hda]; exact Nat.pos_iff_ne_zero.1 (spanL_pos _ _ _ (by unfold signR; rw [hc]; decide))
  have hnl := spanL_le signR (s.data.toList.drop p)
  rw [hn, List.length_drop, size_listT] at hnl
  have HRUN := Lib.hid (fun (W : World) (g : Nat) (h : Ks W g [4]) => by
    have := ref_run s p [4] g W hs (by omega) h (by decide) (by decide)
    rw [amongS, hn, hE] at this
    exact this)
  have hE0 : (p : Int) < (E : Int) := by omega
  have hE1 : (E : Int) ≤ (s.size : Int) := by omega
  have hE2 : (p : Int) ≤ (E : Int) := by omega
  have hex := ext_is s p E n hE
  have hdd : (s.data.toList.drop p).drop n = s.data.toList.drop E := by rw [List.drop_drop, hE]
  have hlex := lex_signs hda hc h2 hn (k := 3) (by rw [hdd]; rw [if_neg]; rintro ⟨_, h⟩; rw [drop_at s E hlt] at h; unfold partsL at h; dsimp only at h; rw [decide_eq_false h37, decide_eq_false h5] at h; cases h)
  have HB := Lib.hid (fun o : Obj => (Below.refl w.heap.size w).alloc (Nat.le_refl _) o)
  have HOWN := Lib.hid (fun W => ref_own s p 3 E W hs (by omega) (by omega))
  have hans := ans_own (s := s) (gl := gl) hE hn0 (by decide) hlex (kind_same gl (show (3 : Int) ≠ 6 by decide))
  generalize (!longB 3 (E - p)) = ok at *
  have HANS := Lib.hid hans
  clear hans
  have f46 : ((s.extract p E).toList == [46]) = true := hex.trans (decide_eq_true hd)
  clear hex hd
  have hC2 := fun W => ref_class s E W (by omega)
  rw [cl1_at s E hlt] at hC2
  have hq : ((E : Int) == (s.size : Int)) = false := by rw [beq_eq_false_iff_ne]; omega
  have hE3 : (E : Int) < (s.size : Int) := by omega
  have hE4 : (0 : Int) ≤ (E : Int) := by omega
  have f37 : ((s[E].toNat : Int) == 37) = false := (byte_is s[E] 37).trans (decide_eq_false h37)
  have e5 := beq_eq_false_iff_ne.2 h5
  clear h37 h5
  generalize cls (s[E].toNat : Int) = q at *
  have HC2 := Lib.hid hC2
  clear hC2
  clear hda hc h2 hn hE hlex hdd hnl
  go_enter Tryd.func20, Tryd.ntmps20
  go_wp2_with fail
  refine (HC.out _).mono ?_; rintro e w0 ⟨rfl, rfl⟩
  go_wp2_with fail
  generalize hW0 : w.alloc (.cells #[.int .i64 0, .string ⟨#[]⟩, .int .i64 0, .int .i64 0] 30) = W0
  have kz : W0.heap[w.heap.size]? = some (.cells #[.int .i64 0, .string ⟨#[]⟩, .int .i64 0, .int .i64 0] 30) := by rw [← hW0]; exact new_at w _
  have hbW : Below w.heap.size w W0 := by rw [← hW0]; exact HB.out _
  have hsz : W0.heap.size = w.heap.size + 1 := by rw [← hW0]; simp
  rw [← hsz]
  refine (HRUN.out _ _ (ks_one W0 3 4)).mono ?_; rintro e w8 ⟨rfl, rfl⟩
  have kz8 := past_at kz (.cells #[.int .i64 4] 3)
  have hb8 := hbW.alloc hbW.size (.cells #[.int .i64 4] 3)
  generalize W0.alloc (.cells #[.int .i64 4] 3) = w8 at *
  clear hW0 kz hbW hsz
  go_wp2_with fail
  refine (HC2.out _).mono ?_; rintro e w3 ⟨rfl, rfl⟩
  go_wp2_with fail
  refine (HOWN.out _).mono ?_; rintro e w9 ⟨rfl, hb9⟩
  have kz9 := kept_at hb9 kz8
  have hbA := hb8.trans (hb9.mono hb8.size)
  have hl9 : w.heap.size < w9.heap.size := (Array.getElem?_eq_some_iff.1 kz9).1
  obtain ⟨c0, c1, c2, c3, f0, f1, f2, f3⟩ := cells4 kz9
  clear kz8 kz9 hb8 hb9
  go_wp2_with fail
  refine bodyPost_ret (v := .tuple #[.agg #[.int .i64 3, .string (s.extract p E), .int .i64 0, .int .i64 (p : Nat)], .int .i64 (E : Nat), .bool ok]) (by simp [results, Tryd.results20, go_sem, c0, c1, c2, c3]) rfl ⟨HANS.out, ?_⟩
  exact below_set4 hbA (Nat.le_refl _) _ _ _ _
end Go.Proofs.YtglaoacdenecfaaDoor
