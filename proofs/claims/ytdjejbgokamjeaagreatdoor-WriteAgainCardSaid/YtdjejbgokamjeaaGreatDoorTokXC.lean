import Derived.Test.YtdjejbgokamjeaaGreatDoorTokRU
import Derived.Test.YtdjejbgokamjeaaGreatDoorCharM
import Derived.Test.YtdjejbgokamjeaaGreatDoorTokAH
import Derived.RegionTactic
import Derived.BigRegion
import Derived.Deep.RegionHeld3
import Derived.Test.YtdjejbgokamjeaaGreatDoorTokVB
import Derived.Test.YtdjejbgokamjeaaGreatDoorTokVCE
namespace Go.Proofs.YtdjejbgokamjeaaGreatDoor
open Go.RowKit
theorem valid_low : ∀ (l : List UInt8), (∀ b ∈ l, b.toNat < 128) -> Lib.validD l = true
 | [], _ => rfl
 | b :: t, h => by
  have hb := h b (List.mem_cons_self ..);rw [valid_step _ (List.cons_ne_nil _ _), Lib.decodeL_ascii b t hb];dsimp only;rw [if_neg (by omega)];exact valid_low t (fun c hc => h c (List.mem_cons_of_mem _ hc))
theorem check_span (P : Int -> Bool) (hP : ∀ c : Int, 128 <= c -> P c = false) (l : List UInt8) : checkL (l.take (spanL P l)) = decide (spanL P l <= 255) := by
 unfold checkL;rw [valid_low _ (fun b hb => ?_), Bool.and_true, List.length_take, Nat.min_eq_left (spanL_le P l)];rw [take_spanL] at hb;have h := List.all_eq_true.1 (List.all_takeWhile (p := fun b : UInt8 => P (b.toNat : Int)) (l := l)) b hb;apply Classical.byContradiction
 intro h2;rw [hP _ (by omega)] at h;cases h
theorem named_span (k : Int) (P : Int -> Bool) (hP : ∀ c : Int, 128 <= c -> P c = false) (l : List UInt8) : namedL ⟨k, l.take (spanL P l), 0, spanL P l⟩ = if spanL P l <= 255 then ⟨k, l.take (spanL P l), 0, spanL P l⟩ else lx0 := by
 unfold namedL;dsimp only;rw [check_span P hP];by_cases h : spanL P l <= 255
 · rw [decide_eq_true h, if_pos rfl, if_pos h]
 · rw [decide_eq_false h, if_neg (by decide), if_neg h]
theorem kind_same {x : Lx} (gl : Bool) (h : x.kind ≠ 6) : kindL gl x = x.kind := by
 unfold kindL;rw [if_neg (fun h2 => h h2.2.2)]
def TokAns (l : List UInt8) (p : Nat) (gl : Bool) (e : Ending) : Prop := ∃ (k n q : Int) (t : ByteArray) (en : Nat) (ok : Bool), e = .returned (.tuple #[.agg #[.int .i64 k, .string t, .int .i64 n, .int .i64 q], .int .i64 (en : Nat), .bool ok]) /\
 ok = decide ((lexL l).w ≠ 0) /\ (ok = true -> (lexL l).kind ≠ 0 /\ k = kindL gl (lexL l) /\ t = ⟨(lexL l).text.toArray⟩ /\ n = (lexL l).n /\ q = (p : Nat) /\ en = p + (lexL l).w)
theorem ans_own {s : ByteArray} {p E n : Nat} {k kx : Int} {gl : Bool} (hE : p + n = E) (hn : n ≠ 0) (hkx : kx ≠ 0) (hlex : lexL (s.data.toList.drop p) = if longB k n = true then lx0 else ⟨kx, (s.data.toList.drop p).take n, 0, n⟩)
 (hk : kindL gl ⟨kx, (s.data.toList.drop p).take n, 0, n⟩ = k) :
 TokAns (s.data.toList.drop p) p gl (.returned (.tuple #[.agg #[.int .i64 k, .string (s.extract p E), .int .i64 0, .int .i64 (p : Nat)], .int .i64 (E : Nat), .bool (!longB k (E - p))])) := by
 have hEp : E - p = n := by omega
 refine ⟨k, 0, (p : Nat), s.extract p E, E, !longB k (E - p), rfl, ?_, fun h => ?_⟩
 · rw [hEp, hlex];cases longB k n with
   | true => rfl
   | false =>
    rw [if_neg (by decide)];symm
    exact decide_eq_true hn
 · rw [hEp] at h;have hl : longB k n = false := by simpa using h
   rw [hlex, hl, if_neg (by decide)];exact ⟨hkx, hk.symm, by rw [Lib.extract_eq, hEp], rfl, rfl, hE.symm⟩
theorem ks_three (w : World) (t : TypeId) (a b c : Int) : Ks (w.alloc (.cells #[.int .i64 a, .int .i64 b, .int .i64 c] t)) w.heap.size [a, b, c] := by
 intro i h;match i, h with
 | 0, _ => exact World.cell?_alloc_at _ _ _ _ rfl
 | 1, _ => exact World.cell?_alloc_at _ _ _ _ rfl
 | 2, _ => exact World.cell?_alloc_at _ _ _ _ rfl
theorem ks_one (w : World) (t : TypeId) (k : Int) : Ks (w.alloc (.cells #[.int .i64 k] t)) w.heap.size [k] := by
 intro i h;have : i = 0 := by simp at h; omega
 subst this;exact World.cell?_alloc_at _ _ _ _ rfl
theorem amongW : amongK [1, 2, 3] = nameR := by
 funext c
 unfold amongK nameR;rw [Bool.eq_iff_iff]; simp
theorem amongS : amongK [4] = signR := by
 funext c
 unfold amongK signR;rw [Bool.eq_iff_iff]; simp
theorem long_no (k : Int) (n : Nat) (h1 : k ≠ 1) (h3 : k ≠ 3) : longB k n = false := by
 unfold longB;rw [beq_eq_false_iff_ne.2 h1, beq_eq_false_iff_ne.2 h3]; simp
theorem long_one (k : Int) (n : Nat) (h : k = 1 \/ k = 3) : longB k n = decide (255 < n) := by
 unfold longB;rcases h with rfl | rfl <;> simp
theorem long_if {k : Int} {n : Nat} (h : k = 1 \/ k = 3) (x : Lx) : (if n <= 255 then x else lx0) = if longB k n = true then lx0 else x := by
 rw [long_one k n h];by_cases h2 : n <= 255
 · rw [if_pos h2, decide_eq_false (by omega), if_neg (by decide)]
 · rw [if_neg h2, decide_eq_true (by omega), if_pos rfl]
set_option maxRecDepth 100000 in
set_option maxHeartbeats 4000000 in
theorem tok_c1 (s : ByteArray) (p : Nat) (gl : Bool) (w : World) (hs : s.size <= 200000) (hp : p < s.size) (hc : cls (s[p].toNat : Int) = 1) :
 Calls Tryz.prog 36 #[.string s, .int .i64 (p : Nat), .bool gl] w fun e w' => TokAns (s.data.toList.drop p) p gl e /\ Below w.heap.size w w' := by
 have hda := drop_at s p hp;have hp0 : (0 : Int) <= (p : Int) := by omega
 have hp1 : (p : Int) < (s.size : Int) := by omega
 have HC := Lib.hid (fun W => by
  have := ref_class s p W (by omega);rw [cl1_at s p hp, hc] at this;exact this)
 obtain ⟨n, hn⟩ : ∃ n, spanL nameR (s.data.toList.drop p) = n := ⟨_, rfl⟩;have hn0 : n ≠ 0 := by rw [<- hn, hda]; exact Nat.pos_iff_ne_zero.1 (spanL_pos _ _ _ (by unfold nameR; rw [hc]; decide))
 have hnl := spanL_le nameR (s.data.toList.drop p);rw [hn, List.length_drop, size_listT] at hnl;obtain ⟨E, hE⟩ : ∃ E, p + n = E := ⟨_, rfl⟩;have HRUN := Lib.hid (fun (W : World) (g : Nat) (h : Ks W g [1, 2, 3]) => by
  have := ref_run s p [1, 2, 3] g W hs (by omega) h (by decide) (by decide);rw [amongW, hn, hE] at this;exact this)
 have hE0 : (p : Int) < (E : Int) := by omega
 have hE1 : (E : Int) <= (s.size : Int) := by omega
 have hlex : lexL (s.data.toList.drop p) = if longB 1 n = true then lx0 else ⟨1, (s.data.toList.drop p).take n, 0, n⟩ := by
  have h : lexL (s.data.toList.drop p) = namedL (wordL 1 (s.data.toList.drop p)) := by
   rw [hda]; unfold lexL; dsimp only; rw [hc, if_neg (by decide), if_pos rfl]
  rw [h];unfold wordL;rw [named_span 1 nameR nameR_high, hn];exact long_if (.inl rfl) _
 have HB := Lib.hid (fun o : Obj => (Below.refl w.heap.size w).alloc (Nat.le_refl _) o);have HOWN := Lib.hid (fun W => ref_own s p 1 E W hs (by omega) (by omega));have hans := ans_own (s := s) (gl := gl) hE hn0 (by decide) hlex (kind_same gl (show (1 : Int) ≠ 6 by decide));generalize (!longB 1 (E - p)) = ok at *;have HANS := Lib.hid hans;clear hans;clear hda hc hlex hn hE;go_enter Tryz.func36, Tryz.ntmps36;go_wp2_with fail;refine (HC.out _).mono ?_; rintro e w0 ⟨rfl, rfl⟩;go_wp2_with fail;generalize hW0 : w.alloc (.cells #[.int .i64 0, .string ⟨#[]⟩, .int .i64 0, .int .i64 0] 55) = W0;have kz : W0.heap[w.heap.size]? = some (.cells #[.int .i64 0, .string ⟨#[]⟩, .int .i64 0, .int .i64 0] 55) := by rw [<- hW0]; exact new_at w _
 have hbW : Below w.heap.size w W0 := by rw [<- hW0]; exact HB.out _
 have hsz : W0.heap.size = w.heap.size + 1 := by rw [<- hW0]; simp
 rw [<- hsz];refine (HRUN.out _ _ (ks_three W0 3 1 2 3)).mono ?_; rintro e w8 ⟨rfl, rfl⟩;have kz8 := past_at kz (.cells #[.int .i64 1, .int .i64 2, .int .i64 3] 3);have hb8 := hbW.alloc hbW.size (.cells #[.int .i64 1, .int .i64 2, .int .i64 3] 3);generalize W0.alloc (.cells #[.int .i64 1, .int .i64 2, .int .i64 3] 3) = w8 at *;clear hW0 kz hbW hsz;go_wp2_with fail;refine (HOWN.out _).mono ?_; rintro e w9 ⟨rfl, hb9⟩;have kz9 := kept_at hb9 kz8;have hbA := hb8.trans (hb9.mono hb8.size);have hl9 : w.heap.size < w9.heap.size := (Array.getElem?_eq_some_iff.1 kz9).1;obtain ⟨c0, c1, c2, c3, f0, f1, f2, f3⟩ := cells4 kz9;clear kz8 kz9 hb8 hb9;go_wp2_with fail;refine bodyPost_ret (v := .tuple #[.agg #[.int .i64 1, .string (s.extract p E), .int .i64 0, .int .i64 (p : Nat)], .int .i64 (E : Nat), .bool ok]) (by simp [results, Tryz.results36, go_sem, c0, c1, c2, c3]) rfl ⟨HANS.out, ?_⟩;exact below_set4 hbA (Nat.le_refl _) _ _ _ _
set_option maxRecDepth 100000 in
set_option maxHeartbeats 4000000 in
theorem tok_c2 (s : ByteArray) (p : Nat) (gl : Bool) (w : World) (hs : s.size <= 200000) (hp : p < s.size) (hc : cls (s[p].toNat : Int) = 2) :
 Calls Tryz.prog 36 #[.string s, .int .i64 (p : Nat), .bool gl] w fun e w' => TokAns (s.data.toList.drop p) p gl e /\ Below w.heap.size w w' := by
 have hda := drop_at s p hp;have hp0 : (0 : Int) <= (p : Int) := by omega
 have hp1 : (p : Int) < (s.size : Int) := by omega
 have HC := Lib.hid (fun W => by
  have := ref_class s p W (by omega);rw [cl1_at s p hp, hc] at this;exact this)
 obtain ⟨n, hn⟩ : ∃ n, spanL nameR (s.data.toList.drop p) = n := ⟨_, rfl⟩;have hn0 : n ≠ 0 := by rw [<- hn, hda]; exact Nat.pos_iff_ne_zero.1 (spanL_pos _ _ _ (by unfold nameR; rw [hc]; decide))
 have hnl := spanL_le nameR (s.data.toList.drop p);rw [hn, List.length_drop, size_listT] at hnl;obtain ⟨E, hE⟩ : ∃ E, p + n = E := ⟨_, rfl⟩;have HRUN := Lib.hid (fun (W : World) (g : Nat) (h : Ks W g [1, 2, 3]) => by
  have := ref_run s p [1, 2, 3] g W hs (by omega) h (by decide) (by decide);rw [amongW, hn, hE] at this;exact this)
 have hE0 : (p : Int) < (E : Int) := by omega
 have hE1 : (E : Int) <= (s.size : Int) := by omega
 have hlex : lexL (s.data.toList.drop p) = if longB 4 n = true then lx0 else ⟨4, (s.data.toList.drop p).take n, 0, n⟩ := by
  have h : lexL (s.data.toList.drop p) = wordL 4 (s.data.toList.drop p) := by
   rw [hda]; unfold lexL; dsimp only; rw [hc, if_neg (by decide), if_neg (by decide), if_pos rfl]
  rw [h, long_no 4 n (by decide) (by decide), if_neg (by decide)];unfold wordL;rw [hn]
 have HB := Lib.hid (fun o : Obj => (Below.refl w.heap.size w).alloc (Nat.le_refl _) o);have HOWN := Lib.hid (fun W => ref_own s p 4 E W hs (by omega) (by omega));have hans := ans_own (s := s) (gl := gl) hE hn0 (by decide) hlex (kind_same gl (show (4 : Int) ≠ 6 by decide));generalize (!longB 4 (E - p)) = ok at *;have HANS := Lib.hid hans;clear hans;clear hda hc hlex hn hE;go_enter Tryz.func36, Tryz.ntmps36;go_wp2_with fail;refine (HC.out _).mono ?_; rintro e w0 ⟨rfl, rfl⟩;go_wp2_with fail;generalize hW0 : w.alloc (.cells #[.int .i64 0, .string ⟨#[]⟩, .int .i64 0, .int .i64 0] 55) = W0;have kz : W0.heap[w.heap.size]? = some (.cells #[.int .i64 0, .string ⟨#[]⟩, .int .i64 0, .int .i64 0] 55) := by rw [<- hW0]; exact new_at w _
 have hbW : Below w.heap.size w W0 := by rw [<- hW0]; exact HB.out _
 have hsz : W0.heap.size = w.heap.size + 1 := by rw [<- hW0]; simp
 rw [<- hsz];refine (HRUN.out _ _ (ks_three W0 3 1 2 3)).mono ?_; rintro e w8 ⟨rfl, rfl⟩;have kz8 := past_at kz (.cells #[.int .i64 1, .int .i64 2, .int .i64 3] 3);have hb8 := hbW.alloc hbW.size (.cells #[.int .i64 1, .int .i64 2, .int .i64 3] 3);generalize W0.alloc (.cells #[.int .i64 1, .int .i64 2, .int .i64 3] 3) = w8 at *;clear hW0 kz hbW hsz;go_wp2_with fail;refine (HOWN.out _).mono ?_; rintro e w9 ⟨rfl, hb9⟩;have kz9 := kept_at hb9 kz8;have hbA := hb8.trans (hb9.mono hb8.size);have hl9 : w.heap.size < w9.heap.size := (Array.getElem?_eq_some_iff.1 kz9).1;obtain ⟨c0, c1, c2, c3, f0, f1, f2, f3⟩ := cells4 kz9;clear kz8 kz9 hb8 hb9;go_wp2_with fail;refine bodyPost_ret (v := .tuple #[.agg #[.int .i64 4, .string (s.extract p E), .int .i64 0, .int .i64 (p : Nat)], .int .i64 (E : Nat), .bool ok]) (by simp [results, Tryz.results36, go_sem, c0, c1, c2, c3]) rfl ⟨HANS.out, ?_⟩;exact below_set4 hbA (Nat.le_refl _) _ _ _ _
set_option maxRecDepth 100000 in
set_option maxHeartbeats 4000000 in
theorem tok_c6a (s : ByteArray) (p : Nat) (gl : Bool) (w : World) (hs : s.size <= 200000) (hp : p < s.size) (hc : cls (s[p].toNat : Int) = 6) (hb : s[p] = 33) :
 Calls Tryz.prog 36 #[.string s, .int .i64 (p : Nat), .bool gl] w fun e w' => TokAns (s.data.toList.drop p) p gl e /\ Below w.heap.size w w' := by
 have hda := drop_at s p hp;have hp0 : (0 : Int) <= (p : Int) := by omega
 have hp1 : (p : Int) < (s.size : Int) := by omega
 have HC := Lib.hid (fun W => by
  have := ref_class s p W (by omega);rw [cl1_at s p hp, hc] at this;exact this)
 have f33 : ((s[p].toNat : Int) == 33) = true := (byte_is s[p] 33).trans (decide_eq_true hb);have htk : (s.data.toList.drop p).take 1 = [s[p]] := by rw [hda]; rfl
 have hlex : lexL (s.data.toList.drop p) = if longB 1 1 = true then lx0 else ⟨1, (s.data.toList.drop p).take 1, 0, 1⟩ := by
  rw [show longB 1 1 = false from by decide, if_neg (by decide), htk, hda];unfold lexL;dsimp only;rw [hc, if_neg (by decide), if_neg (by decide), if_neg (by decide), if_neg (by decide), if_neg (by decide), if_neg (by decide), if_pos (by decide)];unfold singleL;rw [if_pos (.inl hb)]
 obtain ⟨E, hE⟩ : ∃ E, p + 1 = E := ⟨_, rfl⟩;have HE := Lib.hid (show ((p : Int) + 1) = (E : Int) by omega);have HB := Lib.hid (fun o : Obj => (Below.refl w.heap.size w).alloc (Nat.le_refl _) o);have HOWN := Lib.hid (fun W => by
  have := ref_own s p 1 E W hs (by omega) (by omega);rw [<- HE.out] at this;exact this)
 have hans := ans_own (s := s) (gl := gl) (n := 1) (k := 1) hE (by decide) (by decide) hlex (by rw [htk]; exact kind_same gl (show (1 : Int) ≠ 6 by decide));rw [<- HE.out] at hans;generalize (!longB 1 (E - p)) = ok at *;have HANS := Lib.hid hans;have hq2 : (p : Int) + 1 <= (s.size : Int) := by omega
 clear hans hda hc htk hlex hE;go_enter Tryz.func36, Tryz.ntmps36;go_wp2_with fail;refine (HC.out _).mono ?_; rintro e w0 ⟨rfl, rfl⟩;go_wp2_with fail;have kz8 := new_at w (.cells #[.int .i64 0, .string ⟨#[]⟩, .int .i64 0, .int .i64 0] 55);have hb8 := HB.out (.cells #[.int .i64 0, .string ⟨#[]⟩, .int .i64 0, .int .i64 0] 55);generalize w.alloc (.cells #[.int .i64 0, .string ⟨#[]⟩, .int .i64 0, .int .i64 0] 55) = w8 at *;refine (HOWN.out _).mono ?_; rintro e w9 ⟨rfl, hb9⟩;have kz9 := kept_at hb9 kz8;have hbA := hb8.trans (hb9.mono hb8.size);have hl9 : w.heap.size < w9.heap.size := (Array.getElem?_eq_some_iff.1 kz9).1;obtain ⟨c0, c1, c2, c3, f0, f1, f2, f3⟩ := cells4 kz9;clear kz8 kz9 hb8 hb9;go_wp2_with fail;refine bodyPost_ret (v := .tuple #[.agg #[.int .i64 1, .string (s.extract p E), .int .i64 0, .int .i64 (p : Nat)], .int .i64 ((p : Int) + 1), .bool ok]) (by simp [results, Tryz.results36, go_sem, c0, c1, c2, c3]) rfl ⟨HANS.out, ?_⟩;exact below_set4 hbA (Nat.le_refl _) _ _ _ _
set_option maxRecDepth 100000 in
set_option maxHeartbeats 4000000 in
theorem tok_c6b (s : ByteArray) (p : Nat) (gl : Bool) (w : World) (hs : s.size <= 200000) (hp : p < s.size) (hc : cls (s[p].toNat : Int) = 6) (hb : s[p] ≠ 33) (hb2 : s[p] = 59) :
 Calls Tryz.prog 36 #[.string s, .int .i64 (p : Nat), .bool gl] w fun e w' => TokAns (s.data.toList.drop p) p gl e /\ Below w.heap.size w w' := by
 have hda := drop_at s p hp;have hp0 : (0 : Int) <= (p : Int) := by omega
 have hp1 : (p : Int) < (s.size : Int) := by omega
 have HC := Lib.hid (fun W => by
  have := ref_class s p W (by omega);rw [cl1_at s p hp, hc] at this;exact this)
 have f33 : ((s[p].toNat : Int) == 33) = false := (byte_is s[p] 33).trans (decide_eq_false hb);have f59 : ((s[p].toNat : Int) == 59) = true := (byte_is s[p] 59).trans (decide_eq_true hb2);have htk : (s.data.toList.drop p).take 1 = [s[p]] := by rw [hda]; rfl
 have hlex : lexL (s.data.toList.drop p) = if longB 1 1 = true then lx0 else ⟨1, (s.data.toList.drop p).take 1, 0, 1⟩ := by
  rw [show longB 1 1 = false from by decide, if_neg (by decide), htk, hda];unfold lexL;dsimp only;rw [hc, if_neg (by decide), if_neg (by decide), if_neg (by decide), if_neg (by decide), if_neg (by decide), if_neg (by decide), if_pos (by decide)];unfold singleL;rw [if_pos (.inr hb2)]
 obtain ⟨E, hE⟩ : ∃ E, p + 1 = E := ⟨_, rfl⟩;have HE := Lib.hid (show ((p : Int) + 1) = (E : Int) by omega);have HB := Lib.hid (fun o : Obj => (Below.refl w.heap.size w).alloc (Nat.le_refl _) o);have HOWN := Lib.hid (fun W => by
  have := ref_own s p 1 E W hs (by omega) (by omega);rw [<- HE.out] at this;exact this)
 have hans := ans_own (s := s) (gl := gl) (n := 1) (k := 1) hE (by decide) (by decide) hlex (by rw [htk]; exact kind_same gl (show (1 : Int) ≠ 6 by decide));rw [<- HE.out] at hans;generalize (!longB 1 (E - p)) = ok at *;have HANS := Lib.hid hans;have hq2 : (p : Int) + 1 <= (s.size : Int) := by omega
 clear hans hda hc htk hlex hE;go_enter Tryz.func36, Tryz.ntmps36;go_wp2_with fail;refine (HC.out _).mono ?_; rintro e w0 ⟨rfl, rfl⟩;go_wp2_with fail;have kz8 := new_at w (.cells #[.int .i64 0, .string ⟨#[]⟩, .int .i64 0, .int .i64 0] 55);have hb8 := HB.out (.cells #[.int .i64 0, .string ⟨#[]⟩, .int .i64 0, .int .i64 0] 55);generalize w.alloc (.cells #[.int .i64 0, .string ⟨#[]⟩, .int .i64 0, .int .i64 0] 55) = w8 at *;refine (HOWN.out _).mono ?_; rintro e w9 ⟨rfl, hb9⟩;have kz9 := kept_at hb9 kz8;have hbA := hb8.trans (hb9.mono hb8.size);have hl9 : w.heap.size < w9.heap.size := (Array.getElem?_eq_some_iff.1 kz9).1;obtain ⟨c0, c1, c2, c3, f0, f1, f2, f3⟩ := cells4 kz9;clear kz8 kz9 hb8 hb9;go_wp2_with fail;refine bodyPost_ret (v := .tuple #[.agg #[.int .i64 1, .string (s.extract p E), .int .i64 0, .int .i64 (p : Nat)], .int .i64 ((p : Int) + 1), .bool ok]) (by simp [results, Tryz.results36, go_sem, c0, c1, c2, c3]) rfl ⟨HANS.out, ?_⟩;exact below_set4 hbA (Nat.le_refl _) _ _ _ _
set_option maxRecDepth 100000 in
set_option maxHeartbeats 4000000 in
theorem tok_c6c (s : ByteArray) (p : Nat) (gl : Bool) (w : World) (hs : s.size <= 200000) (hp : p < s.size) (hc : cls (s[p].toNat : Int) = 6) (hb : s[p] ≠ 33) (hb2 : s[p] ≠ 59) (hb3 : s[p] ≠ 40) :
 Calls Tryz.prog 36 #[.string s, .int .i64 (p : Nat), .bool gl] w fun e w' => TokAns (s.data.toList.drop p) p gl e /\ Below w.heap.size w w' := by
 have hda := drop_at s p hp;have hp0 : (0 : Int) <= (p : Int) := by omega
 have hp1 : (p : Int) < (s.size : Int) := by omega
 have HC := Lib.hid (fun W => by
  have := ref_class s p W (by omega);rw [cl1_at s p hp, hc] at this;exact this)
 have f33 : ((s[p].toNat : Int) == 33) = false := (byte_is s[p] 33).trans (decide_eq_false hb);have f59 : ((s[p].toNat : Int) == 59) = false := (byte_is s[p] 59).trans (decide_eq_false hb2);have htk : (s.data.toList.drop p).take 1 = [s[p]] := by rw [hda]; rfl
 have hlex : lexL (s.data.toList.drop p) = if longB 6 1 = true then lx0 else ⟨6, (s.data.toList.drop p).take 1, 0, 1⟩ := by
  rw [show longB 6 1 = false from by decide, if_neg (by decide), htk, hda];unfold lexL;dsimp only;rw [hc, if_neg (by decide), if_neg (by decide), if_neg (by decide), if_neg (by decide), if_neg (by decide), if_neg (by decide), if_pos (by decide)];unfold singleL;rw [if_neg (by rintro (h | h); exact hb h; exact hb2 h)]
 obtain ⟨E, hE⟩ : ∃ E, p + 1 = E := ⟨_, rfl⟩;have HE := Lib.hid (show ((p : Int) + 1) = (E : Int) by omega);have HB := Lib.hid (fun o : Obj => (Below.refl w.heap.size w).alloc (Nat.le_refl _) o);have HOWN := Lib.hid (fun W => by
  have := ref_own s p 6 E W hs (by omega) (by omega);rw [<- HE.out] at this;exact this)
 have hans := ans_own (s := s) (gl := gl) (n := 1) (k := 6) hE (by decide) (by decide) hlex (by rw [htk]; unfold kindL; rw [if_neg]; rintro ⟨_, h, _⟩; injection h with h _; exact hb3 h);rw [<- HE.out] at hans;generalize (!longB 6 (E - p)) = ok at *;have HANS := Lib.hid hans;have hq2 : (p : Int) + 1 <= (s.size : Int) := by omega
 clear hans hda hc htk hlex hE;go_enter Tryz.func36, Tryz.ntmps36;go_wp2_with fail;refine (HC.out _).mono ?_; rintro e w0 ⟨rfl, rfl⟩;go_wp2_with fail;have kz8 := new_at w (.cells #[.int .i64 0, .string ⟨#[]⟩, .int .i64 0, .int .i64 0] 55);have hb8 := HB.out (.cells #[.int .i64 0, .string ⟨#[]⟩, .int .i64 0, .int .i64 0] 55);generalize w.alloc (.cells #[.int .i64 0, .string ⟨#[]⟩, .int .i64 0, .int .i64 0] 55) = w8 at *;refine (HOWN.out _).mono ?_; rintro e w9 ⟨rfl, hb9⟩;have kz9 := kept_at hb9 kz8;have hbA := hb8.trans (hb9.mono hb8.size);have hl9 : w.heap.size < w9.heap.size := (Array.getElem?_eq_some_iff.1 kz9).1;obtain ⟨c0, c1, c2, c3, f0, f1, f2, f3⟩ := cells4 kz9;clear kz8 kz9 hb8 hb9;go_wp2_with fail;refine bodyPost_ret (v := .tuple #[.agg #[.int .i64 6, .string (s.extract p E), .int .i64 0, .int .i64 (p : Nat)], .int .i64 ((p : Int) + 1), .bool ok]) (by simp [results, Tryz.results36, go_sem, c0, c1, c2, c3]) rfl ⟨HANS.out, ?_⟩;exact below_set4 hbA (Nat.le_refl _) _ _ _ _
set_option maxRecDepth 100000 in
set_option maxHeartbeats 4000000 in
theorem tok_c7a (s : ByteArray) (p : Nat) (gl : Bool) (w : World) (hs : s.size <= 200000) (hp : p < s.size) (hc : cls (s[p].toNat : Int) = 7) (hb : s[p] ≠ 33) (hb2 : s[p] ≠ 59) (hb3 : s[p] ≠ 40) :
 Calls Tryz.prog 36 #[.string s, .int .i64 (p : Nat), .bool gl] w fun e w' => TokAns (s.data.toList.drop p) p gl e /\ Below w.heap.size w w' := by
 have hda := drop_at s p hp;have hp0 : (0 : Int) <= (p : Int) := by omega
 have hp1 : (p : Int) < (s.size : Int) := by omega
 have HC := Lib.hid (fun W => by
  have := ref_class s p W (by omega);rw [cl1_at s p hp, hc] at this;exact this)
 have f40 : ((s[p].toNat : Int) == 40) = false := (byte_is s[p] 40).trans (decide_eq_false hb3);have htk : (s.data.toList.drop p).take 1 = [s[p]] := by rw [hda]; rfl
 have hlex : lexL (s.data.toList.drop p) = if longB 6 1 = true then lx0 else ⟨6, (s.data.toList.drop p).take 1, 0, 1⟩ := by
  rw [show longB 6 1 = false from by decide, if_neg (by decide), htk, hda];unfold lexL;dsimp only;rw [hc, if_neg (by decide), if_neg (by decide), if_neg (by decide), if_neg (by decide), if_neg (by decide), if_neg (by decide), if_pos (by decide)];unfold singleL;rw [if_neg (by rintro (h | h); exact hb h; exact hb2 h)]
 obtain ⟨E, hE⟩ : ∃ E, p + 1 = E := ⟨_, rfl⟩;have HE := Lib.hid (show ((p : Int) + 1) = (E : Int) by omega);have HB := Lib.hid (fun o : Obj => (Below.refl w.heap.size w).alloc (Nat.le_refl _) o);have HOWN := Lib.hid (fun W => by
  have := ref_own s p 6 E W hs (by omega) (by omega);rw [<- HE.out] at this;exact this)
 have hans := ans_own (s := s) (gl := gl) (n := 1) (k := 6) hE (by decide) (by decide) hlex (by rw [htk]; unfold kindL; rw [if_neg]; rintro ⟨_, h, _⟩; injection h with h _; exact hb3 h);rw [<- HE.out] at hans;generalize (!longB 6 (E - p)) = ok at *;have HANS := Lib.hid hans;have hq2 : (p : Int) + 1 <= (s.size : Int) := by omega
 clear hans hda hc htk hlex hE;go_enter Tryz.func36, Tryz.ntmps36;go_wp2_with fail;refine (HC.out _).mono ?_; rintro e w0 ⟨rfl, rfl⟩;go_wp2_with fail;have kz8 := new_at w (.cells #[.int .i64 0, .string ⟨#[]⟩, .int .i64 0, .int .i64 0] 55);have hb8 := HB.out (.cells #[.int .i64 0, .string ⟨#[]⟩, .int .i64 0, .int .i64 0] 55);generalize w.alloc (.cells #[.int .i64 0, .string ⟨#[]⟩, .int .i64 0, .int .i64 0] 55) = w8 at *;refine (HOWN.out _).mono ?_; rintro e w9 ⟨rfl, hb9⟩;have kz9 := kept_at hb9 kz8;have hbA := hb8.trans (hb9.mono hb8.size);have hl9 : w.heap.size < w9.heap.size := (Array.getElem?_eq_some_iff.1 kz9).1;obtain ⟨c0, c1, c2, c3, f0, f1, f2, f3⟩ := cells4 kz9;clear kz8 kz9 hb8 hb9;go_wp2_with fail;refine bodyPost_ret (v := .tuple #[.agg #[.int .i64 6, .string (s.extract p E), .int .i64 0, .int .i64 (p : Nat)], .int .i64 ((p : Int) + 1), .bool ok]) (by simp [results, Tryz.results36, go_sem, c0, c1, c2, c3]) rfl ⟨HANS.out, ?_⟩;exact below_set4 hbA (Nat.le_refl _) _ _ _ _
set_option maxRecDepth 100000 in
set_option maxHeartbeats 4000000 in
theorem tok_c7b (s : ByteArray) (p : Nat) (gl : Bool) (w : World) (hs : s.size <= 200000) (hp : p < s.size) (hc : cls (s[p].toNat : Int) = 7) (hb : s[p] ≠ 33) (hb2 : s[p] ≠ 59) (hb3 : s[p] = 40) (hg : gl = false) :
 Calls Tryz.prog 36 #[.string s, .int .i64 (p : Nat), .bool gl] w fun e w' => TokAns (s.data.toList.drop p) p gl e /\ Below w.heap.size w w' := by
 have hda := drop_at s p hp;have hp0 : (0 : Int) <= (p : Int) := by omega
 have hp1 : (p : Int) < (s.size : Int) := by omega
 have HC := Lib.hid (fun W => by
  have := ref_class s p W (by omega);rw [cl1_at s p hp, hc] at this;exact this)
 have f40 : ((s[p].toNat : Int) == 40) = true := (byte_is s[p] 40).trans (decide_eq_true hb3);have htk : (s.data.toList.drop p).take 1 = [s[p]] := by rw [hda]; rfl
 have hlex : lexL (s.data.toList.drop p) = if longB 6 1 = true then lx0 else ⟨6, (s.data.toList.drop p).take 1, 0, 1⟩ := by
  rw [show longB 6 1 = false from by decide, if_neg (by decide), htk, hda];unfold lexL;dsimp only;rw [hc, if_neg (by decide), if_neg (by decide), if_neg (by decide), if_neg (by decide), if_neg (by decide), if_neg (by decide), if_pos (by decide)];unfold singleL;rw [if_neg (by rintro (h | h); exact hb h; exact hb2 h)]
 obtain ⟨E, hE⟩ : ∃ E, p + 1 = E := ⟨_, rfl⟩;have HE := Lib.hid (show ((p : Int) + 1) = (E : Int) by omega);have HB := Lib.hid (fun o : Obj => (Below.refl w.heap.size w).alloc (Nat.le_refl _) o);have HOWN := Lib.hid (fun W => by
  have := ref_own s p 6 E W hs (by omega) (by omega);rw [<- HE.out] at this;exact this)
 have hans := ans_own (s := s) (gl := gl) (n := 1) (k := 6) hE (by decide) (by decide) hlex (by rw [htk]; unfold kindL; rw [if_neg]; rintro ⟨h, _⟩; rw [hg] at h; cases h);rw [<- HE.out] at hans;generalize (!longB 6 (E - p)) = ok at *;have HANS := Lib.hid hans;have hq2 : (p : Int) + 1 <= (s.size : Int) := by omega
 subst hg;clear hans hda hc htk hlex hE;go_enter Tryz.func36, Tryz.ntmps36;go_wp2_with fail;refine (HC.out _).mono ?_; rintro e w0 ⟨rfl, rfl⟩;go_wp2_with fail;have kz8 := new_at w (.cells #[.int .i64 0, .string ⟨#[]⟩, .int .i64 0, .int .i64 0] 55);have hb8 := HB.out (.cells #[.int .i64 0, .string ⟨#[]⟩, .int .i64 0, .int .i64 0] 55);generalize w.alloc (.cells #[.int .i64 0, .string ⟨#[]⟩, .int .i64 0, .int .i64 0] 55) = w8 at *;refine (HOWN.out _).mono ?_; rintro e w9 ⟨rfl, hb9⟩;have kz9 := kept_at hb9 kz8;have hbA := hb8.trans (hb9.mono hb8.size);have hl9 : w.heap.size < w9.heap.size := (Array.getElem?_eq_some_iff.1 kz9).1;obtain ⟨c0, c1, c2, c3, f0, f1, f2, f3⟩ := cells4 kz9;clear kz8 kz9 hb8 hb9;go_wp2_with fail;refine bodyPost_ret (v := .tuple #[.agg #[.int .i64 6, .string (s.extract p E), .int .i64 0, .int .i64 (p : Nat)], .int .i64 ((p : Int) + 1), .bool ok]) (by simp [results, Tryz.results36, go_sem, c0, c1, c2, c3]) rfl ⟨HANS.out, ?_⟩;exact below_set4 hbA (Nat.le_refl _) _ _ _ _
set_option maxRecDepth 100000 in
set_option maxHeartbeats 4000000 in
theorem tok_c7c (s : ByteArray) (p : Nat) (gl : Bool) (w : World) (hs : s.size <= 200000) (hp : p < s.size) (hc : cls (s[p].toNat : Int) = 7) (hb : s[p] ≠ 33) (hb2 : s[p] ≠ 59) (hb3 : s[p] = 40) (hg : gl = true) :
 Calls Tryz.prog 36 #[.string s, .int .i64 (p : Nat), .bool gl] w fun e w' => TokAns (s.data.toList.drop p) p gl e /\ Below w.heap.size w w' := by
 have hda := drop_at s p hp;have hp0 : (0 : Int) <= (p : Int) := by omega
 have hp1 : (p : Int) < (s.size : Int) := by omega
 have HC := Lib.hid (fun W => by
  have := ref_class s p W (by omega);rw [cl1_at s p hp, hc] at this;exact this)
 have f40 : ((s[p].toNat : Int) == 40) = true := (byte_is s[p] 40).trans (decide_eq_true hb3);have htk : (s.data.toList.drop p).take 1 = [s[p]] := by rw [hda]; rfl
 have hlex : lexL (s.data.toList.drop p) = if longB 7 1 = true then lx0 else ⟨6, (s.data.toList.drop p).take 1, 0, 1⟩ := by
  rw [show longB 7 1 = false from by decide, if_neg (by decide), htk, hda];unfold lexL;dsimp only;rw [hc, if_neg (by decide), if_neg (by decide), if_neg (by decide), if_neg (by decide), if_neg (by decide), if_neg (by decide), if_pos (by decide)];unfold singleL;rw [if_neg (by rintro (h | h); exact hb h; exact hb2 h)]
 obtain ⟨E, hE⟩ : ∃ E, p + 1 = E := ⟨_, rfl⟩;have HE := Lib.hid (show ((p : Int) + 1) = (E : Int) by omega);have HB := Lib.hid (fun o : Obj => (Below.refl w.heap.size w).alloc (Nat.le_refl _) o);have HOWN := Lib.hid (fun W => by
  have := ref_own s p 7 E W hs (by omega) (by omega);rw [<- HE.out] at this;exact this)
 have hans := ans_own (s := s) (gl := gl) (n := 1) (k := 7) hE (by decide) (by decide) hlex (by rw [htk]; unfold kindL; rw [if_pos ⟨hg, by rw [hb3], rfl⟩]);rw [<- HE.out] at hans;generalize (!longB 7 (E - p)) = ok at *;have HANS := Lib.hid hans;have hq2 : (p : Int) + 1 <= (s.size : Int) := by omega
 subst hg;clear hans hda hc htk hlex hE;go_enter Tryz.func36, Tryz.ntmps36;go_wp2_with fail;refine (HC.out _).mono ?_; rintro e w0 ⟨rfl, rfl⟩;go_wp2_with fail;have kz8 := new_at w (.cells #[.int .i64 0, .string ⟨#[]⟩, .int .i64 0, .int .i64 0] 55);have hb8 := HB.out (.cells #[.int .i64 0, .string ⟨#[]⟩, .int .i64 0, .int .i64 0] 55);generalize w.alloc (.cells #[.int .i64 0, .string ⟨#[]⟩, .int .i64 0, .int .i64 0] 55) = w8 at *;refine (HOWN.out _).mono ?_; rintro e w9 ⟨rfl, hb9⟩;have kz9 := kept_at hb9 kz8;have hbA := hb8.trans (hb9.mono hb8.size);have hl9 : w.heap.size < w9.heap.size := (Array.getElem?_eq_some_iff.1 kz9).1;obtain ⟨c0, c1, c2, c3, f0, f1, f2, f3⟩ := cells4 kz9;clear kz8 kz9 hb8 hb9;go_wp2_with fail;refine bodyPost_ret (v := .tuple #[.agg #[.int .i64 7, .string (s.extract p E), .int .i64 0, .int .i64 (p : Nat)], .int .i64 ((p : Int) + 1), .bool ok]) (by simp [results, Tryz.results36, go_sem, c0, c1, c2, c3]) rfl ⟨HANS.out, ?_⟩;exact below_set4 hbA (Nat.le_refl _) _ _ _ _
set_option maxRecDepth 100000 in
set_option maxHeartbeats 4000000 in
theorem tok_c8a (s : ByteArray) (p : Nat) (gl : Bool) (w : World) (hs : s.size <= 200000) (hp : p < s.size) (hc : cls (s[p].toNat : Int) = 8) (hT : TabsT w) (hr : readL (s.data.toList.drop p) = none) :
 Calls Tryz.prog 36 #[.string s, .int .i64 (p : Nat), .bool gl] w fun e w' => TokAns (s.data.toList.drop p) p gl e /\ Below w.heap.size w w' := by
 have hda := drop_at s p hp;have hp0 : (0 : Int) <= (p : Int) := by omega
 have hp1 : (p : Int) < (s.size : Int) := by omega
 have HC := Lib.hid (fun W => by
  have := ref_class s p W (by omega);rw [cl1_at s p hp, hc] at this;exact this)
 have hlex : lexL (s.data.toList.drop p) = namedL (quotedL (s.data.toList.drop p)) := by
  rw [hda]; unfold lexL; dsimp only;rw [hc, if_neg (by decide), if_neg (by decide), if_neg (by decide), if_neg (by decide), if_neg (by decide), if_pos rfl]
 have hex : (s.extract p s.size).data.toList = s.data.toList.drop p := by rw [ext_drop]
 have HT := Lib.hid hT;have hRD := fun W (h : TabsT W) => ref_Read (s.extract p s.size) W (by rw [ByteArray.size_extract]; omega) h.1;rw [hex] at hRD;have HB := Lib.hid (fun o : Obj => (Below.refl w.heap.size w).alloc (Nat.le_refl _) o);obtain ⟨r1, r2, r3⟩ := read_none hr;rw [r1, r2, r3] at hRD;have HANS : Hid (TokAns (s.data.toList.drop p) p gl (.returned (.tuple #[.agg #[.int .i64 0, .string ⟨#[]⟩, .int .i64 0, .int .i64 0], .int .i64 0, .bool false]))) := Lib.hid (by
  refine ⟨0, 0, 0, ⟨#[]⟩, 0, false, rfl, ?_, fun h => by cases h⟩;rw [hlex];unfold quotedL;rw [hr];rfl)
 clear hr r1 r2 r3;have HREAD := Lib.hid hRD;clear hda hc hlex hex hRD hT;go_enter Tryz.func36, Tryz.ntmps36;go_wp2_with fail;refine (HC.out _).mono ?_; rintro e w0 ⟨rfl, rfl⟩;go_wp2_with fail;have kz8 := new_at w (.cells #[.int .i64 0, .string ⟨#[]⟩, .int .i64 0, .int .i64 0] 55);have hb8 := HB.out (.cells #[.int .i64 0, .string ⟨#[]⟩, .int .i64 0, .int .i64 0] 55);generalize w.alloc (.cells #[.int .i64 0, .string ⟨#[]⟩, .int .i64 0, .int .i64 0] 55) = w8 at *;refine (HREAD.out _ (HT.out.on hb8)).mono ?_; rintro e w9 ⟨rfl, hb9⟩;have kz9 := kept_at hb9 kz8;have hbA := hb8.trans (hb9.mono hb8.size);have hl9 : w.heap.size < w9.heap.size := (Array.getElem?_eq_some_iff.1 kz9).1;obtain ⟨c0, c1, c2, c3, f0, f1, f2, f3⟩ := cells4 kz9;clear kz8 kz9 hb8 hb9;go_wp2_with fail;refine bodyPost_ret (v := .tuple #[.agg #[.int .i64 0, .string ⟨#[]⟩, .int .i64 0, .int .i64 0], .int .i64 0, .bool false]) (by simp [results, Tryz.results36, go_sem, c0, c1, c2, c3]) rfl ⟨HANS.out, ?_⟩;exact below_set4 hbA (Nat.le_refl _) _ _ _ _
set_option maxRecDepth 100000 in
set_option maxHeartbeats 4000000 in
theorem tok_c8b (s : ByteArray) (p : Nat) (gl : Bool) (w : World) (hs : s.size <= 200000) (hp : p < s.size) (hc : cls (s[p].toNat : Int) = 8) (hT : TabsT w) (t : List UInt8) (k : Nat) (hr : readL (s.data.toList.drop p) = some (t, k)) (hlong : 255 < t.length) :
 Calls Tryz.prog 36 #[.string s, .int .i64 (p : Nat), .bool gl] w fun e w' => TokAns (s.data.toList.drop p) p gl e /\ Below w.heap.size w w' := by
 have hda := drop_at s p hp;have hp0 : (0 : Int) <= (p : Int) := by omega
 have hp1 : (p : Int) < (s.size : Int) := by omega
 have HC := Lib.hid (fun W => by
  have := ref_class s p W (by omega);rw [cl1_at s p hp, hc] at this;exact this)
 have hlex : lexL (s.data.toList.drop p) = namedL (quotedL (s.data.toList.drop p)) := by
  rw [hda]; unfold lexL; dsimp only;rw [hc, if_neg (by decide), if_neg (by decide), if_neg (by decide), if_neg (by decide), if_neg (by decide), if_pos rfl]
 have hex : (s.extract p s.size).data.toList = s.data.toList.drop p := by rw [ext_drop]
 have HT := Lib.hid hT;have hRD := fun W (h : TabsT W) => ref_Read (s.extract p s.size) W (by rw [ByteArray.size_extract]; omega) h.1;rw [hex] at hRD;have HB := Lib.hid (fun o : Obj => (Below.refl w.heap.size w).alloc (Nat.le_refl _) o);obtain ⟨r1, r2, r3⟩ := read_some hr;rw [r1, r2, r3] at hRD;have HANS : Hid (TokAns (s.data.toList.drop p) p gl (.returned (.tuple #[.agg #[.int .i64 0, .string ⟨#[]⟩, .int .i64 0, .int .i64 0], .int .i64 0, .bool false]))) := Lib.hid (by
  have hl : lexL (s.data.toList.drop p) = lx0 := by
   rw [hlex];unfold quotedL;rw [hr];unfold namedL checkL;dsimp only;rw [decide_eq_false (show ¬ t.length <= 255 by omega), Bool.false_and, if_neg (by decide)]
  refine ⟨0, 0, 0, ⟨#[]⟩, 0, false, rfl, ?_, fun h => by cases h⟩;rw [hl];rfl)
 have hz : (255 : Int) < ((⟨t.toArray⟩ : ByteArray).size : Int) := by rw [size_mk]; omega
 generalize (⟨t.toArray⟩ : ByteArray) = u at *;clear hr r1 r2 r3 hlong;have HREAD := Lib.hid hRD;clear hda hc hlex hex hRD hT;go_enter Tryz.func36, Tryz.ntmps36;go_wp2_with fail;refine (HC.out _).mono ?_; rintro e w0 ⟨rfl, rfl⟩;go_wp2_with fail;have kz8 := new_at w (.cells #[.int .i64 0, .string ⟨#[]⟩, .int .i64 0, .int .i64 0] 55);have hb8 := HB.out (.cells #[.int .i64 0, .string ⟨#[]⟩, .int .i64 0, .int .i64 0] 55);generalize w.alloc (.cells #[.int .i64 0, .string ⟨#[]⟩, .int .i64 0, .int .i64 0] 55) = w8 at *;refine (HREAD.out _ (HT.out.on hb8)).mono ?_; rintro e w9 ⟨rfl, hb9⟩;have kz9 := kept_at hb9 kz8;have hbA := hb8.trans (hb9.mono hb8.size);have hl9 : w.heap.size < w9.heap.size := (Array.getElem?_eq_some_iff.1 kz9).1;obtain ⟨c0, c1, c2, c3, f0, f1, f2, f3⟩ := cells4 kz9;clear kz8 kz9 hb8 hb9;go_wp2_with fail;refine bodyPost_ret (v := .tuple #[.agg #[.int .i64 0, .string ⟨#[]⟩, .int .i64 0, .int .i64 0], .int .i64 0, .bool false]) (by simp [results, Tryz.results36, go_sem, c0, c1, c2, c3]) rfl ⟨HANS.out, ?_⟩;exact below_set4 hbA (Nat.le_refl _) _ _ _ _
set_option maxRecDepth 100000 in
set_option maxHeartbeats 4000000 in
theorem tok_c8c (s : ByteArray) (p : Nat) (gl : Bool) (w : World) (hs : s.size <= 200000) (hp : p < s.size) (hc : cls (s[p].toNat : Int) = 8) (hT : TabsT w) (t : List UInt8) (k : Nat) (hr : readL (s.data.toList.drop p) = some (t, k)) (hshort : t.length <= 255) :
 Calls Tryz.prog 36 #[.string s, .int .i64 (p : Nat), .bool gl] w fun e w' => TokAns (s.data.toList.drop p) p gl e /\ Below w.heap.size w w' := by
 have hda := drop_at s p hp;have hp0 : (0 : Int) <= (p : Int) := by omega
 have hp1 : (p : Int) < (s.size : Int) := by omega
 have HC := Lib.hid (fun W => by
  have := ref_class s p W (by omega);rw [cl1_at s p hp, hc] at this;exact this)
 have hlex : lexL (s.data.toList.drop p) = namedL (quotedL (s.data.toList.drop p)) := by
  rw [hda]; unfold lexL; dsimp only;rw [hc, if_neg (by decide), if_neg (by decide), if_neg (by decide), if_neg (by decide), if_neg (by decide), if_pos rfl]
 have hex : (s.extract p s.size).data.toList = s.data.toList.drop p := by rw [ext_drop]
 have HT := Lib.hid hT;have hRD := fun W (h : TabsT W) => ref_Read (s.extract p s.size) W (by rw [ByteArray.size_extract]; omega) h.1;rw [hex] at hRD;have HB := Lib.hid (fun o : Obj => (Below.refl w.heap.size w).alloc (Nat.le_refl _) o);obtain ⟨r1, r2, r3⟩ := read_some hr;rw [r1, r2, r3] at hRD;obtain ⟨hv, hk1, hk2⟩ := readL_within _ _ _ hr;rw [List.length_drop, size_listT] at hk2;have hl : lexL (s.data.toList.drop p) = ⟨2, t, 0, k⟩ := by
  rw [hlex];unfold quotedL;rw [hr];unfold namedL checkL;dsimp only;rw [decide_eq_true hshort, hv];rfl
 have HANS : Hid (TokAns (s.data.toList.drop p) p gl (.returned (.tuple #[.agg #[.int .i64 2, .string ⟨t.toArray⟩, .int .i64 0, .int .i64 (p : Nat)], .int .i64 ((p : Int) + (k : Int)), .bool true]))) := Lib.hid (by
  refine ⟨2, 0, (p : Nat), ⟨t.toArray⟩, p + k, true, rfl, ?_, fun _ => ?_⟩
  · rw [hl];symm
    exact decide_eq_true (show k ≠ 0 by omega)
  · rw [hl];exact ⟨show (2 : Int) ≠ 0 by decide, (kind_same (x := ⟨2, t, 0, k⟩) gl (show (2 : Int) ≠ 6 by decide)).symm, rfl, rfl, rfl, rfl⟩)
 have hz : ((⟨t.toArray⟩ : ByteArray).size : Int) <= 255 := by rw [size_mk]; omega
 have hk3 : (p : Int) + (k : Int) <= (s.size : Int) := by omega
 have hk4 : (0 : Int) <= (k : Int) := by omega
 generalize (⟨t.toArray⟩ : ByteArray) = u at *;clear hr r1 r2 r3 hshort hv hl hk1 hk2;have HREAD := Lib.hid hRD;clear hda hc hlex hex hRD hT;go_enter Tryz.func36, Tryz.ntmps36;go_wp2_with fail;refine (HC.out _).mono ?_; rintro e w0 ⟨rfl, rfl⟩;go_wp2_with fail;have kz8 := new_at w (.cells #[.int .i64 0, .string ⟨#[]⟩, .int .i64 0, .int .i64 0] 55);have hb8 := HB.out (.cells #[.int .i64 0, .string ⟨#[]⟩, .int .i64 0, .int .i64 0] 55);generalize w.alloc (.cells #[.int .i64 0, .string ⟨#[]⟩, .int .i64 0, .int .i64 0] 55) = w8 at *;refine (HREAD.out _ (HT.out.on hb8)).mono ?_; rintro e w9 ⟨rfl, hb9⟩;have kz9 := kept_at hb9 kz8;have hbA := hb8.trans (hb9.mono hb8.size);have hl9 : w.heap.size < w9.heap.size := (Array.getElem?_eq_some_iff.1 kz9).1;obtain ⟨c0, c1, c2, c3, f0, f1, f2, f3⟩ := cells4 kz9;clear kz8 kz9 hb8 hb9;go_wp2_with fail;refine bodyPost_ret (v := .tuple #[.agg #[.int .i64 2, .string u, .int .i64 0, .int .i64 (p : Nat)], .int .i64 ((p : Int) + (k : Int)), .bool true]) (by simp [results, Tryz.results36, go_sem, c0, c1, c2, c3]) rfl ⟨HANS.out, ?_⟩;exact below_set4 hbA (Nat.le_refl _) _ _ _ _
set_option maxRecDepth 100000 in
set_option maxHeartbeats 4000000 in
theorem tok_c0 (s : ByteArray) (p : Nat) (gl : Bool) (w : World) (hs : s.size <= 200000) (hp : p < s.size) (h : cls (s[p].toNat : Int) ≠ 1 /\ cls (s[p].toNat : Int) ≠ 2 /\ cls (s[p].toNat : Int) ≠ 3 /\ cls (s[p].toNat : Int) ≠ 4 /\ cls (s[p].toNat : Int) ≠ 5 /\ cls (s[p].toNat : Int) ≠ 6 /\ cls (s[p].toNat : Int) ≠ 7 /\ cls (s[p].toNat : Int) ≠ 8) (h37 : s[p] ≠ 37) :
 Calls Tryz.prog 36 #[.string s, .int .i64 (p : Nat), .bool gl] w fun e w' => TokAns (s.data.toList.drop p) p gl e /\ Below w.heap.size w w' := by
 have hda := drop_at s p hp;have hp0 : (0 : Int) <= (p : Int) := by omega
 have hp1 : (p : Int) < (s.size : Int) := by omega
 have hCL := fun W => ref_class s p W (by omega);rw [cl1_at s p hp] at hCL;have HANS : Hid (TokAns (s.data.toList.drop p) p gl (.returned (.tuple #[.agg #[.int .i64 0, .string ⟨#[]⟩, .int .i64 0, .int .i64 0], .int .i64 0, .bool false]))) := Lib.hid (by
  have hl : lexL (s.data.toList.drop p) = lx0 := by
   rw [hda];unfold lexL;dsimp only;rw [if_neg h.2.2.2.2.1, if_neg h.1, if_neg h.2.1, if_neg h.2.2.1, if_neg h.2.2.2.1, if_neg h.2.2.2.2.2.2.2, if_neg (by rintro (e | e); exact h.2.2.2.2.2.1 e; exact h.2.2.2.2.2.2.1 e), if_neg h37]
  refine ⟨0, 0, 0, ⟨#[]⟩, 0, false, rfl, ?_, fun h => by cases h⟩;rw [hl];rfl)
 obtain ⟨h1, h2, h3, h4, _, h6, h7, h8⟩ := h;have e1 := beq_eq_false_iff_ne.2 h1;have e2 := beq_eq_false_iff_ne.2 h2;have e3 := beq_eq_false_iff_ne.2 h3;have e4 := beq_eq_false_iff_ne.2 h4;have e6 := beq_eq_false_iff_ne.2 h6;have e7 := beq_eq_false_iff_ne.2 h7;have e8 := beq_eq_false_iff_ne.2 h8;generalize cls (s[p].toNat : Int) = q at *;have HC := Lib.hid hCL;clear hda hCL h1 h2 h3 h4 h6 h7 h8;have HB := Lib.hid (fun o : Obj => (Below.refl w.heap.size w).alloc (Nat.le_refl _) o);go_enter Tryz.func36, Tryz.ntmps36;go_wp2_with fail;refine (HC.out _).mono ?_; rintro e w0 ⟨rfl, rfl⟩;go_wp2_with fail;refine bodyPost_ret (v := .tuple #[.agg #[.int .i64 0, .string ⟨#[]⟩, .int .i64 0, .int .i64 0], .int .i64 0, .bool false]) (by simp [results, Tryz.results36, go_sem]) rfl ⟨HANS.out, ?_⟩;first | exact HB.out _ | exact below_set4 (HB.out _) (Nat.le_refl _) _ _ _ _
theorem lex_signs {l : List UInt8} {b : UInt8} {t : List UInt8} (hl : l = b :: t) (hc : cls (b.toNat : Int) = 4) (h2 : l.take 2 ≠ [47, 42]) {n : Nat} (hn : spanL signR l = n) {k : Int}
 (hk : k = if l.take n = [46] /\ partsL (l.drop n) = true then 8 else 3) : lexL l = if longB k n = true then lx0 else ⟨k, l.take n, 0, n⟩ := by
 have h : lexL l = namedL (signsL l) := by
  subst hl;unfold lexL;dsimp only;rw [hc, if_neg (by decide), if_neg (by decide), if_neg (by decide), if_neg (by decide), if_pos rfl, if_neg h2]
 rw [h];unfold signsL;rw [hn, <- hk];have hs := named_span k signR signR_high l;rw [hn] at hs;rw [hs];by_cases h8 : l.take n = [46] /\ partsL (l.drop n) = true
 · rw [if_pos h8] at hk;have h1 : n = 1 := by
    have := congrArg List.length h8.1;have hle := spanL_le signR l;rw [hn] at hle;rw [List.length_take] at this;simp at this; omega
   rw [hk, if_pos (show n <= 255 by omega), long_no 8 n (by decide) (by decide), if_neg (by decide)]
 · rw [if_neg h8] at hk;exact long_if (.inr hk) _
theorem ext_is (s : ByteArray) (p E : Nat) (n : Nat) (hE : p + n = E) : ((s.extract p E).toList == [46]) = decide ((s.data.toList.drop p).take n = [46]) := by
 rw [ByteArray.toList_eq, Lib.extract_eq, show E - p = n from by omega, Bool.eq_iff_iff];simp
set_option maxRecDepth 100000 in
set_option maxHeartbeats 4000000 in
theorem tok_c4a (s : ByteArray) (p : Nat) (gl : Bool) (w : World) (hs : s.size <= 200000) (hp : p < s.size) (hc : cls (s[p].toNat : Int) = 4) (h2 : (s.data.toList.drop p).take 2 ≠ [47, 42]) (n E : Nat) (hn : spanL signR (s.data.toList.drop p) = n) (hE : p + n = E) (hd : (s.data.toList.drop p).take n ≠ [46]) :
 Calls Tryz.prog 36 #[.string s, .int .i64 (p : Nat), .bool gl] w fun e w' => TokAns (s.data.toList.drop p) p gl e /\ Below w.heap.size w w' := by
 have hda := drop_at s p hp;have hp0 : (0 : Int) <= (p : Int) := by omega
 have hp1 : (p : Int) < (s.size : Int) := by omega
 have HC := Lib.hid (fun W => by
  have := ref_class s p W (by omega);rw [cl1_at s p hp, hc] at this;exact this)
 have hn0 : n ≠ 0 := by rw [<- hn, hda]; exact Nat.pos_iff_ne_zero.1 (spanL_pos _ _ _ (by unfold signR; rw [hc]; decide))
 have hnl := spanL_le signR (s.data.toList.drop p);rw [hn, List.length_drop, size_listT] at hnl;have HRUN := Lib.hid (fun (W : World) (g : Nat) (h : Ks W g [4]) => by
  have := ref_run s p [4] g W hs (by omega) h (by decide) (by decide);rw [amongS, hn, hE] at this;exact this)
 have hE0 : (p : Int) < (E : Int) := by omega
 have hE1 : (E : Int) <= (s.size : Int) := by omega
 have hE2 : (p : Int) <= (E : Int) := by omega
 have hex := ext_is s p E n hE;have hdd : (s.data.toList.drop p).drop n = s.data.toList.drop E := by rw [List.drop_drop, hE]
 have hlex := lex_signs hda hc h2 hn (k := 3) (by rw [hdd]; rw [if_neg (fun h => hd h.1)]);have HB := Lib.hid (fun o : Obj => (Below.refl w.heap.size w).alloc (Nat.le_refl _) o);have HOWN := Lib.hid (fun W => ref_own s p 3 E W hs (by omega) (by omega));have hans := ans_own (s := s) (gl := gl) hE hn0 (by decide) hlex (kind_same gl (show (3 : Int) ≠ 6 by decide));generalize (!longB 3 (E - p)) = ok at *;have HANS := Lib.hid hans;clear hans;have f46 : ((s.extract p E).toList == [46]) = false := hex.trans (decide_eq_false hd);clear hex hd;clear hda hc h2 hn hE hlex hdd hnl;go_enter Tryz.func36, Tryz.ntmps36;go_wp2_with fail;refine (HC.out _).mono ?_; rintro e w0 ⟨rfl, rfl⟩;go_wp2_with fail;generalize hW0 : w.alloc (.cells #[.int .i64 0, .string ⟨#[]⟩, .int .i64 0, .int .i64 0] 55) = W0;have kz : W0.heap[w.heap.size]? = some (.cells #[.int .i64 0, .string ⟨#[]⟩, .int .i64 0, .int .i64 0] 55) := by rw [<- hW0]; exact new_at w _
 have hbW : Below w.heap.size w W0 := by rw [<- hW0]; exact HB.out _
 have hsz : W0.heap.size = w.heap.size + 1 := by rw [<- hW0]; simp
 rw [<- hsz];refine (HRUN.out _ _ (ks_one W0 3 4)).mono ?_; rintro e w8 ⟨rfl, rfl⟩;have kz8 := past_at kz (.cells #[.int .i64 4] 3);have hb8 := hbW.alloc hbW.size (.cells #[.int .i64 4] 3);generalize W0.alloc (.cells #[.int .i64 4] 3) = w8 at *;clear hW0 kz hbW hsz;go_wp2_with fail;refine (HOWN.out _).mono ?_; rintro e w9 ⟨rfl, hb9⟩;have kz9 := kept_at hb9 kz8;have hbA := hb8.trans (hb9.mono hb8.size);have hl9 : w.heap.size < w9.heap.size := (Array.getElem?_eq_some_iff.1 kz9).1;obtain ⟨c0, c1, c2, c3, f0, f1, f2, f3⟩ := cells4 kz9;clear kz8 kz9 hb8 hb9;go_wp2_with fail;refine bodyPost_ret (v := .tuple #[.agg #[.int .i64 3, .string (s.extract p E), .int .i64 0, .int .i64 (p : Nat)], .int .i64 (E : Nat), .bool ok]) (by simp [results, Tryz.results36, go_sem, c0, c1, c2, c3]) rfl ⟨HANS.out, ?_⟩;exact below_set4 hbA (Nat.le_refl _) _ _ _ _
set_option maxRecDepth 100000 in
set_option maxHeartbeats 4000000 in
theorem tok_c4b (s : ByteArray) (p : Nat) (gl : Bool) (w : World) (hs : s.size <= 200000) (hp : p < s.size) (hc : cls (s[p].toNat : Int) = 4) (h2 : (s.data.toList.drop p).take 2 ≠ [47, 42]) (n E : Nat) (hn : spanL signR (s.data.toList.drop p) = n) (hE : p + n = E) (hd : (s.data.toList.drop p).take n = [46]) (hend : E = s.size) :
 Calls Tryz.prog 36 #[.string s, .int .i64 (p : Nat), .bool gl] w fun e w' => TokAns (s.data.toList.drop p) p gl e /\ Below w.heap.size w w' := by
 have hda := drop_at s p hp;have hp0 : (0 : Int) <= (p : Int) := by omega
 have hp1 : (p : Int) < (s.size : Int) := by omega
 have HC := Lib.hid (fun W => by
  have := ref_class s p W (by omega);rw [cl1_at s p hp, hc] at this;exact this)
 have hn0 : n ≠ 0 := by rw [<- hn, hda]; exact Nat.pos_iff_ne_zero.1 (spanL_pos _ _ _ (by unfold signR; rw [hc]; decide))
 have hnl := spanL_le signR (s.data.toList.drop p);rw [hn, List.length_drop, size_listT] at hnl;have HRUN := Lib.hid (fun (W : World) (g : Nat) (h : Ks W g [4]) => by
  have := ref_run s p [4] g W hs (by omega) h (by decide) (by decide);rw [amongS, hn, hE] at this;exact this)
 have hE0 : (p : Int) < (E : Int) := by omega
 have hE1 : (E : Int) <= (s.size : Int) := by omega
 have hE2 : (p : Int) <= (E : Int) := by omega
 have hex := ext_is s p E n hE;have hdd : (s.data.toList.drop p).drop n = s.data.toList.drop E := by rw [List.drop_drop, hE]
 have hlex := lex_signs hda hc h2 hn (k := 8) (by rw [hdd]; rw [if_pos ⟨hd, by rw [List.drop_eq_nil_of_le (by rw [size_listT]; omega)]; rfl⟩]);have HB := Lib.hid (fun o : Obj => (Below.refl w.heap.size w).alloc (Nat.le_refl _) o);have HOWN := Lib.hid (fun W => ref_own s p 8 E W hs (by omega) (by omega));have hans := ans_own (s := s) (gl := gl) hE hn0 (by decide) hlex (kind_same gl (show (8 : Int) ≠ 6 by decide));generalize (!longB 8 (E - p)) = ok at *;have HANS := Lib.hid hans;clear hans;have f46 : ((s.extract p E).toList == [46]) = true := hex.trans (decide_eq_true hd);clear hex hd;have hq : ((E : Int) == (s.size : Int)) = true := by rw [hend]; exact beq_self_eq_true _
 clear hend;clear hda hc h2 hn hE hlex hdd hnl;go_enter Tryz.func36, Tryz.ntmps36;go_wp2_with fail;refine (HC.out _).mono ?_; rintro e w0 ⟨rfl, rfl⟩;go_wp2_with fail;generalize hW0 : w.alloc (.cells #[.int .i64 0, .string ⟨#[]⟩, .int .i64 0, .int .i64 0] 55) = W0;have kz : W0.heap[w.heap.size]? = some (.cells #[.int .i64 0, .string ⟨#[]⟩, .int .i64 0, .int .i64 0] 55) := by rw [<- hW0]; exact new_at w _
 have hbW : Below w.heap.size w W0 := by rw [<- hW0]; exact HB.out _
 have hsz : W0.heap.size = w.heap.size + 1 := by rw [<- hW0]; simp
 rw [<- hsz];refine (HRUN.out _ _ (ks_one W0 3 4)).mono ?_; rintro e w8 ⟨rfl, rfl⟩;have kz8 := past_at kz (.cells #[.int .i64 4] 3);have hb8 := hbW.alloc hbW.size (.cells #[.int .i64 4] 3);generalize W0.alloc (.cells #[.int .i64 4] 3) = w8 at *;clear hW0 kz hbW hsz;go_wp2_with fail;refine (HOWN.out _).mono ?_; rintro e w9 ⟨rfl, hb9⟩;have kz9 := kept_at hb9 kz8;have hbA := hb8.trans (hb9.mono hb8.size);have hl9 : w.heap.size < w9.heap.size := (Array.getElem?_eq_some_iff.1 kz9).1;obtain ⟨c0, c1, c2, c3, f0, f1, f2, f3⟩ := cells4 kz9;clear kz8 kz9 hb8 hb9;go_wp2_with fail;refine bodyPost_ret (v := .tuple #[.agg #[.int .i64 8, .string (s.extract p E), .int .i64 0, .int .i64 (p : Nat)], .int .i64 (E : Nat), .bool ok]) (by simp [results, Tryz.results36, go_sem, c0, c1, c2, c3]) rfl ⟨HANS.out, ?_⟩;exact below_set4 hbA (Nat.le_refl _) _ _ _ _
set_option maxRecDepth 100000 in
set_option maxHeartbeats 4000000 in
theorem tok_c4c (s : ByteArray) (p : Nat) (gl : Bool) (w : World) (hs : s.size <= 200000) (hp : p < s.size) (hc : cls (s[p].toNat : Int) = 4) (h2 : (s.data.toList.drop p).take 2 ≠ [47, 42]) (n E : Nat) (hn : spanL signR (s.data.toList.drop p) = n) (hE : p + n = E) (hd : (s.data.toList.drop p).take n = [46]) (hlt : E < s.size) (h5 : cls (s[E].toNat : Int) = 5) :
 Calls Tryz.prog 36 #[.string s, .int .i64 (p : Nat), .bool gl] w fun e w' => TokAns (s.data.toList.drop p) p gl e /\ Below w.heap.size w w' := by
 have hda := drop_at s p hp;have hp0 : (0 : Int) <= (p : Int) := by omega
 have hp1 : (p : Int) < (s.size : Int) := by omega
 have HC := Lib.hid (fun W => by
  have := ref_class s p W (by omega);rw [cl1_at s p hp, hc] at this;exact this)
 have hn0 : n ≠ 0 := by rw [<- hn, hda]; exact Nat.pos_iff_ne_zero.1 (spanL_pos _ _ _ (by unfold signR; rw [hc]; decide))
 have hnl := spanL_le signR (s.data.toList.drop p);rw [hn, List.length_drop, size_listT] at hnl;have HRUN := Lib.hid (fun (W : World) (g : Nat) (h : Ks W g [4]) => by
  have := ref_run s p [4] g W hs (by omega) h (by decide) (by decide);rw [amongS, hn, hE] at this;exact this)
 have hE0 : (p : Int) < (E : Int) := by omega
 have hE1 : (E : Int) <= (s.size : Int) := by omega
 have hE2 : (p : Int) <= (E : Int) := by omega
 have hex := ext_is s p E n hE;have hdd : (s.data.toList.drop p).drop n = s.data.toList.drop E := by rw [List.drop_drop, hE]
 have hlex := lex_signs hda hc h2 hn (k := 8) (by rw [hdd]; rw [if_pos ⟨hd, by rw [drop_at s E hlt]; unfold partsL; dsimp only; rw [Bool.or_eq_true]; exact .inr (decide_eq_true h5)⟩]);have HB := Lib.hid (fun o : Obj => (Below.refl w.heap.size w).alloc (Nat.le_refl _) o);have HOWN := Lib.hid (fun W => ref_own s p 8 E W hs (by omega) (by omega));have hans := ans_own (s := s) (gl := gl) hE hn0 (by decide) hlex (kind_same gl (show (8 : Int) ≠ 6 by decide));generalize (!longB 8 (E - p)) = ok at *;have HANS := Lib.hid hans;clear hans;have f46 : ((s.extract p E).toList == [46]) = true := hex.trans (decide_eq_true hd);clear hex hd;have hC2 := fun W => ref_class s E W (by omega);rw [cl1_at s E hlt] at hC2;have hq : ((E : Int) == (s.size : Int)) = false := by rw [beq_eq_false_iff_ne]; omega
 have hE3 : (E : Int) < (s.size : Int) := by omega
 have hE4 : (0 : Int) <= (E : Int) := by omega
 rw [h5] at hC2;clear h5;have HC2 := Lib.hid hC2;clear hC2 hlt;clear hda hc h2 hn hE hlex hdd hnl;go_enter Tryz.func36, Tryz.ntmps36;go_wp2_with fail;refine (HC.out _).mono ?_; rintro e w0 ⟨rfl, rfl⟩;go_wp2_with fail;generalize hW0 : w.alloc (.cells #[.int .i64 0, .string ⟨#[]⟩, .int .i64 0, .int .i64 0] 55) = W0;have kz : W0.heap[w.heap.size]? = some (.cells #[.int .i64 0, .string ⟨#[]⟩, .int .i64 0, .int .i64 0] 55) := by rw [<- hW0]; exact new_at w _
 have hbW : Below w.heap.size w W0 := by rw [<- hW0]; exact HB.out _
 have hsz : W0.heap.size = w.heap.size + 1 := by rw [<- hW0]; simp
 rw [<- hsz];refine (HRUN.out _ _ (ks_one W0 3 4)).mono ?_; rintro e w8 ⟨rfl, rfl⟩;have kz8 := past_at kz (.cells #[.int .i64 4] 3);have hb8 := hbW.alloc hbW.size (.cells #[.int .i64 4] 3);generalize W0.alloc (.cells #[.int .i64 4] 3) = w8 at *;clear hW0 kz hbW hsz;go_wp2_with fail;refine (HC2.out _).mono ?_; rintro e w3 ⟨rfl, rfl⟩;go_wp2_with fail;refine (HOWN.out _).mono ?_; rintro e w9 ⟨rfl, hb9⟩;have kz9 := kept_at hb9 kz8;have hbA := hb8.trans (hb9.mono hb8.size);have hl9 : w.heap.size < w9.heap.size := (Array.getElem?_eq_some_iff.1 kz9).1;obtain ⟨c0, c1, c2, c3, f0, f1, f2, f3⟩ := cells4 kz9;clear kz8 kz9 hb8 hb9;go_wp2_with fail;refine bodyPost_ret (v := .tuple #[.agg #[.int .i64 8, .string (s.extract p E), .int .i64 0, .int .i64 (p : Nat)], .int .i64 (E : Nat), .bool ok]) (by simp [results, Tryz.results36, go_sem, c0, c1, c2, c3]) rfl ⟨HANS.out, ?_⟩;exact below_set4 hbA (Nat.le_refl _) _ _ _ _
set_option maxRecDepth 100000 in
set_option maxHeartbeats 4000000 in
theorem tok_c4d (s : ByteArray) (p : Nat) (gl : Bool) (w : World) (hs : s.size <= 200000) (hp : p < s.size) (hc : cls (s[p].toNat : Int) = 4) (h2 : (s.data.toList.drop p).take 2 ≠ [47, 42]) (n E : Nat) (hn : spanL signR (s.data.toList.drop p) = n) (hE : p + n = E) (hd : (s.data.toList.drop p).take n = [46]) (hlt : E < s.size) (h5 : cls (s[E].toNat : Int) ≠ 5) (h37 : s[E] = 37) :
 Calls Tryz.prog 36 #[.string s, .int .i64 (p : Nat), .bool gl] w fun e w' => TokAns (s.data.toList.drop p) p gl e /\ Below w.heap.size w w' := by
 have hda := drop_at s p hp;have hp0 : (0 : Int) <= (p : Int) := by omega
 have hp1 : (p : Int) < (s.size : Int) := by omega
 have HC := Lib.hid (fun W => by
  have := ref_class s p W (by omega);rw [cl1_at s p hp, hc] at this;exact this)
 have hn0 : n ≠ 0 := by rw [<- hn, hda]; exact Nat.pos_iff_ne_zero.1 (spanL_pos _ _ _ (by unfold signR; rw [hc]; decide))
 have hnl := spanL_le signR (s.data.toList.drop p);rw [hn, List.length_drop, size_listT] at hnl;have HRUN := Lib.hid (fun (W : World) (g : Nat) (h : Ks W g [4]) => by
  have := ref_run s p [4] g W hs (by omega) h (by decide) (by decide);rw [amongS, hn, hE] at this;exact this)
 have hE0 : (p : Int) < (E : Int) := by omega
 have hE1 : (E : Int) <= (s.size : Int) := by omega
 have hE2 : (p : Int) <= (E : Int) := by omega
 have hex := ext_is s p E n hE;have hdd : (s.data.toList.drop p).drop n = s.data.toList.drop E := by rw [List.drop_drop, hE]
 have hlex := lex_signs hda hc h2 hn (k := 8) (by rw [hdd]; rw [if_pos ⟨hd, by rw [drop_at s E hlt]; unfold partsL; dsimp only; rw [Bool.or_eq_true]; exact .inl (decide_eq_true h37)⟩]);have HB := Lib.hid (fun o : Obj => (Below.refl w.heap.size w).alloc (Nat.le_refl _) o);have HOWN := Lib.hid (fun W => ref_own s p 8 E W hs (by omega) (by omega));have hans := ans_own (s := s) (gl := gl) hE hn0 (by decide) hlex (kind_same gl (show (8 : Int) ≠ 6 by decide));generalize (!longB 8 (E - p)) = ok at *;have HANS := Lib.hid hans;clear hans;have f46 : ((s.extract p E).toList == [46]) = true := hex.trans (decide_eq_true hd);clear hex hd;have hC2 := fun W => ref_class s E W (by omega);rw [cl1_at s E hlt] at hC2;have hq : ((E : Int) == (s.size : Int)) = false := by rw [beq_eq_false_iff_ne]; omega
 have hE3 : (E : Int) < (s.size : Int) := by omega
 have hE4 : (0 : Int) <= (E : Int) := by omega
 have f37 : ((s[E].toNat : Int) == 37) = true := (byte_is s[E] 37).trans (decide_eq_true h37);have e5 := beq_eq_false_iff_ne.2 h5;clear h37 h5;generalize cls (s[E].toNat : Int) = q at *;have HC2 := Lib.hid hC2;clear hC2;clear hda hc h2 hn hE hlex hdd hnl;go_enter Tryz.func36, Tryz.ntmps36;go_wp2_with fail;refine (HC.out _).mono ?_; rintro e w0 ⟨rfl, rfl⟩;go_wp2_with fail;generalize hW0 : w.alloc (.cells #[.int .i64 0, .string ⟨#[]⟩, .int .i64 0, .int .i64 0] 55) = W0;have kz : W0.heap[w.heap.size]? = some (.cells #[.int .i64 0, .string ⟨#[]⟩, .int .i64 0, .int .i64 0] 55) := by rw [<- hW0]; exact new_at w _
 have hbW : Below w.heap.size w W0 := by rw [<- hW0]; exact HB.out _
 have hsz : W0.heap.size = w.heap.size + 1 := by rw [<- hW0]; simp
 rw [<- hsz];refine (HRUN.out _ _ (ks_one W0 3 4)).mono ?_; rintro e w8 ⟨rfl, rfl⟩;have kz8 := past_at kz (.cells #[.int .i64 4] 3);have hb8 := hbW.alloc hbW.size (.cells #[.int .i64 4] 3);generalize W0.alloc (.cells #[.int .i64 4] 3) = w8 at *;clear hW0 kz hbW hsz;go_wp2_with fail;refine (HC2.out _).mono ?_; rintro e w3 ⟨rfl, rfl⟩;go_wp2_with fail;refine (HOWN.out _).mono ?_; rintro e w9 ⟨rfl, hb9⟩;have kz9 := kept_at hb9 kz8;have hbA := hb8.trans (hb9.mono hb8.size);have hl9 : w.heap.size < w9.heap.size := (Array.getElem?_eq_some_iff.1 kz9).1;obtain ⟨c0, c1, c2, c3, f0, f1, f2, f3⟩ := cells4 kz9;clear kz8 kz9 hb8 hb9;go_wp2_with fail;refine bodyPost_ret (v := .tuple #[.agg #[.int .i64 8, .string (s.extract p E), .int .i64 0, .int .i64 (p : Nat)], .int .i64 (E : Nat), .bool ok]) (by simp [results, Tryz.results36, go_sem, c0, c1, c2, c3]) rfl ⟨HANS.out, ?_⟩;exact below_set4 hbA (Nat.le_refl _) _ _ _ _
set_option maxRecDepth 100000 in
set_option maxHeartbeats 4000000 in
theorem tok_c4e (s : ByteArray) (p : Nat) (gl : Bool) (w : World) (hs : s.size <= 200000) (hp : p < s.size) (hc : cls (s[p].toNat : Int) = 4) (h2 : (s.data.toList.drop p).take 2 ≠ [47, 42]) (n E : Nat) (hn : spanL signR (s.data.toList.drop p) = n) (hE : p + n = E) (hd : (s.data.toList.drop p).take n = [46]) (hlt : E < s.size) (h5 : cls (s[E].toNat : Int) ≠ 5) (h37 : s[E] ≠ 37) :
 Calls Tryz.prog 36 #[.string s, .int .i64 (p : Nat), .bool gl] w fun e w' => TokAns (s.data.toList.drop p) p gl e /\ Below w.heap.size w w' := by
 have hda := drop_at s p hp;have hp0 : (0 : Int) <= (p : Int) := by omega
 have hp1 : (p : Int) < (s.size : Int) := by omega
 have HC := Lib.hid (fun W => by
  have := ref_class s p W (by omega);rw [cl1_at s p hp, hc] at this;exact this)
 have hn0 : n ≠ 0 := by rw [<- hn, hda]; exact Nat.pos_iff_ne_zero.1 (spanL_pos _ _ _ (by unfold signR; rw [hc]; decide))
 have hnl := spanL_le signR (s.data.toList.drop p);rw [hn, List.length_drop, size_listT] at hnl;have HRUN := Lib.hid (fun (W : World) (g : Nat) (h : Ks W g [4]) => by
  have := ref_run s p [4] g W hs (by omega) h (by decide) (by decide);rw [amongS, hn, hE] at this;exact this)
 have hE0 : (p : Int) < (E : Int) := by omega
 have hE1 : (E : Int) <= (s.size : Int) := by omega
 have hE2 : (p : Int) <= (E : Int) := by omega
 have hex := ext_is s p E n hE;have hdd : (s.data.toList.drop p).drop n = s.data.toList.drop E := by rw [List.drop_drop, hE]
 have hlex := lex_signs hda hc h2 hn (k := 3) (by rw [hdd]; rw [if_neg]; rintro ⟨_, h⟩; rw [drop_at s E hlt] at h; unfold partsL at h; dsimp only at h; rw [decide_eq_false h37, decide_eq_false h5] at h; cases h);have HB := Lib.hid (fun o : Obj => (Below.refl w.heap.size w).alloc (Nat.le_refl _) o);have HOWN := Lib.hid (fun W => ref_own s p 3 E W hs (by omega) (by omega));have hans := ans_own (s := s) (gl := gl) hE hn0 (by decide) hlex (kind_same gl (show (3 : Int) ≠ 6 by decide));generalize (!longB 3 (E - p)) = ok at *;have HANS := Lib.hid hans;clear hans;have f46 : ((s.extract p E).toList == [46]) = true := hex.trans (decide_eq_true hd);clear hex hd;have hC2 := fun W => ref_class s E W (by omega);rw [cl1_at s E hlt] at hC2;have hq : ((E : Int) == (s.size : Int)) = false := by rw [beq_eq_false_iff_ne]; omega
 have hE3 : (E : Int) < (s.size : Int) := by omega
 have hE4 : (0 : Int) <= (E : Int) := by omega
 have f37 : ((s[E].toNat : Int) == 37) = false := (byte_is s[E] 37).trans (decide_eq_false h37);have e5 := beq_eq_false_iff_ne.2 h5;clear h37 h5;generalize cls (s[E].toNat : Int) = q at *;have HC2 := Lib.hid hC2;clear hC2;clear hda hc h2 hn hE hlex hdd hnl;go_enter Tryz.func36, Tryz.ntmps36;go_wp2_with fail;refine (HC.out _).mono ?_; rintro e w0 ⟨rfl, rfl⟩;go_wp2_with fail;generalize hW0 : w.alloc (.cells #[.int .i64 0, .string ⟨#[]⟩, .int .i64 0, .int .i64 0] 55) = W0;have kz : W0.heap[w.heap.size]? = some (.cells #[.int .i64 0, .string ⟨#[]⟩, .int .i64 0, .int .i64 0] 55) := by rw [<- hW0]; exact new_at w _
 have hbW : Below w.heap.size w W0 := by rw [<- hW0]; exact HB.out _
 have hsz : W0.heap.size = w.heap.size + 1 := by rw [<- hW0]; simp
 rw [<- hsz];refine (HRUN.out _ _ (ks_one W0 3 4)).mono ?_; rintro e w8 ⟨rfl, rfl⟩;have kz8 := past_at kz (.cells #[.int .i64 4] 3);have hb8 := hbW.alloc hbW.size (.cells #[.int .i64 4] 3);generalize W0.alloc (.cells #[.int .i64 4] 3) = w8 at *;clear hW0 kz hbW hsz;go_wp2_with fail;refine (HC2.out _).mono ?_; rintro e w3 ⟨rfl, rfl⟩;go_wp2_with fail;refine (HOWN.out _).mono ?_; rintro e w9 ⟨rfl, hb9⟩;have kz9 := kept_at hb9 kz8;have hbA := hb8.trans (hb9.mono hb8.size);have hl9 : w.heap.size < w9.heap.size := (Array.getElem?_eq_some_iff.1 kz9).1;obtain ⟨c0, c1, c2, c3, f0, f1, f2, f3⟩ := cells4 kz9;clear kz8 kz9 hb8 hb9;go_wp2_with fail;refine bodyPost_ret (v := .tuple #[.agg #[.int .i64 3, .string (s.extract p E), .int .i64 0, .int .i64 (p : Nat)], .int .i64 (E : Nat), .bool ok]) (by simp [results, Tryz.results36, go_sem, c0, c1, c2, c3]) rfl ⟨HANS.out, ?_⟩;exact below_set4 hbA (Nat.le_refl _) _ _ _ _
def SeenToks (w : World) (v : Value) (l : List Tok) : Prop := ∃ ad cap, v = .slice ad l.length cap /\ l.length <= cap /\ cap <= maxLen /\ ∀ j (hj : j < l.length), ∃ g, ad = some ⟨g, 0, none⟩ /\ TokAt w g j l[j]
theorem SeenToks.none (w : World) : SeenToks w (.slice none 0 0) [] := ⟨_, _, rfl, Nat.le_refl _, Nat.zero_le _, fun _ hj => absurd hj (Nat.not_lt_zero _)⟩
set_option maxHeartbeats 2000000 in
theorem ref_number (s : ByteArray) (p : Nat) (w : World) (hs : s.size <= 200000) (hp : p < s.size) (hd : digR (s[p].toNat : Int) = true) (hT : TabsT w) :
 Calls Tryz.prog 50 #[.string s, .int .i64 (p : Nat)] w fun e w' => NumAns (s.data.toList.drop p) p e /\ Below w.heap.size w w' := by
 by_cases h48 : s[p] = 48
 case neg => exact num_not48 s p w hs hp hd h48
 by_cases h1 : p + 1 < s.size
 case neg => exact num_short s p w hs hp hd h48 (by omega)
 by_cases h39 : s[p + 1] = 39
 case neg => exact num_not39 s p w hs hp hd h48 h1 h39
 have hex : (s.extract (p + 2) s.size).data.toList = s.data.toList.drop (p + 2) := by rw [ext_drop]
 have hrw := rest_ways (s.extract (p + 2) s.size);rw [hex] at hrw;rcases runeB_cases (s.data.toList.drop (p + 2)) with ⟨h2, h3⟩ | ⟨hn2, c, n, hcm, hn, hd2, h3⟩
 · rcases hrw with ⟨_, hu, e0, e1⟩ | ⟨hn2, _⟩
   · exact num_quote s p w hs hp hd h48 h1 h39 h2 hu e0 e1
   · exact absurd h2 hn2
 · have hn3 : n <= 200000 := by rw [List.length_drop, size_listT] at hn; omega
   have HDEC : Hid (∀ W, TabsT W -> Calls Tryz.prog 33 #[.string (s.extract (p + 2) s.size)] W fun e w' => e = .returned (.tuple #[.int .i32 (c : Nat), .int .i64 (n : Nat)]) /\ Below W.heap.size W w') := Lib.hid (fun W hW => by
    have := Tryz.utf8_DecodeRuneInString (s.extract (p + 2) s.size) W hW.1.1;rw [ext_drop, hd2] at this;rw [ext_drop];exact this)
   have hci : (0 : Int) <= (c : Int) /\ (c : Int) <= 1114111 := by omega
   have hz := decodeGo_zero hd2;rcases h3 with ⟨hbad, hB⟩ | ⟨hok, hB⟩
   · have hw : ((n : Int) <= 0) \/ ((0 : Int) < (n : Int) /\ ((c : Int) == 65533) = true /\ ((n : Int) == 1) = true) \/ ((0 : Int) < (n : Int) /\ ((c : Int) == 65533) = false /\ (c : Int) < 32) \/ ((0 : Int) < (n : Int) /\ ((c : Int) == 65533) = false /\ (32 : Int) <= (c : Int) /\ ((c : Int) != 39) = false) \/ ((0 : Int) < (n : Int) /\ ((c : Int) == 65533) = false /\ (32 : Int) <= (c : Int) /\ ((c : Int) != 39) = true /\ ((c : Int) != 92) = false) := by
      simp only [bne_iff_ne, bne_eq_false_iff_eq, beq_iff_eq, beq_eq_false_iff_ne]
      by_cases a0 : n = 0
      · left; omega
      by_cases a1 : c = 65533
      · right; left; omega
      by_cases a2 : c < 32
      · right; right; left; omega
      by_cases a3 : c = 39
      · right; right; right; left; omega
      · right; right; right; right; omega
     rcases hrw with ⟨h2, _⟩ | ⟨_, hu | ⟨hu, e0 | ⟨e0, e1⟩⟩⟩
     · exact absurd h2 hn2
     · exact num_rune_bad1 s p w hs hp hd h48 h1 h39 hu c n hn3 hci HDEC hT hB hw
     · exact num_rune_bad2 s p w hs hp hd h48 h1 h39 hu e0 c n hn3 hci HDEC hT hB hw
     · exact num_rune_bad3 s p w hs hp hd h48 h1 h39 hu e0 e1 c n hn3 hci HDEC hT hB hw
   · have hw : ((0 : Int) < (n : Int) /\ (32 : Int) <= (c : Int) /\ ((c : Int) != 39) = true /\ ((c : Int) != 92) = true /\ ((c : Int) == 65533) = false) \/ ((0 : Int) < (n : Int) /\ (32 : Int) <= (c : Int) /\ ((c : Int) != 39) = true /\ ((c : Int) != 92) = true /\ ((c : Int) == 65533) = true /\ ((n : Int) == 1) = false) := by
      simp only [bne_iff_ne, beq_iff_eq, beq_eq_false_iff_ne]
      by_cases a1 : c = 65533
      · right; omega
      · left
        have : n ≠ 0 := fun h => a1 (hz h);omega
     rcases hrw with ⟨h2, _⟩ | ⟨_, hu | ⟨hu, e0 | ⟨e0, e1⟩⟩⟩
     · exact absurd h2 hn2
     · exact num_rune_ok1 s p w hs hp hd h48 h1 h39 hu c n hn3 hci HDEC hT hB hw
     · exact num_rune_ok2 s p w hs hp hd h48 h1 h39 hu e0 c n hn3 hci HDEC hT hB hw
     · exact num_rune_ok3 s p w hs hp hd h48 h1 h39 hu e0 e1 c n hn3 hci HDEC hT hB hw
set_option maxRecDepth 100000 in
set_option maxHeartbeats 4000000 in
theorem tok_c3 (s : ByteArray) (p : Nat) (gl : Bool) (w : World) (hs : s.size <= 200000) (hp : p < s.size) (hc : cls (s[p].toNat : Int) = 3) (hT : TabsT w) :
 Calls Tryz.prog 36 #[.string s, .int .i64 (p : Nat), .bool gl] w fun e w' => TokAns (s.data.toList.drop p) p gl e /\ Below w.heap.size w w' := by
 have hda := drop_at s p hp;have hp0 : (0 : Int) <= (p : Int) := by omega
 have hp1 : (p : Int) < (s.size : Int) := by omega
 have HC := Lib.hid (fun W => by
  have := ref_class s p W (by omega);rw [cl1_at s p hp, hc] at this;exact this)
 have hlex : lexL (s.data.toList.drop p) = numberL (s.data.toList.drop p) := by
  rw [hda]; unfold lexL; dsimp only;rw [hc, if_neg (by decide), if_neg (by decide), if_neg (by decide), if_pos rfl]
 have HT := Lib.hid hT;have HN := Lib.hid (fun W (h : TabsT W) => ref_number s p W hs hp (by unfold digR; rw [hc]; decide) h);have HL := Lib.hid hlex;have HB := Lib.hid (fun o : Obj => (Below.refl w.heap.size w).alloc (Nat.le_refl _) o);clear hda hc hlex hT;go_enter Tryz.func36, Tryz.ntmps36;go_wp2_with fail;refine (HC.out _).mono ?_; rintro e w0 ⟨rfl, rfl⟩;go_wp2_with fail;have kz8 := new_at w (.cells #[.int .i64 0, .string ⟨#[]⟩, .int .i64 0, .int .i64 0] 55);have hb8 := HB.out (.cells #[.int .i64 0, .string ⟨#[]⟩, .int .i64 0, .int .i64 0] 55);generalize w.alloc (.cells #[.int .i64 0, .string ⟨#[]⟩, .int .i64 0, .int .i64 0] 55) = w8 at *;refine (HN.out _ (HT.out.on hb8)).mono ?_; rintro e w9 ⟨⟨n, en, ok, rfl, h1, h2⟩, hb9⟩;have HANS : Hid (TokAns (s.data.toList.drop p) p gl (.returned (.tuple #[.agg #[.int .i64 5, .string ⟨#[]⟩, .int .i64 n, .int .i64 (p : Nat)], .int .i64 (en : Nat), .bool ok]))) := Lib.hid (by
  refine ⟨5, n, (p : Nat), ⟨#[]⟩, en, ok, rfl, by rw [HL.out]; exact h1, fun h => ?_⟩;obtain ⟨h3, h4⟩ := h2 h;rw [HL.out, h3];exact ⟨show (5 : Int) ≠ 0 by decide, (kind_same (x := ⟨5, [], n, en - p⟩) gl (show (5 : Int) ≠ 6 by decide)).symm, rfl, rfl, rfl, show en = p + (en - p) by omega⟩)
 have kz9 := kept_at hb9 kz8;have hbA := hb8.trans (hb9.mono hb8.size);have hl9 : w.heap.size < w9.heap.size := (Array.getElem?_eq_some_iff.1 kz9).1;obtain ⟨c0, c1, c2, c3, f0, f1, f2, f3⟩ := cells4 kz9;clear kz8 kz9 hb8 hb9 h1 h2;go_wp2_with fail;refine bodyPost_ret (v := .tuple #[.agg #[.int .i64 5, .string ⟨#[]⟩, .int .i64 n, .int .i64 (p : Nat)], .int .i64 (en : Nat), .bool ok]) (by simp [results, Tryz.results36, go_sem, c0, c1, c2, c3]) rfl ⟨HANS.out, ?_⟩;exact below_set4 hbA (Nat.le_refl _) _ _ _ _
theorem cls_33 (b : UInt8) (h : b = 33) : cls (b.toNat : Int) = 6 := by subst h; decide
theorem cls_59 (b : UInt8) (h : b = 59) : cls (b.toNat : Int) = 6 := by subst h; decide
theorem cls_40 (b : UInt8) (h : b = 40) : cls (b.toNat : Int) = 7 := by subst h; decide
theorem ref_token (s : ByteArray) (p : Nat) (gl : Bool) (w : World) (hs : s.size <= 200000) (hp : p < s.size) (hT : TabsT w) (hns : NotSkip (s.data.toList.drop p)) :
 Calls Tryz.prog 36 #[.string s, .int .i64 (p : Nat), .bool gl] w fun e w' => TokAns (s.data.toList.drop p) p gl e /\ Below w.heap.size w w' := by
 obtain ⟨b, t, hl, n5, n37, n2⟩ := hns;have hb : b = s[p] := by
  have := drop_at s p hp;rw [hl] at this;injection this
 subst hb;by_cases h1 : cls (s[p].toNat : Int) = 1
 · exact tok_c1 s p gl w hs hp h1
 by_cases h2 : cls (s[p].toNat : Int) = 2
 · exact tok_c2 s p gl w hs hp h2
 by_cases h3 : cls (s[p].toNat : Int) = 3
 · exact tok_c3 s p gl w hs hp h3 hT
 by_cases h4 : cls (s[p].toNat : Int) = 4
 · obtain ⟨E, hE⟩ : ∃ E, p + spanL signR (s.data.toList.drop p) = E := ⟨_, rfl⟩;by_cases hd : (s.data.toList.drop p).take (spanL signR (s.data.toList.drop p)) = [46]
   case neg => exact tok_c4a s p gl w hs hp h4 n2 _ E rfl hE hd
   by_cases hlt : E < s.size
   case neg =>
    have hle := spanL_le signR (s.data.toList.drop p);rw [List.length_drop, size_listT] at hle;exact tok_c4b s p gl w hs hp h4 n2 _ E rfl hE hd (by omega)
   by_cases h5 : cls (s[E].toNat : Int) = 5
   · exact tok_c4c s p gl w hs hp h4 n2 _ E rfl hE hd hlt h5
   by_cases h37 : s[E] = 37
   · exact tok_c4d s p gl w hs hp h4 n2 _ E rfl hE hd hlt h5 h37
   · exact tok_c4e s p gl w hs hp h4 n2 _ E rfl hE hd hlt h5 h37
 by_cases h6 : cls (s[p].toNat : Int) = 6
 · by_cases b33 : s[p] = 33
   · exact tok_c6a s p gl w hs hp h6 b33
   by_cases b59 : s[p] = 59
   · exact tok_c6b s p gl w hs hp h6 b33 b59
   · exact tok_c6c s p gl w hs hp h6 b33 b59 (fun h => by have := cls_40 _ h; omega)
 by_cases h7 : cls (s[p].toNat : Int) = 7
 · have b33 : s[p] ≠ 33 := fun h => h6 (cls_33 _ h);have b59 : s[p] ≠ 59 := fun h => h6 (cls_59 _ h);by_cases b40 : s[p] = 40
   · cases gl with
     | false => exact tok_c7b s p false w hs hp h7 b33 b59 b40 rfl
     | true => exact tok_c7c s p true w hs hp h7 b33 b59 b40 rfl
   · exact tok_c7a s p gl w hs hp h7 b33 b59 b40
 by_cases h8 : cls (s[p].toNat : Int) = 8
 · cases hr : readL (s.data.toList.drop p) with
   | none => exact tok_c8a s p gl w hs hp h8 hT hr
   | some q =>
    obtain ⟨t, k⟩ := q;by_cases hlong : 255 < t.length
    · exact tok_c8b s p gl w hs hp h8 hT t k hr hlong
    · exact tok_c8c s p gl w hs hp h8 hT t k hr (by omega)
 · exact tok_c0 s p gl w hs hp ⟨h1, h2, h3, h4, n5, h6, h7, h8⟩ n37
def lastB (l : List Tok) : Bool := match l.getLast? with | some t => opensL t.kind t.text | none => false
theorem lastB_snoc (l : List Tok) (x : Tok) : lastB (l ++ [x]) = opensL x.kind x.text := by
 unfold lastB;rw [List.getLast?_append]; rfl
theorem lastB_at (l : List Tok) (m : Nat) (h : l.length = m + 1) : lastB l = opensL (l[m]).kind (l[m]).text := by
 unfold lastB;rw [List.getLast?_eq_getElem?, show l.length - 1 = m from by omega, List.getElem?_eq_getElem (by omega)]
theorem drop_neT (s : ByteArray) (f : Nat) (h : f < s.size) : s.data.toList.drop f ≠ [] := fun e => by
 rw [drop_at s f h] at e; cases e
theorem ref_bad {s : ByteArray} {f : Nat} {gl : Bool} {l : List Tok} (h : cutL s.data.toList 0 false = (cutL (s.data.toList.drop f) f gl).pre l) (hf : f < s.size) (h4 : s.size <= 4096) (hw : (lexL (s.data.toList.drop f)).w = 0) (B : Nat) (W : World) :
 CutAns B s.data.toList (.returned (.tuple #[.slice none 0 0, .int .i64 (f : Nat), .int .i64 50])) W := by
 refine .inr ⟨by rw [size_listT]; exact h4, .inl ⟨f, ?_, rfl⟩⟩;rw [h, cutL_step _ _ _ (drop_neT s f hf), if_pos hw]; rfl
theorem ref_end {s : ByteArray} {f : Nat} {gl : Bool} {l : List Tok} (h : cutL s.data.toList 0 false = (cutL (s.data.toList.drop f) f gl).pre l) (hf : s.size <= f) : cutL s.data.toList 0 false = .good (l ++ [⟨9, [], 0, f⟩]) := by
 rw [h, List.drop_eq_nil_of_le (by rw [size_listT]; exact hf), cutL_nil]; rfl
theorem ref_step {s : ByteArray} {f : Nat} {gl : Bool} {l : List Tok} (h : cutL s.data.toList 0 false = (cutL (s.data.toList.drop f) f gl).pre l) (hf : f < s.size) (hw : (lexL (s.data.toList.drop f)).w ≠ 0) (hk : (lexL (s.data.toList.drop f)).kind ≠ 0) :
 cutL s.data.toList 0 false = (cutL (s.data.toList.drop (f + (lexL (s.data.toList.drop f)).w)) (f + (lexL (s.data.toList.drop f)).w) (lastB (l ++ [⟨kindL gl (lexL (s.data.toList.drop f)), (lexL (s.data.toList.drop f)).text, (lexL (s.data.toList.drop f)).n, f⟩]))).pre (l ++ [⟨kindL gl (lexL (s.data.toList.drop f)), (lexL (s.data.toList.drop f)).text, (lexL (s.data.toList.drop f)).n, f⟩]) := by
 rw [h, cutL_step _ _ _ (drop_neT s f hf), if_neg hw, if_neg hk, pre_pre, lastB_snoc, List.drop_drop]
set_option maxRecDepth 100000 in
set_option maxHeartbeats 8000000 in
theorem ref_Cut (s : ByteArray) (w : World) (hT : TabsT w) :
 Calls Tryz.prog 23 #[.string s] w fun e w' => CutAns w.heap.size s.data.toList e w' /\ Below w.heap.size w w' := by
 by_cases hlong : 4096 < s.size
 · have h0 : (4096 : Int) < (s.size : Int) := by omega
   have HANS := Lib.hid (fun W => show CutAns w.heap.size s.data.toList (.returned (.tuple #[.slice none 0 0, .int .i64 0, .int .i64 2])) W from .inl ⟨by rw [size_listT]; omega, rfl⟩);clear hlong hT;go_enter Tryz.func23, Tryz.ntmps23;go_wp2_with fail;go_ret3;exact ⟨HANS.out _, Below.refl _ _⟩
 have h4096 : s.size <= 4096 := by omega
 have h0 : (s.size : Int) <= 4096 := by omega
 have HT := Lib.hid hT;obtain ⟨i0, hi, hz0, hz1, hz2⟩ := info_parts infoTok;clear hlong hT;go_enter Tryz.func23, Tryz.ntmps23;go_wp2_with fail;go_loopw [5, 6] (fun vv av wr => ∃ (a : Nat) (l : List Tok), a <= s.size /\ l.length <= a /\ av = .int .i64 (a : Nat) /\ Below w.heap.size w wr /\ OwnToks w.heap.size wr vv l /\ Hid (cutL s.data.toList 0 false = (cutL (s.data.toList.drop a) a (lastB l)).pre l)) (fun _ av _ => s.size - (intOf av).toNat)
 case atStart => exact ⟨0, [], Nat.zero_le _, Nat.le_refl _, rfl, Below.refl _ _, World.ownsRow_nil _ _ _ _, Lib.hid (by rw [List.drop_zero, pre_nil]; rfl)⟩
 case round =>
  obtain ⟨a, l, ha, hla, rfl, hbr, hw, HCUT⟩ := hrel;have hws := hbr.size;have HSK := Lib.hid (ref_skip s a wr (by omega) ha);obtain ⟨ad, cap, rfl, hlc, hcm, hcell⟩ := hw.view;have HCELL := Lib.hid hcell;have HW0 := Lib.hid hw;unfold maxLen at hcm;clear hcell hw;go_wp2_with fail;refine HSK.out.mono ?_; rintro e w1 ⟨⟨f, ok, rfl, hres⟩, rfl⟩;obtain ⟨haf, hfs, hst, hyes, hno⟩ := hres;rw [size_listT] at hfs hyes hno;have hcutF := HCUT.out;rw [hst (lastB l)] at hcutF;have HCUTF := Lib.hid hcutF;clear hst hcutF HCUT;cases ok with
  | false =>
   obtain ⟨hf, hw0⟩ := hno rfl;have HANS := Lib.hid (fun W => ref_bad HCUTF.out hf h4096 hw0 w.heap.size W);clear hyes hno hw0;go_wp2_with fail;go_ret3;exact ⟨HANS.out _, hbr⟩
  | true =>
   have hor := hyes rfl;clear hyes hno;by_cases hf : f < s.size
   case neg =>
    have hfe : f = s.size := by omega
    have HEND := Lib.hid (ref_end HCUTF.out (by omega));have HX : Hid (tok4 ⟨9, [], 0, f⟩ = [.int .i64 9, .string ⟨#[]⟩, .int .i64 0, .int .i64 (s.size : Nat)]) := Lib.hid (by rw [hfe]; rfl);have hq1 : (s.size : Int) <= (f : Int) := by omega
    have hf9 : f <= 4096 := by omega
    have HFE := Lib.hid hfe;clear hor hfe;go_wp2_with (first
     | (at_builtin; refine wpList_append_lies _ rfl _ _ 48 rfl w.heap.size 55 i0 (.agg #[.int .i64 0, .string ⟨#[]⟩, .int .i64 0, .int .i64 0]) 4 40 Tryz.underlying48 hi hz0 hz1 hz2 rfl (by decide) _ _ _ rfl (World.ownsRow.alloc HW0.out _) ⟨wr.heap.size, 0, none⟩ 1 1 [.int .i64 9, .string ⟨#[]⟩, .int .i64 0, .int .i64 (s.size : Nat)] rfl rfl ?c1 ?c2 (by decide) ?c3 ?c4 ?c5 _ rfl ?_))
    case c1 =>
     intro j y hj;match j, hj with
     | 0, hj => simp at hj; subst hj; simp [Addr.add]
     | 1, hj => simp at hj; subst hj; simp [Addr.add]
     | 2, hj => simp at hj; subst hj; simp [Addr.add]
     | 3, hj => simp at hj; subst hj; simp [Addr.add]
    case c2 => intro y hy; simp at hy; rcases hy with rfl | rfl | rfl | rfl <;> rfl
    case c3 => unfold maxLen; omega
    case c4 => omega
    case c5 => simp; omega
    intro g3 cap3 w5 hown5 hgrow _ _;have hown6 : OwnToks w.heap.size w5 (.slice (some ⟨g3, 0, none⟩) (l.length + 1) cap3) (l ++ [⟨9, [], 0, f⟩]) := by
     unfold OwnToks;rw [List.length_append, tokCells_append];have e : tokCells [(⟨9, [], 0, f⟩ : Tok)] = tok4 ⟨9, [], 0, f⟩ := by show tok4 ⟨9, [], 0, f⟩ ++ [] = _; rw [List.append_nil]
     rw [e, HX.out];exact hown5
    have hb5 : Below w.heap.size w w5 := (hbr.alloc hws _).grown hgrow (by simp; omega) (fun i hi => (World.ownsRow.lt HW0.out i hi).1);clear hown5 hgrow;go_wp2_with fail;go_ret3;exact ⟨.inr ⟨by rw [size_listT]; exact h4096, .inr ⟨_, _, HEND.out, rfl, hown6⟩⟩, hb5⟩
   case pos =>
    have hns : NotSkip (s.data.toList.drop f) := by
     rcases hor with h | h
     · omega
     · exact h
    have hf1 : (f : Int) < (s.size : Int) := by omega
    clear hor;by_cases hfa : f = a
    · have hq : ((f : Int) == (a : Int)) = true := by rw [hfa]; exact beq_self_eq_true _
      have hcutG := HCUTF.out;rw [if_pos hfa] at hcutG;by_cases hl0 : l.length = 0
      · rw [show lastB l = false from by rw [List.eq_nil_of_length_eq_zero hl0]; rfl] at hcutG;have hbG := hbr;have hwG := HW0.out;rw [hl0] at hlc hwG ⊢;subst hfa;have HTK := Lib.hid (fun W h => ref_token s f false W (by omega) hf h hns);have HHT := Lib.hid (HT.out.on hbG);have HCUTG := Lib.hid hcutG;clear hcutG hns;go_wp2_with fail;refine (HTK.out _ HHT.out).mono ?_; rintro e w3 ⟨⟨k, n, q, t, en, ok2, rfl, h1, h2⟩, hb3⟩;have hb4 : Below w.heap.size w w3 := hbG.trans (hb3.mono hbG.size);have hws4 := hb4.size;have hw4 := hwG.below hb3;clear hb3 hbG hwG;cases ok2 with
        | false =>
         have HANS := Lib.hid (fun W => ref_bad HCUTG.out hf h4096 (by
          apply Classical.byContradiction
          intro h;rw [decide_eq_true h] at h1;cases h1) w.heap.size W)
         clear h1 h2 hw4;go_wp2_with fail;go_ret3;first
          | exact ⟨HANS.out _, hb4⟩
          | exact ⟨HANS.out _, hb4.alloc hws4 _⟩
        | true =>
         obtain ⟨x0, x1, x2, x3, x4, x5⟩ := h2 rfl;have hw0 : (lexL (s.data.toList.drop f)).w ≠ 0 := of_decide_eq_true h1.symm;have hle := lexL_le (s.data.toList.drop f);rw [List.length_drop, size_listT] at hle;have hstep := ref_step HCUTG.out hf hw0 x0;have HX : Hid (tok4 ⟨kindL false (lexL (s.data.toList.drop f)), (lexL (s.data.toList.drop f)).text, (lexL (s.data.toList.drop f)).n, f⟩ = [.int .i64 k, .string t, .int .i64 n, .int .i64 q]) := Lib.hid (by rw [x1, x2, x3, x4]; rfl);generalize (⟨kindL false (lexL (s.data.toList.drop f)), (lexL (s.data.toList.drop f)).text, (lexL (s.data.toList.drop f)).n, f⟩ : Tok) = x at *;rw [<- x5] at hstep;have HSTEP := Lib.hid hstep;have hen1 : en <= s.size := by omega
         have hen2 : f < en := by omega
         have HW := Lib.hid hw4;clear x0 x1 x2 x3 x4 x5 hw0 hle hstep h1 h2 hw4;go_wp2_with (first
          | (at_builtin; refine wpList_append_lies _ rfl _ _ 48 rfl w.heap.size 55 i0 (.agg #[.int .i64 0, .string ⟨#[]⟩, .int .i64 0, .int .i64 0]) 4 40 Tryz.underlying48 hi hz0 hz1 hz2 rfl (by decide) _ _ _ rfl (World.ownsRow.alloc (World.ownsRow.alloc HW.out _) _) ⟨w3.heap.size + 1, 0, none⟩ 1 1 [.int .i64 k, .string t, .int .i64 n, .int .i64 q] rfl rfl ?c1 ?c2 (by decide) ?c3 ?c4 ?c5 _ rfl ?_))
         case c1 =>
          intro j y hj;match j, hj with
          | 0, hj => simp at hj; subst hj; simp [Addr.add]
          | 1, hj => simp at hj; subst hj; simp [Addr.add]
          | 2, hj => simp at hj; subst hj; simp [Addr.add]
          | 3, hj => simp at hj; subst hj; simp [Addr.add]
         case c2 => intro y hy; simp at hy; rcases hy with rfl | rfl | rfl | rfl <;> rfl
         case c3 => unfold maxLen; omega
         case c4 => omega
         case c5 => simp; omega
         intro g3 cap3 w5 hown5 hgrow _ _;have hown6 : OwnToks w.heap.size w5 (.slice (some ⟨g3, 0, none⟩) (1) cap3) (l ++ [x]) := by
          unfold OwnToks;rw [List.length_append, tokCells_append, hl0];have e : tokCells [x] = tok4 x := by show tok4 x ++ [] = _; rw [List.append_nil]
          rw [e, HX.out];exact hown5
         have hb5 : Below w.heap.size w w5 := ((hb4.alloc hws4 _).alloc (by simp; omega) _).grown hgrow (by simp; omega) (fun i hi => (World.ownsRow.lt HW.out i hi).1);clear hown5 hgrow;go_wp2_with fail;go_roundw
         case rel => exact ⟨en, l ++ [x], hen1, by rw [List.length_append, List.length_singleton]; omega, rfl, hb5, hown6, HSTEP⟩
         case measure => simp [intOf]; omega
      · obtain ⟨m, hm⟩ : ∃ m, l.length = m + 1 := ⟨l.length - 1, by omega⟩;have hbG0 := hbr;have hwG0 := HW0.out;obtain ⟨g, rfl, _, hat⟩ := HCELL.out m (by omega);obtain ⟨c0, c1, c2, c3⟩ := hat;have HG := Lib.hid (fun W => ref_glues (l[m]).kind (l[m]).n (l[m]).pos (l[m]).text W);rw [lastB_at l m hm] at hcutG;generalize opensL (l[m]).kind (l[m]).text = gl at *;generalize (⟨(l[m]).text.toArray⟩ : ByteArray) = u at *;generalize (l[m]).pos = lp at *;generalize (l[m]).kind = kd at *;generalize (l[m]).n = xn at *;have hm0 : (0 : Int) < (m : Int) + 1 := by omega
        have HCG := Lib.hid hcutG;have HNS := Lib.hid hns;rw [hm] at hlc ⊢;rw [hm] at hwG0;have HWG := Lib.hid hwG0;clear hcutG hns hwG0 HW0 HCELL;subst hfa;go_wp2_with fail;refine (HG.out _).mono ?_; rintro e wG ⟨rfl, hbg⟩;have hbG : Below w.heap.size w wG := hbG0.trans (hbg.mono hbG0.size);have hwG := HWG.out.below hbg;have hcutG := HCG.out;have hns := HNS.out;clear hbg HWG HCG HNS HG c0 c1 c2 c3 hbG0;have HTK := Lib.hid (fun W h => ref_token s f gl W (by omega) hf h hns);have HHT := Lib.hid (HT.out.on hbG);have HCUTG := Lib.hid hcutG;clear hcutG hns;go_wp2_with fail;refine (HTK.out _ HHT.out).mono ?_; rintro e w3 ⟨⟨k, n, q, t, en, ok2, rfl, h1, h2⟩, hb3⟩;have hb4 : Below w.heap.size w w3 := hbG.trans (hb3.mono hbG.size);have hws4 := hb4.size;have hw4 := hwG.below hb3;clear hb3 hbG hwG;cases ok2 with
        | false =>
         have HANS := Lib.hid (fun W => ref_bad HCUTG.out hf h4096 (by
          apply Classical.byContradiction
          intro h;rw [decide_eq_true h] at h1;cases h1) w.heap.size W)
         clear h1 h2 hw4;go_wp2_with fail;go_ret3;first
          | exact ⟨HANS.out _, hb4⟩
          | exact ⟨HANS.out _, hb4.alloc hws4 _⟩
        | true =>
         obtain ⟨x0, x1, x2, x3, x4, x5⟩ := h2 rfl;have hw0 : (lexL (s.data.toList.drop f)).w ≠ 0 := of_decide_eq_true h1.symm;have hle := lexL_le (s.data.toList.drop f);rw [List.length_drop, size_listT] at hle;have hstep := ref_step HCUTG.out hf hw0 x0;have HX : Hid (tok4 ⟨kindL gl (lexL (s.data.toList.drop f)), (lexL (s.data.toList.drop f)).text, (lexL (s.data.toList.drop f)).n, f⟩ = [.int .i64 k, .string t, .int .i64 n, .int .i64 q]) := Lib.hid (by rw [x1, x2, x3, x4]; rfl);generalize (⟨kindL gl (lexL (s.data.toList.drop f)), (lexL (s.data.toList.drop f)).text, (lexL (s.data.toList.drop f)).n, f⟩ : Tok) = x at *;rw [<- x5] at hstep;have HSTEP := Lib.hid hstep;have hen1 : en <= s.size := by omega
         have hen2 : f < en := by omega
         have HW := Lib.hid hw4;clear x0 x1 x2 x3 x4 x5 hw0 hle hstep h1 h2 hw4;go_wp2_with (first
          | (at_builtin; refine wpList_append_lies _ rfl _ _ 48 rfl w.heap.size 55 i0 (.agg #[.int .i64 0, .string ⟨#[]⟩, .int .i64 0, .int .i64 0]) 4 40 Tryz.underlying48 hi hz0 hz1 hz2 rfl (by decide) _ _ _ rfl (World.ownsRow.alloc (World.ownsRow.alloc HW.out _) _) ⟨w3.heap.size + 1, 0, none⟩ 1 1 [.int .i64 k, .string t, .int .i64 n, .int .i64 q] rfl rfl ?c1 ?c2 (by decide) ?c3 ?c4 ?c5 _ rfl ?_))
         case c1 =>
          intro j y hj;match j, hj with
          | 0, hj => simp at hj; subst hj; simp [Addr.add]
          | 1, hj => simp at hj; subst hj; simp [Addr.add]
          | 2, hj => simp at hj; subst hj; simp [Addr.add]
          | 3, hj => simp at hj; subst hj; simp [Addr.add]
         case c2 => intro y hy; simp at hy; rcases hy with rfl | rfl | rfl | rfl <;> rfl
         case c3 => unfold maxLen; omega
         case c4 => omega
         case c5 => simp; omega
         intro g3 cap3 w5 hown5 hgrow _ _;have hown6 : OwnToks w.heap.size w5 (.slice (some ⟨g3, 0, none⟩) (m + 1 + 1) cap3) (l ++ [x]) := by
          unfold OwnToks;rw [List.length_append, tokCells_append, hm];have e : tokCells [x] = tok4 x := by show tok4 x ++ [] = _; rw [List.append_nil]
          rw [e, HX.out];exact hown5
         have hb5 : Below w.heap.size w w5 := ((hb4.alloc hws4 _).alloc (by simp; omega) _).grown hgrow (by simp; omega) (fun i hi => (World.ownsRow.lt HW.out i hi).1);clear hown5 hgrow;go_wp2_with fail;go_roundw
         case rel => exact ⟨en, l ++ [x], hen1, by rw [List.length_append, List.length_singleton]; omega, rfl, hb5, hown6, HSTEP⟩
         case measure => simp [intOf]; omega
    · have hq : ((f : Int) == (a : Int)) = false := by rw [beq_eq_false_iff_ne]; omega
      have hcutG := HCUTF.out;rw [if_neg hfa] at hcutG;have hbG := hbr;have hwG := HW0.out;clear hfa;have HTK := Lib.hid (fun W h => ref_token s f false W (by omega) hf h hns);have HHT := Lib.hid (HT.out.on hbG);have HCUTG := Lib.hid hcutG;clear hcutG hns;go_wp2_with fail;refine (HTK.out _ HHT.out).mono ?_; rintro e w3 ⟨⟨k, n, q, t, en, ok2, rfl, h1, h2⟩, hb3⟩;have hb4 : Below w.heap.size w w3 := hbG.trans (hb3.mono hbG.size);have hws4 := hb4.size;have hw4 := hwG.below hb3;clear hb3 hbG hwG;cases ok2 with
      | false =>
       have HANS := Lib.hid (fun W => ref_bad HCUTG.out hf h4096 (by
        apply Classical.byContradiction
        intro h;rw [decide_eq_true h] at h1;cases h1) w.heap.size W)
       clear h1 h2 hw4;go_wp2_with fail;go_ret3;first
        | exact ⟨HANS.out _, hb4⟩
        | exact ⟨HANS.out _, hb4.alloc hws4 _⟩
      | true =>
       obtain ⟨x0, x1, x2, x3, x4, x5⟩ := h2 rfl;have hw0 : (lexL (s.data.toList.drop f)).w ≠ 0 := of_decide_eq_true h1.symm;have hle := lexL_le (s.data.toList.drop f);rw [List.length_drop, size_listT] at hle;have hstep := ref_step HCUTG.out hf hw0 x0;have HX : Hid (tok4 ⟨kindL false (lexL (s.data.toList.drop f)), (lexL (s.data.toList.drop f)).text, (lexL (s.data.toList.drop f)).n, f⟩ = [.int .i64 k, .string t, .int .i64 n, .int .i64 q]) := Lib.hid (by rw [x1, x2, x3, x4]; rfl);generalize (⟨kindL false (lexL (s.data.toList.drop f)), (lexL (s.data.toList.drop f)).text, (lexL (s.data.toList.drop f)).n, f⟩ : Tok) = x at *;rw [<- x5] at hstep;have HSTEP := Lib.hid hstep;have hen1 : en <= s.size := by omega
       have hen2 : f < en := by omega
       have HW := Lib.hid hw4;clear x0 x1 x2 x3 x4 x5 hw0 hle hstep h1 h2 hw4;go_wp2_with (first
        | (at_builtin; refine wpList_append_lies _ rfl _ _ 48 rfl w.heap.size 55 i0 (.agg #[.int .i64 0, .string ⟨#[]⟩, .int .i64 0, .int .i64 0]) 4 40 Tryz.underlying48 hi hz0 hz1 hz2 rfl (by decide) _ _ _ rfl (World.ownsRow.alloc (World.ownsRow.alloc HW.out _) _) ⟨w3.heap.size + 1, 0, none⟩ 1 1 [.int .i64 k, .string t, .int .i64 n, .int .i64 q] rfl rfl ?c1 ?c2 (by decide) ?c3 ?c4 ?c5 _ rfl ?_))
       case c1 =>
        intro j y hj;match j, hj with
        | 0, hj => simp at hj; subst hj; simp [Addr.add]
        | 1, hj => simp at hj; subst hj; simp [Addr.add]
        | 2, hj => simp at hj; subst hj; simp [Addr.add]
        | 3, hj => simp at hj; subst hj; simp [Addr.add]
       case c2 => intro y hy; simp at hy; rcases hy with rfl | rfl | rfl | rfl <;> rfl
       case c3 => unfold maxLen; omega
       case c4 => omega
       case c5 => simp; omega
       intro g3 cap3 w5 hown5 hgrow _ _;have hown6 : OwnToks w.heap.size w5 (.slice (some ⟨g3, 0, none⟩) (l.length + 1) cap3) (l ++ [x]) := by
        unfold OwnToks;rw [List.length_append, tokCells_append];have e : tokCells [x] = tok4 x := by show tok4 x ++ [] = _; rw [List.append_nil]
        rw [e, HX.out];exact hown5
       have hb5 : Below w.heap.size w w5 := ((hb4.alloc hws4 _).alloc (by simp; omega) _).grown hgrow (by simp; omega) (fun i hi => (World.ownsRow.lt HW.out i hi).1);clear hown5 hgrow;go_wp2_with fail;go_roundw
       case rel => exact ⟨en, l ++ [x], hen1, by rw [List.length_append, List.length_singleton]; omega, rfl, hb5, hown6, HSTEP⟩
       case measure => simp [intOf]; omega
end Go.Proofs.YtdjejbgokamjeaaGreatDoor
