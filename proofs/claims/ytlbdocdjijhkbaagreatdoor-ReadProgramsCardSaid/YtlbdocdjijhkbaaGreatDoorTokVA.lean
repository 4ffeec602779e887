import Derived.Test.YtlbdocdjijhkbaaGreatDoorTokRU
import Derived.Test.YtlbdocdjijhkbaaGreatDoorTokNumR
namespace Go.Proofs.YtlbdocdjijhkbaaGreatDoor
open Go.RowKit
theorem among3 : amongK [3] = digR := by
 funext c
 unfold amongK digR;rw [Bool.eq_iff_iff]; simp
theorem ks_new (w : World) (t : TypeId) (k : Int) : Ks (w.alloc (.cells #[.int .i64 k] t)) w.heap.size [k] := by
 intro i h;have : i = 0 := by simp at h; omega
 subst this;exact World.cell?_alloc_at _ _ _ _ rfl
theorem decodeGo_zero {r : List UInt8} {c n : Nat} (h : Lib.decodeGo ⟨r.toArray⟩ = (c, n)) (hn : n = 0) : c = 65533 := by
 by_cases h0 : r = []
 · subst h0;rw [decodeGo_nil _ rfl] at h;injection h with h1 h2;exact h1.symm
 · have hp : 0 < r.length := List.length_pos_iff.2 h0;rw [decodeGo_eq _ (by rw [size_mk]; omega)] at h;have := Lib.decodeL_width r;have e : Lib.decodeL r = (c, n) := h;rw [e] at this;simp at this; omega
theorem rest_ways (u : ByteArray) : (u.data.toList.take 2 = [39, 39] /\ ∃ h : 1 < u.size, ((u[0].toNat : Int) == 39) = true /\ ((u[1].toNat : Int) == 39) = true) \/
 (¬ u.data.toList.take 2 = [39, 39] /\ (u.size <= 1 \/ ∃ h : 1 < u.size, ((u[0].toNat : Int) == 39) = false \/ (((u[0].toNat : Int) == 39) = true /\ ((u[1].toNat : Int) == 39) = false))) := by
 by_cases h1 : 1 < u.size
 · have e0 := drop_at u 0 (by omega);have e1 := drop_at u 1 h1;rw [List.drop_zero] at e0;have hb0 : ((u[0].toNat : Int) == 39) = decide (u[0] = 39) := byte_is u[0] 39;have hb1 : ((u[1].toNat : Int) == 39) = decide (u[1] = 39) := byte_is u[1] 39;have e2 : u.data.toList.take 2 = [u[0], u[1]] := by rw [e0, List.take_succ_cons, e1, List.take_succ_cons, List.take_zero]
   rw [e2];by_cases h0 : u[0] = 39
   · by_cases h2 : u[1] = 39
     · exact .inl ⟨by rw [h0, h2], h1, hb0.trans (decide_eq_true h0), hb1.trans (decide_eq_true h2)⟩
     · exact .inr ⟨by intro e; injection e with _ e; injection e with e _; exact h2 e, .inr ⟨h1, .inr ⟨hb0.trans (decide_eq_true h0), hb1.trans (decide_eq_false h2)⟩⟩⟩
   · exact .inr ⟨by intro e; injection e with e _; exact h0 e, .inr ⟨h1, .inl (hb0.trans (decide_eq_false h0))⟩⟩
 · refine .inr ⟨fun e => ?_, .inl (by omega)⟩;have := congrArg List.length e;rw [List.length_take, size_listT] at this;simp at this; omega
def NumAns (l : List UInt8) (p : Nat) (e : Ending) : Prop := ∃ (n : Int) (en : Nat) (ok : Bool), e = .returned (.tuple #[.agg #[.int .i64 5, .string ⟨#[]⟩, .int .i64 n, .int .i64 (p : Nat)], .int .i64 (en : Nat), .bool ok]) /\
 ok = decide ((numberL l).w ≠ 0) /\ (ok = true -> numberL l = ⟨5, [], n, en - p⟩ /\ p <= en)
theorem num_tail {s : ByteArray} {p : Nat} {v x : Int} {z : Nat} (hz : spanL digR (s.data.toList.drop p) = z) (hz0 : z ≠ 0) (hr : (runeNum (s.data.toList.drop p)).2 = 0)
 (hv : readV (45 :: (s.data.toList.drop p).take z) = v) (hx : readE (45 :: (s.data.toList.drop p).take z) = x) :
 NumAns (s.data.toList.drop p) p (.returned (.tuple #[.agg #[.int .i64 5, .string ⟨#[]⟩, .int .i64 (wrap64 (-v)), .int .i64 (p : Nat)], .int .i64 (p + z : Nat), .bool (x == 0)])) := by
 refine ⟨_, _, _, rfl, ?_, ?_⟩
 · unfold numberL;rw [hr, if_neg (by omega), hz, hx, hv];by_cases h : x = 0
   · rw [if_pos h, h];symm
     exact decide_eq_true hz0
   · rw [if_neg h, beq_eq_false_iff_ne.2 h]; rfl
 · intro h;have h0 : x = 0 := by simpa using h
   refine ⟨?_, by omega⟩;unfold numberL;rw [hr, if_neg (by omega), hz, hx, hv, if_pos h0, Nat.add_sub_cancel_left]
theorem cat_part (s : ByteArray) (p z : Nat) : (⟨#[45]⟩ ++ s.extract p (p + z) : ByteArray).data.toList = 45 :: (s.data.toList.drop p).take z := by
 rw [Lib.extract_eq, ByteArray.data_append, Nat.add_sub_cancel_left]; simp
set_option maxRecDepth 100000 in
set_option maxHeartbeats 8000000 in
theorem num_not48 (s : ByteArray) (p : Nat) (w : World) (hs : s.size <= 200000) (hp : p < s.size) (hd : digR (s[p].toNat : Int) = true) (h48 : s[p] ≠ 48) :
 Calls Tryz.prog 59 #[.string s, .int .i64 (p : Nat)] w fun e w' => NumAns (s.data.toList.drop p) p e /\ Below w.heap.size w w' := by
 have hda := drop_at s p hp;obtain ⟨z, hz⟩ : ∃ z, spanL digR (s.data.toList.drop p) = z := ⟨_, rfl⟩;have hz0 : z ≠ 0 := by rw [<- hz, hda]; exact Nat.pos_iff_ne_zero.1 (spanL_pos _ _ _ hd)
 have hzl := spanL_le digR (s.data.toList.drop p);rw [hz, List.length_drop, size_listT] at hzl;have HRUN := Lib.hid (fun (W : World) (g : Nat) (h : Ks W g [3]) => by
  have := ref_run s p [3] g W hs (by omega) h (by decide) (by decide);rw [among3, hz] at this;exact this)
 have hsz : (⟨#[45]⟩ ++ s.extract p (p + z) : ByteArray).size <= maxLen := by
  rw [ByteArray.size_append, ByteArray.size_extract];show 1 + _ <= maxLen
  unfold maxLen; omega
 have hRD := fun W => ref_NumRead (⟨#[45]⟩ ++ s.extract p (p + z)) W hsz;rw [cat_part] at hRD;obtain ⟨v, hv⟩ : ∃ v, readV (45 :: (s.data.toList.drop p).take z) = v := ⟨_, rfl⟩;obtain ⟨x, hx⟩ : ∃ x, readE (45 :: (s.data.toList.drop p).take z) = x := ⟨_, rfl⟩;rw [hv, hx] at hRD;have HREAD := Lib.hid hRD;have HB := Lib.hid (fun o o2 : Obj => ((Below.refl w.heap.size w).alloc (Nat.le_refl _) o).alloc (by simp) o2);have HTAIL := Lib.hid (fun h => num_tail hz hz0 h hv hx);have hp0 : (0 : Int) <= (p : Int) := by omega
 have hp1 : (p : Int) < (s.size : Int) := by omega
 have hp2 : (p : Int) <= (p : Int) + (z : Int) := by omega
 have hp3 : (p : Int) + (z : Int) <= (s.size : Int) := by omega
 clear hRD hv hx hd hsz;have hb48 : ((s[p].toNat : Int) == 48) = false := (byte_is s[p] 48).trans (decide_eq_false h48);have HANS := Lib.hid (HTAIL.out (by
  unfold runeNum;rw [hda, if_neg]
  · intro e;cases h : s.data.toList.drop (p + 1) with
    | nil => rw [h] at e; simp at e
    | cons b t => rw [h, List.take_succ_cons] at e; injection e with e _; exact h48 e))
 clear hda h48;go_enter Tryz.func59, Tryz.ntmps59;go_wp2_with fail;generalize hW0 : ((w.alloc (.cells #[.int .i64 0, .string ⟨#[]⟩, .int .i64 0, .int .i64 0] 41)).alloc (.cells #[.int .i64 5, .string ⟨#[]⟩, .int .i64 0, .int .i64 (p : Nat)] 41)) = W0;have kz4 : W0.heap[w.heap.size]? = some (.cells #[.int .i64 0, .string ⟨#[]⟩, .int .i64 0, .int .i64 0] 41) := by rw [<- hW0]; exact past_at (new_at w _) _
 have kz7 : W0.heap[w.heap.size + 1]? = some (.cells #[.int .i64 5, .string ⟨#[]⟩, .int .i64 0, .int .i64 (p : Nat)] 41) := by rw [<- hW0, <- World.size_alloc w (.cells #[.int .i64 0, .string ⟨#[]⟩, .int .i64 0, .int .i64 0] 41)]; exact new_at _ _
 have hbW : Below w.heap.size w W0 := by rw [<- hW0]; exact HB.out _ _
 have hsz : W0.heap.size = w.heap.size + 1 + 1 := by rw [<- hW0]; simp
 rw [<- hsz];refine (HRUN.out _ _ (ks_new W0 3 3)).mono ?_; rintro e w8 ⟨rfl, rfl⟩;have hz4 := past_at kz4 (.cells #[.int .i64 3] 3);have hz7 := past_at kz7 (.cells #[.int .i64 3] 3);have hb8 := hbW.alloc (by have := hbW.size; omega) (.cells #[.int .i64 3] 3);generalize W0.alloc (.cells #[.int .i64 3] 3) = w8 at *;obtain ⟨c0, c1, c2, c3, f0, f1, f2, f3⟩ := cells4 hz4;obtain ⟨d0, d1, d2, d3, g0, g1, g2, g3⟩ := cells4 hz7;have hl8 : w.heap.size + 1 < w8.heap.size := World.block_lt_of_cell? _ _ d0;have hl9 : w.heap.size < w8.heap.size := by omega
 clear hz4 hz7 kz4 kz7 hbW;go_wp2_with fail;refine (HREAD.out _).mono ?_; rintro e w9 ⟨rfl, rfl⟩;go_wp2_with fail;refine bodyPost_ret (v := .tuple #[.agg #[.int .i64 5, .string ⟨#[]⟩, .int .i64 (wrap64 (-v)), .int .i64 (p : Nat)], .int .i64 (p + z : Nat), .bool (x == 0)]) (by simp [results, Tryz.results59, go_sem, c0, c1, c2, c3]) rfl ⟨HANS.out, ?_⟩;exact below_set4 (hb8.setCell (p := ⟨w.heap.size + 1, 2, none⟩) (show w.heap.size <= w.heap.size + 1 by omega) _) (Nat.le_refl _) _ _ _ _
set_option maxRecDepth 100000 in
set_option maxHeartbeats 8000000 in
theorem num_short (s : ByteArray) (p : Nat) (w : World) (hs : s.size <= 200000) (hp : p < s.size) (hd : digR (s[p].toNat : Int) = true) (h48 : s[p] = 48) (h1 : s.size <= p + 1) :
 Calls Tryz.prog 59 #[.string s, .int .i64 (p : Nat)] w fun e w' => NumAns (s.data.toList.drop p) p e /\ Below w.heap.size w w' := by
 have hda := drop_at s p hp;obtain ⟨z, hz⟩ : ∃ z, spanL digR (s.data.toList.drop p) = z := ⟨_, rfl⟩;have hz0 : z ≠ 0 := by rw [<- hz, hda]; exact Nat.pos_iff_ne_zero.1 (spanL_pos _ _ _ hd)
 have hzl := spanL_le digR (s.data.toList.drop p);rw [hz, List.length_drop, size_listT] at hzl;have HRUN := Lib.hid (fun (W : World) (g : Nat) (h : Ks W g [3]) => by
  have := ref_run s p [3] g W hs (by omega) h (by decide) (by decide);rw [among3, hz] at this;exact this)
 have hsz : (⟨#[45]⟩ ++ s.extract p (p + z) : ByteArray).size <= maxLen := by
  rw [ByteArray.size_append, ByteArray.size_extract];show 1 + _ <= maxLen
  unfold maxLen; omega
 have hRD := fun W => ref_NumRead (⟨#[45]⟩ ++ s.extract p (p + z)) W hsz;rw [cat_part] at hRD;obtain ⟨v, hv⟩ : ∃ v, readV (45 :: (s.data.toList.drop p).take z) = v := ⟨_, rfl⟩;obtain ⟨x, hx⟩ : ∃ x, readE (45 :: (s.data.toList.drop p).take z) = x := ⟨_, rfl⟩;rw [hv, hx] at hRD;have HREAD := Lib.hid hRD;have HB := Lib.hid (fun o o2 : Obj => ((Below.refl w.heap.size w).alloc (Nat.le_refl _) o).alloc (by simp) o2);have HTAIL := Lib.hid (fun h => num_tail hz hz0 h hv hx);have hp0 : (0 : Int) <= (p : Int) := by omega
 have hp1 : (p : Int) < (s.size : Int) := by omega
 have hp2 : (p : Int) <= (p : Int) + (z : Int) := by omega
 have hp3 : (p : Int) + (z : Int) <= (s.size : Int) := by omega
 clear hRD hv hx hd hsz;have hb48 : ((s[p].toNat : Int) == 48) = true := (byte_is s[p] 48).trans (decide_eq_true h48);have hq1 : (s.size : Int) <= (p : Int) + 1 := by omega
 have HANS := Lib.hid (HTAIL.out (by
  unfold runeNum;rw [hda, List.drop_eq_nil_of_le (show _ <= p + 1 by rw [size_listT]; exact h1), if_neg (by simp)]))
 clear hda h48;go_enter Tryz.func59, Tryz.ntmps59;go_wp2_with fail;generalize hW0 : ((w.alloc (.cells #[.int .i64 0, .string ⟨#[]⟩, .int .i64 0, .int .i64 0] 41)).alloc (.cells #[.int .i64 5, .string ⟨#[]⟩, .int .i64 0, .int .i64 (p : Nat)] 41)) = W0;have kz4 : W0.heap[w.heap.size]? = some (.cells #[.int .i64 0, .string ⟨#[]⟩, .int .i64 0, .int .i64 0] 41) := by rw [<- hW0]; exact past_at (new_at w _) _
 have kz7 : W0.heap[w.heap.size + 1]? = some (.cells #[.int .i64 5, .string ⟨#[]⟩, .int .i64 0, .int .i64 (p : Nat)] 41) := by rw [<- hW0, <- World.size_alloc w (.cells #[.int .i64 0, .string ⟨#[]⟩, .int .i64 0, .int .i64 0] 41)]; exact new_at _ _
 have hbW : Below w.heap.size w W0 := by rw [<- hW0]; exact HB.out _ _
 have hsz : W0.heap.size = w.heap.size + 1 + 1 := by rw [<- hW0]; simp
 rw [<- hsz];refine (HRUN.out _ _ (ks_new W0 3 3)).mono ?_; rintro e w8 ⟨rfl, rfl⟩;have hz4 := past_at kz4 (.cells #[.int .i64 3] 3);have hz7 := past_at kz7 (.cells #[.int .i64 3] 3);have hb8 := hbW.alloc (by have := hbW.size; omega) (.cells #[.int .i64 3] 3);generalize W0.alloc (.cells #[.int .i64 3] 3) = w8 at *;obtain ⟨c0, c1, c2, c3, f0, f1, f2, f3⟩ := cells4 hz4;obtain ⟨d0, d1, d2, d3, g0, g1, g2, g3⟩ := cells4 hz7;have hl8 : w.heap.size + 1 < w8.heap.size := World.block_lt_of_cell? _ _ d0;have hl9 : w.heap.size < w8.heap.size := by omega
 clear hz4 hz7 kz4 kz7 hbW;go_wp2_with fail;refine (HREAD.out _).mono ?_; rintro e w9 ⟨rfl, rfl⟩;go_wp2_with fail;refine bodyPost_ret (v := .tuple #[.agg #[.int .i64 5, .string ⟨#[]⟩, .int .i64 (wrap64 (-v)), .int .i64 (p : Nat)], .int .i64 (p + z : Nat), .bool (x == 0)]) (by simp [results, Tryz.results59, go_sem, c0, c1, c2, c3]) rfl ⟨HANS.out, ?_⟩;exact below_set4 (hb8.setCell (p := ⟨w.heap.size + 1, 2, none⟩) (show w.heap.size <= w.heap.size + 1 by omega) _) (Nat.le_refl _) _ _ _ _
set_option maxRecDepth 100000 in
set_option maxHeartbeats 8000000 in
theorem num_not39 (s : ByteArray) (p : Nat) (w : World) (hs : s.size <= 200000) (hp : p < s.size) (hd : digR (s[p].toNat : Int) = true) (h48 : s[p] = 48) (h1 : p + 1 < s.size) (h39 : s[p + 1] ≠ 39) :
 Calls Tryz.prog 59 #[.string s, .int .i64 (p : Nat)] w fun e w' => NumAns (s.data.toList.drop p) p e /\ Below w.heap.size w w' := by
 have hda := drop_at s p hp;obtain ⟨z, hz⟩ : ∃ z, spanL digR (s.data.toList.drop p) = z := ⟨_, rfl⟩;have hz0 : z ≠ 0 := by rw [<- hz, hda]; exact Nat.pos_iff_ne_zero.1 (spanL_pos _ _ _ hd)
 have hzl := spanL_le digR (s.data.toList.drop p);rw [hz, List.length_drop, size_listT] at hzl;have HRUN := Lib.hid (fun (W : World) (g : Nat) (h : Ks W g [3]) => by
  have := ref_run s p [3] g W hs (by omega) h (by decide) (by decide);rw [among3, hz] at this;exact this)
 have hsz : (⟨#[45]⟩ ++ s.extract p (p + z) : ByteArray).size <= maxLen := by
  rw [ByteArray.size_append, ByteArray.size_extract];show 1 + _ <= maxLen
  unfold maxLen; omega
 have hRD := fun W => ref_NumRead (⟨#[45]⟩ ++ s.extract p (p + z)) W hsz;rw [cat_part] at hRD;obtain ⟨v, hv⟩ : ∃ v, readV (45 :: (s.data.toList.drop p).take z) = v := ⟨_, rfl⟩;obtain ⟨x, hx⟩ : ∃ x, readE (45 :: (s.data.toList.drop p).take z) = x := ⟨_, rfl⟩;rw [hv, hx] at hRD;have HREAD := Lib.hid hRD;have HB := Lib.hid (fun o o2 : Obj => ((Below.refl w.heap.size w).alloc (Nat.le_refl _) o).alloc (by simp) o2);have HTAIL := Lib.hid (fun h => num_tail hz hz0 h hv hx);have hp0 : (0 : Int) <= (p : Int) := by omega
 have hp1 : (p : Int) < (s.size : Int) := by omega
 have hp2 : (p : Int) <= (p : Int) + (z : Int) := by omega
 have hp3 : (p : Int) + (z : Int) <= (s.size : Int) := by omega
 clear hRD hv hx hd hsz;have hb48 : ((s[p].toNat : Int) == 48) = true := (byte_is s[p] 48).trans (decide_eq_true h48);have hb39 : ((s[p + 1].toNat : Int) == 39) = false := (byte_is s[p + 1] 39).trans (decide_eq_false h39);have hq1 : (p : Int) + 1 < (s.size : Int) := by omega
 have HANS := Lib.hid (HTAIL.out (by
  unfold runeNum;rw [hda, drop_at s (p + 1) h1, if_neg];intro e;rw [List.take_succ_cons, List.take_succ_cons] at e;injection e with _ e;injection e with e _;exact h39 e))
 clear hda h48 h39;go_enter Tryz.func59, Tryz.ntmps59;go_wp2_with fail;generalize hW0 : ((w.alloc (.cells #[.int .i64 0, .string ⟨#[]⟩, .int .i64 0, .int .i64 0] 41)).alloc (.cells #[.int .i64 5, .string ⟨#[]⟩, .int .i64 0, .int .i64 (p : Nat)] 41)) = W0;have kz4 : W0.heap[w.heap.size]? = some (.cells #[.int .i64 0, .string ⟨#[]⟩, .int .i64 0, .int .i64 0] 41) := by rw [<- hW0]; exact past_at (new_at w _) _
 have kz7 : W0.heap[w.heap.size + 1]? = some (.cells #[.int .i64 5, .string ⟨#[]⟩, .int .i64 0, .int .i64 (p : Nat)] 41) := by rw [<- hW0, <- World.size_alloc w (.cells #[.int .i64 0, .string ⟨#[]⟩, .int .i64 0, .int .i64 0] 41)]; exact new_at _ _
 have hbW : Below w.heap.size w W0 := by rw [<- hW0]; exact HB.out _ _
 have hsz : W0.heap.size = w.heap.size + 1 + 1 := by rw [<- hW0]; simp
 rw [<- hsz];refine (HRUN.out _ _ (ks_new W0 3 3)).mono ?_; rintro e w8 ⟨rfl, rfl⟩;have hz4 := past_at kz4 (.cells #[.int .i64 3] 3);have hz7 := past_at kz7 (.cells #[.int .i64 3] 3);have hb8 := hbW.alloc (by have := hbW.size; omega) (.cells #[.int .i64 3] 3);generalize W0.alloc (.cells #[.int .i64 3] 3) = w8 at *;obtain ⟨c0, c1, c2, c3, f0, f1, f2, f3⟩ := cells4 hz4;obtain ⟨d0, d1, d2, d3, g0, g1, g2, g3⟩ := cells4 hz7;have hl8 : w.heap.size + 1 < w8.heap.size := World.block_lt_of_cell? _ _ d0;have hl9 : w.heap.size < w8.heap.size := by omega
 clear hz4 hz7 kz4 kz7 hbW;go_wp2_with fail;refine (HREAD.out _).mono ?_; rintro e w9 ⟨rfl, rfl⟩;go_wp2_with fail;refine bodyPost_ret (v := .tuple #[.agg #[.int .i64 5, .string ⟨#[]⟩, .int .i64 (wrap64 (-v)), .int .i64 (p : Nat)], .int .i64 (p + z : Nat), .bool (x == 0)]) (by simp [results, Tryz.results59, go_sem, c0, c1, c2, c3]) rfl ⟨HANS.out, ?_⟩;exact below_set4 (hb8.setCell (p := ⟨w.heap.size + 1, 2, none⟩) (show w.heap.size <= w.heap.size + 1 by omega) _) (Nat.le_refl _) _ _ _ _
set_option maxRecDepth 100000 in
set_option maxHeartbeats 8000000 in
theorem num_quote (s : ByteArray) (p : Nat) (w : World) (hs : s.size <= 200000) (hp : p < s.size) (hd : digR (s[p].toNat : Int) = true) (h48 : s[p] = 48) (h1 : p + 1 < s.size) (h39 : s[p + 1] = 39) (h2 : (s.data.toList.drop (p + 2)).take 2 = [39, 39]) (hu : 1 < (s.extract (p + 2) s.size).size) (e0 : (((s.extract (p + 2) s.size)[0].toNat : Int) == 39) = true) (e1 : (((s.extract (p + 2) s.size)[1].toNat : Int) == 39) = true) :
 Calls Tryz.prog 59 #[.string s, .int .i64 (p : Nat)] w fun e w' => NumAns (s.data.toList.drop p) p e /\ Below w.heap.size w w' := by
 have hda := drop_at s p hp;obtain ⟨z, hz⟩ : ∃ z, spanL digR (s.data.toList.drop p) = z := ⟨_, rfl⟩;have hz0 : z ≠ 0 := by rw [<- hz, hda]; exact Nat.pos_iff_ne_zero.1 (spanL_pos _ _ _ hd)
 have hzl := spanL_le digR (s.data.toList.drop p);rw [hz, List.length_drop, size_listT] at hzl;have HRUN := Lib.hid (fun (W : World) (g : Nat) (h : Ks W g [3]) => by
  have := ref_run s p [3] g W hs (by omega) h (by decide) (by decide);rw [among3, hz] at this;exact this)
 have hsz : (⟨#[45]⟩ ++ s.extract p (p + z) : ByteArray).size <= maxLen := by
  rw [ByteArray.size_append, ByteArray.size_extract];show 1 + _ <= maxLen
  unfold maxLen; omega
 have hRD := fun W => ref_NumRead (⟨#[45]⟩ ++ s.extract p (p + z)) W hsz;rw [cat_part] at hRD;obtain ⟨v, hv⟩ : ∃ v, readV (45 :: (s.data.toList.drop p).take z) = v := ⟨_, rfl⟩;obtain ⟨x, hx⟩ : ∃ x, readE (45 :: (s.data.toList.drop p).take z) = x := ⟨_, rfl⟩;rw [hv, hx] at hRD;have HREAD := Lib.hid hRD;have HB := Lib.hid (fun o o2 : Obj => ((Below.refl w.heap.size w).alloc (Nat.le_refl _) o).alloc (by simp) o2);have HTAIL := Lib.hid (fun h => num_tail hz hz0 h hv hx);have hp0 : (0 : Int) <= (p : Int) := by omega
 have hp1 : (p : Int) < (s.size : Int) := by omega
 have hp2 : (p : Int) <= (p : Int) + (z : Int) := by omega
 have hp3 : (p : Int) + (z : Int) <= (s.size : Int) := by omega
 clear hRD hv hx hd hsz;have hb48 : ((s[p].toNat : Int) == 48) = true := (byte_is s[p] 48).trans (decide_eq_true h48);have hb39 : ((s[p + 1].toNat : Int) == 39) = true := (byte_is s[p + 1] 39).trans (decide_eq_true h39);have hq1 : (p : Int) + 1 < (s.size : Int) := by omega
 have hrn : runeNum (s.data.toList.drop p) = runeB (s.data.toList.drop (p + 2)) := by
  unfold runeNum;rw [hda, drop_at s (p + 1) h1, h48, h39, if_pos (by rfl)]; rfl
 have HANS : Hid (NumAns (s.data.toList.drop p) p (.returned (.tuple #[.agg #[.int .i64 5, .string ⟨#[]⟩, .int .i64 39, .int .i64 (p : Nat)], .int .i64 (p + 4 : Nat), .bool true]))) := Lib.hid (by
  refine ⟨39, p + 4, true, rfl, ?_, fun _ => ⟨?_, by omega⟩⟩
  · unfold numberL;rw [hrn];unfold runeB;rw [if_pos h2]; rfl
  · unfold numberL;rw [hrn];unfold runeB;rw [if_pos h2, Nat.add_sub_cancel_left]; rfl)
 have hu2 := hu;rw [ByteArray.size_extract] at hu2;have hx1 : (1 : Int) < ((s.size - (p + 2) : Nat) : Int) := by omega
 have hq2 : (p : Int) + 2 <= (s.size : Int) := by omega
 clear hda h48 h39 hrn h2 HTAIL HREAD HRUN;go_enter Tryz.func59, Tryz.ntmps59;go_wp2_with fail;refine bodyPost_ret (v := .tuple #[.agg #[.int .i64 5, .string ⟨#[]⟩, .int .i64 39, .int .i64 (p : Nat)], .int .i64 (p + 4 : Nat), .bool true]) (by simp [results, Tryz.results59, go_sem]) rfl ⟨HANS.out, HB.out _ _⟩
end Go.Proofs.YtlbdocdjijhkbaaGreatDoor
