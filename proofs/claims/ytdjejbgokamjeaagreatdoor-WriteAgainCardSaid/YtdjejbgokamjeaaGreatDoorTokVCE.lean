import Derived.Test.YtdjejbgokamjeaaGreatDoorTkN
namespace Go.Proofs.YtdjejbgokamjeaaGreatDoor
open Go.RowKit
set_option maxRecDepth 100000 in
set_option maxHeartbeats 8000000 in
theorem num_rune_bad1 (s : ByteArray) (p : Nat) (w : World) (hs : s.size <= 200000) (hp : p < s.size) (hd : digR (s[p].toNat : Int) = true) (h48 : s[p] = 48) (h1 : p + 1 < s.size) (h39 : s[p + 1] = 39) (hu : (s.extract (p + 2) s.size).size <= 1) (ci : Int) (n : Nat) (hn : n <= 200000) (hci : 0 <= ci /\ ci <= 1114111) (HDEC : Hid (∀ W, TabsT W -> Calls Tryz.prog 33 #[.string (s.extract (p + 2) s.size)] W fun e w' => e = .returned (.tuple #[.int .i32 ci, .int .i64 (n : Nat)]) /\ Below W.heap.size W w')) (hT : TabsT w) (hB : runeB (s.data.toList.drop (p + 2)) = (0, 0)) (hw : ((n : Int) <= 0) \/ ((0 : Int) < (n : Int) /\ (ci == 65533) = true /\ ((n : Int) == 1) = true) \/ ((0 : Int) < (n : Int) /\ (ci == 65533) = false /\ ci < 32) \/ ((0 : Int) < (n : Int) /\ (ci == 65533) = false /\ (32 : Int) <= ci /\ (ci != 39) = false) \/ ((0 : Int) < (n : Int) /\ (ci == 65533) = false /\ (32 : Int) <= ci /\ (ci != 39) = true /\ (ci != 92) = false)) :
 Calls Tryz.prog 50 #[.string s, .int .i64 (p : Nat)] w fun e w' => NumAns (s.data.toList.drop p) p e /\ Below w.heap.size w w' := by
 have hda := drop_at s p hp;obtain ⟨z, hz⟩ : ∃ z, spanL digR (s.data.toList.drop p) = z := ⟨_, rfl⟩;have hz0 : z ≠ 0 := by rw [<- hz, hda]; exact Nat.pos_iff_ne_zero.1 (spanL_pos _ _ _ hd)
 have hzl := spanL_le digR (s.data.toList.drop p);rw [hz, List.length_drop, size_listT] at hzl;have HRUN := Lib.hid (fun (W : World) (g : Nat) (h : Ks W g [3]) => by
  have := ref_run s p [3] g W hs (by omega) h (by decide) (by decide);rw [among3, hz] at this;exact this)
 have hsz : (⟨#[45]⟩ ++ s.extract p (p + z) : ByteArray).size <= maxLen := by
  rw [ByteArray.size_append, ByteArray.size_extract];show 1 + _ <= maxLen
  unfold maxLen; omega
 have hRD := fun W => ref_NumRead (⟨#[45]⟩ ++ s.extract p (p + z)) W hsz;rw [cat_part] at hRD;obtain ⟨v, hv⟩ : ∃ v, readV (45 :: (s.data.toList.drop p).take z) = v := ⟨_, rfl⟩;obtain ⟨x, hx⟩ : ∃ x, readE (45 :: (s.data.toList.drop p).take z) = x := ⟨_, rfl⟩;rw [hv, hx] at hRD;have HREAD := Lib.hid hRD;have HB := Lib.hid (fun o o2 : Obj => ((Below.refl w.heap.size w).alloc (Nat.le_refl _) o).alloc (by simp) o2);have HTAIL := Lib.hid (fun h => num_tail hz hz0 h hv hx);have hp0 : (0 : Int) <= (p : Int) := by omega
 have hp1 : (p : Int) < (s.size : Int) := by omega
 have hp2 : (p : Int) <= (p : Int) + (z : Int) := by omega
 have hp3 : (p : Int) + (z : Int) <= (s.size : Int) := by omega
 clear hRD hv hx hd hsz;have hb48 : ((s[p].toNat : Int) == 48) = true := (byte_is s[p] 48).trans (decide_eq_true h48);have hb39 : ((s[p + 1].toNat : Int) == 39) = true := (byte_is s[p + 1] 39).trans (decide_eq_true h39);have hq1 : (p : Int) + 1 < (s.size : Int) := by omega
 have hrn : runeNum (s.data.toList.drop p) = runeB (s.data.toList.drop (p + 2)) := by
  unfold runeNum;rw [hda, drop_at s (p + 1) h1, h48, h39, if_pos (by rfl)]; rfl
 have hu2 := hu;rw [ByteArray.size_extract] at hu2;have hx1 : ((s.size - (p + 2) : Nat) : Int) <= 1 := by omega
 clear hu;have HANS := Lib.hid (HTAIL.out (by rw [hrn, hB]));have HT := Lib.hid hT;have hq2 : (p : Int) + 2 <= (s.size : Int) := by omega
 obtain ⟨hci0, hci1⟩ := hci;clear hda h48 h39 hrn hB hT;rcases hw with o1 | ⟨o1, o2, o3⟩ | ⟨o1, o2, o3⟩ | ⟨o1, o2, o3, o4⟩ | ⟨o1, o2, o3, o4, o5⟩
 all_goals
  go_enter Tryz.func50, Tryz.ntmps50;go_wp2_with fail;generalize hW0 : ((w.alloc (.cells #[.int .i64 0, .string ⟨#[]⟩, .int .i64 0, .int .i64 0] 55)).alloc (.cells #[.int .i64 5, .string ⟨#[]⟩, .int .i64 0, .int .i64 (p : Nat)] 55)) = W0;have kz4 : W0.heap[w.heap.size]? = some (.cells #[.int .i64 0, .string ⟨#[]⟩, .int .i64 0, .int .i64 0] 55) := by rw [<- hW0]; exact past_at (new_at w _) _
  have kz7 : W0.heap[w.heap.size + 1]? = some (.cells #[.int .i64 5, .string ⟨#[]⟩, .int .i64 0, .int .i64 (p : Nat)] 55) := by rw [<- hW0, <- World.size_alloc w (.cells #[.int .i64 0, .string ⟨#[]⟩, .int .i64 0, .int .i64 0] 55)]; exact new_at _ _
  have hbW : Below w.heap.size w W0 := by rw [<- hW0]; exact HB.out _ _
  have hsz : W0.heap.size = w.heap.size + 1 + 1 := by rw [<- hW0]; simp
  refine (HDEC.out _ (HT.out.on hbW)).mono ?_; rintro e w1 ⟨rfl, hb1⟩;have hbW1 : Below w.heap.size w w1 := hbW.trans (hb1.mono hbW.size);replace kz4 := kept_at hb1 kz4
  replace kz7 := kept_at hb1 kz7
  replace hbW := hbW1
  clear hW0 hsz hb1 hbW1;go_wp2_with fail;refine (HRUN.out _ _ (ks_new w1 3 3)).mono ?_; rintro e w8 ⟨rfl, rfl⟩;have hz4 := past_at kz4 (.cells #[.int .i64 3] 3);have hz7 := past_at kz7 (.cells #[.int .i64 3] 3);have hb8 := hbW.alloc (by have := hbW.size; omega) (.cells #[.int .i64 3] 3);generalize w1.alloc (.cells #[.int .i64 3] 3) = w8 at *;obtain ⟨c0, c1, c2, c3, f0, f1, f2, f3⟩ := cells4 hz4;obtain ⟨d0, d1, d2, d3, g0, g1, g2, g3⟩ := cells4 hz7;have hl8 : w.heap.size + 1 < w8.heap.size := World.block_lt_of_cell? _ _ d0;have hl9 : w.heap.size < w8.heap.size := by omega
  clear hz4 hz7 kz4 kz7 hbW;go_wp2_with fail;refine (HREAD.out _).mono ?_; rintro e w9 ⟨rfl, rfl⟩;go_wp2_with fail;refine bodyPost_ret (v := .tuple #[.agg #[.int .i64 5, .string ⟨#[]⟩, .int .i64 (wrap64 (-v)), .int .i64 (p : Nat)], .int .i64 (p + z : Nat), .bool (x == 0)]) (by simp [results, Tryz.results50, go_sem, c0, c1, c2, c3]) rfl ⟨HANS.out, ?_⟩;exact below_set4 (hb8.setCell (p := ⟨w.heap.size + 1, 2, none⟩) (show w.heap.size <= w.heap.size + 1 by omega) _) (Nat.le_refl _) _ _ _ _
set_option maxRecDepth 100000 in
set_option maxHeartbeats 8000000 in
theorem num_rune_bad2 (s : ByteArray) (p : Nat) (w : World) (hs : s.size <= 200000) (hp : p < s.size) (hd : digR (s[p].toNat : Int) = true) (h48 : s[p] = 48) (h1 : p + 1 < s.size) (h39 : s[p + 1] = 39) (hu : 1 < (s.extract (p + 2) s.size).size) (e0 : (((s.extract (p + 2) s.size)[0].toNat : Int) == 39) = false) (ci : Int) (n : Nat) (hn : n <= 200000) (hci : 0 <= ci /\ ci <= 1114111) (HDEC : Hid (∀ W, TabsT W -> Calls Tryz.prog 33 #[.string (s.extract (p + 2) s.size)] W fun e w' => e = .returned (.tuple #[.int .i32 ci, .int .i64 (n : Nat)]) /\ Below W.heap.size W w')) (hT : TabsT w) (hB : runeB (s.data.toList.drop (p + 2)) = (0, 0)) (hw : ((n : Int) <= 0) \/ ((0 : Int) < (n : Int) /\ (ci == 65533) = true /\ ((n : Int) == 1) = true) \/ ((0 : Int) < (n : Int) /\ (ci == 65533) = false /\ ci < 32) \/ ((0 : Int) < (n : Int) /\ (ci == 65533) = false /\ (32 : Int) <= ci /\ (ci != 39) = false) \/ ((0 : Int) < (n : Int) /\ (ci == 65533) = false /\ (32 : Int) <= ci /\ (ci != 39) = true /\ (ci != 92) = false)) :
 Calls Tryz.prog 50 #[.string s, .int .i64 (p : Nat)] w fun e w' => NumAns (s.data.toList.drop p) p e /\ Below w.heap.size w w' := by
 have hda := drop_at s p hp;obtain ⟨z, hz⟩ : ∃ z, spanL digR (s.data.toList.drop p) = z := ⟨_, rfl⟩;have hz0 : z ≠ 0 := by rw [<- hz, hda]; exact Nat.pos_iff_ne_zero.1 (spanL_pos _ _ _ hd)
 have hzl := spanL_le digR (s.data.toList.drop p);rw [hz, List.length_drop, size_listT] at hzl;have HRUN := Lib.hid (fun (W : World) (g : Nat) (h : Ks W g [3]) => by
  have := ref_run s p [3] g W hs (by omega) h (by decide) (by decide);rw [among3, hz] at this;exact this)
 have hsz : (⟨#[45]⟩ ++ s.extract p (p + z) : ByteArray).size <= maxLen := by
  rw [ByteArray.size_append, ByteArray.size_extract];show 1 + _ <= maxLen
  unfold maxLen; omega
 have hRD := fun W => ref_NumRead (⟨#[45]⟩ ++ s.extract p (p + z)) W hsz;rw [cat_part] at hRD;obtain ⟨v, hv⟩ : ∃ v, readV (45 :: (s.data.toList.drop p).take z) = v := ⟨_, rfl⟩;obtain ⟨x, hx⟩ : ∃ x, readE (45 :: (s.data.toList.drop p).take z) = x := ⟨_, rfl⟩;rw [hv, hx] at hRD;have HREAD := Lib.hid hRD;have HB := Lib.hid (fun o o2 : Obj => ((Below.refl w.heap.size w).alloc (Nat.le_refl _) o).alloc (by simp) o2);have HTAIL := Lib.hid (fun h => num_tail hz hz0 h hv hx);have hp0 : (0 : Int) <= (p : Int) := by omega
 have hp1 : (p : Int) < (s.size : Int) := by omega
 have hp2 : (p : Int) <= (p : Int) + (z : Int) := by omega
 have hp3 : (p : Int) + (z : Int) <= (s.size : Int) := by omega
 clear hRD hv hx hd hsz;have hb48 : ((s[p].toNat : Int) == 48) = true := (byte_is s[p] 48).trans (decide_eq_true h48);have hb39 : ((s[p + 1].toNat : Int) == 39) = true := (byte_is s[p + 1] 39).trans (decide_eq_true h39);have hq1 : (p : Int) + 1 < (s.size : Int) := by omega
 have hrn : runeNum (s.data.toList.drop p) = runeB (s.data.toList.drop (p + 2)) := by
  unfold runeNum;rw [hda, drop_at s (p + 1) h1, h48, h39, if_pos (by rfl)]; rfl
 have hu2 := hu;rw [ByteArray.size_extract] at hu2;have hx1 : (1 : Int) < ((s.size - (p + 2) : Nat) : Int) := by omega
 have HANS := Lib.hid (HTAIL.out (by rw [hrn, hB]));have HT := Lib.hid hT;have hq2 : (p : Int) + 2 <= (s.size : Int) := by omega
 obtain ⟨hci0, hci1⟩ := hci;clear hda h48 h39 hrn hB hT;rcases hw with o1 | ⟨o1, o2, o3⟩ | ⟨o1, o2, o3⟩ | ⟨o1, o2, o3, o4⟩ | ⟨o1, o2, o3, o4, o5⟩
 all_goals
  go_enter Tryz.func50, Tryz.ntmps50;go_wp2_with fail;generalize hW0 : ((w.alloc (.cells #[.int .i64 0, .string ⟨#[]⟩, .int .i64 0, .int .i64 0] 55)).alloc (.cells #[.int .i64 5, .string ⟨#[]⟩, .int .i64 0, .int .i64 (p : Nat)] 55)) = W0;have kz4 : W0.heap[w.heap.size]? = some (.cells #[.int .i64 0, .string ⟨#[]⟩, .int .i64 0, .int .i64 0] 55) := by rw [<- hW0]; exact past_at (new_at w _) _
  have kz7 : W0.heap[w.heap.size + 1]? = some (.cells #[.int .i64 5, .string ⟨#[]⟩, .int .i64 0, .int .i64 (p : Nat)] 55) := by rw [<- hW0, <- World.size_alloc w (.cells #[.int .i64 0, .string ⟨#[]⟩, .int .i64 0, .int .i64 0] 55)]; exact new_at _ _
  have hbW : Below w.heap.size w W0 := by rw [<- hW0]; exact HB.out _ _
  have hsz : W0.heap.size = w.heap.size + 1 + 1 := by rw [<- hW0]; simp
  refine (HDEC.out _ (HT.out.on hbW)).mono ?_; rintro e w1 ⟨rfl, hb1⟩;have hbW1 : Below w.heap.size w w1 := hbW.trans (hb1.mono hbW.size);replace kz4 := kept_at hb1 kz4
  replace kz7 := kept_at hb1 kz7
  replace hbW := hbW1
  clear hW0 hsz hb1 hbW1;go_wp2_with fail;refine (HRUN.out _ _ (ks_new w1 3 3)).mono ?_; rintro e w8 ⟨rfl, rfl⟩;have hz4 := past_at kz4 (.cells #[.int .i64 3] 3);have hz7 := past_at kz7 (.cells #[.int .i64 3] 3);have hb8 := hbW.alloc (by have := hbW.size; omega) (.cells #[.int .i64 3] 3);generalize w1.alloc (.cells #[.int .i64 3] 3) = w8 at *;obtain ⟨c0, c1, c2, c3, f0, f1, f2, f3⟩ := cells4 hz4;obtain ⟨d0, d1, d2, d3, g0, g1, g2, g3⟩ := cells4 hz7;have hl8 : w.heap.size + 1 < w8.heap.size := World.block_lt_of_cell? _ _ d0;have hl9 : w.heap.size < w8.heap.size := by omega
  clear hz4 hz7 kz4 kz7 hbW;go_wp2_with fail;refine (HREAD.out _).mono ?_; rintro e w9 ⟨rfl, rfl⟩;go_wp2_with fail;refine bodyPost_ret (v := .tuple #[.agg #[.int .i64 5, .string ⟨#[]⟩, .int .i64 (wrap64 (-v)), .int .i64 (p : Nat)], .int .i64 (p + z : Nat), .bool (x == 0)]) (by simp [results, Tryz.results50, go_sem, c0, c1, c2, c3]) rfl ⟨HANS.out, ?_⟩;exact below_set4 (hb8.setCell (p := ⟨w.heap.size + 1, 2, none⟩) (show w.heap.size <= w.heap.size + 1 by omega) _) (Nat.le_refl _) _ _ _ _
set_option maxRecDepth 100000 in
set_option maxHeartbeats 8000000 in
theorem num_rune_bad3 (s : ByteArray) (p : Nat) (w : World) (hs : s.size <= 200000) (hp : p < s.size) (hd : digR (s[p].toNat : Int) = true) (h48 : s[p] = 48) (h1 : p + 1 < s.size) (h39 : s[p + 1] = 39) (hu : 1 < (s.extract (p + 2) s.size).size) (e0 : (((s.extract (p + 2) s.size)[0].toNat : Int) == 39) = true) (e1 : (((s.extract (p + 2) s.size)[1].toNat : Int) == 39) = false) (ci : Int) (n : Nat) (hn : n <= 200000) (hci : 0 <= ci /\ ci <= 1114111) (HDEC : Hid (∀ W, TabsT W -> Calls Tryz.prog 33 #[.string (s.extract (p + 2) s.size)] W fun e w' => e = .returned (.tuple #[.int .i32 ci, .int .i64 (n : Nat)]) /\ Below W.heap.size W w')) (hT : TabsT w) (hB : runeB (s.data.toList.drop (p + 2)) = (0, 0)) (hw : ((n : Int) <= 0) \/ ((0 : Int) < (n : Int) /\ (ci == 65533) = true /\ ((n : Int) == 1) = true) \/ ((0 : Int) < (n : Int) /\ (ci == 65533) = false /\ ci < 32) \/ ((0 : Int) < (n : Int) /\ (ci == 65533) = false /\ (32 : Int) <= ci /\ (ci != 39) = false) \/ ((0 : Int) < (n : Int) /\ (ci == 65533) = false /\ (32 : Int) <= ci /\ (ci != 39) = true /\ (ci != 92) = false)) :
 Calls Tryz.prog 50 #[.string s, .int .i64 (p : Nat)] w fun e w' => NumAns (s.data.toList.drop p) p e /\ Below w.heap.size w w' := by
 have hda := drop_at s p hp;obtain ⟨z, hz⟩ : ∃ z, spanL digR (s.data.toList.drop p) = z := ⟨_, rfl⟩;have hz0 : z ≠ 0 := by rw [<- hz, hda]; exact Nat.pos_iff_ne_zero.1 (spanL_pos _ _ _ hd)
 have hzl := spanL_le digR (s.data.toList.drop p);rw [hz, List.length_drop, size_listT] at hzl;have HRUN := Lib.hid (fun (W : World) (g : Nat) (h : Ks W g [3]) => by
  have := ref_run s p [3] g W hs (by omega) h (by decide) (by decide);rw [among3, hz] at this;exact this)
 have hsz : (⟨#[45]⟩ ++ s.extract p (p + z) : ByteArray).size <= maxLen := by
  rw [ByteArray.size_append, ByteArray.size_extract];show 1 + _ <= maxLen
  unfold maxLen; omega
 have hRD := fun W => ref_NumRead (⟨#[45]⟩ ++ s.extract p (p + z)) W hsz;rw [cat_part] at hRD;obtain ⟨v, hv⟩ : ∃ v, readV (45 :: (s.data.toList.drop p).take z) = v := ⟨_, rfl⟩;obtain ⟨x, hx⟩ : ∃ x, readE (45 :: (s.data.toList.drop p).take z) = x := ⟨_, rfl⟩;rw [hv, hx] at hRD;have HREAD := Lib.hid hRD;have HB := Lib.hid (fun o o2 : Obj => ((Below.refl w.heap.size w).alloc (Nat.le_refl _) o).alloc (by simp) o2);have HTAIL := Lib.hid (fun h => num_tail hz hz0 h hv hx);have hp0 : (0 : Int) <= (p : Int) := by omega
 have hp1 : (p : Int) < (s.size : Int) := by omega
 have hp2 : (p : Int) <= (p : Int) + (z : Int) := by omega
 have hp3 : (p : Int) + (z : Int) <= (s.size : Int) := by omega
 clear hRD hv hx hd hsz;have hb48 : ((s[p].toNat : Int) == 48) = true := (byte_is s[p] 48).trans (decide_eq_true h48);have hb39 : ((s[p + 1].toNat : Int) == 39) = true := (byte_is s[p + 1] 39).trans (decide_eq_true h39);have hq1 : (p : Int) + 1 < (s.size : Int) := by omega
 have hrn : runeNum (s.data.toList.drop p) = runeB (s.data.toList.drop (p + 2)) := by
  unfold runeNum;rw [hda, drop_at s (p + 1) h1, h48, h39, if_pos (by rfl)]; rfl
 have hu2 := hu;rw [ByteArray.size_extract] at hu2;have hx1 : (1 : Int) < ((s.size - (p + 2) : Nat) : Int) := by omega
 have HANS := Lib.hid (HTAIL.out (by rw [hrn, hB]));have HT := Lib.hid hT;have hq2 : (p : Int) + 2 <= (s.size : Int) := by omega
 obtain ⟨hci0, hci1⟩ := hci;clear hda h48 h39 hrn hB hT;rcases hw with o1 | ⟨o1, o2, o3⟩ | ⟨o1, o2, o3⟩ | ⟨o1, o2, o3, o4⟩ | ⟨o1, o2, o3, o4, o5⟩
 all_goals
  go_enter Tryz.func50, Tryz.ntmps50;go_wp2_with fail;generalize hW0 : ((w.alloc (.cells #[.int .i64 0, .string ⟨#[]⟩, .int .i64 0, .int .i64 0] 55)).alloc (.cells #[.int .i64 5, .string ⟨#[]⟩, .int .i64 0, .int .i64 (p : Nat)] 55)) = W0;have kz4 : W0.heap[w.heap.size]? = some (.cells #[.int .i64 0, .string ⟨#[]⟩, .int .i64 0, .int .i64 0] 55) := by rw [<- hW0]; exact past_at (new_at w _) _
  have kz7 : W0.heap[w.heap.size + 1]? = some (.cells #[.int .i64 5, .string ⟨#[]⟩, .int .i64 0, .int .i64 (p : Nat)] 55) := by rw [<- hW0, <- World.size_alloc w (.cells #[.int .i64 0, .string ⟨#[]⟩, .int .i64 0, .int .i64 0] 55)]; exact new_at _ _
  have hbW : Below w.heap.size w W0 := by rw [<- hW0]; exact HB.out _ _
  have hsz : W0.heap.size = w.heap.size + 1 + 1 := by rw [<- hW0]; simp
  refine (HDEC.out _ (HT.out.on hbW)).mono ?_; rintro e w1 ⟨rfl, hb1⟩;have hbW1 : Below w.heap.size w w1 := hbW.trans (hb1.mono hbW.size);replace kz4 := kept_at hb1 kz4
  replace kz7 := kept_at hb1 kz7
  replace hbW := hbW1
  clear hW0 hsz hb1 hbW1;go_wp2_with fail;refine (HRUN.out _ _ (ks_new w1 3 3)).mono ?_; rintro e w8 ⟨rfl, rfl⟩;have hz4 := past_at kz4 (.cells #[.int .i64 3] 3);have hz7 := past_at kz7 (.cells #[.int .i64 3] 3);have hb8 := hbW.alloc (by have := hbW.size; omega) (.cells #[.int .i64 3] 3);generalize w1.alloc (.cells #[.int .i64 3] 3) = w8 at *;obtain ⟨c0, c1, c2, c3, f0, f1, f2, f3⟩ := cells4 hz4;obtain ⟨d0, d1, d2, d3, g0, g1, g2, g3⟩ := cells4 hz7;have hl8 : w.heap.size + 1 < w8.heap.size := World.block_lt_of_cell? _ _ d0;have hl9 : w.heap.size < w8.heap.size := by omega
  clear hz4 hz7 kz4 kz7 hbW;go_wp2_with fail;refine (HREAD.out _).mono ?_; rintro e w9 ⟨rfl, rfl⟩;go_wp2_with fail;refine bodyPost_ret (v := .tuple #[.agg #[.int .i64 5, .string ⟨#[]⟩, .int .i64 (wrap64 (-v)), .int .i64 (p : Nat)], .int .i64 (p + z : Nat), .bool (x == 0)]) (by simp [results, Tryz.results50, go_sem, c0, c1, c2, c3]) rfl ⟨HANS.out, ?_⟩;exact below_set4 (hb8.setCell (p := ⟨w.heap.size + 1, 2, none⟩) (show w.heap.size <= w.heap.size + 1 by omega) _) (Nat.le_refl _) _ _ _ _
end Go.Proofs.YtdjejbgokamjeaaGreatDoor
