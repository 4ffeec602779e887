/-
  The walk of the law ArithSums.
-/
import Derived.Test.YtpmohibhdnmjlaaAriL
namespace Go.Proofs.Ytpmohibhdnmjlaa
open Go.RowKit

theorem chk_zero (z : Int) (h : chkE z ≠ 0) : chkV z = 0 := by
  unfold chkE at h; unfold chkV
  by_cases g : -9223372036854775808 ≤ z ∧ z ≤ 9223372036854775807
  · rw [if_pos g] at h; exact absurd rfl h
  · exact if_neg g
theorem quo_zero (x y : Int) (h : quoE x y ≠ 0) : quoV x y = 0 := by
  unfold quoE at h; unfold quoV
  by_cases g : y = 0
  · exact if_pos g
  · rw [if_neg g] at h; rw [if_neg g]; exact chk_zero _ h
theorem rem_zero (x y : Int) (h : zeroE y ≠ 0) : remV x y = 0 := by
  unfold zeroE at h; unfold remV
  by_cases g : y = 0
  · exact if_pos g
  · rw [if_neg g] at h; exact absurd rfl h
theorem mod_zero (x y : Int) (h : zeroE y ≠ 0) : modV x y = 0 := by
  unfold zeroE at h; unfold modV
  by_cases g : y = 0
  · exact if_pos g
  · rw [if_neg g] at h; exact absurd rfl h
theorem ev_sum (s : ByteArray) (x y : Int) (h : isTwo s = true) : evD [] 60 (aC s (aI x) (aI y)) = tellV (twoV s x y) := by
  rw [ev_aC 59 _ _ _ h, ev_aI 58, ev_aI 58, if_neg (by simp), if_neg (by simp)]
theorem sum_ways {V E : Int} (h : E ≠ 0 → V = 0) : ∃ e, tellV (V, E) = (V, e) ∧ ((E = 0 ∧ e = 0) ∨ (E ≠ 0 ∧ e = 112)) := by
  by_cases g : E = 0
  · subst g; exact ⟨0, if_neg (by simp), .inl ⟨rfl, rfl⟩⟩
  · refine ⟨112, ?_, .inr ⟨g, rfl⟩⟩
    rw [h g]; exact if_pos g
theorem aI_two (x y : Int) : 1 + ((aI x).size + ((aI y).size + 0)) ≤ 1000000 := by show 1 + (1 + (1 + 0)) ≤ 1000000; decide
theorem two_add (x y : Int) : twoV ⟨#[43]⟩ x y = (chkV (x + y), chkE (x + y)) := by unfold twoV; (repeat rw [ByteArray.toList_eq]); rfl
theorem is_add : isTwo ⟨#[43]⟩ = true := by unfold isTwo; rw [ByteArray.toList_eq]; rfl
theorem sum_add (x y : Int) : ∃ V E e : Int, chkV (x + y) = V ∧ chkE (x + y) = E ∧ evD [] 60 (aC ⟨#[43]⟩ (aI x) (aI y)) = (V, e) ∧ ((E = 0 ∧ e = 0) ∨ (E ≠ 0 ∧ e = 112)) := by
  obtain ⟨e, h, g⟩ := sum_ways (chk_zero (x + y))
  exact ⟨_, _, e, rfl, rfl, by rw [ev_sum _ _ _ is_add, two_add, h], g⟩
theorem two_sub (x y : Int) : twoV ⟨#[45]⟩ x y = (chkV (x - y), chkE (x - y)) := by unfold twoV; (repeat rw [ByteArray.toList_eq]); rfl
theorem is_sub : isTwo ⟨#[45]⟩ = true := by unfold isTwo; rw [ByteArray.toList_eq]; rfl
theorem sum_sub (x y : Int) : ∃ V E e : Int, chkV (x - y) = V ∧ chkE (x - y) = E ∧ evD [] 60 (aC ⟨#[45]⟩ (aI x) (aI y)) = (V, e) ∧ ((E = 0 ∧ e = 0) ∨ (E ≠ 0 ∧ e = 112)) := by
  obtain ⟨e, h, g⟩ := sum_ways (chk_zero (x - y))
  exact ⟨_, _, e, rfl, rfl, by rw [ev_sum _ _ _ is_sub, two_sub, h], g⟩
theorem two_mul (x y : Int) : twoV ⟨#[42]⟩ x y = (chkV (x * y), chkE (x * y)) := by unfold twoV; (repeat rw [ByteArray.toList_eq]); rfl
theorem is_mul : isTwo ⟨#[42]⟩ = true := by unfold isTwo; rw [ByteArray.toList_eq]; rfl
theorem sum_mul (x y : Int) : ∃ V E e : Int, chkV (x * y) = V ∧ chkE (x * y) = E ∧ evD [] 60 (aC ⟨#[42]⟩ (aI x) (aI y)) = (V, e) ∧ ((E = 0 ∧ e = 0) ∨ (E ≠ 0 ∧ e = 112)) := by
  obtain ⟨e, h, g⟩ := sum_ways (chk_zero (x * y))
  exact ⟨_, _, e, rfl, rfl, by rw [ev_sum _ _ _ is_mul, two_mul, h], g⟩
theorem two_quo (x y : Int) : twoV ⟨#[47, 47]⟩ x y = (quoV x y, quoE x y) := by unfold twoV; (repeat rw [ByteArray.toList_eq]); rfl
theorem is_quo : isTwo ⟨#[47, 47]⟩ = true := by unfold isTwo; rw [ByteArray.toList_eq]; rfl
theorem sum_quo (x y : Int) : ∃ V E e : Int, quoV x y = V ∧ quoE x y = E ∧ evD [] 60 (aC ⟨#[47, 47]⟩ (aI x) (aI y)) = (V, e) ∧ ((E = 0 ∧ e = 0) ∨ (E ≠ 0 ∧ e = 112)) := by
  obtain ⟨e, h, g⟩ := sum_ways (quo_zero x y)
  exact ⟨_, _, e, rfl, rfl, by rw [ev_sum _ _ _ is_quo, two_quo, h], g⟩
theorem two_rem (x y : Int) : twoV ⟨#[114, 101, 109]⟩ x y = (remV x y, zeroE y) := by unfold twoV; (repeat rw [ByteArray.toList_eq]); rfl
theorem is_rem : isTwo ⟨#[114, 101, 109]⟩ = true := by unfold isTwo; rw [ByteArray.toList_eq]; rfl
theorem sum_rem (x y : Int) : ∃ V E e : Int, remV x y = V ∧ zeroE y = E ∧ evD [] 60 (aC ⟨#[114, 101, 109]⟩ (aI x) (aI y)) = (V, e) ∧ ((E = 0 ∧ e = 0) ∨ (E ≠ 0 ∧ e = 112)) := by
  obtain ⟨e, h, g⟩ := sum_ways (rem_zero x y)
  exact ⟨_, _, e, rfl, rfl, by rw [ev_sum _ _ _ is_rem, two_rem, h], g⟩
theorem two_mod (x y : Int) : twoV ⟨#[109, 111, 100]⟩ x y = (modV x y, zeroE y) := by unfold twoV; (repeat rw [ByteArray.toList_eq]); rfl
theorem is_mod : isTwo ⟨#[109, 111, 100]⟩ = true := by unfold isTwo; rw [ByteArray.toList_eq]; rfl
theorem sum_mod (x y : Int) : ∃ V E e : Int, modV x y = V ∧ zeroE y = E ∧ evD [] 60 (aC ⟨#[109, 111, 100]⟩ (aI x) (aI y)) = (V, e) ∧ ((E = 0 ∧ e = 0) ∨ (E ≠ 0 ∧ e = 112)) := by
  obtain ⟨e, h, g⟩ := sum_ways (mod_zero x y)
  exact ⟨_, _, e, rfl, rfl, by rw [ev_sum _ _ _ is_mod, two_mod, h], g⟩

set_option maxRecDepth 100000 in
set_option maxHeartbeats 16000000 in
theorem walk_ArithSums (x y : Int) (w : World) (hx : In64 x) (hy : In64 y) :
    Calls Try.prog 6 #[.int .i64 x, .int .i64 y] w fun e w' => e = .returned (.bool true) ∧ Below w.heap.size w w' := by
  have i0 : ∀ w, (Instr.index 38 (.agg #[.string ⟨#[43]⟩, .string ⟨#[45]⟩, .string ⟨#[42]⟩, .string ⟨#[47, 47]⟩, .string ⟨#[114, 101, 109]⟩, .string ⟨#[109, 111, 100]⟩]) (.int .i64 0)).run Try.prog w = .ok (.string ⟨#[43]⟩) w := fun _ => by kernel_rfl
  have i1 : ∀ w, (Instr.index 38 (.agg #[.string ⟨#[43]⟩, .string ⟨#[45]⟩, .string ⟨#[42]⟩, .string ⟨#[47, 47]⟩, .string ⟨#[114, 101, 109]⟩, .string ⟨#[109, 111, 100]⟩]) (.int .i64 1)).run Try.prog w = .ok (.string ⟨#[45]⟩) w := fun _ => by kernel_rfl
  have i2 : ∀ w, (Instr.index 38 (.agg #[.string ⟨#[43]⟩, .string ⟨#[45]⟩, .string ⟨#[42]⟩, .string ⟨#[47, 47]⟩, .string ⟨#[114, 101, 109]⟩, .string ⟨#[109, 111, 100]⟩]) (.int .i64 2)).run Try.prog w = .ok (.string ⟨#[42]⟩) w := fun _ => by kernel_rfl
  have i3 : ∀ w, (Instr.index 38 (.agg #[.string ⟨#[43]⟩, .string ⟨#[45]⟩, .string ⟨#[42]⟩, .string ⟨#[47, 47]⟩, .string ⟨#[114, 101, 109]⟩, .string ⟨#[109, 111, 100]⟩]) (.int .i64 3)).run Try.prog w = .ok (.string ⟨#[47, 47]⟩) w := fun _ => by kernel_rfl
  have i4 : ∀ w, (Instr.index 38 (.agg #[.string ⟨#[43]⟩, .string ⟨#[45]⟩, .string ⟨#[42]⟩, .string ⟨#[47, 47]⟩, .string ⟨#[114, 101, 109]⟩, .string ⟨#[109, 111, 100]⟩]) (.int .i64 4)).run Try.prog w = .ok (.string ⟨#[114, 101, 109]⟩) w := fun _ => by kernel_rfl
  have i5 : ∀ w, (Instr.index 38 (.agg #[.string ⟨#[43]⟩, .string ⟨#[45]⟩, .string ⟨#[42]⟩, .string ⟨#[47, 47]⟩, .string ⟨#[114, 101, 109]⟩, .string ⟨#[109, 111, 100]⟩]) (.int .i64 5)).run Try.prog w = .ok (.string ⟨#[109, 111, 100]⟩) w := fun _ => by kernel_rfl
  have HL := Lib.hid (fun W => ari_live W)
  have HX := Lib.hid (fun W => aI_in W hx)
  have HY := Lib.hid (fun W => aI_in W hy)
  obtain ⟨V_add, E_add, e_add, v_add, f_add, g_add, s_add⟩ := sum_add x y
  have H_add := Lib.hid (fun W => ref_Add x y W hx hy)
  rw [v_add, f_add] at H_add
  have G_add := Lib.hid (fun ad W h => ua_two ⟨#[43]⟩ (aI x) (aI y) (by unfold maxLen; decide) (aI_two x y) ad _ g_add W h)
  replace s_add := Lib.hid s_add
  clear g_add v_add f_add
  obtain ⟨V_sub, E_sub, e_sub, v_sub, f_sub, g_sub, s_sub⟩ := sum_sub x y
  have H_sub := Lib.hid (fun W => ref_Sub x y W hx hy)
  rw [v_sub, f_sub] at H_sub
  have G_sub := Lib.hid (fun ad W h => ua_two ⟨#[45]⟩ (aI x) (aI y) (by unfold maxLen; decide) (aI_two x y) ad _ g_sub W h)
  replace s_sub := Lib.hid s_sub
  clear g_sub v_sub f_sub
  obtain ⟨V_mul, E_mul, e_mul, v_mul, f_mul, g_mul, s_mul⟩ := sum_mul x y
  have H_mul := Lib.hid (fun W => ref_Mul x y W hx hy)
  rw [v_mul, f_mul] at H_mul
  have G_mul := Lib.hid (fun ad W h => ua_two ⟨#[42]⟩ (aI x) (aI y) (by unfold maxLen; decide) (aI_two x y) ad _ g_mul W h)
  replace s_mul := Lib.hid s_mul
  clear g_mul v_mul f_mul
  obtain ⟨V_quo, E_quo, e_quo, v_quo, f_quo, g_quo, s_quo⟩ := sum_quo x y
  have H_quo := Lib.hid (fun W => ref_Quo x y W hx hy)
  rw [v_quo, f_quo] at H_quo
  have G_quo := Lib.hid (fun ad W h => ua_two ⟨#[47, 47]⟩ (aI x) (aI y) (by unfold maxLen; decide) (aI_two x y) ad _ g_quo W h)
  replace s_quo := Lib.hid s_quo
  clear g_quo v_quo f_quo
  obtain ⟨V_rem, E_rem, e_rem, v_rem, f_rem, g_rem, s_rem⟩ := sum_rem x y
  have H_rem := Lib.hid (fun W => ref_Rem x y W hx hy)
  rw [v_rem, f_rem] at H_rem
  have G_rem := Lib.hid (fun ad W h => ua_two ⟨#[114, 101, 109]⟩ (aI x) (aI y) (by unfold maxLen; decide) (aI_two x y) ad _ g_rem W h)
  replace s_rem := Lib.hid s_rem
  clear g_rem v_rem f_rem
  obtain ⟨V_mod, E_mod, e_mod, v_mod, f_mod, g_mod, s_mod⟩ := sum_mod x y
  have H_mod := Lib.hid (fun W => ref_Mod x y W hx hy)
  rw [v_mod, f_mod] at H_mod
  have G_mod := Lib.hid (fun ad W h => ua_two ⟨#[109, 111, 100]⟩ (aI x) (aI y) (by unfold maxLen; decide) (aI_two x y) ad _ g_mod W h)
  replace s_mod := Lib.hid s_mod
  clear g_mod v_mod f_mod
  clear hx hy
  dsimp only at G_add G_sub G_mul G_quo G_rem G_mod
  go_enter Try.func6, Try.ntmps6
  go_wp2_with fail
  refine (HL.out _).mono ?_; rintro e w1 ⟨rfl, hb⟩
  clear HL
  go_wp2_with fail
  go_loopw [14] (fun i wr => ∃ k : Nat, k ≤ 6 ∧ i = .int .i64 k ∧ Below w.heap.size w wr) (fun i _ => 6 - (intOf i).toNat)
  case atStart => exact ⟨0, Nat.zero_le _, rfl, hb⟩
  case round =>
    obtain ⟨k, hk, rfl, hbd⟩ := hrel
    rcases (show k = 0 ∨ k = 1 ∨ k = 2 ∨ k = 3 ∨ k = 4 ∨ k = 5 ∨ k = 6 from by omega) with rfl | rfl | rfl | rfl | rfl | rfl | rfl
    · clear hk
      go_wp2_with fail
      refine (ref_Int1 _ _).mono ?_; rintro e wa ⟨rfl, ha⟩
      have h1 := hbd.trans (ha.mono hbd.size)
      clear ha hbd
      go_wp2_with fail
      refine (ref_Int1 _ _).mono ?_; rintro e wb ⟨rfl, ha⟩
      have h2 := h1.trans (ha.mono h1.size)
      clear ha h1
      go_wp2_with fail
      have HR := Lib.hid (rowA2 (HX.out wb) (HY.out wb) #[.int .i64 3, .string ⟨#[]⟩, .int .i64 x, .slice none 0 0, .int .i64 3, .string ⟨#[]⟩, .int .i64 y, .slice none 0 0] rfl)
      have h3 := h2.alloc h2.size (.cells #[.int .i64 3, .string ⟨#[]⟩, .int .i64 x, .slice none 0 0, .int .i64 3, .string ⟨#[]⟩, .int .i64 y, .slice none 0 0] 25)
      generalize wb.alloc _ = wc at *
      refine (ref_Comp1 _ _ _ _ _).mono ?_; rintro e wd ⟨rfl, ha⟩
      have HR1 := Lib.hid (HR.out.on ha)
      have h4 := h3.trans (ha.mono h3.size)
      clear ha h2 h3 HR
      go_wp2_with fail
      refine (G_add.out _ _ HR1.out).mono ?_; rintro e we ⟨rfl, ha⟩
      have h5 := h4.trans (ha.mono h4.size)
      clear ha h4 HR1
      go_wp2_with fail
      refine (H_add.out _).mono ?_; rintro e wf ⟨rfl, rfl⟩
      rcases s_add.out with ⟨rfl, rfl⟩ | ⟨hE, rfl⟩
      · go_wp2_with fail
        go_roundw
        case rel => exact ⟨1, by decide, rfl, h5⟩
        case measure => decide
      · have n1 : (E_add == 0) = false := beq_eq_false_iff_ne.2 hE
        clear hE
        go_wp2_with fail
        go_roundw
        case rel => exact ⟨1, by decide, rfl, h5⟩
        case measure => decide
    · clear hk
      go_wp2_with fail
      refine (ref_Int1 _ _).mono ?_; rintro e wa ⟨rfl, ha⟩
      have h1 := hbd.trans (ha.mono hbd.size)
      clear ha hbd
      go_wp2_with fail
      refine (ref_Int1 _ _).mono ?_; rintro e wb ⟨rfl, ha⟩
      have h2 := h1.trans (ha.mono h1.size)
      clear ha h1
      go_wp2_with fail
      have HR := Lib.hid (rowA2 (HX.out wb) (HY.out wb) #[.int .i64 3, .string ⟨#[]⟩, .int .i64 x, .slice none 0 0, .int .i64 3, .string ⟨#[]⟩, .int .i64 y, .slice none 0 0] rfl)
      have h3 := h2.alloc h2.size (.cells #[.int .i64 3, .string ⟨#[]⟩, .int .i64 x, .slice none 0 0, .int .i64 3, .string ⟨#[]⟩, .int .i64 y, .slice none 0 0] 25)
      generalize wb.alloc _ = wc at *
      refine (ref_Comp1 _ _ _ _ _).mono ?_; rintro e wd ⟨rfl, ha⟩
      have HR1 := Lib.hid (HR.out.on ha)
      have h4 := h3.trans (ha.mono h3.size)
      clear ha h2 h3 HR
      go_wp2_with fail
      refine (G_sub.out _ _ HR1.out).mono ?_; rintro e we ⟨rfl, ha⟩
      have h5 := h4.trans (ha.mono h4.size)
      clear ha h4 HR1
      go_wp2_with fail
      refine (H_sub.out _).mono ?_; rintro e wf ⟨rfl, rfl⟩
      rcases s_sub.out with ⟨rfl, rfl⟩ | ⟨hE, rfl⟩
      · go_wp2_with fail
        go_roundw
        case rel => exact ⟨2, by decide, rfl, h5⟩
        case measure => decide
      · have n1 : (E_sub == 0) = false := beq_eq_false_iff_ne.2 hE
        clear hE
        go_wp2_with fail
        go_roundw
        case rel => exact ⟨2, by decide, rfl, h5⟩
        case measure => decide
    · clear hk
      go_wp2_with fail
      refine (ref_Int1 _ _).mono ?_; rintro e wa ⟨rfl, ha⟩
      have h1 := hbd.trans (ha.mono hbd.size)
      clear ha hbd
      go_wp2_with fail
      refine (ref_Int1 _ _).mono ?_; rintro e wb ⟨rfl, ha⟩
      have h2 := h1.trans (ha.mono h1.size)
      clear ha h1
      go_wp2_with fail
      have HR := Lib.hid (rowA2 (HX.out wb) (HY.out wb) #[.int .i64 3, .string ⟨#[]⟩, .int .i64 x, .slice none 0 0, .int .i64 3, .string ⟨#[]⟩, .int .i64 y, .slice none 0 0] rfl)
      have h3 := h2.alloc h2.size (.cells #[.int .i64 3, .string ⟨#[]⟩, .int .i64 x, .slice none 0 0, .int .i64 3, .string ⟨#[]⟩, .int .i64 y, .slice none 0 0] 25)
      generalize wb.alloc _ = wc at *
      refine (ref_Comp1 _ _ _ _ _).mono ?_; rintro e wd ⟨rfl, ha⟩
      have HR1 := Lib.hid (HR.out.on ha)
      have h4 := h3.trans (ha.mono h3.size)
      clear ha h2 h3 HR
      go_wp2_with fail
      refine (G_mul.out _ _ HR1.out).mono ?_; rintro e we ⟨rfl, ha⟩
      have h5 := h4.trans (ha.mono h4.size)
      clear ha h4 HR1
      go_wp2_with fail
      refine (H_mul.out _).mono ?_; rintro e wf ⟨rfl, rfl⟩
      rcases s_mul.out with ⟨rfl, rfl⟩ | ⟨hE, rfl⟩
      · go_wp2_with fail
        go_roundw
        case rel => exact ⟨3, by decide, rfl, h5⟩
        case measure => decide
      · have n1 : (E_mul == 0) = false := beq_eq_false_iff_ne.2 hE
        clear hE
        go_wp2_with fail
        go_roundw
        case rel => exact ⟨3, by decide, rfl, h5⟩
        case measure => decide
    · clear hk
      go_wp2_with fail
      refine (ref_Int1 _ _).mono ?_; rintro e wa ⟨rfl, ha⟩
      have h1 := hbd.trans (ha.mono hbd.size)
      clear ha hbd
      go_wp2_with fail
      refine (ref_Int1 _ _).mono ?_; rintro e wb ⟨rfl, ha⟩
      have h2 := h1.trans (ha.mono h1.size)
      clear ha h1
      go_wp2_with fail
      have HR := Lib.hid (rowA2 (HX.out wb) (HY.out wb) #[.int .i64 3, .string ⟨#[]⟩, .int .i64 x, .slice none 0 0, .int .i64 3, .string ⟨#[]⟩, .int .i64 y, .slice none 0 0] rfl)
      have h3 := h2.alloc h2.size (.cells #[.int .i64 3, .string ⟨#[]⟩, .int .i64 x, .slice none 0 0, .int .i64 3, .string ⟨#[]⟩, .int .i64 y, .slice none 0 0] 25)
      generalize wb.alloc _ = wc at *
      refine (ref_Comp1 _ _ _ _ _).mono ?_; rintro e wd ⟨rfl, ha⟩
      have HR1 := Lib.hid (HR.out.on ha)
      have h4 := h3.trans (ha.mono h3.size)
      clear ha h2 h3 HR
      go_wp2_with fail
      refine (G_quo.out _ _ HR1.out).mono ?_; rintro e we ⟨rfl, ha⟩
      have h5 := h4.trans (ha.mono h4.size)
      clear ha h4 HR1
      go_wp2_with fail
      refine (H_quo.out _).mono ?_; rintro e wf ⟨rfl, rfl⟩
      rcases s_quo.out with ⟨rfl, rfl⟩ | ⟨hE, rfl⟩
      · go_wp2_with fail
        go_roundw
        case rel => exact ⟨4, by decide, rfl, h5⟩
        case measure => decide
      · have n1 : (E_quo == 0) = false := beq_eq_false_iff_ne.2 hE
        clear hE
        go_wp2_with fail
        go_roundw
        case rel => exact ⟨4, by decide, rfl, h5⟩
        case measure => decide
    · clear hk
      go_wp2_with fail
      refine (ref_Int1 _ _).mono ?_; rintro e wa ⟨rfl, ha⟩
      have h1 := hbd.trans (ha.mono hbd.size)
      clear ha hbd
      go_wp2_with fail
      refine (ref_Int1 _ _).mono ?_; rintro e wb ⟨rfl, ha⟩
      have h2 := h1.trans (ha.mono h1.size)
      clear ha h1
      go_wp2_with fail
      have HR := Lib.hid (rowA2 (HX.out wb) (HY.out wb) #[.int .i64 3, .string ⟨#[]⟩, .int .i64 x, .slice none 0 0, .int .i64 3, .string ⟨#[]⟩, .int .i64 y, .slice none 0 0] rfl)
      have h3 := h2.alloc h2.size (.cells #[.int .i64 3, .string ⟨#[]⟩, .int .i64 x, .slice none 0 0, .int .i64 3, .string ⟨#[]⟩, .int .i64 y, .slice none 0 0] 25)
      generalize wb.alloc _ = wc at *
      refine (ref_Comp1 _ _ _ _ _).mono ?_; rintro e wd ⟨rfl, ha⟩
      have HR1 := Lib.hid (HR.out.on ha)
      have h4 := h3.trans (ha.mono h3.size)
      clear ha h2 h3 HR
      go_wp2_with fail
      refine (G_rem.out _ _ HR1.out).mono ?_; rintro e we ⟨rfl, ha⟩
      have h5 := h4.trans (ha.mono h4.size)
      clear ha h4 HR1
      go_wp2_with fail
      refine (H_rem.out _).mono ?_; rintro e wf ⟨rfl, rfl⟩
      rcases s_rem.out with ⟨rfl, rfl⟩ | ⟨hE, rfl⟩
      · go_wp2_with fail
        go_roundw
        case rel => exact ⟨5, by decide, rfl, h5⟩
        case measure => decide
      · have n1 : (E_rem == 0) = false := beq_eq_false_iff_ne.2 hE
        clear hE
        go_wp2_with fail
        go_roundw
        case rel => exact ⟨5, by decide, rfl, h5⟩
        case measure => decide
    · clear hk
      go_wp2_with fail
      refine (ref_Int1 _ _).mono ?_; rintro e wa ⟨rfl, ha⟩
      have h1 := hbd.trans (ha.mono hbd.size)
      clear ha hbd
      go_wp2_with fail
      refine (ref_Int1 _ _).mono ?_; rintro e wb ⟨rfl, ha⟩
      have h2 := h1.trans (ha.mono h1.size)
      clear ha h1
      go_wp2_with fail
      have HR := Lib.hid (rowA2 (HX.out wb) (HY.out wb) #[.int .i64 3, .string ⟨#[]⟩, .int .i64 x, .slice none 0 0, .int .i64 3, .string ⟨#[]⟩, .int .i64 y, .slice none 0 0] rfl)
      have h3 := h2.alloc h2.size (.cells #[.int .i64 3, .string ⟨#[]⟩, .int .i64 x, .slice none 0 0, .int .i64 3, .string ⟨#[]⟩, .int .i64 y, .slice none 0 0] 25)
      generalize wb.alloc _ = wc at *
      refine (ref_Comp1 _ _ _ _ _).mono ?_; rintro e wd ⟨rfl, ha⟩
      have HR1 := Lib.hid (HR.out.on ha)
      have h4 := h3.trans (ha.mono h3.size)
      clear ha h2 h3 HR
      go_wp2_with fail
      refine (G_mod.out _ _ HR1.out).mono ?_; rintro e we ⟨rfl, ha⟩
      have h5 := h4.trans (ha.mono h4.size)
      clear ha h4 HR1
      go_wp2_with fail
      refine (H_mod.out _).mono ?_; rintro e wf ⟨rfl, rfl⟩
      rcases s_mod.out with ⟨rfl, rfl⟩ | ⟨hE, rfl⟩
      · go_wp2_with fail
        go_roundw
        case rel => exact ⟨6, by decide, rfl, h5⟩
        case measure => decide
      · have n1 : (E_mod == 0) = false := beq_eq_false_iff_ne.2 hE
        clear hE
        go_wp2_with fail
        go_roundw
        case rel => exact ⟨6, by decide, rfl, h5⟩
        case measure => decide
    · clear hk
      go_wp2_with fail
      go_ret
      exact ⟨rfl, hbd⟩
end Go.Proofs.Ytpmohibhdnmjlaa
