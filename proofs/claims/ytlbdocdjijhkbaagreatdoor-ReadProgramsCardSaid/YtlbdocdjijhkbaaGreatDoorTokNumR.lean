import Derived.Test.YtlbdocdjijhkbaaGreatDoorNumA
namespace Go.Proofs.YtlbdocdjijhkbaaGreatDoor
open Go.RowKit
theorem foldl_ge : ∀ (q : List UInt8) (n : Int), 0 <= n -> q.all isDig = true -> n <= q.foldl (fun n c => 10 * n + ((c.toNat : Int) - 48)) n
 | [], n, _, _ => Int.le_refl n
 | c :: t, n, h, ha => by
  rw [List.all_cons, Bool.and_eq_true] at ha;have hc := (isDig_iff c).1 ha.1;have := foldl_ge t (10 * n + ((c.toNat : Int) - 48)) (by omega) ha.2;show n <= t.foldl _ (10 * n + ((c.toNat : Int) - 48))
  omega
theorem val_prefix (l : List UInt8) (k : Nat) (h : l.all isDig = true) : val (l.take k) <= val l := by
 have e : l = l.take k ++ l.drop k := (List.take_append_drop k l).symm;have h1 : (l.take k).all isDig = true := by rw [e, List.all_append, Bool.and_eq_true] at h; exact h.1
 have h2 : (l.drop k).all isDig = true := by rw [e, List.all_append, Bool.and_eq_true] at h; exact h.2
 have h3 := foldl_ge (l.drop k) (val (l.take k)) (val_nonneg h1) h2;have h4 : val (l.take k ++ l.drop k) = (l.drop k).foldl (fun n c => 10 * n + ((c.toNat : Int) - 48)) (val (l.take k)) := by unfold val; rw [List.foldl_append]
 rw [<- e] at h4;omega
theorem all_take (l : List UInt8) (k : Nat) (h : l.all isDig = true) : (l.take k).all isDig = true := by
 rw [<- List.take_append_drop k l, List.all_append, Bool.and_eq_true] at h;exact h.1
theorem over_of {l d : List UInt8} (k : Nat) (hd : body l = d) (h0 : d ≠ []) (h : d.all isDig = true) (ho : ¬ In64 (-(val (d.take k)))) : readV l = 0 /\ readE l = 10 := by
 subst hd;have h1 := val_prefix (body l) k h;have h2 := val_nonneg (all_take (body l) k h);have hn : ¬ In64 (readN l) := by
  unfold readN In64 at *;split <;> omega
 rw [(read_good h0 h).1, (read_good h0 h).2, chkV_out hn, chkE_out hn];exact ⟨rfl, rfl⟩
theorem neg_of {l d : List UInt8} {m : Int} (hd : body l = d) (h0 : d ≠ []) (h : d.all isDig = true) (hn : neg l = true) (hm : m = -(val d)) (hi : In64 m) : readV l = m /\ readE l = 0 := by
 subst hd;exact read_neg h0 ⟨h, .inl ⟨rfl, hm, hi⟩⟩ hn
theorem pos_of {l d : List UInt8} {m : Int} (hd : body l = d) (h0 : d ≠ []) (h : d.all isDig = true) (hn : neg l = false) (hm : m = -(val d)) (hi : In64 m) : readV l = chkV (-m) /\ readE l = chkE (-m) := by
 subst hd;exact read_pos h0 ⟨h, .inl ⟨rfl, hm, hi⟩⟩ hn
theorem all_snoc (s : ByteArray) (k : Nat) (h : k < s.size) (ha : (s.data.toList.take k).all isDig = true) (hc : isDig s[k] = true) : (s.data.toList.take (k + 1)).all isDig = true := by
 rw [take_snoc s k h, List.all_append, ha, List.all_cons, hc]; rfl
theorem all_bad (s : ByteArray) (k : Nat) (h : k < s.size) (hc : isDig s[k] = false) : s.data.toList.all isDig = false := by
 rw [take_drop s k h, List.all_append, List.all_cons, hc]; simp
theorem dig_at (s : ByteArray) (k : Nat) (h : k < s.size) (ha : s.data.toList.all isDig = true) : isDig s[k] = true := by
 rw [take_drop s k h, List.all_append, List.all_cons, Bool.and_eq_true, Bool.and_eq_true] at ha;exact ha.2.1
theorem val_at (s : ByteArray) (k : Nat) (h : k < s.size) : val (s.data.toList.take (k + 1)) = 10 * val (s.data.toList.take k) + ((s[k].toNat : Int) - 48) := by
 rw [take_snoc s k h, val_snoc]
theorem ne_nil (s : ByteArray) (h : 0 < s.size) : s.data.toList ≠ [] := fun e => by
 have : s.data.toList.length = s.size := by simp
 rw [e] at this;have h2 : ([] : List UInt8).length = 0 := rfl;omega
set_option maxHeartbeats 2000000 in
set_option maxRecDepth 100000 in
theorem ref_NumRead (s : ByteArray) (w : World) (hs : s.size <= maxLen) :
 Calls Tryz.prog 76 #[.string s] w fun e w' => e = .returned (.tuple #[.int .i64 (readV s.data.toList), .int .i64 (readE s.data.toList)]) /\ w = w' := by
 have hs1 : s.size <= 9223372036854775807 := by unfold maxLen at hs; omega
 clear hs;by_cases h0 : s.size = 0
 · have hl : s.data.toList = [] := List.eq_nil_of_length_eq_zero (by simpa using h0);have hR := Lib.hid (read_bad (l := s.data.toList) (.inl (by rw [hl]; rfl)));obtain rfl : s = ⟨#[]⟩ := by apply ByteArray.ext; simpa using hl
   clear h0 hl hs1;go_enter Tryz.func76, Tryz.ntmps76;go_wp2_with fail;go_ret2;exact ⟨ans_eq hR.out.1.symm hR.out.2.symm, rfl⟩
 have hpos : 0 < s.size := by omega
 have hcons : s.data.toList = s[0] :: s.data.toList.drop 1 := take_drop s 0 hpos;by_cases hm : s[0].toNat = 45
 · have e1 : ((s[0].toNat : Int) == 45) = true := by simp; omega
   have hD : (s.extract 1 s.size).data.toList = s.data.toList.drop 1 := by
    rw [ByteArray.data_extract, Array.toList_extract];simp
    exact List.take_of_length_le (by simp)
   have hb : body s.data.toList = (s.extract 1 s.size).data.toList := by
    rw [hD, hcons];show (if s[0].toNat = 45 then _ else _) = _
    rw [if_pos hm];simp
   have hng : neg s.data.toList = true := by
    rw [hcons];show decide (s[0].toNat = 45) = true
    simpa using hm
   have hsz : (s.extract 1 s.size).size + 1 = s.size := by simp; omega
   have HB := Lib.hid hb;have HNG := Lib.hid hng;have HSZ := Lib.hid hsz;have hle : (s.extract 1 s.size).size < s.size := by omega
   clear hD hb hng hsz hcons hm h0;by_cases hz : (s.extract 1 s.size).size = 0
   · have hR := Lib.hid (read_bad (l := s.data.toList) (.inl (by rw [HB.out]; exact List.eq_nil_of_length_eq_zero (by simpa using hz))));have ez : (s.extract 1 s.size).toList.isEmpty = true := by
      rw [ByteArray.toList_eq, List.isEmpty_iff];exact List.eq_nil_of_length_eq_zero (by simpa using hz)
     clear hz HSZ;go_enter Tryz.func76, Tryz.ntmps76;go_wp2_with fail;go_ret2;exact ⟨ans_eq hR.out.1.symm hR.out.2.symm, rfl⟩
   have hne := ne_nil (s.extract 1 s.size) (by omega);have HNE := Lib.hid hne;have ez : (s.extract 1 s.size).toList.isEmpty = false := by
    rw [ByteArray.toList_eq, List.isEmpty_eq_false_iff];exact hne
   clear hne hz;go_enter Tryz.func76, Tryz.ntmps76;go_wp2_with fail;generalize s.extract 1 s.size = D at *;clear ez e1;go_loop [5] (fun i => ∃ k : Nat, k <= D.size /\ i = .int .i64 k /\ Hid ((D.data.toList.take k).all isDig = true)) (fun i => D.size - (intOf i).toNat)
   case atStart => exact ⟨0, Nat.zero_le _, rfl, Lib.hid rfl⟩
   case round =>
    obtain ⟨k, hk, rfl, HA⟩ := hrel;by_cases hlt : k < D.size
    · have hts := Lib.hid (all_snoc D k hlt HA.out);have hbd := Lib.hid (all_bad D k hlt);by_cases hc : isDig D[k] = true
      · have hd := (isDig_iff _).1 hc;have HC := Lib.hid hc;clear hc;obtain ⟨hd1, hd2⟩ := hd;go_wp2_with fail;go_round
        case rel => exact ⟨k + 1, by omega, by go_num, Lib.hid (hts.out HC.out)⟩
        case measure => simp [intOf]; omega
      · have hd := (isDig_not _).1 (by simpa using hc);have hR := Lib.hid (read_bad (l := s.data.toList) (.inr (by rw [HB.out]; exact hbd.out (by simpa using hc))));clear hc;rcases hd with hd | hd
        all_goals
         go_wp2_with fail;go_ret2;exact ⟨ans_eq hR.out.1.symm hR.out.2.symm, rfl⟩
    · have hall : D.data.toList.all isDig = true := by
       have h := HA.out;rw [List.take_of_length_le (by simp; omega)] at h;exact h
      have HALL := Lib.hid hall;clear hall HA;go_wp2_with fail;clear hlt;go_loop [6, 7] (fun n i => ∃ (k : Nat) (m : Int), k <= D.size /\ n = .int .i64 m /\ i = .int .i64 k /\ Hid (m = -(val (D.data.toList.take k)) /\ In64 m)) (fun _ i => D.size - (intOf i).toNat)
      case atStart => exact ⟨0, 0, Nat.zero_le _, rfl, rfl, Lib.hid ⟨rfl, by unfold In64; omega⟩⟩
      case round =>
       obtain ⟨k, m, hk, rfl, rfl, HM⟩ := hrel;by_cases hlt : k < D.size
       · have hdg := dig_at D k hlt HALL.out;have hv := val_at D k hlt;have hd := (isDig_iff _).1 hdg;obtain ⟨hd1, hd2⟩ := hd;have hx : m * 10 - ((D[k].toNat : Int) - 48) = -(val (D.data.toList.take (k + 1))) := by rw [hv, HM.out.1]; omega
         have hm0 : m <= 0 := by
          have := val_nonneg (all_take D.data.toList k HALL.out);have := HM.out.1;omega
         have HX := Lib.hid hx;clear hdg hv hx;by_cases hi : In64 (m * 10)
         · have hM := ref_Mul m 10 w HM.out.2 (by unfold In64; omega);rw [chkV_in hi, chkE_in hi] at hM;have HMul := Lib.hid hM;have hS := ref_Sub (m * 10) ((D[k].toNat : Int) - 48) w hi (by unfold In64; omega);by_cases hj : In64 (m * 10 - ((D[k].toNat : Int) - 48))
           · rw [chkV_in hj, chkE_in hj] at hS;have HSub := Lib.hid hS;have HJ := Lib.hid hj;clear hM hS hi hj;go_wp2_with fail;refine HMul.out.mono ?_;rintro e w' ⟨rfl, rfl⟩;go_wp2_with fail;refine HSub.out.mono ?_;rintro e w' ⟨rfl, rfl⟩;go_wp2_with fail;go_round
             case rel => exact ⟨k + 1, _, by omega, rfl, by go_num, Lib.hid ⟨HX.out, HJ.out⟩⟩
             case measure => simp [intOf]; omega
           · rw [chkV_out hj, chkE_out hj] at hS;have HSub := Lib.hid hS;have hR := Lib.hid (over_of (k + 1) HB.out HNE.out HALL.out (by rw [<- HX.out]; exact hj));clear hM hS hi hj;go_wp2_with fail;refine HMul.out.mono ?_;rintro e w' ⟨rfl, rfl⟩;go_wp2_with fail;refine HSub.out.mono ?_;rintro e w' ⟨rfl, rfl⟩;go_wp2_with fail;go_ret2;exact ⟨ans_eq hR.out.1.symm hR.out.2.symm, rfl⟩
         · have hM := ref_Mul m 10 w HM.out.2 (by unfold In64; omega);rw [chkV_out hi, chkE_out hi] at hM;have HMul := Lib.hid hM;have hR := Lib.hid (over_of (k + 1) HB.out HNE.out HALL.out (by rw [<- HX.out]; unfold In64 at *; omega));clear hM hi;go_wp2_with fail;refine HMul.out.mono ?_;rintro e w' ⟨rfl, rfl⟩;go_wp2_with fail;go_ret2;exact ⟨ans_eq hR.out.1.symm hR.out.2.symm, rfl⟩
       · have hm' := HM.out;rw [show D.data.toList.take k = D.data.toList from List.take_of_length_le (by simp; omega)] at hm';have HM2 := Lib.hid hm';clear hm';go_wp2_with fail;go_ret2;have hR := neg_of HB.out HNE.out HALL.out HNG.out HM2.out.1 HM2.out.2;exact ⟨ans_eq hR.1.symm hR.2.symm, rfl⟩
 · have e1 : ((s[0].toNat : Int) == 45) = false := by simp; omega
   have hb : body s.data.toList = s.data.toList := by
    rw [hcons];show (if s[0].toNat = 45 then _ else _) = _
    rw [if_neg hm]
   have hng : neg s.data.toList = false := by
    rw [hcons];show decide (s[0].toNat = 45) = false
    simpa using hm
   have HB := Lib.hid hb;have HNG := Lib.hid hng;have hne := ne_nil s hpos;have HNE := Lib.hid hne;have ez : s.toList.isEmpty = false := by
    rw [ByteArray.toList_eq, List.isEmpty_eq_false_iff];exact hne
   clear hb hng hcons hm h0 hne;go_enter Tryz.func76, Tryz.ntmps76;go_wp2_with fail;clear ez e1;go_loop [5] (fun i => ∃ k : Nat, k <= s.size /\ i = .int .i64 k /\ Hid ((s.data.toList.take k).all isDig = true)) (fun i => s.size - (intOf i).toNat)
   case atStart => exact ⟨0, Nat.zero_le _, rfl, Lib.hid rfl⟩
   case round =>
    obtain ⟨k, hk, rfl, HA⟩ := hrel;by_cases hlt : k < s.size
    · have hts := Lib.hid (all_snoc s k hlt HA.out);have hbd := Lib.hid (all_bad s k hlt);by_cases hc : isDig s[k] = true
      · have hd := (isDig_iff _).1 hc;have HC := Lib.hid hc;clear hc;obtain ⟨hd1, hd2⟩ := hd;go_wp2_with fail;go_round
        case rel => exact ⟨k + 1, by omega, by go_num, Lib.hid (hts.out HC.out)⟩
        case measure => simp [intOf]; omega
      · have hd := (isDig_not _).1 (by simpa using hc);have hR := Lib.hid (read_bad (l := s.data.toList) (.inr (by rw [HB.out]; exact hbd.out (by simpa using hc))));clear hc;rcases hd with hd | hd
        all_goals
         go_wp2_with fail;go_ret2;exact ⟨ans_eq hR.out.1.symm hR.out.2.symm, rfl⟩
    · have hall : s.data.toList.all isDig = true := by
       have h := HA.out;rw [List.take_of_length_le (by simp; omega)] at h;exact h
      have HALL := Lib.hid hall;clear hall HA;go_wp2_with fail;clear hlt;go_loop [6, 7] (fun n i => ∃ (k : Nat) (m : Int), k <= s.size /\ n = .int .i64 m /\ i = .int .i64 k /\ Hid (m = -(val (s.data.toList.take k)) /\ In64 m)) (fun _ i => s.size - (intOf i).toNat)
      case atStart => exact ⟨0, 0, Nat.zero_le _, rfl, rfl, Lib.hid ⟨rfl, by unfold In64; omega⟩⟩
      case round =>
       obtain ⟨k, m, hk, rfl, rfl, HM⟩ := hrel;by_cases hlt : k < s.size
       · have hdg := dig_at s k hlt HALL.out;have hv := val_at s k hlt;have hd := (isDig_iff _).1 hdg;obtain ⟨hd1, hd2⟩ := hd;have hx : m * 10 - ((s[k].toNat : Int) - 48) = -(val (s.data.toList.take (k + 1))) := by rw [hv, HM.out.1]; omega
         have hm0 : m <= 0 := by
          have := val_nonneg (all_take s.data.toList k HALL.out);have := HM.out.1;omega
         have HX := Lib.hid hx;clear hdg hv hx;by_cases hi : In64 (m * 10)
         · have hM := ref_Mul m 10 w HM.out.2 (by unfold In64; omega);rw [chkV_in hi, chkE_in hi] at hM;have HMul := Lib.hid hM;have hS := ref_Sub (m * 10) ((s[k].toNat : Int) - 48) w hi (by unfold In64; omega);by_cases hj : In64 (m * 10 - ((s[k].toNat : Int) - 48))
           · rw [chkV_in hj, chkE_in hj] at hS;have HSub := Lib.hid hS;have HJ := Lib.hid hj;clear hM hS hi hj;go_wp2_with fail;refine HMul.out.mono ?_;rintro e w' ⟨rfl, rfl⟩;go_wp2_with fail;refine HSub.out.mono ?_;rintro e w' ⟨rfl, rfl⟩;go_wp2_with fail;go_round
             case rel => exact ⟨k + 1, _, by omega, rfl, by go_num, Lib.hid ⟨HX.out, HJ.out⟩⟩
             case measure => simp [intOf]; omega
           · rw [chkV_out hj, chkE_out hj] at hS;have HSub := Lib.hid hS;have hR := Lib.hid (over_of (k + 1) HB.out HNE.out HALL.out (by rw [<- HX.out]; exact hj));clear hM hS hi hj;go_wp2_with fail;refine HMul.out.mono ?_;rintro e w' ⟨rfl, rfl⟩;go_wp2_with fail;refine HSub.out.mono ?_;rintro e w' ⟨rfl, rfl⟩;go_wp2_with fail;go_ret2;exact ⟨ans_eq hR.out.1.symm hR.out.2.symm, rfl⟩
         · have hM := ref_Mul m 10 w HM.out.2 (by unfold In64; omega);rw [chkV_out hi, chkE_out hi] at hM;have HMul := Lib.hid hM;have hR := Lib.hid (over_of (k + 1) HB.out HNE.out HALL.out (by rw [<- HX.out]; unfold In64 at *; omega));clear hM hi;go_wp2_with fail;refine HMul.out.mono ?_;rintro e w' ⟨rfl, rfl⟩;go_wp2_with fail;go_ret2;exact ⟨ans_eq hR.out.1.symm hR.out.2.symm, rfl⟩
       · have hm' := HM.out;rw [show s.data.toList.take k = s.data.toList from List.take_of_length_le (by simp; omega)] at hm';have HM2 := Lib.hid hm';clear hm';go_wp2_with fail;refine (ref_Neg _ _ HM2.out.2).mono ?_;rintro e w' ⟨rfl, rfl⟩;go_wp2_with fail;go_ret2;have hR := pos_of HB.out HNE.out HALL.out HNG.out HM2.out.1 HM2.out.2;exact ⟨ans_eq hR.1.symm hR.2.symm, rfl⟩
end Go.Proofs.YtlbdocdjijhkbaaGreatDoor
