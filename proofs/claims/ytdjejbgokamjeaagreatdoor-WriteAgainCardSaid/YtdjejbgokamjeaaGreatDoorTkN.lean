import Derived.Test.YtdjejbgokamjeaaGreatDoorTkM
import Derived.Test.YtdjejbgokamjeaaGreatDoorTokRU
namespace Go.Proofs.YtdjejbgokamjeaaGreatDoor
open Go.RowKit
theorem foldl_ge : ∀ (q : List UInt8) (n : Int), 0 <= n -> q.all isDig = true -> n <= q.foldl (fun n c => 10 * n + ((c.toNat : Int) - 48)) n
 | [], n, _, _ => Int.le_refl n
 | c :: t, n, h, ha => by
  rw [List.all_cons, Bool.and_eq_true] at ha;have hc := (isDig_iff c).1 ha.1;have := foldl_ge t (10 * n + ((c.toNat : Int) - 48)) (by omega) ha.2;show n <= t.foldl _ (10 * n + ((c.toNat : Int) - 48))
  omega
theorem val_prefix (l : List UInt8) (k : Nat) (h : l.all isDig = true) : val (l.take k) <= val l := by
 have e : l = l.take k ++ l.drop k := (List.take_append_drop k l).symm;have h1 : (l.take k).all isDig = true := by rw [e, List.all_append, Bool.and_eq_true] at h; exact h.1
 have h2 : (l.drop k).all isDig = true := by rw [e, List.all_append, Bool.and_eq_true] at h; exact h.2
 have h3 := foldl_ge (l.drop k) (val (l.take k)) (val_nonneg h1) h2;have h4 : val (l.take k ++ l.drop k) = (l.drop k).foldl (fun n c => 10 * n + ((c.toNat : Int) - 48)) (val (l.take k)) := by unfold val; rw [List.foldl_append]
 rw [<- e] at h4;omega
theorem all_take (l : List UInt8) (k : Nat) (h : l.all isDig = true) : (l.take k).all isDig = true := by
 rw [<- List.take_append_drop k l, List.all_append, Bool.and_eq_true] at h;exact h.1
theorem over_of {l d : List UInt8} (k : Nat) (hd : body l = d) (h0 : d ≠ []) (h : d.all isDig = true) (ho : ¬ In64 (-(val (d.take k)))) : readV l = 0 /\ readE l = 10 := by
 subst hd;have h1 := val_prefix (body l) k h;have h2 := val_nonneg (all_take (body l) k h);have hn : ¬ In64 (readN l) := by
  unfold readN In64 at *;split <;> omega
 rw [(read_good h0 h).1, (read_good h0 h).2, chkV_out hn, chkE_out hn];exact ⟨rfl, rfl⟩
theorem neg_of {l d : List UInt8} {m : Int} (hd : body l = d) (h0 : d ≠ []) (h : d.all isDig = true) (hn : neg l = true) (hm : m = -(val d)) (hi : In64 m) : readV l = m /\ readE l = 0 := by
 subst hd;exact read_neg h0 ⟨h, .inl ⟨rfl, hm, hi⟩⟩ hn
theorem pos_of {l d : List UInt8} {m : Int} (hd : body l = d) (h0 : d ≠ []) (h : d.all isDig = true) (hn : neg l = false) (hm : m = -(val d)) (hi : In64 m) : readV l = chkV (-m) /\ readE l = chkE (-m) := by
 subst hd;exact read_pos h0 ⟨h, .inl ⟨rfl, hm, hi⟩⟩ hn
theorem all_snoc (s : ByteArray) (k : Nat) (h : k < s.size) (ha : (s.data.toList.take k).all isDig = true) (hc : isDig s[k] = true) : (s.data.toList.take (k + 1)).all isDig = true := by
 rw [take_snoc s k h, List.all_append, ha, List.all_cons, hc]; rfl
theorem all_bad (s : ByteArray) (k : Nat) (h : k < s.size) (hc : isDig s[k] = false) : s.data.toList.all isDig = false := by
 rw [take_drop s k h, List.all_append, List.all_cons, hc]; simp
theorem dig_at (s : ByteArray) (k : Nat) (h : k < s.size) (ha : s.data.toList.all isDig = true) : isDig s[k] = true := by
 rw [take_drop s k h, List.all_append, List.all_cons, Bool.and_eq_true, Bool.and_eq_true] at ha;exact ha.2.1
theorem val_at (s : ByteArray) (k : Nat) (h : k < s.size) : val (s.data.toList.take (k + 1)) = 10 * val (s.data.toList.take k) + ((s[k].toNat : Int) - 48) := by
 rw [take_snoc s k h, val_snoc]
theorem ne_nil (s : ByteArray) (h : 0 < s.size) : s.data.toList ≠ [] := fun e => by
 have : s.data.toList.length = s.size := by simp
 rw [e] at this;have h2 : ([] : List UInt8).length = 0 := rfl;omega
set_option maxHeartbeats 2000000 in
set_option maxRecDepth 100000 in
theorem ref_NumRead (s : ByteArray) (w : World) (hs : s.size <= maxLen) :
 Calls Tryz.prog 72 #[.string s] w fun e w' => e = .returned (.tuple #[.int .i64 (readV s.data.toList), .int .i64 (readE s.data.toList)]) /\ w = w' := by
 have hs1 : s.size <= 9223372036854775807 := by unfold maxLen at hs; omega
 clear hs;by_cases h0 : s.size = 0
 · have hl : s.data.toList = [] := List.eq_nil_of_length_eq_zero (by simpa using h0);have hR := Lib.hid (read_bad (l := s.data.toList) (.inl (by rw [hl]; rfl)));obtain rfl : s = ⟨#[]⟩ := by apply ByteArray.ext; simpa using hl
   clear h0 hl hs1;go_enter Tryz.func72, Tryz.ntmps72;go_wp2_with fail;go_ret2;exact ⟨ans_eq hR.out.1.symm hR.out.2.symm, rfl⟩
 have hpos : 0 < s.size := by omega
 have hcons : s.data.toList = s[0] :: s.data.toList.drop 1 := take_drop s 0 hpos;by_cases hm : s[0].toNat = 45
 · have e1 : ((s[0].toNat : Int) == 45) = true := by simp; omega
   have hD : (s.extract 1 s.size).data.toList = s.data.toList.drop 1 := by
    rw [ByteArray.data_extract, Array.toList_extract];simp
    exact List.take_of_length_le (by simp)
   have hb : body s.data.toList = (s.extract 1 s.size).data.toList := by
    rw [hD, hcons];show (if s[0].toNat = 45 then _ else _) = _
    rw [if_pos hm];simp
   have hng : neg s.data.toList = true := by
    rw [hcons];show decide (s[0].toNat = 45) = true
    simpa using hm
   have hsz : (s.extract 1 s.size).size + 1 = s.size := by simp; omega
   have HB := Lib.hid hb;have HNG := Lib.hid hng;have HSZ := Lib.hid hsz;have hle : (s.extract 1 s.size).size < s.size := by omega
   clear hD hb hng hsz hcons hm h0;by_cases hz : (s.extract 1 s.size).size = 0
   · have hR := Lib.hid (read_bad (l := s.data.toList) (.inl (by rw [HB.out]; exact List.eq_nil_of_length_eq_zero (by simpa using hz))));have ez : (s.extract 1 s.size).toList.isEmpty = true := by
      rw [ByteArray.toList_eq, List.isEmpty_iff];exact List.eq_nil_of_length_eq_zero (by simpa using hz)
     clear hz HSZ;go_enter Tryz.func72, Tryz.ntmps72;go_wp2_with fail;go_ret2;exact ⟨ans_eq hR.out.1.symm hR.out.2.symm, rfl⟩
   have hne := ne_nil (s.extract 1 s.size) (by omega);have HNE := Lib.hid hne;have ez : (s.extract 1 s.size).toList.isEmpty = false := by
    rw [ByteArray.toList_eq, List.isEmpty_eq_false_iff];exact hne
   clear hne hz;go_enter Tryz.func72, Tryz.ntmps72;go_wp2_with fail;generalize s.extract 1 s.size = D at *;clear ez e1;go_loop [5] (fun i => ∃ k : Nat, k <= D.size /\ i = .int .i64 k /\ Hid ((D.data.toList.take k).all isDig = true)) (fun i => D.size - (intOf i).toNat)
   case atStart => exact ⟨0, Nat.zero_le _, rfl, Lib.hid rfl⟩
   case round =>
    obtain ⟨k, hk, rfl, HA⟩ := hrel;by_cases hlt : k < D.size
    · have hts := Lib.hid (all_snoc D k hlt HA.out);have hbd := Lib.hid (all_bad D k hlt);by_cases hc : isDig D[k] = true
      · have hd := (isDig_iff _).1 hc;have HC := Lib.hid hc;clear hc;obtain ⟨hd1, hd2⟩ := hd;go_wp2_with fail;go_round
        case rel => exact ⟨k + 1, by omega, by go_num, Lib.hid (hts.out HC.out)⟩
        case measure => simp [intOf]; omega
      · have hd := (isDig_not _).1 (by simpa using hc);have hR := Lib.hid (read_bad (l := s.data.toList) (.inr (by rw [HB.out]; exact hbd.out (by simpa using hc))));clear hc;rcases hd with hd | hd
        all_goals
         go_wp2_with fail;go_ret2;exact ⟨ans_eq hR.out.1.symm hR.out.2.symm, rfl⟩
    · have hall : D.data.toList.all isDig = true := by
       have h := HA.out;rw [List.take_of_length_le (by simp; omega)] at h;exact h
      have HALL := Lib.hid hall;clear hall HA;go_wp2_with fail;clear hlt;go_loop [6, 7] (fun n i => ∃ (k : Nat) (m : Int), k <= D.size /\ n = .int .i64 m /\ i = .int .i64 k /\ Hid (m = -(val (D.data.toList.take k)) /\ In64 m)) (fun _ i => D.size - (intOf i).toNat)
      case atStart => exact ⟨0, 0, Nat.zero_le _, rfl, rfl, Lib.hid ⟨rfl, by unfold In64; omega⟩⟩
      case round =>
       obtain ⟨k, m, hk, rfl, rfl, HM⟩ := hrel;by_cases hlt : k < D.size
       · have hdg := dig_at D k hlt HALL.out;have hv := val_at D k hlt;have hd := (isDig_iff _).1 hdg;obtain ⟨hd1, hd2⟩ := hd;have hx : m * 10 - ((D[k].toNat : Int) - 48) = -(val (D.data.toList.take (k + 1))) := by rw [hv, HM.out.1]; omega
         have hm0 : m <= 0 := by
          have := val_nonneg (all_take D.data.toList k HALL.out);have := HM.out.1;omega
         have HX := Lib.hid hx;clear hdg hv hx;by_cases hi : In64 (m * 10)
         · have hM := ref_Mul m 10 w HM.out.2 (by unfold In64; omega);rw [chkV_in hi, chkE_in hi] at hM;have HMul := Lib.hid hM;have hS := ref_Sub (m * 10) ((D[k].toNat : Int) - 48) w hi (by unfold In64; omega);by_cases hj : In64 (m * 10 - ((D[k].toNat : Int) - 48))
           · rw [chkV_in hj, chkE_in hj] at hS;have HSub := Lib.hid hS;have HJ := Lib.hid hj;clear hM hS hi hj;go_wp2_with fail;refine HMul.out.mono ?_;rintro e w' ⟨rfl, rfl⟩;go_wp2_with fail;refine HSub.out.mono ?_;rintro e w' ⟨rfl, rfl⟩;go_wp2_with fail;go_round
             case rel => exact ⟨k + 1, _, by omega, rfl, by go_num, Lib.hid ⟨HX.out, HJ.out⟩⟩
             case measure => simp [intOf]; omega
           · rw [chkV_out hj, chkE_out hj] at hS;have HSub := Lib.hid hS;have hR := Lib.hid (over_of (k + 1) HB.out HNE.out HALL.out (by rw [<- HX.out]; exact hj));clear hM hS hi hj;go_wp2_with fail;refine HMul.out.mono ?_;rintro e w' ⟨rfl, rfl⟩;go_wp2_with fail;refine HSub.out.mono ?_;rintro e w' ⟨rfl, rfl⟩;go_wp2_with fail;go_ret2;exact ⟨ans_eq hR.out.1.symm hR.out.2.symm, rfl⟩
         · have hM := ref_Mul m 10 w HM.out.2 (by unfold In64; omega);rw [chkV_out hi, chkE_out hi] at hM;have HMul := Lib.hid hM;have hR := Lib.hid (over_of (k + 1) HB.out HNE.out HALL.out (by rw [<- HX.out]; unfold In64 at *; omega));clear hM hi;go_wp2_with fail;refine HMul.out.mono ?_;rintro e w' ⟨rfl, rfl⟩;go_wp2_with fail;go_ret2;exact ⟨ans_eq hR.out.1.symm hR.out.2.symm, rfl⟩
       · have hm' := HM.out;rw [show D.data.toList.take k = D.data.toList from List.take_of_length_le (by simp; omega)] at hm';have HM2 := Lib.hid hm';clear hm';go_wp2_with fail;go_ret2;have hR := neg_of HB.out HNE.out HALL.out HNG.out HM2.out.1 HM2.out.2;exact ⟨ans_eq hR.1.symm hR.2.symm, rfl⟩
 · have e1 : ((s[0].toNat : Int) == 45) = false := by simp; omega
   have hb : body s.data.toList = s.data.toList := by
    rw [hcons];show (if s[0].toNat = 45 then _ else _) = _
    rw [if_neg hm]
   have hng : neg s.data.toList = false := by
    rw [hcons];show decide (s[0].toNat = 45) = false
    simpa using hm
   have HB := Lib.hid hb;have HNG := Lib.hid hng;have hne := ne_nil s hpos;have HNE := Lib.hid hne;have ez : s.toList.isEmpty = false := by
    rw [ByteArray.toList_eq, List.isEmpty_eq_false_iff];exact hne
   clear hb hng hcons hm h0 hne;go_enter Tryz.func72, Tryz.ntmps72;go_wp2_with fail;clear ez e1;go_loop [5] (fun i => ∃ k : Nat, k <= s.size /\ i = .int .i64 k /\ Hid ((s.data.toList.take k).all isDig = true)) (fun i => s.size - (intOf i).toNat)
   case atStart => exact ⟨0, Nat.zero_le _, rfl, Lib.hid rfl⟩
   case round =>
    obtain ⟨k, hk, rfl, HA⟩ := hrel;by_cases hlt : k < s.size
    · have hts := Lib.hid (all_snoc s k hlt HA.out);have hbd := Lib.hid (all_bad s k hlt);by_cases hc : isDig s[k] = true
      · have hd := (isDig_iff _).1 hc;have HC := Lib.hid hc;clear hc;obtain ⟨hd1, hd2⟩ := hd;go_wp2_with fail;go_round
        case rel => exact ⟨k + 1, by omega, by go_num, Lib.hid (hts.out HC.out)⟩
        case measure => simp [intOf]; omega
      · have hd := (isDig_not _).1 (by simpa using hc);have hR := Lib.hid (read_bad (l := s.data.toList) (.inr (by rw [HB.out]; exact hbd.out (by simpa using hc))));clear hc;rcases hd with hd | hd
        all_goals
         go_wp2_with fail;go_ret2;exact ⟨ans_eq hR.out.1.symm hR.out.2.symm, rfl⟩
    · have hall : s.data.toList.all isDig = true := by
       have h := HA.out;rw [List.take_of_length_le (by simp; omega)] at h;exact h
      have HALL := Lib.hid hall;clear hall HA;go_wp2_with fail;clear hlt;go_loop [6, 7] (fun n i => ∃ (k : Nat) (m : Int), k <= s.size /\ n = .int .i64 m /\ i = .int .i64 k /\ Hid (m = -(val (s.data.toList.take k)) /\ In64 m)) (fun _ i => s.size - (intOf i).toNat)
      case atStart => exact ⟨0, 0, Nat.zero_le _, rfl, rfl, Lib.hid ⟨rfl, by unfold In64; omega⟩⟩
      case round =>
       obtain ⟨k, m, hk, rfl, rfl, HM⟩ := hrel;by_cases hlt : k < s.size
       · have hdg := dig_at s k hlt HALL.out;have hv := val_at s k hlt;have hd := (isDig_iff _).1 hdg;obtain ⟨hd1, hd2⟩ := hd;have hx : m * 10 - ((s[k].toNat : Int) - 48) = -(val (s.data.toList.take (k + 1))) := by rw [hv, HM.out.1]; omega
         have hm0 : m <= 0 := by
          have := val_nonneg (all_take s.data.toList k HALL.out);have := HM.out.1;omega
         have HX := Lib.hid hx;clear hdg hv hx;by_cases hi : In64 (m * 10)
         · have hM := ref_Mul m 10 w HM.out.2 (by unfold In64; omega);rw [chkV_in hi, chkE_in hi] at hM;have HMul := Lib.hid hM;have hS := ref_Sub (m * 10) ((s[k].toNat : Int) - 48) w hi (by unfold In64; omega);by_cases hj : In64 (m * 10 - ((s[k].toNat : Int) - 48))
           · rw [chkV_in hj, chkE_in hj] at hS;have HSub := Lib.hid hS;have HJ := Lib.hid hj;clear hM hS hi hj;go_wp2_with fail;refine HMul.out.mono ?_;rintro e w' ⟨rfl, rfl⟩;go_wp2_with fail;refine HSub.out.mono ?_;rintro e w' ⟨rfl, rfl⟩;go_wp2_with fail;go_round
             case rel => exact ⟨k + 1, _, by omega, rfl, by go_num, Lib.hid ⟨HX.out, HJ.out⟩⟩
             case measure => simp [intOf]; omega
           · rw [chkV_out hj, chkE_out hj] at hS;have HSub := Lib.hid hS;have hR := Lib.hid (over_of (k + 1) HB.out HNE.out HALL.out (by rw [<- HX.out]; exact hj));clear hM hS hi hj;go_wp2_with fail;refine HMul.out.mono ?_;rintro e w' ⟨rfl, rfl⟩;go_wp2_with fail;refine HSub.out.mono ?_;rintro e w' ⟨rfl, rfl⟩;go_wp2_with fail;go_ret2;exact ⟨ans_eq hR.out.1.symm hR.out.2.symm, rfl⟩
         · have hM := ref_Mul m 10 w HM.out.2 (by unfold In64; omega);rw [chkV_out hi, chkE_out hi] at hM;have HMul := Lib.hid hM;have hR := Lib.hid (over_of (k + 1) HB.out HNE.out HALL.out (by rw [<- HX.out]; unfold In64 at *; omega));clear hM hi;go_wp2_with fail;refine HMul.out.mono ?_;rintro e w' ⟨rfl, rfl⟩;go_wp2_with fail;go_ret2;exact ⟨ans_eq hR.out.1.symm hR.out.2.symm, rfl⟩
       · have hm' := HM.out;rw [show s.data.toList.take k = s.data.toList from List.take_of_length_le (by simp; omega)] at hm';have HM2 := Lib.hid hm';clear hm';go_wp2_with fail;refine (ref_Neg _ _ HM2.out.2).mono ?_;rintro e w' ⟨rfl, rfl⟩;go_wp2_with fail;go_ret2;have hR := pos_of HB.out HNE.out HALL.out HNG.out HM2.out.1 HM2.out.2;exact ⟨ans_eq hR.1.symm hR.2.symm, rfl⟩
theorem among3 : amongK [3] = digR := by
 funext c
 unfold amongK digR;rw [Bool.eq_iff_iff]; simp
theorem ks_new (w : World) (t : TypeId) (k : Int) : Ks (w.alloc (.cells #[.int .i64 k] t)) w.heap.size [k] := by
 intro i h;have : i = 0 := by simp at h; omega
 subst this;exact World.cell?_alloc_at _ _ _ _ rfl
theorem decodeGo_zero {r : List UInt8} {c n : Nat} (h : Lib.decodeGo ⟨r.toArray⟩ = (c, n)) (hn : n = 0) : c = 65533 := by
 by_cases h0 : r = []
 · subst h0;rw [decodeGo_nil _ rfl] at h;injection h with h1 h2;exact h1.symm
 · have hp : 0 < r.length := List.length_pos_iff.2 h0;rw [decodeGo_eq _ (by rw [size_mk]; omega)] at h;have := Lib.decodeL_width r;have e : Lib.decodeL r = (c, n) := h;rw [e] at this;simp at this; omega
theorem rest_ways (u : ByteArray) : (u.data.toList.take 2 = [39, 39] /\ ∃ h : 1 < u.size, ((u[0].toNat : Int) == 39) = true /\ ((u[1].toNat : Int) == 39) = true) \/
 (¬ u.data.toList.take 2 = [39, 39] /\ (u.size <= 1 \/ ∃ h : 1 < u.size, ((u[0].toNat : Int) == 39) = false \/ (((u[0].toNat : Int) == 39) = true /\ ((u[1].toNat : Int) == 39) = false))) := by
 by_cases h1 : 1 < u.size
 · have e0 := drop_at u 0 (by omega);have e1 := drop_at u 1 h1;rw [List.drop_zero] at e0;have hb0 : ((u[0].toNat : Int) == 39) = decide (u[0] = 39) := byte_is u[0] 39;have hb1 : ((u[1].toNat : Int) == 39) = decide (u[1] = 39) := byte_is u[1] 39;have e2 : u.data.toList.take 2 = [u[0], u[1]] := by rw [e0, List.take_succ_cons, e1, List.take_succ_cons, List.take_zero]
   rw [e2];by_cases h0 : u[0] = 39
   · by_cases h2 : u[1] = 39
     · exact .inl ⟨by rw [h0, h2], h1, hb0.trans (decide_eq_true h0), hb1.trans (decide_eq_true h2)⟩
     · exact .inr ⟨by intro e; injection e with _ e; injection e with e _; exact h2 e, .inr ⟨h1, .inr ⟨hb0.trans (decide_eq_true h0), hb1.trans (decide_eq_false h2)⟩⟩⟩
   · exact .inr ⟨by intro e; injection e with e _; exact h0 e, .inr ⟨h1, .inl (hb0.trans (decide_eq_false h0))⟩⟩
 · refine .inr ⟨fun e => ?_, .inl (by omega)⟩;have := congrArg List.length e;rw [List.length_take, size_listT] at this;simp at this; omega
def NumAns (l : List UInt8) (p : Nat) (e : Ending) : Prop := ∃ (n : Int) (en : Nat) (ok : Bool), e = .returned (.tuple #[.agg #[.int .i64 5, .string ⟨#[]⟩, .int .i64 n, .int .i64 (p : Nat)], .int .i64 (en : Nat), .bool ok]) /\
 ok = decide ((numberL l).w ≠ 0) /\ (ok = true -> numberL l = ⟨5, [], n, en - p⟩ /\ p <= en)
theorem num_tail {s : ByteArray} {p : Nat} {v x : Int} {z : Nat} (hz : spanL digR (s.data.toList.drop p) = z) (hz0 : z ≠ 0) (hr : (runeNum (s.data.toList.drop p)).2 = 0)
 (hv : readV (45 :: (s.data.toList.drop p).take z) = v) (hx : readE (45 :: (s.data.toList.drop p).take z) = x) :
 NumAns (s.data.toList.drop p) p (.returned (.tuple #[.agg #[.int .i64 5, .string ⟨#[]⟩, .int .i64 (wrap64 (-v)), .int .i64 (p : Nat)], .int .i64 (p + z : Nat), .bool (x == 0)])) := by
 refine ⟨_, _, _, rfl, ?_, ?_⟩
 · unfold numberL;rw [hr, if_neg (by omega), hz, hx, hv];by_cases h : x = 0
   · rw [if_pos h, h];symm
     exact decide_eq_true hz0
   · rw [if_neg h, beq_eq_false_iff_ne.2 h]; rfl
 · intro h;have h0 : x = 0 := by simpa using h
   refine ⟨?_, by omega⟩;unfold numberL;rw [hr, if_neg (by omega), hz, hx, hv, if_pos h0, Nat.add_sub_cancel_left]
theorem cat_part (s : ByteArray) (p z : Nat) : (⟨#[45]⟩ ++ s.extract p (p + z) : ByteArray).data.toList = 45 :: (s.data.toList.drop p).take z := by
 rw [Lib.extract_eq, ByteArray.data_append, Nat.add_sub_cancel_left]; simp
set_option maxRecDepth 100000 in
set_option maxHeartbeats 8000000 in
theorem num_not48 (s : ByteArray) (p : Nat) (w : World) (hs : s.size <= 200000) (hp : p < s.size) (hd : digR (s[p].toNat : Int) = true) (h48 : s[p] ≠ 48) :
 Calls Tryz.prog 50 #[.string s, .int .i64 (p : Nat)] w fun e w' => NumAns (s.data.toList.drop p) p e /\ Below w.heap.size w w' := by
 have hda := drop_at s p hp;obtain ⟨z, hz⟩ : ∃ z, spanL digR (s.data.toList.drop p) = z := ⟨_, rfl⟩;have hz0 : z ≠ 0 := by rw [<- hz, hda]; exact Nat.pos_iff_ne_zero.1 (spanL_pos _ _ _ hd)
 have hzl := spanL_le digR (s.data.toList.drop p);rw [hz, List.length_drop, size_listT] at hzl;have HRUN := Lib.hid (fun (W : World) (g : Nat) (h : Ks W g [3]) => by
  have := ref_run s p [3] g W hs (by omega) h (by decide) (by decide);rw [among3, hz] at this;exact this)
 have hsz : (⟨#[45]⟩ ++ s.extract p (p + z) : ByteArray).size <= maxLen := by
  rw [ByteArray.size_append, ByteArray.size_extract];show 1 + _ <= maxLen
  unfold maxLen; omega
 have hRD := fun W => ref_NumRead (⟨#[45]⟩ ++ s.extract p (p + z)) W hsz;rw [cat_part] at hRD;obtain ⟨v, hv⟩ : ∃ v, readV (45 :: (s.data.toList.drop p).take z) = v := ⟨_, rfl⟩;obtain ⟨x, hx⟩ : ∃ x, readE (45 :: (s.data.toList.drop p).take z) = x := ⟨_, rfl⟩;rw [hv, hx] at hRD;have HREAD := Lib.hid hRD;have HB := Lib.hid (fun o o2 : Obj => ((Below.refl w.heap.size w).alloc (Nat.le_refl _) o).alloc (by simp) o2);have HTAIL := Lib.hid (fun h => num_tail hz hz0 h hv hx);have hp0 : (0 : Int) <= (p : Int) := by omega
 have hp1 : (p : Int) < (s.size : Int) := by omega
 have hp2 : (p : Int) <= (p : Int) + (z : Int) := by omega
 have hp3 : (p : Int) + (z : Int) <= (s.size : Int) := by omega
 clear hRD hv hx hd hsz;have hb48 : ((s[p].toNat : Int) == 48) = false := (byte_is s[p] 48).trans (decide_eq_false h48);have HANS := Lib.hid (HTAIL.out (by
  unfold runeNum;rw [hda, if_neg]
  · intro e;cases h : s.data.toList.drop (p + 1) with
    | nil => rw [h] at e; simp at e
    | cons b t => rw [h, List.take_succ_cons] at e; injection e with e _; exact h48 e))
 clear hda h48;go_enter Tryz.func50, Tryz.ntmps50;go_wp2_with fail;generalize hW0 : ((w.alloc (.cells #[.int .i64 0, .string ⟨#[]⟩, .int .i64 0, .int .i64 0] 55)).alloc (.cells #[.int .i64 5, .string ⟨#[]⟩, .int .i64 0, .int .i64 (p : Nat)] 55)) = W0;have kz4 : W0.heap[w.heap.size]? = some (.cells #[.int .i64 0, .string ⟨#[]⟩, .int .i64 0, .int .i64 0] 55) := by rw [<- hW0]; exact past_at (new_at w _) _
 have kz7 : W0.heap[w.heap.size + 1]? = some (.cells #[.int .i64 5, .string ⟨#[]⟩, .int .i64 0, .int .i64 (p : Nat)] 55) := by rw [<- hW0, <- World.size_alloc w (.cells #[.int .i64 0, .string ⟨#[]⟩, .int .i64 0, .int .i64 0] 55)]; exact new_at _ _
 have hbW : Below w.heap.size w W0 := by rw [<- hW0]; exact HB.out _ _
 have hsz : W0.heap.size = w.heap.size + 1 + 1 := by rw [<- hW0]; simp
 rw [<- hsz];refine (HRUN.out _ _ (ks_new W0 3 3)).mono ?_; rintro e w8 ⟨rfl, rfl⟩;have hz4 := past_at kz4 (.cells #[.int .i64 3] 3);have hz7 := past_at kz7 (.cells #[.int .i64 3] 3);have hb8 := hbW.alloc (by have := hbW.size; omega) (.cells #[.int .i64 3] 3);generalize W0.alloc (.cells #[.int .i64 3] 3) = w8 at *;obtain ⟨c0, c1, c2, c3, f0, f1, f2, f3⟩ := cells4 hz4;obtain ⟨d0, d1, d2, d3, g0, g1, g2, g3⟩ := cells4 hz7;have hl8 : w.heap.size + 1 < w8.heap.size := World.block_lt_of_cell? _ _ d0;have hl9 : w.heap.size < w8.heap.size := by omega
 clear hz4 hz7 kz4 kz7 hbW;go_wp2_with fail;refine (HREAD.out _).mono ?_; rintro e w9 ⟨rfl, rfl⟩;go_wp2_with fail;refine bodyPost_ret (v := .tuple #[.agg #[.int .i64 5, .string ⟨#[]⟩, .int .i64 (wrap64 (-v)), .int .i64 (p : Nat)], .int .i64 (p + z : Nat), .bool (x == 0)]) (by simp [results, Tryz.results50, go_sem, c0, c1, c2, c3]) rfl ⟨HANS.out, ?_⟩;exact below_set4 (hb8.setCell (p := ⟨w.heap.size + 1, 2, none⟩) (show w.heap.size <= w.heap.size + 1 by omega) _) (Nat.le_refl _) _ _ _ _
set_option maxRecDepth 100000 in
set_option maxHeartbeats 8000000 in
theorem num_short (s : ByteArray) (p : Nat) (w : World) (hs : s.size <= 200000) (hp : p < s.size) (hd : digR (s[p].toNat : Int) = true) (h48 : s[p] = 48) (h1 : s.size <= p + 1) :
 Calls Tryz.prog 50 #[.string s, .int .i64 (p : Nat)] w fun e w' => NumAns (s.data.toList.drop p) p e /\ Below w.heap.size w w' := by
 have hda := drop_at s p hp;obtain ⟨z, hz⟩ : ∃ z, spanL digR (s.data.toList.drop p) = z := ⟨_, rfl⟩;have hz0 : z ≠ 0 := by rw [<- hz, hda]; exact Nat.pos_iff_ne_zero.1 (spanL_pos _ _ _ hd)
 have hzl := spanL_le digR (s.data.toList.drop p);rw [hz, List.length_drop, size_listT] at hzl;have HRUN := Lib.hid (fun (W : World) (g : Nat) (h : Ks W g [3]) => by
  have := ref_run s p [3] g W hs (by omega) h (by decide) (by decide);rw [among3, hz] at this;exact this)
 have hsz : (⟨#[45]⟩ ++ s.extract p (p + z) : ByteArray).size <= maxLen := by
  rw [ByteArray.size_append, ByteArray.size_extract];show 1 + _ <= maxLen
  unfold maxLen; omega
 have hRD := fun W => ref_NumRead (⟨#[45]⟩ ++ s.extract p (p + z)) W hsz;rw [cat_part] at hRD;obtain ⟨v, hv⟩ : ∃ v, readV (45 :: (s.data.toList.drop p).take z) = v := ⟨_, rfl⟩;obtain ⟨x, hx⟩ : ∃ x, readE (45 :: (s.data.toList.drop p).take z) = x := ⟨_, rfl⟩;rw [hv, hx] at hRD;have HREAD := Lib.hid hRD;have HB := Lib.hid (fun o o2 : Obj => ((Below.refl w.heap.size w).alloc (Nat.le_refl _) o).alloc (by simp) o2);have HTAIL := Lib.hid (fun h => num_tail hz hz0 h hv hx);have hp0 : (0 : Int) <= (p : Int) := by omega
 have hp1 : (p : Int) < (s.size : Int) := by omega
 have hp2 : (p : Int) <= (p : Int) + (z : Int) := by omega
 have hp3 : (p : Int) + (z : Int) <= (s.size : Int) := by omega
 clear hRD hv hx hd hsz;have hb48 : ((s[p].toNat : Int) == 48) = true := (byte_is s[p] 48).trans (decide_eq_true h48);have hq1 : (s.size : Int) <= (p : Int) + 1 := by omega
 have HANS := Lib.hid (HTAIL.out (by
  unfold runeNum;rw [hda, List.drop_eq_nil_of_le (show _ <= p + 1 by rw [size_listT]; exact h1), if_neg (by simp)]))
 clear hda h48;go_enter Tryz.func50, Tryz.ntmps50;go_wp2_with fail;generalize hW0 : ((w.alloc (.cells #[.int .i64 0, .string ⟨#[]⟩, .int .i64 0, .int .i64 0] 55)).alloc (.cells #[.int .i64 5, .string ⟨#[]⟩, .int .i64 0, .int .i64 (p : Nat)] 55)) = W0;have kz4 : W0.heap[w.heap.size]? = some (.cells #[.int .i64 0, .string ⟨#[]⟩, .int .i64 0, .int .i64 0] 55) := by rw [<- hW0]; exact past_at (new_at w _) _
 have kz7 : W0.heap[w.heap.size + 1]? = some (.cells #[.int .i64 5, .string ⟨#[]⟩, .int .i64 0, .int .i64 (p : Nat)] 55) := by rw [<- hW0, <- World.size_alloc w (.cells #[.int .i64 0, .string ⟨#[]⟩, .int .i64 0, .int .i64 0] 55)]; exact new_at _ _
 have hbW : Below w.heap.size w W0 := by rw [<- hW0]; exact HB.out _ _
 have hsz : W0.heap.size = w.heap.size + 1 + 1 := by rw [<- hW0]; simp
 rw [<- hsz];refine (HRUN.out _ _ (ks_new W0 3 3)).mono ?_; rintro e w8 ⟨rfl, rfl⟩;have hz4 := past_at kz4 (.cells #[.int .i64 3] 3);have hz7 := past_at kz7 (.cells #[.int .i64 3] 3);have hb8 := hbW.alloc (by have := hbW.size; omega) (.cells #[.int .i64 3] 3);generalize W0.alloc (.cells #[.int .i64 3] 3) = w8 at *;obtain ⟨c0, c1, c2, c3, f0, f1, f2, f3⟩ := cells4 hz4;obtain ⟨d0, d1, d2, d3, g0, g1, g2, g3⟩ := cells4 hz7;have hl8 : w.heap.size + 1 < w8.heap.size := World.block_lt_of_cell? _ _ d0;have hl9 : w.heap.size < w8.heap.size := by omega
 clear hz4 hz7 kz4 kz7 hbW;go_wp2_with fail;refine (HREAD.out _).mono ?_; rintro e w9 ⟨rfl, rfl⟩;go_wp2_with fail;refine bodyPost_ret (v := .tuple #[.agg #[.int .i64 5, .string ⟨#[]⟩, .int .i64 (wrap64 (-v)), .int .i64 (p : Nat)], .int .i64 (p + z : Nat), .bool (x == 0)]) (by simp [results, Tryz.results50, go_sem, c0, c1, c2, c3]) rfl ⟨HANS.out, ?_⟩;exact below_set4 (hb8.setCell (p := ⟨w.heap.size + 1, 2, none⟩) (show w.heap.size <= w.heap.size + 1 by omega) _) (Nat.le_refl _) _ _ _ _
set_option maxRecDepth 100000 in
set_option maxHeartbeats 8000000 in
theorem num_not39 (s : ByteArray) (p : Nat) (w : World) (hs : s.size <= 200000) (hp : p < s.size) (hd : digR (s[p].toNat : Int) = true) (h48 : s[p] = 48) (h1 : p + 1 < s.size) (h39 : s[p + 1] ≠ 39) :
 Calls Tryz.prog 50 #[.string s, .int .i64 (p : Nat)] w fun e w' => NumAns (s.data.toList.drop p) p e /\ Below w.heap.size w w' := by
 have hda := drop_at s p hp;obtain ⟨z, hz⟩ : ∃ z, spanL digR (s.data.toList.drop p) = z := ⟨_, rfl⟩;have hz0 : z ≠ 0 := by rw [<- hz, hda]; exact Nat.pos_iff_ne_zero.1 (spanL_pos _ _ _ hd)
 have hzl := spanL_le digR (s.data.toList.drop p);rw [hz, List.length_drop, size_listT] at hzl;have HRUN := Lib.hid (fun (W : World) (g : Nat) (h : Ks W g [3]) => by
  have := ref_run s p [3] g W hs (by omega) h (by decide) (by decide);rw [among3, hz] at this;exact this)
 have hsz : (⟨#[45]⟩ ++ s.extract p (p + z) : ByteArray).size <= maxLen := by
  rw [ByteArray.size_append, ByteArray.size_extract];show 1 + _ <= maxLen
  unfold maxLen; omega
 have hRD := fun W => ref_NumRead (⟨#[45]⟩ ++ s.extract p (p + z)) W hsz;rw [cat_part] at hRD;obtain ⟨v, hv⟩ : ∃ v, readV (45 :: (s.data.toList.drop p).take z) = v := ⟨_, rfl⟩;obtain ⟨x, hx⟩ : ∃ x, readE (45 :: (s.data.toList.drop p).take z) = x := ⟨_, rfl⟩;rw [hv, hx] at hRD;have HREAD := Lib.hid hRD;have HB := Lib.hid (fun o o2 : Obj => ((Below.refl w.heap.size w).alloc (Nat.le_refl _) o).alloc (by simp) o2);have HTAIL := Lib.hid (fun h => num_tail hz hz0 h hv hx);have hp0 : (0 : Int) <= (p : Int) := by omega
 have hp1 : (p : Int) < (s.size : Int) := by omega
 have hp2 : (p : Int) <= (p : Int) + (z : Int) := by omega
 have hp3 : (p : Int) + (z : Int) <= (s.size : Int) := by omega
 clear hRD hv hx hd hsz;have hb48 : ((s[p].toNat : Int) == 48) = true := (byte_is s[p] 48).trans (decide_eq_true h48);have hb39 : ((s[p + 1].toNat : Int) == 39) = false := (byte_is s[p + 1] 39).trans (decide_eq_false h39);have hq1 : (p : Int) + 1 < (s.size : Int) := by omega
 have HANS := Lib.hid (HTAIL.out (by
  unfold runeNum;rw [hda, drop_at s (p + 1) h1, if_neg];intro e;rw [List.take_succ_cons, List.take_succ_cons] at e;injection e with _ e;injection e with e _;exact h39 e))
 clear hda h48 h39;go_enter Tryz.func50, Tryz.ntmps50;go_wp2_with fail;generalize hW0 : ((w.alloc (.cells #[.int .i64 0, .string ⟨#[]⟩, .int .i64 0, .int .i64 0] 55)).alloc (.cells #[.int .i64 5, .string ⟨#[]⟩, .int .i64 0, .int .i64 (p : Nat)] 55)) = W0;have kz4 : W0.heap[w.heap.size]? = some (.cells #[.int .i64 0, .string ⟨#[]⟩, .int .i64 0, .int .i64 0] 55) := by rw [<- hW0]; exact past_at (new_at w _) _
 have kz7 : W0.heap[w.heap.size + 1]? = some (.cells #[.int .i64 5, .string ⟨#[]⟩, .int .i64 0, .int .i64 (p : Nat)] 55) := by rw [<- hW0, <- World.size_alloc w (.cells #[.int .i64 0, .string ⟨#[]⟩, .int .i64 0, .int .i64 0] 55)]; exact new_at _ _
 have hbW : Below w.heap.size w W0 := by rw [<- hW0]; exact HB.out _ _
 have hsz : W0.heap.size = w.heap.size + 1 + 1 := by rw [<- hW0]; simp
 rw [<- hsz];refine (HRUN.out _ _ (ks_new W0 3 3)).mono ?_; rintro e w8 ⟨rfl, rfl⟩;have hz4 := past_at kz4 (.cells #[.int .i64 3] 3);have hz7 := past_at kz7 (.cells #[.int .i64 3] 3);have hb8 := hbW.alloc (by have := hbW.size; omega) (.cells #[.int .i64 3] 3);generalize W0.alloc (.cells #[.int .i64 3] 3) = w8 at *;obtain ⟨c0, c1, c2, c3, f0, f1, f2, f3⟩ := cells4 hz4;obtain ⟨d0, d1, d2, d3, g0, g1, g2, g3⟩ := cells4 hz7;have hl8 : w.heap.size + 1 < w8.heap.size := World.block_lt_of_cell? _ _ d0;have hl9 : w.heap.size < w8.heap.size := by omega
 clear hz4 hz7 kz4 kz7 hbW;go_wp2_with fail;refine (HREAD.out _).mono ?_; rintro e w9 ⟨rfl, rfl⟩;go_wp2_with fail;refine bodyPost_ret (v := .tuple #[.agg #[.int .i64 5, .string ⟨#[]⟩, .int .i64 (wrap64 (-v)), .int .i64 (p : Nat)], .int .i64 (p + z : Nat), .bool (x == 0)]) (by simp [results, Tryz.results50, go_sem, c0, c1, c2, c3]) rfl ⟨HANS.out, ?_⟩;exact below_set4 (hb8.setCell (p := ⟨w.heap.size + 1, 2, none⟩) (show w.heap.size <= w.heap.size + 1 by omega) _) (Nat.le_refl _) _ _ _ _
set_option maxRecDepth 100000 in
set_option maxHeartbeats 8000000 in
theorem num_quote (s : ByteArray) (p : Nat) (w : World) (hs : s.size <= 200000) (hp : p < s.size) (hd : digR (s[p].toNat : Int) = true) (h48 : s[p] = 48) (h1 : p + 1 < s.size) (h39 : s[p + 1] = 39) (h2 : (s.data.toList.drop (p + 2)).take 2 = [39, 39]) (hu : 1 < (s.extract (p + 2) s.size).size) (e0 : (((s.extract (p + 2) s.size)[0].toNat : Int) == 39) = true) (e1 : (((s.extract (p + 2) s.size)[1].toNat : Int) == 39) = true) :
 Calls Tryz.prog 50 #[.string s, .int .i64 (p : Nat)] w fun e w' => NumAns (s.data.toList.drop p) p e /\ Below w.heap.size w w' := by
 have hda := drop_at s p hp;obtain ⟨z, hz⟩ : ∃ z, spanL digR (s.data.toList.drop p) = z := ⟨_, rfl⟩;have hz0 : z ≠ 0 := by rw [<- hz, hda]; exact Nat.pos_iff_ne_zero.1 (spanL_pos _ _ _ hd)
 have hzl := spanL_le digR (s.data.toList.drop p);rw [hz, List.length_drop, size_listT] at hzl;have HRUN := Lib.hid (fun (W : World) (g : Nat) (h : Ks W g [3]) => by
  have := ref_run s p [3] g W hs (by omega) h (by decide) (by decide);rw [among3, hz] at this;exact this)
 have hsz : (⟨#[45]⟩ ++ s.extract p (p + z) : ByteArray).size <= maxLen := by
  rw [ByteArray.size_append, ByteArray.size_extract];show 1 + _ <= maxLen
  unfold maxLen; omega
 have hRD := fun W => ref_NumRead (⟨#[45]⟩ ++ s.extract p (p + z)) W hsz;rw [cat_part] at hRD;obtain ⟨v, hv⟩ : ∃ v, readV (45 :: (s.data.toList.drop p).take z) = v := ⟨_, rfl⟩;obtain ⟨x, hx⟩ : ∃ x, readE (45 :: (s.data.toList.drop p).take z) = x := ⟨_, rfl⟩;rw [hv, hx] at hRD;have HREAD := Lib.hid hRD;have HB := Lib.hid (fun o o2 : Obj => ((Below.refl w.heap.size w).alloc (Nat.le_refl _) o).alloc (by simp) o2);have HTAIL := Lib.hid (fun h => num_tail hz hz0 h hv hx);have hp0 : (0 : Int) <= (p : Int) := by omega
 have hp1 : (p : Int) < (s.size : Int) := by omega
 have hp2 : (p : Int) <= (p : Int) + (z : Int) := by omega
 have hp3 : (p : Int) + (z : Int) <= (s.size : Int) := by omega
 clear hRD hv hx hd hsz;have hb48 : ((s[p].toNat : Int) == 48) = true := (byte_is s[p] 48).trans (decide_eq_true h48);have hb39 : ((s[p + 1].toNat : Int) == 39) = true := (byte_is s[p + 1] 39).trans (decide_eq_true h39);have hq1 : (p : Int) + 1 < (s.size : Int) := by omega
 have hrn : runeNum (s.data.toList.drop p) = runeB (s.data.toList.drop (p + 2)) := by
  unfold runeNum;rw [hda, drop_at s (p + 1) h1, h48, h39, if_pos (by rfl)]; rfl
 have HANS : Hid (NumAns (s.data.toList.drop p) p (.returned (.tuple #[.agg #[.int .i64 5, .string ⟨#[]⟩, .int .i64 39, .int .i64 (p : Nat)], .int .i64 (p + 4 : Nat), .bool true]))) := Lib.hid (by
  refine ⟨39, p + 4, true, rfl, ?_, fun _ => ⟨?_, by omega⟩⟩
  · unfold numberL;rw [hrn];unfold runeB;rw [if_pos h2]; rfl
  · unfold numberL;rw [hrn];unfold runeB;rw [if_pos h2, Nat.add_sub_cancel_left]; rfl)
 have hu2 := hu;rw [ByteArray.size_extract] at hu2;have hx1 : (1 : Int) < ((s.size - (p + 2) : Nat) : Int) := by omega
 have hq2 : (p : Int) + 2 <= (s.size : Int) := by omega
 clear hda h48 h39 hrn h2 HTAIL HREAD HRUN;go_enter Tryz.func50, Tryz.ntmps50;go_wp2_with fail;refine bodyPost_ret (v := .tuple #[.agg #[.int .i64 5, .string ⟨#[]⟩, .int .i64 39, .int .i64 (p : Nat)], .int .i64 (p + 4 : Nat), .bool true]) (by simp [results, Tryz.results50, go_sem]) rfl ⟨HANS.out, HB.out _ _⟩
end Go.Proofs.YtdjejbgokamjeaaGreatDoor
