import Derived.Test.YtdjejbgokamjeaaGreatDoorCharRef
import Derived.Test.YtdjejbgokamjeaaGreatDoorCharM
namespace Go.Proofs.YtdjejbgokamjeaaGreatDoor
open Go.RowKit
theorem ret_pair {a b c d : Int} (h1 : a = c) (h2 : b = d) : Ending.returned (.tuple #[.int .i32 a, .int .i64 b]) = .returned (.tuple #[.int .i32 c, .int .i64 d]) := by rw [h1, h2]
def Run (t : List UInt8) (j : Nat) (m : Int) : Prop :=
 (hexRun 6 t 0).1 = j + (hexRun (6 - j) (t.drop j) m).1 /\ (hexRun 6 t 0).2 = (hexRun (6 - j) (t.drop j) m).2 /\ 0 <= m /\ m < 16 ^ j
theorem Run_start (t : List UInt8) : Run t 0 0 := ⟨by simp, rfl, by decide, by decide⟩
theorem hexV_bd (b : Nat) : -1 <= hexV b /\ hexV b <= 15 := by
 unfold hexV;split
 · omega
 · split
   · omega
   · split <;> omega
theorem hexRun_yes (k : Nat) (b : UInt8) (t : List UInt8) (n : Int) (h : 0 <= hexV b.toNat) : hexRun (k + 1) (b :: t) n = ((hexRun k t (16 * n + hexV b.toNat)).1 + 1, (hexRun k t (16 * n + hexV b.toNat)).2) := if_pos h
theorem hexRun_no (k : Nat) (b : UInt8) (t : List UInt8) (n : Int) (h : ¬ 0 <= hexV b.toNat) : hexRun (k + 1) (b :: t) n = (0, n) := if_neg h
theorem Run_step {t : List UInt8} {j : Nat} {m : Int} (h : Run t j m) (hj : j < 6) (hl : j < t.length) (hv : 0 <= hexV (t[j]'hl).toNat) : Run t (j + 1) (16 * m + hexV (t[j]'hl).toNat) := by
 obtain ⟨h1, h2, h3, h4⟩ := h;have e : t.drop j = t[j] :: t.drop (j + 1) := List.drop_eq_getElem_cons hl;have e6 : 6 - j = (6 - (j + 1)) + 1 := by omega
 have hb := hexV_bd (t[j]'hl).toNat;rw [e, e6, hexRun_yes _ _ _ _ hv] at h1 h2;refine ⟨?_, h2, by omega, ?_⟩
 · rw [h1]; show j + (_ + 1) = _; omega
 · rw [Int.pow_succ]; omega
theorem Run_end {t : List UInt8} {j : Nat} {m : Int} (h : Run t j m) (he : t.length <= j \/ 6 <= j \/ ∃ hl : j < t.length, hexV (t[j]'hl).toNat < 0) : (hexRun 6 t 0).1 = j /\ (hexRun 6 t 0).2 = m := by
 obtain ⟨h1, h2, _, _⟩ := h;have hz : hexRun (6 - j) (t.drop j) m = (0, m) := by
  rcases he with he | he | ⟨hl, he⟩
  · rw [List.drop_eq_nil_of_le he];cases 6 - j <;> rfl
  · rw [show 6 - j = 0 by omega]; rfl
  · have e : t.drop j = t[j] :: t.drop (j + 1) := List.drop_eq_getElem_cons hl;rw [e];cases 6 - j with
    | zero => rfl
    | succ k => exact hexRun_no _ _ _ _ (by omega)
 rw [hz] at h1 h2;exact ⟨h1, h2⟩
theorem Run_bd {t : List UInt8} {j : Nat} {m : Int} (h : Run t j m) (hj : j <= 6) : 0 <= m /\ m <= 16777215 := by
 obtain ⟨_, _, h3, h4⟩ := h;have : (16 : Int) ^ j <= 16 ^ 6 := by
  have := Nat.pow_le_pow_right (n := 16) (by decide) hj;exact_mod_cast this
 have e : (16 : Int) ^ 6 = 16777216 := by decide
 omega
theorem Run_bd5 {t : List UInt8} {j : Nat} {m : Int} (h : Run t j m) (hj : j <= 5) : m <= 1048575 := by
 obtain ⟨_, _, h3, h4⟩ := h;have : (16 : Int) ^ j <= 16 ^ 5 := by
  have := Nat.pow_le_pow_right (n := 16) (by decide) hj;exact_mod_cast this
 have e : (16 : Int) ^ 5 = 1048576 := by decide
 omega
theorem escL_cons (b : UInt8) (t : List UInt8) : escL (b :: t) =
 if b.toNat = 92 \/ b.toNat = 39 then ((b.toNat : Int), 1)
 else if b.toNat = 110 then (10, 1)
 else if b.toNat = 116 then (9, 1)
 else if b.toNat = 120 then
  (if (hexRun 6 t 0).1 = 0 \/ t.length <= (hexRun 6 t 0).1 \/ (t.getD (hexRun 6 t 0).1 0).toNat ≠ 92 \/ 1114111 < (hexRun 6 t 0).2 \/ (55296 <= (hexRun 6 t 0).2 /\ (hexRun 6 t 0).2 <= 57343) then (0, 0)
   else ((hexRun 6 t 0).2, (hexRun 6 t 0).1 + 2))
 else (0, 0) := rfl
theorem escL_x {b : UInt8} {t : List UInt8} {j : Nat} {m : Int} (hb : b.toNat = 120) (h1 : (hexRun 6 t 0).1 = j) (h2 : (hexRun 6 t 0).2 = m) :
 escL (b :: t) = if j = 0 \/ t.length <= j \/ (t.getD j 0).toNat ≠ 92 \/ 1114111 < m \/ (55296 <= m /\ m <= 57343) then (0, 0) else (m, j + 2) := by
 rw [escL_cons, if_neg (show ¬ (b.toNat = 92 \/ b.toNat = 39) by omega), if_neg (show ¬ b.toNat = 110 by omega), if_neg (show ¬ b.toNat = 116 by omega), if_pos hb, h1, h2]
set_option maxRecDepth 100000 in
set_option maxHeartbeats 2000000 in
theorem ref_escaped (s : ByteArray) (w : World) (hs : s.size <= 200000) :
 Calls Tryz.prog 73 #[.string s] w fun e w' => e = .returned (.tuple #[.int .i32 (escL s.data.toList).1, .int .i64 ((escL s.data.toList).2 : Nat)]) /\ w = w' := by
 by_cases h0 : s.size = 0
 · have hl : s.data.toList = [] := List.eq_nil_of_length_eq_zero (by simpa using h0);have f0 : s.toList.isEmpty = true := by rw [ByteArray.toList_eq, hl]; rfl
   rw [hl];clear h0 hl;go_enter Tryz.func73, Tryz.ntmps73;go_wp2_with fail;go_ret2;exact ⟨rfl, rfl⟩
 have f0 : s.toList.isEmpty = false := by rw [ByteArray.toList_eq, List.isEmpty_eq_false_iff]; exact list_ne s h0
 have hpos : 0 < s.size := by omega
 obtain ⟨t, ht⟩ : ∃ t, s.data.toList = s[0] :: t := ⟨s.data.toList.drop 1, by
  have h1 : s.data.toList.drop 0 = s.data.toList[0]'(by simpa using hpos) :: s.data.toList.drop 1 := List.drop_eq_getElem_cons (by simpa using hpos);exact h1⟩
 have htl : t.length + 1 = s.size := by rw [<- size_list, ht]; rfl
 have hget : ∀ j (h : j < t.length) (h2 : j + 1 < s.size), s[j + 1]'h2 = t[j]'h := fun j h h2 => by
  have e1 : s[j + 1]'h2 = s.data.toList[j + 1]'(by rw [size_list]; exact h2) := rfl;rw [e1];simp only [ht, List.getElem_cons_succ]
 rw [ht];have hb0 : s[0].toNat < 256 := s[0].toNat_lt;have HG := Lib.hid hget;have HTL := Lib.hid htl;clear h0 hget ht htl;by_cases h1 : s[0].toNat = 92 \/ s[0].toNat = 39
 · have hR : escL (s[0] :: t) = ((s[0].toNat : Int), 1) := by rw [escL_cons, if_pos h1]
   rw [hR];clear hR;rcases h1 with h1 | h1
   · have e1 : ((s[0].toNat : Int) == 92) = true := by simp; omega
     clear h1;go_enter Tryz.func73, Tryz.ntmps73;go_wp2_with fail;go_ret2;exact ⟨rfl, rfl⟩
   · have e1 : ((s[0].toNat : Int) == 92) = false := by simp; omega
     have e2 : ((s[0].toNat : Int) == 39) = true := by simp; omega
     clear h1;go_enter Tryz.func73, Tryz.ntmps73;go_wp2_with fail;go_ret2;exact ⟨rfl, rfl⟩
 have e1 : ((s[0].toNat : Int) == 92) = false := by simp; omega
 have e2 : ((s[0].toNat : Int) == 39) = false := by simp; omega
 by_cases h2 : s[0].toNat = 110
 · have hR : escL (s[0] :: t) = (10, 1) := by rw [escL_cons, if_neg h1, if_pos h2]
   have e3 : ((s[0].toNat : Int) == 110) = true := by simp; omega
   rw [hR];clear hR h1 h2;go_enter Tryz.func73, Tryz.ntmps73;go_wp2_with fail;go_ret2;exact ⟨rfl, rfl⟩
 have e3 : ((s[0].toNat : Int) == 110) = false := by simp; omega
 by_cases h3 : s[0].toNat = 116
 · have hR : escL (s[0] :: t) = (9, 1) := by rw [escL_cons, if_neg h1, if_neg h2, if_pos h3]
   have e4 : ((s[0].toNat : Int) == 116) = true := by simp; omega
   rw [hR];clear hR h1 h2 h3;go_enter Tryz.func73, Tryz.ntmps73;go_wp2_with fail;go_ret2;exact ⟨rfl, rfl⟩
 have e4 : ((s[0].toNat : Int) == 116) = false := by simp; omega
 by_cases h4 : s[0].toNat = 120
 · have e5 : ((s[0].toNat : Int) == 120) = true := by simp; omega
   have hX := fun j m => escL_x (b := s[0]) (t := t) (j := j) (m := m) h4;generalize escL (s[0] :: t) = E at hX ⊢;have HX := Lib.hid hX;clear h1 h2 h3 h4 hX;go_enter Tryz.func73, Tryz.ntmps73;go_wp2_with fail;clear e1 e2 e3 e4 e5 f0 hb0;go_loop [4, 5] (fun n i => ∃ (j : Nat) (m : Int), j <= 6 /\ j + 1 <= s.size /\ i = .int .i64 (j + 1 : Nat) /\ n = .int .i32 m /\ Hid (Run t j m)) (fun _ i => s.size - (intOf i).toNat)
   case atStart => exact ⟨0, 0, by omega, by omega, rfl, rfl, Lib.hid (Run_start t)⟩
   case round =>
    obtain ⟨j, m, hj, hjs, rfl, rfl, HRn⟩ := hrel;have hmb := Run_bd HRn.out hj;obtain ⟨hm0, hm1⟩ := hmb;by_cases hlt : j + 1 < s.size
    · have hlt2 : j < t.length := by have := HTL.out; omega
      have hgj := HG.out j hlt2 hlt;have hbb : (s[j + 1]'hlt).toNat < 256 := (s[j + 1]'hlt).toNat_lt;have cV := fun w => ref_value (s[j + 1]'hlt).toNat hbb w;have hvb := hexV_bd (s[j + 1]'hlt).toNat;by_cases hj6 : j < 6
      · by_cases hv : 0 <= hexV (s[j + 1]'hlt).toNat
        · have hst := Run_step HRn.out hj6 hlt2 (by rw [<- hgj]; exact hv);rw [<- hgj] at hst;have HST := Lib.hid hst;have h5 := Run_bd5 HRn.out (by omega);have HV := Lib.hid cV;obtain ⟨hv1, hv2⟩ := hvb;clear hst cV hgj HRn;generalize hexV (s[j + 1]'hlt).toNat = q at *;go_wp2_with fail;refine (HV.out _).mono ?_; rintro e w' ⟨rfl, rfl⟩;go_wp2_with fail;refine (HV.out _).mono ?_; rintro e w' ⟨rfl, rfl⟩;go_wp2_with fail;go_round
          case rel => exact ⟨j + 1, _, by omega, by omega, by go_num, rfl, HST⟩
          case measure => simp [intOf]; omega
        · have HK := Lib.hid (Run_end HRn.out (.inr (.inr ⟨hlt2, by rw [<- hgj]; omega⟩)));have HV := Lib.hid cV;clear cV;obtain ⟨hv1, hv2⟩ := hvb;have hv3 : hexV (s[j + 1]'hlt).toNat < 0 := by omega
          generalize hexV (s[j + 1]'hlt).toNat = q at *;have HGJ := Lib.hid hgj;clear hv hgj;by_cases hj0 : j = 0
          · have hR : E = (0, 0) := by rw [HX.out j m HK.out.1 HK.out.2]; exact if_pos (.inl hj0)
            have HE := Lib.hid hR;have hjz : (j : Int) <= 0 := by omega
            clear hj0;clear hR HX HRn;go_wp2_with fail;refine (HV.out _).mono ?_; rintro e w' ⟨rfl, rfl⟩;go_wp2_with fail;go_ret2;exact ⟨ret_pair (by rw [HE.out]) (by rw [HE.out]; rfl), rfl⟩
          have hjp : (0 : Int) < (j : Int) := by omega
          have ej : ((j : Int) + 1 == 1) = false := by simp; omega
          have hgd : (t.getD j 0).toNat = (s[j + 1]'hlt).toNat := by rw [HGJ.out, List.getD, List.getElem?_eq_getElem hlt2]; rfl
          by_cases h92 : (s[j + 1]'hlt).toNat = 92
          · have hne : ((((s[j + 1]'hlt).toNat : Nat) : Int) != 92) = false := by simp; omega
            by_cases hbig : 1114111 < m
            · have hR : E = (0, 0) := by rw [HX.out j m HK.out.1 HK.out.2]; exact if_pos (.inr (.inr (.inr (.inl hbig))))
              have HE := Lib.hid hR;clear hR HX HRn hgd h92;go_wp2_with fail;refine (HV.out _).mono ?_; rintro e w' ⟨rfl, rfl⟩;go_wp2_with fail;go_ret2;exact ⟨ret_pair (by rw [HE.out]) (by rw [HE.out]; rfl), rfl⟩
            by_cases hsur : 55296 <= m /\ m <= 57343
            · have hR : E = (0, 0) := by rw [HX.out j m HK.out.1 HK.out.2]; exact if_pos (.inr (.inr (.inr (.inr hsur))))
              have HE := Lib.hid hR;obtain ⟨hsu1, hsu2⟩ := hsur;clear hR HX HRn hgd h92 hbig;go_wp2_with fail;refine (HV.out _).mono ?_; rintro e w' ⟨rfl, rfl⟩;go_wp2_with fail;go_ret2;exact ⟨ret_pair (by rw [HE.out]) (by rw [HE.out]; rfl), rfl⟩
            have hR : E = (m, j + 2) := by rw [HX.out j m HK.out.1 HK.out.2]; exact if_neg (by rw [hgd]; have := HTL.out; omega)
            have HE := Lib.hid hR;have hmm : m < 55296 \/ 57343 < m := by omega
            have hbig2 : m <= 1114111 := by omega
            clear hR HX HRn hgd h92 hsur hbig;rcases hmm with hmm | hmm
            all_goals
             go_wp2_with fail;refine (HV.out _).mono ?_; rintro e w' ⟨rfl, rfl⟩;go_wp2_with fail;go_ret2;exact ⟨ret_pair (by rw [HE.out]; first | done | rfl) (by rw [HE.out]; first | done | rfl | (show _ = (((j + 2 : Nat) : Nat) : Int); omega)), rfl⟩
          · have hne : ((((s[j + 1]'hlt).toNat : Nat) : Int) != 92) = true := by simp; omega
            have hR : E = (0, 0) := by rw [HX.out j m HK.out.1 HK.out.2]; exact if_pos (.inr (.inr (.inl (by rw [hgd]; exact h92))))
            have HE := Lib.hid hR;clear hR HX HRn hgd h92;go_wp2_with fail;refine (HV.out _).mono ?_; rintro e w' ⟨rfl, rfl⟩;go_wp2_with fail;go_ret2;exact ⟨ret_pair (by rw [HE.out]) (by rw [HE.out]; rfl), rfl⟩
      · have HK := Lib.hid (Run_end HRn.out (.inr (.inl (by omega))));have hj7 : (6 : Int) <= (j : Int) := by omega
        have HGJ := Lib.hid hgj;clear cV hvb hgj;have hjp : (0 : Int) < (j : Int) := by omega
        have ej : ((j : Int) + 1 == 1) = false := by simp; omega
        have hgd : (t.getD j 0).toNat = (s[j + 1]'hlt).toNat := by rw [HGJ.out, List.getD, List.getElem?_eq_getElem hlt2]; rfl
        by_cases h92 : (s[j + 1]'hlt).toNat = 92
        · have hne : ((((s[j + 1]'hlt).toNat : Nat) : Int) != 92) = false := by simp; omega
          by_cases hbig : 1114111 < m
          · have hR : E = (0, 0) := by rw [HX.out j m HK.out.1 HK.out.2]; exact if_pos (.inr (.inr (.inr (.inl hbig))))
            have HE := Lib.hid hR;clear hR HX HRn hgd h92;go_wp2_with fail;go_ret2;exact ⟨ret_pair (by rw [HE.out]) (by rw [HE.out]; rfl), rfl⟩
          by_cases hsur : 55296 <= m /\ m <= 57343
          · have hR : E = (0, 0) := by rw [HX.out j m HK.out.1 HK.out.2]; exact if_pos (.inr (.inr (.inr (.inr hsur))))
            have HE := Lib.hid hR;obtain ⟨hsu1, hsu2⟩ := hsur;clear hR HX HRn hgd h92 hbig;go_wp2_with fail;go_ret2;exact ⟨ret_pair (by rw [HE.out]) (by rw [HE.out]; rfl), rfl⟩
          have hR : E = (m, j + 2) := by rw [HX.out j m HK.out.1 HK.out.2]; exact if_neg (by rw [hgd]; have := HTL.out; omega)
          have HE := Lib.hid hR;have hmm : m < 55296 \/ 57343 < m := by omega
          have hbig2 : m <= 1114111 := by omega
          clear hR HX HRn hgd h92 hsur hbig;rcases hmm with hmm | hmm
          all_goals
           go_wp2_with fail;go_ret2;exact ⟨ret_pair (by rw [HE.out]; first | done | rfl) (by rw [HE.out]; first | done | rfl | (show _ = (((j + 2 : Nat) : Nat) : Int); omega)), rfl⟩
        · have hne : ((((s[j + 1]'hlt).toNat : Nat) : Int) != 92) = true := by simp; omega
          have hR : E = (0, 0) := by rw [HX.out j m HK.out.1 HK.out.2]; exact if_pos (.inr (.inr (.inl (by rw [hgd]; exact h92))))
          have HE := Lib.hid hR;clear hR HX HRn hgd h92;go_wp2_with fail;go_ret2;exact ⟨ret_pair (by rw [HE.out]) (by rw [HE.out]; rfl), rfl⟩
    · have HK := Lib.hid (Run_end HRn.out (.inl (by have := HTL.out; omega)));have hle : (s.size : Int) <= (j : Int) + 1 := by omega
      have hR : E = (0, 0) := by rw [HX.out j m HK.out.1 HK.out.2]; exact if_pos (.inr (.inl (by have := HTL.out; omega)))
      have HE := Lib.hid hR;clear hR HX HRn;by_cases hj0 : j = 0
      · subst hj0;go_wp2_with fail;go_ret2;exact ⟨ret_pair (by rw [HE.out]) (by rw [HE.out]; rfl), rfl⟩
      · have hjp : (0 : Int) < (j : Int) := by omega
        clear hj0;go_wp2_with fail;go_ret2;exact ⟨ret_pair (by rw [HE.out]) (by rw [HE.out]; rfl), rfl⟩
 · have e5 : ((s[0].toNat : Int) == 120) = false := by simp; omega
   have hR : escL (s[0] :: t) = (0, 0) := by rw [escL_cons, if_neg h1, if_neg h2, if_neg h3, if_neg h4]
   rw [hR];clear hR h1 h2 h3 h4;go_enter Tryz.func73, Tryz.ntmps73;go_wp2_with fail;go_ret2;exact ⟨rfl, rfl⟩
theorem ret_three {a b : ByteArray} {c d e f : Int} (h1 : a = b) (h2 : c = d) (h3 : e = f) : Ending.returned (.tuple #[.string a, .int .i64 c, .int .i64 e]) = .returned (.tuple #[.string b, .int .i64 d, .int .i64 f]) := by rw [h1, h2, h3]
theorem head_eq (s : ByteArray) (h : 0 < s.size) : s.data.toList.headD 0 = s[0] := by
 have h1 : s.data.toList.drop 0 = s.data.toList[0]'(by simpa using h) :: s.data.toList.drop 1 := List.drop_eq_getElem_cons (by simpa using h);rw [List.drop_zero] at h1;rw [h1];rfl
theorem drop_ne (s : ByteArray) (p : Nat) (h : p < s.size) : s.data.toList.drop p ≠ [] := fun e => by
 have h1 := congrArg List.length e;rw [List.length_drop, size_list] at h1;simp at h1
 omega
theorem getD_drop1 (s : ByteArray) (p : Nat) (h : p + 1 < s.size) : (s.data.toList.drop p).getD 1 0 = s[p + 1] := by
 have h1 : p + 1 < s.data.toList.length := by rw [size_list]; exact h
 rw [List.getD, List.getElem?_drop, List.getElem?_eq_getElem h1];rfl
theorem toNat39 (b : UInt8) : b = 39 ↔ b.toNat = 39 := by
 constructor
 · rintro rfl; rfl
 · intro h; exact UInt8.toNat_inj.1 h
set_option maxRecDepth 100000 in
set_option maxHeartbeats 4000000 in
theorem ref_Read (s : ByteArray) (w : World) (hs : s.size <= 200000) (hT : Tabs w) :
 Calls Tryz.prog 51 #[.string s] w fun e w' =>
  e = .returned (.tuple #[.string ⟨(readS s.data.toList).toArray⟩, .int .i64 (readK s.data.toList : Nat), .int .i64 (readX s.data.toList)]) /\ Below w.heap.size w w' := by
 have HT := Lib.hid hT;clear hT;by_cases h0 : s.size = 0
 · have hl : s.data.toList = [] := List.eq_nil_of_length_eq_zero (by simpa using h0);have f0 : s.toList.isEmpty = true := by rw [ByteArray.toList_eq, hl]; rfl
   have HR := Lib.hid (read_none (l := s.data.toList) (readL_no _ (by rw [hl]; decide)));clear h0 hl;go_enter Tryz.func51, Tryz.ntmps51;go_wp2_with fail;go_ret3;exact ⟨ret_three (by rw [HR.out.1]) (by rw [HR.out.2.1]; rfl) (by rw [HR.out.2.2]), Below.refl _ _⟩
 have f0 : s.toList.isEmpty = false := by rw [ByteArray.toList_eq, List.isEmpty_eq_false_iff]; exact list_ne s h0
 have hpos : 0 < s.size := by omega
 have hhd := head_eq s hpos;by_cases h39 : s[0].toNat = 39
 · have e39 : (((s[0].toNat : Nat) : Int) != 39) = false := by simp; omega
   have hL := readL_eq s.data.toList (by rw [hhd, toNat39]; exact h39);have HL := Lib.hid hL;clear h0 hhd h39 hL;go_enter Tryz.func51, Tryz.ntmps51;go_wp2_with fail;clear f0 e39;go_loopw [5, 6] (fun ov av wr => ∃ (p : Nat) (o : ByteArray), 1 <= p /\ p <= s.size /\ av = .int .i64 (p : Nat) /\ ov = .string o /\ o.size <= 4 * p /\ Below w.heap.size w wr /\ Hid (readL s.data.toList = readAt (s.data.toList.drop p) o.data.toList p)) (fun _ av _ => s.size - (intOf av).toNat)
   case atStart => exact ⟨1, ⟨#[]⟩, by omega, by omega, rfl, rfl, by decide, Below.refl _ _, HL⟩
   case round =>
    obtain ⟨p, o, hp1, hp2, rfl, rfl, hoz, hbw, HA⟩ := hrel;by_cases hlt : p < s.size
    · have hne := drop_ne s p hlt;have hst := readAt_step (s.data.toList.drop p) o.data.toList p hne;rw [<- HA.out] at hst;have hw1 := Lib.decodeL_width (s.data.toList.drop p);have hw2 := Lib.decodeL_le (s.data.toList.drop p) hne;have hrn := Lib.decodeL_rune (s.data.toList.drop p);rw [List.length_drop, size_list] at hw2;have hxz : (s.extract p s.size).size ≠ 0 := by simp; omega
      have cD := fun w (hT : Tabs w) => Tryz.utf8_DecodeRuneInString (s.extract p s.size) w hT.1;rw [decodeGo_eq _ hxz, extract_drop] at cD;have HD := Lib.hid cD;rw [List.drop_drop, List.drop_drop, List.drop_drop] at hst;have hdl : (s.data.toList.drop p).length = s.size - p := by rw [List.length_drop, size_list]
      rw [hdl] at hst;have HS := Lib.hid hst;clear hst cD hxz hne hdl;generalize (Lib.decodeL (s.data.toList.drop p)).1 = c at *;generalize (Lib.decodeL (s.data.toList.drop p)).2 = n at *;have hcs : c = 39 \/ c = 92 \/ (c < 32 \/ (c = 65533 /\ n = 1)) \/ ((32 <= c /\ c ≠ 39 /\ c ≠ 92) /\ ¬ (c = 65533 /\ n = 1)) := by omega
      have hHD := HD.out;obtain ⟨ci, hci⟩ : ∃ ci : Int, (c : Int) = ci := ⟨_, rfl⟩;rw [hci] at hHD;have HDD := Lib.hid hHD;have HCI := Lib.hid hci;have hez := encode_size ci;obtain ⟨hez1, hez2⟩ := hez;clear hHD HD HA HL;have HW := fun (wr1 : World) (hb1 : Below wr.heap.size wr wr1) => hbw.trans (hb1.mono hbw.size);have HWW := Lib.hid HW;clear HW;rcases hcs with hc | hc | hc | hc
      · have e39 : (ci == 39) = true := by rw [<- hci, hc]; rfl
        by_cases hn : p + 1 < s.size
        · by_cases hq : (s[p + 1]'hn).toNat = 39
          · have eq1 : ((((s[p + 1]'hn).toNat : Nat) : Int) != 39) = false := by simp; omega
            have hnext : readL s.data.toList = readAt (s.data.toList.drop (p + 2)) (o ++ Utf8.encode ci).data.toList (p + 2) := by
             rw [HS.out, if_pos hc, getD_drop1 s p hn, if_pos ⟨(toNat39 _).2 hq, by omega⟩, data_cat, <- hci, hc];rfl
            have HNX := Lib.hid hnext;have hoz2 : (o ++ Utf8.encode ci).size <= 4 * (p + 2) := by rw [ByteArray.size_append]; omega
            clear hc hci hq hnext HS HCI;go_wp2_with fail;refine (HDD.out _ (HT.out.on hbw)).mono ?_; rintro e w1 ⟨rfl, hb1⟩;have hbw1 := HWW.out _ hb1;clear hb1;go_wp2_with fail;go_roundw
            case rel => exact ⟨p + 2, _, by omega, by omega, by go_num, rfl, hoz2, hbw1, HNX⟩
            case measure => simp [intOf]; omega
          · have eq1 : ((((s[p + 1]'hn).toNat : Nat) : Int) != 39) = true := by simp; omega
            have hsome : readL s.data.toList = some (o.data.toList, p + 1) := by
             rw [HS.out, if_pos hc, getD_drop1 s p hn, if_neg (fun h => hq ((toNat39 _).1 h.1))]
            have HR := Lib.hid (read_some hsome);clear hc hci hq hsome HS HCI;go_wp2_with fail;refine (HDD.out _ (HT.out.on hbw)).mono ?_; rintro e w1 ⟨rfl, hb1⟩;have hbw1 := HWW.out _ hb1;clear hb1;go_wp2_with fail;go_ret3;exact ⟨ret_three (by rw [HR.out.1]; first | done | rfl) (by rw [HR.out.2.1]; go_num) (by rw [HR.out.2.2]), hbw1⟩
        · have hsome : readL s.data.toList = some (o.data.toList, p + 1) := by
           rw [HS.out, if_pos hc, if_neg (fun h => by omega)]
          have HR := Lib.hid (read_some hsome);have hn2 : (s.size : Int) <= (p : Int) + 1 := by omega
          clear hc hci hn hsome HS HCI;go_wp2_with fail;refine (HDD.out _ (HT.out.on hbw)).mono ?_; rintro e w1 ⟨rfl, hb1⟩;have hbw1 := HWW.out _ hb1;clear hb1;go_wp2_with fail;go_ret3;exact ⟨ret_three (by rw [HR.out.1]; first | done | rfl) (by rw [HR.out.2.1]; go_num) (by rw [HR.out.2.2]), hbw1⟩
      · have e39 : (ci == 39) = false := by rw [<- hci, hc]; rfl
        have e92 : (ci == 92) = true := by rw [<- hci, hc]; rfl
        have hEs := fun w => ref_escaped (s.extract (p + 1) s.size) w (by simp; omega);rw [extract_drop] at hEs;have hel := escL_le (s.data.toList.drop (p + 1));have her := escL_rune (s.data.toList.drop (p + 1));rw [List.length_drop, size_list] at hel;have hst := HS.out;rw [if_neg (by omega), if_pos hc] at hst;generalize (escL (s.data.toList.drop (p + 1))).1 = r at *;generalize (escL (s.data.toList.drop (p + 1))).2 = k at *;have HES := Lib.hid hEs;have hez3 := encode_size r;obtain ⟨hez4, hez5⟩ := hez3;by_cases hk : k = 0
        · have HR := Lib.hid (read_none (l := s.data.toList) (by rw [hst, if_pos hk]));have ek : ((k : Int) == 0) = true := by simp; omega
          clear hc hci hEs hst HS HCI hk her;go_wp2_with fail;refine (HDD.out _ (HT.out.on hbw)).mono ?_; rintro e w1 ⟨rfl, hb1⟩;have hbw1 := HWW.out _ hb1;clear hb1;go_wp2_with fail;refine (HES.out _).mono ?_; rintro e w' ⟨rfl, rfl⟩;go_wp2_with fail;go_ret3;exact ⟨ret_three (by rw [HR.out.1]) (by rw [HR.out.2.1]; rfl) (by rw [HR.out.2.2]), hbw1⟩
        · have ek : ((k : Int) == 0) = false := by simp; omega
          have hnext : readL s.data.toList = readAt (s.data.toList.drop (p + (k + 1))) (o ++ Utf8.encode r).data.toList (p + (k + 1)) := by
           rw [hst, if_neg hk, data_cat];rfl
          have HNX := Lib.hid hnext;have hoz2 : (o ++ Utf8.encode r).size <= 4 * (p + (k + 1)) := by rw [ByteArray.size_append]; omega
          clear hc hci hEs hst HS HCI hk hnext her;go_wp2_with fail;refine (HDD.out _ (HT.out.on hbw)).mono ?_; rintro e w1 ⟨rfl, hb1⟩;have hbw1 := HWW.out _ hb1;clear hb1;go_wp2_with fail;refine (HES.out _).mono ?_; rintro e w' ⟨rfl, rfl⟩;go_wp2_with fail;go_roundw
          case rel => exact ⟨p + (k + 1), _, by omega, by omega, by go_num, rfl, hoz2, hbw1, HNX⟩
          case measure => simp [intOf]; omega
      · have HR := Lib.hid (read_none (l := s.data.toList) (by rw [HS.out, if_neg (by omega), if_neg (by omega), if_pos hc]));have e39 : (ci == 39) = false := by rw [<- hci]; simp; omega
        have e92 : (ci == 92) = false := by rw [<- hci]; simp; omega
        have hcc : ci < 32 \/ (32 <= ci /\ (ci == 65533) = true /\ ((n : Int) == 1) = true) := by
         rcases hc with hc | ⟨hc, hn1⟩
         · left; omega
         · right; refine ⟨by omega, by rw [<- hci, hc]; rfl, by simp; omega⟩
        clear hc hci HS HCI;rcases hcc with hcc | ⟨hcc, hcd, hce⟩
        all_goals
         go_wp2_with fail;refine (HDD.out _ (HT.out.on hbw)).mono ?_; rintro e w1 ⟨rfl, hb1⟩;have hbw1 := HWW.out _ hb1;clear hb1;go_wp2_with fail;go_ret3;exact ⟨ret_three (by rw [HR.out.1]) (by rw [HR.out.2.1]; rfl) (by rw [HR.out.2.2]), hbw1⟩
      · obtain ⟨⟨hc1, hc2, hc3⟩, hc4⟩ := hc;have hnext : readL s.data.toList = readAt (s.data.toList.drop (p + n)) (o ++ Utf8.encode ci).data.toList (p + n) := by
         rw [HS.out, if_neg hc2, if_neg hc3, if_neg (by omega), data_cat, <- hci, List.drop_drop];rfl
        have HNX := Lib.hid hnext;have e39 : (ci == 39) = false := by rw [<- hci]; simp; omega
        have e92 : (ci == 92) = false := by rw [<- hci]; simp; omega
        have g32 : 32 <= ci := by omega
        have hcd : (ci == 65533) = false \/ ((ci == 65533) = true /\ ((n : Int) == 1) = false) := by
         by_cases h65 : c = 65533
         · right; exact ⟨by rw [<- hci, h65]; rfl, by simp; omega⟩
         · left; rw [<- hci]; simp; omega
        have hoz2 : (o ++ Utf8.encode ci).size <= 4 * (p + n) := by rw [ByteArray.size_append]; omega
        clear hc1 hc2 hc3 hc4 hci HS HCI hnext;rcases hcd with hcd | ⟨hcd, hce⟩
        all_goals
         go_wp2_with fail;refine (HDD.out _ (HT.out.on hbw)).mono ?_; rintro e w1 ⟨rfl, hb1⟩;have hbw1 := HWW.out _ hb1;clear hb1;go_wp2_with fail;go_roundw
         case rel => exact ⟨p + n, _, by omega, by omega, by go_num, rfl, hoz2, hbw1, HNX⟩
         case measure => simp [intOf]; omega
    · have HR := Lib.hid (read_none (l := s.data.toList) (by rw [HA.out, List.drop_eq_nil_of_le (by rw [size_list]; omega)]; rfl));clear HA;go_wp2_with fail;go_ret3;exact ⟨ret_three (by rw [HR.out.1]) (by rw [HR.out.2.1]; rfl) (by rw [HR.out.2.2]), hbw⟩
 · have e39 : (((s[0].toNat : Nat) : Int) != 39) = true := by simp; omega
   have HR := Lib.hid (read_none (l := s.data.toList) (readL_no _ (by rw [hhd]; intro e; exact h39 ((toNat39 _).1 e))));clear h0 hhd h39;go_enter Tryz.func51, Tryz.ntmps51;go_wp2_with fail;go_ret3;exact ⟨ret_three (by rw [HR.out.1]) (by rw [HR.out.2.1]; rfl) (by rw [HR.out.2.2]), Below.refl _ _⟩
end Go.Proofs.YtdjejbgokamjeaaGreatDoor
