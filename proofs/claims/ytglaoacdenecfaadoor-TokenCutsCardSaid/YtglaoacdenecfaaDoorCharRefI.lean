/-
  The contract of the document's own Read for char.
-/
import Derived.Test.YtglaoacdenecfaaDoorCharRefH
import Derived.Test.YtglaoacdenecfaaDoorCharReadM
namespace Go.Proofs.YtglaoacdenecfaaDoor
open Go.RowKit

/-- Read's three answers. -/
theorem ret_three {a b : ByteArray} {c d e f : Int} (h1 : a = b) (h2 : c = d) (h3 : e = f) : Ending.returned (.tuple #[.string a, .int .i64 c, .int .i64 e]) = .returned (.tuple #[.string b, .int .i64 d, .int .i64 f]) := by rw [h1, h2, h3]
theorem head_eq (s : ByteArray) (h : 0 < s.size) : s.data.toList.headD 0 = s[0] := by
  have h1 : s.data.toList.drop 0 = s.data.toList[0]'(by simpa using h) :: s.data.toList.drop 1 := List.drop_eq_getElem_cons (by simpa using h)
  rw [List.drop_zero] at h1
  rw [h1]
  rfl
theorem drop_ne (s : ByteArray) (p : Nat) (h : p < s.size) : s.data.toList.drop p ≠ [] := fun e => by
  have h1 := congrArg List.length e
  rw [List.length_drop, size_list] at h1
  simp at h1
  omega
theorem getD_drop1 (s : ByteArray) (p : Nat) (h : p + 1 < s.size) : (s.data.toList.drop p).getD 1 0 = s[p + 1] := by
  have h1 : p + 1 < s.data.toList.length := by rw [size_list]; exact h
  rw [List.getD, List.getElem?_drop, List.getElem?_eq_getElem h1]
  rfl
theorem toNat39 (b : UInt8) : b = 39 ↔ b.toNat = 39 := by
  constructor
  · rintro rfl; rfl
  · intro h; exact UInt8.toNat_inj.1 h

set_option maxRecDepth 100000 in
set_option maxHeartbeats 4000000 in
theorem ref_Read (s : ByteArray) (w : World) (hs : s.size ≤ 200000) (hT : Tabs w) :
    Calls Tryd.prog 39 #[.string s] w fun e w' =>
      e = .returned (.tuple #[.string ⟨(readS s.data.toList).toArray⟩, .int .i64 (readK s.data.toList : Nat), .int .i64 (readX s.data.toList)]) ∧ Below w.heap.size w w' := by
  have HT := Lib.hid hT
  clear hT
  by_cases h0 : s.size = 0
  · have hl : s.data.toList = [] := List.eq_nil_of_length_eq_zero (by simpa using h0)
    have f0 : s.toList.isEmpty = true := by rw [ByteArray.toList_eq, hl]; rfl
    have HR := Lib.hid (read_none (l := s.data.toList) (readL_no _ (by rw [hl]; decide)))
    clear h0 hl
    go_enter Tryd.func39, Tryd.ntmps39
    go_wp2_with fail
    go_ret3
    exact ⟨ret_three (by rw [HR.out.1]) (by rw [HR.out.2.1]; rfl) (by rw [HR.out.2.2]), Below.refl _ _⟩
  have f0 : s.toList.isEmpty = false := by rw [ByteArray.toList_eq, List.isEmpty_eq_false_iff]; exact list_ne s h0
  have hpos : 0 < s.size := by omega
  have hhd := head_eq s hpos
  by_cases h39 : s[0].toNat = 39
  · have e39 : (((s[0].toNat : Nat) : Int) != 39) = false := by simp; omega
    have hL := readL_eq s.data.toList (by rw [hhd, toNat39]; exact h39)
    have HL := Lib.hid hL
    clear h0 hhd h39 hL
    go_enter Tryd.func39, Tryd.ntmps39
    go_wp2_with fail
    clear f0 e39
    go_loopw [5, 6] (fun ov av wr => ∃ (p : Nat) (o : ByteArray), 1 ≤ p ∧ p ≤ s.size ∧ av = .int .i64 (p : Nat) ∧ ov = .string o ∧ o.size ≤ 4 * p ∧ Below w.heap.size w wr ∧ Hid (readL s.data.toList = readAt (s.data.toList.drop p) o.data.toList p)) (fun _ av _ => s.size - (intOf av).toNat)
    case atStart => exact ⟨1, ⟨#[]⟩, by omega, by omega, rfl, rfl, by decide, Below.refl _ _, HL⟩
    case round =>
      obtain ⟨p, o, hp1, hp2, rfl, rfl, hoz, hbw, HA⟩ := hrel
      by_cases hlt : p < s.size
      · have hne := drop_ne s p hlt
        have hst := readAt_step (s.data.toList.drop p) o.data.toList p hne
        rw [← HA.out] at hst
        have hw1 := Lib.decodeL_width (s.data.toList.drop p)
        have hw2 := Lib.decodeL_le (s.data.toList.drop p) hne
        have hrn := Lib.decodeL_rune (s.data.toList.drop p)
        rw [List.length_drop, size_list] at hw2
        have hxz : (s.extract p s.size).size ≠ 0 := by simp; omega
        have cD := fun w (hT : Tabs w) => Tryd.utf8_DecodeRuneInString (s.extract p s.size) w hT.1
        rw [decodeGo_eq _ hxz, extract_drop] at cD
        have HD := Lib.hid cD
        rw [List.drop_drop, List.drop_drop, List.drop_drop] at hst
        have hdl : (s.data.toList.drop p).length = s.size - p := by rw [List.length_drop, size_list]
        rw [hdl] at hst
        have HS := Lib.hid hst
        clear hst cD hxz hne hdl
        generalize (Lib.decodeL (s.data.toList.drop p)).1 = c at *
        generalize (Lib.decodeL (s.data.toList.drop p)).2 = n at *
        have hcs : c = 39 ∨ c = 92 ∨ (c < 32 ∨ (c = 65533 ∧ n = 1)) ∨ ((32 ≤ c ∧ c ≠ 39 ∧ c ≠ 92) ∧ ¬ (c = 65533 ∧ n = 1)) := by omega
        have hHD := HD.out
        obtain ⟨ci, hci⟩ : ∃ ci : Int, (c : Int) = ci := ⟨_, rfl⟩
        rw [hci] at hHD
        have HDD := Lib.hid hHD
        have HCI := Lib.hid hci
        have hez := encode_size ci
        obtain ⟨hez1, hez2⟩ := hez
        clear hHD HD HA HL
        have HW := fun (wr1 : World) (hb1 : Below wr.heap.size wr wr1) => hbw.trans (hb1.mono hbw.size)
        have HWW := Lib.hid HW
        clear HW
        rcases hcs with hc | hc | hc | hc
        · have e39 : (ci == 39) = true := by rw [← hci, hc]; rfl
          by_cases hn : p + 1 < s.size
          · by_cases hq : (s[p + 1]'hn).toNat = 39
            · have eq1 : ((((s[p + 1]'hn).toNat : Nat) : Int) != 39) = false := by simp; omega
              have hnext : readL s.data.toList = readAt (s.data.toList.drop (p + 2)) (o ++ Utf8.encode ci).data.toList (p + 2) := by
                rw [HS.out, if_pos hc, getD_drop1 s p hn, if_pos ⟨(toNat39 _).2 hq, by omega⟩, data_cat, ← hci, hc]
                rfl
              have HNX := Lib.hid hnext
              have hoz2 : (o ++ Utf8.encode ci).size ≤ 4 * (p + 2) := by rw [ByteArray.size_append]; omega
              clear hc hci hq hnext HS HCI
              go_wp2_with fail
              refine (HDD.out _ (HT.out.on hbw)).mono ?_; rintro e w1 ⟨rfl, hb1⟩
              have hbw1 := HWW.out _ hb1
              clear hb1
              go_wp2_with fail
              go_roundw
              case rel => exact ⟨p + 2, _, by omega, by omega, by go_num, rfl, hoz2, hbw1, HNX⟩
              case measure => simp [intOf]; omega
            · have eq1 : ((((s[p + 1]'hn).toNat : Nat) : Int) != 39) = true := by simp; omega
              have hsome : readL s.data.toList = some (o.data.toList, p + 1) := by
                rw [HS.out, if_pos hc, getD_drop1 s p hn, if_neg (fun h => hq ((toNat39 _).1 h.1))]
              have HR := Lib.hid (read_some hsome)
              clear hc hci hq hsome HS HCI
              go_wp2_with fail
              refine (HDD.out _ (HT.out.on hbw)).mono ?_; rintro e w1 ⟨rfl, hb1⟩
              have hbw1 := HWW.out _ hb1
              clear hb1
              go_wp2_with fail
              go_ret3
              exact ⟨ret_three (by rw [HR.out.1]; first | done | rfl) (by rw [HR.out.2.1]; go_num) (by rw [HR.out.2.2]), hbw1⟩
          · have hsome : readL s.data.toList = some (o.data.toList, p + 1) := by
              rw [HS.out, if_pos hc, if_neg (fun h => by omega)]
            have HR := Lib.hid (read_some hsome)
            have hn2 : (s.size : Int) ≤ (p : Int) + 1 := by omega
            clear hc hci hn hsome HS HCI
            go_wp2_with fail
            refine (HDD.out _ (HT.out.on hbw)).mono ?_; rintro e w1 ⟨rfl, hb1⟩
            have hbw1 := HWW.out _ hb1
            clear hb1
            go_wp2_with fail
            go_ret3
            exact ⟨ret_three (by rw [HR.out.1]; first | done | rfl) (by rw [HR.out.2.1]; go_num) (by rw [HR.out.2.2]), hbw1⟩
        · have e39 : (ci == 39) = false := by rw [← hci, hc]; rfl
          have e92 : (ci == 92) = true := by rw [← hci, hc]; rfl
          have hEs := fun w => ref_escaped (s.extract (p + 1) s.size) w (by simp; omega)
          rw [extract_drop] at hEs
          have hel := escL_le (s.data.toList.drop (p + 1))
          have her := escL_rune (s.data.toList.drop (p + 1))
          rw [List.length_drop, size_list] at hel
          have hst := HS.out
          rw [if_neg (by omega), if_pos hc] at hst
          generalize (escL (s.data.toList.drop (p + 1))).1 = r at *
          generalize (escL (s.data.toList.drop (p + 1))).2 = k at *
          have HES := Lib.hid hEs
          have hez3 := encode_size r
          obtain ⟨hez4, hez5⟩ := hez3
          by_cases hk : k = 0
          · have HR := Lib.hid (read_none (l := s.data.toList) (by rw [hst, if_pos hk]))
            have ek : ((k : Int) == 0) = true := by simp; omega
            clear hc hci hEs hst HS HCI hk her
            go_wp2_with fail
            refine (HDD.out _ (HT.out.on hbw)).mono ?_; rintro e w1 ⟨rfl, hb1⟩
            have hbw1 := HWW.out _ hb1
            clear hb1
            go_wp2_with fail
            refine (HES.out _).mono ?_; rintro e w' ⟨rfl, rfl⟩
            go_wp2_with fail
            go_ret3
            exact ⟨ret_three (by rw [HR.out.1]) (by rw [HR.out.2.1]; rfl) (by rw [HR.out.2.2]), hbw1⟩
          · have ek : ((k : Int) == 0) = false := by simp; omega
            have hnext : readL s.data.toList = readAt (s.data.toList.drop (p + (k + 1))) (o ++ Utf8.encode r).data.toList (p + (k + 1)) := by
              rw [hst, if_neg hk, data_cat]
              rfl
            have HNX := Lib.hid hnext
            have hoz2 : (o ++ Utf8.encode r).size ≤ 4 * (p + (k + 1)) := by rw [ByteArray.size_append]; omega
            clear hc hci hEs hst HS HCI hk hnext her
            go_wp2_with fail
            refine (HDD.out _ (HT.out.on hbw)).mono ?_; rintro e w1 ⟨rfl, hb1⟩
            have hbw1 := HWW.out _ hb1
            clear hb1
            go_wp2_with fail
            refine (HES.out _).mono ?_; rintro e w' ⟨rfl, rfl⟩
            go_wp2_with fail
            go_roundw
            case rel => exact ⟨p + (k + 1), _, by omega, by omega, by go_num, rfl, hoz2, hbw1, HNX⟩
            case measure => simp [intOf]; omega
        · have HR := Lib.hid (read_none (l := s.data.toList) (by rw [HS.out, if_neg (by omega), if_neg (by omega), if_pos hc]))
          have e39 : (ci == 39) = false := by rw [← hci]; simp; omega
          have e92 : (ci == 92) = false := by rw [← hci]; simp; omega
          have hcc : ci < 32 ∨ (32 ≤ ci ∧ (ci == 65533) = true ∧ ((n : Int) == 1) = true) := by
            rcases hc with hc | ⟨hc, hn1⟩
            · left; omega
            · right; refine ⟨by omega, by rw [← hci, hc]; rfl, by simp; omega⟩
          clear hc hci HS HCI
          rcases hcc with hcc | ⟨hcc, hcd, hce⟩
          all_goals
            go_wp2_with fail
            refine (HDD.out _ (HT.out.on hbw)).mono ?_; rintro e w1 ⟨rfl, hb1⟩
            have hbw1 := HWW.out _ hb1
            clear hb1
            go_wp2_with fail
            go_ret3
            exact ⟨ret_three (by rw [HR.out.1]) (by rw [HR.out.2.1]; rfl) (by rw [HR.out.2.2]), hbw1⟩
        · obtain ⟨⟨hc1, hc2, hc3⟩, hc4⟩ := hc
          have hnext : readL s.data.toList = readAt (s.data.toList.drop (p + n)) (o ++ Utf8.encode ci).data.toList (p + n) := by
            rw [HS.out, if_neg hc2, if_neg hc3, if_neg (by omega), data_cat, ← hci, List.drop_drop]
            rfl
          have HNX := Lib.hid hnext
          have e39 : (ci == 39) = false := by rw [← hci]; simp; omega
          have e92 : (ci == 92) = false := by rw [← hci]; simp; omega
          have g32 : 32 ≤ ci := by omega
          have hcd : (ci == 65533) = false ∨ ((ci == 65533) = true ∧ ((n : Int) == 1) = false) := by
            by_cases h65 : c = 65533
            · right; exact ⟨by rw [← hci, h65]; rfl, by simp; omega⟩
            · left; rw [← hci]; simp; omega
          have hoz2 : (o ++ Utf8.encode ci).size ≤ 4 * (p + n) := by rw [ByteArray.size_append]; omega
          clear hc1 hc2 hc3 hc4 hci HS HCI hnext
          rcases hcd with hcd | ⟨hcd, hce⟩
          all_goals
            go_wp2_with fail
            refine (HDD.out _ (HT.out.on hbw)).mono ?_; rintro e w1 ⟨rfl, hb1⟩
            have hbw1 := HWW.out _ hb1
            clear hb1
            go_wp2_with fail
            go_roundw
            case rel => exact ⟨p + n, _, by omega, by omega, by go_num, rfl, hoz2, hbw1, HNX⟩
            case measure => simp [intOf]; omega
      · have HR := Lib.hid (read_none (l := s.data.toList) (by rw [HA.out, List.drop_eq_nil_of_le (by rw [size_list]; omega)]; rfl))
        clear HA
        go_wp2_with fail
        go_ret3
        exact ⟨ret_three (by rw [HR.out.1]) (by rw [HR.out.2.1]; rfl) (by rw [HR.out.2.2]), hbw⟩
  · have e39 : (((s[0].toNat : Nat) : Int) != 39) = true := by simp; omega
    have HR := Lib.hid (read_none (l := s.data.toList) (readL_no _ (by rw [hhd]; intro e; exact h39 ((toNat39 _).1 e))))
    clear h0 hhd h39
    go_enter Tryd.func39, Tryd.ntmps39
    go_wp2_with fail
    go_ret3
    exact ⟨ret_three (by rw [HR.out.1]) (by rw [HR.out.2.1]; rfl) (by rw [HR.out.2.2]), Below.refl _ _⟩
end Go.Proofs.YtglaoacdenecfaaDoor
