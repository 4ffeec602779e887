/-
  The contracts of num.Read and num.lay: what a text of any bytes is read as.
-/
import Derived.Test.YtcelogngamijlaaDoorNumCalls
import Derived.Test.YtcelogngamijlaaDoorNumDigits
import Derived.Lib.OthersKept
import Derived.Laws.RangeAny
import Derived.Laws.RangeString
namespace Go.Proofs.YtcelogngamijlaaDoor
open Go.RowKit

set_option maxHeartbeats 400000 in
theorem num_lay (n d : Int) (w : World) (hn : In64 n) (hn0 : n ≤ 0) (hd0 : 0 ≤ d) (hd : d ≤ 9) :
    Calls Tryd.prog 35 #[.int .i64 n, .int .i64 d] w fun e w' => e = .returned (.tuple #[.int .i64 (chkV (n * 10 - d)), .int .i64 (chkE (n * 10 - d))]) ∧ w = w' := by
  by_cases h : In64 (n * 10)
  · have hM := num_Mul n 10 w hn (by unfold In64; omega)
    rw [chkV_in h, chkE_in h] at hM
    have HM := Lib.hid hM
    clear hM
    have hS := num_Sub (n * 10) d w h (by unfold In64; omega)
    have HS := Lib.hid hS
    clear hS
    go_enter Tryd.func35, Tryd.ntmps35
    go_wp2_with (first
      | (go_at_call 14; refine HM.out.mono ?_; rintro e w' ⟨rfl, rfl⟩)
      | (go_at_call 12; refine HS.out.mono ?_; rintro e w' ⟨rfl, rfl⟩))
    go_ret2
    exact ⟨rfl, rfl⟩
  · have hM := num_Mul n 10 w hn (by unfold In64; omega)
    rw [chkV_out h, chkE_out h] at hM
    have HM := Lib.hid hM
    clear hM
    go_enter Tryd.func35, Tryd.ntmps35
    go_wp2_with (go_at_call 14; refine HM.out.mono ?_; rintro e w' ⟨rfl, rfl⟩)
    go_ret2
    exact ⟨ans_out (by unfold In64 at *; omega), rfl⟩

theorem take_snoc (s : ByteArray) (k : Nat) (h : k < s.size) : s.data.toList.take (k + 1) = s.data.toList.take k ++ [s[k]] := by
  rw [List.take_succ_eq_append_getElem (by simpa using h)]; rfl
theorem take_drop (s : ByteArray) (k : Nat) (h : k < s.size) : s.data.toList = s.data.toList.take k ++ s[k] :: s.data.toList.drop (k + 1) := by
  have h1 : s.data.toList.drop k = s[k] :: s.data.toList.drop (k + 1) := List.drop_eq_getElem_cons (by simpa using h)
  rw [← h1, List.take_append_drop]
theorem take_nil (s : ByteArray) (k : Nat) (h : k < s.size) : s.data.toList.take k = [] ↔ k = 0 := by
  have : s.data.toList.length = s.size := by simp
  rw [List.take_eq_nil_iff]
  constructor
  · rintro (h1 | h1)
    · exact h1
    · rw [h1] at this
      have h2 : ([] : List UInt8).length = 0 := rfl
      omega
  · exact .inl

theorem bool_of (b : Bool) (p : List UInt8) (h : neg p = b) : Value.bool b = Value.bool (neg p) := by rw [h]

set_option maxRecDepth 100000 in
set_option maxHeartbeats 1000000 in
theorem num_Read (s : ByteArray) (w : World) (hs : s.size ≤ maxLen) :
    Calls Tryd.prog 31 #[.string s] w fun e w' => e = .returned (.tuple #[.int .i64 (readV s.data.toList), .int .i64 (readE s.data.toList)]) ∧ Below w.heap.size w w' := by
  have hs1 : s.size ≤ 9223372036854775807 := by unfold maxLen at hs; omega
  clear hs
  go_enter Tryd.func31, Tryd.ntmps31
  go_wp2
  go_loopw [4, 5, 6, 7] (fun b d n e wr => ∃ (pos : Nat) (m k : Int) (ng : Bool) (len : Nat), pos ≤ s.size ∧ wr.heap[w.heap.size]? = some (.stringIter s pos) ∧ Below w.heap.size w wr ∧
      b = .bool ng ∧ d = .int .i64 (len : Nat) ∧ n = .int .i64 m ∧ e = .int .i64 k ∧ St (s.data.toList.take pos) m k ∧ Hid (neg (s.data.toList.take pos) = ng) ∧ Hid ((body (s.data.toList.take pos)).length = len) ∧ len ≤ pos)
    (fun _ _ _ _ wr => s.size - wr.iterPos w.heap.size)
  case atStart =>
    exact ⟨0, 0, 0, false, 0, Nat.zero_le _, by simpa using World.iter_heap w s 0, (Below.refl _ w).alloc (Nat.le_refl _) _, rfl, rfl, rfl, rfl, St_start, Lib.hid rfl, Lib.hid rfl, Nat.le_refl _⟩
  case round =>
    obtain ⟨pos, m, k, ng, len, hpos, hit, hbw, rfl, rfl, rfl, rfl, hst, hng, hlen, hlp⟩ := hrel
    have hsz : w.heap.size < wr.heap.size := (Array.getElem?_eq_some_iff.1 hit).1
    by_cases hp : pos < s.size
    · by_cases ha : (s[pos]'hp).toNat < 128
      · have hnx : ∀ ty, (Instr.next (.pointer (some ⟨w.heap.size, 0, none⟩)) true ty).run Tryd.prog wr = _ := fun ty => Lib.run_next_ascii_at wr w.heap.size s pos ty hit hp ha
        have hit2 := Lib.iterAt_heap wr w.heap.size s pos (pos + 1) hit
        have hbw2 := Lib.below_iterAt hbw (k := w.heap.size) (Nat.le_refl _) s (pos + 1)
        have hts := Lib.hid (take_snoc s pos hp)
        have htd := Lib.hid (take_drop s pos hp)
        have htn := Lib.hid (take_nil s pos hp)
        generalize wr.iterAt w.heap.size s (pos + 1) = W2 at hnx hit2 hbw2
        generalize s[pos] = c at *
        have hc0 : (0 : Int) ≤ (c.toNat : Int) := by omega
        have hc1 : (c.toNat : Int) < 128 := by omega
        by_cases hz : pos = 0 ∧ c.toNat = 45
        · obtain ⟨rfl, hc⟩ := hz
          have e1 : ((c.toNat : Int) == 45) = true := by simp; omega
          obtain ⟨rfl, rfl⟩ := St_nil hst
          have hl0 : len = 0 := hlen.out.symm
          subst hl0
          have hx : s.data.toList.take (0 + 1) = [c] := hts.out
          have hx1 := Lib.hid hx
          clear hx hts hst hng hlen
          go_wp2
          go_roundw
          case rel =>
            exact ⟨0 + 1, 0, 0, true, 0, by omega, hit2, hbw2, rfl, rfl, rfl, rfl, by rw [hx1.out]; exact St_neg c hc, Lib.hid (by rw [hx1.out]; exact (body_minus c hc).2), Lib.hid (by rw [hx1.out, (body_minus c hc).1]; rfl), by omega⟩
          case measure =>
            simp only [World.iterPos, hit2, hit]
            omega
        · have hcz : s.data.toList.take pos = [] → c.toNat ≠ 45 := fun h1 h2 => hz ⟨htn.out.1 h1, h2⟩
          have HCZ := Lib.hid hcz
          by_cases hd : isDig c = true
          · have hd' := (isDig_iff c).1 hd
            have HD := Lib.hid hd
            clear hd hz hcz
            obtain ⟨hd1, hd2⟩ := hd'
            have e1 : ((c.toNat : Int) == 45) = false := by simp; omega
            have hb := body_snoc _ c HCZ.out
            have hS : k = 0 → St (s.data.toList.take (pos + 1)) (chkV (m * 10 - ((c.toNat : Int) - 48))) (chkE (m * 10 - ((c.toNat : Int) - 48))) := by
              rintro rfl
              rw [hts.out]
              exact St_step hst HD.out
            have hS2 : k = 10 → St (s.data.toList.take (pos + 1)) m 10 := by
              rintro rfl
              rw [hts.out]
              exact St_over hst HD.out
            rw [← hts.out] at hb
            have hb1 := Lib.hid hb.1
            have hb2 := Lib.hid hb.2
            clear hb
            have HS := Lib.hid hS
            have HS2 := Lib.hid hS2
            have HST := Lib.hid hst
            clear hS hS2 hst
            have hk := St_e HST.out
            by_cases hz : pos = 0
            all_goals
              first
                | (have e0 : ((pos : Int) == 0) = true := by (simp; omega))
                | (have e0 : ((pos : Int) == 0) = false := by (simp; omega))
              clear hz
              rcases hk with rfl | rfl
              · go_wp2_with (go_at_call 35; refine (num_lay _ _ _ (St_n HST.out).1 (St_n HST.out).2 (by omega) (by omega)).mono ?_; rintro e w' ⟨rfl, rfl⟩)
                go_roundw
                case rel =>
                  exact ⟨pos + 1, _, _, ng, len + 1, by omega, hit2, hbw2, rfl, by go_num, rfl, rfl, HS.out (by first | rfl | trivial), Lib.hid (by rw [hb2.out]; exact hng.out), Lib.hid (by rw [hb1.out, List.length_append, hlen.out]; rfl), by omega⟩
                case measure =>
                  simp only [World.iterPos, hit2, hit]
                  omega
              · go_wp2_with fail
                go_roundw
                case rel =>
                  exact ⟨pos + 1, _, _, ng, len + 1, by omega, hit2, hbw2, rfl, by go_num, rfl, rfl, HS2.out (by first | rfl | trivial), Lib.hid (by rw [hb2.out]; exact hng.out), Lib.hid (by rw [hb1.out, List.length_append, hlen.out]; rfl), by omega⟩
                case measure =>
                  simp only [World.iterPos, hit2, hit]
                  omega
          · have hd' := (isDig_not c).1 (by simpa using hd)
            have hbad : (body s.data.toList).all isDig = false := by
              rw [htd.out]
              exact body_bad _ _ c (by simpa using hd) HCZ.out
            have hR := Lib.hid (read_bad (.inr hbad))
            clear hbad hd hcz hst hng hlen hts htd htn HCZ
            by_cases hp0 : pos = 0
            · have e0 : ((pos : Int) == 0) = true := by simp; omega
              have e1 : ((c.toNat : Int) == 45) = false := by simp; omega
              clear hz hp0
              rcases hd' with hd' | hd'
              all_goals
                go_wp2
                go_ret2
                exact ⟨ans_eq hR.out.1.symm hR.out.2.symm, hbw2⟩
            · have e0 : ((pos : Int) == 0) = false := by simp; omega
              clear hz hp0
              rcases hd' with hd' | hd'
              all_goals
                go_wp2
                go_ret2
                exact ⟨ans_eq hR.out.1.symm hR.out.2.symm, hbw2⟩
      · have hnx : ∀ ty, (Instr.next (.pointer (some ⟨w.heap.size, 0, none⟩)) true ty).run Tryd.prog wr = _ := fun ty => Lib.run_next_any_at wr w.heap.size s pos ty hit hp
        have hhi := (decode_high s pos hp (by omega)).1
        have hle := decode_le s pos
        have hbw2 := Lib.below_iterAt hbw (k := w.heap.size) (Nat.le_refl _) s (pos + (Utf8.decode s pos).2)
        have hbad : (body s.data.toList).all isDig = false := by
          rw [take_drop s pos hp]
          exact body_bad _ _ _ ((isDig_not _).2 (by omega)) (fun _ => by omega)
        have hR := Lib.hid (read_bad (.inr hbad))
        clear hbad hst hng hlen ha
        generalize wr.iterAt w.heap.size s (pos + (Utf8.decode s pos).2) = W2 at hnx hbw2
        generalize (Utf8.decode s pos).1 = c at *
        have e1 : ((c : Int) == 45) = false := by simp; omega
        by_cases hp0 : pos = 0
        · have e0 : ((pos : Int) == 0) = true := by simp; omega
          clear hp0
          go_wp2
          go_ret2
          exact ⟨ans_eq hR.out.1.symm hR.out.2.symm, hbw2⟩
        · have e0 : ((pos : Int) == 0) = false := by simp; omega
          clear hp0
          go_wp2
          go_ret2
          exact ⟨ans_eq hR.out.1.symm hR.out.2.symm, hbw2⟩
    · have hnx : ∀ ty, (Instr.next (.pointer (some ⟨w.heap.size, 0, none⟩)) true ty).run Tryd.prog wr = _ := fun ty => Lib.run_next_end_at wr w.heap.size s pos ty hit hp
      have hall : s.data.toList.take pos = s.data.toList := List.take_of_length_le (by simp; omega)
      rw [hall] at hst hng hlen
      clear hall
      have HST := Lib.hid hst
      clear hst
      by_cases hl0 : len = 0
      · have e0 : ((len : Int) == 0) = true := by simp; omega
        have hR := Lib.hid (read_bad (.inl (List.eq_nil_of_length_eq_zero (hlen.out.trans hl0))))
        clear hl0 hlen hng
        go_wp2
        go_ret2
        exact ⟨ans_eq hR.out.1.symm hR.out.2.symm, hbw⟩
      · have e0 : ((len : Int) == 0) = false := by simp; omega
        have hne : body s.data.toList ≠ [] := fun h => hl0 (by rw [← hlen.out, h]; rfl)
        have HNE := Lib.hid hne
        clear hne hl0
        rcases St_e HST.out with rfl | rfl
        · cases ng
          · go_wp2_with (go_at_call 23; refine (num_Neg _ _ (St_n HST.out).1).mono ?_; rintro e w' ⟨rfl, rfl⟩)
            go_ret2
            have hR := read_pos HNE.out HST.out hng.out
            exact ⟨ans_eq hR.1.symm hR.2.symm, hbw⟩
          · go_wp2_with fail
            go_ret2
            have hR := read_neg HNE.out HST.out hng.out
            exact ⟨ans_eq hR.1.symm hR.2.symm, hbw⟩
        · go_wp2_with fail
          go_ret2
          have hR := read_over HNE.out HST.out
          exact ⟨ans_eq hR.1.symm hR.2.symm, hbw⟩
end Go.Proofs.YtcelogngamijlaaDoor
