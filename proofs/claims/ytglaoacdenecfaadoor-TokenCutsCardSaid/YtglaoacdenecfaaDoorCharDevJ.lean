/-
  The contract of package char's own Read.
-/
import Derived.Test.YtglaoacdenecfaaDoorCharDevI
import Derived.Test.YtglaoacdenecfaaDoorCharRefI
namespace Go.Proofs.YtglaoacdenecfaaDoor
open Go.RowKit

theorem QMem.below {B q : Nat} {w w' : World} {a num : Int} {text : List UInt8} {dig : Nat} (h : QMem B w q a text num dig) (hb : Below w.heap.size w w') : QMem B w' q a text num dig := by
  obtain ⟨hBq, v, hq, hown⟩ := h
  exact ⟨hBq, v, (hb.block q (Array.getElem?_eq_some_iff.1 hq).1).trans hq, hown.below hb⟩
theorem QMem.iterAt {B q : Nat} {w : World} {a num : Int} {text : List UInt8} {dig : Nat} (h : QMem B w q a text num dig) {k : Nat} {s : ByteArray} {pos : Nat} (hk : w.heap[k]? = some (.stringIter s pos)) (pos' : Nat) : QMem B (w.iterAt k s pos') q a text num dig := by
  obtain ⟨hBq, v, hq, hown⟩ := h
  have hne : q ≠ k := by rintro rfl; rw [hk] at hq; cases hq
  exact ⟨hBq, v, by rw [Lib.iterAt_other w k q s pos' hne]; exact hq, hown.iterAt hk pos'⟩

theorem alloc_heap (w : World) (o : Obj) : (w.alloc o).heap[w.heap.size]? = some o := Array.getElem?_push_size
theorem takeR_length (a : Int) (text : List UInt8) (num : Int) (dig : Nat) (c : Int) : takeR a text num dig c = none ∨ ∃ a' t' m' d', takeR a text num dig c = some (a', t', m', d') ∧ t'.length ≤ text.length + 4 := by
  have he : ∀ r, (text ++ encL r).length ≤ text.length + 4 := fun r => by have := (encL_length r).2; rw [List.length_append]; omega
  have h0 : text.length ≤ text.length + 4 := by omega
  unfold takeR
  repeat' split
  all_goals first | exact .inl rfl | exact .inr ⟨_, _, _, _, rfl, he _⟩ | exact .inr ⟨_, _, _, _, rfl, h0⟩

/-- The reader's loop. -/
def RSt (s : ByteArray) (w : World) (ev : Value) (wr : World) : Prop := ∃ (pos : Nat) (a : Int) (text : List UInt8) (num : Int) (dig : Nat), ev = .int .i64 (s.size : Nat) ∧ pos ≤ s.size ∧ text.length ≤ 4 * pos ∧ wr.heap[w.heap.size + 1]? = some (.stringIter s pos) ∧ Below w.heap.size w wr ∧ QMem w.heap.size wr w.heap.size a text num dig ∧ QSt s.data.toList pos a text num dig

set_option maxRecDepth 100000 in
set_option maxHeartbeats 4000000 in
theorem char_Read (s : ByteArray) (w : World) (hs : s.size ≤ 200000) (hT : Tabs w) :
    Calls Tryd.prog 53 #[.string s] w fun e w' =>
      e = .returned (.tuple #[.string ⟨(readS s.data.toList).toArray⟩, .int .i64 (readK s.data.toList : Nat), .int .i64 (readX s.data.toList)]) ∧ Below w.heap.size w w' := by
  have HT := Lib.hid hT
  clear hT
  go_enter Tryd.func53, Tryd.ntmps53
  go_wp2_with fail
  go_loopw [6] (fun ev wr => RSt s w ev wr) (fun _ wr => s.size - wr.iterPos (w.heap.size + 1))
  case atStart =>
    have hz : (w.alloc (.cells #[.int .i64 0, .slice none 0 0, .int .i32 0, .int .i64 0] 79)).heap.size = w.heap.size + 1 := by simp
    have hn : (w.alloc (.cells #[.int .i64 0, .slice none 0 0, .int .i32 0, .int .i64 0] 79)).heap[w.heap.size]? = some (.cells #[.int .i64 0, .slice none 0 0, .int .i32 0, .int .i64 0] 79 (0, 0)) := alloc_heap w _
    have hb1 : Below w.heap.size w (w.alloc (.cells #[.int .i64 0, .slice none 0 0, .int .i32 0, .int .i64 0] 79)) := (Below.refl _ w).alloc (Nat.le_refl _) _
    generalize (w.alloc (.cells #[.int .i64 0, .slice none 0 0, .int .i32 0, .int .i64 0] 79)) = W1 at *
    have hit : (W1.iter s 0).heap[W1.heap.size]? = some (.stringIter s 0) := by simpa using World.iter_heap W1 s 0
    rw [hz] at hit
    refine ⟨0, 0, [], 0, 0, rfl, Nat.zero_le _, Nat.le_refl _, hit, hb1.alloc (by omega) _, ⟨Nat.le_refl _, .slice none 0 0, ?_, World.ownsRow_nil _ _ _ _⟩, .inl ⟨rfl, rfl, rfl⟩⟩
    exact (Below.heap_alloc W1 (.stringIter s 0) w.heap.size (by omega)).trans hn
  case round =>
    obtain ⟨pos, a, text, num, dig, rfl, hpos, htl, hit, hbw, hm, hst⟩ := hrel
    have hsz2 : w.heap.size + 1 < wr.heap.size := (Array.getElem?_eq_some_iff.1 hit).1
    have hat := hst.at
    by_cases hp : pos < s.size
    · have hne := drop_ne s pos hp
      have hnx : ∀ ty, (Instr.next (.pointer (some ⟨w.heap.size + 1, 0, none⟩)) true ty).run Tryd.prog wr = _ := fun ty => Lib.run_next_any_at wr (w.heap.size + 1) s pos ty hit hp
      have hit2 := Lib.iterAt_heap wr (w.heap.size + 1) s pos (pos + (Utf8.decode s pos).2) hit
      have hbw2 := Lib.below_iterAt hbw (k := w.heap.size + 1) (by omega) s (pos + (Utf8.decode s pos).2)
      have hm2 := hm.iterAt hit (pos + (Utf8.decode s pos).2)
      have hfit := decode_fits s pos hp
      have hxz : (s.extract pos s.size).size ≠ 0 := by simp; omega
      have hdg : Lib.decodeGo (s.extract pos s.size) = Utf8.decode s pos := by rw [decodeGo_eq _ hxz, extract_drop, Lib.decodeL_drop]
      have hstep := fun hb h2 => hst.step hne hb h2
      have hbad := fun hb h2 => hst.bad hne hb h2
      have hshut : a = 2 → (Lib.decodeL (s.data.toList.drop pos)).1 ≠ 39 → readL s.data.toList = some (text, pos) := fun h1 h2 => by subst h1; exact hst.shut (.inr h2)
      have hsca := fun hb => (encL_decodeL (s.data.toList.drop pos) hne hb).1
      rw [Lib.decodeL_drop] at hstep hbad hshut hsca
      have HSTEP := Lib.hid hstep
      have HBAD := Lib.hid hbad
      have HSHUT := Lib.hid hshut
      have HSCA := Lib.hid hsca
      have HDG := Lib.hid hdg
      have HAT := Lib.hid hat
      have HWW := Lib.hid hsz2
      clear hstep hbad hshut hsca hdg hxz hne hst hm hat
      generalize wr.iterAt (w.heap.size + 1) s (pos + (Utf8.decode s pos).2) = W2 at hnx hit2 hbw2 hm2
      have hpair : (Utf8.decode s pos) = ((Utf8.decode s pos).1, (Utf8.decode s pos).2) := rfl
      rw [hpair] at HDG
      clear hpair
      generalize (Utf8.decode s pos).1 = c at *
      generalize (Utf8.decode s pos).2 = n at *
      obtain ⟨hf1, hf2⟩ := hfit
      obtain ⟨ci, hci⟩ : ∃ ci : Int, (c : Int) = ci := ⟨_, rfl⟩
      rw [hci] at hnx
      have HCI := Lib.hid hci
      by_cases hbr : a = 2 ∧ c ≠ 39
      · obtain ⟨rfl, hc39⟩ := hbr
        have HR := Lib.hid (read_some (HSHUT.out rfl hc39))
        have e39 : (ci != 39) = true := by rw [← hci]; simp; omega
        obtain ⟨hBq, v, hq, hown⟩ := hm2
        obtain ⟨ad, ln, cap, rfl⟩ := hown.slice
        obtain ⟨c0, c1, c2, c3, f0, f1, f2, f3⟩ := cells4 hq
        have hcv := conv_own hown
        clear hci HCI HSTEP HBAD HSHUT HSCA HDG HAT hq hown hc39
        go_wp2_with fail
        go_ret3
        exact ⟨ret_three (by rw [HR.out.1]) (by rw [HR.out.2.1]) (by rw [HR.out.2.2]), hbw2⟩
      · obtain ⟨c0, c2, c3, f0, f2, f3⟩ := hm2.cells
        have hg : (a == 2) = false ∨ ((a == 2) = true ∧ (ci != 39) = false) := by
          by_cases h2 : a = 2
          · right; exact ⟨by simpa using h2, by rw [← hci]; simp; omega⟩
          · left; simpa using h2
        have hB := dev_broken (s.extract pos s.size) ci c n hci.symm W2 (HT.out.on hbw2) HDG.out
        have hsW := hbw2.size
        by_cases hbk : c = 65533 ∧ n = 1
        · rw [decide_eq_true hbk] at hB
          have HB := Lib.hid hB
          have HR := Lib.hid (read_none (HBAD.out hbk (fun h2 => hbr ⟨h2, by omega⟩)))
          clear hci HCI HSTEP HBAD HSHUT HSCA HDG HAT hbr hbk hB
          rcases hg with hg | ⟨hg, hg2⟩
          all_goals
            go_wp2_with fail
            refine HB.out.mono ?_; rintro e w3 ⟨rfl, hb3⟩
            have hbw3 := hbw2.trans (hb3.mono hsW)
            clear hb3
            go_wp2_with fail
            go_ret3
            exact ⟨ret_three (by rw [HR.out.1]) (by rw [HR.out.2.1]; rfl) (by rw [HR.out.2.2]), hbw3⟩
        · rw [decide_eq_false hbk] at hB
          have HB := Lib.hid hB
          have hS := HSTEP.out hbk hbr
          have hsc := HSCA.out hbk
          rw [hci] at hS
          have HTK := Lib.hid (fun w3 hm3 => q_take w.heap.size w.heap.size w3 a num ci text dig c hci.symm hsc HAT.out hm3 (by omega))
          have HS := Lib.hid hS
          have HM2 := Lib.hid hm2
          have hel : (takeR a text num dig ci = none) ∨ ∃ a' t' m' d', takeR a text num dig ci = some (a', t', m', d') ∧ t'.length ≤ text.length + 4 := by
            exact takeR_length a text num dig ci
          clear hci HCI HSTEP HBAD HSHUT HSCA HDG HAT hbr hbk hB hS hsc hm2
          generalize takeR a text num dig ci = o at *
          have HEL := Lib.hid hel
          clear hel
          rcases hg with hg | ⟨hg, hg2⟩
          all_goals
            go_wp2_with fail
            refine HB.out.mono ?_; rintro e w3 ⟨rfl, hb3⟩
            have hm3 := HM2.out.below hb3
            have hit3 := (hb3.block _ (Array.getElem?_eq_some_iff.1 hit2).1).trans hit2
            have hbw3 := hbw2.trans (hb3.mono hsW)
            clear hb3
            go_wp2_with fail
            refine (HTK.out w3 hm3).mono ?_; intro e w4 ho
            rcases HEL.out with rfl | ⟨a', t', m', d', rfl, hel⟩
            · obtain ⟨rfl, hk⟩ := ho
              have hbw4 := hbw3.trans hk.1
              have HR := Lib.hid (read_none HS.out)
              clear hk HS
              go_wp2_with fail
              go_ret3
              exact ⟨ret_three (by rw [HR.out.1]) (by rw [HR.out.2.1]; rfl) (by rw [HR.out.2.2]), hbw4⟩
            · obtain ⟨rfl, hm4, hk⟩ := ho
              have hbw4 := hbw3.trans hk.1
              have hit4 := hk.2 _ _ _ hit3
              have HS' : Hid (QSt s.data.toList (pos + n) a' t' m' d') := Lib.hid HS.out
              clear hk HS
              go_wp2_with fail
              go_roundw
              case rel => exact ⟨pos + n, a', t', m', d', rfl, by omega, by omega, hit4, hbw4, hm4, HS'.out⟩
              case measure =>
                simp only [World.iterPos, hit4, hit]
                omega
    · have hnx : ∀ ty, (Instr.next (.pointer (some ⟨w.heap.size + 1, 0, none⟩)) true ty).run Tryd.prog wr = _ := fun ty => Lib.run_next_end_at wr (w.heap.size + 1) s pos ty hit hp
      have hnil : s.data.toList.drop pos = [] := List.drop_eq_nil_of_le (by rw [size_list]; omega)
      obtain ⟨hBq, v, hq, hown⟩ := hm
      obtain ⟨ad, ln, cap, rfl⟩ := hown.slice
      obtain ⟨c0, c1, c2, c3, f0, f1, f2, f3⟩ := cells4 hq
      have hcv := conv_own hown
      obtain rfl : pos = s.size := by omega
      by_cases h2 : a = 2
      · subst h2
        have HR := Lib.hid (read_some (hst.shut (.inl hnil)))
        clear hst hnil hq hown hat
        go_wp2_with fail
        go_ret3
        exact ⟨ret_three (by rw [HR.out.1]) (by rw [HR.out.2.1]) (by rw [HR.out.2.2]), hbw⟩
      · have HR := Lib.hid (read_none (hst.over hnil h2))
        have e2 : (a != 2) = true := by simpa using h2
        clear hst hnil hq hown hat h2
        go_wp2_with fail
        go_ret3
        exact ⟨ret_three (by rw [HR.out.1]) (by rw [HR.out.2.1]; rfl) (by rw [HR.out.2.2]), hbw⟩
end Go.Proofs.YtglaoacdenecfaaDoor
