/-
  The law CharParts of package char, walked: it answers true; nothing that was there has changed.
-/
import Derived.Test.YtpiiliecdkemhaaDoorCharLawsB
import Derived.Test.YtpiiliecdkemhaaDoorCharPartsM
import Derived.Lib.OthersKept
import Derived.Laws.RangeAny
import Derived.Laws.RangeString
namespace Go.Proofs.YtpiiliecdkemhaaDoor
open Go.RowKit

set_option maxHeartbeats 2000000 in
theorem parts_early (s : ByteArray) (c : Int) (w : World) (br : Bool) (hT : Tabs w)
    (cB : ∀ w, Tabs w → Calls Tryd.prog 16 #[.string s] w fun e w' => e = .returned (.bool br) ∧ Below w.heap.size w w')
    (h : br = false ∨ (br = true ∧ 250 < s.size)) :
    Calls Tryd.prog 8 #[.string s, .int .i32 c] w fun e w' => e = .returned (.bool true) ∧ Below w.heap.size w w' := by
  have HT := Lib.hid hT
  have HB := Lib.hid cB
  clear hT cB
  rcases h with rfl | ⟨rfl, hz⟩
  all_goals
    go_enter Tryd.func8, Tryd.ntmps8
    go_wp2_with fail
    refine (law_live _ HT.out).mono ?_; rintro e w1 ⟨rfl, hb1⟩
    go_wp2_with fail
    refine (HB.out _ (HT.out.on hb1)).mono ?_; rintro e w2 ⟨rfl, h⟩; have hb2 := bstep hb1 h; clear h hb1
    go_wp2_with fail
    go_ret
    exact ⟨rfl, hb2⟩

/-- What the law's last tests come to. -/
def Ends (slash : Bool) (c k f : Int) (x : Bool) : Prop :=
  (slash = true ∧ (c == 42) = true ∧ x = false) ∨
  ((slash = false ∨ (slash = true ∧ (c == 42) = false)) ∧
    ((f = 1 ∧ x = decide (k = 1 ∨ k = 2 ∨ k = 3)) ∨ (f = 4 ∧ x = decide (k = 4)) ∨ ((f == 1) = false ∧ (f == 4) = false ∧ x = false)))
theorem beq_dec (k : Int) (m : Int) : (k == m) = decide (k = m) := rfl

set_option maxHeartbeats 4000000 in
theorem parts_core (s : ByteArray) (c k f : Int) (x slash : Bool) (w : World) (hT : Tabs w) (hz : s.size ≤ 250) (hp : 0 < s.size) (hsl : (s.toList == [47]) = slash)
    (cB : ∀ w, Tabs w → Calls Tryd.prog 16 #[.string s] w fun e w' => e = .returned (.bool true) ∧ Below w.heap.size w w')
    (cK : ∀ w, Calls Tryd.prog 12 #[.int .i32 c] w fun e w' => e = .returned (.int .i64 k) ∧ Below w.heap.size w w')
    (cF : ∀ w, Calls Tryd.prog 12 #[.int .i32 (Utf8.decode s 0).1] w fun e w' => e = .returned (.int .i64 f) ∧ Below w.heap.size w w')
    (cX : ∀ w, Tabs w → Calls Tryd.prog 16 #[.string (s ++ Utf8.encode c)] w fun e w' => e = .returned (.bool x) ∧ Below w.heap.size w w')
    (he : Ends slash c k f x) :
    Calls Tryd.prog 8 #[.string s, .int .i32 c] w fun e w' => e = .returned (.bool true) ∧ Below w.heap.size w w' := by
  have HT := Lib.hid hT
  have HB := Lib.hid cB
  have HK := Lib.hid cK
  have HF := Lib.hid cF
  have HX := Lib.hid cX
  have HE := Lib.hid he
  have hez := encode_size c
  obtain ⟨hez1, hez2⟩ := hez
  clear hT cB cK cF cX he
  go_enter Tryd.func8, Tryd.ntmps8
  go_wp2_with fail
  refine (law_live _ HT.out).mono ?_; rintro e w1 ⟨rfl, hb1⟩
  go_wp2_with fail
  refine (HB.out _ (HT.out.on hb1)).mono ?_; rintro e w2 ⟨rfl, h⟩; have hb2 := bstep hb1 h; clear h hb1
  go_wp2_with fail
  refine (HK.out _).mono ?_; rintro e w3 ⟨rfl, h⟩; have hb3 := bstep hb2 h; clear h hb2
  go_wp2_with fail
  have hw3 := hb3.size
  go_loopw [7] (fun fv wr => ∃ (pos : Nat) (g : Int), pos ≤ s.size ∧ wr.heap[w3.heap.size]? = some (.stringIter s pos) ∧ Below w.heap.size w wr ∧ fv = .int .i64 g ∧ Hid (0 < pos → g = f)) (fun _ wr => s.size - wr.iterPos w3.heap.size)
  case atStart => exact ⟨0, 0, Nat.zero_le _, by simpa using World.iter_heap w3 s 0, hb3.alloc hw3 _, rfl, Lib.hid (fun h => absurd h (Nat.lt_irrefl 0))⟩
  case round =>
    obtain ⟨pos, g, hpos, hit, hbw, rfl, HG⟩ := hrel
    by_cases hlt : pos < s.size
    · have hnx : ∀ ty, (Instr.next (.pointer (some ⟨w3.heap.size, 0, none⟩)) true ty).run Tryd.prog wr = _ := fun ty => Lib.run_next_any_at wr w3.heap.size s pos ty hit hlt
      have hwd := Lib.width_pos s pos
      have hwe : pos + (Utf8.decode s pos).2 ≤ s.size := by
        have h1 := Lib.decodeL_le (s.data.toList.drop pos) (drop_ne s pos hlt)
        rw [Lib.decodeL_drop, List.length_drop, size_list] at h1
        omega
      have hit2 := Lib.iterAt_heap wr w3.heap.size s pos (pos + (Utf8.decode s pos).2) hit
      have hbw2 := Lib.below_iterAt hbw (k := w3.heap.size) hw3 s (pos + (Utf8.decode s pos).2)
      by_cases hp0 : pos = 0
      · subst hp0
        generalize wr.iterAt w3.heap.size s (0 + (Utf8.decode s 0).2) = W2 at hnx hit2 hbw2
        generalize (Utf8.decode s 0).1 = r at *
        generalize (Utf8.decode s 0).2 = n at *
        go_wp2_with fail
        refine (HF.out _).mono ?_; rintro e w4 ⟨rfl, h⟩
        have hit3 : w4.heap[w3.heap.size]? = some (.stringIter s (0 + n)) := by
          rw [h.block _ (Array.getElem?_eq_some_iff.1 hit2).1]
          exact hit2
        have hbw3 := bstep hbw2 h
        clear h hbw2
        go_wp2_with fail
        go_roundw
        case rel => exact ⟨0 + n, f, hwe, hit3, hbw3, rfl, Lib.hid (fun _ => rfl)⟩
        case measure =>
          simp only [World.iterPos, hit3, hit]
          omega
      · have e0 : ((pos : Int) == 0) = false := by simp; omega
        have hgf : g = f := HG.out (by omega)
        have HGF := Lib.hid hgf
        generalize wr.iterAt w3.heap.size s (pos + (Utf8.decode s pos).2) = W2 at hnx hit2 hbw2
        generalize (Utf8.decode s pos).1 = r at *
        generalize (Utf8.decode s pos).2 = n at *
        clear hp0 hgf HG
        go_wp2_with fail
        go_roundw
        case rel => exact ⟨pos + n, g, hwe, hit2, hbw2, rfl, Lib.hid (fun _ => HGF.out)⟩
        case measure =>
          simp only [World.iterPos, hit2, hit]
          omega
    · have hnx : ∀ ty, (Instr.next (.pointer (some ⟨w3.heap.size, 0, none⟩)) true ty).run Tryd.prog wr = _ := fun ty => Lib.run_next_end_at wr w3.heap.size s pos ty hit hlt
      obtain rfl : f = g := (HG.out (by omega)).symm
      clear hit HG
      have hTw := HT.out.on hbw
      go_wp2_with fail
      refine (HX.out _ hTw).mono ?_; rintro e w5 ⟨rfl, h⟩
      have hb5 := bstep hbw h
      clear h hbw hTw hnx
      rcases HE.out with ⟨rfl, h42, rfl⟩ | ⟨hs, hf⟩
      · clear HE
        go_wp2_with fail
        go_ret
        exact ⟨rfl, hb5⟩
      · have hkc : k = 1 ∨ k = 2 ∨ k = 3 ∨ k = 4 ∨ (k ≠ 1 ∧ k ≠ 2 ∧ k ≠ 3 ∧ k ≠ 4) := by omega
        clear HE
        rcases hs with rfl | ⟨rfl, h42⟩
        all_goals
          rcases hf with ⟨rfl, hx⟩ | ⟨rfl, hx⟩ | ⟨hf1, hf4, hx⟩
          all_goals
            rcases hkc with rfl | rfl | rfl | rfl | ⟨k1, k2, k3, k4⟩
            all_goals
              first
                | (have hx2 : x = true := by (rw [hx]; decide)
                   subst hx2)
                | (have hx2 : x = false := by (rw [hx]; first | done | decide | (rw [decide_eq_false_iff_not]; omega))
                   subst hx2)
              try (
                have e1 : (k == 1) = false := by simpa using k1
                have e2 : (k == 2) = false := by simpa using k2
                have e3 : (k == 3) = false := by simpa using k3
                have e4 : (k == 4) = false := by simpa using k4
                clear k1 k2 k3 k4)
              clear hx
              go_wp2_with fail
              go_ret
              exact ⟨rfl, hb5⟩

theorem walk_CharParts (s : ByteArray) (c : Int) (w : World) (hs : s.size ≤ maxLen) (hT : Tabs w) :
    Calls Tryd.prog 8 #[.string s, .int .i32 c] w fun e w' => e = .returned (.bool true) ∧ Below w.heap.size w w' := by
  have cB := fun w h => char_Bare s w hs h
  by_cases hb : bareL s.data.toList = true
  · rw [hb] at cB
    by_cases hz : 250 < s.size
    · exact parts_early s c w true hT cB (.inr ⟨rfl, hz⟩)
    · obtain ⟨hck, h0, _⟩ := bare_kinds hb
      have hp : 0 < s.size := by
        have h1 := List.length_pos_iff.2 h0
        rw [size_list] at h1
        exact h1
      have hpb := parts_bare s.data.toList c hb (by rw [size_list]; omega)
      have hsz := encode_size c
      have cX := fun w h => char_Bare (s ++ Utf8.encode c) w (by rw [ByteArray.size_append]; unfold maxLen; omega) h
      rw [data_cat, show (Utf8.encode c).data.toList = encL c from rfl, hpb] at cX
      have hdec : ((Utf8.decode s 0).1 : Int) = (runesL s.data.toList).headD 0 := by
        rw [runesL_cons _ h0]
        rfl
      have cF := fun w => char_Class ((Utf8.decode s 0).1 : Int) w
      rw [hdec] at cF
      refine parts_core s c (cls c) (cls ((runesL s.data.toList).headD 0)) (partsX s.data.toList c) _ w hT (by omega) hp rfl cB (fun w => char_Class c w) (by rw [hdec]; exact cF) cX ?_
      rw [ByteArray.toList_eq]
      unfold Ends partsX
      by_cases hsl : s.data.toList = [47]
      · by_cases hc : c = 42
        · exact .inl ⟨by rw [hsl]; rfl, by rw [hc]; rfl, if_pos ⟨hsl, hc⟩⟩
        · refine .inr ⟨.inr ⟨by rw [hsl]; rfl, by simpa using hc⟩, ?_⟩
          rw [if_neg (fun h => hc h.2)]
          by_cases f1 : cls ((runesL s.data.toList).headD 0) = 1
          · exact .inl ⟨f1, if_pos f1⟩
          · rw [if_neg f1]
            by_cases f4 : cls ((runesL s.data.toList).headD 0) = 4
            · exact .inr (.inl ⟨f4, if_pos f4⟩)
            · exact .inr (.inr ⟨by simpa using f1, by simpa using f4, if_neg f4⟩)
      · refine .inr ⟨.inl (by simpa using hsl), ?_⟩
        rw [if_neg (fun h => hsl h.1)]
        by_cases f1 : cls ((runesL s.data.toList).headD 0) = 1
        · exact .inl ⟨f1, if_pos f1⟩
        · rw [if_neg f1]
          by_cases f4 : cls ((runesL s.data.toList).headD 0) = 4
          · exact .inr (.inl ⟨f4, if_pos f4⟩)
          · exact .inr (.inr ⟨by simpa using f1, by simpa using f4, if_neg f4⟩)
  · have hb' : bareL s.data.toList = false := by simpa using hb
    rw [hb'] at cB
    exact parts_early s c w false hT cB (.inl rfl)
end Go.Proofs.YtpiiliecdkemhaaDoor
