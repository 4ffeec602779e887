/-
  The contract of the document's own Write for char.
-/
import Derived.Test.YtpiiliecdkemhaaDoorCharRefF
namespace Go.Proofs.YtpiiliecdkemhaaDoor
open Go.RowKit

theorem flat_snoc (rs : List Int) (k : Nat) (h : k < rs.length) : (rs.take (k + 1)).flatMap escR = (rs.take k).flatMap escR ++ escR rs[k] := by
  rw [List.take_succ_eq_append_getElem h, List.flatMap_append]
  simp
theorem data_cat (a b : ByteArray) : (a ++ b).data.toList = a.data.toList ++ b.data.toList := by
  rw [ByteArray.data_append]; simp
theorem size_list (a : ByteArray) : a.data.toList.length = a.size := by simp
theorem ret_str {a b : ByteArray} (h : a = b) : Ending.returned (.string a) = .returned (.string b) := by rw [h]
theorem of_list (a : ByteArray) (l : List UInt8) (h : a.data.toList = l) : a = ⟨l.toArray⟩ := by
  subst h
  rfl

theorem escR_cases (n : Nat) : (n = 39 ∧ escR n = 92 :: encL n) ∨ (n = 92 ∧ escR n = 92 :: encL n) ∨ (n = 10 ∧ escR n = [92, 110]) ∨ (n = 9 ∧ escR n = [92, 116]) ∨
    (n ≠ 39 ∧ n ≠ 92 ∧ n ≠ 10 ∧ n ≠ 9 ∧ n < 32 ∧ escR n = 92 :: 120 :: (hexL n ++ [92])) ∨ (32 ≤ n ∧ (n ≠ 39 ∧ n ≠ 92) ∧ escR n = encL n) := by
  unfold escR
  by_cases h1 : n = 39
  · exact .inl ⟨h1, if_pos (by omega)⟩
  by_cases h2 : n = 92
  · exact .inr (.inl ⟨h2, if_pos (by omega)⟩)
  rw [if_neg (by omega)]
  by_cases h3 : n = 10
  · exact .inr (.inr (.inl ⟨h3, if_pos (by omega)⟩))
  rw [if_neg (by omega)]
  by_cases h4 : n = 9
  · exact .inr (.inr (.inr (.inl ⟨h4, if_pos (by omega)⟩)))
  rw [if_neg (by omega)]
  by_cases h5 : n < 32
  · rw [if_pos (by omega)]
    exact .inr (.inr (.inr (.inr (.inl ⟨h1, h2, h3, h4, h5, rfl⟩))))
  · rw [if_neg (by omega)]
    exact .inr (.inr (.inr (.inr (.inr ⟨by omega, ⟨h1, h2⟩, rfl⟩))))

set_option maxRecDepth 100000 in
set_option maxHeartbeats 4000000 in
theorem ref_Write_quoted (s : ByteArray) (w : World) (hs : s.size ≤ maxLen) (hT : Tabs w) (hck : checkL s.data.toList = true) (hbr : bareL s.data.toList = false) :
    Calls Tryd.prog 19 #[.string s] w fun e w' => e = .returned (.string ⟨(quoteL s.data.toList).toArray⟩) ∧ Below w.heap.size w w' := by
  have hsz : s.size ≤ 255 := by
    have h1 := hck
    unfold checkL at h1
    rw [Bool.and_eq_true, decide_eq_true_eq, size_list] at h1
    exact h1.1
  have cC := fun w hT => ref_Check s w hs hT
  have cB := fun w hT => ref_Bare s w hs hT
  have cR := fun w hT => ref_Runes s w (by omega) hT
  rw [hck] at cC
  rw [hbr] at cB
  have hlen := runesL_length s.data.toList
  have hrg := runesL_range s.data.toList
  unfold quoteL
  rw [size_list] at hlen
  generalize runesL s.data.toList = rs at *
  have HT := Lib.hid hT
  have HC := Lib.hid cC
  have HB := Lib.hid cB
  have HR := Lib.hid cR
  have HG := Lib.hid hrg
  clear hT cC cB cR hrg hck hbr hs
  go_enter Tryd.func19, Tryd.ntmps19
  go_wp2_with fail
  refine (HC.out _ HT.out).mono ?_; rintro e w1 ⟨rfl, hb1⟩
  go_wp2_with fail
  refine (HB.out _ (HT.out.on hb1)).mono ?_; rintro e w2 ⟨rfl, hb2⟩
  have hb := hb1.trans (hb2.mono hb1.size)
  clear hb1 hb2
  go_wp2_with fail
  refine (HR.out _ (HT.out.on hb)).mono ?_; rintro e w3 ⟨v, rfl, hown, hb3⟩
  have hbb := hb.trans (hb3.mono hb.size)
  clear hb hb3
  obtain ⟨ad, len, cap, rfl⟩ : ∃ ad len cap, v = .slice ad len cap := by
    rcases hown.2 with ⟨rfl, _⟩ | ⟨g, cap, cur, rfl, _⟩
    · exact ⟨_, _, _, rfl⟩
    · exact ⟨_, _, _, rfl⟩
  obtain rfl : len = rs.length := by
    rcases hown.2 with ⟨h1, h2⟩ | ⟨g, cap', cur, h1, _⟩
    · simp only [Value.slice.injEq] at h1
      omega
    · simp only [Value.slice.injEq] at h1
      exact h1.2.1
  have hcell : ∀ k (h : k < rs.length), ∃ g, ad = some ⟨g, 0, none⟩ ∧ w3.cell? ⟨g, k, none⟩ = some (.int .i32 rs[k]) := fun k h => by
    obtain ⟨g, cap', he, _⟩ := hown.form (by omega)
    simp only [Value.slice.injEq] at he
    obtain ⟨rfl, -, rfl⟩ := he
    refine ⟨g, rfl, ?_⟩
    have := World.ownsRow.cellAt hown k (by omega)
    rw [this, List.getElem?_map, List.getElem?_eq_getElem h]
    rfl
  have HCell := Lib.hid hcell
  clear hcell hown
  go_wp2_with fail
  go_loop [3, 15] (fun o i => ∃ (k : Nat) (t : ByteArray), k ≤ rs.length ∧ i = .int .i64 k ∧ o = .string t ∧ t.size ≤ 1 + 5 * k ∧ Hid (t.data.toList = 39 :: (rs.take k).flatMap escR)) (fun _ i => rs.length - (intOf i).toNat)
  case atStart => exact ⟨0, ⟨#[39]⟩, Nat.zero_le _, rfl, rfl, by decide, Lib.hid rfl⟩
  case round =>
    obtain ⟨k, t, hk, rfl, rfl, htz, HO⟩ := hrel
    by_cases hlt : k < rs.length
    · obtain ⟨g, rfl, hck⟩ := HCell.out k hlt
      have hfl := flat_snoc rs k hlt
      have hcr := HG.out rs[k] (List.getElem_mem hlt)
      generalize rs[k] = c at *
      obtain ⟨hc0, hc1⟩ := hcr
      have henc := encode_size c
      obtain ⟨hen1, hen2⟩ := henc
      have hel := escR_length c
      have HE : Hid (∀ u : ByteArray, u.data.toList = t.data.toList ++ escR c → u.data.toList = 39 :: (rs.take (k + 1)).flatMap escR ∧ u.size ≤ 1 + 5 * (k + 1)) := Lib.hid (fun u hu => by
        constructor
        · rw [hu, HO.out, hfl]; rfl
        · rw [← size_list, hu, List.length_append, size_list]; omega)
      clear hfl hel
      obtain ⟨n, hn⟩ := Int.eq_ofNat_of_zero_le hc0
      have hx := escR_cases n
      rw [← hn] at hx
      have HN := Lib.hid hn
      rcases hx with ⟨h1, hx⟩ | ⟨h1, hx⟩ | ⟨h1, hx⟩ | ⟨h1, hx⟩ | ⟨h1, h2, h3, h4, h5, hx⟩ | ⟨h1, h2, hx⟩
      · have HX := Lib.hid hx
        have e39 : (c == 39) = true := by simp; omega
        clear h1
        clear hx hn hc0 hc1
        go_wp2_with fail
        go_round
        case rel =>
          have hu := HE.out (t ++ (⟨#[92]⟩ ++ Utf8.encode c)) (by rw [HX.out]; rw [data_cat, data_cat]; rfl)
          exact ⟨k + 1, _, by omega, by go_num, rfl, hu.2, Lib.hid hu.1⟩
        case measure => simp [intOf]; omega
      · have HX := Lib.hid hx
        have e39 : (c == 39) = false := by simp; omega
        have e92 : (c == 92) = true := by simp; omega
        clear h1
        clear hx hn hc0 hc1
        go_wp2_with fail
        go_round
        case rel =>
          have hu := HE.out (t ++ (⟨#[92]⟩ ++ Utf8.encode c)) (by rw [HX.out]; rw [data_cat, data_cat]; rfl)
          exact ⟨k + 1, _, by omega, by go_num, rfl, hu.2, Lib.hid hu.1⟩
        case measure => simp [intOf]; omega
      · have HX := Lib.hid hx
        have e39 : (c == 39) = false := by simp; omega
        have e92 : (c == 92) = false := by simp; omega
        have e10 : (c == 10) = true := by simp; omega
        clear h1
        clear hx hn hc0 hc1
        go_wp2_with fail
        go_round
        case rel =>
          have hu := HE.out (t ++ ⟨#[92, 110]⟩) (by rw [HX.out]; rw [data_cat])
          exact ⟨k + 1, _, by omega, by go_num, rfl, hu.2, Lib.hid hu.1⟩
        case measure => simp [intOf]; omega
      · have HX := Lib.hid hx
        have e39 : (c == 39) = false := by simp; omega
        have e92 : (c == 92) = false := by simp; omega
        have e10 : (c == 10) = false := by simp; omega
        have e9 : (c == 9) = true := by simp; omega
        clear h1
        clear hx hn hc0 hc1
        go_wp2_with fail
        go_round
        case rel =>
          have hu := HE.out (t ++ ⟨#[92, 116]⟩) (by rw [HX.out]; rw [data_cat])
          exact ⟨k + 1, _, by omega, by go_num, rfl, hu.2, Lib.hid hu.1⟩
        case measure => simp [intOf]; omega
      · have HX := Lib.hid hx
        have e39 : (c == 39) = false := by simp; omega
        have e92 : (c == 92) = false := by simp; omega
        have e10 : (c == 10) = false := by simp; omega
        have e9 : (c == 9) = false := by simp; omega
        have hH := ref_hex n (by omega) w3
        rw [← hn] at hH
        have HH := Lib.hid hH
        clear hH
        have hhl := hexL_length n
        generalize hexL n = hx2 at *
        have g32 : c < 32 := by omega
        clear h1 h2 h3 h4 h5
        clear hx hn hc0 hc1
        go_wp2_with fail
        refine HH.out.mono ?_; rintro e w' ⟨rfl, rfl⟩
        go_wp2_with fail
        go_round
        case rel =>
          have hu := HE.out (t ++ (⟨#[92, 120]⟩ ++ ⟨hx2.toArray⟩ ++ ⟨#[92]⟩)) (by rw [HX.out]; rw [data_cat, data_cat, data_cat]; rfl)
          exact ⟨k + 1, _, by omega, by go_num, rfl, hu.2, Lib.hid hu.1⟩
        case measure => simp [intOf]; omega
      · have HX := Lib.hid hx
        have e39 : (c == 39) = false := by simp; omega
        have e92 : (c == 92) = false := by simp; omega
        have e10 : (c == 10) = false := by simp; omega
        have e9 : (c == 9) = false := by simp; omega
        have g32 : 32 ≤ c := by omega
        clear h1 h2
        clear hx hn hc0 hc1
        go_wp2_with fail
        go_round
        case rel =>
          have hu := HE.out (t ++ Utf8.encode c) (by rw [HX.out]; rw [data_cat]; rfl)
          exact ⟨k + 1, _, by omega, by go_num, rfl, hu.2, Lib.hid hu.1⟩
        case measure => simp [intOf]; omega
    · have hfin : (t ++ ⟨#[39]⟩ : ByteArray) = ⟨(39 :: (rs.flatMap escR ++ [39])).toArray⟩ := by
        have h := HO.out
        rw [List.take_of_length_le (by omega)] at h
        refine of_list _ _ ?_
        rw [data_cat, h]
        rfl
      have HF := Lib.hid hfin
      clear hfin HO
      go_wp2_with fail
      go_ret
      exact ⟨by rw [← HF.out]; rfl, hbb⟩

set_option maxHeartbeats 1000000 in
theorem ref_Write_plain (s : ByteArray) (w : World) (hs : s.size ≤ maxLen) (hT : Tabs w) (h : checkL s.data.toList = false ∨ bareL s.data.toList = true) :
    Calls Tryd.prog 19 #[.string s] w fun e w' => e = .returned (.string ⟨(writeL s.data.toList).toArray⟩) ∧ Below w.heap.size w w' := by
  have HC := Lib.hid (fun w hT => ref_Check s w hs hT)
  have HB := Lib.hid (fun w hT => ref_Bare s w hs hT)
  have HT := Lib.hid hT
  clear hT hs
  unfold writeL
  by_cases hc : checkL s.data.toList = true
  · have hb := h.resolve_left (by rw [hc]; decide)
    rw [if_pos hc, if_pos hb]
    have HC := HC.out
    have HB := HB.out
    rw [hc] at HC
    rw [hb] at HB
    have HC := Lib.hid HC
    have HB := Lib.hid HB
    clear hc hb h
    go_enter Tryd.func19, Tryd.ntmps19
    go_wp2_with fail
    refine (HC.out _ HT.out).mono ?_; rintro e w1 ⟨rfl, hb1⟩
    go_wp2_with fail
    refine (HB.out _ (HT.out.on hb1)).mono ?_; rintro e w2 ⟨rfl, hb2⟩
    go_wp2_with fail
    go_ret
    exact ⟨rfl, hb1.trans (hb2.mono hb1.size)⟩
  · have hc' : checkL s.data.toList = false := by simpa using hc
    rw [if_neg hc]
    have HC := HC.out
    rw [hc'] at HC
    have HC := Lib.hid HC
    clear hc hc' h HB
    go_enter Tryd.func19, Tryd.ntmps19
    go_wp2_with fail
    refine (HC.out _ HT.out).mono ?_; rintro e w1 ⟨rfl, hb1⟩
    go_wp2_with fail
    go_ret
    exact ⟨rfl, hb1⟩

theorem ref_Write (s : ByteArray) (w : World) (hs : s.size ≤ maxLen) (hT : Tabs w) :
    Calls Tryd.prog 19 #[.string s] w fun e w' => e = .returned (.string ⟨(writeL s.data.toList).toArray⟩) ∧ Below w.heap.size w w' := by
  by_cases hc : checkL s.data.toList = true
  · by_cases hb : bareL s.data.toList = true
    · exact ref_Write_plain s w hs hT (.inr hb)
    · have h := ref_Write_quoted s w hs hT hc (by simpa using hb)
      unfold writeL
      rw [if_pos hc, if_neg hb]
      exact h
  · exact ref_Write_plain s w hs hT (.inl (by simpa using hc))
end Go.Proofs.YtpiiliecdkemhaaDoor
