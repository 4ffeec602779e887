/-
  The contract of the document's own Runes for char: a text's runes, in a slice of the call's own.
-/
import Derived.Test.YtpiiliecdkemhaaDoorCharRefC
namespace Go.Proofs.YtpiiliecdkemhaaDoor
open Go.RowKit

theorem ownsRow_below {w w' : World} {B : Nat} {e : TypeId} {size : Nat} {v : Value} {n : Nat} {xs : List Value} (h : w.ownsRow B e size v n xs) (hb : Below w.heap.size w w') : w'.ownsRow B e size v n xs := by
  obtain ⟨hl, h0 | ⟨g, cap, cur, hv, hbg, hh, r⟩⟩ := h
  · exact ⟨hl, .inl h0⟩
  · have hg : g < w.heap.size := (Array.getElem?_eq_some_iff.1 hh).1
    exact ⟨hl, .inr ⟨g, cap, cur, hv, hbg, (hb.block g hg).trans hh, r⟩⟩
theorem decodeGo_eq (s : ByteArray) (h : s.size ≠ 0) : Lib.decodeGo s = Lib.decodeL s.data.toList := by
  unfold Lib.decodeGo Lib.decodeL
  rw [if_neg h]
theorem extract_drop (s : ByteArray) (k : Nat) : (s.extract k s.size).data.toList = s.data.toList.drop k := by
  rw [ByteArray.data_extract, Array.toList_extract]
  simp
  exact List.take_of_length_le (by simp)
theorem list_ne (t : ByteArray) (h : t.size ≠ 0) : t.data.toList ≠ [] := fun e => by
  have h1 : t.data.toList.length = t.size := by simp
  rw [e] at h1
  exact h h1.symm
theorem infoRune : (Tryd.prog.info? 21).map (fun i => (i.zero, i.size, i.bytes)) = some (some (.int .i32 0), 1, 4) := by kernel_rfl

/-- A slice of runes of the call's own. -/
def OwnRunes (B : Nat) (w : World) (v : Value) (rs : List Int) : Prop := w.ownsRow B 21 1 v rs.length (rs.map (Value.int .i32))
def strSize : Value → Nat
  | .string t => t.size
  | _ => 0

set_option maxHeartbeats 4000000 in
theorem ref_Runes (s : ByteArray) (w : World) (hs : s.size ≤ 200000) (hT : Tabs w) :
    Calls Tryd.prog 26 #[.string s] w fun e w' => ∃ v, e = .returned v ∧ OwnRunes w.heap.size w' v (runesL s.data.toList) ∧ Below w.heap.size w w' := by
  have HT := Lib.hid hT
  clear hT
  obtain ⟨i0, hi, hz0, hz1, hz2⟩ := info_parts infoRune
  go_enter Tryd.func26, Tryd.ntmps26
  go_wp2
  go_loopw [0, 3] (fun sv v wr => ∃ (t : ByteArray) (rs : List Int), sv = .string t ∧ rs.length + t.size ≤ s.size ∧ OwnRunes w.heap.size wr v rs ∧ Below w.heap.size w wr ∧ Hid (rs ++ runesL t.data.toList = runesL s.data.toList)) (fun sv _ _ => strSize sv)
  case atStart => exact ⟨s, [], rfl, by simp, World.ownsRow_nil _ _ _ _, Below.refl _ _, Lib.hid rfl⟩
  case round =>
    obtain ⟨t, rs, rfl, hlen, hown, hbw, HR⟩ := hrel
    by_cases ht : t.size = 0
    · have e0 : t.data.toList = [] := List.eq_nil_of_length_eq_zero (by simpa using ht)
      have hfin : rs = runesL s.data.toList := by rw [← HR.out, e0, runesL_nil, List.append_nil]
      have HF := Lib.hid hfin
      clear hfin e0 HR
      go_wp2_with fail
      go_ret
      exact ⟨_, rfl, by rw [← HF.out]; exact hown, hbw⟩
    · have hd := Lib.hid (decodeGo_eq t ht)
      have hne := list_ne t ht
      have hc := Lib.hid (runesL_cons t.data.toList hne)
      have hw1 := Lib.decodeL_width t.data.toList
      have hw2 := Lib.decodeL_le t.data.toList hne
      have hr := Lib.decodeL_rune t.data.toList
      have hl : t.data.toList.length = t.size := by simp
      rw [hl] at hw2
      have cD := fun w (hT : Tabs w) => Tryd.utf8_DecodeRuneInString t w hT.1
      rw [decodeGo_eq t ht] at cD
      have HD := Lib.hid cD
      have hx := Lib.hid (extract_drop t (Lib.decodeL t.data.toList).2)
      have hpos : 0 < t.size := by omega
      clear cD hne hl ht
      generalize (Lib.decodeL t.data.toList).1 = c at *
      generalize (Lib.decodeL t.data.toList).2 = n at *
      go_wp2_with fail
      refine (HD.out _ (HT.out.on hbw)).mono ?_
      rintro e w1 ⟨rfl, hb1⟩
      have hown1 := ownsRow_below hown hb1
      have hbw1 := hbw.trans (hb1.mono hbw.size)
      have hsz := hbw1.size
      clear hown hbw hb1
      go_wp2_with (first
        | (at_builtin; refine wpList_append_own _ rfl _ _ 33 rfl w.heap.size 21 i0 (.int .i32 0) 1 4 Tryd.underlying33 hi hz0 hz1 hz2 rfl (by decide) _ _ _ rfl (hown1.alloc _) ⟨w1.heap.size, 0, none⟩ 1 1 [.int .i32 c] rfl rfl ?c1 ?c2 ?c3 ?c4 ?c5 ?_))
      case c1 =>
        intro j u hj
        match j, hj with
        | 0, hj => simp at hj; subst hj; simp [Addr.add]
      case c2 => intro u hu; simp at hu; subst hu; rfl
      case c3 => unfold maxLen; omega
      case c4 => omega
      case c5 => simp; omega
      intro v' w2 hown2 hgrow _
      have hown3 : OwnRunes w.heap.size w2 v' (rs ++ [(c : Int)]) := by
        unfold OwnRunes
        rw [List.length_append, List.map_append]
        exact hown2
      have hbw2 : Below w.heap.size w w2 := (hbw1.alloc hsz _).grown hgrow (by simp; omega) (fun k hk => (World.ownsRow.lt hown1 k hk).1)
      have hcat : (rs ++ [(c : Int)]) ++ runesL (t.extract n t.size).data.toList = runesL s.data.toList := by
        rw [hx.out, List.append_assoc, List.singleton_append, ← hc.out]
        exact HR.out
      have HC := Lib.hid hcat
      have hsz2 : (t.extract n t.size).size = t.size - n := by simp
      have HSZ := Lib.hid hsz2
      clear hcat hown1 hown2 hgrow hbw1 hsz2
      go_wp2
      go_roundw
      case rel => exact ⟨t.extract n t.size, rs ++ [(c : Int)], rfl, by rw [HSZ.out, List.length_append, List.length_singleton]; omega, hown3, hbw2, HC⟩
      case measure => show (t.extract n t.size).size < t.size; rw [HSZ.out]; omega
end Go.Proofs.YtpiiliecdkemhaaDoor
