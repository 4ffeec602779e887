/-
  Plain terms: what plain says, and that a plain term's text is term's own; the contract of plain.
-/
import Derived.Test.YtdjejbgokamjeaaDoorWriteT
namespace Go.Proofs.YtdjejbgokamjeaaDoor
open Go.RowKit

/-- What is written otherwise than by term. -/
def oddK (s : List UInt8) (len : Nat) : Bool := ((opR s 3).isSome && decide (len = 2)) || ((decide (s = [46]) && decide (len = 2)) || (decide (s = [123, 125]) || decide (s = [91, 93])))
mutual
def Tm.plain : Tm → Bool
  | .mk k s _ l => !(decide (k = 4) && oddK s.data.toList l.length) && Tm.plains l
def Tm.plains : List Tm → Bool
  | [] => true
  | t :: l => t.plain && Tm.plains l
end
theorem Tm.plain_eq (t : Tm) : t.plain = (!(decide (t.kind = 4) && oddK t.name.data.toList t.args.length) && Tm.plains t.args) := by cases t; rfl
theorem Tm.plains_all (l : List Tm) : Tm.plains l = l.all Tm.plain := by
  induction l with
  | nil => rfl
  | cons t l ih => show (t.plain && Tm.plains l) = _; rw [ih, List.all_cons]
theorem plains_snoc (l : List Tm) (k : Nat) (h : k < l.length) : Tm.plains (l.take (k + 1)) = (Tm.plains (l.take k) && (l[k]'h).plain) := by
  rw [Tm.plains_all, Tm.plains_all, List.take_succ_eq_append_getElem h, List.all_append]; simp
theorem plains_hit (l : List Tm) (k : Nat) (h : k < l.length) (h1 : (l[k]'h).plain = false) : Tm.plains l = false := by
  rw [Tm.plains_all, List.all_eq_false]
  exact ⟨l[k], List.getElem_mem h, by rw [h1]; simp⟩

theorem comma_commas : ∀ l : List Tm, (∀ t ∈ l, ∀ p, t.wr.txt p = t.txt) → commaW (l.map Tm.wr) = (Tm.commas l).drop 1
  | [], _ => rfl
  | [t], h => by
    show t.wr.txt 999 = (44 :: (t.txt ++ [])).drop 1
    rw [h t (by simp), List.append_nil]; rfl
  | t :: u :: l, h => by
    have ih := comma_commas (u :: l) (fun x hx => h x (List.mem_cons_of_mem _ hx))
    show t.wr.txt 999 ++ 44 :: commaW ((u :: l).map Tm.wr) = (44 :: (t.txt ++ (44 :: (u.txt ++ Tm.commas l)))).drop 1
    rw [h t (by simp), ih]
    rfl
theorem odd_no {s : List UInt8} {n : Nat} (h : oddK s n = false) : (n = 2 → opR s 3 = none ∧ s ≠ [46]) ∧ s ≠ [123, 125] ∧ s ≠ [91, 93] := by
  unfold oddK at h
  simp only [Bool.or_eq_false_iff, Bool.and_eq_false_iff, decide_eq_false_iff_not, Option.isSome_eq_false_iff, Option.isNone_iff_eq_none] at h
  obtain ⟨h1, h2, h3, h4⟩ := h
  refine ⟨fun hn => ⟨?_, ?_⟩, h3, h4⟩
  · rcases h1 with h1 | h1
    · exact h1
    · exact absurd hn h1
  · rcases h2 with h2 | h2
    · exact h2
    · exact absurd hn h2
theorem call_plain (s : List UInt8) (l : List Tm) (h1 : s ≠ [123, 125]) (h2 : s ≠ [91, 93]) (h : ∀ t ∈ l, ∀ p, t.wr.txt p = t.txt) : callK s (l.map Tm.wr) = writeL s ++ (40 :: ((Tm.commas l).drop 1 ++ [41])) := by
  unfold callK fnK
  rw [if_neg (fun h => h.elim h2 h1), comma_commas l h]
theorem plain_txt' (m : Nat) : ∀ t : Tm, t.size ≤ m → t.may = true → t.plain = true → ∀ p, t.wr.txt p = t.txt := by
  induction m with
  | zero => intro t h; have := t.size_pos; omega
  | succ m ih =>
    intro t hm hmay hpl p
    have hk := @may_kind t hmay
    rw [Tm.plain_eq, Bool.and_eq_true] at hpl
    rw [Tm.wr_txt, Tm.txt_eq]
    unfold textK txtK
    by_cases h1 : t.kind = 1
    · rw [if_pos h1, if_pos h1]
    rw [if_neg h1, if_neg h1]
    by_cases h3 : t.kind = 3
    · rw [if_pos h3, if_pos h3]
    rw [if_neg h3, if_neg h3]
    by_cases h2 : t.kind = 2
    · rw [if_pos h2, if_pos h2]
    rw [if_neg h2, if_neg h2]
    have h4 : t.kind = 4 := hk h1 h3 h2
    have hodd : oddK t.name.data.toList t.args.length = false := by
      have := hpl.1
      rw [decide_eq_true h4, Bool.true_and, Bool.not_eq_true'] at this
      exact this
    obtain ⟨h5, h6, h7⟩ := odd_no hodd
    obtain ⟨hmays, _, _⟩ := may_comps hmay h4
    have hall : ∀ x ∈ t.args, ∀ p, x.wr.txt p = x.txt := fun x hx p => by
      rw [Tm.mays_all, List.all_eq_true] at hmays
      have hp2 := hpl.2
      rw [Tm.plains_all, List.all_eq_true] at hp2
      exact ih x (by have := Tm.mem_size hx; have := t.size_eq; omega) (hmays x hx) (hp2 x hx) p
    have hc := call_plain t.name.data.toList t.args h6 h7 hall
    rw [← hc]
    match hl : t.args with
    | [] => rfl
    | [a] =>
      show (if t.name.data.toList = [123, 125] then _ else _) = _
      rw [if_neg h6]
    | [a, b] =>
      obtain ⟨h8, h9⟩ := h5 (by rw [hl]; rfl)
      show (if t.name.data.toList = [46] then _ else match opR t.name.data.toList 3 with | some o => _ | none => _) = _
      rw [if_neg h9, h8]
    | _ :: _ :: _ :: _ => rfl
theorem plain_txt (t : Tm) (hmay : t.may = true) (h : t.plain = true) : t.wr.txt 1200 = t.txt := plain_txt' _ t (Nat.le_refl _) hmay h 1200

/-! ### The contract of plain -/

set_option maxRecDepth 100000 in
set_option maxHeartbeats 4000000 in
theorem plain_leaf (m : Nat) (IH : ∀ (T : Tm) (ad : Option Addr) (cap : Nat) (w : World), T.size ≤ m → TmIn w T ad cap → Calls Tryd.prog 12 #[tmv T ad cap] w fun e w' => e = .returned (.bool T.plain) ∧ Below w.heap.size w w') (T : Tm) (ad : Option Addr) (cap : Nat) (w : World) (hm : T.size ≤ m + 1) (hin : TmIn w T ad cap) (hk4 : T.kind ≠ 4) :
    Calls Tryd.prog 12 #[tmv T ad cap] w fun e w' => e = .returned (.bool (Tm.plains T.args)) ∧ Below w.heap.size w w' := by
  have HB0 := Lib.hid (fun o : Obj => (Below.refl w.heap.size w).alloc (Nat.le_refl _) o)
  obtain ⟨E, hE⟩ : ∃ E, Tm.plains T.args = E := ⟨_, rfl⟩
  rw [hE]
  have HE := Lib.hid hE
  have HI := Lib.hid hin
  have HSZ := Lib.hid T.size_eq
  have IH := Lib.hid IH
  have hcapl := hin.len
  have hcapm := hin.cap
  unfold maxLen at hcapm
  have ek : (T.kind == 4) = false := by simpa using hk4
  clear hin hE hk4
  unfold tmv
  go_enter Tryd.func12, Tryd.ntmps12
  go_wp2_with fail
  go_loopw [47] (fun iv wr => ∃ k : Nat, k ≤ T.args.length ∧ iv = .int .i64 k ∧ Below w.heap.size w wr ∧ Hid (Tm.plains (T.args.take k) = true)) (fun iv _ => T.args.length - (intOf iv).toNat)
  case atStart => exact ⟨0, Nat.zero_le _, rfl, HB0.out _, Lib.hid rfl⟩
  case round =>
    obtain ⟨k, hk, rfl, hbw, HB⟩ := hrel
    by_cases hlt : k < T.args.length
    · obtain ⟨b, o, rfl⟩ := HI.out.args.addr (by omega)
      obtain ⟨ad1, cap1, c0, c1, c2, c3, hin1⟩ := (HI.out.args.on hbw).get k hlt
      have hmem := Tm.mem_size (List.getElem_mem hlt)
      have hsn := Lib.hid (plains_snoc T.args k hlt)
      have hht := Lib.hid (plains_hit T.args k hlt)
      generalize T.args[k] = x at *
      have hxm : x.size ≤ m := by have := HSZ.out; omega
      have hF := IH.out x ad1 cap1 (wr.alloc (.cells #[.int .i64 x.kind, .string x.name, .int .i64 x.n, .slice ad1 x.args.length cap1] 24)) hxm (hin1.on ((Below.refl _ wr).alloc (Nat.le_refl _) _))
      unfold tmv at hF
      cases hx : x.plain with
      | false =>
        rw [hx] at hF
        have HF := Lib.hid hF
        have HR : Hid (E = false) := Lib.hid (HE.out.symm.trans (hht.out hx))
        clear hF hx hin1 hmem
        go_wp2_with fail
        refine HF.out.mono ?_
        rintro e w3 ⟨rfl, hb3⟩
        have hbw2 := (hbw.alloc hbw.size _).trans (hb3.mono (Nat.le_trans hbw.size (by simp)))
        clear hb3 hbw c0 c1 c2 c3
        go_wp2_with fail
        go_ret
        exact ⟨ret_bool HR.out.symm, hbw2⟩
      | true =>
        rw [hx] at hF
        have HF := Lib.hid hF
        have HN : Hid (Tm.plains (T.args.take (k + 1)) = true) := Lib.hid (by rw [hsn.out, HB.out, hx]; rfl)
        clear hF hx hin1 hmem
        go_wp2_with fail
        refine HF.out.mono ?_
        rintro e w3 ⟨rfl, hb3⟩
        have hbw2 := (hbw.alloc hbw.size _).trans (hb3.mono (Nat.le_trans hbw.size (by simp)))
        clear hb3 hbw c0 c1 c2 c3
        go_wp2_with fail
        go_roundw
        case rel => exact ⟨k + 1, by omega, by go_num, hbw2, HN⟩
        case measure => simp [intOf]; omega
    · have hR := HB.out
      rw [List.take_of_length_le (by omega)] at hR
      have HR : Hid (E = true) := Lib.hid (HE.out.symm.trans hR)
      clear hR HB
      go_wp2_with fail
      go_ret
      exact ⟨ret_bool HR.out.symm, hbw⟩

set_option maxRecDepth 100000 in
set_option maxHeartbeats 4000000 in
theorem plain_op (m : Nat) (IH : ∀ (T : Tm) (ad : Option Addr) (cap : Nat) (w : World), T.size ≤ m → TmIn w T ad cap → Calls Tryd.prog 12 #[tmv T ad cap] w fun e w' => e = .returned (.bool T.plain) ∧ Below w.heap.size w w') (T : Tm) (ad : Option Addr) (cap : Nat) (w : World) (hm : T.size ≤ m + 1) (hin : TmIn w T ad cap) (hk4 : T.kind = 4) (h6 : T.name.data.toList ≠ [123, 125]) (h7 : T.name.data.toList ≠ [91, 93]) (o : R) (ho : opR T.name.data.toList 3 = some o) (h2 : T.args.length ≠ 2) (h8 : T.name.data.toList ≠ [46]) :
    Calls Tryd.prog 12 #[tmv T ad cap] w fun e w' => e = .returned (.bool (Tm.plains T.args)) ∧ Below w.heap.size w w' := by
  have HB0 := Lib.hid (fun o : Obj => (Below.refl w.heap.size w).alloc (Nat.le_refl _) o)
  obtain ⟨E, hE⟩ : ∃ E, Tm.plains T.args = E := ⟨_, rfl⟩
  rw [hE]
  have HE := Lib.hid hE
  have HI := Lib.hid hin
  have HSZ := Lib.hid T.size_eq
  have IH := Lib.hid IH
  have hcapl := hin.len
  have hcapm := hin.cap
  unfold maxLen at hcapm
  have hif := fun W => ref_Infix T.name W
  rw [← opR_name] at hif
  rw [ho] at hif
  have hif : ∀ W, Calls Tryd.prog 27 #[.string T.name] W fun e w' => e = .returned (.tuple #[.agg #[.int .i64 o.p, .string o.k], .bool true]) ∧ Below W.heap.size W w' := hif
  have e2 : ((T.args.length : Int) == 2) = false := by have := h2; simp; omega
  have eh8 : (T.name.toList == [46]) = false := by rw [ByteArray.toList_eq]; exact beq_eq_false_iff_ne.2 h8
  have eh6 : (T.name.toList == [123, 125]) = false := by rw [ByteArray.toList_eq]; exact beq_eq_false_iff_ne.2 h6
  have eh7 : (T.name.toList == [91, 93]) = false := by rw [ByteArray.toList_eq]; exact beq_eq_false_iff_ne.2 h7
  have HIF := Lib.hid hif
  unfold tmv
  rw [hk4]
  clear hin hE hif hk4 h6 h7 h8 ho h2
  go_enter Tryd.func12, Tryd.ntmps12
  go_wp2_with fail
  refine (HIF.out _).mono ?_
  rintro e w1 ⟨rfl, hb1⟩
  have hX1 := (hb1.block w.heap.size (by simp)).trans (heap_alloc_new w _)
  have hB1 := (HB0.out _).trans (hb1.mono (by simp))
  clear hb1
  have hs1 := (Array.getElem?_eq_some_iff.1 hX1).1
  obtain ⟨d0, d1, d2, d3⟩ := cellx4 hX1
  go_wp2_with fail
  clear d0 d1 d2 d3 hX1
  go_loopw [47] (fun iv wr => ∃ k : Nat, k ≤ T.args.length ∧ iv = .int .i64 k ∧ Below w.heap.size w wr ∧ Hid (Tm.plains (T.args.take k) = true)) (fun iv _ => T.args.length - (intOf iv).toNat)
  case atStart => exact ⟨0, Nat.zero_le _, rfl, hB1.alloc hB1.size _, Lib.hid rfl⟩
  case round =>
    obtain ⟨k, hk, rfl, hbw, HB⟩ := hrel
    by_cases hlt : k < T.args.length
    · obtain ⟨b, o, rfl⟩ := HI.out.args.addr (by omega)
      obtain ⟨ad1, cap1, c0, c1, c2, c3, hin1⟩ := (HI.out.args.on hbw).get k hlt
      have hmem := Tm.mem_size (List.getElem_mem hlt)
      have hsn := Lib.hid (plains_snoc T.args k hlt)
      have hht := Lib.hid (plains_hit T.args k hlt)
      generalize T.args[k] = x at *
      have hxm : x.size ≤ m := by have := HSZ.out; omega
      have hF := IH.out x ad1 cap1 (wr.alloc (.cells #[.int .i64 x.kind, .string x.name, .int .i64 x.n, .slice ad1 x.args.length cap1] 24)) hxm (hin1.on ((Below.refl _ wr).alloc (Nat.le_refl _) _))
      unfold tmv at hF
      cases hx : x.plain with
      | false =>
        rw [hx] at hF
        have HF := Lib.hid hF
        have HR : Hid (E = false) := Lib.hid (HE.out.symm.trans (hht.out hx))
        clear hF hx hin1 hmem
        go_wp2_with fail
        refine HF.out.mono ?_
        rintro e w3 ⟨rfl, hb3⟩
        have hbw2 := (hbw.alloc hbw.size _).trans (hb3.mono (Nat.le_trans hbw.size (by simp)))
        clear hb3 hbw c0 c1 c2 c3
        go_wp2_with fail
        go_ret
        exact ⟨ret_bool HR.out.symm, hbw2⟩
      | true =>
        rw [hx] at hF
        have HF := Lib.hid hF
        have HN : Hid (Tm.plains (T.args.take (k + 1)) = true) := Lib.hid (by rw [hsn.out, HB.out, hx]; rfl)
        clear hF hx hin1 hmem
        go_wp2_with fail
        refine HF.out.mono ?_
        rintro e w3 ⟨rfl, hb3⟩
        have hbw2 := (hbw.alloc hbw.size _).trans (hb3.mono (Nat.le_trans hbw.size (by simp)))
        clear hb3 hbw c0 c1 c2 c3
        go_wp2_with fail
        go_roundw
        case rel => exact ⟨k + 1, by omega, by go_num, hbw2, HN⟩
        case measure => simp [intOf]; omega
    · have hR := HB.out
      rw [List.take_of_length_le (by omega)] at hR
      have HR : Hid (E = true) := Lib.hid (HE.out.symm.trans hR)
      clear hR HB
      go_wp2_with fail
      go_ret
      exact ⟨ret_bool HR.out.symm, hbw⟩

set_option maxRecDepth 100000 in
set_option maxHeartbeats 4000000 in
theorem plain_dot (m : Nat) (IH : ∀ (T : Tm) (ad : Option Addr) (cap : Nat) (w : World), T.size ≤ m → TmIn w T ad cap → Calls Tryd.prog 12 #[tmv T ad cap] w fun e w' => e = .returned (.bool T.plain) ∧ Below w.heap.size w w') (T : Tm) (ad : Option Addr) (cap : Nat) (w : World) (hm : T.size ≤ m + 1) (hin : TmIn w T ad cap) (hk4 : T.kind = 4) (h6 : T.name.data.toList ≠ [123, 125]) (h7 : T.name.data.toList ≠ [91, 93]) (ho : opR T.name.data.toList 3 = none) (h2 : T.args.length ≠ 2) (h8 : T.name.data.toList = [46]) :
    Calls Tryd.prog 12 #[tmv T ad cap] w fun e w' => e = .returned (.bool (Tm.plains T.args)) ∧ Below w.heap.size w w' := by
  have HB0 := Lib.hid (fun o : Obj => (Below.refl w.heap.size w).alloc (Nat.le_refl _) o)
  obtain ⟨E, hE⟩ : ∃ E, Tm.plains T.args = E := ⟨_, rfl⟩
  rw [hE]
  have HE := Lib.hid hE
  have HI := Lib.hid hin
  have HSZ := Lib.hid T.size_eq
  have IH := Lib.hid IH
  have hcapl := hin.len
  have hcapm := hin.cap
  unfold maxLen at hcapm
  have hif := fun W => ref_Infix T.name W
  rw [← opR_name] at hif
  rw [ho] at hif
  have hif : ∀ W, Calls Tryd.prog 27 #[.string T.name] W fun e w' => e = .returned (.tuple #[.agg #[.int .i64 0, .string ⟨#[]⟩], .bool false]) ∧ Below W.heap.size W w' := hif
  have e2 : ((T.args.length : Int) == 2) = false := by have := h2; simp; omega
  have e8 : (T.name.toList == [46]) = true := by rw [ByteArray.toList_eq, h8]; rfl
  have eh6 : (T.name.toList == [123, 125]) = false := by rw [ByteArray.toList_eq]; exact beq_eq_false_iff_ne.2 h6
  have eh7 : (T.name.toList == [91, 93]) = false := by rw [ByteArray.toList_eq]; exact beq_eq_false_iff_ne.2 h7
  have HIF := Lib.hid hif
  unfold tmv
  rw [hk4]
  clear hin hE hif hk4 h6 h7 h8 ho h2
  go_enter Tryd.func12, Tryd.ntmps12
  go_wp2_with fail
  refine (HIF.out _).mono ?_
  rintro e w1 ⟨rfl, hb1⟩
  have hX1 := (hb1.block w.heap.size (by simp)).trans (heap_alloc_new w _)
  have hB1 := (HB0.out _).trans (hb1.mono (by simp))
  clear hb1
  have hs1 := (Array.getElem?_eq_some_iff.1 hX1).1
  obtain ⟨d0, d1, d2, d3⟩ := cellx4 hX1
  go_wp2_with fail
  clear d0 d1 d2 d3 hX1
  go_loopw [47] (fun iv wr => ∃ k : Nat, k ≤ T.args.length ∧ iv = .int .i64 k ∧ Below w.heap.size w wr ∧ Hid (Tm.plains (T.args.take k) = true)) (fun iv _ => T.args.length - (intOf iv).toNat)
  case atStart => exact ⟨0, Nat.zero_le _, rfl, hB1.alloc hB1.size _, Lib.hid rfl⟩
  case round =>
    obtain ⟨k, hk, rfl, hbw, HB⟩ := hrel
    by_cases hlt : k < T.args.length
    · obtain ⟨b, o, rfl⟩ := HI.out.args.addr (by omega)
      obtain ⟨ad1, cap1, c0, c1, c2, c3, hin1⟩ := (HI.out.args.on hbw).get k hlt
      have hmem := Tm.mem_size (List.getElem_mem hlt)
      have hsn := Lib.hid (plains_snoc T.args k hlt)
      have hht := Lib.hid (plains_hit T.args k hlt)
      generalize T.args[k] = x at *
      have hxm : x.size ≤ m := by have := HSZ.out; omega
      have hF := IH.out x ad1 cap1 (wr.alloc (.cells #[.int .i64 x.kind, .string x.name, .int .i64 x.n, .slice ad1 x.args.length cap1] 24)) hxm (hin1.on ((Below.refl _ wr).alloc (Nat.le_refl _) _))
      unfold tmv at hF
      cases hx : x.plain with
      | false =>
        rw [hx] at hF
        have HF := Lib.hid hF
        have HR : Hid (E = false) := Lib.hid (HE.out.symm.trans (hht.out hx))
        clear hF hx hin1 hmem
        go_wp2_with fail
        refine HF.out.mono ?_
        rintro e w3 ⟨rfl, hb3⟩
        have hbw2 := (hbw.alloc hbw.size _).trans (hb3.mono (Nat.le_trans hbw.size (by simp)))
        clear hb3 hbw c0 c1 c2 c3
        go_wp2_with fail
        go_ret
        exact ⟨ret_bool HR.out.symm, hbw2⟩
      | true =>
        rw [hx] at hF
        have HF := Lib.hid hF
        have HN : Hid (Tm.plains (T.args.take (k + 1)) = true) := Lib.hid (by rw [hsn.out, HB.out, hx]; rfl)
        clear hF hx hin1 hmem
        go_wp2_with fail
        refine HF.out.mono ?_
        rintro e w3 ⟨rfl, hb3⟩
        have hbw2 := (hbw.alloc hbw.size _).trans (hb3.mono (Nat.le_trans hbw.size (by simp)))
        clear hb3 hbw c0 c1 c2 c3
        go_wp2_with fail
        go_roundw
        case rel => exact ⟨k + 1, by omega, by go_num, hbw2, HN⟩
        case measure => simp [intOf]; omega
    · have hR := HB.out
      rw [List.take_of_length_le (by omega)] at hR
      have HR : Hid (E = true) := Lib.hid (HE.out.symm.trans hR)
      clear hR HB
      go_wp2_with fail
      go_ret
      exact ⟨ret_bool HR.out.symm, hbw⟩

set_option maxRecDepth 100000 in
set_option maxHeartbeats 4000000 in
theorem plain_name (m : Nat) (IH : ∀ (T : Tm) (ad : Option Addr) (cap : Nat) (w : World), T.size ≤ m → TmIn w T ad cap → Calls Tryd.prog 12 #[tmv T ad cap] w fun e w' => e = .returned (.bool T.plain) ∧ Below w.heap.size w w') (T : Tm) (ad : Option Addr) (cap : Nat) (w : World) (hm : T.size ≤ m + 1) (hin : TmIn w T ad cap) (hk4 : T.kind = 4) (h6 : T.name.data.toList ≠ [123, 125]) (h7 : T.name.data.toList ≠ [91, 93]) (ho : opR T.name.data.toList 3 = none) (h8 : T.name.data.toList ≠ [46]) :
    Calls Tryd.prog 12 #[tmv T ad cap] w fun e w' => e = .returned (.bool (Tm.plains T.args)) ∧ Below w.heap.size w w' := by
  have HB0 := Lib.hid (fun o : Obj => (Below.refl w.heap.size w).alloc (Nat.le_refl _) o)
  obtain ⟨E, hE⟩ : ∃ E, Tm.plains T.args = E := ⟨_, rfl⟩
  rw [hE]
  have HE := Lib.hid hE
  have HI := Lib.hid hin
  have HSZ := Lib.hid T.size_eq
  have IH := Lib.hid IH
  have hcapl := hin.len
  have hcapm := hin.cap
  unfold maxLen at hcapm
  have hif := fun W => ref_Infix T.name W
  rw [← opR_name] at hif
  rw [ho] at hif
  have hif : ∀ W, Calls Tryd.prog 27 #[.string T.name] W fun e w' => e = .returned (.tuple #[.agg #[.int .i64 0, .string ⟨#[]⟩], .bool false]) ∧ Below W.heap.size W w' := hif
  have eh8 : (T.name.toList == [46]) = false := by rw [ByteArray.toList_eq]; exact beq_eq_false_iff_ne.2 h8
  have eh6 : (T.name.toList == [123, 125]) = false := by rw [ByteArray.toList_eq]; exact beq_eq_false_iff_ne.2 h6
  have eh7 : (T.name.toList == [91, 93]) = false := by rw [ByteArray.toList_eq]; exact beq_eq_false_iff_ne.2 h7
  have HIF := Lib.hid hif
  unfold tmv
  rw [hk4]
  clear hin hE hif hk4 h6 h7 h8 ho
  go_enter Tryd.func12, Tryd.ntmps12
  go_wp2_with fail
  refine (HIF.out _).mono ?_
  rintro e w1 ⟨rfl, hb1⟩
  have hX1 := (hb1.block w.heap.size (by simp)).trans (heap_alloc_new w _)
  have hB1 := (HB0.out _).trans (hb1.mono (by simp))
  clear hb1
  have hs1 := (Array.getElem?_eq_some_iff.1 hX1).1
  obtain ⟨d0, d1, d2, d3⟩ := cellx4 hX1
  go_wp2_with fail
  clear d0 d1 d2 d3 hX1
  go_loopw [47] (fun iv wr => ∃ k : Nat, k ≤ T.args.length ∧ iv = .int .i64 k ∧ Below w.heap.size w wr ∧ Hid (Tm.plains (T.args.take k) = true)) (fun iv _ => T.args.length - (intOf iv).toNat)
  case atStart => exact ⟨0, Nat.zero_le _, rfl, hB1.alloc hB1.size _, Lib.hid rfl⟩
  case round =>
    obtain ⟨k, hk, rfl, hbw, HB⟩ := hrel
    by_cases hlt : k < T.args.length
    · obtain ⟨b, o, rfl⟩ := HI.out.args.addr (by omega)
      obtain ⟨ad1, cap1, c0, c1, c2, c3, hin1⟩ := (HI.out.args.on hbw).get k hlt
      have hmem := Tm.mem_size (List.getElem_mem hlt)
      have hsn := Lib.hid (plains_snoc T.args k hlt)
      have hht := Lib.hid (plains_hit T.args k hlt)
      generalize T.args[k] = x at *
      have hxm : x.size ≤ m := by have := HSZ.out; omega
      have hF := IH.out x ad1 cap1 (wr.alloc (.cells #[.int .i64 x.kind, .string x.name, .int .i64 x.n, .slice ad1 x.args.length cap1] 24)) hxm (hin1.on ((Below.refl _ wr).alloc (Nat.le_refl _) _))
      unfold tmv at hF
      cases hx : x.plain with
      | false =>
        rw [hx] at hF
        have HF := Lib.hid hF
        have HR : Hid (E = false) := Lib.hid (HE.out.symm.trans (hht.out hx))
        clear hF hx hin1 hmem
        go_wp2_with fail
        refine HF.out.mono ?_
        rintro e w3 ⟨rfl, hb3⟩
        have hbw2 := (hbw.alloc hbw.size _).trans (hb3.mono (Nat.le_trans hbw.size (by simp)))
        clear hb3 hbw c0 c1 c2 c3
        go_wp2_with fail
        go_ret
        exact ⟨ret_bool HR.out.symm, hbw2⟩
      | true =>
        rw [hx] at hF
        have HF := Lib.hid hF
        have HN : Hid (Tm.plains (T.args.take (k + 1)) = true) := Lib.hid (by rw [hsn.out, HB.out, hx]; rfl)
        clear hF hx hin1 hmem
        go_wp2_with fail
        refine HF.out.mono ?_
        rintro e w3 ⟨rfl, hb3⟩
        have hbw2 := (hbw.alloc hbw.size _).trans (hb3.mono (Nat.le_trans hbw.size (by simp)))
        clear hb3 hbw c0 c1 c2 c3
        go_wp2_with fail
        go_roundw
        case rel => exact ⟨k + 1, by omega, by go_num, hbw2, HN⟩
        case measure => simp [intOf]; omega
    · have hR := HB.out
      rw [List.take_of_length_le (by omega)] at hR
      have HR : Hid (E = true) := Lib.hid (HE.out.symm.trans hR)
      clear hR HB
      go_wp2_with fail
      go_ret
      exact ⟨ret_bool HR.out.symm, hbw⟩

set_option maxRecDepth 100000 in
set_option maxHeartbeats 4000000 in
theorem odd_op (m : Nat)  (T : Tm) (ad : Option Addr) (cap : Nat) (w : World) (_hm : T.size ≤ m + 1) (hin : TmIn w T ad cap) (hk4 : T.kind = 4) (o : R) (ho : opR T.name.data.toList 3 = some o) (h2 : T.args.length = 2) :
    Calls Tryd.prog 12 #[tmv T ad cap] w fun e w' => e = .returned (.bool false) ∧ Below w.heap.size w w' := by
  have HB0 := Lib.hid (fun o : Obj => (Below.refl w.heap.size w).alloc (Nat.le_refl _) o)
  have hcapl := hin.len
  have hcapm := hin.cap
  unfold maxLen at hcapm
  have hif := fun W => ref_Infix T.name W
  rw [← opR_name] at hif
  rw [ho] at hif
  have hif : ∀ W, Calls Tryd.prog 27 #[.string T.name] W fun e w' => e = .returned (.tuple #[.agg #[.int .i64 o.p, .string o.k], .bool true]) ∧ Below W.heap.size W w' := hif
  have e2 : ((T.args.length : Int) == 2) = true := by have := h2; simp; omega
  have HIF := Lib.hid hif
  unfold tmv
  rw [hk4]
  clear hin hif hk4 ho h2
  go_enter Tryd.func12, Tryd.ntmps12
  go_wp2_with fail
  refine (HIF.out _).mono ?_
  rintro e w1 ⟨rfl, hb1⟩
  have hX1 := (hb1.block w.heap.size (by simp)).trans (heap_alloc_new w _)
  have hB1 := (HB0.out _).trans (hb1.mono (by simp))
  clear hb1
  have hs1 := (Array.getElem?_eq_some_iff.1 hX1).1
  obtain ⟨d0, d1, d2, d3⟩ := cellx4 hX1
  go_wp2_with fail
  go_ret
  exact ⟨rfl, hB1.alloc hB1.size _⟩

set_option maxRecDepth 100000 in
set_option maxHeartbeats 4000000 in
theorem odd_dot (m : Nat)  (T : Tm) (ad : Option Addr) (cap : Nat) (w : World) (_hm : T.size ≤ m + 1) (hin : TmIn w T ad cap) (hk4 : T.kind = 4) (hs : T.name.data.toList = [46]) (h2 : T.args.length = 2) :
    Calls Tryd.prog 12 #[tmv T ad cap] w fun e w' => e = .returned (.bool false) ∧ Below w.heap.size w w' := by
  have HB0 := Lib.hid (fun o : Obj => (Below.refl w.heap.size w).alloc (Nat.le_refl _) o)
  have hcapl := hin.len
  have hcapm := hin.cap
  unfold maxLen at hcapm
  have hif := fun W => ref_Infix T.name W
  rw [← opR_name] at hif
  have es : T.name = ⟨#[46]⟩ := by apply ByteArray.ext; rw [← Array.toList_inj]; exact hs
  rw [hs, show opR [46] 3 = none from by decide +kernel] at hif
  have hif : ∀ W, Calls Tryd.prog 27 #[.string T.name] W fun e w' => e = .returned (.tuple #[.agg #[.int .i64 0, .string ⟨#[]⟩], .bool false]) ∧ Below W.heap.size W w' := hif
  have e2 : ((T.args.length : Int) == 2) = true := by have := h2; simp; omega
  rw [es] at hif
  have HIF := Lib.hid hif
  unfold tmv
  rw [es]
  rw [hk4]
  clear hin hif hk4 hs h2
  go_enter Tryd.func12, Tryd.ntmps12
  go_wp2_with fail
  refine (HIF.out _).mono ?_
  rintro e w1 ⟨rfl, hb1⟩
  have hX1 := (hb1.block w.heap.size (by simp)).trans (heap_alloc_new w _)
  have hB1 := (HB0.out _).trans (hb1.mono (by simp))
  clear hb1
  have hs1 := (Array.getElem?_eq_some_iff.1 hX1).1
  obtain ⟨d0, d1, d2, d3⟩ := cellx4 hX1
  go_wp2_with fail
  go_ret
  exact ⟨rfl, hB1.alloc hB1.size _⟩

set_option maxRecDepth 100000 in
set_option maxHeartbeats 4000000 in
theorem odd_curly (m : Nat)  (T : Tm) (ad : Option Addr) (cap : Nat) (w : World) (_hm : T.size ≤ m + 1) (hin : TmIn w T ad cap) (hk4 : T.kind = 4) (hs : T.name.data.toList = [123, 125]) :
    Calls Tryd.prog 12 #[tmv T ad cap] w fun e w' => e = .returned (.bool false) ∧ Below w.heap.size w w' := by
  have HB0 := Lib.hid (fun o : Obj => (Below.refl w.heap.size w).alloc (Nat.le_refl _) o)
  have hcapl := hin.len
  have hcapm := hin.cap
  unfold maxLen at hcapm
  have hif := fun W => ref_Infix T.name W
  rw [← opR_name] at hif
  have es : T.name = ⟨#[123, 125]⟩ := by apply ByteArray.ext; rw [← Array.toList_inj]; exact hs
  rw [hs, show opR [123, 125] 3 = none from by decide +kernel] at hif
  have hif : ∀ W, Calls Tryd.prog 27 #[.string T.name] W fun e w' => e = .returned (.tuple #[.agg #[.int .i64 0, .string ⟨#[]⟩], .bool false]) ∧ Below W.heap.size W w' := hif
  rw [es] at hif
  have HIF := Lib.hid hif
  unfold tmv
  rw [es]
  rw [hk4]
  clear hin hif hk4 hs
  go_enter Tryd.func12, Tryd.ntmps12
  go_wp2_with fail
  refine (HIF.out _).mono ?_
  rintro e w1 ⟨rfl, hb1⟩
  have hX1 := (hb1.block w.heap.size (by simp)).trans (heap_alloc_new w _)
  have hB1 := (HB0.out _).trans (hb1.mono (by simp))
  clear hb1
  have hs1 := (Array.getElem?_eq_some_iff.1 hX1).1
  obtain ⟨d0, d1, d2, d3⟩ := cellx4 hX1
  go_wp2_with fail
  go_ret
  exact ⟨rfl, hB1.alloc hB1.size _⟩

set_option maxRecDepth 100000 in
set_option maxHeartbeats 4000000 in
theorem odd_square (m : Nat)  (T : Tm) (ad : Option Addr) (cap : Nat) (w : World) (_hm : T.size ≤ m + 1) (hin : TmIn w T ad cap) (hk4 : T.kind = 4) (hs : T.name.data.toList = [91, 93]) :
    Calls Tryd.prog 12 #[tmv T ad cap] w fun e w' => e = .returned (.bool false) ∧ Below w.heap.size w w' := by
  have HB0 := Lib.hid (fun o : Obj => (Below.refl w.heap.size w).alloc (Nat.le_refl _) o)
  have hcapl := hin.len
  have hcapm := hin.cap
  unfold maxLen at hcapm
  have hif := fun W => ref_Infix T.name W
  rw [← opR_name] at hif
  have es : T.name = ⟨#[91, 93]⟩ := by apply ByteArray.ext; rw [← Array.toList_inj]; exact hs
  rw [hs, show opR [91, 93] 3 = none from by decide +kernel] at hif
  have hif : ∀ W, Calls Tryd.prog 27 #[.string T.name] W fun e w' => e = .returned (.tuple #[.agg #[.int .i64 0, .string ⟨#[]⟩], .bool false]) ∧ Below W.heap.size W w' := hif
  rw [es] at hif
  have HIF := Lib.hid hif
  unfold tmv
  rw [es]
  rw [hk4]
  clear hin hif hk4 hs
  go_enter Tryd.func12, Tryd.ntmps12
  go_wp2_with fail
  refine (HIF.out _).mono ?_
  rintro e w1 ⟨rfl, hb1⟩
  have hX1 := (hb1.block w.heap.size (by simp)).trans (heap_alloc_new w _)
  have hB1 := (HB0.out _).trans (hb1.mono (by simp))
  clear hb1
  have hs1 := (Array.getElem?_eq_some_iff.1 hX1).1
  obtain ⟨d0, d1, d2, d3⟩ := cellx4 hX1
  go_wp2_with fail
  go_ret
  exact ⟨rfl, hB1.alloc hB1.size _⟩

theorem ref_plain (m : Nat) : ∀ (T : Tm) (ad : Option Addr) (cap : Nat) (w : World), T.size ≤ m → TmIn w T ad cap →
    Calls Tryd.prog 12 #[tmv T ad cap] w fun e w' => e = .returned (.bool T.plain) ∧ Below w.heap.size w w' := by
  induction m with
  | zero => intro T ad cap w h; have := T.size_pos; omega
  | succ m ih =>
    intro T ad cap w hm hin
    rw [T.plain_eq]
    by_cases hk4 : T.kind = 4
    · rw [decide_eq_true hk4, Bool.true_and]
      cases hodd : oddK T.name.data.toList T.args.length with
      | true =>
        rw [Bool.not_true, Bool.false_and]
        unfold oddK at hodd
        simp only [Bool.or_eq_true, Bool.and_eq_true, decide_eq_true_eq] at hodd
        rcases hodd with ⟨h1, h2⟩ | ⟨h1, h2⟩ | h1 | h1
        · obtain ⟨o, ho⟩ := Option.isSome_iff_exists.1 h1
          exact odd_op m T ad cap w hm hin hk4 o ho h2
        · exact odd_dot m T ad cap w hm hin hk4 h1 h2
        · exact odd_curly m T ad cap w hm hin hk4 h1
        · exact odd_square m T ad cap w hm hin hk4 h1
      | false =>
        rw [Bool.not_false, Bool.true_and]
        obtain ⟨h5, h6, h7⟩ := odd_no hodd
        cases ho : opR T.name.data.toList 3 with
        | some o =>
          refine plain_op m ih T ad cap w hm hin hk4 h6 h7 o ho (fun h2 => by rw [(h5 h2).1] at ho; cases ho) (fun h8 => ?_)
          rw [h8, show opR [46] 3 = none from by decide +kernel] at ho
          cases ho
        | none =>
          by_cases h8 : T.name.data.toList = [46]
          · exact plain_dot m ih T ad cap w hm hin hk4 h6 h7 ho (fun h2 => (h5 h2).2 h8) h8
          · exact plain_name m ih T ad cap w hm hin hk4 h6 h7 ho h8
    · rw [decide_eq_false hk4, Bool.false_and, Bool.not_false, Bool.true_and]
      exact plain_leaf m ih T ad cap w hm hin hk4
end Go.Proofs.YtdjejbgokamjeaaDoor
