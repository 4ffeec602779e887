/-
  The contracts of the document's own write and Text for term.
-/
import Derived.Test.YthfdiclmbbngcaaDoorTermMay
import Derived.Test.YthfdiclmbbngcaaDoorNumBackA
import Derived.Test.YthfdiclmbbngcaaDoorCharRefDG
namespace Go.Proofs.YthfdiclmbbngcaaDoor
open Go.RowKit

/-- A term's text, out of its parts. -/
def txtK (k : Int) (s : List UInt8) (n : Int) (args : List UInt8) : List UInt8 :=
  if k = 1 then 95 :: Lib.itoa n else if k = 3 then Lib.itoa n else if k = 2 then writeL s else writeL s ++ (40 :: (args.drop 1 ++ [41]))
mutual
def Tm.txt : Tm → List UInt8
  | .mk k s n l => txtK k s.data.toList n (Tm.commas l)
/-- Each with a comma ahead. -/
def Tm.commas : List Tm → List UInt8
  | [] => []
  | t :: l => 44 :: (t.txt ++ Tm.commas l)
end
theorem Tm.txt_eq (t : Tm) : t.txt = txtK t.kind t.name.data.toList t.n (Tm.commas t.args) := by cases t; rfl
theorem Tm.commas_append (a b : List Tm) : Tm.commas (a ++ b) = Tm.commas a ++ Tm.commas b := by
  induction a with
  | nil => rfl
  | cons t a ih => show 44 :: (t.txt ++ Tm.commas (a ++ b)) = 44 :: (t.txt ++ Tm.commas a) ++ Tm.commas b; rw [ih]; simp
theorem commas_step (l : List Tm) (k : Nat) (h : k < l.length) : Tm.commas (l.take (k + 1)) = Tm.commas (l.take k) ++ (44 :: (l[k]'h).txt) := by
  rw [List.take_succ_eq_append_getElem h, Tm.commas_append]
  show _ ++ 44 :: ((l[k]'h).txt ++ []) = _
  rw [List.append_nil]
theorem commas_pos (l : List Tm) (k : Nat) (hk : 0 < k) (h : k ≤ l.length) : 0 < (Tm.commas (l.take k)).length := by
  cases l with
  | nil => simp at h; omega
  | cons t l =>
    cases k with
    | zero => omega
    | succ k => show 0 < (44 :: (t.txt ++ Tm.commas (l.take k))).length; simp
theorem quote_len (l : List UInt8) (h : l.length ≤ 255) : (quoteL l).length ≤ 1277 := by
  have h1 := runesL_length l
  have h2 : ∀ rs : List Int, (rs.flatMap escR).length ≤ 5 * rs.length := fun rs => by
    induction rs with
    | nil => exact Nat.le_refl 0
    | cons c rs ih => rw [List.flatMap_cons, List.length_append, List.length_cons]; have := escR_length c; omega
  have h3 := h2 (runesL l)
  unfold quoteL
  rw [List.length_cons, List.length_append, List.length_singleton]
  omega
theorem write_len (l : List UInt8) : (writeL l).length ≤ 1277 := by
  unfold writeL
  by_cases h : checkL l = true
  · rw [if_pos h]
    have h1 : l.length ≤ 255 := by
      unfold checkL at h
      rw [Bool.and_eq_true, decide_eq_true_eq] at h
      exact h.1
    split
    · omega
    · exact quote_len l h1
  · rw [if_neg h]; exact Nat.zero_le _
mutual
/-- Numbers of 64 bits all through. -/
def Tm.n64 : Tm → Prop
  | .mk _ _ n l => In64 n ∧ Tm.n64s l
def Tm.n64s : List Tm → Prop
  | [] => True
  | t :: l => t.n64 ∧ Tm.n64s l
end
theorem Tm.n64_eq (t : Tm) : t.n64 ↔ In64 t.n ∧ Tm.n64s t.args := by cases t; exact Iff.rfl
theorem TArgs.n64 {w : World} {ad : Option Addr} {ts : List Tm} (h : TArgs w ad ts) : Tm.n64s ts := by
  induction h with
  | nil => trivial
  | cons b o k n nm l ts ad cap _ _ _ _ _ hn _ _ _ _ _ ih1 ih2 => exact ⟨⟨hn, ih1⟩, ih2⟩
theorem txt_len' (m : Nat) : ∀ l : List Tm, Tm.sizes l ≤ m → Tm.n64s l → (Tm.commas l).length ≤ 1400 * Tm.sizes l := by
  induction m with
  | zero =>
    intro l h _
    cases l with
    | nil => exact Nat.le_refl 0
    | cons t l => rw [Tm.sizes_cons] at h; have := t.size_pos; omega
  | succ m ih =>
    intro l h hn
    cases l with
    | nil => exact Nat.le_refl 0
    | cons t l =>
      rw [Tm.sizes_cons] at h ⊢
      have h1 := t.size_eq
      have hn1 := (Tm.n64_eq t).1 hn.1
      have h2 := ih t.args (by omega) hn1.2
      have h3 := ih l (by have := t.size_pos; omega) hn.2
      have hi := Lib.itoa_length_le t.n hn1.1.1 hn1.1.2
      have hw := write_len t.name.data.toList
      have ht : t.txt.length + 1 ≤ 1400 * t.size := by
        rw [t.txt_eq]
        unfold txtK
        split
        · rw [List.length_cons]; omega
        split
        · omega
        split
        · omega
        · rw [List.length_append, List.length_cons, List.length_append, List.length_drop, List.length_singleton]; omega
      show (44 :: (t.txt ++ Tm.commas l)).length ≤ _
      rw [List.length_cons, List.length_append]
      omega
theorem txt_len (t : Tm) (h : t.n64) : t.txt.length + 1 ≤ 1400 * t.size := by
  have h1 := txt_len' _ [t] (Nat.le_refl _) ⟨h, trivial⟩
  have h2 : (Tm.commas [t]).length = t.txt.length + 1 := by show (44 :: (t.txt ++ [])).length = _; rw [List.append_nil, List.length_cons]
  have h3 : Tm.sizes [t] = t.size := by show t.size + 0 = _; omega
  omega

set_option maxRecDepth 100000 in
set_option maxHeartbeats 4000000 in
theorem ref_write (m : Nat) : ∀ (T : Tm) (ad : Option Addr) (cap : Nat) (w : World), T.size ≤ m → T.size ≤ 1000000 → Tabs w → TmIn w T ad cap →
    Calls Tryd.prog 56 #[tmv T ad cap] w fun e w' => e = .returned (.string ⟨T.txt.toArray⟩) ∧ Below w.heap.size w w' := by
  induction m with
  | zero => intro T ad cap w h; have := T.size_pos; omega
  | succ m ih =>
    intro T ad cap w hm hM hT hin
    have IH := Lib.hid ih
    clear ih
    have HBW := Lib.hid (fun o : Obj => (Below.refl w.heap.size w).alloc (Nat.le_refl _) o)
    have HTX := Lib.hid (fun w => ref_Text T.n w hin.n)
    have HWR := Lib.hid (fun w hT => ref_Write T.name w hin.name hT)
    have HT := Lib.hid hT
    rw [T.txt_eq]
    unfold txtK
    have hil := Lib.itoa_length_le T.n hin.n.1 hin.n.2
    have hwl := write_len T.name.data.toList
    by_cases h1 : T.kind = 1
    · rw [if_pos h1]
      unfold tmv
      rw [h1]
      generalize Lib.itoa T.n = it at *
      clear hin hT h1
      go_enter Tryd.func56, Tryd.ntmps56
      go_wp2_with fail
      refine (HTX.out _).mono ?_; rintro e w2 ⟨rfl, hb2⟩
      have hb := (HBW.out _).trans (hb2.mono (by simp))
      clear hb2
      go_wp2_with fail
      go_ret
      exact ⟨ret_str (of_list _ _ (by rw [data_cat]; rfl)), hb⟩
    rw [if_neg h1]
    have e1 : (T.kind == 1) = false := by simpa using h1
    by_cases h3 : T.kind = 3
    · rw [if_pos h3]
      unfold tmv
      rw [h3]
      generalize Lib.itoa T.n = it at *
      clear hin hT h1 h3 e1
      go_enter Tryd.func56, Tryd.ntmps56
      go_wp2_with fail
      refine (HTX.out _).mono ?_; rintro e w2 ⟨rfl, hb2⟩
      have hb := (HBW.out _).trans (hb2.mono (by simp))
      clear hb2
      go_wp2_with fail
      go_ret
      exact ⟨rfl, hb⟩
    rw [if_neg h3]
    have e3 : (T.kind == 3) = false := by simpa using h3
    by_cases h2 : T.kind = 2
    · rw [if_pos h2]
      unfold tmv
      rw [h2]
      generalize writeL T.name.data.toList = wl at *
      clear hin hT h1 h3 h2 e1 e3
      go_enter Tryd.func56, Tryd.ntmps56
      go_wp2_with fail
      refine (HWR.out _ (HT.out.on (HBW.out _))).mono ?_; rintro e w2 ⟨rfl, hb2⟩
      have hb := (HBW.out _).trans (hb2.mono (by simp))
      clear hb2
      go_wp2_with fail
      go_ret
      exact ⟨rfl, hb⟩
    rw [if_neg h2]
    have e2 : (T.kind == 2) = false := by simpa using h2
    obtain ⟨E, hE⟩ : ∃ E, writeL T.name.data.toList ++ (40 :: ((Tm.commas T.args).drop 1 ++ [41])) = E := ⟨_, rfl⟩
    rw [hE]
    have HE := Lib.hid hE
    have HI := Lib.hid hin
    have HSZ := Lib.hid T.size_eq
    have hlen := Tm.length_le_sizes T.args
    have hsz := T.size_eq
    have hl : T.args.length ≤ 1000000 := by omega
    have hcapl := hin.len
    have hcapm := hin.cap
    unfold maxLen at hcapm
    have HN64 := Lib.hid hin.args.n64
    unfold tmv
    generalize writeL T.name.data.toList = wl at *
    clear hin hT h1 h3 h2 hE hsz hlen HTX hil
    go_enter Tryd.func56, Tryd.ntmps56
    go_wp2_with fail
    refine (HWR.out _ (HT.out.on (HBW.out _))).mono ?_; rintro e w2 ⟨rfl, hb2⟩
    have hb := (HBW.out _).trans (hb2.mono (by simp))
    obtain ⟨hc, hf⟩ := bcell_alloc hb2
    clear hb2
    go_wp2_with fail
    clear hc hf e1 e2 e3
    go_loopw [3, 31] (fun sv iv wr => ∃ (k : Nat) (t : ByteArray), k ≤ T.args.length ∧ iv = .int .i64 k ∧ sv = .string t ∧ t.size ≤ 2000 + 1400 * Tm.sizes (T.args.take k) ∧ Below w.heap.size w wr ∧ Hid (t.data.toList = wl ++ (40 :: (Tm.commas (T.args.take k)).drop 1))) (fun _ iv _ => T.args.length - (intOf iv).toNat)
    case atStart =>
      refine ⟨0, _, Nat.zero_le _, rfl, rfl, ?_, hb, Lib.hid ?_⟩
      · rw [ByteArray.size_append]; show wl.toArray.size + 1 ≤ _; rw [List.size_toArray]; omega
      · rw [data_cat]; rfl
    case round =>
      obtain ⟨k, t, hk, rfl, rfl, htz, hbw, HS⟩ := hrel
      by_cases hlt : k < T.args.length
      · obtain ⟨b, o, rfl⟩ := HI.out.args.addr (by omega)
        obtain ⟨ad1, cap1, c0, c1, c2, c3, hin1⟩ := (HI.out.args.on hbw).get k hlt
        have hmem := Tm.mem_size (List.getElem_mem hlt)
        have hss := sizes_step T.args k hlt
        have hst := Lib.hid (commas_step T.args k hlt)
        have hps := Lib.hid (fun h => commas_pos T.args k h (by omega))
        have htk := Tm.sizes_take T.args k
        have hx64 : (T.args[k]'hlt).n64 := (Tm.n64_eq _).2 ⟨hin1.n, hin1.args.n64⟩
        have hxl := txt_len _ hx64
        generalize T.args[k] = x at *
        have hxm : x.size ≤ m := by have := HSZ.out; omega
        have hxM : x.size ≤ 1000000 := by have := HSZ.out; omega
        have hskM : Tm.sizes (T.args.take k) ≤ 1000000 := by have := HSZ.out; omega
        have hF := IH.out x ad1 cap1 (wr.alloc (.cells #[.int .i64 x.kind, .string x.name, .int .i64 x.n, .slice ad1 x.args.length cap1] 24)) hxm hxM (HT.out.on (hbw.alloc hbw.size _)) (hin1.on ((Below.refl _ wr).alloc (Nat.le_refl _) _))
        unfold tmv at hF
        have HF := Lib.hid hF
        have HSS := Lib.hid hss
        clear hF hin1 hmem hss hx64 htk
        generalize x.txt = y at *
        have hyz : y.toArray.size + 1 ≤ 1400 * x.size := by rw [List.size_toArray]; exact hxl
        by_cases hk0 : k = 0
        · subst hk0
          rw [Nat.zero_mul, Nat.add_zero] at c0 c1 c2 c3
          have HN : Hid ((t ++ ⟨y.toArray⟩ : ByteArray).data.toList = wl ++ (40 :: (Tm.commas (T.args.take (0 + 1))).drop 1)) := Lib.hid (by
            rw [data_cat, HS.out, hst.out, List.take_zero]
            show (wl ++ (40 :: [])) ++ y = wl ++ (40 :: y)
            rw [List.append_assoc]; rfl)
          go_wp2_with fail
          refine HF.out.mono ?_
          rintro e w3 ⟨rfl, hb3⟩
          have hbw2 := (hbw.alloc hbw.size _).trans (hb3.mono (Nat.le_trans hbw.size (by simp)))
          clear hb3 hbw c0 c1 c2 c3
          go_wp2_with fail
          go_roundw
          case rel => exact ⟨0 + 1, _, by omega, by go_num, rfl, by rw [ByteArray.size_append, HSS.out]; show _ + y.toArray.size ≤ _; omega, hbw2, HN⟩
          case measure => simp [intOf]; omega
        · have hkp : (0 : Int) < (k : Int) := by omega
          have HN : Hid ((t ++ ⟨#[44]⟩ ++ ⟨y.toArray⟩ : ByteArray).data.toList = wl ++ (40 :: (Tm.commas (T.args.take (k + 1))).drop 1)) := Lib.hid (by
            rw [data_cat, data_cat, HS.out, hst.out]
            have hp := hps.out (by omega)
            rw [List.drop_append_of_le_length (by omega)]
            show ((wl ++ 40 :: List.drop 1 (Tm.commas (List.take k T.args))) ++ [44]) ++ y = _
            simp)
          clear hk0
          go_wp2_with fail
          refine HF.out.mono ?_
          rintro e w3 ⟨rfl, hb3⟩
          have hbw2 := (hbw.alloc hbw.size _).trans (hb3.mono (Nat.le_trans hbw.size (by simp)))
          clear hb3 hbw c0 c1 c2 c3
          go_wp2_with fail
          go_roundw
          case rel => exact ⟨k + 1, _, by omega, by go_num, rfl, by rw [ByteArray.size_append, ByteArray.size_append, HSS.out]; show _ + 1 + y.toArray.size ≤ _; omega, hbw2, HN⟩
          case measure => simp [intOf]; omega
      · have hR := HS.out
        rw [List.take_of_length_le (by omega)] at hR
        have hskM : Tm.sizes (T.args.take k) ≤ 1000000 := by have := HSZ.out; have := Tm.sizes_take T.args k; omega
        have HR : Hid ((t ++ ⟨#[41]⟩ : ByteArray).data.toList = E) := Lib.hid (by rw [data_cat, hR, ← HE.out]; simp)
        clear hR HS
        go_wp2_with fail
        go_ret
        exact ⟨ret_str (of_list _ _ HR.out), hbw⟩
set_option maxRecDepth 100000 in
set_option maxHeartbeats 2000000 in
theorem ref_TermText (T : Tm) (ad : Option Addr) (cap : Nat) (w : World) (hM : T.size ≤ 1000000) (hT : Tabs w) (hin : TmIn w T ad cap) :
    Calls Tryd.prog 34 #[tmv T ad cap] w fun e w' => e = .returned (.tuple #[.string ⟨(if T.chk = 0 then T.txt else []).toArray⟩, .int .i64 T.chk]) ∧ Below w.heap.size w w' := by
  have hb1 : ∀ o : Obj, Below w.heap.size w (w.alloc o) := fun o => (Below.refl _ w).alloc (Nat.le_refl _) o
  have HC := Lib.hid (fun o => ref_TermCheck T ad cap (w.alloc o) hM (hT.on (hb1 o)) (hin.on (hb1 o)))
  have HWR := Lib.hid (fun w' hT hin => ref_write T.size T ad cap w' (Nat.le_refl _) hM hT hin)
  have HI := Lib.hid hin
  have HT := Lib.hid hT
  have HBW := Lib.hid hb1
  clear hin hT hb1
  generalize T.chk = c at *
  unfold tmv at *
  by_cases hc : c = 0
  · rw [if_pos hc]
    subst hc
    go_enter Tryd.func34, Tryd.ntmps34
    go_wp2_with fail
    refine (HC.out _).mono ?_
    rintro e w2 ⟨rfl, hb2⟩
    have hb := (HBW.out _).trans (hb2.mono (by simp))
    obtain ⟨hc, hf⟩ := bcell_alloc hb2
    clear hb2
    go_wp2_with fail
    refine (HWR.out _ (HT.out.on hb) (HI.out.on hb)).mono ?_
    rintro e w3 ⟨rfl, hb3⟩
    have hbb := hb.trans (hb3.mono hb.size)
    clear hb3 hb hc hf
    go_wp2_with fail
    go_ret2
    exact ⟨rfl, hbb⟩
  · rw [if_neg hc]
    have ec : (c != 0) = true := by simpa using hc
    clear hc
    go_enter Tryd.func34, Tryd.ntmps34
    go_wp2_with fail
    refine (HC.out _).mono ?_
    rintro e w2 ⟨rfl, hb2⟩
    have hb := (HBW.out _).trans (hb2.mono (by simp))
    clear hb2
    go_wp2_with fail
    go_ret2
    exact ⟨rfl, hb⟩
end Go.Proofs.YthfdiclmbbngcaaDoor
