/-
  The contracts of package token's own signs, closedRemark, runeNumber, number.
-/
import Derived.Test.YtglaoacdenecfaaDoorTokB
import Derived.Lib.CutLaws
namespace Go.Proofs.YtglaoacdenecfaaDoor
open Go.RowKit

set_option maxHeartbeats 1000000 in
theorem tok_signs (s : ByteArray) (w : World) :
    Calls Tryd.prog 31 #[.string s] w fun e w' => e = .returned (lxr (signsL s.data.toList)) ∧ Below w.heap.size w w' := by
  have HS := Lib.hid (fun W => tok_span_signs1 s W)
  have hle := spanL_le signR s.data.toList
  rw [size_listT] at hle
  have HX := Lib.hid (ext_take s)
  have HB := Lib.hid (fun o : Obj => (Below.refl w.heap.size w).alloc (Nat.le_refl _) o)
  unfold lxr lxv signsL
  dsimp only
  generalize spanL signR s.data.toList = n at *
  have e46 : ((s.extract 0 n).toList == [46]) = decide (s.data.toList.take n = [46]) := by
    rw [ByteArray.toList_eq, HX.out, Bool.eq_iff_iff]; simp
  have HP := Lib.hid (fun W => tok_parts (s.extract n s.size) W)
  rw [show (s.extract n s.size).data.toList = s.data.toList.drop n from by rw [ext_drop]] at HP
  have hwalk : ∀ k : Int, ((s.extract 0 n).toList == [46]) = false ∧ k = 3 ∨ ((s.extract 0 n).toList == [46]) = true ∧ partsL (s.data.toList.drop n) = false ∧ k = 3 ∨ ((s.extract 0 n).toList == [46]) = true ∧ partsL (s.data.toList.drop n) = true ∧ k = 8 →
      Calls Tryd.prog 31 #[.string s] w fun e w' => e = .returned (.tuple #[.agg #[.int .i64 k, .string (s.extract 0 n), .int .i64 0, .int .i64 0], .int .i64 (n : Nat)]) ∧ Below w.heap.size w w' := by
    intro k hk
    clear e46
    generalize partsL (s.data.toList.drop n) = pb at *
    rcases hk with ⟨e1, rfl⟩ | ⟨e1, rfl, rfl⟩ | ⟨e1, rfl, rfl⟩
    · go_enter Tryd.func31, Tryd.ntmps31
      go_wp2_with fail
      refine (HS.out _).mono ?_; rintro e w1 ⟨rfl, hb⟩
      obtain ⟨c0, c1, c2, c3, f0, f1, f2, f3⟩ := cells4 (kept_at hb (new_at w _))
      have hbw := (HB.out _).trans (hb.mono (by simp))
      clear hb
      go_wp2_with fail
      refine bodyPost_ret (v := .tuple #[.agg #[.int .i64 3, .string (s.extract 0 n), .int .i64 0, .int .i64 0], .int .i64 (n : Nat)]) (by simp [results, Tryd.results31, go_sem, c0, c1, c2, c3]) rfl ⟨rfl, below_set4 hbw (Nat.le_refl _) _ _ _ _⟩
    · go_enter Tryd.func31, Tryd.ntmps31
      go_wp2_with fail
      refine (HS.out _).mono ?_; rintro e w1 ⟨rfl, hb⟩
      obtain ⟨c0, c1, c2, c3, f0, f1, f2, f3⟩ := cells4 (kept_at hb (new_at w _))
      have hbw := (HB.out _).trans (hb.mono (by simp))
      clear hb
      go_wp2_with fail
      refine (HP.out _).mono ?_; rintro e w2 ⟨rfl, rfl⟩
      go_wp2_with fail
      refine bodyPost_ret (v := .tuple #[.agg #[.int .i64 3, .string (s.extract 0 n), .int .i64 0, .int .i64 0], .int .i64 (n : Nat)]) (by simp [results, Tryd.results31, go_sem, c0, c1, c2, c3]) rfl ⟨rfl, below_set4 hbw (Nat.le_refl _) _ _ _ _⟩
    · go_enter Tryd.func31, Tryd.ntmps31
      go_wp2_with fail
      refine (HS.out _).mono ?_; rintro e w1 ⟨rfl, hb⟩
      obtain ⟨c0, c1, c2, c3, f0, f1, f2, f3⟩ := cells4 (kept_at hb (new_at w _))
      have hbw := (HB.out _).trans (hb.mono (by simp))
      clear hb
      go_wp2_with fail
      refine (HP.out _).mono ?_; rintro e w2 ⟨rfl, rfl⟩
      go_wp2_with fail
      refine bodyPost_ret (v := .tuple #[.agg #[.int .i64 8, .string (s.extract 0 n), .int .i64 0, .int .i64 0], .int .i64 (n : Nat)]) (by simp [results, Tryd.results31, go_sem, c0, c1, c2, c3]) rfl ⟨rfl, below_set4 hbw (Nat.le_refl _) _ _ _ _⟩
  rw [← HX.out n]
  by_cases h46 : s.data.toList.take n = [46]
  · rw [decide_eq_true h46] at e46
    cases hp : partsL (s.data.toList.drop n) with
    | false => rw [if_neg (by rintro ⟨_, h⟩; cases h)]; exact hwalk 3 (.inr (.inl ⟨e46, hp, rfl⟩))
    | true => rw [if_pos ⟨h46, rfl⟩]; exact hwalk 8 (.inr (.inr ⟨e46, hp, rfl⟩))
  · rw [decide_eq_false h46] at e46
    rw [if_neg (fun h => h46 h.1)]; exact hwalk 3 (.inl ⟨e46, rfl⟩)

theorem below_drewN {B : Nat} {a w : World} (h : Below B a w) (n : Nat) : Below B a (w.drewN n) := ⟨h.os, h.tape, h.output, h.size, h.block⟩
theorem close_index : ∀ l : List UInt8, (closeL l = none ∧ Lib.index l [42, 47] = -1) ∨ ∃ k : Nat, closeL l = some (k + 2) ∧ Lib.index l [42, 47] = k
  | [] => .inl ⟨rfl, rfl⟩
  | b :: t => by
    have hpre : [42, 47].isPrefixOf (b :: t) = decide (b = 42 ∧ t.headD 0 = 47 ∧ t ≠ []) := by
      cases t with
      | nil => simp [List.isPrefixOf]
      | cons c u =>
        rw [Bool.eq_iff_iff]
        simp [List.isPrefixOf]
        constructor
        · rintro ⟨h1, h2⟩; exact ⟨h1.symm, h2.symm⟩
        · rintro ⟨h1, h2⟩; exact ⟨h1.symm, h2.symm⟩
    unfold closeL Lib.index
    rw [hpre]
    by_cases h : b = 42 ∧ t.headD 0 = 47 ∧ t ≠ []
    · rw [decide_eq_true h, if_pos h, if_pos rfl]
      exact .inr ⟨0, rfl, rfl⟩
    · rw [decide_eq_false h, if_neg h, if_neg (by decide)]
      rcases close_index t with ⟨h1, h2⟩ | ⟨k, h1, h2⟩
      · rw [h1, h2]; exact .inl ⟨rfl, rfl⟩
      · rw [h1, h2, if_neg (by simp)]
        exact .inr ⟨k + 1, rfl, by omega⟩
theorem take2_size {s : ByteArray} {x y : UInt8} (h : s.data.toList.take 2 = [x, y]) : 2 ≤ s.size := by
  have h2 := congrArg List.length h
  rw [List.length_take, size_listT] at h2
  simp only [List.length_cons, List.length_nil] at h2
  omega

set_option maxHeartbeats 1000000 in
theorem tok_closed (s : ByteArray) (w : World) (h2 : 2 ≤ s.size) (hs : s.size ≤ 200000) (hT : TabsT w) :
    Calls Tryd.prog 30 #[.string s] w fun e w' => e = .returned (lxr (remarkL s.data.toList)) ∧ Below w.heap.size w w' := by
  have HB := Lib.hid (fun o : Obj => (Below.refl w.heap.size w).alloc (Nat.le_refl _) o)
  obtain ⟨m, hm⟩ := hT.2
  have hm2 : ∀ o, (w.alloc o).cell? ⟨2, 0, none⟩ = some (.int .i64 m) := fun o => by
    rw [← hm]; exact (HB.out o).cell (p := ⟨_, _, none⟩) (cell_in hm)
  have hsz : (s.extract 2 s.size).size < 4294967281 := by rw [ByteArray.size_extract]; omega
  have HC := Lib.hid (fun W h => Tryd.strings_Cut (s.extract 2 s.size) ⟨#[42, 47]⟩ m W hsz h)
  rw [show (s.extract 2 s.size).data.toList = s.data.toList.drop 2 from by rw [ext_drop]] at HC
  rw [show (⟨#[42, 47]⟩ : ByteArray).data.toList = [42, 47] from rfl] at HC
  have HM := Lib.hid hm2
  clear hm2 hm hT hsz
  unfold remarkL
  rcases close_index (s.data.toList.drop 2) with ⟨h1, h3⟩ | ⟨k, h1, h3⟩
  · have hcut : Lib.cut (s.data.toList.drop 2) [42, 47] = (s.data.toList.drop 2, [], false) := by unfold Lib.cut; rw [h3, if_neg (by decide)]
    rw [hcut] at HC
    rw [h1]
    unfold lxr lxv lx0
    dsimp only at HC ⊢
    clear h1 h3 hcut
    go_enter Tryd.func30, Tryd.ntmps30
    go_wp2_with fail
    refine (HC.out _ (HM.out _)).mono ?_; rintro e w1 ⟨rfl, nd, rfl⟩
    go_wp2_with fail
    refine bodyPost_ret (v := .tuple #[.agg #[.int .i64 0, .string ⟨#[]⟩, .int .i64 0, .int .i64 0], .int .i64 0]) (by simp [results, Tryd.results30, go_sem]) rfl ⟨rfl, ?_⟩
    exact below_set4 (below_drewN (HB.out _) _) (Nat.le_refl _) _ _ _ _
  · have hcut : Lib.cut (s.data.toList.drop 2) [42, 47] = ((s.data.toList.drop 2).take k, (s.data.toList.drop 2).drop (k + 2), true) := by
      unfold Lib.cut; rw [h3, if_pos (by omega)]; rfl
    rw [hcut] at HC
    rw [h1]
    have hk := (closeL_le _ _ h1).1
    rw [List.length_drop, size_listT] at hk
    have hlen : (⟨((s.data.toList.drop 2).take k).toArray⟩ : ByteArray).size = k := by
      rw [size_mk, List.length_take, List.length_drop, size_listT]; omega
    unfold lxr lxv
    dsimp only at HC ⊢
    clear h1 h3 hcut
    generalize (⟨((s.data.toList.drop 2).take k).toArray⟩ : ByteArray) = u at *
    subst hlen
    generalize (⟨((s.data.toList.drop 2).drop (u.size + 2)).toArray⟩ : ByteArray) = u2 at *
    go_enter Tryd.func30, Tryd.ntmps30
    go_wp2_with fail
    refine (HC.out _ (HM.out _)).mono ?_; rintro e w1 ⟨rfl, nd, rfl⟩
    go_wp2_with fail
    refine bodyPost_ret (v := .tuple #[.agg #[.int .i64 0, .string ⟨#[]⟩, .int .i64 0, .int .i64 0], .int .i64 (u.size + 2 + 2 : Nat)]) (by simp [results, Tryd.results30, go_sem]; omega) rfl ⟨rfl, ?_⟩
    exact below_set4 (below_drewN (HB.out _) _) (Nat.le_refl _) _ _ _ _

theorem decodeGo_nil (s : ByteArray) (h : s.size = 0) : Lib.decodeGo s = (65533, 0) := by
  unfold Lib.decodeGo
  simp [h]
theorem hasPre2 (l : List UInt8) (x y : UInt8) : Lib.hasPrefix l [x, y] = decide (l.take 2 = [x, y]) := by
  unfold Lib.hasPrefix
  rw [Bool.eq_iff_iff]
  match l with
  | [] => simp [List.isPrefixOf]
  | [a] => simp [List.isPrefixOf]
  | a :: b :: t =>
    simp [List.isPrefixOf]
    constructor
    · rintro ⟨h1, h2⟩; exact ⟨h1.symm, h2.symm⟩
    · rintro ⟨h1, h2⟩; exact ⟨h1.symm, h2.symm⟩
theorem trimPre2 (l : List UInt8) (x y : UInt8) : Lib.trimPrefix l [x, y] = if l.take 2 = [x, y] then l.drop 2 else l := by
  unfold Lib.trimPrefix
  rw [hasPre2]
  by_cases h : l.take 2 = [x, y]
  · rw [decide_eq_true h, if_pos rfl, if_pos h]; rfl
  · rw [decide_eq_false h, if_neg (by decide), if_neg h]
/-- What stands behind 0'. -/
theorem runeB_cases (r : List UInt8) : (r.take 2 = [39, 39] ∧ runeB r = (39, 4)) ∨
    (¬ r.take 2 = [39, 39] ∧ ∃ c n : Nat, c ≤ 1114111 ∧ n ≤ r.length ∧ Lib.decodeGo ⟨r.toArray⟩ = (c, n) ∧ ((c < 32 ∨ c = 39 ∨ c = 92 ∨ (c = 65533 ∧ n < 2)) ∧ runeB r = (0, 0) ∨ (32 ≤ c ∧ c ≠ 39 ∧ c ≠ 92 ∧ ¬ (c = 65533 ∧ n < 2)) ∧ runeB r = ((c : Int), 2 + n))) := by
  unfold runeB
  by_cases h : r.take 2 = [39, 39]
  · rw [if_pos h]; exact .inl ⟨h, rfl⟩
  rw [if_neg h]
  refine .inr ⟨h, ?_⟩
  by_cases h0 : r = []
  · subst h0
    rw [if_pos (.inl rfl)]
    exact ⟨65533, 0, by decide, Nat.le_refl _, decodeGo_nil _ rfl, .inl ⟨.inr (.inr (.inr ⟨rfl, by decide⟩)), rfl⟩⟩
  · have hp : 0 < r.length := List.length_pos_iff.2 h0
    have hd : Lib.decodeGo ⟨r.toArray⟩ = Lib.decodeL r := by
      rw [decodeGo_eq _ (by rw [size_mk]; omega)]
    refine ⟨(Lib.decodeL r).1, (Lib.decodeL r).2, Lib.decodeL_rune r, Lib.decodeL_le r h0, hd, ?_⟩
    by_cases h1 : (Lib.decodeL r).1 < 32 ∨ (Lib.decodeL r).1 = 39 ∨ (Lib.decodeL r).1 = 92 ∨ ((Lib.decodeL r).1 = 65533 ∧ (Lib.decodeL r).2 < 2)
    · exact .inl ⟨h1, if_pos (.inr h1)⟩
    · refine .inr ⟨by omega, if_neg ?_⟩
      rintro (e | e)
      · exact h0 e
      · exact h1 e

def runeV (p : Int × Nat) : Value := .tuple #[.int .i32 p.1, .int .i64 (p.2 : Nat)]

set_option maxHeartbeats 2000000 in
theorem tok_runeNumber (s : ByteArray) (w : World) (hT : TabsT w) (hs : s.size ≤ 200000) :
    Calls Tryd.prog 46 #[.string s] w fun e w' => e = .returned (runeV (runeNum s.data.toList)) ∧ Below w.heap.size w w' := by
  have HC := Lib.hid (fun W => Tryd.strings_CutPrefix s ⟨#[48, 39]⟩ W)
  rw [show (⟨#[48, 39]⟩ : ByteArray).data.toList = [48, 39] from rfl, hasPre2, trimPre2] at HC
  unfold runeNum
  by_cases h : s.data.toList.take 2 = [48, 39]
  · rw [if_pos h]
    rw [if_pos h, decide_eq_true h] at HC
    have hlen : (s.data.toList.drop 2).length ≤ 200000 := by rw [List.length_drop, size_listT]; omega
    clear h
    generalize s.data.toList.drop 2 = r at *
    have HP := Lib.hid (fun W => Tryd.strings_HasPrefix ⟨r.toArray⟩ ⟨#[39, 39]⟩ W)
    rw [show (⟨#[39, 39]⟩ : ByteArray).data.toList = [39, 39] from rfl, hasPre2, show (⟨r.toArray⟩ : ByteArray).data.toList = r from by simp] at HP
    rcases runeB_cases r with ⟨h1, h2⟩ | ⟨h1, c, n, hcm, hn, hd, h2⟩
    · rw [h2]
      rw [decide_eq_true h1] at HP
      unfold runeV
      clear h1 h2 hlen hT
      generalize (⟨r.toArray⟩ : ByteArray) = u at *
      go_enter Tryd.func46, Tryd.ntmps46
      go_wp2_with fail
      refine (HC.out _).mono ?_; rintro e w1 ⟨rfl, rfl⟩
      go_wp2_with fail
      refine (HP.out _).mono ?_; rintro e w1 ⟨rfl, rfl⟩
      go_wp2_with fail
      go_ret2
      exact ⟨rfl, Below.refl _ _⟩
    · rw [decide_eq_false h1] at HP
      have HD := Lib.hid (Tryd.utf8_DecodeRuneInString ⟨r.toArray⟩ w hT.1.1)
      rw [hd] at HD
      have hn2 : n ≤ 200000 := by omega
      clear h1 hd hT hlen hn
      generalize (⟨r.toArray⟩ : ByteArray) = u at *
      dsimp only at HD
      obtain ⟨ci, hci⟩ : ∃ ci : Int, (c : Int) = ci := ⟨_, rfl⟩
      rw [hci] at HD
      unfold runeV
      have hways : ((ci < 32 ∨ (32 ≤ ci ∧ (ci == 39) = true) ∨ (32 ≤ ci ∧ (ci == 39) = false ∧ (ci == 92) = true) ∨ (32 ≤ ci ∧ (ci == 39) = false ∧ (ci == 92) = false ∧ (ci == 65533) = true ∧ (n : Int) < 2)) ∧ runeB r = (0, 0)) ∨
          (((32 ≤ ci ∧ (ci == 39) = false ∧ (ci == 92) = false ∧ (ci == 65533) = false) ∨ (32 ≤ ci ∧ (ci == 39) = false ∧ (ci == 92) = false ∧ (ci == 65533) = true ∧ (2 : Int) ≤ n)) ∧ runeB r = (ci, 2 + n)) := by
        subst hci
        simp only [beq_iff_eq, beq_eq_false_iff_ne]
        rcases h2 with ⟨h2, h3⟩ | ⟨h2, h3⟩
        · refine .inl ⟨?_, h3⟩
          by_cases a1 : c < 32
          · left; omega
          by_cases a2 : c = 39
          · right; left; omega
          by_cases a3 : c = 92
          · right; right; left; omega
          · right; right; right; omega
        · refine .inr ⟨?_, h3⟩
          by_cases a1 : c = 65533
          · right; omega
          · left; omega
      clear h2 hci hcm
      rcases hways with ⟨hw, hr⟩ | ⟨hw, hr⟩
      · rw [hr]
        clear hr
        dsimp only
        rcases hw with e1 | ⟨e1, e2⟩ | ⟨e1, e2, e3⟩ | ⟨e1, e2, e3, e4, e5⟩
        all_goals
          go_enter Tryd.func46, Tryd.ntmps46
          go_wp2_with fail
          refine (HC.out _).mono ?_; rintro e w1 ⟨rfl, rfl⟩
          go_wp2_with fail
          refine (HP.out _).mono ?_; rintro e w1 ⟨rfl, rfl⟩
          go_wp2_with fail
          refine HD.out.mono ?_; rintro e w1 ⟨rfl, hb⟩
          go_wp2_with fail
          go_ret2
          exact ⟨rfl, hb⟩
      · rw [hr]
        clear hr
        dsimp only
        have HV : Hid ((2 : Int) + n = ((2 + n : Nat) : Int)) := Lib.hid (by omega)
        rcases hw with ⟨e1, e2, e3, e4⟩ | ⟨e1, e2, e3, e4, e5⟩
        all_goals
          go_enter Tryd.func46, Tryd.ntmps46
          go_wp2_with fail
          refine (HC.out _).mono ?_; rintro e w1 ⟨rfl, rfl⟩
          go_wp2_with fail
          refine (HP.out _).mono ?_; rintro e w1 ⟨rfl, rfl⟩
          go_wp2_with fail
          refine HD.out.mono ?_; rintro e w1 ⟨rfl, hb⟩
          go_wp2_with fail
          go_ret2
          exact ⟨by rw [HV.out]; rfl, hb⟩
  · rw [if_neg h]
    rw [if_neg h, decide_eq_false h] at HC
    clear h hT
    unfold runeV
    go_enter Tryd.func46, Tryd.ntmps46
    go_wp2_with fail
    refine (HC.out _).mono ?_; rintro e w1 ⟨rfl, rfl⟩
    go_wp2_with fail
    go_ret2
    exact ⟨rfl, Below.refl _ _⟩
end Go.Proofs.YtglaoacdenecfaaDoor
