/-
  The contract of package token's own Cut.
-/
import Derived.Test.YtglaoacdenecfaaDoorTokF
namespace Go.Proofs.YtglaoacdenecfaaDoor
open Go.RowKit

theorem CutMem.iterAt {L : Nat} {w : World} {l : List Tok} {e : Int} {t : Bool} {v : Value} (h : CutMem L w l e t v) (s : ByteArray) (pos' : Nat) : CutMem L (w.iterAt (L + 3) s pos') l e t v := by
  refine ⟨?_, ?_, ?_, ?_⟩
  · rw [Lib.iterAt_other w (L + 3) L s pos' (by omega)]; exact h.list
  · rw [Lib.iterAt_other w (L + 3) (L + 1) s pos' (by omega)]; exact h.fin
  · rw [Lib.iterAt_other w (L + 3) (L + 2) s pos' (by omega)]; exact h.tight
  · obtain ⟨hl, h0 | ⟨g, cap, cur, hv, hbg, hh, r⟩⟩ := h.own
    · exact ⟨hl, .inl h0⟩
    · exact ⟨hl, .inr ⟨g, cap, cur, hv, hbg, by rw [Lib.iterAt_other w (L + 3) g s pos' (by omega)]; exact hh, r⟩⟩
theorem lex_zero (l : List UInt8) (h : (lexL l).kind = 0) : (lexL l).text = [] := by
  have hnm : ∀ x : Lx, (x.kind = 0 → x.text = []) → (namedL x).kind = 0 → (namedL x).text = [] := fun x hx => by
    unfold namedL
    split
    · exact hx
    · exact fun _ => rfl
  revert h
  cases l with
  | nil => exact fun _ => rfl
  | cons b t =>
    unfold lexL
    dsimp only
    repeat' split
    · exact fun _ => rfl
    · exact hnm _ (fun h => absurd h (by show (1 : Int) ≠ 0; decide))
    · exact fun h => absurd h (by show (4 : Int) ≠ 0; decide)
    · unfold numberL
      repeat' split
      all_goals exact fun _ => rfl
    · unfold remarkL
      split <;> exact fun _ => rfl
    · refine hnm _ (fun h => absurd h ?_)
      unfold signsL
      dsimp only
      split <;> decide
    · refine hnm _ ?_
      unfold quotedL
      split
      · exact fun h => absurd h (by show (2 : Int) ≠ 0; decide)
      · exact fun _ => rfl
    · unfold singleL
      dsimp only
      split <;> exact fun h => absurd h (by decide)
    · exact fun _ => rfl
    · exact fun _ => rfl

/-- What Cut answers. -/
def CutAns (B : Nat) (src : List UInt8) (e : Ending) (w' : World) : Prop :=
  (4096 < src.length ∧ e = .returned (.tuple #[.slice none 0 0, .int .i64 0, .int .i64 2])) ∨
  (src.length ≤ 4096 ∧ ((∃ o : Nat, cutL src 0 false = .bad o ∧ e = .returned (.tuple #[.slice none 0 0, .int .i64 (o : Nat), .int .i64 50])) ∨
    ∃ T v, cutL src 0 false = .good T ∧ e = .returned (.tuple #[v, .int .i64 0, .int .i64 0]) ∧ OwnToks B w' v T))
/-- The loop's state. -/
def CSt (s : ByteArray) (w wr : World) : Prop := ∃ (pos e : Nat) (l : List Tok) (tg : Bool) (v : Value), pos ≤ e ∧ e ≤ s.size ∧ l.length ≤ e ∧ wr.heap[w.heap.size + 3]? = some (.stringIter s pos) ∧ Below w.heap.size w wr ∧ w.heap.size + 4 ≤ wr.heap.size ∧
  CutMem w.heap.size wr l (e : Nat) tg v ∧ Hits (s.data.toList.drop pos) (e - pos) ∧ cutL s.data.toList 0 false = (cutL (s.data.toList.drop e) e tg).pre l

theorem cut_start (w : World) (s : ByteArray) : CSt s w ((((w.alloc (.cells #[.slice none 0 0] 23)).alloc (.cells #[.int .i64 0] 3)).alloc (.cells #[.bool false] 4)).iter s 0) := by
  have h1 := new_at w (.cells #[.slice none 0 0] 23)
  have h2 := new_at (w.alloc (.cells #[.slice none 0 0] 23)) (.cells #[.int .i64 0] 3)
  have h3 := new_at ((w.alloc (.cells #[.slice none 0 0] 23)).alloc (.cells #[.int .i64 0] 3)) (.cells #[.bool false] 4)
  have h4 := World.iter_heap (((w.alloc (.cells #[.slice none 0 0] 23)).alloc (.cells #[.int .i64 0] 3)).alloc (.cells #[.bool false] 4)) s 0
  simp only [World.size_alloc] at h2 h3 h4
  have hb : Below w.heap.size w ((((w.alloc (.cells #[.slice none 0 0] 23)).alloc (.cells #[.int .i64 0] 3)).alloc (.cells #[.bool false] 4)).iter s 0) :=
    ((((Below.refl _ w).alloc (Nat.le_refl _) _).alloc (by simp) _).alloc (by simp; omega) _).alloc (by simp; omega) _
  refine ⟨0, 0, [], false, .slice none 0 0, Nat.le_refl _, Nat.zero_le _, Nat.le_refl _, h4, hb, by have := (Array.getElem?_eq_some_iff.1 h4).1; omega, ⟨?_, ?_, ?_, World.ownsRow_nil _ _ _ _⟩, .zero _, by rw [List.drop_zero, pre_nil]⟩
  · exact past_at (past_at (past_at h1 _) _) (.stringIter s 0)
  · exact past_at (past_at h2 _) (.stringIter s 0)
  · exact past_at h3 (.stringIter s 0)
theorem drop_cons_of (s : ByteArray) (pos : Nat) (hp : pos < s.size) : ∃ b t, s.data.toList.drop pos = b :: t := by
  cases h : s.data.toList.drop pos with
  | nil =>
    have := congrArg List.length h
    rw [List.length_drop, size_listT] at this
    simp at this; omega
  | cons b t => exact ⟨b, t, rfl⟩

set_option maxRecDepth 100000 in
set_option maxHeartbeats 4000000 in
theorem token_Cut_short (s : ByteArray) (w : World) (hs : s.size ≤ 4096) (hT : TabsT w) :
    Calls Tryd.prog 10 #[.string s] w fun e w' => CutAns w.heap.size s.data.toList e w' ∧ Below w.heap.size w w' := by
  have HT := Lib.hid hT
  clear hT
  go_enter Tryd.func10, Tryd.ntmps10
  go_wp2_with fail
  go_loopw [3] (fun r wr => r = .int .i64 0 ∧ CSt s w wr) (fun _ wr => s.size - wr.iterPos (w.heap.size + 3))
  case atStart =>
    exact ⟨rfl, cut_start w s⟩
  case round =>
    obtain ⟨rfl, pos, e, l, tg, v, hpe, hes, hle, hit, hbw, hsz, hm, hh, hcut⟩ := hrel
    by_cases hp : pos < s.size
    · have hnx : ∀ ty, (Instr.next (.pointer (some ⟨w.heap.size + 3, 0, none⟩)) true ty).run Tryd.prog wr = _ := fun ty => Lib.run_next_any_at wr (w.heap.size + 3) s pos ty hit hp
      have hit2 := Lib.iterAt_heap wr (w.heap.size + 3) s pos (pos + (Utf8.decode s pos).2) hit
      have hbw2 := Lib.below_iterAt hbw (k := w.heap.size + 3) (by omega) s (pos + (Utf8.decode s pos).2)
      have hm2 := hm.iterAt s (pos + (Utf8.decode s pos).2)
      have hfit := decode_fits s pos hp
      have hsz2 : w.heap.size + 4 ≤ (wr.iterAt (w.heap.size + 3) s (pos + (Utf8.decode s pos).2)).heap.size := by
        have := hbw2.size; have := (Array.getElem?_eq_some_iff.1 hit2).1; omega
      have hdl : Lib.decodeL (s.data.toList.drop pos) = Utf8.decode s pos := Lib.decodeL_drop s pos
      obtain ⟨b, t, hbt⟩ := drop_cons_of s pos hp
      obtain ⟨e0, e1⟩ := cells1 hm2.fin
      have HIT := Lib.hid hit2
      have HM := Lib.hid hm2
      have HT2 := Lib.hid (HT.out.on hbw2)
      have HCUT := Lib.hid hcut
      have HBT := Lib.hid hbt
      have HDL := Lib.hid hdl
      have hlt1 : w.heap.size + 1 < (wr.iterAt (w.heap.size + 3) s (pos + (Utf8.decode s pos).2)).heap.size := by omega
      clear hm hm2 hcut hit2 hbt hdl
      generalize wr.iterAt (w.heap.size + 3) s (pos + (Utf8.decode s pos).2) = W2 at *
      by_cases hlt : pos < e
      · have hnext := hh.next (by omega)
        rw [HDL.out, List.drop_drop] at hnext
        obtain ⟨hn1, hn2⟩ := hnext
        have HN := Lib.hid (show Hits (s.data.toList.drop (pos + (Utf8.decode s pos).2)) (e - (pos + (Utf8.decode s pos).2)) by rw [show e - (pos + (Utf8.decode s pos).2) = e - pos - (Utf8.decode s pos).2 from by omega]; exact hn2)
        clear hn2 hh HDL
        obtain ⟨hf1, hf2⟩ := hfit
        generalize (Utf8.decode s pos).1 = c at *
        generalize (Utf8.decode s pos).2 = n at *
        go_wp2_with fail
        go_roundw
        case rel => exact ⟨rfl, pos + n, e, l, tg, v, by omega, hes, hle, HIT.out, hbw2, hsz2, HM.out, HN.out, HCUT.out⟩
        case measure =>
          simp only [World.iterPos, HIT.out, hit]
          omega
      · obtain rfl : pos = e := by omega
        have hst := cutL_step (s.data.toList.drop pos) pos tg (by rw [HBT.out]; simp)
        have hwl := lexL_le (s.data.toList.drop pos)
        have hhit := hits_lex (s.data.toList.drop pos)
        have hz := lex_zero (s.data.toList.drop pos)
        rw [List.length_drop, size_listT] at hwl
        have hex : (s.extract pos s.size).data.toList = s.data.toList.drop pos := by rw [ext_drop]
        have hF := tok_first (s.extract pos s.size) ((Utf8.decode s pos).1 : Nat) b t W2 (by rw [hex, HBT.out]) (by rw [← HBT.out, HDL.out]) (by rw [ByteArray.size_extract]; omega) HT2.out
        rw [hex] at hF
        have hnext : 0 < (lexL (s.data.toList.drop pos)).w → (Utf8.decode s pos).2 ≤ (lexL (s.data.toList.drop pos)).w ∧ Hits (s.data.toList.drop (pos + (Utf8.decode s pos).2)) ((lexL (s.data.toList.drop pos)).w - (Utf8.decode s pos).2) := fun h0 => by
          have := hhit.next h0
          rw [HDL.out, List.drop_drop] at this
          exact this
        rw [List.drop_drop] at hst
        have HST := Lib.hid hst
        have HNX := Lib.hid hnext
        have HZ := Lib.hid hz
        have HF := Lib.hid hF
        clear hst hnext hz hF hhit hh hex HDL HBT HT2
        obtain ⟨hf1, hf2⟩ := hfit
        generalize (Utf8.decode s pos).1 = c at *
        generalize (Utf8.decode s pos).2 = n at *
        generalize lexL (s.data.toList.drop pos) = x at *
        by_cases hx0 : x.w = 0
        · have HB : Hid (cutL s.data.toList 0 false = .bad pos) := Lib.hid (by rw [HCUT.out, HST.out, if_pos hx0]; rfl)
          obtain ⟨k, u, xn, xw⟩ := x
          dsimp only at hx0
          subst hx0
          unfold lxr lxv at HF
          dsimp only at HF
          clear HST HNX HZ HCUT hwl
          generalize (⟨u.toArray⟩ : ByteArray) = u2 at *
          go_wp2_with fail
          refine HF.out.mono ?_; rintro e w3 ⟨rfl, hb3⟩
          have hb4 := (hbw2.trans (hb3.mono hbw2.size)).alloc (by have := hb3.size; omega) (.cells #[.int .i64 k, .string u2, .int .i64 xn, .int .i64 0] 30)
          clear hb3 e0 e1
          go_wp2_with fail
          go_ret3
          exact ⟨.inr ⟨by rw [size_listT]; exact hs, .inl ⟨pos, HB.out, rfl⟩⟩, hb4⟩
        · have hst := HST.out
          rw [if_neg hx0] at hst
          obtain ⟨hn1, hn2⟩ := HNX.out (by omega)
          have hC := fun (w5 : World) (h : CutMem w.heap.size w5 l (pos : Nat) tg v) (hL : w.heap.size + 4 ≤ w5.heap.size) => cut1 w.heap.size w5 l (pos : Nat) tg v x pos x.w h hL (by omega) (by omega) (by omega) HZ.out
          have hE : cutL s.data.toList 0 false = (cutL (s.data.toList.drop (pos + x.w)) (pos + x.w) (if x.kind = 0 then false else opensL (kindL tg x) x.text)).pre (if x.kind = 0 then l else l ++ [⟨kindL tg x, x.text, x.n, pos⟩]) := by
            rw [HCUT.out, hst]
            by_cases hk : x.kind = 0
            · rw [if_pos hk, if_pos hk, if_pos hk]
            · rw [if_neg hk, if_neg hk, if_neg hk, pre_pre]
          have hll : (if x.kind = 0 then l else l ++ [⟨kindL tg x, x.text, x.n, pos⟩]).length ≤ pos + x.w := by
            split
            · omega
            · rw [List.length_append, List.length_singleton]; omega
          have HE := Lib.hid hE
          have HL2 := Lib.hid hll
          have HC := Lib.hid hC
          have HN := Lib.hid (show Hits (s.data.toList.drop (pos + n)) (pos + x.w - (pos + n)) by rw [show pos + x.w - (pos + n) = x.w - n from by omega]; exact hn2)
          clear hst hn2 hC hE hll HST HNX HZ HCUT
          generalize (if x.kind = 0 then l else l ++ [⟨kindL tg x, x.text, x.n, pos⟩]) = l2 at *
          generalize (if x.kind = 0 then false else opensL (kindL tg x) x.text) = tg2 at *
          have hx1 : ((x.w : Int) == 0) = false := by simp; omega
          obtain ⟨k, u, xn, xw⟩ := x
          unfold lxr lxv at HF
          unfold lxv at HC
          dsimp only at HF HC HE HL2 HN hn1 hwl hx1 hx0
          clear hx0
          generalize (⟨u.toArray⟩ : ByteArray) = u2 at *
          go_wp2_with fail
          refine HF.out.mono ?_; rintro e w3 ⟨rfl, hb3⟩
          have hm3 := HM.out.below hb3
          have hi3 := kept_at hb3 HIT.out
          have hs3 := hb3.size
          have hb4 := (hbw2.trans (hb3.mono hbw2.size)).alloc (by omega) (.cells #[.int .i64 k, .string u2, .int .i64 xn, .int .i64 0] 30)
          have hm4 := hm3.below ((Below.refl w3.heap.size w3).alloc (Nat.le_refl _) (.cells #[.int .i64 k, .string u2, .int .i64 xn, .int .i64 0] 30))
          have hi4 := past_at hi3 (.cells #[.int .i64 k, .string u2, .int .i64 xn, .int .i64 0] 30)
          have HM4 := Lib.hid hm4
          have HI4 := Lib.hid hi4
          clear hb3 hm3 hi3 e0 e1 hm4 hi4
          go_wp2_with fail
          refine (HC.out _ HM4.out (by simp; omega)).mono ?_; rintro e w5 ⟨⟨r5, rfl⟩, ⟨v5, hm5⟩, hk5⟩
          have hb5 := hb4.trans hk5.1
          have hi5 := hk5.2 _ _ HI4.out
          have hs5 := (Array.getElem?_eq_some_iff.1 hi5).1
          have HM5 := Lib.hid hm5
          have HI5 := Lib.hid hi5
          clear hm5 hk5 hi5 hb4
          go_wp2_with fail
          go_roundw
          case rel => exact ⟨rfl, pos + n, pos + xw, l2, tg2, v5, by omega, by omega, HL2.out, HI5.out, hb5, by omega, HM5.out, HN.out, HE.out⟩
          case measure =>
            simp only [World.iterPos, HI5.out, hit]
            omega
    · have hnx : ∀ ty, (Instr.next (.pointer (some ⟨w.heap.size + 3, 0, none⟩)) true ty).run Tryd.prog wr = _ := fun ty => Lib.run_next_end_at wr (w.heap.size + 3) s pos ty hit hp
      obtain rfl : pos = s.size := by omega
      obtain rfl : e = s.size := by omega
      rw [List.drop_eq_nil_of_le (by rw [size_listT]; exact Nat.le_refl _), cutL_nil] at hcut
      have hE : cutL s.data.toList 0 false = .good (l ++ [⟨9, [], 0, s.size⟩]) := hcut
      have hC := cut1 w.heap.size wr l (s.size : Nat) tg v ⟨9, [], 0, 0⟩ s.size 0 hm hsz (by omega) (by omega) (by omega) (fun _ => rfl)
      have hkk : kindL tg ⟨9, [], 0, 0⟩ = 9 := by unfold kindL; rw [if_neg (by simp)]
      rw [if_neg (by decide), hkk] at hC
      unfold lxv at hC
      dsimp only at hC
      have HC := Lib.hid hC
      have HE := Lib.hid hE
      clear hm hh hcut hE hC hkk
      go_wp2_with fail
      refine HC.out.mono ?_; rintro e w5 ⟨⟨r5, rfl⟩, ⟨v5, hm5⟩, hk5⟩
      have hb5 := hbw.trans hk5.1
      obtain ⟨l0, l1⟩ := cells1 hm5.list
      have HM5 := Lib.hid hm5
      clear hm5 hk5
      go_wp2_with fail
      go_ret3
      exact ⟨.inr ⟨by rw [size_listT]; exact hs, .inr ⟨_, _, HE.out, rfl, HM5.out.own.mono (by omega)⟩⟩, hb5⟩

set_option maxHeartbeats 1000000 in
theorem token_Cut (s : ByteArray) (w : World) (hT : TabsT w) :
    Calls Tryd.prog 10 #[.string s] w fun e w' => CutAns w.heap.size s.data.toList e w' ∧ Below w.heap.size w w' := by
  by_cases hs : s.size ≤ 4096
  · exact token_Cut_short s w hs hT
  · have HL := Lib.hid (show 4096 < s.data.toList.length by rw [size_listT]; omega)
    clear hT
    go_enter Tryd.func10, Tryd.ntmps10
    go_wp2_with fail
    go_ret3
    exact ⟨.inl ⟨HL.out, rfl⟩, Below.refl _ _⟩
end Go.Proofs.YtglaoacdenecfaaDoor
