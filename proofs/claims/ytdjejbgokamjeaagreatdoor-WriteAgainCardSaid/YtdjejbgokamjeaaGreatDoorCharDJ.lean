import Derived.Test.YtdjejbgokamjeaaGreatDoorCharDevAC
import Derived.Handy
import Derived.Laws.Bits64b
import Derived.Test.YtdjejbgokamjeaaGreatDoorCharRef
import Derived.Lib.AppendStr
import Derived.Lib.OthersKept
import Derived.Test.YtdjejbgokamjeaaGreatDoorCharM
import Derived.Test.YtdjejbgokamjeaaGreatDoorShelf2
import Derived.Lib.BufferMore
import Derived.BigRegion
import Derived.RegionTactic
import Derived.Test.YtdjejbgokamjeaaGreatDoorCharRHI
namespace Go.Proofs.YtdjejbgokamjeaaGreatDoor
open Go.RowKit
theorem tz_key : IntKind.u64.wrap (bits BinOp.and IntKind.u64 16 (IntKind.u64.wrap (-16)) * 285870213051353865) / 288230376151711744 = 15 := by decide +kernel
set_option maxHeartbeats 1000000 in
theorem bits_tz64 (w : World) (hc : w.cell? ⟨4, 15, none⟩ = some (.int .u8 4)) :
 Calls Tryz.prog 117 #[.int .u64 16] w fun e w' => e = .returned (.int .i64 4) /\ w = w' := by
 go_enter Tryz.func117, Tryz.ntmps117;go_wp2_with (simp only [tz_key]);go_ret;exact ⟨rfl, rfl⟩
set_option maxHeartbeats 1000000 in
theorem bits_tz (w : World) (hc : w.cell? ⟨4, 15, none⟩ = some (.int .u8 4)) :
 Calls Tryz.prog 114 #[.int .u64 16] w fun e w' => e = .returned (.int .i64 4) /\ w = w' := by
 have H := Lib.hid (bits_tz64 w hc);clear hc;go_enter Tryz.func114, Tryz.ntmps114;go_wp2_with fail;refine H.out.mono ?_; rintro e w' ⟨rfl, rfl⟩;go_wp2_with fail;go_ret;exact ⟨rfl, rfl⟩
theorem pow2_key : bits BinOp.and IntKind.i64 16 15 = 0 := by decide +kernel
set_option maxHeartbeats 1000000 in
theorem conv_pow2 (w : World) :
 Calls Tryz.prog 113 #[.int .i64 16] w fun e w' => e = .returned (.bool true) /\ w = w' := by
 go_enter Tryz.func113, Tryz.ntmps113;go_wp2_with (simp only [pow2_key]);go_ret;exact ⟨rfl, rfl⟩
theorem dig36 : ∀ k : Fin 16, (⟨#[48, 49, 50, 51, 52, 53, 54, 55, 56, 57, 97, 98, 99, 100, 101, 102, 103, 104, 105, 106, 107, 108, 109, 110, 111, 112, 113, 114, 115, 116, 117, 118, 119, 120, 121, 122]⟩ : ByteArray)[k.val]'(Nat.lt_trans k.isLt (by decide)) = hexD k.val := by decide
theorem and15 : ∀ k : Fin 16, bits BinOp.and IntKind.u64 ((k.val + 16 : Nat) : Int) 15 = (k.val : Int) := by decide +kernel
theorem conv_tail1 (w : World) (C : Array Value) (b : UInt8) (h : C[64]? = some (.int .u8 (b.toNat : Int))) :
 (convert 62 9 (.slice (some ⟨w.heap.size, 64, none⟩) 1 1)).run Tryz.prog (w.alloc (.cells C 150)) = .ok (.string ⟨#[b]⟩) (w.alloc (.cells C 150)) :=
 run_convert_bytes_back (P := Tryz.prog) (w.alloc (.cells C 150)) 62 9 5 ⟨w.heap.size, 64, none⟩ 1 [b] Tryz.underlying62 Tryz.underlying5 Tryz.underlying9 (fun j hj => by
  match j, hj with
  | 0, _ => rw [show (⟨w.heap.size, 64, none⟩ : Addr).add 0 = ⟨w.heap.size, 64, none⟩ from rfl, World.cell?_alloc_new]; exact h)
theorem conv_tail2 (w : World) (C : Array Value) (a b : UInt8) (h1 : C[63]? = some (.int .u8 (a.toNat : Int))) (h : C[64]? = some (.int .u8 (b.toNat : Int))) :
 (convert 62 9 (.slice (some ⟨w.heap.size, 63, none⟩) 2 2)).run Tryz.prog (w.alloc (.cells C 150)) = .ok (.string ⟨#[a, b]⟩) (w.alloc (.cells C 150)) :=
 run_convert_bytes_back (P := Tryz.prog) (w.alloc (.cells C 150)) 62 9 5 ⟨w.heap.size, 63, none⟩ 2 [a, b] Tryz.underlying62 Tryz.underlying5 Tryz.underlying9 (fun j hj => by
  match j, hj with
  | 0, _ => rw [show (⟨w.heap.size, 63, none⟩ : Addr).add 0 = ⟨w.heap.size, 63, none⟩ from rfl, World.cell?_alloc_new]; exact h1
  | 1, _ => rw [show (⟨w.heap.size, 63, none⟩ : Addr).add 1 = ⟨w.heap.size, 64, none⟩ from rfl, World.cell?_alloc_new]; exact h)
set_option maxRecDepth 100000 in
set_option maxHeartbeats 4000000 in
theorem conv_bits_small (n : Nat) (hn : n < 16) (w : World) (hc : w.cell? ⟨4, 15, none⟩ = some (.int .u8 4)) :
 Calls Tryz.prog 107 #[.slice none 0 0, .int .u64 n, .int .i64 16, .bool false, .bool false] w fun e w' => e = .returned (.tuple #[.slice none 0 0, .string ⟨(hexL n).toArray⟩]) /\ Below w.heap.size w w' := by
 have HP := Lib.hid (fun w => conv_pow2 w);have HZ := Lib.hid (bits_tz (w.alloc (.cells Tryz.zeroCells150 150)) ((World.cell?_alloc_past _ _ _ (cell_in hc)).trans hc));rw [show hexL n = [hexD n] from if_pos hn];have hd := dig36 ⟨n, hn⟩;generalize hexD n = d at *;clear hc;go_enter Tryz.func107, Tryz.ntmps107;go_wp2_with fail;refine (HP.out _).mono ?_; rintro e w' ⟨rfl, rfl⟩;go_wp2_with fail;refine HZ.out.mono ?_;rintro e w' ⟨rfl, rfl⟩;go_wp2_with fail;go_rounds 1
 rw [conv_tail1 w _ d (by simp)];go_wp2_with fail;go_ret2;exact ⟨rfl, (Below.refl _ _).alloc (Nat.le_refl _) _⟩
set_option maxRecDepth 100000 in
set_option maxHeartbeats 4000000 in
theorem conv_bits_more (k : Nat) (hk : k < 16) (n : Nat) (hn : n = k + 16) (w : World) (hc : w.cell? ⟨4, 15, none⟩ = some (.int .u8 4)) :
 Calls Tryz.prog 107 #[.slice none 0 0, .int .u64 n, .int .i64 16, .bool false, .bool false] w fun e w' => e = .returned (.tuple #[.slice none 0 0, .string ⟨(hexL n).toArray⟩]) /\ Below w.heap.size w w' := by
 have HP := Lib.hid (fun w => conv_pow2 w);have HZ := Lib.hid (bits_tz (w.alloc (.cells Tryz.zeroCells150 150)) ((World.cell?_alloc_past _ _ _ (cell_in hc)).trans hc));have hl : hexL n = [49, hexD k] := by
  unfold hexL;rw [if_neg (by omega), show n / 16 = 1 by omega, show n % 16 = k by omega]; rfl
 rw [hl];have hd := dig36 ⟨k, hk⟩;have hand := and15 ⟨k, hk⟩;simp only at hand
 rw [<- hn] at hand;have h1 : 16 <= n := by omega
 have h2 : n < 32 := by omega
 have h3 : n / 16 = 1 := by omega
 generalize hexD k = d at *;clear hc hl hn;go_enter Tryz.func107, Tryz.ntmps107;go_wp2_with fail;refine (HP.out _).mono ?_; rintro e w' ⟨rfl, rfl⟩;go_wp2_with fail;refine HZ.out.mono ?_;rintro e w' ⟨rfl, rfl⟩;go_wp2_with fail;go_rounds 2
 rw [conv_tail2 w _ 49 d (by simp; rfl) (by simp)];go_wp2_with fail;go_ret2;exact ⟨rfl, (Below.refl _ _).alloc (Nat.le_refl _) _⟩
theorem conv_bits (n : Nat) (hn : n < 32) (w : World) (hc : w.cell? ⟨4, 15, none⟩ = some (.int .u8 4)) :
 Calls Tryz.prog 107 #[.slice none 0 0, .int .u64 n, .int .i64 16, .bool false, .bool false] w fun e w' => e = .returned (.tuple #[.slice none 0 0, .string ⟨(hexL n).toArray⟩]) /\ Below w.heap.size w w' := by
 by_cases h : n < 16
 · exact conv_bits_small n h w hc
 · exact conv_bits_more (n - 16) (by omega) n (by omega) w hc
set_option maxHeartbeats 1000000 in
theorem conv_Format (c : Int) (n : Nat) (hcn : c = n) (hn : n < 32) (w : World) (hc : w.cell? ⟨4, 15, none⟩ = some (.int .u8 4)) :
 Calls Tryz.prog 82 #[.int .i64 c, .int .i64 16] w fun e w' => e = .returned (.string ⟨(hexL n).toArray⟩) /\ Below w.heap.size w w' := by
 have HB := conv_bits n hn w hc;rw [<- hcn] at HB;have H := Lib.hid HB;have h0 : 0 <= c := by omega
 have h1 : c < 32 := by omega
 have e0 : decide (c < 0) = false := by rw [decide_eq_false_iff_not]; omega
 clear hc HB hcn;generalize hexL n = l at *;go_enter Tryz.func82, Tryz.ntmps82;go_wp2_with fail;refine H.out.mono ?_; rintro e w1 ⟨rfl, hb⟩;go_wp2_with fail;go_ret;exact ⟨rfl, hb⟩
set_option maxHeartbeats 1000000 in
theorem conv_FormatInt (c : Int) (n : Nat) (hcn : c = n) (hn : n < 32) (w : World) (hc : w.cell? ⟨4, 15, none⟩ = some (.int .u8 4)) :
 Calls Tryz.prog 63 #[.int .i64 c, .int .i64 16] w fun e w' => e = .returned (.string ⟨(hexL n).toArray⟩) /\ Below w.heap.size w w' := by
 have H := Lib.hid (conv_Format c n hcn hn w hc);clear hc hcn;generalize hexL n = l at *;go_enter Tryz.func63, Tryz.ntmps63;go_wp2_with fail;refine H.out.mono ?_; rintro e w1 ⟨rfl, hb⟩;go_wp2_with fail;go_ret;exact ⟨rfl, hb⟩
set_option maxHeartbeats 2000000 in
theorem dev_inQuotes (c : Int) (hc0 : 0 <= c) (hc1 : c <= 1114111) (w : World) (hT : Tabs w) :
 Calls Tryz.prog 65 #[.int .i32 c] w fun e w' => e = .returned (.string ⟨(escR c).toArray⟩) /\ Below w.heap.size w w' := by
 obtain ⟨n, hn⟩ := Int.eq_ofNat_of_zero_le hc0;have hx := escR_cases n;rw [<- hn] at hx;have HF := Lib.hid (fun h => conv_FormatInt c n hn h w hT.2);have henc := encode_size c;obtain ⟨hen1, hen2⟩ := henc;have hhl := hexL_length n;clear hT;rcases hx with ⟨h1, hx⟩ | ⟨h1, hx⟩ | ⟨h1, hx⟩ | ⟨h1, hx⟩ | ⟨h1, h2, h3, h4, h5, hx⟩ | ⟨h1, h2, hx⟩
 · rw [hx, hn, h1, show encL ((39 : Nat) : Int) = [39] by decide +kernel];clear hx;go_enter Tryz.func65, Tryz.ntmps65;go_wp2_with fail;go_ret;exact ⟨rfl, Below.refl _ _⟩
 · rw [hx, hn, h1, show encL ((92 : Nat) : Int) = [92] by decide +kernel];clear hx;go_enter Tryz.func65, Tryz.ntmps65;go_wp2_with fail;go_ret;exact ⟨rfl, Below.refl _ _⟩
 · rw [hx, hn, h1];clear hx;go_enter Tryz.func65, Tryz.ntmps65;go_wp2_with fail;go_ret;exact ⟨rfl, Below.refl _ _⟩
 · rw [hx, hn, h1];clear hx;go_enter Tryz.func65, Tryz.ntmps65;go_wp2_with fail;go_ret;exact ⟨rfl, Below.refl _ _⟩
 · have HC := Lib.hid (HF.out h5);have e39 : (c == 39) = false := by simp; omega
   have e92 : (c == 92) = false := by simp; omega
   have e10 : (c == 10) = false := by simp; omega
   have e9 : (c == 9) = false := by simp; omega
   have g32 : c < 32 := by omega
   rw [hx];generalize hexL n = l at *;clear hx hn h1 h2 h3 h4 h5 HF;go_enter Tryz.func65, Tryz.ntmps65;go_wp2_with fail;refine HC.out.mono ?_; rintro e w1 ⟨rfl, hb⟩;go_wp2_with fail;go_ret;exact ⟨ret_str (of_list _ _ (by rw [data_cat, data_cat]; rfl)), hb⟩
 · have e39 : (c == 39) = false := by simp; omega
   have e92 : (c == 92) = false := by simp; omega
   have e10 : (c == 10) = false := by simp; omega
   have e9 : (c == 9) = false := by simp; omega
   have g32 : 32 <= c := by omega
   rw [hx];clear hx hn h1 h2 HF;go_enter Tryz.func65, Tryz.ntmps65;go_wp2_with fail;go_ret;exact ⟨rfl, Below.refl _ _⟩
def byc (l : List UInt8) : List Value := l.map fun b => Value.int .u8 b.toNat
theorem byc_append (a b : List UInt8) : byc (a ++ b) = byc a ++ byc b := List.map_append
def OwnBytes (B : Nat) (w : World) (v : Value) (l : List UInt8) : Prop := w.ownsRow B 5 1 v l.length (byc l)
theorem infoByte : (Tryz.prog.info? 5).map (fun i => (i.zero, i.size, i.bytes)) = some (some (.int .u8 0), 1, 1) := by kernel_rfl
theorem OwnBytes.below {B : Nat} {w w' : World} {v : Value} {l : List UInt8} (h : OwnBytes B w v l) (hb : Below w.heap.size w w') : OwnBytes B w' v l := ownsRow_below h hb
theorem OwnBytes.iter_ne {B : Nat} {w : World} {v : Value} {l : List UInt8} (h : OwnBytes B w v l) {k : Nat} {s : ByteArray} {pos : Nat} (hk : w.heap[k]? = some (.stringIter s pos)) : some k ≠ v.ownBlock := by
 intro e;obtain ⟨_, h0 | ⟨g, cap, cur, hv, _, hh, _⟩⟩ := h
 · rw [h0.1] at e; cases e
 · rw [hv] at e;have : k = g := Option.some.inj e;subst this;rw [hk] at hh;cases hh
theorem OwnBytes.iterAt {B : Nat} {w : World} {v : Value} {l : List UInt8} (h : OwnBytes B w v l) {k : Nat} {s : ByteArray} {pos : Nat} (hk : w.heap[k]? = some (.stringIter s pos)) (pos' : Nat) : OwnBytes B (w.iterAt k s pos') v l := by
 have hne := h.iter_ne hk;obtain ⟨hl, h0 | ⟨g, cap, cur, hv, hbg, hh, r⟩⟩ := h
 · exact ⟨hl, .inl h0⟩
 · refine ⟨hl, .inr ⟨g, cap, cur, hv, hbg, ?_, r⟩⟩;rw [Lib.iterAt_other w k g s pos' (fun e => hne (by rw [hv, e]; rfl))];exact hh
theorem grown_iter {B : Nat} {w w' : World} {v : Value} {l : List UInt8} (h : OwnBytes B w v l) {k : Nat} {s : ByteArray} {pos : Nat} (hk : w.heap[k]? = some (.stringIter s pos)) (hg : w.grownBy w' v.ownBlock) : w'.heap[k]? = some (.stringIter s pos) :=
 (hg.block k (Array.getElem?_eq_some_iff.1 hk).1 (h.iter_ne hk)).trans hk
theorem conv_own {B : Nat} {w : World} {v : Value} {l : List UInt8} (h : OwnBytes B w v l) :
 (convert 62 9 v).run Tryz.prog w = .ok (.string ⟨l.toArray⟩) w := by
 by_cases hl : l = []
 · subst hl;obtain ⟨_, h0 | ⟨g, cap, cur, hv, _⟩⟩ := h
   · rw [h0.1, run_convert_bytes_string w _ _ 5 none 0 0 Tryz.underlying62 Tryz.underlying5 Tryz.underlying9];rfl
   · rw [hv];exact run_convert_bytes_back (P := Tryz.prog) w 62 9 5 ⟨g, 0, none⟩ cap [] Tryz.underlying62 Tryz.underlying5 Tryz.underlying9 (fun j hj => absurd hj (Nat.not_lt_zero j))
 · have hpos : 0 < l.length := List.length_pos_iff.2 hl;obtain ⟨g, cap, rfl, _⟩ := World.ownsRow.form h hpos;refine run_convert_bytes_back (P := Tryz.prog) w 62 9 5 ⟨g, 0, none⟩ cap l Tryz.underlying62 Tryz.underlying5 Tryz.underlying9 (fun j hj => ?_);rw [show (⟨g, 0, none⟩ : Addr).add j = ⟨g, j, none⟩ from (by simp [Addr.add]; exact Eq.symm), World.ownsRow.cellAt h j (by omega)];unfold byc;rw [List.getElem?_map, List.getElem?_eq_getElem hj];rfl
set_option maxRecDepth 100000 in
set_option maxHeartbeats 4000000 in
theorem dev_Write_quoted (s : ByteArray) (w : World) (hs : s.size <= maxLen) (hT : Tabs w) (hck : checkL s.data.toList = true) (hbr : bareL s.data.toList = false) :
 Calls Tryz.prog 44 #[.string s] w fun e w' => e = .returned (.string ⟨(quoteL s.data.toList).toArray⟩) /\ Below w.heap.size w w' := by
 have hsz : s.size <= 255 := by
  have h1 := hck;unfold checkL at h1;rw [Bool.and_eq_true, decide_eq_true_eq, size_list] at h1;exact h1.1
 have cC := fun w hT => char_Check s w hs hT;have cB := fun w hT => char_Bare s w hs hT;rw [hck] at cC;rw [hbr] at cB;obtain ⟨E, hE⟩ : ∃ E, quoteL s.data.toList = E := ⟨_, rfl⟩;rw [hE];have HE := Lib.hid hE;have HT := Lib.hid hT;have HC := Lib.hid cC;have HB := Lib.hid cB;clear hT cC cB hck hbr hs hE;obtain ⟨i0, hi, hz0, hz1, hz2⟩ := info_parts infoByte;go_enter Tryz.func44, Tryz.ntmps44;go_wp2_with fail;refine (HC.out _ HT.out).mono ?_; rintro e w1 ⟨rfl, hb1⟩;go_wp2_with fail;refine (HB.out _ (HT.out.on hb1)).mono ?_; rintro e w2 ⟨rfl, hb2⟩;have hb := hb1.trans (hb2.mono hb1.size);have hwz := hb.size;clear hb1 hb2;go_wp2_with fail;go_loopw [3] (fun v wr => ∃ (pos : Nat) (l : List UInt8), pos <= s.size /\ l.length <= 1 + 5 * pos /\ wr.heap[w2.heap.size + 1]? = some (.stringIter s pos) /\ Below w.heap.size w wr /\ OwnBytes w.heap.size wr v l /\ Hid (l ++ ((runesL (s.data.toList.drop pos)).flatMap escR ++ [39]) = E))
  (fun _ wr => s.size - wr.iterPos (w2.heap.size + 1))
 case atStart =>
  refine ⟨0, [39], Nat.zero_le _, by decide, ?_, (hb.alloc hwz _).alloc (by simp; omega) _, ?_, Lib.hid HE.out⟩
  · have := World.iter_heap (w2.alloc (.cells #[.int .u8 39] 5)) s 0;simpa using this
  · exact World.ownsRow.alloc (World.ownsRow_lit (base := w.heap.size) (size := 1) w2 #[.int .u8 39] 1 hwz (by decide) rfl) _
 case round =>
  obtain ⟨pos, l, hpos, hll, hit, hbw, hown, HS⟩ := hrel;have hsz2 : w2.heap.size + 1 < wr.heap.size := (Array.getElem?_eq_some_iff.1 hit).1;by_cases hp : pos < s.size
  · have hnx : ∀ ty, (Instr.next (.pointer (some ⟨w2.heap.size + 1, 0, none⟩)) true ty).run Tryz.prog wr = _ := fun ty => Lib.run_next_any_at wr (w2.heap.size + 1) s pos ty hit hp;have hit2 := Lib.iterAt_heap wr (w2.heap.size + 1) s pos (pos + (Utf8.decode s pos).2) hit;have hbw2 := Lib.below_iterAt hbw (k := w2.heap.size + 1) (by omega) s (pos + (Utf8.decode s pos).2);have hown2 := hown.iterAt hit (pos + (Utf8.decode s pos).2);have hfit := decode_fits s pos hp;have hrn := Lib.decodeL_rune (s.data.toList.drop pos);rw [Lib.decodeL_drop] at hrn;have hS := HS.out;rw [drop_runes s pos hp, List.flatMap_cons, List.append_assoc, <- List.append_assoc] at hS;generalize wr.iterAt (w2.heap.size + 1) s (pos + (Utf8.decode s pos).2) = W2 at hnx hit2 hbw2 hown2;have hcc : (0 : Int) <= ((Utf8.decode s pos).1 : Int) /\ ((Utf8.decode s pos).1 : Int) <= 1114111 := by omega
    generalize ((Utf8.decode s pos).1 : Int) = c at *;generalize (Utf8.decode s pos).2 = n at *;obtain ⟨hf1, hf2⟩ := hfit;obtain ⟨hc0, hc1⟩ := hcc;have HQ := Lib.hid (dev_inQuotes c hc0 hc1 W2 (HT.out.on hbw2));have hel := escR_length c;generalize escR c = x at *;have HN := Lib.hid hS;have HSZ := Lib.hid hsz2;have hsW := hbw2.size;clear hS HS hrn hown;go_wp2_with fail;refine HQ.out.mono ?_; rintro e w3 ⟨rfl, hb3⟩;have hown3 := hown2.below hb3;have hit3 := (hb3.block _ (Array.getElem?_eq_some_iff.1 hit2).1).trans hit2;have hbw3 := hbw2.trans (hb3.mono hsW);have hs3 := hbw3.size;clear hown2 hb3;go_wp2_with (first
     | (at_builtin; refine Lib.wpList_append_own_string _ rfl _ _ 62 9 rfl w.heap.size 5 i0 Tryz.underlying62 Tryz.underlying9 hi hz0 hz1 hz2 _ _ _ rfl hown3 ⟨x.toArray⟩ rfl ?c1 ?c2 ?c3 ?_))
    case c1 => unfold maxLen; show l.length + x.toArray.size <= _; rw [List.size_toArray]; omega
    case c2 => show l.length + x.toArray.size <= _; rw [List.size_toArray]; omega
    case c3 => omega
    intro v' w4 hown4 hgrow _;have hown5 : OwnBytes w.heap.size w4 v' (l ++ x) := by
     unfold OwnBytes;rw [List.length_append, byc_append];exact hown4
    have hit4 := grown_iter hown3 hit3 hgrow;have hbw4 : Below w.heap.size w w4 := hbw3.grown hgrow hs3 (fun k hk => (World.ownsRow.lt hown3 k hk).1);clear hown4 hgrow hown3 hit3;go_wp2;go_roundw
    case rel => exact ⟨pos + n, l ++ x, by omega, by rw [List.length_append]; omega, hit4, hbw4, hown5, HN⟩
    case measure =>
     simp only [World.iterPos, hit4, hit]
     omega
  · have hnx : ∀ ty, (Instr.next (.pointer (some ⟨w2.heap.size + 1, 0, none⟩)) true ty).run Tryz.prog wr = _ := fun ty => Lib.run_next_end_at wr (w2.heap.size + 1) s pos ty hit hp;have hS := HS.out;rw [List.drop_eq_nil_of_le (by rw [size_list]; omega), runesL_nil, List.flatMap_nil, List.nil_append] at hS;have HN := Lib.hid hS;have hsW := hbw.size;clear hS HS;go_wp2_with (first
     | (at_builtin; refine wpList_append_own _ rfl _ _ 62 rfl w.heap.size 5 i0 (.int .u8 0) 1 1 Tryz.underlying62 hi hz0 hz1 hz2 rfl (by decide) _ _ _ rfl (World.ownsRow.alloc hown _) ⟨wr.heap.size, 0, none⟩ 1 1 [.int .u8 39] rfl rfl ?d1 ?d2 ?d3 ?d4 ?d5 ?_))
    case d1 =>
     intro j u hj;match j, hj with
     | 0, hj => simp at hj; subst hj; simp [Addr.add]
    case d2 => intro u hu; simp at hu; subst hu; rfl
    case d3 => unfold maxLen; omega
    case d4 => omega
    case d5 => simp; omega
    intro v' w4 hown4 hgrow _;have hown5 : OwnBytes w.heap.size w4 v' (l ++ [39]) := by
     unfold OwnBytes;rw [List.length_append, byc_append];exact hown4
    have hbw4 : Below w.heap.size w w4 := (hbw.alloc hsW _).grown hgrow (by simp; omega) (fun k hk => (World.ownsRow.lt hown k hk).1);have hcv := conv_own hown5;clear hown4 hgrow hown;go_wp2_with fail;go_ret;exact ⟨ret_str (by rw [HN.out]), hbw4⟩
theorem char_Write (s : ByteArray) (w : World) (hs : s.size <= maxLen) (hT : Tabs w) :
 Calls Tryz.prog 44 #[.string s] w fun e w' => e = .returned (.string ⟨(writeL s.data.toList).toArray⟩) /\ Below w.heap.size w w' := by
 unfold writeL;cases hck : checkL s.data.toList with
 | true =>
  cases hbr : bareL s.data.toList with
  | false => exact dev_Write_quoted s w hs hT hck hbr
  | true =>
   have HC := char_Check s w hs hT;have HB := fun w hT => char_Bare s w hs hT;rw [hck] at HC;rw [hbr] at HB;have HC' := Lib.hid HC;have HB' := Lib.hid HB;have HT := Lib.hid hT;have HX := Lib.hid (of_list s _ rfl);clear HC HB hT hck hbr;go_enter Tryz.func44, Tryz.ntmps44;go_wp2_with fail;refine HC'.out.mono ?_; rintro e w1 ⟨rfl, hb1⟩;go_wp2_with fail;refine (HB'.out _ (HT.out.on hb1)).mono ?_; rintro e w2 ⟨rfl, hb2⟩;have hb := hb1.trans (hb2.mono hb1.size);go_wp2_with fail;go_ret;exact ⟨rfl, hb⟩
 | false =>
  have HC := char_Check s w hs hT;rw [hck] at HC;have HC' := Lib.hid HC;clear HC hck;go_enter Tryz.func44, Tryz.ntmps44;go_wp2_with fail;refine HC'.out.mono ?_; rintro e w1 ⟨rfl, hb1⟩;go_wp2_with fail;go_ret;exact ⟨rfl, hb1⟩
def QKeep (B : Nat) (w w' : World) : Prop := Below B w w' /\ ∀ (k : Nat) (s : ByteArray) (pos : Nat), w.heap[k]? = some (.stringIter s pos) -> w'.heap[k]? = some (.stringIter s pos)
theorem QKeep.refl (B : Nat) (w : World) : QKeep B w w := ⟨Below.refl _ _, fun _ _ _ h => h⟩
theorem QKeep.trans {B : Nat} {a b c : World} (h : QKeep B a b) (k : QKeep B b c) : QKeep B a c := ⟨h.1.trans k.1, fun i s p hi => k.2 i s p (h.2 i s p hi)⟩
theorem QKeep.setCell {B : Nat} {w w' : World} (h : QKeep B w w') {q i : Nat} {C : Array Value} {t : TypeId} {fz : Nat × Nat} (hB : B <= q) (hq : w'.heap[q]? = some (.cells C t fz)) (u : Value) : QKeep B w (w'.setCell ⟨q, i, none⟩ u) := by
 refine ⟨h.1.setCell hB u, fun k s pos hk => ?_⟩;have h1 := h.2 k s pos hk;have hne : k ≠ q := by rintro rfl; rw [h1] at hq; cases hq
 rw [Below.heap_setCell _ _ _ _ hne];exact h1
theorem QKeep.drew {B : Nat} {w w' : World} (h : QKeep B w w') : QKeep B w w'.drew := ⟨h.1.drew, h.2⟩
theorem OwnBytes.slice {B : Nat} {w : World} {v : Value} {l : List UInt8} (h : OwnBytes B w v l) : ∃ ad n cap, v = .slice ad n cap := by
 obtain ⟨_, h0 | ⟨g, cap, cur, hv, _⟩⟩ := h
 · exact ⟨_, _, _, h0.1⟩
 · exact ⟨_, _, _, hv⟩
theorem cells4 {w : World} {q : Nat} {a b c d : Value} {t : TypeId} (h : w.heap[q]? = some (.cells #[a, b, c, d] t (0, 0))) :
 w.cell? ⟨q, 0, none⟩ = some a /\ w.cell? ⟨q, 1, none⟩ = some b /\ w.cell? ⟨q, 2, none⟩ = some c /\ w.cell? ⟨q, 3, none⟩ = some d /\ w.frozen? ⟨q, 0, none⟩ = false /\ w.frozen? ⟨q, 1, none⟩ = false /\ w.frozen? ⟨q, 2, none⟩ = false /\ w.frozen? ⟨q, 3, none⟩ = false := by
 simp [World.cell?, World.frozen?, h]
def hexOk (c : Int) : Bool := decide (0 <= hexC c)
def hexN (c : Int) : Int := if 0 <= hexC c then hexC c else 0
end Go.Proofs.YtdjejbgokamjeaaGreatDoor
namespace Go.Proofs.YtdjejbgokamjeaaGreatDoor
open Go.RowKit
end Go.Proofs.YtdjejbgokamjeaaGreatDoor
