import Derived.Test.YtinefdlkajnomaaGreatDoorCl3
namespace Go.Proofs.YtinefdlkajnomaaGreatDoor
open Go.RowKit
attribute [-go_sem] sliced
theorem run_append_zero {P : Program} (w : World) (t ty e : TypeId) (i : TypeInfo) (ht : P.underlying t = some (.slice e)) (hi : P.info? e = some i) (ad : Option Addr) (n cap : Nat) (hn : n <= cap) (adx : Option Addr) (c : Nat) :
 (Builtin.append_ #[t, t] ty #[.slice ad n cap, .slice adx 0 c]).run P w = .ok (.slice ad n cap) w := by
 cases adx with
 | none =>
  have hf := run_firstCells_none (P := P) w i.size 0 0 c;cases ad <;> simp [Builtin.append_, run_underlying ht, sizeOf, typeInfo, hi, Builtin.lenOf, hn, hf, storeCells]
 | some a =>
  have hf := run_firstCells_some (P := P) w i.size 0 a 0 c [] (by simp) (by simp);cases ad <;> simp [Builtin.append_, run_underlying ht, sizeOf, typeInfo, hi, Builtin.lenOf, hn, hf, storeCells]
theorem wpList_append_row {P : Program} {w : World} {ops : Array Oper} {rest : List Oper} {o : Oper} {a : Act} {Q : Exit -> Act -> World -> Prop} (hgd : Region.wanted o (yielded ops a.tmps) = true) (s x : Operand) (t : TypeId)
 (ho : o.op = .call { callee := .builtin .append, args := #[s, x], argTypes := #[t, t] })
 (base : Nat) (e : TypeId) (i : TypeInfo) (z : Value) (size bytes : Nat) (ht : P.underlying t = some (.slice e)) (hi : P.info? e = some i) (hz : i.zero = some z)
 (hsize : i.size = size) (hby : i.bytes = bytes) (hzs : z.cells.size = size) (hsz : 0 < size)
 (v : Value) (n : Nat) (xs : List Value) (hs : a.eval s = v) (hown : w.ownsRow base e size v n xs)
 (adx : Option Addr) (m c : Nat) (news : List Value) (hx : a.eval x = .slice adx m c) (hl : news.length = m * size) (hnews : ∀ j u, news[j]? = some u -> ∃ ad, adx = some ad /\ w.cell? (ad.add j) = some u) (h1 : ∀ u ∈ news, u.oneCell' = true)
 (h63 : n + m <= maxLen) (hbytes : (n + m) * bytes <= 140737488355328) (hbase : base <= w.heap.size)
 (h : ∀ v' w', w'.ownsRow base e size v' (n + m) (xs ++ news) -> w.grownBy w' v.ownBlock -> (v'.ownBlock = v.ownBlock \/ v'.ownBlock = some w.heap.size) -> wpList P ops Q rest (a.put o.dst v') w') : wpList P ops Q (o :: rest) a w := by
 refine wpList_step fun K hK => ?_;rw [if_pos hgd];cases m with
 | zero =>
  have hnil : news = [] := List.eq_nil_of_length_eq_zero (by rw [hl, Nat.zero_mul]);subst hnil;have hslice : ∃ adv cap, v = .slice adv n cap /\ n <= cap := by
   obtain ⟨hl2, ⟨rfl, h0⟩ | ⟨g, cap, cur, rfl, hbg, hh, hnc, _⟩⟩ := hown
   · exact ⟨none, 0, by rw [h0], by omega⟩
   · exact ⟨_, cap, rfl, hnc⟩
  obtain ⟨adv, cap, rfl, hnc⟩ := hslice;have hr := run_append_zero (P := P) w t o.type e i ht hi adv n cap hnc adx c;unfold Oper.wp execOp;simp only [ho, resolve, invoke, builtin, Sem.run_bind, Sem.run_pure, Result.andThen_ok, List.map_toArray, List.map_cons, List.map_nil, hs, hx, hr]
  exact hK _ _ (h _ w (by rw [List.append_nil, Nat.add_zero]; exact hown) (World.grownBy.refl _ _) (.inl rfl))
 | succ m =>
  obtain ⟨ad, rfl⟩ : ∃ ad, adx = some ad := by
   cases news with
   | nil =>
    have h0 : 0 < (m + 1) * size := Nat.mul_pos (Nat.succ_pos m) hsz;rw [<- hl] at h0;exact absurd h0 (Nat.lt_irrefl 0)
   | cons u us => obtain ⟨ad, h2, _⟩ := hnews 0 u rfl; exact ⟨ad, h2⟩
  refine wp_append_lies w s x t ho base e i z size bytes ht hi hz hsize hby hzs hsz v n xs hs hown ad (m + 1) c news hx hl (fun j u hj => by obtain ⟨a2, h2, h3⟩ := hnews j u hj; injection h2 with h2; subst h2; exact h3) h1 (by omega) h63 hbytes hbase _ rfl fun g cap w' h2 h3 h4 h5 => hK _ _ (h _ w' h2 h3 ?_);rcases h4 with h4 | h4
  · exact .inl h4.symm
  · exact .inr (by rw [h4]; rfl)
theorem addr_at (g o j : Nat) : (⟨g, o, none⟩ : Addr).add j = ⟨g, o + j, none⟩ := by unfold Addr.add; split <;> simp_all
theorem row_of {w : World} {P : Nat -> Prop} {ad : Option Addr} {l : List Tm} (h : TArgsP w P ad l) : ∃ xs, TRow w P xs l /\ ∀ j u, xs[j]? = some u -> ∃ g o, ad = some ⟨g, o, none⟩ /\ w.cell? ⟨g, o + j, none⟩ = some u := by
 induction h with
 | nil => exact ⟨[], .nil, fun j u hj => by cases hj⟩
 | cons b o k n nm l ts ad cap hb c0 c1 c2 c3 hk hn hs hl hc ha _ _ ih =>
  obtain ⟨xs, h1, h2⟩ := ih;refine ⟨tcells (.mk k nm n l) ad cap ++ xs, .cons _ ad cap _ _ ⟨hk, hn, hs, hl, hc, ha⟩ h1, fun j u hj => ⟨b, o, rfl, ?_⟩⟩;match j, hj with
  | 0, hj => rw [<- hj]; exact c0
  | 1, hj => rw [<- hj]; exact c1
  | 2, hj => rw [<- hj]; exact c2
  | 3, hj => rw [<- hj]; exact c3
  | j + 4, hj =>
   obtain ⟨g, o2, e, h3⟩ := h2 j u hj;injection e with e;injection e with e1 e2 _;subst e1 e2;rw [show o + (j + 4) = o + 4 + j from by omega];exact h3
theorem trow_cells {w : World} {P : Nat -> Prop} {xs : List Value} {l : List Tm} (h : TRow w P xs l) : ∀ u ∈ xs, u.oneCell' = true := by
 induction h with
 | nil => intro u hu; cases hu
 | cons t ad cap xs ts _ _ ih =>
  intro u hu;rcases List.mem_append.1 hu with hu | hu
  · simp [tcells] at hu
    rcases hu with rfl | rfl | rfl | rfl <;> rfl
  · exact ih u hu
theorem trow_append {w : World} {P : Nat -> Prop} {xs ys : List Value} {l m : List Tm} (h : TRow w P xs l) (k : TRow w P ys m) : TRow w P (xs ++ ys) (l ++ m) := by
 induction h with
 | nil => exact k
 | cons t ad cap xs ts ht _ ih => rw [List.append_assoc]; exact .cons t ad cap _ _ ht ih
theorem ownT_slice {B : Nat} {w : World} {v : Value} {n : Nat} {xs : List Value} {l : List Tm} {P : Nat -> Prop} (hn : n = l.length) (h : w.ownsRow B 26 4 v n xs) (h2 : TRow w P xs l) : ∃ ad cap, v = .slice ad l.length cap /\ l.length <= cap /\ cap <= maxLen /\ TArgs w ad l := by
 subst hn;obtain ⟨hl, h1⟩ := h;rcases h1 with ⟨rfl, h0⟩ | ⟨g, cap, cur, rfl, hbg, hh, hnc, hcm, hsz, htk⟩
 · cases l with
   | nil => exact ⟨none, 0, rfl, Nat.le_refl _, Nat.zero_le _, .nil _⟩
   | cons t ts => cases h0
 · refine ⟨some ⟨g, 0, none⟩, cap, rfl, hnc, hcm, (h2.args (Q := fun _ => True) g trivial (fun _ _ => trivial) 0 (fun j hj => ?_)).all⟩;rw [Nat.zero_add];exact World.ownsRow.cellAt (w := w) (base := B) (e := 26) (size := 4) (n := l.length) (xs := xs) ⟨hl, .inr ⟨g, cap, cur, rfl, hbg, hh, hnc, hcm, hsz, htk⟩⟩ j (by rw [<- hl]; exact hj)
def bigL (ts : List Tm) : Bool := ts.any fun t => decide (3000 < t.size)
theorem bigL_snoc (ts : List Tm) (k : Nat) (h : k < ts.length) (h1 : bigL (ts.take k) = false) (h2 : (ts[k]'h).size <= 3000) : bigL (ts.take (k + 1)) = false := by
 unfold bigL at *;rw [List.take_succ_eq_append_getElem h, List.any_append, h1];simp
 omega
theorem bigL_hit (ts : List Tm) (k : Nat) (h : k < ts.length) (h2 : 3000 < (ts[k]'h).size) : bigL ts = true := by
 unfold bigL;rw [List.any_eq_true];exact ⟨ts[k], List.getElem_mem h, by simpa using h2⟩
theorem bigL_one (T : Tm) (h : bigL [T] = false) : T.size <= 3000 := by
 unfold bigL at h;simp at h
 exact h
theorem bigL_mem {ts : List Tm} (h : bigL ts = false) {t : Tm} (ht : t ∈ ts) : t.size <= 3000 := by
 unfold bigL at h;rw [List.any_eq_false] at h;have := h t ht;simp at this
 exact this
set_option maxRecDepth 100000 in
set_option maxHeartbeats 2000000 in
theorem law_big (ts : List Tm) (ad : Option Addr) (cap : Nat) (w : World) (hlen : ts.length <= cap) (hcap : cap <= maxLen) (hts : TArgs w ad ts) :
 Calls Tryz.prog 12 #[.slice ad ts.length cap] w fun e w' => e = .returned (.bool (bigL ts)) /\ Below w.heap.size w w' := by
 obtain ⟨E, hE⟩ : ∃ E, bigL ts = E := ⟨_, rfl⟩;rw [hE];have HE := Lib.hid hE;have HT := Lib.hid hts;unfold maxLen at hcap;clear hE hts;go_enter Tryz.func12, Tryz.ntmps12;go_wp2_with fail;go_loopw [7] (fun iv wr => ∃ k : Nat, k <= ts.length /\ iv = .int .i64 k /\ Below w.heap.size w wr /\ Hid (bigL (ts.take k) = false)) (fun iv _ => ts.length - (intOf iv).toNat)
 case atStart => exact ⟨0, Nat.zero_le _, rfl, Below.refl _ _, Lib.hid rfl⟩
 case round =>
  obtain ⟨k, hk, rfl, hbw, HB⟩ := hrel;by_cases hlt : k < ts.length
  · obtain ⟨b, o, rfl⟩ := HT.out.addr (by omega);obtain ⟨ad1, cap1, c0, c1, c2, c3, hin1⟩ := (HT.out.on hbw).get k hlt;have hsn := Lib.hid (bigL_snoc ts k hlt HB.out);have hht := Lib.hid (bigL_hit ts k hlt);generalize ts[k] = x at *;have hF := ref_Few x ad1 cap1 3000 (wr.alloc (.cells #[.int .i64 x.kind, .string x.name, .int .i64 x.n, .slice ad1 x.args.length cap1] 26)) (by decide) (by decide) (hin1.on ((Below.refl _ wr).alloc (Nat.le_refl _) _));unfold tmv at hF;by_cases hx : 3000 < x.size
    · rw [decide_eq_false (by omega)] at hF;have HF := Lib.hid hF;have HR : Hid (E = true) := Lib.hid (HE.out.symm.trans (hht.out hx));clear hF hx hin1;go_wp2_with fail;refine HF.out.mono ?_;rintro e w2 ⟨rfl, hb2⟩;have hbw2 := (hbw.alloc hbw.size _).trans (hb2.mono (Nat.le_trans hbw.size (by simp)));clear hb2 hbw c0 c1 c2 c3;go_wp2_with fail;go_ret;exact ⟨ret_bool HR.out.symm, hbw2⟩
    · rw [decide_eq_true (by omega)] at hF;have HF := Lib.hid hF;have HN := Lib.hid (hsn.out (by omega));clear hF hx hin1;go_wp2_with fail;refine HF.out.mono ?_;rintro e w2 ⟨rfl, hb2⟩;have hbw2 := (hbw.alloc hbw.size _).trans (hb2.mono (Nat.le_trans hbw.size (by simp)));clear hb2 hbw c0 c1 c2 c3;go_wp2_with fail;go_roundw
      case rel => exact ⟨k + 1, by omega, by go_num, hbw2, HN⟩
      case measure => simp [intOf]; omega
  · have hR := HB.out;rw [List.take_of_length_le (by omega)] at hR;have HR : Hid (E = false) := Lib.hid (HE.out.symm.trans hR);clear hR HB;go_wp2_with fail;go_ret;exact ⟨ret_bool HR.out.symm, hbw⟩
end Go.Proofs.YtinefdlkajnomaaGreatDoor
