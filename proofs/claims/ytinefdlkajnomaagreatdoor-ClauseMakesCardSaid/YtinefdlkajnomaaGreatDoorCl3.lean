import Derived.Test.YtinefdlkajnomaaGreatDoorClauseF
import Derived.Test.YtinefdlkajnomaaGreatDoorRdT
namespace Go.Proofs.YtinefdlkajnomaaGreatDoor
open Go.RowKit
def ccells (c : Cl) (ad : Option Addr) (cap : Nat) (bd : Option Addr) (bc : Nat) : List Value := [.int .i64 c.head.kind, .string c.head.name, .int .i64 c.head.n, .slice ad c.head.args.length cap, .slice bd c.body.length bc, .int .i64 c.vars]
structure ClP (w : World) (P : Nat -> Prop) (c : Cl) (ad : Option Addr) (cap : Nat) (bd : Option Addr) (bc : Nat) : Prop where
 head : TmP w P c.head ad cap
 blen : c.body.length <= bc
 bcap : bc <= maxLen
 body : TArgsP w P bd c.body
 vars : In64 c.vars
theorem ClP.kept {w w' : World} {P Q : Nat -> Prop} {c : Cl} {ad bd : Option Addr} {cap bc : Nat} (h : ClP w P c ad cap bd bc) (hk : ∀ b, P b -> b < w.heap.size -> w'.heap[b]? = w.heap[b]?) (hPQ : ∀ b, P b -> b < w.heap.size -> Q b) : ClP w' Q c ad cap bd bc :=
 ⟨h.head.kept hk hPQ, h.blen, h.bcap, h.body.kept hk hPQ, h.vars⟩
theorem ClO.toP {B : Nat} {w : World} {c : Cl} {ad bd : Option Addr} {cap bc : Nat} (h : ClO B w c ad cap bd bc) : ClP w (fun b => B <= b) c ad cap bd bc := by
 obtain ⟨ad', cap', he, h1, h2, h3⟩ := h.body.slice;injection he with e1 _ e3;subst e1 e3;exact ⟨h.head, h1, h2, h3, h.vars⟩
def CRow (w : World) (P : Nat -> Prop) (xs : List Value) (cs : List Cl) : Prop := xs.length = cs.length * 6 /\ ∀ k (hk : k < cs.length), ∃ ad cap bd bc, ClP w P cs[k] ad cap bd bc /\ ∀ j, j < 6 -> xs[k * 6 + j]? = (ccells cs[k] ad cap bd bc)[j]?
theorem CRow.nil {w : World} {P : Nat -> Prop} : CRow w P [] [] := ⟨rfl, fun k hk => by simp at hk⟩
theorem CRow.kept {w w' : World} {P Q : Nat -> Prop} {xs : List Value} {cs : List Cl} (h : CRow w P xs cs) (hk : ∀ b, P b -> b < w.heap.size -> w'.heap[b]? = w.heap[b]?) (hPQ : ∀ b, P b -> b < w.heap.size -> Q b) : CRow w' Q xs cs :=
 ⟨h.1, fun k hlt => by obtain ⟨ad, cap, bd, bc, h1, h2⟩ := h.2 k hlt; exact ⟨ad, cap, bd, bc, h1.kept hk hPQ, h2⟩⟩
theorem CRow.snoc {w : World} {P : Nat -> Prop} {xs : List Value} {cs : List Cl} {c : Cl} {ad bd : Option Addr} {cap bc : Nat} (h : CRow w P xs cs) (hc : ClP w P c ad cap bd bc) : CRow w P (xs ++ ccells c ad cap bd bc) (cs ++ [c]) := by
 refine ⟨by rw [List.length_append, List.length_append, h.1]; show _ + 6 = (_ + 1) * 6; omega, fun k hk => ?_⟩;by_cases hlt : k < cs.length
 · obtain ⟨ad', cap', bd', bc', h1, h2⟩ := h.2 k hlt;have e : (cs ++ [c])[k] = cs[k] := List.getElem_append_left hlt;rw [e];exact ⟨ad', cap', bd', bc', h1, fun j hj => by rw [List.getElem?_append_left (by rw [h.1]; omega)]; exact h2 j hj⟩
 · rw [List.length_append, List.length_singleton] at hk;obtain rfl : k = cs.length := by omega
   have e : (cs ++ [c])[cs.length] = c := by simp
   rw [e];exact ⟨ad, cap, bd, bc, hc, fun j hj => by rw [List.getElem?_append_right (by rw [h.1]; omega), h.1, Nat.add_sub_cancel_left]⟩
def OwnCls (B : Nat) (w : World) (v : Value) (cs : List Cl) : Prop := ∃ xs, w.ownsRow B 30 6 v cs.length xs /\ CRow w (fun b => B <= b /\ some b ≠ v.ownBlock) xs cs
theorem OwnCls.nil (B : Nat) (w : World) : OwnCls B w (.slice none 0 0) [] := ⟨[], World.ownsRow_nil _ _ _ _, .nil⟩
theorem OwnCls.below {B : Nat} {w w' : World} {v : Value} {cs : List Cl} (h : OwnCls B w v cs) (hb : Below w.heap.size w w') : OwnCls B w' v cs := by
 obtain ⟨xs, h1, h2⟩ := h;exact ⟨xs, ownsRow_kept h1 fun g _ hl => hb.block g hl, h2.kept (fun b _ hl => hb.block b hl) fun b hp _ => hp⟩
theorem own_sliceC {w : World} {B n : Nat} {xs : List Value} {v : Value} (h : w.ownsRow B 30 6 v n xs) : ∃ ad cap, v = .slice ad n cap /\ n <= cap /\ cap <= maxLen /\ ∀ j, j < xs.length -> ∃ g, ad = some ⟨g, 0, none⟩ /\ B <= g /\ w.cell? ⟨g, j, none⟩ = xs[j]? := by
 have h0 := h;obtain ⟨hl, ⟨rfl, rfl⟩ | ⟨g, cap, cur, rfl, hb, hh, hn, hm, _⟩⟩ := h
 · exact ⟨_, _, rfl, Nat.le_refl _, Nat.zero_le _, fun j hj => by omega⟩
 · exact ⟨_, _, rfl, hn, hm, fun j hj => ⟨g, rfl, hb, h0.cellAt j (by rw [<- hl]; exact hj)⟩⟩
def ClsAt (w : World) (P : Nat -> Prop) (ad : Option Addr) (cs : List Cl) : Prop := ∀ k (hk : k < cs.length), ∃ b o a1 c1 bd bc, ad = some ⟨b, o, none⟩ /\ P b /\ ClP w P cs[k] a1 c1 bd bc /\
 w.cell? ⟨b, o + k * 6, none⟩ = some (.int .i64 cs[k].head.kind) /\ w.cell? ⟨b, o + k * 6 + 1, none⟩ = some (.string cs[k].head.name) /\ w.cell? ⟨b, o + k * 6 + 2, none⟩ = some (.int .i64 cs[k].head.n) /\
 w.cell? ⟨b, o + k * 6 + 3, none⟩ = some (.slice a1 cs[k].head.args.length c1) /\ w.cell? ⟨b, o + k * 6 + 4, none⟩ = some (.slice bd cs[k].body.length bc) /\ w.cell? ⟨b, o + k * 6 + 5, none⟩ = some (.int .i64 cs[k].vars)
theorem ClsAt.kept {w w' : World} {P Q : Nat -> Prop} {ad : Option Addr} {cs : List Cl} (h : ClsAt w P ad cs) (hk : ∀ b, P b -> b < w.heap.size -> w'.heap[b]? = w.heap[b]?) (hPQ : ∀ b, P b -> b < w.heap.size -> Q b) : ClsAt w' Q ad cs := fun k hlt => by
 obtain ⟨b, o, a1, c1, bd, bc, h0, hp, h1, x0, x1, x2, x3, x4, x5⟩ := h k hlt;have hbl : b < w.heap.size := World.block_lt_of_cell? w ⟨b, o + k * 6, none⟩ x0;have kc : ∀ i, w'.cell? ⟨b, i, none⟩ = w.cell? ⟨b, i, none⟩ := fun i => World.cell?_of_block (a := ⟨b, i, none⟩) (hk b hp hbl);exact ⟨b, o, a1, c1, bd, bc, h0, hPQ b hp hbl, h1.kept hk hPQ, (kc _).trans x0, (kc _).trans x1, (kc _).trans x2, (kc _).trans x3, (kc _).trans x4, (kc _).trans x5⟩
theorem OwnCls.at {B : Nat} {w : World} {v : Value} {cs : List Cl} (h : OwnCls B w v cs) : ∃ ad cap, v = .slice ad cs.length cap /\ cs.length <= cap /\ cap <= maxLen /\ ClsAt w (fun b => B <= b) ad cs := by
 obtain ⟨xs, h1, h2⟩ := h;obtain ⟨ad, cap, hv, h3, h4, h5⟩ := own_sliceC h1;refine ⟨ad, cap, hv, h3, h4, fun k hk => ?_⟩;obtain ⟨a1, c1, bd, bc, g1, g2⟩ := h2.2 k hk;have hx := h2.1;obtain ⟨g, hg, hB, _⟩ := h5 (k * 6) (by omega);have at6 : ∀ j, j < 6 -> w.cell? ⟨g, 0 + k * 6 + j, none⟩ = (ccells cs[k] a1 c1 bd bc)[j]? := fun j hj => by
  obtain ⟨g', hg', _, hc⟩ := h5 (k * 6 + j) (by omega);rw [hg] at hg';injection hg' with hg';injection hg' with hg';subst hg';rw [Nat.zero_add, hc, g2 j hj]
 exact ⟨g, 0, a1, c1, bd, bc, hg, hB, g1.kept (fun _ _ _ => rfl) fun b hb _ => hb.1, at6 0 (by omega), at6 1 (by omega), at6 2 (by omega), at6 3 (by omega), at6 4 (by omega), at6 5 (by omega)⟩
theorem infoCl : (Tryz.prog.info? 30).map (fun i => (i.zero, i.size, i.bytes)) = some (some (.agg #[.int .i64 0, .string ⟨#[]⟩, .int .i64 0, .slice none 0 0, .slice none 0 0, .int .i64 0]), 6, 88) := by kernel_rfl
theorem OwnCls.grown {B : Nat} {w w' : World} {v v' : Value} {cs : List Cl} {xs : List Value} {c : Cl} {ad bd : Option Addr} {cap bc : Nat} (h1 : w.ownsRow B 30 6 v cs.length xs) (h2 : CRow w (fun b => B <= b /\ some b ≠ v.ownBlock) xs cs)
 (ho : w'.ownsRow B 30 6 v' (cs.length + 1) (xs ++ ccells c ad cap bd bc)) (hg : w.grownBy w' v.ownBlock) (hnew : v'.ownBlock = v.ownBlock \/ ∃ g, v'.ownBlock = some g /\ w.heap.size <= g) (hc : ClP w (fun b => B <= b /\ some b ≠ v.ownBlock) c ad cap bd bc) : OwnCls B w' v' (cs ++ [c]) := by
 have _ := h1;refine ⟨_, by rw [List.length_append]; exact ho, ?_⟩;have hne : ∀ b, (B <= b /\ some b ≠ v.ownBlock) -> b < w.heap.size -> (B <= b /\ some b ≠ v'.ownBlock) := fun b hp hlt => by
  refine ⟨hp.1, ?_⟩;rcases hnew with h | ⟨g, h, hgs⟩
  · rw [h]; exact hp.2
  · rw [h]; intro e; have := Option.some.inj e; omega
 exact (h2.kept (fun b hp hlt => hg.block b hlt hp.2) hne).snoc (hc.kept (fun b hp hlt => hg.block b hlt hp.2) hne)
def makeGo : List Tm -> Nat -> List Cl -> List Cl × Int × Int
 | [], _, acc => (acc, 0, 0)
 | t :: l, k, acc => if t.make.2 = 0 then makeGo l (k + 1) (acc ++ [t.make.1]) else ([], (k : Int), 80)
def progC (s : List UInt8) : List Cl × Int × Int :=
 match progL s with
 | .bad o er => ([], (o : Nat), er)
 | .ok l => makeGo l 0 []
theorem makeGo_ok : ∀ (l : List Tm) (k : Nat) (acc : List Cl), (∀ j (hj : j < l.length), l[j].make.2 = 0) -> makeGo l k acc = (acc ++ l.map (fun t => t.make.1), 0, 0)
 | [], k, acc, _ => by simp [makeGo]
 | t :: l, k, acc, h => by
  show (if t.make.2 = 0 then makeGo l (k + 1) (acc ++ [t.make.1]) else ([], (k : Int), 80)) = _
  rw [if_pos (show t.make.2 = 0 from h 0 (by simp)), makeGo_ok l (k + 1) (acc ++ [t.make.1]) (fun j hj => h (j + 1) (by simpa using hj)), List.append_assoc]; rfl
theorem makeGo_bad : ∀ (l : List Tm) (k : Nat) (acc : List Cl) (i : Nat) (hi : i < l.length), (∀ j (hj : j < i), l[j].make.2 = 0) -> l[i].make.2 ≠ 0 -> makeGo l k acc = ([], ((k + i : Nat) : Int), 80)
 | t :: l, k, acc, 0, hi, _, hb => by unfold makeGo; rw [if_neg (by simpa using hb)]; rfl
 | t :: l, k, acc, i + 1, hi, h, hb => by
  show (if t.make.2 = 0 then makeGo l (k + 1) (acc ++ [t.make.1]) else ([], (k : Int), 80)) = _
  rw [if_pos (show t.make.2 = 0 from h 0 (by omega)), makeGo_bad l (k + 1) (acc ++ [t.make.1]) i (by simpa using hi) (fun j hj => h (j + 1) (by omega)) (by simpa using hb)];rw [show k + 1 + i = k + (i + 1) by omega]
theorem prog_sizes : ∀ (f : Nat) (l : List Tm) (ts : List Tok) (L : List Tm), Fine ts -> progGo f l ts = .ok L -> Tm.sizes L <= Tm.sizes l + ts.length
 | 0, l, ts, L, _, h => by injection h with h; subst h; omega
 | f + 1, l, ts, L, hf, h => by
  unfold progGo at h;split at h
  · injection h with h; subst h; omega
  · cases hw : wholeR true ts with
    | syn o => rw [hw] at h; cases h
    | deep o => rw [hw] at h; cases h
    | ok t ts' ns =>
     rw [hw] at h;dsimp only at h;obtain ⟨a1, a2, _, _⟩ := wholeR_left hf hw;have := prog_sizes f _ _ _ a1 h;rw [Tm.sizes_append, Tm.sizes_cons, show Tm.sizes [] = 0 from rfl] at this;omega
theorem prog_little {src : List UInt8} {L : List Tm} (hq : progL src = .ok L) : Tm.sizes L <= 5000 := by
 unfold progL cutThen at hq;split at hq
 · cases hq
 · cases hc : cutL src 0 false with
   | bad o => rw [hc] at hq; cases hq
   | good T =>
    rw [hc] at hq;dsimp only at hq;have hm := cut_many hc;have := prog_sizes _ _ _ _ (cut_fine (by omega) hc) hq;rw [show Tm.sizes [] = 0 from rfl] at this;omega
theorem prog_err {src : List UInt8} {o : Nat} {er : Int} (h : progL src = .bad o er) : (er != 0) = true := by
 unfold progL cutThen at h;split at h
 · injection h with h1 h2; subst h2; rfl
 · split at h
   · injection h with h1 h2; subst h2; rfl
   · rcases progT_bad h with rfl | rfl <;> rfl
theorem cells6x {c : Cl} {w : World} {ad bd : Option Addr} {cap bc : Nat} : ∀ j u, (ccells c ad cap bd bc)[j]? = some u -> (w.alloc (.cells #[.int .i64 c.head.kind, .string c.head.name, .int .i64 c.head.n, .slice ad c.head.args.length cap, .slice bd c.body.length bc, .int .i64 c.vars] 30)).cell? ((⟨w.heap.size, 0, none⟩ : Addr).add j) = some u := by
 intro j u hj;rw [add_plain, Nat.zero_add, World.cell?_alloc_at _ _ _ _ rfl, <- hj, <- List.getElem?_toArray]; rfl
theorem one6 {c : Cl} {ad bd : Option Addr} {cap bc : Nat} : ∀ u ∈ ccells c ad cap bd bc, u.oneCell' = true := by
 intro u hu; simp [ccells] at hu; rcases hu with rfl | rfl | rfl | rfl | rfl | rfl <;> rfl
set_option maxRecDepth 100000 in
set_option maxHeartbeats 8000000 in
theorem cl_Program (s : ByteArray) (w : World) (hT : TabsT w) :
 Calls Tryz.prog 21 #[.string s] w fun e w' => ∃ v, e = .returned (.tuple #[v, .int .i64 (progC s.data.toList).2.1, .int .i64 (progC s.data.toList).2.2]) /\ OwnCls w.heap.size w' v (progC s.data.toList).1 /\ Below w.heap.size w w' := by
 have HR := Lib.hid (rd_Program s w hT);have HT := Lib.hid hT;clear hT;obtain ⟨X, hX⟩ : ∃ X, progC s.data.toList = X := ⟨_, rfl⟩;rw [hX];unfold progC at hX;cases hp : progL s.data.toList with
 | bad o er =>
  rw [hp] at hX HR;have her := prog_err hp;have HX := Lib.hid hX;clear hX hp;go_enter Tryz.func21, Tryz.ntmps21;go_wp2_with fail;refine HR.out.mono ?_; rintro e w1 ⟨rfl, hb⟩;have HB := Lib.hid hb;clear hb;go_wp2_with fail;refine bodyPost_ret (v := .tuple #[.slice none 0 0, .int .i64 (o : Nat), .int .i64 er]) (by simp [results, Tryz.results21, go_sem]) rfl ?_;rw [<- HX.out];exact ⟨_, rfl, OwnCls.nil _ _, HB.out⟩
 | ok l =>
  rw [hp] at hX HR;have hsm := prog_little hp;have hll := Tm.length_le_sizes l;have HX := Lib.hid hX;obtain ⟨i0, hi, hz0, hz1, hz2⟩ := info_parts infoCl;clear hX hp;go_enter Tryz.func21, Tryz.ntmps21;go_wp2_with fail;refine HR.out.mono ?_; rintro e w1 ⟨ad1, cap1, rfl, hl1, hc1, ht1, hb1⟩;have HA := Lib.hid ht1.all;have HB1 := Lib.hid hb1;have hs1 := hb1.size;unfold maxLen at hc1;clear ht1 hb1 HR;go_wp2_with fail;go_loopw [8, 25] (fun lv iv wr => ∃ k : Nat, k <= l.length /\ iv = .int .i64 k /\ Below w1.heap.size w1 wr /\ OwnCls w1.heap.size wr lv ((l.take k).map (fun t => t.make.1)) /\ Hid (∀ j (hj : j < l.length), j < k -> l[j].make.2 = 0)) (fun _ iv _ => l.length - (intOf iv).toNat)
  case atStart => exact ⟨0, Nat.zero_le _, rfl, Below.refl _ _, OwnCls.nil _ _, Lib.hid (fun j _ h => by omega)⟩
  case round =>
   obtain ⟨k, hk, rfl, hbw, hown, HZ⟩ := hrel;by_cases hlt : k < l.length
   · obtain ⟨b, o, rfl⟩ := HA.out.addr (by omega);obtain ⟨ad2, cap2, c0, c1, c2, c3, hin1⟩ := (HA.out.on hbw).get k hlt;have hmem := Tm.mem_size (List.getElem_mem hlt);have hstep : (l.take (k + 1)).map (fun t => t.make.1) = (l.take k).map (fun t => t.make.1) ++ [l[k].make.1] := by rw [List.take_succ_eq_append_getElem hlt, List.map_append]; rfl
     have hrl : ((l.take k).map (fun t => t.make.1)).length = k := by rw [List.length_map, List.length_take]; omega
     have HZB : Hid (l[k].make.2 ≠ 0 -> X = ([], (k : Int), 80)) := Lib.hid (fun h => by rw [<- HX.out, makeGo_bad l 0 [] k hlt (fun j hj => HZ.out j (by omega) hj) h, Nat.zero_add]);have HZG : Hid (l[k].make.2 = 0 -> ∀ j (hj : j < l.length), j < k + 1 -> l[j].make.2 = 0) := Lib.hid (fun h j hj hjk => by
      by_cases e : j < k
      · exact HZ.out j hj e
      · obtain rfl : j = k := by omega
        exact h)
     have HM := Lib.hid (cl_Make l[k] ad2 cap2 (wr.alloc (.cells #[.int .i64 l[k].kind, .string l[k].name, .int .i64 l[k].n, .slice ad2 l[k].args.length cap2] 26)) (by omega) (HT.out.on (HB1.out.trans ((hbw.alloc hbw.size _).mono hs1))).1 (hin1.on ((Below.refl _ wr).alloc (Nat.le_refl _) _)));have HOWN := Lib.hid hown;have HST := Lib.hid hstep;have HRL := Lib.hid hrl;unfold tmv at HM;clear hin1 hmem hown hstep hrl HZ;generalize (l.take k).map (fun t => t.make.1) = cs at *;generalize l[k] = x at *;by_cases he : x.make.2 = 0
     · have HZ2 := Lib.hid (HZG.out he);rw [he] at HM;clear he HZG HZB;go_wp2_with fail;refine HM.out.mono ?_;rintro e w2 ⟨a5, c5, bd5, bc5, rfl, hcl, hb2⟩;generalize x.make.1 = c at *;have hb3 : Below wr.heap.size wr w2 := ((Below.refl _ wr).alloc (Nat.le_refl _) _).trans (hb2.mono (by simp));have hw2s := hb2.size;rw [World.size_alloc] at hw2s hcl;have hcp := hcl.toP;obtain ⟨xs, hox, hrow⟩ := HOWN.out.below hb3;rw [HRL.out] at hox;obtain ⟨xs0, hox0, _⟩ := HOWN.out;have hlt2 := hox0.lt;clear hox0;have hwrs := hbw.size;have HROW := Lib.hid hrow;have HCP := Lib.hid hcp;have HLT := Lib.hid hlt2;have hbw2 := hbw.trans (hb3.mono hwrs);have HBW2 := Lib.hid hbw2;clear hrow hcp hlt2 hb2 c0 c1 c2 c3 hb3 hcl hbw2 hbw HOWN HM;unfold clv;have HOX := Lib.hid (hox.alloc (.cells #[.int .i64 c.head.kind, .string c.head.name, .int .i64 c.head.n, .slice a5 c.head.args.length c5, .slice bd5 c.body.length bc5, .int .i64 c.vars] 30));go_wp2_with (first
        | (at_builtin; refine wpList_append_lies _ rfl _ _ 40 rfl w1.heap.size 30 i0 (.agg #[.int .i64 0, .string ⟨#[]⟩, .int .i64 0, .slice none 0 0, .slice none 0 0, .int .i64 0]) 6 88 Tryz.underlying40 hi hz0 hz1 hz2 rfl (by decide) _ _ _ rfl (HOX.out.alloc _) ⟨w2.heap.size + 1, 0, none⟩ 1 1 (ccells c a5 c5 bd5 bc5) rfl rfl ?c1 one6 (by decide) ?c3 ?c4 ?c5 _ rfl ?_))
       case c1 =>
        have := cells6x (w := w2.alloc (.cells #[.int .i64 c.head.kind, .string c.head.name, .int .i64 c.head.n, .slice a5 c.head.args.length c5, .slice bd5 c.body.length bc5, .int .i64 c.vars] 30)) (c := c) (ad := a5) (cap := c5) (bd := bd5) (bc := bc5);rw [World.size_alloc] at this;exact this
       case c3 => unfold maxLen; omega
       case c4 => omega
       case c5 => simp; omega
       intro g cap3 w3 hown3 hgrow hat hlt3;have hs3 := hgrow.size;simp only [World.size_alloc] at hs3
       have hown4 : OwnCls w1.heap.size w3 (.slice (some ⟨g, 0, none⟩) (k + 1) cap3) (cs ++ [c]) := by
        refine OwnCls.grown (by rw [HRL.out]; exact HOX.out.alloc _) (HROW.out.kept (fun b _ hl => (Below.heap_alloc _ _ _ (by simp; omega)).trans (Below.heap_alloc _ _ _ hl)) fun _ h _ => h) (by rw [HRL.out]; exact hown3) hgrow ?_ (HCP.out.kept (fun b _ hl => (Below.heap_alloc _ _ _ (by simp; omega)).trans (Below.heap_alloc _ _ _ hl)) fun b hb _ => ⟨by omega, fun e => by have := (HLT.out b e.symm).2; omega⟩);rcases hat with hat | hat
        · exact .inl hat.symm
        · exact .inr ⟨g, rfl, by rw [hat]; simp⟩
       have hbw4 : Below w1.heap.size w1 w3 := ((HBW2.out.alloc HBW2.out.size _).alloc (by simp; have := HBW2.out.size; omega) _).grown hgrow (by simp; have := HBW2.out.size; omega) (fun i hi => (HLT.out i hi).1);have HO4 := Lib.hid hown4;clear hown3 hgrow hat hown4 hox HOX HROW HCP;go_wp2;go_roundw
       case rel => exact ⟨k + 1, by omega, by go_num, hbw4, by rw [HST.out]; exact HO4.out, HZ2⟩
       case measure => simp [intOf]; omega
     · have hne : (x.make.2 != 0) = true := bne_iff_ne.2 he;have HXV := Lib.hid (HZB.out he);clear he HZG HZB;generalize x.make.2 = er at *;go_wp2_with fail;refine HM.out.mono ?_;rintro e w2 ⟨a5, c5, bd5, bc5, rfl, hcl, hb2⟩;have hb3 : Below wr.heap.size wr w2 := ((Below.refl _ wr).alloc (Nat.le_refl _) _).trans (hb2.mono (by simp));have HB3 := Lib.hid (HB1.out.trans ((hbw.trans (hb3.mono hbw.size)).mono hs1));clear c0 c1 c2 c3 hb2 hb3 hcl hbw HOWN HM;unfold clv;go_wp2_with fail;refine bodyPost_ret (v := .tuple #[.slice none 0 0, .int .i64 k, .int .i64 80]) (by simp [results, Tryz.results21, go_sem]) rfl ?_;rw [HXV.out];exact ⟨_, rfl, OwnCls.nil _ _, HB3.out.alloc HB3.out.size _⟩
   · obtain rfl : k = l.length := by omega
     have HXV : Hid (X = (l.map (fun t => t.make.1), 0, 0)) := Lib.hid (by rw [<- HX.out, makeGo_ok l 0 [] (fun j hj => HZ.out j hj hj)]; rfl);rw [List.take_of_length_le (Nat.le_refl _)] at hown;obtain ⟨xs, h1, h2⟩ := hown;have HO : Hid (OwnCls w.heap.size wr u8 (l.map (fun t => t.make.1))) := Lib.hid ⟨xs, ownsRow_low h1 hs1, h2.kept (fun _ _ _ => rfl) fun b hb _ => ⟨by omega, hb.2⟩⟩;have HBW := Lib.hid (HB1.out.trans (hbw.mono hs1));clear h1 h2 hbw HZ;go_wp2_with fail;refine bodyPost_ret (v := .tuple #[u8, .int .i64 0, .int .i64 0]) (by simp [results, Tryz.results21, go_sem]) rfl ?_;rw [HXV.out];exact ⟨_, rfl, HO.out, HBW.out⟩
def OwnIs (B : Nat) (w : World) (v : Value) (l : List Int) : Prop := w.ownsRow B 3 1 v l.length (nums l)
theorem OwnIs.nil (B : Nat) (w : World) : OwnIs B w (.slice none 0 0) [] := World.ownsRow_nil _ _ _ _
theorem infoIs : (Tryz.prog.info? 3).map (fun i => (i.zero, i.size, i.bytes)) = some (some (.int .i64 0), 1, 8) := by kernel_rfl
theorem OwnIs.below {B : Nat} {w w' : World} {v : Value} {l : List Int} (h : OwnIs B w v l) (hb : Below w.heap.size w w') : OwnIs B w' v l := ownsRow_kept h fun g _ hl => hb.block g hl
def findL (s : ByteArray) (n : Int) (cs : List Cl) : Nat -> List Int
 | 0 => []
 | k + 1 => match cs[k]? with
  | some c => if c.head.name = s /\ (c.head.args.length : Int) = n then findL s n cs k ++ [(k : Int)] else findL s n cs k
  | none => findL s n cs k
theorem findL_step (s : ByteArray) (n : Int) (cs : List Cl) (k : Nat) (hk : k < cs.length) : findL s n cs (k + 1) = if cs[k].head.name = s /\ (cs[k].head.args.length : Int) = n then findL s n cs k ++ [(k : Int)] else findL s n cs k := by
 show (match cs[k]? with | some c => _ | none => _) = _
 rw [List.getElem?_eq_getElem hk]
theorem findL_len (s : ByteArray) (n : Int) (cs : List Cl) : ∀ k, (findL s n cs k).length <= k
 | 0 => Nat.le_refl 0
 | k + 1 => by
  have h := findL_len s n cs k;show (match cs[k]? with | some c => _ | none => _ : List Int).length <= _
  split
  · split
    · rw [List.length_append, List.length_singleton]; omega
    · omega
  · omega
set_option maxRecDepth 100000 in
set_option maxHeartbeats 8000000 in
theorem cl_Find (cs : List Cl) (s : ByteArray) (n : Int) (ad : Option Addr) (cap : Nat) (w : World) (P : Nat -> Prop) (hP : ∀ b, P b -> b < w.heap.size) (_hl : cs.length <= cap) (_hc : cap <= maxLen) (hlen : cs.length <= 10000000000000) (h : ClsAt w P ad cs) :
 Calls Tryz.prog 27 #[.slice ad cs.length cap, .string s, .int .i64 n] w fun e w' => ∃ v, e = .returned v /\ OwnIs w.heap.size w' v (findL s n cs cs.length) /\ Below w.heap.size w w' := by
 obtain ⟨i0, hi, hz0, hz1, hz2⟩ := info_parts infoIs;have H := Lib.hid h;have HP := Lib.hid hP;clear h hP;go_enter Tryz.func27, Tryz.ntmps27;go_wp2_with fail;go_loopw [7, 12] (fun lv iv wr => ∃ k : Nat, k <= cs.length /\ iv = .int .i64 k /\ Below w.heap.size w wr /\ OwnIs w.heap.size wr lv (findL s n cs k)) (fun _ iv _ => cs.length - (intOf iv).toNat)
 case atStart => exact ⟨0, Nat.zero_le _, rfl, Below.refl _ _, OwnIs.nil _ _⟩
 case round =>
  obtain ⟨k, hk, rfl, hbw, hown⟩ := hrel;have hwrs := hbw.size;by_cases hlt : k < cs.length
  · obtain ⟨b, o, a1, c1, bd, bc, rfl, hPb, hcp, x0, x1, x2, x3, x4, x5⟩ := (H.out.kept (w' := wr) (Q := fun b => b < w.heap.size) (fun b hp _ => hbw.block b (HP.out b hp)) (fun b hp _ => HP.out b hp)) k hlt;have HS := Lib.hid (findL_step s n cs k hlt);have hfl := findL_len s n cs k;clear hcp;generalize cs[k] = c at *;have HOWN := Lib.hid hown;have hownr : (wr.alloc (.cells #[.int .i64 c.head.kind, .string c.head.name, .int .i64 c.head.n, .slice a1 c.head.args.length c1, .slice bd c.body.length bc, .int .i64 c.vars] 30)).ownsRow w.heap.size 3 1 u7 (findL s n cs k).length (nums (findL s n cs k)) := World.ownsRow.alloc (show wr.ownsRow w.heap.size 3 1 u7 (findL s n cs k).length (nums (findL s n cs k)) from hown) _;clear hown;by_cases hit : c.head.name = s /\ (c.head.args.length : Int) = n
    · have h1 : (c.head.name.toList == s.toList) = true := by rw [hit.1]; exact beq_self_eq_true _
      have h2 : ((c.head.args.length : Int) == n) = true := by rw [hit.2]; exact beq_self_eq_true _
      have HS2 : Hid (findL s n cs (k + 1) = findL s n cs k ++ [(k : Int)]) := Lib.hid (by rw [HS.out, if_pos hit]);have hlt7 := hownr.lt;clear hit HS;generalize findL s n cs k = fl at *;have HOR := Lib.hid (World.ownsRow.alloc hownr (.cells #[.int .i64 (k : Int)] 3));go_wp2_with (first
       | (at_builtin; refine wpList_append_own _ rfl _ _ 47 rfl w.heap.size 3 i0 (.int .i64 0) 1 8 Tryz.underlying47 hi hz0 hz1 hz2 rfl (by decide) _ _ _ rfl HOR.out ⟨wr.heap.size + 1, 0, none⟩ 1 1 [.int .i64 (k : Int)] rfl rfl ?c1 ?c2 ?c3 ?c4 ?c5 ?_))
      case c1 =>
       intro j u hj;match j, hj with
       | 0, hj => simp at hj; subst hj; simp [Addr.add]
      case c2 => intro u hu; simp at hu; subst hu; rfl
      case c3 => unfold maxLen; omega
      case c4 => omega
      case c5 => simp; omega
      intro v3 w3 hown3 hgrow _;have hbw3 : Below w.heap.size w w3 := ((hbw.alloc hbw.size _).alloc (by simp; omega) _).grown hgrow (by simp; omega) (fun i hi => (hlt7 i hi).1);have HO3 : Hid (OwnIs w.heap.size w3 v3 (fl ++ [(k : Int)])) := Lib.hid (by
       unfold OwnIs;rw [nums_append, List.length_append];exact hown3)
      clear hown3 hgrow hownr x0 x1 x2 x3 x4 x5;go_wp2;go_roundw
      case rel => exact ⟨k + 1, by omega, by go_num, hbw3, by rw [HS2.out]; exact HO3.out⟩
      case measure => simp [intOf]; omega
    · have HS2 : Hid (findL s n cs (k + 1) = findL s n cs k) := Lib.hid (by rw [HS.out, if_neg hit]);have hcs : ((c.head.name.toList == s.toList) = true /\ ((c.head.args.length : Int) == n) = false) \/ (c.head.name.toList == s.toList) = false := by
       by_cases e : c.head.name = s
       · exact .inl ⟨by rw [e]; exact beq_self_eq_true _, beq_eq_false_iff_ne.2 fun e2 => hit ⟨e, e2⟩⟩
       · exact .inr (beq_eq_false_iff_ne.2 fun e2 => e (by rw [ByteArray.toList_eq, ByteArray.toList_eq] at e2; exact ByteArray.ext (Array.toList_inj.1 e2)))
      clear hit HS hownr;rcases hcs with ⟨h1, h2⟩ | h1
      all_goals
       go_wp2_with fail;go_roundw
       case rel => exact ⟨k + 1, by omega, by go_num, hbw.alloc hbw.size _, by rw [HS2.out]; exact OwnIs.below HOWN.out ((Below.refl _ wr).alloc (Nat.le_refl _) _)⟩
       case measure => simp [intOf]; omega
  · obtain rfl : k = cs.length := by omega
    have HO := Lib.hid hown;clear hown;go_wp2_with fail;go_ret;exact ⟨_, rfl, HO.out, hbw⟩
noncomputable def Cl.same (A B : Cl) : Bool := A.head.same B.head && ((Tm.mk 0 ⟨#[]⟩ 0 A.body).same (Tm.mk 0 ⟨#[]⟩ 0 B.body) && A.vars == B.vars)
theorem Cl.same_true (A : Cl) : A.same A = true := by unfold Cl.same; rw [Tm.same_true rfl, Tm.same_true rfl]; simp
set_option maxRecDepth 100000 in
set_option maxHeartbeats 4000000 in
theorem rc_Same (A B : Cl) (a1 b1 a2 b2 : Option Addr) (c1 d1 c2 d2 : Nat) (w : World) (P Q : Nat -> Prop) (hA : ClP w P A a1 c1 b1 d1) (hB : ClP w Q B a2 c2 b2 d2) (h1 : A.head.size <= 1000000) (h2 : Tm.sizes A.body <= 100000) :
 Calls Tryz.prog 18 #[clv A a1 c1 b1 d1, clv B a2 c2 b2 d2] w fun e w' => e = .returned (.bool (A.same B)) /\ Below w.heap.size w w' := by
 have HB0 := Lib.hid (fun o1 o2 : Obj => ((Below.refl w.heap.size w).alloc (Nat.le_refl _) o1).alloc (by simp) o2);have HS := Lib.hid (fun W (hb : Below w.heap.size w W) => ref_Same A.head.size A.head B.head a1 a2 c1 c2 W (Nat.le_refl _) h1 (hA.head.toIn.on hb) (hB.head.toIn.on hb));have HL := Lib.hid (fun W (hb : Below w.heap.size w W) => ref_SameAll A.body B.body b1 b2 d1 d2 W h2 hA.blen hA.bcap hB.blen hB.bcap (hA.body.all.on hb) (hB.body.all.on hb));clear hA hB;unfold Cl.same clv;unfold tmv at HS;generalize A.head.same B.head = x at *;generalize (Tm.mk 0 ⟨#[]⟩ 0 A.body).same (Tm.mk 0 ⟨#[]⟩ 0 B.body) = y at *;obtain ⟨z, hz⟩ : ∃ z, (A.vars == B.vars) = z := ⟨_, rfl⟩;rw [hz];have HA2 := Lib.hid (fun o1 o2 : Obj => And.intro ((Below.heap_alloc (w.alloc o1) o2 _ (by simp)).trans (alloc_new w o1)) (alloc_new2 w o1 o2));have hsz : ∀ o1 o2 : Obj, ((w.alloc o1).alloc o2).heap.size = w.heap.size + 2 := fun _ _ => by simp
 cases x with
 | false =>
  clear hz;go_enter Tryz.func18, Tryz.ntmps18;go_wp2_with fail;refine (HS.out _ (HB0.out _ _)).mono ?_; rintro e w1 ⟨rfl, hb⟩;have HB1 := Lib.hid ((HB0.out _ _).trans (hb.mono (by rw [hsz]; omega)));clear hb;go_wp2_with fail;go_ret;exact ⟨rfl, HB1.out⟩
 | true =>
  cases y with
  | false =>
   clear hz;go_enter Tryz.func18, Tryz.ntmps18;go_wp2_with fail;obtain ⟨a1q, a2q⟩ := HA2.out (.cells #[.int .i64 A.head.kind, .string A.head.name, .int .i64 A.head.n, .slice a1 A.head.args.length c1, .slice b1 A.body.length d1, .int .i64 A.vars] 30) (.cells #[.int .i64 B.head.kind, .string B.head.name, .int .i64 B.head.n, .slice a2 B.head.args.length c2, .slice b2 B.body.length d2, .int .i64 B.vars] 30);refine (HS.out _ (HB0.out _ _)).mono ?_; rintro e w1 ⟨rfl, hb⟩;have HB1 := Lib.hid ((HB0.out _ _).trans (hb.mono (by rw [hsz]; omega)));obtain ⟨x0, x1, x2, x3, x4, x5, _⟩ := cells6 (keptR hb a1q);obtain ⟨y0, y1, y2, y3, y4, y5, _⟩ := cells6 (keptR hb a2q);clear hb a1q a2q;go_wp2_with fail;refine (HL.out _ HB1.out).mono ?_; rintro e w2 ⟨rfl, hb⟩;have HB2 := Lib.hid (HB1.out.trans (hb.mono HB1.out.size));clear hb;go_wp2_with fail;go_ret;exact ⟨rfl, HB2.out⟩
  | true =>
   cases z
   all_goals
    go_enter Tryz.func18, Tryz.ntmps18;go_wp2_with fail;obtain ⟨a1q, a2q⟩ := HA2.out (.cells #[.int .i64 A.head.kind, .string A.head.name, .int .i64 A.head.n, .slice a1 A.head.args.length c1, .slice b1 A.body.length d1, .int .i64 A.vars] 30) (.cells #[.int .i64 B.head.kind, .string B.head.name, .int .i64 B.head.n, .slice a2 B.head.args.length c2, .slice b2 B.body.length d2, .int .i64 B.vars] 30);refine (HS.out _ (HB0.out _ _)).mono ?_; rintro e w1 ⟨rfl, hb⟩;have HB1 := Lib.hid ((HB0.out _ _).trans (hb.mono (by rw [hsz]; omega)));have hq1 := keptR hb a1q;have hq2 := keptR hb a2q;obtain ⟨x0, x1, x2, x3, x4, x5, _⟩ := cells6 hq1;obtain ⟨y0, y1, y2, y3, y4, y5, _⟩ := cells6 hq2;have HQ1 := Lib.hid hq1;have HQ2 := Lib.hid hq2;clear hb a1q a2q hq1 hq2;go_wp2_with fail;refine (HL.out _ HB1.out).mono ?_; rintro e w2 ⟨rfl, hb⟩;have HB2 := Lib.hid (HB1.out.trans (hb.mono HB1.out.size));clear x0 x1 x2 x3 x4 x5 y0 y1 y2 y3 y4 y5;obtain ⟨x0, x1, x2, x3, x4, x5, _⟩ := cells6 (keptR hb HQ1.out);obtain ⟨y0, y1, y2, y3, y4, y5, _⟩ := cells6 (keptR hb HQ2.out);clear hb;go_wp2_with fail;go_ret;exact ⟨rfl, HB2.out⟩
theorem ex_cl1 : progC [112, 40, 88, 41, 32, 58, 45, 32, 113, 40, 88, 44, 32, 89, 41, 44, 32, 33, 46] = ([⟨compT [112] [varT 0], [compT [113] [varT 0, varT 1], atomT [33]], 2⟩], 0, 0) := by kernel_rfl
theorem ex_cl2 : progC [97, 46, 32, 88, 32, 61, 32, 89, 46] = ([], 1, 80) := by kernel_rfl
def exQ : Tm := compT [113] [varT 0, varT 1]
def exC : Cl := ⟨compT [112] [varT 0], [exQ, atomT [33]], 2⟩
theorem var_in (w : World) (n : Nat) (h : n <= 1000) : TmIn w (varT n) none 0 := leafI w (in64R (by decide) (by decide)) ⟨by omega, by omega⟩ (Nat.zero_le _)
set_option maxRecDepth 100000 in
set_option maxHeartbeats 8000000 in
theorem cl_live (w : World) (hT : TabsT w) :
 Calls Tryz.prog 9 #[] w fun e w' => e = .returned (.bool true) /\ Below w.heap.size w w' := by
 have HP1 := Lib.hid (cl_Program ⟨#[112, 40, 88, 41, 32, 58, 45, 32, 113, 40, 88, 44, 32, 89, 41, 44, 32, 33, 46]⟩ w hT);have HP2 := Lib.hid (fun W (hb : Below w.heap.size w W) => cl_Program ⟨#[97, 46, 32, 88, 32, 61, 32, 89, 46]⟩ W (hT.on hb));rw [show progC (⟨#[112, 40, 88, 41, 32, 58, 45, 32, 113, 40, 88, 44, 32, 89, 41, 44, 32, 33, 46]⟩ : ByteArray).data.toList = ([exC], 0, 0) from ex_cl1] at HP1;rw [show progC (⟨#[97, 46, 32, 88, 32, 61, 32, 89, 46]⟩ : ByteArray).data.toList = ([], 1, 80) from ex_cl2] at HP2;have HBL := Lib.hid (fun W => cl_Builtin ⟨#[105, 115]⟩ 2 W);rw [show bltL (⟨#[105, 115]⟩ : ByteArray).data.toList 2 = true from rfl] at HBL;clear hT;go_enter Tryz.func9, Tryz.ntmps9;go_wp2_with fail;refine HP1.out.mono ?_; rintro e w1 ⟨v1, rfl, ho1, hb1⟩;obtain ⟨ad1, cap1, rfl, hl1, hc1, hcl1⟩ := ho1.at;have HCL1 := Lib.hid hcl1;have HB1 := Lib.hid hb1;rw [show [exC].length = 1 from rfl] at hl1 ⊢;clear ho1 hcl1 hb1 HP1;go_wp2_with fail;refine (HP2.out _ HB1.out).mono ?_; rintro e w2 ⟨v2, rfl, ho2, hb2⟩;have HB2 := Lib.hid (HB1.out.trans (hb2.mono HB1.out.size));have HCL2 : Hid (ClsAt w2 (fun b => b < w2.heap.size) ad1 [exC]) := Lib.hid (HCL1.out.kept (fun b _ hl => hb2.block b hl) fun b _ hl => Nat.lt_of_lt_of_le hl hb2.size);clear ho2 hb2 HP2 HCL1 HB1;go_wp2_with fail;refine (ref_Var1 _ _).mono ?_; rintro e w3 ⟨rfl, hb3⟩;have HB3 := Lib.hid hb3;clear hb3;go_wp2_with fail;generalize hw : w3.alloc (.cells #[.int .i64 1, .string ⟨#[]⟩, .int .i64 0, .slice none 0 0] 26) = w3a;have HA : Hid (TArgs w3a (some ⟨w3.heap.size, 0, none⟩) [varT 0]) := Lib.hid (by rw [<- hw]; exact row1L (var_in w3 0 (by omega)) _ rfl);have HB3a : Hid (Below w2.heap.size w2 w3a) := Lib.hid (by rw [<- hw]; exact HB3.out.alloc HB3.out.size _);clear hw HB3;refine (ref_Comp1 _ _ _ _ _).mono ?_; rintro e w4 ⟨rfl, hb4⟩;have HA4 := Lib.hid (HA.out.on hb4);have HB4 := Lib.hid (HB3a.out.trans (hb4.mono HB3a.out.size));clear hb4 HA HB3a;go_wp2_with fail;refine (ref_Var1 _ _).mono ?_; rintro e w5 ⟨rfl, hb5⟩;have HA5 := Lib.hid (HA4.out.on hb5);have HB5 := Lib.hid (HB4.out.trans (hb5.mono HB4.out.size));clear hb5 HA4 HB4;go_wp2_with fail;refine (ref_Var1 _ _).mono ?_; rintro e w6 ⟨rfl, hb6⟩;have HA6 := Lib.hid (HA5.out.on hb6);have HB6 := Lib.hid (HB5.out.trans (hb6.mono HB5.out.size));clear hb6 HA5 HB5;go_wp2_with fail;generalize hw : w6.alloc (.cells #[.int .i64 1, .string ⟨#[]⟩, .int .i64 0, .slice none 0 0, .int .i64 1, .string ⟨#[]⟩, .int .i64 1, .slice none 0 0] 26) = w6a;have HQ : Hid (TArgs w6a (some ⟨w6.heap.size, 0, none⟩) [varT 0, varT 1]) := Lib.hid (by rw [<- hw]; exact row2L (var_in w6 0 (by omega)) (var_in w6 1 (by omega)) _ rfl);have hb6a : Below w6.heap.size w6 w6a := by rw [<- hw]; exact (Below.refl _ _).alloc (Nat.le_refl _) _
 have HA6a := Lib.hid (HA6.out.on hb6a);have HB6a := Lib.hid (HB6.out.trans (hb6a.mono HB6.out.size));clear hw hb6a HA6 HB6;refine (ref_Comp1 _ _ _ _ _).mono ?_; rintro e w7 ⟨rfl, hb7⟩;have HA7 := Lib.hid (HA6a.out.on hb7);have HQ7 := Lib.hid (HQ.out.on hb7);have HB7 := Lib.hid (HB6a.out.trans (hb7.mono HB6a.out.size));clear hb7 HA6a HB6a HQ;go_wp2_with fail;refine (ref_Atom1 _ _).mono ?_; rintro e w8 ⟨rfl, hb8⟩;have HA8 := Lib.hid (HA7.out.on hb8);have HQ8 := Lib.hid (HQ7.out.on hb8);have HB8 := Lib.hid (HB7.out.trans (hb8.mono HB7.out.size));clear hb8 HA7 HQ7 HB7;go_upto_region 6 with fail;generalize hw : w8.alloc (.cells #[.int .i64 4, .string ⟨#[113]⟩, .int .i64 0, .slice (some ⟨w6.heap.size, 0, none⟩) 2 2, .int .i64 2, .string ⟨#[33]⟩, .int .i64 0, .slice none 0 0] 26) = w8a;have hb8a : Below w8.heap.size w8 w8a := by rw [<- hw]; exact (Below.refl _ _).alloc (Nat.le_refl _) _
 have HR8a : Hid (TArgs w8a (some ⟨w8.heap.size, 0, none⟩) [exQ, atomT [33]]) := Lib.hid (by rw [<- hw]; exact row2L (compI (s := [113]) (cap := 2) (by decide) (by decide) (by decide) HQ8.out) (atomI w8 33) _ rfl);have hs8a : w8a.heap.size = w8.heap.size + 1 := by rw [<- hw]; exact World.size_alloc _ _
 have HA8a := Lib.hid (HA8.out.on hb8a);have HB8a := Lib.hid (HB8.out.trans (hb8a.mono HB8.out.size));clear hw hb8a HA8 HB8 HQ8;generalize hw : w8a.alloc (.cells #[.int .i64 4, .string ⟨#[112]⟩, .int .i64 0, .slice (some ⟨w3.heap.size, 0, none⟩) 1 1, .slice (some ⟨w8.heap.size, 0, none⟩) 2 2, .int .i64 2] 30) = w9;have hb9 : Below w8a.heap.size w8a w9 := by rw [<- hw]; exact (Below.refl _ _).alloc (Nat.le_refl _) _
 have hq9 : w9.heap[w8a.heap.size]? = some (.cells #[.int .i64 4, .string ⟨#[112]⟩, .int .i64 0, .slice (some ⟨w3.heap.size, 0, none⟩) 1 1, .slice (some ⟨w8.heap.size, 0, none⟩) 2 2, .int .i64 2] 30 (0, 0)) := by rw [<- hw]; exact alloc_new w8a _
 have HB9 := Lib.hid (HB8a.out.trans (hb9.mono HB8a.out.size));have hC : ClP w9 (fun b => b < w9.heap.size) exC (some ⟨w3.heap.size, 0, none⟩) 1 (some ⟨w8.heap.size, 0, none⟩) 2 :=
  ⟨(compI (s := [112]) (cap := 1) (by decide) (by decide) (by decide) (HA8a.out.on hb9)).inP, by decide, by decide, (HR8a.out.on hb9).inP, in64R (x := 2) (by decide) (by decide)⟩
 obtain ⟨b, o, a1, c1, bd, bc, rfl, hPb, hcp, x0, x1, x2, x3, x4, x5⟩ := (HCL2.out.kept (w' := w9) (Q := fun b => b < w9.heap.size) (fun b hb _ => HB9.out.block b hb) (fun b hb _ => Nat.lt_of_lt_of_le hb HB9.out.size)) 0 (by simp);rw [show [exC][0] = exC from rfl] at hcp x0 x1 x2 x3 x4 x5;rw [show exC.head.kind = 4 from rfl, Nat.zero_mul, Nat.add_zero] at x0;rw [show exC.head.name = ⟨#[112]⟩ from rfl, Nat.zero_mul, Nat.add_zero] at x1;rw [show exC.head.n = 0 from rfl, Nat.zero_mul, Nat.add_zero] at x2;rw [show exC.head.args.length = 1 from rfl, Nat.zero_mul, Nat.add_zero] at x3;rw [show exC.body.length = 2 from rfl, Nat.zero_mul, Nat.add_zero] at x4;rw [show exC.vars = 2 from rfl, Nat.zero_mul, Nat.add_zero] at x5;have hsm := fun W (hb : Below w9.heap.size w9 W) => rc_Same exC exC a1 bd (some ⟨w3.heap.size, 0, none⟩) (some ⟨w8.heap.size, 0, none⟩) c1 bc 1 2 W (fun b => b < w9.heap.size) (fun b => b < w9.heap.size) (hcp.kept (fun b hb' _ => hb.block b hb') fun _ h _ => h) (hC.kept (fun b hb' _ => hb.block b hb') fun _ h _ => h) (by decide +kernel) (by decide +kernel);simp only [Cl.same_true] at hsm
 have HSM := Lib.hid hsm;clear hsm;have HFD := Lib.hid (fun W (hb : Below w9.heap.size w9 W) => cl_Find [exC] ⟨#[112]⟩ 1 (some ⟨b, o, none⟩) cap1 W (fun b => b < w9.heap.size) (fun b hb' => Nat.lt_of_lt_of_le hb' hb.size) hl1 hc1 (by decide)
  ((HCL2.out.kept (w' := w9) (Q := fun b => b < w9.heap.size) (fun b hb _ => HB9.out.block b hb) (fun b hb _ => Nat.lt_of_lt_of_le hb HB9.out.size)).kept (fun b hb' _ => hb.block b hb') fun _ h _ => h))
 rw [hs8a] at hq9;have hbl : b < w9.heap.size := World.block_lt_of_cell? w9 ⟨b, o, none⟩ x0;have HKEEP : Hid (∀ W, Below w9.heap.size w9 W -> W.cell? ⟨b, o, none⟩ = some (.int .i64 4) /\ W.cell? ⟨b, o + 1, none⟩ = some (.string ⟨#[112]⟩) /\ W.cell? ⟨b, o + 2, none⟩ = some (.int .i64 0) /\ W.cell? ⟨b, o + 3, none⟩ = some (.slice a1 1 c1) /\ W.cell? ⟨b, o + 4, none⟩ = some (.slice bd 2 bc) /\ W.cell? ⟨b, o + 5, none⟩ = some (.int .i64 2) /\ W.cell? ⟨w8.heap.size + 1, 0, none⟩ = some (.int .i64 4) /\ W.cell? ⟨w8.heap.size + 1, 1, none⟩ = some (.string ⟨#[112]⟩) /\ W.cell? ⟨w8.heap.size + 1, 2, none⟩ = some (.int .i64 0) /\ W.cell? ⟨w8.heap.size + 1, 3, none⟩ = some (.slice (some ⟨w3.heap.size, 0, none⟩) 1 1) /\ W.cell? ⟨w8.heap.size + 1, 4, none⟩ = some (.slice (some ⟨w8.heap.size, 0, none⟩) 2 2) /\ W.cell? ⟨w8.heap.size + 1, 5, none⟩ = some (.int .i64 2)) := Lib.hid (fun W hb => by
  obtain ⟨y0, y1, y2, y3, y4, y5, _⟩ := cells6 (keptR hb hq9);have kc : ∀ i, W.cell? ⟨b, i, none⟩ = w9.cell? ⟨b, i, none⟩ := fun i => hb.cell (p := ⟨b, i, none⟩) hbl;exact ⟨(kc _).trans x0, (kc _).trans x1, (kc _).trans x2, (kc _).trans x3, (kc _).trans x4, (kc _).trans x5, y0, y1, y2, y3, y4, y5⟩)
 clear hw hb9 hq9 hC hcp HA8a HR8a HB8a HCL2 x0 x1 x2 x3 x4 x5;unfold clv at HSM;have bD : Below w9.heap.size w9 w9.drew := (Below.refl _ w9).drew;have HV : Hid (∀ v w, OwnIs w9.heap.size w v (findL ⟨#[112]⟩ 1 [exC] 1) -> ∃ ad cap, v = .slice ad 1 cap) := Lib.hid (fun v w hv => by
  obtain ⟨_, ⟨rfl, h0⟩ | ⟨g, cap, cur, rfl, _⟩⟩ := hv
  · exact absurd h0 (by decide +kernel)
  · exact ⟨_, _, rfl⟩)
 go_region_held3 (fun W => W.cell? ⟨b, o, none⟩ = some (.int .i64 4) /\ W.cell? ⟨b, o + 1, none⟩ = some (.string ⟨#[112]⟩) /\ W.cell? ⟨b, o + 2, none⟩ = some (.int .i64 0) /\ W.cell? ⟨b, o + 3, none⟩ = some (.slice a1 1 c1) /\ W.cell? ⟨b, o + 4, none⟩ = some (.slice bd 2 bc) /\ W.cell? ⟨b, o + 5, none⟩ = some (.int .i64 2) /\ W.cell? ⟨w8.heap.size + 1, 0, none⟩ = some (.int .i64 4) /\ W.cell? ⟨w8.heap.size + 1, 1, none⟩ = some (.string ⟨#[112]⟩) /\ W.cell? ⟨w8.heap.size + 1, 2, none⟩ = some (.int .i64 0) /\ W.cell? ⟨w8.heap.size + 1, 3, none⟩ = some (.slice (some ⟨w3.heap.size, 0, none⟩) 1 1) /\ W.cell? ⟨w8.heap.size + 1, 4, none⟩ = some (.slice (some ⟨w8.heap.size, 0, none⟩) 2 2) /\ W.cell? ⟨w8.heap.size + 1, 5, none⟩ = some (.int .i64 2))
  (first | with_reducible exact HKEEP.out _ b12 | with_reducible exact HKEEP.out _ b10 | with_reducible exact HKEEP.out _ bD)
  (first
    | (go_at_call 27; (refine (HFD.out _ b10).mono ?_); rintro e w12 ⟨v, rfl, hv, hb12⟩; have b12 := b10.trans (hb12.mono b10.size); obtain ⟨vad, vcap, rfl⟩ := HV.out v w12 (ownsRow_low hv b10.size); clear hv)
    | (go_at_call 10; (refine (HBL.out _).mono ?_); rintro e w11 ⟨rfl, rfl⟩)
    | (go_at_call 18; (refine (HSM.out _ bD).mono ?_); rintro e w10 ⟨rfl, hb10⟩; have b10 := bD.trans hb10))
 have HB12 := Lib.hid (HB2.out.trans ((HB9.out.trans (b12.mono HB9.out.size)).mono HB2.out.size));go_wp2_with fail;go_ret;exact ⟨rfl, HB12.out⟩
end Go.Proofs.YtinefdlkajnomaaGreatDoor
