import Derived.Test.YtinefdlkajnomaaGreatDoorTkM
import Derived.Test.YtinefdlkajnomaaGreatDoorTermMR
import Derived.Test.YtinefdlkajnomaaGreatDoorOpsAC
namespace Go.Proofs.YtinefdlkajnomaaGreatDoor
open Go.RowKit
abbrev Nms := List (List UInt8)
inductive Rd (α : Type) where
 | bad (o : Nat)
 | ok (a : α) (ts : List Tok) (ns : Nms)
def Rd.bind {α β : Type} (x : Rd α) (f : α -> List Tok -> Nms -> Rd β) : Rd β :=
 match x with
 | .bad o => .bad o
 | .ok a ts ns => f a ts ns
theorem Rd.bind_bad {α β : Type} (o : Nat) (f : α -> List Tok -> Nms -> Rd β) : (Rd.bad o).bind f = .bad o := rfl
theorem Rd.bind_ok {α β : Type} (a : α) (ts : List Tok) (ns : Nms) (f : α -> List Tok -> Nms -> Rd β) : (Rd.ok a ts ns).bind f = f a ts ns := rfl
theorem Rd.bind_is {α β : Type} {x : Rd α} {f : α -> List Tok -> Nms -> Rd β} {b : β} {ts : List Tok} {ns : Nms} (h : x.bind f = .ok b ts ns) : ∃ a ts' ns', x = .ok a ts' ns' /\ f a ts' ns' = .ok b ts ns := by
 cases x with
 | bad o => cases h
 | ok a ts' ns' => exact ⟨a, ts', ns', rfl, h⟩
abbrev Rdr := Int -> List Tok -> Nms -> Rd Tm
def stopT : Tok := ⟨9, [], 0, 0⟩
def fstT (ts : List Tok) : Tok := ts.headD stopT
theorem fstT_cons (t : Tok) (ts : List Tok) : fstT (t :: ts) = t := rfl
def Tok.isAtom (t : Tok) : Bool := t.kind == 1 || t.kind == 2 || t.kind == 3
def Tok.isP (t : Tok) (l : List UInt8) : Bool := t.kind == 6 && t.text == l
def Tok.infix (t : Tok) : Option R := if t.isAtom || t.isP [44] then opR t.text 3 else none
def atomT (s : List UInt8) : Tm := .mk 2 ⟨s.toArray⟩ 0 []
def intT (n : Int) : Tm := .mk 3 ⟨#[]⟩ n []
def varT (n : Nat) : Tm := .mk 1 ⟨#[]⟩ (n : Nat) []
def compT (s : List UInt8) (l : List Tm) : Tm := .mk 4 ⟨s.toArray⟩ 0 l
def aloneT (b c : Tok) : Bool :=
 if b.kind == 8 || b.kind == 9 then true
 else if b.kind == 6 then b.text == [41] || b.text == [93] || b.text == [125] || b.text == [44] || b.text == [124]
 else b.isAtom && (opR b.text 3).isSome && (opR b.text 2).isNone && !(c.kind == 7)
def manyGo (W : Rdr) (most : Nat) : Nat -> List Tm -> List Tok -> Nms -> Rd (List Tm)
 | 0, l, ts, ns => .ok l ts ns
 | f + 1, l, ts, ns =>
  if (fstT ts).isP [44] then
   if l.length = most then .bad (fstT ts.tail).pos
   else (W 999 ts.tail ns).bind fun t ts' ns' => manyGo W most f (l ++ [t]) ts' ns'
  else .ok l ts ns
def manyR (W : Rdr) (most : Nat) (ts : List Tok) (ns : Nms) : Rd (List Tm) := (W 999 ts ns).bind fun t ts' ns' => manyGo W most ts'.length [t] ts' ns'
def closeR (c : List UInt8) (x : Rd Tm) : Rd Tm := x.bind fun t ts ns => if (fstT ts).isP c then .ok t ts.tail ns else .bad (fstT ts).pos
def tailR (W : Rdr) (ts : List Tok) (ns : Nms) : Rd Tm := if (fstT ts).isP [124] then W 999 ts.tail ns else .ok (atomT [91, 93]) ts ns
def consT (l : List Tm) (e : Tm) : Tm := l.foldr (fun x t => compT [46] [x, t]) e
def listR (W : Rdr) (ts : List Tok) (ns : Nms) : Rd Tm := (manyR W 4096 ts ns).bind fun l ts' ns' => (tailR W ts' ns').bind fun e ts'' ns'' => .ok (consT l e) ts'' ns''
def squareR (W : Rdr) (ts : List Tok) (ns : Nms) : Rd Tm := if (fstT ts).isP [93] then .ok (atomT [91, 93]) ts ns else listR W ts ns
def curlyR (W : Rdr) (ts : List Tok) (ns : Nms) : Rd Tm := if (fstT ts).isP [125] then .ok (atomT [123, 125]) ts ns else (W 1200 ts ns).bind fun t ts' ns' => .ok (compT [123, 125] [t]) ts' ns'
def bracketR (W : Rdr) (ts : List Tok) (ns : Nms) : Rd Tm :=
 if (fstT ts).text == [40] then closeR [41] (W 1200 ts.tail ns)
 else if (fstT ts).text == [91] then closeR [93] (squareR W ts.tail ns)
 else if (fstT ts).text == [123] then closeR [125] (curlyR W ts.tail ns)
 else .bad (fstT ts).pos
def varR (ts : List Tok) (ns : Nms) : Rd Tm :=
 if (fstT ts).text ∈ ns /\ (fstT ts).text ≠ [95] then .ok (varT (ns.idxOf (fstT ts).text)) ts.tail ns
 else if ns.length = 200 then .bad (fstT ts).pos
 else .ok (varT ns.length) ts.tail (ns ++ [(fstT ts).text])
def argsR (W : Rdr) (s : List UInt8) (ts : List Tok) (ns : Nms) : Rd Tm := closeR [41] ((manyR W 16 ts ns).bind fun l ts' ns' => .ok (compT s l) ts' ns')
def namedR (W : Rdr) (p : Int) (ts : List Tok) (ns : Nms) : Rd (Tm × Int) :=
 if (fstT ts.tail).kind = 7 then (argsR W (fstT ts).text ts.tail.tail ns).bind fun t ts' ns' => .ok (t, 0) ts' ns'
 else if (fstT ts).kind = 3 /\ (fstT ts).text = [45] /\ (fstT ts.tail).kind = 5 /\ (fstT ts.tail).pos = (fstT ts).pos + 1 then .ok (intT (wrap64 (-(fstT ts.tail).n)), 0) ts.tail.tail ns
 else
  match opR (fstT ts).text 2 with
  | none => .ok (atomT (fstT ts).text, 0) ts.tail ns
  | some r =>
   if aloneT (fstT ts.tail) (fstT ts.tail.tail) = true then .ok (atomT (fstT ts).text, 0) ts.tail ns
   else if p < r.p then .bad (fstT ts).pos
   else (W (rightOf r.k r.p) ts.tail ns).bind fun t ts' ns' => .ok (compT (fstT ts).text [t], r.p) ts' ns'
def zeroR (x : Rd Tm) : Rd (Tm × Int) := x.bind fun t ts ns => .ok (t, 0) ts ns
def beginR (W : Rdr) (p : Int) (ts : List Tok) (ns : Nms) : Rd (Tm × Int) :=
 if (fstT ts).isAtom then namedR W p ts ns
 else if (fstT ts).kind = 4 then zeroR (varR ts ns)
 else if (fstT ts).kind = 6 \/ (fstT ts).kind = 7 then zeroR (bracketR W ts ns)
 else if (fstT ts).kind = 5 /\ 0 <= (fstT ts).n then .ok (intT (fstT ts).n, 0) ts.tail ns
 else .bad (fstT ts).pos
def moreR (W : Rdr) (p : Int) : Nat -> Tm -> Int -> List Tok -> Nms -> Rd Tm
 | 0, t, _, ts, ns => .ok t ts ns
 | f + 1, t, pri, ts, ns =>
  match (fstT ts).infix with
  | none => .ok t ts ns
  | some r =>
   if p < r.p \/ leftOf r.k r.p < pri then .ok t ts ns
   else (W (rightOf r.k r.p) ts.tail ns).bind fun u ts' ns' => moreR W p f (compT (fstT ts).text [t, u]) r.p ts' ns'
def termR : Nat -> Rdr
 | 0, _, ts, _ => .bad (fstT ts).pos
 | m + 1, p, ts, ns => (beginR (termR m) p ts ns).bind fun x ts' ns' => moreR (termR m) p ts'.length x.1 x.2 ts' ns'
structure TokOk (t : Tok) : Prop where
 kind : 1 <= t.kind /\ t.kind <= 9
 name : t.isAtom = true -> checkL t.text = true
 punct : t.kind = 6 \/ t.kind = 7 -> ∃ b : UInt8, t.text = [b] /\ (b = 40 \/ b = 41 \/ b = 44 \/ b = 91 \/ b = 93 \/ b = 123 \/ b = 124 \/ b = 125)
 n : In64 t.n
 neg : t.n < 0 -> t.n = -9223372036854775808
 size : t.text.length <= 4096
 pos : t.pos <= 4096
inductive Fine : List Tok -> Prop where
 | stop (t : Tok) : TokOk t -> t.kind = 9 -> Fine [t]
 | cons (t : Tok) (l : List Tok) : TokOk t -> t.kind ≠ 9 -> Fine l -> Fine (t :: l)
theorem Fine.first {ts : List Tok} (h : Fine ts) : TokOk (fstT ts) := by cases h <;> assumption
theorem Fine.tail {ts : List Tok} (h : Fine ts) (hk : (fstT ts).kind ≠ 9) : Fine ts.tail /\ ts.tail.length + 1 = ts.length := by
 cases h with
 | stop t _ h9 => exact absurd h9 hk
 | cons t l _ _ hl => exact ⟨hl, rfl⟩
theorem Fine.pos {ts : List Tok} (h : Fine ts) : 1 <= ts.length := by cases h <;> simp
theorem Fine.two {ts : List Tok} (h : Fine ts) (hk : (fstT ts).kind ≠ 9) : 2 <= ts.length := by
 have := h.tail hk; have := this.1.pos; omega
theorem isP_kind {t : Tok} {l : List UInt8} (h : t.isP l = true) : t.kind = 6 /\ t.text = l := by
 unfold Tok.isP at h;simpa using h
theorem isAtom_kind {t : Tok} (h : t.isAtom = true) : t.kind = 1 \/ t.kind = 2 \/ t.kind = 3 := by
 unfold Tok.isAtom at h;simpa [or_assoc] using h
structure Left (ts : List Tok) (ns : Nms) (ts' : List Tok) (ns' : Nms) (sz : Nat) : Prop where
 fine : Fine ts'
 used : ts'.length + sz <= ts.length
 names : ns'.length <= 200
def GoodW (W : Rdr) (m : Nat) : Prop := ∀ p ts ns t ts' ns', ts.length <= m -> Fine ts -> ns.length <= 200 -> W p ts ns = .ok t ts' ns' -> Left ts ns ts' ns' t.size
theorem size_atom (s : List UInt8) : (atomT s).size = 1 := rfl
theorem size_int (n : Int) : (intT n).size = 1 := rfl
theorem size_var (n : Nat) : (varT n).size = 1 := rfl
theorem size_comp (s : List UInt8) (l : List Tm) : (compT s l).size = 1 + Tm.sizes l := rfl
theorem sizes_nil : Tm.sizes [] = 0 := rfl
theorem size_comp1 (s : List UInt8) (t : Tm) : (compT s [t]).size = 1 + t.size := by rw [size_comp, Tm.sizes_cons, sizes_nil]; omega
theorem size_comp2 (s : List UInt8) (t u : Tm) : (compT s [t, u]).size = 1 + t.size + u.size := by rw [size_comp, Tm.sizes_cons, Tm.sizes_cons, sizes_nil]; omega
theorem size_cons : ∀ (l : List Tm) (e : Tm), (consT l e).size = l.length + Tm.sizes l + e.size
 | [], e => by show e.size = 0 + 0 + e.size; omega
 | x :: l, e => by
  show (compT [46] [x, consT l e]).size = _
  rw [size_comp2, size_cons l e, List.length_cons, Tm.sizes_cons]; omega
theorem manyGo_left (W : Rdr) (most m : Nat) (hW : GoodW W m) : ∀ (f : Nat) (l : List Tm) (ts : List Tok) (ns : Nms) (l' : List Tm) (ts' : List Tok) (ns' : Nms), ts.length <= m -> Fine ts -> ns.length <= 200 -> manyGo W most f l ts ns = .ok l' ts' ns' ->
 Left ts ns ts' ns' 0 /\ ts'.length + l'.length + Tm.sizes l' <= ts.length + l.length + Tm.sizes l /\ l.length <= l'.length /\ (l.length <= most -> l'.length <= most)
 | 0, l, ts, ns, l', ts', ns', hm, hf, hn, h => by
  injection h with h1 h2 h3;subst h1 h2 h3;exact ⟨⟨hf, Nat.le_refl _, hn⟩, Nat.le_refl _, Nat.le_refl _, id⟩
 | f + 1, l, ts, ns, l', ts', ns', hm, hf, hn, h => by
  unfold manyGo at h;split at h
  · rename_i hc
    have hk := isP_kind hc;obtain ⟨hft, htl⟩ := hf.tail (by rw [hk.1]; decide);split at h
    · cases h
    · obtain ⟨t, ts1, ns1, hw, h⟩ := Rd.bind_is h;obtain ⟨a1, a2, a3⟩ := hW _ _ _ _ _ _ (by omega) hft hn hw;have hp := t.size_pos;obtain ⟨⟨b1, b2, b3⟩, b4, b5, b6⟩ := manyGo_left W most m hW f _ ts1 ns1 _ _ _ (by omega) a1 a3 h;rw [List.length_append, List.length_singleton, Tm.sizes_append, Tm.sizes_cons, sizes_nil] at b4;rw [List.length_append, List.length_singleton] at b5 b6;exact ⟨⟨b1, by omega, b3⟩, by omega, by omega, fun h => b6 (by omega)⟩
  · injection h with h1 h2 h3;subst h1 h2 h3;exact ⟨⟨hf, Nat.le_refl _, hn⟩, Nat.le_refl _, Nat.le_refl _, id⟩
theorem manyR_left {W : Rdr} {m most : Nat} (hW : GoodW W m) (h1 : 1 <= most) {ts : List Tok} {ns : Nms} {l' : List Tm} {ts' : List Tok} {ns' : Nms} (hm : ts.length <= m) (hf : Fine ts) (hn : ns.length <= 200) (h : manyR W most ts ns = .ok l' ts' ns') :
 Left ts ns ts' ns' 0 /\ ts'.length + l'.length + Tm.sizes l' <= ts.length + 1 /\ 1 <= l'.length /\ l'.length <= most := by
 unfold manyR at h;obtain ⟨t, ts1, ns1, hw, h⟩ := Rd.bind_is h;obtain ⟨a1, a2, a3⟩ := hW _ _ _ _ _ _ hm hf hn hw;have hp := t.size_pos;obtain ⟨⟨b1, b2, b3⟩, b4, b5, b6⟩ := manyGo_left W most m hW _ _ ts1 ns1 _ _ _ (by omega) a1 a3 h;rw [List.length_singleton, Tm.sizes_cons, sizes_nil] at b4;rw [List.length_singleton] at b5 b6;exact ⟨⟨b1, by omega, b3⟩, by omega, by omega, b6 h1⟩
theorem closeR_is {c : List UInt8} {x : Rd Tm} {t : Tm} {ts : List Tok} {ns : Nms} (h : closeR c x = .ok t ts ns) : ∃ ts', x = .ok t ts' ns /\ (fstT ts').isP c = true /\ ts = ts'.tail := by
 unfold closeR at h;obtain ⟨t', ts', ns', hx, h⟩ := Rd.bind_is h;split at h
 · rename_i hc
   injection h with h1 h2 h3;subst h1 h2 h3;exact ⟨ts', hx, hc, rfl⟩
 · cases h
theorem varR_left {ts : List Tok} {ns : Nms} {t : Tm} {ts' : List Tok} {ns' : Nms} (hf : Fine ts) (hk : (fstT ts).kind ≠ 9) (hn : ns.length <= 200) (h : varR ts ns = .ok t ts' ns') : Left ts ns ts' ns' t.size := by
 obtain ⟨b1, b2⟩ := hf.tail hk;unfold varR at h;split at h
 · injection h with h1 h2 h3;subst h1 h2 h3;exact ⟨b1, by rw [size_var]; omega, hn⟩
 · split at h
   · cases h
   · injection h with h1 h2 h3;subst h1 h2 h3;exact ⟨b1, by rw [size_var]; omega, by rw [List.length_append, List.length_singleton]; omega⟩
theorem close_left2 {c : List UInt8} {x : Rd Tm} {ts0 ts : List Tok} {ns : Nms} (h0 : ts.length + 1 = ts0.length) (hx : ∀ t ts' ns', x = .ok t ts' ns' -> Fine ts' /\ ts'.length + t.size <= ts.length + 2 /\ ns'.length <= 200) {t : Tm} {ts' : List Tok} {ns' : Nms} (h : closeR c x = .ok t ts' ns') : Left ts0 ns ts' ns' t.size := by
 obtain ⟨ts1, h1, h2, rfl⟩ := closeR_is h;obtain ⟨a1, a2, a3⟩ := hx _ _ _ h1;obtain ⟨b1, b2⟩ := a1.tail (by rw [(isP_kind h2).1]; decide);exact ⟨b1, by omega, a3⟩
theorem bracketR_left {W : Rdr} {m : Nat} (hW : GoodW W m) {ts : List Tok} {ns : Nms} {t : Tm} {ts' : List Tok} {ns' : Nms} (hm : ts.length <= m + 1) (hf : Fine ts) (hk : (fstT ts).kind ≠ 9) (hn : ns.length <= 200) (h : bracketR W ts ns = .ok t ts' ns') : Left ts ns ts' ns' t.size := by
 obtain ⟨b1, b2⟩ := hf.tail hk;unfold bracketR at h;split at h
 · refine close_left2 b2 (fun t ts' ns' h => ?_) h;obtain ⟨a1, a2, a3⟩ := hW _ _ _ _ _ _ (by omega) b1 hn h;exact ⟨a1, by omega, a3⟩
 split at h
 · refine close_left2 b2 (fun t ts' ns' h => ?_) h;unfold squareR at h;split at h
   · injection h with h1 h2 h3;subst h1 h2 h3;exact ⟨b1, by rw [size_atom]; omega, hn⟩
   · unfold listR at h;obtain ⟨l, ts1, ns1, hl, h⟩ := Rd.bind_is h;obtain ⟨⟨c1, c2, c3⟩, c4, c5, c6⟩ := manyR_left hW (by decide) (by omega) b1 hn hl;obtain ⟨e, ts2, ns2, he, h⟩ := Rd.bind_is h;injection h with h1 h2 h3;subst h1 h2 h3;rw [size_cons];unfold tailR at he;split at he
     · rename_i hb
       obtain ⟨d1, d2⟩ := c1.tail (by rw [(isP_kind hb).1]; decide);obtain ⟨a1, a2, a3⟩ := hW _ _ _ _ _ _ (by omega) d1 c3 he;exact ⟨a1, by omega, a3⟩
     · injection he with h1 h2 h3;subst h1 h2 h3;exact ⟨c1, by rw [size_atom]; omega, c3⟩
 split at h
 · refine close_left2 b2 (fun t ts' ns' h => ?_) h;unfold curlyR at h;split at h
   · injection h with h1 h2 h3;subst h1 h2 h3;exact ⟨b1, by rw [size_atom]; omega, hn⟩
   · obtain ⟨t, ts1, ns1, hl, h⟩ := Rd.bind_is h;obtain ⟨a1, a2, a3⟩ := hW _ _ _ _ _ _ (by omega) b1 hn hl;injection h with h1 h2 h3;subst h1 h2 h3;exact ⟨a1, by rw [size_comp1]; omega, a3⟩
 · cases h
theorem atom_not9 {t : Tok} (h : t.isAtom = true) : t.kind ≠ 9 := by rcases isAtom_kind h with h | h | h <;> rw [h] <;> decide
theorem namedR_left {W : Rdr} {m : Nat} (hW : GoodW W m) {p : Int} {ts : List Tok} {ns : Nms} {x : Tm × Int} {ts' : List Tok} {ns' : Nms} (hm : ts.length <= m + 1) (hf : Fine ts) (hk : (fstT ts).isAtom = true) (hn : ns.length <= 200) (h : namedR W p ts ns = .ok x ts' ns') : Left ts ns ts' ns' x.1.size := by
 obtain ⟨b1, b2⟩ := hf.tail (atom_not9 hk);unfold namedR at h;split at h
 · rename_i h7
   obtain ⟨d1, d2⟩ := b1.tail (by rw [h7]; decide);obtain ⟨t, ts1, ns1, hx, h⟩ := Rd.bind_is h;injection h with h1 h2 h3;subst h1 h2 h3;unfold argsR at hx;obtain ⟨ts2, h1, h2, rfl⟩ := closeR_is hx;obtain ⟨l, ts3, ns3, hl, h1⟩ := Rd.bind_is h1;injection h1 with h1 h3 h4;subst h1 h3 h4;obtain ⟨⟨c1, c2, c3⟩, c4, c5, c6⟩ := manyR_left hW (by decide) (by omega) d1 hn hl;obtain ⟨e1, e2⟩ := c1.tail (by rw [(isP_kind h2).1]; decide);exact ⟨e1, by rw [size_comp]; omega, c3⟩
 split at h
 · rename_i h5
   obtain ⟨d1, d2⟩ := b1.tail (by rw [h5.2.2.1]; decide);injection h with h1 h2 h3;subst h1 h2 h3;exact ⟨d1, by rw [size_int]; omega, hn⟩
 split at h
 · injection h with h1 h2 h3;subst h1 h2 h3;exact ⟨b1, by rw [size_atom]; omega, hn⟩
 split at h
 · injection h with h1 h2 h3;subst h1 h2 h3;exact ⟨b1, by rw [size_atom]; omega, hn⟩
 split at h
 · cases h
 · obtain ⟨t, ts1, ns1, hl, h⟩ := Rd.bind_is h;obtain ⟨a1, a2, a3⟩ := hW _ _ _ _ _ _ (by omega) b1 hn hl;injection h with h1 h2 h3;subst h1 h2 h3;exact ⟨a1, by rw [size_comp1]; omega, a3⟩
theorem zeroR_is {y : Rd Tm} {x : Tm × Int} {ts : List Tok} {ns : Nms} (h : zeroR y = .ok x ts ns) : y = .ok x.1 ts ns /\ x.2 = 0 := by
 unfold zeroR at h;obtain ⟨t, ts1, ns1, hl, h⟩ := Rd.bind_is h;injection h with h1 h2 h3;subst h1 h2 h3;exact ⟨hl, rfl⟩
theorem beginR_left {W : Rdr} {m : Nat} (hW : GoodW W m) {p : Int} {ts : List Tok} {ns : Nms} {x : Tm × Int} {ts' : List Tok} {ns' : Nms} (hm : ts.length <= m + 1) (hf : Fine ts) (hn : ns.length <= 200) (h : beginR W p ts ns = .ok x ts' ns') : Left ts ns ts' ns' x.1.size := by
 unfold beginR at h;split at h
 · exact namedR_left hW hm hf (by assumption) hn h
 split at h
 · rename_i h4
   exact varR_left hf (by rw [h4]; decide) hn (zeroR_is h).1
 split at h
 · rename_i h6
   exact bracketR_left hW hm hf (by rcases h6 with h6 | h6 <;> rw [h6] <;> decide) hn (zeroR_is h).1
 split at h
 · rename_i h5
   obtain ⟨b1, b2⟩ := hf.tail (by rw [h5.1]; decide);injection h with h1 h2 h3;subst h1 h2 h3;exact ⟨b1, by rw [size_int]; omega, hn⟩
 · cases h
theorem infix_not9 {t : Tok} {r : R} (h : t.infix = some r) : t.kind ≠ 9 := by
 unfold Tok.infix at h;split at h
 · rename_i hc
   simp only [Bool.or_eq_true] at hc
   rcases hc with hc | hc
   · exact atom_not9 hc
   · rw [(isP_kind hc).1]; decide
 · cases h
theorem moreR_left {W : Rdr} {m : Nat} (hW : GoodW W m) (p : Int) : ∀ (f : Nat) (t : Tm) (pri : Int) (ts : List Tok) (ns : Nms) (t' : Tm) (ts' : List Tok) (ns' : Nms), ts.length <= m + 1 -> Fine ts -> ns.length <= 200 -> moreR W p f t pri ts ns = .ok t' ts' ns' ->
 Fine ts' /\ ts'.length + t'.size <= ts.length + t.size /\ ns'.length <= 200
 | 0, t, pri, ts, ns, t', ts', ns', hm, hf, hn, h => by
  injection h with h1 h2 h3;subst h1 h2 h3;exact ⟨hf, Nat.le_refl _, hn⟩
 | f + 1, t, pri, ts, ns, t', ts', ns', hm, hf, hn, h => by
  unfold moreR at h;split at h
  · injection h with h1 h2 h3;subst h1 h2 h3;exact ⟨hf, Nat.le_refl _, hn⟩
  · rename_i r hr
    split at h
    · injection h with h1 h2 h3;subst h1 h2 h3;exact ⟨hf, Nat.le_refl _, hn⟩
    · obtain ⟨b1, b2⟩ := hf.tail (infix_not9 hr);obtain ⟨u, ts1, ns1, hl, h⟩ := Rd.bind_is h;obtain ⟨a1, a2, a3⟩ := hW _ _ _ _ _ _ (by omega) b1 hn hl;obtain ⟨c1, c2, c3⟩ := moreR_left hW p f _ _ ts1 ns1 _ _ _ (by omega) a1 a3 h;rw [size_comp2] at c2;exact ⟨c1, by omega, c3⟩
theorem termR_good : ∀ (m : Nat), GoodW (termR m) m
 | 0 => fun p ts ns t ts' ns' hm hf _ _ => absurd hf.pos (by omega)
 | m + 1 => fun p ts ns t ts' ns' hm hf hn h => by
  unfold termR at h;obtain ⟨x, ts1, ns1, hl, h⟩ := Rd.bind_is h;obtain ⟨a1, a2, a3⟩ := beginR_left (termR_good m) hm hf hn hl;obtain ⟨c1, c2, c3⟩ := moreR_left (termR_good m) p _ _ _ ts1 ns1 _ _ _ (by omega) a1 a3 h;exact ⟨c1, by omega, c3⟩
end Go.Proofs.YtinefdlkajnomaaGreatDoor
