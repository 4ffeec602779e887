import Derived.Test.YtinefdlkajnomaaGreatDoorCl4
namespace Go.Proofs.YtinefdlkajnomaaGreatDoor
open Go.RowKit
theorem Tm.numT_places (L : List Int) (t : Tm) : (t.numT L).places = t.places.map (placeL L) := by
 refine Tm.bySize (p := fun t => (t.numT L).places = t.places.map (placeL L)) (fun t ih => ?_) t;rw [Tm.places_eq, Tm.places_eq t, Tm.numT_kind, Tm.numT_n, Tm.numT_args, List.map_append];congr 1
 · by_cases h : t.kind = 1
   · rw [if_pos h, if_pos h, if_pos h]; rfl
   · rw [if_neg h, if_neg h]; rfl
 · rw [List.flatMap_map, List.map_flatMap];exact flat_congr ih
theorem Tm.numT_id (L : List Int) (t : Tm) : (∀ x ∈ t.places, placeL L x = x) -> t.numT L = t := by
 refine Tm.bySize (p := fun t => (∀ x ∈ t.places, placeL L x = x) -> t.numT L = t) (fun t ih h => ?_) t;rw [Tm.places_eq] at h;have h2 : t.args.map (Tm.numT L) = t.args := by
  rw [show t.args = t.args.map id from (List.map_id _).symm, List.map_map];refine List.map_congr_left fun a ha => ih a ha fun x hx => h x (List.mem_append_right _ (List.mem_flatMap.2 ⟨a, ha, hx⟩))
 rw [Tm.numT_eq, h2];by_cases hk : t.kind = 1
 · rw [if_pos hk, h t.n (List.mem_append_left _ (by rw [if_pos hk]; exact List.mem_singleton.2 rfl)), <- Tm.eta]
 · rw [if_neg hk, <- Tm.eta]
theorem once_map (f : Int -> Int) : ∀ (l out : List Int), (∀ x ∈ onceGo out l, ∀ y ∈ onceGo out l, f x = f y -> x = y) -> onceGo (out.map f) (l.map f) = (onceGo out l).map f
 | [], _, _ => rfl
 | n :: l, out, h => by
  have hin : n ∈ onceGo out (n :: l) := onceGo_in _ _ _ (.inr (.head _));have hout : ∀ x ∈ out, x ∈ onceGo out (n :: l) := fun x hx => onceGo_in _ _ _ (.inl hx);have hh : hasL (out.map f) (f n) = hasL out n := by
   rw [Bool.eq_iff_iff, hasL_iff, hasL_iff, List.mem_map];exact ⟨fun ⟨x, hx, e⟩ => h x (hout x hx) n hin e ▸ hx, fun hx => ⟨n, hx, rfl⟩⟩
  show (if hasL (out.map f) (f n) then onceGo (out.map f) (l.map f) else onceGo (out.map f ++ [f n]) (l.map f)) = (if hasL out n then onceGo out l else onceGo (out ++ [n]) l).map f
  rw [show onceGo out (n :: l) = if hasL out n then onceGo out l else onceGo (out ++ [n]) l from rfl] at h;rw [hh];split
  · rename_i hb
    rw [if_pos hb] at h;exact once_map f l out h
  · rename_i hb
    rw [if_neg hb] at h;have := once_map f l (out ++ [n]) h;rw [List.map_append] at this;exact this
def ints (n : Nat) : List Int := (List.range n).map fun k : Nat => (k : Int)
theorem ints_len (n : Nat) : (ints n).length = n := by simp [ints]
theorem ints_get (n k : Nat) (h : k < (ints n).length) : (ints n)[k] = (k : Int) := by simp only [ints, List.getElem_map, List.getElem_range]
theorem once_place (l : List Int) : once (l.map (placeL (once l))) = ints (once l).length := by
 have hn : (once l).Nodup := onceGo_nodup l [] List.nodup_nil;have hp : ∀ k (hk : k < (once l).length), placeL (once l) (once l)[k] = (k : Int) := fun k hk => by
  unfold placeL; rw [if_pos (List.getElem_mem hk), placeN_nodup _ hn k hk]
 have h1 := once_map (placeL (once l)) l [] (fun x hx y hy e => by
  obtain ⟨i, hi, rfl⟩ := List.mem_iff_getElem.1 (show x ∈ once l from hx);obtain ⟨j, hj, rfl⟩ := List.mem_iff_getElem.1 (show y ∈ once l from hy);rw [hp i hi, hp j hj] at e;obtain rfl : i = j := by omega
  rfl)
 rw [show once (l.map (placeL (once l))) = onceGo ([].map (placeL (once l))) (l.map (placeL (once l))) from rfl, h1];apply List.ext_getElem
 · simp [ints, once]
 · intro k h2 h3;rw [List.getElem_map];have h4 : k < (once l).length := by rw [List.length_map] at h2; exact h2
   have := hp k h4;rw [ints_get];exact this
theorem ints_place (n : Nat) (x : Int) (h : x ∈ ints n) : placeL (ints n) x = x := by
 obtain ⟨k, hk, rfl⟩ := List.mem_iff_getElem.1 h;rw [ints_get, placeL_at (ints n) (k : Int) k hk (ints_get n k hk) (fun j hj => by rw [ints_get]; omega)]
theorem conj_places : ∀ l : List Tm, l ≠ [] -> (conj l).places = l.flatMap Tm.places
 | [t], _ => by simp [conj]
 | t :: u :: l, _ => by
  show (Tm.mk 4 ⟨#[44]⟩ 0 [t, conj (u :: l)]).places = _
  rw [Tm.places_eq];show [] ++ (t.places ++ ((conj (u :: l)).places ++ [])) = _
  rw [conj_places (u :: l) (by simp), List.nil_append, List.append_nil]; simp only [List.flatMap_cons]
theorem goal_one {t : Tm} (h : t.goal = true) : t.body = [t] := by
 apply Tm.body_one
 unfold Tm.goal goalK at h;rw [Bool.and_eq_true] at h;cases h2 : t.two [44] with
 | false => rfl
 | true =>
  obtain ⟨_, e1, e2⟩ := Tm.two_kind h2;rw [e1, e2] at h;exact absurd h.2 (by decide)
theorem conj_body : ∀ l : List Tm, l ≠ [] -> l.all Tm.goal = true -> (conj l).body = l
 | [t], _, h => (show t.body = [t] from goal_one (by simpa using h))
 | t :: u :: l, _, h => by
  rw [List.all_cons, Bool.and_eq_true] at h;show (Tm.mk 4 ⟨#[44]⟩ 0 [t, conj (u :: l)]).body = _
  rw [Tm.body_two (a := t) (b := conj (u :: l)) rfl rfl, goal_one h.1, conj_body (u :: l) (by simp) h.2]; rfl
theorem conj_size : ∀ l : List Tm, (conj l).size <= 1 + 2 * Tm.sizes l
 | [] => by decide
 | [t] => by show t.size <= 1 + 2 * (t.size + 0); omega
 | t :: u :: l => by
  have := conj_size (u :: l);have hp := t.size_pos;show (Tm.mk 4 ⟨#[44]⟩ 0 [t, conj (u :: l)]).size <= 1 + 2 * (t.size + Tm.sizes (u :: l))
  rw [Tm.size_eq];show 1 + (t.size + ((conj (u :: l)).size + 0)) <= _
  omega
theorem two_may {a b : Tm} {l : List UInt8} (hc : checkL (⟨l.toArray⟩ : ByteArray).data.toList = true) (ha : a.may = true) (hb : b.may = true) : (Tm.mk 4 ⟨l.toArray⟩ 0 [a, b]).may = true := by
 rw [Tm.may_eq];have h2 : Tm.mays (Tm.mk 4 ⟨l.toArray⟩ 0 [a, b]).args = true := by
  rw [Tm.mays_all];show (a.may && (b.may && true)) = true
  rw [ha, hb]; rfl
 rw [h2];show mayK 4 ⟨l.toArray⟩ 0 2 true = true
 unfold mayK;rw [if_neg (by decide), if_neg (by decide), if_neg (by decide), if_pos rfl, hc]; rfl
theorem conj_may : ∀ l : List Tm, l ≠ [] -> (∀ t ∈ l, t.may = true) -> (conj l).may = true
 | [t], _, h => h t (.head _)
 | t :: u :: l, _, h => two_may (l := [44]) (by rfl) (h t (.head _)) (conj_may (u :: l) (by simp) fun x hx => h x (.tail _ hx))
theorem make_ok {t : Tm} (h : t.make.2 = 0) : t.chk = 0 /\ t.chead.head = true /\ t.cbody.all Tm.goal = true /\ t.make.1 = ⟨t.chead.numT t.vars, t.cbody.map (Tm.numT t.vars), t.vars.length⟩ := by
 unfold Tm.make at *;split at h
 · exact absurd h ‹_›
 · rename_i hc
   split at h
   · rename_i hb
     rw [if_neg hc, if_pos hb];exact ⟨by simpa using hc, hb.1, hb.2, rfl⟩
   · cases h
theorem body_chk {t g : Tm} (h : t.chk = 0) (hg : g ∈ t.body) : g.chk = 0 := by
 refine Tm.bySize (p := fun t => t.chk = 0 -> g ∈ t.body -> g.chk = 0) (fun t ih h hg => ?_) t h hg;rw [Tm.body_eq] at hg;split at hg
 · obtain ⟨a, ha, hg⟩ := List.mem_flatMap.1 hg;exact ih a ha (Tm.chk_arg h ha) hg
 · obtain rfl := List.mem_singleton.1 hg;exact h
theorem make_back {t : Tm} (h : t.make.2 = 0) :
 t.make.1.vars = (t.vars.length : Nat) /\ t.make.1.tm.vars = ints t.vars.length /\ (t.make.1.tm.make.2 = 3 \/ t.make.1.tm.make = (t.make.1, 0)) /\ t.make.1.head.size <= t.size /\ Tm.sizes t.make.1.body <= t.size /\ t.make.1.tm.size <= 2 + 3 * t.size := by
 obtain ⟨hc, hh, hg, he⟩ := make_ok h;rw [he];have hsz : ∀ l : List Tm, Tm.sizes (l.map (Tm.numT t.vars)) = Tm.sizes l := fun l => by
  induction l with
  | nil => rfl
  | cons a l ih => rw [List.map_cons, Tm.sizes_cons, Tm.sizes_cons, Tm.numT_size, ih]
 have hpl : ∀ l : List Tm, (l.map (Tm.numT t.vars)).flatMap Tm.places = (l.flatMap Tm.places).map (placeL t.vars) := fun l => by
  rw [List.flatMap_map, List.map_flatMap];exact flat_congr fun a _ => Tm.numT_places _ a
 have hvs : ∀ n : List Int, n = t.places.map (placeL t.vars) -> once n = ints t.vars.length := fun n e => by rw [e]; exact once_place t.places
 have hid : ∀ u : Tm, (∀ x ∈ u.places, x ∈ ints t.vars.length) -> u.numT (ints t.vars.length) = u := fun u hu => Tm.numT_id _ u fun x hx => ints_place _ x (hu x hx);have hil : (ints t.vars.length).length = t.vars.length := ints_len _;have hmk : ∀ x : Tm, x.may = true -> x.places = t.places.map (placeL t.vars) -> x.chead = t.chead.numT t.vars -> x.cbody = t.cbody.map (Tm.numT t.vars) -> (∀ y ∈ (t.chead.numT t.vars).places, y ∈ x.places) -> (∀ u ∈ t.cbody.map (Tm.numT t.vars), ∀ y ∈ u.places, y ∈ x.places) ->
  x.vars = ints t.vars.length /\ (x.make.2 = 3 \/ x.make = (⟨t.chead.numT t.vars, t.cbody.map (Tm.numT t.vars), t.vars.length⟩, 0)) := fun x hm hp hhd hbd h1 h2 => by
  have hv : x.vars = ints t.vars.length := hvs _ hp;have hin : ∀ y ∈ x.places, y ∈ ints t.vars.length := fun y hy => by rw [<- hv]; exact Tm.vars_in hy
  refine ⟨hv, ?_⟩;unfold Tm.make Tm.chk;rw [if_pos hm];by_cases hd : 60 < x.deep
  · rw [if_pos hd, if_pos (by decide)]; exact .inl rfl
  · rw [if_neg hd, if_neg (by decide), hhd, hbd, hv, hil];rw [if_pos ⟨by rw [Tm.numT_head]; exact hh, by rw [List.all_map]; exact (List.all_eq_true.2 fun u hu => by have := List.all_eq_true.1 hg u hu; show (u.numT t.vars).goal = true; rw [Tm.numT_goal]; exact this)⟩];refine .inr ?_;rw [hid _ fun y hy => hin y (h1 y hy)];have : (t.cbody.map (Tm.numT t.vars)).map (Tm.numT (ints t.vars.length)) = t.cbody.map (Tm.numT t.vars) := by
     conv => rhs; rw [<- List.map_id (t.cbody.map (Tm.numT t.vars))]
     exact List.map_congr_left fun u hu => hid u fun y hy => hin y (h2 u hu y hy)
    rw [this]
 have hmay := (Tm.chk_may hc).1;by_cases ht : t.two [58, 45] = true
 · obtain ⟨a, b, hab⟩ := Tm.two_args ht;have e1 : t.chead = a := by unfold Tm.chead; rw [if_pos ht, hab]; rfl
   have e2 : t.cbody = b.body := by unfold Tm.cbody; rw [if_pos ht, hab]; rfl
   have hk := (Tm.two_kind ht).1;have hpt : t.places = a.places ++ b.places := by
    rw [Tm.places_eq, if_neg (by rw [hk]; decide), hab];show [] ++ (a.places ++ (b.places ++ [])) = _
    rw [List.nil_append, List.append_nil]
   have hts : t.size = 1 + (a.size + (b.size + 0)) := by rw [Tm.size_eq, hab]; rfl
   have hbs := b.body_sizes;have hma : a.may = true := Tm.may_arg hmay (by rw [hab]; exact .head _);have hcb : b.chk = 0 := Tm.chk_arg hc (by rw [hab]; exact .tail _ (.head _));rw [e1] at hh;rw [e2] at hg;rw [e1, e2] at hmk ⊢;have hne : b.body.map (Tm.numT t.vars) ≠ [] := fun e => by have := b.body_pos; rw [List.map_eq_nil_iff] at e; rw [e] at this; cases this
   have htm : (Cl.mk (a.numT t.vars) (b.body.map (Tm.numT t.vars)) (t.vars.length : Nat)).tm = .mk 4 ⟨#[58, 45]⟩ 0 [a.numT t.vars, conj (b.body.map (Tm.numT t.vars))] := by
    unfold Cl.tm; exact if_neg hne
   rw [htm];have hgs : (b.body.map (Tm.numT t.vars)).all Tm.goal = true := by
    rw [List.all_map]; exact List.all_eq_true.2 fun u hu => by have := List.all_eq_true.1 hg u hu; show (u.numT t.vars).goal = true; rw [Tm.numT_goal]; exact this
   have hpc := conj_places _ hne;rw [hpl, Tm.body_places] at hpc;have hpx : (Tm.mk 4 ⟨#[58, 45]⟩ 0 [a.numT t.vars, conj (b.body.map (Tm.numT t.vars))]).places = t.places.map (placeL t.vars) := by
    rw [Tm.places_eq];show [] ++ ((a.numT t.vars).places ++ ((conj (b.body.map (Tm.numT t.vars))).places ++ [])) = _
    rw [hpc, Tm.numT_places, hpt, List.map_append, List.nil_append, List.append_nil]
   have hmx : (Tm.mk 4 ⟨#[58, 45]⟩ 0 [a.numT t.vars, conj (b.body.map (Tm.numT t.vars))]).may = true :=
    two_may (l := [58, 45]) (by rfl) (Tm.numT_may _ _ hma) (conj_may _ hne fun x hx => by
     obtain ⟨u, hu, rfl⟩ := List.mem_map.1 hx;exact Tm.numT_may _ _ (Tm.chk_may (body_chk hcb hu)).1)
   obtain ⟨r1, r2⟩ := hmk _ hmx hpx rfl (by
    unfold Tm.cbody;rw [if_pos (show (Tm.mk 4 ⟨#[58, 45]⟩ 0 [a.numT t.vars, conj (b.body.map (Tm.numT t.vars))]).two [58, 45] = true from rfl)]; exact conj_body _ hne hgs)
    (fun y hy => by rw [Tm.places_eq]; show y ∈ [] ++ ((a.numT t.vars).places ++ _); exact List.mem_append_right _ (List.mem_append_left _ hy))
    (fun u hu y hy => by
      rw [hpx, hpt, List.map_append];refine List.mem_append_right _ ?_;rw [<- Tm.body_places b, <- hpl];exact List.mem_flatMap.2 ⟨u, hu, hy⟩)
   refine ⟨rfl, r1, r2, by rw [Tm.numT_size]; omega, by rw [hsz]; omega, ?_⟩;rw [Tm.size_eq];show 1 + ((a.numT t.vars).size + ((conj (b.body.map (Tm.numT t.vars))).size + 0)) <= _
   have := conj_size (b.body.map (Tm.numT t.vars));rw [hsz] at this;rw [Tm.numT_size];omega
 · have ht : t.two [58, 45] = false := by simpa using ht
   have e1 : t.chead = t := by unfold Tm.chead; rw [if_neg (by rw [ht]; decide)]
   have e2 : t.cbody = [] := by unfold Tm.cbody; rw [if_neg (by rw [ht]; decide)]
   rw [e1] at hh;rw [e2] at hg;rw [e1, e2] at hmk ⊢;have ht2 : (t.numT t.vars).two [58, 45] = false := by rw [Tm.numT_two]; exact ht
   obtain ⟨r1, r2⟩ := hmk (t.numT t.vars) (Tm.numT_may _ _ hmay) (Tm.numT_places _ _) (by unfold Tm.chead; rw [if_neg (by rw [ht2]; decide)]) (by unfold Tm.cbody; rw [if_neg (by rw [ht2]; decide)]; rfl) (fun _ h => h) (fun u hu => by cases hu);refine ⟨rfl, r1, r2, by rw [Tm.numT_size]; exact Nat.le_refl _, Nat.zero_le _, ?_⟩;show (t.numT t.vars).size <= _
   rw [Tm.numT_size]; omega
theorem ClP.on {w w' : World} {P : Nat -> Prop} {c : Cl} {ad bd : Option Addr} {cap bc : Nat} (h : ClP w P c ad cap bd bc) (hb : Below w.heap.size w w') : ClP w' P c ad cap bd bc := h.kept (fun b _ hl => hb.block b hl) fun _ h _ => h
set_option maxRecDepth 100000 in
set_option maxHeartbeats 8000000 in
theorem walk_ClauseBack (T : Tm) (ad : Option Addr) (cap : Nat) (w : World) (hin : TmIn w T ad cap) (hT : TabsT w) :
 Calls Tryz.prog 7 #[tmv T ad cap] w fun e w' => e = .returned (.bool true) /\ Below w.heap.size w w' := by
 have HL := Lib.hid (fun W (hb : Below w.heap.size w W) => cl_live W (hT.on hb));have HB0 := Lib.hid (fun o : Obj => (Below.refl w.heap.size w).alloc (Nat.le_refl _) o);have HIN := Lib.hid (fun W (hb : Below w.heap.size w W) => hin.on hb);have HTB : Hid (∀ W, Below w.heap.size w W -> Tabs W) := Lib.hid (fun W hb => (hT.on hb).1);have HBG := Lib.hid (fun W (g : Nat) (ht : TArgs W (some ⟨g, 0, none⟩) [T]) => (show Calls Tryz.prog 12 #[.slice (some ⟨g, 0, none⟩) 1 1] W _ from law_big [T] (some ⟨g, 0, none⟩) 1 W (Nat.le_refl 1) (by decide) ht));have HBL : Hid (bigL [T] = false -> T.size <= 3000) := Lib.hid (bigL_one T);have HMK := Lib.hid (fun W (h : T.size <= 3000) (hb : Below w.heap.size w W) => cl_Make T ad cap W (by omega) (HTB.out W hb) (hin.on hb));have HBK := Lib.hid (fun (h : T.make.2 = 0) => make_back h);clear hin hT;unfold tmv MadeCl at *;generalize bigL [T] = bg at *;generalize T.make.1 = C at *;generalize T.make.2 = er at *;go_enter Tryz.func7, Tryz.ntmps7;go_wp2_with fail;have q1 := alloc_new w (.cells #[.int .i64 T.kind, .string T.name, .int .i64 T.n, .slice ad T.args.length cap] 26);refine (HL.out _ (HB0.out _)).mono ?_; rintro e w1 ⟨rfl, hb⟩;have HB1 := Lib.hid ((HB0.out _).trans (hb.mono (by simp)));have HQ1 := Lib.hid (keptR hb q1);clear hb q1 HB0 HL;obtain ⟨c0, c1, c2, c3, _⟩ := cellsR4 HQ1.out;go_wp2_with fail;generalize hw : w1.alloc (.cells #[.int .i64 T.kind, .string T.name, .int .i64 T.n, .slice ad T.args.length cap] 26) = w1a;have HR1 : Hid (TArgs w1a (some ⟨w1.heap.size, 0, none⟩) [T]) := Lib.hid (by rw [<- hw]; exact row1L (HIN.out _ HB1.out) _ rfl);have hb1a : Below w1.heap.size w1 w1a := by rw [<- hw]; exact (Below.refl _ _).alloc (Nat.le_refl _) _
 have HB1a := Lib.hid (HB1.out.trans (hb1a.mono HB1.out.size));have HQ1a := Lib.hid (keptR hb1a HQ1.out);clear hw hb1a c0 c1 c2 c3 HQ1 HB1;refine (HBG.out _ _ HR1.out).mono ?_; rintro e w2 ⟨rfl, hb2⟩;have HB2 := Lib.hid (HB1a.out.trans (hb2.mono HB1a.out.size));have HQ12 := Lib.hid (keptR hb2 HQ1a.out);clear hb2 HQ1a HR1 HB1a HBG;cases bg with
 | true =>
  go_wp2_with fail;go_ret;exact ⟨rfl, HB2.out⟩
 | false =>
  have hsT := HBL.out rfl;obtain ⟨c0, c1, c2, c3, _⟩ := cellsR4 HQ12.out;go_wp2_with fail;refine (HMK.out _ hsT HB2.out).mono ?_; rintro e w3 ⟨had, hcp, bd, bc, rfl, ho3, hb3⟩;have HB3 := Lib.hid (HB2.out.trans (hb3.mono HB2.out.size));have HP3 := Lib.hid ho3.toP;clear hb3 ho3 c0 c1 c2 c3 HQ12 HMK;unfold clv;go_upto_region 5 with fail;generalize hw : w3.alloc (.cells #[.int .i64 C.head.kind, .string C.head.name, .int .i64 C.head.n, .slice had C.head.args.length hcp, .slice bd C.body.length bc, .int .i64 C.vars] 30) = w4;have hq4 : w4.heap[w3.heap.size]? = some (.cells #[.int .i64 C.head.kind, .string C.head.name, .int .i64 C.head.n, .slice had C.head.args.length hcp, .slice bd C.body.length bc, .int .i64 C.vars] 30 (0, 0)) := by rw [<- hw]; exact alloc_new w3 _
  have hb4 : Below w3.heap.size w3 w4 := by rw [<- hw]; exact (Below.refl _ _).alloc (Nat.le_refl _) _
  have HB4 := Lib.hid (HB3.out.trans (hb4.mono HB3.out.size));have HP4 := Lib.hid (HP3.out.on hb4);have HQ4 := Lib.hid hq4;clear hw hb4 hq4 HB3 HP3;by_cases he : er = 0
  · obtain ⟨k1, k2, k3, k4, k5, k6⟩ := HBK.out he;subst he;have HTM := Lib.hid (cl_Term C had hcp bd bc w4 _ HP4.out (by omega) (by omega));have HMX := Lib.hid (fun W (hb : Below w.heap.size w W) xad xcp (hx : TmIn W C.tm xad xcp) => cl_Make C.tm xad xcp W (by omega) (HTB.out W hb) hx);have HVX := Lib.hid (fun W xad xcp (hx : TmIn W C.tm xad xcp) => ref_Vars C.tm xad xcp W (by omega) hx);have HSM := Lib.hid (fun W P Q a2 b2 c2 d2 (h1 : ClP W P C had hcp bd bc) (h2 : ClP W Q C a2 c2 b2 d2) => rc_Same C C had bd a2 b2 hcp bc c2 d2 W P Q h1 h2 (by omega) (by omega));simp only [Cl.same_true] at HSM
    rw [k2] at HVX;have hcv : (((T.vars.length : Nat) : Int) != C.vars) = false := by rw [k1]; simp
    clear k4 k5 k6 k2 k1 hsT HBK HBL;unfold clv MadeTerm at *;unfold MadeCl tmv at *;generalize T.vars.length = n at *;generalize hx : C.tm = x at *;generalize hf : x.make.2 = f at *;clear hx;obtain ⟨c0, c1, c2, c3, c4, c5, _⟩ := cells6 HQ4.out;go_wp2_with fail;refine HTM.out.mono ?_; rintro e w5 ⟨xad, xcp, rfl, hx5, hb5⟩;have HB5 := Lib.hid (HB4.out.trans (hb5.mono HB4.out.size));have HP5 := Lib.hid (HP4.out.on hb5);have HQ5 := Lib.hid (keptR hb5 HQ4.out);have HX5 := Lib.hid hx5.toIn;clear hb5 hx5 c0 c1 c2 c3 c4 c5 HQ4 HP4 HB4 HTM;go_upto_region 8 with fail;generalize hw : w5.alloc (.cells #[.int .i64 x.kind, .string x.name, .int .i64 x.n, .slice xad x.args.length xcp] 26) = w6;have hb6 : Below w5.heap.size w5 w6 := by rw [<- hw]; exact (Below.refl _ _).alloc (Nat.le_refl _) _
    have HX6q : Hid (w6.heap[w5.heap.size]? = some (.cells #[.int .i64 x.kind, .string x.name, .int .i64 x.n, .slice xad x.args.length xcp] 26 (0, 0))) := Lib.hid (by rw [<- hw]; exact alloc_new w5 _);have HB6 := Lib.hid (HB5.out.trans (hb6.mono HB5.out.size));have HP6 := Lib.hid (HP5.out.on hb6);have HQ6 := Lib.hid (keptR hb6 HQ5.out);have HX6 := Lib.hid (HX5.out.on hb6);clear hw hb6 HQ5 HP5 HB5 HX5;obtain ⟨e0, e1, e2, e3, _⟩ := cellsR4 HX6q.out;have HM6 := Lib.hid (HMX.out w6 HB6.out xad xcp HX6.out);clear HMX;go_wp2_with fail;refine HM6.out.mono ?_; rintro e w7 ⟨dad, dcp, dbd, dbc, rfl, ho7, hb7⟩;have HB7 := Lib.hid (HB6.out.trans (hb7.mono HB6.out.size));have HP7 := Lib.hid (HP6.out.on hb7);have HQ7 := Lib.hid (keptR hb7 HQ6.out);have HX7 := Lib.hid (HX6.out.on hb7);have HX7q := Lib.hid (keptR hb7 HX6q.out);have HO7 := Lib.hid ho7.toP;clear hb7 ho7 e0 e1 e2 e3 HQ6 HP6 HB6 HX6 HX6q HM6;unfold clv;go_upto_region 9 with fail;generalize hw : w7.alloc (.cells #[.int .i64 x.make.1.head.kind, .string x.make.1.head.name, .int .i64 x.make.1.head.n, .slice dad x.make.1.head.args.length dcp, .slice dbd x.make.1.body.length dbc, .int .i64 x.make.1.vars] 30) = w8;have hb8 : Below w7.heap.size w7 w8 := by rw [<- hw]; exact (Below.refl _ _).alloc (Nat.le_refl _) _
    have HD8q : Hid (w8.heap[w7.heap.size]? = some (.cells #[.int .i64 x.make.1.head.kind, .string x.make.1.head.name, .int .i64 x.make.1.head.n, .slice dad x.make.1.head.args.length dcp, .slice dbd x.make.1.body.length dbc, .int .i64 x.make.1.vars] 30 (0, 0))) := Lib.hid (by rw [<- hw]; exact alloc_new w7 _);have HB8 := Lib.hid (HB7.out.trans (hb8.mono HB7.out.size));have HP8 := Lib.hid (HP7.out.on hb8);have HO8 := Lib.hid (HO7.out.on hb8);have HQ8 := Lib.hid (keptR hb8 HQ7.out);have HX8 := Lib.hid (HX7.out.on hb8);have HX8q := Lib.hid (keptR hb8 HX7q.out);clear hw hb8 HQ7 HP7 HB7 HX7 HX7q HO7;obtain ⟨e0, e1, e2, e3, _⟩ := cellsR4 HX8q.out;go_wp2_with fail;refine (HVX.out w8 xad xcp HX8.out).mono ?_; rintro e w9 ⟨vv, rfl, hv9, hb9⟩;obtain ⟨vad, vcap, rfl, hvl, hvc, hvs⟩ := hv9.view;rw [ints_len] at *;have HB9 := Lib.hid (HB8.out.trans (hb9.mono HB8.out.size));have HP9 := Lib.hid (HP8.out.on hb9);have HO9 := Lib.hid (HO8.out.on hb9);have HQ9 := Lib.hid (keptR hb9 HQ8.out);have HD9 := Lib.hid (keptR hb9 HD8q.out);have HV9 := Lib.hid hvs;clear hb9 hv9 hvs e0 e1 e2 e3 HQ8 HP8 HB8 HX8 HX8q HO8 HD8q HVX;obtain ⟨c0, c1, c2, c3, c4, c5, _⟩ := cells6 HQ9.out;go_wp2_with fail;unfold maxLen at hvc;clear c0 c1 c2 c3 c4 c5;go_loopw [41] (fun iv wr => ∃ k : Nat, k <= n /\ iv = .int .i64 k /\ wr = w9) (fun iv _ => n - (intOf iv).toNat)
    case atStart => exact ⟨0, Nat.zero_le _, rfl, rfl⟩
    case round =>
     obtain ⟨k, hk, rfl, rfl⟩ := hrel;by_cases hlt : k < n
     · obtain ⟨g, rfl, hc⟩ := HV9.out k (by rw [ints_len]; exact hlt);rw [ints_get] at hc;go_wp2_with fail;go_roundw
       case rel => exact ⟨k + 1, by omega, by go_num, by trivial⟩
       case measure => simp [intOf]; omega
     · rcases k3 with h3 | h3
       · subst h3;go_wp2_with fail;go_ret;exact ⟨rfl, HB9.out⟩
       · obtain rfl : f = 0 := by rw [<- hf, h3]
         have e1 : x.make.1 = C := by rw [h3]
         rw [e1] at HD9 HO9;have HS := Lib.hid (HSM.out _ _ _ dad dbd dcp dbc HP9.out HO9.out);obtain ⟨c0, c1, c2, c3, c4, c5, _⟩ := cells6 HQ9.out;obtain ⟨d0, d1, d2, d3, d4, d5, _⟩ := cells6 HD9.out;clear hf h3 e1 HSM;go_wp2_with fail;refine HS.out.mono ?_; rintro e wz ⟨rfl, hbz⟩;have HBz := Lib.hid (HB9.out.trans (hbz.mono HB9.out.size));clear hbz;go_wp2_with fail;go_ret;exact ⟨rfl, HBz.out⟩
  · have he2 : (er != 0) = true := by simpa using he
    clear HBK;go_wp2_with fail;go_ret;exact ⟨rfl, HB4.out⟩
end Go.Proofs.YtinefdlkajnomaaGreatDoor
