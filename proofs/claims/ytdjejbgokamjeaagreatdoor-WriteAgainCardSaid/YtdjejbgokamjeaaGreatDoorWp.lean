import Derived.Test.YtdjejbgokamjeaaGreatDoorReadPl
import Derived.Test.YtdjejbgokamjeaaGreatDoorTv
import Derived.Test.YtdjejbgokamjeaaGreatDoorWm
namespace Go.Proofs.YtdjejbgokamjeaaGreatDoor
open Go.RowKit
def rng (n : Nat) : List Int := (List.range n).map fun i : Nat => (i : Int)
theorem rng_succ (n : Nat) : rng (n + 1) = rng n ++ [(n : Int)] := by unfold rng; rw [List.range_succ, List.map_append]; rfl
theorem rng_has (n i : Nat) : hasL (rng n) (i : Int) = decide (i < n) := by
 unfold hasL rng;rw [Bool.eq_iff_iff];simp
 exact ⟨fun ⟨x, h1, h2⟩ => by omega, fun h => ⟨i, h, rfl⟩⟩
theorem onceGo_app : ∀ (a b out : List Int), onceGo out (a ++ b) = onceGo (onceGo out a) b
 | [], _, _ => rfl
 | x :: a, b, out => by
  show (if hasL out x then onceGo out (a ++ b) else onceGo (out ++ [x]) (a ++ b)) = onceGo (if hasL out x then onceGo out a else onceGo (out ++ [x]) a) b
  split
  · exact onceGo_app a b out
  · exact onceGo_app a b _
def Leads (ns ns' : Nms) (l : List Int) : Prop := onceGo (rng ns.length) l = rng ns'.length
theorem Leads.nil (ns : Nms) : Leads ns ns [] := rfl
theorem Leads.app {a b c : Nms} {l m : List Int} (h : Leads a b l) (k : Leads b c m) : Leads a c (l ++ m) := by
 unfold Leads at *;rw [onceGo_app, h, k]
def LeadW (W : Rdr) : Prop := ∀ p ts ns t ts' ns', W p ts ns = .ok t ts' ns' -> Leads ns ns' t.places
theorem places_atom (s : List UInt8) : (atomT s).places = [] := by rw [Tm.places_eq]; rfl
theorem places_int (n : Int) : (intT n).places = [] := by rw [Tm.places_eq]; rfl
theorem places_var (n : Nat) : (varT n).places = [(n : Int)] := by rw [Tm.places_eq]; rfl
theorem places_comp (s : List UInt8) (l : List Tm) : (compT s l).places = l.flatMap Tm.places := by rw [Tm.places_eq]; rfl
theorem places_cons : ∀ (l : List Tm) (e : Tm), (consT l e).places = l.flatMap Tm.places ++ e.places
 | [], e => rfl
 | x :: l, e => by
  show (compT [46] [x, consT l e]).places = _
  rw [places_comp, List.flatMap_cons, List.flatMap_cons, List.flatMap_nil, List.append_nil, places_cons l e, List.flatMap_cons, List.append_assoc]
theorem manyGo_lead {W : Rdr} (hW : LeadW W) (most : Nat) : ∀ (f : Nat) (l : List Tm) (ts : List Tok) (ns : Nms) (l' : List Tm) (ts' : List Tok) (ns' : Nms), manyGo W most f l ts ns = .ok l' ts' ns' -> ∃ m, l' = l ++ m /\ Leads ns ns' (m.flatMap Tm.places)
 | 0, l, ts, ns, l', ts', ns', h => by
  injection h with h1 h2 h3;subst h1 h3;exact ⟨[], by simp, .nil _⟩
 | f + 1, l, ts, ns, l', ts', ns', h => by
  unfold manyGo at h;split at h
  · split at h
    · cases h
    · obtain ⟨t, ts1, ns1, hw, h⟩ := Rd.bind_is h;obtain ⟨m, h1, h2⟩ := manyGo_lead hW most f _ ts1 ns1 _ _ _ h;refine ⟨t :: m, by rw [h1, List.append_assoc]; rfl, ?_⟩;rw [List.flatMap_cons];exact (hW _ _ _ _ _ _ hw).app h2
  · injection h with h1 h2 h3;subst h1 h3;exact ⟨[], by simp, .nil _⟩
theorem manyR_lead {W : Rdr} (hW : LeadW W) {most : Nat} {ts : List Tok} {ns : Nms} {l : List Tm} {ts' : List Tok} {ns' : Nms} (h : manyR W most ts ns = .ok l ts' ns') : Leads ns ns' (l.flatMap Tm.places) := by
 unfold manyR at h;obtain ⟨t, ts1, ns1, hw, h⟩ := Rd.bind_is h;obtain ⟨m, h1, h2⟩ := manyGo_lead hW most _ _ ts1 ns1 _ _ _ h;rw [h1, List.singleton_append, List.flatMap_cons];exact (hW _ _ _ _ _ _ hw).app h2
theorem bracketR_lead {W : Rdr} (hW : LeadW W) {ts : List Tok} {ns : Nms} {t : Tm} {ts' : List Tok} {ns' : Nms} (h : bracketR W ts ns = .ok t ts' ns') : Leads ns ns' t.places := by
 unfold bracketR at h;split at h
 · obtain ⟨ts1, h1, _, _⟩ := closeR_is h;exact hW _ _ _ _ _ _ h1
 split at h
 · obtain ⟨ts1, h1, _, _⟩ := closeR_is h;unfold squareR at h1;split at h1
   · injection h1 with h1 h2 h3;subst h1 h3;rw [places_atom]; exact .nil _
   · unfold listR at h1;obtain ⟨l, ts1, ns1, hl, h⟩ := Rd.bind_is h1;obtain ⟨e, ts2, ns2, he, h⟩ := Rd.bind_is h;injection h with h1 h2 h3;subst h1 h3;rw [places_cons];refine (manyR_lead hW hl).app ?_;unfold tailR at he;split at he
     · exact hW _ _ _ _ _ _ he
     · injection he with h1 h2 h3;subst h1 h3;rw [places_atom]; exact .nil _
 split at h
 · obtain ⟨ts1, h1, _, _⟩ := closeR_is h;unfold curlyR at h1;split at h1
   · injection h1 with h1 h2 h3;subst h1 h3;rw [places_atom]; exact .nil _
   · obtain ⟨t, ts1, ns1, hl, h⟩ := Rd.bind_is h1;injection h with h1 h2 h3;subst h1 h3;rw [places_comp, List.flatMap_cons, List.flatMap_nil, List.append_nil];exact hW _ _ _ _ _ _ hl
 · cases h
theorem varR_lead {ts : List Tok} {ns : Nms} {t : Tm} {ts' : List Tok} {ns' : Nms} (h : varR ts ns = .ok t ts' ns') : Leads ns ns' t.places := by
 unfold varR at h;split at h
 · rename_i hm
   injection h with h1 h2 h3;subst h1 h3;have hlt := List.idxOf_lt_length_of_mem hm.1;rw [places_var];show (if hasL (rng ns.length) _ then _ else _) = _
   rw [rng_has, if_pos (by simpa using hlt)];rfl
 · split at h
   · cases h
   · injection h with h1 h2 h3;subst h1 h3;rw [places_var];show (if hasL (rng ns.length) _ then _ else _) = _
     rw [rng_has, if_neg (by simp), List.length_append, List.length_singleton, rng_succ];rfl
theorem namedR_lead {W : Rdr} (hW : LeadW W) {p : Int} {ts : List Tok} {ns : Nms} {x : Tm × Int} {ts' : List Tok} {ns' : Nms} (h : namedR W p ts ns = .ok x ts' ns') : Leads ns ns' x.1.places := by
 unfold namedR at h;split at h
 · obtain ⟨t, ts1, ns1, hx, h⟩ := Rd.bind_is h;injection h with h1 h2 h3;subst h1 h3;unfold argsR at hx;obtain ⟨ts2, h1, h2, _⟩ := closeR_is hx;obtain ⟨l, ts3, ns3, hl, h1⟩ := Rd.bind_is h1;injection h1 with h1 h3 h4;subst h1 h4;rw [places_comp];exact manyR_lead hW hl
 split at h
 · injection h with h1 h2 h3;subst h1 h3;rw [places_int]; exact .nil _
 split at h
 · injection h with h1 h2 h3;subst h1 h3;rw [places_atom]; exact .nil _
 split at h
 · injection h with h1 h2 h3;subst h1 h3;rw [places_atom]; exact .nil _
 split at h
 · cases h
 · obtain ⟨t, ts1, ns1, hl, h⟩ := Rd.bind_is h;injection h with h1 h2 h3;subst h1 h3;rw [places_comp, List.flatMap_cons, List.flatMap_nil, List.append_nil];exact hW _ _ _ _ _ _ hl
theorem beginR_lead {W : Rdr} (hW : LeadW W) {p : Int} {ts : List Tok} {ns : Nms} {x : Tm × Int} {ts' : List Tok} {ns' : Nms} (h : beginR W p ts ns = .ok x ts' ns') : Leads ns ns' x.1.places := by
 unfold beginR at h;split at h
 · exact namedR_lead hW h
 split at h
 · exact varR_lead (zeroR_is h).1
 split at h
 · exact bracketR_lead hW (zeroR_is h).1
 split at h
 · injection h with h1 h2 h3;subst h1 h3;rw [places_int]; exact .nil _
 · cases h
theorem moreR_lead {W : Rdr} (hW : LeadW W) (p : Int) : ∀ (f : Nat) (t : Tm) (pri : Int) (ts : List Tok) (ns : Nms) (t' : Tm) (ts' : List Tok) (ns' : Nms), moreR W p f t pri ts ns = .ok t' ts' ns' -> ∃ X, t'.places = t.places ++ X /\ Leads ns ns' X
 | 0, t, pri, ts, ns, t', ts', ns', h => by
  injection h with h1 h2 h3;subst h1 h3;exact ⟨[], by simp, .nil _⟩
 | f + 1, t, pri, ts, ns, t', ts', ns', h => by
  unfold moreR at h;split at h
  · injection h with h1 h2 h3;subst h1 h3;exact ⟨[], by simp, .nil _⟩
  · split at h
    · injection h with h1 h2 h3;subst h1 h3;exact ⟨[], by simp, .nil _⟩
    · obtain ⟨u, ts1, ns1, hl, h⟩ := Rd.bind_is h;obtain ⟨X, h1, h2⟩ := moreR_lead hW p f _ _ ts1 ns1 _ _ _ h;refine ⟨u.places ++ X, ?_, (hW _ _ _ _ _ _ hl).app h2⟩;rw [h1, places_comp, List.flatMap_cons, List.flatMap_cons, List.flatMap_nil, List.append_nil, List.append_assoc]
theorem termR_lead : ∀ (m : Nat), LeadW (termR m)
 | 0 => fun p ts ns t ts' ns' h => by cases h
 | m + 1 => fun p ts ns t ts' ns' h => by
  unfold termR at h;obtain ⟨x, ts1, ns1, hl, h⟩ := Rd.bind_is h;obtain ⟨X, h1, h2⟩ := moreR_lead (termR_lead m) p _ _ _ ts1 ns1 _ _ _ h;rw [h1];exact (beginR_lead (termR_lead m) hl).app h2
theorem vars_rng {m : Nat} {p : Int} {ts : List Tok} {t : Tm} {ts' : List Tok} {ns : Nms} (h : termR m p ts [] = .ok t ts' ns) : t.vars = rng ns.length := termR_lead m _ _ _ _ _ _ h
theorem rng_len (n : Nat) : (rng n).length = n := by unfold rng; simp
theorem rng_at (n i : Nat) (h : i < (rng n).length) : (rng n)[i] = (i : Int) := by
 have h2 : (rng n)[i]? = some (i : Int) := by
  rw [rng_len] at h;unfold rng;rw [List.getElem?_map, List.getElem?_range h];rfl
 exact (List.getElem?_eq_some_iff.1 h2).2
theorem queryL_bad {src : List UInt8} {o : Nat} {er : Int} (h : queryL src = .bad o er) : (er == 0) = false := by
 unfold queryL cutThen at h;split at h
 · injection h with h1 h2; subst h2; rfl
 · split at h
   · injection h with h1 h2; subst h2; rfl
   · rcases queryT_bad h with rfl | rfl <;> rfl
theorem queryL_ok {src : List UInt8} {t : Tm} {ns : Nms} (h : queryL src = .ok (t, ns)) : ∃ T, src.length <= 4096 /\ cutL src 0 false = .good T /\ queryT T = .ok (t, ns) := by
 unfold queryL cutThen at h;split at h
 · cases h
 · cases hc : cutL src 0 false with
   | bad o => rw [hc] at h; cases h
   | good T => rw [hc] at h; exact ⟨T, by omega, rfl, h⟩
theorem queryT_small {T : List Tok} {t : Tm} {ns : Nms} (hf : Fine T) (h : queryT T = .ok (t, ns)) : t.size <= T.length /\ ns.length <= 200 /\ t.deep <= 60 /\ t.may = true := by
 obtain ⟨ts, hr, hd, _⟩ := queryT_is h;obtain ⟨_, h2, h3⟩ := termR_good T.length _ _ _ _ _ _ (Nat.le_refl _) hf (Nat.zero_le _) hr;exact ⟨by omega, h3, hd, termR_may T.length _ _ _ _ _ _ (Nat.le_refl _) hf (Nat.zero_le _) hr⟩
theorem numbers_of {src : List UInt8} {t : Tm} {ns : Nms} (h : queryL src = .ok (t, ns)) : t.vars = rng ns.length /\ t.chk = 0 /\ t.size <= 5000 /\ ns.length <= 200 := by
 obtain ⟨T, hl, hc, hq⟩ := queryL_ok h;have hf := cut_fine hl hc;obtain ⟨h1, h2, h3, h4⟩ := queryT_small hf hq;have hm := cut_many hc;obtain ⟨ts, hr, _, _⟩ := queryT_is hq;refine ⟨vars_rng hr, ?_, by omega, h2⟩;unfold Tm.chk;rw [if_pos h4, if_neg (by omega)]
theorem varName_inj {a b : Int} (ha : 0 <= a) (hb : 0 <= b) (h : varName a = varName b) : a = b := by
 have h1 : Lib.itoa a = Lib.itoa b := (List.cons.inj h).2;rw [itoa_pos a ha, itoa_pos b hb] at h1;have h2 := congrArg val h1;rw [decDigits_val, decDigits_val] at h2;omega
theorem places_pos' (m : Nat) : ∀ l : List Tm, Tm.sizes l <= m -> (∀ t ∈ l, t.may = true) -> ∀ x ∈ l.flatMap Tm.places, 0 <= x := by
 induction m with
 | zero =>
  intro l h hall;cases l with
  | nil => intro x hx; cases hx
  | cons t l => rw [Tm.sizes_cons] at h; have := t.size_pos; omega
 | succ m ih =>
  intro l h hall x hx;cases l with
  | nil => cases hx
  | cons t l =>
   rw [Tm.sizes_cons] at h;have h1 := t.size_eq;have hmay := hall t (by simp);rw [List.flatMap_cons, List.mem_append] at hx;rcases hx with hx | hx
   · rw [t.places_eq, List.mem_append] at hx;rcases hx with hx | hx
     · split at hx
       · rename_i hk
         rw [List.mem_singleton.1 hx];exact (may_var1 hmay hk).1
       · cases hx
     · refine ih t.args (by omega) (fun u hu => ?_) x hx;by_cases h4 : t.kind = 4
       · exact (may_comp4 hmay h4).2.2.2.2 u hu
       · have : t.args = [] := by
          by_cases k1 : t.kind = 1
          · exact (may_var1 hmay k1).2.2
          by_cases k3 : t.kind = 3
          · exact (may_int3 hmay k3).2
          by_cases k2 : t.kind = 2
          · exact (may_atom2 hmay k2).2.2
          exact absurd (may_kind' hmay k1 k3 k2) h4
         rw [this] at hu;cases hu
   · exact ih l (by have := t.size_pos; omega) (fun u hu => hall u (List.mem_cons_of_mem _ hu)) x hx
theorem places_pos {t : Tm} (h : t.may = true) : ∀ x ∈ t.places, 0 <= x := by
 have := places_pos' _ [t] (Nat.le_refl _) (fun u hu => by rw [List.mem_singleton.1 hu]; exact h);rw [List.flatMap_cons, List.flatMap_nil, List.append_nil] at this;exact this
theorem may_args {t : Tm} (h : t.may = true) : ∀ u ∈ t.args, u.may = true := fun u hu => by
 by_cases h4 : t.kind = 4
 · exact (may_comp4 h h4).2.2.2.2 u hu
 · have : t.args = [] := by
    by_cases k1 : t.kind = 1
    · exact (may_var1 h k1).2.2
    by_cases k3 : t.kind = 3
    · exact (may_int3 h k3).2
    by_cases k2 : t.kind = 2
    · exact (may_atom2 h k2).2.2
    exact absurd (may_kind' h k1 k3 k2) h4
   rw [this] at hu;cases hu
theorem has_mem (L : List Int) (n : Int) : hasL L n = true ↔ n ∈ L := by
 unfold hasL;rw [List.any_eq_true];constructor
 · rintro ⟨x, hx, he⟩;rw [beq_iff_eq] at he;rw [<- he]; exact hx
 · intro h; exact ⟨n, h, by simp⟩
theorem put_map (L : List Int) (n : Int) (hL : ∀ x ∈ L, 0 <= x) (hn : 0 <= n) : namesPut (L.map varName) (varName n) = (if hasL L n then L else L ++ [n]).map varName := by
 unfold namesPut;have : varName n ∈ L.map varName ↔ hasL L n = true := by
  rw [has_mem, List.mem_map];constructor
  · rintro ⟨x, hx, he⟩;rw [<- varName_inj (hL x hx) hn he]; exact hx
  · intro h; exact ⟨n, h, rfl⟩
 by_cases h : hasL L n = true
 · rw [if_pos (this.2 h), if_pos h]
 · rw [if_neg (fun c => h (this.1 c)), if_neg h, List.map_append]; rfl
theorem onceGo_pos : ∀ (l L : List Int), (∀ x ∈ L, 0 <= x) -> (∀ x ∈ l, 0 <= x) -> ∀ x ∈ onceGo L l, 0 <= x
 | [], L, hL, _ => hL
 | n :: l, L, hL, hl => by
  show ∀ x ∈ (if hasL L n then onceGo L l else onceGo (L ++ [n]) l), 0 <= x
  split
  · exact onceGo_pos l L hL (fun x hx => hl x (by simp [hx]))
  · refine onceGo_pos l _ (fun x hx => ?_) (fun x hx => hl x (by simp [hx]));rcases List.mem_append.1 hx with hx | hx
    · exact hL x hx
    · rw [List.mem_singleton.1 hx]; exact hl n (by simp)
theorem nms_once' (m : Nat) : ∀ (l : List Tm) (L : List Int), Tm.sizes l <= m -> (∀ t ∈ l, t.may = true) -> (∀ x ∈ L, 0 <= x) -> Tm.nmssOf l (L.map varName) = (onceGo L (l.flatMap Tm.places)).map varName := by
 induction m with
 | zero =>
  intro l L h _ _;cases l with
  | nil => rfl
  | cons t l => rw [Tm.sizes_cons] at h; have := t.size_pos; omega
 | succ m ih =>
  intro l L h hall hL;cases l with
  | nil => rfl
  | cons t l =>
   rw [Tm.sizes_cons] at h;have h1 := t.size_eq;have hmay := hall t (by simp);have ht : t.nmsOf (L.map varName) = (onceGo L t.places).map varName := by
    rw [t.nmsOf_eq, t.places_eq];by_cases hk : t.kind = 1
    · obtain ⟨h0, _, ha⟩ := may_var1 hmay hk;rw [if_pos hk, if_pos hk, ha, List.flatMap_nil, List.append_nil, put_map L t.n hL h0];show _ = (if hasL L t.n then onceGo L [] else onceGo (L ++ [t.n]) []).map varName
      split <;> rfl
    · rw [if_neg hk, if_neg hk, List.nil_append];exact ih t.args L (by omega) (may_args hmay) hL
   rw [Tm.nmssOf_cons, ht, ih l _ (by have := t.size_pos; omega) (fun u hu => hall u (List.mem_cons_of_mem _ hu)) (onceGo_pos _ _ hL (places_pos hmay)), List.flatMap_cons, onceGo_app]
theorem nms_once {t : Tm} (h : t.may = true) : t.nmsOf [] = t.vars.map varName := by
 have := nms_once' _ [t] [] (Nat.le_refl _) (fun u hu => by rw [List.mem_singleton.1 hu]; exact h) (fun x hx => by cases hx);rw [List.flatMap_cons, List.flatMap_nil, List.append_nil] at this;exact this
theorem onceGo_has : ∀ (l L : List Int) (x : Int), x ∈ L \/ x ∈ l -> x ∈ onceGo L l
 | [], L, x, h => by
  rcases h with h | h
  · exact h
  · cases h
 | n :: l, L, x, h => by
  show x ∈ (if hasL L n then onceGo L l else onceGo (L ++ [n]) l)
  split
  · rename_i hn
    refine onceGo_has l L x ?_;rcases h with h | h
    · exact .inl h
    · rcases List.mem_cons.1 h with rfl | h
      · exact .inl ((has_mem L _).1 hn)
      · exact .inr h
  · refine onceGo_has l _ x ?_;rcases h with h | h
    · exact .inl (List.mem_append_left _ h)
    · rcases List.mem_cons.1 h with rfl | h
      · exact .inl (by simp)
      · exact .inr h
def numOf (NS : Nms) (n : Int) : Int := (NS.idxOf (varName n) : Nat)
theorem by_map' (P : Tm -> Prop) (hP : ∀ t, P t -> ∀ u ∈ t.args, P u) (f g : Tm -> Tm) (h : ∀ t, P t -> (∀ u ∈ t.args, f u = g u) -> f t = g t) (m : Nat) : ∀ t : Tm, t.size <= m -> P t -> f t = g t := by
 induction m with
 | zero => intro t h; have := t.size_pos; omega
 | succ m ih => exact fun t hm ht => h t ht (fun u hu => ih u (by have := Tm.mem_size hu; have := t.size_eq; omega) (hP t ht u hu))
theorem by_bare (NS : Nms) {t : Tm} (h : t.may = true) : (t.byNms NS).bare = t.bare := by
 refine by_map' (fun t => t.may = true) (fun t ht u hu => may_args ht u hu) (fun t => (t.byNms NS).bare) Tm.bare (fun t ht hu => ?_) _ t (Nat.le_refl _) h;rw [t.byNms_eq, t.bare_eq];by_cases hk : t.kind = 1
 · obtain ⟨_, hn, ha⟩ := may_var1 ht hk;rw [if_pos hk, if_pos hk, hk, hn, ha];rfl
 · rw [if_neg hk, if_neg hk, Tm.bare_eq];show Tm.mk t.kind t.name (if t.kind = 1 then 0 else t.n) ((t.args.map (fun u => u.byNms NS)).map Tm.bare) = _
   rw [if_neg hk, List.map_map];congr 1
   exact List.map_congr_left (fun u h => hu u h)
theorem by_places' (NS : Nms) (m : Nat) : ∀ l : List Tm, Tm.sizes l <= m -> (∀ t ∈ l, t.may = true) -> (l.map (fun u => u.byNms NS)).flatMap Tm.places = (l.flatMap Tm.places).map (numOf NS) := by
 induction m with
 | zero =>
  intro l h _;cases l with
  | nil => rfl
  | cons t l => rw [Tm.sizes_cons] at h; have := t.size_pos; omega
 | succ m ih =>
  intro l h hall;cases l with
  | nil => rfl
  | cons t l =>
   rw [Tm.sizes_cons] at h;have h1 := t.size_eq;have hmay := hall t (by simp);have ht : (t.byNms NS).places = t.places.map (numOf NS) := by
    rw [t.byNms_eq, t.places_eq];by_cases hk : t.kind = 1
    · rw [if_pos hk, if_pos hk, (may_var1 hmay hk).2.2];rfl
    · rw [if_neg hk, if_neg hk, Tm.places_eq, List.nil_append];show (if t.kind = 1 then [t.n] else []) ++ _ = _
      rw [if_neg hk, List.nil_append];exact ih t.args (by omega) (may_args hmay)
   rw [List.map_cons, List.flatMap_cons, List.flatMap_cons, List.map_append, ht, ih l (by have := t.size_pos; omega) (fun u hu => hall u (List.mem_cons_of_mem _ hu))]
theorem by_places (NS : Nms) {t : Tm} (h : t.may = true) : (t.byNms NS).places = t.places.map (numOf NS) := by
 have := by_places' NS _ [t] (Nat.le_refl _) (fun u hu => by rw [List.mem_singleton.1 hu]; exact h);rw [List.map_cons, List.map_nil, List.flatMap_cons, List.flatMap_nil, List.append_nil, List.flatMap_cons, List.flatMap_nil, List.append_nil] at this;exact this
theorem deeps_map (f : Tm -> Tm) : ∀ l : List Tm, (∀ u ∈ l, (f u).deep = u.deep) -> Tm.deeps (l.map f) = Tm.deeps l
 | [], _ => rfl
 | u :: l, h => by
  show max (f u).deep (Tm.deeps (l.map f)) = max u.deep (Tm.deeps l)
  rw [h u (by simp), deeps_map f l (fun x hx => h x (List.mem_cons_of_mem _ hx))]
theorem by_deep' (NS : Nms) (m : Nat) : ∀ t : Tm, t.size <= m -> t.may = true -> (t.byNms NS).deep = t.deep := by
 induction m with
 | zero => intro t h; have := t.size_pos; omega
 | succ m ih =>
  intro t hm hmay;rw [t.byNms_eq];by_cases hk : t.kind = 1
  · rw [if_pos hk, t.deep_eq, (may_var1 hmay hk).2.2];rfl
  · rw [if_neg hk, Tm.deep_eq, t.deep_eq];show Tm.deeps (t.args.map _) + 1 = _
    rw [deeps_map _ _ (fun u hu => ih u (by have := Tm.mem_size hu; have := t.size_eq; omega) (may_args hmay u hu))]
theorem by_deep (NS : Nms) {t : Tm} (h : t.may = true) : (t.byNms NS).deep = t.deep := by_deep' NS _ t (Nat.le_refl _) h
theorem by_self (NS : Nms) {t : Tm} (h : t.may = true) (hp : ∀ x ∈ t.places, numOf NS x = x) : t.byNms NS = t := by
 refine by_map' (fun t => t.may = true /\ ∀ x ∈ t.places, numOf NS x = x) (fun t ht u hu => ⟨may_args ht.1 u hu, fun x hx => ht.2 x ?_⟩) (fun t => t.byNms NS) id (fun t ht hu => ?_) _ t (Nat.le_refl _) ⟨h, hp⟩
 · rw [t.places_eq];exact List.mem_append_right _ (List.mem_flatMap.2 ⟨u, hu, hx⟩)
 · rw [t.byNms_eq];by_cases hk : t.kind = 1
   · obtain ⟨_, hn, ha⟩ := may_var1 ht.1 hk;rw [if_pos hk];have h2 : numOf NS t.n = t.n := ht.2 t.n (by rw [t.places_eq, if_pos hk]; simp);show Tm.mk 1 ⟨#[]⟩ (numOf NS t.n) [] = t
     rw [h2];conv => rhs; rw [t.eta, hk, hn, ha]
   · rw [if_neg hk];have : t.args.map (fun u => u.byNms NS) = t.args := by
      conv => rhs; rw [<- List.map_id t.args]
      exact List.map_congr_left (fun u h => hu u h)
     rw [this];exact t.eta.symm
theorem num_at {L : List Int} (hL : ∀ x ∈ L, 0 <= x) {x : Int} (hx : x ∈ L) : ∃ i, ∃ h : i < L.length, numOf (L.map varName) x = (i : Nat) /\ L[i] = x := by
 have hm : varName x ∈ L.map varName := List.mem_map.2 ⟨x, hx, rfl⟩;have hlt := List.idxOf_lt_length_of_mem hm;have hg := List.getElem_idxOf hlt;have hlt2 : (L.map varName).idxOf (varName x) < L.length := by rw [List.length_map] at hlt; exact hlt
 refine ⟨_, hlt2, rfl, ?_⟩;rw [List.getElem_map] at hg;exact varName_inj (hL _ (List.getElem_mem hlt2)) (hL x hx) hg
theorem num_inj {L : List Int} (hL : ∀ x ∈ L, 0 <= x) {x y : Int} (hx : x ∈ L) (hy : y ∈ L) (h : numOf (L.map varName) x = numOf (L.map varName) y) : x = y := by
 obtain ⟨i, hi, e1, e2⟩ := num_at hL hx;obtain ⟨j, hj, f1, f2⟩ := num_at hL hy;rw [e1, f1] at h;have : i = j := by omega
 subst this;rw [<- e2, <- f2]
theorem vars_has {t : Tm} {x : Int} (h : x ∈ t.places) : x ∈ t.vars := onceGo_has _ _ _ (.inr h)
theorem vars_pos {t : Tm} (h : t.may = true) : ∀ x ∈ t.vars, 0 <= x := onceGo_pos _ _ (fun x hx => by cases hx) (places_pos h)
theorem by_pairs {t : Tm} (h : t.may = true) (i k : Nat) (hki : k < i) (hi : i < (t.byNms (t.nmsOf [])).places.length) :
 ((t.byNms (t.nmsOf [])).places.getD i 0 = (t.byNms (t.nmsOf [])).places.getD k 0 ↔ t.places.getD i 0 = t.places.getD k 0) := by
 rw [by_places _ h, nms_once h] at *;rw [List.length_map] at hi;have hk : k < t.places.length := by omega
 simp only [List.getD_eq_getElem?_getD, List.getElem?_map, List.getElem?_eq_getElem hi, List.getElem?_eq_getElem hk, Option.map_some, Option.getD_some]
 exact ⟨num_inj (vars_pos h) (vars_has (List.getElem_mem hi)) (vars_has (List.getElem_mem hk)), fun e => by rw [e]⟩
theorem chk_ok3 {t : Tm} (h : t.chk = 0) (hn : t.n64) : Ok3 t := by
 unfold Tm.chk at h;split at h
 · rename_i hm
   split at h
   · cases h
   · exact ⟨hm, hn, by omega⟩
 · cases h
theorem whole_back {NS : Nms} {t : Tm} {q lim : Int} {f : Nat -> List Tok} (_hok : Ok3 t) (hb : Bk NS (t.wr.txt 1200) t q lim t.opA f) (hq : q <= 1200) (hl : lim <= 1200) (e : Tok) (rest : List Tok) (hn : t.nmsOf [] = NS) (he : e.kind = 8 \/ e.kind = 9) :
 termR (f 0 ++ e :: rest).length 1200 (f 0 ++ e :: rest) [] = .ok (t.byNms NS) (e :: rest) NS := by
 have hlen : (f 0 ++ e :: rest).length = (f 0 ++ rest).length + 1 := by simp only [List.length_append, List.length_cons]; omega
 rw [hlen, hb.term hq hl (Nat.le_of_eq hlen) (by rw [hn]; exact List.prefix_refl _) (fun _ => by rcases he with he | he; exact .inl he; exact .inr (.inl he)) (by rw [fstT_cons]; rcases he with he | he <;> rw [he] <;> decide) (by rw [fstT_cons]; exact stop_end e _ he), hn]
theorem main_whole {t : Tm} (hok : Ok3 t) (hv : t.vars.length <= 200) : ∃ q lim f, Bk (t.nmsOf []) (t.wr.txt 1200) t q lim t.opA f /\ q <= 1200 /\ lim <= 1200 := by
 obtain ⟨q, lim, f, hb, hql⟩ := main_back (t.nmsOf []) (by rw [nms_once hok.may, List.length_map]; exact hv) t.size t (Nat.le_refl _) hok 1200 (by decide) (by decide);refine ⟨q, lim, f, hb, ?_⟩;rcases hql with ⟨rfl, rfl⟩ | ⟨r, h1, h2, h3, rfl, rfl⟩
 · decide
 · have := op_bounds h1 h2; omega
theorem cut_stop (l : List UInt8) (p q : Nat) (h : cutL l 0 false = .good [⟨8, [46], 0, p⟩, ⟨9, [], 0, q⟩]) (o : Nat) : cutL l o false = .good [⟨8, [46], 0, p + o⟩, ⟨9, [], 0, q + o⟩] := by
 have := cutL_shift l o 0 false;rw [h, Nat.zero_add] at this;exact this
theorem clause_cut {X : List UInt8} {f : Nat -> List Tok} (hc : Cuts X f) : ∃ p q, cutL (clauseL X) 0 false = .good (f 0 ++ [⟨8, [46], 0, p⟩, ⟨9, [], 0, q⟩]) := by
 have key : ∀ R : List UInt8, EndR X R -> (∃ p q, cutL R 0 false = .good [⟨8, [46], 0, p⟩, ⟨9, [], 0, q⟩]) -> ∃ p q, cutL (X ++ R) 0 false = .good (f 0 ++ [⟨8, [46], 0, p⟩, ⟨9, [], 0, q⟩]) := by
  rintro R hR ⟨p, q, h⟩;refine ⟨p + (0 + X.length), q + (0 + X.length), ?_⟩;rw [hc.2 R hR 0, cut_stop R p q h];rfl
 unfold clauseL;cases hl : X.getLast? with
 | none => exact absurd (List.getLast?_eq_none_iff.1 hl) hc.1
 | some b =>
  dsimp only;have hlast : lastS X = signR (b.toNat : Int) := by unfold lastS; rw [hl]
  split
  · refine key _ ?_ ⟨1, 3, by kernel_rfl⟩;exact EndP.r (by unfold EndP; simp) _ _
  · rename_i h4
    refine key _ ⟨?_, by decide⟩ ⟨0, 2, by kernel_rfl⟩;intro c r hcr;obtain ⟨rfl, rfl⟩ := List.cons.inj hcr;exact ⟨by decide +kernel, by decide, fun _ => by rw [hlast]; unfold signR; exact decide_eq_false h4⟩
theorem back_program {t : Tm} (hok : Ok3 t) (hv : t.vars.length <= 200) (hl : (clauseL (t.wr.txt 1200)).length <= 4096) : progL (clauseL (t.wr.txt 1200)) = .ok [t.byNms (t.nmsOf [])] := by
 obtain ⟨q, lim, f, hb, hq, hlm⟩ := main_whole hok hv;obtain ⟨p, s, hc⟩ := clause_cut hb.cuts;unfold progL cutThen;rw [if_neg (by omega), hc];dsimp only;have hw := whole_back hok hb hq hlm ⟨8, [46], 0, p⟩ [⟨9, [], 0, s⟩] rfl (.inl rfl);obtain ⟨a, u, hf, hbeg⟩ := hb.first 0;unfold progT;have hlen : (f 0 ++ ([⟨8, [46], 0, p⟩, ⟨9, [], 0, s⟩] : List Tok)).length = (f 0).length + 1 + 1 := by rw [List.length_append]; rfl
 rw [hlen];unfold progGo;rw [if_neg (by rw [hf]; exact hbeg.2.2)];have hwh : wholeR true (f 0 ++ [⟨8, [46], 0, p⟩, ⟨9, [], 0, s⟩]) = .ok (t.byNms (t.nmsOf [])) [⟨9, [], 0, s⟩] (t.nmsOf []) := by
  unfold wholeR;rw [hw];dsimp only;rw [if_neg (fun c => c.1 rfl), if_neg (by rw [by_deep _ hok.may]; have := hok.deep; omega), if_pos (by rfl)];rfl
 rw [hwh];dsimp only;unfold progGo;rw [if_pos (by rfl)];rfl
theorem back_query {src : List UInt8} {t : Tm} {ns : Nms} (_h : queryL src = .ok (t, ns)) (hrng : t.vars = rng ns.length) (hok : Ok3 t) (hns : ns.length <= 200) (hl : (t.wr.txt 1200).length <= 4096) : ∃ ns', queryL (t.wr.txt 1200) = .ok (t, ns') := by
 have hv : t.vars.length <= 200 := by rw [hrng, rng_len]; exact hns
 obtain ⟨q, lim, f, hb, hq, hlm⟩ := main_whole hok hv;have hself : t.byNms (t.nmsOf []) = t := by
  refine by_self _ hok.may (fun x hx => ?_);obtain ⟨i, hi, e1, e2⟩ := num_at (vars_pos hok.may) (vars_has hx);rw [nms_once hok.may, e1];have hr : ∀ (V : List Int) (hV : V = rng ns.length) (hi : i < V.length), V[i] = (i : Int) := fun V hV hi => by subst hV; exact rng_at _ _ hi
  rw [hr t.vars hrng hi] at e2;exact e2
 have hw := whole_back hok hb hq hlm ⟨9, [], 0, 0 + (t.wr.txt 1200).length⟩ [] rfl (.inr rfl);rw [hself] at hw;have hc : cutL (t.wr.txt 1200) 0 false = .good (f 0 ++ [⟨9, [], 0, 0 + (t.wr.txt 1200).length⟩]) := by
  have := hb.cuts.2 [] ⟨fun c r hc => (by cases hc), by decide⟩ 0;rw [List.append_nil, cutL_nil] at this;exact this
 refine ⟨t.nmsOf [], ?_⟩;unfold queryL cutThen;rw [if_neg (by omega), hc];exact query_end hw rfl hok.deep
end Go.Proofs.YtdjejbgokamjeaaGreatDoor
