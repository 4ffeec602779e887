/-
  Plain mathematics for the law ReadNumbers: the variables of what is read are numbered from 0 on by their first places; no program in it.
-/
import Derived.Test.YtlbdocdjijhkbaaGreatDoorReadPl
import Derived.Test.YtlbdocdjijhkbaaGreatDoorTermVs
namespace Go.Proofs.YtlbdocdjijhkbaaGreatDoor
open Go.RowKit

def rng (n : Nat) : List Int := (List.range n).map fun i : Nat => (i : Int)
theorem rng_succ (n : Nat) : rng (n + 1) = rng n ++ [(n : Int)] := by unfold rng; rw [List.range_succ, List.map_append]; rfl
theorem rng_has (n i : Nat) : hasL (rng n) (i : Int) = decide (i < n) := by
  unfold hasL rng
  rw [Bool.eq_iff_iff]
  simp
  exact ⟨fun ⟨x, h1, h2⟩ => by omega, fun h => ⟨i, h, rfl⟩⟩
theorem onceGo_app : ∀ (a b out : List Int), onceGo out (a ++ b) = onceGo (onceGo out a) b
  | [], _, _ => rfl
  | x :: a, b, out => by
    show (if hasL out x then onceGo out (a ++ b) else onceGo (out ++ [x]) (a ++ b)) = onceGo (if hasL out x then onceGo out a else onceGo (out ++ [x]) a) b
    split
    · exact onceGo_app a b out
    · exact onceGo_app a b _
/-- Some places lead from so many names to so many. -/
def Leads (ns ns' : Nms) (l : List Int) : Prop := onceGo (rng ns.length) l = rng ns'.length
theorem Leads.nil (ns : Nms) : Leads ns ns [] := rfl
theorem Leads.app {a b c : Nms} {l m : List Int} (h : Leads a b l) (k : Leads b c m) : Leads a c (l ++ m) := by
  unfold Leads at *
  rw [onceGo_app, h, k]
def LeadW (W : Rdr) : Prop := ∀ p ts ns t ts' ns', W p ts ns = .ok t ts' ns' → Leads ns ns' t.places
theorem places_atom (s : List UInt8) : (atomT s).places = [] := by rw [Tm.places_eq]; rfl
theorem places_int (n : Int) : (intT n).places = [] := by rw [Tm.places_eq]; rfl
theorem places_var (n : Nat) : (varT n).places = [(n : Int)] := by rw [Tm.places_eq]; rfl
theorem places_comp (s : List UInt8) (l : List Tm) : (compT s l).places = l.flatMap Tm.places := by rw [Tm.places_eq]; rfl
theorem places_cons : ∀ (l : List Tm) (e : Tm), (consT l e).places = l.flatMap Tm.places ++ e.places
  | [], e => rfl
  | x :: l, e => by
    show (compT [46] [x, consT l e]).places = _
    rw [places_comp, List.flatMap_cons, List.flatMap_cons, List.flatMap_nil, List.append_nil, places_cons l e, List.flatMap_cons, List.append_assoc]
theorem manyGo_lead {W : Rdr} (hW : LeadW W) (most : Nat) : ∀ (f : Nat) (l : List Tm) (ts : List Tok) (ns : Nms) (l' : List Tm) (ts' : List Tok) (ns' : Nms), manyGo W most f l ts ns = .ok l' ts' ns' → ∃ m, l' = l ++ m ∧ Leads ns ns' (m.flatMap Tm.places)
  | 0, l, ts, ns, l', ts', ns', h => by
    injection h with h1 h2 h3
    subst h1 h3
    exact ⟨[], by simp, .nil _⟩
  | f + 1, l, ts, ns, l', ts', ns', h => by
    unfold manyGo at h
    split at h
    · split at h
      · cases h
      · obtain ⟨t, ts1, ns1, hw, h⟩ := Rd.bind_is h
        obtain ⟨m, h1, h2⟩ := manyGo_lead hW most f _ ts1 ns1 _ _ _ h
        refine ⟨t :: m, by rw [h1, List.append_assoc]; rfl, ?_⟩
        rw [List.flatMap_cons]
        exact (hW _ _ _ _ _ _ hw).app h2
    · injection h with h1 h2 h3
      subst h1 h3
      exact ⟨[], by simp, .nil _⟩
theorem manyR_lead {W : Rdr} (hW : LeadW W) {most : Nat} {ts : List Tok} {ns : Nms} {l : List Tm} {ts' : List Tok} {ns' : Nms} (h : manyR W most ts ns = .ok l ts' ns') : Leads ns ns' (l.flatMap Tm.places) := by
  unfold manyR at h
  obtain ⟨t, ts1, ns1, hw, h⟩ := Rd.bind_is h
  obtain ⟨m, h1, h2⟩ := manyGo_lead hW most _ _ ts1 ns1 _ _ _ h
  rw [h1, List.singleton_append, List.flatMap_cons]
  exact (hW _ _ _ _ _ _ hw).app h2
theorem bracketR_lead {W : Rdr} (hW : LeadW W) {ts : List Tok} {ns : Nms} {t : Tm} {ts' : List Tok} {ns' : Nms} (h : bracketR W ts ns = .ok t ts' ns') : Leads ns ns' t.places := by
  unfold bracketR at h
  split at h
  · obtain ⟨ts1, h1, _, _⟩ := closeR_is h
    exact hW _ _ _ _ _ _ h1
  split at h
  · obtain ⟨ts1, h1, _, _⟩ := closeR_is h
    unfold squareR at h1
    split at h1
    · injection h1 with h1 h2 h3
      subst h1 h3
      rw [places_atom]; exact .nil _
    · unfold listR at h1
      obtain ⟨l, ts1, ns1, hl, h⟩ := Rd.bind_is h1
      obtain ⟨e, ts2, ns2, he, h⟩ := Rd.bind_is h
      injection h with h1 h2 h3
      subst h1 h3
      rw [places_cons]
      refine (manyR_lead hW hl).app ?_
      unfold tailR at he
      split at he
      · exact hW _ _ _ _ _ _ he
      · injection he with h1 h2 h3
        subst h1 h3
        rw [places_atom]; exact .nil _
  split at h
  · obtain ⟨ts1, h1, _, _⟩ := closeR_is h
    unfold curlyR at h1
    split at h1
    · injection h1 with h1 h2 h3
      subst h1 h3
      rw [places_atom]; exact .nil _
    · obtain ⟨t, ts1, ns1, hl, h⟩ := Rd.bind_is h1
      injection h with h1 h2 h3
      subst h1 h3
      rw [places_comp, List.flatMap_cons, List.flatMap_nil, List.append_nil]
      exact hW _ _ _ _ _ _ hl
  · cases h
theorem varR_lead {ts : List Tok} {ns : Nms} {t : Tm} {ts' : List Tok} {ns' : Nms} (h : varR ts ns = .ok t ts' ns') : Leads ns ns' t.places := by
  unfold varR at h
  split at h
  · rename_i hm
    injection h with h1 h2 h3
    subst h1 h3
    have hlt := List.idxOf_lt_length_of_mem hm.1
    rw [places_var]
    show (if hasL (rng ns.length) _ then _ else _) = _
    rw [rng_has, if_pos (by simpa using hlt)]
    rfl
  · split at h
    · cases h
    · injection h with h1 h2 h3
      subst h1 h3
      rw [places_var]
      show (if hasL (rng ns.length) _ then _ else _) = _
      rw [rng_has, if_neg (by simp), List.length_append, List.length_singleton, rng_succ]
      rfl
theorem namedR_lead {W : Rdr} (hW : LeadW W) {p : Int} {ts : List Tok} {ns : Nms} {x : Tm × Int} {ts' : List Tok} {ns' : Nms} (h : namedR W p ts ns = .ok x ts' ns') : Leads ns ns' x.1.places := by
  unfold namedR at h
  split at h
  · obtain ⟨t, ts1, ns1, hx, h⟩ := Rd.bind_is h
    injection h with h1 h2 h3
    subst h1 h3
    unfold argsR at hx
    obtain ⟨ts2, h1, h2, _⟩ := closeR_is hx
    obtain ⟨l, ts3, ns3, hl, h1⟩ := Rd.bind_is h1
    injection h1 with h1 h3 h4
    subst h1 h4
    rw [places_comp]
    exact manyR_lead hW hl
  split at h
  · injection h with h1 h2 h3
    subst h1 h3
    rw [places_int]; exact .nil _
  split at h
  · injection h with h1 h2 h3
    subst h1 h3
    rw [places_atom]; exact .nil _
  split at h
  · injection h with h1 h2 h3
    subst h1 h3
    rw [places_atom]; exact .nil _
  split at h
  · cases h
  · obtain ⟨t, ts1, ns1, hl, h⟩ := Rd.bind_is h
    injection h with h1 h2 h3
    subst h1 h3
    rw [places_comp, List.flatMap_cons, List.flatMap_nil, List.append_nil]
    exact hW _ _ _ _ _ _ hl
theorem beginR_lead {W : Rdr} (hW : LeadW W) {p : Int} {ts : List Tok} {ns : Nms} {x : Tm × Int} {ts' : List Tok} {ns' : Nms} (h : beginR W p ts ns = .ok x ts' ns') : Leads ns ns' x.1.places := by
  unfold beginR at h
  split at h
  · exact namedR_lead hW h
  split at h
  · exact varR_lead (zeroR_is h).1
  split at h
  · exact bracketR_lead hW (zeroR_is h).1
  split at h
  · injection h with h1 h2 h3
    subst h1 h3
    rw [places_int]; exact .nil _
  · cases h
theorem moreR_lead {W : Rdr} (hW : LeadW W) (p : Int) : ∀ (f : Nat) (t : Tm) (pri : Int) (ts : List Tok) (ns : Nms) (t' : Tm) (ts' : List Tok) (ns' : Nms), moreR W p f t pri ts ns = .ok t' ts' ns' → ∃ X, t'.places = t.places ++ X ∧ Leads ns ns' X
  | 0, t, pri, ts, ns, t', ts', ns', h => by
    injection h with h1 h2 h3
    subst h1 h3
    exact ⟨[], by simp, .nil _⟩
  | f + 1, t, pri, ts, ns, t', ts', ns', h => by
    unfold moreR at h
    split at h
    · injection h with h1 h2 h3
      subst h1 h3
      exact ⟨[], by simp, .nil _⟩
    · split at h
      · injection h with h1 h2 h3
        subst h1 h3
        exact ⟨[], by simp, .nil _⟩
      · obtain ⟨u, ts1, ns1, hl, h⟩ := Rd.bind_is h
        obtain ⟨X, h1, h2⟩ := moreR_lead hW p f _ _ ts1 ns1 _ _ _ h
        refine ⟨u.places ++ X, ?_, (hW _ _ _ _ _ _ hl).app h2⟩
        rw [h1, places_comp, List.flatMap_cons, List.flatMap_cons, List.flatMap_nil, List.append_nil, List.append_assoc]
theorem termR_lead : ∀ (m : Nat), LeadW (termR m)
  | 0 => fun p ts ns t ts' ns' h => by cases h
  | m + 1 => fun p ts ns t ts' ns' h => by
    unfold termR at h
    obtain ⟨x, ts1, ns1, hl, h⟩ := Rd.bind_is h
    obtain ⟨X, h1, h2⟩ := moreR_lead (termR_lead m) p _ _ _ ts1 ns1 _ _ _ h
    rw [h1]
    exact (beginR_lead (termR_lead m) hl).app h2
theorem vars_rng {m : Nat} {p : Int} {ts : List Tok} {t : Tm} {ts' : List Tok} {ns : Nms} (h : termR m p ts [] = .ok t ts' ns) : t.vars = rng ns.length := termR_lead m _ _ _ _ _ _ h
theorem rng_len (n : Nat) : (rng n).length = n := by unfold rng; simp
theorem rng_at (n i : Nat) (h : i < (rng n).length) : (rng n)[i] = (i : Int) := by
  have h2 : (rng n)[i]? = some (i : Int) := by
    rw [rng_len] at h
    unfold rng
    rw [List.getElem?_map, List.getElem?_range h]
    rfl
  exact (List.getElem?_eq_some_iff.1 h2).2
end Go.Proofs.YtlbdocdjijhkbaaGreatDoor
