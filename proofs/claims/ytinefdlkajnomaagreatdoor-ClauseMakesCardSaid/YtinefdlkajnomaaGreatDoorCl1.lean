import Derived.Test.YtinefdlkajnomaaGreatDoorTermVs
import Derived.Test.YtinefdlkajnomaaGreatDoorTermMay
import Derived.Test.YtinefdlkajnomaaGreatDoorTkM
import Derived.Deep.RegionHeld3
import Derived.Test.YtinefdlkajnomaaGreatDoorTermDevCS
import Derived.Test.YtinefdlkajnomaaGreatDoorIterAll
import Derived.Lib.BufferMore
import Derived.Maps.OwnSet
import Derived.Maps.Views
import Derived.Maps.OwnIn
import Derived.Test.YtinefdlkajnomaaGreatDoorRdF
import Derived.WalkSmall
import Derived.Deep.AppendLies
namespace Go.Proofs.YtinefdlkajnomaaGreatDoor
open Go.RowKit
def lackL (s : List UInt8) (n : Nat) : Bool :=
 (decide (n = 1) && (decide (s = [92, 43]) || (decide (s = [58, 45]) || decide (s = [63, 45])))) ||
 (decide (n = 2) && (decide (s = [44]) || (decide (s = [59]) || (decide (s = [45, 62]) || decide (s = [58, 45])))))
def goalK (k : Int) (s : List UInt8) (n : Nat) : Bool := (decide (k = 2) || decide (k = 4)) && !lackL s n
def Tm.goal (t : Tm) : Bool := goalK t.kind t.name.data.toList t.args.length
def bltN (n : Int) : List (List UInt8) :=
 if n = 0 then [[116, 114, 117, 101], [102, 97, 105, 108], [33]]
 else if n = 1 then [[118, 97, 114], [110, 111, 110, 118, 97, 114], [97, 116, 111, 109], [105, 110, 116, 101, 103, 101, 114], [97, 116, 111, 109, 105, 99], [99, 111, 109, 112, 111, 117, 110, 100]]
 else if n = 2 then [[61], [92, 61], [61, 61], [92, 61, 61], [64, 60], [64, 61, 60], [64, 62], [64, 62, 61], [61, 46, 46], [105, 115], [61, 58, 61], [61, 92, 61], [60], [61, 60], [62], [62, 61]]
 else if n = 3 then [[102, 117, 110, 99, 116, 111, 114], [97, 114, 103]]
 else []
def bltL (s : List UInt8) (n : Int) : Bool := (bltN n).any fun t => t == s
def Tm.head (t : Tm) : Bool := t.goal && !bltL t.name.data.toList t.args.length
def twoK (s0 : List UInt8) (k : Int) (s : List UInt8) (n : Nat) : Bool := decide (k = 4) && (decide (s = s0) && decide (n = 2))
def Tm.two (s0 : List UInt8) (t : Tm) : Bool := twoK s0 t.kind t.name.data.toList t.args.length
mutual
def Tm.body : Tm -> List Tm
 | .mk k s n l => if twoK [44] k s.data.toList l.length = true then Tm.bodys l else [.mk k s n l]
def Tm.bodys : List Tm -> List Tm
 | [] => []
 | t :: l => t.body ++ Tm.bodys l
end
theorem Tm.bodys_flat (l : List Tm) : Tm.bodys l = l.flatMap Tm.body := by
 induction l with
 | nil => rfl
 | cons t l ih => show t.body ++ Tm.bodys l = _; rw [ih, List.flatMap_cons]
theorem Tm.body_eq (t : Tm) : t.body = if t.two [44] = true then t.args.flatMap Tm.body else [t] := by
 cases t with
 | mk k s n l => rw [<- Tm.bodys_flat]; rfl
theorem Tm.two_args {s0 : List UInt8} {t : Tm} (h : t.two s0 = true) : ∃ a b, t.args = [a, b] := by
 unfold Tm.two twoK at h;simp at h
 have h3 := h.2.2;match hl : t.args, h3 with
 | [a, b], _ => exact ⟨a, b, rfl⟩
theorem Tm.two_kind {s0 : List UInt8} {t : Tm} (h : t.two s0 = true) : t.kind = 4 /\ t.name.data.toList = s0 /\ t.args.length = 2 := by
 unfold Tm.two twoK at h;simp at h
 exact h
theorem Tm.body_two {t a b : Tm} (h : t.two [44] = true) (hl : t.args = [a, b]) : t.body = a.body ++ b.body := by
 rw [Tm.body_eq, if_pos h, hl]; simp
theorem Tm.body_one {t : Tm} (h : t.two [44] = false) : t.body = [t] := by
 rw [Tm.body_eq, if_neg (by rw [h]; nofun)]
def placeN : List Int -> Int -> Nat
 | [], _ => 0
 | k :: l, n => if k = n then 0 else placeN l n + 1
def placeL (l : List Int) (n : Int) : Int := if n ∈ l then (placeN l n : Nat) else 0
mutual
def Tm.numT (L : List Int) : Tm -> Tm
 | .mk k s n l => .mk k s (if k = 1 then placeL L n else n) (Tm.numTs L l)
def Tm.numTs (L : List Int) : List Tm -> List Tm
 | [] => []
 | t :: l => t.numT L :: Tm.numTs L l
end
theorem Tm.numTs_map (L : List Int) (l : List Tm) : Tm.numTs L l = l.map (Tm.numT L) := by
 induction l with
 | nil => rfl
 | cons t l ih => show t.numT L :: Tm.numTs L l = _; rw [ih]; rfl
theorem Tm.numT_eq (L : List Int) (t : Tm) : t.numT L = .mk t.kind t.name (if t.kind = 1 then placeL L t.n else t.n) (t.args.map (Tm.numT L)) := by
 cases t with
 | mk k s n l => rw [<- Tm.numTs_map]; rfl
theorem Tm.numT_kind (L : List Int) (t : Tm) : (t.numT L).kind = t.kind := by cases t; rfl
theorem Tm.numT_name (L : List Int) (t : Tm) : (t.numT L).name = t.name := by cases t; rfl
theorem Tm.numT_args (L : List Int) (t : Tm) : (t.numT L).args = t.args.map (Tm.numT L) := by rw [Tm.numT_eq]; rfl
theorem Tm.numT_n (L : List Int) (t : Tm) : (t.numT L).n = if t.kind = 1 then placeL L t.n else t.n := by rw [Tm.numT_eq]; rfl
theorem Tm.numT_len (L : List Int) (t : Tm) : (t.numT L).args.length = t.args.length := by rw [Tm.numT_args, List.length_map]
theorem Tm.numT_goal (L : List Int) (t : Tm) : (t.numT L).goal = t.goal := by unfold Tm.goal; rw [Tm.numT_kind, Tm.numT_name, Tm.numT_len]
theorem Tm.numT_head (L : List Int) (t : Tm) : (t.numT L).head = t.head := by unfold Tm.head; rw [Tm.numT_goal, Tm.numT_name, Tm.numT_len]
theorem Tm.numT_two (s0 : List UInt8) (L : List Int) (t : Tm) : (t.numT L).two s0 = t.two s0 := by unfold Tm.two; rw [Tm.numT_kind, Tm.numT_name, Tm.numT_len]
theorem Tm.bySize {p : Tm -> Prop} (h : ∀ t : Tm, (∀ a ∈ t.args, p a) -> p t) (t : Tm) : p t := by
 have key : ∀ m (t : Tm), t.size <= m -> p t := by
  intro m;induction m with
  | zero => intro t ht; have := t.size_pos; omega
  | succ m ih =>
   intro t ht;refine h t fun a ha => ih a ?_;have := Tm.mem_size ha;have := t.size_eq;omega
 exact key _ t (Nat.le_refl _)
theorem flat_congr {b : Type} {f g : Tm -> List b} {l : List Tm} (h : ∀ a ∈ l, f a = g a) : l.flatMap f = l.flatMap g := by
 induction l with
 | nil => rfl
 | cons a l ih => rw [List.flatMap_cons, List.flatMap_cons, h a (.head _), ih fun b hb => h b (.tail _ hb)]
theorem Tm.body_numT (L : List Int) (t : Tm) : (t.numT L).body = t.body.map (Tm.numT L) := by
 induction t using Tm.bySize with
 | h t ih =>
  rw [Tm.body_eq, Tm.body_eq t, Tm.numT_two];by_cases h : t.two [44] = true
  · rw [if_pos h, if_pos h, Tm.numT_args, List.flatMap_map, List.map_flatMap];exact flat_congr fun a ha => ih a ha
  · rw [if_neg h, if_neg h]; rfl
theorem Tm.body_places (t : Tm) : t.body.flatMap Tm.places = t.places := by
 induction t using Tm.bySize with
 | h t ih =>
  rw [Tm.body_eq];by_cases h : t.two [44] = true
  · rw [if_pos h, List.flatMap_assoc, Tm.places_eq t, if_neg (by rw [(Tm.two_kind h).1]; decide), List.nil_append];exact flat_congr fun a ha => ih a ha
  · rw [if_neg h]; simp
theorem Tm.body_pos (t : Tm) : 1 <= t.body.length := by
 induction t using Tm.bySize with
 | h t ih =>
  rw [Tm.body_eq];by_cases h : t.two [44] = true
  · obtain ⟨a, b, hl⟩ := Tm.two_args h;rw [if_pos h, hl];have := ih a (by rw [hl]; simp);simp
    omega
  · rw [if_neg h]; exact Nat.le_refl _
theorem Tm.body_sizes (t : Tm) : Tm.sizes t.body <= t.size := by
 induction t using Tm.bySize with
 | h t ih =>
  rw [Tm.body_eq];by_cases h : t.two [44] = true
  · obtain ⟨a, b, hl⟩ := Tm.two_args h;rw [if_pos h, hl, Tm.size_eq, hl];have h1 := ih a (by rw [hl]; simp);have h2 := ih b (by rw [hl]; simp);simp only [List.flatMap_cons, List.flatMap_nil, List.append_nil, Tm.sizes_append]
    show _ <= 1 + (a.size + (b.size + 0))
    omega
  · rw [if_neg h]; show t.size + 0 <= _; omega
theorem Tm.body_length (t : Tm) : t.body.length <= t.size := Nat.le_trans (Tm.length_le_sizes _) t.body_sizes
theorem onceGo_more : ∀ (l L : List Int), ∃ R, onceGo L l = L ++ R
 | [], L => ⟨[], by simp [onceGo]⟩
 | n :: l, L => by
  unfold onceGo;split
  · exact onceGo_more l L
  · obtain ⟨R, h⟩ := onceGo_more l (L ++ [n]); exact ⟨[n] ++ R, by rw [h, List.append_assoc]⟩
theorem hasL_iff (l : List Int) (n : Int) : hasL l n = true ↔ n ∈ l := by
 unfold hasL;rw [List.any_eq_true];constructor
 · rintro ⟨x, h1, h2⟩; rw [<- beq_iff_eq.1 h2]; exact h1
 · intro h; exact ⟨n, h, beq_self_eq_true n⟩
theorem onceGo_in : ∀ (l L : List Int) (x : Int), x ∈ L \/ x ∈ l -> x ∈ onceGo L l
 | [], L, x, h => by unfold onceGo; simpa using h
 | n :: l, L, x, h => by
  unfold onceGo;split
  · rename_i hh
    refine onceGo_in l L x ?_;rcases h with h | h
    · exact .inl h
    · rcases List.mem_cons.1 h with rfl | h
      · exact .inl ((hasL_iff L x).1 hh)
      · exact .inr h
  · refine onceGo_in l (L ++ [n]) x ?_;rcases h with h | h
    · exact .inl (by simp [h])
    · rcases List.mem_cons.1 h with rfl | h
      · exact .inl (by simp)
      · exact .inr h
theorem onceGo_from : ∀ (l L : List Int) (x : Int), x ∈ onceGo L l -> x ∈ L \/ x ∈ l
 | [], L, x, h => by unfold onceGo at h; exact .inl h
 | n :: l, L, x, h => by
  unfold onceGo at h;split at h
  · rcases onceGo_from l L x h with h | h
    · exact .inl h
    · exact .inr (.tail _ h)
  · rcases onceGo_from l (L ++ [n]) x h with h | h
    · rcases List.mem_append.1 h with h | h
      · exact .inl h
      · rw [List.mem_singleton.1 h]; exact .inr (.head _)
    · exact .inr (.tail _ h)
theorem onceGo_two : ∀ (a b L : List Int), onceGo L (a ++ b) = onceGo (onceGo L a) b
 | [], b, L => rfl
 | n :: a, b, L => by
  show (if hasL L n then onceGo L (a ++ b) else onceGo (L ++ [n]) (a ++ b)) = onceGo (if hasL L n then onceGo L a else onceGo (L ++ [n]) a) b
  split
  · exact onceGo_two a b L
  · exact onceGo_two a b (L ++ [n])
theorem onceGo_nodup : ∀ (l L : List Int), L.Nodup -> (onceGo L l).Nodup
 | [], L, h => by unfold onceGo; exact h
 | n :: l, L, h => by
  unfold onceGo;split
  · exact onceGo_nodup l L h
  · rename_i hh
    refine onceGo_nodup l (L ++ [n]) ?_;rw [List.nodup_append];refine ⟨h, by simp, fun a ha b hb => ?_⟩;rw [List.mem_singleton.1 hb];rintro rfl;exact hh ((hasL_iff L a).2 ha)
theorem onceGo_size : ∀ (l L : List Int), (onceGo L l).length <= L.length + l.length
 | [], L => by unfold onceGo; simp
 | n :: l, L => by
  unfold onceGo;split
  · have := onceGo_size l L; rw [List.length_cons]; omega
  · have := onceGo_size l (L ++ [n]); rw [List.length_append] at this; simp at this ⊢; omega
theorem Tm.vars_size (t : Tm) : t.vars.length <= t.size := by
 have := onceGo_size t.places [];have := t.places_size;unfold Tm.vars once;simp at *
 omega
theorem Tm.vars_in {t : Tm} {x : Int} (h : x ∈ t.places) : x ∈ t.vars := onceGo_in _ _ _ (.inr h)
theorem placeN_app (L R : List Int) (n : Int) (h : n ∈ L) : placeN (L ++ R) n = placeN L n := by
 induction L with
 | nil => cases h
 | cons k L ih =>
  show (if k = n then 0 else placeN (L ++ R) n + 1) = if k = n then 0 else placeN L n + 1
  by_cases e : k = n
  · rw [if_pos e, if_pos e]
  · rw [if_neg e, if_neg e, ih (by rcases List.mem_cons.1 h with rfl | h; exact absurd rfl e; exact h)]
theorem placeL_app (L R : List Int) (n : Int) (h : n ∈ L) : placeL (L ++ R) n = placeL L n := by
 unfold placeL;rw [if_pos h, if_pos (List.mem_append_left _ h), placeN_app L R n h]
theorem placeN_at (L : List Int) (n : Int) (k : Nat) (hk : k < L.length) (h : L[k] = n) (hn : ∀ j (hj : j < k), L[j]'(by omega) ≠ n) : placeN L n = k := by
 induction L generalizing k with
 | nil => simp at hk
 | cons x L ih =>
  cases k with
  | zero => show (if x = n then 0 else _) = _; rw [if_pos (by simpa using h)]
  | succ k =>
   have h0 := hn 0 (by omega);show (if x = n then 0 else placeN L n + 1) = _
   rw [if_neg (by simpa using h0), ih k (by simpa using hk) (by simpa using h) (fun j hj => by simpa using hn (j + 1) (by omega))]
theorem placeL_at (L : List Int) (n : Int) (k : Nat) (hk : k < L.length) (h : L[k] = n) (hn : ∀ j (hj : j < k), L[j]'(by omega) ≠ n) : placeL L n = k := by
 unfold placeL;rw [if_pos (by rw [<- h]; exact List.getElem_mem hk), placeN_at L n k hk h hn]
theorem placeN_nodup (L : List Int) (h : L.Nodup) (k : Nat) (hk : k < L.length) : placeN L L[k] = k :=
 placeN_at L _ k hk rfl fun j hj e => by
  have := (List.getElem_inj (h₀ := by omega) (h₁ := hk) h).1 e;omega
theorem placeN_lt (L : List Int) (n : Int) (h : n ∈ L) : placeN L n < L.length := by
 induction L with
 | nil => cases h
 | cons k L ih =>
  show (if k = n then 0 else placeN L n + 1) < _
  by_cases e : k = n
  · rw [if_pos e]; simp
  · rw [if_neg e]; have := ih (by rcases List.mem_cons.1 h with rfl | h; exact absurd rfl e; exact h); simp; omega
theorem placeL_snoc (L : List Int) (n : Int) (h : n ∉ L) : placeL (L ++ [n]) n = L.length := by
 refine placeL_at _ n L.length (by simp) (by simp) fun j hj e => h ?_;rw [<- e, List.getElem_append_left hj];exact List.getElem_mem hj
theorem placeL_pos (L : List Int) (n : Int) : 0 <= placeL L n /\ placeL L n <= L.length := by
 unfold placeL;split
 · rename_i h; have := placeN_lt L n h; omega
 · omega
theorem Tm.numT_stay (L R : List Int) (t : Tm) (h : ∀ x ∈ t.places, x ∈ L) : t.numT (L ++ R) = t.numT L := by
 induction t using Tm.bySize with
 | h t ih =>
  rw [Tm.numT_eq, Tm.numT_eq L];rw [Tm.places_eq] at h;have e1 : t.args.map (Tm.numT (L ++ R)) = t.args.map (Tm.numT L) := List.map_congr_left fun a ha => ih a ha fun x hx => h x (List.mem_append_right _ (List.mem_flatMap.2 ⟨a, ha, hx⟩));rw [e1];by_cases hk : t.kind = 1
  · rw [if_pos hk, if_pos hk, placeL_app L R t.n (h _ (by rw [if_pos hk]; simp))]
  · rw [if_neg hk, if_neg hk]
theorem Tm.numT_more (t : Tm) (L l : List Int) : t.numT (onceGo (onceGo L t.places) l) = t.numT (onceGo L t.places) := by
 obtain ⟨R, h⟩ := onceGo_more l (onceGo L t.places);rw [h];exact Tm.numT_stay _ R t fun x hx => onceGo_in _ _ _ (.inr hx)
theorem Tm.numT_size (L : List Int) (t : Tm) : (t.numT L).size = t.size := by
 induction t using Tm.bySize with
 | h t ih =>
  rw [Tm.size_eq, Tm.size_eq t, Tm.numT_args];have : ∀ l : List Tm, (∀ a ∈ l, (a.numT L).size = a.size) -> Tm.sizes (l.map (Tm.numT L)) = Tm.sizes l := by
   intro l;induction l with
   | nil => intro _; rfl
   | cons a l ihl => intro h; rw [List.map_cons, Tm.sizes_cons, Tm.sizes_cons, h a (.head _), ihl fun b hb => h b (.tail _ hb)]
  rw [this _ ih]
theorem Tm.numT_deep (L : List Int) (t : Tm) : (t.numT L).deep = t.deep := by
 induction t using Tm.bySize with
 | h t ih =>
  rw [Tm.deep_eq, Tm.deep_eq t, Tm.numT_args];have : ∀ l : List Tm, (∀ a ∈ l, (a.numT L).deep = a.deep) -> Tm.deeps (l.map (Tm.numT L)) = Tm.deeps l := by
   intro l;induction l with
   | nil => intro _; rfl
   | cons a l ihl => intro h; show max (a.numT L).deep (Tm.deeps (l.map (Tm.numT L))) = max a.deep (Tm.deeps l); rw [h a (.head _), ihl fun b hb => h b (.tail _ hb)]
  rw [this _ ih]
theorem Tm.numT_may (L : List Int) (t : Tm) (h : t.may = true) : (t.numT L).may = true := by
 induction t using Tm.bySize with
 | h t ih =>
  rw [Tm.may_eq] at h;rw [Tm.may_eq, Tm.numT_kind, Tm.numT_name, Tm.numT_len, Tm.numT_n, Tm.numT_args];unfold mayK at h ⊢;by_cases h1 : t.kind = 1
  · rw [if_pos h1] at h ⊢;rw [if_pos h1, decide_eq_true (placeL_pos L t.n).1];simp at h ⊢
    exact h.2
  rw [if_neg h1] at h ⊢;rw [if_neg h1];by_cases h2 : t.kind = 2
  · rw [if_pos h2] at h ⊢; exact h
  rw [if_neg h2] at h ⊢;by_cases h3 : t.kind = 3
  · rw [if_pos h3] at h ⊢; exact h
  rw [if_neg h3] at h ⊢;by_cases h4 : t.kind = 4
  · rw [if_pos h4] at h ⊢;simp at h ⊢
    refine ⟨h.1, h.2.1, h.2.2.1, h.2.2.2.1, ?_⟩;have h5 := h.2.2.2.2;rw [Tm.mays_all] at h5 ⊢;rw [List.all_map, List.all_eq_true];intro a ha;exact ih a ha (List.all_eq_true.1 h5 a ha)
  · rw [if_neg h4] at h; cases h
theorem Tm.chk_may {t : Tm} (h : t.chk = 0) : t.may = true /\ t.deep <= 60 := by
 unfold Tm.chk at h;split at h
 · rename_i hm
   split at h
   · cases h
   · exact ⟨hm, by omega⟩
 · cases h
theorem Tm.chk_of {t : Tm} (h : t.may = true) (hd : t.deep <= 60) : t.chk = 0 := by
 unfold Tm.chk;rw [if_pos h, if_neg (by omega)]
theorem Tm.numT_chk (L : List Int) {t : Tm} (h : t.chk = 0) : (t.numT L).chk = 0 := by
 obtain ⟨h1, h2⟩ := Tm.chk_may h;exact Tm.chk_of (Tm.numT_may L t h1) (by rw [Tm.numT_deep]; exact h2)
theorem Tm.deep_arg {t a : Tm} (h : a ∈ t.args) : a.deep < t.deep := by
 have : ∀ l : List Tm, a ∈ l -> a.deep <= Tm.deeps l := by
  intro l;induction l with
  | nil => intro h; cases h
  | cons x l ih =>
   intro h;show _ <= max x.deep (Tm.deeps l)
   rcases List.mem_cons.1 h with rfl | h
   · omega
   · have := ih h; omega
 have := this _ h;rw [Tm.deep_eq t];omega
theorem Tm.may_arg {t a : Tm} (h : t.may = true) (ha : a ∈ t.args) : a.may = true := by
 rw [Tm.may_eq] at h;unfold mayK at h;have none : ∀ {q : Prop}, t.args = [] -> q := fun e => by rw [e] at ha; cases ha
 split at h
 · simp at h; exact none h.2.2
 split at h
 · simp at h; exact none h.2.2
 split at h
 · simp at h; exact none h.2
 split at h
 · simp at h
   have h5 := h.2.2.2.2;rw [Tm.mays_all] at h5;exact List.all_eq_true.1 h5 a ha
 · cases h
theorem Tm.chk_arg {t a : Tm} (h : t.chk = 0) (ha : a ∈ t.args) : a.chk = 0 := by
 obtain ⟨h1, h2⟩ := Tm.chk_may h;have := Tm.deep_arg ha;exact Tm.chk_of (Tm.may_arg h1 ha) (by omega)
structure Cl where
 head : Tm
 body : List Tm
 vars : Int
def Cl.none : Cl := ⟨.mk 0 ⟨#[]⟩ 0 [], [], 0⟩
def Tm.goalsE (t : Tm) : List Tm × Int := if t.chk ≠ 0 then ([], t.chk) else if t.body.all Tm.goal = true then (t.body, 0) else ([], 80)
def Tm.chead (t : Tm) : Tm := if t.two [58, 45] = true then t.args.headD t else t
def Tm.cbody (t : Tm) : List Tm := if t.two [58, 45] = true then (t.args.tail.headD t).body else []
def Tm.make (t : Tm) : Cl × Int :=
 if t.chk ≠ 0 then (Cl.none, t.chk)
 else if t.chead.head = true /\ t.cbody.all Tm.goal = true then (⟨t.chead.numT t.vars, t.cbody.map (Tm.numT t.vars), t.vars.length⟩, 0)
 else (Cl.none, 80)
def conj : List Tm -> Tm
 | [] => .mk 0 ⟨#[]⟩ 0 []
 | [t] => t
 | t :: u :: l => .mk 4 ⟨#[44]⟩ 0 [t, conj (u :: l)]
def Cl.tm (c : Cl) : Tm := if c.body = [] then c.head else .mk 4 ⟨#[58, 45]⟩ 0 [c.head, conj c.body]
def findGo (s : ByteArray) (n : Int) : Nat -> List Cl -> List Int
 | _, [] => []
 | k, c :: l => if c.head.name = s /\ (c.head.args.length : Int) = n then (k : Int) :: findGo s n (k + 1) l else findGo s n (k + 1) l
theorem ff_of {s : ByteArray} {l : List UInt8} (h : s.data.toList ≠ l) : (s.toList == l) = false := by rw [ByteArray.toList_eq]; exact beq_eq_false_iff_ne.2 h
theorem ft_of {s : ByteArray} {l : List UInt8} (h : s.data.toList = l) : (s.toList == l) = true := by rw [ByteArray.toList_eq, h]; exact beq_self_eq_true l
set_option maxHeartbeats 2000000 in
set_option maxRecDepth 100000 in
theorem cl_isPairC (k n : Int) (s : ByteArray) (ad : Option Addr) (len cap : Nat) (w : World) :
 Calls Tryz.prog 38 #[.agg #[.int .i64 k, .string s, .int .i64 n, .slice ad len cap], .string ⟨#[44]⟩] w fun e w' => e = .returned (.bool (twoK [44] k s.data.toList len)) /\ Below w.heap.size w w' := by
 have HB0 := Lib.hid (fun o : Obj => (Below.refl w.heap.size w).alloc (Nat.le_refl _) o);unfold twoK;by_cases hk : k = 4
 · subst hk;by_cases hs : s.data.toList = [44]
   · have hs1 := ft_of hs;rw [decide_eq_true hs];by_cases hl : len = 2
     · subst hl;clear hs;go_enter Tryz.func38, Tryz.ntmps38;go_wp2_with fail;go_ret;exact ⟨rfl, HB0.out _⟩
     · rw [decide_eq_false hl];have hl1 : ((len : Int) == 2) = false := by simp; omega
       clear hs hl;go_enter Tryz.func38, Tryz.ntmps38;go_wp2_with fail;go_ret;exact ⟨rfl, HB0.out _⟩
   · have hs1 := ff_of hs;rw [decide_eq_false hs];clear hs;go_enter Tryz.func38, Tryz.ntmps38;go_wp2_with fail;go_ret;exact ⟨rfl, HB0.out _⟩
 · have hk1 : (k == 4) = false := by simpa using hk
   rw [decide_eq_false hk];clear hk;go_enter Tryz.func38, Tryz.ntmps38;go_wp2_with fail;go_ret;exact ⟨rfl, HB0.out _⟩
set_option maxHeartbeats 2000000 in
set_option maxRecDepth 100000 in
theorem cl_isPairR (k n : Int) (s : ByteArray) (ad : Option Addr) (len cap : Nat) (w : World) :
 Calls Tryz.prog 38 #[.agg #[.int .i64 k, .string s, .int .i64 n, .slice ad len cap], .string ⟨#[58, 45]⟩] w fun e w' => e = .returned (.bool (twoK [58, 45] k s.data.toList len)) /\ Below w.heap.size w w' := by
 have HB0 := Lib.hid (fun o : Obj => (Below.refl w.heap.size w).alloc (Nat.le_refl _) o);unfold twoK;by_cases hk : k = 4
 · subst hk;by_cases hs : s.data.toList = [58, 45]
   · have hs1 := ft_of hs;rw [decide_eq_true hs];by_cases hl : len = 2
     · subst hl;clear hs;go_enter Tryz.func38, Tryz.ntmps38;go_wp2_with fail;go_ret;exact ⟨rfl, HB0.out _⟩
     · rw [decide_eq_false hl];have hl1 : ((len : Int) == 2) = false := by simp; omega
       clear hs hl;go_enter Tryz.func38, Tryz.ntmps38;go_wp2_with fail;go_ret;exact ⟨rfl, HB0.out _⟩
   · have hs1 := ff_of hs;rw [decide_eq_false hs];clear hs;go_enter Tryz.func38, Tryz.ntmps38;go_wp2_with fail;go_ret;exact ⟨rfl, HB0.out _⟩
 · have hk1 : (k == 4) = false := by simpa using hk
   rw [decide_eq_false hk];clear hk;go_enter Tryz.func38, Tryz.ntmps38;go_wp2_with fail;go_ret;exact ⟨rfl, HB0.out _⟩
theorem dec_int (n k : Nat) : decide (n = k) = ((n : Int) == (k : Int)) := by
 by_cases h : n = k
 · rw [decide_eq_true h, h]; exact (beq_self_eq_true _).symm
 · rw [decide_eq_false h]; exact (beq_eq_false_iff_ne.2 (by omega)).symm
set_option maxHeartbeats 4000000 in
set_option maxRecDepth 100000 in
theorem cl_isLacking (s : ByteArray) (n : Nat) (w : World) :
 Calls Tryz.prog 75 #[.string s, .int .i64 (n : Int)] w fun e w' => e = .returned (.bool (lackL s.data.toList n)) /\ w = w' := by
 obtain ⟨c1, g1⟩ : ∃ b, ((n : Int) == 1) = b := ⟨_, rfl⟩;obtain ⟨c2, g2⟩ : ∃ b, ((n : Int) == 2) = b := ⟨_, rfl⟩;have d1 : decide (n = 1) = c1 := (dec_int n 1).trans g1;have d2 : decide (n = 2) = c2 := (dec_int n 2).trans g2;by_cases h0 : s.data.toList = [44]
 · have f0 := ft_of h0;rw [h0, show lackL [44] n = c2 from by unfold lackL; rw [d1, d2]; cases c1 <;> cases c2 <;> rfl];clear d1 d2 h0;go_enter Tryz.func75, Tryz.ntmps75;go_wp2_with fail;go_ret;exact ⟨rfl, rfl⟩
 have f0 := ff_of h0;by_cases h1 : s.data.toList = [59]
 · have f1 := ft_of h1;rw [h1, show lackL [59] n = c2 from by unfold lackL; rw [d1, d2]; cases c1 <;> cases c2 <;> rfl];clear d1 d2 h0 h1;go_enter Tryz.func75, Tryz.ntmps75;go_wp2_with fail;go_ret;exact ⟨rfl, rfl⟩
 have f1 := ff_of h1;by_cases h2 : s.data.toList = [45, 62]
 · have f2 := ft_of h2;rw [h2, show lackL [45, 62] n = c2 from by unfold lackL; rw [d1, d2]; cases c1 <;> cases c2 <;> rfl];clear d1 d2 h0 h1 h2;go_enter Tryz.func75, Tryz.ntmps75;go_wp2_with fail;go_ret;exact ⟨rfl, rfl⟩
 have f2 := ff_of h2;by_cases h3 : s.data.toList = [58, 45]
 · have f3 := ft_of h3;rw [h3, show lackL [58, 45] n = (c1 || c2) from by unfold lackL; rw [d1, d2]; cases c1 <;> cases c2 <;> rfl];clear d1 d2 h0 h1 h2 h3;cases c1
   all_goals
    go_enter Tryz.func75, Tryz.ntmps75;go_wp2_with fail;go_ret;exact ⟨rfl, rfl⟩
 have f3 := ff_of h3;by_cases h4 : s.data.toList = [92, 43]
 · have f4 := ft_of h4;rw [h4, show lackL [92, 43] n = c1 from by unfold lackL; rw [d1, d2]; cases c1 <;> cases c2 <;> rfl];clear d1 d2 h0 h1 h2 h3 h4;go_enter Tryz.func75, Tryz.ntmps75;go_wp2_with fail;go_ret;exact ⟨rfl, rfl⟩
 have f4 := ff_of h4;by_cases h5 : s.data.toList = [63, 45]
 · have f5 := ft_of h5;rw [h5, show lackL [63, 45] n = c1 from by unfold lackL; rw [d1, d2]; cases c1 <;> cases c2 <;> rfl];clear d1 d2 h0 h1 h2 h3 h4 h5;go_enter Tryz.func75, Tryz.ntmps75;go_wp2_with fail;go_ret;exact ⟨rfl, rfl⟩
 have f5 := ff_of h5;rw [show lackL s.data.toList n = false from by unfold lackL; rw [decide_eq_false h4, decide_eq_false h3, decide_eq_false h5, decide_eq_false h0, decide_eq_false h1, decide_eq_false h2]; cases decide (n = 1) <;> cases decide (n = 2) <;> rfl];clear d1 d2 h0 h1 h2 h3 h4 h5;go_enter Tryz.func75, Tryz.ntmps75;go_wp2_with fail;go_ret;exact ⟨rfl, rfl⟩
theorem blt_any (s : List UInt8) (n a : Int) (ha : 0 <= a /\ a <= 3) (h0 : bltL s 0 = (0 == a)) (h1 : bltL s 1 = (1 == a)) (h2 : bltL s 2 = (2 == a)) (h3 : bltL s 3 = (3 == a)) : bltL s n = (n == a) := by
 by_cases e0 : n = 0
 · rw [e0]; exact h0
 by_cases e1 : n = 1
 · rw [e1]; exact h1
 by_cases e2 : n = 2
 · rw [e2]; exact h2
 by_cases e3 : n = 3
 · rw [e3]; exact h3
 unfold bltL bltN;rw [if_neg e0, if_neg e1, if_neg e2, if_neg e3, beq_eq_false_iff_ne.2 (by omega)];rfl
theorem blt_0 (n : Int) : bltL [116, 114, 117, 101] n = (n == 0) := blt_any _ n 0 (by decide) (by decide) (by decide) (by decide) (by decide)
theorem blt_1 (n : Int) : bltL [102, 97, 105, 108] n = (n == 0) := blt_any _ n 0 (by decide) (by decide) (by decide) (by decide) (by decide)
theorem blt_2 (n : Int) : bltL [33] n = (n == 0) := blt_any _ n 0 (by decide) (by decide) (by decide) (by decide) (by decide)
theorem blt_3 (n : Int) : bltL [118, 97, 114] n = (n == 1) := blt_any _ n 1 (by decide) (by decide) (by decide) (by decide) (by decide)
theorem blt_4 (n : Int) : bltL [110, 111, 110, 118, 97, 114] n = (n == 1) := blt_any _ n 1 (by decide) (by decide) (by decide) (by decide) (by decide)
theorem blt_5 (n : Int) : bltL [97, 116, 111, 109] n = (n == 1) := blt_any _ n 1 (by decide) (by decide) (by decide) (by decide) (by decide)
theorem blt_6 (n : Int) : bltL [105, 110, 116, 101, 103, 101, 114] n = (n == 1) := blt_any _ n 1 (by decide) (by decide) (by decide) (by decide) (by decide)
theorem blt_7 (n : Int) : bltL [97, 116, 111, 109, 105, 99] n = (n == 1) := blt_any _ n 1 (by decide) (by decide) (by decide) (by decide) (by decide)
theorem blt_8 (n : Int) : bltL [99, 111, 109, 112, 111, 117, 110, 100] n = (n == 1) := blt_any _ n 1 (by decide) (by decide) (by decide) (by decide) (by decide)
theorem blt_9 (n : Int) : bltL [61] n = (n == 2) := blt_any _ n 2 (by decide) (by decide) (by decide) (by decide) (by decide)
theorem blt_10 (n : Int) : bltL [92, 61] n = (n == 2) := blt_any _ n 2 (by decide) (by decide) (by decide) (by decide) (by decide)
theorem blt_11 (n : Int) : bltL [61, 61] n = (n == 2) := blt_any _ n 2 (by decide) (by decide) (by decide) (by decide) (by decide)
theorem blt_12 (n : Int) : bltL [92, 61, 61] n = (n == 2) := blt_any _ n 2 (by decide) (by decide) (by decide) (by decide) (by decide)
theorem blt_13 (n : Int) : bltL [64, 60] n = (n == 2) := blt_any _ n 2 (by decide) (by decide) (by decide) (by decide) (by decide)
theorem blt_14 (n : Int) : bltL [64, 61, 60] n = (n == 2) := blt_any _ n 2 (by decide) (by decide) (by decide) (by decide) (by decide)
theorem blt_15 (n : Int) : bltL [64, 62] n = (n == 2) := blt_any _ n 2 (by decide) (by decide) (by decide) (by decide) (by decide)
theorem blt_16 (n : Int) : bltL [64, 62, 61] n = (n == 2) := blt_any _ n 2 (by decide) (by decide) (by decide) (by decide) (by decide)
theorem blt_17 (n : Int) : bltL [61, 46, 46] n = (n == 2) := blt_any _ n 2 (by decide) (by decide) (by decide) (by decide) (by decide)
theorem blt_18 (n : Int) : bltL [105, 115] n = (n == 2) := blt_any _ n 2 (by decide) (by decide) (by decide) (by decide) (by decide)
theorem blt_19 (n : Int) : bltL [61, 58, 61] n = (n == 2) := blt_any _ n 2 (by decide) (by decide) (by decide) (by decide) (by decide)
theorem blt_20 (n : Int) : bltL [61, 92, 61] n = (n == 2) := blt_any _ n 2 (by decide) (by decide) (by decide) (by decide) (by decide)
theorem blt_21 (n : Int) : bltL [60] n = (n == 2) := blt_any _ n 2 (by decide) (by decide) (by decide) (by decide) (by decide)
theorem blt_22 (n : Int) : bltL [61, 60] n = (n == 2) := blt_any _ n 2 (by decide) (by decide) (by decide) (by decide) (by decide)
theorem blt_23 (n : Int) : bltL [62] n = (n == 2) := blt_any _ n 2 (by decide) (by decide) (by decide) (by decide) (by decide)
theorem blt_24 (n : Int) : bltL [62, 61] n = (n == 2) := blt_any _ n 2 (by decide) (by decide) (by decide) (by decide) (by decide)
theorem blt_25 (n : Int) : bltL [102, 117, 110, 99, 116, 111, 114] n = (n == 3) := blt_any _ n 3 (by decide) (by decide) (by decide) (by decide) (by decide)
theorem blt_26 (n : Int) : bltL [97, 114, 103] n = (n == 3) := blt_any _ n 3 (by decide) (by decide) (by decide) (by decide) (by decide)
theorem blt_no {s : List UInt8} {n : Int} (h0 : s ≠ [116, 114, 117, 101]) (h1 : s ≠ [102, 97, 105, 108]) (h2 : s ≠ [33]) (h3 : s ≠ [118, 97, 114]) (h4 : s ≠ [110, 111, 110, 118, 97, 114]) (h5 : s ≠ [97, 116, 111, 109]) (h6 : s ≠ [105, 110, 116, 101, 103, 101, 114]) (h7 : s ≠ [97, 116, 111, 109, 105, 99]) (h8 : s ≠ [99, 111, 109, 112, 111, 117, 110, 100]) (h9 : s ≠ [61]) (h10 : s ≠ [92, 61]) (h11 : s ≠ [61, 61]) (h12 : s ≠ [92, 61, 61]) (h13 : s ≠ [64, 60]) (h14 : s ≠ [64, 61, 60]) (h15 : s ≠ [64, 62]) (h16 : s ≠ [64, 62, 61]) (h17 : s ≠ [61, 46, 46]) (h18 : s ≠ [105, 115]) (h19 : s ≠ [61, 58, 61]) (h20 : s ≠ [61, 92, 61]) (h21 : s ≠ [60]) (h22 : s ≠ [61, 60]) (h23 : s ≠ [62]) (h24 : s ≠ [62, 61]) (h25 : s ≠ [102, 117, 110, 99, 116, 111, 114]) (h26 : s ≠ [97, 114, 103]) : bltL s n = false := by
 unfold bltL bltN;by_cases e0 : n = 0
 · rw [if_pos e0]; simp [h0.symm, h1.symm, h2.symm]
 by_cases e1 : n = 1
 · rw [if_neg e0, if_pos e1]; simp [h3.symm, h4.symm, h5.symm, h6.symm, h7.symm, h8.symm]
 by_cases e2 : n = 2
 · rw [if_neg e0, if_neg e1, if_pos e2]; simp [h9.symm, h10.symm, h11.symm, h12.symm, h13.symm, h14.symm, h15.symm, h16.symm, h17.symm, h18.symm, h19.symm, h20.symm, h21.symm, h22.symm, h23.symm, h24.symm]
 by_cases e3 : n = 3
 · rw [if_neg e0, if_neg e1, if_neg e2, if_pos e3]; simp [h25.symm, h26.symm]
 rw [if_neg e0, if_neg e1, if_neg e2, if_neg e3]; rfl
set_option maxHeartbeats 20000000 in
set_option maxRecDepth 100000 in
theorem cl_Builtin (s : ByteArray) (n : Int) (w : World) :
 Calls Tryz.prog 10 #[.string s, .int .i64 n] w fun e w' => e = .returned (.bool (bltL s.data.toList n)) /\ w = w' := by
 by_cases h0 : s.data.toList = [116, 114, 117, 101]
 · have f0 := ft_of h0;rw [h0, blt_0];clear h0;go_enter Tryz.func10, Tryz.ntmps10;go_wp2_with fail;go_ret;exact ⟨rfl, rfl⟩
 have f0 := ff_of h0;by_cases h1 : s.data.toList = [102, 97, 105, 108]
 · have f1 := ft_of h1;rw [h1, blt_1];clear h0 h1;go_enter Tryz.func10, Tryz.ntmps10;go_wp2_with fail;go_ret;exact ⟨rfl, rfl⟩
 have f1 := ff_of h1;by_cases h2 : s.data.toList = [33]
 · have f2 := ft_of h2;rw [h2, blt_2];clear h0 h1 h2;go_enter Tryz.func10, Tryz.ntmps10;go_wp2_with fail;go_ret;exact ⟨rfl, rfl⟩
 have f2 := ff_of h2;by_cases h3 : s.data.toList = [118, 97, 114]
 · have f3 := ft_of h3;rw [h3, blt_3];clear h0 h1 h2 h3;go_enter Tryz.func10, Tryz.ntmps10;go_wp2_with fail;go_ret;exact ⟨rfl, rfl⟩
 have f3 := ff_of h3;by_cases h4 : s.data.toList = [110, 111, 110, 118, 97, 114]
 · have f4 := ft_of h4;rw [h4, blt_4];clear h0 h1 h2 h3 h4;go_enter Tryz.func10, Tryz.ntmps10;go_wp2_with fail;go_ret;exact ⟨rfl, rfl⟩
 have f4 := ff_of h4;by_cases h5 : s.data.toList = [97, 116, 111, 109]
 · have f5 := ft_of h5;rw [h5, blt_5];clear h0 h1 h2 h3 h4 h5;go_enter Tryz.func10, Tryz.ntmps10;go_wp2_with fail;go_ret;exact ⟨rfl, rfl⟩
 have f5 := ff_of h5;by_cases h6 : s.data.toList = [105, 110, 116, 101, 103, 101, 114]
 · have f6 := ft_of h6;rw [h6, blt_6];clear h0 h1 h2 h3 h4 h5 h6;go_enter Tryz.func10, Tryz.ntmps10;go_wp2_with fail;go_ret;exact ⟨rfl, rfl⟩
 have f6 := ff_of h6;by_cases h7 : s.data.toList = [97, 116, 111, 109, 105, 99]
 · have f7 := ft_of h7;rw [h7, blt_7];clear h0 h1 h2 h3 h4 h5 h6 h7;go_enter Tryz.func10, Tryz.ntmps10;go_wp2_with fail;go_ret;exact ⟨rfl, rfl⟩
 have f7 := ff_of h7;by_cases h8 : s.data.toList = [99, 111, 109, 112, 111, 117, 110, 100]
 · have f8 := ft_of h8;rw [h8, blt_8];clear h0 h1 h2 h3 h4 h5 h6 h7 h8;go_enter Tryz.func10, Tryz.ntmps10;go_wp2_with fail;go_ret;exact ⟨rfl, rfl⟩
 have f8 := ff_of h8;by_cases h9 : s.data.toList = [61]
 · have f9 := ft_of h9;rw [h9, blt_9];clear h0 h1 h2 h3 h4 h5 h6 h7 h8 h9;go_enter Tryz.func10, Tryz.ntmps10;go_wp2_with fail;go_ret;exact ⟨rfl, rfl⟩
 have f9 := ff_of h9;by_cases h10 : s.data.toList = [92, 61]
 · have f10 := ft_of h10;rw [h10, blt_10];clear h0 h1 h2 h3 h4 h5 h6 h7 h8 h9 h10;go_enter Tryz.func10, Tryz.ntmps10;go_wp2_with fail;go_ret;exact ⟨rfl, rfl⟩
 have f10 := ff_of h10;by_cases h11 : s.data.toList = [61, 61]
 · have f11 := ft_of h11;rw [h11, blt_11];clear h0 h1 h2 h3 h4 h5 h6 h7 h8 h9 h10 h11;go_enter Tryz.func10, Tryz.ntmps10;go_wp2_with fail;go_ret;exact ⟨rfl, rfl⟩
 have f11 := ff_of h11;by_cases h12 : s.data.toList = [92, 61, 61]
 · have f12 := ft_of h12;rw [h12, blt_12];clear h0 h1 h2 h3 h4 h5 h6 h7 h8 h9 h10 h11 h12;go_enter Tryz.func10, Tryz.ntmps10;go_wp2_with fail;go_ret;exact ⟨rfl, rfl⟩
 have f12 := ff_of h12;by_cases h13 : s.data.toList = [64, 60]
 · have f13 := ft_of h13;rw [h13, blt_13];clear h0 h1 h2 h3 h4 h5 h6 h7 h8 h9 h10 h11 h12 h13;go_enter Tryz.func10, Tryz.ntmps10;go_wp2_with fail;go_ret;exact ⟨rfl, rfl⟩
 have f13 := ff_of h13;by_cases h14 : s.data.toList = [64, 61, 60]
 · have f14 := ft_of h14;rw [h14, blt_14];clear h0 h1 h2 h3 h4 h5 h6 h7 h8 h9 h10 h11 h12 h13 h14;go_enter Tryz.func10, Tryz.ntmps10;go_wp2_with fail;go_ret;exact ⟨rfl, rfl⟩
 have f14 := ff_of h14;by_cases h15 : s.data.toList = [64, 62]
 · have f15 := ft_of h15;rw [h15, blt_15];clear h0 h1 h2 h3 h4 h5 h6 h7 h8 h9 h10 h11 h12 h13 h14 h15;go_enter Tryz.func10, Tryz.ntmps10;go_wp2_with fail;go_ret;exact ⟨rfl, rfl⟩
 have f15 := ff_of h15;by_cases h16 : s.data.toList = [64, 62, 61]
 · have f16 := ft_of h16;rw [h16, blt_16];clear h0 h1 h2 h3 h4 h5 h6 h7 h8 h9 h10 h11 h12 h13 h14 h15 h16;go_enter Tryz.func10, Tryz.ntmps10;go_wp2_with fail;go_ret;exact ⟨rfl, rfl⟩
 have f16 := ff_of h16;by_cases h17 : s.data.toList = [61, 46, 46]
 · have f17 := ft_of h17;rw [h17, blt_17];clear h0 h1 h2 h3 h4 h5 h6 h7 h8 h9 h10 h11 h12 h13 h14 h15 h16 h17;go_enter Tryz.func10, Tryz.ntmps10;go_wp2_with fail;go_ret;exact ⟨rfl, rfl⟩
 have f17 := ff_of h17;by_cases h18 : s.data.toList = [105, 115]
 · have f18 := ft_of h18;rw [h18, blt_18];clear h0 h1 h2 h3 h4 h5 h6 h7 h8 h9 h10 h11 h12 h13 h14 h15 h16 h17 h18;go_enter Tryz.func10, Tryz.ntmps10;go_wp2_with fail;go_ret;exact ⟨rfl, rfl⟩
 have f18 := ff_of h18;by_cases h19 : s.data.toList = [61, 58, 61]
 · have f19 := ft_of h19;rw [h19, blt_19];clear h0 h1 h2 h3 h4 h5 h6 h7 h8 h9 h10 h11 h12 h13 h14 h15 h16 h17 h18 h19;go_enter Tryz.func10, Tryz.ntmps10;go_wp2_with fail;go_ret;exact ⟨rfl, rfl⟩
 have f19 := ff_of h19;by_cases h20 : s.data.toList = [61, 92, 61]
 · have f20 := ft_of h20;rw [h20, blt_20];clear h0 h1 h2 h3 h4 h5 h6 h7 h8 h9 h10 h11 h12 h13 h14 h15 h16 h17 h18 h19 h20;go_enter Tryz.func10, Tryz.ntmps10;go_wp2_with fail;go_ret;exact ⟨rfl, rfl⟩
 have f20 := ff_of h20;by_cases h21 : s.data.toList = [60]
 · have f21 := ft_of h21;rw [h21, blt_21];clear h0 h1 h2 h3 h4 h5 h6 h7 h8 h9 h10 h11 h12 h13 h14 h15 h16 h17 h18 h19 h20 h21;go_enter Tryz.func10, Tryz.ntmps10;go_wp2_with fail;go_ret;exact ⟨rfl, rfl⟩
 have f21 := ff_of h21;by_cases h22 : s.data.toList = [61, 60]
 · have f22 := ft_of h22;rw [h22, blt_22];clear h0 h1 h2 h3 h4 h5 h6 h7 h8 h9 h10 h11 h12 h13 h14 h15 h16 h17 h18 h19 h20 h21 h22;go_enter Tryz.func10, Tryz.ntmps10;go_wp2_with fail;go_ret;exact ⟨rfl, rfl⟩
 have f22 := ff_of h22;by_cases h23 : s.data.toList = [62]
 · have f23 := ft_of h23;rw [h23, blt_23];clear h0 h1 h2 h3 h4 h5 h6 h7 h8 h9 h10 h11 h12 h13 h14 h15 h16 h17 h18 h19 h20 h21 h22 h23;go_enter Tryz.func10, Tryz.ntmps10;go_wp2_with fail;go_ret;exact ⟨rfl, rfl⟩
 have f23 := ff_of h23;by_cases h24 : s.data.toList = [62, 61]
 · have f24 := ft_of h24;rw [h24, blt_24];clear h0 h1 h2 h3 h4 h5 h6 h7 h8 h9 h10 h11 h12 h13 h14 h15 h16 h17 h18 h19 h20 h21 h22 h23 h24;go_enter Tryz.func10, Tryz.ntmps10;go_wp2_with fail;go_ret;exact ⟨rfl, rfl⟩
 have f24 := ff_of h24;by_cases h25 : s.data.toList = [102, 117, 110, 99, 116, 111, 114]
 · have f25 := ft_of h25;rw [h25, blt_25];clear h0 h1 h2 h3 h4 h5 h6 h7 h8 h9 h10 h11 h12 h13 h14 h15 h16 h17 h18 h19 h20 h21 h22 h23 h24 h25;go_enter Tryz.func10, Tryz.ntmps10;go_wp2_with fail;go_ret;exact ⟨rfl, rfl⟩
 have f25 := ff_of h25;by_cases h26 : s.data.toList = [97, 114, 103]
 · have f26 := ft_of h26;rw [h26, blt_26];clear h0 h1 h2 h3 h4 h5 h6 h7 h8 h9 h10 h11 h12 h13 h14 h15 h16 h17 h18 h19 h20 h21 h22 h23 h24 h25 h26;go_enter Tryz.func10, Tryz.ntmps10;go_wp2_with fail;go_ret;exact ⟨rfl, rfl⟩
 have f26 := ff_of h26;rw [blt_no h0 h1 h2 h3 h4 h5 h6 h7 h8 h9 h10 h11 h12 h13 h14 h15 h16 h17 h18 h19 h20 h21 h22 h23 h24 h25 h26];clear h0 h1 h2 h3 h4 h5 h6 h7 h8 h9 h10 h11 h12 h13 h14 h15 h16 h17 h18 h19 h20 h21 h22 h23 h24 h25 h26;go_enter Tryz.func10, Tryz.ntmps10;go_wp2_with fail;go_ret;exact ⟨rfl, rfl⟩
set_option maxHeartbeats 4000000 in
set_option maxRecDepth 100000 in
theorem cl_isGoal (k n : Int) (s : ByteArray) (ad : Option Addr) (len cap : Nat) (w : World) :
 Calls Tryz.prog 57 #[.agg #[.int .i64 k, .string s, .int .i64 n, .slice ad len cap]] w fun e w' => e = .returned (.bool (goalK k s.data.toList len)) /\ Below w.heap.size w w' := by
 have HB0 := Lib.hid (fun o : Obj => (Below.refl w.heap.size w).alloc (Nat.le_refl _) o);have HL := Lib.hid (fun W => cl_isLacking s len W);unfold goalK;generalize lackL s.data.toList len = lk at *;by_cases h2 : k = 2
 · subst h2;cases lk
   all_goals
    go_enter Tryz.func57, Tryz.ntmps57;go_wp2_with fail;refine (HL.out _).mono ?_; rintro e w1 ⟨rfl, rfl⟩;go_wp2_with fail;go_ret;exact ⟨rfl, HB0.out _⟩
 · have e2 : (k == 2) = false := by simpa using h2
   by_cases h4 : k = 4
   · subst h4;clear h2;cases lk
     all_goals
      go_enter Tryz.func57, Tryz.ntmps57;go_wp2_with fail;refine (HL.out _).mono ?_; rintro e w1 ⟨rfl, rfl⟩;go_wp2_with fail;go_ret;exact ⟨rfl, HB0.out _⟩
   · have e4 : (k == 4) = false := by simpa using h4
     rw [decide_eq_false h2, decide_eq_false h4];clear h2 h4;go_enter Tryz.func57, Tryz.ntmps57;go_wp2_with fail;go_ret;exact ⟨rfl, HB0.out _⟩
set_option maxHeartbeats 4000000 in
set_option maxRecDepth 100000 in
theorem cl_isHead (k n : Int) (s : ByteArray) (ad : Option Addr) (len cap : Nat) (w : World) :
 Calls Tryz.prog 39 #[.agg #[.int .i64 k, .string s, .int .i64 n, .slice ad len cap]] w fun e w' => e = .returned (.bool (goalK k s.data.toList len && !bltL s.data.toList len)) /\ Below w.heap.size w w' := by
 have HB0 := Lib.hid (fun o : Obj => (Below.refl w.heap.size w).alloc (Nat.le_refl _) o);have HL := Lib.hid (fun W => cl_isGoal k n s ad len cap W);have HT := Lib.hid (fun W => cl_Builtin s len W);generalize goalK k s.data.toList len = lk at *;generalize bltL s.data.toList len = bt at *;cases lk with
 | false =>
  go_enter Tryz.func39, Tryz.ntmps39;go_wp2_with fail;refine (HL.out _).mono ?_; rintro e w1 ⟨rfl, hb⟩;have HB1 := Lib.hid ((HB0.out _).trans (hb.mono (by simp)));obtain ⟨hc, hf⟩ := bcell_alloc hb;clear hb;go_wp2_with fail;go_ret;exact ⟨rfl, HB1.out⟩
 | true =>
  cases bt
  all_goals
   go_enter Tryz.func39, Tryz.ntmps39;go_wp2_with fail;refine (HL.out _).mono ?_; rintro e w1 ⟨rfl, hb⟩;have HB1 := Lib.hid ((HB0.out _).trans (hb.mono (by simp)));obtain ⟨hc, hf⟩ := bcell_alloc hb;clear hb;go_wp2_with fail;refine (HT.out _).mono ?_; rintro e w2 ⟨rfl, rfl⟩;go_wp2_with fail;go_ret;exact ⟨rfl, HB1.out⟩
end Go.Proofs.YtinefdlkajnomaaGreatDoor
namespace Go.Proofs.YtinefdlkajnomaaGreatDoor
open Go.RowKit Go.Maps
theorem num_law : Keyed Tryz.prog 2 := int_keyed Tryz.underlying2
theorem num_zero (w : World) : (zeroValue 2).run Tryz.prog w = .ok (.int .i64 0) w := by kernel_rfl
theorem num_wf {a : Int} (h : In64 a) : (Lit.int .i64 a).wf = true := by
 have e1 : IntKind.i64.min = -9223372036854775808 := rfl;have e2 : IntKind.i64.max = 9223372036854775807 := rfl;simp [Lit.wf, e1, e2]
 exact h
structure NHolds (D : DataW Unit) (L : List Int) : Prop where
 tidy : Tidy D
 has : ∀ a, Maps.has D (.int .i64 a) = decide (a ∈ L)
 at_ : ∀ a, a ∈ L -> D.atKey (.int .i64 a) (.lit (.int .i64 0)) = .lit (.int .i64 (placeL L a))
 size : Maps.size D = L.length
def NMap (w : World) (b : Nat) (L : List Int) : Prop := ∃ D : DataW Unit, w.ownsMap Tryz.prog 2 (plainElem Tryz.prog 2) b L.length D /\ NHolds D L
theorem NMap.new (w : World) : NMap (w.alloc (.map #[] 0)) w.heap.size [] :=
 ⟨.map [], World.ownsMap_made _ _ _ _, ⟨tidy_empty, fun a => by simp [has_eq], (fun a h => by cases h), rfl⟩⟩
theorem NHolds.put {D : DataW Unit} {L : List Int} (h : NHolds D L) {a : Int} (hn : a ∉ L) : NHolds (D.put (.int .i64 a) (.lit (.int .i64 (L.length : Int)))) (L ++ [a]) := by
 have hk : WideAt.IsKeyLit (.int .i64 a) := trivial;refine ⟨h.tidy.put hk _, fun a' => ?_, fun a' hm => ?_, ?_⟩
 · by_cases e : a' = a
   · subst e;rw [has_put_same h.tidy.isMap hk];simp
   · rw [has_put_other (by intro e'; injection e'; contradiction), h.has];simp [e]
 · rcases List.mem_append.1 hm with hm | hm
   · have e : a' ≠ a := fun e => hn (e ▸ hm);rw [atKey_put_other (by intro e'; injection e'; contradiction), h.at_ a' hm, placeL_app L [a] a' hm]
   · obtain rfl := List.mem_singleton.1 hm;rw [atKey_put_same h.tidy.isMap hk, placeL_snoc L a' hn]
 · rw [size_put h.tidy, h.has, decide_eq_false hn, h.size]; simp
theorem NMap.at {w w' : World} {b : Nat} {L : List Int} (h : NMap w b L) (he : w'.heap[b]? = w.heap[b]?) : NMap w' b L := by
 obtain ⟨D, ⟨es, clock, hb, F, hs, hD⟩, hH⟩ := h;exact ⟨D, ⟨es, clock, he.trans hb, F, hs, hD⟩, hH⟩
theorem NMap.lt {w : World} {b : Nat} {L : List Int} (h : NMap w b L) : b < w.heap.size := by
 obtain ⟨D, ⟨es, clock, hb, F, hs, hD⟩, hH⟩ := h;exact (Array.getElem?_eq_some_iff.1 hb).1
theorem Turn.grown {w w' : World} {b : Nat} (h : w.grownBy w' (some b)) : Turn (fun j => j = b) w w' :=
 ⟨h.os, h.tape, h.output, h.size, fun k hk hn => h.block k hk (fun e => hn (Option.some.inj e))⟩
theorem onceGo_old {L : List Int} {a : Int} (h : a ∈ L) : onceGo L [a] = L := by
 show (if hasL L a then onceGo L [] else _) = L
 rw [(hasL_iff L a).2 h]; rfl
theorem onceGo_new {L : List Int} {a : Int} (h : a ∉ L) : onceGo L [a] = L ++ [a] := by
 show (if hasL L a then _ else onceGo (L ++ [a]) []) = _
 have : hasL L a = false := by cases e : hasL L a with
  | false => rfl
  | true => exact absurd ((hasL_iff L a).1 e) h
 rw [this]; rfl
set_option maxRecDepth 100000 in
set_option maxHeartbeats 1000000 in
theorem cl_number (w : World) (b : Nat) (L : List Int) (a : Int) (h : NMap w b L) (ha : In64 a) (hn : L.length < 10000000) :
 Calls Tryz.prog 58 #[.map (some b), .int .i64 a] w fun e w' => e = .returned (.int .i64 (placeL (onceGo L [a]) a)) /\ NMap w' b (onceGo L [a]) /\ Turn (fun j => j = b) w w' := by
 obtain ⟨D, hown, hH⟩ := h;have hhas := hH.has a;have hka := keyOf_int_mk Tryz.underlying2 (num_wf ha);by_cases hm : a ∈ L
 · rw [onceGo_old hm];rw [decide_eq_true hm] at hhas;have HAT := Lib.hid (hH.at_ a hm);have HM := Lib.hid (show NMap w b L from ⟨D, hown, hH⟩);clear hH hm;generalize placeL L a = p at *;go_enter Tryz.func58, Tryz.ntmps58;go_wp2_with (first
    | (at_lookup; refine wpList_lookup_own_ok_int _ rfl _ _ 63 rfl 2 2 .i64 num_law Tryz.underlying63 Tryz.underlying2 (num_zero _) b _ D rfl hown _ _ rfl hka ?_; intro c0 hat hwc; rw [hhas]; obtain rfl : c0 = p := (by have h := hat.symm.trans HAT.out; injection h with h; injection h))
    | fail)
   go_ret;exact ⟨rfl, HM.out, Turn.refl _ _⟩
 · rw [onceGo_new hm, placeL_snoc L a hm];rw [decide_eq_false hm] at hhas;have HH := Lib.hid (hH.put hm);have HS := Lib.hid hH.size;have hls : Maps.size D = L.length := hH.size;have hva := plainElem_int (H := Unit) Tryz.underlying2 (num_wf (a := (L.length : Int)) ⟨by omega, by omega⟩);clear hH hm;go_enter Tryz.func58, Tryz.ntmps58;go_wp2_with (first
    | (at_lookup; refine wpList_lookup_own_ok_int _ rfl _ _ 63 rfl 2 2 .i64 num_law Tryz.underlying63 Tryz.underlying2 (num_zero _) b _ D rfl hown _ _ rfl hka ?_; intro c0 hat hwc; rw [hhas])
    | (at_len; refine wpList_len_own _ rfl _ 63 rfl 2 2 Tryz.underlying63 _ b _ D rfl hown ?_; rw [hls])
    | (at_mapUpdate; refine wpList_mapUpdate_own _ rfl _ _ _ 63 rfl 2 2 num_law Tryz.underlying63 _ b _ D rfl hown (by unfold maxLen; omega) _ _ _ rfl rfl hka _ [] hva ?_; intro w1 hown1 hgrow1))
   go_ret;exact ⟨rfl, ⟨_, by rw [List.length_append]; exact hown1, HH.out⟩, Turn.grown hgrow1⟩
theorem numT_list (L R : List Int) (ts : List Tm) (h : ∀ x ∈ ts.flatMap Tm.places, x ∈ L) : ts.map (Tm.numT (L ++ R)) = ts.map (Tm.numT L) :=
 List.map_congr_left fun a ha => Tm.numT_stay L R a fun x hx => h x (List.mem_flatMap.2 ⟨a, ha, hx⟩)
theorem onceGo_list (L l m : List Int) : ∃ R, onceGo (onceGo L l) m = onceGo L l ++ R := onceGo_more m (onceGo L l)
theorem numT_step (L : List Int) (ts : List Tm) (k : Nat) (hk : k < ts.length) :
 (ts.take (k + 1)).map (Tm.numT (onceGo L ((ts.take (k + 1)).flatMap Tm.places))) =
   (ts.take k).map (Tm.numT (onceGo L ((ts.take k).flatMap Tm.places))) ++ [ts[k].numT (onceGo (onceGo L ((ts.take k).flatMap Tm.places)) ts[k].places)] := by
 rw [flat_step Tm.places ts k hk, onceGo_two, List.take_succ_eq_append_getElem hk, List.map_append];obtain ⟨R, hR⟩ := onceGo_more ts[k].places (onceGo L ((ts.take k).flatMap Tm.places));congr 1
 rw [hR];exact numT_list _ R _ fun x hx => onceGo_in _ _ _ (.inr hx)
structure NIn (n₀ mb : Nat) (L0 : List Int) (ts : List Tm) (g cp : Nat) (C : Array Value) (w : World) (k : Nat) (W : World) : Prop where
 turn : Turn (fun j => j = mb) w W
 box : W.heap[w.heap.size]? = some (.cells C 26 (0, 0))
 res : W.heap[w.heap.size + 1]? = some (.cells #[.int .i64 0, .string ⟨#[]⟩, .int .i64 0, .slice none 0 0] 26 (0, 0))
 map : NMap W mb (onceGo L0 ((ts.take k).flatMap Tm.places))
 row : 0 < ts.length -> ∃ ys zs, W.ownsRow (w.heap.size + 2) 26 4 (.slice (some ⟨g, 0, none⟩) ts.length cp) ts.length (ys ++ zs) /\
  TRow W (fun b => w.heap.size + 2 <= b /\ b ≠ g) ys ((ts.take k).map (Tm.numT (onceGo L0 ((ts.take k).flatMap Tm.places)))) /\ TRow W (fun b => b < n₀) zs (ts.drop k)
theorem NIn.start {n₀ mb : Nat} {L0 : List Int} {ts : List Tm} {g cp : Nat} {w W1 W2 : World} {xs : List Value} (hn : n₀ <= w.heap.size) (hmb : mb < w.heap.size) (h1 : Turn (fun j => j = mb) w W1) (hs : w.heap.size + 2 <= W1.heap.size)
 (hq1 : W1.heap[w.heap.size + 1]? = some (.cells #[.int .i64 0, .string ⟨#[]⟩, .int .i64 0, .slice none 0 0] 26 (0, 0)))
 (hm : NMap W1 mb L0) (hb : Below W1.heap.size W1 W2) (hrow : 0 < ts.length -> W2.ownsRow W1.heap.size 26 4 (.slice (some ⟨g, 0, none⟩) ts.length cp) ts.length xs) (hx : TRow W1 (fun b => b < n₀) xs ts) (v : Value) (C' : Array Value)
 (hC' : (W2.setCell ⟨w.heap.size, 3, none⟩ v).heap[w.heap.size]? = some (.cells C' 26 (0, 0))) :
 NIn n₀ mb L0 ts g cp C' w 0 (W2.setCell ⟨w.heap.size, 3, none⟩ v) := by
 have hk : ∀ b, b ≠ w.heap.size -> b < W1.heap.size -> (W2.setCell ⟨w.heap.size, 3, none⟩ v).heap[b]? = W1.heap[b]? := fun b hne hlt => (Below.heap_setCell _ _ _ _ hne).trans (hb.block b hlt);have h2 : Turn (fun j => j = mb) w (W2.setCell ⟨w.heap.size, 3, none⟩ v) := by
  have := hb.size;refine ⟨hb.os.trans h1.os, hb.tape.trans h1.tape, hb.output.trans h1.output, by simp [World.setCell]; have := h1.size; omega, fun k hkk hne => (hk k (by omega) (by omega)).trans (h1.block k hkk hne)⟩
 refine ⟨h2, hC', (hk _ (by omega) (by omega)).trans hq1, (show NMap _ mb L0 from hm.at (hk _ (by omega) (by omega))), fun hp => ⟨[], xs, ?_, .nil, ?_⟩⟩
 · have hr := hrow hp;have hlt := hr.lt g rfl;exact ownsRow_low (ownsRow_block hr (Below.heap_setCell _ _ _ _ (show g ≠ w.heap.size by omega))) hs
 · exact hx.kept (fun b hp hlt => hk b (by omega) hlt) fun b h _ => h
theorem row_set4 {W : World} {B g n cap i : Nat} {ys zs : List Value} {a b c d : Value} (h : W.ownsRow B 26 4 (.slice (some ⟨g, 0, none⟩) n cap) n (ys ++ ([a, b, c, d] ++ zs))) (hy : ys.length = i * 4) (x y z u : Value) :
 ((((W.setCell ⟨g, i * 4, none⟩ x).setCell ⟨g, i * 4 + 1, none⟩ y).setCell ⟨g, i * 4 + 2, none⟩ z).setCell ⟨g, i * 4 + 3, none⟩ u).ownsRow B 26 4 (.slice (some ⟨g, 0, none⟩) n cap) n (ys ++ ([x, y, z, u] ++ zs)) := by
 have st : ∀ {W : World} {a b c d : Value} (j : Nat) (v : Value) (r : List Value), W.ownsRow B 26 4 (.slice (some ⟨g, 0, none⟩) n cap) n (ys ++ ([a, b, c, d] ++ zs)) -> j < 4 -> ([a, b, c, d] : List Value).set j v = r -> (W.setCell ⟨g, i * 4 + j, none⟩ v).ownsRow B 26 4 (.slice (some ⟨g, 0, none⟩) n cap) n (ys ++ (r ++ zs)) := fun j v r h hj hr => by
  have h2 := (h.stored (i * 4 + j) v).1;rw [List.set_append_right _ _ (by omega), hy, Nat.add_sub_cancel_left, List.set_append_left _ _ (by simpa using hj), hr] at h2;exact h2
 exact st 3 u _ (st 2 z _ (st 1 y _ (st 0 x _ h (by omega) rfl) (by omega) rfl) (by omega) rfl) (by omega) rfl
theorem NIn.next {n₀ mb : Nat} {L0 : List Int} {ts : List Tm} {g cp : Nat} {C : Array Value} {w wr w2 : World} {k : Nat} {ys zs : List Value} {ad1 : Option Addr} {cap1 : Nat} {ad2 : Option Addr} {cap2 : Nat} {o : Obj} (hk : k < ts.length) (hn : n₀ <= mb) (hmb : mb < w.heap.size)
 (hN : NIn n₀ mb L0 ts g cp C w k wr) (hrow : wr.ownsRow (w.heap.size + 2) 26 4 (.slice (some ⟨g, 0, none⟩) ts.length cp) ts.length (ys ++ (tcells ts[k] ad1 cap1 ++ zs)))
 (h1 : TRow wr (fun b => w.heap.size + 2 <= b /\ b ≠ g) ys ((ts.take k).map (Tm.numT (onceGo L0 ((ts.take k).flatMap Tm.places))))) (h2 : TRow wr (fun b => b < n₀) zs (ts.drop (k + 1)))
 (ht : Turn (fun j => j = mb) (wr.alloc o) w2) (hm : NMap w2 mb (onceGo (onceGo L0 ((ts.take k).flatMap Tm.places)) ts[k].places))
 (hx : TmP w2 (fun b => (wr.alloc o).heap.size <= b) (ts[k].numT (onceGo (onceGo L0 ((ts.take k).flatMap Tm.places)) ts[k].places)) ad2 cap2) (hyl : ys.length = k * 4) :
 ∀ a b c d, a = .int .i64 (ts[k].numT (onceGo (onceGo L0 ((ts.take k).flatMap Tm.places)) ts[k].places)).kind -> b = .string (ts[k].numT (onceGo (onceGo L0 ((ts.take k).flatMap Tm.places)) ts[k].places)).name -> c = .int .i64 (ts[k].numT (onceGo (onceGo L0 ((ts.take k).flatMap Tm.places)) ts[k].places)).n ->
  d = .slice ad2 (ts[k].numT (onceGo (onceGo L0 ((ts.take k).flatMap Tm.places)) ts[k].places)).args.length cap2 ->
  NIn n₀ mb L0 ts g cp C w (k + 1) ((((w2.setCell ⟨g, k * 4, none⟩ a).setCell ⟨g, k * 4 + 1, none⟩ b).setCell ⟨g, k * 4 + 2, none⟩ c).setCell ⟨g, k * 4 + 3, none⟩ d) := by
 intro a b c d ha hb hc hd;have hgl := hrow.lt g rfl;have hws : (wr.alloc o).heap.size = wr.heap.size + 1 := World.size_alloc _ _;have hsz := ht.size;have keep : ∀ j, j ≠ g -> j ≠ mb -> j < wr.heap.size -> ((((w2.setCell ⟨g, k * 4, none⟩ a).setCell ⟨g, k * 4 + 1, none⟩ b).setCell ⟨g, k * 4 + 2, none⟩ c).setCell ⟨g, k * 4 + 3, none⟩ d).heap[j]? = wr.heap[j]? := fun j hj hjm hjl => by
  rw [Below.heap_setCell _ _ _ _ (show j ≠ g from hj), Below.heap_setCell _ _ _ _ (show j ≠ g from hj), Below.heap_setCell _ _ _ _ (show j ≠ g from hj), Below.heap_setCell _ _ _ _ (show j ≠ g from hj)];exact (ht.block j (by omega) hjm).trans (Below.heap_alloc _ _ _ hjl)
 have keep2 : ∀ j, j ≠ g -> ((((w2.setCell ⟨g, k * 4, none⟩ a).setCell ⟨g, k * 4 + 1, none⟩ b).setCell ⟨g, k * 4 + 2, none⟩ c).setCell ⟨g, k * 4 + 3, none⟩ d).heap[j]? = w2.heap[j]? := fun j hj => by
  rw [Below.heap_setCell _ _ _ _ (show j ≠ g from hj), Below.heap_setCell _ _ _ _ (show j ≠ g from hj), Below.heap_setCell _ _ _ _ (show j ≠ g from hj), Below.heap_setCell _ _ _ _ (show j ≠ g from hj)]
 have hT : Turn (fun j => j = mb) w ((((w2.setCell ⟨g, k * 4, none⟩ a).setCell ⟨g, k * 4 + 1, none⟩ b).setCell ⟨g, k * 4 + 2, none⟩ c).setCell ⟨g, k * 4 + 3, none⟩ d) := by
  have h0 := hN.turn;refine ⟨ht.os.trans h0.os, ht.tape.trans h0.tape, ht.output.trans h0.output, by simp [World.setCell]; have := h0.size; omega, fun j hj hne => (keep j (by omega) hne (by have := h0.size; omega)).trans (h0.block j hj hne)⟩
 have hgrow : w2.ownsRow (w.heap.size + 2) 26 4 (.slice (some ⟨g, 0, none⟩) ts.length cp) ts.length (ys ++ (tcells ts[k] ad1 cap1 ++ zs)) :=
  ownsRow_block hrow ((ht.block g (by omega) (by omega)).trans (Below.heap_alloc _ _ _ (by omega)))
 have hset := row_set4 hgrow hyl a b c d;have hxx := hx.kept (w' := (((w2.setCell ⟨g, k * 4, none⟩ a).setCell ⟨g, k * 4 + 1, none⟩ b).setCell ⟨g, k * 4 + 2, none⟩ c).setCell ⟨g, k * 4 + 3, none⟩ d) (Q := fun b => w.heap.size + 2 <= b /\ b ≠ g) (fun b hb _ => keep2 b (by omega)) (fun b hb _ => ⟨by have := hN.turn.size; omega, by omega⟩);refine ⟨hT, (keep _ (by omega) (by omega) (by omega)).trans hN.box, (keep _ (by omega) (by omega) (by omega)).trans hN.res, ?_, fun _ => ⟨ys ++ [a, b, c, d], zs, ?_, ?_, ?_⟩⟩
 · rw [flat_step Tm.places ts k hk, onceGo_two];exact hm.at (keep2 mb (by omega))
 · rw [List.append_assoc]; exact hset
 · rw [numT_step L0 ts k hk, show ([a, b, c, d] : List Value) = tcells (ts[k].numT (onceGo (onceGo L0 ((ts.take k).flatMap Tm.places)) ts[k].places)) ad2 cap2 from by rw [ha, hb, hc, hd]; rfl];exact (h1.kept (fun j hj hl => keep j hj.2 (by omega) hl) (fun _ h _ => h)).snoc hxx
 · exact h2.kept (fun j hj hl => keep j (by omega) (by omega) hl) (fun _ h _ => h)
theorem NIn.done {n₀ mb : Nat} {L0 : List Int} {ts : List Tm} {g cp : Nat} {C : Array Value} {w W : World} {adc : Option Addr} (h : NIn n₀ mb L0 ts g cp C w ts.length W) (hadc : 0 < ts.length -> adc = some ⟨g, 0, none⟩) :
 NMap W mb (onceGo L0 (ts.flatMap Tm.places)) /\ TArgsP W (fun b => w.heap.size + 2 <= b) adc (ts.map (Tm.numT (onceGo L0 (ts.flatMap Tm.places)))) := by
 have hm := h.map;rw [List.take_of_length_le (Nat.le_refl _)] at hm;refine ⟨hm, ?_⟩;by_cases hp : 0 < ts.length
 · obtain ⟨ys, zs, hrow, h1, h2⟩ := h.row hp;rw [List.take_of_length_le (Nat.le_refl _)] at h1;rw [List.drop_of_length_le (Nat.le_refl _)] at h2;cases h2
   rw [List.append_nil] at hrow;rw [hadc hp];refine h1.args g (hrow.lt g rfl).1 (fun b hb => hb.1) 0 (fun j hj => ?_);rw [Nat.zero_add];exact hrow.cellAt j (by rw [<- hrow.1]; exact hj)
 · have : ts = [] := List.eq_nil_of_length_eq_zero (by omega);rw [this]; exact .nil _
theorem met_bound {L0 : List Int} {ts : List Tm} {k : Nat} (hk : k < ts.length) : (onceGo L0 ((ts.take k).flatMap Tm.places)).length + ts[k].size <= L0.length + Tm.sizes ts := by
 have h1 := onceGo_size ((ts.take k).flatMap Tm.places) L0;have h2 := Tm.places_size' _ (ts.take k) (Nat.le_refl _);have h3 := Tm.sizes_take ts (k + 1);rw [List.take_succ_eq_append_getElem hk, Tm.sizes_append] at h3;have h4 : Tm.sizes [ts[k]] = ts[k].size := by show ts[k].size + 0 = _; omega
 omega
set_option maxRecDepth 100000 in
set_option maxHeartbeats 4000000 in
theorem cl_renumber (n₀ mb : Nat) (hn : n₀ <= mb) (m : Nat) : ∀ (T : Tm) (ad : Option Addr) (cap : Nat) (w : World) (L : List Int), T.size <= m -> T.size <= 1000000 -> L.length + T.size <= 2000000 -> TmP w (fun b => b < n₀) T ad cap -> NMap w mb L ->
 Calls Tryz.prog 40 #[.map (some mb), tmv T ad cap] w fun e w' => ∃ ad' cap', e = .returned (tmv (T.numT (onceGo L T.places)) ad' cap') /\ TmP w' (fun b => w.heap.size <= b) (T.numT (onceGo L T.places)) ad' cap' /\ Turn (fun j => j = mb) w w' /\ NMap w' mb (onceGo L T.places) := by
 induction m with
 | zero => intro T ad cap w L h; have := T.size_pos; omega
 | succ m ih =>
  intro T ad cap w L hm hM hLM hin hmap;have IH := Lib.hid ih;clear ih;have HI := Lib.hid hin;have hlen := Tm.length_le_sizes T.args;have hsz := T.size_eq;have hl : T.args.length <= 1000000 := by omega
  have hcapl := hin.len;have hcapm := hin.cap;unfold maxLen at hcapm;have hmb := hmap.lt;have hn64 := hin.n;obtain ⟨xs, hxr, hxl, hcl⟩ := clone_any hin.args hl cap;have HXR := Lib.hid hxr;have HCL := Lib.hid hcl;have HPL := Lib.hid T.places_eq;have HMP := Lib.hid hmap;have hcase : ∃ (n' : Int) (L0 : List Int), Hid (In64 n') /\ Hid (onceGo L T.places = onceGo L0 (T.args.flatMap Tm.places)) /\ Hid (L0.length <= L.length + 1) /\ Hid (n' = if T.kind = 1 then placeL (onceGo L T.places) T.n else T.n) /\ (((T.kind == 1) = true /\ Hid (L0 = onceGo L [T.n] /\ n' = placeL L0 T.n)) \/ ((T.kind == 1) = false /\ Hid (L0 = L /\ n' = T.n))) := by
   by_cases hk1 : T.kind = 1
   · have e1 : T.places = [T.n] ++ T.args.flatMap Tm.places := by rw [T.places_eq, if_pos hk1]
     have h1 := onceGo_size [T.n] L;have h2 := placeL_pos (onceGo L [T.n]) T.n;rw [List.length_singleton] at h1;refine ⟨placeL (onceGo L [T.n]) T.n, onceGo L [T.n], Lib.hid ⟨by omega, by omega⟩, Lib.hid (by rw [e1, onceGo_two]), Lib.hid h1, Lib.hid ?_, .inl ⟨by simpa using hk1, Lib.hid ⟨rfl, rfl⟩⟩⟩;rw [if_pos hk1, e1, onceGo_two];obtain ⟨R, hR⟩ := onceGo_more (T.args.flatMap Tm.places) (onceGo L [T.n]);rw [hR, placeL_app _ R _ (onceGo_in _ _ _ (.inr (.head _)))]
   · exact ⟨T.n, L, Lib.hid hn64, Lib.hid (by rw [T.places_eq, if_neg hk1, List.nil_append]), Lib.hid (by omega), Lib.hid (by rw [if_neg hk1]), .inr ⟨by simpa using hk1, Lib.hid ⟨rfl, rfl⟩⟩⟩
  obtain ⟨n', L0, HN64, HPLC, HL0, HNV, hcs⟩ := hcase;have HNUM := Lib.hid (fun (W : World) (hW : NMap W mb L) => cl_number W mb L T.n hW hn64 (by omega));clear hin hmap hxr hcl hn64;have HSZ := Lib.hid hsz;clear hsz hlen;unfold tmv;have step : ∀ (W1 : World), Turn (fun j => j = mb) w W1 -> w.heap.size + 2 <= W1.heap.size -> W1.heap[w.heap.size]? = some (.cells #[.int .i64 T.kind, .string T.name, .int .i64 n', .slice ad T.args.length cap] 26 (0, 0)) -> W1.heap[w.heap.size + 1]? = some (.cells #[.int .i64 0, .string ⟨#[]⟩, .int .i64 0, .slice none 0 0] 26 (0, 0)) -> NMap W1 mb L0 ->
   Calls Tryz.prog 59 #[.slice ad T.args.length cap] W1 fun e W2 => ∃ (adc : Option Addr) (capc g : Nat), e = .returned (.slice adc T.args.length capc) /\ T.args.length <= capc /\ capc <= maxLen /\ (0 < T.args.length -> adc = some ⟨g, 0, none⟩) /\ W2.heap[w.heap.size]? = some (.cells #[.int .i64 T.kind, .string T.name, .int .i64 n', .slice ad T.args.length cap] 26 (0, 0)) /\
    Hid (NIn n₀ mb L0 T.args g capc #[.int .i64 T.kind, .string T.name, .int .i64 n', .slice adc T.args.length capc] w 0 (W2.setCell ⟨w.heap.size, 3, none⟩ (.slice adc T.args.length capc))) := by
   intro W1 hT hs hq0 hq1 hM;refine (HCL.out W1 (fun b hb hlt => hT.block b hlt (by omega))).mono ?_;rintro e W2 ⟨adc, capc, rfl, h1, h2, hb, hnew⟩;have hq2 := (hb.block w.heap.size (by omega)).trans hq0;have hx1 : TRow W1 (fun b => b < n₀) xs T.args := HXR.out.kept (fun b hb hlt => hT.block b hlt (by omega)) fun _ h _ => h;obtain ⟨g, hg⟩ : ∃ g, 0 < T.args.length -> adc = some ⟨g, 0, none⟩ /\ W2.ownsRow W1.heap.size 26 4 (.slice (some ⟨g, 0, none⟩) T.args.length capc) T.args.length xs := by
    by_cases hp : 0 < T.args.length
    · obtain ⟨g, h3, _, h5⟩ := hnew hp; exact ⟨g, fun _ => ⟨h3, h5⟩⟩
    · exact ⟨0, fun h => absurd h hp⟩
   refine ⟨adc, capc, g, rfl, h1, h2, fun hp => (hg hp).1, hq2, Lib.hid (NIn.start (by omega) hmb hT hs hq1 hM hb (fun hp => (hg hp).2) hx1 _ _ ?_)⟩;have := Lib.heap_setCell_same (i := 3) hq2 (.slice adc T.args.length capc);simpa using this
  have HSTEP := Lib.hid step;clear step;have HA2 := Lib.hid (fun (o1 o2 : Obj) => show Turn (fun j => j = mb) w ((w.alloc o1).alloc o2) /\ NMap ((w.alloc o1).alloc o2) mb L /\ ((w.alloc o1).alloc o2).heap[w.heap.size]? = some o1 /\ ((w.alloc o1).alloc o2).heap[w.heap.size + 1]? = some o2 /\ ((w.alloc o1).alloc o2).heap.size = w.heap.size + 2 from
   ⟨(Turn.alloc _ w o1).trans (Turn.alloc _ _ o2), HMP.out.at ((Below.heap_alloc _ _ _ (by simp; omega)).trans (Below.heap_alloc _ _ _ hmb)), (Below.heap_alloc _ _ _ (by simp)).trans (alloc_new _ _), alloc_new2 _ _ _, by simp⟩)
  rcases hcs with ⟨hk1, HC⟩ | ⟨hk1, HC⟩
  case' inl =>
   go_enter Tryz.func40, Tryz.ntmps40;go_wp2_with fail;obtain ⟨a1, a2, a3, a4, a5⟩ := HA2.out (.cells #[.int .i64 T.kind, .string T.name, .int .i64 T.n, .slice ad T.args.length cap] 26) (.cells #[.int .i64 0, .string ⟨#[]⟩, .int .i64 0, .slice none 0 0] 26);refine (HNUM.out _ a2).mono ?_; rintro e w1 ⟨rfl, m1, t1⟩;have b3 := (t1.block w.heap.size (by omega) (by omega)).trans a3;have b4 := (t1.block (w.heap.size + 1) (by omega) (by omega)).trans a4;have b5 := t1.size;rw [<- HC.out.1, <- HC.out.2];rw [<- HC.out.1] at m1;obtain ⟨d0, d1, d2, d3, e0, e1, e2, e3⟩ := cellsT b3;have HQ := Lib.hid b3;have HG : Hid (Turn (fun j => j = mb) w (w1.setCell ⟨w.heap.size, 2, none⟩ (.int .i64 n')) /\ w.heap.size + 2 <= (w1.setCell ⟨w.heap.size, 2, none⟩ (.int .i64 n')).heap.size /\ (w1.setCell ⟨w.heap.size, 2, none⟩ (.int .i64 n')).heap[w.heap.size]? = some (.cells #[.int .i64 T.kind, .string T.name, .int .i64 n', .slice ad T.args.length cap] 26 (0, 0)) /\ (w1.setCell ⟨w.heap.size, 2, none⟩ (.int .i64 n')).heap[w.heap.size + 1]? = some (.cells #[.int .i64 0, .string ⟨#[]⟩, .int .i64 0, .slice none 0 0] 26 (0, 0)) /\ NMap (w1.setCell ⟨w.heap.size, 2, none⟩ (.int .i64 n')) mb L0) := Lib.hid (by
    have e := (a1.trans t1);refine ⟨⟨e.os, e.tape, e.output, by simp [World.setCell]; omega, fun k hk hne => (Below.heap_setCell _ _ _ _ (show k ≠ w.heap.size by omega)).trans (e.block k hk hne)⟩, by simp [World.setCell]; omega, ?_, (Below.heap_setCell _ _ _ _ (show w.heap.size + 1 ≠ w.heap.size by omega)).trans b4, m1.at (Below.heap_setCell _ _ _ _ (show mb ≠ w.heap.size by omega))⟩;have := Lib.heap_setCell_same (i := 2) b3 (.int .i64 n');simpa using this)
   clear a1 a2 a3 a4 a5 b3 b4 b5 m1 t1;go_wp2_with fail;generalize w1.setCell _ _ = W1 at *;obtain ⟨f1, f2, f3, f4, f5⟩ := HG.out;refine (HSTEP.out _ f1 f2 f3 f4 f5).mono ?_;clear f1 f2 f3 f4 f5 HQ HG d0 d1 d2 d3 e0 e1 e2 e3
  case' inr =>
   go_enter Tryz.func40, Tryz.ntmps40;obtain ⟨a1, a2, a3, a4, a5⟩ := HA2.out (.cells #[.int .i64 T.kind, .string T.name, .int .i64 T.n, .slice ad T.args.length cap] 26) (.cells #[.int .i64 0, .string ⟨#[]⟩, .int .i64 0, .slice none 0 0] 26);rw [<- HC.out.1] at a2;have HG := Lib.hid (And.intro a1 (And.intro (Nat.le_of_eq a5.symm) (And.intro a3 (And.intro a4 a2))));have HN9 := Lib.hid HC.out.2;clear a1 a2 a3 a4 a5;go_wp2_with fail;generalize (w.alloc _).alloc _ = W1 at *;obtain ⟨f1, f2, f3, f4, f5⟩ := HG.out;rw [<- HN9.out] at f3;refine (HSTEP.out _ f1 f2 f3 f4 f5).mono ?_;clear f1 f2 f3 f4 f5 HG
  all_goals
   rintro e W2 ⟨adc, capc, g, rfl, h1c, h2c, hadc, hq2, HN⟩;obtain ⟨d0, d1, d2, d3, e0, e1, e2, e3⟩ := cellsT hq2;have HAD := Lib.hid hadc;unfold maxLen at h2c;clear hq2 hadc;go_wp2_with fail;generalize W2.setCell _ _ = W3 at *;clear d0 d1 d2 d3 e0 e1 e2 e3;go_loopw [22] (fun iv wr => ∃ k : Nat, k <= T.args.length /\ iv = .int .i64 k /\ Hid (NIn n₀ mb L0 T.args g capc #[.int .i64 T.kind, .string T.name, .int .i64 n', .slice adc T.args.length capc] w k wr)) (fun iv _ => T.args.length - (intOf iv).toNat)
   case atStart => exact ⟨0, Nat.zero_le _, rfl, HN⟩
   case round =>
    obtain ⟨k, hk, rfl, HNI⟩ := hrel;obtain ⟨d0, d1, d2, d3, e0, e1, e2, e3⟩ := cellsT HNI.out.box;by_cases hlt : k < T.args.length
    · obtain rfl := HAD.out (by omega);obtain ⟨ys, zs, hrow, htr, hzr⟩ := HNI.out.row (by omega);rw [List.drop_eq_getElem_cons hlt] at hzr;obtain ⟨ad1, cap1, zs', rfl, hx, hz'⟩ := hzr.head;have hyl : ys.length = k * 4 := by rw [htr.length, List.length_map, List.length_take]; omega
      obtain ⟨c0, c1, c2, c3⟩ := row_cells hrow hyl;have hwrs := HNI.out.turn.size;have hgl := hrow.lt g rfl;have HNX := Lib.hid (fun o w2 ad2 cap2 ht hm hx => NIn.next (o := o) (w2 := w2) (ad2 := ad2) (cap2 := cap2) hlt hn hmb HNI.out hrow htr hz' ht hm hx hyl);have HGR := Lib.hid (fun (o : Obj) (w2 : World) (ht : Turn (fun j => j = mb) (wr.alloc o) w2) => show w2.ownsRow (w.heap.size + 2) 26 4 (.slice (some ⟨g, 0, none⟩) T.args.length capc) T.args.length (ys ++ (tcells T.args[k] ad1 cap1 ++ zs')) from
       ownsRow_block hrow ((ht.block g (by rw [World.size_alloc]; omega) (by omega)).trans (Below.heap_alloc _ _ _ (by omega))))
      have hmem := Tm.mem_size (List.getElem_mem hlt);have hbd := met_bound (L0 := L0) hlt;have hmp := HNI.out.map;have HIH := Lib.hid (fun (o : Obj) => IH.out T.args[k] ad1 cap1 ((wr.alloc o).drew) (onceGo L0 ((T.args.take k).flatMap Tm.places)) (by have := HSZ.out; omega) (by have := HSZ.out; omega) (by have := HSZ.out; have := HL0.out; omega)
       (hx.kept (w' := (wr.alloc o).drew) (Q := fun b => b < n₀) (fun b _ hb => (Below.heap_alloc _ _ _ hb)) fun _ h _ => h) (hmp.at (w' := (wr.alloc o).drew) (Below.heap_alloc _ _ _ hmp.lt)))
      have HYL := Lib.hid hyl;clear hx hz' htr hzr hrow hbd hmp hmem hyl;generalize T.args[k].numT (onceGo (onceGo L0 ((T.args.take k).flatMap Tm.places)) T.args[k].places) = y at *;generalize onceGo (onceGo L0 ((T.args.take k).flatMap Tm.places)) T.args[k].places = Lk at *;generalize T.args[k] = x at *;unfold tmv at HIH;go_upto_region 7 with fail;have hbx : (wr.alloc (.cells #[.int .i64 x.kind, .string x.name, .int .i64 x.n, .slice ad1 x.args.length cap1] 26)).cell? ⟨w.heap.size, 3, none⟩ = some (.slice (some ⟨g, 0, none⟩) T.args.length capc) :=
       (World.cell?_of_block (a := ⟨w.heap.size, 3, none⟩) (Below.heap_alloc wr _ _ (by show w.heap.size < wr.heap.size; omega))).trans d3
      have HX0 := Lib.hid (alloc_new wr (.cells #[.int .i64 x.kind, .string x.name, .int .i64 x.n, .slice ad1 x.args.length cap1] 26));have HW0 : Hid ((wr.alloc (.cells #[.int .i64 x.kind, .string x.name, .int .i64 x.n, .slice ad1 x.args.length cap1] 26)).heap.size = wr.heap.size + 1) := Lib.hid (World.size_alloc _ _);have HIH0 := Lib.hid (HIH.out (.cells #[.int .i64 x.kind, .string x.name, .int .i64 x.n, .slice ad1 x.args.length cap1] 26));have HNX0 := Lib.hid (HNX.out (.cells #[.int .i64 x.kind, .string x.name, .int .i64 x.n, .slice ad1 x.args.length cap1] 26));have HGR0 := Lib.hid (HGR.out (.cells #[.int .i64 x.kind, .string x.name, .int .i64 x.n, .slice ad1 x.args.length cap1] 26));generalize wr.alloc (.cells #[.int .i64 x.kind, .string x.name, .int .i64 x.n, .slice ad1 x.args.length cap1] 26) = w0 at *;obtain ⟨x0, x1, x2, x3, _⟩ := cellsT HX0.out;have hS0 : w0.drew.cell? ⟨w.heap.size, 3, none⟩ = some (.slice (some ⟨g, 0, none⟩) T.args.length capc) /\ w0.drew.cell? ⟨wr.heap.size, 0, none⟩ = some (.int .i64 x.kind) /\ w0.drew.cell? ⟨wr.heap.size, 1, none⟩ = some (.string x.name) /\ w0.drew.cell? ⟨wr.heap.size, 2, none⟩ = some (.int .i64 x.n) /\ w0.drew.cell? ⟨wr.heap.size, 3, none⟩ = some (.slice ad1 x.args.length cap1) := ⟨hbx, x0, x1, x2, x3⟩;have HS1 : Hid (∀ W, Turn (fun j => j = mb) w0.drew W -> W.cell? ⟨w.heap.size, 3, none⟩ = some (.slice (some ⟨g, 0, none⟩) T.args.length capc) /\ W.cell? ⟨wr.heap.size, 0, none⟩ = some (.int .i64 x.kind) /\ W.cell? ⟨wr.heap.size, 1, none⟩ = some (.string x.name) /\ W.cell? ⟨wr.heap.size, 2, none⟩ = some (.int .i64 x.n) /\ W.cell? ⟨wr.heap.size, 3, none⟩ = some (.slice ad1 x.args.length cap1)) := Lib.hid (fun W t => by
       have h0 := HW0.out;have k1 : ∀ b o : Nat, b < w0.heap.size -> b ≠ mb -> W.cell? ⟨b, o, none⟩ = w0.cell? ⟨b, o, none⟩ := fun b o h1 h2 => World.cell?_of_block (a := ⟨b, o, none⟩) (t.block b h1 h2);exact ⟨(k1 _ _ (by omega) (by omega)).trans hbx, (k1 _ _ (by omega) (by omega)).trans x0, (k1 _ _ (by omega) (by omega)).trans x1, (k1 _ _ (by omega) (by omega)).trans x2, (k1 _ _ (by omega) (by omega)).trans x3⟩)
      have HS3 : Hid (∀ (W : World) (a b c d : Value), W.cell? ⟨w.heap.size, 3, none⟩ = some (.slice (some ⟨g, 0, none⟩) T.args.length capc) /\ W.cell? ⟨wr.heap.size, 0, none⟩ = some (.int .i64 x.kind) /\ W.cell? ⟨wr.heap.size, 1, none⟩ = some (.string x.name) /\ W.cell? ⟨wr.heap.size, 2, none⟩ = some (.int .i64 x.n) /\ W.cell? ⟨wr.heap.size, 3, none⟩ = some (.slice ad1 x.args.length cap1) -> ((((W.setCell ⟨g, k * 4, none⟩ a).setCell ⟨g, k * 4 + 1, none⟩ b).setCell ⟨g, k * 4 + 2, none⟩ c).setCell ⟨g, k * 4 + 3, none⟩ d).cell? ⟨w.heap.size, 3, none⟩ = some (.slice (some ⟨g, 0, none⟩) T.args.length capc) /\ ((((W.setCell ⟨g, k * 4, none⟩ a).setCell ⟨g, k * 4 + 1, none⟩ b).setCell ⟨g, k * 4 + 2, none⟩ c).setCell ⟨g, k * 4 + 3, none⟩ d).cell? ⟨wr.heap.size, 0, none⟩ = some (.int .i64 x.kind) /\ ((((W.setCell ⟨g, k * 4, none⟩ a).setCell ⟨g, k * 4 + 1, none⟩ b).setCell ⟨g, k * 4 + 2, none⟩ c).setCell ⟨g, k * 4 + 3, none⟩ d).cell? ⟨wr.heap.size, 1, none⟩ = some (.string x.name) /\ ((((W.setCell ⟨g, k * 4, none⟩ a).setCell ⟨g, k * 4 + 1, none⟩ b).setCell ⟨g, k * 4 + 2, none⟩ c).setCell ⟨g, k * 4 + 3, none⟩ d).cell? ⟨wr.heap.size, 2, none⟩ = some (.int .i64 x.n) /\ ((((W.setCell ⟨g, k * 4, none⟩ a).setCell ⟨g, k * 4 + 1, none⟩ b).setCell ⟨g, k * 4 + 2, none⟩ c).setCell ⟨g, k * 4 + 3, none⟩ d).cell? ⟨wr.heap.size, 3, none⟩ = some (.slice ad1 x.args.length cap1)) := Lib.hid (fun W a b c d h => by
       have k1 : ∀ b' o : Nat, b' ≠ g -> ((((W.setCell ⟨g, k * 4, none⟩ a).setCell ⟨g, k * 4 + 1, none⟩ b).setCell ⟨g, k * 4 + 2, none⟩ c).setCell ⟨g, k * 4 + 3, none⟩ d).cell? ⟨b', o, none⟩ = W.cell? ⟨b', o, none⟩ := fun b' o h1 => World.cell?_of_block (a := ⟨b', o, none⟩) ((Below.heap_setCell _ _ _ _ (show b' ≠ g from h1)).trans ((Below.heap_setCell _ _ _ _ (show b' ≠ g from h1)).trans ((Below.heap_setCell _ _ _ _ (show b' ≠ g from h1)).trans (Below.heap_setCell _ _ _ _ (show b' ≠ g from h1)))));obtain ⟨h0, h1, h2, h3, h4⟩ := h;exact ⟨(k1 _ _ (by omega)).trans h0, (k1 _ _ (by omega)).trans h1, (k1 _ _ (by omega)).trans h2, (k1 _ _ (by omega)).trans h3, (k1 _ _ (by omega)).trans h4⟩)
      have HFZ : Hid (∀ W, Turn (fun j => j = mb) w0 W -> (∃ v, W.cell? ⟨g, k * 4, none⟩ = some v) /\ (∃ v, W.cell? ⟨g, k * 4 + 1, none⟩ = some v) /\ (∃ v, W.cell? ⟨g, k * 4 + 2, none⟩ = some v) /\ (∃ v, W.cell? ⟨g, k * 4 + 3, none⟩ = some v) /\ ∀ j, W.frozen? ⟨g, j, none⟩ = false) := Lib.hid (fun W t => by
       have h := HGR0.out W t;obtain ⟨z0, z1, z2, z3⟩ := row_cells h HYL.out;exact ⟨⟨_, z0⟩, ⟨_, z1⟩, ⟨_, z2⟩, ⟨_, z3⟩, fun j => h.frozenAt j⟩)
      clear HIH HNX HGR hbx x0 x1 x2 x3 c0 c1 c2 c3 d0 d1 d2 d3 e0 e1 e2 e3;go_region_held3 (fun W => W.cell? ⟨w.heap.size, 3, none⟩ = some (.slice (some ⟨g, 0, none⟩) T.args.length capc) /\ W.cell? ⟨wr.heap.size, 0, none⟩ = some (.int .i64 x.kind) /\ W.cell? ⟨wr.heap.size, 1, none⟩ = some (.string x.name) /\ W.cell? ⟨wr.heap.size, 2, none⟩ = some (.int .i64 x.n) /\ W.cell? ⟨wr.heap.size, 3, none⟩ = some (.slice ad1 x.args.length cap1))
       (first | with_reducible exact HS3.out _ _ _ _ _ s4 | with_reducible exact s4 | with_reducible exact hS0)
       (first
         | (go_at_call 40; (with_reducible refine HIH0.out.mono ?_); rintro e w4 ⟨ad2, cap2, rfl, hx4, ht4, hm4⟩; have s4 := HS1.out _ ht4; have t4 : Turn (fun j => j = mb) w0 w4 := (Turn.drew _ w0).trans ht4; obtain ⟨⟨z0, y0⟩, ⟨z1, y1⟩, ⟨z2, y2⟩, ⟨z3, y3⟩, yf⟩ := HFZ.out _ t4; have f0 := yf (k * 4); have f1 := yf (k * 4 + 1); have f2 := yf (k * 4 + 2); have f3 := yf (k * 4 + 3)))
      go_wp2_with fail;go_roundw
      case rel => exact ⟨k + 1, by omega, by go_num, Lib.hid (HNX0.out w4 ad2 cap2 t4 hm4 (hx4.kept (fun _ _ _ => rfl) fun b hb _ => hb) _ _ _ _ rfl rfl rfl rfl)⟩
      case measure => simp [intOf]; omega
    · obtain rfl : k = T.args.length := by omega
      obtain ⟨hm9, ha9⟩ := HNI.out.done HAD.out;rw [<- HPLC.out] at hm9 ha9;have HM9 := Lib.hid hm9;have HA9 := Lib.hid ha9;obtain ⟨g0, g1, g2, g3, k0, k1, k2, k3⟩ := cellsT HNI.out.res;have HT9 := Lib.hid HNI.out.turn;clear hm9 ha9;go_wp2_with fail;refine bodyPost_ret (v := .agg #[.int .i64 T.kind, .string T.name, .int .i64 n', .slice adc T.args.length capc]) (by simp [results, Tryz.results40, go_sem, g0, g1, g2, g3]) rfl ⟨adc, capc, ?_, ?_, ?_, ?_⟩
      · rw [Tm.numT_kind, Tm.numT_name, Tm.numT_len, Tm.numT_n, <- HNV.out]
      · refine ⟨by rw [Tm.numT_kind]; exact HI.out.kind, by rw [Tm.numT_n, <- HNV.out]; exact HN64.out, by rw [Tm.numT_name]; exact HI.out.name, by rw [Tm.numT_len]; exact h1c, h2c, ?_⟩;rw [Tm.numT_args];refine HA9.out.kept (fun b hp _ => ?_) (fun b hp _ => by omega);rw [Below.heap_setCell _ _ _ _ (show b ≠ w.heap.size + 1 by omega), Below.heap_setCell _ _ _ _ (show b ≠ w.heap.size + 1 by omega), Below.heap_setCell _ _ _ _ (show b ≠ w.heap.size + 1 by omega), Below.heap_setCell _ _ _ _ (show b ≠ w.heap.size + 1 by omega)]
      · have t := HT9.out;refine ⟨t.os, t.tape, t.output, by simp [World.setCell]; exact t.size, fun b hb hne => ?_⟩;rw [Below.heap_setCell _ _ _ _ (show b ≠ w.heap.size + 1 by omega), Below.heap_setCell _ _ _ _ (show b ≠ w.heap.size + 1 by omega), Below.heap_setCell _ _ _ _ (show b ≠ w.heap.size + 1 by omega), Below.heap_setCell _ _ _ _ (show b ≠ w.heap.size + 1 by omega)];exact t.block b hb hne
      · refine HM9.out.at ?_;rw [Below.heap_setCell _ _ _ _ (show mb ≠ w.heap.size + 1 by omega), Below.heap_setCell _ _ _ _ (show mb ≠ w.heap.size + 1 by omega), Below.heap_setCell _ _ _ _ (show mb ≠ w.heap.size + 1 by omega), Below.heap_setCell _ _ _ _ (show mb ≠ w.heap.size + 1 by omega)]
def GEnt := Tm × Option Addr × Nat
def goalv (x : Tm × Option Addr × Nat) : Array Value := #[tmv x.1 x.2.1 x.2.2]
def GoalAt (T : Tm) (n₀ : Nat) (w : World) (k : Nat) (x : Tm × Option Addr × Nat) : Prop := T.body[k]? = some x.1 /\ TmP w (fun b => b < n₀) x.1 x.2.1 x.2.2
def gcells : List (Tm × Option Addr × Nat) -> List Value
 | [] => []
 | e :: R => gcells R ++ tcells e.1 e.2.1 e.2.2
theorem gcells_len : ∀ R : List (Tm × Option Addr × Nat), (gcells R).length = R.length * 4
 | [] => rfl
 | e :: R => by show (gcells R ++ tcells e.1 e.2.1 e.2.2).length = _; rw [List.length_append, gcells_len R, List.length_cons]; show _ + 4 = _; omega
structure GIn (w : World) (T : Tm) (n₀ q : Nat) (J : (Nat -> Prop) -> Nat -> World -> Prop) (k : Nat) (R : List (Tm × Option Addr × Nat)) (g cap : Nat) (W : World) : Prop where
 own : W.ownsRow q 26 4 (.slice (some ⟨g, 0, none⟩) R.length cap) R.length (gcells R)
 ok : ∀ e ∈ R, TmP W (fun b => b < n₀) e.1 e.2.1 e.2.2
 j : J (fun j => j = g) k W
 le : k <= T.body.length
 rest : T.body.drop k = (R.map (·.1)).flatMap Tm.body
 sum : Tm.sizes (R.map (·.1)) <= T.size
 lt : q <= W.heap.size
 below : Below n₀ w W
def GInv (w : World) (T : Tm) (n₀ q : Nat) (J : (Nat -> Prop) -> Nat -> World -> Prop) (m : Nat) (p : Value) (W : World) : Prop :=
 ∃ k R g cap, p = .slice (some ⟨g, 0, none⟩) R.length cap /\ GIn w T n₀ q J k R g cap W /\ m = Tm.sizes (R.map (·.1))
theorem GIn.start {T : Tm} {ad : Option Addr} {cap n₀ : Nat} {J : (Nat -> Prop) -> Nat -> World -> Prop} {w W : World} (hn : n₀ <= w.heap.size) (hb : Below w.heap.size w W) (hp : TmP W (fun b => b < n₀) T ad cap) (hJ : Abides J) (h0 : J (fun _ => False) 0 W) :
 GIn w T n₀ W.heap.size J 0 [(T, ad, cap)] W.heap.size 1 (W.alloc (.cells #[.int .i64 T.kind, .string T.name, .int .i64 T.n, .slice ad T.args.length cap] 26)) := by
 refine ⟨?_, ?_, ?_, Nat.zero_le _, by simp, by show T.size + 0 <= _; omega, by simp, (hb.mono hn).alloc (Nat.le_trans hn hb.size) _⟩
 · exact World.ownsRow_lit (base := W.heap.size) (e := 26) (size := 4) W #[.int .i64 T.kind, .string T.name, .int .i64 T.n, .slice ad T.args.length cap] 1 (Nat.le_refl _) (by decide) rfl
 · intro e he;obtain rfl := List.mem_singleton.1 he;exact hp.kept (fun b _ hlt => Below.heap_alloc _ _ _ hlt) fun _ h _ => h
 · exact hJ _ _ 0 W _ h0 (Turn.alloc _ W _) (fun j hj => .inr (by omega)) (fun j hj => by simp; omega)
theorem rest_one {T t : Tm} {R : List Tm} {k : Nat} (h : T.body.drop k = (t :: R).flatMap Tm.body) (ht : t.two [44] = false) : T.body[k]? = some t /\ T.body.drop (k + 1) = R.flatMap Tm.body /\ k < T.body.length := by
 rw [List.flatMap_cons, Tm.body_one ht] at h;have h0 : T.body[k]? = some t := by
  have h8 : (T.body.drop k)[0]? = T.body[k]? := by rw [List.getElem?_drop, Nat.add_zero]
  rw [<- h8, h]; rfl
 refine ⟨h0, ?_, (List.getElem?_eq_some_iff.1 h0).1⟩;rw [<- List.drop_drop, h]; rfl
theorem rest_two {T t a b : Tm} {R : List Tm} {k : Nat} (h : T.body.drop k = (t :: R).flatMap Tm.body) (ht : t.two [44] = true) (hl : t.args = [a, b]) : T.body.drop k = (a :: b :: R).flatMap Tm.body := by
 rw [h, List.flatMap_cons, Tm.body_two ht hl, List.flatMap_cons, List.flatMap_cons, List.append_assoc]
theorem cells8 {w : World} {A B : Tm} {ad bd : Option Addr} {ca cb : Nat} : ∀ j u, (tcells A ad ca ++ tcells B bd cb)[j]? = some u -> (w.alloc (.cells #[.int .i64 A.kind, .string A.name, .int .i64 A.n, .slice ad A.args.length ca, .int .i64 B.kind, .string B.name, .int .i64 B.n, .slice bd B.args.length cb] 26)).cell? ((⟨w.heap.size, 0, none⟩ : Addr).add j) = some u := by
 intro j u hj;rw [add_plain, Nat.zero_add, World.cell?_alloc_at _ _ _ _ rfl];rw [<- hj, <- List.getElem?_toArray]; rfl
theorem cells8D {w : World} {A B : Tm} {ad bd : Option Addr} {ca cb : Nat} : ∀ j u, (tcells A ad ca ++ tcells B bd cb)[j]? = some u -> (w.alloc (.cells #[.int .i64 A.kind, .string A.name, .int .i64 A.n, .slice ad A.args.length ca, .int .i64 B.kind, .string B.name, .int .i64 B.n, .slice bd B.args.length cb] 26)).drew.cell? ((⟨w.heap.size, 0, none⟩ : Addr).add j) = some u := cells8
theorem step_app_terms {w : World} {ops : Array Oper} {o : Oper} {a : Act} {K : Act -> World -> Prop} {Q : Exit -> Act -> World -> Prop} {E : Prop} (hgd : o.guard = none) (s x : Operand)
 (ho : o.op = .call { callee := .builtin .append, args := #[s, x], argTypes := #[24, 24] }) {B : Nat} {v : Value} {n : Nat} {xs : List Value} (hs : a.eval s = v) (hown : w.ownsRow B 26 4 v n xs)
 {g m c : Nat} {news : List Value} (hx : a.eval x = .slice (some ⟨g, 0, none⟩) m c) (hl : news.length = m * 4) (hnews : ∀ j u, news[j]? = some u -> w.cell? ((⟨g, 0, none⟩ : Addr).add j) = some u) (h1 : ∀ u ∈ news, u.oneCell' = true)
 (hm : 0 < m) (hn : n + m <= 2000000) (hbase : B <= w.heap.size)
 (h : ∀ g cap w', w'.ownsRow B 26 4 (.slice (some ⟨g, 0, none⟩) (n + m) cap) (n + m) (xs ++ news) -> w.grownBy w' v.ownBlock -> (v.ownBlock = some g \/ g = w.heap.size) -> g < w'.heap.size -> K (a.put o.dst (.slice (some ⟨g, 0, none⟩) (n + m) cap)) w') :
 if Region.wanted o (yielded ops a.tmps) = true then Oper.wp Tryz.prog o a w K Q else E := by
 obtain ⟨i0, hi, hz0, hz1, hz2⟩ := info_parts infoTerm;exact step_append_lies w hgd s x 24 ho B 26 i0 _ 4 56 Tryz.underlying24 hi hz0 hz1 hz2 rfl (by decide) v n xs hs hown _ m c news hx hl hnews h1 hm (by unfold maxLen; omega) (by omega) hbase _ rfl h
theorem one8 {A B : Tm} {ad bd : Option Addr} {ca cb : Nat} : ∀ u ∈ tcells A ad ca ++ tcells B bd cb, u.oneCell' = true := by
 intro u hu; simp [tcells] at hu; rcases hu with rfl | rfl | rfl | rfl | rfl | rfl | rfl | rfl <;> rfl
set_option maxRecDepth 100000 in
set_option maxHeartbeats 4000000 in
theorem goals_seq (T : Tm) (ad : Option Addr) (cap Bt n₀ : Nat) (w : World) (hM : T.size <= 1000000) (hB : w.heap[Bt]? = some (.cells #[.int .i64 T.kind, .string T.name, .int .i64 T.n, .slice ad T.args.length cap] 26 (0, 0)))
 (hp : TmP w (fun b => b < n₀) T ad cap) (hn : n₀ <= w.heap.size) :
 SeqM Tryz.prog 76 #[.pointer (some ⟨Bt, 0, none⟩)] goalv (GoalAt T n₀ w) T.body.length n₀ w := fun l J Jx W hW hJ hJx hY h0 => by
 have HJ := Lib.hid hJ;have HY := Lib.hid hY;have HG := Lib.hid (GIn.start hn hW (hp.kept (w' := W) (Q := fun b => b < n₀) (fun b _ hlt => hW.block b hlt) (fun b h _ => h)) hJ h0);have hB' := (hW.block Bt (Array.getElem?_eq_some_iff.1 hB).1).trans hB;have hnW : n₀ <= W.heap.size := Nat.le_trans hn hW.size;have HWW := Lib.hid hW;obtain ⟨i0, hi, hz0, hz1, hz2⟩ := info_parts infoTerm;obtain ⟨d0, d1, d2, d3, e0, e1, e2, e3⟩ := cellsT hB';clear hJ hJx hY hp hB hB' hW h0;refine (callsIn_wide (n := 4)).1 ?_;refine callsIn_of_wp Tryz.func76 rfl trivial ?_ rfl;simp only [Tryz.ntmps76, List.size_toArray, List.length_cons, List.length_nil, Nat.reduceAdd, Nat.reduceSub, Array.replicate_succ, Array.replicate_zero, List.push_toArray, List.append_toArray, List.nil_append, List.cons_append]
 gi_wp2
 clear d0 d1 d2 d3 e0 e1 e2 e3;gi_loopw [3] (fun p wr => ∃ m, GInv w T n₀ W.heap.size J m p wr) (fun p wr => least fun m => GInv w T n₀ W.heap.size J m p wr)
 case atStart => exact ⟨_, 0, [(T, ad, cap)], W.heap.size, 1, rfl, HG.out, rfl⟩
 case round =>
  obtain ⟨m0, hm0⟩ := hrel;have hm1 := least_is (R := fun m => GInv w T n₀ W.heap.size J m u3 wr) hm0;generalize hmm : least (fun m => GInv w T n₀ W.heap.size J m u3 wr) = m at *;have HMM := Lib.hid hmm;clear hm0 hmm;obtain ⟨k, R, g, cp, rfl, hP, hme⟩ := hm1;obtain ⟨hg1, hg2, hnc, hcm⟩ := ownsRow_facts hP.own;have hk1 := hP.le;have hq := hP.lt;have hsum := hP.sum;have HME := Lib.hid hme;have HPP := Lib.hid hP;clear hme hP HG;unfold maxLen at hcm;cases R with
  | nil =>
   gi_wp2
   go_end0;have h9 := congrArg List.length HPP.out.rest;rw [List.length_drop] at h9;have h8 : ((([] : List (Tm × Option Addr × Nat)).map (·.1)).flatMap Tm.body).length = 0 := rfl;obtain rfl : k = T.body.length := by omega
   exact ⟨⟨_, rfl⟩, .inl ⟨_, HPP.out.j⟩⟩
  | cons e R =>
   obtain ⟨t, tad, tcap⟩ := e;have hrl : ((t, tad, tcap) :: R : List (Tm × Option Addr × Nat)).length = R.length + 1 := rfl;have hszs : Tm.sizes (((t, tad, tcap) :: R : List (Tm × Option Addr × Nat)).map (·.1)) = t.size + Tm.sizes (R.map (·.1)) := rfl;rw [hrl] at hnc;rw [hszs] at hsum;have hRl := Tm.length_le_sizes (R.map (·.1));rw [List.length_map] at hRl;have hown : wr.ownsRow W.heap.size 26 4 (.slice (some ⟨g, 0, none⟩) (R.length + 1) cp) (R.length + 1) (gcells R ++ (tcells t tad tcap ++ [])) := by rw [List.append_nil]; exact HPP.out.own
   obtain ⟨c0, c1, c2, c3⟩ := row_cells hown (gcells_len R);have hpop : wr.ownsRow W.heap.size 26 4 (.slice (some ⟨g, 0, none⟩) R.length cp) R.length (gcells R) := Go.ownsRow_pop (gcells_len R) HPP.out.own;have htm := HPP.out.ok _ (.head _);have hrest := HPP.out.rest;rw [List.map_cons] at hrest;have HOK := Lib.hid (fun e he => HPP.out.ok e (.tail _ he));have HPOP := Lib.hid hpop;have HPC := Lib.hid (fun W' => cl_isPairC t.kind t.n t.name tad t.args.length tcap W');have HTM := Lib.hid htm;have HREST := Lib.hid hrest;have HGR := Lib.hid (show g < wr.heap.size /\ W.heap.size <= g from ⟨hg2, hg1⟩);rw [hrl];clear hown hpop htm hrest hrl;cases ht : t.two [44] with
   | true =>
    obtain ⟨a, b, hab⟩ := Tm.two_args ht;rw [show twoK [44] t.kind t.name.data.toList t.args.length = true from ht] at HPC;have HR2 := Lib.hid (rest_two HREST.out ht hab);have hsz : t.size = 1 + (a.size + (b.size + 0)) := by rw [t.size_eq, hab]; rfl
    have hlt2 : t.args.length = 2 := by rw [hab]; rfl
    have hta := HTM.out.args;rw [hab] at hta;obtain ⟨b0, o, rfl⟩ := hta.addr2 (by simp);have HA0 := Lib.hid (hta.getP 0 (by simp));have HA1 := Lib.hid (hta.getP 1 (by simp));rw [hlt2] at HPC c3;clear hta ht;refine wpIn_wide.2 ?_;go_wp2_with fail;refine (HPC.out _).mono ?_; rintro e w3 ⟨rfl, hb3⟩;have d3 := (bcell_alloc hb3).1 3;have hb3' : Below wr.heap.size wr w3 := ((Below.refl _ wr).alloc (Nat.le_refl _) _).trans (hb3.mono (by simp));obtain ⟨aad, acap, hbn, x0, x1, x2, x3, hxa⟩ := HA0.out;obtain ⟨bad, bcap, _, z0, z1, z2, z3, hxb⟩ := HA1.out;have kk : ∀ i, w3.cell? ⟨b0, i, none⟩ = wr.cell? ⟨b0, i, none⟩ := fun i => hb3'.cell (p := ⟨b0, i, none⟩) (show b0 < wr.heap.size by omega);rw [<- kk] at x0 x1 x2 x3 z0 z1 z2 z3;simp only [Nat.zero_mul, Nat.one_mul, Nat.add_zero, List.getElem_cons_zero, List.getElem_cons_succ] at x0 x1 x2 x3 z0 z1 z2 z3 hxa hxb
    have hs3 := hb3.size;rw [World.size_alloc] at hs3;have HB3 := Lib.hid hb3';have HXA := Lib.hid hxa;have HXB := Lib.hid hxb;clear kk hxa hxb hb3 hb3' c0 c1 c2 c3;go_upto_region 6 with fail;have hR1 : R.length + 2 <= 2000000 := by omega
    have HS : Hid (∀ W' : World, (∀ b', b' < w3.heap.size -> b' ≠ g -> W'.heap[b']? = w3.heap[b']?) -> W'.cell? ⟨wr.heap.size, 3, none⟩ = some (.slice (some ⟨b0, o, none⟩) 2 tcap) /\ W'.cell? ⟨b0, o, none⟩ = some (.int .i64 a.kind) /\ W'.cell? ⟨b0, o + 1, none⟩ = some (.string a.name) /\ W'.cell? ⟨b0, o + 2, none⟩ = some (.int .i64 a.n) /\ W'.cell? ⟨b0, o + 3, none⟩ = some (.slice aad a.args.length acap) /\ W'.cell? ⟨b0, o + 4, none⟩ = some (.int .i64 b.kind) /\ W'.cell? ⟨b0, o + 4 + 1, none⟩ = some (.string b.name) /\ W'.cell? ⟨b0, o + 4 + 2, none⟩ = some (.int .i64 b.n) /\ W'.cell? ⟨b0, o + 4 + 3, none⟩ = some (.slice bad b.args.length bcap)) := Lib.hid (fun W' h => by
     have hgq := HGR.out;have kc : ∀ b' i : Nat, b' < w3.heap.size -> b' ≠ g -> W'.cell? ⟨b', i, none⟩ = w3.cell? ⟨b', i, none⟩ := fun b' i h1 h2 => World.cell?_of_block (a := ⟨b', i, none⟩) (h b' h1 h2);exact ⟨(kc _ _ (by omega) (by omega)).trans d3, (kc _ _ (by omega) (by omega)).trans x0, (kc _ _ (by omega) (by omega)).trans x1, (kc _ _ (by omega) (by omega)).trans x2, (kc _ _ (by omega) (by omega)).trans x3, (kc _ _ (by omega) (by omega)).trans z0, (kc _ _ (by omega) (by omega)).trans z1, (kc _ _ (by omega) (by omega)).trans z2, (kc _ _ (by omega) (by omega)).trans z3⟩)
    have hS0 := HS.out w3.drew (fun _ _ _ => rfl);have hSA := HS.out (w3.alloc (.cells #[.int .i64 b.kind, .string b.name, .int .i64 b.n, .slice bad b.args.length bcap, .int .i64 a.kind, .string a.name, .int .i64 a.n, .slice aad a.args.length acap] 26)).drew (fun b' hb _ => Below.heap_alloc w3 _ _ hb);have HS9 := Lib.hid (fun (W9 : World) (hgr : (w3.alloc (.cells #[.int .i64 b.kind, .string b.name, .int .i64 b.n, .slice bad b.args.length bcap, .int .i64 a.kind, .string a.name, .int .i64 a.n, .slice aad a.args.length acap] 26)).drew.grownBy W9 (Value.slice (some ⟨g, 0, none⟩) R.length cp).ownBlock) => HS.out W9 (fun b' hb hne => (hgr.block b' (by show b' < (w3.alloc _).heap.size; rw [World.size_alloc]; exact Nat.lt_succ_of_lt hb) (fun e => hne (by simpa [Value.ownBlock] using e))).trans (Below.heap_alloc w3 _ _ hb)));have HROW : Hid ((w3.alloc (.cells #[.int .i64 b.kind, .string b.name, .int .i64 b.n, .slice bad b.args.length bcap, .int .i64 a.kind, .string a.name, .int .i64 a.n, .slice aad a.args.length acap] 26)).drew.ownsRow W.heap.size 26 4 (.slice (some ⟨g, 0, none⟩) R.length cp) R.length (gcells R)) := Lib.hid (ownsRow_block HPOP.out ((Below.heap_alloc w3 _ _ (by show g < w3.heap.size; have := HGR.out.1; omega)).trans (HB3.out.block g HGR.out.1)));have hbq : W.heap.size <= (w3.alloc (.cells #[.int .i64 b.kind, .string b.name, .int .i64 b.n, .slice bad b.args.length bcap, .int .i64 a.kind, .string a.name, .int .i64 a.n, .slice aad a.args.length acap] 26)).drew.heap.size := by show W.heap.size <= (w3.alloc _).heap.size; rw [World.size_alloc]; omega
    have HBD : Hid (Below wr.heap.size wr w3.drew) := Lib.hid HB3.out.drew;have hsd : wr.heap.size + 1 <= w3.drew.heap.size := hs3;clear x0 x1 x2 x3 z0 z1 z2 z3 d3 hs3 HB3 HS;go_region_held3 (fun W' => W'.cell? ⟨wr.heap.size, 3, none⟩ = some (.slice (some ⟨b0, o, none⟩) 2 tcap) /\ W'.cell? ⟨b0, o, none⟩ = some (.int .i64 a.kind) /\ W'.cell? ⟨b0, o + 1, none⟩ = some (.string a.name) /\ W'.cell? ⟨b0, o + 2, none⟩ = some (.int .i64 a.n) /\ W'.cell? ⟨b0, o + 3, none⟩ = some (.slice aad a.args.length acap) /\ W'.cell? ⟨b0, o + 4, none⟩ = some (.int .i64 b.kind) /\ W'.cell? ⟨b0, o + 4 + 1, none⟩ = some (.string b.name) /\ W'.cell? ⟨b0, o + 4 + 2, none⟩ = some (.int .i64 b.n) /\ W'.cell? ⟨b0, o + 4 + 3, none⟩ = some (.slice bad b.args.length bcap))
     (first | with_reducible exact s9 | with_reducible exact hSA | with_reducible exact hS0)
     (first
       | (refine step_app_terms (by rfl) (.tmp 23) (.tmp 32) (by rfl) (by rfl) HROW.out (by rfl) (by rfl) cells8D one8 (by decide) hR1 hbq ?_; intro g9 cap9 W9 hown9 hgrow hat hlt9; have s9 := HS9.out W9 hgrow))
    generalize hwd : w3.drew = wd at HBD hsd;have hgrow : (wd.alloc (.cells #[.int .i64 b.kind, .string b.name, .int .i64 b.n, .slice bad b.args.length bcap, .int .i64 a.kind, .string a.name, .int .i64 a.n, .slice aad a.args.length acap] 26)).grownBy W9 (Value.slice (some ⟨g, 0, none⟩) R.length cp).ownBlock := by rw [<- hwd]; exact hgrow
    have hat : (Value.slice (some ⟨g, 0, none⟩) R.length cp).ownBlock = some g9 \/ g9 = wd.heap.size + 1 := by
     rw [<- hwd]; rcases hat with h | h
     · exact .inl h
     · exact .inr (h.trans (World.size_alloc w3 _))
    have hsz9 := hgrow.size;rw [World.size_alloc] at hsz9;have hg9 : g9 = g \/ g9 = wd.heap.size + 1 := by
     rcases hat with h | h
     · left; simpa [Value.ownBlock] using h.symm
     · exact .inr (by first | exact h | simpa using h)
    have k9 : ∀ b', b' < wd.heap.size -> b' ≠ g -> W9.heap[b']? = wd.heap[b']? := fun b' hb hne =>
     (hgrow.block b' (by rw [World.size_alloc]; omega) (fun e => hne (by simpa [Value.ownBlock] using e))).trans (Below.heap_alloc _ _ _ hb)
    have hP9 : GIn w T n₀ W.heap.size J k ((a, aad, acap) :: (b, bad, bcap) :: R) g9 cap9 W9 := by
     have HP := HPP.out;have hgq := HGR.out.2;refine ⟨?_, ?_, ?_, HP.le, HR2.out, by show a.size + (b.size + _) <= _; omega, by omega, HP.below.trans ⟨hgrow.os.trans HBD.out.os, hgrow.tape.trans HBD.out.tape, hgrow.output.trans HBD.out.output, by omega, fun b' hb => (k9 b' (by have := HBD.out.size; omega) (by omega)).trans (HBD.out.block b' (by omega))⟩⟩
     · show W9.ownsRow W.heap.size 26 4 (.slice (some ⟨g9, 0, none⟩) (R.length + 2) cap9) (R.length + 2) ((gcells R ++ tcells b bad bcap) ++ tcells a aad acap)
       rw [List.append_assoc]; exact hown9
     · have kept : ∀ {e : Tm × Option Addr × Nat}, TmP wr (fun b => b < n₀) e.1 e.2.1 e.2.2 -> TmP W9 (fun b => b < n₀) e.1 e.2.1 e.2.2 := fun h => h.kept (fun b' hb hl => (k9 b' (by have := HBD.out.size; omega) (by omega)).trans (HBD.out.block b' hl)) fun _ h _ => h;intro e he;rcases List.mem_cons.1 he with rfl | he
       · exact kept HXA.out
       · rcases List.mem_cons.1 he with rfl | he
         · exact kept HXB.out
         · exact kept (HOK.out e he)
     · refine HJ.out _ _ k wr W9 HP.j ⟨hgrow.os.trans HBD.out.os, hgrow.tape.trans HBD.out.tape, hgrow.output.trans HBD.out.output, by omega, fun b' hb hne => (k9 b' (by have := HBD.out.size; omega) hne).trans (HBD.out.block b' hb)⟩ (fun j hj => ?_) (fun j hj => by omega);rcases hg9 with h | h
       · exact .inl (hj.trans h)
       · exact .inr (by have := HBD.out.size; omega)
    have HP9 := Lib.hid hP9;clear hown9 hgrow hat hsz9 k9 hP9;go_wp2;refine ⟨⟨_, k, _, g9, cap9, rfl, HP9.out, rfl⟩, ?_⟩;have hmm : (least fun m => GInv w T n₀ W.heap.size J m (Value.slice (some ⟨g, 0, none⟩) (R.length + 1) cp) wr) = m := HMM.out;rw [hmm, HME.out];refine Nat.lt_of_le_of_lt (least_le (m := Tm.sizes (((a, aad, acap) :: (b, bad, bcap) :: R : List (Tm × Option Addr × Nat)).map (·.1))) ⟨k, _, g9, cap9, rfl, HP9.out, rfl⟩) ?_;rw [hszs];show a.size + (b.size + _) < _
    omega
   | false =>
    rw [show twoK [44] t.kind t.name.data.toList t.args.length = false from ht] at HPC;obtain ⟨r1, r2, r3⟩ := rest_one HREST.out ht;have hat : GoalAt T n₀ w k (t, tad, tcap) := ⟨r1, HTM.out.kept (fun b hb _ => (HPP.out.below.block b hb).symm) fun _ h _ => h⟩;have HAT := Lib.hid hat;have HR2 := Lib.hid r2;clear ht hat r1 r2;gi_wp2_with fail
    refine ⟨trivial, (callsIn_wide.2 (HPC.out _)).mono ?_⟩; rintro e w3 ⟨rfl, hb3⟩;have d0 := (bcell_alloc hb3).1 0;have d1 := (bcell_alloc hb3).1 1;have d2 := (bcell_alloc hb3).1 2;have d3 := (bcell_alloc hb3).1 3;have hb3' : Below wr.heap.size wr w3 := ((Below.refl _ wr).alloc (Nat.le_refl _) _).trans (hb3.mono (by simp));have hs3 := hb3'.size;have hJ3 : J (fun j => j = g) k w3 := HJ.out _ _ k wr w3 HPP.out.j ⟨hb3'.os, hb3'.tape, hb3'.output, hs3, fun b' hb _ => hb3'.block b' hb⟩ (fun j hj => .inl hj) (fun j hj => by omega);obtain ⟨fn, tmps, assign, body, hy, hR⟩ := HY.out (fun j => j = g) k (t, tad, tcap) w3 hJ3 r3 HAT.out;unfold goalv tmv at hy;dsimp only at hy;have HR := Lib.hid hR;have HB3 := Lib.hid hb3';clear hR hJ3 hb3 hb3' c0 c1 c2 c3;gi_wp2
    refine HR.out.mono ?_;rintro e W4 (⟨rfl, hJ4, hb4, hk4⟩ | ⟨rfl, hJx4⟩)
    · have hP4 : GIn w T n₀ W.heap.size J (k + 1) R g cp W4 := by
       have HP := HPP.out;have hB : Below n₀ wr W4 := (HB3.out.mono (by omega)).trans hb4;refine ⟨ownsRow_block HPOP.out ((hk4.same g rfl).trans (HB3.out.block g HGR.out.1)), fun e he => (HOK.out e he).kept (fun b hb _ => hB.block b hb) fun _ h _ => h, hJ4, r3, HR2.out, by omega, by have := hk4.size; omega, HP.below.trans hB⟩
      have HP4 := Lib.hid hP4;clear hP4 hJ4 hb4 hk4;gi_wp2
      refine ⟨⟨_, k + 1, R, g, cp, rfl, HP4.out, rfl⟩, ?_⟩;have hmm : (least fun m => GInv w T n₀ W.heap.size J m (Value.slice (some ⟨g, 0, none⟩) (R.length + 1) cp) wr) = m := HMM.out;rw [hmm, HME.out];refine Nat.lt_of_le_of_lt (least_le (m := Tm.sizes (R.map (·.1))) ⟨k + 1, R, g, cp, rfl, HP4.out, rfl⟩) ?_;rw [hszs];have := t.size_pos;omega
    · have HJX := Lib.hid hJx4;clear hJx4;gi_wp2
      refine bodyPost_ret (results_none rfl _ _ _) rfl ?_;exact ⟨⟨_, rfl⟩, .inr ⟨_, k + 1, by omega, HJX.out⟩⟩
theorem fs_of {s : ByteArray} {l : List UInt8} (h : s.data.toList ≠ l) : (s.toList == l) = false := by rw [ByteArray.toList_eq]; exact beq_eq_false_iff_ne.2 h
theorem ts_of {s : ByteArray} {l : List UInt8} (h : s.data.toList = l) : (s.toList == l) = true := by rw [ByteArray.toList_eq, h]; exact beq_self_eq_true l
theorem beq_flip (t s : List UInt8) : (t == s) = decide (s = t) := by
 by_cases h : s = t
 · rw [decide_eq_true h, h]; exact beq_self_eq_true t
 · rw [decide_eq_false h]; exact beq_eq_false_iff_ne.2 (fun e => h e.symm)
set_option maxHeartbeats 2000000 in
set_option maxRecDepth 100000 in
theorem rc_IsC (k n : Int) (s : ByteArray) (ad : Option Addr) (len cap : Nat) (w : World) :
 Calls Tryz.prog 44 #[.agg #[.int .i64 k, .string s, .int .i64 n, .slice ad len cap], .string ⟨#[44]⟩, .int .i64 2] w fun e w' => e = .returned (.bool (twoK [44] k s.data.toList len)) /\ Below w.heap.size w w' := by
 have HB0 := Lib.hid (fun o : Obj => (Below.refl w.heap.size w).alloc (Nat.le_refl _) o);unfold twoK;by_cases hk : k = 4
 · subst hk;by_cases hs : s.data.toList = [44]
   · have hs1 := ts_of hs;rw [decide_eq_true hs];by_cases hl : len = 2
     · subst hl;clear hs;go_enter Tryz.func44, Tryz.ntmps44;go_wp2_with fail;go_ret;exact ⟨rfl, HB0.out _⟩
     · rw [decide_eq_false hl];have hl1 : ((len : Int) == 2) = false := by simp; omega
       clear hs hl;go_enter Tryz.func44, Tryz.ntmps44;go_wp2_with fail;go_ret;exact ⟨rfl, HB0.out _⟩
   · have hs1 := fs_of hs;rw [decide_eq_false hs];clear hs;go_enter Tryz.func44, Tryz.ntmps44;go_wp2_with fail;go_ret;exact ⟨rfl, HB0.out _⟩
 · have hk1 : (k == 4) = false := by simpa using hk
   rw [decide_eq_false hk];clear hk;go_enter Tryz.func44, Tryz.ntmps44;go_wp2_with fail;go_ret;exact ⟨rfl, HB0.out _⟩
set_option maxHeartbeats 2000000 in
set_option maxRecDepth 100000 in
theorem rc_IsR (k n : Int) (s : ByteArray) (ad : Option Addr) (len cap : Nat) (w : World) :
 Calls Tryz.prog 44 #[.agg #[.int .i64 k, .string s, .int .i64 n, .slice ad len cap], .string ⟨#[58, 45]⟩, .int .i64 2] w fun e w' => e = .returned (.bool (twoK [58, 45] k s.data.toList len)) /\ Below w.heap.size w w' := by
 have HB0 := Lib.hid (fun o : Obj => (Below.refl w.heap.size w).alloc (Nat.le_refl _) o);unfold twoK;by_cases hk : k = 4
 · subst hk;by_cases hs : s.data.toList = [58, 45]
   · have hs1 := ts_of hs;rw [decide_eq_true hs];by_cases hl : len = 2
     · subst hl;clear hs;go_enter Tryz.func44, Tryz.ntmps44;go_wp2_with fail;go_ret;exact ⟨rfl, HB0.out _⟩
     · rw [decide_eq_false hl];have hl1 : ((len : Int) == 2) = false := by simp; omega
       clear hs hl;go_enter Tryz.func44, Tryz.ntmps44;go_wp2_with fail;go_ret;exact ⟨rfl, HB0.out _⟩
   · have hs1 := fs_of hs;rw [decide_eq_false hs];clear hs;go_enter Tryz.func44, Tryz.ntmps44;go_wp2_with fail;go_ret;exact ⟨rfl, HB0.out _⟩
 · have hk1 : (k == 4) = false := by simpa using hk
   rw [decide_eq_false hk];clear hk;go_enter Tryz.func44, Tryz.ntmps44;go_wp2_with fail;go_ret;exact ⟨rfl, HB0.out _⟩
def NmsAt (w : World) (ad : Option Addr) (l : List (List UInt8)) : Prop := ∀ j (hj : j < l.length), ∃ g, ad = some ⟨g, 0, none⟩ /\ w.cell? ⟨g, j, none⟩ = some (.string ⟨l[j].toArray⟩)
theorem NmsAt.on {w w' : World} {ad : Option Addr} {l : List (List UInt8)} (h : NmsAt w ad l) (hb : Below w.heap.size w w') : NmsAt w' ad l := fun j hj => by
 obtain ⟨g, h1, h2⟩ := h j hj;exact ⟨g, h1, (hb.cell (p := ⟨g, j, none⟩) (World.block_lt_of_cell? w ⟨g, j, none⟩ h2)).trans h2⟩
set_option maxHeartbeats 4000000 in
set_option maxRecDepth 100000 in
theorem rc_has (l : List (List UInt8)) (s : ByteArray) (ad : Option Addr) (cap : Nat) (w : World) (h : NmsAt w ad l) (hl : l.length <= 100) :
 Calls Tryz.prog 33 #[.slice ad l.length cap, .string s] w fun e w' => e = .returned (.bool (l.any fun t => t == s.data.toList)) /\ w = w' := by
 obtain ⟨E, hE⟩ : ∃ E, (l.any fun t => t == s.data.toList) = E := ⟨_, rfl⟩;rw [hE];have HE := Lib.hid hE;have H := Lib.hid h;clear hE h;go_enter Tryz.func33, Tryz.ntmps33;go_wp2_with fail;go_loopw [9] (fun iv wr => ∃ k : Nat, k <= l.length /\ iv = .int .i64 k /\ w = wr /\ Hid (((l.take k).any fun t => t == s.data.toList) = false)) (fun iv _ => l.length - (intOf iv).toNat)
 case atStart => exact ⟨0, Nat.zero_le _, rfl, rfl, Lib.hid rfl⟩
 case round =>
  obtain ⟨k, hk, rfl, rfl, HB⟩ := hrel;by_cases hlt : k < l.length
  · obtain ⟨g, rfl, hc⟩ := H.out k hlt;have HN := Lib.hid (show ((l.take (k + 1)).any fun t => t == s.data.toList) = (l[k] == s.data.toList) by rw [List.take_succ_eq_append_getElem hlt, List.any_append, HB.out]; simp);have HH := Lib.hid (fun h : (l[k] == s.data.toList) = true => show E = true from HE.out.symm.trans (List.any_eq_true.2 ⟨l[k], List.getElem_mem hlt, h⟩));have hst : (l[k] == s.toList) = (l[k] == s.data.toList) := by rw [ByteArray.toList_eq]
    generalize l[k] = x at *;cases hx : (x == s.data.toList) with
    | true =>
     rw [hx] at hst;have HR := Lib.hid (HH.out hx);clear hx;go_wp2_with fail;go_ret;exact ⟨ret_bool HR.out.symm, rfl⟩
    | false =>
     rw [hx] at hst;have HN2 := Lib.hid (HN.out.trans hx);clear hx;go_wp2_with fail;go_roundw
     case rel => exact ⟨k + 1, by omega, by go_num, by first | rfl | trivial, HN2⟩
     case measure => simp [intOf]; omega
  · have hR := HB.out;rw [List.take_of_length_le (by omega)] at hR;have HR : Hid (E = false) := Lib.hid (HE.out.symm.trans hR);clear hR HB;go_wp2_with fail;go_ret;exact ⟨ret_bool HR.out.symm, rfl⟩
theorem nms_new (w : World) (l : List (List UInt8)) (C : Array Value) (hC : C = (l.map fun x => Value.string ⟨x.toArray⟩).toArray) : NmsAt (w.alloc (.cells C 9)) (some ⟨w.heap.size, 0, none⟩) l := fun j hj => by
 subst hC;refine ⟨_, rfl, (World.cell?_alloc_at _ _ _ _ rfl).trans ?_⟩;simp [hj]
set_option maxHeartbeats 4000000 in
set_option maxRecDepth 100000 in
theorem rc_Names (n : Int) (w : World) :
 Calls Tryz.prog 34 #[.int .i64 n] w fun e w' => ∃ ad, e = .returned (.slice ad (bltN n).length (bltN n).length) /\ NmsAt w' ad (bltN n) /\ Below w.heap.size w w' := by
 have HB0 := Lib.hid (fun o : Obj => (Below.refl w.heap.size w).alloc (Nat.le_refl _) o);by_cases e0 : n = 0
 · subst e0;have HN := Lib.hid (nms_new w (bltN 0) _ rfl);go_enter Tryz.func34, Tryz.ntmps34;go_wp2_with fail;go_ret;exact ⟨_, rfl, HN.out, HB0.out _⟩
 have f0 : (n == 0) = false := beq_eq_false_iff_ne.2 e0;by_cases e1 : n = 1
 · subst e1;have HN := Lib.hid (nms_new w (bltN 1) _ rfl);go_enter Tryz.func34, Tryz.ntmps34;go_wp2_with fail;go_ret;exact ⟨_, rfl, HN.out, HB0.out _⟩
 have f1 : (n == 1) = false := beq_eq_false_iff_ne.2 e1;by_cases e2 : n = 2
 · subst e2;have HN := Lib.hid (nms_new w (bltN 2) _ rfl);go_enter Tryz.func34, Tryz.ntmps34;go_wp2_with fail;go_ret;exact ⟨_, rfl, HN.out, HB0.out _⟩
 have f2 : (n == 2) = false := beq_eq_false_iff_ne.2 e2;by_cases e3 : n = 3
 · subst e3;have HN := Lib.hid (nms_new w (bltN 3) _ rfl);go_enter Tryz.func34, Tryz.ntmps34;go_wp2_with fail;go_ret;exact ⟨_, rfl, HN.out, HB0.out _⟩
 have f3 : (n == 3) = false := beq_eq_false_iff_ne.2 e3;rw [show bltN n = [] from by unfold bltN; rw [if_neg e0, if_neg e1, if_neg e2, if_neg e3]];clear e0 e1 e2 e3;go_enter Tryz.func34, Tryz.ntmps34;go_wp2_with fail;go_ret;exact ⟨_, rfl, fun j hj => by simp at hj, Below.refl _ _⟩
theorem bltN_len (n : Int) : (bltN n).length <= 100 := by unfold bltN; split <;> (try split) <;> (try split) <;> (try split) <;> decide
set_option maxHeartbeats 4000000 in
set_option maxRecDepth 100000 in
theorem rc_Builtin (s : ByteArray) (n : Int) (w : World) :
 Calls Tryz.prog 11 #[.string s, .int .i64 n] w fun e w' => e = .returned (.bool (bltL s.data.toList n)) /\ Below w.heap.size w w' := by
 have HN := Lib.hid (rc_Names n w);have HL := Lib.hid (bltN_len n);unfold bltL;generalize bltN n = l at *;go_enter Tryz.func11, Tryz.ntmps11;go_wp2_with fail;refine HN.out.mono ?_; rintro e w1 ⟨ad, rfl, h1, hb⟩;have HH := Lib.hid (rc_has l s ad l.length w1 h1 HL.out);have HB := Lib.hid hb;clear h1 hb;go_wp2_with fail;refine HH.out.mono ?_; rintro e w2 ⟨rfl, rfl⟩;go_wp2_with fail;go_ret;exact ⟨rfl, HB.out⟩
set_option maxHeartbeats 4000000 in
set_option maxRecDepth 100000 in
theorem rc_isGoal (k n : Int) (s : ByteArray) (ad : Option Addr) (len cap : Nat) (w : World) :
 Calls Tryz.prog 45 #[.agg #[.int .i64 k, .string s, .int .i64 n, .slice ad len cap]] w fun e w' => e = .returned (.bool (goalK k s.data.toList len)) /\ Below w.heap.size w w' := by
 have HB0 := Lib.hid (fun o : Obj => (Below.refl w.heap.size w).alloc (Nat.le_refl _) o);have HB1 := Lib.hid (fun o o2 : Obj => ((Below.refl w.heap.size w).alloc (Nat.le_refl _) o).alloc (by simp) o2);by_cases hk : k = 2 \/ k = 4
 · have hk1 : (decide (k = 2) || decide (k = 4)) = true := by rcases hk with rfl | rfl <;> rfl
   unfold goalK;rw [hk1, Bool.true_and];unfold lackL;by_cases l1 : len = 1
   · subst l1;have hh := fun (o : Obj) => rc_has [[92, 43], [58, 45], [63, 45]] s (some ⟨(w.alloc o).heap.size, 0, none⟩) 3 _ (nms_new (w.alloc o) [[92, 43], [58, 45], [63, 45]] #[.string ⟨#[92, 43]⟩, .string ⟨#[58, 45]⟩, .string ⟨#[63, 45]⟩] rfl) (by decide);simp only [World.size_alloc] at hh
     have HH := Lib.hid hh;clear hh;have e1 : ([[92, 43], [58, 45], [63, 45]].any fun t => t == s.data.toList) = (decide (s.data.toList = [92, 43]) || (decide (s.data.toList = [58, 45]) || decide (s.data.toList = [63, 45]))) := by
      simp only [List.any_cons, List.any_nil, Bool.or_false, beq_flip]
     rw [e1] at HH;rw [show decide ((1 : Nat) = 1) = true from rfl, show decide ((1 : Nat) = 2) = false from rfl, Bool.true_and, Bool.false_and, Bool.or_false];generalize (decide (s.data.toList = [92, 43]) || (decide (s.data.toList = [58, 45]) || decide (s.data.toList = [63, 45]))) = v at *;rcases hk with rfl | rfl
     all_goals
      clear hk1 e1;go_enter Tryz.func45, Tryz.ntmps45;go_wp2_with fail;refine (HH.out _).mono ?_; rintro e w1 ⟨rfl, rfl⟩;go_wp2_with fail;go_ret;exact ⟨rfl, HB1.out _ _⟩
   by_cases l2 : len = 2
   · subst l2;have hh := fun (o : Obj) => rc_has [[44], [59], [45, 62], [58, 45]] s (some ⟨(w.alloc o).heap.size, 0, none⟩) 4 _ (nms_new (w.alloc o) [[44], [59], [45, 62], [58, 45]] #[.string ⟨#[44]⟩, .string ⟨#[59]⟩, .string ⟨#[45, 62]⟩, .string ⟨#[58, 45]⟩] rfl) (by decide);simp only [World.size_alloc] at hh
     have HH := Lib.hid hh;clear hh;have e1 : ([[44], [59], [45, 62], [58, 45]].any fun t => t == s.data.toList) = (decide (s.data.toList = [44]) || (decide (s.data.toList = [59]) || (decide (s.data.toList = [45, 62]) || decide (s.data.toList = [58, 45])))) := by
      simp only [List.any_cons, List.any_nil, Bool.or_false, beq_flip]
     rw [e1] at HH;rw [show decide ((2 : Nat) = 1) = false from rfl, show decide ((2 : Nat) = 2) = true from rfl, Bool.true_and, Bool.false_and, Bool.false_or];generalize (decide (s.data.toList = [44]) || (decide (s.data.toList = [59]) || (decide (s.data.toList = [45, 62]) || decide (s.data.toList = [58, 45])))) = v at *;rcases hk with rfl | rfl
     all_goals
      clear hk1 e1 l1;go_enter Tryz.func45, Tryz.ntmps45;go_wp2_with fail;refine (HH.out _).mono ?_; rintro e w1 ⟨rfl, rfl⟩;go_wp2_with fail;go_ret;exact ⟨rfl, HB1.out _ _⟩
   have f1 : ((len : Int) == 1) = false := beq_eq_false_iff_ne.2 (by omega);have f2 : ((len : Int) == 2) = false := beq_eq_false_iff_ne.2 (by omega);rw [decide_eq_false l1, decide_eq_false l2];rcases hk with rfl | rfl
   all_goals
    clear hk1 l1 l2;go_enter Tryz.func45, Tryz.ntmps45;go_wp2_with fail;go_ret;exact ⟨rfl, HB0.out _⟩
 · have h2 : (k != 2) = true := bne_iff_ne.2 (fun e => hk (.inl e));have h4 : (k != 4) = true := bne_iff_ne.2 (fun e => hk (.inr e));unfold goalK;rw [decide_eq_false (fun e => hk (.inl e)), decide_eq_false (fun e => hk (.inr e))];clear hk;go_enter Tryz.func45, Tryz.ntmps45;go_wp2_with fail;go_ret;exact ⟨rfl, HB0.out _⟩
end Go.Proofs.YtinefdlkajnomaaGreatDoor
