/-
  Plain facts for the walk of UnifyShifts: numbers of terms that may be, in bounds.
-/
import Derived.Test.YtlpmofmhcnclhaaDoorUniV
import Derived.Test.YtlpmofmhcnclhaaDoorUniW
import Derived.Test.YtlpmofmhcnclhaaDoorTermMay
import Derived.Test.YtlpmofmhcnclhaaDoorTermVs
import Derived.Test.YtlpmofmhcnclhaaDoorUniO
namespace Go.Proofs.YtlpmofmhcnclhaaDoor
open Go.RowKit

theorem hasL_iffY (l : List Int) (n : Int) : hasL l n = true ↔ n ∈ l := by
  unfold hasL
  rw [List.any_eq_true]
  constructor
  · rintro ⟨x, h1, h2⟩; rw [← beq_iff_eq.1 h2]; exact h1
  · intro h; exact ⟨n, h, beq_self_eq_true n⟩
theorem onceGo_inY : ∀ (l L : List Int) (x : Int), x ∈ L ∨ x ∈ l → x ∈ onceGo L l
  | [], L, x, h => by unfold onceGo; simpa using h
  | n :: l, L, x, h => by
    unfold onceGo
    split
    · rename_i hh
      refine onceGo_inY l L x ?_
      rcases h with h | h
      · exact .inl h
      · rcases List.mem_cons.1 h with rfl | h
        · exact .inl ((hasL_iffY L x).1 hh)
        · exact .inr h
    · refine onceGo_inY l (L ++ [n]) x ?_
      rcases h with h | h
      · exact .inl (by simp [h])
      · rcases List.mem_cons.1 h with rfl | h
        · exact .inl (by simp)
        · exact .inr h
theorem vars_inY {t : Tm} {v : Int} (h : v ∈ t.places) : v ∈ t.vars := onceGo_inY _ _ _ (.inr h)
mutual
theorem may_placesY : ∀ t : Tm, t.may = true → ∀ v ∈ t.places, 0 ≤ v
  | .mk k s n l => fun h v hv => by
    rw [Tm.places_eq] at hv
    rcases List.mem_append.1 hv with hv | hv
    · by_cases hk : k = 1
      · subst hk
        have h1 : mayK 1 s n l.length (Tm.mays l) = true := h
        unfold mayK at h1
        rw [if_pos rfl, Bool.and_eq_true, decide_eq_true_eq] at h1
        have h2 : v ∈ (if (1 : Int) = 1 then [n] else []) := hv
        rw [if_pos rfl] at h2
        rw [List.mem_singleton.1 h2]
        exact h1.1
      · have h2 : v ∈ (if k = 1 then [n] else []) := hv
        rw [if_neg hk] at h2; cases h2
    · obtain ⟨a, ha, hva⟩ := List.mem_flatMap.1 hv
      have ha' : a ∈ l := ha
      by_cases he : l = []
      · subst he; cases ha'
      · rcases may_parts h with ⟨_, _, e⟩ | ⟨_, _, e⟩ | ⟨_, _, e⟩ | ⟨_, _, e⟩
        · exact absurd e he
        · exact absurd e he
        · exact absurd e he
        · exact mays_placesY l e a ha' v hva
theorem mays_placesY : ∀ l : List Tm, Tm.mays l = true → ∀ a ∈ l, ∀ v ∈ a.places, 0 ≤ v
  | [], _ => fun a ha => by cases ha
  | t :: l, h => fun a ha v hv => by
    obtain ⟨h1, h2⟩ := mays_cons h
    rcases List.mem_cons.1 ha with e | ha
    · rw [e] at hv; exact may_placesY t h1 v hv
    · exact mays_placesY l h2 a ha v hv
end
theorem plM_ofY {t : Tm} (h : ∀ v ∈ t.vars, 0 ≤ v ∧ v ≤ 1000000) : PlM t := fun v hv => ⟨by have := (h v (vars_inY hv)).1; omega, (h v (vars_inY hv)).2⟩
theorem plM_chkY {t : Tm} (hc : t.chk = 0) (h : ∀ v ∈ t.vars, v ≤ 1000000) : PlM t := fun v hv => ⟨by have := may_placesY t (chk_mayU hc) v hv; omega, h v (vars_inY hv)⟩
theorem bdsM_ofY {bs : Bds} (h1 : ∀ (j : Nat) (hj : j < bs.length), -1000000 ≤ bs[j].1 ∧ bs[j].1 ≤ 1000000) (h2 : Bds64 bs) (h3 : ∀ (j : Nat) (hj : j < bs.length), ∀ v ∈ bs[j].2.vars, 0 ≤ v ∧ v ≤ 1000000) : BdsM bs :=
  ⟨fun b hb => by obtain ⟨j, hj, rfl⟩ := List.mem_iff_getElem.1 hb; exact h1 j hj, h2, fun b hb => by obtain ⟨j, hj, rfl⟩ := List.mem_iff_getElem.1 hb; exact plM_ofY (h3 j hj)⟩
theorem getD_shiftY (c : Int) (o : Option Bds) : (o.map (shiftB c)).getD [] = shiftB c (o.getD []) := by cases o <;> rfl
theorem isSome_shiftY (c : Int) (o : Option Bds) : (o.map (shiftB c)).isSome = o.isSome := by cases o <;> rfl

end Go.Proofs.YtlpmofmhcnclhaaDoor
