/-
  The law ReadLists, whole; a parameter that is a list of numbers.
-/
import Derived.Test.YtlbdocdjijhkbaaGreatDoorReadGW
import Derived.Test.YtlbdocdjijhkbaaGreatDoorTokTab
import Derived.ChangeSlices
import Derived.OpenShut
namespace Go.Proofs.YtlbdocdjijhkbaaGreatDoor
open Go.RowKit Go.ChangeShapes Go.WideShapes

section
variable {H : Type} {enc : TypeId × Value → H} {w : World}

set_option maxRecDepth 100000 in
/-- A parameter that is a list of numbers. -/
theorem open_nums {r : Reach} {b0 : Nat} {v : Value} {d : DataW H} {p : List MemPlace} (hv : Value.okWide Tryz.prog w r b0 42 v) (h : DataW.Trod enc Tryz.prog w 0 (fun _ => true) true 42 v d p) :
    ∃ (l : List Int) (ad : Option Addr) (cap : Nat), v = .slice ad l.length cap ∧ NumsIn w l ad cap := by
  obtain ⟨a0, l0, c0, rfl⟩ := okWide_slice Tryz.underlying42 hv
  obtain ⟨fuel, hf⟩ := h
  rcases open_ints Tryz.underlying42 Tryz.underlying2 (by kernel_rfl) hf with ⟨h4, _⟩ | ⟨a, len, cap, zs, h4, _, hlc, hcm, hzl, _, hat, hwf⟩
  · have h5 : Value.slice a0 l0 c0 = .slice none 0 0 := by simpa [Value.cells] using h4
    rw [h5]
    exact ⟨[], none, 0, rfl, Nat.zero_le _, Nat.zero_le _, fun n hn => (nomatch hn), fun j hj => absurd hj (Nat.not_lt_zero _)⟩
  · have h5 : Value.slice a0 l0 c0 = .slice (some a) len cap := by simpa [Value.cells] using h4
    rw [h5]
    have hz : zs.length = cap := by simpa using hzl
    have hl : (zs.take len).length = len := by rw [List.length_take]; omega
    refine ⟨zs.take len, some a, cap, by rw [hl], by omega, hcm, fun n hn => in64_of_wf (hwf n (List.mem_of_mem_take hn)), fun j hj => ?_⟩
    rw [hl] at hj
    obtain ⟨b, o, rfl, hc⟩ := ints_at hat (by omega)
    refine ⟨b, o, rfl, ?_⟩
    rw [hc j (by omega), List.getElem_take, List.getD_eq_getElem?_getD, List.getElem?_eq_getElem (by omega)]
    rfl
end

theorem walk_ReadLists (l : List Int) (ad : Option Addr) (cap : Nat) (w : World) (hin : NumsIn w l ad cap) (hT : TabsT w) :
    Calls Tryz.prog 9 #[.slice ad l.length cap] w fun e w' => e = .returned (.bool true) ∧ Below w.heap.size w w' := by
  by_cases h1 : 50 < l.length
  · exact lists_no l ad cap w hT (.inl h1) hin
  by_cases h2 : l = []
  · exact lists_no l ad cap w hT (.inr h2) hin
  exact lists_yes l ad cap w hT (by omega) h2 hin
end Go.Proofs.YtlbdocdjijhkbaaGreatDoor
