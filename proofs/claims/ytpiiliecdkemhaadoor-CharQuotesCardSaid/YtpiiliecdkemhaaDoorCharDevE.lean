/-
  The contract of package char's own inQuotes.
-/
import Derived.Test.YtpiiliecdkemhaaDoorCharDevD
import Derived.Test.YtpiiliecdkemhaaDoorCharRefG
namespace Go.Proofs.YtpiiliecdkemhaaDoor
open Go.RowKit

set_option maxHeartbeats 2000000 in
theorem dev_inQuotes (c : Int) (hc0 : 0 ≤ c) (hc1 : c ≤ 1114111) (w : World) (hT : Tabs w) :
    Calls Tryd.prog 27 #[.int .i32 c] w fun e w' => e = .returned (.string ⟨(escR c).toArray⟩) ∧ Below w.heap.size w w' := by
  obtain ⟨n, hn⟩ := Int.eq_ofNat_of_zero_le hc0
  have hx := escR_cases n
  rw [← hn] at hx
  have HF := Lib.hid (fun h => conv_FormatInt c n hn h w hT.2)
  have henc := encode_size c
  obtain ⟨hen1, hen2⟩ := henc
  have hhl := hexL_length n
  clear hT
  rcases hx with ⟨h1, hx⟩ | ⟨h1, hx⟩ | ⟨h1, hx⟩ | ⟨h1, hx⟩ | ⟨h1, h2, h3, h4, h5, hx⟩ | ⟨h1, h2, hx⟩
  · rw [hx, hn, h1, show encL ((39 : Nat) : Int) = [39] by decide +kernel]
    clear hx
    go_enter Tryd.func27, Tryd.ntmps27
    go_wp2_with fail
    go_ret
    exact ⟨rfl, Below.refl _ _⟩
  · rw [hx, hn, h1, show encL ((92 : Nat) : Int) = [92] by decide +kernel]
    clear hx
    go_enter Tryd.func27, Tryd.ntmps27
    go_wp2_with fail
    go_ret
    exact ⟨rfl, Below.refl _ _⟩
  · rw [hx, hn, h1]
    clear hx
    go_enter Tryd.func27, Tryd.ntmps27
    go_wp2_with fail
    go_ret
    exact ⟨rfl, Below.refl _ _⟩
  · rw [hx, hn, h1]
    clear hx
    go_enter Tryd.func27, Tryd.ntmps27
    go_wp2_with fail
    go_ret
    exact ⟨rfl, Below.refl _ _⟩
  · have HC := Lib.hid (HF.out h5)
    have e39 : (c == 39) = false := by simp; omega
    have e92 : (c == 92) = false := by simp; omega
    have e10 : (c == 10) = false := by simp; omega
    have e9 : (c == 9) = false := by simp; omega
    have g32 : c < 32 := by omega
    rw [hx]
    generalize hexL n = l at *
    clear hx hn h1 h2 h3 h4 h5 HF
    go_enter Tryd.func27, Tryd.ntmps27
    go_wp2_with fail
    refine HC.out.mono ?_; rintro e w1 ⟨rfl, hb⟩
    go_wp2_with fail
    go_ret
    exact ⟨ret_str (of_list _ _ (by rw [data_cat, data_cat]; rfl)), hb⟩
  · have e39 : (c == 39) = false := by simp; omega
    have e92 : (c == 92) = false := by simp; omega
    have e10 : (c == 10) = false := by simp; omega
    have e9 : (c == 9) = false := by simp; omega
    have g32 : 32 ≤ c := by omega
    rw [hx]
    clear hx hn h1 h2 HF
    go_enter Tryd.func27, Tryd.ntmps27
    go_wp2_with fail
    go_ret
    exact ⟨rfl, Below.refl _ _⟩
end Go.Proofs.YtpiiliecdkemhaaDoor
