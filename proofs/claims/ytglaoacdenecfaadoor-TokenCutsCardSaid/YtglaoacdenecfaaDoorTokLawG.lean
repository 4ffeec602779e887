/-
  The walk of the law TokenCuts.
-/
import Derived.Test.YtglaoacdenecfaaDoorTokCutR
namespace Go.Proofs.YtglaoacdenecfaaDoor
open Go.RowKit

theorem ref_good {T : List Tok} (s : ByteArray) (hl : s.data.toList.length ≤ 4096) (hc : cutL s.data.toList 0 false = .good T) (w : World) (hT : TabsT w) :
    Calls Tryd.prog 11 #[.string s] w fun e w' => ∃ v, e = .returned (.tuple #[v, .int .i64 0, .int .i64 0]) ∧ OwnToks w.heap.size w' v T ∧ Below w.heap.size w w' := by
  refine (ref_Cut s w hT).mono ?_
  rintro e w' ⟨h, hb⟩
  rcases h with ⟨h, _⟩ | ⟨_, ⟨o, h, _⟩ | ⟨T', v, h, he, ho⟩⟩
  · omega
  · rw [hc] at h; cases h
  · rw [hc] at h; injection h with h; subst h; exact ⟨v, he, ho, hb⟩
theorem ref_refused {o : Nat} (s : ByteArray) (hl : s.data.toList.length ≤ 4096) (hc : cutL s.data.toList 0 false = .bad o) (w : World) (hT : TabsT w) :
    Calls Tryd.prog 11 #[.string s] w fun e w' => e = .returned (.tuple #[.slice none 0 0, .int .i64 (o : Nat), .int .i64 50]) ∧ Below w.heap.size w w' := by
  refine (ref_Cut s w hT).mono ?_
  rintro e w' ⟨h, hb⟩
  rcases h with ⟨h, _⟩ | ⟨_, ⟨o', h, he⟩ | ⟨T', v, h, _⟩⟩
  · omega
  · rw [hc] at h; injection h with h; subst h; exact ⟨he, hb⟩
  · rw [hc] at h; cases h
theorem ref_long (s : ByteArray) (hl : 4096 < s.data.toList.length) (w : World) (hT : TabsT w) :
    Calls Tryd.prog 11 #[.string s] w fun e w' => e = .returned (.tuple #[.slice none 0 0, .int .i64 0, .int .i64 2]) ∧ Below w.heap.size w w' := by
  refine (ref_Cut s w hT).mono ?_
  rintro e w' ⟨h, hb⟩
  rcases h with ⟨_, h⟩ | ⟨h, _⟩
  · exact ⟨h, hb⟩
  · omega

set_option maxRecDepth 100000 in
set_option maxHeartbeats 4000000 in
theorem cuts_no (s : ByteArray) (w : World) (hT : TabsT w) (p er : Int)
    (h1 : ∀ W, TabsT W → Calls Tryd.prog 10 #[.string s] W fun e w' => e = .returned (.tuple #[.slice none 0 0, .int .i64 p, .int .i64 er]) ∧ Below W.heap.size W w')
    (h2 : ∀ W, TabsT W → Calls Tryd.prog 11 #[.string s] W fun e w' => e = .returned (.tuple #[.slice none 0 0, .int .i64 p, .int .i64 er]) ∧ Below W.heap.size W w') :
    Calls Tryd.prog 3 #[.string s] w fun e w' => e = .returned (.bool true) ∧ Below w.heap.size w w' := by
  have HT := Lib.hid hT
  have HL := Lib.hid (tok_live w hT)
  have H1 := Lib.hid h1
  have H2 := Lib.hid h2
  have HS := Lib.hid (fun W => ref_Same [] _ _ W (SeenToks.none W) (SeenToks.none W))
  clear hT h1 h2
  go_enter Tryd.func3, Tryd.ntmps3
  go_wp2_with fail
  refine HL.out.mono ?_; rintro e w1 ⟨rfl, hb1⟩
  go_wp2_with fail
  refine (H1.out _ (HT.out.on hb1)).mono ?_; rintro e w2 ⟨rfl, hb2⟩
  have hb := hb1.trans (hb2.mono hb1.size)
  clear hb1 hb2
  go_wp2_with fail
  refine (H2.out _ (HT.out.on hb)).mono ?_; rintro e w3 ⟨rfl, hb3⟩
  have hbw := hb.trans (hb3.mono hb.size)
  clear hb hb3
  go_wp2_with fail
  refine (HS.out _).mono ?_; rintro e w4 ⟨rfl, hb4⟩
  have hbz := hbw.trans (hb4.mono hbw.size)
  clear hbw hb4
  go_wp2_with fail
  go_ret
  exact ⟨rfl, hbz⟩

set_option maxRecDepth 100000 in
set_option maxHeartbeats 4000000 in
theorem cuts_good (s : ByteArray) (w : World) (hT : TabsT w) (T : List Tok) (hl : s.data.toList.length ≤ 4096) (hc : cutL s.data.toList 0 false = .good T) :
    Calls Tryd.prog 3 #[.string s] w fun e w' => e = .returned (.bool true) ∧ Below w.heap.size w w' := by
  have HT := Lib.hid hT
  have HL := Lib.hid (tok_live w hT)
  have H1 := Lib.hid (fun W h => cut_good hl hc s rfl W h)
  have H2 := Lib.hid (fun W h => ref_good s hl hc W h)
  clear hT hl hc
  go_enter Tryd.func3, Tryd.ntmps3
  go_wp2_with fail
  refine HL.out.mono ?_; rintro e w1 ⟨rfl, hb1⟩
  go_wp2_with fail
  refine (H1.out _ (HT.out.on hb1)).mono ?_; rintro e w2 ⟨v, rfl, ho, hb2⟩
  have hb := hb1.trans (hb2.mono hb1.size)
  clear hb1 hb2
  go_wp2_with fail
  refine (H2.out _ (HT.out.on hb)).mono ?_; rintro e w3 ⟨v2, rfl, ho2, hb3⟩
  have hbw := hb.trans (hb3.mono hb.size)
  have HS := Lib.hid (ref_Same T v v2 w3 (ho.below hb3).seen ho2.seen)
  clear hb hb3 ho ho2
  go_wp2_with fail
  refine HS.out.mono ?_; rintro e w4 ⟨rfl, hb4⟩
  have hbz := hbw.trans (hb4.mono hbw.size)
  clear hbw hb4
  go_wp2_with fail
  go_ret
  exact ⟨rfl, hbz⟩
theorem walk_TokenCuts (s : ByteArray) (w : World) (hT : TabsT w) :
    Calls Tryd.prog 3 #[.string s] w fun e w' => e = .returned (.bool true) ∧ Below w.heap.size w w' := by
  by_cases hl : 4096 < s.data.toList.length
  · exact cuts_no s w hT 0 2 (fun W h => cut_long hl s rfl W h) (fun W h => ref_long s hl W h)
  · cases hc : cutL s.data.toList 0 false with
    | bad o => exact cuts_no s w hT (o : Nat) 50 (fun W h => cut_refused (by omega) hc s rfl W h) (fun W h => ref_refused s (by omega) hc W h)
    | good T => exact cuts_good s w hT T (by omega) hc
end Go.Proofs.YtglaoacdenecfaaDoor
