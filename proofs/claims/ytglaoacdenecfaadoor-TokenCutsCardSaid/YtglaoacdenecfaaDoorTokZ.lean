/-
  The contract of the document's own token.
-/
import Derived.Test.YtglaoacdenecfaaDoorTokX
import Derived.Test.YtglaoacdenecfaaDoorTokY
import Derived.Test.YtglaoacdenecfaaDoorTokV
namespace Go.Proofs.YtglaoacdenecfaaDoor
open Go.RowKit

set_option maxRecDepth 100000 in
set_option maxHeartbeats 4000000 in
theorem tok_c3 (s : ByteArray) (p : Nat) (gl : Bool) (w : World) (hs : s.size ≤ 200000) (hp : p < s.size) (hc : cls (s[p].toNat : Int) = 3) (hT : TabsT w) :
    Calls Tryd.prog 20 #[.string s, .int .i64 (p : Nat), .bool gl] w fun e w' => TokAns (s.data.toList.drop p) p gl e ∧ Below w.heap.size w w' := by
  have hda := drop_at s p hp
  have hp0 : (0 : Int) ≤ (p : Int) := by omega
  have hp1 : (p : Int) < (s.size : Int) := by omega
  have HC := Lib.hid (fun W => by
    have := ref_class s p W (by omega)
    rw [cl1_at s p hp, hc] at this
    exact this)
  have hlex : lexL (s.data.toList.drop p) = numberL (s.data.toList.drop p) := by
    rw [hda]; unfold lexL; dsimp only
    rw [hc, if_neg (by decide), if_neg (by decide), if_neg (by decide), if_pos rfl]
  have HT := Lib.hid hT
  have HN := Lib.hid (fun W (h : TabsT W) => ref_number s p W hs hp (by unfold digR; rw [hc]; decide) h)
  have HL := Lib.hid hlex
  have HB := Lib.hid (fun o : Obj => (Below.refl w.heap.size w).alloc (Nat.le_refl _) o)
  clear hda hc hlex hT
  go_enter Tryd.func20, Tryd.ntmps20
  go_wp2_with fail
  refine (HC.out _).mono ?_; rintro e w0 ⟨rfl, rfl⟩
  go_wp2_with fail
  have kz8 := new_at w (.cells #[.int .i64 0, .string ⟨#[]⟩, .int .i64 0, .int .i64 0] 30)
  have hb8 := HB.out (.cells #[.int .i64 0, .string ⟨#[]⟩, .int .i64 0, .int .i64 0] 30)
  generalize w.alloc (.cells #[.int .i64 0, .string ⟨#[]⟩, .int .i64 0, .int .i64 0] 30) = w8 at *
  refine (HN.out _ (HT.out.on hb8)).mono ?_; rintro e w9 ⟨⟨n, en, ok, rfl, h1, h2⟩, hb9⟩
  have HANS : Hid (TokAns (s.data.toList.drop p) p gl (.returned (.tuple #[.agg #[.int .i64 5, .string ⟨#[]⟩, .int .i64 n, .int .i64 (p : Nat)], .int .i64 (en : Nat), .bool ok]))) := Lib.hid (by
    refine ⟨5, n, (p : Nat), ⟨#[]⟩, en, ok, rfl, by rw [HL.out]; exact h1, fun h => ?_⟩
    obtain ⟨h3, h4⟩ := h2 h
    rw [HL.out, h3]
    exact ⟨show (5 : Int) ≠ 0 by decide, (kind_same (x := ⟨5, [], n, en - p⟩) gl (show (5 : Int) ≠ 6 by decide)).symm, rfl, rfl, rfl, show en = p + (en - p) by omega⟩)
  have kz9 := kept_at hb9 kz8
  have hbA := hb8.trans (hb9.mono hb8.size)
  have hl9 : w.heap.size < w9.heap.size := (Array.getElem?_eq_some_iff.1 kz9).1
  obtain ⟨c0, c1, c2, c3, f0, f1, f2, f3⟩ := cells4 kz9
  clear kz8 kz9 hb8 hb9 h1 h2
  go_wp2_with fail
  refine bodyPost_ret (v := .tuple #[.agg #[.int .i64 5, .string ⟨#[]⟩, .int .i64 n, .int .i64 (p : Nat)], .int .i64 (en : Nat), .bool ok]) (by simp [results, Tryd.results20, go_sem, c0, c1, c2, c3]) rfl ⟨HANS.out, ?_⟩
  exact below_set4 hbA (Nat.le_refl _) _ _ _ _

theorem cls_33 (b : UInt8) (h : b = 33) : cls (b.toNat : Int) = 6 := by subst h; decide
theorem cls_59 (b : UInt8) (h : b = 59) : cls (b.toNat : Int) = 6 := by subst h; decide
theorem cls_40 (b : UInt8) (h : b = 40) : cls (b.toNat : Int) = 7 := by subst h; decide
theorem ref_token (s : ByteArray) (p : Nat) (gl : Bool) (w : World) (hs : s.size ≤ 200000) (hp : p < s.size) (hT : TabsT w) (hns : NotSkip (s.data.toList.drop p)) :
    Calls Tryd.prog 20 #[.string s, .int .i64 (p : Nat), .bool gl] w fun e w' => TokAns (s.data.toList.drop p) p gl e ∧ Below w.heap.size w w' := by
  obtain ⟨b, t, hl, n5, n37, n2⟩ := hns
  have hb : b = s[p] := by
    have := drop_at s p hp
    rw [hl] at this
    injection this
  subst hb
  by_cases h1 : cls (s[p].toNat : Int) = 1
  · exact tok_c1 s p gl w hs hp h1
  by_cases h2 : cls (s[p].toNat : Int) = 2
  · exact tok_c2 s p gl w hs hp h2
  by_cases h3 : cls (s[p].toNat : Int) = 3
  · exact tok_c3 s p gl w hs hp h3 hT
  by_cases h4 : cls (s[p].toNat : Int) = 4
  · obtain ⟨E, hE⟩ : ∃ E, p + spanL signR (s.data.toList.drop p) = E := ⟨_, rfl⟩
    by_cases hd : (s.data.toList.drop p).take (spanL signR (s.data.toList.drop p)) = [46]
    case neg => exact tok_c4a s p gl w hs hp h4 n2 _ E rfl hE hd
    by_cases hlt : E < s.size
    case neg =>
      have hle := spanL_le signR (s.data.toList.drop p)
      rw [List.length_drop, size_listT] at hle
      exact tok_c4b s p gl w hs hp h4 n2 _ E rfl hE hd (by omega)
    by_cases h5 : cls (s[E].toNat : Int) = 5
    · exact tok_c4c s p gl w hs hp h4 n2 _ E rfl hE hd hlt h5
    by_cases h37 : s[E] = 37
    · exact tok_c4d s p gl w hs hp h4 n2 _ E rfl hE hd hlt h5 h37
    · exact tok_c4e s p gl w hs hp h4 n2 _ E rfl hE hd hlt h5 h37
  by_cases h6 : cls (s[p].toNat : Int) = 6
  · by_cases b33 : s[p] = 33
    · exact tok_c6a s p gl w hs hp h6 b33
    by_cases b59 : s[p] = 59
    · exact tok_c6b s p gl w hs hp h6 b33 b59
    · exact tok_c6c s p gl w hs hp h6 b33 b59 (fun h => by have := cls_40 _ h; omega)
  by_cases h7 : cls (s[p].toNat : Int) = 7
  · have b33 : s[p] ≠ 33 := fun h => h6 (cls_33 _ h)
    have b59 : s[p] ≠ 59 := fun h => h6 (cls_59 _ h)
    by_cases b40 : s[p] = 40
    · cases gl with
      | false => exact tok_c7b s p false w hs hp h7 b33 b59 b40 rfl
      | true => exact tok_c7c s p true w hs hp h7 b33 b59 b40 rfl
    · exact tok_c7a s p gl w hs hp h7 b33 b59 b40
  by_cases h8 : cls (s[p].toNat : Int) = 8
  · cases hr : readL (s.data.toList.drop p) with
    | none => exact tok_c8a s p gl w hs hp h8 hT hr
    | some q =>
      obtain ⟨t, k⟩ := q
      by_cases hlong : 255 < t.length
      · exact tok_c8b s p gl w hs hp h8 hT t k hr hlong
      · exact tok_c8c s p gl w hs hp h8 hT t k hr (by omega)
  · exact tok_c0 s p gl w hs hp ⟨h1, h2, h3, h4, n5, h6, h7, h8⟩ n37
end Go.Proofs.YtglaoacdenecfaaDoor
