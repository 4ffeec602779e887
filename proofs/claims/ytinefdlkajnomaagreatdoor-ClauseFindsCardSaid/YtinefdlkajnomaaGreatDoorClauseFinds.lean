/-
  Proved: for every input the law ClauseFinds answers true, and its arguments read afterwards as before (the card, tied to the program's text).
  Conditions: none of its own; the listed tables of the library stand as the program's text lays them.
-/
import Derived.Test.YtinefdlkajnomaaGreatDoorClauseY
import Derived.Test.YtinefdlkajnomaaGreatDoorClauseO
import Derived.Test.YtinefdlkajnomaaGreatDoorTokTab
import Derived.Test.YtinefdlkajnomaaGreatDoorTie
import Derived.Test.YtinefdlkajnomaaGreatDoorCards
import Derived.Carry
import Derived.ProofKit
import Derived.OpenShut
import Derived.ShutString
import Derived.ChangeOld
import Derived.Below
import Derived.LaidMore
import Derived.Lay
import Derived.SevenTiedAt
import Derived.Stop.Joined
namespace Go.Proofs.YtinefdlkajnomaaGreatDoor.clauseFinds
open Go.ChangeShapes Go.WideShapes Go.ChangeAt Go.RowKit
open Go.ChangeMaps (open_string shut_string)

theorem laidOut : laidOutB Tryz.prog = true := by kernel_rfl

theorem own : ownKnob Tryz.prog.godebug = none := by kernel_rfl

set_option maxRecDepth 100000 in
theorem lifted (os : Os) (started : os.Started) (H : Type) (enc : TypeId × Value → H) :
    ReturnsInHanded {} Tryz.checked os 6 .any (fun w args => (Rows.clauseFindsSpec.pre enc Tryz.prog Tryz.f6 Rows.clauseFindsRow.domain false w args ∧ laidMetH Tryz.prog Rows.clauseFindsRow.laid w) ∧ sizedMet enc Tryz.prog Tryz.f6 (OpenSpec.ofChange Rows.clauseFindsSpec) false w args)
      (Rows.clauseFindsSpec.post enc Tryz.prog Tryz.f6 false true false false) := by
  refine row_shaped (C := Tryz.checked) (X := fun w _ => laidMetH Tryz.prog Rows.clauseFindsRow.laid w) (fun _ _ _ hh h => h.of_heap hh) own started (by kernel_rfl) Tryz.func6
    (ChangeSpec.witness_shaped (enc := enc) (C := Tryz.checked) (os := os) (X := fun w _ => laidMetH Tryz.prog Rows.clauseFindsRow.laid w) false (World.laidAll Tryz.prog os Rows.clauseFindsRow.laid) #[.slice none 0 0, .string ⟨#[]⟩, .int .i64 0] 8 (World.laidAll_os _ _ _)
      (World.shaped_of_ZipB (by kernel_rfl) (by kernel_rfl)) (by kernel_rfl) (by kernel_rfl) (by kernel_rfl)
      (by rw [MakeChecks.laidMetH_plain _ _ _ (by kernel_rfl)]; exact laidMet_laidAll _ (by kernel_rfl) (by kernel_rfl))) ?_
  intro W base args ds gs before hval0 hW hL hsh hz
  have hval : ∀ (j : Nat) t v, Tryz.f6.params[j]? = some t → args[j]? = some v → Value.okWide Tryz.prog W .any base t v := hval0
  have hW' := hW
  obtain ⟨p, q, hA0, hV, rfl, _, _⟩ := hW
  have hA : DataW.TrodAll enc Tryz.prog W 0 (fun _ => true) true Tryz.f6.params.toList args.toList ds p := hA0
  rw [Tryz.params6] at hA hval
  obtain ⟨v0, vs0, d0, ds0, p0, q0, hargs, rfl, rfl, h0, r0⟩ := trodAll_cons hA
  obtain ⟨v1, vs1, d1, ds1, p1, q1, rfl, rfl, rfl, h1, r1⟩ := trodAll_cons r0
  obtain ⟨v2, vs2, d2, ds2, p2, q2, rfl, rfl, rfl, h2, r2⟩ := trodAll_cons r1
  obtain ⟨rfl, rfl, rfl⟩ := trodAll_nil r2
  obtain rfl : args = #[v0, v1, v2] := by cases args; simp_all
  obtain ⟨rfl, rfl⟩ := trodVars_none hV
  have hk_0 := h0
  obtain ⟨a0, ad_0, cap_0, rfl, hl_0, hc_0, hcl_0, hd_0⟩ := open_clauses (hval 0 40 v0 rfl rfl) h0
  have hlt_0 : ∀ x ∈ p0, x.block < W.heap.size := fun x hx => hW'.lt x (by simp [hx])
  have hn_0 : a0.length ≤ 10000000000000 := by
    rcases hd_0 with e | ⟨es, sp, e1, e2⟩
    · rw [e]; exact Nat.zero_le _
    · rw [e1] at hz
      have h9 := sized_slice hz (j := 0) (t := 40) (e := 30) rfl rfl Tryz.underlying40
      rw [show Tryz.checked.prog.bytesOf 30 = 88 by kernel_rfl] at h9
      unfold reachBytes at h9
      omega
  obtain ⟨a1, rfl, rfl, rfl, hs_1⟩ := open_string Tryz.underlying9 (hval 1 9 v1 rfl rfl) h1
  obtain ⟨a2, rfl, rfl, rfl, w2⟩ := open_int Tryz.underlying3 (hval 2 3 v2 rfl rfl) h2
  have h64_2 : In64 a2 := in64_of_wf w2
  have hT : TabsT W := tabs_of_laid hL hsh
  have hr_1 : a1.data.toList.length ≤ reachBytes := sized_string hz (j := 1) (t := 9) rfl rfl
  clear hA0 hval0
  refine (walk_ClauseFinds a0 ad_0 cap_0 a1 a2 W hl_0 hc_0 hn_0 hcl_0 hT).mono fun e W' ⟨he, bel⟩ => ?_
  subst he
  exact ⟨_, rfl, _, _, _, [], _, [], hW', trodAll_mk1 (shut_bool Tryz.underlying4 _), trodAll_cons_mk (Below.trod laidOut (by kernel_rfl) (of_decide_eq_true (by kernel_rfl)) hk_0 bel hlt_0) (trodAll_cons_mk (shut_string Tryz.underlying9 hs_1) (trodAll_cons_mk (shut_int Tryz.underlying3 w2) (trodAll_mk0))), rfl, bel.frame _, fun h => by cases h⟩

theorem over : Rows.ClauseFindsSaid :=
  OpenClaim.holds_of_wide 6 Tryz.f6 rfl rfl rfl rfl rfl rfl rfl ⟨rfl, rfl, rfl, rfl, rfl⟩ rfl rfl rfl rfl rfl (by kernel_rfl) Tryz.func6 (by kernel_rfl)
    (of_decide_eq_true (by kernel_rfl)) (by unfold Func.isWrapper; first | (rw [if_pos (by decide +kernel)]; kernel_rfl) | (rw [if_neg (by decide +kernel)]; exact ⟨rfl, rfl⟩))
    (fun os started H enc _ => lifted os started H enc)

theorem holds : Rows.ClauseFindsCardSaid :=
  Claim7.holds_tied_plain_at .later [] _ true _ true over (fun _ h => by cases h) (by kernel_rfl) (fun _ h => by cases h) clauseFinds_row_tie rfl ⟨rfl, rfl⟩ (by kernel_rfl) rfl
    (fun f fn hf hfn => by
      obtain rfl : f = 6 := Option.some.inj ((show Tryz.prog.funcNamed "spinney/spinneylaw08.ClauseFinds" = some 6 by kernel_rfl).symm.trans hf) |>.symm
      obtain rfl : fn = Tryz.f6 := (Option.some.inj (Tryz.func6.symm.trans hfn)).symm
      exact ⟨by kernel_rfl, fun j t ht => by
        rw [Tryz.params6] at ht
        have hm : t ∈ [40, 9, 3] := by simpa using Array.mem_of_getElem? ht
        have hall : ([40, 9, 3].all fun u => !Tryz.prog.wantsStandIn u) = true := by kernel_rfl
        exact (show Tryz.prog.wantsStandIn t = false by simpa using List.all_eq_true.1 hall t hm)⟩)
    (by kernel_rfl)
end Go.Proofs.YtinefdlkajnomaaGreatDoor.clauseFinds
