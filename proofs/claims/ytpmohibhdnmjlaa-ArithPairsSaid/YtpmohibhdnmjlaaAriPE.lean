/-
  The contracts of package arith's own reckoned, walked.
-/
import Derived.Test.YtpmohibhdnmjlaaAriPD
namespace Go.Proofs.Ytpmohibhdnmjlaa
open Go.RowKit Go.Maps

theorem pa_reckoned (bs : List (Int × Tm)) (ab : Option Addr) (cb p mb d : Nat) (o : Int) (HV : ValC bs ab cb p mb d o) (s : ByteArray) (A : List Tm) (ad : Option Addr) (cap : Nat) (w : World) (hs : ∀ a ∈ A, a.size ≤ 1000000) (hok : ∀ a ∈ A, EvOk (evD bs d a)) (hw : WkAt bs ab cb p mb w) (hA : TArgs w ad A) :
    Calls Try.prog 39 #[.pointer (some ⟨p, 0, none⟩), .string s, .slice ad A.length cap, .int .i64 o] w (EvV bs ab cb p mb (recK (evD bs d) s A) w) := by
  match A, hs, hok, hA with
  | [], _, _, _ => exact rk_none bs ab cb p mb o s ad cap w hw 0 (by omega) (by omega)
  | [a], hs, hok, hA =>
    show Calls _ _ _ _ (EvV bs ab cb p mb (if isOne s = true then _ else _) w)
    cases h : isOne s with
    | false => rw [if_neg (by nofun)]; exact rk_no1 bs ab cb p mb o s ad cap w hw h
    | true =>
      rw [if_pos rfl]
      have h1 := hs a (.head _)
      have h2 := hok a (.head _)
      rcases isOne_ways h with e0 | ⟨e0, e1⟩ | ⟨e0, e1, e2⟩
      · exact rk_one0 bs ab cb p mb d o s ad cap w hw HV a h1 hA h2 e0
      · exact rk_one1 bs ab cb p mb d o s ad cap w hw HV a h1 hA h2 e0 e1
      · exact rk_one2 bs ab cb p mb d o s ad cap w hw HV a h1 hA h2 e0 e1 e2
  | [a, c], hs, hok, hA =>
    show Calls _ _ _ _ (EvV bs ab cb p mb (if isTwo s = true then _ else _) w)
    cases h : isTwo s with
    | false => rw [if_neg (by nofun)]; exact rk_no2 bs ab cb p mb o s ad cap w hw h
    | true =>
      rw [if_pos rfl]
      have h1 := hs a (.head _)
      have h2 := hs c (.tail _ (.head _))
      have h3 := hok a (.head _)
      have h4 := hok c (.tail _ (.head _))
      rcases isTwo_ways h with e0 | ⟨e0, e1⟩ | ⟨e0, e1, e2⟩ | ⟨e0, e1, e2, e3⟩ | ⟨e0, e1, e2, e3, e4⟩ | ⟨e0, e1, e2, e3, e4, e5⟩
      · exact rk_two0 bs ab cb p mb d o s ad cap w hw HV a c h1 h2 hA h3 h4 e0
      · exact rk_two1 bs ab cb p mb d o s ad cap w hw HV a c h1 h2 hA h3 h4 e0 e1
      · exact rk_two2 bs ab cb p mb d o s ad cap w hw HV a c h1 h2 hA h3 h4 e0 e1 e2
      · exact rk_two3 bs ab cb p mb d o s ad cap w hw HV a c h1 h2 hA h3 h4 e0 e1 e2 e3
      · exact rk_two4 bs ab cb p mb d o s ad cap w hw HV a c h1 h2 hA h3 h4 e0 e1 e2 e3 e4
      · exact rk_two5 bs ab cb p mb d o s ad cap w hw HV a c h1 h2 hA h3 h4 e0 e1 e2 e3 e4 e5
  | a :: b :: c :: l, _, _, _ => exact rk_none bs ab cb p mb o s ad cap w hw (a :: b :: c :: l).length (by simp) (by simp)
theorem evK_rec {f : Tm → Int × Int} {t : Tm} (h4 : t.kind = 4) : evK f t = recK f t.name t.args := by
  unfold evK recK
  rw [if_neg (by omega), if_neg (by omega), if_neg (by omega)]
  generalize t.args = A
  match A with
  | [] => rfl
  | [a] => rfl
  | [a, b] => rfl
  | a :: b :: c :: l => rfl

set_option maxRecDepth 100000 in
set_option maxHeartbeats 4000000 in
theorem pa_walked (bs : List (Int × Tm)) (ab : Option Addr) (cb p mb d : Nat) (o : Int) (HV : ValC bs ab cb p mb d (o + 1)) (hb : Bds64 bs) (ho : 0 ≤ o) (ho2 : o < 60) (X : Tm) (ad : Option Addr) (cap : Nat) (w : World) (hs : X.size ≤ 1000000) (hw : WkAt bs ab cb p mb w) (hX : TmIn w X ad cap) :
    Calls Try.prog 32 #[.pointer (some ⟨p, 0, none⟩), tmv X ad cap, .int .i64 o] w (EvV bs ab cb p mb (evK (evD bs d) X) w) := by
  have h64 : X.n64 := (Tm.n64_eq _).2 ⟨hX.n, hX.args.n64⟩
  have hB := EvB.start w X ad cap hX
  have hbel := hB.2.2
  have h0 := hw.on hbel
  have HS := Lib.hid ((Stp.refl hw).on hbel)
  have HR := Lib.hid (fun s => pa_reckoned bs ab cb p mb d (o + 1) HV s X.args ad cap _ (fun a ha => by have h1 := Tm.mem_size ha; have h2 := X.size_eq; omega) (fun a ha => evD_ok hb d a (n64s_mem ((Tm.n64_eq _).1 h64).2 a ha)) h0 hB.2.1.args)
  obtain ⟨x0, x1, x2, x3, _⟩ := cellsT hB.1
  by_cases h1 : X.kind = 1
  · rw [show evK (evD bs d) X = (0, 110) by unfold evK; rw [if_pos h1]]
    have g1 : (X.kind == 1) = true := by simpa using h1
    clear hB hbel h0 hw hX HV HR h64 h1 hs
    unfold EvV tmv at *
    go_enter Try.func32, Try.ntmps32
    go_wp2_with fail
    go_ret2
    exact ⟨rfl, HS.out⟩
  have g1 : (X.kind == 1) = false := by simpa using h1
  by_cases h3 : X.kind = 3
  · rw [show evK (evD bs d) X = (X.n, 0) by unfold evK; rw [if_neg h1, if_pos h3]]
    have g3 : (X.kind == 3) = true := by simpa using h3
    clear hB hbel h0 hw hX HV HR h64 h1 h3 hs
    unfold EvV tmv at *
    go_enter Try.func32, Try.ntmps32
    go_wp2_with fail
    go_ret2
    exact ⟨rfl, HS.out⟩
  have g3 : (X.kind == 3) = false := by simpa using h3
  by_cases h4 : X.kind = 4
  · rw [evK_rec h4]
    have g4 : (X.kind == 4) = true := by simpa using h4
    have HRN := Lib.hid (HR.out X.name)
    clear hB hbel h0 hw hX HV HR h64 h1 h3 h4 hs
    generalize recK (evD bs d) X.name X.args = r at *
    unfold EvV tmv at *
    go_enter Try.func32, Try.ntmps32
    go_wp2_with fail
    refine HRN.out.mono ?_; rintro e w1 ⟨rfl, hs1⟩
    go_wp2_with fail
    go_ret2
    exact ⟨rfl, HS.out.trans hs1⟩
  · rw [show evK (evD bs d) X = (0, 111) by unfold evK; rw [if_neg h1, if_neg h3, if_pos h4]]
    have g4 : (X.kind == 4) = false := by simpa using h4
    clear hB hbel h0 hw hX HV HR h64 h1 h3 h4 hs
    unfold EvV tmv at *
    go_enter Try.func32, Try.ntmps32
    go_wp2_with fail
    go_ret2
    exact ⟨rfl, HS.out⟩
end Go.Proofs.Ytpmohibhdnmjlaa
