/-
  The contracts of package read's own infix, standsAlone and variable.
-/
import Derived.Test.YtlbdocdjijhkbaaGreatDoorReadA
import Derived.Test.YtlbdocdjijhkbaaGreatDoorShelf5
namespace Go.Proofs.YtlbdocdjijhkbaaGreatDoor
open Go.RowKit
attribute [-go_sem] sliced

theorem cellsR4 {w : World} {q : Nat} {a b c d : Value} {t : TypeId} (h : w.heap[q]? = some (.cells #[a, b, c, d] t (0, 0))) :
    w.cell? ⟨q, 0, none⟩ = some a ∧ w.cell? ⟨q, 1, none⟩ = some b ∧ w.cell? ⟨q, 2, none⟩ = some c ∧ w.cell? ⟨q, 3, none⟩ = some d ∧ w.frozen? ⟨q, 0, none⟩ = false ∧ w.frozen? ⟨q, 1, none⟩ = false ∧ w.frozen? ⟨q, 2, none⟩ = false ∧ w.frozen? ⟨q, 3, none⟩ = false := by
  simp [World.cell?, World.frozen?, h]
theorem newR (w : World) (o : Obj) : (w.alloc o).heap[w.heap.size]? = some o := by unfold World.alloc; simp
theorem pastR {w : World} {q : Nat} {o : Obj} (hq : w.heap[q]? = some o) (o2 : Obj) : (w.alloc o2).heap[q]? = some o := (Below.heap_alloc w o2 q (Array.getElem?_eq_some_iff.1 hq).1).trans hq
/-- An operator as Infix and Prefix answer it. -/
theorem opAns_none : opAns none = .tuple #[.agg #[.int .i64 0, .string ⟨#[]⟩], .bool false] := rfl
theorem opAns_some (r : R) : opAns (some r) = .tuple #[.agg #[.int .i64 r.p, .string r.k], .bool true] := rfl
theorem opAns_shape (E : Option R) : ∃ (p : Int) (k : ByteArray) (b : Bool), opAns E = .tuple #[.agg #[.int .i64 p, .string k], .bool b] ∧ b = E.isSome := by
  cases E with
  | none => exact ⟨0, ⟨#[]⟩, false, rfl, rfl⟩
  | some r => exact ⟨r.p, r.k, true, rfl, rfl⟩

set_option maxRecDepth 100000 in
set_option maxHeartbeats 2000000 in
theorem rd_infix (t : Tok) (w : World) :
    Calls Tryz.prog 91 #[tokv t] w fun e w' => e = .returned (opAns t.infix) ∧ Below w.heap.size w w' := by
  have HA := Lib.hid (fun W => rd_isAtom t W)
  have HP := Lib.hid (fun W => rd_isPunct t [44] W)
  have HO := Lib.hid (fun W => ops_Infix ⟨t.text.toArray⟩ W)
  have HB := Lib.hid (fun o o2 : Obj => ((Below.refl w.heap.size w).alloc (Nat.le_refl _) o).alloc (by simp) o2)
  have hI : t.infix = if t.isAtom || t.isP [44] then opR t.text 3 else none := rfl
  unfold opR at hI
  generalize t.isAtom = ba at *
  generalize t.isP [44] = bp at *
  generalize findR tabR ⟨t.text.toArray⟩ 3 = E at *
  have HI := Lib.hid hI
  clear hI
  unfold tokv at HA HP ⊢
  generalize (⟨t.text.toArray⟩ : ByteArray) = u at *
  obtain ⟨p, k, b, hE, hb0⟩ := opAns_shape E
  clear hb0
  rw [hE] at HO
  have HE := Lib.hid hE
  clear hE
  cases ba with
  | true =>
    have HI2 : Hid (t.infix = E) := Lib.hid HI.out
    rw [HI2.out, HE.out]
    clear HI HP
    go_enter Tryz.func91, Tryz.ntmps91
    go_wp2_with fail
    refine (HA.out _).mono ?_; rintro e w1 ⟨rfl, hb1⟩
    have h0 := keptR hb1 (pastR (newR w (.cells #[.int .i64 t.kind, .string u, .int .i64 t.n, .int .i64 (t.pos : Nat)] 41)) (.cells #[.int .i64 0, .string ⟨#[]⟩] 102))
    have h1 := keptR hb1 (newR (w.alloc (.cells #[.int .i64 t.kind, .string u, .int .i64 t.n, .int .i64 (t.pos : Nat)] 41)) (.cells #[.int .i64 0, .string ⟨#[]⟩] 102))
    have hb2 := (HB.out _ _).trans (hb1.mono (by simp; omega))
    obtain ⟨c0, c1, c2, c3, _⟩ := cellsR4 h0
    have H1 := Lib.hid h1
    have HB2 := Lib.hid hb2
    clear h0 h1 hb1 hb2
    go_wp2_with fail
    refine (HO.out _).mono ?_; rintro e w2 ⟨rfl, hb3⟩
    have h1 := keptR hb3 H1.out
    rw [World.size_alloc] at h1
    obtain ⟨d0, d1, e0, e1⟩ := cellsR2 h1
    have HB3 := Lib.hid (HB2.out.trans (hb3.mono HB2.out.size))
    clear hb3 h1 c0 c1 c2 c3 H1
    go_wp2_with fail
    refine bodyPost_ret (v := .tuple #[.agg #[.int .i64 p, .string k], .bool b]) (by simp [results, Tryz.results91, go_sem, d0, d1]) rfl ⟨rfl, ?_⟩
    exact (HB3.out.setCell (p := ⟨w.heap.size + 1, 0, none⟩) (Nat.le_succ _) _).setCell (p := ⟨w.heap.size + 1, 1, none⟩) (Nat.le_succ _) _
  | false =>
    cases bp with
    | true =>
      have HI2 : Hid (t.infix = E) := Lib.hid HI.out
      rw [HI2.out, HE.out]
      clear HI
      go_enter Tryz.func91, Tryz.ntmps91
      go_wp2_with fail
      refine (HA.out _).mono ?_; rintro e w1 ⟨rfl, hb1⟩
      have h0 := keptR hb1 (pastR (newR w (.cells #[.int .i64 t.kind, .string u, .int .i64 t.n, .int .i64 (t.pos : Nat)] 41)) (.cells #[.int .i64 0, .string ⟨#[]⟩] 102))
      have h1 := keptR hb1 (newR (w.alloc (.cells #[.int .i64 t.kind, .string u, .int .i64 t.n, .int .i64 (t.pos : Nat)] 41)) (.cells #[.int .i64 0, .string ⟨#[]⟩] 102))
      have hb2 := (HB.out _ _).trans (hb1.mono (by simp; omega))
      obtain ⟨c0, c1, c2, c3, _⟩ := cellsR4 h0
      have H0 := Lib.hid h0
      have H1 := Lib.hid h1
      have HB2 := Lib.hid hb2
      clear h0 h1 hb1 hb2
      go_wp2_with fail
      refine (HP.out _).mono ?_; rintro e w5 ⟨rfl, hb5⟩
      have h0 := keptR hb5 H0.out
      have h1 := keptR hb5 H1.out
      obtain ⟨c0, c1, c2, c3, _⟩ := cellsR4 h0
      have H1 := Lib.hid h1
      have HB2 := Lib.hid (HB2.out.trans (hb5.mono HB2.out.size))
      clear h0 h1 hb5
      go_wp2_with fail
      refine (HO.out _).mono ?_; rintro e w2 ⟨rfl, hb3⟩
      have h1 := keptR hb3 H1.out
      rw [World.size_alloc] at h1
      obtain ⟨d0, d1, e0, e1⟩ := cellsR2 h1
      have HB3 := Lib.hid (HB2.out.trans (hb3.mono HB2.out.size))
      clear hb3 h1 c0 c1 c2 c3 H1
      go_wp2_with fail
      refine bodyPost_ret (v := .tuple #[.agg #[.int .i64 p, .string k], .bool b]) (by simp [results, Tryz.results91, go_sem, d0, d1]) rfl ⟨rfl, ?_⟩
      exact (HB3.out.setCell (p := ⟨w.heap.size + 1, 0, none⟩) (Nat.le_succ _) _).setCell (p := ⟨w.heap.size + 1, 1, none⟩) (Nat.le_succ _) _
    | false =>
      have HI2 : Hid (t.infix = none) := Lib.hid HI.out
      rw [HI2.out, opAns_none]
      clear HI HO
      go_enter Tryz.func91, Tryz.ntmps91
      go_wp2_with fail
      refine (HA.out _).mono ?_; rintro e w1 ⟨rfl, hb1⟩
      have h0 := keptR hb1 (pastR (newR w (.cells #[.int .i64 t.kind, .string u, .int .i64 t.n, .int .i64 (t.pos : Nat)] 41)) (.cells #[.int .i64 0, .string ⟨#[]⟩] 102))
      have h1 := keptR hb1 (newR (w.alloc (.cells #[.int .i64 t.kind, .string u, .int .i64 t.n, .int .i64 (t.pos : Nat)] 41)) (.cells #[.int .i64 0, .string ⟨#[]⟩] 102))
      have hb2 := (HB.out _ _).trans (hb1.mono (by simp; omega))
      obtain ⟨c0, c1, c2, c3, _⟩ := cellsR4 h0
      have H1 := Lib.hid h1
      have HB2 := Lib.hid hb2
      clear h0 h1 hb1 hb2
      go_wp2_with fail
      refine (HP.out _).mono ?_; rintro e w5 ⟨rfl, hb5⟩
      have h1 := keptR hb5 H1.out
      rw [World.size_alloc] at h1
      obtain ⟨d0, d1, e0, e1⟩ := cellsR2 h1
      have HB3 := Lib.hid (HB2.out.trans (hb5.mono HB2.out.size))
      clear h1 hb5 c0 c1 c2 c3 H1
      go_wp2_with fail
      refine bodyPost_ret (v := .tuple #[.agg #[.int .i64 0, .string ⟨#[]⟩], .bool false]) (by simp [results, Tryz.results91, go_sem, d0, d1]) rfl ⟨rfl, ?_⟩
      exact (HB3.out.setCell (p := ⟨w.heap.size + 1, 0, none⟩) (Nat.le_succ _) _).setCell (p := ⟨w.heap.size + 1, 1, none⟩) (Nat.le_succ _) _

theorem contains_punct (b : UInt8) : decide (0 ≤ Lib.indexByte [41, 93, 125, 44, 124] b) = (([b] : List UInt8) == [41] || ([b] : List UInt8) == [93] || ([b] : List UInt8) == [125] || ([b] : List UInt8) == [44] || ([b] : List UInt8) == [124]) := by
  have key : ∀ n : Fin 256, decide (0 ≤ Lib.indexByte [41, 93, 125, 44, 124] (UInt8.ofNat n.val)) = (([UInt8.ofNat n.val] : List UInt8) == [41] || ([UInt8.ofNat n.val] : List UInt8) == [93] || ([UInt8.ofNat n.val] : List UInt8) == [125] || ([UInt8.ofNat n.val] : List UInt8) == [44] || ([UInt8.ofNat n.val] : List UInt8) == [124]) := by decide +kernel
  have := key ⟨b.toNat, b.toNat_lt⟩
  rwa [UInt8.ofNat_toNat] at this

set_option maxRecDepth 100000 in
set_option maxHeartbeats 4000000 in
theorem rd_alone (w : World) (g k cap : Nat) (ts : List Tok) (ht : TokRow w g k ts) (hf : Fine ts) :
    Calls Tryz.prog 143 #[.slice (some ⟨g, k, none⟩) ts.length cap] w fun e w' => e = .returned (.bool (aloneT (fstT ts) (fstT ts.tail))) ∧ Below w.heap.size w w' := by
  obtain ⟨c0, c1, c2, c3, ht2⟩ := ht.first hf.pos
  have hgl := World.block_lt_of_cell? w ⟨g, k, none⟩ c0
  have hgl : g < w.heap.size := hgl
  have hl1 : (0 : Int) < (ts.length : Int) := by have := hf.pos; omega
  have hpun := hf.first.punct
  have hdef : aloneT (fstT ts) (fstT ts.tail) = if (fstT ts).kind == 8 || (fstT ts).kind == 9 then true else if (fstT ts).kind == 6 then (fstT ts).text == [41] || (fstT ts).text == [93] || (fstT ts).text == [125] || (fstT ts).text == [44] || (fstT ts).text == [124] else (fstT ts).isAtom && (opR (fstT ts).text 3).isSome && (opR (fstT ts).text 2).isNone && !((fstT ts.tail).kind == 7) := rfl
  have hnext : (fstT ts).isAtom = true → 2 ≤ ts.length ∧ w.cell? ⟨g, k + 4, none⟩ = some (.int .i64 (fstT ts.tail).kind) := fun ha => by
    obtain ⟨h1, h2⟩ := hf.tail (atom_not9 ha)
    exact ⟨hf.two (atom_not9 ha), (ht2.first h1.pos).1⟩
  have HA := Lib.hid (fun W => rd_isAtom (fstT ts) W)
  have HO2 := Lib.hid (fun W => ops_Prefix ⟨(fstT ts).text.toArray⟩ W)
  have HO3 := Lib.hid (fun W => ops_Infix ⟨(fstT ts).text.toArray⟩ W)
  have hkind := hf.first.kind
  have HB := Lib.hid (fun o : Obj => (Below.refl w.heap.size w).alloc (Nat.le_refl _) o)
  have HN := Lib.hid hnext
  have HD := Lib.hid hdef
  have HP := Lib.hid hpun
  clear ht ht2 hf hnext hdef hpun
  rw [HD.out]
  unfold tokv opR at *
  generalize (fstT ts.tail).kind = k2 at *
  generalize fstT ts = t at *
  generalize ts.length = L at *
  by_cases h89 : t.kind = 8 ∨ t.kind = 9
  · rw [if_pos (by simpa using h89)]
    clear HA HO2 HO3 HD HP HN
    obtain ⟨a, tx, n, po⟩ := t
    dsimp only at *
    generalize (⟨tx.toArray⟩ : ByteArray) = u at *
    rcases h89 with rfl | rfl
    all_goals
      go_enter Tryz.func143, Tryz.ntmps143
      go_wp2_with fail
      go_ret
      exact ⟨rfl, HB.out _⟩
  have e8 : (t.kind == 8) = false := by simp; omega
  have e9 : (t.kind == 9) = false := by simp; omega
  rw [if_neg (by rw [e8, e9]; decide)]
  by_cases h6 : t.kind = 6
  · rw [if_pos (by simpa using h6)]
    obtain ⟨b, hb, _⟩ := HP.out (.inl h6)
    have HC := Lib.hid (fun W => Tryz.strings_Contains_one ⟨#[41, 93, 125, 44, 124]⟩ b W)
    have HCP := Lib.hid (contains_punct b)
    rw [hb] at c1 ⊢
    rw [← HCP.out]
    clear HA HO2 HO3 HD HP HN h89 HCP e8 e9
    obtain ⟨a, tx, n, po⟩ := t
    dsimp only at *
    subst h6
    have HU : Hid ((⟨[b].toArray⟩ : ByteArray) = ⟨#[b]⟩) := Lib.hid rfl
    have HC : Hid (∀ W, Calls Tryz.prog 160 #[.string ⟨#[41, 93, 125, 44, 124]⟩, .string ⟨[b].toArray⟩] W fun e w' => e = .returned (.bool (decide (0 ≤ Lib.indexByte [41, 93, 125, 44, 124] b))) ∧ w' = W) := HC
    generalize decide (0 ≤ Lib.indexByte [41, 93, 125, 44, 124] b) = res at *
    clear HU hb
    generalize (⟨[b].toArray⟩ : ByteArray) = u at *
    go_enter Tryz.func143, Tryz.ntmps143
    go_wp2_with fail
    refine (HC.out _).mono ?_; rintro e w1 ⟨rfl, rfl⟩
    go_wp2_with fail
    go_ret
    exact ⟨rfl, HB.out _⟩
  have e6 : (t.kind == 6) = false := by simp; omega
  rw [if_neg (by rw [e6]; decide)]
  clear HP HD h89 h6
  cases hat : t.isAtom with
  | false =>
    rw [hat] at HA
    rw [show (false && (findR tabR ⟨t.text.toArray⟩ 3).isSome && (findR tabR ⟨t.text.toArray⟩ 2).isNone && !(k2 == 7)) = false by simp]
    clear HO2 HO3 HN hat
    generalize (⟨t.text.toArray⟩ : ByteArray) = u at *
    go_enter Tryz.func143, Tryz.ntmps143
    go_wp2_with fail
    refine (HA.out _).mono ?_; rintro e w1 ⟨rfl, hb1⟩
    have HB1 := Lib.hid ((HB.out _).trans (hb1.mono (by simp)))
    clear hb1
    go_wp2_with fail
    go_ret
    exact ⟨rfl, HB1.out⟩
  | true =>
    obtain ⟨hl2, c4⟩ := HN.out hat
    have C4 := Lib.hid c4
    have hl3 : (1 : Int) < (L : Int) := by omega
    rw [hat] at HA
    obtain ⟨p2, k2', b2, hE2, hb2⟩ := opAns_shape (findR tabR ⟨t.text.toArray⟩ 2)
    obtain ⟨p3, k3', b3, hE3, hb3⟩ := opAns_shape (findR tabR ⟨t.text.toArray⟩ 3)
    rw [hE2] at HO2
    rw [hE3] at HO3
    have hres : (true && (findR tabR ⟨t.text.toArray⟩ 3).isSome && (findR tabR ⟨t.text.toArray⟩ 2).isNone && !(k2 == 7)) = (b3 && !b2 && (k2 != 7)) := by
      rw [hb2, hb3]; cases findR tabR ⟨t.text.toArray⟩ 3 <;> cases findR tabR ⟨t.text.toArray⟩ 2 <;> rfl
    rw [hres]
    clear hb2 hb3 hE2 hE3 hres HN c4 hat
    generalize (⟨t.text.toArray⟩ : ByteArray) = u at *
    have hq0 := newR w (.cells #[.int .i64 t.kind, .string u, .int .i64 t.n, .int .i64 (t.pos : Nat)] 41)
    have HQ0 := Lib.hid hq0
    clear hq0
    cases b3 <;> cases b2
    all_goals
      cases e7 : (k2 != 7)
      all_goals
        go_enter Tryz.func143, Tryz.ntmps143
        go_wp2_with fail
        refine (HA.out _).mono ?_; rintro e w1 ⟨rfl, hb1⟩
        have h0 := keptR hb1 HQ0.out
        obtain ⟨d0, d1, d2, d3, _⟩ := cellsR4 h0
        have H0 := Lib.hid h0
        have HB1 := Lib.hid ((HB.out _).trans (hb1.mono (by simp)))
        clear hb1 h0
        go_wp2_with fail
        refine (HO2.out _).mono ?_; rintro e w2 ⟨rfl, hb2⟩
        have h0 := keptR hb2 H0.out
        have HB2 := Lib.hid (HB1.out.trans (hb2.mono HB1.out.size))
        have h1 := pastR h0 (.cells #[.int .i64 p2, .string k2'] 102)
        obtain ⟨d0, d1, d2, d3, _⟩ := cellsR4 h1
        have H1 := Lib.hid h1
        clear hb2 h0 h1 H0
        go_wp2_with fail
        refine (HO3.out _).mono ?_; rintro e w3 ⟨rfl, hb3⟩
        have hb4 := (HB2.out.alloc HB2.out.size (.cells #[.int .i64 p2, .string k2'] 102)).trans (hb3.mono (by have := HB2.out.size; simp; omega))
        have c4 : (w3.alloc (.cells #[.int .i64 p3, .string k3'] 102)).cell? ⟨g, k + 4, none⟩ = some (.int .i64 k2) := (((hb4.alloc hb4.size (.cells #[.int .i64 p3, .string k3'] 102))).cell (p := ⟨g, k + 4, none⟩) hgl).trans C4.out
        have HB4 := Lib.hid hb4
        clear hb3 hb4 H1
        go_wp2_with fail
        go_ret
        exact ⟨rfl, HB4.out.alloc HB4.out.size _⟩
end Go.Proofs.YtlbdocdjijhkbaaGreatDoor
