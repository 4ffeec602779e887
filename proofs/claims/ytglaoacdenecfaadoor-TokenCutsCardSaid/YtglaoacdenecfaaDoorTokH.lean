/-
  Reading lists of tokens; the contract of the laws' helper live for token: the chapter's examples.
-/
import Derived.Test.YtglaoacdenecfaaDoorTokG
namespace Go.Proofs.YtglaoacdenecfaaDoor
open Go.RowKit

theorem tokCells_at : ∀ (l : List Tok) (j : Nat) (hj : j < l.length) (i : Nat), i < 4 → (tokCells l)[j * 4 + i]? = (tok4 l[j])[i]?
  | [], j, hj, _, _ => absurd hj (Nat.not_lt_zero _)
  | t :: l, 0, _, i, hi => by
    show (tok4 t ++ tokCells l)[0 * 4 + i]? = _
    rw [Nat.zero_mul, Nat.zero_add, List.getElem?_append_left (show i < (tok4 t).length from hi), List.getElem_cons_zero]
  | t :: l, j + 1, hj, i, hi => by
    show (tok4 t ++ tokCells l)[(j + 1) * 4 + i]? = _
    rw [List.getElem?_append_right (show (tok4 t).length ≤ (j + 1) * 4 + i by show 4 ≤ _; omega), show (j + 1) * 4 + i - (tok4 t).length = j * 4 + i from by show (j + 1) * 4 + i - 4 = _; omega, List.getElem_cons_succ]
    exact tokCells_at l j (by rw [List.length_cons] at hj; omega) i hi
/-- What a slice of tokens looks like to who reads it. -/
structure TokAt (w : World) (g : Nat) (j : Nat) (t : Tok) : Prop where
  kind : w.cell? ⟨g, j * 4, none⟩ = some (.int .i64 t.kind)
  text : w.cell? ⟨g, j * 4 + 1, none⟩ = some (.string ⟨t.text.toArray⟩)
  n : w.cell? ⟨g, j * 4 + 2, none⟩ = some (.int .i64 t.n)
  pos : w.cell? ⟨g, j * 4 + 3, none⟩ = some (.int .i64 (t.pos : Nat))
theorem OwnToks.view {B : Nat} {w : World} {v : Value} {l : List Tok} (h : OwnToks B w v l) : ∃ ad cap, v = .slice ad l.length cap ∧ l.length ≤ cap ∧ cap ≤ maxLen ∧ ∀ j (hj : j < l.length), ∃ g, ad = some ⟨g, 0, none⟩ ∧ B ≤ g ∧ TokAt w g j l[j] := by
  have h9 := h
  obtain ⟨hl, ⟨rfl, h0⟩ | ⟨g, cap, cur, rfl, hbg, hh, hnc, hcm, r⟩⟩ := h
  · refine ⟨none, 0, by rw [h0], by omega, Nat.zero_le _, fun j hj => by omega⟩
  · refine ⟨some ⟨g, 0, none⟩, cap, rfl, hnc, hcm, fun j hj => ⟨g, rfl, hbg, ?_⟩⟩
    have hc : ∀ i, i < 4 → w.cell? ⟨g, j * 4 + i, none⟩ = (tok4 l[j])[i]? := fun i hi => by
      rw [World.ownsRow.cellAt h9 (j * 4 + i) (by omega), tokCells_at l j hj i hi]
    exact ⟨hc 0 (by decide), hc 1 (by decide), hc 2 (by decide), hc 3 (by decide)⟩
theorem TokAt.on {w w' : World} {g j : Nat} {t : Tok} (h : TokAt w g j t) (hb : Below w.heap.size w w') : TokAt w' g j t :=
  ⟨(hb.cell (p := ⟨g, _, none⟩) (cell_in h.kind)).trans h.kind, (hb.cell (p := ⟨g, _, none⟩) (cell_in h.text)).trans h.text, (hb.cell (p := ⟨g, _, none⟩) (cell_in h.n)).trans h.n, (hb.cell (p := ⟨g, _, none⟩) (cell_in h.pos)).trans h.pos⟩

/-- What Cut answers of a text of which that is known. -/
theorem cut_good {src : List UInt8} {T : List Tok} (hl : src.length ≤ 4096) (hc : cutL src 0 false = .good T) (s : ByteArray) (hs : s.data.toList = src) (w : World) (hT : TabsT w) :
    Calls Tryd.prog 10 #[.string s] w fun e w' => ∃ v, e = .returned (.tuple #[v, .int .i64 0, .int .i64 0]) ∧ OwnToks w.heap.size w' v T ∧ Below w.heap.size w w' := by
  refine (token_Cut s w hT).mono ?_
  rintro e w' ⟨h, hb⟩
  rw [hs] at h
  rcases h with ⟨h, _⟩ | ⟨_, ⟨o, h, _⟩ | ⟨T', v, h, he, ho⟩⟩
  · omega
  · rw [hc] at h; cases h
  · rw [hc] at h; injection h with h; subst h; exact ⟨v, he, ho, hb⟩
theorem cut_refused {src : List UInt8} {o : Nat} (hl : src.length ≤ 4096) (hc : cutL src 0 false = .bad o) (s : ByteArray) (hs : s.data.toList = src) (w : World) (hT : TabsT w) :
    Calls Tryd.prog 10 #[.string s] w fun e w' => e = .returned (.tuple #[.slice none 0 0, .int .i64 (o : Nat), .int .i64 50]) ∧ Below w.heap.size w w' := by
  refine (token_Cut s w hT).mono ?_
  rintro e w' ⟨h, hb⟩
  rw [hs] at h
  rcases h with ⟨h, _⟩ | ⟨_, ⟨o', h, he⟩ | ⟨T', v, h, _⟩⟩
  · omega
  · rw [hc] at h; injection h with h; subst h; exact ⟨he, hb⟩
  · rw [hc] at h; cases h
theorem cut_long {src : List UInt8} (hl : 4096 < src.length) (s : ByteArray) (hs : s.data.toList = src) (w : World) (hT : TabsT w) :
    Calls Tryd.prog 10 #[.string s] w fun e w' => e = .returned (.tuple #[.slice none 0 0, .int .i64 0, .int .i64 2]) ∧ Below w.heap.size w w' := by
  refine (token_Cut s w hT).mono ?_
  rintro e w' ⟨h, hb⟩
  rw [hs] at h
  rcases h with ⟨_, h⟩ | ⟨h, _⟩
  · exact ⟨h, hb⟩
  · omega

def exSrc : List UInt8 := [102, 111, 111, 40, 88, 44, 32, 39, 97, 32, 98, 39, 41, 46]
def exToks : List Tok := [⟨1, [102, 111, 111], 0, 0⟩, ⟨7, [40], 0, 3⟩, ⟨4, [88], 0, 4⟩, ⟨6, [44], 0, 5⟩, ⟨2, [97, 32, 98], 0, 7⟩, ⟨6, [41], 0, 12⟩, ⟨8, [46], 0, 13⟩, ⟨9, [], 0, 14⟩]
theorem ex_cut : cutL exSrc 0 false = .good exToks := by kernel_rfl
theorem ex_bad : cutL [88, 32, 61, 32, 34] 0 false = .bad 4 := by kernel_rfl

set_option maxRecDepth 100000 in
set_option maxHeartbeats 4000000 in
theorem tok_live (w : World) (hT : TabsT w) :
    Calls Tryd.prog 9 #[] w fun e w' => e = .returned (.bool true) ∧ Below w.heap.size w w' := by
  have HT := Lib.hid hT
  have H1 := Lib.hid (cut_good (src := exSrc) (by decide) ex_cut ⟨#[102, 111, 111, 40, 88, 44, 32, 39, 97, 32, 98, 39, 41, 46]⟩ rfl w hT)
  have H2 := Lib.hid (fun W h => cut_refused (src := [88, 32, 61, 32, 34]) (by decide) ex_bad ⟨#[88, 32, 61, 32, 34]⟩ rfl W h)
  clear hT
  go_enter Tryd.func9, Tryd.ntmps9
  go_wp2_with fail
  refine H1.out.mono ?_; rintro e w1 ⟨v, rfl, hown, hb1⟩
  obtain ⟨ad, cap, rfl, hlc, hcm, hc⟩ := hown.view
  have HC := Lib.hid hc
  have HB1 := Lib.hid hb1
  clear hc hown hb1
  go_wp2_with fail
  refine (H2.out _ (HT.out.on HB1.out)).mono ?_; rintro e w2 ⟨rfl, hb2⟩
  obtain ⟨g, rfl, _, a1⟩ := HC.out 1 (by decide)
  obtain ⟨g2, hg2, _, a4⟩ := HC.out 4 (by decide)
  obtain ⟨g3, hg3, _, a6⟩ := HC.out 6 (by decide)
  injection hg2 with hg2
  injection hg3 with hg3
  injection hg2 with hg2
  injection hg3 with hg3
  subst hg2 hg3
  have b1 := (a1.on hb2).kind
  obtain ⟨c0, c1, c2, c3⟩ := a4.on hb2
  have b6 := (a6.on hb2).kind
  have hbw := HB1.out.trans (hb2.mono HB1.out.size)
  clear a1 a4 a6 hb2 HB1
  have hlen : exToks.length = 8 := rfl
  rw [hlen] at *
  go_wp2_with fail
  go_ret
  exact ⟨rfl, hbw⟩
end Go.Proofs.YtglaoacdenecfaaDoor
