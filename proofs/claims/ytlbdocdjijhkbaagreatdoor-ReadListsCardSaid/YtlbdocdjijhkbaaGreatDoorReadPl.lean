/-
  Joined texts: ReadS, ReadC, ReadBM, ReadJM.
-/
import Derived.Test.YtlbdocdjijhkbaaGreatDoorReadM
import Derived.Test.YtlbdocdjijhkbaaGreatDoorTokM
import Derived.Test.YtlbdocdjijhkbaaGreatDoorTermMay

/-
  Plain mathematics for package read: two rows of tokens that begin alike are read alike; whole terms, programs and queries; what is read may be; no program in it.
-/
namespace Go.Proofs.YtlbdocdjijhkbaaGreatDoor
open Go.RowKit

/-! ### Rows of tokens that begin alike -/
/-- Behind the same tokens, d further on, there are ends e and e', and whatever else. -/
inductive Sim (d : Nat) (e e' : Tok) (Z Z' : List Tok) : List Tok → List Tok → Prop where
  | stop : Sim d e e' Z Z' (e :: Z) (e' :: Z')
  | cons (t : Tok) (l l' : List Tok) : t.kind ≠ 8 → t.kind ≠ 9 → Sim d e e' Z Z' l l' → Sim d e e' Z Z' (t :: l) (t.sh d :: l')
section
variable {d : Nat} {e e' : Tok} {Z Z' : List Tok}
/-- What the ends are. -/
structure EndsT (e e' : Tok) : Prop where
  one : e.kind = 8 ∨ e.kind = 9
  two : e'.kind = 8 ∨ e'.kind = 9 ∨ (e'.kind = 6 ∧ e'.text = [41])
theorem isP_no {t : Tok} {l : List UInt8} (h : t.kind ≠ 6) : t.isP l = false := by
  unfold Tok.isP; rw [beq_eq_false_iff_ne.2 h]; rfl
theorem isAtom_no {t : Tok} (h : 3 < t.kind) : t.isAtom = false := by
  unfold Tok.isAtom
  rw [beq_eq_false_iff_ne.2 (by omega), beq_eq_false_iff_ne.2 (by omega), beq_eq_false_iff_ne.2 (by omega)]; rfl
theorem EndsT.isP1 (h : EndsT e e') (l : List UInt8) : e.isP l = false := isP_no (by have := h.one; omega)
theorem EndsT.isP2 (h : EndsT e e') (l : List UInt8) (hl : l ≠ [41]) : e'.isP l = false := by
  rcases h.two with h1 | h1 | ⟨_, h2⟩
  · exact isP_no (by omega)
  · exact isP_no (by omega)
  · unfold Tok.isP
    rw [h2]
    have : (([41] : List UInt8) == l) = false := beq_eq_false_iff_ne.2 (fun e => hl e.symm)
    rw [this]; simp
theorem EndsT.atom1 (h : EndsT e e') : e.isAtom = false := isAtom_no (by have := h.one; omega)
theorem EndsT.atom2 (h : EndsT e e') : e'.isAtom = false := isAtom_no (by have := h.two; omega)
theorem EndsT.inf1 (h : EndsT e e') : e.infix = none := by unfold Tok.infix; rw [h.atom1, h.isP1]; rfl
theorem EndsT.inf2 (h : EndsT e e') : e'.infix = none := by unfold Tok.infix; rw [h.atom2, h.isP2 _ (by decide)]; rfl
theorem EndsT.alone1 (h : EndsT e e') (c : Tok) : aloneT e c = true := by
  unfold aloneT
  rw [if_pos (by simp only [Bool.or_eq_true, beq_iff_eq]; exact h.one)]
theorem EndsT.alone2 (h : EndsT e e') (c : Tok) : aloneT e' c = true := by
  unfold aloneT
  rcases h.two with h1 | h1 | ⟨h1, h2⟩
  · rw [h1]; rfl
  · rw [h1]; rfl
  · rw [h1, h2]; rfl
theorem sh_isP (t : Tok) (d : Nat) (l : List UInt8) : (t.sh d).isP l = t.isP l := rfl
theorem sh_isAtom (t : Tok) (d : Nat) : (t.sh d).isAtom = t.isAtom := rfl
theorem sh_infix (t : Tok) (d : Nat) : (t.sh d).infix = t.infix := rfl
theorem sh_text (t : Tok) (d : Nat) : (t.sh d).text = t.text := rfl
theorem sh_kind (t : Tok) (d : Nat) : (t.sh d).kind = t.kind := rfl
theorem sh_n (t : Tok) (d : Nat) : (t.sh d).n = t.n := rfl
theorem sh_pos (t : Tok) (d : Nat) : (t.sh d).pos = t.pos + d := rfl

/-- What is read well at the one is read well at the other, as the same. -/
def SimW (d : Nat) (e e' : Tok) (Z Z' : List Tok) (W W' : Rdr) (m m' : Nat) : Prop :=
  ∀ p ts us ns t ts' ns', ts.length ≤ m → us.length ≤ m' → Fine ts → Fine us → ns.length ≤ 200 → Sim d e e' Z Z' ts us → W p ts ns = .ok t ts' ns' → ∃ us', W' p us ns = .ok t us' ns' ∧ Sim d e e' Z Z' ts' us'

/-- The first token that is no end is the same; the ones behind it are alike. -/
theorem Sim.uncons {ts us : List Tok} (h : Sim d e e' Z Z' ts us) (he : EndsT e e') (hk : (fstT ts).kind ≠ 8) (hk9 : (fstT ts).kind ≠ 9) : fstT us = (fstT ts).sh d ∧ Sim d e e' Z Z' ts.tail us.tail := by
  cases h with
  | stop => rcases he.one with h | h; exact absurd h hk; exact absurd h hk9
  | cons t l l' _ _ hs => exact ⟨rfl, hs⟩
theorem Sim.uncons2 {ts us : List Tok} (h : Sim d e e' Z Z' ts us) (he : EndsT e e') (l : List UInt8) (hk : (fstT ts).isP l = true) : fstT us = (fstT ts).sh d ∧ Sim d e e' Z Z' ts.tail us.tail :=
  h.uncons he (by rw [(isP_kind hk).1]; decide) (by rw [(isP_kind hk).1]; decide)
/-- A bracket, comma or bar that is not a closing one stands at both or at none. -/
theorem Sim.isP {ts us : List Tok} (h : Sim d e e' Z Z' ts us) (he : EndsT e e') (l : List UInt8) (hl : l ≠ [41]) : (fstT us).isP l = (fstT ts).isP l := by
  cases h with
  | stop => rw [fstT_cons, fstT_cons, he.isP1, he.isP2 _ hl]
  | cons t l l' _ _ hs => rfl
theorem sim_manyGo {W W' : Rdr} {m m' most : Nat} (hW : GoodW W m) (hW' : GoodW W' m') (he : EndsT e e') (H : SimW d e e' Z Z' W W' m m') : ∀ (f f' : Nat) (l : List Tm) (ts us : List Tok) (ns : Nms) (l1 : List Tm) (ts1 : List Tok) (ns1 : Nms),
    ts.length ≤ f → us.length ≤ f' → ts.length ≤ m → us.length ≤ m' → Fine ts → Fine us → ns.length ≤ 200 → Sim d e e' Z Z' ts us → manyGo W most f l ts ns = .ok l1 ts1 ns1 → ∃ us1, manyGo W' most f' l us ns = .ok l1 us1 ns1 ∧ Sim d e e' Z Z' ts1 us1
  | 0, f', l, ts, us, ns, l1, ts1, ns1, h1, h2, hm, hm', hf, hf', hn, hs, h => absurd hf.pos (by omega)
  | f + 1, 0, l, ts, us, ns, l1, ts1, ns1, h1, h2, hm, hm', hf, hf', hn, hs, h => absurd hf'.pos (by omega)
  | f + 1, f' + 1, l, ts, us, ns, l1, ts1, ns1, h1, h2, hm, hm', hf, hf', hn, hs, h => by
    unfold manyGo at h ⊢
    rw [hs.isP he _ (by decide)]
    split at h
    · rename_i hc
      rw [if_pos hc]
      obtain ⟨hfst, hs2⟩ := hs.uncons2 he _ hc
      have hk := isP_kind hc
      obtain ⟨b1, b2⟩ := hf.tail (by rw [hk.1]; decide)
      obtain ⟨b1', b2'⟩ := hf'.tail (by rw [hfst, sh_kind, hk.1]; decide)
      split at h
      · cases h
      · rename_i hmost
        rw [if_neg hmost]
        obtain ⟨t, ts2, ns2, hw, h⟩ := Rd.bind_is h
        obtain ⟨us2, hw', hs3⟩ := H _ _ _ _ _ _ _ (by omega) (by omega) b1 b1' hn hs2 hw
        obtain ⟨a1, a2, a3⟩ := hW _ _ _ _ _ _ (by omega) b1 hn hw
        obtain ⟨a1', a2', a3'⟩ := hW' _ _ _ _ _ _ (by omega) b1' hn hw'
        have hp := t.size_pos
        rw [hw', Rd.bind_ok]
        exact sim_manyGo hW hW' he H f f' _ _ _ _ _ _ _ (by omega) (by omega) (by omega) (by omega) a1 a1' a3 hs3 h
    · rename_i hc
      rw [if_neg hc]
      injection h with h1 h2 h3
      subst h1 h2 h3
      exact ⟨us, rfl, hs⟩
theorem sim_manyR {W W' : Rdr} {m m' most : Nat} (hW : GoodW W m) (hW' : GoodW W' m') (he : EndsT e e') (H : SimW d e e' Z Z' W W' m m') {ts us : List Tok} {ns : Nms} {l1 : List Tm} {ts1 : List Tok} {ns1 : Nms}
    (hm : ts.length ≤ m) (hm' : us.length ≤ m') (hf : Fine ts) (hf' : Fine us) (hn : ns.length ≤ 200) (hs : Sim d e e' Z Z' ts us) (h : manyR W most ts ns = .ok l1 ts1 ns1) : ∃ us1, manyR W' most us ns = .ok l1 us1 ns1 ∧ Sim d e e' Z Z' ts1 us1 := by
  unfold manyR at h ⊢
  obtain ⟨t, ts2, ns2, hw, h⟩ := Rd.bind_is h
  obtain ⟨us2, hw', hs3⟩ := H _ _ _ _ _ _ _ hm hm' hf hf' hn hs hw
  obtain ⟨a1, a2, a3⟩ := hW _ _ _ _ _ _ hm hf hn hw
  obtain ⟨a1', a2', a3'⟩ := hW' _ _ _ _ _ _ hm' hf' hn hw'
  rw [hw', Rd.bind_ok]
  exact sim_manyGo hW hW' he H _ _ _ _ _ _ _ _ _ (Nat.le_refl _) (Nat.le_refl _) (by omega) (by omega) a1 a1' a3 hs3 h
theorem sim_close {c : List UInt8} {x x' : Rd Tm} (he : EndsT e e') {t : Tm} {ts1 : List Tok} {ns1 : Nms}
    (hx : ∀ t ts' ns', x = .ok t ts' ns' → ∃ us', x' = .ok t us' ns' ∧ Sim d e e' Z Z' ts' us') (h : closeR c x = .ok t ts1 ns1) : ∃ us1, closeR c x' = .ok t us1 ns1 ∧ Sim d e e' Z Z' ts1 us1 := by
  obtain ⟨ts2, h1, h2, rfl⟩ := closeR_is h
  obtain ⟨us2, h3, hs⟩ := hx _ _ _ h1
  obtain ⟨hfst, hs2⟩ := hs.uncons2 he _ h2
  refine ⟨us2.tail, ?_, hs2⟩
  unfold closeR
  rw [h3, Rd.bind_ok, hfst, sh_isP, if_pos h2]
theorem sim_bracket {W W' : Rdr} {m m' : Nat} (hW : GoodW W m) (hW' : GoodW W' m') (he : EndsT e e') (H : SimW d e e' Z Z' W W' m m') {ts us : List Tok} {ns : Nms} {t : Tm} {ts1 : List Tok} {ns1 : Nms}
    (hm : ts.length ≤ m + 1) (hm' : us.length ≤ m' + 1) (hf : Fine ts) (hf' : Fine us) (hn : ns.length ≤ 200) (hs : Sim d e e' Z Z' ts us) (hk8 : (fstT ts).kind ≠ 8) (hk9 : (fstT ts).kind ≠ 9) (h : bracketR W ts ns = .ok t ts1 ns1) : ∃ us1, bracketR W' us ns = .ok t us1 ns1 ∧ Sim d e e' Z Z' ts1 us1 := by
  obtain ⟨hfst, hs2⟩ := hs.uncons he hk8 hk9
  obtain ⟨b1, b2⟩ := hf.tail hk9
  obtain ⟨b1', b2'⟩ := hf'.tail (by rw [hfst]; exact hk9)
  unfold bracketR at h ⊢
  rw [hfst, sh_text]
  split at h
  · rename_i hc
    rw [if_pos hc]
    exact sim_close he (fun t ts' ns' hw => H _ _ _ _ _ _ _ (by omega) (by omega) b1 b1' hn hs2 hw) h
  rename_i hc
  rw [if_neg hc]
  split at h
  · rename_i hc
    rw [if_pos hc]
    refine sim_close he (fun t ts' ns' hw => ?_) h
    unfold squareR at hw ⊢
    rw [hs2.isP he _ (by decide)]
    split at hw
    · rename_i hc
      rw [if_pos hc]
      injection hw with h1 h2 h3
      subst h1 h2 h3
      exact ⟨_, rfl, hs2⟩
    · rename_i hc
      rw [if_neg hc]
      unfold listR at hw ⊢
      obtain ⟨l, ts2, ns2, hl, hw⟩ := Rd.bind_is hw
      obtain ⟨us2, hl', hs3⟩ := sim_manyR hW hW' he H (by omega) (by omega) b1 b1' hn hs2 hl
      obtain ⟨⟨c1, c2, c3⟩, _⟩ := manyR_left hW (by decide) (by omega) b1 hn hl
      obtain ⟨⟨c1', c2', c3'⟩, _⟩ := manyR_left hW' (by decide) (by omega) b1' hn hl'
      rw [hl', Rd.bind_ok]
      obtain ⟨x, ts3, ns3, hx, hw⟩ := Rd.bind_is hw
      injection hw with h1 h2 h3
      subst h1 h2 h3
      unfold tailR at hx ⊢
      rw [hs3.isP he _ (by decide)]
      split at hx
      · rename_i hc
        rw [if_pos hc]
        obtain ⟨hfst3, hs4⟩ := hs3.uncons2 he _ hc
        have hk := isP_kind hc
        obtain ⟨d1, d2⟩ := c1.tail (by rw [hk.1]; decide)
        obtain ⟨d1', d2'⟩ := c1'.tail (by rw [hfst3, sh_kind, hk.1]; decide)
        obtain ⟨us3, hx', hs5⟩ := H _ _ _ _ _ _ _ (by omega) (by omega) d1 d1' c3 hs4 hx
        rw [hx', Rd.bind_ok]
        exact ⟨_, rfl, hs5⟩
      · rename_i hc
        rw [if_neg hc]
        injection hx with h1 h2 h3
        subst h1 h2 h3
        exact ⟨_, rfl, hs3⟩
  rename_i hc
  rw [if_neg hc]
  split at h
  · rename_i hc
    rw [if_pos hc]
    refine sim_close he (fun t ts' ns' hw => ?_) h
    unfold curlyR at hw ⊢
    rw [hs2.isP he _ (by decide)]
    split at hw
    · rename_i hc
      rw [if_pos hc]
      injection hw with h1 h2 h3
      subst h1 h2 h3
      exact ⟨_, rfl, hs2⟩
    · rename_i hc
      rw [if_neg hc]
      obtain ⟨t2, ts2, ns2, hl, hw⟩ := Rd.bind_is hw
      obtain ⟨us2, hl', hs3⟩ := H _ _ _ _ _ _ _ (by omega) (by omega) b1 b1' hn hs2 hl
      injection hw with h1 h2 h3
      subst h1 h2 h3
      rw [hl', Rd.bind_ok]
      exact ⟨_, rfl, hs3⟩
  · cases h
/-- What is asked of the two tokens behind a name. -/
theorem Sim.behind {ts us : List Tok} (h : Sim d e e' Z Z' ts us) (he : EndsT e e') : ((fstT us).kind = 7 ↔ (fstT ts).kind = 7) ∧ ((fstT us).kind = 5 ↔ (fstT ts).kind = 5) ∧ ((fstT ts).kind = 5 → (fstT us).pos = (fstT ts).pos + d ∧ (fstT us).n = (fstT ts).n) ∧ aloneT (fstT us) (fstT us.tail) = aloneT (fstT ts) (fstT ts.tail) := by
  cases h with
  | stop =>
    rw [fstT_cons, fstT_cons, he.alone1, he.alone2]
    have h1 := he.one
    have h2 := he.two
    exact ⟨⟨fun h => by omega, fun h => by omega⟩, ⟨fun h => by omega, fun h => by omega⟩, fun h => by omega, rfl⟩
  | cons t l l' _ _ hs =>
    refine ⟨Iff.rfl, Iff.rfl, fun _ => ⟨rfl, rfl⟩, ?_⟩
    show aloneT (t.sh d) (fstT l') = aloneT t (fstT l)
    have hc : ((fstT l').kind == 7) = ((fstT l).kind == 7) := by
      cases hs with
      | stop =>
        rw [fstT_cons, fstT_cons]
        have h1 := he.one
        have h2 := he.two
        rw [beq_eq_false_iff_ne.2 (by omega), beq_eq_false_iff_ne.2 (by omega)]
      | cons t2 l2 l2' _ _ _ => rfl
    unfold aloneT
    rw [hc]
    rfl
theorem sim_named {W W' : Rdr} {m m' : Nat} (hW : GoodW W m) (hW' : GoodW W' m') (he : EndsT e e') (H : SimW d e e' Z Z' W W' m m') {p : Int} {ts us : List Tok} {ns : Nms} {x : Tm × Int} {ts1 : List Tok} {ns1 : Nms}
    (hm : ts.length ≤ m + 1) (hm' : us.length ≤ m' + 1) (hf : Fine ts) (hf' : Fine us) (hn : ns.length ≤ 200) (hs : Sim d e e' Z Z' ts us) (hk : (fstT ts).isAtom = true) (h : namedR W p ts ns = .ok x ts1 ns1) : ∃ us1, namedR W' p us ns = .ok x us1 ns1 ∧ Sim d e e' Z Z' ts1 us1 := by
  have hk9 := atom_not9 hk
  have hk8 : (fstT ts).kind ≠ 8 := by rcases isAtom_kind hk with h | h | h <;> rw [h] <;> decide
  obtain ⟨hfst, hs2⟩ := hs.uncons he hk8 hk9
  obtain ⟨b1, b2⟩ := hf.tail hk9
  obtain ⟨b1', b2'⟩ := hf'.tail (by rw [hfst]; exact hk9)
  obtain ⟨e7, e5, e5p, ea⟩ := hs2.behind he
  unfold namedR at h ⊢
  rw [hfst, sh_text, sh_kind, sh_pos, ea]
  split at h
  · rename_i h7
    rw [if_pos (e7.2 h7)]
    obtain ⟨hfst2, hs3⟩ := hs2.uncons he (by rw [h7]; decide) (by rw [h7]; decide)
    obtain ⟨c1, c2⟩ := b1.tail (by rw [h7]; decide)
    obtain ⟨c1', c2'⟩ := b1'.tail (by rw [hfst2, sh_kind, h7]; decide)
    obtain ⟨t, ts2, ns2, hx, h⟩ := Rd.bind_is h
    injection h with h1 h2 h3
    subst h1 h2 h3
    unfold argsR at hx ⊢
    obtain ⟨us2, hx', hs4⟩ := sim_close (x' := (manyR W' 16 us.tail.tail ns).bind fun l ts' ns' => .ok (compT (fstT ts).text l) ts' ns') he (fun t ts' ns' hw => by
      obtain ⟨l, ts3, ns3, hl, hw⟩ := Rd.bind_is hw
      obtain ⟨us3, hl', hs5⟩ := sim_manyR hW hW' he H (by omega) (by omega) c1 c1' hn hs3 hl
      injection hw with h1 h2 h3
      subst h1 h2 h3
      rw [hl', Rd.bind_ok]
      exact ⟨_, rfl, hs5⟩) hx
    rw [hx', Rd.bind_ok]
    exact ⟨_, rfl, hs4⟩
  rename_i h7
  rw [if_neg (fun h => h7 (e7.1 h))]
  have hpos : ((fstT ts).kind = 3 ∧ (fstT ts).text = [45] ∧ (fstT us.tail).kind = 5 ∧ (fstT us.tail).pos = (fstT ts).pos + d + 1) ↔ ((fstT ts).kind = 3 ∧ (fstT ts).text = [45] ∧ (fstT ts.tail).kind = 5 ∧ (fstT ts.tail).pos = (fstT ts).pos + 1) :=
    ⟨fun ⟨a, b, c, h⟩ => ⟨a, b, e5.1 c, by have := (e5p (e5.1 c)).1; omega⟩, fun ⟨a, b, c, h⟩ => ⟨a, b, e5.2 c, by have := (e5p c).1; omega⟩⟩
  split at h
  · rename_i h5
    rw [if_pos (hpos.2 h5), (e5p h5.2.2.1).2]
    obtain ⟨_, hs3⟩ := hs2.uncons he (by rw [h5.2.2.1]; decide) (by rw [h5.2.2.1]; decide)
    injection h with h1 h2 h3
    subst h1 h2 h3
    exact ⟨_, rfl, hs3⟩
  rename_i h5
  rw [if_neg (fun h => h5 (hpos.1 h))]
  split at h
  · injection h with h1 h2 h3
    subst h1 h2 h3
    exact ⟨_, rfl, hs2⟩
  split at h
  · rename_i hc
    rw [if_pos hc]
    injection h with h1 h2 h3
    subst h1 h2 h3
    exact ⟨_, rfl, hs2⟩
  rename_i hc
  rw [if_neg hc]
  split at h
  · cases h
  · rename_i hc
    rw [if_neg hc]
    obtain ⟨t2, ts2, ns2, hl, h⟩ := Rd.bind_is h
    obtain ⟨us2, hl', hs3⟩ := H _ _ _ _ _ _ _ (by omega) (by omega) b1 b1' hn hs2 hl
    injection h with h1 h2 h3
    subst h1 h2 h3
    rw [hl', Rd.bind_ok]
    exact ⟨_, rfl, hs3⟩
theorem sim_begin {W W' : Rdr} {m m' : Nat} (hW : GoodW W m) (hW' : GoodW W' m') (he : EndsT e e') (H : SimW d e e' Z Z' W W' m m') {p : Int} {ts us : List Tok} {ns : Nms} {x : Tm × Int} {ts1 : List Tok} {ns1 : Nms}
    (hm : ts.length ≤ m + 1) (hm' : us.length ≤ m' + 1) (hf : Fine ts) (hf' : Fine us) (hn : ns.length ≤ 200) (hs : Sim d e e' Z Z' ts us) (h : beginR W p ts ns = .ok x ts1 ns1) : ∃ us1, beginR W' p us ns = .ok x us1 ns1 ∧ Sim d e e' Z Z' ts1 us1 := by
  have hno : (fstT ts).kind ≠ 8 ∧ (fstT ts).kind ≠ 9 := by
    refine ⟨fun hk => ?_, fun hk => ?_⟩
    all_goals
      unfold beginR at h
      rw [isAtom_no (by rw [hk]; decide), if_neg (by decide), if_neg (by rw [hk]; decide), if_neg (by rw [hk]; decide), if_neg (by rw [hk]; intro h; exact absurd h.1 (by decide))] at h
      cases h
  obtain ⟨hfst, hs2⟩ := hs.uncons he hno.1 hno.2
  unfold beginR at h ⊢
  rw [hfst, sh_isAtom, sh_kind, sh_n]
  split at h
  · rename_i hc
    rw [if_pos hc]
    exact sim_named hW hW' he H hm hm' hf hf' hn hs hc h
  rename_i hc
  rw [if_neg hc]
  split at h
  · rename_i hc
    rw [if_pos hc]
    obtain ⟨h1, h2⟩ := zeroR_is h
    unfold varR at h1
    unfold zeroR varR
    rw [hfst, sh_text]
    obtain ⟨x1, x2⟩ := x
    dsimp only at h1 h2
    subst h2
    split at h1
    · rename_i hc
      rw [if_pos hc]
      injection h1 with h1 h2 h3
      subst h1 h2 h3
      exact ⟨_, rfl, hs2⟩
    rename_i hc
    rw [if_neg hc]
    split at h1
    · cases h1
    · rename_i hc
      rw [if_neg hc]
      injection h1 with h1 h2 h3
      subst h1 h2 h3
      exact ⟨_, rfl, hs2⟩
  rename_i hc
  rw [if_neg hc]
  split at h
  · rename_i hc
    rw [if_pos hc]
    obtain ⟨h1, h2⟩ := zeroR_is h
    obtain ⟨x1, x2⟩ := x
    dsimp only at h1 h2
    subst h2
    obtain ⟨us1, hb, hs3⟩ := sim_bracket hW hW' he H hm hm' hf hf' hn hs hno.1 hno.2 h1
    unfold zeroR
    rw [hb, Rd.bind_ok]
    exact ⟨_, rfl, hs3⟩
  rename_i hc
  rw [if_neg hc]
  split at h
  · rename_i hc
    rw [if_pos hc]
    injection h with h1 h2 h3
    subst h1 h2 h3
    exact ⟨_, rfl, hs2⟩
  · cases h
theorem sim_more {W W' : Rdr} {m m' : Nat} (hW : GoodW W m) (hW' : GoodW W' m') (he : EndsT e e') (H : SimW d e e' Z Z' W W' m m') (p : Int) : ∀ (f f' : Nat) (t : Tm) (pri : Int) (ts us : List Tok) (ns : Nms) (t1 : Tm) (ts1 : List Tok) (ns1 : Nms),
    ts.length ≤ f → us.length ≤ f' → ts.length ≤ m + 1 → us.length ≤ m' + 1 → Fine ts → Fine us → ns.length ≤ 200 → Sim d e e' Z Z' ts us → moreR W p f t pri ts ns = .ok t1 ts1 ns1 → ∃ us1, moreR W' p f' t pri us ns = .ok t1 us1 ns1 ∧ Sim d e e' Z Z' ts1 us1
  | 0, f', t, pri, ts, us, ns, t1, ts1, ns1, h1, h2, hm, hm', hf, hf', hn, hs, h => absurd hf.pos (by omega)
  | f + 1, 0, t, pri, ts, us, ns, t1, ts1, ns1, h1, h2, hm, hm', hf, hf', hn, hs, h => absurd hf'.pos (by omega)
  | f + 1, f' + 1, t, pri, ts, us, ns, t1, ts1, ns1, h1, h2, hm, hm', hf, hf', hn, hs, h => by
    have hinf : (fstT us).infix = (fstT ts).infix := by
      cases hs with
      | stop => rw [fstT_cons, fstT_cons, he.inf1, he.inf2]
      | cons => rfl
    unfold moreR at h ⊢
    rw [hinf]
    split at h
    · injection h with h1 h2 h3
      subst h1 h2 h3
      exact ⟨us, rfl, hs⟩
    · rename_i r hr
      split at h
      · rename_i hc
        rw [if_pos hc]
        injection h with h1 h2 h3
        subst h1 h2 h3
        exact ⟨us, rfl, hs⟩
      · rename_i hc
        rw [if_neg hc]
        have hk9 := infix_not9 hr
        have hk8 : (fstT ts).kind ≠ 8 := by
          intro h8
          unfold Tok.infix at hr
          rw [isAtom_no (by rw [h8]; decide), isP_no (by rw [h8]; decide)] at hr
          cases hr
        obtain ⟨hfst, hs2⟩ := hs.uncons he hk8 hk9
        obtain ⟨b1, b2⟩ := hf.tail hk9
        obtain ⟨b1', b2'⟩ := hf'.tail (by rw [hfst]; exact hk9)
        rw [hfst, sh_text]
        obtain ⟨u, ts2, ns2, hl, h⟩ := Rd.bind_is h
        obtain ⟨us2, hl', hs3⟩ := H _ _ _ _ _ _ _ (by omega) (by omega) b1 b1' hn hs2 hl
        obtain ⟨a1, a2, a3⟩ := hW _ _ _ _ _ _ (by omega) b1 hn hl
        obtain ⟨a1', a2', a3'⟩ := hW' _ _ _ _ _ _ (by omega) b1' hn hl'
        have hp := u.size_pos
        rw [hl', Rd.bind_ok]
        exact sim_more hW hW' he H p f f' _ _ _ _ _ _ _ _ (by omega) (by omega) (by omega) (by omega) a1 a1' a3 hs3 h
theorem sim_term (he : EndsT e e') : ∀ (m m' : Nat), SimW d e e' Z Z' (termR m) (termR m') m m'
  | 0, m' => fun p ts us ns t ts' ns' hm hm' hf hf' hn hs h => absurd hf.pos (by omega)
  | m + 1, 0 => fun p ts us ns t ts' ns' hm hm' hf hf' hn hs h => absurd hf'.pos (by omega)
  | m + 1, m' + 1 => fun p ts us ns t ts' ns' hm hm' hf hf' hn hs h => by
    unfold termR at h ⊢
    have hW := termR_good m
    have hW' := termR_good m'
    have H := sim_term he m m'
    obtain ⟨x, ts2, ns2, hl, h⟩ := Rd.bind_is h
    obtain ⟨us2, hl', hs3⟩ := sim_begin hW hW' he H hm hm' hf hf' hn hs hl
    obtain ⟨a1, a2, a3⟩ := beginR_left hW hm hf hn hl
    obtain ⟨a1', a2', a3'⟩ := beginR_left hW' hm' hf' hn hl'
    rw [hl', Rd.bind_ok]
    exact sim_more hW hW' he H p _ _ _ _ _ _ _ _ _ _ (Nat.le_refl _) (Nat.le_refl _) (by omega) (by omega) a1 a1' a3 hs3 h
end
end Go.Proofs.YtlbdocdjijhkbaaGreatDoor

/-
  Plain mathematics for package read: what a source is cut into are tokens as reading takes them; whole terms, programs and queries; what is read may be a term; no program in it.
-/
namespace Go.Proofs.YtlbdocdjijhkbaaGreatDoor
open Go.RowKit

theorem checkL_len {l : List UInt8} (h : checkL l = true) : l.length ≤ 255 := by
  unfold checkL at h
  simp only [Bool.and_eq_true, decide_eq_true_eq] at h
  exact h.1
theorem rune_le (l : List UInt8) : (Lib.decodeL l).1 ≤ 1114111 := by
  have hN := Lib.decodeL_N l
  have hs := Lib.decodeN_shape l.length (l.getD 0 0).toNat (l.getD 1 0).toNat (l.getD 2 0).toNat (l.getD 3 0).toNat
  rw [← hN] at hs
  have hb : ∀ i, (l.getD i 0).toNat < 256 := fun i => (l.getD i 0).toNat_lt
  have h0 := hb 0
  rcases hs with ⟨a, e⟩ | ⟨_, _, _, a, e⟩ | ⟨_, _, _, _, a, b, e⟩ | ⟨_, _, _, _, _, a, b, e⟩ | e
  all_goals (rw [e]; simp only; omega)
theorem runeB_in (r : List UInt8) : 0 ≤ (runeB r).1 ∧ (runeB r).1 ≤ 1114111 := by
  unfold runeB
  split
  · exact ⟨by decide, by decide⟩
  · split
    · exact ⟨by decide, by decide⟩
    · have := rune_le r
      exact ⟨by show (0 : Int) ≤ ((Lib.decodeL r).1 : Int); omega, by show ((Lib.decodeL r).1 : Int) ≤ _; omega⟩
theorem runeNum_in (r : List UInt8) : 0 ≤ (runeNum r).1 ∧ (runeNum r).1 ≤ 1114111 := by
  unfold runeNum
  split
  · exact runeB_in _
  · exact ⟨by decide, by decide⟩
theorem readV_neg (l : List UInt8) : -9223372036854775808 ≤ readV (45 :: l) ∧ readV (45 :: l) ≤ 0 := by
  unfold readV
  split
  · exact ⟨by decide, by decide⟩
  · rename_i h
    have hd : (body (45 :: l)).all isDig = true := by
      cases hh : (body (45 :: l)).all isDig with
      | true => rfl
      | false => exact absurd (.inr hh) h
    have hv := val_nonneg hd
    have hn : readN (45 :: l) = -(val (body (45 :: l))) := by
      unfold readN
      rw [if_pos (show neg (45 :: l) = true from rfl)]
    rw [hn]
    unfold chkV
    split <;> omega
theorem wrap64_pos {x : Int} (h0 : 0 ≤ x) (h1 : x ≤ 9223372036854775807) : wrap64 x = x := by
  unfold wrap64; omega
theorem numberL_in (l : List UInt8) : In64 (numberL l).n ∧ ((numberL l).n < 0 → (numberL l).n = -9223372036854775808) ∧ (numberL l).text = [] := by
  unfold numberL
  split
  · have := runeNum_in l
    refine ⟨⟨?_, ?_⟩, fun h => ?_, rfl⟩
    · show _ ≤ (runeNum l).1; omega
    · show (runeNum l).1 ≤ _; omega
    · have h' : (runeNum l).1 < 0 := h
      omega
  · split
    · have hv := readV_neg (l.take (spanL digR l))
      generalize readV (45 :: l.take (spanL digR l)) = x at *
      show In64 (wrap64 (-x)) ∧ (wrap64 (-x) < 0 → wrap64 (-x) = -9223372036854775808) ∧ _
      by_cases hx : x = -9223372036854775808
      · have hw : wrap64 (-x) = -9223372036854775808 := by rw [hx]; unfold wrap64; omega
        rw [hw]
        exact ⟨⟨by decide, by decide⟩, fun _ => rfl, rfl⟩
      · rw [wrap64_pos (by omega) (by omega)]
        exact ⟨⟨by omega, by omega⟩, fun h => by omega, rfl⟩
    · exact ⟨⟨by decide, by decide⟩, fun h => absurd h (by decide), rfl⟩
theorem namedL_check (x : Lx) (h : (namedL x).kind ≠ 0) : checkL (namedL x).text = true ∧ namedL x = x := by
  unfold namedL at h ⊢
  split
  · rename_i hc; exact ⟨hc, rfl⟩
  · rename_i hc
    rw [if_neg hc] at h
    exact absurd rfl h
theorem cls67 (b : UInt8) (h : cls (b.toNat : Int) = 6 ∨ cls (b.toNat : Int) = 7) (h1 : ¬ (b = 33 ∨ b = 59)) : b = 40 ∨ b = 41 ∨ b = 44 ∨ b = 91 ∨ b = 93 ∨ b = 123 ∨ b = 124 ∨ b = 125 := by
  have key : ∀ b : Fin 256, (cls (b.val : Int) = 6 ∨ cls (b.val : Int) = 7) → b.val = 33 ∨ b.val = 59 ∨ b.val = 40 ∨ b.val = 41 ∨ b.val = 44 ∨ b.val = 91 ∨ b.val = 93 ∨ b.val = 123 ∨ b.val = 124 ∨ b.val = 125 := by decide +kernel
  have hk := key ⟨b.toNat, b.toNat_lt⟩ h
  have e : ∀ n : Nat, b.toNat = n → b = UInt8.ofNat n := fun n hn => by rw [← hn, UInt8.ofNat_toNat]
  rcases hk with hk | hk | hk | hk | hk | hk | hk | hk | hk | hk
  · exact absurd (.inl (e _ hk)) h1
  · exact absurd (.inr (e _ hk)) h1
  · exact .inl (e _ hk)
  · exact .inr (.inl (e _ hk))
  · exact .inr (.inr (.inl (e _ hk)))
  · exact .inr (.inr (.inr (.inl (e _ hk))))
  · exact .inr (.inr (.inr (.inr (.inl (e _ hk)))))
  · exact .inr (.inr (.inr (.inr (.inr (.inl (e _ hk))))))
  · exact .inr (.inr (.inr (.inr (.inr (.inr (.inl (e _ hk)))))))
  · exact .inr (.inr (.inr (.inr (.inr (.inr (.inr (e _ hk)))))))
/-- What is cut off is a token, or nothing. -/
structure LexOk (l : List UInt8) (x : Lx) : Prop where
  kind : 1 ≤ x.kind ∧ x.kind ≤ 8 ∧ x.kind ≠ 7
  name : x.kind = 1 ∨ x.kind = 2 ∨ x.kind = 3 → checkL x.text = true
  punct : x.kind = 6 → ∃ b : UInt8, x.text = [b] ∧ (b = 40 ∨ b = 41 ∨ b = 44 ∨ b = 91 ∨ b = 93 ∨ b = 123 ∨ b = 124 ∨ b = 125)
  n : In64 x.n
  neg : x.n < 0 → x.n = -9223372036854775808
  size : x.text.length ≤ max l.length 255
theorem lex_fine (l : List UInt8) (hk : (lexL l).kind ≠ 0) : LexOk l (lexL l) := by
  have z : In64 0 := ⟨by decide, by decide⟩
  cases l with
  | nil => exact absurd rfl hk
  | cons b t =>
    have htake : ∀ k, ((b :: t).take k).length ≤ max (b :: t).length 255 := fun k => by rw [List.length_take]; omega
    have hnm : ∀ x : Lx, (namedL x).kind ≠ 0 → (x.kind = 1 ∨ x.kind = 2 ∨ x.kind = 3 ∨ x.kind = 8) → x.n = 0 → LexOk (b :: t) (namedL x) := fun x h0 h1 h2 => by
      obtain ⟨hc, he⟩ := namedL_check x h0
      rw [he] at hc ⊢
      have := checkL_len hc
      exact ⟨by omega, fun _ => hc, fun h => by omega, by rw [h2]; exact z, fun h => by omega, by omega⟩
    unfold lexL at hk ⊢
    dsimp only at hk ⊢
    split at hk
    · exact absurd rfl hk
    rename_i h5
    rw [if_neg h5]
    split at hk
    · rename_i h1
      rw [if_pos h1]
      exact hnm _ hk (.inl rfl) rfl
    rename_i h1
    rw [if_neg h1]
    split at hk
    · rename_i h2
      rw [if_pos h2]
      exact ⟨⟨(by decide : (1 : Int) ≤ 4), (by decide : (4 : Int) ≤ 8), (by decide : (4 : Int) ≠ 7)⟩, fun h => absurd h (by show ¬ ((4 : Int) = 1 ∨ (4 : Int) = 2 ∨ (4 : Int) = 3); decide), fun h => absurd h (by show (4 : Int) ≠ 6; decide), z, fun h => absurd h (by show ¬ (0 : Int) < 0; decide), htake _⟩
    rename_i h2
    rw [if_neg h2]
    split at hk
    · rename_i h3
      rw [if_pos h3]
      obtain ⟨a1, a2, a3⟩ := numberL_in (b :: t)
      have hkd : (numberL (b :: t)).kind = 5 := by
        revert hk
        unfold numberL
        split
        · exact fun _ => rfl
        · split
          · exact fun _ => rfl
          · exact fun h => absurd rfl h
      exact ⟨by rw [hkd]; decide, fun h => by rw [hkd] at h; exact absurd h (by decide), fun h => by rw [hkd] at h; exact absurd h (by decide), a1, a2, by rw [a3]; exact Nat.zero_le _⟩
    rename_i h3
    rw [if_neg h3]
    split at hk
    · rename_i h4
      rw [if_pos h4]
      split at hk
      · exfalso
        revert hk
        unfold remarkL
        split
        · exact fun h => absurd rfl h
        · exact fun h => absurd rfl h
      · rename_i hr
        rw [if_neg hr]
        refine hnm _ hk ?_ rfl
        unfold signsL
        dsimp only
        split
        · exact .inr (.inr (.inr rfl))
        · exact .inr (.inr (.inl rfl))
    rename_i h4
    rw [if_neg h4]
    split at hk
    · rename_i h8
      rw [if_pos h8]
      unfold quotedL at hk ⊢
      split at hk
      · rename_i t2 k hq
        exact hnm _ hk (.inr (.inl rfl)) rfl
      · rename_i hq
        refine absurd ?_ hk
        unfold namedL
        split <;> rfl
    rename_i h8
    rw [if_neg h8]
    split at hk
    · rename_i h67
      rw [if_pos h67]
      unfold singleL
      by_cases hb : b = 33 ∨ b = 59
      · rw [if_pos hb]
        refine ⟨⟨(by decide : (1 : Int) ≤ 1), (by decide : (1 : Int) ≤ 8), (by decide : (1 : Int) ≠ 7)⟩, fun _ => ?_, fun h => absurd h (by show (1 : Int) ≠ 6; decide), z, fun h => absurd h (by show ¬ (0 : Int) < 0; decide), ?_⟩
        · rcases hb with rfl | rfl <;> decide +kernel
        · show 1 ≤ max (b :: t).length 255; omega
      · rw [if_neg hb]
        exact ⟨⟨(by decide : (1 : Int) ≤ 6), (by decide : (6 : Int) ≤ 8), (by decide : (6 : Int) ≠ 7)⟩, fun h => absurd h (by show ¬ ((6 : Int) = 1 ∨ (6 : Int) = 2 ∨ (6 : Int) = 3); decide), fun _ => ⟨b, rfl, cls67 b h67 hb⟩, z, fun h => absurd h (by show ¬ (0 : Int) < 0; decide), by show 1 ≤ max (b :: t).length 255; omega⟩
    rename_i h67
    rw [if_neg h67]
    split at hk
    · exact absurd rfl hk
    · exact absurd rfl hk
theorem tok_fine (l : List UInt8) (t : Bool) (o : Nat) (hk : (lexL l).kind ≠ 0) (hl : l.length ≤ 4096) (ho : o ≤ 4096) : TokOk ⟨kindL t (lexL l), (lexL l).text, (lexL l).n, o⟩ ∧ kindL t (lexL l) ≠ 9 := by
  obtain ⟨k1, k2, k3, k4, k5, k6⟩ := lex_fine l hk
  generalize lexL l = x at *
  unfold kindL
  by_cases h : t = true ∧ x.text = [40] ∧ x.kind = 6
  · rw [if_pos h]
    refine ⟨⟨(by decide : (1 : Int) ≤ 7 ∧ (7 : Int) ≤ 9), fun h => absurd (isAtom_kind h) (by show ¬ ((7 : Int) = 1 ∨ (7 : Int) = 2 ∨ (7 : Int) = 3); decide), fun _ => ⟨40, h.2.1, .inl rfl⟩, k4, k5, by show x.text.length ≤ _; omega, ho⟩, by decide⟩
  · rw [if_neg h]
    refine ⟨⟨⟨k1.1, by show x.kind ≤ 9; omega⟩, fun h => k2 (isAtom_kind h), fun h => ?_, k4, k5, by show x.text.length ≤ _; omega, ho⟩, by omega⟩
    rcases h with h | h
    · exact k3 h
    · exact absurd h k1.2.2
/-- What a source is cut into. -/
theorem cut_fine {l : List UInt8} {T : List Tok} (hl : l.length ≤ 4096) (h : cutL l 0 false = .good T) : Fine T := by
  have hle := lexL_le
  have key : 0 + l.length ≤ 4096 → Fine T := by
    revert h
    refine cut_ind (P := fun l o _ T => o + l.length ≤ 4096 → Fine T) ?_ ?_ ?_ l 0 false T
    · intro o t ho
      exact .stop _ ⟨(by decide : (1 : Int) ≤ 9 ∧ (9 : Int) ≤ 9), fun h => absurd (isAtom_kind h) (by show ¬ ((9 : Int) = 1 ∨ (9 : Int) = 2 ∨ (9 : Int) = 3); decide), fun h => absurd h (by show ¬ ((9 : Int) = 6 ∨ (9 : Int) = 7); decide), (by unfold In64; decide : In64 0), fun h => absurd h (by show ¬ (0 : Int) < 0; decide), Nat.zero_le _, by show o ≤ 4096; omega⟩ rfl
    · intro l o t T hl hw hk hc h ho
      have := hle l
      exact h (by rw [List.length_drop]; omega)
    · intro l o t U hl hw hk hc h ho
      have := hle l
      obtain ⟨h1, h2⟩ := tok_fine l t o hk (by omega) (by omega)
      exact .cons _ _ h1 h2 (h (by rw [List.length_drop]; omega))
  exact key (by omega)

/-! ### Whole terms, programs, queries -/
inductive Wh where
  | syn (o : Nat)
  | deep (o : Nat)
  | ok (t : Tm) (ts : List Tok) (ns : Nms)
def wholeR (must : Bool) (ts : List Tok) : Wh :=
  match termR ts.length 1200 ts [] with
  | .bad o => .syn o
  | .ok t ts' ns =>
    if (fstT ts').kind ≠ 8 ∧ must = true then .syn (fstT ts').pos
    else if 60 < t.deep then .deep (fstT ts).pos
    else .ok t (if (fstT ts').kind = 8 then ts'.tail else ts') ns
inductive Pr (α : Type) where
  | bad (o : Nat) (e : Int)
  | ok (a : α)
def progGo : Nat → List Tm → List Tok → Pr (List Tm)
  | 0, l, _ => .ok l
  | f + 1, l, ts =>
    if (fstT ts).kind = 9 then .ok l
    else
      match wholeR true ts with
      | .syn o => .bad o 60
      | .deep o => .bad o 3
      | .ok t ts' _ => progGo f (l ++ [t]) ts'
def progT (ts : List Tok) : Pr (List Tm) := progGo ts.length [] ts
def queryT (ts : List Tok) : Pr (Tm × Nms) :=
  match wholeR false ts with
  | .syn o => .bad o 60
  | .deep o => .bad o 3
  | .ok t ts' ns => if (fstT ts').kind = 9 then .ok (t, ns) else .bad (fstT ts').pos 60
def cutThen {α : Type} (src : List UInt8) (f : List Tok → Pr α) : Pr α :=
  if 4096 < src.length then .bad 0 2
  else
    match cutL src 0 false with
    | .bad o => .bad o 50
    | .good T => f T
def progL (src : List UInt8) : Pr (List Tm) := cutThen src progT
def queryL (src : List UInt8) : Pr (Tm × Nms) := cutThen src queryT
theorem wholeR_left {must : Bool} {ts : List Tok} (hf : Fine ts) {t : Tm} {ts' : List Tok} {ns : Nms} (h : wholeR must ts = .ok t ts' ns) : Fine ts' ∧ ts'.length + t.size ≤ ts.length ∧ ns.length ≤ 200 ∧ t.deep ≤ 60 := by
  unfold wholeR at h
  cases hc : termR ts.length 1200 ts [] with
  | bad o => rw [hc] at h; cases h
  | ok t1 ts1 ns1 =>
    rw [hc] at h
    dsimp only at h
    obtain ⟨a1, a2, a3⟩ := termR_good _ _ _ _ _ _ _ (Nat.le_refl _) hf (by simp) hc
    split at h
    · cases h
    split at h
    · cases h
    rename_i hd
    injection h with h1 h2 h3
    subst h1 h2 h3
    refine ⟨?_, ?_, a3, by omega⟩
    · split
      · rename_i h8; exact (a1.tail (by rw [h8]; decide)).1
      · exact a1
    · split
      · rename_i h8; have := (a1.tail (by rw [h8]; decide)).2; omega
      · exact a2

/-! ### What is read may be a term -/
theorem may_atom {s : List UInt8} (h : checkL s = true) : (atomT s).may = true := by
  rw [Tm.may_eq]
  show mayK 2 ⟨s.toArray⟩ 0 0 _ = true
  unfold mayK
  rw [if_neg (by decide), if_pos rfl]
  simp [h]
theorem may_int (n : Int) : (intT n).may = true := by rw [Tm.may_eq]; rfl
theorem may_var (n : Nat) : (varT n).may = true := by
  rw [Tm.may_eq]
  show mayK 1 ⟨#[]⟩ (n : Nat) 0 _ = true
  unfold mayK
  rw [if_pos rfl]
  simp
theorem may_comp {s : List UInt8} {l : List Tm} (h : checkL s = true) (h1 : 1 ≤ l.length) (h2 : l.length ≤ 16) (hl : ∀ t ∈ l, t.may = true) : (compT s l).may = true := by
  rw [Tm.may_eq]
  show mayK 4 ⟨s.toArray⟩ 0 l.length (Tm.mays l) = true
  unfold mayK
  rw [if_neg (by decide), if_neg (by decide), if_neg (by decide), if_pos rfl, Tm.mays_all]
  have : l.all Tm.may = true := List.all_eq_true.2 hl
  simp [h, this, h1, h2]
def MayW (W : Rdr) (m : Nat) : Prop := ∀ p ts ns t ts' ns', ts.length ≤ m → Fine ts → ns.length ≤ 200 → W p ts ns = .ok t ts' ns' → t.may = true
theorem manyGo_may (W : Rdr) (most m : Nat) (hW : GoodW W m) (hM : MayW W m) : ∀ (f : Nat) (l : List Tm) (ts : List Tok) (ns : Nms) (l' : List Tm) (ts' : List Tok) (ns' : Nms), ts.length ≤ m → Fine ts → ns.length ≤ 200 → (∀ t ∈ l, t.may = true) → manyGo W most f l ts ns = .ok l' ts' ns' → ∀ t ∈ l', t.may = true
  | 0, l, ts, ns, l', ts', ns', hm, hf, hn, ha, h => by
    injection h with h1 h2 h3
    subst h1
    exact ha
  | f + 1, l, ts, ns, l', ts', ns', hm, hf, hn, ha, h => by
    unfold manyGo at h
    split at h
    · rename_i hc
      obtain ⟨hft, htl⟩ := hf.tail (by rw [(isP_kind hc).1]; decide)
      split at h
      · cases h
      · obtain ⟨t, ts1, ns1, hw, h⟩ := Rd.bind_is h
        obtain ⟨a1, a2, a3⟩ := hW _ _ _ _ _ _ (by omega) hft hn hw
        refine manyGo_may W most m hW hM f _ ts1 ns1 _ _ _ (by omega) a1 a3 (fun x hx => ?_) h
        rcases List.mem_append.1 hx with hx | hx
        · exact ha x hx
        · rw [List.mem_singleton.1 hx]; exact hM _ _ _ _ _ _ (by omega) hft hn hw
    · injection h with h1 h2 h3
      subst h1
      exact ha
theorem manyR_may {W : Rdr} {most m : Nat} (hW : GoodW W m) (hM : MayW W m) {ts : List Tok} {ns : Nms} {l' : List Tm} {ts' : List Tok} {ns' : Nms} (hm : ts.length ≤ m) (hf : Fine ts) (hn : ns.length ≤ 200) (h : manyR W most ts ns = .ok l' ts' ns') : ∀ t ∈ l', t.may = true := by
  unfold manyR at h
  obtain ⟨t, ts1, ns1, hw, h⟩ := Rd.bind_is h
  obtain ⟨a1, a2, a3⟩ := hW _ _ _ _ _ _ hm hf hn hw
  refine manyGo_may W most m hW hM _ _ ts1 ns1 _ _ _ (by omega) a1 a3 (fun x hx => ?_) h
  rw [List.mem_singleton.1 hx]; exact hM _ _ _ _ _ _ hm hf hn hw
theorem consT_may : ∀ (l : List Tm) (e : Tm), (∀ t ∈ l, t.may = true) → e.may = true → (consT l e).may = true
  | [], e, _, he => he
  | x :: l, e, hl, he => by
    show (compT [46] [x, consT l e]).may = true
    refine may_comp (by decide +kernel) (by show 1 ≤ 2; decide) (by show 2 ≤ 16; decide) (fun t ht => ?_)
    rcases List.mem_cons.1 ht with rfl | ht
    · exact hl _ (.head _)
    · rw [List.mem_singleton.1 ht]; exact consT_may l e (fun t h => hl t (.tail _ h)) he
theorem bracketR_may {W : Rdr} {m : Nat} (hW : GoodW W m) (hM : MayW W m) {ts : List Tok} {ns : Nms} {t : Tm} {ts' : List Tok} {ns' : Nms} (hm : ts.length ≤ m + 1) (hf : Fine ts) (hk : (fstT ts).kind ≠ 9) (hn : ns.length ≤ 200) (h : bracketR W ts ns = .ok t ts' ns') : t.may = true := by
  obtain ⟨b1, b2⟩ := hf.tail hk
  unfold bracketR at h
  split at h
  · obtain ⟨ts1, h1, _, _⟩ := closeR_is h
    exact hM _ _ _ _ _ _ (by omega) b1 hn h1
  split at h
  · obtain ⟨ts1, h1, _, _⟩ := closeR_is h
    unfold squareR at h1
    split at h1
    · injection h1 with h1 h2 h3
      subst h1
      exact may_atom (by decide +kernel)
    · unfold listR at h1
      obtain ⟨l, ts1, ns1, hl, h⟩ := Rd.bind_is h1
      obtain ⟨⟨c1, c2, c3⟩, c4, c5, c6⟩ := manyR_left hW (by decide) (by omega) b1 hn hl
      obtain ⟨e, ts2, ns2, he, h⟩ := Rd.bind_is h
      injection h with h1 h2 h3
      subst h1
      refine consT_may l e (manyR_may hW hM (by omega) b1 hn hl) ?_
      unfold tailR at he
      split at he
      · rename_i hb
        obtain ⟨d1, d2⟩ := c1.tail (by rw [(isP_kind hb).1]; decide)
        exact hM _ _ _ _ _ _ (by omega) d1 c3 he
      · injection he with h1 h2 h3
        subst h1
        exact may_atom (by decide +kernel)
  split at h
  · obtain ⟨ts1, h1, _, _⟩ := closeR_is h
    unfold curlyR at h1
    split at h1
    · injection h1 with h1 h2 h3
      subst h1
      exact may_atom (by decide +kernel)
    · obtain ⟨t, ts1, ns1, hl, h⟩ := Rd.bind_is h1
      injection h with h1 h2 h3
      subst h1
      refine may_comp (by decide +kernel) (by show 1 ≤ 1; decide) (by show 1 ≤ 16; decide) (fun x hx => ?_)
      rw [List.mem_singleton.1 hx]; exact hM _ _ _ _ _ _ (by omega) b1 hn hl
  · cases h
theorem namedR_may {W : Rdr} {m : Nat} (hW : GoodW W m) (hM : MayW W m) {p : Int} {ts : List Tok} {ns : Nms} {x : Tm × Int} {ts' : List Tok} {ns' : Nms} (hm : ts.length ≤ m + 1) (hf : Fine ts) (hk : (fstT ts).isAtom = true) (hn : ns.length ≤ 200) (h : namedR W p ts ns = .ok x ts' ns') : x.1.may = true := by
  obtain ⟨b1, b2⟩ := hf.tail (atom_not9 hk)
  have hc := hf.first.name hk
  unfold namedR at h
  split at h
  · rename_i h7
    obtain ⟨d1, d2⟩ := b1.tail (by rw [h7]; decide)
    obtain ⟨t, ts1, ns1, hx, h⟩ := Rd.bind_is h
    injection h with h1 h2 h3
    subst h1
    unfold argsR at hx
    obtain ⟨ts2, h1, h2, _⟩ := closeR_is hx
    obtain ⟨l, ts3, ns3, hl, h1⟩ := Rd.bind_is h1
    injection h1 with h1 h3 h4
    subst h1
    obtain ⟨_, c4, c5, c6⟩ := manyR_left hW (by decide) (by omega) d1 hn hl
    exact may_comp hc c5 c6 (manyR_may hW hM (by omega) d1 hn hl)
  split at h
  · injection h with h1 h2 h3
    subst h1
    exact may_int _
  split at h
  · injection h with h1 h2 h3
    subst h1
    exact may_atom hc
  split at h
  · injection h with h1 h2 h3
    subst h1
    exact may_atom hc
  split at h
  · cases h
  · obtain ⟨t, ts1, ns1, hl, h⟩ := Rd.bind_is h
    injection h with h1 h2 h3
    subst h1
    refine may_comp hc (by show 1 ≤ 1; decide) (by show 1 ≤ 16; decide) (fun x hx => ?_)
    rw [List.mem_singleton.1 hx]; exact hM _ _ _ _ _ _ (by omega) b1 hn hl
theorem varR_may {ts : List Tok} {ns : Nms} {t : Tm} {ts' : List Tok} {ns' : Nms} (h : varR ts ns = .ok t ts' ns') : t.may = true := by
  unfold varR at h
  split at h
  · injection h with h1 h2 h3
    subst h1
    exact may_var _
  · split at h
    · cases h
    · injection h with h1 h2 h3
      subst h1
      exact may_var _
theorem beginR_may {W : Rdr} {m : Nat} (hW : GoodW W m) (hM : MayW W m) {p : Int} {ts : List Tok} {ns : Nms} {x : Tm × Int} {ts' : List Tok} {ns' : Nms} (hm : ts.length ≤ m + 1) (hf : Fine ts) (hn : ns.length ≤ 200) (h : beginR W p ts ns = .ok x ts' ns') : x.1.may = true := by
  unfold beginR at h
  split at h
  · exact namedR_may hW hM hm hf (by assumption) hn h
  split at h
  · exact varR_may (zeroR_is h).1
  split at h
  · rename_i h6
    exact bracketR_may hW hM hm hf (by rcases h6 with h6 | h6 <;> rw [h6] <;> decide) hn (zeroR_is h).1
  split at h
  · injection h with h1 h2 h3
    subst h1
    exact may_int _
  · cases h
theorem infix_check {t : Tok} {r : R} (ht : TokOk t) (h : t.infix = some r) : checkL t.text = true := by
  unfold Tok.infix at h
  split at h
  · rename_i hc
    simp only [Bool.or_eq_true] at hc
    rcases hc with hc | hc
    · exact ht.name hc
    · rw [(isP_kind hc).2]; decide +kernel
  · cases h
theorem moreR_may {W : Rdr} {m : Nat} (hW : GoodW W m) (hM : MayW W m) (p : Int) : ∀ (f : Nat) (t : Tm) (pri : Int) (ts : List Tok) (ns : Nms) (t' : Tm) (ts' : List Tok) (ns' : Nms), ts.length ≤ m + 1 → Fine ts → ns.length ≤ 200 → t.may = true → moreR W p f t pri ts ns = .ok t' ts' ns' → t'.may = true
  | 0, t, pri, ts, ns, t', ts', ns', hm, hf, hn, ht, h => by
    injection h with h1 h2 h3
    subst h1
    exact ht
  | f + 1, t, pri, ts, ns, t', ts', ns', hm, hf, hn, ht, h => by
    unfold moreR at h
    split at h
    · injection h with h1 h2 h3
      subst h1
      exact ht
    · rename_i r hr
      split at h
      · injection h with h1 h2 h3
        subst h1
        exact ht
      · obtain ⟨b1, b2⟩ := hf.tail (infix_not9 hr)
        obtain ⟨u, ts1, ns1, hl, h⟩ := Rd.bind_is h
        obtain ⟨a1, a2, a3⟩ := hW _ _ _ _ _ _ (by omega) b1 hn hl
        refine moreR_may hW hM p f _ _ ts1 ns1 _ _ _ (by omega) a1 a3 (may_comp (infix_check hf.first hr) (by show 1 ≤ 2; decide) (by show 2 ≤ 16; decide) (fun x hx => ?_)) h
        rcases List.mem_cons.1 hx with rfl | hx
        · exact ht
        · rw [List.mem_singleton.1 hx]; exact hM _ _ _ _ _ _ (by omega) b1 hn hl
theorem termR_may : ∀ (m : Nat), MayW (termR m) m
  | 0 => fun p ts ns t ts' ns' hm hf _ _ => absurd hf.pos (by omega)
  | m + 1 => fun p ts ns t ts' ns' hm hf hn h => by
    unfold termR at h
    obtain ⟨x, ts1, ns1, hl, h⟩ := Rd.bind_is h
    obtain ⟨a1, a2, a3⟩ := beginR_left (termR_good m) hm hf hn hl
    exact moreR_may (termR_good m) (termR_may m) p _ _ _ ts1 ns1 _ _ _ (by have := x.1.size_pos; omega) a1 a3 (beginR_may (termR_good m) (termR_may m) hm hf hn hl) h
theorem wholeR_may {must : Bool} {ts : List Tok} (hf : Fine ts) {t : Tm} {ts' : List Tok} {ns : Nms} (h : wholeR must ts = .ok t ts' ns) : t.may = true := by
  unfold wholeR at h
  cases hc : termR ts.length 1200 ts [] with
  | bad o => rw [hc] at h; cases h
  | ok t1 ts1 ns1 =>
    rw [hc] at h
    dsimp only at h
    split at h
    · cases h
    split at h
    · cases h
    injection h with h1 h2 h3
    subst h1
    exact termR_may _ _ _ _ _ _ _ (Nat.le_refl _) hf (by simp) hc
end Go.Proofs.YtlbdocdjijhkbaaGreatDoor

/-
  Plain mathematics for the law ReadBrackets: brackets around a source change nothing; no program in it.
-/
namespace Go.Proofs.YtlbdocdjijhkbaaGreatDoor
open Go.RowKit

theorem lex_round (l : List UInt8) : lexL (40 :: l) = ⟨6, [40], 0, 1⟩ := rfl
theorem cut_close (o : Nat) : cutL [41] o false = .good [⟨6, [41], 0, o⟩, ⟨9, [], 0, o + 1⟩] := by
  have h0 : cutL [41] 0 false = .good [⟨6, [41], 0, 0⟩, ⟨9, [], 0, 1⟩] := by kernel_rfl
  have h1 := cutL_shift [41] o 0 false
  rw [Nat.zero_add, h0] at h1
  rw [h1]
  show Out.good [⟨6, [41], 0, 0 + o⟩, ⟨9, [], 0, 1 + o⟩] = _
  rw [Nat.zero_add, Nat.add_comm 1 o]
theorem cut_round2 {src : List UInt8} {T : List Tok} (hc : cutL src 0 false = .good T) :
    cutL (40 :: (src ++ 10 :: [41])) 0 false = .good (⟨6, [40], 0, 0⟩ :: (T.dropLast.map (Tok.sh 1) ++ [⟨6, [41], 0, src.length + 2⟩, ⟨9, [], 0, src.length + 3⟩])) := by
  rw [cutL_step _ _ _ (by simp), lex_round, if_neg (by decide), if_neg (by decide)]
  show (cutL (src ++ 10 :: [41]) (0 + 1) false).pre [⟨6, [40], 0, 0⟩] = _
  rw [cutL_shift, cut_join [41] hc, cut_close]
  show Out.good (_ :: ((T.dropLast ++ [_, _]).map (Tok.sh 1))) = _
  rw [List.map_append]
  show Out.good (_ :: (_ ++ [⟨6, [41], 0, 0 + src.length + 1 + 1⟩, ⟨9, [], 0, 0 + src.length + 1 + 1 + 1⟩])) = _
  rw [Nat.zero_add]
theorem fine_split : ∀ {T : List Tok}, Fine T → ∃ e, e.kind = 9 ∧ T = T.dropLast ++ [e] ∧ ∀ t ∈ T.dropLast, t.kind ≠ 9
  | _, .stop t _ h => ⟨t, h, rfl, fun _ hx => by cases hx⟩
  | _, .cons t l _ h9 hl => by
    obtain ⟨e, h1, h2, h3⟩ := fine_split hl
    have hp := hl.pos
    cases l with
    | nil => exact absurd hp (by decide)
    | cons u l =>
      refine ⟨e, h1, ?_, ?_⟩
      · rw [List.dropLast_cons_cons, List.cons_append, ← h2]
      · intro x hx
        rw [List.dropLast_cons_cons] at hx
        rcases List.mem_cons.1 hx with rfl | hx
        · exact h9
        · exact h3 x hx
theorem sim_map {d : Nat} {e e' : Tok} {Z Z' : List Tok} : ∀ (l : List Tok), (∀ t ∈ l, t.kind ≠ 8 ∧ t.kind ≠ 9) → Sim d e e' Z Z' (l ++ e :: Z) (l.map (Tok.sh d) ++ e' :: Z')
  | [], _ => .stop
  | t :: l, h => .cons t _ _ (h t (.head _)).1 (h t (.head _)).2 (sim_map l (fun x hx => h x (.tail _ hx)))
theorem sim_at9 {d : Nat} {e e' : Tok} {Z Z' ts us : List Tok} (h : Sim d e e' Z Z' ts us) (h9 : (fstT ts).kind = 9) : us = e' :: Z' := by
  cases h with
  | stop => rfl
  | cons t l l' _ h2 _ => exact absurd h9 h2
theorem sim_no8 {d : Nat} {e e' : Tok} {Z Z' ts us : List Tok} (h : Sim d e e' Z Z' ts us) (he : e.kind ≠ 8) : (fstT ts).kind ≠ 8 := by
  cases h with
  | stop => exact he
  | cons t l l' h1 _ _ => exact h1
theorem queryT_is {T : List Tok} {t : Tm} {ns : Nms} (h : queryT T = .ok (t, ns)) : ∃ ts, termR T.length 1200 T [] = .ok t ts ns ∧ t.deep ≤ 60 ∧ ((fstT ts).kind = 8 ∧ (fstT ts.tail).kind = 9 ∨ (fstT ts).kind = 9) := by
  unfold queryT wholeR at h
  cases hx : termR T.length 1200 T [] with
  | bad o => rw [hx] at h; cases h
  | ok t1 ts ns1 =>
    rw [hx] at h
    dsimp only at h
    rw [if_neg (fun c => by cases c.2)] at h
    by_cases hd : 60 < t1.deep
    · rw [if_pos hd] at h; cases h
    rw [if_neg hd] at h
    dsimp only at h
    by_cases h8 : (fstT ts).kind = 8
    · rw [if_pos h8] at h
      split at h
      · rename_i h9
        injection h with h; injection h with h1 h2
        subst h1 h2
        exact ⟨ts, rfl, by omega, .inl ⟨h8, h9⟩⟩
      · cases h
    · rw [if_neg h8] at h
      split at h
      · rename_i h9
        injection h with h; injection h with h1 h2
        subst h1 h2
        exact ⟨ts, rfl, by omega, .inr h9⟩
      · cases h
theorem query_brackets {src : List UInt8} {T : List Tok} {t : Tm} {ns : Nms} (hl : src.length ≤ 4000) (hc : cutL src 0 false = .good T) (h8 : ∀ x ∈ T, x.kind ≠ 8) (hq : queryT T = .ok (t, ns)) :
    queryL (40 :: (src ++ 10 :: [41])) = .ok (t, ns) := by
  have hf := cut_fine (by omega) hc
  have hc2 := cut_round2 hc
  have hlen2 : (40 :: (src ++ 10 :: [41])).length ≤ 4096 := by simp; omega
  have hf2 := cut_fine hlen2 hc2
  obtain ⟨e, he9, hT, hno9⟩ := fine_split hf
  obtain ⟨ts, hr, hd, hend⟩ := queryT_is hq
  unfold queryL cutThen
  rw [if_neg (by omega), hc2]
  show queryT (⟨6, [40], 0, 0⟩ :: (T.dropLast.map (Tok.sh 1) ++ [⟨6, [41], 0, src.length + 2⟩, ⟨9, [], 0, src.length + 3⟩])) = _
  have hends : EndsT e ⟨6, [41], 0, src.length + 2⟩ := ⟨.inr he9, .inr (.inr ⟨rfl, rfl⟩)⟩
  have hsim : Sim 1 e ⟨6, [41], 0, src.length + 2⟩ [] [⟨9, [], 0, src.length + 3⟩] T (T.dropLast.map (Tok.sh 1) ++ [⟨6, [41], 0, src.length + 2⟩, ⟨9, [], 0, src.length + 3⟩]) := by
    have h1 := sim_map (d := 1) (e := e) (e' := ⟨6, [41], 0, src.length + 2⟩) (Z := []) (Z' := [⟨9, [], 0, src.length + 3⟩]) T.dropLast (fun x hx => ⟨h8 x ((List.dropLast_sublist T).subset hx), hno9 x hx⟩)
    rwa [← hT] at h1
  generalize hU : (T.dropLast.map (Tok.sh 1) ++ [⟨6, [41], 0, src.length + 2⟩, ⟨9, [], 0, src.length + 3⟩]) = U at *
  have hfU : Fine U := (hf2.tail (by show (6 : Int) ≠ 9; decide)).1
  obtain ⟨us, hru, hsu⟩ := sim_term hends T.length U.length 1200 T U [] t ts ns (Nat.le_refl _) (Nat.le_refl _) hf hfU (Nat.zero_le _) hsim hr
  have h9 : (fstT ts).kind = 9 := by
    rcases hend with ⟨h, _⟩ | h
    · exact absurd h (sim_no8 hsu (by rw [he9]; decide))
    · exact h
  have hus := sim_at9 hsu h9
  subst hus
  unfold queryT wholeR
  have hterm : termR (⟨6, [40], 0, 0⟩ :: U).length 1200 (⟨6, [40], 0, 0⟩ :: U) [] = .ok t [⟨9, [], 0, src.length + 3⟩] ns := by
    rw [List.length_cons]
    unfold termR
    have hb : beginR (termR U.length) 1200 (⟨6, [40], 0, 0⟩ :: U) [] = .ok (t, 0) [⟨9, [], 0, src.length + 3⟩] ns := by
      unfold beginR
      rw [fstT_cons, if_neg (by decide), if_neg (by decide), if_pos (.inl rfl)]
      unfold bracketR
      rw [fstT_cons, if_pos (by decide)]
      unfold closeR
      rw [List.tail_cons, hru]
      rfl
    rw [hb]
    rfl
  rw [hterm]
  dsimp only
  rw [if_neg (fun c => by cases c.2), if_neg (by omega)]
  rfl
end Go.Proofs.YtlbdocdjijhkbaaGreatDoor

/-
  Plain mathematics for the law ReadJoins: two programs with a line's end between are read as both; no program in it.
-/
namespace Go.Proofs.YtlbdocdjijhkbaaGreatDoor
open Go.RowKit

/-- What a row of tokens is read as, without fuel. -/
inductive ProgR : List Tok → List Tm → Prop where
  | nil (ts : List Tok) : (fstT ts).kind = 9 → ProgR ts []
  | cons (ts ts' : List Tok) (t : Tm) (ns : Nms) (L : List Tm) : (fstT ts).kind ≠ 9 → wholeR true ts = .ok t ts' ns → ProgR ts' L → ProgR ts (t :: L)
theorem progR_of : ∀ (f : Nat) (l : List Tm) (ts : List Tok) (L' : List Tm), Fine ts → ts.length ≤ f → progGo f l ts = .ok L' → ∃ L, L' = l ++ L ∧ ProgR ts L
  | 0, l, ts, L', hf, hl, h => absurd hf.pos (by omega)
  | f + 1, l, ts, L', hf, hl, h => by
    unfold progGo at h
    split at h
    · rename_i h9
      injection h with h; subst h
      exact ⟨[], by simp, .nil _ h9⟩
    · rename_i h9
      cases hx : wholeR true ts with
      | syn o => rw [hx] at h; cases h
      | deep o => rw [hx] at h; cases h
      | ok t ts' ns =>
        rw [hx] at h
        obtain ⟨a1, a2, _, _⟩ := wholeR_left hf hx
        have := t.size_pos
        obtain ⟨L, h1, h2⟩ := progR_of f _ ts' L' a1 (by omega) h
        exact ⟨t :: L, by rw [h1, List.append_assoc]; rfl, .cons _ _ _ _ _ h9 hx h2⟩
theorem progGo_of : ∀ (f : Nat) (l : List Tm) (ts : List Tok) (L : List Tm), Fine ts → ts.length ≤ f → ProgR ts L → progGo f l ts = .ok (l ++ L)
  | 0, l, ts, L, hf, hl, h => absurd hf.pos (by omega)
  | f + 1, l, ts, L, hf, hl, h => by
    unfold progGo
    cases h with
    | nil _ h9 => rw [if_pos h9, List.append_nil]
    | cons _ ts' t ns L h9 hx hL =>
      rw [if_neg h9, hx]
      obtain ⟨a1, a2, _, _⟩ := wholeR_left hf hx
      have := t.size_pos
      dsimp only
      rw [progGo_of f _ ts' L a1 (by omega) hL, List.append_assoc]
      rfl
/-- The first end of a row of tokens. -/
theorem fine_end : ∀ {ts : List Tok}, Fine ts → ∃ p e Z, ts = p ++ e :: Z ∧ (e.kind = 8 ∨ e.kind = 9) ∧ ∀ t ∈ p, t.kind ≠ 8 ∧ t.kind ≠ 9
  | _, .stop t _ h => ⟨[], t, [], rfl, .inr h, fun _ hx => by cases hx⟩
  | _, .cons t l _ h9 hl => by
    by_cases h8 : t.kind = 8
    · exact ⟨[], t, l, rfl, .inl h8, fun _ hx => by cases hx⟩
    obtain ⟨p, e, Z, h1, h2, h3⟩ := fine_end hl
    refine ⟨t :: p, e, Z, by rw [h1]; rfl, h2, fun x hx => ?_⟩
    rcases List.mem_cons.1 hx with rfl | hx
    · exact ⟨h8, h9⟩
    · exact h3 x hx
theorem wholeT_is {ts ts1 : List Tok} {t : Tm} {ns : Nms} (h : wholeR true ts = .ok t ts1 ns) : ∃ ts', termR ts.length 1200 ts [] = .ok t ts' ns ∧ (fstT ts').kind = 8 ∧ ts1 = ts'.tail ∧ t.deep ≤ 60 := by
  unfold wholeR at h
  cases hx : termR ts.length 1200 ts [] with
  | bad o => rw [hx] at h; cases h
  | ok t1 ts' ns1 =>
    rw [hx] at h
    dsimp only at h
    by_cases h8 : (fstT ts').kind = 8
    · rw [if_neg (fun c => c.1 h8), if_pos h8] at h
      split at h
      · cases h
      · injection h with h1 h2 h3
        subst h1 h2 h3
        exact ⟨ts', rfl, h8, rfl, by omega⟩
    · rw [if_pos ⟨h8, rfl⟩] at h; cases h
theorem sim_at8 {d : Nat} {e e' : Tok} {Z Z' ts us : List Tok} (h : Sim d e e' Z Z' ts us) (h8 : (fstT ts).kind = 8) : ts = e :: Z ∧ us = e' :: Z' := by
  cases h with
  | stop => exact ⟨rfl, rfl⟩
  | cons t l l' h1 _ _ => exact absurd h8 h1
/-- A term with its end is read alike, whatever stands behind. -/
theorem whole_sim (d : Nat) {ts Z1 : List Tok} {t : Tm} {ns : Nms} (hf : Fine ts) (h : wholeR true ts = .ok t Z1 ns) : ∃ p e, ts = p ++ e :: Z1 ∧ e.kind = 8 ∧ ∀ Z', Fine (p.map (Tok.sh d) ++ e.sh d :: Z') → wholeR true (p.map (Tok.sh d) ++ e.sh d :: Z') = .ok t Z' ns := by
  obtain ⟨p, e, Z, hT, he, hp⟩ := fine_end hf
  obtain ⟨ts', hr, h8, h1, hd⟩ := wholeT_is h
  have hends : EndsT e (e.sh d) := ⟨he, by rcases he with h | h; exact .inl h; exact .inr (.inl h)⟩
  have key : ∀ Z', Fine (p.map (Tok.sh d) ++ e.sh d :: Z') → ∃ us', termR (p.map (Tok.sh d) ++ e.sh d :: Z').length 1200 (p.map (Tok.sh d) ++ e.sh d :: Z') [] = .ok t us' ns ∧ Sim d e (e.sh d) Z Z' ts' us' := fun Z' hf' => by
    have hsim : Sim d e (e.sh d) Z Z' ts (p.map (Tok.sh d) ++ e.sh d :: Z') := by rw [hT]; exact sim_map p hp
    exact sim_term hends ts.length (p.map (Tok.sh d) ++ e.sh d :: Z').length 1200 ts _ [] t ts' ns (Nat.le_refl _) (Nat.le_refl _) hf hf' (Nat.zero_le _) hsim hr
  have hsim0 : ∃ us', Sim 0 e e Z Z ts' us' := by
    have hs : Sim 0 e e Z Z ts ts := by
      have := sim_map (d := 0) (e := e) (e' := e) (Z := Z) (Z' := Z) p hp
      rw [show p.map (Tok.sh 0) = p from by rw [show (Tok.sh 0) = id from rfl, List.map_id]] at this
      rwa [hT]
    obtain ⟨us', _, h2⟩ := sim_term (EndsT.mk he (by rcases he with h | h; exact .inl h; exact .inr (.inl h))) ts.length ts.length 1200 ts ts [] t ts' ns (Nat.le_refl _) (Nat.le_refl _) hf hf (Nat.zero_le _) hs hr
    exact ⟨us', h2⟩
  obtain ⟨_, hs0⟩ := hsim0
  obtain ⟨e1, _⟩ := sim_at8 hs0 h8
  have he8 : e.kind = 8 := by rw [e1] at h8; exact h8
  refine ⟨p, e, ?_, he8, fun Z' hf' => ?_⟩
  · rw [h1, e1]; exact hT
  · obtain ⟨us', h2, h3⟩ := key Z' hf'
    obtain ⟨_, h4⟩ := sim_at8 h3 h8
    subst h4
    unfold wholeR
    rw [h2]
    dsimp only
    have h8' : (fstT (e.sh d :: Z')).kind = 8 := he8
    rw [if_neg (fun c => c.1 h8'), if_neg (by omega), if_pos h8']
    rfl
theorem dropLast_at (p : List Tok) (e : Tok) (Z : List Tok) (hZ : 1 ≤ Z.length) : (p ++ e :: Z).dropLast = p ++ e :: Z.dropLast := by
  rw [List.dropLast_append_of_ne_nil (by simp)]
  cases Z with
  | nil => simp at hZ
  | cons z Z => rfl
theorem fine_cons {t : Tok} {l : List Tok} (h : Fine (t :: l)) (hl : 1 ≤ l.length) : Fine l := by
  generalize he : t :: l = x at h
  cases h with
  | stop u _ _ => injection he with _ h2; subst h2; simp at hl
  | cons u m _ _ hm => injection he with _ h2; subst h2; exact hm
theorem fine_tail_app : ∀ (p : List Tok) (Z : List Tok), Fine (p ++ Z) → 1 ≤ Z.length → Fine Z
  | [], Z, h, _ => h
  | t :: p, Z, h, hZ => fine_tail_app p Z (fine_cons h (by rw [List.length_append]; omega)) hZ
theorem prog_sim (d : Nat) {ts : List Tok} {L : List Tm} (h : ProgR ts L) : Fine ts → ∀ (U : List Tok) (M : List Tm), ProgR U M → 1 ≤ U.length → Fine (ts.dropLast.map (Tok.sh d) ++ U) → ProgR (ts.dropLast.map (Tok.sh d) ++ U) (L ++ M) := by
  induction h with
  | nil ts h9 =>
    intro hf U M hU _ _
    have : ts.dropLast = [] := by
      cases hf with
      | stop => rfl
      | cons t l _ h _ => exact absurd h9 h
    rw [this]
    exact hU
  | cons ts ts' t ns L h9 hx hL ih =>
    intro hf U M hU hU1 hfU
    obtain ⟨a1, _, _, _⟩ := wholeR_left hf hx
    obtain ⟨p, e, hT, he, hw⟩ := whole_sim d hf hx
    have hdl : ts.dropLast.map (Tok.sh d) ++ U = p.map (Tok.sh d) ++ e.sh d :: (ts'.dropLast.map (Tok.sh d) ++ U) := by
      rw [hT, dropLast_at p e ts' a1.pos, List.map_append, List.map_cons, List.append_assoc, List.cons_append]
    rw [hdl] at hfU ⊢
    have h1 := hw _ hfU
    have hf' : Fine (ts'.dropLast.map (Tok.sh d) ++ U) := by
      have := fine_tail_app (p.map (Tok.sh d) ++ [e.sh d]) (ts'.dropLast.map (Tok.sh d) ++ U) (by rw [List.append_assoc]; exact hfU) (by rw [List.length_append]; omega)
      exact this
    refine .cons _ _ t ns _ ?_ h1 (ih a1 U M hU hU1 hf')
    cases p with
    | nil => show e.kind ≠ 9; rw [he]; decide
    | cons x p =>
      show x.kind ≠ 9
      rw [hT] at h9
      exact h9
theorem prog_join {a b : List UInt8} {la lb : List Tm} (h2 : (a ++ 10 :: b).length ≤ 4096) (ha : progL a = .ok la) (hb : progL b = .ok lb) : progL (a ++ 10 :: b) = .ok (la ++ lb) := by
  have hl : a.length ≤ 4096 ∧ b.length ≤ 4096 := by rw [List.length_append, List.length_cons] at h2; omega
  unfold progL cutThen at *
  rw [if_neg (by omega)] at ha hb ⊢
  cases hca : cutL a 0 false with
  | bad o => rw [hca] at ha; cases ha
  | good Ta =>
  cases hcb : cutL b 0 false with
  | bad o => rw [hcb] at hb; cases hb
  | good Tb =>
  rw [hca] at ha
  rw [hcb] at hb
  have hfa := cut_fine hl.1 hca
  have hfb := cut_fine hl.2 hcb
  have hj := cut_join b hca
  have hsh := cutL_shift b (a.length + 1) 0 false
  rw [Nat.zero_add, hcb] at hsh
  rw [Nat.zero_add, hsh] at hj
  have hj2 : cutL (a ++ 10 :: b) 0 false = .good (Ta.dropLast ++ Tb.map (Tok.sh (a.length + 1))) := hj
  have hf := cut_fine h2 hj2
  rw [hj2]
  obtain ⟨La, e1, hpa⟩ := progR_of _ _ _ _ hfa (Nat.le_refl _) ha
  obtain ⟨Lb, e2, hpb⟩ := progR_of _ _ _ _ hfb (Nat.le_refl _) hb
  rw [List.nil_append] at e1 e2
  subst e1 e2
  obtain ⟨e, he9, hTb, _⟩ := fine_split hfb
  have hm : Tb.map (Tok.sh (a.length + 1)) = Tb.dropLast.map (Tok.sh (a.length + 1)) ++ [e.sh (a.length + 1)] := by
    have : Tb.map (Tok.sh (a.length + 1)) = (Tb.dropLast ++ [e]).map (Tok.sh (a.length + 1)) := by rw [← hTb]
    rw [this, List.map_append]; rfl
  have hfm : Fine (Tb.map (Tok.sh (a.length + 1))) := fine_tail_app _ _ hf (by rw [List.length_map]; exact hfb.pos)
  have hpb2 : ProgR (Tb.map (Tok.sh (a.length + 1))) lb := by
    have := prog_sim (a.length + 1) hpb hfb [e.sh (a.length + 1)] [] (.nil _ he9) (Nat.le_refl _) (by rw [← hm]; exact hfm)
    rw [List.append_nil, ← hm] at this
    exact this
  have h0 : Ta.dropLast.map (Tok.sh 0) = Ta.dropLast := by rw [show (Tok.sh 0) = id from rfl, List.map_id]
  have hall := prog_sim 0 hpa hfa _ _ hpb2 (by rw [List.length_map]; exact hfb.pos) (by rw [h0]; exact hf)
  rw [h0] at hall
  have := progGo_of _ [] _ _ hf (Nat.le_refl _) hall
  rw [List.nil_append] at this
  exact this
end Go.Proofs.YtlbdocdjijhkbaaGreatDoor
