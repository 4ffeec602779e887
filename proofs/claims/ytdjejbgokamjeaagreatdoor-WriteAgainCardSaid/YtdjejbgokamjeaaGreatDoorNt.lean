import Derived.Test.YtdjejbgokamjeaaGreatDoorCharDJ
import Derived.Deep.AppendLies
import Derived.Test.YtdjejbgokamjeaaGreatDoorCharRef
import Derived.Test.YtdjejbgokamjeaaGreatDoorShelf3
import Derived.Test.YtdjejbgokamjeaaGreatDoorTkM
import Derived.Lib.AppendIntMem
import Derived.Test.YtdjejbgokamjeaaGreatDoorTermMk
import Derived.Test.YtdjejbgokamjeaaGreatDoorTermMR
import Derived.Deep.RegionHeld3
import Derived.Test.YtdjejbgokamjeaaGreatDoorTermDevAB
namespace Go.Proofs.YtdjejbgokamjeaaGreatDoor
open Go.RowKit
structure Grew (w w' : World) (v v' : Value) : Prop where
 grown : w.grownBy w' v.ownBlock
 lies : v'.ownBlock = v.ownBlock ∨ ∃ g, v'.ownBlock = some g ∧ w.heap.size ≤ g
theorem Grew.trans {a b c : World} {u v x : Value} (h : Grew a b u v) (k : Grew b c v x) : Grew a c u x := by
 have hs := h.grown.size;refine ⟨⟨k.grown.os.trans h.grown.os, k.grown.tape.trans h.grown.tape, k.grown.output.trans h.grown.output, Nat.le_trans hs k.grown.size, fun j hj hn => ?_⟩, ?_⟩
 · refine (k.grown.block j (by omega) ?_).trans (h.grown.block j hj hn);rcases h.lies with e | ⟨g, e, hg⟩
   · rw [e]; exact hn
   · rw [e]; intro e2; have := Option.some.inj e2; omega
 · rcases k.lies with e | ⟨g, e, hg⟩
   · rw [e]; exact h.lies
   · exact .inr ⟨g, e, by omega⟩
theorem Grew.below {a b : World} (h : Below a.heap.size a b) (v : Value) : Grew a b v v := ⟨⟨h.os, h.tape, h.output, h.size, fun j hj _ => h.block j hj⟩, .inl rfl⟩
theorem Grew.all {B : Nat} {w0 a b : World} {u v : Value} (h0 : Below B w0 a) (h : Grew a b u v) (hB : B ≤ w0.heap.size) (hu : ∀ k, u.ownBlock = some k → B ≤ k) : Below B w0 b :=
 h0.grown h.grown (Nat.le_trans hB h0.size) hu
theorem Grew.keep {a b : World} {u v : Value} (h : Grew a b u v) {k : Nat} (hk : k < a.heap.size) (hn : some k ≠ u.ownBlock) : b.heap[k]? = a.heap[k]? := h.grown.block k hk hn
def Tab (w : World) : Prop := Lib.TabIs Tryz.prog w "internal/strconv.uint64pow10" .u64 Lib.pow10Tab
theorem Tab.on {w w' : World} (h : Tab w) (hb : Below w.heap.size w w') : Tab w' := Lib.tabBelow_of_tabIs h w' hb
structure AllT (w : World) : Prop where
 u : Tabs w
 p : Tab w
theorem AllT.on {w w' : World} (h : AllT w) (hb : Below w.heap.size w w') : AllT w' := ⟨h.u.on hb, h.p.on hb⟩
theorem num_Text (a : Int) (w : World) (ha : In64 a) (ht : Tab w) :
 Calls Tryz.prog 43 #[.int .i64 a] w fun e w' => e = .returned (.string ⟨(Lib.itoa a).toArray⟩) ∧ Below w.heap.size w w' := by
 go_enter Tryz.func43, Tryz.ntmps43;go_wp2_with (go_at_call 63; refine (Tryz.strconv_FormatInt_10 _ ha.1 ha.2 _ ht).mono ?_; rintro e w' ⟨rfl, k, os, rfl⟩);go_ret;exact ⟨rfl, Lib.below_grow _ w (Nat.le_refl _) k os⟩
def LaidOut (B : Nat) (w : World) (v : Value) (l : List UInt8) (e : Ending) (w' : World) : Prop := ∃ v', e = .returned v' ∧ OwnBytes B w' v' l ∧ Grew w w' v v'
theorem Grew.on {a b c : World} {u v : Value} (h : Grew a b u v) (hb : Below b.heap.size b c) : Grew a c u v := h.trans (Grew.below hb v)
theorem OwnBytes.far {B : Nat} {w : World} {v : Value} {l : List UInt8} (h : OwnBytes B w v l) : ∀ k, v.ownBlock = some k → B ≤ k ∧ k < w.heap.size := World.ownsRow.lt h
theorem OwnBytes.ne {B : Nat} {w : World} {v : Value} {l : List UInt8} (h : OwnBytes B w v l) {k : Nat} (hk : w.heap.size ≤ k ∨ k < B) : some k ≠ v.ownBlock := fun e => by
 have := h.far k e.symm; omega
theorem Grew.ne {a b : World} {u v : Value} (h : Grew a b u v) {k : Nat} (hk : k < a.heap.size) (hn : some k ≠ u.ownBlock) : some k ≠ v.ownBlock := by
 rcases h.lies with e | ⟨g, e, hg⟩
 · rw [e]; exact hn
 · rw [e]; intro e2; have := Option.some.inj e2; omega
def pre (l : List Tm) (k : Nat) : List UInt8 := if k = 0 then [] else 40 :: (Tm.commas (l.take k)).drop 1
def betw (k : Nat) : UInt8 := if k = 0 then 40 else 44
theorem TArgsP.get {w : World} {P : Nat → Prop} {b o : Nat} {ts : List Tm} (h : TArgsP w P (some ⟨b, o, none⟩) ts) (i : Nat) (hi : i < ts.length) :
 ∃ ad cap, w.cell? ⟨b, o + i * 4, none⟩ = some (.int .i64 (ts[i]'hi).kind) ∧ w.cell? ⟨b, o + i * 4 + 1, none⟩ = some (.string (ts[i]'hi).name) ∧ w.cell? ⟨b, o + i * 4 + 2, none⟩ = some (.int .i64 (ts[i]'hi).n) ∧
  w.cell? ⟨b, o + i * 4 + 3, none⟩ = some (.slice ad (ts[i]'hi).args.length cap) ∧ TmP w P (ts[i]'hi) ad cap := by
 induction i generalizing o ts with
 | zero =>
  rw [Nat.zero_mul, Nat.add_zero];cases h with
  | nil => cases hi
  | cons _ _ k n nm l ts ad cap hp c0 c1 c2 c3 hk hn hm hl hc ha _ => exact ⟨ad, cap, c0, c1, c2, c3, ⟨hk, hn, hm, hl, hc, ha⟩⟩
 | succ i ih =>
  cases h with
  | nil => cases hi
  | cons _ _ k n nm l ts ad cap hp c0 c1 c2 c3 hk hn hm hl hc ha hr =>
   have h9 := ih hr (by simpa using hi);rw [show o + (i + 1) * 4 = o + 4 + i * 4 by omega];exact h9
theorem TArgsP.addr' {w : World} {P : Nat → Prop} {ad : Option Addr} {ts : List Tm} (h : TArgsP w P ad ts) (hp : 0 < ts.length) : ∃ b o, ad = some ⟨b, o, none⟩ := by
 cases h with
 | nil => cases hp
 | cons b o => exact ⟨b, o, rfl⟩
theorem TmP.onB {w w' : World} {B : Nat} {t : Tm} {ad : Option Addr} {cap : Nat} (h : TmP w (fun b => b < B) t ad cap) (hb : Below B w w') : TmP w' (fun b => b < B) t ad cap := h.kept (fun b hp _ => hb.block b hp) (fun _ h _ => h)
theorem TArgsP.onB {w w' : World} {B : Nat} {ts : List Tm} {ad : Option Addr} (h : TArgsP w (fun b => b < B) ad ts) (hb : Below B w w') : TArgsP w' (fun b => b < B) ad ts := h.kept (fun b hp _ => hb.block b hp) (fun _ h _ => h)
theorem targs_in {w : World} {ad : Option Addr} {ts : List Tm} (h : TArgs w ad ts) : TArgsP w (fun b => b < w.heap.size) ad ts := by
 induction h with
 | nil ad => exact .nil ad
 | cons b o k n nm l ts ad cap c0 c1 c2 c3 hk hn hm hl hc _ _ ih1 ih2 => exact .cons b o k n nm l ts ad cap (World.block_lt_of_cell? w ⟨b, o, none⟩ c0) c0 c1 c2 c3 hk hn hm hl hc ih1 ih2
theorem cellx4 {W : World} {q t : Nat} {v0 v1 v2 v3 : Value} (h : W.heap[q]? = some (.cells #[v0, v1, v2, v3] t (0, 0))) : W.cell? ⟨q, 0, none⟩ = some v0 ∧ W.cell? ⟨q, 1, none⟩ = some v1 ∧ W.cell? ⟨q, 2, none⟩ = some v2 ∧ W.cell? ⟨q, 3, none⟩ = some v3 := by
 simp [World.cell?, h]
end Go.Proofs.YtdjejbgokamjeaaGreatDoor
