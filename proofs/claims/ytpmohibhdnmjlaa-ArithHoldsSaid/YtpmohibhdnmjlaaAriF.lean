/-
  The walks of the laws ArithValues and ArithHolds.
-/
import Derived.Test.YtpmohibhdnmjlaaAriL
import Derived.Test.YtpmohibhdnmjlaaAriG
namespace Go.Proofs.Ytpmohibhdnmjlaa
open Go.RowKit

set_option maxRecDepth 100000 in
set_option maxHeartbeats 8000000 in
theorem walk_ArithValues (bs : List (Int × Tm)) (ab : Option Addr) (cb : Nat) (t : Tm) (ad : Option Addr) (cap : Nat) (w : World) (hl : bs.length ≤ cb) (hc : cb ≤ maxLen) (hb : BdsAt w (fun b => b < w.heap.size) ab bs) (hin : TmIn w t ad cap) :
    Calls Try.prog 3 #[.slice ab bs.length cb, tmv t ad cap] w fun e w' => e = .returned (.bool true) ∧ Below w.heap.size w w' := by
  have HL := Lib.hid (fun W => ari_live W)
  have HI := Lib.hid (EvB.start w t ad cap hin)
  have HBD := Lib.hid (fun W (h : Below w.heap.size w W) => hb.kept (w' := W) (Q := fun b => b < W.heap.size) (fun b _ hl => h.block b hl) fun b hb _ => Nat.lt_of_lt_of_le hb h.size)
  have HBG := Lib.hid (fun W (g : Nat) (h : Below w.heap.size w W) (ht : TArgs W (some ⟨g, 0, none⟩) [t]) => (show Calls Try.prog 8 #[.slice ab bs.length cb, .slice (some ⟨g, 0, none⟩) 1 1] W _ from law_big11 bs ab cb [t] (some ⟨g, 0, none⟩) 1 W (HBD.out W h) (Nat.le_refl 1) (by decide) ht))
  have HNO := Lib.hid (fun (h : bigA bs [t] = false) => bigA_no h)
  have HE := Lib.hid (fun W (hle : bs.length ≤ 1000000) (hz : ∀ b ∈ bs, b.2.size ≤ 5) (hts : t.size ≤ 200) (h : Below w.heap.size w W) => ua_Eval bs ab cb t ad cap W hle hl hc (fun b hb => Nat.le_trans (hz b hb) (by decide)) (Nat.le_trans hts (by decide)) (HBD.out W h) (hin.on h))
  have HR := Lib.hid (fun W (hle : bs.length ≤ 1000000) (h : Below w.heap.size w W) => r11_Eval bs ab cb t ad cap W hle (HBD.out W h) (hin.on h))
  clear hb hin
  generalize bigA bs [t] = bg at *
  generalize evD bs 60 t = r at *
  obtain ⟨v, er⟩ := r
  unfold EvO tmv at HE HR
  dsimp only at HE HR
  unfold tmv
  go_enter Try.func3, Try.ntmps3
  go_upto_region 1 with fail
  generalize w.alloc _ = w0 at *
  go_wp2_with fail
  refine (HL.out _).mono ?_; rintro e w1 ⟨rfl, hb⟩
  replace HI := Lib.hid (HI.out.on hb)
  clear hb HL
  obtain ⟨c0, c1, c2, c3, _⟩ := cellsT HI.out.1
  go_wp2_with fail
  have HR1 := Lib.hid (rowA1 HI.out.2.1 #[.int .i64 t.kind, .string t.name, .int .i64 t.n, .slice ad t.args.length cap] rfl)
  replace HI := Lib.hid (HI.out.on ((Below.refl _ w1).alloc (Nat.le_refl _) (.cells #[.int .i64 t.kind, .string t.name, .int .i64 t.n, .slice ad t.args.length cap] 25)))
  generalize w1.alloc _ = w1a at *
  clear c0 c1 c2 c3
  refine (HBG.out _ _ HI.out.2.2 HR1.out).mono ?_; rintro e w2 ⟨rfl, hb2⟩
  replace HI := Lib.hid (HI.out.on hb2)
  clear hb2 HR1 HBG
  cases bg with
  | true =>
    go_wp2_with fail
    go_ret
    exact ⟨rfl, HI.out.2.2⟩
  | false =>
    obtain ⟨hn1, hn2, hn3⟩ := HNO.out rfl
    have hle : bs.length ≤ 1000000 := by omega
    have HE1 := Lib.hid (HE.out _ hle hn2 (hn3 t (by simp)) HI.out.2.2)
    have HR1 := Lib.hid (fun W h => HR.out W hle h)
    clear hn1 hn2 hn3 HE HR HNO hle
    obtain ⟨c0, c1, c2, c3, _⟩ := cellsT HI.out.1
    go_wp2_with fail
    refine HE1.out.mono ?_; rintro e w3 ⟨rfl, hb3⟩
    replace HI := Lib.hid (HI.out.on hb3)
    clear hb3 c0 c1 c2 c3 HE1
    obtain ⟨c0, c1, c2, c3, _⟩ := cellsT HI.out.1
    go_wp2_with fail
    refine (HR1.out _ HI.out.2.2).mono ?_; rintro e w4 ⟨rfl, hb4⟩
    replace HI := Lib.hid (HI.out.on hb4)
    clear hb4 c0 c1 c2 c3 HR1
    have e1 : (v == v) = true := beq_self_eq_true v
    have e2 : (er == er) = true := beq_self_eq_true er
    go_wp2_with fail
    go_ret
    exact ⟨rfl, HI.out.2.2⟩

set_option maxRecDepth 100000 in
set_option maxHeartbeats 8000000 in
theorem walk_ArithHolds (bs : List (Int × Tm)) (ab : Option Addr) (cb : Nat) (s : ByteArray) (x y : Tm) (ax : Option Addr) (cx : Nat) (ay : Option Addr) (cy : Nat) (w : World) (hl : bs.length ≤ cb) (hc : cb ≤ maxLen) (hb : BdsAt w (fun b => b < w.heap.size) ab bs) (hs : s.size ≤ maxLen) (hx : TmIn w x ax cx) (hy : TmIn w y ay cy) :
    Calls Try.prog 4 #[.slice ab bs.length cb, .string s, tmv x ax cx, tmv y ay cy] w fun e w' => e = .returned (.bool true) ∧ Below w.heap.size w w' := by
  have HL := Lib.hid (fun W => ari_live W)
  have HI := Lib.hid (two_boxes w x ax cx y ay cy)
  have HXN := Lib.hid (fun W (h : Below w.heap.size w W) => hx.on h)
  have HYN := Lib.hid (fun W (h : Below w.heap.size w W) => hy.on h)
  have HBD := Lib.hid (fun W (h : Below w.heap.size w W) => hb.kept (w' := W) (Q := fun b => b < W.heap.size) (fun b _ hl => h.block b hl) fun b hb _ => Nat.lt_of_lt_of_le hb h.size)
  have HBG := Lib.hid (fun W (g : Nat) (h : Below w.heap.size w W) (ht : TArgs W (some ⟨g, 0, none⟩) [x, y]) => (show Calls Try.prog 8 #[.slice ab bs.length cb, .slice (some ⟨g, 0, none⟩) 2 2] W _ from law_big11 bs ab cb [x, y] (some ⟨g, 0, none⟩) 2 W (HBD.out W h) (Nat.le_refl 2) (by decide) ht))
  have HNO := Lib.hid (fun (h : bigA bs [x, y] = false) => bigA_no h)
  have HE := Lib.hid (fun W (hle : bs.length ≤ 1000000) (hz : ∀ b ∈ bs, b.2.size ≤ 5) (hxs : x.size ≤ 200) (hys : y.size ≤ 200) (h : Below w.heap.size w W) => ua_Holds bs ab cb s x y ax cx ay cy W hle hl hc (fun b hb => Nat.le_trans (hz b hb) (by decide)) (Nat.le_trans hxs (by decide)) (Nat.le_trans hys (by decide)) hs (HBD.out W h) (hx.on h) (hy.on h))
  have HR := Lib.hid (fun W (hle : bs.length ≤ 1000000) (h : Below w.heap.size w W) => r11_Holds bs ab cb s x y ax cx ay cy W hle (HBD.out W h) (hx.on h) (hy.on h))
  clear hb hx hy hs
  generalize bigA bs [x, y] = bg at *
  generalize cmpA s (evD bs 60 x) (evD bs 60 y) = r at *
  obtain ⟨v, er⟩ := r
  unfold tmv at HE HR
  dsimp only at HE HR
  unfold tmv
  go_enter Try.func4, Try.ntmps4
  go_upto_region 1 with fail
  generalize (w.alloc _).alloc _ = w0 at *
  go_wp2_with fail
  refine (HL.out _).mono ?_; rintro e w1 ⟨rfl, hb⟩
  replace HI := Lib.hid (HI.out.on hb)
  clear hb HL
  obtain ⟨c0, c1, c2, c3, _⟩ := cellsT HI.out.1
  obtain ⟨d0, d1, d2, d3, _⟩ := cellsT HI.out.2.1
  go_wp2_with fail
  have HR1 := Lib.hid (rowA2 (HXN.out _ HI.out.2.2) (HYN.out _ HI.out.2.2) #[.int .i64 x.kind, .string x.name, .int .i64 x.n, .slice ax x.args.length cx, .int .i64 y.kind, .string y.name, .int .i64 y.n, .slice ay y.args.length cy] rfl)
  replace HI := Lib.hid (HI.out.on ((Below.refl _ w1).alloc (Nat.le_refl _) (.cells #[.int .i64 x.kind, .string x.name, .int .i64 x.n, .slice ax x.args.length cx, .int .i64 y.kind, .string y.name, .int .i64 y.n, .slice ay y.args.length cy] 25)))
  generalize w1.alloc _ = w1a at *
  clear c0 c1 c2 c3 d0 d1 d2 d3
  refine (HBG.out _ _ HI.out.2.2 HR1.out).mono ?_; rintro e w2 ⟨rfl, hb2⟩
  replace HI := Lib.hid (HI.out.on hb2)
  clear hb2 HR1 HBG
  cases bg with
  | true =>
    go_wp2_with fail
    go_ret
    exact ⟨rfl, HI.out.2.2⟩
  | false =>
    obtain ⟨hn1, hn2, hn3⟩ := HNO.out rfl
    have hle : bs.length ≤ 1000000 := by omega
    have HE1 := Lib.hid (HE.out _ hle hn2 (hn3 x (by simp)) (hn3 y (by simp)) HI.out.2.2)
    have HR1 := Lib.hid (fun W h => HR.out W hle h)
    clear hn1 hn2 hn3 HE HR HNO hle
    obtain ⟨c0, c1, c2, c3, _⟩ := cellsT HI.out.1
    obtain ⟨d0, d1, d2, d3, _⟩ := cellsT HI.out.2.1
    go_wp2_with fail
    refine HE1.out.mono ?_; rintro e w3 ⟨rfl, hb3⟩
    replace HI := Lib.hid (HI.out.on hb3)
    clear hb3 c0 c1 c2 c3 d0 d1 d2 d3 HE1
    obtain ⟨c0, c1, c2, c3, _⟩ := cellsT HI.out.1
    obtain ⟨d0, d1, d2, d3, _⟩ := cellsT HI.out.2.1
    go_wp2_with fail
    refine (HR1.out _ HI.out.2.2).mono ?_; rintro e w4 ⟨rfl, hb4⟩
    replace HI := Lib.hid (HI.out.on hb4)
    clear hb4 c0 c1 c2 c3 d0 d1 d2 d3 HR1
    have e1 : (v == v) = true := beq_self_eq_true v
    have e2 : (er == er) = true := beq_self_eq_true er
    go_wp2_with fail
    go_ret
    exact ⟨rfl, HI.out.2.2⟩
end Go.Proofs.Ytpmohibhdnmjlaa
