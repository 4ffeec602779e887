import Derived.Test.YtinefdlkajnomaaGreatDoorCl4
import Derived.Test.YtinefdlkajnomaaGreatDoorClauseW
import Derived.Test.YtinefdlkajnomaaGreatDoorClauseX
import Derived.Test.YtinefdlkajnomaaGreatDoorCl5
namespace Go.Proofs.YtinefdlkajnomaaGreatDoor
open Go.RowKit
theorem ClP.onY {w w' : World} {P : Nat -> Prop} {c : Cl} {ad bd : Option Addr} {cap bc : Nat} (h : ClP w P c ad cap bd bc) (hb : Below w.heap.size w w') : ClP w' P c ad cap bd bc := h.kept (fun b _ hl => hb.block b hl) fun _ h _ => h
theorem sizes_many : ∀ (l : List Tm), (∀ t ∈ l, t.size <= 3000) -> Tm.sizes l <= 3000 * l.length
 | [], _ => Nat.le_refl _
 | t :: l, h => by
  have h1 := h t (.head _);have h2 := sizes_many l fun x hx => h x (.tail _ hx);rw [Tm.sizes_cons, List.length_cons]; omega
theorem Cl.tm_size (C : Cl) : C.tm.size <= 2 + C.head.size + 2 * Tm.sizes C.body := by
 unfold Cl.tm;split
 · omega
 · have := conj_size C.body;rw [Tm.size_eq];show 1 + (C.head.size + ((conj C.body).size + 0)) <= _
   omega
def Cl.few (C : Cl) : Prop := C.head.size <= 3000 /\ Tm.sizes C.body <= 300000 /\ C.body.length <= 100
set_option maxRecDepth 100000 in
set_option maxHeartbeats 8000000 in
theorem walk_ClauseFinds (cs : List Cl) (ad : Option Addr) (cap : Nat) (s : ByteArray) (n : Int) (w : World) (hl : cs.length <= cap) (hc : cap <= maxLen) (hlen : cs.length <= 10000000000000) (h : ClsAt w (fun b => b < w.heap.size) ad cs) (hT : TabsT w) :
 Calls Tryz.prog 6 #[.slice ad cs.length cap, .string s, .int .i64 n] w fun e w' => e = .returned (.bool true) /\ Below w.heap.size w w' := by
 have HL := Lib.hid (cl_live w hT);have HC := Lib.hid (fun W (hb : Below w.heap.size w W) => (h.kept (w' := W) (Q := fun b => b < w.heap.size) (fun b hb' _ => hb.block b hb') (fun _ h _ => h)));have HF1 := Lib.hid (fun W (hb : Below w.heap.size w W) => cl_Find cs s n ad cap W (fun b => b < w.heap.size) (fun b h => Nat.lt_of_lt_of_le h hb.size) hl hc hlen (h.kept (w' := W) (Q := fun b => b < w.heap.size) (fun b hb' _ => hb.block b hb') (fun _ h _ => h)));have HF2 := Lib.hid (fun W (hb : Below w.heap.size w W) => rc_Find cs s n ad cap W (fun b => b < w.heap.size) (fun b h => Nat.lt_of_lt_of_le h hb.size) hl hc hlen (h.kept (w' := W) (Q := fun b => b < w.heap.size) (fun b hb' _ => hb.block b hb') (fun _ h _ => h)));have HFL := Lib.hid (findL_len s n cs cs.length);have hcm := hc;unfold maxLen at hcm;clear h hT hc;go_enter Tryz.func6, Tryz.ntmps6;go_wp2_with fail;refine HL.out.mono ?_; rintro e w1 ⟨rfl, hb1⟩;have HB1 := Lib.hid hb1;clear hb1 HL;go_wp2_with fail;go_loopw [15] (fun iv wr => ∃ k : Nat, k <= cs.length /\ iv = .int .i64 k /\ Below w.heap.size w wr /\ Hid (∀ j (hj : j < cs.length), j < k -> cs[j].few)) (fun iv _ => cs.length - (intOf iv).toNat)
 case atStart => exact ⟨0, Nat.zero_le _, rfl, HB1.out, Lib.hid fun j _ hj => by cases hj⟩
 case round =>
  obtain ⟨k, hk, rfl, hbw, HW⟩ := hrel;have hwrs := hbw.size;by_cases hlt : k < cs.length
  · obtain ⟨b, o, a1, c1, bd, bc, rfl, hPb, hcp, x0, x1, x2, x3, x4, x5⟩ := HC.out wr hbw k hlt;have HNX : Hid (cs[k].few -> ∀ j (hj : j < cs.length), j < k + 1 -> cs[j].few) := Lib.hid (fun hf j hj hjk => by
     by_cases e : j < k
     · exact HW.out j hj e
     · obtain rfl : j = k := by omega
       exact hf)
    have HCP := Lib.hid hcp;clear hcp HW;generalize cs[k] = C at *;go_upto_region 5 with fail;generalize hwa : wr.alloc (.cells #[.int .i64 C.head.kind, .string C.head.name, .int .i64 C.head.n, .slice a1 C.head.args.length c1, .slice bd C.body.length bc, .int .i64 C.vars] 30) = wa;have hba : Below wr.heap.size wr wa := by rw [<- hwa]; exact (Below.refl _ _).alloc (Nat.le_refl _) _
    have hqa : wa.heap[wr.heap.size]? = some (.cells #[.int .i64 C.head.kind, .string C.head.name, .int .i64 C.head.n, .slice a1 C.head.args.length c1, .slice bd C.body.length bc, .int .i64 C.vars] 30 (0, 0)) := by rw [<- hwa]; exact alloc_new wr _
    have HBA := Lib.hid (hbw.trans (hba.mono hwrs));have HCA := Lib.hid (HCP.out.onY hba);have HQA := Lib.hid hqa;clear hwa hba hqa x0 x1 x2 x3 x4 x5 HCP hbw;obtain ⟨c0, c1', c2, c3, c4, c5, _⟩ := cells6 HQA.out;go_wp2_with fail;generalize hwb : wa.alloc (.cells #[.int .i64 C.head.kind, .string C.head.name, .int .i64 C.head.n, .slice a1 C.head.args.length c1] 26) = wb;have hbb : Below wa.heap.size wa wb := by rw [<- hwb]; exact (Below.refl _ _).alloc (Nat.le_refl _) _
    have HR := Lib.hid (show TArgs wb (some ⟨wa.heap.size, 0, none⟩) [C.head] from by rw [<- hwb]; exact row1L HCA.out.head.toIn _ rfl);have HBG := Lib.hid (show Calls Tryz.prog 12 #[.slice (some ⟨wa.heap.size, 0, none⟩) 1 1] wb _ from law_big [C.head] (some ⟨wa.heap.size, 0, none⟩) 1 wb (Nat.le_refl 1) (by decide) HR.out);have HBB := Lib.hid (HBA.out.trans (hbb.mono HBA.out.size));have HCB := Lib.hid (HCA.out.onY hbb);have HQB := Lib.hid (keptR hbb HQA.out);clear hwb hbb c0 c1' c2 c3 c4 c5;have HG1 := Lib.hid (bigL_one C.head);have HG2 := Lib.hid (fun (h : bigL C.body = false) => sizes_many C.body fun t ht => bigL_mem h ht);have HBC := Lib.hid (fun W (hb : TArgs W bd C.body) => law_big C.body bd bc W HCB.out.blen HCB.out.bcap hb);generalize bigL [C.head] = g1 at *;generalize bigL C.body = g2 at *;refine HBG.out.mono ?_; rintro e wc ⟨rfl, hbc⟩;have HBC1 := Lib.hid (HBB.out.trans (hbc.mono HBB.out.size));have HCC := Lib.hid (HCB.out.onY hbc);have HQC := Lib.hid (keptR hbc HQB.out);clear hbc HBG HR HBB HCB HQB HBA HCA HQA;cases g1 with
    | true =>
     go_wp2_with fail;go_ret;exact ⟨rfl, HBC1.out⟩
    | false =>
     have hh := HG1.out rfl;obtain ⟨c0, c1', c2, c3, c4, c5, _⟩ := cells6 HQC.out;go_wp2_with fail;refine (HBC.out _ HCC.out.body.all).mono ?_; rintro e wd ⟨rfl, hbd⟩;have HBD := Lib.hid (HBC1.out.trans (hbd.mono HBC1.out.size));have HQD := Lib.hid (keptR hbd HQC.out);clear hbd c0 c1' c2 c3 c4 c5 HBC;cases g2 with
     | true =>
      go_wp2_with fail;go_ret;exact ⟨rfl, HBD.out⟩
     | false =>
      have h2 := HG2.out rfl;obtain ⟨c0, c1', c2, c3, c4, c5, _⟩ := cells6 HQD.out;by_cases h3 : 100 < C.body.length
      · have h4 : decide ((100 : Int) < (C.body.length : Int)) = true := decide_eq_true (by omega);go_wp2_with fail;go_ret;exact ⟨rfl, HBD.out⟩
      · have h4 : decide ((100 : Int) < (C.body.length : Int)) = false := decide_eq_false (by omega);go_wp2_with fail;go_roundw
        case rel => exact ⟨k + 1, by omega, by go_num, HBD.out, Lib.hid (HNX.out ⟨hh, by omega, by omega⟩)⟩
        case measure => simp [intOf]; omega
  · have HFW : Hid (∀ j (hj : j < cs.length), cs[j].few) := Lib.hid (fun j hj => HW.out j hj (by omega));have HBR := Lib.hid hbw;clear HW hbw;go_wp2_with fail;go_loopw [38] (fun iv wr => ∃ k : Nat, k <= cs.length /\ iv = .int .i64 k /\ Below w.heap.size w wr) (fun iv _ => cs.length - (intOf iv).toNat)
    case atStart => exact ⟨0, Nat.zero_le _, rfl, HBR.out⟩
    case round =>
     obtain ⟨k2, hk2, rfl, hbw⟩ := hrel;have hwrs2 := hbw.size;by_cases hlt2 : k2 < cs.length
     · obtain ⟨b, o, a1, c1, bd, bc, rfl, hPb, hcp, x0, x1, x2, x3, x4, x5⟩ := HC.out wr hbw k2 hlt2;obtain ⟨f1, f2, f3⟩ := HFW.out k2 hlt2;have HCP := Lib.hid hcp;clear hcp;generalize cs[k2] = C at *;go_upto_region 11 with fail;generalize hwa : wr.alloc (.cells #[.int .i64 C.head.kind, .string C.head.name, .int .i64 C.head.n, .slice a1 C.head.args.length c1, .slice bd C.body.length bc, .int .i64 C.vars] 30) = wa;have hba : Below wr.heap.size wr wa := by rw [<- hwa]; exact (Below.refl _ _).alloc (Nat.le_refl _) _
       have hqa : wa.heap[wr.heap.size]? = some (.cells #[.int .i64 C.head.kind, .string C.head.name, .int .i64 C.head.n, .slice a1 C.head.args.length c1, .slice bd C.body.length bc, .int .i64 C.vars] 30 (0, 0)) := by rw [<- hwa]; exact alloc_new wr _
       have HBA := Lib.hid (hbw.trans (hba.mono hwrs2));have HCA := Lib.hid (HCP.out.onY hba);have HKK : Hid (∀ W, Below wa.heap.size wa W -> W.cell? ⟨wr.heap.size, 0, none⟩ = some (.int .i64 C.head.kind) /\ W.cell? ⟨wr.heap.size, 1, none⟩ = some (.string C.head.name) /\ W.cell? ⟨wr.heap.size, 2, none⟩ = some (.int .i64 C.head.n) /\ W.cell? ⟨wr.heap.size, 3, none⟩ = some (.slice a1 C.head.args.length c1) /\ W.cell? ⟨wr.heap.size, 4, none⟩ = some (.slice bd C.body.length bc) /\ W.cell? ⟨wr.heap.size, 5, none⟩ = some (.int .i64 C.vars)) := Lib.hid (fun W hb => by
        obtain ⟨c0, c1', c2, c3, c4, c5, _⟩ := cells6 (keptR hb hqa);exact ⟨c0, c1', c2, c3, c4, c5⟩)
       clear hwa hba hqa x0 x1 x2 x3 x4 x5 HCP hbw;have HT1 := Lib.hid (fun W (hb : Below wa.heap.size wa W) => cl_Term C a1 c1 bd bc W _ (HCA.out.onY hb) (by omega) (by omega));have HT2 := Lib.hid (fun W (hb : Below wa.heap.size wa W) => rc_Term C a1 c1 bd bc W _ (HCA.out.onY hb) (by omega));have htz := C.tm_size;have HSA := Lib.hid (fun W xad xcp yad ycp (h1 : TmIn W C.tm xad xcp) (h2 : TmIn W C.tm yad ycp) => ref_Same 1000000 C.tm C.tm xad yad xcp ycp W (by omega) (by omega) h1 h2);simp only [Tm.same_true rfl] at HSA
       unfold clv at HT1 HT2;generalize C.tm = x at *;clear f1 f2 f3 htz;have bD : Below wa.heap.size wa wa.drew := (Below.refl _ wa).drew;go_region_held3 (fun W => W.cell? ⟨wr.heap.size, 0, none⟩ = some (.int .i64 C.head.kind) /\ W.cell? ⟨wr.heap.size, 1, none⟩ = some (.string C.head.name) /\ W.cell? ⟨wr.heap.size, 2, none⟩ = some (.int .i64 C.head.n) /\ W.cell? ⟨wr.heap.size, 3, none⟩ = some (.slice a1 C.head.args.length c1) /\ W.cell? ⟨wr.heap.size, 4, none⟩ = some (.slice bd C.body.length bc) /\ W.cell? ⟨wr.heap.size, 5, none⟩ = some (.int .i64 C.vars))
        (first | with_reducible exact HKK.out _ bD | with_reducible exact HKK.out _ b1 | with_reducible exact HKK.out _ b2 | with_reducible exact HKK.out _ b3)
        (first
          | (go_at_call 24; (with_reducible refine (HT1.out _ bD).mono ?_); rintro e wb ⟨xad, xcp, rfl, hx, hbb⟩; unfold tmv; have b1 := bD.trans (hbb.mono bD.size); have HX := Lib.hid hx.toIn)
          | (go_at_call 25; (with_reducible refine (HT2.out _ b1).mono ?_); rintro e wc ⟨yad, ycp, rfl, hy, hbc⟩; have b2 := b1.trans (hbc.mono b1.size); have HS := Lib.hid (HSA.out wc xad xcp yad ycp (HX.out.on hbc) hy); unfold tmv at HS ⊢)
          | (go_at_call 20; (refine HS.out.mono ?_); rintro e wd ⟨rfl, hbd⟩; have b3 := b2.trans (hbd.mono b2.size)))
       have HBZ := Lib.hid (HBA.out.trans (b3.mono HBA.out.size));go_wp2_with fail;go_roundw
       case rel => exact ⟨k2 + 1, by omega, by go_num, HBZ.out⟩
       case measure => simp [intOf]; omega
     · have HBW := Lib.hid hbw;clear hbw;go_wp2_with fail;refine (HF1.out _ HBW.out).mono ?_; rintro e wa ⟨v1, rfl, hv1, hba⟩;have HBA := Lib.hid (HBW.out.trans (hba.mono HBW.out.size));go_wp2_with fail;refine (HF2.out _ HBA.out).mono ?_; rintro e wb ⟨v2, rfl, hv2, hbb⟩;have HBB := Lib.hid (HBA.out.trans (hbb.mono HBA.out.size));have HSI := Lib.hid (rc_SameInts _ v1 v2 _ _ wb (hv1.below hbb) hv2 (by have := HFL.out; omega));clear hv1 hv2 hba hbb;go_wp2_with fail;refine HSI.out.mono ?_; rintro e wc ⟨rfl, hbc⟩;have HBZ := Lib.hid (HBB.out.trans (hbc.mono HBB.out.size));clear hbc;go_wp2_with fail;go_ret;exact ⟨rfl, HBZ.out⟩
end Go.Proofs.YtinefdlkajnomaaGreatDoor
