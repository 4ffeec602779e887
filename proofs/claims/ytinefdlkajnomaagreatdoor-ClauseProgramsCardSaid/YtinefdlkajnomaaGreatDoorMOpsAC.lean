import Derived.Test.YtinefdlkajnomaaGreatDoorChecked
import Derived.Test.YtinefdlkajnomaaGreatDoorMTkM
import Derived.WalkKit
import Derived.WalkSpells
import Derived.Below
import Derived.Lib.Hide
import Derived.Deep.QuietTactic
import Derived.BigQuiet
import Derived.IntWalk
import Derived.Laws.Tables
import Derived.Deep.WholeRow
namespace Go.Proofs.YtinefdlkajnomaaGreatDoor
open Go.RowKit
set_option maxHeartbeats 20000000
theorem M4 {B:Nat} {a w:World} (h:Below B a w) (n:Nat):Below B a (w.drewN n):=⟨h.os,h.tape,h.output,h.size,h.block⟩
def Y4 (t:ByteArray) (p:Int):Int:=if t.toList== [120,102,120]||t.toList== [120,102,121]then wrap64 (p-1)else if t.toList== [121,102,120]then p else 0
def X1 (t:ByteArray) (p:Int):Int:=if t.toList== [120,102,120]||t.toList== [121,102,120]||t.toList== [102,120]then wrap64 (p-1)else if t.toList== [120,102,121]||t.toList== [102,121]then p else 0
def az (t:ByteArray) (a b c d e:Bool):Prop:=(t.toList== [120,102,120])=a/\(t.toList== [120,102,121])=b/\(t.toList== [121,102,120])=c/\(t.toList== [102,120])=d/\(t.toList== [102,121])=e
theorem toList_inj {s:ByteArray} {l:List UInt8} (h:s.toList=l):s=⟨l.toArray⟩:=by
 rw [ByteArray.toList_eq]at h;subst h;rfl
theorem kinds (t:ByteArray):t=⟨#[120,102,120]⟩\/t=⟨#[120,102,121]⟩\/t=⟨#[121,102,120]⟩\/t=⟨#[102,120]⟩\/t=⟨#[102,121]⟩\/az t false false false false false:=by
 by_cases a:t=⟨#[120,102,120]⟩
 · exact .inl a
 by_cases b:t=⟨#[120,102,121]⟩
 · exact .inr (.inl b)
 by_cases c:t=⟨#[121,102,120]⟩
 · exact .inr (.inr (.inl c))
 by_cases d:t=⟨#[102,120]⟩
 · exact .inr (.inr (.inr (.inl d)))
 by_cases g:t=⟨#[102,121]⟩
 · exact .inr (.inr (.inr (.inr (.inl g))))
 · refine .inr (.inr (.inr (.inr (.inr ⟨?_,?_,?_,?_,?_⟩))))
   · exact beq_eq_false_iff_ne.2 (fun h=>a (toList_inj h))
   · exact beq_eq_false_iff_ne.2 (fun h=>b (toList_inj h))
   · exact beq_eq_false_iff_ne.2 (fun h=>c (toList_inj h))
   · exact beq_eq_false_iff_ne.2 (fun h=>d (toList_inj h))
   · exact beq_eq_false_iff_ne.2 (fun h=>g (toList_inj h))
theorem YX:az ⟨#[120,102,120]⟩ true false false false false:=⟨by decide+kernel,by decide+kernel,by decide+kernel,by decide+kernel,by decide+kernel⟩
theorem ZX:az ⟨#[120,102,121]⟩ false true false false false:=⟨by decide+kernel,by decide+kernel,by decide+kernel,by decide+kernel,by decide+kernel⟩
theorem aZ:az ⟨#[121,102,120]⟩ false false true false false:=⟨by decide+kernel,by decide+kernel,by decide+kernel,by decide+kernel,by decide+kernel⟩
theorem is_fx:az ⟨#[102,120]⟩ false false false true false:=⟨by decide+kernel,by decide+kernel,by decide+kernel,by decide+kernel,by decide+kernel⟩
theorem is_fy:az ⟨#[102,121]⟩ false false false false true:=⟨by decide+kernel,by decide+kernel,by decide+kernel,by decide+kernel,by decide+kernel⟩
theorem M7 (c p:Int) (w:World):
 Calls Tryz.prog 131 #[.int .i64 p,.int .u8 c] w fun e w'=>e=.returned (.int .i64 (if c==120 then wrap64 (p-1)else p))/\w'=w:=by
 cases e1:(c==120)with
 |true=>
  go_enter Tryz.func131,Tryz.ntmps131;go_wp2;go_ret;exact⟨rfl,rfl⟩
 |false=>
  go_enter Tryz.func131,Tryz.ntmps131;go_wp2;go_ret;exact⟨rfl,rfl⟩
theorem ops_Left (t:ByteArray) (p:Int) (w:World):
 Calls Tryz.prog 119 #[.agg #[.int .i64 p,.string t]] w fun e w'=>e=.returned (.int .i64 (Y4 t p))/\Below w.heap.size w w':=by
 have g:=D_ (fun o:Obj=>(F_ w.heap.size w).alloc (R_ _) o);obtain⟨E,k⟩: ∃E,Y4 t p=E:=⟨_,rfl⟩;rw [k];have h:=D_ k;clear k;rcases kinds t with rfl|rfl|rfl|rfl|rfl|hk
 · obtain⟨b,c,d,i,j⟩:=YX;have a:Hid (E=wrap64 (p-1)):=D_ (h.out.symm.trans (by unfold Y4;rw [b,c,d];rfl));go_enter Tryz.func119,Tryz.ntmps119;go_wp2_with fail;go_ret;exact⟨M2 a.out.symm,g.out _⟩
 · obtain⟨b,c,d,i,j⟩:=ZX;have a:Hid (E=wrap64 (p-1)):=D_ (h.out.symm.trans (by unfold Y4;rw [b,c,d];rfl));go_enter Tryz.func119,Tryz.ntmps119;go_wp2_with fail;go_ret;exact⟨M2 a.out.symm,g.out _⟩
 · obtain⟨b,c,d,i,j⟩:=aZ;have a:Hid (E=p):=D_ (h.out.symm.trans (by unfold Y4;rw [b,c,d];rfl));go_enter Tryz.func119,Tryz.ntmps119;go_wp2_with fail;go_ret;exact⟨M2 a.out.symm,g.out _⟩
 · obtain⟨b,c,d,i,j⟩:=is_fx;have a:Hid (E=0):=D_ (h.out.symm.trans (by unfold Y4;rw [b,c,d];rfl));go_enter Tryz.func119,Tryz.ntmps119;go_wp2_with fail;go_ret;exact⟨M2 a.out.symm,g.out _⟩
 · obtain⟨b,c,d,i,j⟩:=is_fy;have a:Hid (E=0):=D_ (h.out.symm.trans (by unfold Y4;rw [b,c,d];rfl));go_enter Tryz.func119,Tryz.ntmps119;go_wp2_with fail;go_ret;exact⟨M2 a.out.symm,g.out _⟩
 · obtain⟨b,c,d,i,j⟩:=hk;have a:Hid (E=0):=D_ (h.out.symm.trans (by unfold Y4;rw [b,c,d];rfl));go_enter Tryz.func119,Tryz.ntmps119;go_wp2_with fail;go_ret;exact⟨M2 a.out.symm,g.out _⟩
theorem pX (t:ByteArray) (p:Int) (w:World):
 Calls Tryz.prog 121 #[.agg #[.int .i64 p,.string t]] w fun e w'=>e=.returned (.int .i64 (X1 t p))/\Below w.heap.size w w':=by
 have i:=D_ (fun o:Obj=>(F_ w.heap.size w).alloc (R_ _) o);obtain⟨E,k⟩: ∃E,X1 t p=E:=⟨_,rfl⟩;rw [k];have j:=D_ k;clear k;rcases kinds t with rfl|rfl|rfl|rfl|rfl|hk
 · obtain⟨b,c,d,g,h⟩:=YX;have a:Hid (E=wrap64 (p-1)):=D_ (j.out.symm.trans (by unfold X1;rw [b,c,d,g,h];rfl));go_enter Tryz.func121,Tryz.ntmps121;go_wp2_with fail;go_ret;exact⟨M2 a.out.symm,i.out _⟩
 · obtain⟨b,c,d,g,h⟩:=ZX;have a:Hid (E=p):=D_ (j.out.symm.trans (by unfold X1;rw [b,c,d,g,h];rfl));go_enter Tryz.func121,Tryz.ntmps121;go_wp2_with fail;go_ret;exact⟨M2 a.out.symm,i.out _⟩
 · obtain⟨b,c,d,g,h⟩:=aZ;have a:Hid (E=wrap64 (p-1)):=D_ (j.out.symm.trans (by unfold X1;rw [b,c,d,g,h];rfl));go_enter Tryz.func121,Tryz.ntmps121;go_wp2_with fail;go_ret;exact⟨M2 a.out.symm,i.out _⟩
 · obtain⟨b,c,d,g,h⟩:=is_fx;have a:Hid (E=wrap64 (p-1)):=D_ (j.out.symm.trans (by unfold X1;rw [b,c,d,g,h];rfl));go_enter Tryz.func121,Tryz.ntmps121;go_wp2_with fail;go_ret;exact⟨M2 a.out.symm,i.out _⟩
 · obtain⟨b,c,d,g,h⟩:=is_fy;have a:Hid (E=p):=D_ (j.out.symm.trans (by unfold X1;rw [b,c,d,g,h];rfl));go_enter Tryz.func121,Tryz.ntmps121;go_wp2_with fail;go_ret;exact⟨M2 a.out.symm,i.out _⟩
 · obtain⟨b,c,d,g,h⟩:=hk;have a:Hid (E=0):=D_ (j.out.symm.trans (by unfold X1;rw [b,c,d,g,h];rfl));go_enter Tryz.func121,Tryz.ntmps121;go_wp2_with fail;go_ret;exact⟨M2 a.out.symm,i.out _⟩
theorem ref_Left (t:ByteArray) (p:Int) (w:World):
 Calls Tryz.prog 104 #[.agg #[.int .i64 p,.string t]] w fun e w'=>e=.returned (.int .i64 (Y4 t p))/\Below w.heap.size w w':=by
 have a:=D_ (fun o:Obj=>(F_ w.heap.size w).alloc (R_ _) o);obtain⟨E,k⟩: ∃E,Y4 t p=E:=⟨_,rfl⟩;rw [k];have h:=D_ k;clear k;rcases kinds t with rfl|rfl|rfl|rfl|rfl|hk
 · obtain⟨c,d,g,i,j⟩:=YX;have b:Hid (E=wrap64 (p-1)):=D_ (h.out.symm.trans (by unfold Y4;rw [c,d,g];rfl));go_enter Tryz.func104,Tryz.ntmps104;go_wp2_with fail;go_quiet ((go_at_call 131;exact Calls.quiet_of_same (M7 _ _ _)))
   go_wp2_with fail;go_ret;exact⟨M2 (by rw [b.out]),by first|exact a.out _|exact M4 (a.out _) _⟩
 · obtain⟨c,d,g,i,j⟩:=ZX;have b:Hid (E=wrap64 (p-1)):=D_ (h.out.symm.trans (by unfold Y4;rw [c,d,g];rfl));go_enter Tryz.func104,Tryz.ntmps104;go_wp2_with fail;go_quiet ((go_at_call 131;exact Calls.quiet_of_same (M7 _ _ _)))
   go_wp2_with fail;go_ret;exact⟨M2 (by rw [b.out]),by first|exact a.out _|exact M4 (a.out _) _⟩
 · obtain⟨c,d,g,i,j⟩:=aZ;have b:Hid (E=p):=D_ (h.out.symm.trans (by unfold Y4;rw [c,d,g];rfl));go_enter Tryz.func104,Tryz.ntmps104;go_wp2_with fail;go_quiet ((go_at_call 131;exact Calls.quiet_of_same (M7 _ _ _)))
   go_wp2_with fail;go_ret;exact⟨M2 (by rw [b.out]),by first|exact a.out _|exact M4 (a.out _) _⟩
 · obtain⟨c,d,g,i,j⟩:=is_fx;have b:Hid (E=0):=D_ (h.out.symm.trans (by unfold Y4;rw [c,d,g];rfl));go_enter Tryz.func104,Tryz.ntmps104;go_wp2_with fail;go_ret;exact⟨M2 (by rw [b.out]),by first|exact a.out _|exact M4 (a.out _) _⟩
 · obtain⟨c,d,g,i,j⟩:=is_fy;have b:Hid (E=0):=D_ (h.out.symm.trans (by unfold Y4;rw [c,d,g];rfl));go_enter Tryz.func104,Tryz.ntmps104;go_wp2_with fail;go_ret;exact⟨M2 (by rw [b.out]),by first|exact a.out _|exact M4 (a.out _) _⟩
 · obtain⟨c,d,g,i,j⟩:=hk;have b:Hid (E=0):=D_ (h.out.symm.trans (by unfold Y4;rw [c,d,g];rfl));go_enter Tryz.func104,Tryz.ntmps104;go_wp2_with fail;go_ret;exact⟨M2 (by rw [b.out]),by first|exact a.out _|exact M4 (a.out _) _⟩
theorem zX (t:ByteArray) (p:Int) (w:World):
 Calls Tryz.prog 105 #[.agg #[.int .i64 p,.string t]] w fun e w'=>e=.returned (.int .i64 (X1 t p))/\Below w.heap.size w w':=by
 have a:=D_ (fun o:Obj=>(F_ w.heap.size w).alloc (R_ _) o);obtain⟨E,k⟩: ∃E,X1 t p=E:=⟨_,rfl⟩;rw [k];have j:=D_ k;clear k;rcases kinds t with rfl|rfl|rfl|rfl|rfl|hk
 · obtain⟨c,d,g,h,i⟩:=YX;have b:Hid (E=wrap64 (p-1)):=D_ (j.out.symm.trans (by unfold X1;rw [c,d,g,h,i];rfl));go_enter Tryz.func105,Tryz.ntmps105;go_wp2_with fail;go_quiet ((go_at_call 131;exact Calls.quiet_of_same (M7 _ _ _)))
   go_wp2_with fail;go_ret;exact⟨M2 (by rw [b.out]),by first|exact a.out _|exact M4 (a.out _) _⟩
 · obtain⟨c,d,g,h,i⟩:=ZX;have b:Hid (E=p):=D_ (j.out.symm.trans (by unfold X1;rw [c,d,g,h,i];rfl));go_enter Tryz.func105,Tryz.ntmps105;go_wp2_with fail;go_quiet ((go_at_call 131;exact Calls.quiet_of_same (M7 _ _ _)))
   go_wp2_with fail;go_ret;exact⟨M2 (by rw [b.out]),by first|exact a.out _|exact M4 (a.out _) _⟩
 · obtain⟨c,d,g,h,i⟩:=aZ;have b:Hid (E=wrap64 (p-1)):=D_ (j.out.symm.trans (by unfold X1;rw [c,d,g,h,i];rfl));go_enter Tryz.func105,Tryz.ntmps105;go_wp2_with fail;go_quiet ((go_at_call 131;exact Calls.quiet_of_same (M7 _ _ _)))
   go_wp2_with fail;go_ret;exact⟨M2 (by rw [b.out]),by first|exact a.out _|exact M4 (a.out _) _⟩
 · obtain⟨c,d,g,h,i⟩:=is_fx;have b:Hid (E=wrap64 (p-1)):=D_ (j.out.symm.trans (by unfold X1;rw [c,d,g,h,i];rfl));go_enter Tryz.func105,Tryz.ntmps105;go_wp2_with fail;go_quiet ((go_at_call 131;exact Calls.quiet_of_same (M7 _ _ _)))
   go_wp2_with fail;go_ret;exact⟨M2 (by rw [b.out]),by first|exact a.out _|exact M4 (a.out _) _⟩
 · obtain⟨c,d,g,h,i⟩:=is_fy;have b:Hid (E=p):=D_ (j.out.symm.trans (by unfold X1;rw [c,d,g,h,i];rfl));go_enter Tryz.func105,Tryz.ntmps105;go_wp2_with fail;go_quiet ((go_at_call 131;exact Calls.quiet_of_same (M7 _ _ _)))
   go_wp2_with fail;go_ret;exact⟨M2 (by rw [b.out]),by first|exact a.out _|exact M4 (a.out _) _⟩
 · obtain⟨c,d,g,h,i⟩:=hk;have b:Hid (E=0):=D_ (j.out.symm.trans (by unfold X1;rw [c,d,g,h,i];rfl));go_enter Tryz.func105,Tryz.ntmps105;go_wp2_with fail;go_ret;exact⟨M2 (by rw [b.out]),by first|exact a.out _|exact M4 (a.out _) _⟩
end Go.Proofs.YtinefdlkajnomaaGreatDoor
namespace Go.Proofs.YtinefdlkajnomaaGreatDoor
open Go.RowKit
set_option maxHeartbeats 20000000
structure R where
 p:Int
 k:ByteArray
 n:ByteArray
def R.cells (r:R):List Value:= [.int .i64 r.p,.string r.k,.string r.n]
def q4:List R:= [⟨1200,⟨#[120,102,120]⟩,⟨#[58,45]⟩⟩,⟨1200,⟨#[102,120]⟩,⟨#[58,45]⟩⟩,⟨1200,⟨#[102,120]⟩,⟨#[63,45]⟩⟩,⟨1100,⟨#[120,102,121]⟩,⟨#[59]⟩⟩,⟨1050,⟨#[120,102,121]⟩,⟨#[45,62]⟩⟩,⟨1000,⟨#[120,102,121]⟩,⟨#[44]⟩⟩,⟨900,⟨#[102,121]⟩,⟨#[92,43]⟩⟩,⟨700,⟨#[120,102,120]⟩,⟨#[61]⟩⟩,⟨700,⟨#[120,102,120]⟩,⟨#[92,61]⟩⟩,⟨700,⟨#[120,102,120]⟩,⟨#[61,61]⟩⟩,⟨700,⟨#[120,102,120]⟩,⟨#[92,61,61]⟩⟩,⟨700,⟨#[120,102,120]⟩,⟨#[64,60]⟩⟩,⟨700,⟨#[120,102,120]⟩,⟨#[64,61,60]⟩⟩,⟨700,⟨#[120,102,120]⟩,⟨#[64,62]⟩⟩,⟨700,⟨#[120,102,120]⟩,⟨#[64,62,61]⟩⟩,⟨700,⟨#[120,102,120]⟩,⟨#[61,46,46]⟩⟩,⟨700,⟨#[120,102,120]⟩,⟨#[105,115]⟩⟩,⟨700,⟨#[120,102,120]⟩,⟨#[61,58,61]⟩⟩,⟨700,⟨#[120,102,120]⟩,⟨#[61,92,61]⟩⟩,⟨700,⟨#[120,102,120]⟩,⟨#[60]⟩⟩,⟨700,⟨#[120,102,120]⟩,⟨#[61,60]⟩⟩,⟨700,⟨#[120,102,120]⟩,⟨#[62]⟩⟩,⟨700,⟨#[120,102,120]⟩,⟨#[62,61]⟩⟩,⟨500,⟨#[121,102,120]⟩,⟨#[43]⟩⟩,⟨500,⟨#[121,102,120]⟩,⟨#[45]⟩⟩,⟨400,⟨#[121,102,120]⟩,⟨#[42]⟩⟩,⟨400,⟨#[121,102,120]⟩,⟨#[47,47]⟩⟩,⟨400,⟨#[121,102,120]⟩,⟨#[114,101,109]⟩⟩,⟨400,⟨#[121,102,120]⟩,⟨#[109,111,100]⟩⟩,⟨200,⟨#[102,121]⟩,⟨#[45]⟩⟩]
def Z2:Array Value:=(q4.flatMap R.cells).toArray
theorem l4:Z2.size=90:=by decide+kernel
theorem xq: ¬Z2= #[]:=fun h=>by have:=l4;rw [h]at this;cases this
theorem tab_one:Z2.all (·.oneCell')=true:=by decide+kernel
theorem sJ:(Tryz.prog.info? 180).map (·.size)=some 90:=by kernel_rfl
theorem zz (w:World):(storeCells ⟨w.heap.size,0,none⟩ Z2.toList 0).run Tryz.prog (w.alloc (.cells Tryz.zeroCells180 180))=.ok () (w.alloc (.cells Z2 180)):=
 run_storeCells_new w _ _ _ (by rw [l4];exact sJ) (by rw [Tryz.zeroCells180_size,l4]) tab_one
theorem load_tab (w:World):(loadCellsFrom ⟨w.heap.size,0,none⟩ 0 90 #[]).run Tryz.prog (w.alloc (.cells Z2 180))=.ok Z2 (w.alloc (.cells Z2 180)):=
 run_loadCellsFrom_new w _ _ _ l4
theorem wJ (w:World):(loadVar 180 ⟨w.heap.size,0,none⟩).run Tryz.prog (w.alloc (.cells Z2 180))=.ok (.agg Z2) (w.alloc (.cells Z2 180)):=
 run_loadVar_new w _ _ 30 179 (by kernel_rfl) (by rw [l4];exact sJ)
attribute [-go_sem] loadVar
attribute [local go_sem] wJ l4 Tryz.zeroCells180_size xq Tryz.zeroCells180_ne zz load_tab
theorem aj {P:Program} {ops:Array Oper} {rest:List Oper} {o:Oper} {a:Act} {w:World} {Q:Exit->Act->World->Prop} (c:o.guard=none) (t:TypeId) (parts:Array (Nat×Operand)) (cells:Array Value) (d:o.op=.build t parts)
 (b:P.built t (parts.map fun (i,x)=>(i,a.eval x)).toList=some cells)
 (h:wpList P ops Q rest (a.put o.dst (.agg cells)) w):wpList P ops Q (o::rest) a w:=
 wpList_build c t parts d (by rw [b];rfl) (by rw [b];exact h)
set_option maxRecDepth 100000 in
theorem ops_table (w:World):
 Calls Tryz.prog 191 #[] w fun e w'=>e=.returned (.agg Z2)/\Below w.heap.size w w':=by
 have a:=D_ (fun o:Obj=>(F_ w.heap.size w).alloc (R_ _) o);go_enter Tryz.func191,Tryz.ntmps191;go_wp2_with (refine aj (o:=⟨some 31,_,_,_,_,_⟩) rfl 180 _ Z2 rfl (by kernel_rfl) ?_);exact B_ (v:=.agg Z2) (by simp [results,Tryz.results191,go_sem]) rfl ⟨rfl,a.out _⟩
end Go.Proofs.YtinefdlkajnomaaGreatDoor
namespace Go.Proofs.YtinefdlkajnomaaGreatDoor
open Go.RowKit
set_option maxHeartbeats 20000000
theorem flat_get (l:List R): ∀(k:Nat) (h:k<l.length),(l.flatMap R.cells)[k*3]?=some (.int .i64 (l[k]'h).p)/\(l.flatMap R.cells)[k*3+1]?=some (.string (l[k]'h).k)/\(l.flatMap R.cells)[k*3+2]?=some (.string (l[k]'h).n):=by
 induction l with
 |nil=>intro k h;cases h
 | cons r l ih=>
  intro k h;have b:r.cells.length=3:=rfl;cases k with
  |zero=>exact⟨rfl,rfl,rfl⟩
  | succ k=>
   have a:=ih k (by simpa using h);rw [List.flatMap_cons,List.getElem?_append_right (by omega),List.getElem?_append_right (by omega),List.getElem?_append_right (by omega),b,
    show(k+1)*3-3=k*3 by omega,show(k+1)*3+1-3=k*3+1 by omega,show(k+1)*3+2-3=k*3+2 by omega]
   exact a
theorem tab_len:q4.length=30:=rfl
theorem tab_get (k:Nat) (h:k<30):Z2[k*3]?=some (.int .i64 (q4[k]'h).p)/\Z2[k*3+1]?=some (.string (q4[k]'h).k)/\Z2[k*3+2]?=some (.string (q4[k]'h).n):=by
 have:=flat_get q4 k h;unfold Z2;simpa using this
def R.fits (name:ByteArray) (n:Int) (r:R):Bool:=r.n.toList==name.toList&&(r.k.size:Int)==n
def L2 (l:List R) (name:ByteArray) (n:Int):Option R:=l.find? (R.fits name n)
def opR (s:List UInt8) (n:Int):Option R:=L2 q4 ⟨s.toArray⟩ n
def i7:Option R->Value
 |some r=>.tuple #[.agg #[.int .i64 r.p,.string r.k],.bool true]
 |none=>.tuple #[.agg #[.int .i64 0,.string ⟨#[]⟩],.bool false]
theorem findR_step (l:List R) (name:ByteArray) (n:Int) (k:Nat) (h:k<l.length):L2 (l.drop k) name n=if(l[k]'h).fits name n then some (l[k]'h)else L2 (l.drop (k+1)) name n:=by
 rw [List.drop_eq_getElem_cons h];show List.find? _ _=_
 rw [List.find?_cons];cases(l[k]'h).fits name n<;>rfl
theorem bcell {W w1:World} (a:Below W.heap.size W w1):(∀b o,b<W.heap.size->w1.cell? ⟨b,o,none⟩=W.cell? ⟨b,o,none⟩)/\(∀b o,b<W.heap.size->w1.frozen? ⟨b,o,none⟩=W.frozen? ⟨b,o,none⟩):=
 ⟨fun b o h=>a.cell (p:=⟨b,o,none⟩) h,fun b o h=>a.frozen (p:=⟨b,o,none⟩) h⟩
theorem g8 {w w1:World} {p:Int} {k:ByteArray} {t:TypeId} (b:Below (w.alloc (.cells #[.int .i64 p,.string k] t)).heap.size (w.alloc (.cells #[.int .i64 p,.string k] t)) w1):
 w1.cell? ⟨w.heap.size,0,none⟩=some (.int .i64 p)/\w1.cell? ⟨w.heap.size,1,none⟩=some (.string k)/\w1.frozen? ⟨w.heap.size,0,none⟩=false/\w1.frozen? ⟨w.heap.size,1,none⟩=false:=by
 obtain⟨hc,a⟩:=bcell b;refine⟨?_,?_,?_,?_⟩
 · rw [hc _ _ (by rw [Z_];omega)];exact World.cell?_alloc_at _ _ _ _ rfl
 · rw [hc _ _ (by rw [Z_];omega)];exact World.cell?_alloc_at _ _ _ _ rfl
 · rw [a _ _ (by rw [Z_];omega)];simp
 · rw [a _ _ (by rw [Z_];omega)];simp
attribute [local go_sem] l4 Tryz.zeroCells180_size xq Tryz.zeroCells180_ne zz
set_option maxRecDepth 100000 in
theorem JJ (name:ByteArray) (n:Int) (w:World):
 Calls Tryz.prog 180 #[.string name,.int .i64 n] w fun e w'=>e=.returned (i7 (L2 q4 name n))/\Below w.heap.size w w':=by
 have F:=D_ (fun o:Obj=>(F_ w.heap.size w).alloc (R_ _) o);obtain⟨E,A⟩: ∃E,L2 q4 name n=E:=⟨_,rfl⟩;rw [A];have G:=D_ A;clear A;go_enter Tryz.func180,Tryz.ntmps180;go_wp2_with fail;refine(ops_table _).mono ?_;rintro e w1 ⟨rfl,d⟩;have m:=(F.out _).trans (d.mono (by simp));have D:=d.size;rw [Z_]at D;obtain⟨hc,g⟩:=bcell d;have z0:w1.cell? ⟨w.heap.size,0,none⟩=some (.int .i64 0):=by rw [hc _ _ (by rw [Z_];omega)];exact World.cell?_alloc_at _ _ _ _ rfl
 have z1:w1.cell? ⟨w.heap.size,1,none⟩=some (.string ⟨#[]⟩):=by rw [hc _ _ (by rw [Z_];omega)];exact World.cell?_alloc_at _ _ _ _ rfl
 have g0:w1.frozen? ⟨w.heap.size,0,none⟩=false:=by rw [g _ _ (by rw [Z_];omega)];simp
 have g1:w1.frozen? ⟨w.heap.size,1,none⟩=false:=by rw [g _ _ (by rw [Z_];omega)];simp
 clear hc g d;go_wp2_with fail;generalize c:w1.alloc (Obj.cells Z2 180)=w2;have b:Below w.heap.size w w2:=by rw [<-c];exact m.alloc m.size _
 have u:w2.heap.size=w1.heap.size+1:=by rw [<-c];simp
 have I:Hid (∀W,Below w2.heap.size w2 W-> ∀k (h:k<30),W.cell? ⟨w1.heap.size,k*3,none⟩=some (.int .i64 (q4[k]'h).p)/\W.cell? ⟨w1.heap.size,k*3+1,none⟩=some (.string (q4[k]'h).k)/\W.cell? ⟨w1.heap.size,k*3+2,none⟩=some (.string (q4[k]'h).n)):=D_ (fun W B k h=>by
  have M:=tab_get k h;have hc: ∀i,W.cell? ⟨w1.heap.size,i,none⟩=Z2[i]?:=fun i=>by
   rw [B.cell (p:=⟨w1.heap.size,i,none⟩) (by show w1.heap.size<_;omega),<-c];exact World.cell?_alloc_at _ _ _ _ rfl
  rw [hc,hc,hc];exact M)
 have J:Hid (∀W,Below w2.heap.size w2 W->W.cell? ⟨w.heap.size,0,none⟩=some (.int .i64 0)/\W.cell? ⟨w.heap.size,1,none⟩=some (.string ⟨#[]⟩)/\W.frozen? ⟨w.heap.size,0,none⟩=false/\W.frozen? ⟨w.heap.size,1,none⟩=false):=D_ (fun W B=>by
  obtain⟨hc,g⟩:=bcell B;rw [hc _ _ (by omega),hc _ _ (by omega),g _ _ (by omega),g _ _ (by omega),<-c,World.cell?_alloc_past _ _ _ (by omega),World.cell?_alloc_past _ _ _ (by omega),World.frozen?_alloc_past _ _ _ (by omega),World.frozen?_alloc_past _ _ _ (by omega)];exact⟨z0,z1,g0,g1⟩)
 have H:Hid (w2.heap.size=w1.heap.size+1):=D_ u;clear c z0 z1 g0 g1 u;go_loopw [10] (fun iv wr=> ∃k:Nat,k<=30/\iv=.int .i64 k/\Below w2.heap.size w2 wr/\Hid (L2 (q4.drop k) name n=E)) (fun iv _=>30-(intOf iv).toNat)
 case atStart=>exact⟨0,Nat.zero_le _,rfl,F_ _ _,G⟩
 case round=>
  obtain⟨k,T,rfl,a,q⟩:=hrel;obtain⟨z0,z1,g0,g1⟩:=J.out wr a;have x:=a.size;by_cases t:k<30
  · obtain⟨c0,c1,c2⟩:=I.out wr a k t;have j:=D_ (findR_step q4 name n k t);generalize q4[k]=r at*;have N:(0:Int)<=(k:Int):=by omega
    have O:(k:Int)<30:=by omega
    cases e1:(r.n.toList==name.toList)with
    |false=>
     have y:Hid (L2 (q4.drop (k+1)) name n=E):=D_ (by rw [<-q.out,j.out,I_ (by unfold R.fits;rw [e1];simp)]);go_wp2_with fail;go_roundw
     case rel=>exact⟨k+1,by omega,by go_num,a.alloc x _,y⟩
     case measure=>simp [intOf];omega
    | true=>
     cases e2:((r.k.size:Int)==n)with
     |false=>
      have y:Hid (L2 (q4.drop (k+1)) name n=E):=D_ (by rw [<-q.out,j.out,I_ (by unfold R.fits;rw [e1,e2];simp)]);go_wp2_with fail;go_roundw
      case rel=>exact⟨k+1,by omega,by go_num,a.alloc x _,y⟩
      case measure=>simp [intOf];omega
     |true=>
      have z:Hid (E=some r):=D_ (by rw [<-q.out,j.out,J_ (by unfold R.fits;rw [e1,e2];rfl)]);have C:w.heap.size<wr.heap.size:=by have:=H.out;omega
      go_wp2_with fail;refine B_ (v:=.tuple #[.agg #[.int .i64 r.p,.string r.k],.bool true]) (by simp [results,Tryz.results180,go_sem,C,z0,z1]) rfl ⟨by rw [z.out];rfl,?_⟩;have l:Below w.heap.size w wr:=b.trans (a.mono b.size);have s:=(l.setCell (p:=⟨w.heap.size,0,none⟩) (R_ _) (.int .i64 r.p)).setCell (p:=⟨w.heap.size,1,none⟩) (R_ _) (.string r.k);exact s.alloc s.size _
  · have z:Hid (E=none):=D_ (by rw [<-q.out,List.drop_eq_nil_of_le (by rw [tab_len];omega)];rfl);go_wp2_with fail;refine B_ (v:=.tuple #[.agg #[.int .i64 0,.string ⟨#[]⟩],.bool false]) (by simp [results,Tryz.results180,go_sem,z0,z1]) rfl ⟨by rw [z.out];rfl,?_⟩;have l:Below w.heap.size w wr:=b.trans (a.mono b.size);exact(l.setCell (R_ _) _).setCell (R_ _) _
theorem p8 (name:ByteArray) (w:World):
 Calls Tryz.prog 172 #[.string name] w fun e w'=>e=.returned (i7 (L2 q4 name 2))/\Below w.heap.size w w':=by
 have c:=D_ (fun o:Obj=>(F_ w.heap.size w).alloc (R_ _) o);have d:=D_ (fun W=>JJ name 2 W);generalize L2 q4 name 2=E at*;cases E with
 |none=>
  unfold i7 at*;go_enter Tryz.func172,Tryz.ntmps172;go_wp2_with fail;refine(d.out _).mono ?_;rintro e w1 ⟨rfl,a⟩;have b:=(c.out _).trans (a.mono (by simp));obtain⟨z0,z1,g0,g1⟩:=g8 a;clear a;go_wp2_with fail;exact B_ (v:=.tuple #[.agg #[.int .i64 0,.string ⟨#[]⟩],.bool false]) (by simp [results,Tryz.results172,go_sem,z0,z1]) rfl ⟨rfl,(b.setCell (R_ _) _).setCell (R_ _) _⟩
 |some r=>
  unfold i7 at*;go_enter Tryz.func172,Tryz.ntmps172;go_wp2_with fail;refine(d.out _).mono ?_;rintro e w1 ⟨rfl,a⟩;have b:=(c.out _).trans (a.mono (by simp));obtain⟨z0,z1,g0,g1⟩:=g8 a;clear a;go_wp2_with fail;exact B_ (v:=.tuple #[.agg #[.int .i64 r.p,.string r.k],.bool true]) (by simp [results,Tryz.results172,go_sem,z0,z1]) rfl ⟨rfl,(b.setCell (R_ _) _).setCell (R_ _) _⟩
theorem oX (name:ByteArray) (w:World):
 Calls Tryz.prog 149 #[.string name] w fun e w'=>e=.returned (i7 (L2 q4 name 3))/\Below w.heap.size w w':=by
 have c:=D_ (fun o:Obj=>(F_ w.heap.size w).alloc (R_ _) o);have d:=D_ (fun W=>JJ name 3 W);generalize L2 q4 name 3=E at*;cases E with
 |none=>
  unfold i7 at*;go_enter Tryz.func149,Tryz.ntmps149;go_wp2_with fail;refine(d.out _).mono ?_;rintro e w1 ⟨rfl,a⟩;have b:=(c.out _).trans (a.mono (by simp));obtain⟨z0,z1,g0,g1⟩:=g8 a;clear a;go_wp2_with fail;exact B_ (v:=.tuple #[.agg #[.int .i64 0,.string ⟨#[]⟩],.bool false]) (by simp [results,Tryz.results149,go_sem,z0,z1]) rfl ⟨rfl,(b.setCell (R_ _) _).setCell (R_ _) _⟩
 |some r=>
  unfold i7 at*;go_enter Tryz.func149,Tryz.ntmps149;go_wp2_with fail;refine(d.out _).mono ?_;rintro e w1 ⟨rfl,a⟩;have b:=(c.out _).trans (a.mono (by simp));obtain⟨z0,z1,g0,g1⟩:=g8 a;clear a;go_wp2_with fail;exact B_ (v:=.tuple #[.agg #[.int .i64 r.p,.string r.k],.bool true]) (by simp [results,Tryz.results149,go_sem,z0,z1]) rfl ⟨rfl,(b.setCell (R_ _) _).setCell (R_ _) _⟩
end Go.Proofs.YtinefdlkajnomaaGreatDoor
