import Derived.Test.YtinefdlkajnomaaGreatDoorMCharDJ
import Derived.Test.YtinefdlkajnomaaGreatDoorMTkM
import Derived.Test.YtinefdlkajnomaaGreatDoorMShelf2
import Derived.Lib.CutLaws
import Derived.Laws.AppendOwn
import Derived.Laws.OwnMore
import Derived.Deep.AppendLies
namespace Go.Proofs.YtinefdlkajnomaaGreatDoor
open Go.RowKit
set_option maxHeartbeats 20000000
theorem E6 {a b:Int} (h:a=b):Ending.returned (.int .i64 a)=.returned (.int .i64 b):=by rw [h]
theorem N4 {a b:Bool} (h:a=b):Ending.returned (.bool a)=.returned (.bool b):=by rw [h]
theorem tok_word1 (c:Int) (w:World):Calls Tryz.prog 133 #[.int .i32 c] w fun e w'=>e=.returned (.bool (X2 c))/\w=w':=by
 have b:=D_ (d9 c w);obtain⟨E,a⟩: ∃E,X2 c=E:=⟨_,rfl⟩;rw [a];unfold X2 at a;generalize cls c=q at*;have d:=D_ a;clear a;have k:q=1\/q=2\/q=3\/((q==1)=false/\(q==2)=false/\(q==3)=false):=by
  by_cases g:q=1
  · exact .inl g
  by_cases h:q=2
  · exact .inr (.inl h)
  by_cases i:q=3
  · exact .inr (.inr (.inl i))
  exact .inr (.inr (.inr ⟨by simpa using g,by simpa using h,by simpa using i⟩))
 rcases k with rfl|rfl|rfl|⟨e1,e2,e3⟩
 iterate 3
  · go_enter Tryz.func133,Tryz.ntmps133;go_wp2_with fail;refine b.out.mono ?_;rintro e w' ⟨rfl,rfl⟩;go_wp2_with fail;go_ret;exact⟨N4 (by rw [<-d.out];decide),rfl⟩
 · have j:Hid (E=false):=D_ (by rw [<-d.out,decide_eq_false_iff_not];simp at e1 e2 e3;omega);go_enter Tryz.func133,Tryz.ntmps133;go_wp2_with fail;refine b.out.mono ?_;rintro e w' ⟨rfl,rfl⟩;go_wp2_with fail;go_ret;exact⟨N4 j.out.symm,rfl⟩
theorem tok_number1 (c:Int) (w:World):Calls Tryz.prog 135 #[.int .i32 c] w fun e w'=>e=.returned (.bool (J3 c))/\w=w':=by
 have b:=D_ (d9 c w);obtain⟨E,a⟩: ∃E,J3 c=E:=⟨_,rfl⟩;rw [a];unfold J3 at a;generalize cls c=q at*;have d:=D_ a;clear a;go_enter Tryz.func135,Tryz.ntmps135;go_wp2_with fail;refine b.out.mono ?_;rintro e w' ⟨rfl,rfl⟩;go_wp2_with fail;go_ret;exact⟨N4 (by rw [<-d.out,Bool.eq_iff_iff];simp),rfl⟩
theorem tok_signs1 (c:Int) (w:World):Calls Tryz.prog 139 #[.int .i32 c] w fun e w'=>e=.returned (.bool (U1 c))/\w=w':=by
 have b:=D_ (d9 c w);obtain⟨E,a⟩: ∃E,U1 c=E:=⟨_,rfl⟩;rw [a];unfold U1 at a;generalize cls c=q at*;have d:=D_ a;clear a;go_enter Tryz.func139,Tryz.ntmps139;go_wp2_with fail;refine b.out.mono ?_;rintro e w' ⟨rfl,rfl⟩;go_wp2_with fail;go_ret;exact⟨N4 (by rw [<-d.out,Bool.eq_iff_iff];simp),rfl⟩
theorem tok_line1 (c:Int) (w:World):Calls Tryz.prog 142 #[.int .i32 c] w fun e w'=>e=.returned (.bool (A5 c))/\w=w':=by
 obtain⟨E,a⟩: ∃E,A5 c=E:=⟨_,rfl⟩;rw [a];unfold A5 at a;have b:=D_ a;clear a;go_enter Tryz.func142,Tryz.ntmps142;go_wp2_with fail;go_ret;exact⟨N4 (by rw [<-b.out,Bool.eq_iff_iff];simp),rfl⟩
theorem Nq (P:Int->Bool) (b:Bool) (g: ∀c:Int,128<=c->P c=b) (s:ByteArray) (pos:Nat) (h:pos<s.size):
 O0 P (s.data.toList.drop pos)=if P ((Utf8.decode s pos).1:Int)=true then(Utf8.decode s pos).2+O0 P (s.data.toList.drop (pos+(Utf8.decode s pos).2))else 0:=by
 have d:s.data.toList.drop pos≠ []:=fun e=>by
  have a:=congrArg List.length e;rw [List.length_drop]at a;simp at a
  omega
 rw [tQ P b g _ d,Lib.decodeL_drop,List.drop_drop]
theorem AQ (s:ByteArray) (w:World):
 Calls Tryz.prog 132 #[.string s,.func (.func 133) #[] #[]] w fun e w'=>e=.returned (.int .i64 (O0 X2 s.data.toList:Nat))/\Below w.heap.size w w':=by
 obtain⟨E,q⟩: ∃E:Nat,O0 X2 s.data.toList=E:=⟨_,rfl⟩;rw [q];have x:=D_ q;clear q;go_enter Tryz.func132,Tryz.ntmps132;go_wp2;go_loopw [4] (fun r wr=> ∃(pos:Nat),pos<=s.size/\r=.int .i64 0/\wr.heap[w.heap.size]?=some (.stringIter s pos)/\Below w.heap.size w wr/\Hid (E=pos+O0 X2 (s.data.toList.drop pos)))
  (fun _ wr=>s.size-wr.iterPos w.heap.size)
 case atStart=>
  exact⟨0,Nat.zero_le _,rfl,by simpa using World.iter_heap w s 0,(F_ _ w).alloc (R_ _) _,D_ (by rw [List.drop_zero,x.out];omega)⟩
 case round=>
  obtain⟨pos,y,rfl,b,m,i⟩:=hrel;have B:w.heap.size<wr.heap.size:=(Array.getElem?_eq_some_iff.1 b).1;by_cases l:pos<s.size
  · have o: ∀ty,(Instr.next (.pointer (some ⟨w.heap.size,0,none⟩)) true ty).run Tryz.prog wr=_:=fun ty=>Lib.run_next_any_at wr w.heap.size s pos ty b l;have g:=Lib.iterAt_heap wr w.heap.size s pos (pos+(Utf8.decode s pos).2) b;have d:=Lib.below_iterAt m (k:=w.heap.size) (R_ _) s (pos+(Utf8.decode s pos).2);have u:=H6 s pos l;have v:=Nq X2 false N9 s pos l;have a:=i.out;rw [v]at a;clear v i;generalize wr.iterAt w.heap.size s (pos+(Utf8.decode s pos).2)=W2 at o g d;generalize (Utf8.decode s pos).1=c at*;generalize (Utf8.decode s pos).2=n at*;have cK:=fun w=>tok_word1 c w;obtain⟨z,A⟩:=u;cases j:X2 (c:Int)with
    | true=>
     rw [j]at a cK;rw [J_ rfl]at a;have p:=D_ cK;have h:Hid (E=(pos+n:Nat)+O0 X2 (s.data.toList.drop (pos+n))):=D_ (by omega);clear a cK j;go_wp2_with fail;refine(p.out _).mono ?_;rintro e w' ⟨rfl,rfl⟩;go_wp2_with fail;go_roundw
     case rel=>exact⟨pos+n,by omega,rfl,g,d,h⟩
     case measure=>
      simp only [World.iterPos,g,b]
      omega
    |false=>
     rw [j]at a cK;rw [I_ (by decide)]at a;have p:=D_ cK;have h:Hid ((E:Int)=pos):=D_ (by omega);clear a cK j;go_wp2_with fail;refine(p.out _).mono ?_;rintro e w' ⟨rfl,rfl⟩;go_wp2_with fail;go_ret;exact⟨E6 h.out.symm,d⟩
  · have o: ∀ty,(Instr.next (.pointer (some ⟨w.heap.size,0,none⟩)) true ty).run Tryz.prog wr=_:=fun ty=>Lib.run_next_end_at wr w.heap.size s pos ty b l;have t:=i.out;rw [List.drop_eq_nil_of_le (by simp;omega)]at t;have h:Hid ((E:Int)=s.size):=D_ (by rw [t];show((pos+0:Nat):Int)=_;omega);clear t i;go_wp2_with fail;go_ret;exact⟨E6 h.out.symm,m⟩
theorem Cz (s:ByteArray) (w:World):
 Calls Tryz.prog 132 #[.string s,.func (.func 135) #[] #[]] w fun e w'=>e=.returned (.int .i64 (O0 J3 s.data.toList:Nat))/\Below w.heap.size w w':=by
 obtain⟨E,q⟩: ∃E:Nat,O0 J3 s.data.toList=E:=⟨_,rfl⟩;rw [q];have x:=D_ q;clear q;go_enter Tryz.func132,Tryz.ntmps132;go_wp2;go_loopw [4] (fun r wr=> ∃(pos:Nat),pos<=s.size/\r=.int .i64 0/\wr.heap[w.heap.size]?=some (.stringIter s pos)/\Below w.heap.size w wr/\Hid (E=pos+O0 J3 (s.data.toList.drop pos)))
  (fun _ wr=>s.size-wr.iterPos w.heap.size)
 case atStart=>
  exact⟨0,Nat.zero_le _,rfl,by simpa using World.iter_heap w s 0,(F_ _ w).alloc (R_ _) _,D_ (by rw [List.drop_zero,x.out];omega)⟩
 case round=>
  obtain⟨pos,y,rfl,b,m,i⟩:=hrel;have B:w.heap.size<wr.heap.size:=(Array.getElem?_eq_some_iff.1 b).1;by_cases l:pos<s.size
  · have o: ∀ty,(Instr.next (.pointer (some ⟨w.heap.size,0,none⟩)) true ty).run Tryz.prog wr=_:=fun ty=>Lib.run_next_any_at wr w.heap.size s pos ty b l;have g:=Lib.iterAt_heap wr w.heap.size s pos (pos+(Utf8.decode s pos).2) b;have d:=Lib.below_iterAt m (k:=w.heap.size) (R_ _) s (pos+(Utf8.decode s pos).2);have u:=H6 s pos l;have v:=Nq J3 false dX s pos l;have a:=i.out;rw [v]at a;clear v i;generalize wr.iterAt w.heap.size s (pos+(Utf8.decode s pos).2)=W2 at o g d;generalize (Utf8.decode s pos).1=c at*;generalize (Utf8.decode s pos).2=n at*;have cK:=fun w=>tok_number1 c w;obtain⟨z,A⟩:=u;cases j:J3 (c:Int)with
    | true=>
     rw [j]at a cK;rw [J_ rfl]at a;have p:=D_ cK;have h:Hid (E=(pos+n:Nat)+O0 J3 (s.data.toList.drop (pos+n))):=D_ (by omega);clear a cK j;go_wp2_with fail;refine(p.out _).mono ?_;rintro e w' ⟨rfl,rfl⟩;go_wp2_with fail;go_roundw
     case rel=>exact⟨pos+n,by omega,rfl,g,d,h⟩
     case measure=>
      simp only [World.iterPos,g,b]
      omega
    |false=>
     rw [j]at a cK;rw [I_ (by decide)]at a;have p:=D_ cK;have h:Hid ((E:Int)=pos):=D_ (by omega);clear a cK j;go_wp2_with fail;refine(p.out _).mono ?_;rintro e w' ⟨rfl,rfl⟩;go_wp2_with fail;go_ret;exact⟨E6 h.out.symm,d⟩
  · have o: ∀ty,(Instr.next (.pointer (some ⟨w.heap.size,0,none⟩)) true ty).run Tryz.prog wr=_:=fun ty=>Lib.run_next_end_at wr w.heap.size s pos ty b l;have t:=i.out;rw [List.drop_eq_nil_of_le (by simp;omega)]at t;have h:Hid ((E:Int)=s.size):=D_ (by rw [t];show((pos+0:Nat):Int)=_;omega);clear t i;go_wp2_with fail;go_ret;exact⟨E6 h.out.symm,m⟩
theorem Yz (s:ByteArray) (w:World):
 Calls Tryz.prog 132 #[.string s,.func (.func 139) #[] #[]] w fun e w'=>e=.returned (.int .i64 (O0 U1 s.data.toList:Nat))/\Below w.heap.size w w':=by
 obtain⟨E,q⟩: ∃E:Nat,O0 U1 s.data.toList=E:=⟨_,rfl⟩;rw [q];have x:=D_ q;clear q;go_enter Tryz.func132,Tryz.ntmps132;go_wp2;go_loopw [4] (fun r wr=> ∃(pos:Nat),pos<=s.size/\r=.int .i64 0/\wr.heap[w.heap.size]?=some (.stringIter s pos)/\Below w.heap.size w wr/\Hid (E=pos+O0 U1 (s.data.toList.drop pos)))
  (fun _ wr=>s.size-wr.iterPos w.heap.size)
 case atStart=>
  exact⟨0,Nat.zero_le _,rfl,by simpa using World.iter_heap w s 0,(F_ _ w).alloc (R_ _) _,D_ (by rw [List.drop_zero,x.out];omega)⟩
 case round=>
  obtain⟨pos,y,rfl,b,m,i⟩:=hrel;have B:w.heap.size<wr.heap.size:=(Array.getElem?_eq_some_iff.1 b).1;by_cases l:pos<s.size
  · have o: ∀ty,(Instr.next (.pointer (some ⟨w.heap.size,0,none⟩)) true ty).run Tryz.prog wr=_:=fun ty=>Lib.run_next_any_at wr w.heap.size s pos ty b l;have g:=Lib.iterAt_heap wr w.heap.size s pos (pos+(Utf8.decode s pos).2) b;have d:=Lib.below_iterAt m (k:=w.heap.size) (R_ _) s (pos+(Utf8.decode s pos).2);have u:=H6 s pos l;have v:=Nq U1 false nx s pos l;have a:=i.out;rw [v]at a;clear v i;generalize wr.iterAt w.heap.size s (pos+(Utf8.decode s pos).2)=W2 at o g d;generalize (Utf8.decode s pos).1=c at*;generalize (Utf8.decode s pos).2=n at*;have cK:=fun w=>tok_signs1 c w;obtain⟨z,A⟩:=u;cases j:U1 (c:Int)with
    | true=>
     rw [j]at a cK;rw [J_ rfl]at a;have p:=D_ cK;have h:Hid (E=(pos+n:Nat)+O0 U1 (s.data.toList.drop (pos+n))):=D_ (by omega);clear a cK j;go_wp2_with fail;refine(p.out _).mono ?_;rintro e w' ⟨rfl,rfl⟩;go_wp2_with fail;go_roundw
     case rel=>exact⟨pos+n,by omega,rfl,g,d,h⟩
     case measure=>
      simp only [World.iterPos,g,b]
      omega
    |false=>
     rw [j]at a cK;rw [I_ (by decide)]at a;have p:=D_ cK;have h:Hid ((E:Int)=pos):=D_ (by omega);clear a cK j;go_wp2_with fail;refine(p.out _).mono ?_;rintro e w' ⟨rfl,rfl⟩;go_wp2_with fail;go_ret;exact⟨E6 h.out.symm,d⟩
  · have o: ∀ty,(Instr.next (.pointer (some ⟨w.heap.size,0,none⟩)) true ty).run Tryz.prog wr=_:=fun ty=>Lib.run_next_end_at wr w.heap.size s pos ty b l;have t:=i.out;rw [List.drop_eq_nil_of_le (by simp;omega)]at t;have h:Hid ((E:Int)=s.size):=D_ (by rw [t];show((pos+0:Nat):Int)=_;omega);clear t i;go_wp2_with fail;go_ret;exact⟨E6 h.out.symm,m⟩
theorem zQ (s:ByteArray) (w:World):
 Calls Tryz.prog 132 #[.string s,.func (.func 142) #[] #[]] w fun e w'=>e=.returned (.int .i64 (O0 A5 s.data.toList:Nat))/\Below w.heap.size w w':=by
 obtain⟨E,q⟩: ∃E:Nat,O0 A5 s.data.toList=E:=⟨_,rfl⟩;rw [q];have x:=D_ q;clear q;go_enter Tryz.func132,Tryz.ntmps132;go_wp2;go_loopw [4] (fun r wr=> ∃(pos:Nat),pos<=s.size/\r=.int .i64 0/\wr.heap[w.heap.size]?=some (.stringIter s pos)/\Below w.heap.size w wr/\Hid (E=pos+O0 A5 (s.data.toList.drop pos)))
  (fun _ wr=>s.size-wr.iterPos w.heap.size)
 case atStart=>
  exact⟨0,Nat.zero_le _,rfl,by simpa using World.iter_heap w s 0,(F_ _ w).alloc (R_ _) _,D_ (by rw [List.drop_zero,x.out];omega)⟩
 case round=>
  obtain⟨pos,y,rfl,b,m,i⟩:=hrel;have B:w.heap.size<wr.heap.size:=(Array.getElem?_eq_some_iff.1 b).1;by_cases l:pos<s.size
  · have o: ∀ty,(Instr.next (.pointer (some ⟨w.heap.size,0,none⟩)) true ty).run Tryz.prog wr=_:=fun ty=>Lib.run_next_any_at wr w.heap.size s pos ty b l;have g:=Lib.iterAt_heap wr w.heap.size s pos (pos+(Utf8.decode s pos).2) b;have d:=Lib.below_iterAt m (k:=w.heap.size) (R_ _) s (pos+(Utf8.decode s pos).2);have u:=H6 s pos l;have v:=Nq A5 true Rj s pos l;have a:=i.out;rw [v]at a;clear v i;generalize wr.iterAt w.heap.size s (pos+(Utf8.decode s pos).2)=W2 at o g d;generalize (Utf8.decode s pos).1=c at*;generalize (Utf8.decode s pos).2=n at*;have cK:=fun w=>tok_line1 c w;obtain⟨z,A⟩:=u;cases j:A5 (c:Int)with
    | true=>
     rw [j]at a cK;rw [J_ rfl]at a;have p:=D_ cK;have h:Hid (E=(pos+n:Nat)+O0 A5 (s.data.toList.drop (pos+n))):=D_ (by omega);clear a cK j;go_wp2_with fail;refine(p.out _).mono ?_;rintro e w' ⟨rfl,rfl⟩;go_wp2_with fail;go_roundw
     case rel=>exact⟨pos+n,by omega,rfl,g,d,h⟩
     case measure=>
      simp only [World.iterPos,g,b]
      omega
    |false=>
     rw [j]at a cK;rw [I_ (by decide)]at a;have p:=D_ cK;have h:Hid ((E:Int)=pos):=D_ (by omega);clear a cK j;go_wp2_with fail;refine(p.out _).mono ?_;rintro e w' ⟨rfl,rfl⟩;go_wp2_with fail;go_ret;exact⟨E6 h.out.symm,d⟩
  · have o: ∀ty,(Instr.next (.pointer (some ⟨w.heap.size,0,none⟩)) true ty).run Tryz.prog wr=_:=fun ty=>Lib.run_next_end_at wr w.heap.size s pos ty b l;have t:=i.out;rw [List.drop_eq_nil_of_le (by simp;omega)]at t;have h:Hid ((E:Int)=s.size):=D_ (by rw [t];show((pos+0:Nat):Int)=_;omega);clear t i;go_wp2_with fail;go_ret;exact⟨E6 h.out.symm,m⟩
def TabsT (w:World):Prop:=Tabs w/\ ∃m,w.cell? ⟨2,0,none⟩=some (.int .i64 m)
theorem TabsT.on {w w':World} (h:TabsT w) (b:Below w.heap.size w w'):TabsT w':=by
 obtain⟨h,m,a⟩:=h;exact⟨h.on b,m,by rw [<-a];exact b.cell (p:=⟨_,_,none⟩) (Z7 a)⟩
def lxv (x:Lx):Value:=.agg #[.int .i64 x.kind,.string ⟨x.text.toArray⟩,.int .i64 x.n,.int .i64 0]
def lxr (x:Lx):Value:=.tuple #[lxv x,.int .i64 (x.w:Nat)]
theorem Ox (s:ByteArray) (n:Nat):s.extract 0 n=⟨(s.data.toList.take n).toArray⟩:=by
 rw [Lib.extract_eq];simp
theorem S6 (s:ByteArray) (n:Nat):s.extract n s.size=⟨(s.data.toList.drop n).toArray⟩:=by
 rw [Lib.extract_eq];congr 1
 rw [List.take_of_length_le (by rw [List.length_drop];simp)]
theorem C0 (s:ByteArray):s.data.toList.length=s.size:=by simp
theorem Lq (l:List UInt8):(⟨l.toArray⟩:ByteArray).size=l.length:=by show l.toArray.size=_;simp
theorem K0 {w w1:World} {q:Nat} {o:Obj} (b:Below w.heap.size w w1) (a:w.heap[q]?=some o):w1.heap[q]?=some o:=(b.block q (Array.getElem?_eq_some_iff.1 a).1).trans a
theorem S0 (w:World) (o:Obj):(w.alloc o).heap[w.heap.size]?=some o:=by unfold World.alloc;simp
theorem j1 {w:World} {q:Nat} {o:Obj} (a:w.heap[q]?=some o) (o2:Obj):(w.alloc o2).heap[q]?=some o:=(A_ w o2 q (Array.getElem?_eq_some_iff.1 a).1).trans a
def tcell (k:Int) (t:List UInt8) (n at_:Int):Obj:=.cells #[.int .i64 k,.string ⟨t.toArray⟩,.int .i64 n,.int .i64 at_] 96 (0,0)
def zcell:Obj:=.cells #[.int .i64 0,.string ⟨#[]⟩,.int .i64 0,.int .i64 0] 96 (0,0)
theorem F0 {B:Nat} {a w:World} (h:Below B a w) {q:Nat} (b:B<=q) (v0 v1 v2 v3:Value):Below B a ((((w.setCell ⟨q,0,none⟩ v0).setCell ⟨q,1,none⟩ v1).setCell ⟨q,2,none⟩ v2).setCell ⟨q,3,none⟩ v3):=
 (((h.setCell (p:=⟨q,0,none⟩) b v0).setCell (p:=⟨q,1,none⟩) b v1).setCell (p:=⟨q,2,none⟩) b v2).setCell (p:=⟨q,3,none⟩) b v3
theorem tok_word (s:ByteArray) (k:Int) (w:World):
 Calls Tryz.prog 109 #[.string s,.int .i64 k] w fun e w'=>e=.returned (lxr (Bq k s.data.toList))/\Below w.heap.size w w':=by
 have g:=D_ (fun W=>AQ s W);have c:=F1 X2 s.data.toList;rw [C0]at c;have h:=D_ (Ox s);have d:=D_ (fun o:Obj=>(F_ w.heap.size w).alloc (R_ _) o);unfold lxr lxv Bq;dsimp only;generalize O0 X2 s.data.toList=n at*;go_enter Tryz.func109,Tryz.ntmps109;go_wp2_with fail;refine(g.out _).mono ?_;rintro e w1 ⟨rfl,a⟩;obtain⟨c0,c1,c2,c3,f0,f1,f2,f3⟩:=P0 (K0 a (S0 w _));have b:=(d.out _).trans (a.mono (by simp));clear a;go_wp2_with fail;refine B_ (v:=.tuple #[.agg #[.int .i64 k,.string (s.extract 0 n),.int .i64 0,.int .i64 0],.int .i64 (n:Nat)]) (by simp [results,Tryz.results109,go_sem,c0,c1,c2,c3]) rfl ⟨by rw [h.out],F0 b (R_ _) _ _ _ _⟩
theorem tok_named (x:Lx) (w:World) (q:x.text.length<=maxLen) (l:TabsT w):
 Calls Tryz.prog 108 #[lxv x,.int .i64 (x.w:Nat)] w fun e w'=>e=.returned (lxr (V1 x))/\Below w.heap.size w w':=by
 obtain⟨k,t,n,m⟩:=x;have g:(⟨t.toArray⟩:ByteArray).size<=maxLen:=by rw [Lq];exact q
 have b:=D_ (fun W (h:TabsT W)=>ax ⟨t.toArray⟩ W g h.1);have p:(⟨t.toArray⟩:ByteArray).data.toList=t:=by simp
 rw [p]at b;have i:=D_ (fun o o2:Obj=>((F_ w.heap.size w).alloc (R_ _) o).alloc (by simp) o2);have j:=D_ (fun o o2:Obj=>l.on (((F_ w.heap.size w).alloc (R_ _) o).alloc (by simp) o2));clear q g p l;unfold lxr lxv V1;dsimp only;cases hc:K2 t with
 |true=>
  rw [hc]at b;rw [J_ rfl];go_enter Tryz.func108,Tryz.ntmps108;go_wp2_with fail;refine(b.out _ (j.out _ _)).mono ?_;rintro e w1 ⟨rfl,a⟩;obtain⟨c0,c1,c2,c3,f0,f1,f2,f3⟩:=P0 (K0 a (j1 (S0 w _) _));have d:=P0 (K0 a (S0 (w.alloc _) _));rw [Z_]at d;obtain⟨d0,d1,d2,d3,g0,g1,g2,g3⟩:=d;have c:=(i.out _ _).trans (a.mono (by simp;omega));clear a f0 f1 f2 f3;go_wp2_with fail;refine B_ (v:=.tuple #[.agg #[.int .i64 k,.string ⟨t.toArray⟩,.int .i64 n,.int .i64 0],.int .i64 (m:Nat)]) (by simp [results,Tryz.results108,go_sem,d0,d1,d2,d3]) rfl ⟨rfl,F0 c (by omega) _ _ _ _⟩
 |false=>
  rw [hc]at b;rw [I_ (by decide)];go_enter Tryz.func108,Tryz.ntmps108;go_wp2_with fail;refine(b.out _ (j.out _ _)).mono ?_;rintro e w1 ⟨rfl,a⟩;have d:=P0 (K0 a (S0 (w.alloc _) _));rw [Z_]at d;obtain⟨d0,d1,d2,d3,g0,g1,g2,g3⟩:=d;have c:=(i.out _ _).trans (a.mono (by simp;omega));clear a;go_wp2_with fail;refine B_ (v:=.tuple #[.agg #[.int .i64 0,.string ⟨#[]⟩,.int .i64 0,.int .i64 0],.int .i64 0]) (by simp [results,Tryz.results108,go_sem,d0,d1,d2,d3]) rfl ⟨rfl,F0 c (by omega) _ _ _ _⟩
theorem wQ (s:ByteArray) (w:World):
 Calls Tryz.prog 116 #[.string s] w fun e w'=>e=.returned (lxr ⟨0,[],0,O0 A5 s.data.toList⟩)/\Below w.heap.size w w':=by
 have d:=D_ (fun W=>zQ s W);have c:=D_ (fun o:Obj=>(F_ w.heap.size w).alloc (R_ _) o);unfold lxr lxv;dsimp only;generalize O0 A5 s.data.toList=n at*;go_enter Tryz.func116,Tryz.ntmps116;go_wp2_with fail;refine(d.out _).mono ?_;rintro e w1 ⟨rfl,a⟩;obtain⟨c0,c1,c2,c3,f0,f1,f2,f3⟩:=P0 (K0 a (S0 w _));have b:=(c.out _).trans (a.mono (by simp));clear a;go_wp2_with fail;refine B_ (v:=.tuple #[.agg #[.int .i64 0,.string ⟨#[]⟩,.int .i64 0,.int .i64 0],.int .i64 (n:Nat)]) (by simp [results,Tryz.results116,go_sem,c0,c1,c2,c3]) rfl ⟨rfl,F0 b (R_ _) _ _ _ _⟩
theorem tok_quoted (s:ByteArray) (w:World) (l:s.size<=200000) (j:TabsT w):
 Calls Tryz.prog 114 #[.string s] w fun e w'=>e=.returned (lxr (Q4 s.data.toList))/\Below w.heap.size w w':=by
 have c:=D_ (fun W (h:TabsT W)=>char_Read s W l h.1);have g:=D_ (fun o:Obj=>(F_ w.heap.size w).alloc (R_ _) o);have i:=D_ (fun o:Obj=>j.on ((F_ w.heap.size w).alloc (R_ _) o));clear j;unfold Q4;cases d:N3 s.data.toList with
 |none=>
  obtain⟨e1,e2,e3⟩:=P5 d;rw [e1,e2,e3]at c;clear d e1 e2 e3;unfold lxr lxv lx0;dsimp only;go_enter Tryz.func114,Tryz.ntmps114;go_wp2_with fail;refine(c.out _ (i.out _)).mono ?_;rintro e w1 ⟨rfl,a⟩;obtain⟨c0,c1,c2,c3,f0,f1,f2,f3⟩:=P0 (K0 a (S0 w _));have b:=(g.out _).trans (a.mono (by simp));clear a;go_wp2_with fail;refine B_ (v:=.tuple #[.agg #[.int .i64 0,.string ⟨#[]⟩,.int .i64 0,.int .i64 0],.int .i64 0]) (by simp [results,Tryz.results114,go_sem,c0,c1,c2,c3]) rfl ⟨rfl,F0 b (R_ _) _ _ _ _⟩
 |some r=>
  obtain⟨t,k⟩:=r;obtain⟨e1,e2,e3⟩:=D7 d;rw [e1,e2,e3]at c;clear d e1 e2 e3;unfold lxr lxv;dsimp only;generalize (⟨t.toArray⟩:ByteArray)=u at*;go_enter Tryz.func114,Tryz.ntmps114;go_wp2_with fail;refine(c.out _ (i.out _)).mono ?_;rintro e w1 ⟨rfl,a⟩;obtain⟨c0,c1,c2,c3,f0,f1,f2,f3⟩:=P0 (K0 a (S0 w _));have b:=(g.out _).trans (a.mono (by simp));clear a;go_wp2_with fail;refine B_ (v:=.tuple #[.agg #[.int .i64 2,.string u,.int .i64 0,.int .i64 0],.int .i64 (k:Nat)]) (by simp [results,Tryz.results114,go_sem,c0,c1,c2,c3]) rfl ⟨rfl,F0 b (R_ _) _ _ _ _⟩
theorem Hj {s:ByteArray} {b:UInt8} {t:List UInt8} (h:s.data.toList=b::t): ∃a:0<s.size,s[0]=b:=by
 have d:s.data.toList.length=s.size:=by simp
 have a:0<s.size:=by rw [<-d,h,List.length_cons];omega
 refine⟨a,?_⟩;have c:s.data.toList[0]?=some b:=by rw [h];rfl
 have g:s.data.toList[0]?=some s[0]:=by
  rw [List.getElem?_eq_getElem (by omega)];rfl
 rw [g]at c;exact Option.some.inj c
theorem tok_single (s:ByteArray) (c:Int) (b:UInt8) (t:List UInt8) (w:World) (h:s.data.toList=b::t) (hc:c=(b.toNat:Int)):
 Calls Tryz.prog 115 #[.string s,.int .i32 c] w fun e w'=>e=.returned (lxr (G4 b))/\Below w.heap.size w w':=by
 obtain⟨q,_⟩:=Hj h;have g:=D_ (Ox s 1);rw [h,List.take_succ_cons,List.take_zero]at g;have k:=D_ (fun o:Obj=>(F_ w.heap.size w).alloc (R_ _) o);have p:(c==33)=true\/((c==33)=false/\(c==59)=true)\/((c==33)=false/\(c==59)=false/\b≠33/\b≠59):=by
  by_cases i:c=33
  · exact .inl (by simpa using i)
  by_cases l:c=59
  · exact .inr (.inl ⟨by simpa using i,by simpa using l⟩)
  · exact .inr (.inr ⟨by simpa using i,by simpa using l,fun e=>i (by rw [hc,e];rfl),fun e=>l (by rw [hc,e];rfl)⟩)
 obtain⟨E,n⟩: ∃E,G4 b=E:=⟨_,rfl⟩;have a:(c==33)=true\/(c==59)=true->G4 b=⟨1,[b],0,1⟩:=fun h=>by
  unfold G4;have:b=33\/b=59:=by
   rcases h with h|h
   · left;apply UInt8.toNat_inj.1;simp at h;have:((33:UInt8).toNat:Int)=33:=rfl;omega
   · right;apply UInt8.toNat_inj.1;simp at h;have:((59:UInt8).toNat:Int)=59:=rfl;omega
  rw [J_ this]
 have d:b≠33/\b≠59->G4 b=⟨6,[b],0,1⟩:=fun h=>by
  unfold G4;rw [I_ (by rintro(e|e);exact h.1 e;exact h.2 e)]
 rw [n]at a d⊢;have j:=D_ a;have m:=D_ d;clear a d n hc h;rcases p with e1|⟨e1,e2⟩|⟨e1,e2,n1⟩
 · rw [j.out (.inl e1)];unfold lxr lxv;dsimp only;go_enter Tryz.func115,Tryz.ntmps115;go_wp2_with fail;refine B_ (v:=.tuple #[.agg #[.int .i64 1,.string (s.extract 0 1),.int .i64 0,.int .i64 0],.int .i64 1]) (by simp [results,Tryz.results115,go_sem]) rfl ⟨by rw [g.out];rfl,k.out _⟩
 · rw [j.out (.inr e2)];unfold lxr lxv;dsimp only;go_enter Tryz.func115,Tryz.ntmps115;go_wp2_with fail;refine B_ (v:=.tuple #[.agg #[.int .i64 1,.string (s.extract 0 1),.int .i64 0,.int .i64 0],.int .i64 1]) (by simp [results,Tryz.results115,go_sem]) rfl ⟨by rw [g.out];rfl,k.out _⟩
 · rw [m.out n1];clear n1;unfold lxr lxv;dsimp only;go_enter Tryz.func115,Tryz.ntmps115;go_wp2_with fail;refine B_ (v:=.tuple #[.agg #[.int .i64 6,.string (s.extract 0 1),.int .i64 0,.int .i64 0],.int .i64 1]) (by simp [results,Tryz.results115,go_sem]) rfl ⟨by rw [g.out];rfl,k.out _⟩
theorem tok_parts (s:ByteArray) (w:World):
 Calls Tryz.prog 140 #[.string s] w fun e w'=>e=.returned (.bool (z7 s.data.toList))/\w=w':=by
 cases a:s.data.toList with
 |nil=>
  have g:s.size=0:=by rw [<-C0,a];rfl
  have f0:s.toList.isEmpty=true:=by rw [ByteArray.toList_eq,a];rfl
  clear a;unfold z7;go_enter Tryz.func140,Tryz.ntmps140;go_wp2_with fail;go_ret;exact⟨rfl,rfl⟩
 | cons b t=>
  obtain⟨g,i⟩:=Hj a;have f0:s.toList.isEmpty=false:=by rw [ByteArray.toList_eq,a];rfl
  have j:(b.toNat:Int)<256:=by have:=b.toNat_lt;omega
  have d:=D_ (d9 (b.toNat:Int) w);unfold z7;dsimp only;generalize cls (b.toNat:Int)=q at*;have e1:((b.toNat:Int)==37)=decide (b=37):=by
   rw [Bool.eq_iff_iff];simp only [beq_iff_eq,decide_eq_true_eq]
   constructor
   · intro h;apply UInt8.toNat_inj.1;have:((37:UInt8).toNat:Int)=37:=rfl;omega
   · rintro rfl;rfl
  clear a;generalize hx:s[0]=x at*;subst i;cases c:decide (x=37)with
  |true=>
   rw [c]at e1;go_enter Tryz.func140,Tryz.ntmps140;go_wp2_with fail;go_ret;exact⟨rfl,rfl⟩
  |false=>
   rw [c]at e1;go_enter Tryz.func140,Tryz.ntmps140;go_wp2_with fail;refine d.out.mono ?_;rintro e w1 ⟨rfl,rfl⟩;go_wp2_with fail;go_ret;exact⟨N4 (by rw [Bool.false_or,Bool.eq_iff_iff];simp),rfl⟩
theorem tok_signs (s:ByteArray) (w:World):
 Calls Tryz.prog 113 #[.string s] w fun e w'=>e=.returned (lxr (U9 s.data.toList))/\Below w.heap.size w w':=by
 have j:=D_ (fun W=>Yz s W);have m:=F1 U1 s.data.toList;rw [C0]at m;have l:=D_ (Ox s);have g:=D_ (fun o:Obj=>(F_ w.heap.size w).alloc (R_ _) o);unfold lxr lxv U9;dsimp only;generalize O0 U1 s.data.toList=n at*;have e46:((s.extract 0 n).toList== [46])=decide (s.data.toList.take n= [46]):=by
  rw [ByteArray.toList_eq,l.out,Bool.eq_iff_iff];simp
 have i:=D_ (fun W=>tok_parts (s.extract n s.size) W);rw [show(s.extract n s.size).data.toList=s.data.toList.drop n from by rw [S6]]at i;have b: ∀k:Int,((s.extract 0 n).toList== [46])=false/\k=3\/((s.extract 0 n).toList== [46])=true/\z7 (s.data.toList.drop n)=false/\k=3\/((s.extract 0 n).toList== [46])=true/\z7 (s.data.toList.drop n)=true/\k=8->
  Calls Tryz.prog 113 #[.string s] w fun e w'=>e=.returned (.tuple #[.agg #[.int .i64 k,.string (s.extract 0 n),.int .i64 0,.int .i64 0],.int .i64 (n:Nat)])/\Below w.heap.size w w':=by
  intro k q;clear e46;generalize z7 (s.data.toList.drop n)=pb at*;rcases q with⟨e1,rfl⟩|⟨e1,rfl,rfl⟩|⟨e1,rfl,rfl⟩
  · go_enter Tryz.func113,Tryz.ntmps113;go_wp2_with fail;refine(j.out _).mono ?_;rintro e w1 ⟨rfl,a⟩;obtain⟨c0,c1,c2,c3,f0,f1,f2,f3⟩:=P0 (K0 a (S0 w _));have c:=(g.out _).trans (a.mono (by simp));clear a;go_wp2_with fail;refine B_ (v:=.tuple #[.agg #[.int .i64 3,.string (s.extract 0 n),.int .i64 0,.int .i64 0],.int .i64 (n:Nat)]) (by simp [results,Tryz.results113,go_sem,c0,c1,c2,c3]) rfl ⟨rfl,F0 c (R_ _) _ _ _ _⟩
  · go_enter Tryz.func113,Tryz.ntmps113;go_wp2_with fail;refine(j.out _).mono ?_;rintro e w1 ⟨rfl,a⟩;obtain⟨c0,c1,c2,c3,f0,f1,f2,f3⟩:=P0 (K0 a (S0 w _));have c:=(g.out _).trans (a.mono (by simp));clear a;go_wp2_with fail;refine(i.out _).mono ?_;rintro e w2 ⟨rfl,rfl⟩;go_wp2_with fail;refine B_ (v:=.tuple #[.agg #[.int .i64 3,.string (s.extract 0 n),.int .i64 0,.int .i64 0],.int .i64 (n:Nat)]) (by simp [results,Tryz.results113,go_sem,c0,c1,c2,c3]) rfl ⟨rfl,F0 c (R_ _) _ _ _ _⟩
  · go_enter Tryz.func113,Tryz.ntmps113;go_wp2_with fail;refine(j.out _).mono ?_;rintro e w1 ⟨rfl,a⟩;obtain⟨c0,c1,c2,c3,f0,f1,f2,f3⟩:=P0 (K0 a (S0 w _));have c:=(g.out _).trans (a.mono (by simp));clear a;go_wp2_with fail;refine(i.out _).mono ?_;rintro e w2 ⟨rfl,rfl⟩;go_wp2_with fail;refine B_ (v:=.tuple #[.agg #[.int .i64 8,.string (s.extract 0 n),.int .i64 0,.int .i64 0],.int .i64 (n:Nat)]) (by simp [results,Tryz.results113,go_sem,c0,c1,c2,c3]) rfl ⟨rfl,F0 c (R_ _) _ _ _ _⟩
 rw [<-l.out n];by_cases d:s.data.toList.take n= [46]
 · rw [decide_eq_true d]at e46;cases p:z7 (s.data.toList.drop n)with
   |false=>rw [I_ (by rintro⟨_,h⟩;cases h)];exact b 3 (.inr (.inl ⟨e46,p,rfl⟩))
   |true=>rw [J_ ⟨d,rfl⟩];exact b 8 (.inr (.inr ⟨e46,p,rfl⟩))
 · rw [decide_eq_false d]at e46;rw [I_ (fun h=>d h.1)];exact b 3 (.inl ⟨e46,rfl⟩)
theorem Fz {B:Nat} {a w:World} (h:Below B a w) (n:Nat):Below B a (w.drewN n):=⟨h.os,h.tape,h.output,h.size,h.block⟩
theorem Hz: ∀l:List UInt8,(A4 l=none/\Lib.index l [42,47]= -1)\/ ∃k:Nat,A4 l=some (k+2)/\Lib.index l [42,47]=k
 | []=>.inl ⟨rfl,rfl⟩
 | b::t=>by
  have g: [42,47].isPrefixOf (b::t)=decide (b=42/\t.headD 0=47/\t≠ []):=by
   cases t with
   |nil=>simp [List.isPrefixOf]
   |cons c u=>
    rw [Bool.eq_iff_iff];simp [List.isPrefixOf]
    constructor
    · rintro⟨a,d⟩;exact⟨a.symm,d.symm⟩
    · rintro⟨a,d⟩;exact⟨a.symm,d.symm⟩
  unfold A4 Lib.index;rw [g];by_cases h:b=42/\t.headD 0=47/\t≠ []
  · rw [decide_eq_true h,J_ h,J_ rfl];exact .inr ⟨0,rfl,rfl⟩
  · rw [decide_eq_false h,I_ h,I_ (by decide)];rcases Hz t with⟨a,d⟩|⟨k,a,d⟩
    · rw [a,d];exact .inl ⟨rfl,rfl⟩
    · rw [a,d,I_ (by simp)];exact .inr ⟨k+1,rfl,by omega⟩
theorem take2_size {s:ByteArray} {x y:UInt8} (h:s.data.toList.take 2= [x,y]):2<=s.size:=by
 have a:=congrArg List.length h;rw [List.length_take,C0]at a;simp only [List.length_cons,List.length_nil]at a
 omega
theorem tok_closed (s:ByteArray) (w:World) (x:2<=s.size) (y:s.size<=200000) (r:TabsT w):
 Calls Tryz.prog 112 #[.string s] w fun e w'=>e=.returned (lxr (X6 s.data.toList))/\Below w.heap.size w w':=by
 have j:=D_ (fun o:Obj=>(F_ w.heap.size w).alloc (R_ _) o);obtain⟨m,n⟩:=r.2;have g: ∀o,(w.alloc o).cell? ⟨2,0,none⟩=some (.int .i64 m):=fun o=>by
  rw [<-n];exact(j.out o).cell (p:=⟨_,_,none⟩) (Z7 n)
 have i:(s.extract 2 s.size).size<4294967281:=by rw [ByteArray.size_extract];omega
 have b:=D_ (fun W h=>Tryz.strings_Cut (s.extract 2 s.size) ⟨#[42,47]⟩ m W i h);rw [show(s.extract 2 s.size).data.toList=s.data.toList.drop 2 from by rw [S6]]at b;rw [show(⟨#[42,47]⟩:ByteArray).data.toList= [42,47]from rfl]at b;have q:=D_ g;clear g n r i;unfold X6;rcases Hz (s.data.toList.drop 2)with⟨c,d⟩|⟨k,c,d⟩
 · have a:Lib.cut (s.data.toList.drop 2) [42,47]=(s.data.toList.drop 2,[],false):=by unfold Lib.cut;rw [d,I_ (by decide)]
   rw [a]at b;rw [c];unfold lxr lxv lx0;dsimp only at b⊢;clear c d a;go_enter Tryz.func112,Tryz.ntmps112;go_wp2_with fail;refine(b.out _ (q.out _)).mono ?_;rintro e w1 ⟨rfl,nd,rfl⟩;go_wp2_with fail;refine B_ (v:=.tuple #[.agg #[.int .i64 0,.string ⟨#[]⟩,.int .i64 0,.int .i64 0],.int .i64 0]) (by simp [results,Tryz.results112,go_sem]) rfl ⟨rfl,?_⟩;exact F0 (Fz (j.out _) _) (R_ _) _ _ _ _
 · have a:Lib.cut (s.data.toList.drop 2) [42,47]=((s.data.toList.drop 2).take k,(s.data.toList.drop 2).drop (k+2),true):=by
    unfold Lib.cut;rw [d,J_ (by omega)];rfl
   rw [a]at b;rw [c];have t:=(Y8 _ _ c).1;rw [List.length_drop,C0]at t;have l:(⟨((s.data.toList.drop 2).take k).toArray⟩:ByteArray).size=k:=by
    rw [Lq,List.length_take,List.length_drop,C0];omega
   unfold lxr lxv;dsimp only at b⊢;clear c d a;generalize (⟨((s.data.toList.drop 2).take k).toArray⟩:ByteArray)=u at*;subst l;generalize (⟨((s.data.toList.drop 2).drop (u.size+2)).toArray⟩:ByteArray)=u2 at*;go_enter Tryz.func112,Tryz.ntmps112;go_wp2_with fail;refine(b.out _ (q.out _)).mono ?_;rintro e w1 ⟨rfl,nd,rfl⟩;go_wp2_with fail;refine B_ (v:=.tuple #[.agg #[.int .i64 0,.string ⟨#[]⟩,.int .i64 0,.int .i64 0],.int .i64 (u.size+2+2:Nat)]) (by simp [results,Tryz.results112,go_sem];omega) rfl ⟨rfl,?_⟩;exact F0 (Fz (j.out _) _) (R_ _) _ _ _ _
theorem Gx (s:ByteArray) (h:s.size=0):Lib.decodeGo s=(65533,0):=by
 unfold Lib.decodeGo;simp [h]
theorem dj (l:List UInt8) (x y:UInt8):Lib.hasPrefix l [x,y]=decide (l.take 2= [x,y]):=by
 unfold Lib.hasPrefix;rw [Bool.eq_iff_iff];match l with
 | []=>simp [List.isPrefixOf]
 | [a]=>simp [List.isPrefixOf]
 |a::b::t=>
  simp [List.isPrefixOf]
  constructor
  · rintro⟨c,d⟩;exact⟨c.symm,d.symm⟩
  · rintro⟨c,d⟩;exact⟨c.symm,d.symm⟩
theorem trimPre2 (l:List UInt8) (x y:UInt8):Lib.trimPrefix l [x,y]=if l.take 2= [x,y]then l.drop 2 else l:=by
 unfold Lib.trimPrefix;rw [dj];by_cases h:l.take 2= [x,y]
 · rw [decide_eq_true h,J_ rfl,J_ h];rfl
 · rw [decide_eq_false h,I_ (by decide),I_ h]
theorem Rz (r:List UInt8):(r.take 2= [39,39]/\T4 r=(39,4))\/
 (¬r.take 2= [39,39]/\ ∃c n:Nat,c<=1114111/\n<=r.length/\Lib.decodeGo ⟨r.toArray⟩=(c,n)/\((c<32\/c=39\/c=92\/(c=65533/\n<2))/\T4 r=(0,0)\/(32<=c/\c≠39/\c≠92/\ ¬(c=65533/\n<2))/\T4 r=((c:Int),2+n))):=by
 unfold T4;by_cases h:r.take 2= [39,39]
 · rw [J_ h];exact .inl ⟨h,rfl⟩
 rw [I_ h];refine .inr ⟨h,?_⟩;by_cases a:r= []
 · subst a;rw [J_ (.inl rfl)];exact⟨65533,0,by decide,R_ _,Gx _ rfl,.inl ⟨.inr (.inr (.inr ⟨rfl,by decide⟩)),rfl⟩⟩
 · have g:0<r.length:=List.length_pos_iff.2 a;have d:Lib.decodeGo ⟨r.toArray⟩=Lib.decodeL r:=by
    rw [F8 _ (by rw [Lq];omega)]
   refine⟨(Lib.decodeL r).1,(Lib.decodeL r).2,Lib.decodeL_rune r,Lib.decodeL_le r a,d,?_⟩;by_cases b:(Lib.decodeL r).1<32\/(Lib.decodeL r).1=39\/(Lib.decodeL r).1=92\/((Lib.decodeL r).1=65533/\(Lib.decodeL r).2<2)
   · exact .inl ⟨b,J_ (.inr b)⟩
   · refine .inr ⟨by omega,I_ ?_⟩;rintro(e|e)
     · exact a e
     · exact b e
def runeV (p:Int×Nat):Value:=.tuple #[.int .i32 p.1,.int .i64 (p.2:Nat)]
theorem yQ (s:ByteArray) (w:World) (m:TabsT w) (B:s.size<=200000):
 Calls Tryz.prog 134 #[.string s] w fun e w'=>e=.returned (runeV (B1 s.data.toList))/\Below w.heap.size w w':=by
 have a:=D_ (fun W=>Tryz.strings_CutPrefix s ⟨#[48,39]⟩ W);rw [show(⟨#[48,39]⟩:ByteArray).data.toList= [48,39]from rfl,dj,trimPre2]at a;unfold B1;by_cases h:s.data.toList.take 2= [48,39]
 · rw [J_ h];rw [J_ h,decide_eq_true h]at a;have k:(s.data.toList.drop 2).length<=200000:=by rw [List.length_drop,C0];omega
   clear h;generalize s.data.toList.drop 2=r at*;have d:=D_ (fun W=>Tryz.strings_HasPrefix ⟨r.toArray⟩ ⟨#[39,39]⟩ W);rw [show(⟨#[39,39]⟩:ByteArray).data.toList= [39,39]from rfl,dj,show(⟨r.toArray⟩:ByteArray).data.toList=r from by simp]at d;rcases Rz r with⟨i,b⟩|⟨i,c,n,v,z,x,b⟩
   · rw [b];rw [decide_eq_true i]at d;unfold runeV;clear i b k m;generalize (⟨r.toArray⟩:ByteArray)=u at*;go_enter Tryz.func134,Tryz.ntmps134;go_wp2_with fail;refine(a.out _).mono ?_;rintro e w1 ⟨rfl,rfl⟩;go_wp2_with fail;refine(d.out _).mono ?_;rintro e w1 ⟨rfl,rfl⟩;go_wp2_with fail;go_ret2;exact⟨rfl,F_ _ _⟩
   · rw [decide_eq_false i]at d;have g:=D_ (Tryz.utf8_DecodeRuneInString ⟨r.toArray⟩ w m.1.1);rw [x]at g;have A:n<=200000:=by omega
     clear i x m k z;generalize (⟨r.toArray⟩:ByteArray)=u at*;dsimp only at g;obtain⟨ci,j⟩: ∃ci:Int,(c:Int)=ci:=⟨_,rfl⟩;rw [j]at g;unfold runeV;have o:((ci<32\/(32<=ci/\(ci==39)=true)\/(32<=ci/\(ci==39)=false/\(ci==92)=true)\/(32<=ci/\(ci==39)=false/\(ci==92)=false/\(ci==65533)=true/\(n:Int)<2))/\T4 r=(0,0))\/
      (((32<=ci/\(ci==39)=false/\(ci==92)=false/\(ci==65533)=false)\/(32<=ci/\(ci==39)=false/\(ci==92)=false/\(ci==65533)=true/\(2:Int)<=n))/\T4 r=(ci,2+n)):=by
      subst j;simp only [beq_iff_eq,beq_eq_false_iff_ne]
      rcases b with⟨b,p⟩|⟨b,p⟩
      · refine .inl ⟨?_,p⟩;by_cases a1:c<32
        · left;omega
        by_cases a2:c=39
        · right;left;omega
        by_cases a3:c=92
        · right;right;left;omega
        · right;right;right;omega
      · refine .inr ⟨?_,p⟩;by_cases a1:c=65533
        · right;omega
        · left;omega
     clear b j v;rcases o with⟨t,l⟩|⟨t,l⟩
     · rw [l];clear l;dsimp only;rcases t with e1|⟨e1,e2⟩|⟨e1,e2,e3⟩|⟨e1,e2,e3,e4,e5⟩
       all_goals
        go_enter Tryz.func134,Tryz.ntmps134;go_wp2_with fail;refine(a.out _).mono ?_;rintro e w1 ⟨rfl,rfl⟩;go_wp2_with fail;refine(d.out _).mono ?_;rintro e w1 ⟨rfl,rfl⟩;go_wp2_with fail;refine g.out.mono ?_;rintro e w1 ⟨rfl,q⟩;go_wp2_with fail;go_ret2;exact⟨rfl,q⟩
     · rw [l];clear l;dsimp only;have y:Hid ((2:Int)+n=((2+n:Nat):Int)):=D_ (by omega);rcases t with⟨e1,e2,e3,e4⟩|⟨e1,e2,e3,e4,e5⟩
       all_goals
        go_enter Tryz.func134,Tryz.ntmps134;go_wp2_with fail;refine(a.out _).mono ?_;rintro e w1 ⟨rfl,rfl⟩;go_wp2_with fail;refine(d.out _).mono ?_;rintro e w1 ⟨rfl,rfl⟩;go_wp2_with fail;refine g.out.mono ?_;rintro e w1 ⟨rfl,q⟩;go_wp2_with fail;go_ret2;exact⟨by rw [y.out];rfl,q⟩
 · rw [I_ h];rw [I_ h,decide_eq_false h]at a;clear h m;unfold runeV;go_enter Tryz.func134,Tryz.ntmps134;go_wp2_with fail;refine(a.out _).mono ?_;rintro e w1 ⟨rfl,rfl⟩;go_wp2_with fail;go_ret2;exact⟨rfl,F_ _ _⟩
theorem xQ (l:List UInt8):0<=(B1 l).1/\(B1 l).1<=1114111:=by
 unfold B1;split
 · unfold T4;split
   · decide
   · split
     · decide
     · have:=Lib.decodeL_rune (l.drop 2);show 0<=((Lib.decodeL (l.drop 2)).1:Int)/\_<=_
       omega
 · decide
theorem cat_minus (s:ByteArray) (n:Nat):(⟨#[45]⟩++s.extract 0 n:ByteArray).data.toList=45::s.data.toList.take n:=by
 rw [Ox,ByteArray.data_append];simp
theorem tok_number (s:ByteArray) (w:World) (u:TabsT w) (C:s.size<=200000):
 Calls Tryz.prog 110 #[.string s] w fun e w'=>e=.returned (lxr (C2 s.data.toList))/\Below w.heap.size w w':=by
 have l:=D_ (fun o:Obj=>(F_ w.heap.size w).alloc (R_ _) o);have j:=D_ (fun o=>yQ s (w.alloc o) (u.on ((F_ w.heap.size w).alloc (R_ _) o)) C);have y:=xQ s.data.toList;have z:=pQ s.data.toList;rw [C0]at z;clear u;unfold C2;unfold runeV at j;generalize (B1 s.data.toList).1=c at*;generalize (B1 s.data.toList).2=m at*;obtain⟨A,B⟩:=y;by_cases r:0<m
 · rw [J_ r];unfold lxr lxv;dsimp only;go_enter Tryz.func110,Tryz.ntmps110;go_wp2_with fail;refine(j.out _).mono ?_;rintro e w1 ⟨rfl,a⟩;obtain⟨c0,c1,c2,c3,f0,f1,f2,f3⟩:=P0 (K0 a (S0 w _));have d:=(l.out _).trans (a.mono (by simp));clear a;go_wp2_with fail;refine B_ (v:=.tuple #[.agg #[.int .i64 5,.string ⟨#[]⟩,.int .i64 c,.int .i64 0],.int .i64 (m:Nat)]) (by simp [results,Tryz.results110,go_sem,c0,c1,c2,c3]) rfl ⟨rfl,F0 d (R_ _) _ _ _ _⟩
 · obtain rfl:m=0:=by omega
   rw [I_ r];clear r;have t:=D_ (fun W=>Cz s W);have q:=F1 J3 s.data.toList;rw [C0]at q;generalize O0 J3 s.data.toList=n at*;have k:(⟨#[45]⟩++s.extract 0 n:ByteArray).size<=maxLen:=by
    rw [ByteArray.size_append,ByteArray.size_extract];show 1+_<=maxLen
    unfold maxLen;omega
   have p:=D_ (fun W=>num_Read (⟨#[45]⟩++s.extract 0 n) W k);rw [cat_minus]at p;clear k;generalize B5 (45::s.data.toList.take n)=v at*;generalize X5 (45::s.data.toList.take n)=x at*;by_cases hx:x=0
   · subst hx;rw [J_ rfl];unfold lxr lxv;dsimp only;go_enter Tryz.func110,Tryz.ntmps110;go_wp2_with fail;refine(j.out _).mono ?_;rintro e w1 ⟨rfl,a⟩;have i:=K0 a (S0 w _);have d:=(l.out _).trans (a.mono (by simp));clear a;go_wp2_with fail;refine(t.out _).mono ?_;rintro e w2 ⟨rfl,a⟩;have g:=K0 a i;have b:=d.trans (a.mono d.size);clear a i d;go_wp2_with fail;refine(p.out _).mono ?_;rintro e w3 ⟨rfl,a⟩;obtain⟨c0,c1,c2,c3,f0,f1,f2,f3⟩:=P0 (K0 a g);have h:=b.trans (a.mono b.size);clear a g b;go_wp2_with fail;refine B_ (v:=.tuple #[.agg #[.int .i64 5,.string ⟨#[]⟩,.int .i64 (wrap64 (-v)),.int .i64 0],.int .i64 (n:Nat)]) (by simp [results,Tryz.results110,go_sem,c0,c1,c2,c3]) rfl ⟨rfl,F0 h (R_ _) _ _ _ _⟩
   · rw [I_ hx];unfold lxr lxv lx0;dsimp only;have e1:(x !=0)=true:=by simpa using hx
     clear hx;go_enter Tryz.func110,Tryz.ntmps110;go_wp2_with fail;refine(j.out _).mono ?_;rintro e w1 ⟨rfl,a⟩;have i:=K0 a (S0 w _);have d:=(l.out _).trans (a.mono (by simp));clear a;go_wp2_with fail;refine(t.out _).mono ?_;rintro e w2 ⟨rfl,a⟩;have g:=K0 a i;have b:=d.trans (a.mono d.size);clear a i d;go_wp2_with fail;refine(p.out _).mono ?_;rintro e w3 ⟨rfl,a⟩;obtain⟨c0,c1,c2,c3,f0,f1,f2,f3⟩:=P0 (K0 a g);have h:=b.trans (a.mono b.size);clear a g b;go_wp2_with fail;refine B_ (v:=.tuple #[.agg #[.int .i64 0,.string ⟨#[]⟩,.int .i64 0,.int .i64 0],.int .i64 0]) (by simp [results,Tryz.results110,go_sem,c0,c1,c2,c3]) rfl ⟨rfl,F0 h (R_ _) _ _ _ _⟩
theorem cls_first {b:UInt8} {t:List UInt8} {c:Int} (hc:c=((Lib.decodeL (b::t)).1:Int)):cls c=cls (b.toNat:Int)/\(c==37)=decide (b=37)/\(b.toNat<128->c=(b.toNat:Int)):=by
 by_cases a:b.toNat<128
 · rw [Lib.decodeL_ascii b t a]at hc;have d:c=(b.toNat:Int):=hc;subst d;refine⟨rfl,?_,fun _=>rfl⟩;rw [Bool.eq_iff_iff];simp only [beq_iff_eq,decide_eq_true_eq]
   constructor
   · intro h;apply UInt8.toNat_inj.1;have:((37:UInt8).toNat:Int)=37:=rfl;omega
   · rintro rfl;rfl
 · have g:=jz b t (by omega);refine⟨by rw [J7 _ (by omega),J7 _ (by omega)],?_,fun h=>absurd h a⟩;rw [Bool.eq_iff_iff];simp only [beq_iff_eq,decide_eq_true_eq]
   constructor
   · intro h;omega
   · rintro rfl;exact absurd (by decide) a
theorem Qj (b:UInt8) (t:List UInt8) (h:cls (b.toNat:Int)=5):G0 (b::t)=⟨0,[],0,1⟩:=by
 unfold G0;dsimp only;rw [J_ h]
theorem UJ (l out:List UInt8) (a:Nat): ∀o k,j3 l out a=some (o,k)->o.length<=out.length+4*l.length:=by
 induction h:l.length using Nat.strongRecOn generalizing l out a with
 | _ n ih=>
  intro o k b;by_cases c:l= []
  · subst c;cases b
  · have v:0<l.length:=List.length_pos_iff.2 c;have s:=Lib.decodeL_width l;have q:=Lib.decodeL_le l c;have go: ∀d (u:List UInt8) a2,0<d->d<=l.length->u.length<=4->j3 (l.drop d) (out++u) a2=some (o,k)->o.length<=out.length+4*n:=fun d u a2 j t w b=>by
     have:=ih _ (by rw [List.length_drop];omega) (l.drop d) (out++u) a2 rfl o k b;rw [P_,List.length_drop]at this;omega
    rw [i4 l out a c]at b;by_cases g:(Lib.decodeL l).1=39
    · rw [J_ g]at b;by_cases m:l.getD 1 0=39/\1<l.length
      · rw [J_ m]at b;exact go 2 _ _ (by omega) (by omega) (by decide) b
      · rw [I_ m]at b;simp only [Option.some.injEq,Prod.mk.injEq]at b
        rw [<-b.1];omega
    rw [I_ g]at b;by_cases i:(Lib.decodeL l).1=92
    · rw [J_ i]at b;by_cases j:(K3 (l.drop 1)).2=0
      · rw [J_ j]at b;cases b
      · rw [I_ j]at b;have r:=Mx (l.drop 1);rw [List.length_drop]at r;exact go _ _ _ (by omega) (by omega) (K7 _).2 b
    rw [I_ i]at b;by_cases p:(Lib.decodeL l).1<32\/((Lib.decodeL l).1=65533/\(Lib.decodeL l).2=1)
    · rw [J_ p]at b;cases b
    · rw [I_ p]at b;exact go _ _ _ s q (K7 _).2 b
theorem readL_text {l t:List UInt8} {k:Nat} (h:N3 l=some (t,k)):t.length<=4*l.length:=by
 by_cases a:l.headD 0=39
 · rw [q8 l a]at h;have:=UJ _ _ _ _ _ h;rw [List.length_drop,List.length_nil]at this;omega
 · rw [V6 l a]at h;cases h
theorem cls_range (c:Int):cls c=0\/cls c=1\/cls c=2\/cls c=3\/cls c=4\/cls c=5\/cls c=6\/cls c=7\/cls c=8:=by
 unfold cls;repeat' split
 all_goals omega
def R7 (f:Nat) (args:Array Value) (w:World) (x:Lx):Prop:= ∀W,Below w.heap.size w W->Calls Tryz.prog f args W fun e w'=>e=.returned (lxr x)/\Below W.heap.size W w'
def F9 (w:World) (x:Lx):Prop:= ∀W,Below w.heap.size w W->Calls Tryz.prog 108 #[lxv x,.int .i64 (x.w:Nat)] W fun e w'=>e=.returned (lxr (V1 x))/\Below W.heap.size W w'
theorem aQ {w:World} {x:Lx} (hx:x.text.length<=maxLen) (a:TabsT w):F9 w x:=fun _ b=>tok_named x _ hx (a.on b)
theorem first_name (s:ByteArray) (c:Int) (w:World) (x:Lx) (q:Hid (∀W,Calls Tryz.prog 107 #[.int .i32 c] W fun e w'=>e=.returned (.int .i64 1)/\W=w'))
 (l:R7 109 #[.string s,.int .i64 1] w x) (j:F9 w x):
 Calls Tryz.prog 91 #[.string s,.int .i32 c] w fun e w'=>e=.returned (lxr (V1 x))/\Below w.heap.size w w':=by
 have i:=D_ (fun o:Obj=>(F_ w.heap.size w).alloc (R_ _) o);have g:=D_ l;have d:=D_ j;clear l j;unfold F9 at d;generalize V1 x=y at*;obtain⟨k,u,n,m⟩:=x;obtain⟨k',u',n',m'⟩:=y;unfold R7 lxr lxv at g;unfold lxr lxv at d;unfold lxr lxv;dsimp only at g d⊢;generalize (⟨u.toArray⟩:ByteArray)=u2 at*;generalize (⟨u'.toArray⟩:ByteArray)=u3 at*;go_enter Tryz.func91,Tryz.ntmps91;go_wp2_with fail;refine(q.out _).mono ?_;rintro e w1 ⟨rfl,rfl⟩;go_wp2_with fail;refine(g.out _ (i.out _)).mono ?_;rintro e w1 ⟨rfl,a⟩;have p:=K0 a (S0 w _);have b:=(i.out _).trans (a.mono (by simp));clear a;go_wp2_with fail;refine(d.out _ b).mono ?_;rintro e w2 ⟨rfl,a⟩;obtain⟨c0,c1,c2,c3,f0,f1,f2,f3⟩:=P0 (K0 a p);have h:=b.trans (a.mono b.size);clear a p b;go_wp2_with fail;refine B_ (v:=.tuple #[.agg #[.int .i64 k',.string u3,.int .i64 n',.int .i64 0],.int .i64 (m':Nat)]) (by simp [results,Tryz.results91,go_sem,c0,c1,c2,c3]) rfl ⟨rfl,F0 h (R_ _) _ _ _ _⟩
theorem first_big (s:ByteArray) (c:Int) (w:World) (x:Lx) (i:Hid (∀W,Calls Tryz.prog 107 #[.int .i32 c] W fun e w'=>e=.returned (.int .i64 2)/\W=w'))
 (h:R7 109 #[.string s,.int .i64 4] w x):
 Calls Tryz.prog 91 #[.string s,.int .i32 c] w fun e w'=>e=.returned (lxr x)/\Below w.heap.size w w':=by
 have d:=D_ (fun o:Obj=>(F_ w.heap.size w).alloc (R_ _) o);have a:=D_ h;clear h;obtain⟨k,u,n,m⟩:=x;unfold R7 lxr lxv at a;unfold lxr lxv;dsimp only at a⊢;generalize (⟨u.toArray⟩:ByteArray)=u2 at*;go_enter Tryz.func91,Tryz.ntmps91;go_wp2_with fail;refine(i.out _).mono ?_;rintro e w1 ⟨rfl,rfl⟩;go_wp2_with fail;refine(a.out _ (d.out _)).mono ?_;rintro e w1 ⟨rfl,b⟩;obtain⟨c0,c1,c2,c3,f0,f1,f2,f3⟩:=P0 (K0 b (S0 w _));have g:=(d.out _).trans (b.mono (by simp));clear b;go_wp2_with fail;refine B_ (v:=.tuple #[.agg #[.int .i64 k,.string u2,.int .i64 n,.int .i64 0],.int .i64 (m:Nat)]) (by simp [results,Tryz.results91,go_sem,c0,c1,c2,c3]) rfl ⟨rfl,F0 g (R_ _) _ _ _ _⟩
theorem lJ (s:ByteArray) (c:Int) (w:World) (x:Lx) (i:Hid (∀W,Calls Tryz.prog 107 #[.int .i32 c] W fun e w'=>e=.returned (.int .i64 3)/\W=w'))
 (h:R7 110 #[.string s] w x):
 Calls Tryz.prog 91 #[.string s,.int .i32 c] w fun e w'=>e=.returned (lxr x)/\Below w.heap.size w w':=by
 have d:=D_ (fun o:Obj=>(F_ w.heap.size w).alloc (R_ _) o);have a:=D_ h;clear h;obtain⟨k,u,n,m⟩:=x;unfold R7 lxr lxv at a;unfold lxr lxv;dsimp only at a⊢;generalize (⟨u.toArray⟩:ByteArray)=u2 at*;go_enter Tryz.func91,Tryz.ntmps91;go_wp2_with fail;refine(i.out _).mono ?_;rintro e w1 ⟨rfl,rfl⟩;go_wp2_with fail;refine(a.out _ (d.out _)).mono ?_;rintro e w1 ⟨rfl,b⟩;obtain⟨c0,c1,c2,c3,f0,f1,f2,f3⟩:=P0 (K0 b (S0 w _));have g:=(d.out _).trans (b.mono (by simp));clear b;go_wp2_with fail;refine B_ (v:=.tuple #[.agg #[.int .i64 k,.string u2,.int .i64 n,.int .i64 0],.int .i64 (m:Nat)]) (by simp [results,Tryz.results91,go_sem,c0,c1,c2,c3]) rfl ⟨rfl,F0 g (R_ _) _ _ _ _⟩
theorem WX (s:ByteArray) (c:Int) (w:World) (x:Lx) (i:Hid (∀W,Calls Tryz.prog 107 #[.int .i32 c] W fun e w'=>e=.returned (.int .i64 4)/\W=w'))
 (j:Hid (∀W,Calls Tryz.prog 111 #[.string s,.string ⟨#[47,42]⟩] W fun e w'=>e=.returned (.bool true)/\w'=W))
 (h:R7 112 #[.string s] w x):
 Calls Tryz.prog 91 #[.string s,.int .i32 c] w fun e w'=>e=.returned (lxr x)/\Below w.heap.size w w':=by
 have d:=D_ (fun o:Obj=>(F_ w.heap.size w).alloc (R_ _) o);have a:=D_ h;clear h;obtain⟨k,u,n,m⟩:=x;unfold R7 lxr lxv at a;unfold lxr lxv;dsimp only at a⊢;generalize (⟨u.toArray⟩:ByteArray)=u2 at*;go_enter Tryz.func91,Tryz.ntmps91;go_wp2_with fail;refine(i.out _).mono ?_;rintro e w1 ⟨rfl,rfl⟩;go_wp2_with fail;refine(j.out _).mono ?_;rintro e w1 ⟨rfl,rfl⟩;go_wp2_with fail;refine(a.out _ (d.out _)).mono ?_;rintro e w1 ⟨rfl,b⟩;obtain⟨c0,c1,c2,c3,f0,f1,f2,f3⟩:=P0 (K0 b (S0 w _));have g:=(d.out _).trans (b.mono (by simp));clear b;go_wp2_with fail;refine B_ (v:=.tuple #[.agg #[.int .i64 k,.string u2,.int .i64 n,.int .i64 0],.int .i64 (m:Nat)]) (by simp [results,Tryz.results91,go_sem,c0,c1,c2,c3]) rfl ⟨rfl,F0 g (R_ _) _ _ _ _⟩
theorem first_sign (s:ByteArray) (c:Int) (w:World) (x:Lx) (q:Hid (∀W,Calls Tryz.prog 107 #[.int .i32 c] W fun e w'=>e=.returned (.int .i64 4)/\W=w'))
 (r:Hid (∀W,Calls Tryz.prog 111 #[.string s,.string ⟨#[47,42]⟩] W fun e w'=>e=.returned (.bool false)/\w'=W))
 (l:R7 113 #[.string s] w x) (j:F9 w x):
 Calls Tryz.prog 91 #[.string s,.int .i32 c] w fun e w'=>e=.returned (lxr (V1 x))/\Below w.heap.size w w':=by
 have i:=D_ (fun o:Obj=>(F_ w.heap.size w).alloc (R_ _) o);have g:=D_ l;have d:=D_ j;clear l j;unfold F9 at d;generalize V1 x=y at*;obtain⟨k,u,n,m⟩:=x;obtain⟨k',u',n',m'⟩:=y;unfold R7 lxr lxv at g;unfold lxr lxv at d;unfold lxr lxv;dsimp only at g d⊢;generalize (⟨u.toArray⟩:ByteArray)=u2 at*;generalize (⟨u'.toArray⟩:ByteArray)=u3 at*;go_enter Tryz.func91,Tryz.ntmps91;go_wp2_with fail;refine(q.out _).mono ?_;rintro e w1 ⟨rfl,rfl⟩;go_wp2_with fail;refine(r.out _).mono ?_;rintro e w1 ⟨rfl,rfl⟩;go_wp2_with fail;refine(g.out _ (i.out _)).mono ?_;rintro e w1 ⟨rfl,a⟩;have p:=K0 a (S0 w _);have b:=(i.out _).trans (a.mono (by simp));clear a;go_wp2_with fail;refine(d.out _ b).mono ?_;rintro e w2 ⟨rfl,a⟩;obtain⟨c0,c1,c2,c3,f0,f1,f2,f3⟩:=P0 (K0 a p);have h:=b.trans (a.mono b.size);clear a p b;go_wp2_with fail;refine B_ (v:=.tuple #[.agg #[.int .i64 k',.string u3,.int .i64 n',.int .i64 0],.int .i64 (m':Nat)]) (by simp [results,Tryz.results91,go_sem,c0,c1,c2,c3]) rfl ⟨rfl,F0 h (R_ _) _ _ _ _⟩
theorem nJ (s:ByteArray) (c:Int) (w:World) (x:Lx) (q:Hid (∀W,Calls Tryz.prog 107 #[.int .i32 c] W fun e w'=>e=.returned (.int .i64 8)/\W=w'))
 (l:R7 114 #[.string s] w x) (j:F9 w x):
 Calls Tryz.prog 91 #[.string s,.int .i32 c] w fun e w'=>e=.returned (lxr (V1 x))/\Below w.heap.size w w':=by
 have i:=D_ (fun o:Obj=>(F_ w.heap.size w).alloc (R_ _) o);have g:=D_ l;have d:=D_ j;clear l j;unfold F9 at d;generalize V1 x=y at*;obtain⟨k,u,n,m⟩:=x;obtain⟨k',u',n',m'⟩:=y;unfold R7 lxr lxv at g;unfold lxr lxv at d;unfold lxr lxv;dsimp only at g d⊢;generalize (⟨u.toArray⟩:ByteArray)=u2 at*;generalize (⟨u'.toArray⟩:ByteArray)=u3 at*;go_enter Tryz.func91,Tryz.ntmps91;go_wp2_with fail;refine(q.out _).mono ?_;rintro e w1 ⟨rfl,rfl⟩;go_wp2_with fail;refine(g.out _ (i.out _)).mono ?_;rintro e w1 ⟨rfl,a⟩;have p:=K0 a (S0 w _);have b:=(i.out _).trans (a.mono (by simp));clear a;go_wp2_with fail;refine(d.out _ b).mono ?_;rintro e w2 ⟨rfl,a⟩;obtain⟨c0,c1,c2,c3,f0,f1,f2,f3⟩:=P0 (K0 a p);have h:=b.trans (a.mono b.size);clear a p b;go_wp2_with fail;refine B_ (v:=.tuple #[.agg #[.int .i64 k',.string u3,.int .i64 n',.int .i64 0],.int .i64 (m':Nat)]) (by simp [results,Tryz.results91,go_sem,c0,c1,c2,c3]) rfl ⟨rfl,F0 h (R_ _) _ _ _ _⟩
theorem mJ (s:ByteArray) (c:Int) (w:World) (x:Lx) (i:Hid (∀W,Calls Tryz.prog 107 #[.int .i32 c] W fun e w'=>e=.returned (.int .i64 6)/\W=w'))
 (h:R7 115 #[.string s,.int .i32 c] w x):
 Calls Tryz.prog 91 #[.string s,.int .i32 c] w fun e w'=>e=.returned (lxr x)/\Below w.heap.size w w':=by
 have d:=D_ (fun o:Obj=>(F_ w.heap.size w).alloc (R_ _) o);have a:=D_ h;clear h;obtain⟨k,u,n,m⟩:=x;unfold R7 lxr lxv at a;unfold lxr lxv;dsimp only at a⊢;generalize (⟨u.toArray⟩:ByteArray)=u2 at*;go_enter Tryz.func91,Tryz.ntmps91;go_wp2_with fail;refine(i.out _).mono ?_;rintro e w1 ⟨rfl,rfl⟩;go_wp2_with fail;refine(a.out _ (d.out _)).mono ?_;rintro e w1 ⟨rfl,b⟩;obtain⟨c0,c1,c2,c3,f0,f1,f2,f3⟩:=P0 (K0 b (S0 w _));have g:=(d.out _).trans (b.mono (by simp));clear b;go_wp2_with fail;refine B_ (v:=.tuple #[.agg #[.int .i64 k,.string u2,.int .i64 n,.int .i64 0],.int .i64 (m:Nat)]) (by simp [results,Tryz.results91,go_sem,c0,c1,c2,c3]) rfl ⟨rfl,F0 g (R_ _) _ _ _ _⟩
theorem first_solo (s:ByteArray) (c:Int) (w:World) (x:Lx) (i:Hid (∀W,Calls Tryz.prog 107 #[.int .i32 c] W fun e w'=>e=.returned (.int .i64 7)/\W=w'))
 (h:R7 115 #[.string s,.int .i32 c] w x):
 Calls Tryz.prog 91 #[.string s,.int .i32 c] w fun e w'=>e=.returned (lxr x)/\Below w.heap.size w w':=by
 have d:=D_ (fun o:Obj=>(F_ w.heap.size w).alloc (R_ _) o);have a:=D_ h;clear h;obtain⟨k,u,n,m⟩:=x;unfold R7 lxr lxv at a;unfold lxr lxv;dsimp only at a⊢;generalize (⟨u.toArray⟩:ByteArray)=u2 at*;go_enter Tryz.func91,Tryz.ntmps91;go_wp2_with fail;refine(i.out _).mono ?_;rintro e w1 ⟨rfl,rfl⟩;go_wp2_with fail;refine(a.out _ (d.out _)).mono ?_;rintro e w1 ⟨rfl,b⟩;obtain⟨c0,c1,c2,c3,f0,f1,f2,f3⟩:=P0 (K0 b (S0 w _));have g:=(d.out _).trans (b.mono (by simp));clear b;go_wp2_with fail;refine B_ (v:=.tuple #[.agg #[.int .i64 k,.string u2,.int .i64 n,.int .i64 0],.int .i64 (m:Nat)]) (by simp [results,Tryz.results91,go_sem,c0,c1,c2,c3]) rfl ⟨rfl,F0 g (R_ _) _ _ _ _⟩
theorem first_line (s:ByteArray) (c:Int) (w:World) (x:Lx) (i:Hid (∀W,Calls Tryz.prog 107 #[.int .i32 c] W fun e w'=>e=.returned (.int .i64 0)/\W=w'))
 (j:(c==37)=true) (h:R7 116 #[.string s] w x):
 Calls Tryz.prog 91 #[.string s,.int .i32 c] w fun e w'=>e=.returned (lxr x)/\Below w.heap.size w w':=by
 have d:=D_ (fun o:Obj=>(F_ w.heap.size w).alloc (R_ _) o);have a:=D_ h;clear h;obtain⟨k,u,n,m⟩:=x;unfold R7 lxr lxv at a;unfold lxr lxv;dsimp only at a⊢;generalize (⟨u.toArray⟩:ByteArray)=u2 at*;go_enter Tryz.func91,Tryz.ntmps91;go_wp2_with fail;refine(i.out _).mono ?_;rintro e w1 ⟨rfl,rfl⟩;go_wp2_with fail;refine(a.out _ (d.out _)).mono ?_;rintro e w1 ⟨rfl,b⟩;obtain⟨c0,c1,c2,c3,f0,f1,f2,f3⟩:=P0 (K0 b (S0 w _));have g:=(d.out _).trans (b.mono (by simp));clear b;go_wp2_with fail;refine B_ (v:=.tuple #[.agg #[.int .i64 k,.string u2,.int .i64 n,.int .i64 0],.int .i64 (m:Nat)]) (by simp [results,Tryz.results91,go_sem,c0,c1,c2,c3]) rfl ⟨rfl,F0 g (R_ _) _ _ _ _⟩
theorem kJ (s:ByteArray) (c:Int) (w:World) (b:Hid (∀W,Calls Tryz.prog 107 #[.int .i32 c] W fun e w'=>e=.returned (.int .i64 5)/\W=w')):
 Calls Tryz.prog 91 #[.string s,.int .i32 c] w fun e w'=>e=.returned (lxr ⟨0,[],0,1⟩)/\Below w.heap.size w w':=by
 have a:=D_ (fun o:Obj=>(F_ w.heap.size w).alloc (R_ _) o);unfold lxr lxv;dsimp only;go_enter Tryz.func91,Tryz.ntmps91;go_wp2_with fail;refine(b.out _).mono ?_;rintro e w1 ⟨rfl,rfl⟩;go_wp2_with fail;refine B_ (v:=.tuple #[.agg #[.int .i64 0,.string ⟨#[]⟩,.int .i64 0,.int .i64 0],.int .i64 1]) (by simp [results,Tryz.results91,go_sem]) rfl ⟨rfl,a.out _⟩
theorem first_none (s:ByteArray) (c:Int) (w:World) (b:Hid (∀W,Calls Tryz.prog 107 #[.int .i32 c] W fun e w'=>e=.returned (.int .i64 0)/\W=w')) (d:(c==37)=false):
 Calls Tryz.prog 91 #[.string s,.int .i32 c] w fun e w'=>e=.returned (lxr ⟨0,[],0,0⟩)/\Below w.heap.size w w':=by
 have a:=D_ (fun o:Obj=>(F_ w.heap.size w).alloc (R_ _) o);unfold lxr lxv;dsimp only;go_enter Tryz.func91,Tryz.ntmps91;go_wp2_with fail;refine(b.out _).mono ?_;rintro e w1 ⟨rfl,rfl⟩;go_wp2_with fail;refine B_ (v:=.tuple #[.agg #[.int .i64 0,.string ⟨#[]⟩,.int .i64 0,.int .i64 0],.int .i64 0]) (by simp [results,Tryz.results91,go_sem]) rfl ⟨rfl,a.out _⟩
theorem text_len {s:ByteArray} {n:Nat} (a:s.size<=200000):(s.data.toList.take n).length<=maxLen:=by
 rw [List.length_take,C0];unfold maxLen;omega
theorem quoted_len {l:List UInt8} (h:l.length<=200000):(Q4 l).text.length<=maxLen:=by
 unfold Q4;cases a:N3 l with
 |none=>show(0:Nat)<=maxLen;unfold maxLen;omega
 |some r=>
  obtain⟨t,k⟩:=r;have:=readL_text a;show t.length<=maxLen
  unfold maxLen;omega
theorem tok_first (s:ByteArray) (c:Int) (b:UInt8) (t:List UInt8) (w:World) (h:s.data.toList=b::t) (hc:c=((Lib.decodeL (b::t)).1:Int)) (l:s.size<=200000) (j:TabsT w):
 Calls Tryz.prog 91 #[.string s,.int .i32 c] w fun e w'=>e=.returned (lxr (G0 s.data.toList))/\Below w.heap.size w w':=by
 obtain⟨e1,e2,e3⟩:=cls_first hc;have a:=D_ (fun W=>d9 c W);rw [e1]at a;have p:=C0 s;have m:=D_ (fun W=>Tryz.strings_HasPrefix s ⟨#[47,42]⟩ W);rw [show(⟨#[47,42]⟩:ByteArray).data.toList= [47,42]from rfl,dj]at m;have n: ∀k:Int,k≠0->cls (b.toNat:Int)=k->b.toNat<128:=fun k o h=>by
  apply Classical.byContradiction
  intro hc;rw [J7 _ (by omega)]at h;exact o h.symm
 have word:=fun k=>(fun W _=>tok_word s k W:R7 109 #[.string s,.int .i64 k] w (Bq k s.data.toList));have number:R7 110 #[.string s] w (C2 s.data.toList):=fun W d=>tok_number s W (j.on d) l;have signs:R7 113 #[.string s] w (U9 s.data.toList):=fun W _=>tok_signs s W;have quoted:R7 114 #[.string s] w (Q4 s.data.toList):=fun W d=>tok_quoted s W l (j.on d);have line:R7 116 #[.string s] w ⟨0,[],0,O0 A5 s.data.toList⟩:=fun W _=>wQ s W;have single:b.toNat<128->R7 115 #[.string s,.int .i32 c] w (G4 b):=fun d W _=>tok_single s c b t W h (e3 d);have closed:s.data.toList.take 2= [47,42]->R7 112 #[.string s] w (X6 s.data.toList):=fun g W d=>tok_closed s W (take2_size g) l (j.on d);rcases cls_range (b.toNat:Int)with q|q|q|q|q|q|q|q|q
 · rw [q]at a;by_cases i:b=37
   · have e:G0 s.data.toList=⟨0,[],0,O0 A5 s.data.toList⟩:=by
      rw [h];unfold G0;dsimp only;rw [q,I_ (by decide),I_ (by decide),I_ (by decide),I_ (by decide),I_ (by decide),I_ (by decide),I_ (by decide),J_ i]
     rw [e];exact first_line s c w _ a (by rw [e2,decide_eq_true i]) line
   · have e:G0 s.data.toList=⟨0,[],0,0⟩:=by
      rw [h];unfold G0;dsimp only;rw [q,I_ (by decide),I_ (by decide),I_ (by decide),I_ (by decide),I_ (by decide),I_ (by decide),I_ (by decide),I_ i];rfl
     rw [e];exact first_none s c w a (by rw [e2,decide_eq_false i])
 · rw [q]at a;have e:G0 s.data.toList=V1 (Bq 1 s.data.toList):=by rw [h];unfold G0;dsimp only;rw [q,I_ (by decide),J_ rfl]
   rw [e];exact first_name s c w _ a (word 1) (aQ (text_len l) j)
 · rw [q]at a;have e:G0 s.data.toList=Bq 4 s.data.toList:=by rw [h];unfold G0;dsimp only;rw [q,I_ (by decide),I_ (by decide),J_ rfl]
   rw [e];exact first_big s c w _ a (word 4)
 · rw [q]at a;have e:G0 s.data.toList=C2 s.data.toList:=by rw [h];unfold G0;dsimp only;rw [q,I_ (by decide),I_ (by decide),I_ (by decide),J_ rfl]
   rw [e];exact lJ s c w _ a number
 · rw [q]at a;by_cases g:s.data.toList.take 2= [47,42]
   · rw [decide_eq_true g]at m;have e:G0 s.data.toList=X6 s.data.toList:=by
      rw [h]at g⊢;unfold G0;dsimp only;rw [q,I_ (by decide),I_ (by decide),I_ (by decide),I_ (by decide),J_ rfl,J_ g]
     rw [e];exact WX s c w _ a m (closed g)
   · rw [decide_eq_false g]at m;have e:G0 s.data.toList=V1 (U9 s.data.toList):=by
      rw [h]at g⊢;unfold G0;dsimp only;rw [q,I_ (by decide),I_ (by decide),I_ (by decide),I_ (by decide),J_ rfl,I_ g]
     rw [e];exact first_sign s c w _ a m signs (aQ (text_len l) j)
 · rw [q]at a;have e:G0 s.data.toList=⟨0,[],0,1⟩:=by rw [h];exact Qj b t q
   rw [e];exact kJ s c w a
 · have d:=n 6 (by decide) q;rw [q]at a;have e:G0 s.data.toList=G4 b:=by rw [h];unfold G0;dsimp only;rw [q,I_ (by decide),I_ (by decide),I_ (by decide),I_ (by decide),I_ (by decide),I_ (by decide),J_ (.inl rfl)]
   rw [e];exact mJ s c w _ a (single d)
 · have d:=n 7 (by decide) q;rw [q]at a;have e:G0 s.data.toList=G4 b:=by rw [h];unfold G0;dsimp only;rw [q,I_ (by decide),I_ (by decide),I_ (by decide),I_ (by decide),I_ (by decide),I_ (by decide),J_ (.inr rfl)]
   rw [e];exact first_solo s c w _ a (single d)
 · rw [q]at a;have e:G0 s.data.toList=V1 (Q4 s.data.toList):=by rw [h];unfold G0;dsimp only;rw [q,I_ (by decide),I_ (by decide),I_ (by decide),I_ (by decide),I_ (by decide),J_ rfl]
   rw [e];exact nJ s c w _ a quoted (aQ (quoted_len (by rw [p];exact l)) j)
def tok_v (t:Tok):Value:=.agg #[.int .i64 t.kind,.string ⟨t.text.toArray⟩,.int .i64 t.n,.int .i64 (t.pos:Nat)]
def P7 (t:Tok):List Value:= [.int .i64 t.kind,.string ⟨t.text.toArray⟩,.int .i64 t.n,.int .i64 (t.pos:Nat)]
def N5 (l:List Tok):List Value:=l.flatMap P7
theorem O5 (a b:List Tok):N5 (a++b)=N5 a++N5 b:=List.flatMap_append
def j2 (B:Nat) (w:World) (v:Value) (l:List Tok):Prop:=w.ownsRow B 96 4 v l.length (N5 l)
theorem infoTok:(Tryz.prog.info? 96).map (fun i=>(i.zero,i.size,i.bytes))=some (some (.agg #[.int .i64 0,.string ⟨#[]⟩,.int .i64 0,.int .i64 0]),4,40):=by kernel_rfl
theorem info_parts {t:TypeId} {z:Value} {s b:Nat} (h:(Tryz.prog.info? t).map (fun i=>(i.zero,i.size,i.bytes))=some (some z,s,b)): ∃i,Tryz.prog.info? t=some i/\i.zero=some z/\i.size=s/\i.bytes=b:=by
 cases a:Tryz.prog.info? t with
 |none=>rw [a]at h;cases h
 |some i=>
  rw [a]at h;injection h with h;injection h with h1 h2;injection h2 with h2 h3;exact⟨i,rfl,h1,h2,h3⟩
theorem j2.below {B:Nat} {w w':World} {v:Value} {l:List Tok} (h:j2 B w v l) (i:Below w.heap.size w w'):j2 B w' v l:=by
 obtain⟨c,d|⟨g,cap,cur,j,a,b,r⟩⟩:=h
 · exact⟨c,.inl d⟩
 · exact⟨c,.inr ⟨g,cap,cur,j,a,(i.block g (Array.getElem?_eq_some_iff.1 b).1).trans b,r⟩⟩
theorem j2.mono {B B':Nat} {w:World} {v:Value} {l:List Tok} (h:j2 B w v l) (d:B'<=B):j2 B' w v l:=by
 obtain⟨b,c|⟨g,cap,cur,i,a,r⟩⟩:=h
 · exact⟨b,.inl c⟩
 · exact⟨b,.inr ⟨g,cap,cur,i,Nat.le_trans d a,r⟩⟩
theorem j2.setOther {B:Nat} {w:World} {v:Value} {l:List Tok} (h:j2 B w v l) {q i:Nat} (k:q<B) (u:Value):j2 B (w.setCell ⟨q,i,none⟩ u) v l:=by
 obtain⟨b,c|⟨g,cap,cur,j,a,d,r⟩⟩:=h
 · exact⟨b,.inl c⟩
 · refine⟨b,.inr ⟨g,cap,cur,j,a,?_,r⟩⟩;rw [S_ _ _ _ _ (show g≠q from fun e=>by omega)];exact d
theorem j2.slice {B:Nat} {w:World} {v:Value} {l:List Tok} (h:j2 B w v l): ∃ad cap,v=.slice ad l.length cap/\l.length<=cap/\cap<=maxLen:=by
 obtain⟨j,⟨rfl,c⟩|⟨g,cap,cur,rfl,d,i,b,a,r⟩⟩:=h
 · exact⟨none,0,by rw [c],by omega,Nat.zero_le _⟩
 · exact⟨some ⟨g,0,none⟩,cap,rfl,b,a⟩
theorem CX (k n p:Int) (t:List UInt8) (w:World):
 Calls Tryz.prog 90 #[.agg #[.int .i64 k,.string ⟨t.toArray⟩,.int .i64 n,.int .i64 p]] w fun e w'=>e=.returned (.bool (V3 k t))/\Below w.heap.size w w':=by
 have c:=D_ (fun o:Obj=>(F_ w.heap.size w).alloc (R_ _) o);obtain⟨E,a⟩: ∃E,V3 k t=E:=⟨_,rfl⟩;rw [a];unfold V3 at a;have f1:((⟨t.toArray⟩:ByteArray).toList== [93])=decide (t= [93]):=by rw [ByteArray.toList_eq,Bool.eq_iff_iff];simp
 have f2:((⟨t.toArray⟩:ByteArray).toList== [125])=decide (t= [125]):=by rw [ByteArray.toList_eq,Bool.eq_iff_iff];simp
 generalize (⟨t.toArray⟩:ByteArray)=u at*;generalize decide (t= [93])=b1 at*;generalize decide (t= [125])=b2 at*;have d:k=1\/k=2\/k=3\/k=6\/((k==1)=false/\(k==2)=false/\(k==3)=false/\(k==6)=false):=by
  simp only [beq_eq_false_iff_ne];omega
 rcases d with rfl|rfl|rfl|rfl|⟨e1,e2,e3,e4⟩
 iterate 3
  · have b:Hid (E=true):=D_ (by rw [<-a];rfl);clear a;go_enter Tryz.func90,Tryz.ntmps90;go_wp2_with fail;go_ret;exact⟨N4 b.out.symm,c.out _⟩
 · have b:Hid (E=(b1||b2)):=D_ (by rw [<-a];rfl);clear a;cases b1
   all_goals
    go_enter Tryz.func90,Tryz.ntmps90;go_wp2_with fail;go_ret;exact⟨N4 (by rw [b.out];first|rfl|(cases b2<;>rfl)),c.out _⟩
 · have b:Hid (E=false):=D_ (by
    rw [<-a];simp only [beq_eq_false_iff_ne]at e1 e2 e3 e4
    rw [decide_eq_false e1,decide_eq_false e2,decide_eq_false e3,decide_eq_false e4];rfl)
   clear a;go_enter Tryz.func90,Tryz.ntmps90;go_wp2_with fail;go_ret;exact⟨N4 b.out.symm,c.out _⟩
structure V4 (L:Nat) (w:World) (l:List Tok) (e:Int) (t:Bool) (v:Value):Prop where
 list:w.heap[L]?=some (.cells #[v] 89 (0,0))
 fin:w.heap[L+1]?=some (.cells #[.int .i64 e] 3 (0,0))
 tight:w.heap[L+2]?=some (.cells #[.bool t] 4 (0,0))
 own:j2 (L+4) w v l
theorem X4 {w:World} {q:Nat} {a:Value} {t:TypeId} (h:w.heap[q]?=some (.cells #[a] t (0,0))):w.cell? ⟨q,0,none⟩=some a/\w.frozen? ⟨q,0,none⟩=false:=by
 simp [World.cell?,World.frozen?,h]
theorem V4.below {L:Nat} {w w':World} {l:List Tok} {e:Int} {t:Bool} {v:Value} (h:V4 L w l e t v) (a:Below w.heap.size w w'):V4 L w' l e t v:=
 ⟨K0 a h.list,K0 a h.fin,K0 a h.tight,h.own.below a⟩
theorem set1 {w:World} {q:Nat} {a:Value} {t:TypeId} (h:w.heap[q]?=some (.cells #[a] t (0,0))) (u:Value):(w.setCell ⟨q,0,none⟩ u).heap[q]?=some (.cells #[u] t (0,0)):=by
 have:=H_ (i:=0) h u;simpa using this
theorem setO {w:World} {q k:Nat} {i:Nat} {o:Obj} (h:w.heap[k]?=some o) (a:k≠q) (u:Value):(w.setCell ⟨q,i,none⟩ u).heap[k]?=some o:=by
 rw [S_ _ _ _ _ a];exact h
theorem V4.setFin {L:Nat} {w:World} {l:List Tok} {e:Int} {t:Bool} {v:Value} (h:V4 L w l e t v) (e2:Int):V4 L (w.setCell ⟨L+1,0,none⟩ (.int .i64 e2)) l e2 t v:=
 ⟨setO h.list (by omega) _,set1 h.fin _,setO h.tight (by omega) _,h.own.setOther (by omega) _⟩
theorem V4.setTight {L:Nat} {w:World} {l:List Tok} {e:Int} {t:Bool} {v:Value} (h:V4 L w l e t v) (t2:Bool):V4 L (w.setCell ⟨L+2,0,none⟩ (.bool t2)) l e t2 v:=
 ⟨setO h.list (by omega) _,setO h.fin (by omega) _,set1 h.tight _,h.own.setOther (by omega) _⟩
def F2 (L:Nat) (w w':World):Prop:=Below L w w'/\ ∀s pos,w.heap[L+3]?=some (.stringIter s pos)->w'.heap[L+3]?=some (.stringIter s pos)
theorem F2.trans {L:Nat} {a b c:World} (h:F2 L a b) (k:F2 L b c):F2 L a c:=⟨h.1.trans k.1,fun s p d=>k.2 s p (h.2 s p d)⟩
theorem F2.below {L:Nat} {a b:World} (h:Below a.heap.size a b) (c:L<=a.heap.size):F2 L a b:=⟨h.mono c,fun _ _ d=>K0 h d⟩
theorem F2.set {L:Nat} (w:World) {q i:Nat} (a:L<=q) (c:q≠L+3) (u:Value):F2 L w (w.setCell ⟨q,i,none⟩ u):=
 ⟨(F_ _ _).setCell (p:=⟨q,i,none⟩) a u,fun _ _ b=>setO b (by omega) u⟩
theorem F2.set2 {L:Nat} {a w:World} (h:F2 L a w) (u u2:Value):F2 L a ((w.setCell ⟨L+1,0,none⟩ u).setCell ⟨L+2,0,none⟩ u2):=
 (h.trans (F2.set w (by omega) (by omega) u)).trans (F2.set _ (by omega) (by omega) u2)
theorem j2.big {B:Nat} {w:World} {v:Value} {l:List Tok} (h:j2 B w v l) {k:Nat} (a:k<B):some k≠v.ownBlock:=fun e=>by
 have:=(World.ownsRow.lt h k e.symm).1;omega
theorem V4.grow {L:Nat} {w w1 w3:World} {l:List Tok} {e:Int} {t:Bool} {v v3:Value} (h:V4 L w1 l e t v) (c:F2 L w w1) (q:L+4<=w1.heap.size) (x:Tok)
 (m:w3.ownsRow (L+4) 96 4 v3 (l.length+1) (N5 l++P7 x)) (n:w1.grownBy w3 v.ownBlock):
 V4 L (w3.setCell ⟨L,0,none⟩ v3) (l++ [x]) e t v3/\F2 L w (w3.setCell ⟨L,0,none⟩ v3)/\(∀k o,L+4<=k->some k≠v.ownBlock->w1.heap[k]?=some o->(w3.setCell ⟨L,0,none⟩ v3).heap[k]?=some o)/\w3.heap[L]?=some (.cells #[v] 89 (0,0)):=by
 have keep: ∀k o,some k≠v.ownBlock->w1.heap[k]?=some o->w3.heap[k]?=some o:=fun k o d i=>by
  rw [n.block k (Array.getElem?_eq_some_iff.1 i).1 d];exact i
 have g: ∀k,k<L+4->some k≠v.ownBlock:=fun k c=>h.own.big c;have a:=keep _ _ (g L (by omega)) h.list;have j:j2 (L+4) w3 v3 (l++ [x]):=by
  unfold j2;rw [P_,O5];exact m
 refine⟨⟨set1 a _,setO (keep _ _ (g _ (by omega)) h.fin) (by omega) _,setO (keep _ _ (g _ (by omega)) h.tight) (by omega) _,j.setOther (by omega) _⟩,?_,?_,a⟩
 · refine F2.trans (b:=w3) ?_ (F2.set w3 (R_ _) (by omega) v3);refine c.trans ⟨(F_ L w1).grown n (by omega) (fun k c=>Nat.le_trans (by omega) (World.ownsRow.lt h.own k c).1),fun s pos p=>keep _ _ (g _ (by omega)) p⟩
 · intro k o c d i;exact setO (keep _ _ d i) (by omega) _
def CutOut (L:Nat) (w:World) (l:List Tok) (e:Int) (t:Bool) (w':World):Prop:=(∃v,V4 L w' l e t v)/\F2 L w w'
theorem zj (L:Nat) (w:World) (l:List Tok) (e:Int) (tg:Bool) (v:Value) (k n:Int) (t:List UInt8) (p m:Nat) (k2:Int) (h:V4 L w l e tg v) (hL:L+4<=w.heap.size) (hp:p<=1000000) (hm:m<=1000000) (hl:l.length<=1000000)
 (h0:(k2 !=0)=true)
 (hw:(tg=true/\((⟨t.toArray⟩:ByteArray).toList== [40])=true/\(k==6)=true/\k2=7)\/(tg=false/\k2=k)\/(tg=true/\((⟨t.toArray⟩:ByteArray).toList== [40])=false/\k2=k)\/(tg=true/\((⟨t.toArray⟩:ByteArray).toList== [40])=true/\(k==6)=false/\k2=k)):
 Calls Tryz.prog 89 #[.agg #[.int .i64 k,.string ⟨t.toArray⟩,.int .i64 n,.int .i64 0],.int .i64 (p:Nat),.int .i64 (m:Nat),.pointer (some ⟨L+2,0,none⟩),.pointer (some ⟨L,0,none⟩),.pointer (some ⟨L+1,0,none⟩)] w
  fun e' w'=>(∃r,e'=.returned r)/\CutOut L w (l++ [⟨k2,t,n,p⟩]) ((p+m:Nat):Int) (V3 k2 t) w':=by
 have X:=D_ (fun W=>CX k2 n (p:Nat) t W);have V:=D_ (fun o o2:Obj=>((F_ w.heap.size w).alloc (R_ _) o).alloc (by simp) o2);obtain⟨l0,l1⟩:=X4 h.list;obtain⟨e0,e1⟩:=X4 h.fin;obtain⟨t0,t1⟩:=X4 h.tight;obtain⟨i0,Z,M,N,O⟩:=info_parts infoTok;have a_:L<w.heap.size:=by omega
 have b_:L+1<w.heap.size:=by omega
 have c_:L+2<w.heap.size:=by omega
 have C:=D_ h;have Y:Hid (P7 ⟨k2,t,n,p⟩= [.int .i64 k2,.string ⟨t.toArray⟩,.int .i64 n,.int .i64 (p:Nat)]):=D_ rfl;clear h;generalize (⟨t.toArray⟩:ByteArray)=u at*;rcases hw with⟨rfl,f1,f2,rfl⟩|⟨rfl,rfl⟩|⟨rfl,f1,rfl⟩|⟨rfl,f1,f2,rfl⟩
 · go_enter Tryz.func89,Tryz.ntmps89;go_wp2_with (first
    |(at_builtin;refine wpList_append_lies _ rfl _ _ 89 rfl (L+4) 96 i0 (.agg #[.int .i64 0,.string ⟨#[]⟩,.int .i64 0,.int .i64 0]) 4 40 Tryz.underlying89 Z M N O rfl (by decide) _ _ _ rfl (World.ownsRow.alloc (World.ownsRow.alloc C.out.own _) _) ⟨w.heap.size+1,0,none⟩ 1 1 [.int .i64 7,.string u,.int .i64 n,.int .i64 (p:Nat)] rfl rfl ?c1 ?c2 (by decide) ?c3 ?c4 ?c5 _ rfl ?_))
   case c1=>
    intro j x a;match j,a with
    |0,a=>simp at a;subst a;simp [Addr.add]
    |1,a=>simp at a;subst a;simp [Addr.add]
    |2,a=>simp at a;subst a;simp [Addr.add]
    |3,a=>simp at a;subst a;simp [Addr.add]
   case c2=>intro x hx;simp at hx;rcases hx with rfl|rfl|rfl|rfl<;>rfl
   case c3=>unfold maxLen;omega
   case c4=>omega
   case c5=>simp;omega
   intro g3 cap3 w3 d c _ J;have g:Below w.heap.size w ((w.alloc (.cells #[.int .i64 7,.string u,.int .i64 n,.int .i64 (p:Nat)] 96)).alloc (.cells #[.int .i64 7,.string u,.int .i64 n,.int .i64 (p:Nat)] 96)):=V.out _ _;have H:=(C.out.below g).grow (F2.below g (by omega)) (by simp;omega) ⟨7,t,n,p⟩ (by rw [show P7 ⟨7,t,n,p⟩=_ from Y.out];exact d) c;obtain⟨y,s,A,B⟩:=H;obtain⟨l2,l3⟩:=X4 B;have q:=A w.heap.size _ (by omega) (fun e=>by have:=(World.ownsRow.lt C.out.own _ e.symm).2;omega) (j1 (S0 w _) _);obtain⟨x0,x1,x2,x3,y0,y1,y2,y3⟩:=P0 q;have I:L<w3.heap.size:=L_ w3 _ l2;have F:=D_ y;have E:=D_ s;have R:=D_ q;clear d c y s A B g q;go_wp2_with fail;refine(X.out _).mono ?_;rintro e w4 ⟨rfl,i⟩;have b:=F.out.below i;have z:=E.out.trans (F2.below i (by simp;omega));obtain⟨m0,m1⟩:=X4 b.fin;obtain⟨q0,q1⟩:=X4 b.tight;have D:=D_ b;have G:=D_ z;have T:L+1<w4.heap.size:=L_ w4 _ m0;have U:L+2<w4.heap.size:=L_ w4 _ q0;clear i b z l2 l3 x0 x1 x2 x3 y0 y1 y2 y3;go_wp2_with fail;go_end0;refine⟨⟨_,rfl⟩,⟨.slice (some ⟨g3,0,none⟩) (l.length+1) cap3,?_⟩,?_⟩
   · have:=(D.out.setFin ((p:Int)+m)).setTight (V3 7 t);rw [show((p+m:Nat):Int)=(p:Int)+m from by omega];exact this
   · exact G.out.set2 _ _
 · go_enter Tryz.func89,Tryz.ntmps89;go_wp2_with (first
    |(at_builtin;refine wpList_append_lies _ rfl _ _ 89 rfl (L+4) 96 i0 (.agg #[.int .i64 0,.string ⟨#[]⟩,.int .i64 0,.int .i64 0]) 4 40 Tryz.underlying89 Z M N O rfl (by decide) _ _ _ rfl (World.ownsRow.alloc (World.ownsRow.alloc C.out.own _) _) ⟨w.heap.size+1,0,none⟩ 1 1 [.int .i64 k2,.string u,.int .i64 n,.int .i64 (p:Nat)] rfl rfl ?c1 ?c2 (by decide) ?c3 ?c4 ?c5 _ rfl ?_))
   case c1=>
    intro j x a;match j,a with
    |0,a=>simp at a;subst a;simp [Addr.add]
    |1,a=>simp at a;subst a;simp [Addr.add]
    |2,a=>simp at a;subst a;simp [Addr.add]
    |3,a=>simp at a;subst a;simp [Addr.add]
   case c2=>intro x hx;simp at hx;rcases hx with rfl|rfl|rfl|rfl<;>rfl
   case c3=>unfold maxLen;omega
   case c4=>omega
   case c5=>simp;omega
   intro g3 cap3 w3 d c _ J;have g:Below w.heap.size w ((w.alloc (.cells #[.int .i64 k2,.string u,.int .i64 n,.int .i64 (p:Nat)] 96)).alloc (.cells #[.int .i64 k2,.string u,.int .i64 n,.int .i64 (p:Nat)] 96)):=V.out _ _;have H:=(C.out.below g).grow (F2.below g (by omega)) (by simp;omega) ⟨k2,t,n,p⟩ (by rw [show P7 ⟨k2,t,n,p⟩=_ from Y.out];exact d) c;obtain⟨y,s,A,B⟩:=H;obtain⟨l2,l3⟩:=X4 B;have q:=A w.heap.size _ (by omega) (fun e=>by have:=(World.ownsRow.lt C.out.own _ e.symm).2;omega) (j1 (S0 w _) _);obtain⟨x0,x1,x2,x3,y0,y1,y2,y3⟩:=P0 q;have I:L<w3.heap.size:=L_ w3 _ l2;have F:=D_ y;have E:=D_ s;have R:=D_ q;clear d c y s A B g q;go_wp2_with fail;refine(X.out _).mono ?_;rintro e w4 ⟨rfl,i⟩;have b:=F.out.below i;have z:=E.out.trans (F2.below i (by simp;omega));obtain⟨m0,m1⟩:=X4 b.fin;obtain⟨q0,q1⟩:=X4 b.tight;have D:=D_ b;have G:=D_ z;have T:L+1<w4.heap.size:=L_ w4 _ m0;have U:L+2<w4.heap.size:=L_ w4 _ q0;clear i b z l2 l3 x0 x1 x2 x3 y0 y1 y2 y3;go_wp2_with fail;go_end0;refine⟨⟨_,rfl⟩,⟨.slice (some ⟨g3,0,none⟩) (l.length+1) cap3,?_⟩,?_⟩
   · have:=(D.out.setFin ((p:Int)+m)).setTight (V3 k2 t);rw [show((p+m:Nat):Int)=(p:Int)+m from by omega];exact this
   · exact G.out.set2 _ _
 · go_enter Tryz.func89,Tryz.ntmps89;go_wp2_with (first
    |(at_builtin;refine wpList_append_lies _ rfl _ _ 89 rfl (L+4) 96 i0 (.agg #[.int .i64 0,.string ⟨#[]⟩,.int .i64 0,.int .i64 0]) 4 40 Tryz.underlying89 Z M N O rfl (by decide) _ _ _ rfl (World.ownsRow.alloc (World.ownsRow.alloc C.out.own _) _) ⟨w.heap.size+1,0,none⟩ 1 1 [.int .i64 k2,.string u,.int .i64 n,.int .i64 (p:Nat)] rfl rfl ?c1 ?c2 (by decide) ?c3 ?c4 ?c5 _ rfl ?_))
   case c1=>
    intro j x a;match j,a with
    |0,a=>simp at a;subst a;simp [Addr.add]
    |1,a=>simp at a;subst a;simp [Addr.add]
    |2,a=>simp at a;subst a;simp [Addr.add]
    |3,a=>simp at a;subst a;simp [Addr.add]
   case c2=>intro x hx;simp at hx;rcases hx with rfl|rfl|rfl|rfl<;>rfl
   case c3=>unfold maxLen;omega
   case c4=>omega
   case c5=>simp;omega
   intro g3 cap3 w3 d c _ J;have g:Below w.heap.size w ((w.alloc (.cells #[.int .i64 k2,.string u,.int .i64 n,.int .i64 (p:Nat)] 96)).alloc (.cells #[.int .i64 k2,.string u,.int .i64 n,.int .i64 (p:Nat)] 96)):=V.out _ _;have H:=(C.out.below g).grow (F2.below g (by omega)) (by simp;omega) ⟨k2,t,n,p⟩ (by rw [show P7 ⟨k2,t,n,p⟩=_ from Y.out];exact d) c;obtain⟨y,s,A,B⟩:=H;obtain⟨l2,l3⟩:=X4 B;have q:=A w.heap.size _ (by omega) (fun e=>by have:=(World.ownsRow.lt C.out.own _ e.symm).2;omega) (j1 (S0 w _) _);obtain⟨x0,x1,x2,x3,y0,y1,y2,y3⟩:=P0 q;have I:L<w3.heap.size:=L_ w3 _ l2;have F:=D_ y;have E:=D_ s;have R:=D_ q;clear d c y s A B g q;go_wp2_with fail;refine(X.out _).mono ?_;rintro e w4 ⟨rfl,i⟩;have b:=F.out.below i;have z:=E.out.trans (F2.below i (by simp;omega));obtain⟨m0,m1⟩:=X4 b.fin;obtain⟨q0,q1⟩:=X4 b.tight;have D:=D_ b;have G:=D_ z;have T:L+1<w4.heap.size:=L_ w4 _ m0;have U:L+2<w4.heap.size:=L_ w4 _ q0;clear i b z l2 l3 x0 x1 x2 x3 y0 y1 y2 y3;go_wp2_with fail;go_end0;refine⟨⟨_,rfl⟩,⟨.slice (some ⟨g3,0,none⟩) (l.length+1) cap3,?_⟩,?_⟩
   · have:=(D.out.setFin ((p:Int)+m)).setTight (V3 k2 t);rw [show((p+m:Nat):Int)=(p:Int)+m from by omega];exact this
   · exact G.out.set2 _ _
 · go_enter Tryz.func89,Tryz.ntmps89;go_wp2_with (first
    |(at_builtin;refine wpList_append_lies _ rfl _ _ 89 rfl (L+4) 96 i0 (.agg #[.int .i64 0,.string ⟨#[]⟩,.int .i64 0,.int .i64 0]) 4 40 Tryz.underlying89 Z M N O rfl (by decide) _ _ _ rfl (World.ownsRow.alloc (World.ownsRow.alloc C.out.own _) _) ⟨w.heap.size+1,0,none⟩ 1 1 [.int .i64 k2,.string u,.int .i64 n,.int .i64 (p:Nat)] rfl rfl ?c1 ?c2 (by decide) ?c3 ?c4 ?c5 _ rfl ?_))
   case c1=>
    intro j x a;match j,a with
    |0,a=>simp at a;subst a;simp [Addr.add]
    |1,a=>simp at a;subst a;simp [Addr.add]
    |2,a=>simp at a;subst a;simp [Addr.add]
    |3,a=>simp at a;subst a;simp [Addr.add]
   case c2=>intro x hx;simp at hx;rcases hx with rfl|rfl|rfl|rfl<;>rfl
   case c3=>unfold maxLen;omega
   case c4=>omega
   case c5=>simp;omega
   intro g3 cap3 w3 d c _ J;have g:Below w.heap.size w ((w.alloc (.cells #[.int .i64 k2,.string u,.int .i64 n,.int .i64 (p:Nat)] 96)).alloc (.cells #[.int .i64 k2,.string u,.int .i64 n,.int .i64 (p:Nat)] 96)):=V.out _ _;have H:=(C.out.below g).grow (F2.below g (by omega)) (by simp;omega) ⟨k2,t,n,p⟩ (by rw [show P7 ⟨k2,t,n,p⟩=_ from Y.out];exact d) c;obtain⟨y,s,A,B⟩:=H;obtain⟨l2,l3⟩:=X4 B;have q:=A w.heap.size _ (by omega) (fun e=>by have:=(World.ownsRow.lt C.out.own _ e.symm).2;omega) (j1 (S0 w _) _);obtain⟨x0,x1,x2,x3,y0,y1,y2,y3⟩:=P0 q;have I:L<w3.heap.size:=L_ w3 _ l2;have F:=D_ y;have E:=D_ s;have R:=D_ q;clear d c y s A B g q;go_wp2_with fail;refine(X.out _).mono ?_;rintro e w4 ⟨rfl,i⟩;have b:=F.out.below i;have z:=E.out.trans (F2.below i (by simp;omega));obtain⟨m0,m1⟩:=X4 b.fin;obtain⟨q0,q1⟩:=X4 b.tight;have D:=D_ b;have G:=D_ z;have T:L+1<w4.heap.size:=L_ w4 _ m0;have U:L+2<w4.heap.size:=L_ w4 _ q0;clear i b z l2 l3 x0 x1 x2 x3 y0 y1 y2 y3;go_wp2_with fail;go_end0;refine⟨⟨_,rfl⟩,⟨.slice (some ⟨g3,0,none⟩) (l.length+1) cap3,?_⟩,?_⟩
   · have:=(D.out.setFin ((p:Int)+m)).setTight (V3 k2 t);rw [show((p+m:Nat):Int)=(p:Int)+m from by omega];exact this
   · exact G.out.set2 _ _
theorem dJ (L:Nat) (w:World) (l:List Tok) (e:Int) (tg:Bool) (v:Value) (n:Int) (p m:Nat) (h:V4 L w l e tg v) (y:L+4<=w.heap.size) (A:p<=1000000) (z:m<=1000000):
 Calls Tryz.prog 89 #[.agg #[.int .i64 0,.string ⟨#[]⟩,.int .i64 n,.int .i64 0],.int .i64 (p:Nat),.int .i64 (m:Nat),.pointer (some ⟨L+2,0,none⟩),.pointer (some ⟨L,0,none⟩),.pointer (some ⟨L+1,0,none⟩)] w
  fun e' w'=>(∃r,e'=.returned r)/\CutOut L w l ((p+m:Nat):Int) false w':=by
 have j:=D_ (fun W=>CX 0 n 0 [] W);rw [show V3 0 []=false from rfl]at j;have k:=D_ (fun o:Obj=>(F_ w.heap.size w).alloc (R_ _) o);obtain⟨e0,e1⟩:=X4 h.fin;obtain⟨t0,t1⟩:=X4 h.tight;have f1:((⟨#[]⟩:ByteArray).toList== [40])=false:=by decide+kernel
 have s:L+1<w.heap.size:=by omega
 have t:L+2<w.heap.size:=by omega
 have q:=D_ h;clear h;cases tg
 all_goals
  go_enter Tryz.func89,Tryz.ntmps89;go_wp2_with fail;refine(j.out _).mono ?_;rintro e w4 ⟨rfl,c⟩;have b:=(k.out _).trans (c.mono (by simp));have a:=q.out.below b;have d:=F2.below b (show L<=w.heap.size by omega);obtain⟨m0,m1⟩:=X4 a.fin;obtain⟨q0,q1⟩:=X4 a.tight;have g:=D_ a;have i:=D_ d;have u:L+1<w4.heap.size:=L_ w4 _ m0;have x:L+2<w4.heap.size:=L_ w4 _ q0;clear c b a d e0 e1 t0 t1;go_wp2_with fail;go_end0;refine⟨⟨_,rfl⟩,⟨v,?_⟩,?_⟩
  · have:=(g.out.setFin ((p:Int)+m)).setTight false;rw [show((p+m:Nat):Int)=(p:Int)+m from by omega];exact this
  · exact i.out.set2 _ _
theorem cut1 (L:Nat) (w:World) (l:List Tok) (e:Int) (tg:Bool) (v:Value) (x:Lx) (p m:Nat) (h:V4 L w l e tg v) (d:L+4<=w.heap.size) (j:p<=1000000) (i:m<=1000000) (o:l.length<=1000000) (hx:x.kind=0->x.text= []):
 Calls Tryz.prog 89 #[lxv x,.int .i64 (p:Nat),.int .i64 (m:Nat),.pointer (some ⟨L+2,0,none⟩),.pointer (some ⟨L,0,none⟩),.pointer (some ⟨L+1,0,none⟩)] w
  fun e' w'=>(∃r,e'=.returned r)/\CutOut L w (if x.kind=0 then l else l++ [⟨A3 tg x,x.text,x.n,p⟩]) ((p+m:Nat):Int) (if x.kind=0 then false else V3 (A3 tg x) x.text) w':=by
 obtain⟨k,t,n,wd⟩:=x;unfold lxv;dsimp only at hx⊢;by_cases a:k=0
 · rw [J_ a,J_ a,hx a,a];exact dJ L w l e tg v n p m h d j i
 · rw [I_ a,I_ a];have e40:((⟨t.toArray⟩:ByteArray).toList== [40])=decide (t= [40]):=by rw [ByteArray.toList_eq,Bool.eq_iff_iff];simp
   by_cases b:tg=true/\t= [40]/\k=6
   · have g:A3 tg ⟨k,t,n,wd⟩=7:=J_ b;rw [g];exact zj L w l e tg v k n t p m 7 h d j i o (by decide) (.inl ⟨b.1,by rw [e40,decide_eq_true b.2.1],by rw [b.2.2];rfl,rfl⟩)
   · have g:A3 tg ⟨k,t,n,wd⟩=k:=I_ b;rw [g];refine zj L w l e tg v k n t p m k h d j i o (by simpa using a) (.inr ?_);cases tg with
     |false=>exact .inl ⟨rfl,rfl⟩
     |true=>
      by_cases c:t= [40]
      · exact .inr (.inr ⟨rfl,by rw [e40,decide_eq_true c],by simpa using fun q=>b ⟨rfl,c,q⟩,rfl⟩)
      · exact .inr (.inl ⟨rfl,by rw [e40,decide_eq_false c],rfl⟩)
theorem V4.iterAt {L:Nat} {w:World} {l:List Tok} {e:Int} {t:Bool} {v:Value} (h:V4 L w l e t v) (s:ByteArray) (pos':Nat):V4 L (w.iterAt (L+3) s pos') l e t v:=by
 refine⟨?_,?_,?_,?_⟩
 · rw [Lib.iterAt_other w (L+3) L s pos' (by omega)];exact h.list
 · rw [Lib.iterAt_other w (L+3) (L+1) s pos' (by omega)];exact h.fin
 · rw [Lib.iterAt_other w (L+3) (L+2) s pos' (by omega)];exact h.tight
 · obtain⟨b,c|⟨g,cap,cur,i,a,d,r⟩⟩:=h.own
   · exact⟨b,.inl c⟩
   · exact⟨b,.inr ⟨g,cap,cur,i,a,by rw [Lib.iterAt_other w (L+3) g s pos' (by omega)];exact d,r⟩⟩
theorem lex_zero (l:List UInt8) (h:(G0 l).kind=0):(G0 l).text= []:=by
 have a: ∀x:Lx,(x.kind=0->x.text= [])->(V1 x).kind=0->(V1 x).text= []:=fun x hx=>by
  unfold V1;split
  · exact hx
  · exact fun _=>rfl
 revert h
 cases l with
 |nil=>exact fun _=>rfl
 |cons b t=>
  unfold G0;dsimp only;repeat' split
  · exact fun _=>rfl
  · exact a _ (fun h=>absurd h (by show(1:Int)≠0;decide))
  · exact fun h=>absurd h (by show(4:Int)≠0;decide)
  · unfold C2;repeat' split
    all_goals exact fun _=>rfl
  · unfold X6;split<;>exact fun _=>rfl
  · refine a _ (fun h=>absurd h ?_);unfold U9;dsimp only;split<;>decide
  · refine a _ ?_;unfold Q4;split
    · exact fun h=>absurd h (by show(2:Int)≠0;decide)
    · exact fun _=>rfl
  · unfold G4;dsimp only;split<;>exact fun h=>absurd h (by decide)
  · exact fun _=>rfl
  · exact fun _=>rfl
def mj (B:Nat) (src:List UInt8) (e:Ending) (w':World):Prop:=
 (4096<src.length/\e=.returned (.tuple #[.slice none 0 0,.int .i64 0,.int .i64 2]))\/
 (src.length<=4096/\((∃o:Nat,C5 src 0 false=.bad o/\e=.returned (.tuple #[.slice none 0 0,.int .i64 (o:Nat),.int .i64 50]))\/
   ∃T v,C5 src 0 false=.good T/\e=.returned (.tuple #[v,.int .i64 0,.int .i64 0])/\j2 B w' v T))
def CSt (s:ByteArray) (w wr:World):Prop:= ∃(pos e:Nat) (l:List Tok) (tg:Bool) (v:Value),pos<=e/\e<=s.size/\l.length<=e/\wr.heap[w.heap.size+3]?=some (.stringIter s pos)/\Below w.heap.size w wr/\w.heap.size+4<=wr.heap.size/\
 V4 w.heap.size wr l (e:Nat) tg v/\F6 (s.data.toList.drop pos) (e-pos)/\C5 s.data.toList 0 false=(C5 (s.data.toList.drop e) e tg).pre l
theorem cut_start (w:World) (s:ByteArray):CSt s w ((((w.alloc (.cells #[.slice none 0 0] 89)).alloc (.cells #[.int .i64 0] 3)).alloc (.cells #[.bool false] 4)).iter s 0):=by
 have d:=S0 w (.cells #[.slice none 0 0] 89);have b:=S0 (w.alloc (.cells #[.slice none 0 0] 89)) (.cells #[.int .i64 0] 3);have c:=S0 ((w.alloc (.cells #[.slice none 0 0] 89)).alloc (.cells #[.int .i64 0] 3)) (.cells #[.bool false] 4);have a:=World.iter_heap (((w.alloc (.cells #[.slice none 0 0] 89)).alloc (.cells #[.int .i64 0] 3)).alloc (.cells #[.bool false] 4)) s 0;simp only [Z_]at b c a
 have g:Below w.heap.size w ((((w.alloc (.cells #[.slice none 0 0] 89)).alloc (.cells #[.int .i64 0] 3)).alloc (.cells #[.bool false] 4)).iter s 0):=
  ((((F_ _ w).alloc (R_ _) _).alloc (by simp) _).alloc (by simp;omega) _).alloc (by simp;omega) _
 refine⟨0,0,[],false,.slice none 0 0,R_ _,Nat.zero_le _,R_ _,a,g,by have:=(Array.getElem?_eq_some_iff.1 a).1;omega,⟨?_,?_,?_,O_ _ _ _ _⟩,.zero _,by rw [List.drop_zero,pre_nil]⟩
 · exact j1 (j1 (j1 d _) _) (.stringIter s 0)
 · exact j1 (j1 b _) (.stringIter s 0)
 · exact j1 c (.stringIter s 0)
theorem VX (s:ByteArray) (pos:Nat) (a:pos<s.size): ∃b t,s.data.toList.drop pos=b::t:=by
 cases h:s.data.toList.drop pos with
 |nil=>
  have:=congrArg List.length h;rw [List.length_drop,C0]at this;simp at this;omega
 |cons b t=>exact⟨b,t,rfl⟩
set_option maxRecDepth 100000 in
theorem Zz (s:ByteArray) (w:World) (hs:s.size<=4096) (hT:TabsT w):
 Calls Tryz.prog 78 #[.string s] w fun e w'=>mj w.heap.size s.data.toList e w'/\Below w.heap.size w w':=by
 have HT:=D_ hT;clear hT;go_enter Tryz.func78,Tryz.ntmps78;go_wp2_with fail;go_loopw [3] (fun r wr=>r=.int .i64 0/\CSt s w wr) (fun _ wr=>s.size-wr.iterPos (w.heap.size+3))
 case atStart=>
  exact⟨rfl,cut_start w s⟩
 case round=>
  obtain⟨rfl,pos,e,l,tg,v,z_,q_,t_,A,e_,v_,hm,hh,j⟩:=hrel;by_cases hp:pos<s.size
  · have u_: ∀ty,(Instr.next (.pointer (some ⟨w.heap.size+3,0,none⟩)) true ty).run Tryz.prog wr=_:=fun ty=>Lib.run_next_any_at wr (w.heap.size+3) s pos ty A hp;have C:=Lib.iterAt_heap wr (w.heap.size+3) s pos (pos+(Utf8.decode s pos).2) A;have a:=Lib.below_iterAt e_ (k:=w.heap.size+3) (by omega) s (pos+(Utf8.decode s pos).2);have X:=hm.iterAt s (pos+(Utf8.decode s pos).2);have U:=H6 s pos hp;have n_:w.heap.size+4<=(wr.iterAt (w.heap.size+3) s (pos+(Utf8.decode s pos).2)).heap.size:=by
     have:=a.size;have:=(Array.getElem?_eq_some_iff.1 C).1;omega
    have f_:Lib.decodeL (s.data.toList.drop pos)=Utf8.decode s pos:=Lib.decodeL_drop s pos;obtain⟨b,t,d_⟩:=VX s pos hp;obtain⟨e0,e1⟩:=X4 X.fin;have J:=D_ C;have HM:=D_ X;have c_:=D_ (HT.out.on a);have i:=D_ j;have D:=D_ d_;have y:=D_ f_;have x_:w.heap.size+1<(wr.iterAt (w.heap.size+3) s (pos+(Utf8.decode s pos).2)).heap.size:=by omega
    clear hm X j C d_ f_;generalize wr.iterAt (w.heap.size+3) s (pos+(Utf8.decode s pos).2)=W2 at*;by_cases y_:pos<e
    · have g:=hh.next (by omega);rw [y.out,List.drop_drop]at g;obtain⟨m_,B⟩:=g;have HN:=D_ (show F6 (s.data.toList.drop (pos+(Utf8.decode s pos).2)) (e-(pos+(Utf8.decode s pos).2)) by rw [show e-(pos+(Utf8.decode s pos).2)=e-pos-(Utf8.decode s pos).2 from by omega];exact B);clear B hh y;obtain⟨r_,s_⟩:=U;generalize (Utf8.decode s pos).1=c at*;generalize (Utf8.decode s pos).2=n at*;go_wp2_with fail;go_roundw
      case rel=>exact⟨rfl,pos+n,e,l,tg,v,by omega,q_,t_,J.out,a,n_,HM.out,HN.out,i.out⟩
      case measure=>
       simp only [World.iterPos,J.out,A]
       omega
    · obtain rfl:pos=e:=by omega
      have m:=Z8 (s.data.toList.drop pos) pos tg (by rw [D.out];simp);have Y:=Gq (s.data.toList.drop pos);have V:=hits_lex (s.data.toList.drop pos);have hz:=lex_zero (s.data.toList.drop pos);rw [List.length_drop,C0]at Y;have T:(s.extract pos s.size).data.toList=s.data.toList.drop pos:=by rw [S6]
      have hF:=tok_first (s.extract pos s.size) ((Utf8.decode s pos).1:Nat) b t W2 (by rw [T,D.out]) (by rw [<-D.out,y.out]) (by rw [ByteArray.size_extract];omega) c_.out;rw [T]at hF;have g:0<(G0 (s.data.toList.drop pos)).w->(Utf8.decode s pos).2<=(G0 (s.data.toList.drop pos)).w/\F6 (s.data.toList.drop (pos+(Utf8.decode s pos).2)) ((G0 (s.data.toList.drop pos)).w-(Utf8.decode s pos).2):=fun h0=>by
       have:=V.next h0;rw [y.out,List.drop_drop]at this;exact this
      rw [List.drop_drop]at m;have E:=D_ m;have N:=D_ g;have HZ:=D_ hz;have G:=D_ hF;clear m g hz hF V hh T y D c_;obtain⟨r_,s_⟩:=U;generalize (Utf8.decode s pos).1=c at*;generalize (Utf8.decode s pos).2=n at*;generalize G0 (s.data.toList.drop pos)=x at*;by_cases q:x.w=0
      · have HB:Hid (C5 s.data.toList 0 false=.bad pos):=D_ (by rw [i.out,E.out,J_ q];rfl);obtain⟨k,u,xn,xw⟩:=x;dsimp only at q;subst q;unfold lxr lxv at G;dsimp only at G;clear E N HZ i Y;generalize (⟨u.toArray⟩:ByteArray)=u2 at*;go_wp2_with fail;refine G.out.mono ?_;rintro e w3 ⟨rfl,d⟩;have F:=(a.trans (d.mono a.size)).alloc (by have:=d.size;omega) (.cells #[.int .i64 k,.string u2,.int .i64 xn,.int .i64 0] 96);clear d e0 e1;go_wp2_with fail;go_ret3;exact⟨.inr ⟨by rw [C0];exact hs,.inl ⟨pos,HB.out,rfl⟩⟩,F⟩
      · have m:=E.out;rw [I_ q]at m;obtain⟨m_,B⟩:=N.out (by omega);have z:=fun (w5:World) (h:V4 w.heap.size w5 l (pos:Nat) tg v) (hL:w.heap.size+4<=w5.heap.size)=>cut1 w.heap.size w5 l (pos:Nat) tg v x pos x.w h hL (by omega) (by omega) (by omega) HZ.out;have O:C5 s.data.toList 0 false=(C5 (s.data.toList.drop (pos+x.w)) (pos+x.w) (if x.kind=0 then false else V3 (A3 tg x) x.text)).pre (if x.kind=0 then l else l++ [⟨A3 tg x,x.text,x.n,pos⟩]):=by
         rw [i.out,m];by_cases H:x.kind=0
         · rw [J_ H,J_ H,J_ H]
         · rw [I_ H,I_ H,I_ H,pre_pre]
        have j_:(if x.kind=0 then l else l++ [⟨A3 tg x,x.text,x.n,pos⟩]).length<=pos+x.w:=by
         split
         · omega
         · rw [P_,List.length_singleton];omega
        have Z:=D_ O;have b_:=D_ j_;have I:=D_ z;have HN:=D_ (show F6 (s.data.toList.drop (pos+n)) (pos+x.w-(pos+n)) by rw [show pos+x.w-(pos+n)=x.w-n from by omega];exact B);clear m B z O j_ E N HZ i;generalize (if x.kind=0 then l else l++ [⟨A3 tg x,x.text,x.n,pos⟩])=l2 at*;generalize (if x.kind=0 then false else V3 (A3 tg x) x.text)=tg2 at*;have w_:((x.w:Int)==0)=false:=by simp;omega
        obtain⟨k,u,xn,xw⟩:=x;unfold lxr lxv at G;unfold lxv at I;dsimp only at G I Z b_ HN m_ Y w_ q;clear q;generalize (⟨u.toArray⟩:ByteArray)=u2 at*;go_wp2_with fail;refine G.out.mono ?_;rintro e w3 ⟨rfl,d⟩;have k_:=HM.out.below d;have g_:=K0 d J.out;have hs3:=d.size;have F:=(a.trans (d.mono a.size)).alloc (by omega) (.cells #[.int .i64 k,.string u2,.int .i64 xn,.int .i64 0] 96);have l_:=k_.below ((F_ w3.heap.size w3).alloc (R_ _) (.cells #[.int .i64 k,.string u2,.int .i64 xn,.int .i64 0] 96));have h_:=j1 g_ (.cells #[.int .i64 k,.string u2,.int .i64 xn,.int .i64 0] 96);have p_:=D_ l_;have o_:=D_ h_;clear d k_ g_ e0 e1 l_ h_;go_wp2_with fail;refine(I.out _ p_.out (by simp;omega)).mono ?_;rintro e w5 ⟨⟨r5,rfl⟩,⟨v5,p⟩,o⟩;have R:=F.trans o.1;have W:=o.2 _ _ o_.out;have hs5:=(Array.getElem?_eq_some_iff.1 W).1;have M:=D_ p;have a_:=D_ W;clear p o W F;go_wp2_with fail;go_roundw
        case rel=>exact⟨rfl,pos+n,pos+xw,l2,tg2,v5,by omega,by omega,b_.out,a_.out,R,by omega,M.out,HN.out,Z.out⟩
        case measure=>
         simp only [World.iterPos,a_.out,A]
         omega
  · have u_: ∀ty,(Instr.next (.pointer (some ⟨w.heap.size+3,0,none⟩)) true ty).run Tryz.prog wr=_:=fun ty=>Lib.run_next_end_at wr (w.heap.size+3) s pos ty A hp;obtain rfl:pos=s.size:=by omega
    obtain rfl:e=s.size:=by omega
    rw [List.drop_eq_nil_of_le (by rw [C0];exact R_ _),Aj]at j;have O:C5 s.data.toList 0 false=.good (l++ [⟨9,[],0,s.size⟩]):=j;have z:=cut1 w.heap.size wr l (s.size:Nat) tg v ⟨9,[],0,0⟩ s.size 0 hm v_ (by omega) (by omega) (by omega) (fun _=>rfl);have i_:A3 tg ⟨9,[],0,0⟩=9:=by unfold A3;rw [I_ (by simp)]
    rw [I_ (by decide),i_]at z;unfold lxv at z;dsimp only at z;have I:=D_ z;have Z:=D_ O;clear hm hh j O z i_;go_wp2_with fail;refine I.out.mono ?_;rintro e w5 ⟨⟨r5,rfl⟩,⟨v5,p⟩,o⟩;have R:=e_.trans o.1;obtain⟨l0,l1⟩:=X4 p.list;have M:=D_ p;clear p o;go_wp2_with fail;go_ret3;exact⟨.inr ⟨by rw [C0];exact hs,.inr ⟨_,_,Z.out,rfl,M.out.own.mono (by omega)⟩⟩,R⟩
theorem Dz (s:ByteArray) (w:World) (a:TabsT w):
 Calls Tryz.prog 78 #[.string s] w fun e w'=>mj w.heap.size s.data.toList e w'/\Below w.heap.size w w':=by
 by_cases c:s.size<=4096
 · exact Zz s w c a
 · have b:=D_ (show 4096<s.data.toList.length by rw [C0];omega);clear a;go_enter Tryz.func78,Tryz.ntmps78;go_wp2_with fail;go_ret3;exact⟨.inl ⟨b.out,rfl⟩,F_ _ _⟩
theorem Wz: ∀(l:List Tok) (j:Nat) (a:j<l.length) (i:Nat),i<4->(N5 l)[j*4+i]?=(P7 l[j])[i]?
 | [],j,a,_,_=>absurd a (Nat.not_lt_zero _)
 |t::l,0,_,i,hi=>by
  show(P7 t++N5 l)[0*4+i]?=_
  rw [Nat.zero_mul,Nat.zero_add,List.getElem?_append_left (show i<(P7 t).length from hi),List.getElem_cons_zero]
 |t::l,j+1,a,i,hi=>by
  show(P7 t++N5 l)[(j+1)*4+i]?=_
  rw [List.getElem?_append_right (show(P7 t).length<=(j+1)*4+i by show 4<=_;omega),show(j+1)*4+i-(P7 t).length=j*4+i from by show(j+1)*4+i-4=_;omega,List.getElem_cons_succ];exact Wz l j (by rw [List.length_cons]at a;omega) i hi
structure XQ (w:World) (g:Nat) (j:Nat) (t:Tok):Prop where
 kind:w.cell? ⟨g,j*4,none⟩=some (.int .i64 t.kind)
 text:w.cell? ⟨g,j*4+1,none⟩=some (.string ⟨t.text.toArray⟩)
 n:w.cell? ⟨g,j*4+2,none⟩=some (.int .i64 t.n)
 pos:w.cell? ⟨g,j*4+3,none⟩=some (.int .i64 (t.pos:Nat))
theorem j2.view {B:Nat} {w:World} {v:Value} {l:List Tok} (h:j2 B w v l): ∃ad cap,v=.slice ad l.length cap/\l.length<=cap/\cap<=maxLen/\ ∀j (a:j<l.length),∃g,ad=some ⟨g,0,none⟩/\B<=g/\XQ w g j l[j]:=by
 have m:=h;obtain⟨p,⟨rfl,k⟩|⟨g,cap,cur,rfl,b,o,d,c,r⟩⟩:=h
 · refine⟨none,0,by rw [k],by omega,Nat.zero_le _,fun j a=>by omega⟩
 · refine⟨some ⟨g,0,none⟩,cap,rfl,d,c,fun j a=>⟨g,rfl,b,?_⟩⟩;have hc: ∀i,i<4->w.cell? ⟨g,j*4+i,none⟩=(P7 l[j])[i]?:=fun i n=>by
    rw [World.ownsRow.cellAt m (j*4+i) (by omega),Wz l j a i n]
   exact⟨hc 0 (by decide),hc 1 (by decide),hc 2 (by decide),hc 3 (by decide)⟩
theorem XQ.on {w w':World} {g j:Nat} {t:Tok} (h:XQ w g j t) (a:Below w.heap.size w w'):XQ w' g j t:=
 ⟨(a.cell (p:=⟨g,_,none⟩) (Z7 h.kind)).trans h.kind,(a.cell (p:=⟨g,_,none⟩) (Z7 h.text)).trans h.text,(a.cell (p:=⟨g,_,none⟩) (Z7 h.n)).trans h.n,(a.cell (p:=⟨g,_,none⟩) (Z7 h.pos)).trans h.pos⟩
theorem cut_good {src:List UInt8} {T:List Tok} (i:src.length<=4096) (hc:C5 src 0 false=.good T) (s:ByteArray) (g:s.data.toList=src) (w:World) (a:TabsT w):
 Calls Tryz.prog 78 #[.string s] w fun e w'=> ∃v,e=.returned (.tuple #[v,.int .i64 0,.int .i64 0])/\j2 w.heap.size w' v T/\Below w.heap.size w w':=by
 refine(Dz s w a).mono ?_;rintro e w' ⟨h,b⟩;rw [g]at h;rcases h with⟨h,_⟩|⟨_,⟨o,h,_⟩|⟨T',v,h,c,d⟩⟩
 · omega
 · rw [hc]at h;cases h
 · rw [hc]at h;injection h with h;subst h;exact⟨v,c,d,b⟩
theorem fJ {src:List UInt8} {o:Nat} (g:src.length<=4096) (hc:C5 src 0 false=.bad o) (s:ByteArray) (d:s.data.toList=src) (w:World) (a:TabsT w):
 Calls Tryz.prog 78 #[.string s] w fun e w'=>e=.returned (.tuple #[.slice none 0 0,.int .i64 (o:Nat),.int .i64 50])/\Below w.heap.size w w':=by
 refine(Dz s w a).mono ?_;rintro e w' ⟨h,b⟩;rw [d]at h;rcases h with⟨h,_⟩|⟨_,⟨o',h,c⟩|⟨T',v,h,_⟩⟩
 · omega
 · rw [hc]at h;injection h with h;subst h;exact⟨c,b⟩
 · rw [hc]at h;cases h
theorem cut_long {src:List UInt8} (d:4096<src.length) (s:ByteArray) (c:s.data.toList=src) (w:World) (a:TabsT w):
 Calls Tryz.prog 78 #[.string s] w fun e w'=>e=.returned (.tuple #[.slice none 0 0,.int .i64 0,.int .i64 2])/\Below w.heap.size w w':=by
 refine(Dz s w a).mono ?_;rintro e w' ⟨h,b⟩;rw [c]at h;rcases h with⟨_,h⟩|⟨h,_⟩
 · exact⟨h,b⟩
 · omega
def exSrc:List UInt8:= [102,111,111,40,88,44,32,39,97,32,98,39,41,46]
def exToks:List Tok:= [⟨1,[102,111,111],0,0⟩,⟨7,[40],0,3⟩,⟨4,[88],0,4⟩,⟨6,[44],0,5⟩,⟨2,[97,32,98],0,7⟩,⟨6,[41],0,12⟩,⟨8,[46],0,13⟩,⟨9,[],0,14⟩]
end Go.Proofs.YtinefdlkajnomaaGreatDoor
