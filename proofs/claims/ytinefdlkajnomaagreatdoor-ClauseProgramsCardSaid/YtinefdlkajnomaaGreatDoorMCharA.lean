import Derived.Test.YtinefdlkajnomaaGreatDoorMZ
import Derived.Lib.TrimUEq
import Derived.Lib.ValidU
import Derived.Lib.RuneBytes
import Derived.Lib.MapLaws
import Derived.Test.YtinefdlkajnomaaGreatDoorChecked
import Derived.WalkKit
import Derived.WalkSpells
import Derived.Lib.Hide
namespace Go.Proofs.YtinefdlkajnomaaGreatDoor
open Go.RowKit
set_option maxHeartbeats 20000000
def cls (c:Int):Int:=
 if 97<=c/\c<=122 then 1
 else if(65<=c/\c<=90)\/c=95 then 2
 else if 48<=c/\c<=57 then 3
 else if c=43\/c=45\/c=42\/c=47\/c=92\/c=94\/c=60\/c=62\/c=61\/c=126\/c=58\/c=46\/c=63\/c=64\/c=35\/c=38\/c=36 then 4
 else if c=9\/c=10\/c=13\/c=32 then 5
 else if c=33\/c=59\/c=44\/c=124 then 6
 else if c=40\/c=41\/c=91\/c=93\/c=123\/c=125 then 7
 else if c=39 then 8
 else 0
def R9:Nat->List UInt8->List Int
 |0,_=> []
 |n+1,l=>if l= []then []else((Lib.decodeL l).1:Int)::R9 n (l.drop (Lib.decodeL l).2)
def S2 (l:List UInt8):List Int:=R9 l.length l
def K2 (l:List UInt8):Bool:=decide (l.length<=255)&&Lib.validD l
def X2 (c:Int):Bool:=decide (cls c=1\/cls c=2\/cls c=3)
def U1 (c:Int):Bool:=decide (cls c=4)
def Dx (l:List UInt8):Bool:=
 K2 l&& !(decide (l= [])||decide (l= [46])||decide (l.take 2= [47,42]))&&
  (decide (l= [91,93])||decide (l= [123,125])||decide (l= [33])||decide (l= [59])||
    (decide (cls ((S2 l).headD 0)=1)&&(S2 l).all X2)||(S2 l).all U1)
def J4 (r:Int):List UInt8:=(Utf8.encode r).data.toList
def U6 (n:Nat):UInt8:=if n<10 then UInt8.ofNat (48+n)else UInt8.ofNat (87+n)
def Px (n:Nat):List UInt8:=if n<16 then [U6 n]else [U6 (n/16),U6 (n%16)]
def Fj (c:Int):List UInt8:=
 if c=39\/c=92 then 92::J4 c
 else if c=10 then [92,110]
 else if c=9 then [92,116]
 else if c<32 then 92::120::(Px c.toNat++ [92])
 else J4 c
def sq (l:List UInt8):List UInt8:=39::((S2 l).flatMap Fj++ [39])
def xx (l:List UInt8):List UInt8:=if K2 l then(if Dx l then l else sq l)else []
def T3 (b:Nat):Int:=if 48<=b/\b<=57 then(b:Int)-48 else if 97<=b/\b<=102 then(b:Int)-87 else if 65<=b/\b<=70 then(b:Int)-55 else-1
def J0:Nat->List UInt8->Int->Nat×Int
 |0,_,n=>(0,n)
 |_,[],n=>(0,n)
 |k+1,b::t,n=>if 0<=T3 b.toNat then((J0 k t (16*n+T3 b.toNat)).1+1,(J0 k t (16*n+T3 b.toNat)).2)else(0,n)
def K3:List UInt8->Int×Nat
 | []=>(0,0)
 | b::t=>
  if b.toNat=92\/b.toNat=39 then((b.toNat:Int),1)
  else if b.toNat=110 then(10,1)
  else if b.toNat=116 then(9,1)
  else if b.toNat=120 then
   (if(J0 6 t 0).1=0\/t.length<=(J0 6 t 0).1\/(t.getD (J0 6 t 0).1 0).toNat≠92\/1114111<(J0 6 t 0).2\/(55296<=(J0 6 t 0).2/\(J0 6 t 0).2<=57343)then(0,0)
    else((J0 6 t 0).2,(J0 6 t 0).1+2))
  else(0,0)
def U7:Nat->List UInt8->List UInt8->Nat->Option (List UInt8×Nat)
 |0,_,_,_=>none
 |f+1,l,out,at_=>
  if l= []then none
  else if(Lib.decodeL l).1=39 then(if l.getD 1 0=39/\1<l.length then U7 f (l.drop 2) (out++ [39]) (at_+2)else some (out,at_+1))
  else if(Lib.decodeL l).1=92 then(if(K3 (l.drop 1)).2=0 then none else U7 f (l.drop ((K3 (l.drop 1)).2+1)) (out++J4 (K3 (l.drop 1)).1) (at_+(K3 (l.drop 1)).2+1))
  else if(Lib.decodeL l).1<32\/((Lib.decodeL l).1=65533/\(Lib.decodeL l).2=1)then none
  else U7 f (l.drop (Lib.decodeL l).2) (out++J4 (Lib.decodeL l).1) (at_+(Lib.decodeL l).2)
def N3 (l:List UInt8):Option (List UInt8×Nat):=if l.headD 0=39 then U7 l.length (l.drop 1) [] 1 else none
theorem S9: ∀(n:Nat) (l:List UInt8),l.length<=n->R9 n l=R9 l.length l
 |0,l,h=>by rw [List.eq_nil_of_length_eq_zero (Nat.le_zero.1 h)];rfl
 |n+1,l,h=>by
  by_cases a:l= []
  · subst a;rfl
  · have d:0<l.length:=List.length_pos_iff.2 a;obtain⟨m,c⟩: ∃m,l.length=m+1:=⟨l.length-1,by omega⟩;have g:=Lib.decodeL_width l;have b:(l.drop (Lib.decodeL l).2).length<=m:=by rw [List.length_drop];omega
    rw [c];show(if l= []then []else((Lib.decodeL l).1:Int)::R9 n (l.drop (Lib.decodeL l).2))=(if l= []then []else((Lib.decodeL l).1:Int)::R9 m (l.drop (Lib.decodeL l).2))
    rw [I_ a,I_ a,S9 n _ (by omega),S9 m _ b]
theorem T9:S2 []= []:=rfl
theorem vq (l:List UInt8) (a:l≠ []):S2 l=((Lib.decodeL l).1:Int)::S2 (l.drop (Lib.decodeL l).2):=by
 have d:0<l.length:=List.length_pos_iff.2 a;obtain⟨m,c⟩: ∃m,l.length=m+1:=⟨l.length-1,by omega⟩;have g:=Lib.decodeL_width l;have b:(l.drop (Lib.decodeL l).2).length<=m:=by rw [List.length_drop];omega
 unfold S2;rw [c];show(if l= []then []else((Lib.decodeL l).1:Int)::R9 m (l.drop (Lib.decodeL l).2))=_
 rw [I_ a,S9 m _ b]
theorem iq (r:Int):1<=(Utf8.encode r).size/\(Utf8.encode r).size<=4:=by
 unfold Utf8.encode;dsimp only;generalize (if Utf8.valid r=true then r.toNat else Utf8.runeError)=c;split
 · exact⟨by show 1<=1;decide,by show 1<=4;decide⟩
 · split
   · exact⟨by show 1<=2;decide,by show 2<=4;decide⟩
   · split
     · exact⟨by show 1<=3;decide,by show 3<=4;decide⟩
     · exact⟨by show 1<=4;decide,by show 4<=4;decide⟩
theorem K7 (r:Int):1<=(J4 r).length/\(J4 r).length<=4:=by
 have h:=iq r;unfold J4;simpa using h
theorem encL_ascii (r:Int) (b:0<=r) (c:r<128):J4 r= [UInt8.ofNat r.toNat]:=by
 have a:Utf8.valid r=true:=by unfold Utf8.valid;simp;omega
 unfold J4 Utf8.encode;dsimp only;rw [a,J_ rfl,J_ (show r.toNat<128 by omega)]
def pz (c:Int) (l:List UInt8):Bool:=l.any fun b=>decide ((b.toNat:Int)=c)
theorem memL_snoc (c:Int) (s:ByteArray) (k:Nat) (h:k<s.size) (a:pz c (s.data.toList.take k)=false) (b:(s[k].toNat:Int)≠c):pz c (s.data.toList.take (k+1))=false:=by
 have e:s.data.toList.take (k+1)=s.data.toList.take k++ [s[k]]:=by
  rw [U_ (by simpa using h)];rfl
 unfold pz at*;rw [e,List.any_append,a];simp [b]
theorem memL_hit (c:Int) (s:ByteArray) (k:Nat) (h:k<s.size) (a:(s[k].toNat:Int)=c):pz c s.data.toList=true:=by
 unfold pz;rw [List.any_eq_true];exact⟨s[k],by rw [show s[k]=s.data.toList[k]'(by simpa using h)from rfl];exact List.getElem_mem _,by simpa using a⟩
theorem N7 {a b:Bool} (h:a=b):Ending.returned (.bool a)=.returned (.bool b):=by rw [h]
theorem ret_i {k:IntKind} {a b:Int} (h:a=b):Ending.returned (.int k a)=.returned (.int k b):=by rw [h]
theorem vz (c:Int) (s:ByteArray) (w:World) (o:s.size<=1000):
 Calls Tryz.prog 150 #[.int .i32 c,.string s] w fun e w'=>e=.returned (.bool (pz c s.data.toList))/\w=w':=by
 go_enter Tryz.func150,Tryz.ntmps150;go_wp2;go_loop [5] (fun i=> ∃k:Nat,k<=s.size/\i=.int .i64 k/\Hid (pz c (s.data.toList.take k)=false)) (fun i=>s.size-(intOf i).toNat)
 case atStart=>exact⟨0,Nat.zero_le _,rfl,D_ rfl⟩
 case round=>
  obtain⟨k,n,rfl,g⟩:=hrel;by_cases d:k<s.size
  · have l:=D_ (memL_snoc c s k d g.out);have j:=D_ (memL_hit c s k d);have m:(s[k].toNat:Int)<256:=by have:=s[k].toNat_lt;omega
    by_cases b:(s[k].toNat:Int)=c
    · have e1:(c==(s[k].toNat:Int))=true:=by simp [b]
      have a:=D_ (j.out b);clear b;go_wp2;go_ret;exact⟨N7 a.out.symm,rfl⟩
    · have e1:(c==(s[k].toNat:Int))=false:=by simp;omega
      have a:=D_ (l.out b);clear b;go_wp2;go_round
      case rel=>exact⟨k+1,by omega,by go_num,a⟩
      case measure=>simp [intOf];omega
  · have a:=g.out;rw [List.take_of_length_le (by simp;omega)]at a;have h:=D_ a;clear a g;go_wp2;go_ret;exact⟨N7 h.out.symm,rfl⟩
theorem mem4 (c:Int):pz c [43,45,42,47,92,94,60,62,61,126,58,46,63,64,35,38,36]=decide (c=43\/c=45\/c=42\/c=47\/c=92\/c=94\/c=60\/c=62\/c=61\/c=126\/c=58\/c=46\/c=63\/c=64\/c=35\/c=38\/c=36):=by
 rw [Bool.eq_iff_iff];simp [pz]
 omega
theorem mem6 (c:Int):pz c [33,59,44,124]=decide (c=33\/c=59\/c=44\/c=124):=by
 rw [Bool.eq_iff_iff];simp [pz]
 omega
theorem mem7 (c:Int):pz c [40,41,91,93,123,125]=decide (c=40\/c=41\/c=91\/c=93\/c=123\/c=125):=by
 rw [Bool.eq_iff_iff];simp [pz]
 omega
def Am (c:Int) (s:ByteArray) (b:Bool):Prop:= ∀w,Calls Tryz.prog 150 #[.int .i32 c,.string s] w fun e w'=>e=.returned (.bool b)/\w=w'
def Gap (c:Int):Prop:=c<48\/(58<=c/\c<=64)\/(91<=c/\c<=94)\/(96<=c/\c<=96)\/123<=c
theorem class4 (c:Int) (w:World) (a:Gap c) (c4:Am c ⟨#[43,45,42,47,92,94,60,62,61,126,58,46,63,64,35,38,36]⟩ true):
 Calls Tryz.prog 122 #[.int .i32 c] w fun e w'=>e=.returned (.int .i64 4)/\w=w':=by
 unfold Gap at a;rcases a with a|⟨a,b⟩|⟨a,b⟩|⟨a,b⟩|a
 all_goals
  have e95:(c==95)=false:=by(simp;omega)
  go_enter Tryz.func122,Tryz.ntmps122;go_wp2_with fail;refine(c4 _).mono ?_;rintro e w' ⟨rfl,rfl⟩;go_wp2_with fail;go_ret;exact⟨rfl,rfl⟩
theorem class6 (c:Int) (w:World) (a:Gap c) (c4:Am c ⟨#[43,45,42,47,92,94,60,62,61,126,58,46,63,64,35,38,36]⟩ false) (e9:(c==9)=false) (e10:(c==10)=false) (e13:(c==13)=false) (e32:(c==32)=false) (c6:Am c ⟨#[33,59,44,124]⟩ true):
 Calls Tryz.prog 122 #[.int .i32 c] w fun e w'=>e=.returned (.int .i64 6)/\w=w':=by
 unfold Gap at a;rcases a with a|⟨a,b⟩|⟨a,b⟩|⟨a,b⟩|a
 all_goals
  have e95:(c==95)=false:=by(simp;omega)
  go_enter Tryz.func122,Tryz.ntmps122;go_wp2_with fail;refine(c4 _).mono ?_;rintro e w' ⟨rfl,rfl⟩;go_wp2_with fail;refine(c6 _).mono ?_;rintro e w' ⟨rfl,rfl⟩;go_wp2_with fail;go_ret;exact⟨rfl,rfl⟩
theorem class7 (c:Int) (w:World) (a:Gap c) (c4:Am c ⟨#[43,45,42,47,92,94,60,62,61,126,58,46,63,64,35,38,36]⟩ false) (e9:(c==9)=false) (e10:(c==10)=false) (e13:(c==13)=false) (e32:(c==32)=false) (c6:Am c ⟨#[33,59,44,124]⟩ false) (c7:Am c ⟨#[40,41,91,93,123,125]⟩ true):
 Calls Tryz.prog 122 #[.int .i32 c] w fun e w'=>e=.returned (.int .i64 7)/\w=w':=by
 unfold Gap at a;rcases a with a|⟨a,b⟩|⟨a,b⟩|⟨a,b⟩|a
 all_goals
  have e95:(c==95)=false:=by(simp;omega)
  go_enter Tryz.func122,Tryz.ntmps122;go_wp2_with fail;refine(c4 _).mono ?_;rintro e w' ⟨rfl,rfl⟩;go_wp2_with fail;refine(c6 _).mono ?_;rintro e w' ⟨rfl,rfl⟩;go_wp2_with fail;refine(c7 _).mono ?_;rintro e w' ⟨rfl,rfl⟩;go_wp2_with fail;go_ret;exact⟨rfl,rfl⟩
theorem class8 (c:Int) (w:World) (a:Gap c) (c4:Am c ⟨#[43,45,42,47,92,94,60,62,61,126,58,46,63,64,35,38,36]⟩ false) (e9:(c==9)=false) (e10:(c==10)=false) (e13:(c==13)=false) (e32:(c==32)=false) (c6:Am c ⟨#[33,59,44,124]⟩ false) (c7:Am c ⟨#[40,41,91,93,123,125]⟩ false) (e39:(c==39)=true):
 Calls Tryz.prog 122 #[.int .i32 c] w fun e w'=>e=.returned (.int .i64 8)/\w=w':=by
 unfold Gap at a;rcases a with a|⟨a,b⟩|⟨a,b⟩|⟨a,b⟩|a
 all_goals
  have e95:(c==95)=false:=by(simp;omega)
  go_enter Tryz.func122,Tryz.ntmps122;go_wp2_with fail;refine(c4 _).mono ?_;rintro e w' ⟨rfl,rfl⟩;go_wp2_with fail;refine(c6 _).mono ?_;rintro e w' ⟨rfl,rfl⟩;go_wp2_with fail;refine(c7 _).mono ?_;rintro e w' ⟨rfl,rfl⟩;go_wp2_with fail;go_ret;exact⟨rfl,rfl⟩
theorem class0 (c:Int) (w:World) (a:Gap c) (c4:Am c ⟨#[43,45,42,47,92,94,60,62,61,126,58,46,63,64,35,38,36]⟩ false) (e9:(c==9)=false) (e10:(c==10)=false) (e13:(c==13)=false) (e32:(c==32)=false) (c6:Am c ⟨#[33,59,44,124]⟩ false) (c7:Am c ⟨#[40,41,91,93,123,125]⟩ false) (e39:(c==39)=false):
 Calls Tryz.prog 122 #[.int .i32 c] w fun e w'=>e=.returned (.int .i64 0)/\w=w':=by
 unfold Gap at a;rcases a with a|⟨a,b⟩|⟨a,b⟩|⟨a,b⟩|a
 all_goals
  have e95:(c==95)=false:=by(simp;omega)
  go_enter Tryz.func122,Tryz.ntmps122;go_wp2_with fail;refine(c4 _).mono ?_;rintro e w' ⟨rfl,rfl⟩;go_wp2_with fail;refine(c6 _).mono ?_;rintro e w' ⟨rfl,rfl⟩;go_wp2_with fail;refine(c7 _).mono ?_;rintro e w' ⟨rfl,rfl⟩;go_wp2_with fail;go_ret;exact⟨rfl,rfl⟩
theorem class1 (c:Int) (w:World) (a:97<=c) (b:c<=122):
 Calls Tryz.prog 122 #[.int .i32 c] w fun e w'=>e=.returned (.int .i64 1)/\w=w':=by
 go_enter Tryz.func122,Tryz.ntmps122;go_wp2_with fail;go_ret;exact⟨rfl,rfl⟩
theorem class2 (c:Int) (w:World) (h:(65<=c/\c<=90)\/c=95):
 Calls Tryz.prog 122 #[.int .i32 c] w fun e w'=>e=.returned (.int .i64 2)/\w=w':=by
 rcases h with⟨a,b⟩|rfl
 all_goals
  go_enter Tryz.func122,Tryz.ntmps122;go_wp2_with fail;go_ret;exact⟨rfl,rfl⟩
theorem class3 (c:Int) (w:World) (a:48<=c) (b:c<=57):
 Calls Tryz.prog 122 #[.int .i32 c] w fun e w'=>e=.returned (.int .i64 3)/\w=w':=by
 go_enter Tryz.func122,Tryz.ntmps122;go_wp2_with fail;go_ret;exact⟨rfl,rfl⟩
theorem am4 (c:Int) (b:Bool) (h:decide (c=43\/c=45\/c=42\/c=47\/c=92\/c=94\/c=60\/c=62\/c=61\/c=126\/c=58\/c=46\/c=63\/c=64\/c=35\/c=38\/c=36)=b):Am c ⟨#[43,45,42,47,92,94,60,62,61,126,58,46,63,64,35,38,36]⟩ b:=fun w=>by
 have a:=vz c ⟨#[43,45,42,47,92,94,60,62,61,126,58,46,63,64,35,38,36]⟩ w (by decide);rw [show(⟨#[43,45,42,47,92,94,60,62,61,126,58,46,63,64,35,38,36]⟩:ByteArray).data.toList= [43,45,42,47,92,94,60,62,61,126,58,46,63,64,35,38,36]from rfl,mem4,h]at a;exact a
theorem am6 (c:Int) (b:Bool) (h:decide (c=33\/c=59\/c=44\/c=124)=b):Am c ⟨#[33,59,44,124]⟩ b:=fun w=>by
 have a:=vz c ⟨#[33,59,44,124]⟩ w (by decide);rw [show(⟨#[33,59,44,124]⟩:ByteArray).data.toList= [33,59,44,124]from rfl,mem6,h]at a;exact a
theorem am7 (c:Int) (b:Bool) (h:decide (c=40\/c=41\/c=91\/c=93\/c=123\/c=125)=b):Am c ⟨#[40,41,91,93,123,125]⟩ b:=fun w=>by
 have a:=vz c ⟨#[40,41,91,93,123,125]⟩ w (by decide);rw [show(⟨#[40,41,91,93,123,125]⟩:ByteArray).data.toList= [40,41,91,93,123,125]from rfl,mem7,h]at a;exact a
theorem class5 (c:Int) (w:World) (h:c=9\/c=10\/c=13\/c=32):
 Calls Tryz.prog 122 #[.int .i32 c] w fun e w'=>e=.returned (.int .i64 5)/\w=w':=by
 have c4:=am4 c false (by rw [decide_eq_false_iff_not];omega);rcases h with rfl|rfl|rfl|rfl
 all_goals
  go_enter Tryz.func122,Tryz.ntmps122;go_wp2_with fail;refine(c4 _).mono ?_;rintro e w' ⟨rfl,rfl⟩;go_wp2_with fail;go_ret;exact⟨rfl,rfl⟩
theorem ref_Class (c:Int) (w:World):
 Calls Tryz.prog 122 #[.int .i32 c] w fun e w'=>e=.returned (.int .i64 (cls c))/\w=w':=by
 unfold cls;by_cases g:97<=c/\c<=122
 · rw [J_ g];exact class1 c w g.1 g.2
 rw [I_ g];by_cases k:(65<=c/\c<=90)\/c=95
 · rw [J_ k];exact class2 c w k
 rw [I_ k];by_cases h:48<=c/\c<=57
 · rw [J_ h];exact class3 c w h.1 h.2
 rw [I_ h];have d:Gap c:=by unfold Gap;omega
 by_cases i:c=43\/c=45\/c=42\/c=47\/c=92\/c=94\/c=60\/c=62\/c=61\/c=126\/c=58\/c=46\/c=63\/c=64\/c=35\/c=38\/c=36
 · rw [J_ i];exact class4 c w d (am4 c true (decide_eq_true i))
 rw [I_ i];by_cases l:c=9\/c=10\/c=13\/c=32
 · rw [J_ l];exact class5 c w l
 rw [I_ l];have c4:=am4 c false (decide_eq_false i);have e9:(c==9)=false:=by simp;omega
 have e10:(c==10)=false:=by simp;omega
 have e13:(c==13)=false:=by simp;omega
 have e32:(c==32)=false:=by simp;omega
 by_cases a:c=33\/c=59\/c=44\/c=124
 · rw [J_ a];exact class6 c w d c4 e9 e10 e13 e32 (am6 c true (decide_eq_true a))
 rw [I_ a];by_cases b:c=40\/c=41\/c=91\/c=93\/c=123\/c=125
 · rw [J_ b];exact class7 c w d c4 e9 e10 e13 e32 (am6 c false (decide_eq_false a)) (am7 c true (decide_eq_true b))
 rw [I_ b];by_cases j:c=39
 · rw [J_ j];exact class8 c w d c4 e9 e10 e13 e32 (am6 c false (decide_eq_false a)) (am7 c false (decide_eq_false b)) (by simpa using j)
 · rw [I_ j];exact class0 c w d c4 e9 e10 e13 e32 (am6 c false (decide_eq_false a)) (am7 c false (decide_eq_false b)) (by simpa using j)
theorem ref_value (b:Nat) (o:b<256) (w:World):
 Calls Tryz.prog 155 #[.int .u8 b] w fun e w'=>e=.returned (.int .i32 (T3 b))/\w=w':=by
 unfold T3;by_cases a:48<=b/\b<=57
 · rw [J_ a];obtain⟨i,j⟩:=a;go_enter Tryz.func155,Tryz.ntmps155;go_wp2_with fail;go_ret;exact⟨rfl,rfl⟩
 rw [I_ a];by_cases c:97<=b/\b<=102
 · rw [J_ c];obtain⟨k,l⟩:=c;clear a;go_enter Tryz.func155,Tryz.ntmps155;go_wp2_with fail;go_ret;exact⟨ret_i (by omega),rfl⟩
 rw [I_ c];by_cases g:65<=b/\b<=70
 · rw [J_ g];obtain⟨m,n⟩:=g;clear a c;go_enter Tryz.func155,Tryz.ntmps155;go_wp2_with fail;go_ret;exact⟨ret_i (by omega),rfl⟩
 rw [I_ g];have d:b<48\/(58<=b/\b<65)\/(71<=b/\b<97)\/103<=b:=by omega
 clear a c g;rcases d with d|⟨d,h⟩|⟨d,h⟩|d
 all_goals
  go_enter Tryz.func155,Tryz.ntmps155;go_wp2_with fail;go_ret;exact⟨rfl,rfl⟩
end Go.Proofs.YtinefdlkajnomaaGreatDoor
