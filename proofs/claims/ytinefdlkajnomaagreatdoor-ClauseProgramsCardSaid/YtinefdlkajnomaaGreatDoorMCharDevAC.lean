import Derived.Test.YtinefdlkajnomaaGreatDoorMCharA
import Derived.Test.YtinefdlkajnomaaGreatDoorMCharRef
import Derived.Lib.OthersKept
import Derived.Lib.TrimAscii
namespace Go.Proofs.YtinefdlkajnomaaGreatDoor
open Go.RowKit
set_option maxHeartbeats 20000000
theorem dev_class1 (c:Int) (w:World) (a:97<=c) (b:c<=122):
 Calls Tryz.prog 107 #[.int .i32 c] w fun e w'=>e=.returned (.int .i64 1)/\w=w':=by
 go_enter Tryz.func107,Tryz.ntmps107;go_wp2_with fail;go_ret;exact⟨rfl,rfl⟩
theorem dev_class2 (c:Int) (w:World) (h:(65<=c/\c<=90)\/c=95):
 Calls Tryz.prog 107 #[.int .i32 c] w fun e w'=>e=.returned (.int .i64 2)/\w=w':=by
 rcases h with⟨a,b⟩|rfl
 all_goals
  go_enter Tryz.func107,Tryz.ntmps107;go_wp2_with fail;go_ret;exact⟨rfl,rfl⟩
theorem dev_class3 (c:Int) (w:World) (a:48<=c) (b:c<=57):
 Calls Tryz.prog 107 #[.int .i32 c] w fun e w'=>e=.returned (.int .i64 3)/\w=w':=by
 go_enter Tryz.func107,Tryz.ntmps107;go_wp2_with fail;go_ret;exact⟨rfl,rfl⟩
theorem dev_class4 (c:Int) (w:World) (h:c=43\/c=45\/c=42\/c=47\/c=92\/c=94\/c=60\/c=62\/c=61\/c=126\/c=58\/c=46\/c=63\/c=64\/c=35\/c=38\/c=36):
 Calls Tryz.prog 107 #[.int .i32 c] w fun e w'=>e=.returned (.int .i64 4)/\w=w':=by
 rcases h with rfl|rfl|rfl|rfl|rfl|rfl|rfl|rfl|rfl|rfl|rfl|rfl|rfl|rfl|rfl|rfl|rfl
 all_goals
  go_enter Tryz.func107,Tryz.ntmps107;go_wp2_with fail;go_ret;exact⟨rfl,rfl⟩
theorem dev_class5 (c:Int) (w:World) (h:c=9\/c=10\/c=13\/c=32):
 Calls Tryz.prog 107 #[.int .i32 c] w fun e w'=>e=.returned (.int .i64 5)/\w=w':=by
 rcases h with rfl|rfl|rfl|rfl
 all_goals
  go_enter Tryz.func107,Tryz.ntmps107;go_wp2_with fail;go_ret;exact⟨rfl,rfl⟩
theorem dev_class6 (c:Int) (w:World) (h:c=33\/c=59\/c=44\/c=124):
 Calls Tryz.prog 107 #[.int .i32 c] w fun e w'=>e=.returned (.int .i64 6)/\w=w':=by
 rcases h with rfl|rfl|rfl|rfl
 all_goals
  go_enter Tryz.func107,Tryz.ntmps107;go_wp2_with fail;go_ret;exact⟨rfl,rfl⟩
theorem dev_class7 (c:Int) (w:World) (h:c=40\/c=41\/c=91\/c=93\/c=123\/c=125):
 Calls Tryz.prog 107 #[.int .i32 c] w fun e w'=>e=.returned (.int .i64 7)/\w=w':=by
 rcases h with rfl|rfl|rfl|rfl|rfl|rfl
 all_goals
  go_enter Tryz.func107,Tryz.ntmps107;go_wp2_with fail;go_ret;exact⟨rfl,rfl⟩
theorem dev_class8 (w:World):
 Calls Tryz.prog 107 #[.int .i32 39] w fun e w'=>e=.returned (.int .i64 8)/\w=w':=by
 go_enter Tryz.func107,Tryz.ntmps107;go_wp2_with fail;go_ret;exact⟨rfl,rfl⟩
theorem dev_class0 (c:Int) (w:World) (a:Gap c)
 (a1:(c==43)=false) (a2:(c==45)=false) (a3:(c==42)=false) (a4:(c==47)=false) (a5:(c==92)=false) (a6:(c==94)=false) (a7:(c==60)=false) (a8:(c==62)=false) (a9:(c==61)=false) (a10:(c==126)=false) (a11:(c==58)=false) (a12:(c==46)=false) (a13:(c==63)=false) (a14:(c==64)=false) (a15:(c==35)=false) (a16:(c==38)=false) (a17:(c==36)=false)
 (b1:(c==9)=false) (b2:(c==10)=false) (b3:(c==13)=false) (b4:(c==32)=false) (b5:(c==33)=false) (b6:(c==59)=false) (b7:(c==44)=false) (b8:(c==124)=false)
 (d1:(c==40)=false) (d2:(c==41)=false) (d3:(c==91)=false) (d4:(c==93)=false) (d5:(c==123)=false) (d6:(c==125)=false) (d7:(c==39)=false):
 Calls Tryz.prog 107 #[.int .i32 c] w fun e w'=>e=.returned (.int .i64 0)/\w=w':=by
 unfold Gap at a;rcases a with a|⟨a,b⟩|⟨a,b⟩|⟨a,b⟩|a
 all_goals
  have e95:(c==95)=false:=by(simp;omega)
  go_enter Tryz.func107,Tryz.ntmps107;go_wp2_with fail;go_ret;exact⟨rfl,rfl⟩
theorem d9 (c:Int) (w:World):
 Calls Tryz.prog 107 #[.int .i32 c] w fun e w'=>e=.returned (.int .i64 (cls c))/\w=w':=by
 unfold cls;by_cases a:97<=c/\c<=122
 · rw [J_ a];exact dev_class1 c w a.1 a.2
 rw [I_ a];by_cases d:(65<=c/\c<=90)\/c=95
 · rw [J_ d];exact dev_class2 c w d
 rw [I_ d];by_cases b:48<=c/\c<=57
 · rw [J_ b];exact dev_class3 c w b.1 b.2
 rw [I_ b];have n:Gap c:=by unfold Gap;omega
 by_cases g:c=43\/c=45\/c=42\/c=47\/c=92\/c=94\/c=60\/c=62\/c=61\/c=126\/c=58\/c=46\/c=63\/c=64\/c=35\/c=38\/c=36
 · rw [J_ g];exact dev_class4 c w g
 rw [I_ g];by_cases i:c=9\/c=10\/c=13\/c=32
 · rw [J_ i];exact dev_class5 c w i
 rw [I_ i];by_cases j:c=33\/c=59\/c=44\/c=124
 · rw [J_ j];exact dev_class6 c w j
 rw [I_ j];by_cases l:c=40\/c=41\/c=91\/c=93\/c=123\/c=125
 · rw [J_ l];exact dev_class7 c w l
 rw [I_ l];by_cases m:c=39
 · rw [J_ m];subst m;exact dev_class8 w
 · rw [I_ m];have ne: ∀k:Int,c≠k->(c==k)=false:=fun k h=>by simpa using h
   exact dev_class0 c w n (ne _ (by omega)) (ne _ (by omega)) (ne _ (by omega)) (ne _ (by omega)) (ne _ (by omega)) (ne _ (by omega)) (ne _ (by omega)) (ne _ (by omega)) (ne _ (by omega)) (ne _ (by omega)) (ne _ (by omega)) (ne _ (by omega)) (ne _ (by omega)) (ne _ (by omega)) (ne _ (by omega)) (ne _ (by omega)) (ne _ (by omega))
    (ne _ (by omega)) (ne _ (by omega)) (ne _ (by omega)) (ne _ (by omega)) (ne _ (by omega)) (ne _ (by omega)) (ne _ (by omega)) (ne _ (by omega)) (ne _ (by omega)) (ne _ (by omega)) (ne _ (by omega)) (ne _ (by omega)) (ne _ (by omega)) (ne _ (by omega)) (ne _ (by omega))
theorem Lz:Iq []=false:=by decide
theorem Tx (c:Int) (t:List Int):Iq (c::t)=(decide (cls c=1)&&t.all X2):=by
 unfold Iq X2;rw [List.headD_cons,List.all_cons];by_cases h:cls c=1
 · rw [decide_eq_true h,decide_eq_true (.inl h)];simp
 · rw [decide_eq_false h];simp
def Xq (l:List UInt8) (pos:Nat):Prop:=pos=0\/Iq (S2 l)=(S2 (l.drop pos)).all X2
theorem Dj (s:ByteArray) (pos:Nat) (h:pos<s.size):S2 (s.data.toList.drop pos)=((Utf8.decode s pos).1:Int)::S2 (s.data.toList.drop (pos+(Utf8.decode s pos).2)):=by
 have b:s.data.toList.drop pos≠ []:=fun e=>by
  have a:=congrArg List.length e;rw [List.length_drop]at a;simp at a
  omega
 rw [vq _ b,Lib.decodeL_drop,List.drop_drop]
theorem H6 (s:ByteArray) (pos:Nat) (h:pos<s.size):pos<pos+(Utf8.decode s pos).2/\pos+(Utf8.decode s pos).2<=s.size:=by
 have c:s.data.toList.drop pos≠ []:=fun e=>by
  have a:=congrArg List.length e;rw [List.length_drop]at a;simp at a
  omega
 have a:=Lib.decodeL_width (s.data.toList.drop pos);have b:=Lib.decodeL_le (s.data.toList.drop pos) c;rw [List.length_drop]at b;rw [Lib.decodeL_drop]at a b;simp at b
 omega
theorem Xq.step {s:ByteArray} {pos:Nat} (h:pos<s.size) (a:Xq s.data.toList pos) (hc:cls (Utf8.decode s pos).1=1\/(pos≠0/\(cls (Utf8.decode s pos).1=2\/cls (Utf8.decode s pos).1=3))):Xq s.data.toList (pos+(Utf8.decode s pos).2):=by
 right
 have b:=Dj s pos h;have c:X2 (Utf8.decode s pos).1=true:=by unfold X2;rw [decide_eq_true_eq];omega
 rcases Nat.eq_zero_or_pos pos with h0|h0
 · subst h0;rw [List.drop_zero]at b;rw [b,Tx,decide_eq_true (by omega),Bool.true_and]
 · rcases a with a|a
   · omega
   · rw [a,b,List.all_cons,c,Bool.true_and]
theorem Xq.bad {s:ByteArray} {pos:Nat} (h:pos<s.size) (a:Xq s.data.toList pos) (hc: ¬(cls (Utf8.decode s pos).1=1\/(pos≠0/\(cls (Utf8.decode s pos).1=2\/cls (Utf8.decode s pos).1=3)))):Iq (S2 s.data.toList)=false:=by
 have b:=Dj s pos h;rcases Nat.eq_zero_or_pos pos with h0|h0
 · subst h0;rw [List.drop_zero]at b;rw [b,Tx,decide_eq_false (by omega),Bool.false_and]
 · rcases a with a|a
   · omega
   · have c:X2 (Utf8.decode s pos).1=false:=by unfold X2;rw [decide_eq_false_iff_not];omega
     rw [a,b,List.all_cons,c,Bool.false_and]
theorem Xq.done {s:ByteArray} {pos:Nat} (h: ¬pos<s.size) (a:Xq s.data.toList pos):Iq (S2 s.data.toList)=decide (s.size≠0):=by
 rcases a with a|a
 · have b:s.data.toList= []:=List.eq_nil_of_length_eq_zero (by have:=(show s.data.toList.length=s.size by simp);omega);rw [b,T9,Lz];exact(decide_eq_false (by omega)).symm
 · by_cases c:s.size=0
   · have b:s.data.toList= []:=List.eq_nil_of_length_eq_zero (by simpa using c);rw [b,T9,Lz];exact(decide_eq_false (by omega)).symm
   · rw [a,List.drop_eq_nil_of_le (by simp;omega),T9,decide_eq_true c];rfl
def SignSt (l:List UInt8) (pos:Nat):Prop:=(S2 l).all U1=(S2 (l.drop pos)).all U1
theorem ax (s:ByteArray) (w:World) (c:s.size<=maxLen) (a:Tabs w):
 Calls Tryz.prog 74 #[.string s] w fun e w'=>e=.returned (.bool (K2 s.data.toList))/\Below w.heap.size w w':=by
 have d:s.size<=9223372036854775807:=by unfold maxLen at c;omega
 clear c;have b:s.data.toList.length=s.size:=by simp
 have cV:=D_ (BQ s w d a);unfold K2;rw [b];clear b a;by_cases h:s.size<=255
 · rw [decide_eq_true h,Bool.true_and];go_enter Tryz.func74,Tryz.ntmps74;go_wp2_with fail;refine cV.out.mono ?_;rintro e w1 ⟨rfl,g⟩;go_wp2_with fail;go_ret;exact⟨rfl,g⟩
 · rw [decide_eq_false h,Bool.false_and];have i:255<s.size:=by omega
   clear h;go_enter Tryz.func74,Tryz.ntmps74;go_wp2_with fail;go_ret;exact⟨rfl,F_ _ _⟩
end Go.Proofs.YtinefdlkajnomaaGreatDoor
