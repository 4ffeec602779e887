import Derived.Test.YtinefdlkajnomaaGreatDoorMCharA
import Derived.Test.YtinefdlkajnomaaGreatDoorMShelf
import Derived.Shelf.Unicode.ValidAny
import Derived.Shelf.Unicode.DecodeAny
import Derived.Laws.IdiomStrings
import Derived.Deep.AppendLies
namespace Go.Proofs.YtinefdlkajnomaaGreatDoor
open Go.RowKit
set_option maxHeartbeats 20000000
theorem Z7 {w:World} {b o:Nat} {v:Value} (h:w.cell? ⟨b,o,none⟩=some v):b<w.heap.size:=by
 rcases Nat.lt_or_ge b w.heap.size with hlt|hge
 · exact hlt
 · unfold World.cell? at h;rw [Array.getElem?_eq_none hge]at h;cases h
def Tabs (w:World):Prop:=Lib.Utf8Tabs 0 1 w/\True
theorem Tabs.on {w w':World} (h:Tabs w) (b:Below w.heap.size w w'):Tabs w':=by
 obtain⟨h,_⟩:=h;refine⟨⟨fun c hc=>?_,fun i a=>⟨?_,?_⟩⟩,trivial⟩
 · rw [<-h.1 c hc];exact b.cell (p:=⟨_,_,none⟩) (Z7 (h.1 c hc))
 · rw [<-(h.2 i a).1];exact b.cell (p:=⟨_,_,none⟩) (Z7 (h.2 i a).1)
 · rw [<-(h.2 i a).2];exact b.cell (p:=⟨_,_,none⟩) (Z7 (h.2 i a).2)
theorem BQ (s:ByteArray) (w:World) (b:s.size<=9223372036854775807) (a:Tabs w):
 Calls Tryz.prog 88 #[.string s] w fun e w'=>e=.returned (.bool (Lib.validD s.data.toList))/\Below w.heap.size w w':=Any.utf8_ValidString Tryz.lays196 s w b a.1
theorem xX (s:ByteArray) (w:World) (c:s.size<=maxLen) (a:Tabs w):
 Calls Tryz.prog 77 #[.string s] w fun e w'=>e=.returned (.bool (K2 s.data.toList))/\Below w.heap.size w w':=by
 have d:s.size<=9223372036854775807:=by unfold maxLen at c;omega
 clear c;have b:s.data.toList.length=s.size:=by simp
 have cV:=D_ (BQ s w d a);unfold K2;rw [b];clear b a;by_cases h:s.size<=255
 · rw [decide_eq_true h,Bool.true_and];go_enter Tryz.func77,Tryz.ntmps77;go_wp2_with fail;refine cV.out.mono ?_;rintro e w1 ⟨rfl,g⟩;go_wp2_with fail;go_ret;exact⟨rfl,g⟩
 · rw [decide_eq_false h,Bool.false_and];have i:255<s.size:=by omega
   clear h;go_enter Tryz.func77,Tryz.ntmps77;go_wp2_with fail;go_ret;exact⟨rfl,F_ _ _⟩
theorem QQ {w w':World} {B:Nat} {e:TypeId} {size:Nat} {v:Value} {n:Nat} {xs:List Value} (h:w.ownsRow B e size v n xs) (i:Below w.heap.size w w'):w'.ownsRow B e size v n xs:=by
 obtain⟨c,d|⟨g,cap,cur,k,a,b,r⟩⟩:=h
 · exact⟨c,.inl d⟩
 · have j:g<w.heap.size:=(Array.getElem?_eq_some_iff.1 b).1;exact⟨c,.inr ⟨g,cap,cur,k,a,(i.block g j).trans b,r⟩⟩
theorem F8 (s:ByteArray) (h:s.size≠0):Lib.decodeGo s=Lib.decodeL s.data.toList:=by
 unfold Lib.decodeGo Lib.decodeL;rw [I_ h]
theorem K9 (s:ByteArray) (k:Nat):(s.extract k s.size).data.toList=s.data.toList.drop k:=by
 rw [ByteArray.data_extract,Array.toList_extract];simp
 exact List.take_of_length_le (by simp)
theorem list_ne (t:ByteArray) (h:t.size≠0):t.data.toList≠ []:=fun e=>by
 have a:t.data.toList.length=t.size:=by simp
 rw [e]at a;exact h a.symm
def OwnRunes (B:Nat) (w:World) (v:Value) (rs:List Int):Prop:=w.ownsRow B 21 1 v rs.length (rs.map (Value.int .i32))
def strSize:Value->Nat
 | .string t=>t.size
 |_=>0
def Iq (rs:List Int):Bool:=decide (cls (rs.headD 0)=1)&&rs.all X2
end Go.Proofs.YtinefdlkajnomaaGreatDoor
namespace Go.Proofs.YtinefdlkajnomaaGreatDoor
open Go.RowKit
set_option maxHeartbeats 20000000
theorem Cj (a b:ByteArray):(a++b).data.toList=a.data.toList++b.data.toList:=by
 rw [ByteArray.data_append];simp
theorem n6 (a:ByteArray):a.data.toList.length=a.size:=by simp
end Go.Proofs.YtinefdlkajnomaaGreatDoor
