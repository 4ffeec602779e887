import Derived.Test.YtinefdlkajnomaaGreatDoorMTermMR
import Derived.Test.YtinefdlkajnomaaGreatDoorMTermMay
import Derived.Test.YtinefdlkajnomaaGreatDoorMTkM
import Derived.Test.YtinefdlkajnomaaGreatDoorMCharRef
namespace Go.Proofs.YtinefdlkajnomaaGreatDoor
open Go.RowKit
set_option maxHeartbeats 20000000
def add64 (a b:Int):Int:=wrap64 (a+b)
mutual
def Tm.shift (c:Int):Tm->Tm
 | .mk k s n l=>.mk k s (if k=1 then add64 n c else n) (Tm.shifts c l)
def Tm.shifts (c:Int):List Tm->List Tm
 | []=> []
 |t::l=>t.shift c::Tm.shifts c l
end
theorem Tm.shifts_map (c:Int) (l:List Tm):Tm.shifts c l=l.map (Tm.shift c):=by
 induction l with
 |nil=>rfl
 |cons t l ih=>show t.shift c::Tm.shifts c l=_;rw [ih];rfl
theorem Tm.shift_eq (c:Int) (t:Tm):t.shift c=.mk t.kind t.name (if t.kind=1 then add64 t.n c else t.n) (t.args.map (Tm.shift c)):=by
 cases t with
 |mk k s n l=>show Tm.mk _ _ _ (Tm.shifts c l)=_;rw [Tm.shifts_map];rfl
theorem map_step (f:Tm->Tm) (l:List Tm) (k:Nat) (h:k<l.length):(l.take (k+1)).map f=(l.take k).map f++ [f (l[k]'h)]:=by
 rw [U_ h,List.map_append];rfl
theorem H2 (w:World) (o:Obj):(w.alloc o).heap[w.heap.size]?=some o:=Array.getElem?_push_size
theorem J5 (w:World) (o1 o2:Obj):((w.alloc o1).alloc o2).heap[w.heap.size+1]?=some o2:=by
 have h:=H2 (w.alloc o1) o2;rw [show(w.alloc o1).heap.size=w.heap.size+1 by simp]at h;exact h
theorem wrap64_in (x:Int):In64 (wrap64 x):=by
 unfold In64 wrap64;omega
def zx (B:Nat) (w:World) (t:Tm) (e:Ending) (w':World):Prop:= ∃ad cap,e=.returned (tmv t ad cap)/\TmP w' (fun b=>B<=b) t ad cap/\Below B w w'
theorem P1 {w:World} {q:Nat} {a b c d:Value} {t:TypeId} (h:w.heap[q]?=some (.cells #[a,b,c,d] t (0,0))):
 w.cell? ⟨q,0,none⟩=some a/\w.cell? ⟨q,1,none⟩=some b/\w.cell? ⟨q,2,none⟩=some c/\w.cell? ⟨q,3,none⟩=some d/\w.frozen? ⟨q,0,none⟩=false/\w.frozen? ⟨q,1,none⟩=false/\w.frozen? ⟨q,2,none⟩=false/\w.frozen? ⟨q,3,none⟩=false:=by
 simp [World.cell?,World.frozen?,h]
def txtK (k:Int) (s:List UInt8) (n:Int) (args:List UInt8):List UInt8:=
 if k=1 then 95::Lib.itoa n else if k=3 then Lib.itoa n else if k=2 then xx s else xx s++(40::(args.drop 1++ [41]))
mutual
def Tm.txt:Tm->List UInt8
 | .mk k s n l=>txtK k s.data.toList n (Tm.commas l)
def Tm.commas:List Tm->List UInt8
 | []=> []
 |t::l=>44::(t.txt++Tm.commas l)
end
mutual
def Tm.n64:Tm->Prop
 | .mk _ _ n l=>In64 n/\Tm.n64s l
def Tm.n64s:List Tm->Prop
 | []=>True
 |t::l=>t.n64/\Tm.n64s l
end
theorem E5.n64 {w:World} {ad:Option Addr} {ts:List Tm} (h:E5 w ad ts):Tm.n64s ts:=by
 induction h with
 |nil=>trivial
 |cons b o k n nm l ts ad cap _ _ _ _ _ hn _ _ _ _ _ ih1 ih2=>exact⟨⟨hn,ih1⟩,ih2⟩
theorem zx.mono {B B':Nat} {w:World} {t:Tm} {e:Ending} {w':World} (h:zx B w t e w') (a:B'<=B):zx B' w t e w':=by
 obtain⟨ad,cap,d,g,c⟩:=h;exact⟨ad,cap,d,g.kept (fun _ _ _=>rfl) (fun b i _=>by omega),c.mono a⟩
theorem A9 (n:Int) (w:World):
 Calls Tryz.prog 31 #[.int .i64 n] w fun e w'=>e=.returned (.agg #[.int .i64 1,.string ⟨#[]⟩,.int .i64 n,.slice none 0 0])/\Below w.heap.size w w':=by
 have a:=D_ (fun o:Obj=>(F_ w.heap.size w).alloc (R_ _) o);go_enter Tryz.func31,Tryz.ntmps31;go_wp2_with fail;exact B_ (v:=.agg #[.int .i64 1,.string ⟨#[]⟩,.int .i64 n,.slice none 0 0]) (by simp [results,Tryz.results31,go_sem]) rfl ⟨rfl,a.out _⟩
theorem m8 (s:ByteArray) (w:World):
 Calls Tryz.prog 32 #[.string s] w fun e w'=>e=.returned (.agg #[.int .i64 2,.string s,.int .i64 0,.slice none 0 0])/\Below w.heap.size w w':=by
 have a:=D_ (fun o:Obj=>(F_ w.heap.size w).alloc (R_ _) o);go_enter Tryz.func32,Tryz.ntmps32;go_wp2_with fail;exact B_ (v:=.agg #[.int .i64 2,.string s,.int .i64 0,.slice none 0 0]) (by simp [results,Tryz.results32,go_sem]) rfl ⟨rfl,a.out _⟩
theorem kQ (n:Int) (w:World):
 Calls Tryz.prog 126 #[.int .i64 n] w fun e w'=>e=.returned (.agg #[.int .i64 3,.string ⟨#[]⟩,.int .i64 n,.slice none 0 0])/\Below w.heap.size w w':=by
 have a:=D_ (fun o:Obj=>(F_ w.heap.size w).alloc (R_ _) o);go_enter Tryz.func126,Tryz.ntmps126;go_wp2_with fail;exact B_ (v:=.agg #[.int .i64 3,.string ⟨#[]⟩,.int .i64 n,.slice none 0 0]) (by simp [results,Tryz.results126,go_sem]) rfl ⟨rfl,a.out _⟩
def cell3 (t:Tm):List Value:= [.int .i64 t.kind,.string t.name,.int .i64 t.n,.slice none 0 0]
theorem j6 (s:ByteArray) (ad:Option Addr) (len cap:Nat) (w:World):
 Calls Tryz.prog 30 #[.string s,.slice ad len cap] w fun e w'=>e=.returned (.agg #[.int .i64 4,.string s,.int .i64 0,.slice ad len cap])/\Below w.heap.size w w':=by
 have a:=D_ (fun o:Obj=>(F_ w.heap.size w).alloc (R_ _) o);go_enter Tryz.func30,Tryz.ntmps30;go_wp2_with fail;exact B_ (v:=.agg #[.int .i64 4,.string s,.int .i64 0,.slice ad len cap]) (by simp [results,Tryz.results30,go_sem]) rfl ⟨rfl,a.out _⟩
end Go.Proofs.YtinefdlkajnomaaGreatDoor
