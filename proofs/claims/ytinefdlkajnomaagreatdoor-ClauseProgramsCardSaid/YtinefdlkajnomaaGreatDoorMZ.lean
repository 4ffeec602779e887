import Derived.Lib.Hide
import Derived.Deep.RegionHeld3
import Derived.WalkKit
import Derived.Lib.OthersKept
import Derived.Lib.BufferMore
import Derived.Lib.SmallJoins
namespace Go.Proofs.YtinefdlkajnomaaGreatDoor
open Go.RowKit
theorem D_{p:Prop}(h:p):Hid p:=Lib.hid h
theorem R_(n:Nat):n≤n:=Nat.le_refl n
theorem S_(w:World)(a:Addr)(u:Value)(k:Nat)(h:k≠a.block):(w.setCell a u).heap[k]? =w.heap[k]? :=Below.heap_setCell w a u k h
theorem A_(w:World)(o:Obj)(k:Nat)(h:k<w.heap.size):(w.alloc o).heap[k]? =w.heap[k]? :=Below.heap_alloc w o k h
theorem H_{w:World}{b i:Nat}{cs:Array Value}{T:TypeId}{fr:Nat×Nat}(h:w.heap[b]? =some (Obj.cells cs T fr))(v:Value):(w.setCell ⟨b,i,none⟩ v).heap[b]? =some (Obj.cells (cs.setIfInBounds i v) T fr):=Lib.heap_setCell_same h v
theorem B_{P:Program}{fn:Func}{R:Ending→World→Prop}{a:Act}{w:World}{v:Value}(h:Sem.run P (results fn a.tmps) w=Result.ok v w)(h2:a.defers=[])(h3:R (Ending.returned v) w):bodyPost P fn R Exit.ret a w:=bodyPost_ret h h2 h3
theorem Z_(w:World)(o:Obj):(w.alloc o).heap.size=w.heap.size+1:=World.size_alloc w o
theorem F_(B:Nat)(w:World):Below B w w:=Below.refl B w
theorem T_{α:Type _}(l:List α)(i:Nat)(a:α):l.toArray.setIfInBounds i a=(l.set i a).toArray:=List.setIfInBounds_toArray l i a
theorem C_{α:Type _}{x:α}{xs:List α}{a:α}:(x::xs).set 0 a=a::xs:=List.set_cons_zero
theorem E_{α:Type _}{x:α}{xs:List α}{i:Nat}{a:α}:(x::xs).set (i+1) a=x::xs.set i a:=List.set_cons_succ
theorem L_(w:World)(a:Addr){u:Value}(h:w.cell? a=some u):a.block<w.heap.size:=World.block_lt_of_cell? w a h
theorem P_{α:Type _}{l m:List α}:(l++m).length=l.length+m.length:=List.length_append
theorem N_{n m:Nat}(h:n<m):n≤m:=Nat.le_of_lt h
theorem O_(w:World)(base:Nat)(e:TypeId)(size:Nat):w.ownsRow base e size (Value.slice none 0 0) 0 []:=World.ownsRow_nil w base e size
theorem U_{α:Type _}{i:Nat}{l:List α}(h:i<l.length):List.take (i+1) l=List.take i l++[l[i]]:=List.take_succ_eq_append_getElem h
theorem I_{c:Prop}{h:Decidable c}(hnc:¬c){α:Sort _}{t e:α}:ite c t e=e:=if_neg hnc
theorem J_{c:Prop}{h:Decidable c}(hc:c){α:Sort _}{t e:α}:ite c t e=t:=if_pos hc
theorem tK(i:Nat){P:Program}{ops:Array Oper}{Q:Exit→Act→World→Prop}{md:Region.Mode}{S:World→Prop}{oi:Oper}{v:Value}{fuel:Nat}{listed:Array Bool}{a:Act}{w:World}(h0:ops[i]? =some oi)(y:YieldsIf P ops S oi v a)(r:wpAnyH P md ops Q S fuel (listed.setIfInBounds i true) (a.put oi.dst v) w)(h1:Region.noSelect ops=true:=by kernel_rfl)(h2:Region.free md ops listed i=true:=by kernel_rfl)(h3:(Region.ready md ops listed).contains i=true:=by kernel_rfl)(h4:∀(c:List PanicEntry)(a:Act)(w:World),Q (Exit.panic c) (a.put oi.dst v) w→Q (Exit.panic c) a w:=by exact fun _ _ _ h=>h)(hs:S w:=by assumption):wpAnyH P md ops Q S (fuel+1) listed a w:=wpAnyH_take h0 h1 h2 h3 h4 y hs r
theorem rY(i:Nat){P:Program}{ops:Array Oper}{Q:Exit→Act→World→Prop}{md:Region.Mode}{S:World→Prop}{fuel:Nat}{listed:Array Bool}{a:Act}{w:World}{o:Oper}(h0:ops[i]? =some o)(h:∀K':Act→World→Prop,Shut (∀(a:Act)(w:World),S w→(S w→wpAnyH P md ops Q S fuel (listed.setIfInBounds i true) a w)→K' a w)→if Region.wanted o (yielded ops a.tmps)=true then Oper.wp P o a w K' Q else K' (a.put o.dst undef) w)(hr:Region.ready md ops listed=[i]:=by kernel_rfl):wpAnyH P md ops Q S (fuel+1) listed a w:=wpAnyH_ready hr (by simp) (AllReadyH.cons h0 h AllReadyH.nil)
end Go.Proofs.YtinefdlkajnomaaGreatDoor
