import Derived.Test.YtinefdlkajnomaaGreatDoorMTokVA
namespace Go.Proofs.YtinefdlkajnomaaGreatDoor
open Go.RowKit
set_option maxHeartbeats 20000000
set_option maxRecDepth 100000 in
theorem iZ (s:ByteArray) (p:Nat) (w:World) (hs:s.size<=200000) (Z:p<s.size) (H:J3 (s[p].toNat:Int)=true) (k:s[p]=48) (T:p+1<s.size) (j:s[p+1]=39) (I:(s.extract (p+2) s.size).size<=1) (ci:Int) (n:Nat) (hn:n<=200000) (G:0<=ci/\ci<=1114111) (y:Hid (∀W,TabsT W->Calls Tryz.prog 123 #[.string (s.extract (p+2) s.size)] W fun e w'=>e=.returned (.tuple #[.int .i32 ci,.int .i64 (n:Nat)])/\Below W.heap.size W w')) (F:TabsT w) (B:T4 (s.data.toList.drop (p+2))=(ci,2+n)) (hw:((0:Int)<(n:Int)/\(32:Int)<=ci/\(ci !=39)=true/\(ci !=92)=true/\(ci==65533)=false)\/((0:Int)<(n:Int)/\(32:Int)<=ci/\(ci !=39)=true/\(ci !=92)=true/\(ci==65533)=true/\((n:Int)==1)=false)):
 Calls Tryz.prog 98 #[.string s,.int .i64 (p:Nat)] w fun e w'=>p6 (s.data.toList.drop p) p e/\Below w.heap.size w w':=by
 have l:=Q0 s p Z;obtain⟨z,t⟩: ∃z,O0 J3 (s.data.toList.drop p)=z:=⟨_,rfl⟩;have M:z≠0:=by rw [<-t,l];exact Nat.pos_iff_ne_zero.1 (Y2 _ _ _ H)
 have N:=F1 J3 (s.data.toList.drop p);rw [t,List.length_drop,C0]at N;have A:=D_ (fun (W:World) (g:Nat) (h:Ks W g [3])=>by
  have:=R4 s p [3] g W hs (by omega) h (by decide) (by decide);rw [P8,t]at this;exact this)
 have i:(⟨#[45]⟩++s.extract p (p+z):ByteArray).size<=maxLen:=by
  rw [ByteArray.size_append,ByteArray.size_extract];show 1+_<=maxLen
  unfold maxLen;omega
 have c:=fun W=>j4 (⟨#[45]⟩++s.extract p (p+z)) W i;rw [t6]at c;obtain⟨v,E⟩: ∃v,B5 (45::(s.data.toList.drop p).take z)=v:=⟨_,rfl⟩;obtain⟨x,hx⟩: ∃x,X5 (45::(s.data.toList.drop p).take z)=x:=⟨_,rfl⟩;rw [E,hx]at c;have q:=D_ c;have O:=D_ (fun o o2:Obj=>((F_ w.heap.size w).alloc (R_ _) o).alloc (by simp) o2);have r:=D_ (fun h=>A6 t M h E hx);have c_:(0:Int)<=(p:Int):=by omega
 have d_:(p:Int)<(s.size:Int):=by omega
 have e_:(p:Int)<=(p:Int)+(z:Int):=by omega
 have f_:(p:Int)+(z:Int)<=(s.size:Int):=by omega
 clear c E hx H i;have V:((s[p].toNat:Int)==48)=true:=(E1 s[p] 48).trans (decide_eq_true k);have U:((s[p+1].toNat:Int)==39)=true:=(E1 s[p+1] 39).trans (decide_eq_true j);have g_:(p:Int)+1<(s.size:Int):=by omega
 have m:B1 (s.data.toList.drop p)=T4 (s.data.toList.drop (p+2)):=by
  unfold B1;rw [l,Q0 s (p+1) T,k,j,J_ (by rfl)];rfl
 have J:=I;rw [ByteArray.size_extract]at J;have i_:((s.size-(p+2):Nat):Int)<=1:=by omega
 clear I;have u:Hid (p6 (s.data.toList.drop p) p (.returned (.tuple #[.agg #[.int .i64 5,.string ⟨#[]⟩,.int .i64 ci,.int .i64 (p:Nat)],.int .i64 (p+2+n:Nat),.bool true]))):=D_ (by
  refine⟨ci,p+2+n,true,rfl,?_,fun _=>⟨?_,by omega⟩⟩
  · unfold C2;rw [m,B,J_ (show 0<2+n by omega)];symm
    exact decide_eq_true (show 2+n≠0 by omega)
  · unfold C2;rw [m,B,J_ (show 0<2+n by omega),show p+2+n-p=2+n from by omega])
 have R:=D_ F;have h_:(p:Int)+2<=(s.size:Int):=by omega
 obtain⟨X,Y⟩:=G;clear l k j m B r q A F;rcases hw with⟨o1,o2,o3,o4,o5⟩|⟨o1,o2,o3,o4,o5,o6⟩
 all_goals
  go_enter Tryz.func98,Tryz.ntmps98;go_wp2_with fail;generalize a:((w.alloc (.cells #[.int .i64 0,.string ⟨#[]⟩,.int .i64 0,.int .i64 0] 96)).alloc (.cells #[.int .i64 5,.string ⟨#[]⟩,.int .i64 0,.int .i64 (p:Nat)] 96))=W0;have kz4:W0.heap[w.heap.size]?=some (.cells #[.int .i64 0,.string ⟨#[]⟩,.int .i64 0,.int .i64 0] 96):=by rw [<-a];exact j1 (S0 w _) _
  have kz7:W0.heap[w.heap.size+1]?=some (.cells #[.int .i64 5,.string ⟨#[]⟩,.int .i64 0,.int .i64 (p:Nat)] 96):=by rw [<-a,<-Z_ w (.cells #[.int .i64 0,.string ⟨#[]⟩,.int .i64 0,.int .i64 0] 96)];exact S0 _ _
  have d:Below w.heap.size w W0:=by rw [<-a];exact O.out _ _
  have i:W0.heap.size=w.heap.size+1+1:=by rw [<-a];simp
  refine(y.out _ (R.out.on d)).mono ?_;rintro e w1 ⟨rfl,b⟩;have C:Below w.heap.size w w1:=d.trans (b.mono d.size);have kz4':=K0 b kz4;have kz7':=K0 b kz7;have D:=b.size;have a_:w.heap.size+1<w1.heap.size:=by omega
  have b_:w.heap.size<w1.heap.size:=by omega
  obtain⟨c0,c1,c2,c3,f0,f1,f2,f3⟩:=P0 kz4';obtain⟨d0,d1,d2,d3,g0,g1,g2,g3⟩:=P0 kz7';clear kz4 kz7 a i d b D;go_wp2_with fail;refine B_ (v:=.tuple #[.agg #[.int .i64 5,.string ⟨#[]⟩,.int .i64 ci,.int .i64 (p:Nat)],.int .i64 (p+2+n:Nat),.bool true]) (by simp [results,Tryz.results98,go_sem,c0,c1,c2,c3]) rfl ⟨u.out,?_⟩;exact F0 (C.setCell (p:=⟨w.heap.size+1,2,none⟩) (show w.heap.size<=w.heap.size+1 by omega) _) (R_ _) _ _ _ _
set_option maxRecDepth 100000 in
theorem jZ (s:ByteArray) (p:Nat) (w:World) (Z:s.size<=200000) (Y:p<s.size) (H:J3 (s[p].toNat:Int)=true) (k:s[p]=48) (R:p+1<s.size) (j:s[p+1]=39) (hu:1<(s.extract (p+2) s.size).size) (e0:(((s.extract (p+2) s.size)[0].toNat:Int)==39)=false) (ci:Int) (n:Nat) (hn:n<=200000) (G:0<=ci/\ci<=1114111) (y:Hid (∀W,TabsT W->Calls Tryz.prog 123 #[.string (s.extract (p+2) s.size)] W fun e w'=>e=.returned (.tuple #[.int .i32 ci,.int .i64 (n:Nat)])/\Below W.heap.size W w')) (F:TabsT w) (B:T4 (s.data.toList.drop (p+2))=(ci,2+n)) (hw:((0:Int)<(n:Int)/\(32:Int)<=ci/\(ci !=39)=true/\(ci !=92)=true/\(ci==65533)=false)\/((0:Int)<(n:Int)/\(32:Int)<=ci/\(ci !=39)=true/\(ci !=92)=true/\(ci==65533)=true/\((n:Int)==1)=false)):
 Calls Tryz.prog 98 #[.string s,.int .i64 (p:Nat)] w fun e w'=>p6 (s.data.toList.drop p) p e/\Below w.heap.size w w':=by
 have l:=Q0 s p Y;obtain⟨z,t⟩: ∃z,O0 J3 (s.data.toList.drop p)=z:=⟨_,rfl⟩;have J:z≠0:=by rw [<-t,l];exact Nat.pos_iff_ne_zero.1 (Y2 _ _ _ H)
 have M:=F1 J3 (s.data.toList.drop p);rw [t,List.length_drop,C0]at M;have A:=D_ (fun (W:World) (g:Nat) (h:Ks W g [3])=>by
  have:=R4 s p [3] g W Z (by omega) h (by decide) (by decide);rw [P8,t]at this;exact this)
 have i:(⟨#[45]⟩++s.extract p (p+z):ByteArray).size<=maxLen:=by
  rw [ByteArray.size_append,ByteArray.size_extract];show 1+_<=maxLen
  unfold maxLen;omega
 have c:=fun W=>j4 (⟨#[45]⟩++s.extract p (p+z)) W i;rw [t6]at c;obtain⟨v,E⟩: ∃v,B5 (45::(s.data.toList.drop p).take z)=v:=⟨_,rfl⟩;obtain⟨x,hx⟩: ∃x,X5 (45::(s.data.toList.drop p).take z)=x:=⟨_,rfl⟩;rw [E,hx]at c;have q:=D_ c;have N:=D_ (fun o o2:Obj=>((F_ w.heap.size w).alloc (R_ _) o).alloc (by simp) o2);have r:=D_ (fun h=>A6 t J h E hx);have c_:(0:Int)<=(p:Int):=by omega
 have d_:(p:Int)<(s.size:Int):=by omega
 have e_:(p:Int)<=(p:Int)+(z:Int):=by omega
 have f_:(p:Int)+(z:Int)<=(s.size:Int):=by omega
 clear c E hx H i;have U:((s[p].toNat:Int)==48)=true:=(E1 s[p] 48).trans (decide_eq_true k);have T:((s[p+1].toNat:Int)==39)=true:=(E1 s[p+1] 39).trans (decide_eq_true j);have g_:(p:Int)+1<(s.size:Int):=by omega
 have m:B1 (s.data.toList.drop p)=T4 (s.data.toList.drop (p+2)):=by
  unfold B1;rw [l,Q0 s (p+1) R,k,j,J_ (by rfl)];rfl
 have I:=hu;rw [ByteArray.size_extract]at I;have i_:(1:Int)<((s.size-(p+2):Nat):Int):=by omega
 have u:Hid (p6 (s.data.toList.drop p) p (.returned (.tuple #[.agg #[.int .i64 5,.string ⟨#[]⟩,.int .i64 ci,.int .i64 (p:Nat)],.int .i64 (p+2+n:Nat),.bool true]))):=D_ (by
  refine⟨ci,p+2+n,true,rfl,?_,fun _=>⟨?_,by omega⟩⟩
  · unfold C2;rw [m,B,J_ (show 0<2+n by omega)];symm
    exact decide_eq_true (show 2+n≠0 by omega)
  · unfold C2;rw [m,B,J_ (show 0<2+n by omega),show p+2+n-p=2+n from by omega])
 have O:=D_ F;have h_:(p:Int)+2<=(s.size:Int):=by omega
 obtain⟨V,X⟩:=G;clear l k j m B r q A F;rcases hw with⟨o1,o2,o3,o4,o5⟩|⟨o1,o2,o3,o4,o5,o6⟩
 all_goals
  go_enter Tryz.func98,Tryz.ntmps98;go_wp2_with fail;generalize a:((w.alloc (.cells #[.int .i64 0,.string ⟨#[]⟩,.int .i64 0,.int .i64 0] 96)).alloc (.cells #[.int .i64 5,.string ⟨#[]⟩,.int .i64 0,.int .i64 (p:Nat)] 96))=W0;have kz4:W0.heap[w.heap.size]?=some (.cells #[.int .i64 0,.string ⟨#[]⟩,.int .i64 0,.int .i64 0] 96):=by rw [<-a];exact j1 (S0 w _) _
  have kz7:W0.heap[w.heap.size+1]?=some (.cells #[.int .i64 5,.string ⟨#[]⟩,.int .i64 0,.int .i64 (p:Nat)] 96):=by rw [<-a,<-Z_ w (.cells #[.int .i64 0,.string ⟨#[]⟩,.int .i64 0,.int .i64 0] 96)];exact S0 _ _
  have d:Below w.heap.size w W0:=by rw [<-a];exact N.out _ _
  have i:W0.heap.size=w.heap.size+1+1:=by rw [<-a];simp
  refine(y.out _ (O.out.on d)).mono ?_;rintro e w1 ⟨rfl,b⟩;have C:Below w.heap.size w w1:=d.trans (b.mono d.size);have kz4':=K0 b kz4;have kz7':=K0 b kz7;have D:=b.size;have a_:w.heap.size+1<w1.heap.size:=by omega
  have b_:w.heap.size<w1.heap.size:=by omega
  obtain⟨c0,c1,c2,c3,f0,f1,f2,f3⟩:=P0 kz4';obtain⟨d0,d1,d2,d3,g0,g1,g2,g3⟩:=P0 kz7';clear kz4 kz7 a i d b D;go_wp2_with fail;refine B_ (v:=.tuple #[.agg #[.int .i64 5,.string ⟨#[]⟩,.int .i64 ci,.int .i64 (p:Nat)],.int .i64 (p+2+n:Nat),.bool true]) (by simp [results,Tryz.results98,go_sem,c0,c1,c2,c3]) rfl ⟨u.out,?_⟩;exact F0 (C.setCell (p:=⟨w.heap.size+1,2,none⟩) (show w.heap.size<=w.heap.size+1 by omega) _) (R_ _) _ _ _ _
set_option maxRecDepth 100000 in
theorem kZ (s:ByteArray) (p:Nat) (w:World) (Z:s.size<=200000) (Y:p<s.size) (H:J3 (s[p].toNat:Int)=true) (k:s[p]=48) (R:p+1<s.size) (j:s[p+1]=39) (hu:1<(s.extract (p+2) s.size).size) (e0:(((s.extract (p+2) s.size)[0].toNat:Int)==39)=true) (e1:(((s.extract (p+2) s.size)[1].toNat:Int)==39)=false) (ci:Int) (n:Nat) (hn:n<=200000) (G:0<=ci/\ci<=1114111) (y:Hid (∀W,TabsT W->Calls Tryz.prog 123 #[.string (s.extract (p+2) s.size)] W fun e w'=>e=.returned (.tuple #[.int .i32 ci,.int .i64 (n:Nat)])/\Below W.heap.size W w')) (F:TabsT w) (B:T4 (s.data.toList.drop (p+2))=(ci,2+n)) (hw:((0:Int)<(n:Int)/\(32:Int)<=ci/\(ci !=39)=true/\(ci !=92)=true/\(ci==65533)=false)\/((0:Int)<(n:Int)/\(32:Int)<=ci/\(ci !=39)=true/\(ci !=92)=true/\(ci==65533)=true/\((n:Int)==1)=false)):
 Calls Tryz.prog 98 #[.string s,.int .i64 (p:Nat)] w fun e w'=>p6 (s.data.toList.drop p) p e/\Below w.heap.size w w':=by
 have l:=Q0 s p Y;obtain⟨z,t⟩: ∃z,O0 J3 (s.data.toList.drop p)=z:=⟨_,rfl⟩;have J:z≠0:=by rw [<-t,l];exact Nat.pos_iff_ne_zero.1 (Y2 _ _ _ H)
 have M:=F1 J3 (s.data.toList.drop p);rw [t,List.length_drop,C0]at M;have A:=D_ (fun (W:World) (g:Nat) (h:Ks W g [3])=>by
  have:=R4 s p [3] g W Z (by omega) h (by decide) (by decide);rw [P8,t]at this;exact this)
 have i:(⟨#[45]⟩++s.extract p (p+z):ByteArray).size<=maxLen:=by
  rw [ByteArray.size_append,ByteArray.size_extract];show 1+_<=maxLen
  unfold maxLen;omega
 have c:=fun W=>j4 (⟨#[45]⟩++s.extract p (p+z)) W i;rw [t6]at c;obtain⟨v,E⟩: ∃v,B5 (45::(s.data.toList.drop p).take z)=v:=⟨_,rfl⟩;obtain⟨x,hx⟩: ∃x,X5 (45::(s.data.toList.drop p).take z)=x:=⟨_,rfl⟩;rw [E,hx]at c;have q:=D_ c;have N:=D_ (fun o o2:Obj=>((F_ w.heap.size w).alloc (R_ _) o).alloc (by simp) o2);have r:=D_ (fun h=>A6 t J h E hx);have c_:(0:Int)<=(p:Int):=by omega
 have d_:(p:Int)<(s.size:Int):=by omega
 have e_:(p:Int)<=(p:Int)+(z:Int):=by omega
 have f_:(p:Int)+(z:Int)<=(s.size:Int):=by omega
 clear c E hx H i;have U:((s[p].toNat:Int)==48)=true:=(E1 s[p] 48).trans (decide_eq_true k);have T:((s[p+1].toNat:Int)==39)=true:=(E1 s[p+1] 39).trans (decide_eq_true j);have g_:(p:Int)+1<(s.size:Int):=by omega
 have m:B1 (s.data.toList.drop p)=T4 (s.data.toList.drop (p+2)):=by
  unfold B1;rw [l,Q0 s (p+1) R,k,j,J_ (by rfl)];rfl
 have I:=hu;rw [ByteArray.size_extract]at I;have i_:(1:Int)<((s.size-(p+2):Nat):Int):=by omega
 have u:Hid (p6 (s.data.toList.drop p) p (.returned (.tuple #[.agg #[.int .i64 5,.string ⟨#[]⟩,.int .i64 ci,.int .i64 (p:Nat)],.int .i64 (p+2+n:Nat),.bool true]))):=D_ (by
  refine⟨ci,p+2+n,true,rfl,?_,fun _=>⟨?_,by omega⟩⟩
  · unfold C2;rw [m,B,J_ (show 0<2+n by omega)];symm
    exact decide_eq_true (show 2+n≠0 by omega)
  · unfold C2;rw [m,B,J_ (show 0<2+n by omega),show p+2+n-p=2+n from by omega])
 have O:=D_ F;have h_:(p:Int)+2<=(s.size:Int):=by omega
 obtain⟨V,X⟩:=G;clear l k j m B r q A F;rcases hw with⟨o1,o2,o3,o4,o5⟩|⟨o1,o2,o3,o4,o5,o6⟩
 all_goals
  go_enter Tryz.func98,Tryz.ntmps98;go_wp2_with fail;generalize a:((w.alloc (.cells #[.int .i64 0,.string ⟨#[]⟩,.int .i64 0,.int .i64 0] 96)).alloc (.cells #[.int .i64 5,.string ⟨#[]⟩,.int .i64 0,.int .i64 (p:Nat)] 96))=W0;have kz4:W0.heap[w.heap.size]?=some (.cells #[.int .i64 0,.string ⟨#[]⟩,.int .i64 0,.int .i64 0] 96):=by rw [<-a];exact j1 (S0 w _) _
  have kz7:W0.heap[w.heap.size+1]?=some (.cells #[.int .i64 5,.string ⟨#[]⟩,.int .i64 0,.int .i64 (p:Nat)] 96):=by rw [<-a,<-Z_ w (.cells #[.int .i64 0,.string ⟨#[]⟩,.int .i64 0,.int .i64 0] 96)];exact S0 _ _
  have d:Below w.heap.size w W0:=by rw [<-a];exact N.out _ _
  have i:W0.heap.size=w.heap.size+1+1:=by rw [<-a];simp
  refine(y.out _ (O.out.on d)).mono ?_;rintro e w1 ⟨rfl,b⟩;have C:Below w.heap.size w w1:=d.trans (b.mono d.size);have kz4':=K0 b kz4;have kz7':=K0 b kz7;have D:=b.size;have a_:w.heap.size+1<w1.heap.size:=by omega
  have b_:w.heap.size<w1.heap.size:=by omega
  obtain⟨c0,c1,c2,c3,f0,f1,f2,f3⟩:=P0 kz4';obtain⟨d0,d1,d2,d3,g0,g1,g2,g3⟩:=P0 kz7';clear kz4 kz7 a i d b D;go_wp2_with fail;refine B_ (v:=.tuple #[.agg #[.int .i64 5,.string ⟨#[]⟩,.int .i64 ci,.int .i64 (p:Nat)],.int .i64 (p+2+n:Nat),.bool true]) (by simp [results,Tryz.results98,go_sem,c0,c1,c2,c3]) rfl ⟨u.out,?_⟩;exact F0 (C.setCell (p:=⟨w.heap.size+1,2,none⟩) (show w.heap.size<=w.heap.size+1 by omega) _) (R_ _) _ _ _ _
end Go.Proofs.YtinefdlkajnomaaGreatDoor
