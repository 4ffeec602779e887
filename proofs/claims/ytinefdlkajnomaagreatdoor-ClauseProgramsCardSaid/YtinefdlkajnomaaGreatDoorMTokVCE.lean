import Derived.Test.YtinefdlkajnomaaGreatDoorMTokVA
namespace Go.Proofs.YtinefdlkajnomaaGreatDoor
open Go.RowKit
set_option maxHeartbeats 20000000
set_option maxRecDepth 100000 in
theorem NQ (s:ByteArray) (p:Nat) (w:World) (hs:s.size<=200000) (hp:p<s.size) (J:J3 (s[p].toNat:Int)=true) (k:s[p]=48) (V:p+1<s.size) (j:s[p+1]=39) (M:(s.extract (p+2) s.size).size<=1) (ci:Int) (n:Nat) (hn:n<=200000) (I:0<=ci/\ci<=1114111) (C:Hid (∀W,TabsT W->Calls Tryz.prog 123 #[.string (s.extract (p+2) s.size)] W fun e w'=>e=.returned (.tuple #[.int .i32 ci,.int .i64 (n:Nat)])/\Below W.heap.size W w')) (G:TabsT w) (F:T4 (s.data.toList.drop (p+2))=(0,0)) (hw:((n:Int)<=0)\/((0:Int)<(n:Int)/\(ci==65533)=true/\((n:Int)==1)=true)\/((0:Int)<(n:Int)/\(ci==65533)=false/\ci<32)\/((0:Int)<(n:Int)/\(ci==65533)=false/\(32:Int)<=ci/\(ci !=39)=false)\/((0:Int)<(n:Int)/\(ci==65533)=false/\(32:Int)<=ci/\(ci !=39)=true/\(ci !=92)=false)):
 Calls Tryz.prog 98 #[.string s,.int .i64 (p:Nat)] w fun e w'=>p6 (s.data.toList.drop p) p e/\Below w.heap.size w w':=by
 have m:=Q0 s p hp;obtain⟨z,t⟩: ∃z,O0 J3 (s.data.toList.drop p)=z:=⟨_,rfl⟩;have O:z≠0:=by rw [<-t,m];exact Nat.pos_iff_ne_zero.1 (Y2 _ _ _ J)
 have R:=F1 J3 (s.data.toList.drop p);rw [t,List.length_drop,C0]at R;have D:=D_ (fun (W:World) (g:Nat) (h:Ks W g [3])=>by
  have:=R4 s p [3] g W hs (by omega) h (by decide) (by decide);rw [P8,t]at this;exact this)
 have i:(⟨#[45]⟩++s.extract p (p+z):ByteArray).size<=maxLen:=by
  rw [ByteArray.size_append,ByteArray.size_extract];show 1+_<=maxLen
  unfold maxLen;omega
 have c:=fun W=>j4 (⟨#[45]⟩++s.extract p (p+z)) W i;rw [t6]at c;obtain⟨v,E⟩: ∃v,B5 (45::(s.data.toList.drop p).take z)=v:=⟨_,rfl⟩;obtain⟨x,hx⟩: ∃x,X5 (45::(s.data.toList.drop p).take z)=x:=⟨_,rfl⟩;rw [E,hx]at c;have q:=D_ c;have T:=D_ (fun o o2:Obj=>((F_ w.heap.size w).alloc (R_ _) o).alloc (by simp) o2);have r:=D_ (fun h=>A6 t O h E hx);have d_:(0:Int)<=(p:Int):=by omega
 have e_:(p:Int)<(s.size:Int):=by omega
 have f_:(p:Int)<=(p:Int)+(z:Int):=by omega
 have g_:(p:Int)+(z:Int)<=(s.size:Int):=by omega
 clear c E hx J i;have Y:((s[p].toNat:Int)==48)=true:=(E1 s[p] 48).trans (decide_eq_true k);have X:((s[p+1].toNat:Int)==39)=true:=(E1 s[p+1] 39).trans (decide_eq_true j);have h_:(p:Int)+1<(s.size:Int):=by omega
 have u:B1 (s.data.toList.drop p)=T4 (s.data.toList.drop (p+2)):=by
  unfold B1;rw [m,Q0 s (p+1) V,k,j,J_ (by rfl)];rfl
 have N:=M;rw [ByteArray.size_extract]at N;have j_:((s.size-(p+2):Nat):Int)<=1:=by omega
 clear M;have B:=D_ (r.out (by rw [u,F]));have U:=D_ G;have i_:(p:Int)+2<=(s.size:Int):=by omega
 obtain⟨Z,a_⟩:=I;clear m k j u F G;rcases hw with o1|⟨o1,o2,o3⟩|⟨o1,o2,o3⟩|⟨o1,o2,o3,o4⟩|⟨o1,o2,o3,o4,o5⟩
 all_goals
  go_enter Tryz.func98,Tryz.ntmps98;go_wp2_with fail;generalize b:((w.alloc (.cells #[.int .i64 0,.string ⟨#[]⟩,.int .i64 0,.int .i64 0] 96)).alloc (.cells #[.int .i64 5,.string ⟨#[]⟩,.int .i64 0,.int .i64 (p:Nat)] 96))=W0;have kz4:W0.heap[w.heap.size]?=some (.cells #[.int .i64 0,.string ⟨#[]⟩,.int .i64 0,.int .i64 0] 96):=by rw [<-b];exact j1 (S0 w _) _
  have kz7:W0.heap[w.heap.size+1]?=some (.cells #[.int .i64 5,.string ⟨#[]⟩,.int .i64 0,.int .i64 (p:Nat)] 96):=by rw [<-b,<-Z_ w (.cells #[.int .i64 0,.string ⟨#[]⟩,.int .i64 0,.int .i64 0] 96)];exact S0 _ _
  have a:Below w.heap.size w W0:=by rw [<-b];exact T.out _ _
  have i:W0.heap.size=w.heap.size+1+1:=by rw [<-b];simp
  refine(C.out _ (U.out.on a)).mono ?_;rintro e w1 ⟨rfl,d⟩;have l:Below w.heap.size w w1:=a.trans (d.mono a.size);replace kz4:=K0 d kz4
  replace kz7:=K0 d kz7
  replace a:=l
  clear b i d l;go_wp2_with fail;refine(D.out _ _ (lz w1 3 3)).mono ?_;rintro e w8 ⟨rfl,rfl⟩;have y:=j1 kz4 (.cells #[.int .i64 3] 3);have A:=j1 kz7 (.cells #[.int .i64 3] 3);have H:=a.alloc (by have:=a.size;omega) (.cells #[.int .i64 3] 3);generalize w1.alloc (.cells #[.int .i64 3] 3)=w8 at*;obtain⟨c0,c1,c2,c3,f0,f1,f2,f3⟩:=P0 y;obtain⟨d0,d1,d2,d3,g0,g1,g2,g3⟩:=P0 A;have b_:w.heap.size+1<w8.heap.size:=L_ _ _ d0;have c_:w.heap.size<w8.heap.size:=by omega
  clear y A kz4 kz7 a;go_wp2_with fail;refine(q.out _).mono ?_;rintro e w9 ⟨rfl,rfl⟩;go_wp2_with fail;refine B_ (v:=.tuple #[.agg #[.int .i64 5,.string ⟨#[]⟩,.int .i64 (wrap64 (-v)),.int .i64 (p:Nat)],.int .i64 (p+z:Nat),.bool (x==0)]) (by simp [results,Tryz.results98,go_sem,c0,c1,c2,c3]) rfl ⟨B.out,?_⟩;exact F0 (H.setCell (p:=⟨w.heap.size+1,2,none⟩) (show w.heap.size<=w.heap.size+1 by omega) _) (R_ _) _ _ _ _
set_option maxRecDepth 100000 in
theorem OQ (s:ByteArray) (p:Nat) (w:World) (hs:s.size<=200000) (hp:p<s.size) (J:J3 (s[p].toNat:Int)=true) (k:s[p]=48) (U:p+1<s.size) (j:s[p+1]=39) (hu:1<(s.extract (p+2) s.size).size) (e0:(((s.extract (p+2) s.size)[0].toNat:Int)==39)=false) (ci:Int) (n:Nat) (hn:n<=200000) (I:0<=ci/\ci<=1114111) (C:Hid (∀W,TabsT W->Calls Tryz.prog 123 #[.string (s.extract (p+2) s.size)] W fun e w'=>e=.returned (.tuple #[.int .i32 ci,.int .i64 (n:Nat)])/\Below W.heap.size W w')) (G:TabsT w) (F:T4 (s.data.toList.drop (p+2))=(0,0)) (hw:((n:Int)<=0)\/((0:Int)<(n:Int)/\(ci==65533)=true/\((n:Int)==1)=true)\/((0:Int)<(n:Int)/\(ci==65533)=false/\ci<32)\/((0:Int)<(n:Int)/\(ci==65533)=false/\(32:Int)<=ci/\(ci !=39)=false)\/((0:Int)<(n:Int)/\(ci==65533)=false/\(32:Int)<=ci/\(ci !=39)=true/\(ci !=92)=false)):
 Calls Tryz.prog 98 #[.string s,.int .i64 (p:Nat)] w fun e w'=>p6 (s.data.toList.drop p) p e/\Below w.heap.size w w':=by
 have m:=Q0 s p hp;obtain⟨z,t⟩: ∃z,O0 J3 (s.data.toList.drop p)=z:=⟨_,rfl⟩;have N:z≠0:=by rw [<-t,m];exact Nat.pos_iff_ne_zero.1 (Y2 _ _ _ J)
 have O:=F1 J3 (s.data.toList.drop p);rw [t,List.length_drop,C0]at O;have D:=D_ (fun (W:World) (g:Nat) (h:Ks W g [3])=>by
  have:=R4 s p [3] g W hs (by omega) h (by decide) (by decide);rw [P8,t]at this;exact this)
 have i:(⟨#[45]⟩++s.extract p (p+z):ByteArray).size<=maxLen:=by
  rw [ByteArray.size_append,ByteArray.size_extract];show 1+_<=maxLen
  unfold maxLen;omega
 have c:=fun W=>j4 (⟨#[45]⟩++s.extract p (p+z)) W i;rw [t6]at c;obtain⟨v,E⟩: ∃v,B5 (45::(s.data.toList.drop p).take z)=v:=⟨_,rfl⟩;obtain⟨x,hx⟩: ∃x,X5 (45::(s.data.toList.drop p).take z)=x:=⟨_,rfl⟩;rw [E,hx]at c;have q:=D_ c;have R:=D_ (fun o o2:Obj=>((F_ w.heap.size w).alloc (R_ _) o).alloc (by simp) o2);have r:=D_ (fun h=>A6 t N h E hx);have c_:(0:Int)<=(p:Int):=by omega
 have d_:(p:Int)<(s.size:Int):=by omega
 have e_:(p:Int)<=(p:Int)+(z:Int):=by omega
 have f_:(p:Int)+(z:Int)<=(s.size:Int):=by omega
 clear c E hx J i;have X:((s[p].toNat:Int)==48)=true:=(E1 s[p] 48).trans (decide_eq_true k);have V:((s[p+1].toNat:Int)==39)=true:=(E1 s[p+1] 39).trans (decide_eq_true j);have g_:(p:Int)+1<(s.size:Int):=by omega
 have u:B1 (s.data.toList.drop p)=T4 (s.data.toList.drop (p+2)):=by
  unfold B1;rw [m,Q0 s (p+1) U,k,j,J_ (by rfl)];rfl
 have M:=hu;rw [ByteArray.size_extract]at M;have i_:(1:Int)<((s.size-(p+2):Nat):Int):=by omega
 have B:=D_ (r.out (by rw [u,F]));have T:=D_ G;have h_:(p:Int)+2<=(s.size:Int):=by omega
 obtain⟨Y,Z⟩:=I;clear m k j u F G;rcases hw with o1|⟨o1,o2,o3⟩|⟨o1,o2,o3⟩|⟨o1,o2,o3,o4⟩|⟨o1,o2,o3,o4,o5⟩
 all_goals
  go_enter Tryz.func98,Tryz.ntmps98;go_wp2_with fail;generalize b:((w.alloc (.cells #[.int .i64 0,.string ⟨#[]⟩,.int .i64 0,.int .i64 0] 96)).alloc (.cells #[.int .i64 5,.string ⟨#[]⟩,.int .i64 0,.int .i64 (p:Nat)] 96))=W0;have kz4:W0.heap[w.heap.size]?=some (.cells #[.int .i64 0,.string ⟨#[]⟩,.int .i64 0,.int .i64 0] 96):=by rw [<-b];exact j1 (S0 w _) _
  have kz7:W0.heap[w.heap.size+1]?=some (.cells #[.int .i64 5,.string ⟨#[]⟩,.int .i64 0,.int .i64 (p:Nat)] 96):=by rw [<-b,<-Z_ w (.cells #[.int .i64 0,.string ⟨#[]⟩,.int .i64 0,.int .i64 0] 96)];exact S0 _ _
  have a:Below w.heap.size w W0:=by rw [<-b];exact R.out _ _
  have i:W0.heap.size=w.heap.size+1+1:=by rw [<-b];simp
  refine(C.out _ (T.out.on a)).mono ?_;rintro e w1 ⟨rfl,d⟩;have l:Below w.heap.size w w1:=a.trans (d.mono a.size);replace kz4:=K0 d kz4
  replace kz7:=K0 d kz7
  replace a:=l
  clear b i d l;go_wp2_with fail;refine(D.out _ _ (lz w1 3 3)).mono ?_;rintro e w8 ⟨rfl,rfl⟩;have y:=j1 kz4 (.cells #[.int .i64 3] 3);have A:=j1 kz7 (.cells #[.int .i64 3] 3);have H:=a.alloc (by have:=a.size;omega) (.cells #[.int .i64 3] 3);generalize w1.alloc (.cells #[.int .i64 3] 3)=w8 at*;obtain⟨c0,c1,c2,c3,f0,f1,f2,f3⟩:=P0 y;obtain⟨d0,d1,d2,d3,g0,g1,g2,g3⟩:=P0 A;have a_:w.heap.size+1<w8.heap.size:=L_ _ _ d0;have b_:w.heap.size<w8.heap.size:=by omega
  clear y A kz4 kz7 a;go_wp2_with fail;refine(q.out _).mono ?_;rintro e w9 ⟨rfl,rfl⟩;go_wp2_with fail;refine B_ (v:=.tuple #[.agg #[.int .i64 5,.string ⟨#[]⟩,.int .i64 (wrap64 (-v)),.int .i64 (p:Nat)],.int .i64 (p+z:Nat),.bool (x==0)]) (by simp [results,Tryz.results98,go_sem,c0,c1,c2,c3]) rfl ⟨B.out,?_⟩;exact F0 (H.setCell (p:=⟨w.heap.size+1,2,none⟩) (show w.heap.size<=w.heap.size+1 by omega) _) (R_ _) _ _ _ _
set_option maxRecDepth 100000 in
theorem PQ (s:ByteArray) (p:Nat) (w:World) (hs:s.size<=200000) (hp:p<s.size) (J:J3 (s[p].toNat:Int)=true) (k:s[p]=48) (U:p+1<s.size) (j:s[p+1]=39) (hu:1<(s.extract (p+2) s.size).size) (e0:(((s.extract (p+2) s.size)[0].toNat:Int)==39)=true) (e1:(((s.extract (p+2) s.size)[1].toNat:Int)==39)=false) (ci:Int) (n:Nat) (hn:n<=200000) (I:0<=ci/\ci<=1114111) (C:Hid (∀W,TabsT W->Calls Tryz.prog 123 #[.string (s.extract (p+2) s.size)] W fun e w'=>e=.returned (.tuple #[.int .i32 ci,.int .i64 (n:Nat)])/\Below W.heap.size W w')) (G:TabsT w) (F:T4 (s.data.toList.drop (p+2))=(0,0)) (hw:((n:Int)<=0)\/((0:Int)<(n:Int)/\(ci==65533)=true/\((n:Int)==1)=true)\/((0:Int)<(n:Int)/\(ci==65533)=false/\ci<32)\/((0:Int)<(n:Int)/\(ci==65533)=false/\(32:Int)<=ci/\(ci !=39)=false)\/((0:Int)<(n:Int)/\(ci==65533)=false/\(32:Int)<=ci/\(ci !=39)=true/\(ci !=92)=false)):
 Calls Tryz.prog 98 #[.string s,.int .i64 (p:Nat)] w fun e w'=>p6 (s.data.toList.drop p) p e/\Below w.heap.size w w':=by
 have m:=Q0 s p hp;obtain⟨z,t⟩: ∃z,O0 J3 (s.data.toList.drop p)=z:=⟨_,rfl⟩;have N:z≠0:=by rw [<-t,m];exact Nat.pos_iff_ne_zero.1 (Y2 _ _ _ J)
 have O:=F1 J3 (s.data.toList.drop p);rw [t,List.length_drop,C0]at O;have D:=D_ (fun (W:World) (g:Nat) (h:Ks W g [3])=>by
  have:=R4 s p [3] g W hs (by omega) h (by decide) (by decide);rw [P8,t]at this;exact this)
 have i:(⟨#[45]⟩++s.extract p (p+z):ByteArray).size<=maxLen:=by
  rw [ByteArray.size_append,ByteArray.size_extract];show 1+_<=maxLen
  unfold maxLen;omega
 have c:=fun W=>j4 (⟨#[45]⟩++s.extract p (p+z)) W i;rw [t6]at c;obtain⟨v,E⟩: ∃v,B5 (45::(s.data.toList.drop p).take z)=v:=⟨_,rfl⟩;obtain⟨x,hx⟩: ∃x,X5 (45::(s.data.toList.drop p).take z)=x:=⟨_,rfl⟩;rw [E,hx]at c;have q:=D_ c;have R:=D_ (fun o o2:Obj=>((F_ w.heap.size w).alloc (R_ _) o).alloc (by simp) o2);have r:=D_ (fun h=>A6 t N h E hx);have c_:(0:Int)<=(p:Int):=by omega
 have d_:(p:Int)<(s.size:Int):=by omega
 have e_:(p:Int)<=(p:Int)+(z:Int):=by omega
 have f_:(p:Int)+(z:Int)<=(s.size:Int):=by omega
 clear c E hx J i;have X:((s[p].toNat:Int)==48)=true:=(E1 s[p] 48).trans (decide_eq_true k);have V:((s[p+1].toNat:Int)==39)=true:=(E1 s[p+1] 39).trans (decide_eq_true j);have g_:(p:Int)+1<(s.size:Int):=by omega
 have u:B1 (s.data.toList.drop p)=T4 (s.data.toList.drop (p+2)):=by
  unfold B1;rw [m,Q0 s (p+1) U,k,j,J_ (by rfl)];rfl
 have M:=hu;rw [ByteArray.size_extract]at M;have i_:(1:Int)<((s.size-(p+2):Nat):Int):=by omega
 have B:=D_ (r.out (by rw [u,F]));have T:=D_ G;have h_:(p:Int)+2<=(s.size:Int):=by omega
 obtain⟨Y,Z⟩:=I;clear m k j u F G;rcases hw with o1|⟨o1,o2,o3⟩|⟨o1,o2,o3⟩|⟨o1,o2,o3,o4⟩|⟨o1,o2,o3,o4,o5⟩
 all_goals
  go_enter Tryz.func98,Tryz.ntmps98;go_wp2_with fail;generalize b:((w.alloc (.cells #[.int .i64 0,.string ⟨#[]⟩,.int .i64 0,.int .i64 0] 96)).alloc (.cells #[.int .i64 5,.string ⟨#[]⟩,.int .i64 0,.int .i64 (p:Nat)] 96))=W0;have kz4:W0.heap[w.heap.size]?=some (.cells #[.int .i64 0,.string ⟨#[]⟩,.int .i64 0,.int .i64 0] 96):=by rw [<-b];exact j1 (S0 w _) _
  have kz7:W0.heap[w.heap.size+1]?=some (.cells #[.int .i64 5,.string ⟨#[]⟩,.int .i64 0,.int .i64 (p:Nat)] 96):=by rw [<-b,<-Z_ w (.cells #[.int .i64 0,.string ⟨#[]⟩,.int .i64 0,.int .i64 0] 96)];exact S0 _ _
  have a:Below w.heap.size w W0:=by rw [<-b];exact R.out _ _
  have i:W0.heap.size=w.heap.size+1+1:=by rw [<-b];simp
  refine(C.out _ (T.out.on a)).mono ?_;rintro e w1 ⟨rfl,d⟩;have l:Below w.heap.size w w1:=a.trans (d.mono a.size);replace kz4:=K0 d kz4
  replace kz7:=K0 d kz7
  replace a:=l
  clear b i d l;go_wp2_with fail;refine(D.out _ _ (lz w1 3 3)).mono ?_;rintro e w8 ⟨rfl,rfl⟩;have y:=j1 kz4 (.cells #[.int .i64 3] 3);have A:=j1 kz7 (.cells #[.int .i64 3] 3);have H:=a.alloc (by have:=a.size;omega) (.cells #[.int .i64 3] 3);generalize w1.alloc (.cells #[.int .i64 3] 3)=w8 at*;obtain⟨c0,c1,c2,c3,f0,f1,f2,f3⟩:=P0 y;obtain⟨d0,d1,d2,d3,g0,g1,g2,g3⟩:=P0 A;have a_:w.heap.size+1<w8.heap.size:=L_ _ _ d0;have b_:w.heap.size<w8.heap.size:=by omega
  clear y A kz4 kz7 a;go_wp2_with fail;refine(q.out _).mono ?_;rintro e w9 ⟨rfl,rfl⟩;go_wp2_with fail;refine B_ (v:=.tuple #[.agg #[.int .i64 5,.string ⟨#[]⟩,.int .i64 (wrap64 (-v)),.int .i64 (p:Nat)],.int .i64 (p+z:Nat),.bool (x==0)]) (by simp [results,Tryz.results98,go_sem,c0,c1,c2,c3]) rfl ⟨B.out,?_⟩;exact F0 (H.setCell (p:=⟨w.heap.size+1,2,none⟩) (show w.heap.size<=w.heap.size+1 by omega) _) (R_ _) _ _ _ _
end Go.Proofs.YtinefdlkajnomaaGreatDoor
