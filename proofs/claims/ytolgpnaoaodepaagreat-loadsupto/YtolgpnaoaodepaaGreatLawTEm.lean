import Derived.Test.YtolgpnaoaodepaaGreatLoaCm
set_option maxHeartbeats 1000000
set_option maxRecDepth 100000
namespace Go.Proofs.YtolgpnaoaodepaaGreat
open Go.ChangeShapes Go.WideShapes Go.ChangeAt Go.RowKit Go.Deep Pg
variable {d:Type}{a w w':World}{b c f:Nat}{l:hH}{i:List MemPlace}{m:Option Addr}{g:Nat->Prop}{j:Value}{k:List (Nat×hF)}
def OpT(w:World)(b o:Nat):Prop:=∃(kk ix:Int) (s t:hJ) (c4 c5 c6 c7 c8:Value) (ck:Int) (key x:hJ) (c12:Value),
 w.cell? (Q_ b o)=some (J_ kk)/\w.cell? (Q_ b (o+1))=some (J_ ix)/\w.cell? (Q_ b (o+2))=some (B_ s)/\w.cell? (Q_ b (o+3))=some (B_ t)/\w.cell? (Q_ b (o+4))=some c4/\w.cell? (Q_ b (o+5))=some c5/\w.cell? (Q_ b (o+6))=some c6/\w.cell? (Q_ b (o+7))=some c7/\w.cell? (Q_ b (o+8))=some c8/\w.cell? (Q_ b (o+9))=some (J_ ck)/\w.cell? (Q_ b (o+10))=some (B_ key)/\w.cell? (Q_ b (o+11))=some (B_ x)/\w.cell? (Q_ b (o+12))=some c12
theorem Aah:Tryz.prog.cellsOf 79=5:=S_
theorem Aai:Tryz.prog.cellsOf 34=3:=S_
theorem KL{d:Type}{b:Nat}:∀{c:List (DataW d)},(∀a∈c,b<=Rows.uptoBulk a)->c.length*b<=Rows.uptoBulkAll c
 | [],_=>by simp[Rows.uptoBulkAll]
 | x::r,h=>by
  have f:=h x (xU ..);have g:=KL fun a c=>h a (xZ _ c)
  simp only[Rows.uptoBulkAll,xH,wL,Nat.one_mul];omega
theorem Ahf{α:Type}{n:List α}(h:n.length=7):∃a b c d e f g,n=[a,b,c,d,e,f,g]:=by
 match n,h with
 | [a,b,c,d,e,f,g],_=>exact⟨a,b,c,d,e,f,g,rfl⟩
theorem VD{j:TypeId×Value->d}{F:DataW d}(b5:a.cells? 0 (Q_ c f) 13=some l)(b6:DataW.trod j Tryz.prog a 0 (fun _=>true) true b 81 l=some (F,i)):OpT a c f/\16<=Rows.uptoBulk F:=by
 obtain⟨V,g⟩:=GT b5;obtain⟨k,m,_,W,_,X,n⟩:=aZ Tryz.underlying81 b6;have O:F=.agg (k.map (·.1)):=yW Prod.fst W;have s:DataW.trod j Tryz.prog a 0 (fun _=>true) true m 3 ((l.drop 0).take (Tryz.prog.cellsOf 3))=k[0]?:=n 0 _ rfl;have t:DataW.trod j Tryz.prog a 0 (fun _=>true) true m 3 ((l.drop 1).take (Tryz.prog.cellsOf 3))=k[1]?:=n 1 _ rfl;have u:DataW.trod j Tryz.prog a 0 (fun _=>true) true m 9 ((l.drop 2).take (Tryz.prog.cellsOf 9))=k[2]?:=n 2 _ rfl;have y:DataW.trod j Tryz.prog a 0 (fun _=>true) true m 9 ((l.drop 3).take (Tryz.prog.cellsOf 9))=k[3]?:=n 3 _ rfl;have z:DataW.trod j Tryz.prog a 0 (fun _=>true) true m 79 ((l.drop 4).take (Tryz.prog.cellsOf 79))=k[4]?:=n 4 _ rfl;have A:DataW.trod j Tryz.prog a 0 (fun _=>true) true m 34 ((l.drop 9).take (Tryz.prog.cellsOf 34))=k[5]?:=n 5 _ rfl;rw[RX]at s t;rw[Xw]at u y;rw[Aah]at z;rw[Aai]at A;obtain⟨Y,Z,a0,a1,a2,a3,a4,rfl⟩:=Ahf (show k.length=7 from X)
 match l,V with
 | [v0,v1,v2,v3,v4,v5,v6,v7,v8,v9,v10,v11,v12],_=>
  simp only[qR,dM,aB,qE,yI,yH]at s t u y z A;obtain⟨a5,G,_,_⟩:=dE vZ s;obtain⟨a6,H,_,_⟩:=dE vZ t;obtain⟨a7,I,_,_⟩:=qO jS u;obtain⟨a8,J,_,_⟩:=qO jS y;simp only[jA,yG]at G H I J;subst G H I J;obtain⟨B,c4,_,a9,_,b0,-⟩:=aZ Tryz.underlying79 z;obtain⟨o,C,_,b1,_,b2,D⟩:=aZ Tryz.underlying34 A;have p:DataW.trod j Tryz.prog a 0 (fun _=>true) true C 3 (([v9,v10,v11].drop 0).take (Tryz.prog.cellsOf 3))=o[0]?:=D 0 _ rfl;have q:DataW.trod j Tryz.prog a 0 (fun _=>true) true C 9 (([v9,v10,v11].drop 1).take (Tryz.prog.cellsOf 9))=o[1]?:=D 1 _ rfl;have r:DataW.trod j Tryz.prog a 0 (fun _=>true) true C 9 (([v9,v10,v11].drop 2).take (Tryz.prog.cellsOf 9))=o[2]?:=D 2 _ rfl;rw[RX]at p;rw[Xw]at q r;have b7:o.length=3:=b2;have b8:B.length=5:=b0;simp only[qR,dM,aB,qE]at p q r;rw[xW O_]at p q r;obtain⟨b3,L,_,_⟩:=dE vZ p;obtain⟨b4,M,_,_⟩:=qO jS q;obtain⟨x,N,_,_⟩:=qO jS r;simp only[jA,yG]at L M N;subst L M N;refine⟨⟨a5,a6,a7,a8,v4,v5,v6,v7,v8,b3,b4,x,v12,g 0 Do,g 1 Do,g 2 Do,g 3 Do,g 4 Do,g 5 Do,g 6 Do,g 7 Do,g 8 Do,g 9 Do,g 10 Do,g 11 Do,g 12 Do⟩,?_⟩;have R:a2.1=.agg (B.map (·.1)):=yW Prod.fst a9;have S:a3.1=.agg (o.map (·.1)):=yW Prod.fst b1;have T:=GS (B.map (·.1));have U:=GS (o.map (·.1));rw[xP]at T U;have b9:=Pm Y.1;have c0:=Pm Z.1;have c1:=Pm a0.1;have c2:=Pm a1.1;have c3:=Pm a4.1;rw[O];simp only[Rows.uptoBulk,Rows.uptoBulkAll,yD,vH,R,S];omega
def Aaj(w:World)(a:Option Addr)(n cap:Nat):Prop:=n=0\/∃b off,a=some (Q_ b off)/\n<=cap/\n<=65536/\b<w.heap.size/\∀i,i<n->OpT w b (off+i*13)
theorem VE{N:TypeId×Value->d}{q:DataW d}(z:DataW.trod N Tryz.prog a 0 (fun _=>true) true f 22 [.slice m b c]=some (q,i))(r:Rows.uptoBulk q<=1048576):Aaj a m b c:=by
 obtain⟨S,T,U,e,V,h⟩:=Vn 13 Do cI NB z r;simp only[xJ]at e;obtain⟨rfl,rfl,rfl⟩:=e;have A:b<=65536:=by
  rcases open_slice cI z with⟨k,_⟩|⟨L,a5,a6,y,a7,o,Pl,k,_,a8,a9,M,p,g⟩
  ·simp at k;omega
  ·simp only[jA,xJ,yG]at k;obtain⟨-,rfl,-⟩:=k;have O:b<=y:=by rw[M];split<;>omega
   have B:q=.slice ((List.range b).map o) ((List.range (y-b)).map fun j=>o (b+j)):=yW Prod.fst p;rw[B]at r;simp only[Rows.uptoBulk]at r;rw[NB]at g;obtain⟨W,t,F⟩:=L;have C:∀x∈(List.range b).map o,16<=Rows.uptoBulk x:=fun x p=>by obtain⟨l,n,rfl⟩:=xL.1 p;have R:=qY.1 n;obtain⟨X,G,_⟩:=g 0 O_;obtain⟨_,Y,H⟩:=cL G;have s:=H 0 O_;rw[xW O_]at s;have D:F=none:=(by simpa[Addr.add]using World.cell?_spot s);subst D;obtain⟨Z,j,u⟩:=g l O_;rw[Tn]at j;exact(VD j u).2
   have:=KL C;rw[xP,List.length_range]at this;omega
 refine h.imp_right fun⟨I,t,e,j,u,J,g⟩=>⟨I,t,e,j,A,J,fun l n=> ?_⟩
 obtain⟨a0,a1,a2,a3,I,J,a4⟩:=g l n;exact(VD I J).1
def gl:gY:=[(⟨#[97]⟩,⟨#[120]⟩)]
def XH:hJ:=⟨(Pg.Lx (Ab gl)).toArray⟩
def Ahl:hJ:=⟨(BI (Ab gl)).toArray⟩
structure Giv(w w':World):Prop where
 bel:Below w.heap.size w w'
 sz:w.heap.size+2<=w'.heap.size
 it:w'.heap[w.heap.size]?=some (C_ #[B_ ⟨#[97]⟩,B_ ⟨#[120]⟩] 51 (0,0))
 nd:w'.heap[w.heap.size+1]?=some (C_ #[J_ 1,L_ (P_ w.heap.size) 1 1,Z_,Z_,Z_] 79 (0,0))
theorem Giv.next{p:World}(h:Giv w a)(b:Below a.heap.size a p):Giv w p:=
 ⟨h.bel.trans (b.mono h.bel.size),xI h.sz b.size,(b.block _ (by have:=h.sz;omega)).trans h.it,(b.block _ (by have:=h.sz;omega)).trans h.nd⟩
theorem Giv.cells{w a:World}(h:Giv w a):a.cell? (Q_ (w.heap.size+1) 0)=some (J_ 1)/\a.cell? (Q_ (w.heap.size+1) 1)=some (L_ (P_ w.heap.size) 1 1)/\a.cell? (Q_ (w.heap.size+1) 2)=some Z_/\a.cell? (Q_ (w.heap.size+1) 3)=some Z_/\a.cell? (Q_ (w.heap.size+1) 4)=some Z_:=by have:=h.nd;refine⟨?_,?_,?_,?_,?_⟩<;>simp[World.cell?,this]
theorem Giv.items(h:Giv w a):Fa a (L_ (P_ w.heap.size) 1 1) gl:=by
 refine .inr ⟨w.heap.size,0,1,rfl,X_,Do,by have:=h.sz;omega,?_⟩;intro d b;have c:d=0:=by simp[gl]at b;exact b
 subst c;have:=h.it;constructor<;>simp[World.cell?,this,gl]
theorem Afr:∀x∈gl,x.1.size<=12/\x.2.size<=16:=by intro x a;simp[gl]at a;subst a;decide
theorem Aak(w:World)(h:Giv a w):
  Calls Tryz.prog 48 #[.agg #[J_ 1,L_ (P_ a.heap.size) 1 1,Z_,Z_,Z_]] w fun c d=>c=R_ (B_ XH)/\Giv a d:=
 (Wg 1 _ _ _ _ gl w Do h.items Do Afr).mono fun _ _ b=>⟨b.1,h.next b.2⟩
theorem Ado(w:World)(h:Giv a w):
  Calls Tryz.prog 49 #[.agg #[J_ 1,L_ (P_ a.heap.size) 1 1,Z_,Z_,Z_]] w fun c d=>c=R_ (B_ Ahl)/\Giv a d:=
 (OC _ _ _ _ gl w h.items Do Afr).mono fun _ _ b=>⟨b.1,h.next b.2⟩
theorem Giv.drew(h:Giv w a):Giv w a.drew:=⟨h.bel.drew,h.sz,h.it,h.nd⟩
attribute [local go_sem ↓] dG dF
theorem RY(h:LW b c f g j k w)(z:c<=90000000)(A:1<=f)(B:f+1<=900000)(a:Int)(C:7<=a/\a<=10)(d:Int)(i l:hJ)(m n o p q:Value)(r:Int)(s t:hJ)(u:Value):
  Calls Tryz.prog 28 #[A_ b,.agg #[J_ a,J_ d,B_ i,B_ l,m,n,o,p,q,J_ r,B_ s,B_ t,u]] w (StQ b c f g w):=by
 by_cases y:a=7
 ·subst y;exact RV h A O_ d i l m n o p q r s t u
 ·exact HX h z B a O_ d i l m n o p q r s t u
attribute [local go_sem ↓] dG dF
theorem NC(h:LW b c f g j k w)(F:262145<=f)(G:f<=900000)(m:Int)(n o:hJ)(p q r s t:Value)(u:Int)(y z:hJ)(i:Value)(l:hD)(a:Src 1 w i l.length (strs l))(A:Hr l<=1048576):
  Calls Tryz.prog 28 #[A_ b,.agg #[J_ 11,J_ m,B_ n,B_ o,p,q,r,s,t,J_ u,B_ y,B_ z,i]] w (StQ b c f g w):=by
 have d:Below w.heap.size w (w.alloc (C_ #[J_ 11,J_ m,B_ n,B_ o,p,q,r,s,t,J_ u,B_ y,B_ z,i] 81)):=(xA _ w).alloc X_ _;have B:=Aa h;have C:=Aa d;have D:=Aa (VC (h.below d) F G i l (a.below d) A);clear h d a A;go_enter bZ,cF;go_wp2_with fail;refine D.o.mono ?_;rintro A H a;have d:=Aa (StQ.box B.o C.o a);obtain rfl:=a.ret;clear a;go_wp2_with fail;go_ret;exact d.o
def Txt(w:World)(S:Nat->Prop)(c:Value):Prop:=∃L:hD,Src 1 w c L.length (strs L)/\Hr L<=1048576/\∀a n cap,c=L_ (some a) n cap->n≠0->S a.block
theorem Txt.keep(h:Txt w g j)(s:w.heap.size<=w'.heap.size)(t:∀a,g a->w'.heap[a]?=w.heap[a]?):Txt w' g j:=by
 obtain⟨a,⟨c,d,rfl,f,l⟩,i,b⟩:=h;by_cases h0:a.length=0
 ·exact⟨a,⟨c,d,rfl,f,.inl h0⟩,i,b⟩
 refine⟨a,⟨c,d,rfl,f,l.imp id ?_⟩,i,b⟩;rintro⟨k,m,rfl,n,o⟩;have e:=t k (b _ _ _ rfl h0);exact⟨k,m,rfl,yF n s,fun p q r=>by have:=o p q r;simp only[World.cell?,e]at this⊢;exact this⟩
theorem AV{q:Nat->Prop}(h:LW b c f g j k w)(z:c<=90000000)(G:262145<=f)(H:f+1<=900000)(a:Int)(I:7<=a/\a<=12)(i:Int)(l m:hJ)(n o p r s:Value)(t:Int)(u y:hJ)(d:Value)(J:Txt w q d):
  Calls Tryz.prog 28 #[A_ b,.agg #[J_ a,J_ i,B_ l,B_ m,n,o,p,r,s,J_ t,B_ u,B_ y,d]] w (StQ b c f g w):=by
 by_cases D:a<=10
 ·exact RY h z O_ H a ⟨I.1,D⟩ i l m n o p r s t u y d
 ·by_cases F:a=11
  ·subst F;obtain⟨A,B,C,-⟩:=J;exact NC h G O_ i l m n o p r s t u y d A B C
  ·obtain rfl:a=12:=O_;exact HY h z O_ i l m n o p r s t u y d
def OpU(w:World)(S:Nat->Prop)(b o:Nat):Prop:=∃(kk ix:Int) (s t:hJ) (c4 c5 c6 c7 c8:Value) (ck:Int) (key x:hJ) (c12:Value),
 (w.cell? (Q_ b o)=some (J_ kk)/\w.cell? (Q_ b (o+1))=some (J_ ix)/\w.cell? (Q_ b (o+2))=some (B_ s)/\w.cell? (Q_ b (o+3))=some (B_ t)/\w.cell? (Q_ b (o+4))=some c4/\w.cell? (Q_ b (o+5))=some c5/\w.cell? (Q_ b (o+6))=some c6/\w.cell? (Q_ b (o+7))=some c7/\w.cell? (Q_ b (o+8))=some c8/\w.cell? (Q_ b (o+9))=some (J_ ck)/\w.cell? (Q_ b (o+10))=some (B_ key)/\w.cell? (Q_ b (o+11))=some (B_ x)/\w.cell? (Q_ b (o+12))=some c12)/\Txt w S c12
theorem OpU.keep(h:OpU w g b c)(t:w'.heap[b]?=w.heap[b]?)(u:w.heap.size<=w'.heap.size)(y:∀a,g a->w'.heap[a]?=w.heap[a]?):OpU w' g b c:=by
 have e:∀a,w'.cell? (Q_ b a)=w.cell? (Q_ b a):=fun a=>by simp only[World.cell?,t]
 obtain⟨a,d,f,i,j,k,l,m,n,o,p,x,q,r,s⟩:=h;refine⟨a,d,f,i,j,k,l,m,n,o,p,x,q,?_,s.keep u y⟩;simp only[e];exact r
theorem Txt.nil(w:World)(a:Nat->Prop):Txt w a Z_:=⟨[],⟨none,0,rfl,rfl,.inl rfl⟩,by simp[Hr],fun b b b e _=>by cases e⟩
theorem GU{j:Type}:∀(c:List (DataW j)) (a:hD),c.length=a.length->(∀(b:Nat) (f:b<c.length) (g:b<a.length),Rows.uptoBulk (c[b]'f)=(a[b]'g).size+1)->Rows.uptoBulkAll c=Hr a
 | [],[],_,_=>rfl
 | [],_::_,h,_=>by simp at h
 | _::_,[],h,_=>by simp at h
 | d::c,s::a,h,hb=>by
  have h0:=hb 0 D_ D_;have i:=GU c a (by simpa using h) fun b f g=>hb (b+1) K_ K_
  have e:Hr (s::a)=s.size+1+Hr a:=by simp[Hr]
  have h0:Rows.uptoBulk d=s.size+1:=h0;rw[Rows.uptoBulkAll,i,e,h0]
theorem Agh{B:Type}{M:TypeId×Value->B}{v:Value}{d:DataW B}{pl:List MemPlace}(C:DataW.trod M Tryz.prog a 0 (fun _=>true) true b 40 [v]=some (d,pl))(q:Rows.uptoBulk d<=1048576):Txt a (fun c=>c<a.heap.size) v:=by
 obtain⟨G,f,r,rfl,R,h⟩:=Vn 1 Do kM Xw C q;rcases h with rfl|⟨o,p,rfl,T,U,u,-⟩
 ·exact⟨[],⟨G,r,rfl,rfl,.inl rfl⟩,by simp[Hr],fun c J L e h0=>absurd (by simp only[xJ]at e;exact e.2.1.symm) h0⟩
 ·rcases open_slice kM C with⟨j,_⟩|⟨V,W,X,y,Y,i,Pl,j,_,Z,a0,H,I,z⟩
  ·simp at j
  ·simp only[jA,xJ,xX,yG]at j;obtain⟨rfl,rfl,rfl⟩:=j;have N:f<=y:=by rw[H];split<;>omega
   rw[Xw]at z;have D:∀c,c<f->∃g:hJ,a.cell? ⟨o,p+c,none⟩=some (.string g)/\i c=.lit (.string g.data.toList):=fun c k=>by obtain⟨S,l,m⟩:=z c O_;rw[Tn]at l;obtain⟨g,rfl,e,_⟩:=qO jS m;have:=(GT l).2 0 O_;exact⟨g,by simpa using this,yW Prod.fst e⟩
   obtain⟨n,s,t⟩:=XG (fun c (g:hJ)=>a.cell? ⟨o,p+c,none⟩=some (.string g)/\i c=.lit (.string g.data.toList)) f D;have F:d=.slice ((List.range f).map i) ((List.range (y-f)).map fun k=>i (f+k)):=yW Prod.fst I;rw[F]at q;simp only[Rows.uptoBulk]at q;have O:Rows.uptoBulkAll ((List.range f).map i)=Hr n:=GU _ _ (by simp[s]) fun c l m=>by rw[vR,dR,(t c m).2];simp[Rows.uptoBulk]
   subst s;refine⟨n,⟨_,r,rfl,by simp[strs],.inr ⟨o,p,rfl,u,fun k c A=> ?_⟩⟩,O_,fun c J L e _=> ?_⟩
   ·have c:k<n.length:=(by have:=(jM.1 A).1;simpa[strs]using this);rw[(t k c).1];simpa[strs,c]using A
   ·simp only[xJ,xX]at e;rw[<-e.1];exact u
theorem Agi{q:TypeId×Value->d}{m:DataW d}(r:a.cells? 0 (Q_ c f) 13=some l)(s:DataW.trod q Tryz.prog a 0 (fun _=>true) true b 81 l=some (m,i))(t:Rows.uptoBulk m<=1048576):OpU a (fun g=>g<a.heap.size) c f:=by
 obtain⟨A,B,C,D,F,G,H,I,J,L,M,x,o,p⟩:=(VD r s).1;refine⟨A,B,C,D,F,G,H,I,J,L,M,x,o,p,?_⟩;obtain⟨a0,N⟩:=GT r;obtain⟨k,O,_,R,_,S,T⟩:=aZ Tryz.underlying81 s;have u:m=.agg (k.map (·.1)):=yW Prod.fst R;have j:DataW.trod q Tryz.prog a 0 (fun _=>true) true O 40 ((l.drop 12).take (Tryz.prog.cellsOf 40))=k[6]?:=T 6 _ rfl;have y:Tryz.prog.cellsOf 40=1:=S_;rw[y]at j;obtain⟨U,V,W,X,Y,Z,g,rfl⟩:=Ahf (show k.length=7 from S);have n:=N 12 Do;rw[p.2.2.2.2.2.2.2.2.2.2.2.2]at n;have z:(l.drop 12).take 1=[o]:=by rw[yM O_];have:=(jM.1 n.symm).2;rw[this];rfl
 rw[z]at j;refine Agh (d:=g.1) (pl:=g.2) j ?_;have:=KK (d:=g.1) (l:=[U.1,V.1,W.1,X.1,Y.1,Z.1,g.1]) D_;rw[u]at t;simp only[Rows.uptoBulk,yD,vH]at t;omega
def To(w:World)(a:Option Addr)(n cap:Nat):Prop:=n=0\/∃b off,a=some (Q_ b off)/\n<=cap/\n<=65536/\b<w.heap.size/\∀i,i<n->OpU w (fun g=>g<w.heap.size) b (off+i*13)
theorem VF{B:TypeId×Value->d}{j:DataW d}(k:DataW.trod B Tryz.prog a 0 (fun _=>true) true f 22 [L_ m b c]=some (j,i))(l:Rows.uptoBulk j<=1048576):To a m b c:=by
 rcases VE k l with h0|⟨q,r,e,s,t,u,_⟩
 ·exact .inl h0
 ·obtain⟨C,D,F,g,G,h⟩:=Vn 13 Do cI NB k l;simp only[xJ]at g;obtain⟨rfl,rfl,rfl⟩:=g;rcases h with h0|⟨M,N,g,_,_,_,y⟩
  ·exact .inl h0
  ·rw[e]at g;simp only[xX,yT,yG]at g;obtain⟨rfl,rfl⟩:=g;refine .inr ⟨q,r,e,s,t,u,fun z A=> ?_⟩;obtain⟨H,I,J,L,n,o,p⟩:=y z A;exact Agi n o p
