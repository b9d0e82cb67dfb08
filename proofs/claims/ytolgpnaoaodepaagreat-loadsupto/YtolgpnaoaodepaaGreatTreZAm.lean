import Derived.Test.YtolgpnaoaodepaaGreatTreVm
set_option maxHeartbeats 1500000
set_option maxRecDepth 20000
namespace Go.Proofs.YtolgpnaoaodepaaGreat
open Go.RowKit Tr
theorem IZ(a:Nat):(Builtin.zeroCells (Value.agg #[B_ ⟨#[]⟩,.pointer none]).cells a).size=a*2:=(Rw a).1
theorem AZ(g f u I:Nat)(b c:hA)(a:Nat)(w:World)(e2:a+1<b.length)(e3:f<b.length-1+c.length)(h:Bf 0 w (L_ (P_ g) b.length f) b)(J:Bf 0 w (L_ (P_ u) c.length I) c)(e4:0<c.length)(e5:b.length<=20000000)(e6:c.length<=20000000):
  Calls Tryz.prog 175 #[L_ (P_ g) b.length f,J_ (a:Nat),J_ ((a:Nat)+1),L_ (P_ u) c.length I] w fun i j=>∃d,i=R_ d/\HF (L_ (P_ g) b.length f) (Ra b a c) w d j:=by
 rcases h.2 with⟨_,d7⟩|⟨d8,d9,e0,e,a9,Z,e1,a0,b0,b1⟩
 ·omega
 simp only[xJ,xX,yT,yG,yB]at e;obtain⟨rfl,rfl⟩:=e;have b2:f<=9223372036854775807:=by unfold maxLen at a0;omega
 have L:=(xS.1 Z).1;have a1:=(xF J u rfl).2;obtain⟨d,y⟩:∃d,d=b.length-1+c.length:=⟨_,rfl⟩;obtain⟨F,X,Y,G,H⟩:=zB Hu;have s:(An (b.drop (a+1))).length=(b.length-(a+1))*2:=by rw[Bj,xY]
 have l:(An c).length=c.length*2:=Bj c;have m:(An (b.take a)).length=a*2:=by rw[Bj,xR];omega
 have M:(Builtin.firstCells F.size a (L_ (P_ g) a f)).run Tryz.prog w.drew.drew=.ok (An (b.take a)).toArray w.drew.drew:=by
  have:=wR (P:=Tryz.prog) w.drew.drew (Q_ g 0) (An (b.take a)) (fun o q p=>by
   rw[Ju _ _ O_]at p;have a2:(An b)[o]?=some q:=by
    rw[qT]at p;split at p
    ·exact p
    ·cases p
   exact zD h (g:=g) rfl _ _ a2)
  rw[m]at this;simpa[Builtin.firstCells,G]using this
 have N:Builtin.nextslicecap (a+(d-a)) f*F.bytes<=281474976710656:=qL O_ (by rw[H];omega);have z:=dH (P:=Tryz.prog) w.drew 121 3 121 132 F (.agg #[B_ ⟨#[]⟩,.pointer none]) .i64 .i64 jP vZ X Y (P_ g) a f (An (b.take a)) M (d-a) O_ (by rw[G];omega) O_ O_ (by rw[H];omega) N;rw[show a+(d-a)=d by omega]at z;have a3:=cP w.drew d f 132;have O:grownCap w.drew d f 132<=maxLen:=cQ w.drew d f 132 (by unfold maxLen;omega);generalize grownCap w.drew d f 132=i at*;have R:=IZ (d-a);have S:=IZ (i-d);have A:((An (b.take a)).toArray++Builtin.zeroCells (Value.agg #[B_ ⟨#[]⟩,.pointer none]).cells (d-a)++Builtin.zeroCells (Value.agg #[B_ ⟨#[]⟩,.pointer none]).cells (i-d)).toList.length=i*2:=by simp only[jT,aW,vI,m,R,S];omega
 have T:((An (b.take a)).toArray++Builtin.zeroCells (Value.agg #[B_ ⟨#[]⟩,.pointer none]).cells (d-a)++Builtin.zeroCells (Value.agg #[B_ ⟨#[]⟩,.pointer none]).cells (i-d)).toList.take (a*2)=An (b.take a):=by rw[Array.append_assoc,vD,<-m,jB]
 generalize(An (b.take a)).toArray++Builtin.zeroCells (Value.agg #[B_ ⟨#[]⟩,.pointer none]).cells (d-a)++Builtin.zeroCells (Value.agg #[B_ ⟨#[]⟩,.pointer none]).cells (i-d)=r at*;have n:Below w.heap.size w (w.drew.drew.alloc (.cells r 132)):=(xA w.heap.size w).drew.drew.alloc X_ _;have B:(w.drew.drew.alloc (.cells r 132)).heap[w.heap.size]?=some (.cells r 132 (0,0)):=xK w.drew.drew _;generalize w.drew.drew.alloc (.cells r 132)=k at*;have C:=Gf (P:=Tryz.prog) k 121 121 3 132 2 w.heap.size (a*2) (d-a) (i-a) u 0 c.length I c.length r 132 (An c) jP S_ B (jL O_) l (fun o q p=>by rw[zR];exact(n.cell (p:=(Q_ u o)) a1).trans (Td J o q p)) (by rw[l];rw[jT]at A;omega) (Fp _);rw[l,T]at C;have U:(An (b.take a)++An c++r.toList.drop (a*2+c.length*2)).length=i*2:=by simp only[xC,m,l,xY,A];omega
 have V:(An (b.take a)++An c++r.toList.drop (a*2+c.length*2)).take ((a+c.length)*2)=An (b.take a)++An c:=by rw[show(a+c.length)*2=(An (b.take a)++An c).length by simp only[xC,m,l];omega,jB]
 generalize An (b.take a)++An c++r.toList.drop (a*2+c.length*2)=j at*;have D:=Eg B j;have t:=Cn k w.heap.size j.toArray;have W:∀(o:Nat) (q:Value),(An (b.drop (a+1)))[o]?=some q->(k.setRow w.heap.size j.toArray).drew.cell? (Q_ g ((a+1)*2+o))=some q:=fun o q p=>by have a4:=Tc h (a+1) O_ o q p;rw[<-a4];exact kK ((t.block g (yF L n.size) (fun e=>by have:=xM e;omega)).trans (n.block g L))
 have o:=Gf (P:=Tryz.prog) (k.setRow w.heap.size j.toArray).drew 121 121 3 132 2 w.heap.size ((a+c.length)*2) (d-(a+c.length)) (i-(a+c.length)) g ((a+1)*2) (b.length-(a+1)) (f-(a+1)) (b.length-(a+1)) j.toArray 132 (An (b.drop (a+1))) jP S_ D (by rw[show d-(a+c.length)=b.length-(a+1)by omega];exact wN _) s W (by rw[s];simp;omega) (Fp _);rw[s,show(a+c.length)*2+(b.length-(a+1))*2=d*2 by omega]at o;simp only[V]at o;have p:Hid (HF (L_ (P_ g) b.length f) (Ra b a c) w (L_ (P_ w.heap.size) d i) ((k.setRow w.heap.size j.toArray).drew.setRow w.heap.size (An (b.take a)++An c++An (b.drop (a+1))++j.drop (d*2)).toArray)):=by
  refine⟨?_,?_,.inr ⟨w.heap.size,X_,rfl⟩⟩
  ·unfold Bf;rw[Pd _ _ _ O_,<-y];refine Rt (Eg (w:=(k.setRow w.heap.size j.toArray).drew) D _) a3 O ?_ ?_ (by rw[Bj,Pd _ _ _ O_,<-y])
   ·simp only[xC,xY,m,l,s,U];omega
   ·rw[Uv,kE (by simp only[xC,m,l,s];omega),yY (by simp only[xC,m,l,s];omega)]
  ·have q:=Cn (k.setRow w.heap.size j.toArray).drew w.heap.size (An (b.take a)++An c++An (b.drop (a+1))++j.drop (d*2)).toArray;have h0:w.grownBy k (some g):=⟨n.os,n.tape,n.output,n.size,fun a5 a6 _=>n.block a5 a6⟩;have a5:w.grownBy (k.setRow w.heap.size j.toArray).drew (some g):=LK h0 ⟨t.os,t.tape,t.output,t.size,t.block⟩ X_;exact LK a5 q X_
 have b3:(a:Int)+(c.length:Int)+((b.length-(a+1):Nat):Int)=(d:Int):=O_;have b4:a<=20000000:=O_;have b5:a<=f:=O_;have b6:(a:Int)+1<=(f:Int):=O_;have b7:a+1<=f:=O_;have b8:((a:Int)==(a:Int)+1)=false:=K_;have b9:((a:Int)+1==(b.length:Int))=false:=K_;have c0:(a:Int)+1<=(b.length:Int):=O_;have c1:a+1<=b.length:=O_;have c2:¬f=a+1:=O_;have c3:(0:Int)<=(a:Int)+1:=O_;have c4:decide ((f:Int)<(d:Int))=true:=K_;have c5:d<=60000000:=O_;have c6:a+c.length<=d:=O_;have c7:a<=d:=O_;have c8:¬i=a:=O_;have c9:¬i=a+c.length:=O_;have d0:IntKind.i64.wrap ((a:Int)+(c.length:Int))=(a:Int)+(c.length:Int):=by rw[yZ];omega
 have d1:IntKind.i64.wrap (d:Int)=(d:Int):=by rw[yZ];omega
 have d2:(d:Int)-(a:Int)=((d-a:Nat):Int):=O_;have d3:((a:Int)+(c.length:Int)).toNat=a+c.length:=O_;have d4:(0:Int)<=(a:Int)+(c.length:Int):=O_;have d5:(a:Int)+(c.length:Int)<=(d:Int):=O_;have a6:=Aa z;have a7:=Aa C;have a8:=Aa o;have d6:=Aa y;clear z C o B D t W A U T V R S M N n s l m y b1 b0 Z a0 a9 h J O X Y G H;go_enter bY,cE;go_upto_region 9 with fail
 go_region_law (fail)
 all_goals
  go_upto_region 11 with fail;go_upto_region 12 with(at_builtin;refine vO w.drew rfl (.tmp 63) (.tmp 66) 121 3 rfl (L_ (P_ g) a f) (J_ ((d-a:Nat):Int)) rfl rfl _ _ a6.o ?_);go_upto_region 13 with(refine Ab6 k rfl (.tmp 70) (.tmp 71) 121 121 rfl _ _ rfl rfl _ _ a7.o ?_)
  go_region_law (refine DK _ rfl (.tmp 78) (.tmp 81) 121 121 rfl _ _ (by simp[Act.eval,Act.put]) (by simp[Act.eval,Act.put]) _ _ a8.o ?_)
  all_goals
   go_wp2_with fail;go_ret;have l:=p.o;simp only[xT]at l;exact⟨_,rfl,l⟩
theorem LO(v l:Value)(b a:hA)(c:Nat)(w:World)(s:c<b.length)(h:Bf 0 w v b)(i:Bf 0 w l a)(m:0<a.length)(k:b.length<=20000000)(n:a.length<=20000000)(t:∀d,v.ownBlock=some d->l.ownBlock≠some d):
  Calls Tryz.prog 175 #[v,J_ (c:Nat),J_ ((c:Nat)+1),l] w fun g j=>∃f,g=R_ f/\HF v (Ra b c a) w f j:=by
 obtain⟨d,f,rfl,u,-,-,-,-⟩:=h.at c s;obtain⟨g,j,rfl,y,-,-,-,-⟩:=i.at 0 m;have o:d≠g:=fun e=>t d rfl (by rw[e];rfl)
 by_cases p:c+1=b.length
 ·exact DV d f g j b a c w p h i m k n
 ·by_cases q:b.length-1+a.length<=f
  ·by_cases r:a.length=1
   ·obtain⟨x,rfl⟩:∃x,a=[x]:=by
     match a,r with
     | [x],_=>exact⟨x,rfl⟩
    exact DX d f g j b x c w O_ h i k
   ·exact HG d f g j b a c w O_ q h i O_ k n o
  ·exact AZ d f g j b a c w O_ O_ h i m k n
theorem Qg(g i:Nat)(j k p l m q:Value)(r s t u:Option Addr)(a c b d y z A B:Nat)(w:World)(C:Ax w g j k p)(D:Ax w i l m q)(F:j=L_ r a y)(G:k=L_ s c z)(H:l=L_ t b A)(I:m=L_ u d B)(U:a<=20000000)(V:c<=20000000)(W:b<=20000000)(X:d<=20000000):
  Calls Tryz.prog 224 #[A_ g,A_ i] w fun f n=>f=R_ (.bool (decide (a+b<=12)&&decide (c+d<=3)))/\Below w.heap.size w n:=by
 subst F G H I;obtain⟨M,N,O,-⟩:=C.cells;obtain⟨R,S,T,-⟩:=D.cells;by_cases f:a+b<=12
 ·have n:decide ((a:Int)+(b:Int)<=12)=true:=xQ O_;have J:(a:Int)+(b:Int)<=12:=O_;have L:decide ((c:Int)+(d:Int)<=3)=decide (c+d<=3):=by by_cases o:c+d<=3<;>simp[o]<;>omega
  go_in;go_upto_region 1 with fail;go_quiet (fail);go_wp2_with fail;go_ret;exact⟨by simp[f],Ao (xA _ _) _⟩
 ·have n:decide ((a:Int)+(b:Int)<=12)=false:=xN O_;go_in;go_upto_region 1 with fail;go_quiet (fail);go_wp2_with fail;go_ret;exact⟨by simp[f],Ao (xA _ _) _⟩
theorem Wt(b:hJ)(a:Nat)(j k:Option Addr)(c d l m:Nat)(n:Value)(w:World)(f:Ax w a (L_ j c l) (L_ k d m) n)(A:c<=16)(B:d<=4):
  Calls Tryz.prog 64 #[.agg #[B_ b,A_ a]] w fun i g=>∃v,i=R_ v/\Bf w.heap.size g v [(b,a)]/\Below w.heap.size w g:=by
 have g:=(xA w.heap.size w).alloc X_ (C_ #[B_ b,A_ a] 132);have o:Hid (Below w.heap.size w ((w.alloc (C_ #[B_ b,A_ a] 132)).alloc (C_ #[B_ b,A_ a] 132))):=g.alloc D_ _;have i:Ax (w.alloc (C_ #[B_ b,A_ a] 132)) a (L_ j c l) (L_ k d m) n:=(g.block a f.lt).trans f;obtain⟨u,y,z,-⟩:=i.cells;have r:=f.lt;have s:decide ((16:Int)<(c:Int))=false:=xN O_;have t:decide ((4:Int)<(d:Int))=false:=xN O_;have p:Hid (Bf w.heap.size ((w.alloc (C_ #[B_ b,A_ a] 132)).alloc (C_ #[B_ b,A_ a] 132)) (L_ (P_ (w.heap.size+1)) 1 1) [(b,a)]):=by
  have q:(w.alloc (C_ #[B_ b,A_ a] 132)).heap.size=w.heap.size+1:=D_;refine⟨rfl,.inr ⟨w.heap.size+1,1,#[B_ b,A_ a],rfl,O_,?_,X_,by unfold maxLen;omega,rfl,rfl⟩⟩;rw[<-q];exact xK _ _
 clear g i f;go_enter Tryz.func64,fL;go_wp2_with fail;go_ret;exact⟨_,rfl,p.o,o.o⟩
theorem Abd(d:hJ)(a:Nat)(l:Value)(b:gY)(w:World)(i:Ax w a l Z_ Z_)(m:Ap 0 w l b)(t:16<b.length)(u:b.length<=2000000):
  Calls Tryz.prog 64 #[.agg #[B_ d,A_ a]] w fun o g=>∃v k c,o=R_ v/\CtQ 0 w (Fk d.data.toList (shares (Ab b) 16)) v k c g/\(∀f∈c,w.heap.size<=f)/\Below w.heap.size w g:=by
 have g:=Aa ((xA w.heap.size w).alloc X_ (C_ #[B_ d,A_ a] 132));have j:Ax (w.alloc (C_ #[B_ d,A_ a] 132)) a l Z_ Z_:=(g.o.block a i.lt).trans i;obtain⟨A,B,rfl⟩:=Ad m;obtain⟨C,D,F,-⟩:=j.cells;have y:=i.lt;have n:=Aa (OR d a _ b _ j (Ae m g.o X_) t u);have z:decide ((16:Int)<(b.length:Int))=true:=xQ O_;clear j i m;go_enter Tryz.func64,fL;go_wp2_with fail;refine n.o.mono ?_;rintro o m ⟨v,k,c,rfl,i,p,q⟩;have r:Hid (CtQ 0 w (Fk d.data.toList (shares (Ab b) 16)) v k c m/\(∀f∈c,w.heap.size<=f)/\Below w.heap.size w m):=by have j:=g.o.size;exact⟨⟨Bi i.row j,i.kids,i.nd⟩,fun f s=>xI j (p f s),g.o.trans (q.mono j)⟩
 clear i p q n;go_wp2_with fail;go_ret;exact⟨_,_,c,rfl,r.o⟩
theorem Abe(j:hJ)(b:Nat)(n o:Value)(c:hA)(f:gZ)(w:World)(a:Ax w b Z_ n o)(p:Bf 0 w n c)(s:Bb 0 w o f)(z:4<c.length)(A:c.length<=2000000)(B:f.length<=2000000):
  Calls Tryz.prog 64 #[.agg #[B_ j,A_ b]] w fun r d=>∃v k l m i,r=R_ v/\CbQ w k l (shares c 4) m f v i d:=by
 have d:=Aa ((xA w.heap.size w).alloc X_ (C_ #[B_ j,A_ b] 132));have g:Ax (w.alloc (C_ #[B_ j,A_ b] 132)) b Z_ n o:=(d.o.block b a.lt).trans a;obtain⟨F,G,rfl⟩:=Ad p;obtain⟨H,I,J,-⟩:=g.cells;have C:=a.lt;have q:=Aa (HE j b _ _ c f _ g (Ae p d.o X_) (Ae s d.o X_) z A B);have D:decide ((4:Int)<(c.length:Int))=true:=xQ O_;clear g a p s;go_enter Tryz.func64,fL;go_wp2_with fail;refine q.o.mono ?_;rintro r s ⟨v,k,l,m,i,rfl,a⟩;have p:Hid (CbQ w k l (shares c 4) m f v i s):=by have g:=d.o.size;exact⟨a.len,Bi a.row g,⟨a.many.n,fun t u y=>Bi (a.many.o t u y) g,a.many.a⟩,a.brm,a.brc,a.old,a.pv,xI g a.hC,d.o.trans (a.bel.mono g)⟩
 clear a q;go_wp2_with fail;go_ret;exact⟨_,_,_,_,i,rfl,p.o⟩
namespace Tr
def Hn{h:Nat}(s:List (Key×Ai h)):Key:=(s.head?.map (·.1)).getD []
def Hb{h:Nat}(ss:List (List (Key×Ai h)))(cs:List Ch):List (Key×Ai (h+1)):=ss.mapIdx fun j s=>(Hn s,((s,cs.filter fun c=>decide (ix (ss.map Hn) c.2.1=j)):Ai (h+1)))
end Tr
variable {α:Type}{b:hA}{c:hF}
theorem Db.cutAt{a:Nat->α->hF->Prop}{d:List (Tr.Key×α)}(h:Db a b d c)(f:Nat):∃i j,Db a (b.take f) (d.take f) i/\Db a (b.drop f) (d.drop f) j/\c=i++j:=by
 have p:=h.len;rw[<-zK f d]at h;obtain⟨g,k,i,j,rfl,r,n,o,rfl⟩:=h.split;have s:g.length=min f d.length:=by rw[r,xR]
 rw[xC]at p;by_cases t:f<=d.length
 ·have l:(g++k).take f=g:=by rw[show f=g.length by omega,jB]
  have m:(g++k).drop f=k:=by rw[show f=g.length by omega,jQ]
  rw[l,m];exact⟨i,j,n,o,rfl⟩
 ·have q:k=[]:=zT O_;subst q;have l:(g++[]).take f=g:=by rw[yC];exact yY O_
  have m:(g++[]).drop f=[]:=by rw[yC];exact kB O_
  rw[l,m];exact⟨i,j,n,o,rfl⟩
theorem WC{α:Type}{a:Nat->α->hF->Prop}:∀(k:Nat) {c:hA} {b:List (Tr.Key×α)} {f:hF},Db a c b f->(k=0->c=[])->∃Gs:List hF,Gs.length=k/\Gs.flatten=f/\∀j (d:j<(sh k c).length) (i:j<(sh k b).length) (g:j<Gs.length),Db a ((sh k c)[j]'d) ((sh k b)[j]'i) (Gs[j]'g)
 | 0,c,b,f,h,h0=>by have o:=h0 rfl;subst o;have g:=h.len;have p:b=[]:=zT (by simpa using g.symm);subst p;have q:f=[]:=h;exact⟨[],rfl,by rw[q];rfl,fun j d=>by simp[sh]at d⟩
 | k+1,c,b,f,h,_=>by
  have g:=h.len;obtain⟨n,u,d,i,rfl⟩:=h.cutAt ((c.length+k) / (k+1));obtain⟨Gs,r,s,t⟩:=WC k i (fun f=>by subst f;rw[zR,jW,Nat.div_one,qQ]);refine⟨n::Gs,by rw[xH,r],by rw[yO,s],fun j f l m=> ?_⟩
  match j,f,l,m with
  | 0,_,_,_=>
   show Db a (c.take ((c.length+k) / (k+1))) (b.take ((b.length+k) / (k+1))) n;rw[<-g];exact d
  | j+1,f,l,m=>
   have:=t j (by simpa[sh]using f) (by rw[Nj];rw[Nj]at l;omega) (by simpa using m);simp only[sh,List.getElem_cons_succ];have e:b.drop ((b.length+k) / (k+1))=b.drop ((c.length+k) / (k+1)):=(by rw[g]);simpa[e]using this
theorem WD{α:Type}{a:Nat->α->hF->Prop}:∀{f:hA} {g:List (Tr.Key×α)} {Gs:List hF},f.length=g.length->f.length=Gs.length->(∀b (c:b<f.length) (d:b<g.length) (i:b<Gs.length),(f[b]'c).1.data.toList=(g[b]'d).1/\a (f[b]'c).2 (g[b]'d).2 (Gs[b]'i))->Db a f g Gs.flatten
 | [],[],[],_,_,_=>rfl
 | x::f,y::g,G::Gs,c,d,h=>⟨(h 0 D_ D_ D_).1,G,Gs.flatten,(h 0 D_ D_ D_).2,WD (by simpa using c) (by simpa using d) (fun b f g i=>h (b+1) (by simpa using f) (by simpa using g) (by simpa using i)),D_⟩
 | [],_::_,_,c,_,_=>by simp at c
 | _::_,[],_,c,_,_=>by simp at c
 | [],[],_::_,_,d,_=>by simp at d
 | _::_,_::_,[],_,d,_=>by simp at d
theorem Db.head{a:Nat->α->hF->Prop}{d:List (Tr.Key×α)}(h:Db a b d c):IY b=(d.head?.map (·.1)).getD []:=by
 have:=h.keys;unfold Cp at this;unfold IY
 cases b with
 | nil=>cases d with
  | nil=>rfl
  | cons y r=>simp at this
 | cons x r=>cases d with
  | nil=>simp at this
  | cons y s=>simp at this;simp[this.1]
theorem Kn(b:gZ)(c:Tr.Ch->Bool):Ac (b.filter fun a=>c (a.1,a.2.1.data.toList,a.2.2.data.toList))=(Ac b).filter c:=by unfold Ac;rw[List.filter_map];rfl
def cbF(pl:hA)(vs:hH)(vcs:Nat->Value)(Gs:List hF)(j:Nat):hF:=(pl.getD j (⟨#[]⟩,0)).2::(blk (vs.getD j Z_)++(blk (vcs j)++Gs.getD j []))
theorem Aec{h:Nat}{w g:World}{f:hA}{i:List (Tr.Key×Tr.Ai h)}{j:gZ}{k:hH}{l:Nat->Value}{v:Value}{m:Nat}(a5:Db (Rep h w) b i c)(b5:c.Nodup)(M:∀z∈c,z<w.heap.size)(h0:0<b.length)(d:CbQ w f k (shares b 4) l j v m g):∃a,Db (Rep (h+1) g) f (Hb (shares i 4) (Ac j)) a/\(blk v++a).Nodup/\∀z∈a,z∈c\/w.heap.size<=z:=by
 have a6:=a5.len;have a7:Db (Rep h g) b i c:=a5.imp fun a a a a n=>n.keep fun z V=>d.bel.block z (M z (a z V))
 have a8:=Li b 4 Do;obtain⟨Gs,a1,a2,T⟩:=WC ((b.length+4-1) / 4) a7 (fun o=>by have:=a8.2.2 h0;omega);have X:shares i 4=sh ((b.length+4-1) / 4) i:=by unfold shares;rw[a6]
 have Y:shares b 4=sh ((b.length+4-1) / 4) b:=rfl;rw[<-X,<-Y]at T;have b6:(shares i 4).length=Gs.length:=by rw[X,Nj,a1]
 have a9:(shares b 4).length=Gs.length:=by rw[Y,Nj,a1]
 have b0:k.length=Gs.length:=by rw[d.many.n,a9]
 have b7:f.length=Gs.length:=by rw[d.len,b0]
 have b1:Cp f=(shares i 4).map Hn:=by
  refine wY (by simp[Cp];omega) fun a n p=> ?_
  have b2:a<f.length:=by simpa[Cp]using n
  have y:a<Gs.length:=O_;have e:=d.brm.key a b2 O_;rw[(T a O_ O_ y).head]at e;simp only[Cp,vR];rw[e];rfl
 have R:∀a (n:a<f.length) (p:a<k.length) (s:a<Gs.length),cbF f k l Gs a=(f[a]'n).2::(blk (k[a]'p)++(blk (l a)++Gs[a]'s)):=fun a n p s=>by unfold cbF;simp[xW n,xW p,xW s]
 have H:∀a (o:a<Gs.length),∀x∈Gs[a]'o,x∈c:=fun a o x q=>by rw[<-a2];exact kV.2 ⟨_,yA o,q⟩
 have b3:Gs.flatten.Nodup:=by rw[a2];exact b5
 have Z:=gN.1 b3;have D:∀a (o:a<Gs.length) x,x∈cbF f k l Gs a->(∃n:a<f.length,x=(f[a]'n).2/\m<=x)\/(∃p:a<k.length,(k[a]'p).ownBlock=some x/\w.heap.size<=x/\x<m)\/((l a).ownBlock=some x/\m<=x)\/(x∈Gs[a]'o/\x<w.heap.size):=fun a o x q=>by
  rw[R a O_ O_ o]at q;rcases xG.1 q with rfl|q
  ·exact .inl ⟨O_,rfl,d.brm.low _ (yA _)⟩
  ·rcases xE.1 q with q|q
   ·have r:=Aj.1 q;exact .inr (.inl ⟨O_,r,(d.many.lt (yA _) x r).1,d.old _ (yA _) x r⟩)
   ·rcases xE.1 q with q|q
    ·have r:=Aj.1 q;exact .inr (.inr (.inl ⟨r,(xF (d.brc.o a O_) x r).1⟩))
    ·exact .inr (.inr (.inr ⟨q,M x (H a o x q)⟩))
 have S:∀t a (n:t<f.length) (_:a<f.length) x,x=(f[t]'n).2->(l a).ownBlock≠some x:=fun t a n p x e=>by rw[e];exact Bg (d.brm.nod t n O_) (d.brc.o a p) Do
 have b8:=d.hC;refine⟨((List.range f.length).map (cbF f k l Gs)).flatten,WD (by simp[Hb];omega) D_ (fun a n p s=> ?_),?_,fun z V=> ?_⟩
 ·have y:a<Gs.length:=O_;have a0:=T a O_ O_ y;simp only[Hb,List.getElem_mapIdx,vR,dR];refine⟨?_,k[a]'O_,l a,(shares b 4)[a]'O_,j.filter (atP f a),Gs[a]'y,d.brm.nod a n O_,Dp (d.many.o a O_ O_),Dp (d.brc.o a n),?_,a0,R a n O_ y⟩
  ·rw[d.brm.key a n O_,a0.head];rfl
  ·rw[<-b1,<-Kn];rfl
 ·refine xO.2 ⟨Dg v,?_,fun B G n r e=> ?_⟩
  ·refine gN.2 ⟨fun a3 J=> ?_,?_⟩
   ·obtain⟨a,I,rfl⟩:=xL.1 J;have A:a<f.length:=qY.1 I;have y:a<Gs.length:=O_;rw[R a A O_ y];have b9:=d.brm.low _ (yA A);refine yV.2 ⟨fun o=> ?_,xO.2 ⟨Dg _,xO.2 ⟨Dg _,Z.1 _ (yA y),fun B G n r e=> ?_⟩,fun B G n r e=> ?_⟩⟩
    ·rcases xE.1 o with o|o
     ·have:=d.old _ (yA _) _ (Aj.1 o);omega
     ·rcases xE.1 o with o|o
      ·exact S a a A A _ rfl (Aj.1 o)
      ·have:=M _ (H a y _ o);omega
    ·have b4:=(xF (d.brc.o a A) B (Aj.1 G)).1;have c0:=M n (H a y n r);omega
    ·have b4:=d.old _ (yA _) B (Aj.1 G);have c1:=(d.many.lt (yA _) B (Aj.1 G)).1;rcases xE.1 r with r|r
     ·have:=(xF (d.brc.o a A) n (Aj.1 r)).1;omega
     ·have:=M n (H a y n r);omega
   ·refine wK.2 fun t a n p W x q s L e=> ?_
    have N:t<f.length:=(by simpa using n);have O:a<f.length:=(by simpa using p);simp only[vR,dR]at q L;subst e;rcases D t O_ x q with⟨F,p,u⟩|⟨F,p,u,a4⟩|⟨p,u⟩|⟨p,u⟩
    ·rcases D a O_ x L with⟨C,n,s⟩|⟨C,n,s,U⟩|⟨n,s⟩|⟨n,s⟩
     ·have:=wK.1 d.brm.inc t a (by simpa using N) (by simpa using O) W;simp only[vR]at this;omega
     ·omega
     ·exact S t a N O x p n
     ·omega
    ·rcases D a O_ x L with⟨C,n,s⟩|⟨C,n,s,U⟩|⟨n,s⟩|⟨n,s⟩
     ·omega
     ·exact(wK.1 d.many.a t a F C W) x p n
     ·omega
     ·omega
    ·rcases D a O_ x L with⟨C,n,s⟩|⟨C,n,s,U⟩|⟨n,s⟩|⟨n,s⟩
     ·exact S a t O N x n p
     ·omega
     ·exact d.brc.a t a N O O_ x p n
     ·omega
    ·rcases D a O_ x L with⟨C,n,s⟩|⟨C,n,s,U⟩|⟨n,s⟩|⟨n,s⟩
     ·omega
     ·omega
     ·omega
     ·exact(wK.1 Z.2 t a O_ O_ W) x p x n rfl
  ·subst e;have t:=Aj.1 G;have L:=d.pv B t;obtain⟨a3,J,G⟩:=kV.1 r;obtain⟨a,I,rfl⟩:=xL.1 J;have A:a<f.length:=qY.1 I;rcases D a O_ B G with⟨F,p,u⟩|⟨F,p,u,a4⟩|⟨p,u⟩|⟨p,u⟩
   ·exact Bg (d.brm.nod a F O_) d.row Do (by rw[<-p];exact t)
   ·omega
   ·exact Dq d.row (d.brc.o a A) Do B t p
   ·omega
 ·obtain⟨a3,J,G⟩:=kV.1 V;obtain⟨a,I,rfl⟩:=xL.1 J;have A:a<f.length:=qY.1 I;rcases D a O_ z G with⟨F,p,u⟩|⟨F,p,u,a4⟩|⟨p,u⟩|⟨p,u⟩
  ·exact .inr O_
  ·exact .inr u
  ·exact .inr O_
  ·exact .inl (H a O_ z p)
