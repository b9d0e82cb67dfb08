import Derived.Test.YtolgpnaoaodepaaGreatLawTHm
set_option maxHeartbeats 1000000
set_option maxRecDepth 20000
namespace Go.Proofs.YtolgpnaoaodepaaGreat
open Go.RowKit Ld
variable {a b c:Nat}{f:Nat->Prop}{g v:Value}{i:List (Nat×hF)}{w d:World}{k:TypeId}{j:Type}
theorem Ahe(a:World)(v:Value)(b:gY)(h:Ap 0 a v b)(I:b.length<=1000000)(f:TypeId):∃d c,(Builtin.append_ #[30,30] f #[Z_,v]).run Tryz.prog a=.ok d c/\Ap a.heap.size c d b/\a.grownBy c none:=by
 obtain⟨g,i,m,n,o⟩:=zB Cg;have c:a.ownsRow a.heap.size 51 2 Z_ 0 []:=yP _ _ _ _;have d:a.ownsRow 0 51 2 v b.length (Al b):=h;have k:∀x∈Al b,x.oneCell'=true:=Ur b;rcases d.2 with⟨e,t⟩|⟨u,y,A,e,B,C,D,F,G,H⟩
 ·have l:b=[]:=zT t;subst l;rw[e];exact⟨_,a,fT a a.heap.size 30 f 51 g 2 zC i _ 0 [] c,c,⟨rfl,rfl,rfl,X_,fun _ _ _=>rfl⟩⟩
 ·obtain⟨p,q,r,j,s,_,z⟩:=kY (P:=Tryz.prog) a a.heap.size 30 f 51 g _ 2 32 zC i m n o rfl Do Z_ 0 [] c (Q_ u 0) b.length y (Al b) d.1 (d.cells (by rw[e];rfl)) k (by unfold maxLen;omega) O_ X_;rw[e];refine⟨p,q,r,?_,s⟩;rw[zR,zI]at j;exact j
theorem Aag(h:LW a b c f g i w)(d4:b<=90000000)(b0:c<=900000)(C:Nat×hF)(d5:C∈i):
  Calls Tryz.prog 114 #[A_ a,A_ C.1] w (StQ a b c f w):=by
 obtain⟨x,a1,a2,a3,v,m,a4,j,o⟩:=h.trs.prs C d5;have u:=Aa h;have y:=Aa j;have d6:Hid (∀d∈C.1::x::a1::a2::(a3++blk v),d∈blk g++prB i):=fun d k=>yE _ (Tm d5 (by rw[o];exact k))
 obtain⟨c5,c6⟩:=j.pb.cells;have l:x∉a2::a3:=fun r=>by have:=(yV.1 (yV.1 j.nd).2).1;exact this (by rcases xG.1 r with e|e<;>simp[e])
 have n:=Aa (UT a4 c x a2 a3 w j.st j.tr l b0);have f8:m.length<=900000:=xI (zX j.len) b0;have f9:=h.lt;clear h j o l;go_in;go_wp2_with fail;refine n.o.mono ?_;rintro d1 a9 ⟨f6,A,rfl,j,l,hI⟩;have G:=Aa hI;have g0:A.length<=1800000:=by have:=hI.len;omega
 have I:=Aa (KC c f6 A a9 (Dp j) O_ (hI.ldn y.o.ris y.o.val y.o.len) b0);have b1:=Aa j;have O:=Aa l;obtain⟨a5,a6,rfl⟩:=Ad j;clear j l hI n c5 c6;go_wp2_with fail;refine I.o.mono ?_;rintro d1 W ⟨B,⟨_,f7⟩|⟨d2,d3,q,s,t,rfl,M,N,-,-,H,F,T,U⟩⟩
 ·exact absurd G.o.right f7
 have J:(fun b=>Tr.Av (eff (Au A) d2 d3) b none)=a4:=funext (G.o.all d2 d3 M N).2;rw[J]at F;have p:=O.o.trans (B.mono O.o.size);have R:=O.o.size;have V:=B.size;have j:∀d∈q::s::t,a9.heap.size<=d/\d<W.heap.size:=fun d k=>⟨T d k,(xG.1 k).elim (fun e=>by rw[e];exact H.lt) (F.lt d)⟩
 have o:∀d,(Value.slice a5 A.length a6).ownBlock=some d->w.heap.size<=d/\d<a9.heap.size:=fun d k=>xF b1.o d k
 have d7:Hid (LW a b c (fun d=>f d\/d∈q::s::t) g i W):=u.o.aside p fun d k=>k.imp id fun l=>⟨xI R (j d l).1,(j d l).2⟩
 have n:∀d,(f d\/d∈blk g++prB i)->a<d/\d<w.heap.size:=fun d k=>k.elim (u.o.xs d) fun l=>⟨(u.o.far d l).1,u.o.trs.lt d l⟩
 have L:=Aa (RS a g b (fun d=>((f d\/d∈q::s::t)\/d∈blk g++prB i)\/(Value.slice a5 A.length a6).ownBlock=some d) (fun d=>(f d\/d∈q::s::t)\/d∈blk g++prB i) (L_ a5 A.length a6) A.length (strs A) W
  (u.o.bk.below2 p fun d k=>by
   rcases k with((l|l)|l)|l
   ·exact .inl (.inl l)
   ·exact .inr (xI R (j d l).1)
   ·exact .inl (.inr l)
   ·exact .inr (o d l).1)
  (Ae (Dp b1.o) B X_) O_ O_ (fun d k=>⟨by have:=(o d k).1;omega,.inr k⟩)
  (fun d k=>⟨.inl k,fun l=>by
    have z:=o d l;rcases k with(r|r)|r
    ·have:=(n d (.inl r)).2;omega
    ·have:=(j d r).1;omega
    ·have:=(n d (.inr r)).2;omega,by
    rcases k with(r|r)|r
    ·have:=(n d (.inl r)).2;omega
    ·exact(j d r).2
    ·have:=(n d (.inr r)).2;omega⟩)
  (fun d k=>by
   rcases k with((r|r)|r)|r
   ·exact(n d (.inl r)).1
   ·have:=(j d r).1;omega
   ·exact(n d (.inr r)).1
   ·have:=(o d r).1;omega))
 have D:=Aa p;have d8:=Aa H;have b2:=Aa F;have S:=Aa j;have b3:=Aa U;clear B H F T U p j o n M N J R V I G;go_wp2_with fail;refine L.o.mono ?_;rintro d1 j ⟨rfl,o,p,n⟩;have J:=Aa (LW.owned d7.o (xA _ _) o p n);have b4:=Aa n;clear o p n L;have F:=Aa (y.o.keep (w':=j) fun d k=>(b4.o d (.inr (d6.o d k))).trans (D.o.block d (y.o.lt d k)));have b5:Hid (∀d∈q::s::t,j.heap[d]?=W.heap[d]?):=fun d k=>b4.o d (.inl (.inr k))
 have d9:=Aa J.o.bel.size;have L:Below j.heap.size j (j.alloc (C_ #[Z_] 113)):=(xA _ j).alloc X_ _;have G:(j.alloc (C_ #[Z_] 113)).heap.size=j.heap.size+1:=D_;have b6:Hid (RT (j.alloc (C_ #[Z_] 113)) j.heap.size Z_):=xK _ _;have e0:Hid (PB (j.alloc (C_ #[Z_] 113)) C.1 x a1):=(L.block _ F.o.pb.lt).trans F.o.pb;have e1:Hid (RT (j.alloc (C_ #[Z_] 113)) a1 v):=(L.block _ F.o.rt.lt).trans F.o.rt;have e2:Hid (Ap 0 (j.alloc (C_ #[Z_] 113)) v m):=Ae F.o.row L X_;obtain⟨g7,p,c7,a7,c8⟩:=Ahe (j.alloc (C_ #[Z_] 113)).drew v m e2.o O_ 30;have e3:=Aa c7;have b7:=Aa a7;have X:Below (j.alloc (C_ #[Z_] 113)).heap.size (j.alloc (C_ #[Z_] 113)) p:=(xA _ _).drew.trans ((xA _ _).grown c8 X_ (fun b d4=>by cases d4));have b8:=Aa X;have e4:=Aa L;have g1:=Aa G;have T:RT p j.heap.size Z_:=(X.block _ (by rw[G];omega)).trans b6.o;have g2:=Aa T;obtain⟨g8,g9,rfl⟩:=Ad F.o.row;obtain⟨c5,c6⟩:=e0.o.cells;obtain⟨h1,h2⟩:=b6.o.cells;obtain⟨h3,h4⟩:=e1.o.cells;obtain⟨h5,h6⟩:=T.cells;obtain⟨n,o,rfl⟩:=Ad a7;have b9:=b8.o.size;have B:Below j.heap.size j (p.setCell (Q_ j.heap.size 0) (L_ n m.length o)):=(e4.o.trans (b8.o.mono (by rw[G];omega))).setCell (p:=(Q_ j.heap.size 0)) X_ _;have U:∀d,(Value.slice n m.length o).ownBlock=some d->j.heap.size+1<=d/\d<p.heap.size:=fun d k=>by have z:=xF b7.o d k;have e:(j.alloc (C_ #[Z_] 113)).drew.heap.size=j.heap.size+1:=G;rw[e]at z;exact z
 have c0:(p.setCell (Q_ j.heap.size 0) (L_ n m.length o)).heap.size=p.heap.size:=by simp[World.setCell]
 have e5:Hid (RT (p.setCell (Q_ j.heap.size 0) (L_ n m.length o)) j.heap.size (L_ n m.length o)):=T.set _;have e6:Hid (Ap 0 (p.setCell (Q_ j.heap.size 0) (L_ n m.length o)) (L_ n m.length o) m):=(Mod.setCell p j.heap.size 0 _).row (Dp b7.o) fun d k e=>by have z:=(U d k).1;have Y:d=j.heap.size:=e;omega
 have e7:=d9.o;have Z:∀d∈q::j.heap.size::s::(t++blk (L_ n m.length o)),(d∈q::s::t)\/(j.heap.size<=d/\d<(p.setCell (Q_ j.heap.size 0) (L_ n m.length o)).heap.size):=fun d k=>by
  rw[c0];rcases xG.1 k with e|k
  ·exact .inl (by simp[e])
  ·rcases xG.1 k with e|k
   ·exact .inr ⟨O_,by rw[G]at b9;omega⟩
   ·rcases xG.1 k with e|k
    ·exact .inl (by simp[e])
    ·rcases xE.1 k with l|l
     ·exact .inl (by simp[l])
     ·have:=U d (Aj.1 l);exact .inr ⟨O_,this.2⟩
 have H:Hid (LW a (b+4) c (fun d=>f d\/d∈q::j.heap.size::s::(t++blk (L_ n m.length o))) g i (p.setCell (Q_ j.heap.size 0) (L_ n m.length o))):=J.o.lw.aside B fun d k=>by
  rcases k with l|l
  ·exact .inl (.inl l)
  ·exact(Z d l).imp .inr id
 have e8:Hid (ST (p.setCell (Q_ j.heap.size 0) (L_ n m.length o)) q s):=((B.block q (by have:=(S.o q D_).2;omega)).trans (b5.o q D_)).trans d8.o;have e9:Hid (Eh a4 c s t (p.setCell (Q_ j.heap.size 0) (L_ n m.length o))):=b2.o.keep fun d k=>(B.block d (by have:=(S.o d (xZ _ k)).2;omega)).trans (b5.o d (xZ _ k))
 have c1:(q::j.heap.size::s::(t++blk (L_ n m.length o))).Nodup:=by
  obtain⟨f4,f5⟩:=b2.o.nds;have I:∀d∈q::s::t,d<j.heap.size:=fun d k=>by have:=(S.o d k).2;omega
  have V:∀d∈blk (L_ n m.length o),j.heap.size+1<=d:=fun d k=>(U d (Aj.1 k)).1
  refine yV.2 ⟨fun l=> ?_,yV.2 ⟨fun l=> ?_,yV.2 ⟨fun l=> ?_,xO.2 ⟨f4,Dg _,fun N M a0 a8 e=> ?_⟩⟩⟩⟩
  ·rcases xG.1 l with e|l
   ·have:=I q D_;omega
   ·rcases xG.1 l with e|l
    ·exact b3.o (by rw[e];simp)
    ·rcases xE.1 l with l|l
     ·exact b3.o (by simp[l])
     ·have:=I q D_;have:=V q l;omega
  ·rcases xG.1 l with e|l
   ·have:=I s D_;omega
   ·rcases xE.1 l with l|l
    ·have:=I j.heap.size (by simp[l]);omega
    ·have:=V _ l;omega
  ·rcases xE.1 l with l|l
   ·exact f5 l
   ·have:=I s D_;have:=V s l;omega
  ·have z:=I N (by simp[M]);have Y:=V a0 a8;omega
 have c2:∀d∈q::j.heap.size::s::(t++blk (L_ n m.length o)),¬f d:=fun d k N=>by
  have z:=(u.o.xs d N).2;have Y:=O.o.size;have g3:=D.o.size;rcases Z d k with l|l
  ·have:=(S.o d l).1;omega
  ·omega
 have f0:=Aa (fun N a8=>LW.add (w3:=(p.setCell (Q_ j.heap.size 0) (L_ n m.length o)).alloc (C_ #[A_ q,A_ j.heap.size] 117)) (w4:=N) (vl':=a8) H.o e8.o e9.o e5.o e6.o y.o.ris y.o.val (zX y.o.len) y.o.v16 c1 c2 rfl);have a0:Below (p.setCell (Q_ j.heap.size 0) (L_ n m.length o)).heap.size (p.setCell (Q_ j.heap.size 0) (L_ n m.length o)) ((p.setCell (Q_ j.heap.size 0) (L_ n m.length o)).alloc (C_ #[A_ q,A_ j.heap.size] 117)):=(xA _ _).alloc X_ _;have f1:Hid (((p.setCell (Q_ j.heap.size 0) (L_ n m.length o)).alloc (C_ #[A_ q,A_ j.heap.size] 117)).ownsRow 0 84 1 g i.length (i.map fun C=> A_ C.1)):=Ae H.o.trs.row a0 X_;have c3:=(H.o.below a0).cell;obtain⟨h7,h8⟩:=H.o.cell;have g4:=H.o.cnt;have f2:Hid (∀d,g.ownBlock=some d->a<d):=fun d k=>(u.o.far d (yN _ (Aj.2 k))).1
 have f3:((p.setCell (Q_ j.heap.size 0) (L_ n m.length o)).alloc (C_ #[A_ q,A_ j.heap.size] 117)).heap.size=(p.setCell (Q_ j.heap.size 0) (L_ n m.length o)).heap.size+1:=D_;have g5:=H.o.lt;have g6:=Aa B;have c4:Hid (Below a w (p.setCell (Q_ j.heap.size 0) (L_ n m.length o))/\∀d,f d->(p.setCell (Q_ j.heap.size 0) (L_ n m.length o)).heap[d]?=w.heap[d]?):=by refine⟨((D.o.mono O_).trans J.o.bel).trans (B.mono (by have:=J.o.bel.size;have:=D.o.size;omega)),fun d k=> ?_⟩;have z:=(u.o.xs d k).2;have Y:=D.o.size;exact((B.block d O_).trans (J.o.same d (.inl k))).trans (D.o.block d z)
 obtain⟨c9,d0,rfl⟩:=Ad u.o.trs.row;clear c7 a7 c8 X L G T b9 B U c0 e7 Z c1 c2 a0;go_upto_region 7 with fail
 go_region_law (refine Qc _ (by rfl) (.tmp 36) (.tmp 43) _ _ (by rfl) _ _ U_ U_ _ _ e3.o ?_)
 all_goals
  go_upto_region 8 with fail;generalize p.setCell (Q_ j.heap.size 0) (L_ n m.length o)=U at*;go_wp2_with (at_builtin;refine Ix (U.alloc (C_ #[A_ q,A_ j.heap.size] 117)) rfl (.tmp 51) (.tmp 56) 67 84 Tryz.underlying67 _ 1 8 XC rfl Do Do rfl 0 (L_ c9 i.length d0) i.length _ rfl f1.o [A_ U.heap.size] rfl (by intro c2 L;simp at L;rw[L];rfl) U_ O_ Y_ ?_;intro a0 N B G T;have X:=Aa (f0.o N a0 B G T);have Z:N.cell? (Q_ a 0)=some (L_ c9 i.length d0)/\N.frozen? (Q_ a 0)=false:=GP c3 (by rw[f3];omega) G (fun e=>by have:=f2.o a e;omega);obtain⟨a7,R⟩:=Z;obtain⟨b9,c0,c1,rfl⟩:=Fo B;clear B G T c3);go_ret;have M:=X.o;obtain⟨a8,G,B⟩:=M.lw;exact⟨rfl,⟨a8,_,B⟩,c4.o.1.trans M.bel,fun d k=>(M.same d k).trans (c4.o.2 d k)⟩
theorem NA(h:d.heap[a]?=w.heap[a]?)(b:Nat):d.cell? (Q_ a b)=w.cell? (Q_ a b):=by simp only[World.cell?,h]
theorem KJ(b:Int)(c:Nat)(d:0<c):∃a:Nat,a<c/\∀w,Calls Tryz.prog 55 #[J_ b,J_ (c:Nat)] w fun f g=>f=R_ (J_ (a:Nat))/\g=w:=by
 by_cases f:b<0
 ·refine⟨0,d,fun w=> ?_⟩;go_enter Tryz.func55,fK;go_wp2_with fail;go_ret;exact⟨rfl,rfl⟩
 ·by_cases g:(c:Int)<=b
  ·refine⟨0,d,fun w=> ?_⟩;go_enter Tryz.func55,fK;go_wp2_with fail;go_ret;exact⟨rfl,rfl⟩
  ·obtain⟨a,rfl⟩:=Int.eq_ofNat_of_zero_le (by omega:0<=b);refine⟨a,O_,fun w=> ?_⟩;go_enter Tryz.func55,fK;go_wp2_with fail;go_ret;exact⟨rfl,rfl⟩
theorem HX(h:LW a b c f g i w)(b5:b<=90000000)(b6:c+1<=900000)(k:Int)(C:k=8\/k=9\/k=10)(l:Int)(m n:hJ)(o p q r s:Value)(t:Int)(u y:hJ)(z:Value):
  Calls Tryz.prog 28 #[A_ a,.agg #[J_ k,J_ l,B_ m,B_ n,o,p,q,r,s,J_ t,B_ u,B_ y,z]] w (StQ a b c f w):=by
 have I:Below w.heap.size w (w.alloc (C_ #[J_ k,J_ l,B_ m,B_ n,o,p,q,r,s,J_ t,B_ u,B_ y,z] 81)):=(xA _ w).alloc X_ _;have J:OpB (w.alloc (C_ #[J_ k,J_ l,B_ m,B_ n,o,p,q,r,s,J_ t,B_ u,B_ y,z] 81)) w.heap.size k l m n o p q r s t u y z:=xK _ _;have U:=Aa h;have R:=Aa I;have F:=h.below I;have b7:=h.cnt;have S:LW a b c (fun j=>f j\/j=w.heap.size) g i (w.alloc (C_ #[J_ k,J_ l,B_ m,B_ n,o,p,q,r,s,J_ t,B_ u,B_ y,z] 81)):=h.aside I fun j G=>G.imp id fun M=>⟨O_,K_⟩
 have T:Hid (∀H∈i,∀A,A.heap=(w.alloc (C_ #[J_ k,J_ l,B_ m,B_ n,o,p,q,r,s,J_ t,B_ u,B_ y,z] 81)).heap->Below w.heap.size w A->LW a b c (fun j=>f j\/j=w.heap.size) g i A->Calls Tryz.prog 54 #[A_ a,A_ H.1,.agg #[J_ k,J_ l,B_ m,B_ n,o,p,q,r,s,J_ t,B_ u,B_ y,z]] A fun D d=>StQ a b c f w D d/\d.cell? (Q_ a 0)=some g/\(∀j∈blk g,d.heap[j]?=A.heap[j]?)/\OpB d w.heap.size k l m n o p q r s t u y z):=fun H N A V W O=>by
  have L:∀D d,(StQ a b c (fun j=>f j\/j=w.heap.size) A D d/\d.cell? (Q_ a 0)=some g/\∀j∈blk g,d.heap[j]?=A.heap[j]?)->StQ a b c f w D d/\d.cell? (Q_ a 0)=some g/\(∀j∈blk g,d.heap[j]?=A.heap[j]?)/\OpB d w.heap.size k l m n o p q r s t u y z:=fun D d B=>by obtain⟨B,a6,a7⟩:=B;obtain⟨a8,a9,b0⟩:=B.lw;refine⟨StQ.box h W ⟨B.ret,⟨a8,a9,b0.less fun _ G=> .inl G⟩,B.bel,fun j G=>B.same j (.inl G)⟩,a6,a7,?_⟩;have e:=B.same w.heap.size (.inr rfl);rw[V]at e;exact e.trans J
  rcases C with rfl|rfl|rfl
  ·exact(HV O b6 H N l m n o p q r s t u y z).mono L
  ·exact(MY O O_ H N l m n o p q r s t u y z).mono L
  ·exact(HW O b5 O_ H N l m n o p q r s t u y z).mono L
 obtain⟨b1,c1⟩:=F.cell;have b8:=F.lt;have N:(k==1)=false:=by rcases C with rfl|rfl|rfl<;>rfl
 have O:(k==2)=false:=by rcases C with rfl|rfl|rfl<;>rfl
 have V:decide (3<=k)=true:=by rcases C with rfl|rfl|rfl<;>rfl
 have W:decide (k<=6)=false:=by rcases C with rfl|rfl|rfl<;>rfl
 have X:(k==7)=false:=by rcases C with rfl|rfl|rfl<;>rfl
 have Y:(k==11)=false:=by rcases C with rfl|rfl|rfl<;>rfl
 have Z:decide (8<=k)=true:=by rcases C with rfl|rfl|rfl<;>rfl
 have a0:decide (k<=12)=true:=by rcases C with rfl|rfl|rfl<;>rfl
 obtain⟨c2,b2,rfl⟩:=Ad F.trs.row;clear h I C;go_enter bZ,cF;by_cases b4:i.length=0
 ·rw[b4]at b1;go_wp2_with fail
  all_goals
   go_ret;exact StQ.of_below U.o R.o
 ·have a1:0<i.length:=O_;go_upto_region 12 with fail;generalize w.alloc (C_ #[J_ k,J_ l,B_ m,B_ n,o,p,q,r,s,J_ t,B_ u,B_ y,z] 81)=I at*;obtain⟨C,G,H⟩:=KJ l i.length a1;obtain⟨j,c3,e,c4,b3⟩:=Vm F.trs C G;simp only[xJ]at e;obtain⟨rfl,-,rfl⟩:=e;obtain⟨c5,c6,c7,c8,c9,d0,d1,d2,d3,d4,d5,d6,d7⟩:=J.cells;have a2:=Aa (T.o (i[C]'G) (yA G));have a3:=Aa S;have a4:=Aa b3;generalize(i[C]'G).1=M at*;have b9:(0:Int)<=(C:Int):=O_;have c0:(C:Int)<(i.length:Int):=O_;have a5:Hid (∀A,Calls Tryz.prog 55 #[J_ l,J_ (i.length:Nat)] A fun D d=>D=R_ (J_ (C:Nat))/\d=A):=H;clear H J F S T N O V W X Y Z a0
  go_region_held3 (fun d=>d.cell? (Q_ a 0)=some (L_ (P_ j) i.length b2)/\d.cell? (Q_ w.heap.size 0)=some (J_ k)/\d.cell? (Q_ w.heap.size 1)=some (J_ l)/\d.cell? (Q_ w.heap.size 2)=some (B_ m)/\d.cell? (Q_ w.heap.size 3)=some (B_ n)/\d.cell? (Q_ w.heap.size 4)=some o/\d.cell? (Q_ w.heap.size 5)=some p/\d.cell? (Q_ w.heap.size 6)=some q/\d.cell? (Q_ w.heap.size 7)=some r/\d.cell? (Q_ w.heap.size 8)=some s/\d.cell? (Q_ w.heap.size 9)=some (J_ t)/\d.cell? (Q_ w.heap.size 10)=some (B_ u)/\d.cell? (Q_ w.heap.size 11)=some (B_ y)/\d.cell? (Q_ w.heap.size 12)=some z/\d.cell? (Q_ j C)=some (A_ M)) (go_keep)
   (first
    | (go_at_call 55;refine(a5.o _).mono ?_;rintro D d ⟨rfl,rfl⟩)
    | (go_at_call 54;refine(a2.o I.drew rfl R.o.drew (a3.o.below (xA _ I).drew)).mono ?_;rintro D J ⟨B,e2,A,F⟩;have N:J.cell? (Q_ j C)=some (A_ M):=(NA (A j (Aj.2 rfl)) C).trans a4.o;obtain⟨O,S,T,V,W,X,Y,Z,a0,d8,d9,e0,e1⟩:=F.cells;have H:=Aa B;obtain rfl:=B.ret;clear B F A))
  all_goals
   go_wp2_with fail;go_ret;exact H.o
theorem GR(h:LW a b c f g i w)(D:b<=90000000)(F:c<=900000)(j:Nat×hF)(k:j∈i)(l:Int)(m n:hJ)(o p q r s:Value)(t:Int)(u y:hJ)(z:Value):
  Calls Tryz.prog 54 #[A_ a,A_ j.1,.agg #[J_ 12,J_ l,B_ m,B_ n,o,p,q,r,s,J_ t,B_ u,B_ y,z]] w (StQ a b c f w):=by
 have d:Below w.heap.size w (w.alloc (C_ #[J_ 12,J_ l,B_ m,B_ n,o,p,q,r,s,J_ t,B_ u,B_ y,z] 81)):=(xA _ w).alloc X_ _;have A:=Aa h;have B:=Aa d;have C:=Aa (Aag (h.below d) D F j k);clear h d k;go_enter cC,cG;go_wp2_with fail;refine C.o.mono ?_;rintro G H d;have k:=Aa (StQ.box A.o B.o d);obtain rfl:=d.ret;clear d;go_wp2_with fail;go_ret;exact k.o
theorem HY(h:LW a b c f g i w)(c1:b<=90000000)(c2:c<=900000)(n:Int)(o p:hJ)(q r s t u:Value)(y:Int)(z A:hJ)(B:Value):
  Calls Tryz.prog 28 #[A_ a,.agg #[J_ 12,J_ n,B_ o,B_ p,q,r,s,t,u,J_ y,B_ z,B_ A,B]] w (StQ a b c f w):=by
 have H:Below w.heap.size w (w.alloc (C_ #[J_ 12,J_ n,B_ o,B_ p,q,r,s,t,u,J_ y,B_ z,B_ A,B] 81)):=(xA _ w).alloc X_ _;have N:OpB (w.alloc (C_ #[J_ 12,J_ n,B_ o,B_ p,q,r,s,t,u,J_ y,B_ z,B_ A,B] 81)) w.heap.size 12 n o p q r s t u y z A B:=xK _ _;have b1:=Aa h;have b2:=Aa H;have I:=h.below H;have c3:=h.cnt;have T:LW a b c (fun F=>f F\/F=w.heap.size) g i (w.alloc (C_ #[J_ 12,J_ n,B_ o,B_ p,q,r,s,t,u,J_ y,B_ z,B_ A,B] 81)).drew:=h.aside H.drew fun F L=>L.imp id fun b8=>⟨O_,by show F<(w.alloc (C_ #[J_ 12,J_ n,B_ o,B_ p,q,r,s,t,u,J_ y,B_ z,B_ A,B] 81)).heap.size;simp;omega⟩
 have U:Hid (∀S∈i,Calls Tryz.prog 54 #[A_ a,A_ S.1,.agg #[J_ 12,J_ n,B_ o,B_ p,q,r,s,t,u,J_ y,B_ z,B_ A,B]] (w.alloc (C_ #[J_ 12,J_ n,B_ o,B_ p,q,r,s,t,u,J_ y,B_ z,B_ A,B] 81)).drew fun C k=>StQ a b c f w C k/\OpB k w.heap.size 12 n o p q r s t u y z A B):=fun S b9=>
  (GR T c1 c2 S b9 n o p q r s t u y z A B).mono fun C k l=>by obtain⟨b4,b5,b6⟩:=l.lw;exact⟨StQ.box h H.drew ⟨l.ret,⟨b4,b5,b6.less fun _ L=> .inl L⟩,l.bel,fun F L=>l.same F (.inl L)⟩,(l.same w.heap.size (.inr rfl)).trans N⟩
 obtain⟨b7,c7⟩:=I.cell;have c4:=I.lt;obtain⟨c8,c9,rfl⟩:=Ad I.trs.row;clear h H;go_enter bZ,cF;by_cases c0:i.length=0
 ·rw[c0]at b7;go_wp2_with fail
  all_goals
   go_ret;exact StQ.of_below b1.o b2.o
 ·have b3:0<i.length:=O_;go_upto_region 12 with fail;generalize w.alloc (C_ #[J_ 12,J_ n,B_ o,B_ p,q,r,s,t,u,J_ y,B_ z,B_ A,B] 81)=e6 at*;obtain⟨G,M,V⟩:=KJ n i.length b3;obtain⟨F,d0,e,d1,d2⟩:=Vm I.trs G M;simp only[xJ]at e;obtain⟨rfl,-,rfl⟩:=e;obtain⟨d3,d4,d5,d6,d7,d8,d9,e0,e1,e2,e3,e4,e5⟩:=N.cells;have O:=Aa (U.o (i[G]'M) (yA M));generalize(i[G]'M).1=b8 at*;have c5:(0:Int)<=(G:Int):=O_;have c6:(G:Int)<(i.length:Int):=O_;have R:Hid (∀b0,Calls Tryz.prog 55 #[J_ n,J_ (i.length:Nat)] b0 fun C k=>C=R_ (J_ (G:Nat))/\k=b0):=V;clear V N I T U;refine wp_region_held_drew (S:=(fun k:World=>k.cell? (Q_ w.heap.size 0)=some (J_ 12)/\k.cell? (Q_ w.heap.size 1)=some (J_ n)/\k.cell? (Q_ w.heap.size 2)=some (B_ o)/\k.cell? (Q_ w.heap.size 3)=some (B_ p)/\k.cell? (Q_ w.heap.size 4)=some q/\k.cell? (Q_ w.heap.size 5)=some r/\k.cell? (Q_ w.heap.size 6)=some s/\k.cell? (Q_ w.heap.size 7)=some t/\k.cell? (Q_ w.heap.size 8)=some u/\k.cell? (Q_ w.heap.size 9)=some (J_ y)/\k.cell? (Q_ w.heap.size 10)=some (B_ z)/\k.cell? (Q_ w.heap.size 11)=some (B_ A)/\k.cell? (Q_ w.heap.size 12)=some B)) S_ (by go_keep) (fun m=> ?_);refine zL (i:=0) (oi:=?coi1) (v:=?cv1) ?cop1 S_ S_ S_ ?cq1 (Or.inl ⟨?cg1,?cy1⟩) V_ ?cr1
  case cop1=>simp only[yJ,yI];rfl
  case cq1=>exact fun _ _ _ h=>h
  case cg1=>rfl
  case cy1=>intro w j;(try dsimp only at j);go_simp;try(with_reducible rfl)
  simp only[Act.put,zH,zF,zE];refine zL (i:=1) (oi:=?coi2) (v:=?cv2) ?cop2 S_ S_ S_ ?cq2 (Or.inl ⟨?cg2,?cy2⟩) V_ ?cr2
  case cop2=>simp only[yJ,yI,yH];rfl
  case cq2=>exact fun _ _ _ h=>h
  case cg2=>rfl
  case cy2=>intro w j;(try dsimp only at j);go_simp;try(with_reducible rfl)
  simp only[Act.put,zH,zF,zE];refine zL (i:=2) (oi:=?coi3) (v:=?cv3) ?cop3 S_ S_ S_ ?cq3 (Or.inl ⟨?cg3,?cy3⟩) V_ ?cr3
  case cop3=>simp only[yJ,yI,yH];rfl
  case cq3=>exact fun _ _ _ h=>h
  case cg3=>rfl
  case cy3=>intro w j;(try dsimp only at j);go_simp;try(with_reducible rfl)
  simp only[Act.put,zH,zF,zE];refine zL (i:=3) (oi:=?coi4) (v:=?cv4) ?cop4 S_ S_ S_ ?cq4 (Or.inl ⟨?cg4,?cy4⟩) V_ ?cr4
  case cop4=>simp only[yJ,yI,yH];rfl
  case cq4=>exact fun _ _ _ h=>h
  case cg4=>rfl
  case cy4=>intro w j;(try dsimp only at j);go_simp;try(with_reducible rfl)
  simp only[Act.put,zH,zF,zE];refine zL (i:=5) (oi:=?coi5) (v:=?cv5) ?cop5 S_ S_ S_ ?cq5 (Or.inl ⟨?cg5,?cy5⟩) V_ ?cr5
  case cop5=>simp only[yJ,yI,yH];rfl
  case cq5=>exact fun _ _ _ h=>h
  case cg5=>rfl
  case cy5=>intro w j;(try dsimp only at j);go_simp;try(with_reducible rfl)
  simp only[Act.put,zH,zF,zE];refine zL (i:=6) (oi:=?coi6) (v:=?cv6) ?cop6 S_ S_ S_ ?cq6 (Or.inl ⟨?cg6,?cy6⟩) V_ ?cr6
  case cop6=>simp only[yJ,yI,yH];rfl
  case cq6=>exact fun _ _ _ h=>h
  case cg6=>rfl
  case cy6=>intro w j;(try dsimp only at j);go_simp;try(with_reducible rfl)
  simp only[Act.put,zH,zF,zE];refine zL (i:=7) (oi:=?coi7) (v:=?cv7) ?cop7 S_ S_ S_ ?cq7 (Or.inl ⟨?cg7,?cy7⟩) V_ ?cr7
  case cop7=>simp only[yJ,yI,yH];rfl
  case cq7=>exact fun _ _ _ h=>h
  case cg7=>rfl
  case cy7=>intro w j;(try dsimp only at j);go_simp;try(with_reducible rfl)
  simp only[Act.put,zH,zF,zE];refine zL (i:=8) (oi:=?coi8) (v:=?cv8) ?cop8 S_ S_ S_ ?cq8 (Or.inl ⟨?cg8,?cy8⟩) V_ ?cr8
  case cop8=>simp only[yJ,yI,yH];rfl
  case cq8=>exact fun _ _ _ h=>h
  case cg8=>rfl
  case cy8=>intro w j;(try dsimp only at j);go_simp;try(with_reducible rfl)
  simp only[Act.put,zH,zF,zE];refine zL (i:=9) (oi:=?coi9) (v:=?cv9) ?cop9 S_ S_ S_ ?cq9 (Or.inl ⟨?cg9,?cy9⟩) V_ ?cr9
  case cop9=>simp only[yJ,yI,yH];rfl
  case cq9=>exact fun _ _ _ h=>h
  case cg9=>rfl
  case cy9=>intro w j;(try dsimp only at j);go_simp;try(with_reducible rfl)
  simp only[Act.put,zH,zF,zE];refine zL (i:=15) (oi:=?coi10) (v:=?cv10) ?cop10 S_ S_ S_ ?cq10 (Or.inl ⟨?cg10,?cy10⟩) V_ ?cr10
  case cop10=>simp only[yJ,yI,yH];rfl
  case cq10=>exact fun _ _ _ h=>h
  case cg10=>rfl
  case cy10=>intro w j;(try dsimp only at j);go_simp;try(with_reducible rfl)
  simp only[Act.put,zH,zF,zE];refine jE (rs:=[4,10]) S_ D_ (zS (o:=?coi11) ?cop11 (fun K d=> ?csA11) (zS (o:=?coj11) ?coq11 (fun K d=> ?csB11) jD))
  case cop11=>simp only[yJ,yI,yH];rfl
  case coq11=>simp only[yJ,yI,yH];rfl
  case csA11=>
   go_simp;refine d.out _ _ (by go_keep) (fun m=> ?_);clear d K;refine jE (rs:=[10]) S_ D_ (zS (o:=?coi12) ?cop12 (fun K d=> ?cs12) jD)
   case cop12=>simp only[yJ,yI,yH];rfl
   go_simp;refine d.out _ _ (by go_keep) (fun m=> ?_);clear d K;refine zL (i:=11) (oi:=?coi13) (v:=?cv13) ?cop13 S_ S_ S_ ?cq13 (Or.inl ⟨?cg13,?cy13⟩) V_ ?cr13
   case cop13=>simp only[yJ,yI,yH];rfl
   case cq13=>exact fun _ _ _ h=>h
   case cg13=>rfl
   case cy13=>intro w j;(try dsimp only at j);go_simp;try(with_reducible rfl)
   simp only[Act.put,zH,zF,zE];refine jE (rs:=[12]) S_ D_ (zS (o:=?coi14) ?cop14 (fun K d=> ?cs14) jD)
   case cop14=>simp only[yJ,yI,yH];rfl
   go_simp
   go_at_call 55
   refine(R.o _).mono ?_;rintro C k ⟨rfl,rfl⟩
   try go_simp
   refine d.out _ _ (by go_keep) (fun m=> ?_);clear d K;refine zL (i:=13) (oi:=?coi15) (v:=?cv15) ?cop15 S_ S_ S_ ?cq15 (Or.inl ⟨?cg15,?cy15⟩) V_ ?cr15
   case cop15=>simp only[yJ,yI,yH];rfl
   case cq15=>exact fun _ _ _ h=>h
   case cg15=>rfl
   case cy15=>intro w j;(try dsimp only at j);go_simp;try(with_reducible rfl)
   simp only[Act.put,zH,zF,zE];refine jE (rs:=[14]) S_ D_ (zS (o:=?coi16) ?cop16 (fun K d=> ?cs16) jD)
   case cop16=>simp only[yJ,yI,yH];rfl
   go_simp;refine d.out _ _ (by go_keep) (fun m=> ?_);clear d K;refine jE (rs:=[16]) S_ D_ (zS (o:=?coi17) ?cop17 (fun K d=> ?cs17) jD)
   case cop17=>simp only[yJ,yI,yH];rfl
   go_simp
   go_at_call 54
   refine O.o.mono ?_;rintro C a9 ⟨l,D⟩;obtain⟨W,X,Y,Z,a0,a1,a2,a3,a4,a5,a6,a7,a8⟩:=D.cells;have J:=Aa l;obtain rfl:=l.ret;clear l D
   try go_simp
   refine d.out _ _ (by go_keep) (fun m=> ?_);clear d K;refine jE (rs:=[17]) S_ D_ (zS (o:=?coi18) ?cop18 (fun K d=> ?cs18) jD)
   case cop18=>simp only[yJ,yI,yH];rfl
   go_simp;refine d.out _ _ (by go_keep) (fun m=> ?_);clear d K;refine aR S_ ?_ _;go_wp2_with fail;go_ret;exact J.o
  case csB11=>
   go_simp;refine d.out _ _ (by go_keep) (fun m=> ?_);clear d K;refine zL (i:=11) (oi:=?coi20) (v:=?cv20) ?cop20 S_ S_ S_ ?cq20 (Or.inl ⟨?cg20,?cy20⟩) V_ ?cr20
   case cop20=>simp only[yJ,yI,yH];rfl
   case cq20=>exact fun _ _ _ h=>h
   case cg20=>rfl
   case cy20=>intro w j;(try dsimp only at j);go_simp;try(with_reducible rfl)
   simp only[Act.put,zH,zF,zE];refine jE (rs:=[4,12]) S_ D_ (zS (o:=?coi21) ?cop21 (fun K d=> ?csA21) (zS (o:=?coj21) ?coq21 (fun K d=> ?csB21) jD))
   case cop21=>simp only[yJ,yI,yH];rfl
   case coq21=>simp only[yJ,yI,yH];rfl
   case csA21=>
    go_simp;refine d.out _ _ (by go_keep) (fun m=> ?_);clear d K;refine jE (rs:=[12]) S_ D_ (zS (o:=?coi22) ?cop22 (fun K d=> ?cs22) jD)
    case cop22=>simp only[yJ,yI,yH];rfl
    go_simp
    go_at_call 55
    refine(R.o _).mono ?_;rintro C k ⟨rfl,rfl⟩
    try go_simp
    refine d.out _ _ (by go_keep) (fun m=> ?_);clear d K;refine zL (i:=13) (oi:=?coi23) (v:=?cv23) ?cop23 S_ S_ S_ ?cq23 (Or.inl ⟨?cg23,?cy23⟩) V_ ?cr23
    case cop23=>simp only[yJ,yI,yH];rfl
    case cq23=>exact fun _ _ _ h=>h
    case cg23=>rfl
    case cy23=>intro w j;(try dsimp only at j);go_simp;try(with_reducible rfl)
    simp only[Act.put,zH,zF,zE];refine jE (rs:=[14]) S_ D_ (zS (o:=?coi24) ?cop24 (fun K d=> ?cs24) jD)
    case cop24=>simp only[yJ,yI,yH];rfl
    go_simp;refine d.out _ _ (by go_keep) (fun m=> ?_);clear d K;refine jE (rs:=[16]) S_ D_ (zS (o:=?coi25) ?cop25 (fun K d=> ?cs25) jD)
    case cop25=>simp only[yJ,yI,yH];rfl
    go_simp
    go_at_call 54
    refine O.o.mono ?_;rintro C a9 ⟨l,D⟩;obtain⟨W,X,Y,Z,a0,a1,a2,a3,a4,a5,a6,a7,a8⟩:=D.cells;have J:=Aa l;obtain rfl:=l.ret;clear l D
    try go_simp
    refine d.out _ _ (by go_keep) (fun m=> ?_);clear d K;refine jE (rs:=[17]) S_ D_ (zS (o:=?coi26) ?cop26 (fun K d=> ?cs26) jD)
    case cop26=>simp only[yJ,yI,yH];rfl
    go_simp;refine d.out _ _ (by go_keep) (fun m=> ?_);clear d K;refine aR S_ ?_ _;go_wp2_with fail;go_ret;exact J.o
   case csB21=>
    go_simp
    go_at_call 55
    refine(R.o _).mono ?_;rintro C k ⟨rfl,rfl⟩
    try go_simp
    refine d.out _ _ (by go_keep) (fun m=> ?_);clear d K;refine jE (rs:=[4]) S_ D_ (zS (o:=?coi28) ?cop28 (fun K d=> ?cs28) jD)
    case cop28=>simp only[yJ,yI,yH];rfl
    go_simp;refine d.out _ _ (by go_keep) (fun m=> ?_);clear d K;refine zL (i:=13) (oi:=?coi29) (v:=?cv29) ?cop29 S_ S_ S_ ?cq29 (Or.inl ⟨?cg29,?cy29⟩) V_ ?cr29
    case cop29=>simp only[yJ,yI,yH];rfl
    case cq29=>exact fun _ _ _ h=>h
    case cg29=>rfl
    case cy29=>intro w j;(try dsimp only at j);go_simp;try(with_reducible rfl)
    simp only[Act.put,zH,zF,zE];refine jE (rs:=[14]) S_ D_ (zS (o:=?coi30) ?cop30 (fun K d=> ?cs30) jD)
    case cop30=>simp only[yJ,yI,yH];rfl
    go_simp;refine d.out _ _ (by go_keep) (fun m=> ?_);clear d K;refine jE (rs:=[16]) S_ D_ (zS (o:=?coi31) ?cop31 (fun K d=> ?cs31) jD)
    case cop31=>simp only[yJ,yI,yH];rfl
    go_simp
    go_at_call 54
    refine O.o.mono ?_;rintro C a9 ⟨l,D⟩;obtain⟨W,X,Y,Z,a0,a1,a2,a3,a4,a5,a6,a7,a8⟩:=D.cells;have J:=Aa l;obtain rfl:=l.ret;clear l D
    try go_simp
    refine d.out _ _ (by go_keep) (fun m=> ?_);clear d K;refine jE (rs:=[17]) S_ D_ (zS (o:=?coi32) ?cop32 (fun K d=> ?cs32) jD)
    case cop32=>simp only[yJ,yI,yH];rfl
    go_simp;refine d.out _ _ (by go_keep) (fun m=> ?_);clear d K;refine aR S_ ?_ _;go_wp2_with fail;go_ret;exact J.o
theorem HZ{l:Array Value}{m:Nat×Nat}(c:w.alloc (.cells l k m)=d)(f:w.heap.size=a)(b:Nat)(v:Value)(h:l[b]?=some v):d.cell? (Q_ a b)=some v:=by rw[<-c,<-f];have:(w.alloc (.cells l k m)).heap[w.heap.size]?=some (.cells l k m):=xK _ _;simp only[World.cell?,this];exact h
theorem Agg{vl:Value}(h:Wb w a vl Z_ Z_ Z_ Z_ Z_ Z_ Z_ Z_ 0):Bk w a vl 0 (fun _=>False):=by refine⟨fun _=> Z_,0,fun _=>0,h,fun b b=>⟨X_,[],[],⟨rfl,.inl ⟨rfl,rfl⟩⟩,⟨rfl,.inl ⟨rfl,rfl⟩⟩,fun c b b b=>by simp at b⟩,fun c _ _ d b=>by simp[Value.ownBlock]at b,fun c c _ _ _ _ _ d b=>by simp[Value.ownBlock]at b⟩
open Go.ChangeShapes Go.WideShapes Go.ChangeAt Go.Deep
theorem own:ownKnob Tryz.prog.godebug=none:=S_
theorem laidOut:laidOutB Tryz.prog=true:=S_
theorem NB:Tryz.prog.cellsOf 81=13:=S_
theorem RX:Tryz.prog.cellsOf 3=1:=S_
theorem Xw:Tryz.prog.cellsOf 9=1:=S_
theorem KK{d:DataW j}{l:List (DataW j)}(h:d∈l):Rows.uptoBulk d<=Rows.uptoBulkAll l:=by
 induction l with
 | nil=>cases h
 | cons x r ih=>
  simp only[Rows.uptoBulkAll]
  cases xG.1 h with
  | inl e=>subst e;omega
  | inr e=>have:=ih e;omega
theorem Pm(a:DataW j):1<=Rows.uptoBulk a:=by
 cases a with
 | lit l=>cases l<;>simp[Rows.uptoBulk]
 | nil=>simp[Rows.uptoBulk]
 | ptr a=>simp[Rows.uptoBulk]
 | slice elems spare=>simp[Rows.uptoBulk]
 | agg parts=>simp[Rows.uptoBulk]
 | iface t a=>simp[Rows.uptoBulk]
 | map entries=>simp[Rows.uptoBulk]
 | held h=>simp[Rows.uptoBulk]
theorem GS(a:List (DataW j)):a.length<=Rows.uptoBulkAll a:=by
 induction a with
 | nil=>simp[Rows.uptoBulkAll]
 | cons x r ih=>have:=Pm x;simp only[Rows.uptoBulkAll,xH];omega
theorem Adn(h:d.cell? (Q_ a b)=some v):a<d.heap.size:=by
 rcases jX a d.heap.size with c|c
 ·exact c
 ·simp[World.cell?,aV c]at h
theorem XG{α:Type}(P:Nat->α->Prop):∀(n:Nat),(∀a,a<n->∃x,P a x)->∃b:List α,b.length=n/\∀a (h:a<b.length),P a (b[a]'h)
 | 0,_=>⟨[],rfl,fun a h=>absurd h D_⟩
 | n+1,h=>by
  obtain⟨b,c,g⟩:=XG P n fun a d=>h a O_
  obtain⟨x,i⟩:=h n O_;refine⟨b++[x],by simp[c],fun a d=> ?_⟩;by_cases f:a<b.length
  ·rw[vA f];exact g a f
  ·have:a=n:=(by simp at d;omega);subst this;rw[qV O_];simpa[c]using i
theorem Tn(a b c:Nat):((Q_ a b):Addr).add c=(Q_ a (b+c)):=by
 unfold Addr.add;split
 ·rename_i h0;rw[h0];rfl
 ·rfl
theorem Vn{B:TypeId×Value->j}{r:DataW j}{n:List MemPlace}{e:TypeId}(l:Nat)(a3:0<l)(Y:Tryz.prog.underlying k=some (.slice e))(Z:Tryz.prog.cellsOf e=l)(a0:DataW.trod B Tryz.prog d 0 (fun _=>true) true a k [v]=some (r,n))(C:Rows.uptoBulk r<=1048576):
  ∃i c b,v=.slice i c b/\c<=1048576/\(c=0\/∃f g,i=some ⟨f,g,none⟩/\c<=b/\b<=maxLen/\f<d.heap.size/\∀b,b<c->∃c m i o,d.cells? 0 ⟨f,g+b*l,none⟩ l=some c/\DataW.trod B Tryz.prog d 0 (fun _=>true) true m e c=some (i,o)/\Rows.uptoBulk i<=1048576):=by
 rcases open_slice Y a0 with⟨i,_⟩|⟨y,c,R,z,S,f,Pl,i,_,T,U,V,W,p⟩
 ·simp at i;exact⟨none,0,0,i,O_,.inl rfl⟩
 ·simp only[jA,yG]at i;subst i;have D:r=.slice ((List.range c).map f) ((List.range (z-c)).map fun m=>f (c+m)):=yW Prod.fst W;rw[D]at C;simp only[Rows.uptoBulk]at C;have F:∀b,b<c->Rows.uptoBulk (f b)<=1048576:=fun b q=>by
   have:=KK (d:=f b) (l:=(List.range c).map f) (xL.2 ⟨b,qY.2 q,rfl⟩);omega
  have G:=GS ((List.range c).map f);rw[xP,List.length_range]at G;refine⟨some y,c,R,rfl,O_,?_⟩;by_cases X:c=0
  ·exact .inl X
  ·right;have a1:c<=z:=by rw[V];split<;>omega
   obtain⟨o,g,L⟩:=y;rw[Z]at p;obtain⟨s,t,_⟩:=p 0 O_;obtain⟨_,_,M⟩:=cL t;have a2:s.length=l:=(cL t).2.1;have m:=M 0 O_;rw[xW O_]at m;have H:L=none:=(by simpa[Addr.add]using World.cell?_spot m);subst H;have I:o<d.heap.size:=(by have J:d.cell? ⟨o,g,none⟩=some s[0]:=(by simpa[Addr.add]using m);exact Adn J);refine⟨o,g,rfl,T,U,I,fun b q=> ?_⟩;obtain⟨N,u,O⟩:=p b O_;rw[Tn]at u;exact⟨N,S,f b,Pl b,u,O,F b q⟩
theorem GT{p:hH}(h:d.cells? 0 (Q_ a b) c=some p):p.length=c/\∀f,f<c->d.cell? (Q_ a (b+f))=p[f]?:=by
 obtain⟨_,g,i⟩:=cL h;refine⟨g,fun f j=> ?_⟩;have:=i f j
 rwa [Tn]at this
