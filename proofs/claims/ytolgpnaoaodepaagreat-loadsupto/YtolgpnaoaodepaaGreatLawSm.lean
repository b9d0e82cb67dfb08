import Derived.Test.YtolgpnaoaodepaaGreatMathVm
import Derived.Test.YtolgpnaoaodepaaGreatSilAm
set_option maxHeartbeats 1000000
set_option maxRecDepth 4000
namespace Go.Proofs.YtolgpnaoaodepaaGreat
open Go.RowKit Tr
variable {v:Nat->Value}{a p b f x k n:Nat}{d l:Nat->Prop}{w j w':World}{c r s t:Value}{u y:hH}{m:Tr.Key->Option Tr.Key}{i q:hF}{g z:List (Nat×hF)}
def tS:Nat->TypeId|0=>30|1=>77|2=>40|_=>25
def tE:Nat->TypeId|0=>51|1=>34|2=>9|_=>3
def tM:Nat->TypeId|0=>9|1=>9|2=>9|_=>3
def tk:Nat->Value->hH|0=>mkI|1=>mkC|_=>mkT
def tok:Nat->Value->Prop|0=>IQ|1=>IQ|2=>IQ|_=>Afk
def RQ(v:Nat->Value)(b:Nat)(X:Nat->Prop)(w:World):Prop:=(∀i,1<=i->i<=8->∀g,(v i).ownBlock=some g->b<g/\¬X g/\g<w.heap.size)/\∀i j,1<=i->i<=8->1<=j->j<=8->i≠j->Ep (v i) (v j)
def Aa9(v:Nat->Value)(b:Nat)(X:Nat->Prop)(g:Nat):Prop:=g≠b/\¬X g/\∀i,1<=i->i<=8->(v i).ownBlock≠some g
def Bk(w:World)(b:Nat)(vl:Value)(k:Nat)(X:Nat->Prop):Prop:=∃(v:Nat->Value) (nx:Int) (n:Nat->Nat),Wb w b vl (v 1) (v 2) (v 3) (v 4) (v 5) (v 6) (v 7) (v 8) nx/\(∀p,p<4->n p<=k/\Xu (tS p) (tE p) (tM p) (tk p) (tok p) (Aa9 v b X) w (v (2*p+1)) (v (2*p+2)) (n p))/\RQ v b X w
def upd(v:Nat->Value)(p:Nat)(a c:Value)(i:Nat):Value:=if i=2*p+1 then a else if i=2*p+2 then c else v i
theorem WZ(f:RQ v a d w)(j:p<4)(i:∀b,c.ownBlock=some b->a<b/\d b):XZ a c (v (2*p+1)) (v (2*p+2)):=by
 refine⟨fun e=> ?_,fun e=> ?_,fun e=> ?_,fun b e g=> ?_,fun b e g=> ?_,f.2 _ _ O_ O_ O_ O_ O_⟩
 ·have:=(i a e).1;omega
 ·have:=(f.1 _ O_ O_ a e).1;omega
 ·have:=(f.1 _ O_ O_ a e).1;omega
 ·exact(f.1 _ O_ O_ b g).2.1 (i b e).2
 ·exact(f.1 _ O_ O_ b g).2.1 (i b e).2
theorem XA{B:Value}{C:Nat->Nat}{D:Int}(d4:p<4)(d5:b<w.heap.size)(a8:∀p,p<4->C p<=f/\Xu (tS p) (tE p) (tM p) (tk p) (tok p) (Aa9 v b d) w (v (2*p+1)) (v (2*p+2)) (C p))(n:RQ v b d w)(c4:∀(k:Nat) (a6 a7:Value),u[k]?=some a6->y[k]?=some a7->tok p a7/\Dn (tE p) (tk p a7) w a6/\∀g,Gd a6=some g->Aa9 v b d g)(c5:u.length=C p)(c6:y.length=C p)(U:∀g,r.ownBlock=some g->b<g/\d g)(V:∀g,l g->d g/\r.ownBlock≠some g/\g<w.heap.size)(b3:XY w b (tS p) (tE p) (tM p) (tk p B) B r (v (2*p+1)) (v (2*p+2)) (C p) u y s t j)(c7:tok p B)(c8:Wb j b c (upd v p s t 1) (upd v p s t 2) (upd v p s t 3) (upd v p s t 4) (upd v p s t 5) (upd v p s t 6) (upd v p s t 7) (upd v p s t 8) D):Bk j b c (f+4) l:=by
 have b4:=b3;obtain⟨c9,d0,d1,b8,b9,d2,Z,c0,-,-,-,d3,c1⟩:=b3;have b5:∀g,s.ownBlock=some g->((v (2*p+1)).ownBlock=some g\/w.heap.size<=g):=fun g i=>(Z g i).1
 have b6:∀g,t.ownBlock=some g->((v (2*p+2)).ownBlock=some g\/w.heap.size<=g):=fun g i=>(c0 g i).1
 have M:∀k,1<=k->k<=8->∀g,(upd v p s t k).ownBlock=some g->(v k).ownBlock=some g\/w.heap.size<=g:=by
  intro k _ _ g i;unfold upd at i;split at i
  ·next e=>subst e;exact b5 g i
  ·split at i
   ·next e=>subst e;exact b6 g i
   ·exact .inl i
 have a9:∀g,g<w.heap.size->Aa9 v b d g->Aa9 (upd v p s t) b l g:=by
  intro g i ⟨a1,a2,a3⟩;refine⟨a1,fun F=>a2 (V g F).1,fun k o q e=> ?_⟩;rcases M k o q g e with m|m
  ·exact a3 k o q m
  ·omega
 have b7:RQ (upd v p s t) b l j:=by
  constructor
  ·intro k o q g i;have b0:g<j.heap.size:=by
    unfold upd at i;split at i
    ·exact(xF b8 g i).2
    ·split at i
     ·exact(xF b9 g i).2
     ·have:=(n.1 k o q g i).2.2;omega
   rcases M k o q g i with m|m
   ·obtain⟨b1,a0,c2⟩:=n.1 k o q g m;exact⟨b1,fun F=>a0 (V g F).1,b0⟩
   ·exact⟨O_,fun F=>by have:=(V g F).2.2;omega,b0⟩
  ·intro k z W X I J c3 g L A;rcases M k W X g L with a4|a4
   ·rcases M z I J g A with N|N
    ·exact n.2 k z W X I J c3 g a4 N
    ·have:=(n.1 k W X g a4).2.2;omega
   ·rcases M z I J g A with N|N
    ·have:=(n.1 z I J g N).2.2;omega
    ·have Y:∀k,1<=k->k<=8->k≠2*p+1->k≠2*p+2->(upd v p s t k).ownBlock=some g->False:=by
      intro k o q G H i;unfold upd at i;rw[xB G,xB H]at i;have:=(n.1 k o q g i).2.2;omega
     by_cases R:k=2*p+1
     ·subst R;by_cases S:z=2*p+2
      ·subst S;simp[upd]at L A;exact(Z g L).2.2 A
      ·exact Y z I J O_ S A
     ·by_cases T:k=2*p+2
      ·subst T;by_cases S:z=2*p+1
       ·subst S;simp[upd]at L A;exact(Z g A).2.2 L
       ·exact Y z I J S O_ A
      ·exact Y k W X R T L
 refine⟨upd v p s t,D,fun m=>if m=p then C p+4 else C m,c8,fun m a5=> ?_,b7⟩;show(if m=p then C p+4 else C m)<=f+4/\Xu (tS m) (tE m) (tM m) (tk m) (tok m) (Aa9 (upd v p s t) b l) j (upd v p s t (2*m+1)) (upd v p s t (2*m+2)) (if m=p then C p+4 else C m);by_cases b2:m=p
 ·subst b2;refine⟨by rw[xD rfl];have:=(a8 m a5).1;omega,?_⟩;have G:upd v m s t (2*m+1)=s:=by simp[upd]
  have H:upd v m s t (2*m+2)=t:=by simp[upd]
  rw[xD rfl,G,H];refine Aa8 c4 c5 c6 b4 c7 (fun g i O=>⟨O.1,fun e=>O.2.1 (U g e).2,O.2.2 _ O_ O_,O.2.2 _ O_ O_,a9 g i O⟩) (fun g i a1 a2 a3=> ?_);refine⟨a1,fun F=> ?_,fun k o q e=> ?_⟩
  ·rcases i with i|i
   ·exact(V g F).2.1 i
   ·have:=(V g F).2.2;omega
  ·by_cases R:k=2*m+1
   ·subst R;rw[G]at e;exact a2 e
   ·by_cases T:k=2*m+2
    ·subst T;rw[H]at e;exact a3 e
    ·unfold upd at e;rw[xB R,xB T]at e;obtain⟨b1,a0,c2⟩:=n.1 k o q g e;rcases i with i|i
     ·exact a0 (U g i).2
     ·omega
 ·rw[xB b2];refine⟨by have:=(a8 m a5).1;omega,?_⟩;have G:upd v p s t (2*m+1)=v (2*m+1):=by unfold upd;rw[xB O_,xB O_]
  have H:upd v p s t (2*m+2)=v (2*m+2):=by unfold upd;rw[xB O_,xB O_]
  rw[G,H];refine(a8 m a5).2.stay (fun g i h=> ?_) a9;refine c1 g i ?_ ?_ ?_ ?_
  ·rintro rfl;rcases h with h|h|h
   ·have:=(n.1 _ O_ O_ g h).1;omega
   ·have:=(n.1 _ O_ O_ g h).1;omega
   ·exact h.1 rfl
  ·intro e;rcases h with h|h|h
   ·exact(n.1 _ O_ O_ g h).2.1 (U g e).2
   ·exact(n.1 _ O_ O_ g h).2.1 (U g e).2
   ·exact h.2.1 (U g e).2
  ·intro e;rcases h with h|h|h
   ·exact n.2 _ _ O_ O_ O_ O_ O_ g h e
   ·exact n.2 _ _ O_ O_ O_ O_ O_ g h e
   ·exact h.2.2 _ O_ O_ e
  ·intro e;rcases h with h|h|h
   ·exact n.2 _ _ O_ O_ O_ O_ O_ g h e
   ·exact n.2 _ _ O_ O_ O_ O_ O_ g h e
   ·exact h.2.2 _ O_ O_ e
theorem RR{G H I:TypeId}(W:p<4){F:hH}(X:a<w.heap.size)(i:RQ v a d w)(C:∀f,c.ownBlock=some f->a<f/\d f)(D:∀f,l f->d f/\c.ownBlock≠some f/\f<w.heap.size)(J:∀f,d f->a<f)(L:XY w a G H I u t c (v (2*p+1)) (v (2*p+2)) b y F r s j):Below a w j/\∀f,l f->j.heap[f]?=w.heap[f]?:=by
 obtain⟨M,N,O,R,S,T,U,V,m,n,o,q,k⟩:=L;constructor
 ·refine⟨m,n,o,q,fun g z=>k g O_ O_ (fun e=> ?_) (fun e=> ?_) (fun e=> ?_)⟩
  ·have:=(C g e).1;omega
  ·have:=(i.1 _ O_ O_ g e).1;omega
  ·have:=(i.1 _ O_ O_ g e).1;omega
 ·intro f B;obtain⟨g,z,A⟩:=D f B;have:=J f g;exact k f A O_ z (fun e=>(i.1 _ O_ O_ f e).2.1 g) (fun e=>(i.1 _ O_ O_ f e).2.1 g)
theorem RS(b:Nat)(i:Value)(j:Nat)(f k:Nat->Prop)(c:Value)(l:Nat)(s:hH)(w:World)(h:Bk w b i j f)(F:w.ownsRow 0 9 1 c l s)(G:l<=2000000)(N:j<=100000000)(m:∀a,c.ownBlock=some a->b<a/\f a)(t:∀a,k a->f a/\c.ownBlock≠some a/\a<w.heap.size)(H:∀a,f a->b<a):
  Calls Tryz.prog 103 #[.pointer (some (Q_ b 1)),c] w fun q d=>q=R_ (.tuple #[])/\Bk d b i (j+4) k/\Below b w d/\∀a,k a->d.heap[a]?=w.heap[a]?:=by
 obtain⟨v,u,y,a,n,g⟩:=h;obtain⟨I,z,A,o,p,B⟩:=n 2 Do;refine(LH b i (v 1) (v 2) (v 3) (v 4) (v 5) (v 6) (v 7) (v 8) u c l (y 2) s z A w a F o p G O_ (WZ (p:=2) g Do m)).mono ?_;rintro q d ⟨C,J,L,M,rfl,D,r⟩;exact⟨rfl,XA (p:=2) Do a.lt n g B (by simpa using o.1) (by simpa using p.1) m t r ⟨C,rfl⟩ D,RR (p:=2) Do a.lt g m t H r⟩
theorem RU(b:Nat)(i:Value)(j:Nat)(f k:Nat->Prop)(c:Value)(l:Nat)(s:hH)(w:World)(h:Bk w b i j f)(F:w.ownsRow 0 51 2 c l s)(G:l<=2000000)(N:j<=100000000)(m:∀a,c.ownBlock=some a->b<a/\f a)(t:∀a,k a->f a/\c.ownBlock≠some a/\a<w.heap.size)(H:∀a,f a->b<a):
  Calls Tryz.prog 57 #[.pointer (some (Q_ b 1)),c] w fun q d=>q=R_ (.tuple #[])/\Bk d b i (j+4) k/\Below b w d/\∀a,k a->d.heap[a]?=w.heap[a]?:=by
 obtain⟨v,u,y,a,n,g⟩:=h;obtain⟨I,z,A,o,p,B⟩:=n 0 Do;refine(LI b i (v 1) (v 2) (v 3) (v 4) (v 5) (v 6) (v 7) (v 8) u c l (y 0) s z A w a F o p G O_ (WZ (p:=0) g Do m)).mono ?_;rintro q d ⟨C,J,L,M,rfl,D,r⟩;exact⟨rfl,XA (p:=0) Do a.lt n g B (by simpa using o.1) (by simpa using p.1) m t r ⟨C,rfl⟩ D,RR (p:=0) Do a.lt g m t H r⟩
theorem Adl(c:Nat)(d:Value)(f:Nat)(n:Nat->Prop)(w:World)(h:Bk w c d f n)(p:f<=1000000000):
  Calls Tryz.prog 30 #[.pointer (some (Q_ c 1))] w fun a b=>a=R_ (.bool true)/\Below w.heap.size w b:=by
 obtain⟨v,l,a,m,b,o⟩:=h;have g:=b 0 Do;have i:=b 1 Do;have j:=b 2 Do;have k:=b 3 Do;exact YA c d (v 1) (v 2) (v 3) (v 4) (v 5) (v 6) (v 7) (v 8) l (a 0) (a 1) (a 2) (a 3) w m g.2.kept i.2.kept j.2.kept k.2.kept O_ O_ O_ O_
theorem Bk.mono(h:Bk w a c b d)(o:b<=f):Bk w a c f d:=by obtain⟨v,k,l,m,g,n⟩:=h;exact⟨v,k,l,m,fun i j=>⟨xI (g i j).1 o,(g i j).2⟩,n⟩
theorem Bk.below2(h:Bk w a c b d)(n:Below w.heap.size w j)(r:∀f,l f->d f\/w.heap.size<=f):Bk j a c b l:=by
 obtain⟨v,s,t,o,p,q⟩:=h;have B:=n.size;refine⟨v,s,t,o.below n o.lt,fun g i=>⟨(p g i).1,(p g i).2.stay (fun f i _=>n.block f i) (fun f i k=>⟨k.1,fun m=> ?_,k.2.2⟩)⟩,fun y z A f i=> ?_,q.2⟩
 ·rcases r f m with g|g
  ·exact k.2.1 g
  ·omega
 ·obtain⟨k,u,C⟩:=q.1 y z A f i;refine⟨k,fun m=> ?_,O_⟩;rcases r f m with g|g
  ·exact u g
  ·omega
theorem Bk.lt{w:World}{a:Nat}{c:Value}{b:Nat}{d:Nat->Prop}(h:Bk w a c b d):a<w.heap.size:=by obtain⟨v,g,i,f,-⟩:=h;exact f.lt
def PB(w:World)(q x y:Nat):Prop:=w.heap[q]?=some (C_ #[A_ x,A_ y] 117 (0,0))
theorem PB.lt{w:World}{a x b:Nat}(h:PB w a x b):a<w.heap.size:=(xS.1 h).1
theorem PB.cells{w:World}{a x b:Nat}(h:PB w a x b):w.cell? (Q_ a 0)=some (A_ x)/\w.cell? (Q_ a 1)=some (A_ b):=by unfold PB at h;refine⟨?_,?_⟩<;>simp[World.cell?,h]
theorem Eh.mono(h:Eh m a f i w)(d:a<=b):Eh m b f i w:=by obtain⟨h,g,j,k,c⟩:=h;exact⟨h,g,j,xI k (kW _ d),c.tb,c.rep,c.nd,c.nb,c.root.wf,c.root.top,c.root.val,xI c.root.wt (wP 2 d)⟩
structure PrQ(N q x y b:Nat)(F:hF)(v:Value)(il:gY)(V:Tr.Key->Option Tr.Key)(w:World):Prop where
 pb:PB w q x y
 st:ST w x b
 tr:Eh V N b F w
 rt:RT w y v
 row:Ap 0 w v il
 ris:Tr.Cb (Ab il)
 val:∀k,Ce (Ab il) k=V k
 len:il.length<N
 v16:∀z∈il,z.2.size<=16
 nd:(q::x::y::b::(F++blk v)).Nodup
theorem PrQ.lt{a b x f k:Nat}{i:hF}{v:Value}{p:gY}{m:Tr.Key->Option Tr.Key}{w:World}(h:PrQ a b x f k i v p m w):∀d∈b::x::f::k::(i++blk v),d<w.heap.size:=fun d c=>by
 rcases xG.1 c with rfl|c
 ·exact h.pb.lt
 ·rcases xG.1 c with rfl|c
  ·exact h.st.lt
  ·rcases xG.1 c with rfl|c
   ·exact h.rt.lt
   ·rcases xG.1 c with rfl|c
    ·exact h.tr.lt d (xU ..)
    ·rcases xE.1 c with c|c
     ·exact h.tr.lt d (xZ _ c)
     ·exact(xF h.row d (Aj.1 c)).2
theorem PrQ.keep{v:Value}{p:gY}(h:PrQ a b x f k i v p m w)(d:∀c∈b::x::f::k::(i++blk v),w'.heap[c]?=w.heap[c]?):PrQ a b x f k i v p m w':=
 ⟨(d b D_).trans h.pb,(d x D_).trans h.st,h.tr.keep fun c g=>d c (by rcases xG.1 g with e|e<;>simp[e]),(d f D_).trans h.rt,Bx h.row fun c g _=>d c (by simp[Aj.2 g]),h.ris,h.val,h.len,h.v16,h.nd⟩
theorem PrQ.mono{v:Value}{p:gY}(h:PrQ a f x k n i v p m w)(c:a<=b):PrQ b f x k n i v p m w:=
 ⟨h.pb,h.st,h.tr.mono c,h.rt,h.row,h.ris,h.val,yF h.len c,h.v16,h.nd⟩
def PrM(N q:Nat)(G:hF)(w:World):Prop:=∃x y b F v il V,PrQ N q x y b F v il V w/\G=x::y::b::(F++blk v)
theorem PrM.lt{a b:Nat}{i:hF}{w:World}(h:PrM a b i w):∀c∈b::i,c<w.heap.size:=by obtain⟨x,c,d,f,v,g,j,h,rfl⟩:=h;exact h.lt
theorem PrM.keep(h:PrM a b i w)(k:∀c∈b::i,w'.heap[c]?=w.heap[c]?):PrM a b i w':=by obtain⟨x,c,d,f,v,g,j,h,rfl⟩:=h;exact⟨x,c,d,f,v,g,j,h.keep k,rfl⟩
theorem PrM.mono(h:PrM a f i w)(l:a<=b):PrM b f i w:=by obtain⟨x,c,d,g,v,j,k,h,rfl⟩:=h;exact⟨x,c,d,g,v,j,k,h.mono l,rfl⟩
theorem PrM.nd(h:PrM a b i w):(b::i).Nodup:=by obtain⟨x,c,d,f,v,g,j,h,rfl⟩:=h;exact h.nd
def prB(qs:List (Nat×hF)):hF:=qs.flatMap fun p=>p.1::p.2
theorem Ls(b:List (Nat×hF))(a:Nat×hF)(c:List (Nat×hF)):prB (b++a::c)=prB b++((a.1::a.2)++prB c):=by unfold prB;rw[dO,jJ]
theorem Tm{L:Nat×hF}(b:L∈g)(c:a∈L.1::L.2):a∈prB g:=wI.2 ⟨L,b,c⟩
structure Trs(N:Nat)(vl:Value)(qs:List (Nat×hF))(w:World):Prop where
 row:w.ownsRow 0 84 1 vl qs.length (qs.map fun p=> A_ p.1)
 prs:∀p∈qs,PrM N p.1 p.2 w
 nd:(blk vl++prB qs).Nodup
theorem Trs.lt{a:Nat}{c:Value}{g:List (Nat×hF)}{w:World}(h:Trs a c g w):∀d∈blk c++prB g,d<w.heap.size:=fun d b=>by
 rcases xE.1 b with b|b
 ·exact(xF h.row d (Aj.1 b)).2
 ·obtain⟨f,i,b⟩:=wI.1 b;exact(h.prs f i).lt d b
theorem Trs.keep(h:Trs a c g w)(i:∀b∈blk c++prB g,w'.heap[b]?=w.heap[b]?):Trs a c g w':=
 ⟨Bx h.row fun b d _=>i b (yN _ (Aj.2 d)),fun j f=>(h.prs j f).keep fun b d=>i b (yE _ (Tm f d)),h.nd⟩
theorem Trs.mono(h:Trs a c g w)(i:a<=b):Trs b c g w:=⟨h.row,fun d f=>(h.prs d f).mono i,h.nd⟩
theorem Aaa{P J:hF}{S:Nat}(h:(P++(i++J)).Nodup)(p:q.Nodup)(j:∀a∈q,a∈i\/S<=a)(k:∀a∈P++J,a<S):(P++(q++J)).Nodup:=by
 obtain⟨l,m,g⟩:=xO.1 h;obtain⟨r,n,o⟩:=xO.1 m;refine xO.2 ⟨l,xO.2 ⟨p,n,fun b f c a e=> ?_⟩,fun b f c a e=> ?_⟩
 ·rcases j b f with d|d
  ·exact o b d c a e
  ·have:=k c (yE _ a);omega
 ·rcases xE.1 a with a|a
  ·rcases j c a with d|d
   ·exact g b f c (yN _ d) e
   ·have:=k b (yN _ f);omega
  ·exact g b f c (yE _ a) e
theorem Trs.turn(h:Trs a c (g++(f,i)::z) w)(s:PrM b f q j)(t:a<=b)(u:Mod (fun d=>d∈f::i) w j)(D:∀d∈q,d∈f::i\/w.heap.size<=d):Trs b c (g++(f,q)::z) j:=by
 have o:=h.nd;have n:=h.lt;rw[Ls]at o n;have p:((blk c++prB g)++((f::i)++prB z)).Nodup:=by rw[xT];exact o
 obtain⟨F,A,B⟩:=xO.1 p;obtain⟨G,H,C⟩:=xO.1 A;have r:∀d∈blk c++prB g,j.heap[d]?=w.heap[d]?:=fun d k=>u.block d (n d (by rw[<-xT];exact yN _ k)) fun l=>B d k d (yN _ l) rfl
 have y:∀d∈prB z,j.heap[d]?=w.heap[d]?:=fun d k=>u.block d (n d (yE _ (yE _ (yE _ k)))) fun l=>C d l d k rfl
 refine⟨?_,fun m l=> ?_,?_⟩
 ·have e:(g++(f,q)::z).map (fun m:Nat×hF=>A_ m.1)=(g++(f,i)::z).map (fun m:Nat×hF=>A_ m.1):=D_;rw[e,show(g++(f,q)::z).length=(g++(f,i)::z).length by simp];exact Bx h.row fun d k _=>r d (yN _ (Aj.2 k))
 ·rcases xE.1 l with l|l
  ·exact((h.prs m (yN _ l)).mono t).keep fun d k=>r d (yE _ (Tm l k))
  ·rcases xG.1 l with rfl|l
   ·exact s
   ·exact((h.prs m (yE _ (xZ _ l))).mono t).keep fun d k=>y d (Tm l k)
 ·rw[Ls,<-xT];refine Aaa (S:=w.heap.size) p s.nd (fun d k=> ?_) (fun d k=> ?_)
  ·rcases xG.1 k with e|k
   ·exact .inl (by rw[e];exact xU ..)
   ·exact D d k
  ·rcases xE.1 k with k|k
   ·exact n d (by rw[<-xT];exact yN _ k)
   ·exact n d (yE _ (yE _ (yE _ k)))
theorem Bk.turn{A:Nat->Prop}(h:Bk w a c b d)(o:Mod A w j)(D:¬A a)(p:∀f,A f->d f)(s:∀f,l f->d f\/w.heap.size<=f):Bk j a c b l:=by
 obtain⟨v,t,u,q,r,k⟩:=h;have F:=o.size;refine⟨v,t,u,(o.block a q.lt D).trans q,fun g i=>⟨(r g i).1,(r g i).2.stay (fun f m g=>o.block f m fun i=> ?_) (fun f m i=>⟨i.1,fun n=> ?_,i.2.2⟩)⟩,fun z B C f m=> ?_,k.2⟩
 ·rcases g with g|g|g
  ·exact(k.1 _ O_ O_ f g).2.1 (p f i)
  ·exact(k.1 _ O_ O_ f g).2.1 (p f i)
  ·exact g.2.1 (p f i)
 ·rcases s f n with g|g
  ·exact i.2.1 g
  ·omega
 ·obtain⟨i,y,G⟩:=k.1 z B C f m;refine⟨i,fun n=> ?_,O_⟩;rcases s f n with g|g
  ·exact y g
  ·omega
theorem Bk.setl(h:Bk w a c b d)(l:Value):Bk (w.setCell (Q_ a 0) l) a l b d:=by
 obtain⟨v,o,p,q,n,i⟩:=h;have m:=Mod.setCell w a 0 l;have y:=m.size;refine⟨v,o,p,?_,fun f g=>⟨(n f g).1,(n f g).2.stay (fun f j g=>m.block f j fun k=> ?_) (fun f j k=>k)⟩,fun s t u f j=> ?_,i.2⟩
 ·unfold Wb at*;rw[Ak (i:=0) q];rfl
 ·rcases g with g|g|g
  ·have:=(i.1 _ O_ O_ f g).1;omega
  ·have:=(i.1 _ O_ O_ f g).1;omega
  ·exact g.1 k
 ·obtain⟨k,r,z⟩:=i.1 s t u f j;exact⟨k,r,O_⟩
structure LW(b k N:Nat)(X:Nat->Prop)(vl:Value)(qs:List (Nat×hF))(w:World):Prop where
 trs:Trs N vl qs w
 bk:Bk w b vl k (fun g=>X g\/g∈blk vl++prB qs)
 far:∀g∈blk vl++prB qs,b<g/\¬X g
 xs:∀g,X g->b<g/\g<w.heap.size
 cnt:qs.length<=N
theorem LW.below(h:LW a b f d c g w)(l:Below w.heap.size w j):LW a b f d c g j:=
 ⟨h.trs.keep fun k i=>l.block k (h.trs.lt k i),h.bk.below2 l fun _ i=> .inl i,h.far,fun k i=>⟨(h.xs k i).1,yF (h.xs k i).2 l.size⟩,h.cnt⟩
theorem LW.mono(h:LW a b k d c g w)(j:b<=f)(i:k<=n):LW a f n d c g w:=
 ⟨h.trs.mono i,h.bk.mono j,h.far,h.xs,xI h.cnt i⟩
theorem LW.cell(h:LW a b f d c g w):w.cell? (Q_ a 0)=some c/\w.frozen? (Q_ a 0)=false:=by obtain⟨v,j,k,i,-⟩:=h.bk;exact⟨i.cells.1,i.cells.2.2.2.2.2.2.2.2.2.2 0⟩
theorem LW.lt{a b f:Nat}{d:Nat->Prop}{c:Value}{g:List (Nat×hF)}{w:World}(h:LW a b f d c g w):a<w.heap.size:=h.bk.lt
theorem LW.aside(h:LW a b f d c g w)(n:Below w.heap.size w j)(o:∀i,l i->d i\/(w.heap.size<=i/\i<j.heap.size)):LW a b f l c g j:=by
 have q:=h.lt;have r:=n.size;refine⟨h.trs.keep fun i k=>n.block i (h.trs.lt i k),h.bk.below2 n fun i k=> ?_,fun i k=>⟨(h.far i k).1,fun p=> ?_⟩,fun i k=> ?_,h.cnt⟩
 ·rcases k with k|k
  ·rcases o i k with m|m
   ·exact .inl (.inl m)
   ·exact .inr m.1
  ·exact .inl (.inr k)
 ·rcases o i p with m|m
  ·exact(h.far i k).2 m
  ·have:=h.trs.lt i k;omega
 ·rcases o i k with m|m
  ·have:=h.xs i m;omega
  ·omega
theorem LW.less(h:LW a b f d c g w)(k:∀i,l i->d i):LW a b f l c g w:=
 h.aside (xA _ _) fun i j=> .inl (k i j)
theorem LW.turn(h:LW a b f d c (g++(n,i)::z) w)(A:PrM k n q j)(B:f<=k)(r:Mod (fun l=>l∈n::i) w j)(t:∀l∈q,l∈n::i\/w.heap.size<=l):LW a b k d c (g++(n,q)::z) j:=by
 have C:=h.lt;have u:=r.size;have p:∀l∈n::i,l∈blk c++prB (g++(n,i)::z):=fun l o=>by rw[Ls];exact yE _ (yE _ (yN _ o))
 have s:∀l∈blk c++prB (g++(n,q)::z),l∈blk c++prB (g++(n,i)::z)\/w.heap.size<=l:=fun l o=>by
  rw[Ls]at o;rcases xE.1 o with m|m
  ·exact .inl (yN _ m)
  ·rcases xE.1 m with m|m
   ·exact .inl (yE _ (by rw[Ls];exact yN _ m))
   ·rcases xE.1 m with m|m
    ·rcases xG.1 m with e|m
     ·exact .inl (p l (by rw[e];exact xU ..))
     ·exact(t l m).imp (p l) id
    ·exact .inl (yE _ (by rw[Ls];exact yE _ (yE _ m)))
 refine⟨h.trs.turn A B r t,h.bk.turn r (fun m=> ?_) (fun l m=> .inr (p l m)) (fun l o=> ?_),fun l o=> ?_,fun l o=>⟨(h.xs l o).1,yF (h.xs l o).2 u⟩,?_⟩
 ·have:=(h.far a (p a m)).1;omega
 ·rcases o with o|o
  ·exact .inl (.inl o)
  ·exact(s l o).imp .inr id
 ·rcases s l o with m|m
  ·exact h.far l m
  ·exact⟨O_,fun y=>by have:=(h.xs l y).2;omega⟩
 ·have:=h.cnt;simp at this⊢;omega
structure AdQ(b k N:Nat)(X:Nat->Prop)(qs:List (Nat×hF))(w:World)(r:Ending)(w':World):Prop where
 ret:r=R_ (.bool true)
 lw:∃vl' p,LW b k (N+1) X vl' (qs++[p]) w'
 bel:Below b w w'
 same:∀g,X g->w'.heap[g]?=w.heap[g]?
theorem LW.add{vl' v:Value}{p:gY}{w3 w4:World}(h:LW a b f (fun j=>d j\/j∈x::k::n::(i++blk v)) c g w)(Z:ST w x n)(a0:Eh m f n i w)(a1:RT w k v)(a2:Ap 0 w v p)(a3:Tr.Cb (Ab p))(a4:∀b,Ce (Ab p) b=m b)(b5:p.length<=f)(a5:∀q∈p,q.2.size<=16)(a6:(x::k::n::(i++blk v)).Nodup)(a7:∀j∈x::k::n::(i++blk v),¬d j)(I:w.alloc (C_ #[A_ x,A_ k] 117)=w3)(a8:w4.ownsRow 0 84 1 vl' (g.length+1) ((g.map fun r=>A_ r.1)++[A_ w.heap.size]))(o:w3.grownBy w4 c.ownBlock)(a9:vl'.ownBlock=c.ownBlock\/∃b,w3.heap.size<=b/\vl'.ownBlock=some b):AdQ a b f d g w (R_ (.bool true)) (w4.setCell (Q_ a 0) vl'):=by
 have b0:=h.lt;have T:Below w.heap.size w w3:=by rw[<-I];exact(xA _ w).alloc X_ _
 have b1:w3.heap.size=w.heap.size+1:=by rw[<-I];simp
 have b2:=o.size;have U:PB w3 w.heap.size x k:=by rw[<-I];exact xK _ _
 have A:Mod (fun j=>j∈blk c) w w4:=(Mod.of_below (F:=fun j=>j∈blk c) T).trans (Mod.of_grown o) (fun _ _ l=>l) (fun j _ l=>Aj.2 l);have u:=Mod.setCell w4 a 0 vl';have C:∀j∈x::k::n::(i++blk v),j<w.heap.size/\a<j:=fun j o=>⟨(h.xs j (.inr o)).2,(h.xs j (.inr o)).1⟩
 have t:∀j∈blk c,j<w.heap.size/\a<j/\j∉x::k::n::(i++blk v)/\¬d j/\j∉prB g:=fun j o=>by have y:=h.far j (yN _ o);exact⟨h.trs.lt j (yN _ o),y.1,fun l=>y.2 (.inr l),fun l=>y.2 (.inl l),fun l=>(xO.1 h.trs.nd).2.2 j o j l rfl⟩
 have D:∀j,j<w.heap.size->j∉blk c->j≠a->(w4.setCell (Q_ a 0) vl').heap[j]?=w.heap[j]?:=fun j o s z=>(u.block j O_ z).trans (A.block j o s)
 have V:PB (w4.setCell (Q_ a 0) vl') w.heap.size x k:=by refine(u.block _ O_ O_).trans ((o.block _ O_ fun e=> ?_).trans U);have:=(t w.heap.size (Aj.2 e.symm)).1;omega
 have F:∀j∈x::k::n::(i++blk v),(w4.setCell (Q_ a 0) vl').heap[j]?=w.heap[j]?:=fun j o=>D j (C j o).1 (fun l=>(t j l).2.2.1 o) (by have:=(C j o).2;omega)
 have G:∀j∈blk vl',a<j/\(j∈blk c\/w3.heap.size<=j):=fun j o=>by
  rcases a9 with e|⟨b,b4,e⟩
  ·have:j∈blk c:=Aj.2 (by rw[<-e];exact Aj.1 o);exact⟨(t j this).2.1,.inl this⟩
  ·have:b=j:=(by have:=Aj.1 o;rw[e]at this;exact xM this);exact⟨O_,.inr O_⟩
 have J:PrM (f+1) w.heap.size (x::k::n::(i++blk v)) (w4.setCell (Q_ a 0) vl'):=by
  refine⟨x,k,n,i,v,p,m,⟨V,(F x D_).trans Z,(a0.mono (kF f)).keep fun j o=>F j (by rcases xG.1 o with e|e<;>simp[e]),(F k D_).trans a1,Bx a2 fun j o _=>F j (by simp[Aj.2 o]),a3,a4,O_,a5,yV.2 ⟨fun l=> ?_,a6⟩⟩,rfl⟩
  have:=(C _ l).1;omega
 have L:∀r∈g,∀j∈r.1::r.2,j<w.heap.size/\a<j/\j∉blk c/\j∉x::k::n::(i++blk v)/\¬d j:=fun r B j o=>by have M:j∈blk c++prB g:=yE _ (Tm B o);have y:=h.far j M;exact⟨h.trs.lt j M,y.1,fun l=>(xO.1 h.trs.nd).2.2 j l j (Tm B o) rfl,fun l=>y.2 (.inr l),fun l=>y.2 (.inl l)⟩
 have N:prB (g++[(w.heap.size,x::k::n::(i++blk v))])=prB g++((w.heap.size::x::k::n::(i++blk v))++prB []):=Ls _ _ _;have O:∀j∈blk vl'++prB (g++[(w.heap.size,x::k::n::(i++blk v))]),j∈blk c++prB g\/j∈x::k::n::(i++blk v)\/w.heap.size<=j:=fun j o=>by
  rw[N]at o;rcases xE.1 o with q|q
  ·rcases(G j q).2 with l|l
   ·exact .inl (yN _ l)
   ·exact .inr (.inr O_)
  ·rcases xE.1 q with q|q
   ·exact .inl (yE _ q)
   ·rcases xE.1 q with q|q
    ·rcases xG.1 q with e|q
     ·exact .inr (.inr O_)
     ·exact .inr (.inl q)
    ·cases q
 refine⟨rfl,⟨vl',(w.heap.size,x::k::n::(i++blk v)),⟨⟨?_,fun r B=> ?_,?_⟩,?_,fun j o=> ?_,fun j o=> ?_,?_⟩⟩,?_,fun j o=> ?_⟩
 ·rw[yX,xC];exact u.row a8 fun j o e=>by have:=(G j (Aj.2 o)).1;omega
 ·rcases xE.1 B with q|q
  ·exact((h.trs.prs r q).mono (kF f)).keep fun j o=>by obtain⟨S,b3,W,-⟩:=L r q j o;exact D j S W O_
  ·rw[yR.1 q];exact J
 ·rw[N];refine xO.2 ⟨Dg _,xO.2 ⟨(xO.1 h.trs.nd).2.1,by rw[show prB []=[]from rfl,yC];exact J.nd,fun s H R z e=> ?_⟩,fun s H R z e=> ?_⟩
  ·subst e;obtain⟨r,B,X⟩:=wI.1 H;obtain⟨S,-,-,Y,-⟩:=L r B s X;rw[show prB []=[]from rfl,yC]at z;rcases xG.1 z with e|z
   ·omega
   ·exact Y z
  ·subst e;have R:s∈prB g\/s∈w.heap.size::x::k::n::(i++blk v):=by
    rw[show prB []=[]from rfl,yC]at z;exact xE.1 z
   rcases(G s H).2 with q|q
   ·rcases R with l|l
    ·exact(t s q).2.2.2.2 l
    ·rcases xG.1 l with e|l
     ·have:=(t s q).1;omega
     ·exact(t s q).2.2.1 l
   ·rcases R with l|l
    ·have:=h.trs.lt s (yE _ l);omega
    ·rcases xG.1 l with e|l
     ·omega
     ·have:=(C s l).1;omega
 ·refine Bk.setl (h.bk.turn A (fun l=> ?_) (fun j l=> .inr (yN _ l)) (fun j o=> ?_)) vl'
  ·have:=(t a l).2.1;omega
  ·rcases o with o|o
   ·exact .inl (.inl (.inl o))
   ·rcases O j o with l|l|l
    ·exact .inl (.inr l)
    ·exact .inl (.inl (.inr l))
    ·exact .inr l
 ·rcases O j o with l|l|l
  ·exact⟨(h.far j l).1,fun s=>(h.far j l).2 (.inl s)⟩
  ·exact⟨(C j l).2,a7 j l⟩
  ·exact⟨O_,fun s=>by have:=(h.xs j (.inl s)).2;omega⟩
 ·have:=h.xs j (.inl o);have:=u.size;omega
 ·have:=h.cnt;simp;omega
 ·exact⟨u.os.trans A.os,u.tape.trans A.tape,u.output.trans A.output,xI A.size u.size,fun j o=>D j O_ (fun l=>by have:=(t j l).2.1;omega) O_⟩
 ·exact D j (h.xs j (.inl o)).2 (fun l=>(t j l).2.2.2.1 o) (by have:=(h.xs j (.inl o)).1;omega)
def inB(fr ub:hJ)(x:ByteArray×ByteArray):Bool:= !decide (x.1.data.toList<fr.data.toList)&&(decide (ub.data.toList=[]) || decide (x.1.data.toList<ub.data.toList))
theorem Aab{α:Type}(a:List α)(P:α->Bool)(b:Nat)(c:b<a.length):(a.take (b+1)).filter P=(a.take b).filter P++(if P (a[b]'c)then[a[b]'c]else[]):=by rw[zN,xW c,wG];congr 1;simp[qS]
theorem Aac(r:Nat)(v:Value)(d:gY)(b a:hJ)(w:World)(N:RT w r v)(h:Ap 0 w v d)(b3:d.length<=100000000):
  Calls Tryz.prog 56 #[A_ r,B_ b,B_ a] w fun Y L=>∃M,Y=R_ M/\Ap w.heap.size L M (d.filter (inB b a))/\Below w.heap.size w L:=by
 obtain⟨C,D,rfl⟩:=Ad h;have O:=Aa h;have y:=Aa N;clear h N;go_in;go_wp2_with fail
 go_loopw [7,8] (fun Z t wr=>∃f:Nat,t=J_ (f:Nat)/\f<=d.length/\Ap w.heap.size wr Z ((d.take f).filter (inB b a))/\Below w.heap.size w wr) (fun _ t _=>d.length-(intOf t).toNat)
 case atStart=>exact⟨0,rfl,Y_,yP _ _ _ _,xA _ _⟩
 case round=>
  obtain⟨f,rfl,a3,F,o⟩:=hrel;have l:=Aa F;have q:=Aa o;have z:=o.size;have A:RT wr r (L_ C d.length D):=(o.block r y.o.lt).trans y.o;obtain⟨a4,a5⟩:=A.cells;have R:Hid (Ap 0 wr (L_ C d.length D) d):=Ae O.o o X_;clear F o A;by_cases u:f<d.length
  ·obtain⟨a6,a7,e,a8,-,a9,b0,b1⟩:=R.o.at f u;simp only[xJ]at e;obtain⟨rfl,-,rfl⟩:=e;have m:=Aa (Aab d (inB b a) f u);have a2:((d.take f).filter (inB b a)).length<=100000000:=by
    have:=kU (inB b a) (d.take f);rw[xR]at this;omega
   generalize d[f]'u=x at*;obtain⟨c,p⟩:=x;have S:Hid (c.data.toList<b.data.toList\/(¬c.data.toList<b.data.toList/\a.data.toList=[])\/(¬c.data.toList<b.data.toList/\a.data.toList≠[]/\c.data.toList<a.data.toList)\/(¬c.data.toList<b.data.toList/\a.data.toList≠[]/\¬c.data.toList<a.data.toList)):=by
    by_cases g:c.data.toList<b.data.toList
    ·exact .inl g
    ·by_cases i:a.data.toList=[]
     ·exact .inr (.inl ⟨g,i⟩)
     ·by_cases j:c.data.toList<a.data.toList
      ·exact .inr (.inr (.inl ⟨g,i,j⟩))
      ·exact .inr (.inr (.inr ⟨g,i,j⟩))
   rcases S.o with g|⟨g,i⟩|⟨g,i,j⟩|⟨g,i,j⟩
   ·have s:Op.bytesLess c.toList b.toList=true:=(by rw[Af,Af,Cj];exact xQ g);have k:inB b a (c,p)=false:=(by unfold inB;simp only[xQ g];rfl);rw[k]at m;have n:Hid (Ap w.heap.size wr u7 ((d.take (f+1)).filter (inB b a))):=by
     show Ap _ _ _ _;rw[m.o];simpa using l.o
    go_wp2_with fail;exact⟨⟨f+1,W_,O_,n.o,q.o⟩,by simp[intOf];omega⟩
   case' inr.inl=>
    have s:Op.bytesLess c.toList b.toList=false:=(by rw[Af,Af,Cj];exact xN g);have B:(a.toList==[])=true:=(by rw[Af];simpa using i);have k:inB b a (c,p)=true:=by unfold inB;simp only[xN g,xQ i];rfl
   case' inr.inr.inl=>
    have s:Op.bytesLess c.toList b.toList=false:=(by rw[Af,Af,Cj];exact xN g);have B:(a.toList==[])=false:=(by rw[Af];simpa using i);have T:Op.bytesLess c.toList a.toList=true:=(by rw[Af,Af,Cj];exact xQ j);have k:inB b a (c,p)=true:=by unfold inB;simp only[xN g,xQ j];simp
   case inr.inr.inr=>
    have s:Op.bytesLess c.toList b.toList=false:=(by rw[Af,Af,Cj];exact xN g);have B:(a.toList==[])=false:=(by rw[Af];simpa using i);have T:Op.bytesLess c.toList a.toList=false:=(by rw[Af,Af,Cj];exact xN j);have k:inB b a (c,p)=false:=(by unfold inB;simp only[xN g,xN i,xN j];rfl);rw[k]at m;have n:Hid (Ap w.heap.size wr u7 ((d.take (f+1)).filter (inB b a))):=(by show Ap _ _ _ _;rw[m.o];simpa using l.o);go_wp2_with fail;exact⟨⟨f+1,W_,O_,n.o,q.o⟩,by simp[intOf];omega⟩
   all_goals
    rw[k]at m;clear k;go_wp2_with (at_builtin;refine Ix wr rfl (.tmp 44) (.tmp 52) 30 51 zC _ 2 32 Cg rfl Do Do rfl w.heap.size u7 _ _ rfl l.o [B_ c,B_ p] rfl (by intro b2 G;simp at G;rcases G with rfl|rfl<;>rfl) rfl O_ z ?_;intro W H I J X)
    have n:Hid (Ap w.heap.size H W ((d.take (f+1)).filter (inB b a))):=(by show Ap _ _ _ _;rw[m.o,xD rfl];unfold Ap;rw[xC,Jo];exact I);have U:Hid (Below w.heap.size w H):=q.o.grown J z (fun a0 a1=>(xF l.o a0 a1).1);clear I J X;go_wp2_with fail;exact⟨⟨f+1,W_,O_,n.o,U.o⟩,by simp[intOf];omega⟩
  ·have V:f=d.length:=O_;subst V;rw[zQ]at l;go_wp2_with fail;go_ret;exact⟨_,rfl,l.o,q.o⟩
