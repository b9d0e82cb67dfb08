import Derived.Test.YtolgpnaoaodepaaGreatLdLm
namespace Go.Proofs.YtolgpnaoaodepaaGreat
open Tr
namespace Tr
variable {i r c:Key}{a b h:Nat}{k:List Ch}{d:Option Key}
structure PlN where
 f:Key
 L:Nat
 h:Nat
 m:Option Key
 t:Ai h
structure PlC where
 L:Nat
 f:Key
 m:Option Key
 c:Ch
 cs:List Ch
abbrev Plc:=PlN ⊕ PlC
abbrev Plc.nd (f:Key) (L h:Nat) (m:Option Key) (t:Ai h):Plc:=.inl ⟨f,L,h,m,t⟩
abbrev Plc.ch (L:Nat) (f:Key) (m:Option Key) (c:Ch) (cs:List Ch):Plc:=.inr ⟨L,f,m,c,cs⟩
theorem Plc.two {P:Plc → Prop} (p:Plc) (nd:∀ f L h m t,P (.nd f L h m t)) (ch:∀ L f m c cs,P (.ch L f m c cs)):P p:=by
 rcases p with ⟨f,L,h,m,t⟩ | ⟨L,f,m,c,cs⟩
 ·exact nd f L h m t
 ·exact ch L f m c cs
variable {g:Plc}{P Q:List Plc}
def Plc.key:Plc->Key
 | .inl ⟨f,_,_,_,_⟩=>f
 | .inr ⟨_,_,_,c,_⟩=>c.2.1
def Plc.lv:Plc->Nat
 | .inl ⟨_,L,_,_,_⟩=>L
 | .inr ⟨L,_,_,_,_⟩=>L
def Plc.cont:Plc->Nat->Key->List Ch
 | .inl ⟨_,L,h,_,t⟩,l,k=>if l<L then[]else lev h t (l-L) k
 | .inr ⟨L,_,_,c,cs⟩,l,k=>if l=L then(c::cs).filter (Cy k)else[]
def Plc.cov:Plc->Nat->Key->Prop
 | .inl ⟨f,L,_,m,_⟩,l,k=>L<=l/\inR f m k
 | .inr ⟨L,f,m,_,_⟩,l,k=>l=L/\inR f m k
def MI(cs:List Ch):Prop:=cs.Pairwise fun a b=>¬b.2.1<a.2.1
def Plc.ok(fr:Key)(D:Nat):Plc->Prop
 | .inl ⟨f,L,h,m,t⟩=>WF h f m t/\Top h t/\room f m/\L+h+1=D
 | .inr ⟨L,f,m,c,cs⟩=>L<D/\MI (c::cs)/\∀d∈c::cs,¬d.2.1<fr/\inR f m d.2.1/\Kv d
def Ep(p q:Plc):Prop:=∀l k,p.cov l k->¬q.cov l k
theorem Ep.symm{q:Plc}(h:Ep g q):Ep q g:=fun a b c d=>h a b d c
def tot(P:List Plc)(l:Nat)(k:Key):List Ch:=(P.map fun p=>p.cont l k).flatten
def left(D:Nat)(P:List Plc)(k:Key):List Ch:=Fh (fun l=>tot P l k) D
structure Rb(fr:Key)(D:Nat)(P:List Plc):Prop where
 ok:∀p∈P,p.ok fr D
 ap:P.Pairwise Ep
def Plc.less(p q:Plc):Prop:=p.key<q.key\/p.key=q.key/\q.lv<p.lv
theorem Xd(j:g.ok i a)(h:g.cont b r≠[]):g.cov b r:=by
 cases g using Tr.Plc.two with
 | nd f L h' m t=>
  by_cases d:b<L
  ·exact absurd (xD d) h
  ·refine⟨O_,kH fun k=>h ?_⟩;show(if b<L then[]else lev h' t (b-L) r)=[];rw[xB d];exact Tj h' j.1 k _
 | ch L f m c cs=>
  by_cases d:b=L
  ·refine⟨d,?_⟩;have k:(c::cs).filter (Cy r)≠[]:=by
    have:(Plc.ch L f m c cs).cont b r=(c::cs).filter (Cy r):=xD d;rw[this]at h;exact h
   obtain⟨l,n⟩:=gI _ k;obtain⟨o,p⟩:=vT.1 n;rw[<-jZ p];exact(j.2.2 l o).2.1
  ·exact absurd (xB d) h
theorem BR(j:g.ok i a)(h:g.cont b r≠[]):¬r<g.key:=by
 cases g using Tr.Plc.two with
 | nd f L h' m t=>exact(Xd j h).2.1
 | ch L f m c cs=>
  by_cases d:b=L
  ·have k:(c::cs).filter (Cy r)≠[]:=by
    have:(Plc.ch L f m c cs).cont b r=(c::cs).filter (Cy r):=xD d;rw[this]at h;exact h
   obtain⟨l,n⟩:=gI _ k;obtain⟨o,p⟩:=vT.1 n;rw[<-jZ p];rcases xG.1 o with e|e
   ·rw[e];exact lt_ir _
   ·exact(zJ.1 j.2.1).1 l e
  ·exact absurd (xB d) h
theorem Aen(b:g.ok i a):g.cov g.lv g.key:=by
 cases g using Tr.Plc.two with
 | nd f L h' m t=>exact⟨X_,lt_ir _,fun d j=>(b.2.2.1 d j).1⟩
 | ch L f m c cs=>exact⟨rfl,(b.2.2 c (xU ..)).2.1⟩
theorem MJ(h:∀b∈P,b.cont a c=[]):tot P a c=[]:=
 wH.2 fun x f=>by obtain⟨b,d,rfl⟩:=xL.1 f;exact h b d
theorem Ll(P Q:List Plc)(a:Nat)(b:Key):tot (P++Q) a b=tot P a b++tot Q a b:=by simp[tot]
theorem Hq(c:Plc)(Q:List Plc)(a:Nat)(b:Key):tot (c::Q) a b=c.cont a b++tot Q a b:=by simp[tot]
theorem Rb.perm(h:Rb c a P)(b:P.Perm Q):Rb c a Q:=
 ⟨fun d f=>h.ok d (b.mem_iff.2 f),(b.pairwise_iff (fun d=>Ep.symm d)).1 h.ap⟩
theorem Ac1(f:P.Perm Q)(h:Rb c a P)(b:Nat)(d:Key):tot P b d=tot Q b d:=by
 induction f with
 | nil=>rfl
 | cons x _ ih=>rw[Hq,Hq,ih ⟨fun g f=>h.ok g (xZ _ f),(zJ.1 h.ap).2⟩]
 | swap x y r=>
  rw[Hq,Hq,Hq,Hq,<-xT,<-xT];congr 1;by_cases g:x.cont b d=[]
  ·rw[g];simp
  ·by_cases i:y.cont b d=[]
   ·rw[i];simp
   ·have:=(zJ.1 h.ap).1 x (xU ..);exact absurd (Xd (h.ok x D_) g) (this b d (Xd (h.ok y D_) i))
 | trans h1 _ ih1 ih2=>rw[ih1 h,ih2 (h.perm h1)]
theorem Yt(f:P.Perm Q)(h:Rb c a P)(b:Key):left a P b=left a Q b:=Lk fun d _=>Ac1 f h d b
def lay(L:Nat)(f:Key)(m:Option Key):List Ch->List Plc
 | []=>[]
 | c::cs=>[.ch L f m c cs]
theorem Xe(a:Nat)(g:Key)(i:Option Key)(b:List Ch)(d:Nat)(f:Key):tot (lay a g i b) d f=if d=a then b.filter (Cy f)else[]:=by
 cases b with
 | nil=>simp[lay,tot]
 | cons c r=>
  show(if d=a then(c::r).filter (Cy f)else[])++[]=_;rw[yC]
theorem Aeo{m:Option Key}{s:Ch}(h:Rb c a (.ch b i m s k::P))(H:∀f∈P,¬f.less (.ch b i m s k)):
  Rb c a (lay b i m k++P)/\left a (.ch b i m s k::P) s.2.1=s::left a (lay b i m k++P) s.2.1/\(∀l,l≠s.2.1->left a (.ch b i m s k::P) l=left a (lay b i m k++P) l)/\(∀l,l<s.2.1->left a (.ch b i m s k::P) l=[]):=by
 have n:=h.ok _ (xU ..);have o:∀g∈P,g.ok c a:=fun g p=>h.ok g (xZ _ p)
 obtain⟨F,G⟩:=zJ.1 h.ap;have I:Rb c a (lay b i m k++P):=by
  cases k with
  | nil=>exact⟨o,G⟩
  | cons d r=>
   refine⟨fun g p=> ?_,zJ.2 ⟨fun f j=>F f j,G⟩⟩;rcases xG.1 p with rfl|p
   ·exact⟨n.1,(zJ.1 n.2.1).2,fun e q=>n.2.2 e (xZ _ q)⟩
   ·exact o g p
 have u:∀g l,(Plc.ch b i m s k).cont g l=if g=b then(s::k).filter (Cy l)else[]:=fun _ _=>rfl
 have A:∀g,b<g->tot P g s.2.1=[]:=fun g q=>MJ fun f j=>kH fun t=>by
  have z:=BR (o f j) t;have B:=H f j;have J:¬f.key<s.2.1:=fun e=>B (.inl e)
  have L:f.key=s.2.1:=tri _ _ J z;have C:¬b<f.lv:=fun e=>B (.inr ⟨L,e⟩)
  have D:=Xd (o f j) t;have M:(Plc.ch b i m s k).cov b s.2.1:=Aen n;refine F f j b s.2.1 M ?_
  cases f using Tr.Plc.two with
  | nd f' L' h' m' t'=>exact⟨aD C,D.2⟩
  | ch L' f' m' c' cs'=>exact absurd D.1 (by have:¬b<L':=C;omega)
 refine⟨I,?_,fun l y=>Lk fun g _=> ?_,fun l y=>Xc fun g _=>MJ fun f j=>kH fun t=> ?_⟩
 ·refine JH (L:=b) n.1 (fun g q _=> ?_) (fun g q _=> ?_) ?_ (fun g q=> ?_)
  ·rw[Hq,u,xB O_,A g q];rfl
  ·rw[Ll,Xe,xB O_,A g q];rfl
  ·rw[Hq,u,xD rfl,Ll,Xe,xD rfl,kO (p:=Cy s.2.1) (xQ rfl)];rfl
  ·rw[Hq,u,xB O_,Ll,Xe,xB O_]
 ·rw[Hq,u,Ll,Xe,jU (by simp[Cy];exact fun e=>y e.symm)]
 ·rcases xG.1 j with rfl|j
  ·exact BR n t y
  ·have z:=BR (o f j) t;exact H f j (.inl (DF z y))
theorem TZ(h:Rb c a (g::P))(l:∀d∈P,¬d.less g)(j:i<g.key):left a (g::P) i=[]:=
 Xc fun b _=>MJ fun d b=>kH fun k=>by
  have f:=BR (h.ok d b) k;rcases xG.1 b with rfl|b
  ·exact f j
  ·exact l d b (.inl (DF f j))
def Jw(L:Nat){h:Nat}:List (Key×Ai h)->Option Key->List Plc
 | [],_=>[]
 | (f,t)::r,hi=> .nd f L h (nxt r hi) t::Jw L r hi
def nodeCh:(h:Nat)->Ai h->List Ch
 | 0,l=>(its l).map fun x=>((1:Int),x.1,x.2)
 | _+1,(_,cs)=>cs
theorem wgB:∀(l:List It),Cb l->∀k,(l.map fun x=>((1:Int),x.1,x.2)).filter (Cy k)=((Ce l k).map fun v=>((1:Int),k,v)).toList
 | [],_,_=>rfl
 | x::r,hr,k=>by
  obtain⟨h1,h2⟩:=zJ.1 hr;rw[yD,Ce];by_cases e:x.1=k
  ·rw[kO (p:=Cy k) (a:=((1:Int),x.1,x.2)) (xQ e),xD e,wgB r h2 k,Df fun y hy q=>by
    have:=h1 y hy;rw[q,e]at this;exact lt_ir _ this]
   subst e;rfl
  ·rw[jU (by simp[Cy,e]),xB e];exact wgB r h2 k
theorem FE:∀(h:Nat) {c:Key} {d:Option Key} {b:Ai h},WF h c d b->∀a,(nodeCh h b).filter (Cy a)=lev h b 0 a
 | 0,_,_,l,hw,a=>wgB l hw.1 a
 | _+1,_,_,(_,_),_,_=>rfl
structure Scd(fr:Key)(l l':List Ch):Prop where
 rise:MI l'
 sub:∀c∈l',c∈l/\¬c.2.1<fr
 fil:∀k,¬k<fr->l'.filter (Cy k)=l.filter (Cy k)
 len:l'.length<=l.length
def kidsFrom(fr:Key)(L:Nat)(m:Option Key):(h:Nat)->Ai h->List Plc
 | 0,_=>[]
 | _+1,(ps,_)=>Jw (L+1) (ps.drop (ix (ps.map (·.1)) fr)) m
theorem Yu{a h:Nat}{d:Option Key}{g:Plc}:∀{i:List (Key×Ai h)} {l:Option Key},Bu (fun c b f=>WF h c b f/\Top h f) l d i->g∈Jw a i d->∃c b f,g=.nd c a h b f/\WF h c b f/\Top h f/\room c b/\(∀j,l=some j->¬c<j)/\∀k,d=some k->∃j,b=some j/\¬k<j
 | [],_,_,i=>by cases i
 | (c,f)::r,l,⟨e,b,h1,h2,h3⟩,i=>by
  have l:b=nxt r d:=Hv h3;rcases xG.1 i with rfl|i
  ·rw[<-l];exact⟨c,b,f,rfl,h2.1,h2.2,h1,fun j c=>by rw[e]at c;rw[<-xM c];exact lt_ir _,fun k f=>Nc h3 k f⟩
  ·obtain⟨k,m,n,o,p,q,s,t,u⟩:=Yu h3 i;refine⟨k,m,n,o,p,q,s,fun j c=> ?_,u⟩;rw[e]at c;rw[<-xM c]
   cases f:r with
   | nil=>rw[f]at i;cases i
   | cons x r'=>
    have c:b=some x.1:=(by rw[l,f];rfl);exact fun b=>t x.1 c (Ei b (h1 x.1 c).1)
theorem AG{a h:Nat}{d:Option Key}:∀{g:List (Key×Ai h)} {i:Option Key},Bu (fun f b c=>WF h f b c/\Top h c) i d g->(Jw a g d).Pairwise Ep
 | [],_,_=>List.Pairwise.nil
 | (f,c)::r,i,⟨e,b,h1,h2,h3⟩=>by
  have f:b=nxt r d:=Hv h3;refine zJ.2 ⟨fun c c g g g k=> ?_,AG h3⟩;obtain⟨l,m,n,rfl,_,_,_,j,_⟩:=Yu h3 c;rw[<-f]at g
  cases i:r with
  | nil=>rw[i]at c;cases c
  | cons x r'=>
   have c:b=some x.1:=(by rw[f,i];rfl);exact j x.1 c (DF k.2.1 (g.2.2 x.1 c))
theorem JI{a h:Nat}{d:Option Key}(b:Nat)(c:Key):∀(g:List (Key×Ai h)),tot (Jw a g d) b c=if b<a then[]else(g.map fun g=>lev h g.2 (b-a) c).flatten
 | []=>by simp[Jw,tot]
 | (f,t)::r=>by
  rw[Jw,Hq,JI b c r];show(if b<a then[]else lev h t (b-a) c)++_=_;by_cases g:b<a
  ·simp[g]
  ·simp[g]
theorem Ac2{t:List (Key×Ai h)}(m:Bu (fun g p o=>WF h g p o/\Top h o) (some c) d t)(j:Nat){n:Key}(H:¬n<i):((t.drop (ix (t.map (·.1)) i)).map fun a=>lev h a.2 j n).flatten=(t.map fun a=>lev h a.2 j n).flatten:=by
 by_cases C:inR c d i
 ·obtain⟨L,g,o,W,p,M,N,X,Y,O,R,Z⟩:=Gl m C;rw[N];subst M;rw[jQ,yX,kI];have s:(L.map fun a=>lev h a.2 j n).flatten=[]:=by
   refine wH.2 fun G k=> ?_
   obtain⟨a,b,rfl⟩:=xL.1 k;obtain⟨S,u,T,U,y⟩:=Mt R a b;refine Tj h u.1 (fun l=>H ?_) j;obtain⟨q,z,A⟩:=y g rfl;exact Kz (Kz (l.2 q z) A) O.1
  rw[s];rfl
 ·by_cases D:i<c
  ·have:ix (t.map (·.1)) i=0:=by
    match t,m with
    | [],_=>rfl
    | [_],_=>rfl
    | (g,o)::(f2,t2)::r,⟨e,p,s,h2,h3⟩=>
     have I:p=some f2:=h3.1;have J:c=g:=xM e;show ix (g::f2::r.map (·.1)) i=0;rw[ix,xD (Ei (by rw[<-J];exact D) (s f2 I).1)]
   rw[this];rfl
  ·
   obtain⟨f,B,V⟩:∃f,d=some f/\¬i<f:=by
    cases d with
    | none=>exact absurd ⟨D,fun f B=>by cases B⟩ C
    | some f=>exact⟨f,rfl,fun l=>C ⟨D,fun F m=>by rw[<-xM m];exact l⟩⟩
   have F:∀a∈t,lev h a.2 j n=[]:=fun a b=>by obtain⟨S,u,T,U,y⟩:=Mt m a b;refine Tj h u.1 (fun l=>H ?_) j;obtain⟨q,z,A⟩:=y f B;exact Kz (Kz (l.2 q z) A) V
   rw[wH.2 (fun G k=>by obtain⟨a,b,rfl⟩:=xL.1 k;exact F a (bJ b)),wH.2 (fun G k=>by obtain⟨a,b,rfl⟩:=xL.1 k;exact F a b)]
theorem Uz{h:Nat}{u:Key->Option Key->Ai h->Prop}{d:Option Key}:∀(g:List (Key×Ai h)) {a:Option Key} (c:Nat),Bu u a d g->∃i,Bu u i d (g.drop c)/\∀b,a=some b->c<g.length->∃j,i=some j/\¬j<b
 | g,a,0,hc=>⟨a,hc,fun b g _=>⟨b,g,lt_ir _⟩⟩
 | [],a,c+1,hc=>⟨a,hc,fun b g k=>by simp at k⟩
 | (f,t)::r,a,c+1,⟨e,m,h1,h2,h3⟩=>by
  obtain⟨i,l,n⟩:=Uz r c h3;refine⟨i,l,fun b g k=> ?_⟩;rw[e]at g;obtain rfl:=xM g;have a:c<r.length:=by simpa using k
  cases r with
  | nil=>simp at a
  | cons x r'=>
   obtain⟨j,b,c⟩:=n x.1 h3.1 a;exact⟨j,b,fun g=>c (Ei g (h1 x.1 h3.1).1)⟩
def sz:(h:Nat)->Ai h->Nat
 | 0,l=>1+(its l).length
 | h+1,(ps,cs)=>1+cs.length+(ps.map fun p=>sz h p.2).sum
def Plc.size:Plc->Nat
 | .inl ⟨_,_,h,_,t⟩=>sz h t
 | .inr ⟨_,_,_,_,cs⟩=>cs.length+1
def size(P:List Plc):Nat:=(P.map Plc.size).sum
theorem Yv(a:Plc)(P:List Plc):size (a::P)=a.size+size P:=by simp[size]
theorem size_append(P Q:List Plc):size (P++Q)=size P+size Q:=by simp[size]
theorem PO(b:Nat)(c:Key)(d:Option Key)(a:List Ch):size (lay b c d a)=a.length:=by cases a<;>simp[lay,size,Plc.size]
theorem FG{a h:Nat}{d:Option Key}:∀(b:List (Key×Ai h)),size (Jw a b d)=(b.map fun b=>sz h b.2).sum
 | []=>rfl
 | (f,t)::r=>by rw[Jw,Yv,FG r];rfl
theorem PP(a:hF)(b:Nat):(a.drop b).sum<=a.sum:=by have:=zK b a;have c:=yW List.sum this;rw[List.sum_append]at c;omega
theorem Aep{y:Ai h}(I:Rb c a (.nd i b h d y::P))(z:Scd c (nodeCh h y) k):
  Rb c a (kidsFrom c b d h y++(lay b i d k++P))/\(∀l,¬l<c->left a (.nd i b h d y::P) l=left a (kidsFrom c b d h y++(lay b i d k++P)) l)/\size (kidsFrom c b d h y++(lay b i d k++P))<size (.nd i b h d y::P):=by
 have O:=I.ok _ (xU ..);obtain⟨q,a9,b0,b1⟩:=O;have R:∀f∈P,f.ok c a:=fun f g=>I.ok f (xZ _ g)
 obtain⟨M,V⟩:=zJ.1 I.ap;have J:∀B∈nodeCh h y,inR i d B.2.1/\Kv B:=by
  cases h with
  | zero=>
   intro B a7;obtain⟨x,W,rfl⟩:=xL.1 a7;have:=q.2 x W;refine⟨this.1,?_⟩;unfold Kv Pg.Bh Pg.Bv;simp[this.2.1,this.2.2]
  | succ h=>obtain⟨n,s⟩:=y;exact q.2
 have C:∀f∈lay b i d k,f.ok c a/\∀j l,f.cov j l->j=b/\inR i d l:=by
  cases k with
  | nil=>intro f g;cases g
  | cons B r=>
   intro f g;rw[yR.1 g];exact⟨⟨O_,z.rise,fun o t=>⟨(z.sub o t).2,(J o (z.sub o t).1).1,(J o (z.sub o t).1).2⟩⟩,fun _ _ m=>m⟩
 have L:∀f∈kidsFrom c b d h y,f.ok c a/\∀j l,f.cov j l->b<j/\inR i d l:=by
  cases h with
  | zero=>intro f g;cases g
  | succ h=>
   obtain⟨n,s⟩:=y;intro f g;obtain⟨X,D,N⟩:=Uz n (ix (n.map (·.1)) c) q.1;obtain⟨b2,b3,b4,rfl,Y,Z,a0,a1,a2⟩:=Yu D g;refine⟨⟨Y,Z,a0,O_⟩,fun j l m=>⟨m.1,fun u=> ?_,fun p F=> ?_⟩⟩
   ·by_cases a8:ix (n.map (·.1)) c<n.length
    ·obtain⟨p,F,a3⟩:=N i rfl a8;exact m.2.1 (Kz u (fun u=>a1 p F (Kz u a3)))
    ·rw[kidsFrom,kB O_]at g;cases g
   ·obtain⟨A,a4,a5⟩:=a2 p F;exact Kz (m.2.2 A a4) a5
 have S:(kidsFrom c b d h y).Pairwise Ep:=by
  cases h with
  | zero=>exact List.Pairwise.nil
  | succ h=>
   obtain⟨n,s⟩:=y;obtain⟨X,D,N⟩:=Uz n (ix (n.map (·.1)) c) q.1;exact AG D
 have T:(lay b i d k).Pairwise Ep:=by cases k<;>simp[lay]
 refine⟨⟨fun f g=> ?_,jN.2 ⟨S,jN.2 ⟨T,V,fun f g m u j l A p=> ?_⟩,fun f g m u j l A p=> ?_⟩⟩,fun l H=>Lk fun j U=> ?_,?_⟩
 ·rcases xE.1 g with g|g
  ·exact(L f g).1
  ·rcases xE.1 g with g|g
   ·exact(C f g).1
   ·exact R f g
 ·obtain⟨a6,G⟩:=(C f g).2 j l A;exact M m u j l ⟨O_,G⟩ p
 ·obtain⟨a6,G⟩:=(L f g).2 j l A;rcases xE.1 u with u|u
  ·have:=((C m u).2 j l p).1;omega
  ·exact M m u j l ⟨O_,G⟩ p
 ·rw[Hq,Ll,Ll,Xe,<-xT];congr 1;show(if j<b then[]else lev h y (j-b) l)=_
  cases h with
  | zero=>
   show _=[]++_;rw[zI];rcases aE j b with m|m|m
   ·rw[xD m,xB O_]
   ·subst m;rw[xB O_,xD rfl,bU,z.fil l H,FE 0 q l]
   ·rw[xB O_,xB O_];obtain⟨o,t⟩:∃o,j-b=o+1:=⟨j-b-1,O_⟩;rw[t];rfl
  | succ h=>
   obtain⟨n,s⟩:=y;rw[kidsFrom,JI,Ac2 q.1 _ H];rcases aE j b with m|m|m
   ·rw[xD m,xD O_,xB O_];rfl
   ·subst m;rw[xB O_,xD O_,xD rfl,bU,z.fil l H,FE (h+1) q l];rfl
   ·rw[xB O_,xB O_,xB O_,yC];obtain⟨o,t⟩:∃o,j-b=o+1:=⟨j-b-1,O_⟩;rw[t,show j-(b+1)=o by omega];rfl
 ·rw[Yv,size_append,size_append,PO];have U:=z.len;show _<sz h y+_
  cases h with
  | zero=>
   show 0+_<1+(its y).length+_;have:(nodeCh 0 y).length=(its y).length:=xP ..;omega
  | succ h=>
   obtain⟨n,s⟩:=y;rw[kidsFrom,FG];have j:=PP (n.map fun f=>sz h f.2) (ix (n.map (·.1)) c);rw[<-dU]at j;have l:(nodeCh (h+1) (n,s)).length=s.length:=rfl;show _<1+s.length+(n.map fun f=>sz h f.2).sum+_;omega
end Tr
namespace Hp
variable {a b j:Nat}
structure Ord{α:Type}(lt:α->α->Prop):Prop where
 asy:∀{a b},lt a b->¬lt b a
 tr:∀{a b c},¬lt b a->¬lt c b->¬lt c a
def swp{α:Type}(g:Nat->α)(i j k:Nat):α:=if k=i then g j else if k=j then g i else g k
def Rc{α:Type}(lt:α->α->Prop)(g:Nat->α)(n:Nat):Prop:=∀k,0<k->k<n->¬lt (g k) (g ((k-1) / 2))
structure UpI{α:Type}(lt:α->α->Prop)(g:Nat->α)(n j:Nat):Prop where
 a:∀k,0<k->k<n->k≠j->¬lt (g k) (g ((k-1) / 2))
 b:∀k,0<k->k<n->(k-1) / 2=j->0<j->¬lt (g k) (g ((j-1) / 2))
structure Qx{α:Type}(lt:α->α->Prop)(g:Nat->α)(n i:Nat):Prop where
 a:∀k,0<k->k<n->(k-1) / 2≠i->¬lt (g k) (g ((k-1) / 2))
 b:∀k,0<k->k<n->(k-1) / 2=i->0<i->¬lt (g k) (g ((i-1) / 2))
variable {α:Type}{lt:α->α->Prop}{f:Nat->α}
theorem JJ(a:Nat->α)(b c:Nat):swp a b c b=a c:=xD rfl
theorem AH(a:Nat->α)(b c:Nat):swp a b c c=a b:=by
 unfold swp;split
 ·rename_i e;rw[e]
 ·rw[xD rfl]
theorem Nq(c:Nat->α){k:Nat}(d:k≠a)(f:k≠b):swp c a b k=c k:=by unfold swp;rw[xB d,xB f]
theorem UpI.step(g:Ord lt)(h:UpI lt f a b)(m:j=(b-1) / 2)(t:b<a)(r:j≠b)(n:lt (f b) (f j)):UpI lt (swp f j b) a j:=by
 have o:0<b:=O_;have s:j<b:=O_;refine⟨fun c h0 d i=> ?_,fun c h0 d p q=> ?_⟩
 ·by_cases e:c=b
  ·subst e;rw[AH,<-m,JJ];exact g.asy n
  ·rw[Nq f i e];by_cases i:(c-1) / 2=b
   ·rw[i,AH];have:=h.b c h0 d i o;rw[<-m]at this;exact this
   ·by_cases k:(c-1) / 2=j
    ·rw[k,JJ];have:=h.a c h0 d e;rw[k]at this;exact g.tr (g.asy n) this
    ·rw[Nq f k i];exact h.a c h0 d e
 ·have l:¬lt (f j) (f ((j-1) / 2)):=h.a j q O_ r;rw[Nq f (k:=(j-1) / 2) O_ O_];by_cases e:c=b
  ·subst e;rw[AH];exact l
  ·rw[Nq f O_ e];have:=h.a c h0 d e;rw[p]at this;exact g.tr l this
theorem UpI.done(h:UpI lt f a b)(i:b=0\/¬lt (f b) (f ((b-1) / 2))):Rc lt f a:=fun d h0 g=>by
 by_cases e:d=b
 ·subst e;rcases i with c|c
  ·omega
  ·exact c
 ·exact h.a d h0 g e
theorem UpI.start(h:Rc lt f a):UpI lt f (a+1) a:=⟨fun b h0 c d=>h b h0 O_,fun b h0 c b _=>O_⟩
theorem Qx.step(p:Ord lt)(h:Qx lt f a b)(q:j<a)(h0:0<j)(k:(j-1) / 2=b)(r:∀c,0<c->c<a->(c-1) / 2=b->¬lt (f c) (f j))(s:lt (f j) (f b)):Qx lt (swp f b j) a j:=by
 have t:b<j:=O_;refine⟨fun c d g i=> ?_,fun c d g i _=> ?_⟩
 ·by_cases e:(c-1) / 2=b
  ·rw[e,JJ];by_cases l:c=j
   ·subst l;rw[AH];exact p.asy s
   ·rw[Nq f O_ l];exact r c d g e
  ·rw[Nq f (k:=(c-1) / 2) e i];by_cases m:c=b
   ·subst m;rw[JJ];exact h.b j h0 q k d
   ·rw[Nq f m (fun n=>by subst n;exact e k)];exact h.a c d g e
 ·have n:c≠b:=O_;have o:c≠j:=O_;rw[k,JJ,Nq f n o];have:=h.a c d g O_;rw[i]at this;exact this
theorem Qx.done(h:Qx lt f a b)(g:∀c,0<c->c<a->(c-1) / 2=b->¬lt (f c) (f b)):Rc lt f a:=fun c h0 d=>by
 by_cases e:(c-1) / 2=b
 ·rw[e];exact g c h0 d e
 ·exact h.a c h0 d e
theorem Qx.start(h:Rc lt f (a+1)):Qx lt (swp f 0 a) a 0:=by refine⟨fun b h0 d c=> ?_,fun b h0 d c d=>O_⟩;rw[Nq f O_ O_,Nq f c O_];exact h b h0 O_
theorem Rc.root(d:Ord lt)(h:Rc lt f a):∀b,b<a->¬lt (f b) (f 0):=by
 intro b
 induction b using Nat.strongRecOn with
 | ind b ih=>
  intro g;by_cases e:b=0
  ·subst e;exact fun c=>d.asy c c
  ·exact d.tr (ih ((b-1) / 2) O_ O_) (h b O_ g)
theorem Rc.congr{z:Nat->α}(h:Rc lt f a)(d:∀b,b<a->z b=f b):Rc lt z a:=fun b h0 c=>by rw[d b c,d _ O_];exact h b h0 c
def nth(d:α)(l:List α)(i:Nat):α:=(l[i]?).getD d
def swL(d:α)(l:List α)(i j:Nat):List α:=(l.set i (nth d l j)).set j (nth d l i)
theorem Eu(c:α)(b:List α)(h:a<b.length):nth c b a=b[a]'h:=by unfold nth;rw[xW h];rfl
theorem Aeq(b:α)(a:List α)(c d:Nat):(swL b a c d).length=a.length:=by simp[swL]
theorem Xf(f:α)(c:List α)(k:a<c.length)(l:b<c.length)(g:Nat):nth f (swL f c a b) g=swp (nth f c) a b g:=by
 unfold swL swp;show(((c.set a (nth f c b)).set b (nth f c a))[g]?).getD f=_;rw[qA];by_cases j:b=g
 ·subst j;rw[xD rfl,jV,xD l];by_cases d:b=a
  ·subst d;rw[xD rfl];rfl
  ·rw[xB d,xD rfl];rfl
 ·rw[xB j,qA];by_cases d:a=g
  ·subst d;rw[xD rfl,xD k,xD rfl];rfl
  ·rw[xB d,xB (fun i=>d i.symm),xB (fun i=>j i.symm)];rfl
theorem PQ(d:α)(c:List α)(f:a<c.length)(g:b<c.length):(swL d c a b).Perm c:=by unfold swL;rw[Eu d c f,Eu d c g];have:=Array.swap_perm (xs:=c.toArray) (i:=a) (j:=b) (by simpa using f) (by simpa using g);rw[Array.perm_iff_toList_perm]at this;simpa[Array.swap]using this
end Hp
namespace Tr
open Hp
variable {m:Nat->Ch}{a b:Nat}{k p:List Ch}
structure FH(g:Nat->Ch)(i j:Nat):Prop where
 a:∀x y,x<y->y<=i->x≠j->y≠j->¬(g y).2.1<(g x).2.1
 b:∀y,j<y->y<=i->¬(g y).2.1<(g j).2.1
def Sg(g:Nat->Ch)(i:Nat):Prop:=∀x y,x<y->y<i->¬(g y).2.1<(g x).2.1
theorem FH.start(h:Sg m a):FH m a a:=⟨fun x b c d f f=>h x b c O_,fun b c d=>O_⟩
theorem FH.step(h:FH m a (b+1))(l:b+1<=a)(k:(m (b+1)).2.1<(m b).2.1):FH (swp m b (b+1)) a b:=by
 have j:¬(m b).2.1<(m (b+1)).2.1:=fun c=>lt_ir _ (Ei c k)
 refine⟨fun x c g d i f=> ?_,fun c g d=> ?_⟩
 ·by_cases e:c=b+1
  ·subst e;rw[AH,Nq m i O_];exact h.a x b O_ O_ O_ O_
  ·rw[Nq m f e];by_cases f:x=b+1
   ·subst f;rw[AH];exact h.a b c O_ d O_ e
   ·rw[Nq m i f];exact h.a x c g d f e
 ·rw[JJ];by_cases e:c=b+1
  ·subst e;rw[AH];exact j
  ·rw[Nq m O_ e];exact h.b c O_ d
theorem FH.done(h:FH m a b)(j:b=0\/¬(m b).2.1<(m (b-1)).2.1):Sg m (a+1):=by
 intro x c d k;by_cases g:x=b
 ·rw[g]at d⊢;exact h.b c d O_
 ·by_cases i:c=b
  ·rcases j with f|f
   ·omega
   ·rw[i];by_cases e:x=b-1
    ·rw[e];exact f
    ·exact VX (h.a x (b-1) O_ O_ g O_) f
  ·exact h.a x c d O_ g i
theorem Aer(g:Ch)(b:List Ch)(h:a+1<b.length):swL g b a (a+1)=b.take a++nth g b (a+1)::nth g b a::b.drop (a+2):=by
 apply List.ext_getElem?;intro c;unfold swL;rw[qA,jV,qA];rcases aE c a with d|d|d
 ·rw[xB O_,xB O_,vQ K_,qU d]
 ·subst d;rw[xB O_,xD rfl,xD O_,kC K_];simp[jL (show c<=b.length by omega)]
 ·rw[kC K_,xR,jL O_];by_cases e:a+1=c
  ·subst e;rw[xD rfl,xD h,show a+1-a=1 by omega];rfl
  ·rw[xB e,xB O_];obtain⟨f,i⟩:∃f,c-a=f+2:=⟨c-a-2,O_⟩;rw[i,yH,yH,kZ,show a+2+f=c by omega]
theorem UA(c:Ch)(b:List Ch)(h:a+1<b.length)(i:(nth c b (a+1)).2.1<(nth c b a).2.1)(d:Key):(swL c b a (a+1)).filter (Cy d)=b.filter (Cy d):=by
 have e:b=b.take a++nth c b a::nth c b (a+1)::b.drop (a+2):=by rw[Eu c b O_,Eu c b h,qW,qW,zK]
 rw[Aer c b h]
 conv=>rhs;rw[e]
 rw[wG,wG];congr 1;by_cases g:(nth c b a).2.1=d
 ·have f:¬(nth c b (a+1)).2.1=d:=fun j=>by rw[j,g]at i;exact lt_ir _ i
  rw[jU (by simpa[Cy]using f),kO (p:=Cy d) (xQ g),kO (p:=Cy d) (xQ g),jU (by simpa[Cy]using f)]
 ·rw[jU (a:=nth c b a) (p:=Cy d) (by simpa[Cy]using g)];by_cases f:(nth c b (a+1)).2.1=d
  ·rw[kO (p:=Cy d) (xQ f),kO (p:=Cy d) (xQ f),jU (by simpa[Cy]using g)]
  ·rw[jU (by simpa[Cy]using f),jU (by simpa[Cy]using g),jU (by simpa[Cy]using f)]
structure Stb(l l':List Ch):Prop where
 perm:l'.Perm l
 fil:∀k,l'.filter (Cy k)=l.filter (Cy k)
theorem Stb.refl(a:List Ch):Stb a a:=⟨vP _,fun _=>rfl⟩
theorem Stb.swap(h:Stb k p)(a:Ch){j:Nat}(c:j+1<p.length)(d:(nth a p (j+1)).2.1<(nth a p j).2.1):Stb k (swL a p j (j+1)):=
 ⟨(PQ a p O_ c).trans h.perm,fun b=>(UA a p c d b).trans (h.fil b)⟩
theorem Sg.rise{d:Ch}(h:Sg (nth d k) k.length):MI k:=by unfold MI;rw[wK];intro x b c a f;have:=h x b f a;rw[Eu d k c,Eu d k a]at this;exact this
theorem Stb.scd{c:Key}(h:Stb (k.filter fun b=> !decide (b.2.1<c)) p)(j:MI p):Scd c k p:=by
 refine⟨j,fun b f=> ?_,fun d i=> ?_,?_⟩
 ·have:=h.perm.mem_iff.1 f;obtain⟨f,g⟩:=vT.1 this;exact⟨f,by simpa using g⟩
 ·rw[h.fil d,List.filter_filter];congr 1
  funext b
  by_cases e:b.2.1=d
  ·simp[Cy,e];exact i
  ·simp[Cy,e]
 ·rw[h.perm.length_eq];exact kU _ _
end Tr
open Go.RowKit
variable {w wr:World}{a b j:Nat}{v:Value}{l n:gZ}
theorem Xg{e:TypeId}{A:hH}(h:w.ownsRow a e b v j A):∀c∈blk v,a<=c:=fun c d=>(xF h c (Aj.1 d)).1
theorem Cv(a:gY):(Ab a).length=a.length:=by simp[Ab]
theorem Bd(a:gZ):(Ac a).length=a.length:=by simp[Ac]
theorem MK:∀(h:Nat) (b:hJ) (g:Nat) (c:Tr.Ai h) (m:hF) (w:World),Rep h w g c m->m.Nodup->∀B C,Tr.WF h B C c->Tr.wt h c<=1800000->
  Calls Tryz.prog 64 #[.agg #[B_ b,A_ g]] w fun r o=>∃v s n,r=R_ v/\CtQ h w (Iw h b.data.toList c) v s n o/\(∀a∈n,a∈m\/w.heap.size<=a)/\Below w.heap.size w o
 | 0,b,g,c,m,w,hr,hnd,B,C,_,hwt=>by
  have f:=hr;obtain⟨J,c,q,D,rfl,rfl⟩:=hr;have T:1+2*(c.length-16)<=1800000:=by rw[<-Cv c];exact hwt
  by_cases p:16<c.length
  ·have e:Iw 0 b.data.toList (Ab c)=Fk b.data.toList (shares (Ab c) 16):=Ww (l:=Ab c) (by show 16<(Ab c).length;rw[Cv];exact p);rw[e];exact(Abd b g J c w q D p O_).mono fun r o ⟨v,s,n,j,k,l,i⟩=>⟨v,s,n,j,k,fun a d=> .inr (l a d),i⟩
  ·have e:Iw 0 b.data.toList (Ab c)=[(b.data.toList,Ab c)]:=Qi (l:=Ab c) (by show ¬16<(Ab c).length;rw[Cv];exact p);rw[e];obtain⟨i,t,rfl⟩:=Ad D;refine(Wt b g i none c.length 0 t 0 _ w q O_ O_).mono fun r o ⟨v,j,k,l⟩=>⟨v,_,_,j,⟨k,⟨rfl,_,[],f.keep fun a d=>l.block a (f.lt a d),rfl,(yC _).symm⟩,?_⟩,fun a d=> .inl d,l⟩
   refine xO.2 ⟨Dg v,hnd,fun i u y z A=> ?_⟩;have:=Xg k i u;have:=f.lt y z;omega
 | h+1,b,g,(ps,cs),m,w,hr,hnd,B,C,hw,hwt=>by
  have f:=hr;obtain⟨L,M,C,m,W,q,F,N,rfl,G,rfl⟩:=hr;have H:(Ac m).length+wts ps<=1800000:=xI (Afm ps _) hwt;rw[Bd]at H;have U:ps.length<=wts ps:=Kk hw.1;have V:=G.len;by_cases p:4<ps.length
  ·have e:Iw (h+1) b.data.toList (ps,Ac m)=Hb (shares ps 4) (Ac m):=Rx p;rw[e];have I:=xO.1 (xO.1 (yV.1 hnd).2).2.1;refine(Abe b g L M C m w q F N O_ O_ O_).mono fun r o ⟨v,s,_,_,_,j,B⟩=> ?_
   obtain⟨n,O,R,S⟩:=Aec G I.2.1 (fun a d=>f.lt a (by simp[d])) O_ B;exact⟨v,s,n,j,⟨B.row,O,R⟩,fun a d=>(S a d).imp (fun A=>by simp[A]) id,B.bel⟩
  ·have e:Iw (h+1) b.data.toList (ps,Ac m)=[(b.data.toList,Tr.brT ps (Ac m))]:=Nk p;rw[e];obtain⟨i,t,rfl⟩:=Ad F;refine(Wt b g none i 0 C.length 0 t _ w q O_ O_).mono fun r o ⟨v,j,k,l⟩=>⟨v,_,_,j,⟨k,⟨rfl,_,[],f.keep fun a d=>l.block a (f.lt a d),rfl,(yC _).symm⟩,?_⟩,fun a d=> .inl d,l⟩
   refine xO.2 ⟨Dg v,hnd,fun i u y z A=> ?_⟩;have:=Xg k i u;have:=f.lt y z;omega
theorem wgC:∀(ml:gZ) (i:Nat),i<ml.length->∀(c:Int×ByteArray×ByteArray),Cd (ml.set i c)=(((Cd ml).set (i*3) (J_ c.1)).set (i*3+1) (B_ c.2.1)).set (i*3+2) (B_ c.2.2)
 | [],_,hi,_=>by simp at hi
 | d::r,0,_,c=>rfl
 | d::r,i+1,hi,c=>by
  have ih:=wgC r i (by simpa using hi) c;have e:∀l,Cd (d::l)=J_ d.1::Value.string d.2.1::Value.string d.2.2::Cd l:=fun l=>rfl
  rw[zE,e,e,ih,show(i+1)*3=i*3+3 by omega];rfl
theorem Bb.set(h:Bb 0 w (L_ (P_ a) j b) l)(c:Nat)(i:c<l.length)(d:Int×ByteArray×ByteArray):Bb 0 (((w.setCell (Q_ a (c*3)) (J_ d.1)).setCell (Q_ a (c*3+1)) (B_ d.2.1)).setCell (Q_ a (c*3+2)) (B_ d.2.2)) (L_ (P_ a) j b) (l.set c d):=by obtain⟨k,m,f⟩:=Ad h;simp only[xJ]at f;obtain⟨-,rfl,-⟩:=f;have g:=Gx (Gx (Gx h (c*3) (J_ d.1)) (c*3+1) (B_ d.2.1)) (c*3+2) (B_ d.2.2);unfold Bb;rw[jV];have e:Cd (l.set c d)=(((Cd l).set (c*3) (J_ d.1)).set (c*3+1) (B_ d.2.1)).set (c*3+2) (B_ d.2.2):=wgC l c i d;rw[e];exact g
theorem Bb.froz(h:Bb 0 w (L_ (P_ a) j b) l)(s:0<l.length)(d:Nat):w.frozen? (Q_ a d)=false:=by
 rcases h.2 with⟨f,g⟩|⟨i,k,m,e,n,c,o,p,q,r⟩
 ·omega
 ·simp only[xJ,xX,yT,yG]at e;obtain⟨rfl,-,rfl⟩:=e;simp[World.frozen?,c]
theorem AI(b:gZ)(c:Nat)(a:Int×ByteArray×ByteArray):Ac (b.set c a)=(Ac b).set c (a.1,a.2.1.data.toList,a.2.2.data.toList):=by unfold Ac;rw[qX]
theorem Jy(b:gZ)(c:a<b.length):Hp.nth (0,[],[]) (Ac b) a=((b[a]'c).1,(b[a]'c).2.1.data.toList,(b[a]'c).2.2.data.toList):=by rw[Hp.Eu _ _ (by rw[Bd];exact c)];simp[Ac]
structure SrM(w:World)(v:Value)(ml ml':gZ)(wr:World):Prop where
 row:Bb 0 wr v ml'
 stb:Stb (Ac ml) (Ac ml')
 mod:Mod (fun g=>v.ownBlock=some g) w wr
theorem SrM.len(h:SrM w v l n wr):n.length=l.length:=by rw[<-Bd n,<-Bd l];exact h.stb.perm.length_eq
theorem SrM.below{B:World}(h:SrM w v l n wr)(b:Below wr.heap.size wr B):SrM w v l n B:=
 ⟨Ae h.row b X_,h.stb,h.mod.trans (Mod.of_below (F:=fun _=>False) b) (fun _ _ a=>a) (fun _ _ a=>a.elim)⟩
def sw6(w:World)(g j:Nat)(c0 c1:Int×ByteArray×ByteArray):World:=(((((w.setCell (Q_ g ((j+1)*3)) (J_ c0.1)).setCell (Q_ g ((j+1)*3+1)) (B_ c0.2.1)).setCell (Q_ g ((j+1)*3+2)) (B_ c0.2.2)).setCell (Q_ g (j*3)) (J_ c1.1)).setCell (Q_ g (j*3+1)) (B_ c1.2.1)).setCell (Q_ g (j*3+2)) (B_ c1.2.2)
theorem Mod.set3(w:World)(b c:Nat)(d f g:Value):Mod (fun a=>a=b) w (((w.setCell (Q_ b c) d).setCell (Q_ b (c+1)) f).setCell (Q_ b (c+2)) g):=
 ((Mod.setCell w b c d).trans (Mod.setCell _ b (c+1) f) (fun _ _ a=>a) (fun _ _ a=>a)).trans (Mod.setCell _ b (c+2) g) (fun _ _ a=>a) (fun _ _ a=>a)
theorem SrM.swap{i:Nat}(h:SrM w (L_ (P_ a) i b) l n wr)(j:Nat)(f:j+1<n.length)(k:j<n.length){C D:Int×ByteArray×ByteArray}(m:n[j]'k=C)(o:n[j+1]'f=D)(z:D.2.1.data.toList<C.2.1.data.toList):
  SrM w (L_ (P_ a) i b) l ((n.set (j+1) C).set j D) (sw6 wr a j C D).drew/\Ac ((n.set (j+1) C).set j D)=Hp.swL (0,[],[]) (Ac n) j (j+1):=by
 have e:Ac ((n.set (j+1) C).set j D)=Hp.swL (0,[],[]) (Ac n) j (j+1):=by unfold Hp.swL;rw[AI,AI,Jy n f,Jy n k,m,o,List.set_comm _ _ (show j+1≠j by omega)]
 have p:Bb 0 (sw6 wr a j C D) (L_ (P_ a) i b) ((n.set (j+1) C).set j D):=by have q:=Bb.set h.row (j+1) f C;have r:=Bb.set q j (by rw[jV];exact k) D;unfold sw6;exact r
 refine⟨⟨(show Bb 0 (World.drew (sw6 wr a j C D)) _ _ by generalize sw6 wr a j C D=y at*;exact p),?_,?_⟩,e⟩
 ·rw[e];refine h.stb.swap _ (by rw[Bd];exact f) ?_;rw[Jy n f,Jy n k,m,o];exact z
 ·have s:=Mod.set3 wr a ((j+1)*3) (J_ C.1) (B_ C.2.1) (B_ C.2.2);have t:=Mod.set3 (((wr.setCell (Q_ a ((j+1)*3)) (J_ C.1)).setCell (Q_ a ((j+1)*3+1)) (B_ C.2.1)).setCell (Q_ a ((j+1)*3+2)) (B_ C.2.2)) a (j*3) (J_ D.1) (B_ D.2.1) (B_ D.2.2);have u:Mod (fun g=>g=a) wr (sw6 wr a j C D):=s.trans t (fun _ _ c=>c) (fun _ _ c=>c);have d:Mod (fun g=>(Value.slice (P_ a) i b).ownBlock=some g) w (sw6 wr a j C D):=h.mod.trans u (fun _ _ c=>c) (fun g _ c=>by rw[c];rfl);generalize sw6 wr a j C D=y at*;exact⟨d.os,d.tape,d.output,d.size,d.block⟩
