import Derived.Test.YtolgpnaoaodepaaGreatTreZAm
namespace Go.Proofs.YtolgpnaoaodepaaGreat
open Tr
namespace Tr
variable {i:List It}{a c:Key}{f b:Option Key}{α β:Type}{h:Nat}{l:Ai 0}{m:List Ch}
theorem DY(a:List It)(b:List (List It)):Fk (Ws a) (a::b)=Rv (a::b):=rfl
theorem OS(h:i≠[]):∃x,x∈i/\x.1=Ws i:=by
 cases i with
 | nil=>exact absurd rfl h
 | cons x r=>exact⟨x,xU ..,rfl⟩
theorem Aed(c:Cb i){x:It}(a:x∈i):¬x.1<Ws i:=by
 cases i with
 | nil=>cases a
 | cons y r=>
  show ¬x.1<y.1;rcases xG.1 a with rfl|a
  ·exact lt_ir _
  ·exact fun b=>lt_ir _ (Ei b ((zJ.1 c).1 x a))
theorem DZ{b:Option Key}:∀(a:List (List It)) (c:Key),a≠[]->room c b->(∀l∈a,l≠[]/\l.length<=16)->Cb a.flatten->(∀x∈a.flatten,inR c b x.1/\Ae4 x)->Bu (fun f g d=>WF 0 f g d/\Top 0 d) (some c) b (Fk c a)
 | [],_,h,_,_,_,_=>absurd rfl h
 | [l],c,_,hr,hl,hR,hI=>by
  have e:[l].flatten=l:=D_;rw[e]at hR hI;exact⟨rfl,b,hr,⟨⟨hR,hI⟩,(hl l (xU ..)).2⟩,rfl⟩
 | l::l2::r,c,_,hr,hl,hR,hI=>by
  rw[yO]at hR hI;have f:=jN.1 hR;have q:=hl l2 (xZ _ (xU ..));obtain⟨d,n,g⟩:=OS q.1;have j:d∈(l2::r).flatten:=by rw[yO];exact yN _ n
  have k:∀x∈l,x.1<Ws l2:=fun x a=>by rw[<-g];exact f.2.2 x a d j
  obtain⟨o,p,t⟩:=OS (hl l (xU ..)).1;have s:room c (some (Ws l2)):=fun i c=>by rw[<-xM c];exact⟨DF (hI o (yN _ p)).1.1 (k o p),by rw[<-g];exact(hI d (yE _ j)).2.1⟩
  have m:=(hI d (yE _ j)).1;rw[g]at m;refine⟨rfl,some (Ws l2),s,⟨⟨f.1,fun x a=>⟨⟨(hI x (yN _ a)).1.1,fun i c=>by rw[<-xM c];exact k x a⟩,(hI x (yN _ a)).2⟩⟩,(hl l (xU ..)).2⟩,?_⟩;rw[<-DY];refine DZ (l2::r) (Ws l2) D_ (fun i c=>⟨m.2 i c,(hr i c).2⟩) (fun i c=>hl i (xZ _ c)) f.2.1 (fun x a=>⟨⟨?_,(hI x (yE _ a)).1.2⟩,(hI x (yE _ a)).2⟩);have c:=f.2.1;rw[yO]at a c;rcases xE.1 a with a|a
  ·exact Aed (jN.1 c).1 a
  ·exact fun i=>lt_ir _ (Ei i (by rw[<-g];exact(jN.1 c).2.2 d n x a))
def its(t:Ai 0):List It:=t
def flat0:List (Key×Ai 0)->List It
 | []=>[]
 | p::r=>its p.2++flat0 r
theorem Wu:∀(b a:List (Key×Ai 0)),flat0 (b++a)=flat0 b++flat0 a
 | [],_=>rfl
 | p::r,a=>by rw[jF,flat0,flat0,Wu r a,xT]
theorem Wv:∀(a:List (List It)),flat0 (Rv a)=a.flatten
 | []=>rfl
 | l::r=>by rw[yO,<-Wv r];rfl
theorem BA(b:Key)(a:List (List It)):flat0 (Fk b a)=a.flatten:=by
 cases a with
 | nil=>rfl
 | cons l r=>rw[yO,<-Wv r];rfl
theorem EA{b f:Option Key}:∀{c:List (Key×Ai 0)},Bu (fun i j a=>WF 0 i j a/\Top 0 a) b f c->∀x∈flat0 c,(∀g,b=some g->¬x.1<g)/\(∀d,f=some d->x.1<d)/\b≠none
 | [],_,x,c=>by cases c
 | (i,a)::r,⟨e,j,h1,h2,h3⟩,x,c=>by
  have m:x∈its a++flat0 r:=c;rcases xE.1 m with c|c
  ·have l:=(h2.1.2 x c).1;refine⟨fun g a=> ?_,fun d i=> ?_,by rw[e];simp⟩
   ·rw[e]at a;rw[<-xM a];exact l.1
   ·obtain⟨g,a,n⟩:=Nc h3 d i;exact Kz (l.2 g a) n
  ·have i:=EA h3 x c;refine⟨fun g a=> ?_,i.2.1,by rw[e];simp⟩;rw[e]at a;rw[<-xM a]
   cases k:j with
   | none=>exact absurd k i.2.2
   | some d=>exact VX (fun j=>lt_ir _ (Ei j (h1 d k).1)) (i.1 d k)
theorem Abf{p:List (Key×Ai 0)}(h:Bu (fun i l g=>WF 0 i l g/\Top 0 g) (some a) f p)(z:inR a f c):val 1 (p,[]) c=Ce (flat0 p) c:=by
 obtain⟨j,i,g,k,l,rfl,t,A,B,r,u,y⟩:=Gl h z;rw[Uu t,Qa];have s:flat0 (j++(i,g)::k)=flat0 j++(its g++flat0 k):=by rw[Wu];rfl
 rw[s,Hg,Hg,Df (l:=flat0 j),Df (l:=flat0 k)]
 ·rw[bV,Option.or_none];rfl
 ·intro x m n;have d:=EA y x m
  cases o:l with
  | none=>exact d.2.2 o
  | some b=>
   have q:=d.1 b o;rw[n]at q;exact q (r.2 b o)
 ·intro x m n;have d:=(EA u x m).2.1 i rfl;rw[n]at d;exact r.1 d
def nxt{α:Type}(B:List (Key×α))(hi:Option Key):Option Key:=match B with
 | []=>hi
 | (f,_)::_=>some f
theorem Hv{k:Key->Option Key->α->Prop}{q:List (Key×α)}(h:Bu k b f q):b=nxt q f:=by
 cases q with
 | nil=>exact h
 | cons p r=>exact h.1
theorem JA{α β:Type}{k:Key->Option Key->α->Prop}{p:Key->Option Key->β->Prop}{b:Option Key}(m:Nat->α->β):∀(d:List (Key×α)) (c:Nat) (o:Option Key),Bu k o b d->(∀(j:List (Key×α)) i l (n:List (Key×α)) g,d=j++(i,l)::n->room i g->k i g l->g=nxt n b->p i g (m (c+j.length) l))->Bu p o b ((d.mapIdx fun f d=>(d.1,m (c+f) d.2)))
 | [],_,_,h,_=>h
 | (i,l)::r,c,o,⟨e,g,h1,h2,h3⟩,hR=>by
  rw[List.mapIdx_cons];refine⟨e,g,h1,by have:=hR [] i l r g rfl h1 h2 (Hv h3);simpa using this,?_⟩;have:=JA m r (c+1) g h3 (fun j g o n q s t u y=>by have:=hR ((i,l)::j) g o n q (by rw[s];rfl) t u y;rw[xH]at this;rw[show c+1+j.length=c+(j.length+1)by omega];exact this);have g:(fun(f:Nat) (d:Key×α)=>(d.1,m (c+1+f) d.2))=fun f d=>(d.1,m (c+(f+1)) d.2):=by funext f d;rw[show c+1+f=c+(f+1)by omega]
  rw[g]at this;exact this
theorem Qh{h:Nat}{l:Key->Option Key->Ai h->Prop}{b:Option Key}:∀(c:List (List (Key×Ai h))) (a:Key),(∀s∈c,s≠[])->c≠[]->room a b->Bu l (some a) b c.flatten->Bu (fun d k (s:List (Key×Ai h))=>Bu l (some d) k s) (some a) b (c.map fun s=>(Hn s,s))
 | [],_,_,h,_,_=>absurd rfl h
 | [s],a,hs,_,hr,hc=>by
  rw[show[s].flatten=s by simp]at hc;have c:Hn s=a:=by
   cases s with
   | nil=>exact absurd rfl (hs [] (xU ..))
   | cons p r=>exact(xM hc.1).symm
  refine⟨by rw[c],b,?_,?_,rfl⟩
  ·rw[c];exact hr
  ·rw[c];exact hc
 | s::s2::r,a,hs,_,hr,hc=>by
  rw[yO]at hc;obtain⟨k,g,d⟩:=Ca.1 hc;have c:Hn s=a:=by
   cases s with
   | nil=>exact absurd rfl (hs [] (xU ..))
   | cons p f=>exact(xM g.1).symm
  have u:k=some (Hn s2):=by
   have j:=hs s2 (xZ _ (xU ..))
   cases s2 with
   | nil=>exact absurd rfl j
   | cons p f=>rw[yO]at d;exact d.1
  subst u;have y:a<Hn s2:=by
   cases s with
   | nil=>exact absurd rfl (hs [] (xU ..))
   | cons p f=>
    obtain⟨e,A,m,_,n⟩:=g;obtain⟨i,o,q⟩:=Nc n (Hn s2) rfl;have:=(m i o).1;rw[<-xM e]at this;exact Kz this q
  have z:room (Hn s2) b:=fun t a=>by
   have j:=hs s2 (xZ _ (xU ..))
   cases s2 with
   | nil=>exact absurd rfl j
   | cons p f=>
    rw[yO]at d;obtain⟨e,A,m,_,n⟩:=d;obtain⟨i,o,q⟩:=Nc n t a;exact⟨Kz (m i o).1 q,(hr t a).2⟩
  refine⟨by rw[c],some (Hn s2),fun t a=> ?_,?_,Qh (s2::r) (Hn s2) (fun f t=>hs f (xZ _ t)) D_ z d⟩
  ·rw[c,<-xM a];exact⟨y,IS g (hs s (xU ..)) _ rfl⟩
  ·rw[c];exact g
def brT{h:Nat}(s:List (Key×Ai h))(cs:List Ch):Ai (h+1):=(s,cs)
theorem Aee{γ:Type}(c:α->β)(d:Nat->α->γ)(f:Nat->β->γ)(h:∀a b,d a b=f a (c b))(b:List α):b.mapIdx d=(b.map c).mapIdx f:=by
 refine wY D_ fun a a a=> ?_
 simp[h]
theorem JB(b:List (List (Key×Ai h)))(f:List Ch):Hb b f=((b.map fun a=>(Hn a,a)).mapIdx fun c d=>(d.1,brT d.2 (f.filter fun d=>decide (ix (b.map Hn) d.2.1=0+c)))):=
 Aee (fun a=>(Hn a,a)) _ _ (fun c a=>by rw[zR];rfl) b
theorem LP(c:List (List (Key×Ai h)))(g:Key)(k:List Ch)(p:∀a∈c,a≠[]/\a.length<=4)(h0:c≠[])(L:room g b)(M:Bu (fun f j i=>WF h f j i/\Top h i) (some g) b c.flatten)(q:∀d∈k,inR g b d.2.1/\Kv d)(N:k.length<=8):Bu (fun f j i=>WF (h+1) f j i/\Top (h+1) i) (some g) b (Hb c k):=by
 have l:=Qh c g (fun a i=>(p a i).1) h0 L M;have r:(c.map fun a=>(Hn a,a)).map (·.1)=c.map Hn:=by rw[zW];rfl
 rw[JB];refine JA (fun m a=>brT a (k.filter fun d=>decide (ix (c.map Hn) d.2.1=m))) (c.map fun a=>(Hn a,a)) 0 (some g) l (fun H f a I j e j m J=> ?_);have s:a∈c:=by
  have:(f,a)∈c.map fun a=>(Hn a,a):=by rw[e];simp
  obtain⟨j,y,i⟩:=xL.1 this;have:=(bW i).2;rw[<-this];exact y
 refine⟨⟨m,fun d n=> ?_⟩,(p a s).2,xI (kU _ _) N⟩;obtain⟨m,z⟩:=vT.1 n;have t:=jZ z;refine⟨?_,(q d m).2⟩;obtain⟨A,B,j,n,C,D,o,O,R,F,S,G⟩:=Gl l (q d m).1;rw[r,t,zR]at o;have u:A=H/\(B,j)::n=(f,a)::I:=bD (D.symm.trans e) o.symm;have a:=bE u.2;have d:C=nxt n b:=Hv G;rw[a.2,<-J]at d;rw[<-d,<-(bW a.1).1];exact F
theorem OT{α:Type}{R:Key->Option Key->α->Prop}{hi:Option Key}{f:Key}{t:α}{B:List (Key×α)}{k:Key}(d:inR f (nxt B hi) k):∀(c:List (Key×α)) (j:Option Key),Bu R j hi (c++(f,t)::B)->ix ((c++(f,t)::B).map (·.1)) k=c.length
 | [],_,_=>by
  cases B with
  | nil=>rfl
  | cons p r=>
   show ix (f::p.1::r.map (·.1)) k=0;rw[ix,xD (d.2 p.1 rfl)]
 | [a],j,⟨_,_,_,_,_⟩=>by have g:=OT d [] _ V_;show ix (a.1::f::B.map (·.1)) k=1;rw[ix,xB d.1];have i:ix (f::B.map (·.1)) k=0:=g;rw[i]
 | a::b::c,j,⟨_,m,_,_,h3⟩=>by
  have g:=OT d (b::c) m h3;show ix (a.1::b.1::(c++(f,t)::B).map (·.1)) k=c.length+1+1;have n:¬k<b.1:=by obtain⟨u,j,y⟩:=Ca.1 h3;have o:u=some f:=y.1;obtain⟨z,l,A⟩:=Nc j f o;have q:m=some b.1:=j.1;rw[q]at l;have s:b.1=z:=xM l;rw[s];exact VX A d.1
  rw[ix,xB n];have i:ix (b.1::(c++(f,t)::B).map (·.1)) k=c.length+1:=g;rw[i]
theorem EB(a b:List (Key×α))(c:Option Key):nxt (a++b) c=nxt a (nxt b c):=by
 cases a with
 | nil=>rfl
 | cons p r=>rfl
theorem YK{a:α->β}:∀{b:List α} {c d:List β} {f:β},b.map a=c++f::d->∃g x i,b=g++x::i/\g.map a=c/\a x=f/\i.map a=d:=by intro b c d f h;obtain⟨g,n,rfl,i,j⟩:=List.map_eq_append_iff.1 h;obtain⟨x,k,rfl,l,m⟩:=List.map_eq_cons_iff.1 j;exact⟨g,x,k,rfl,i,l,m⟩
theorem OU(a:List (List (Key×Ai h)))(b:List Ch):(Hb a b).map (·.1)=a.map Hn:=by
 refine wY (by simp[Hb]) fun c c c=> ?_
 simp[Hb]
theorem TE(l:List (List (Key×Ai h)))(s:Key)(g:List Ch)(A:∀j∈l,j≠[]/\j.length<=4)(h0:l≠[])(a5:room s b)(y:Bu (fun t m f=>WF h t m f/\Top h f) (some s) b l.flatten)(a6:inR s b a):val (h+2) (Hb l g,[]) a=val (h+1) (l.flatten,g) a:=by
 have B:=Qh l s (fun j z=>(A j z).1) h0 a5 y;have C:(l.map fun j=>(Hn j,j)).map (·.1)=l.map Hn:=by rw[zW];rfl
 obtain⟨R,t,j,S,m,T,u,U,a7,V,a8,W⟩:=Gl B a6;obtain⟨c,i,d,rfl,X,Y,Z⟩:=YK T;obtain⟨rfl,rfl⟩:=bW Y;have D:R.length=c.length:=by rw[<-X,xP]
 rw[C,D]at u;have F:val (h+2) (Hb (c++i::d) g,[]) a=val (h+1) (brT i (g.filter fun k=>decide (ix ((c++i::d).map Hn) k.2.1=c.length))) a:=by
  have G:(Hb (c++i::d) g).map (·.1)=(c++i::d).map Hn:=by exact OU _ g
  have H:(Hb (c++i::d) g)[c.length]?=some (Hn i,brT i (g.filter fun k=>decide (ix ((c++i::d).map Hn) k.2.1=c.length))):=by rw[JB];simp
  rw[val,G,u,H,Qa]
 rw[F];obtain⟨o,q,f,n,a0,a1,a2,a9,b0,a3,b1,a4⟩:=Gl U V;subst a1;have I:val (h+1) (brT (o++(q,f)::n) (g.filter fun k=>decide (ix ((c++(o++(q,f)::n)::d).map Hn) k.2.1=c.length))) a=Av (g.filter fun k=>decide (ix ((c++(o++(q,f)::n)::d).map Hn) k.2.1=c.length)) a (val h f a):=Uu a2;rw[I,Hm _ _ _ _ (fun k _ k=>xQ (by rw[k];exact u))];have k:(c++(o++(q,f)::n)::d).flatten=(c.flatten++o)++(q,f)::(n++d.flatten):=D_;rw[k]at y⊢;have J:=OT (R:=fun t m f=>WF h t m f/\Top h f) (hi:=b) (f:=q) (t:=f) (B:=n++d.flatten) (k:=a) (by
  rw[EB];have L:a0=nxt n m:=Hv a4;have M:m=nxt d.flatten b:=by
   have N:m=nxt S b:=Hv W;rw[N,<-Z]
   cases d with
   | nil=>rfl
   | cons s2 r=>
    have O:=(A s2 D_).1
    cases s2 with
    | nil=>exact absurd rfl O
    | cons p z=>rfl
  rw[<-M,<-L];exact a3) (c.flatten++o) (some s) y
 exact(Uu J).symm
theorem Lj(a:List α)(b:Nat)(k:0<b):(∀c∈shares a b,c≠[]/\c.length<=b)/\(shares a b).flatten=a/\(a≠[]->shares a b≠[]):=by
 obtain⟨g,i,d⟩:=Li a b k;refine⟨fun c f=>⟨BM _ a i c f,WA _ a g c f⟩,VZ _ a (fun h=> ?_),fun j e=> ?_⟩
 ·have:a.length=0:=by rcases bR a.length with c|c;exact c;have:=d c;omega
  exact zT this
 ·have f:0<a.length:=kP.2 j;have:=yW List.length e;unfold shares at this;rw[Nj,yU]at this;have:=d f;omega
def Iw:(h:Nat)->Key->Ai h->List (Key×Ai h)
 | 0,f,l=>if 16<(its l).length then Fk f (shares (its l) 16)else[(f,l)]
 | _+1,f,(ps,cs)=>if 4<ps.length then Hb (shares ps 4) cs else[(f,brT ps cs)]
theorem Ww(h:16<(its l).length):Iw 0 a l=Fk a (shares (its l) 16):=xD h
theorem Qi(h:¬16<(its l).length):Iw 0 a l=[(a,l)]:=xB h
theorem Rx{d:List (Key×Ai h)}(b:4<d.length):Iw (h+1) a (brT d m)=Hb (shares d 4) m:=xD b
theorem Nk{d:List (Key×Ai h)}(b:¬4<d.length):Iw (h+1) a (brT d m)=[(a,brT d m)]:=xB b
theorem Nl:∀(h:Nat) {b:Key} {d:Option Key} {c:Ai h},room b d->WF h b d c->Js h c->Bu (fun j k c=>WF h j k c/\Top h c) (some b) d (Iw h b c)
 | 0,b,d,l,hr,hw,_=>by
  by_cases a:16<(its l).length
  ·rw[Ww a];obtain⟨g,f,i⟩:=Lj (its l) 16 Do;refine DZ _ b (i (by intro e;rw[e]at a;simp at a)) hr g ?_ ?_
   ·rw[f];exact hw.1
   ·rw[f];exact hw.2
  ·rw[Qi a];exact⟨rfl,d,hr,⟨hw,aD a⟩,rfl⟩
 | h+1,b,d,(ps,cs),hr,hw,hs=>by
  show Bu (fun j k c=>WF (h+1) j k c/\Top (h+1) c) (some b) d (Iw (h+1) b (brT ps cs));by_cases a:4<ps.length
  ·rw[Rx a];obtain⟨g,f,i⟩:=Lj ps 4 Do;exact LP _ b cs g (i (by intro e;rw[e]at a;simp at a)) hr (by rw[f];exact hw.1) hw.2 hs
  ·rw[Nk a];exact⟨rfl,d,hr,⟨hw,aD a,hs⟩,rfl⟩
theorem Wx(c:Key)(a:Ai h)(b:Key):val (h+1) ([(c,a)],[]) b=val h a b:=rfl
theorem OV:∀(h:Nat) {b:Key} {d:Option Key} {c:Ai h},room b d->WF h b d c->Js h c->∀a,inR b d a->val (h+1) (Iw h b c,[]) a=val h c a
 | 0,b,d,l,hr,hw,hs,a,hk=>by
  have f:=Nl 0 hr hw hs;rw[Abf f hk];by_cases c:16<(its l).length
  ·rw[Ww c,BA,(Lj (its l) 16 Do).2.1];rfl
  ·rw[Qi c];show Ce (its l++[]) a=Ce (its l) a;rw[yC]
 | h+1,b,d,(ps,cs),hr,hw,hs,a,hk=>by
  show val (h+2) (Iw (h+1) b (brT ps cs),[]) a=val (h+1) (brT ps cs) a;by_cases c:4<ps.length
  ·rw[Rx c];obtain⟨d,a,g⟩:=Lj ps 4 Do;rw[TE _ b cs d (g (by intro e;rw[e]at c;simp at c)) hr (by rw[a];exact hw.1) hk,a];rfl
  ·rw[Nk c];rfl
def wts{h:Nat}(ps:List (Key×Ai h)):Nat:=(ps.map fun p=>wt h p.2).sum
theorem Ex(a b:List (Key×Ai h)):wts (a++b)=wts a+wts b:=by simp[wts]
theorem Ey(a:Key×Ai h)(b:List (Key×Ai h)):wts (a::b)=wt h a.2+wts b:=by simp[wts]
theorem Te:wts ([]:List (Key×Ai h))=0:=rfl
theorem Nm(a:List (Key×Ai h))(b:List Ch):wt (h+1) (brT a b)=2*b.length+wts a+((a.length-1)+(2-a.length)):=rfl
theorem Afm(a:List (Key×Ai h))(b:List Ch):b.length+wts a<=wt (h+1) (brT a b):=by rw[Nm];omega
theorem JC{α:Type}(a:α->Nat)(b:Nat):∀d:List α,(d.filter fun c=>decide (a c=b)).length+(d.filter fun c=>decide (a c<b)).length=(d.filter fun c=>decide (a c<b+1)).length
 | []=>rfl
 | c::r=>by
  have f:=JC a b r;rcases aE (a c) b with d|d|d
  ·rw[jU K_,kO K_,kO K_,xH,xH];omega
  ·rw[kO K_,jU K_,kO K_,xH,xH];omega
  ·rw[jU K_,jU K_,jU K_];omega
theorem JD{h:Nat}(f:Ch->Nat)(d:List Ch):∀(g:List (List (Key×Ai h))) (a:Nat),(∀s∈g,2<=s.length)->wts (g.mapIdx fun c s=>(Hn s,brT s (d.filter fun b=>decide (f b=a+c))))+2*(d.filter fun b=>decide (f b<a)).length+g.length<=2*d.length+wts g.flatten+g.flatten.length
 | [],a,_=>by have:=kU (fun b=>decide (f b<a)) d;show 0+_+0<=_+0+0;omega
 | s::r,a,i=>by
  have k:=JD f d r (a+1) fun x g=>i x (xZ _ g)
  have i:=i s (xU ..);rw[List.mapIdx_cons,Ey,yO,Ex,xC,xH];have j:(fun(c:Nat) (g:List (Key×Ai h))=>(Hn g,brT g (d.filter fun b=>decide (f b=a+(c+1)))))=fun c g=>(Hn g,brT g (d.filter fun b=>decide (f b=a+1+c))):=by funext c g;rw[show a+(c+1)=a+1+c by omega]
  rw[j,Nm];have:=JC f a d;rw[jW];omega
theorem Abg{α:Type}:∀(k:Nat) (a:List α),2*k<=a.length->∀c∈sh k a,2<=c.length
 | 0,_,_,c,b=>by cases b
 | k+1,a,hl,c,b=>by
  rw[sh]at b;have d:a.length=2*(k+1)+(a.length-2*(k+1)):=O_;generalize a.length-2*(k+1)=x at d;have f:2<=(a.length+k) / (k+1):=(gU O_).2 O_;have g:(a.length+k) / (k+1)<x+3:=by refine Nat.div_lt_of_lt_mul ?_;have a:x<=(k+1)*x:=Nat.le_mul_of_pos_left _ O_;rw[qG];omega
  rcases xG.1 b with rfl|b
  ·rw[xR];omega
  ·exact Abg k _ (by rw[xY];omega) c b
theorem LQ:∀(h:Nat) (c:Key) (a:Ai h),wts (Iw h c a)+((Iw h c a).length-1)<=wt h a
 | 0,c,l=>by
  by_cases f:16<(its l).length
  ·rw[Ww f];obtain⟨i,j,o⟩:=Lj (its l) 16 Do;have k:∀(d:List (List It)),(∀a∈d,a.length<=16)->wts (Rv d)=d.length:=by
    intro d
    induction d with
    | nil=>intro _;rfl
    | cons a r ih=>
     intro b;show wts (h:=0) ((Ws a,a)::Rv r)=_;rw[Ey,ih fun x g=>b x (xZ _ g),xH];have:=b a (xU ..);show 1+2*(List.length (α:=It) a-16)+r.length=_;omega
   have e:wts (Fk c (shares (its l) 16))=(shares (its l) 16).length:=by
    cases n:shares (its l) 16 with
    | nil=>rfl
    | cons a r=>
     rw[n]at i;have m:=k r fun x g=>(i x (xZ _ g)).2
     have:=(i a (xU ..)).2;show wts (h:=0) ((c,a)::Rv r)=_;rw[Ey,m,xH];show 1+2*(List.length (α:=It) a-16)+r.length=_;omega
   have g:(Fk c (shares (its l) 16)).length=(shares (its l) 16).length:=by
    cases shares (its l) 16 with
    | nil=>rfl
    | cons a r=>simp[Fk,Rv]
   rw[e,g];unfold shares;rw[Nj];show _<=1+2*((its l).length-16);omega
  ·rw[Qi f,Ey,Te];exact Nat.le_refl _
 | h+1,c,(ps,cs)=>by
  show wts (Iw (h+1) c (brT ps cs))+((Iw (h+1) c (brT ps cs)).length-1)<=wt (h+1) (brT ps cs);by_cases f:4<ps.length
  ·rw[Rx f];have j:=(Lj ps 4 Do).2.1;have:=JD (fun a=>ix ((shares ps 4).map Hn) a.2.1) cs (shares ps 4) 0 (Abg _ ps O_);rw[j]at this;have e:(fun(c:Nat) (b:List (Key×Ai h))=>(Hn b,brT b (cs.filter fun a=>decide (ix ((shares ps 4).map Hn) a.2.1=0+c))))=fun c b=>(Hn b,brT b (cs.filter fun a=>decide (ix ((shares ps 4).map Hn) a.2.1=c))):=by
    funext c b;rw[zR]
   rw[e]at this;have g:(Hb (shares ps 4) cs).length=(shares ps 4).length:=(by simp[Hb]);rw[g,Nm];have c:1<=(shares ps 4).length:=(by unfold shares;rw[Nj];omega);have h0:wts (Hb (shares ps 4) cs)+2*(cs.filter fun a=>decide (ix ((shares ps 4).map Hn) a.2.1<0)).length+(shares ps 4).length<=2*cs.length+wts ps+ps.length:=this;omega
  ·rw[Nk f,Ey,Te];exact Nat.le_refl _
theorem Ig{R:Key->Option Key->Ai h->Prop}{lo d:Option Key}{f:Key}{A X B:List (Key×Ai h)}(D:Bu R lo (some f) A)(m:Bu R (some f) b X)(n:Bu R b d B)(o:List Ch){k:Key}(F:inR f b k):val (h+1) (A++X++B,o) k=Av o k (val (h+1) (X,[]) k):=by
 obtain⟨g,i,j,c,t,u,y,G,H,z,I,C⟩:=Gl m F;have l:Bu R lo d (A++X++B):=Ca.2 ⟨b,Ca.2 ⟨some f,D,m⟩,n⟩;subst u;have p:A++(g++(i,j)::c)++B=(A++g)++(i,j)::(c++B):=D_;rw[p]at l⊢;have q:b=nxt B d:=Hv n;have r:t=nxt c b:=Hv C;have s:=OT (R:=R) (hi:=d) (f:=i) (t:=j) (B:=c++B) (k:=k) (by rw[EB,<-q,<-r];exact z) (A++g) lo l;rw[Uu s,Uu y,Qa]
theorem Ah3{m:Option Key}{f:Key}(j:inR a b c):inR a (some f) c\/inR f m c\/∃d,m=some d/\inR d b c:=by
 by_cases i:c<f
 ·exact .inl ⟨j.1,fun d g=>by rw[<-xM g];exact i⟩
 ·cases m with
  | none=>exact .inr (.inl ⟨i,fun d g=>by cases g⟩)
  | some d=>
   by_cases g:c<d
   ·exact .inr (.inl ⟨i,fun k k=>by rw[<-xM k];exact g⟩)
   ·exact .inr (.inr ⟨d,rfl,g,j.2⟩)
theorem Uw{l r:Key->Option Key->Ai h->Prop}{d X Y s:List (Key×Ai h)}(n:Bu l (some a) (some c) d)(o:Bu l (some c) b X)(p:Bu l b f s)(q:Bu r (some a) (some c) d)(t:Bu r (some c) b Y)(u:Bu r b f s)(j:List Ch)(z:∀g,inR c b g->val (h+1) (Y,[]) g=val (h+1) (X,[]) g){g:Key}(A:inR a f g):val (h+1) (d++Y++s,j) g=val (h+1) (d++X++s,j) g:=by
 rcases Ah3 (f:=c) (m:=b) A with i|i|⟨y,rfl,i⟩
 ·have k:=Ig (R:=l) (lo:=some a) (A:=[]) (X:=d) (B:=X++s) (f:=a) rfl n (Ca.2 ⟨b,o,p⟩) j i;have m:=Ig (R:=r) (lo:=some a) (A:=[]) (X:=d) (B:=Y++s) (f:=a) rfl q (Ca.2 ⟨b,t,u⟩) j i;simp only[zI]at k m;rw[xT,xT,k,m]
 ·rw[Ig n o p j i,Ig q t u j i,z g i]
 ·have k:=Ig (R:=l) (lo:=some a) (A:=d++X) (X:=s) (B:=[]) (f:=y) (Ca.2 ⟨_,n,o⟩) p rfl j i;have m:=Ig (R:=r) (lo:=some a) (A:=d++Y) (X:=s) (B:=[]) (f:=y) (Ca.2 ⟨_,q,t⟩) u rfl j i;simp only[yC]at k m;rw[k,m]
end Tr
namespace Ld
open Go.Proofs.YtolgpnaoaodepaaGreat.Tr
variable {a c g j:Key}{h:Nat}
def hiO(hi:Key):Option Key:=if hi=[]then none else some hi
theorem Ry(h:a≠[]):hiO a=some a:=xB h
theorem Rz:Mk a c g↔inR a (hiO c) g:=by
 unfold Mk inR hiO;by_cases h:c=[]
 ·rw[xD h];simp[h]
 ·rw[xB h];constructor
  ·rintro⟨b,d⟩;exact⟨b,fun f f=>by rw[<-xM f];exact d.resolve_left h⟩
  ·rintro⟨b,d⟩;exact⟨b,.inr (d c rfl)⟩
def Cu(lo hi:Key):Bool:=decide (hi=[]) || decide (lo<hi)
theorem OW(h:Cu a c=true)(d:c=[]\/okK c):room a (hiO c):=by
 intro f b;unfold hiO at b;by_cases e:c=[]
 ·rw[xD e]at b;cases b
 ·rw[xB e]at b;rw[<-xM b];unfold Cu at h;simp only[kT,yL,e,false_or]at h;exact⟨h,d.resolve_left e⟩
def pg(P:List (Option Nd))(n:Nat):Nd:=match P[n]? with
 | some (some nd)=>nd
 | _=>(0,[],[],[],[])
theorem La{P:List (Option Nd)}{t:Nat}{u:Nd}(h:P[t]?=some (some u)):pg P t=u:=by unfold pg;rw[h]
def prt{α β:Type}(g:Key->Key->α->β):List Tk->List α->List (Key×β)
 | t::ts,k::ks=>if Cu t.2.1 t.2.2 then(t.2.1,g t.2.1 t.2.2 k)::prt g ts ks else prt g ts ks
 | _,_=>[]
theorem LR{α β:Type}(c:Key->Key->α->β):∀(a:List Tk) (b:List α),(prt c a b).length<=a.length
 | [],_=>by simp[prt]
 | _::_,[]=>by simp[prt]
 | t::a,k::b=>by
  rw[prt];have:=LR c a b;split
  ·rw[xH,xH];omega
  ·rw[xH];omega
def tr(P:List (Option Nd)):(h:Nat)->Key->Key->PT h->Ai h
 | 0,_,_,f=>its (pg P (num 0 f))
 | h+1,lo,hi,(n,ks)=>brT (prt (tr P h) (Fv (pg P n) lo hi) ks) (chs (pg P n))
def eff(P:List (Option Nd)):(h:Nat)->PT h->List Ch
 | 0,f=>(its (pg P (num 0 f))).map fun x=>((1:Int),x.1,x.2)
 | h+1,(n,ks)=>(ks.map (eff P h)).flatten++chs (pg P n)
def BB(P:List (Option Nd)):Prop:=∀(n:Nat) (nd:Nd),P[n]?=some (some nd)->okN nd
theorem Abh(h:Mk a g j)(d:g≠[])(f:c=[]\/g<c):Mk a c j:=⟨h.1,f.imp id fun b=>by
 rcases h.2 with e|e
 ·exact absurd e d
 ·exact Ei e b⟩
theorem Aef(h:Mk g c j)(d:¬g<a):Mk a c j:=⟨fun b=>h.1 (Kz b d),h.2⟩
theorem Ym{P:List (Option Nd)}{h:Nat}(j:∀c d (a:PT h),Dz P h c d a->∀b∈eff P h a,Mk c d b.2.1):∀(i:List Key) (f:hF) (c d:Key) (a:List (PT h)),(∀p∈i,Mk c d p/\okK p)->i.Pairwise (·< ·)->FF (Dz P h) (num h) (List.zipWith (fun b g=>(b,g)) f (Ma c d i)) a->∀b∈(a.map (eff P h)).flatten,Mk c d b.2.1
 | [],[],_,_,a,_,_,hf,b,hc=>by
  cases a with
  | nil=>simp at hc
  | cons k a=>exact hf.elim
 | [],c0::f,c,d,a,_,_,hf,b,hc=>by
  have m:List.zipWith (fun b g=>(b,g)) (c0::f) (Ma c d [])=[(c0,c,d)]:=by simp[Ma]
  rw[m]at hf
  match a,hf with
  | [k],hf=>
   simp only[yD,vH,yO,vG,yC]at hc;exact j c d k hf.1.2 b hc
  | k::k2::a,hf=>exact hf.2.elim
 | p::r,[],c,d,a,_,_,hf,b,hc=>by
  cases a with
  | nil=>simp at hc
  | cons k a=>exact hf.elim
 | p::r,c0::f,c,d,a,hp,hs,hf,b,hc=>by
  match a,hf with
  | k::a,hf=>
   obtain⟨l,o⟩:=hp p (xU ..);have n:=LN o;have i:=zJ.1 hs;simp only[yD,yO]at hc;rcases xE.1 hc with g|g
   ·exact Abh (j c p k hf.1.2 b g) n l.2
   ·refine Aef (Ym j r f p d a (fun x a=>⟨⟨fun c=>lt_ir _ (Ei c (i.1 x a)),(hp x (xZ _ a)).1.2⟩,(hp x (xZ _ a)).2⟩) i.2 hf.2 b g) l.1
theorem OX{P:List (Option Nd)}(f:BB P):∀(h:Nat) (a b:Key) (d:PT h),Dz P h a b d->∀c∈eff P h d,Mk a b c.2.1
 | 0,a,b,d,⟨nd,h1,h2,h3⟩,c,hc=>by rw[eff,La h1]at hc;obtain⟨x,g,rfl⟩:=xL.1 hc;exact h3.1 x g
 | h+1,a,b,(n,ks),⟨nd,h1,h2,h3,h4⟩,c,hc=>by
  rw[eff,La h1]at hc;rcases xE.1 hc with d|d
  ·rcases f n nd h1 with⟨e,_⟩|⟨_,_,_,_,_,i,j,_⟩
   ·rw[h2]at e;exact absurd e Do
   ·exact Ym (OX f h) (pvs nd) (kds nd) a b ks (fun a b=>⟨h3.2.2 a b,j a b⟩) i h4 c d
  ·exact h3.2.1 c d
theorem Yn{P:List (Option Nd)}{h:Nat}{R:Key->Option Key->Ai h->Prop}(m:∀c b (d:PT h),Dz P h c b d->Cu c b=true->(b=[]\/okK b)->R c (hiO b) (tr P h c b d)):∀(j:List Key) (i:hF) (c b:Key) (d:List (PT h)),i.length=j.length+1->(∀p∈j,Mk c b p/\okK p)->j.Pairwise (·< ·)->Cu c b=true->(b=[]\/okK b)->FF (Dz P h) (num h) (List.zipWith (fun f g=>(f,g)) i (Ma c b j)) d->Bu R (some c) (hiO b) (prt (tr P h) (List.zipWith (fun f g=>(f,g)) i (Ma c b j)) d)
 | [],[c0],c,b,d,_,_,_,hro,hkh,hf=>by
  match d,hf with
  | [k],hf=>
   show Bu R (some c) (hiO b) (if Cu c b=true then(c,tr P h c b k)::[]else[]);rw[xD hro];exact⟨rfl,hiO b,OW hro hkh,m c b k hf.1.2 hro hkh,rfl⟩
  | k::k2::d,hf=>exact hf.2.elim
 | p::r,c0::i,c,b,d,hl,hp,hs,hro,hkh,hf=>by
  match d,hf with
  | k::d,hf=>
   obtain⟨s,j⟩:=hp p (xU ..);have n:=LN j;have o:=zJ.1 hs;have t:Cu p b=true:=(by unfold Cu;simpa using s.2);have q:=Yn m r i p b d (by simpa using hl) (fun x l=>⟨⟨fun u=>lt_ir _ (Ei u (o.1 x l)),(hp x (xZ _ l)).1.2⟩,(hp x (xZ _ l)).2⟩) o.2 t hkh hf.2;show Bu R (some c) (hiO b) (if Cu c p=true then(c,tr P h c p k)::prt (tr P h) (List.zipWith (fun f g=>(f,g)) i (Ma p b r)) d else prt (tr P h) (List.zipWith (fun f g=>(f,g)) i (Ma p b r)) d);by_cases b:Cu c p=true
   ·rw[xD b];refine⟨rfl,some p,by rw[<-Ry n];exact OW b (.inr j),?_,q⟩;have:=m c p k hf.1.2 b (.inr j);rw[Ry n]at this;exact this
   ·rw[xB b];have:c=p:=by
     refine tri _ _ (fun c=>b ?_) s.1;unfold Cu;simp[c]
    rw[this];exact q
 | [],[],_,_,_,hl,_,_,_,_,_=>by simp at hl
 | [],_::_::_,_,_,_,hl,_,_,_,_,_=>by simp at hl
 | _::_,[],_,_,_,hl,_,_,_,_,_=>by simp at hl
theorem WE{P:List (Option Nd)}(f:BB P):∀(h:Nat) (b a:Key) (c:PT h),Dz P h b a c->Cu b a=true->(a=[]\/okK a)->WF h b (hiO a) (tr P h b a c)/\Top h (tr P h b a c)
 | 0,b,a,c,⟨nd,h1,h2,h3⟩,_,_=>by
  rw[tr,La h1];rcases f _ nd h1 with⟨_,_,_,_,i,j,d⟩|⟨e,_⟩
  ·exact⟨⟨j,fun x g=>⟨Rz.1 (h3.1 x g),d x g⟩⟩,i⟩
  ·rw[h2]at e;exact absurd e Do
 | h+1,b,a,(n,ks),⟨nd,h1,h2,h3,h4⟩,hro,hkh=>by
  rw[tr,La h1];rcases f n nd h1 with⟨e,_⟩|⟨_,_,_,q,k,l,d,m,o⟩
  ·rw[h2]at e;exact absurd e Do
  ·refine⟨⟨Yn (R:=fun c p g=>WF h c p g/\Top h g) (WE f h) (pvs nd) (kds nd) b a ks k.symm (fun a b=>⟨h3.2.2 a b,d a b⟩) l hro hkh h4,fun a b=>⟨Rz.1 (h3.2.1 a b),o a b⟩⟩,?_,m⟩;refine xI (LR _ _ _) ?_;unfold Fv;rw[bH];omega
theorem LS{a:Key}:∀{b:List It},Cb b->Av (b.map fun x=>((1:Int),x.1,x.2)) a none=Ce b a
 | [],_=>rfl
 | x::r,h=>by
  have c:=zJ.1 h;rw[yD,Ej,Ce];by_cases e:x.1=a
  ·rw[xD e];have b:one a none ((1:Int),x.1,x.2)=some x.2:=(by unfold one;rw[xD e];rfl);rw[b];refine Ff _ _ _ fun d f=> ?_
   obtain⟨d,g,rfl⟩:=xL.1 f;intro i;have:=c.1 d g;rw[e]at this;have f:d.1=a:=i;rw[f]at this;exact lt_ir a this
  ·rw[xB e];have b:one a none ((1:Int),x.1,x.2)=none:=(by unfold one;rw[xB e]);rw[b];exact LS c.2
def YL{h:Nat}(ps:List (Key×Ai h))(k:Key):Option Key:=match ps[ix (ps.map (·.1)) k]? with
 | some p=>val h p.2 k
 | none=>none
theorem YM{n y:Key×Ai h}{d:List (Key×Ai h)}(b:¬a<y.1):YL (n::y::d) a=YL (y::d) a:=by
 unfold YL;have e:ix ((n::y::d).map (·.1)) a=ix ((y::d).map (·.1)) a+1:=by show ix (n.1::y.1::d.map (·.1)) a=_;rw[ix,xB b];rfl
 rw[e];rfl
theorem EC{n:Key×Ai h}{d:List (Key×Ai h)}(f:∀b c,d=b::c->a<b.1):YL (n::d) a=val h n.2 a:=by
 unfold YL;have e:ix ((n::d).map (·.1)) a=0:=by
  cases d with
  | nil=>rfl
  | cons b c=>
   show ix (n.1::b.1::c.map (·.1)) a=0;rw[ix,xD (f b c rfl)]
 rw[e];rfl
theorem OY{P:List (Option Nd)}{h:Nat}{k:Key}(s:∀a b (d:PT h),Dz P h a b d->∀c∈eff P h d,Mk a b c.2.1)(t:∀a b (d:PT h),Dz P h a b d->Mk a b k->(b=[]\/okK b)->val h (tr P h a b d) k=Av (eff P h d) k none):∀(j:List Key) (g:hF) (a b:Key) (f:List (PT h)),g.length=j.length+1->(∀p∈j,Mk a b p/\okK p)->j.Pairwise (·< ·)->Cu a b=true->Mk a b k->(b=[]\/okK b)->FF (Dz P h) (num h) (List.zipWith (fun c d=>(c,d)) g (Ma a b j)) f->∃o i,prt (tr P h) (List.zipWith (fun c d=>(c,d)) g (Ma a b j)) f=(a,o)::i/\YL ((a,o)::i) k=Av ((f.map (eff P h)).flatten) k none
 | [],[c0],a,b,f,_,_,_,hro,hk,hkh,hf=>by
  match f,hf with
  | [kid],hf=>
   refine⟨tr P h a b kid,[],?_,?_⟩
   ·show(if Cu a b=true then(a,tr P h a b kid)::[]else[])=_;rw[xD hro]
   ·rw[EC (by intro d m e;cases e)];simp only[yD,vH,yO,vG,yC];exact t a b kid hf.1.2 hk hkh
  | k::k2::f,hf=>exact hf.2.elim
 | p::i,c0::g,a,b,f,hl,hp,hs,hro,hk,hkh,hf=>by
  match f,hf with
  | kid::f,hf=>
   obtain⟨z,A⟩:=hp p (xU ..);have C:=LN A;have n:=zJ.1 hs;have u:Cu p b=true:=(by unfold Cu;simpa using z.2);have q:∀x∈i,Mk p b x/\okK x:=fun x j=>⟨⟨fun l=>lt_ir _ (Ei l (n.1 x j)),(hp x (xZ _ j)).1.2⟩,(hp x (xZ _ j)).2⟩
   have D:prt (tr P h) (List.zipWith (fun c d=>(c,d)) (c0::g) (Ma a b (p::i))) (kid::f)=if Cu a p=true then(a,tr P h a p kid)::prt (tr P h) (List.zipWith (fun c d=>(c,d)) g (Ma p b i)) f else prt (tr P h) (List.zipWith (fun c d=>(c,d)) g (Ma p b i)) f:=rfl
   rw[D];simp only[yD,yO];rw[Fz];by_cases j:k<p
   ·have l:Cu a p=true:=by
     unfold Cu;have:a<p:=DF hk.1 j;simp[this]
    rw[xD l];refine⟨_,_,rfl,?_⟩;have F:Mk a p k:=⟨hk.1,.inr j⟩;have G:∀d m,prt (tr P h) (List.zipWith (fun c d=>(c,d)) g (Ma p b i)) f=d::m->k<d.1:=(by intro d m e;have y:=Yn (R:=fun _ _ _=>True) (fun _ _ _ _ _ _=>trivial) i g p b f (by simpa using hl) q n.2 u hkh hf.2;rw[e]at y;have:=y.1;rw[<-xM this];exact j);rw[EC G,t a p kid hf.1.2 F (.inr A)]
    symm
    refine Ff _ _ _ fun c r e=> ?_
    have:=Ym s i g p b f q n.2 hf.2 c r;exact this.1 (by rw[e];exact j)
   ·have H:Mk p b k:=⟨j,hk.2⟩;obtain⟨o,m,I,B⟩:=OY s t i g p b f (by simpa using hl) q n.2 u H hkh hf.2;have f:Av (eff P h kid) k none=none:=Ff _ _ _ fun c r e=>by
     have:=s a p kid hf.1.2 c r;rcases this.2 with b|b
     ·exact C b
     ·exact j (by rw[<-e];exact b)
    rw[f,I];by_cases l:Cu a p=true
    ·rw[xD l];refine⟨_,_,rfl,?_⟩;rw[YM j];exact B
    ·rw[xB l];have c:a=p:=by
      refine tri _ _ (fun b=>l ?_) z.1;unfold Cu;simp[b]
     exact⟨o,m,by rw[c],by rw[c];exact B⟩
 | [],[],_,_,_,hl,_,_,_,_,_,_=>by simp at hl
 | [],_::_::_,_,_,_,hl,_,_,_,_,_,_=>by simp at hl
 | _::_,[],_,_,_,hl,_,_,_,_,_,_=>by simp at hl
theorem TF{P:List (Option Nd)}(f:BB P)(c:Key):∀(h:Nat) (b a:Key) (d:PT h),Dz P h b a d->Mk b a c->(a=[]\/okK a)->val h (tr P h b a d) c=Av (eff P h d) c none
 | 0,b,a,d,⟨nd,h1,h2,h3⟩,_,_=>by
  rw[tr,eff,La h1];rcases f _ nd h1 with⟨_,_,_,_,_,k,_⟩|⟨e,_⟩
  ·exact(LS k).symm
  ·rw[h2]at e;exact absurd e Do
 | h+1,b,a,(n,ks),⟨nd,h1,h2,h3,h4⟩,hk,hkh=>by
  rw[tr,eff,La h1,Fz];rcases f n nd h1 with⟨e,_⟩|⟨_,_,_,_,l,m,o,_,_⟩
  ·rw[h2]at e;exact absurd e Do
  ·have g:Cu b a=true:=by
    unfold Cu;rcases hk.2 with d|d
    ·simp[d]
    ·have:=DF hk.1 d;simp[this]
   obtain⟨p,q,i,j⟩:=OY (k:=c) (OX f h) (TF f c h) (pvs nd) (kds nd) b a ks l.symm (fun a b=>⟨h3.2.2 a b,o a b⟩) m g hk hkh h4;rw[<-j,<-i];rfl
theorem Abi{P:List (Option Nd)}{h:Nat}(d:∀b c (a:PT h),Dz P h b c a->wt h (tr P h b c a)<=19*(nums h a).length):∀(b:List Tk) (a:List (PT h)),FF (Dz P h) (num h) b a->((prt (tr P h) b a).map fun c=>wt h c.2).sum<=19*(Co h a).length
 | [],[],_=>by simp[prt]
 | t::b,k::a,hf=>by
  have c:=Abi d b a hf.2;have a:=d _ _ k hf.1.2;rw[prt,Gm,xC];split
  ·rw[yD,qZ];simp only;omega
  ·omega
 | [],_::_,h=>h.elim
 | _::_,[],h=>h.elim
theorem Afn{P:List (Option Nd)}(d:BB P):∀(h:Nat) (a b:Key) (c:PT h),Dz P h a b c->wt h (tr P h a b c)<=19*(nums h c).length
 | 0,a,b,c,⟨nd,h1,h2,h3⟩=>by
  rw[tr,La h1];rcases d _ nd h1 with⟨_,_,_,_,g,_⟩|⟨e,_⟩
  ·show 1+2*((its nd).length-16)<=19*1;omega
  ·rw[h2]at e;exact absurd e Do
 | h+1,a,b,(n,ks),⟨nd,h1,h2,h3,h4⟩=>by
  rw[tr,La h1];rcases d n nd h1 with⟨e,_⟩|⟨_,_,_,i,_,_,_,j,_⟩
  ·rw[h2]at e;exact absurd e Do
  ·have:=Abi (Afn d h) _ ks h4;have f:(prt (tr P h) (Fv nd a b) ks).length<=4:=by
    refine xI (LR _ _ _) ?_;unfold Fv;rw[bH];omega
   show 2*(chs nd).length+((prt (tr P h) (Fv nd a b) ks).map fun c=>wt h c.2).sum+(((prt (tr P h) (Fv nd a b) ks).length-1)+(2-(prt (tr P h) (Fv nd a b) ks).length))<=19*(n::Co h ks).length;rw[xH];omega
end Ld
