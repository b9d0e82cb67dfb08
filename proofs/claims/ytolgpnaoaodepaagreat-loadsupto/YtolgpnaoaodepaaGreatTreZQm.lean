import Derived.Test.YtolgpnaoaodepaaGreatTreZLm
set_option maxHeartbeats 1000000
set_option maxRecDepth 20000
namespace Go.Proofs.YtolgpnaoaodepaaGreat
open Tr
namespace Tr
variable {h:Nat}{s t u:Key}{y z:Option Key}{α:Type}
theorem Ac8{L:Key->Option Key->Ai h->Prop}{A:Ai h}{B C:List (Key×Ai h)}(p:Bu L (some s) (some t) B)(q:room t y)(r:L t y A)(g:Bu L y z C)(D:inR s z u):ix ((B++(t,A)::C).map (·.1)) u=B.length↔inR t y u:=by
 have a:Bu L (some s) z (B++(t,A)::C):=Ca.2 ⟨some t,p,rfl,y,q,r,g⟩;have b:y=nxt C z:=Hv g;constructor
 ·intro e;obtain⟨F,G,H,j,k,l,f,I,J,m,M,n⟩:=Gl a D;rw[e]at f;have i:=bD l f;have c:=bE i.2;have d:k=nxt j z:=Hv n;rw[<-c.2,<-b]at d;rw[<-d,(bW c.1).1];exact m
 ·intro o;exact OT (R:=L) (hi:=z) (by rw[<-b];exact o) B (some s) a
theorem Ac9{A M:Ai h}{B C:List (Key×Ai h)}{N:List Ch}(c:Bu (fun t y A=>WF h t y A/\Js h A) (some s) (some t) B)(n:room t y)(q:WF h t y A/\Js h A)(H:WF h t y M/\Js h M)(d:Bu (fun t y A=>WF h t y A/\Js h A) y z C)(I:∀u,inR t y u->val h M u=Av (N.filter fun a=>decide (ix ((B++(t,A)::C).map (·.1)) a.2.1=B.length)) u (val h A u))(r:inR s z u):val (h+1) (brT (B++(t,M)::C) (N.filter fun a=> !decide (ix ((B++(t,A)::C).map (·.1)) a.2.1=B.length))) u=val (h+1) (brT (B++(t,A)::C) N) u:=by
 have o:=Ac8 c n q d r;have i:∀(b:Ai h),B++(t,b)::C=B++[(t,b)]++C:=fun b=>D_
 have l:Bu (fun t y A=>WF h t y A/\Js h A) (some t) y [(t,A)]:=⟨rfl,y,n,q,rfl⟩;have m:Bu (fun t y A=>WF h t y A/\Js h A) (some t) y [(t,M)]:=⟨rfl,y,n,H,rfl⟩;by_cases f:inR t y u
 ·have j:=o.2 f;generalize G:(B++(t,A)::C).map (·.1)=k at*;show val (h+1) (B++(t,M)::C,_) u=val (h+1) (B++(t,A)::C,N) u;rw[i M,i A,Ig c l d N f,Ig c m d _ f,Wx,Wx,I u f,Hm (fun a=>decide (ix k a.2.1=B.length)) N u _ (fun a _ e=>by rw[e];exact xQ j)];exact Ff _ u _ fun a b e=>by have:=(vT.1 b).2;rw[e,j]at this;simp at this
 ·have j:¬ix ((B++(t,A)::C).map (·.1)) u=B.length:=fun b=>f (o.1 b)
  generalize G:(B++(t,A)::C).map (·.1)=k at*;have D:∀g,Av (N.filter fun a=> !decide (ix k a.2.1=B.length)) u g=Av N u g:=fun g=>Hm _ N u g fun a _ e=>by rw[e];simp[j]
  have F:val (h+1) (brT (B++(t,M)::C) (N.filter fun a=> !decide (ix k a.2.1=B.length))) u=val (h+1) (brT (B++(t,M)::C) N) u:=D _;rw[F];show val (h+1) (B++(t,M)::C,N) u=val (h+1) (B++(t,A)::C,N) u;rw[i M,i A];rcases Ah3 (f:=t) (m:=y) r with b|b|⟨p,rfl,b⟩
  ·have a:=Ig (A:=[]) (X:=B) (B:=[(t,A)]++C) (f:=s) rfl c (Ca.2 ⟨y,l,d⟩) N b;have g:=Ig (A:=[]) (X:=B) (B:=[(t,M)]++C) (f:=s) rfl c (Ca.2 ⟨y,m,d⟩) N b;simp only[zI]at a g;rw[xT,xT,a,g]
  ·exact absurd b f
  ·have a:=Ig (A:=B++[(t,A)]) (X:=C) (B:=[]) (f:=p) (Ca.2 ⟨_,c,l⟩) d rfl N b;have g:=Ig (A:=B++[(t,M)]) (X:=C) (B:=[]) (f:=p) (Ca.2 ⟨_,c,m⟩) d rfl N b;simp only[yC]at a g;rw[a,g]
theorem Aca(a:List α)(b:Nat)(h:b<a.length):∃c x d,a=c++x::d/\c.length=b:=⟨a.take b,a[b],a.drop (b+1),by rw[qW,zK],by rw[xR];omega⟩
theorem FN(P:α->Bool)(a:List α):(a.filter P).length+(a.filter fun b=> !P b).length=a.length:=by
 induction a with
 | nil=>rfl
 | cons b r ih=>cases c:P b<;>simp[c]<;>omega
theorem UD{P:α->Bool}{O:List α}{S:α}(a:S∈O)(b:P S=true):0<(O.filter P).length:=kP.2 (List.ne_nil_of_mem (vT.2 ⟨a,b⟩))
end Tr
open Go.RowKit
variable {h d:Nat}{w m r:World}{D:hA}{b k:Tr.Key}{f n p:hF}{c l:Option Tr.Key}{j q:List Tr.Ch}{H I:Value}{J:gY}
theorem QA{g F:List (Tr.Key×Tr.Ai h)}{i:Tr.Ai h}(q:Db (Rep h w) D (g++(b,i)::F) f):∃c x j d k l,D=c++x::j/\c.length=g.length/\Db (Rep h w) c g d/\x.1.data.toList=b/\Rep h w x.2 i k/\Db (Rep h w) j F l/\f=d++(k++l):=by
 obtain⟨c,m,d,r,rfl,n,o,p,rfl⟩:=q.split
 match m,p with
 | x::j,⟨e1,k,l,r1,hB,hG⟩=>exact⟨c,x,j,d,k,l,rfl,n,o,e1,r1,hB,by rw[hG]⟩
theorem ZG(d5:Ub h){w0:World}{a g:List (Tr.Key×Tr.Ai h)}{i:Tr.Ai h}{W:gZ}{vp vc:Value}{T:hA}{x:ByteArray×Nat}(Z:(d::(blk vp++(blk vc++(f++(n++p))))).Nodup)(A:∀j∈d::(blk vp++(blk vc++(f++(n++p)))),j<w.heap.size)(d6:Bf 0 w vp (D++x::T))(b2:Db (Rep h w) D a f)(b3:x.1.data.toList=k)(d7:Rep h w x.2 i n)(b4:Db (Rep h w) T g p)(a0:Tr.Bu (fun k l i=>Tr.WF h k l i/\Tr.Top h i) (some b) (some k) a)(S:Tr.room k l)(H:Tr.WF h k l i/\Tr.Top h i)(a1:Tr.Bu (fun k l i=>Tr.WF h k l i/\Tr.Top h i) l c g)(a2:∀r∈Ac W,Tr.inR b c r.2.1/\Tr.Kv r)(e4:2*W.length+(wts a+(Tr.wt h i+wts g))<=1800000)(U u:Value)(B:World)(a3:Ax B d Z_ vp u)(O:Two w.heap.size B U u (W.filter (atP (D++x::T) a.length)) (W.filter fun r=> !atP (D++x::T) a.length r))(I:Mod (fun j=>j=d) w B)(h0:w0.heap=w.heap)(d8:w0.os=w.os)(d9:w0.tape=w.tape)(e0:w0.output=w.output):
  Calls Tryz.prog 63 #[A_ x.2,U] B fun b0 z=>b0=R_ (.tuple #[])/\∃C m o,Foc h b c d z a k l C g m o/\m.length=(W.filter fun r=> !atP (D++x::T) a.length r).length/\Ia (d::(blk vp++(blk vc++(f++(n++p))))) o w0 z/\2*m.length+(wts a+(Tr.wt h C+wts g))<=2*W.length+(wts a+(Tr.wt h i+wts g))/\∀F,Tr.inR b c F->Tr.val (h+1) (Tr.brT (a++(k,C)::g) m) F=Tr.val (h+1) (Tr.brT (a++(k,i)::g) (Ac W)) F:=by
 have b5:=b2.keys;have b6:=b4.keys;have b7:Cp (D++x::T)=(a++(k,i)::g).map (·.1):=by rw[yX,yD,<-b5,<-b6];show List.map _ _=_;rw[yX,yD,b3];rfl
 have a4:(atP (D++x::T) a.length)=fun r=>(fun r:Tr.Ch=>decide (Tr.ix ((a++(k,i)::g).map (·.1)) r.2.1=a.length)) (r.1,r.2.1.data.toList,r.2.2.data.toList):=by funext r;unfold atP;rw[b7]
 have a5:Ac (W.filter (atP (D++x::T) a.length))=(Ac W).filter fun r=>decide (Tr.ix ((a++(k,i)::g).map (·.1)) r.2.1=a.length):=by rw[a4];exact Kn W (fun r=>decide (Tr.ix ((a++(k,i)::g).map (·.1)) r.2.1=a.length))
 have a6:Ac (W.filter fun r=> !atP (D++x::T) a.length r)=(Ac W).filter fun r=> !decide (Tr.ix ((a++(k,i)::g).map (·.1)) r.2.1=a.length):=by rw[a4];exact Kn W (fun r=> !decide (Tr.ix ((a++(k,i)::g).map (·.1)) r.2.1=a.length))
 have e1:=FN (atP (D++x::T) a.length) W;have V:((d::(blk vp++(blk vc++f)))++(n++p)).Nodup:=by simpa using Z
 have X:=(xO.1 V).2.2;have b8:=(xO.1 (xO.1 V).2.1).2.2;have b9:∀j∈blk vp++(blk vc++(f++(n++p))),j≠d:=fun j o q=>(yV.1 Z).1 (by rw[<-q];exact o)
 have R:∀j∈blk vp++(blk vc++(f++(n++p))),B.heap[j]?=w.heap[j]?:=fun j o=>I.block j (A j (xZ _ o)) (b9 j o)
 have a7:=I.size;have c0:∀j,U.ownBlock=some j->w.heap.size<=j:=fun j o=>(xF O.o j o).1
 have Y:∀j,u.ownBlock=some j->w.heap.size<=j:=fun j o=>(xF O.k j o).1
 refine(d5 x.2 i n B U _ k l (d7.keep fun j o=>R j (by simp[o])) (xO.1 (xO.1 V).2.1).1 H.1 H.2 S (Dp O.o) (fun j o q=> ?_) ?_ ?_).mono ?_
 ·have:=c0 j o;have:=A j (by simp[q]);omega
 ·intro r M;rw[a5]at M;obtain⟨a9,c9⟩:=vT.1 M;exact⟨(Ac8 (Cs a0) S ⟨H.1,H.2.small⟩ (Cs a1) (a2 r a9).1).1 (jZ c9),(a2 r a9).2⟩
 ·omega
 ·rintro b0 z ⟨rfl,C,L,t,e3,b1⟩;rw[a5]at b1;have a8:∀j∈L,j∈n\/w.heap.size<=j:=fun j o=>(t.sub j o).imp id (xI a7)
  have G:∀j,j<B.heap.size->j∉n->z.heap[j]?=B.heap[j]?:=fun j o q=>t.mod.block j o q
  have J:∀j∈d::(blk vp++(blk u++f)),j∉n:=fun j o q=>by
   rcases xG.1 o with m|m
   ·exact X d D_ j (by simp[q]) m.symm
   ·rcases xE.1 m with m|m
    ·exact X j (by simp[m]) j (by simp[q]) rfl
    ·rcases xE.1 m with m|m
     ·have:=Y j (Aj.1 m);have:=A j (by simp[q]);omega
     ·exact X j (by simp[m]) j (by simp[q]) rfl
  have c1:((d::(blk vp++(blk u++f)))++(n++p)).Nodup:=by
   have y:((d::blk vp)++(blk vc++(f++(n++p)))).Nodup:=(by simpa using Z);have:=Ji (N:=w.heap.size) (M':=blk u) y (Dg u) (fun j o=> .inr (Y j (Aj.1 o))) (fun j o=>A j (by simp at o⊢;rcases o with q|q<;>simp[q])) (fun j o=>A j (by simp at o⊢;rcases o with q|q|q<;>simp[q]))
   simpa using this
  have c2:((d::(blk vp++(blk u++f)))++(L++p)).Nodup:=by
   obtain⟨d0,d1,d2⟩:=xO.1 c1;obtain⟨e2,d3,d4⟩:=xO.1 d1;refine xO.2 ⟨d0,xO.2 ⟨t.nd,d3,fun s N c3 y e=> ?_⟩,fun s N c3 y e=> ?_⟩
   ·subst e;rcases a8 s N with q|q
    ·exact d4 s q s y rfl
    ·have:=A s (by simp[y]);omega
   ·subst e;rcases xE.1 y with y|y
    ·rcases t.sub s y with q|q
     ·exact J s N q
     ·have:s<B.heap.size:=by
       rcases xG.1 N with m|m
       ·rw[m];exact a3.lt
       ·rcases xE.1 m with m|m
        ·have:=A s (by simp[m]);omega
        ·rcases xE.1 m with m|m
         ·exact(xF O.k s (Aj.1 m)).2
         ·have:=A s (by simp[m]);omega
      omega
    ·exact d2 s N s (yE _ y) rfl
  have c3:Bf 0 z vp (D++x::T):=Bx d6 fun j o s=>(G j O_ (J j (by simp[Aj.2 o]))).trans (R j (by simp[Aj.2 o]))
  have c4:Bb 0 z u (W.filter fun r=> !atP (D++x::T) a.length r):=Bx (Dp O.k) fun j o s=>G j s (J j (by simp[Aj.2 o]))
  have c5:Db (Rep h z) D a f:=b2.keep fun j o=>(G j (by have:=A j (by simp[o]);omega) (J j (by simp[o]))).trans (R j (by simp[o]))
  have c6:Db (Rep h z) T g p:=b4.keep fun j o=>(G j (by have:=A j (by simp[o]);omega) (fun q=>b8 j q j o rfl)).trans (R j (by simp[o]))
  have c7:Db (Rep h z) (x::T) ((k,C)::g) (L++p):=⟨b3,L,p,t.rep,c6,rfl⟩;have c8:Rep (h+1) z d (Tr.brT (a++(k,C)::g) (Ac (W.filter fun r=> !atP (D++x::T) a.length r))) (d::(blk vp++(blk u++(f++(L++p))))):=
   ⟨vp,u,D++x::T,_,_,(G d a3.lt (J d D_)).trans a3,c3,c4,rfl,c7.append c5,rfl⟩
  refine⟨rfl,C,_,_,⟨c8,by simpa using c2,a0,S,t.wf,t.small,a1,fun r M=> ?_,?_⟩,Bd _,⟨⟨?_,?_,?_,?_,?_⟩,?_⟩,?_,fun F s=> ?_⟩
  ·rw[a6]at M;exact a2 r (vT.1 M).1
  ·rw[Bd];omega
  ·rw[d8];exact t.mod.os.trans I.os
  ·rw[d9];exact t.mod.tape.trans I.tape
  ·rw[e0];exact t.mod.output.trans I.output
  ·rw[h0];exact xI a7 t.mod.size
  ·intro F s N;rw[h0]at s⊢;refine(G F O_ (fun q=>N (by simp[q]))).trans (I.block F s (fun q=>N (by simp[q])))
  ·rw[h0];intro j o;rcases xG.1 o with m|m
   ·exact .inl (by simp[m])
   ·rcases xE.1 m with m|m
    ·exact .inl (by simp[m])
    ·rcases xE.1 m with m|m
     ·exact .inr (Y j (Aj.1 m))
     ·rcases xE.1 m with m|m
      ·exact .inl (by simp[m])
      ·rcases xE.1 m with m|m
       ·exact(a8 j m).imp (fun q=>by simp[q]) id
       ·exact .inl (by simp[m])
  ·rw[Bd];omega
  ·rw[a6];exact Ac9 (Cs a0) S ⟨H.1,H.2.small⟩ ⟨t.wf,t.small⟩ (Cs a1) b1 s
structure AL(h:Nat)(lo:Tr.Key)(hi:Option Tr.Key)(p:Nat)(F:hF)(w:World)(ps:List (Tr.Key×Tr.Ai h))(cs:List Tr.Ch)(w':World)(ps':List (Tr.Key×Tr.Ai h))(cs':List Tr.Ch)(F':hF):Prop where
 rep:Rep (h+1) w' p (Tr.brT ps' cs') F'
 nd:F'.Nodup
 wf:Tr.WF (h+1) lo hi (Tr.brT ps' cs')
 wt:Tr.wt (h+1) (Tr.brT ps' cs')<=Tr.wt (h+1) (Tr.brT ps cs)
 gone:Ia F F' w w'
 val:∀k,Tr.inR lo hi k->Tr.val (h+1) (Tr.brT ps' cs') k=Tr.val (h+1) (Tr.brT ps cs) k
theorem JN{G:Tr.Key->Option Tr.Key->Tr.Ai h->Prop}{a:List (Tr.Key×Tr.Ai h)}(d:Tr.room b c)(f:Tr.Bu G (some b) c a):0<a.length:=by
 cases a with
 | nil=>exact absurd (d b (show some b=c from f).symm).1 (Tr.lt_ir b)
 | cons x r=>simp
theorem Foc.cut{a g:List (Tr.Key×Tr.Ai h)}{i:Tr.Ai h}(m:Foc h b c d w a k l i g j f):
  Tr.WF (h+1) b c (Tr.brT (a++(Iw h k i++g)) j)/\Tr.wt (h+1) (Tr.brT (a++(Iw h k i++g)) j)<=Tr.wt (h+1) (Tr.brT (a++(k,i)::g) j)/\∀n,Tr.inR b c n->Tr.val (h+1) (Tr.brT (a++(Iw h k i++g)) j) n=Tr.val (h+1) (Tr.brT (a++(k,i)::g) j) n:=by
 have o:=Nl h m.rm m.wf m.small;refine⟨⟨Ca.2 ⟨_,m.cA,Ca.2 ⟨_,o,m.cB⟩⟩,m.cc⟩,?_,fun n p=> ?_⟩
 ·have:=LQ h k i;have r:=JN m.rm o;rw[Nm,Nm,Ex,Ex,Ex,Ey,xC,xC,xC,xH];show _<=_+(_+(Tr.wt h i+_))+_;omega
 ·have:=Uw (X:=[(k,i)]) (Y:=Iw h k i) (Cs m.cA) (Yw m.rm ⟨m.wf,m.small⟩) (Cs m.cB) (Cs m.cA) (Cs o) (Cs m.cB) j (fun n q=>by rw[Wx];exact OV h m.rm m.wf m.small n q) p;simpa[Tr.brT]using this
theorem Ns{G:Tr.Key->Option Tr.Key->Tr.Ai h->Prop}{a:List (Tr.Key×Tr.Ai h)}(d:Tr.room b c)(f:Tr.Bu G (some b) c a):0<a.length:=JN d f
structure Ahj(h:Nat)(p:Nat)(w:World)(A:List (Tr.Key×Tr.Ai h))(f:Tr.Key)(t:Tr.Ai h)(B:List (Tr.Key×Tr.Ai h))(cs:List Tr.Ch)(F:hF)(vp vc:Value)(pl:hA)(x:ByteArray×Nat)(hx:A.length<pl.length):Prop where
 nod:Ax w p Z_ vp vc
 row:Bf 0 w vp pl
 at':pl[A.length]'hx=x
 len:pl.length<=20000000
 go:Calls Tryz.prog 64 #[.agg #[B_ x.1,A_ x.2]] w fun r w6=>∃v pl6,r=R_ v/\0<pl6.length/\pl6.length<=20000000/\Bf 0 w6 v pl6/\(∀g,vp.ownBlock=some g->v.ownBlock≠some g)/\Ax w6 p Z_ vp vc/\Bf 0 w6 vp pl/\
  ∀v' w7,HF vp (Ra pl A.length pl6) w6 v' w7->Ax w7 p Z_ vp vc/\∃F',Rep (h+1) (w7.setCell (Q_ p 1) v') p (Tr.brT (A++(Iw h f t++B)) cs) F'/\F'.Nodup/\Ia F F' w (w7.setCell (Q_ p 1) v')
theorem Foc.tail{a g:List (Tr.Key×Tr.Ai h)}{i:Tr.Ai h}(s:Foc h b c d w a k l i g j f):∃o p a9 x U,Ahj h d w a k i g j f o p a9 x U:=by
 have d3:=s.len;have d4:=s.wt;have C:=s.rep.lt;have a3:=s.nd;obtain⟨o,p,a9,c7,y,M,Z,c8,rfl,c9,rfl⟩:=s.rep;obtain⟨t,x,u,z,S,A,rfl,b0,d0,d1,d2,b1,rfl⟩:=QA c9;have d5:=b1.len;have U:a.length<(t++x::u).length:=K_;refine⟨o,p,t++x::u,x,U,M,Z,?_,K_,?_⟩
 ·simp[<-b0]
 have a4:((d::(blk o++(blk p++z)))++(S++A)).Nodup:=by simpa using a3
 have b3:=(xO.1 (xO.1 a4).2.1).1;refine(MK h x.1 x.2 i S w d2 b3 k l s.wf O_).mono ?_;rintro e1 D ⟨v,F,y,rfl,G,a0,H⟩;rw[d1]at G;have b4:0<F.length:=by rw[G.kids.len];exact Ns s.rm (Nl h s.rm s.wf s.small)
 have d6:F.length<=1800000:=by rw[G.kids.len];have d7:(Iw h k i).length<=wts (Iw h k i):=Kk (Nl h s.rm s.wf s.small);have d8:=LQ h k i;omega
 have b5:∀m∈blk v,w.heap.size<=m:=Xg G.row;have O:Ax D d Z_ o p:=(H.block d M.lt).trans M;have b6:Bf 0 D o (t++x::u):=Ae Z H X_;refine⟨v,F,rfl,b4,O_,Dp G.row,fun m n q=> ?_,O,b6,?_⟩
 ·have R:=b5 m (Aj.2 q);have I:=C m (by simp[Aj.2 n]);omega
 intro r B N;have a5:o.ownBlock≠some d:=Bg M Z Do;have J:Mod (fun T=>o.ownBlock=some T) D B:=Mod.of_grown N.g;have a6:Ax B d Z_ o p:=J.nod O a5;have L:=Mod.setCell B d 1 r;have d9:=H.size;have e0:=J.size;have b7:r.ownBlock≠some d:=by
  rcases N.b with q|⟨T,a1,q⟩
  ·rw[q];exact a5
  ·rw[q];intro e;have:=xM e;have:=O.lt;omega
 have b8:Ra (t++x::u) a.length F=t++(F++u):=by unfold Ra;rw[<-b0,jB,xT];congr 1;congr 1;rw[show t++x::u=(t++[x])++u by simp,List.drop_left' D_]
 have b9:Bf 0 B r (t++(F++u)):=by have:=N.o;rw[b8]at this;exact this
 have V:∀m,m<D.heap.size->o.ownBlock≠some m->m≠d->(B.setCell (Q_ d 1) r).heap[m]?=D.heap[m]?:=fun m R I X=>
  (L.block m O_ X).trans (J.block m R I)
 have W:∀m∈blk p++(z++(S++A)),o.ownBlock≠some m/\m≠d:=fun m n=>by have I:=yV.1 a3;have X:=(xO.1 I.2).2.2;exact⟨fun q=>X m (Aj.2 q) m n rfl,fun q=>I.1 (by rw[<-q];exact yE _ n)⟩
 have Y:∀m∈blk p++(z++(S++A)),(B.setCell (Q_ d 1) r).heap[m]?=w.heap[m]?:=fun m n=>by have c0:=C m (by rw[xG];exact .inr (yE _ n));exact(V m O_ (W m n).1 (W m n).2).trans (H.block m c0)
 have a7:∀m∈y,m<D.heap.size:=G.kids.lt;have a8:∀m∈y,o.ownBlock≠some m/\m≠d:=fun m n=>by
  rcases a0 m n with q|q
  ·exact W m (by simp[q])
  ·exact⟨fun e=>by have:=C m (by simp[Aj.2 e]);omega,fun e=>by have:=M.lt;omega⟩
 have c1:Db (Rep h (B.setCell (Q_ d 1) r)) t a z:=d0.keep fun m n=>Y m (by simp[n])
 have c2:Db (Rep h (B.setCell (Q_ d 1) r)) u g A:=b1.keep fun m n=>Y m (by simp[n])
 have c3:Db (Rep h (B.setCell (Q_ d 1) r)) F (Iw h k i) y:=G.kids.keep fun m n=>V m (a7 m n) (a8 m n).1 (a8 m n).2
 refine⟨a6,d::(blk r++(blk p++(z++(y++A)))),⟨r,p,t++(F++u),c7,z++(y++A),a6.setp r,L.row b9 (fun m n q=>b7 (by rw[<-q];exact n)),Bx c8 (fun m n _=>Y m (by simp[Aj.2 n])),rfl,(c2.append c3).append c1,rfl⟩,?_,⟨⟨?_,?_,?_,?_,?_⟩,?_⟩⟩
 ·have c4:((d::(blk o++(blk p++z)))++(y++A)).Nodup:=Ji (N:=w.heap.size) a4 (xO.1 G.nd).2.1 a0 (fun m n=>C m (by simp at n⊢;rcases n with q|q|q|q<;>simp[q])) (fun m n=>C m (by simp[n]))
  have c5:([d]++(blk o++(blk p++(z++(y++A))))).Nodup:=by simpa using c4
  have c6:∀m∈blk p++(z++(y++A)),m<D.heap.size:=fun m n=>by
   rcases xE.1 n with q|q
   ·have:=C m (by simp[q]);omega
   ·rcases xE.1 q with q|q
    ·have:=C m (by simp[q]);omega
    ·rcases xE.1 q with q|q
     ·exact a7 m q
     ·have:=C m (by simp[q]);omega
  have:=Ji (N:=D.heap.size) (M':=blk r) c5 (Dg r) (fun m n=>by
   rcases N.b with q|⟨T,a1,q⟩
   ·exact .inl (by rw[Oo q]at n;exact n)
   ·exact .inr (by have:=Aj.1 n;rw[q]at this;rw[<-xM this];exact a1)) (fun m n=>by rw[yR.1 n];exact O.lt) c6
  simpa using this
 ·exact L.os.trans (J.os.trans H.os)
 ·exact L.tape.trans (J.tape.trans H.tape)
 ·exact L.output.trans (J.output.trans H.output)
 ·have:=L.size;omega
 ·intro m n b2;have R:o.ownBlock≠some m:=fun q=>b2 (by simp[Aj.2 q])
  have I:m≠d:=fun q=>b2 (by simp[q])
  exact(V m O_ R I).trans (H.block m n)
 ·intro m n;rcases xG.1 n with q|q
  ·exact .inl (by simp[q])
  ·rcases xE.1 q with q|q
   ·rcases N.b with a2|⟨T,a1,a2⟩
    ·rw[Oo a2]at q;exact .inl (by simp[q])
    ·have:=Aj.1 q;rw[a2]at this;exact .inr (by have:=xM this;omega)
   ·rcases xE.1 q with q|q
    ·exact .inl (by simp[q])
    ·rcases xE.1 q with q|q
     ·exact .inl (by simp[q])
     ·rcases xE.1 q with q|q
      ·exact(a0 m q).imp (fun q=>by simp[q]) id
      ·exact .inl (by simp[q])
theorem Mod.cell{Y:Nat->Prop}(h:Mod Y w m){p:Addr}(a:p.block<w.heap.size)(b:¬Y p.block):m.cell? p=w.cell? p:=by exact kK (w:=w) (h.block p.block a b)
structure SkM(h:Nat)(lo:Tr.Key)(hi:Option Tr.Key)(p:Nat)(F:hF)(w:World)(ps:List (Tr.Key×Tr.Ai h))(cs:List Tr.Ch)(W:World)(A:List (Tr.Key×Tr.Ai h))(f:Tr.Key)(m:Option Tr.Key)(t:Tr.Ai h)(B:List (Tr.Key×Tr.Ai h))(cs':List Tr.Ch)(F':hF):Prop where
 foc:Foc h lo hi p W A f m t B cs' F'
 gone:Ia F F' w W
 few:cs'.length<cs.length
 wt:2*cs'.length+(wts A+(Tr.wt h t+wts B))+((A.length+(B.length+1)-1)+(2-(A.length+(B.length+1))))<=Tr.wt (h+1) (Tr.brT ps cs)
 val:∀k,Tr.inR lo hi k->Tr.val (h+1) (Tr.brT (A++(f,t)::B) cs') k=Tr.val (h+1) (Tr.brT ps cs) k
theorem SkM.fin{a g:List (Tr.Key×Tr.Ai h)}{i:Tr.Ai h}{F:List (Tr.Key×Tr.Ai h)}(o:SkM h b c d f w a j m g k l i F q n)(A:Rep (h+1) r d (Tr.brT (g++(Iw h k i++F)) q) p)(B:p.Nodup)(C:Ia n p m r):AL h b c d f w a j r (g++(Iw h k i++F)) q p:=by obtain⟨u,y,z⟩:=o.foc.cut;refine⟨A,B,u,xI y ?_,o.gone.trans C,fun s t=>(z s t).trans (o.val s t)⟩;rw[Nm,Ex,Ey,xC,xH];exact o.wt
theorem SkM.below{a:List (Tr.Key×Tr.Ai h)}{W:World}{g:List (Tr.Key×Tr.Ai h)}{i:Tr.Ai h}{B:List (Tr.Key×Tr.Ai h)}(o:SkM h b c d f w a j W g k l i B q n)(p:Below W.heap.size W m):SkM h b c d f w a j m g k l i B q n:=
 ⟨o.foc.below p,o.gone.trans (Ia.below p),o.few,o.wt,o.val⟩
theorem Acb(j0:Ub h)(c:Nat)(f:List (Tr.Key×Tr.Ai h))(J:List Tr.Ch)(d5:hF)(w:World)(l:Tr.Key)(m:Option Tr.Key)(j1:Rep (h+1) w c (Tr.brT f J) d5)(j2:d5.Nodup)(b2:Tr.WF (h+1) l m (Tr.brT f J))(o2:Tr.room l m)(j3:0<J.length)(o3:Tr.wt (h+1) (Tr.brT f J)<=1800000):
  Calls Tryz.prog 126 #[A_ c] w fun u n7=>u=R_ (.tuple #[])/\∃o0 s I,AL h l m c d5 w f J n7 o0 s I/\s.length<J.length:=by
 have d6:=j1.lt;obtain⟨D,o,f4,d,o5,c0,c1,c2,rfl,p,rfl⟩:=j1;have j4:0<f.length:=Ns o2 b2.1;have j5:f.length<=wts f:=Kk b2.1;have V:=o3;rw[Nm,Bd]at V;rw[Bd]at j3;have j6:=p.len;have d7:=Aa (OQ c _ D o f4 d w c0 c1 c2 O_ O_ O_ j3);have b3:=Aa c0;have d8:=Aa c1;have d9:=Aa c2;have e0:=Aa p;have e1:=Aa j2;have b4:=Aa d6;have b5:=Aa b2;have b6:=Aa j0;clear c0 c1 c2 p j2 d6 b2 j0;go_in;go_wp2_with fail;refine d7.o.mono ?_;rintro u y ⟨⟨m4,rfl,g9,a7,h1,h2⟩,C⟩;obtain⟨a,⟨q,L⟩,k,rfl,l3⟩:=Aca f m4 O_;subst l3;obtain⟨o6,f5,l4,c3,f6,f7,f8⟩:=Ca.1 b5.o.1;subst l4;obtain⟨g,x,i,a0,a1,a2,rfl,f9,g0,g1,a3,g2,rfl⟩:=QA e0.o;have j7:=Aa C;have W:Ax y.drew c Z_ D o:=(C.block c b3.o.lt).trans b3.o;have X:Hid (Bf 0 y.drew D (g++x::i)):=Ae d8.o C.drew X_;have j8:Hid (Bb 0 y.drew o d):=Ae d9.o C.drew X_;have j9:2*d.length+(wts a+(Tr.wt h L+wts k))<=1800000:=by rw[Ex,Ey]at V;exact xI (Nat.le_add_right _ _) V
 have Y:∀b∈c::(blk D++(blk o++(a0++(a1++a2)))),y.heap[b]?=w.heap[b]?:=fun b j=>C.block b (b4.o b j)
 have k0:=Aa (fun c7 c8 c6 M a8 N=>ZG b6.o (w0:=y) (w:=y.drew) (vp:=D) (vc:=o) e1.o (fun b j=>yF (b4.o b j) C.size) X.o (g0.keep fun b j=>Y b (by simp[j])) g1 (a3.keep fun b j=>Y b (by simp[j])) (g2.keep fun b j=>Y b (by simp[j])) f5 f6 f7 f8 b5.o.2 j9 c7 c8 c6 M a8 N rfl rfl rfl rfl);have k1:=Aa (OP c _ D o (g++x::i) d a.length y.drew W X.o j8.o O_ O_);have Z:(d.filter fun a7=> !atP (g++x::i) a.length a7).length<d.length:=by have e2:=FN (atP (g++x::i) a.length) d;have e3:=UD (P:=atP (g++x::i) a.length) h1 (xQ h2);omega
 have e4:a.length<(g++x::i).length:=g9;have e5:(g++x::i)[a.length]'e4=x:=by simp[<-f9]
 obtain⟨b,c4,rfl,o7,-,j,c5,a4⟩:=X.o.at a.length e4;rw[e5]at c5 a4;obtain⟨g3,g4,g5,-⟩:=W.cells;have e6:b≠c:=fun n8=>Bg W X.o Do (by rw[<-n8];rfl)
 have k2:=Aa e6;have k3:Hid (∀G U s I,Foc h l m c G a q c3 U k s I->s.length=(d.filter fun a7=> !atP (g++x::i) a.length a7).length->Ia (c::(blk (L_ (P_ b) (g++x::i).length c4)++(blk o++(a0++(a1++a2))))) I y G->2*s.length+(wts a+(Tr.wt h U+wts k))<=2*d.length+(wts a+(Tr.wt h L+wts k))->(∀t,Tr.inR l m t->Tr.val (h+1) (Tr.brT (a++(q,U)::k) s) t=Tr.val (h+1) (Tr.brT (a++(q,L)::k) (Ac d)) t)->SkM h l m c (c::(blk (L_ (P_ b) (g++x::i).length c4)++(blk o++(a0++(a1++a2))))) w (a++(q,L)::k) (Ac d) G a q c3 U k s I):=by intro G U s I e2 e3 n4 n5 n6;refine⟨e2,(Ia.below j7.o).trans n4,by rw[e3,Bd];exact Z,?_,n6⟩;rw[Nm,Bd,Ex,Ey,xC,xH];exact Nat.add_le_add_right n5 _
 generalize i7:c::(blk (L_ (P_ b) (g++x::i).length c4)++(blk o++(a0++(a1++a2))))=b1 at*;generalize i8:g++x::i=f4 at*;generalize i9:a++(q,L)::k=f at*;have k4:=Aa i7;have k5:=Aa i8;have k6:=Aa i9;have b7:Hid (IntKind.i64.wrap ((a.length:Int)-1)=(a.length:Int)-1):=by show _=_;rw[yZ];omega
 have e7:=b7.o;clear d7 b3 d8 d9 e0 e1 b4 b5 g0 g2 a3 g1 f5 f8 f7 f6 Y h1 h2 Z e5 C W i7 i8 i9 e6 j6 j4 j5 g9 V f9;go_upto_region 1 with fail
 go_cut [16] (fun _ n9=>∃a5 A a6,SkM h l m c b1 w f (Ac d) n9 a q c3 a5 k A a6)
 case first=>
  go_region_law (first
   | (go_simp;go_at_call 173;refine k1.o.mono ?_;rintro u c6 ⟨c7,c8,rfl,M,a8,N⟩;have k7:=Aa (k0.o c7 c8 c6 M a8 N);have e8:=(N.cell (p:=(Q_ b (a.length*2+1))) j k2.o).trans a4;obtain⟨l5,a3,l6,-⟩:=M.cells;clear M a8 N)
   | (go_simp;go_at_call 63;refine k7.o.mono ?_;rintro u G ⟨rfl,a5,A,a6,h3,a9,b0,h4,h5⟩;have z:=Aa (k3.o G a5 A a6 h3 a9 b0 h4 h5);clear h3 a9 b0 h4 h5))
  all_goals
   go_wp2_with fail;go_meet;exact⟨_,_,_,z.o⟩
 case rest=>
  obtain⟨a5,A,a6,g6⟩:=hcut;have z:=Aa g6;clear g6;go_wp2_with fail;refine(Ac7 b6.o z.o.foc).mono ?_;rintro u m5 ⟨r0,c9,h6,d0,h7,rfl,h8,h9,m6,i0⟩;have n:Hid (SkM h l m c b1 w f (Ac d) m5 a q c9 h6 d0 A h7):=⟨h8,z.o.gone.trans h9,z.o.few,by have:=z.o.wt;omega,fun t p=>(i0 t p).trans (z.o.val t p)⟩;clear h8 h9 m6 i0;go_wp2_with fail;refine(ZF b6.o n.o.foc).mono ?_;rintro u d1 (⟨rfl,H,O⟩|⟨r,R,S,T,rfl,m7,H,O,m8,i1⟩)
  case' inl=>
   have b8:Hid (∃(r:List (Tr.Key×Tr.Ai h)) (R:Tr.Key) (d3:Option Tr.Key) (S:Tr.Ai h) (d4:List (Tr.Key×Tr.Ai h)) (T:hF),a.length=r.length/\SkM h l m c b1 w f (Ac d) d1 r R d3 S d4 A T):=⟨a,q,c9,h6,d0,h7,rfl,H,n.o.gone.trans O,n.o.few,n.o.wt,n.o.val⟩;clear H O;go_upto_region 5 with fail;clear c5 a4 g3 g4 g5 e7 b7
   try clear e8
   generalize a.length=o1 at*
  case' inr=>
   have b8:Hid (∃(B:List (Tr.Key×Tr.Ai h)) (R:Tr.Key) (d3:Option Tr.Key) (S:Tr.Ai h) (d4:List (Tr.Key×Tr.Ai h)) (T:hF),r.length=B.length/\SkM h l m c b1 w f (Ac d) d1 B R d3 S d4 A T):=⟨r,R,c9,S,d0,T,rfl,H,n.o.gone.trans O,n.o.few,by have:=n.o.wt;omega,fun t p=>(i1 t p).trans (n.o.val t p)⟩;have e9:(a.length:Int)-1=(r.length:Int):=O_;have f0:=Aa e9;have k8:=H.len;have f1:wrap64 (r.length:Int)=(r.length:Int):=IntWalk.wrap64_in _ ⟨O_,O_⟩;clear H O m8 i1 e9;go_upto_region 5 with fail
   try rw[f0.o]
   rw[f1];clear c5 a4 g3 g4 g5 e7 b7
   try clear e8
   clear f1 k8 f0 m7;generalize r.length=o1 at*
  all_goals
   obtain⟨B,o8,o9,p0,p1,p2,rfl,g7⟩:=b8.o;have b9:=Aa (g7.below (xA _ d1).drew);obtain⟨p3,p4,l7,p5,g8,F⟩:=b9.o.foc.tail;obtain⟨p6,p7,rfl,p8,-,p9,l8,l9⟩:=F.row.at B.length g8;rw[F.at']at l8 l9;have k9:=Aa F;obtain⟨l5,a3,l6,-⟩:=F.nod.cells;have l0:=F.len;have o4:IntKind.i64.wrap ((B.length:Int)+1)=(B.length:Int)+1:=(by rw[yZ];omega);clear g7 b8 F
   go_region_law (first
    | (go_simp;go_at_call 64;refine k9.o.go.mono ?_;rintro u m9 ⟨n0,n1,rfl,a9,b0,i2,i3,i4,i5,i6⟩;have l1:=Aa (LO _ n0 l7 n1 B.length m9 g8 i5 i2 a9 l0 b0 i3);have l2:=Aa i6;obtain⟨u0,u1,u2,-⟩:=i4.cells;clear i2 i3 i4 i5 i6)
    | (go_simp;go_at_call 175;refine l1.o.mono ?_;rintro u n2 ⟨n3,rfl,d2⟩;have f2:=Aa (l2.o n3 n2 d2);obtain⟨q0,q1,q2,m0⟩:=Fo d2.o;subst m0;obtain⟨q3,q4,q5,q6,q7,q8⟩:=f2.o.1.cells;clear d2))
   all_goals
    go_wp2_with fail;go_end0;obtain⟨-,q9,m1,m2,m3⟩:=f2.o;have f3:=b9.o.fin m1 m2 m3;have Z:=b9.o.few;rw[<-k4.o,<-k5.o,<-k6.o]at f3;exact⟨rfl,_,_,_,f3,Z⟩
structure TkL(p:Nat)(vi:Value)(w:World)(l:List Tr.It)(vi':Value)(il':gY)(W:World):Prop where
 nod:Ax W p vi' Z_ Z_
 its:Ap 0 W vi' il'
 pl:Ab il'=l
 mod:Mod (fun g=>g∈p::blk vi) w W
 new:∀g,vi'.ownBlock=some g->vi.ownBlock=some g\/w.heap.size<=g
theorem TkL.next{a0 a1:List Tr.It}{Z:Value}{a2:gY}(h:TkL d H w a0 I J m)(f:Obj)(c:YG d I Z_ Z_ (m.alloc f) a1 Z a2 r):TkL d H w a1 Z a2 r:=by
 have g:Below m.heap.size m (m.alloc f):=(xA _ m).alloc X_ f;have k:Mod (fun _=>False) m (m.alloc f):=Mod.of_below g;refine⟨c.nod,c.its,c.pl,(h.mod.trans k (H:=fun b=>b∈d::blk H) (fun _ _ a=>a) (fun _ _ a=>a.elim)).trans c.mod (fun _ _ a=>a) (fun b j a=> ?_),fun b j=> ?_⟩
 ·rcases a with a|a
  ·simp[a]
  ·rcases h.new b a with i|i
   ·simp[Aj.2 i]
   ·omega
 ·rcases c.blk b j with a|a
  ·exact h.new b a
  ·exact .inr (by have:=h.mod.size;have:=g.size;omega)
theorem QB(h:Tr.WF 0 b c (Ab J)):∀a∈J,a.2.size<=16:=fun a d=>by have:=(h.2 (a.1.data.toList,a.2.data.toList) (xL.2 ⟨a,d,rfl⟩)).2.2;simpa using this
theorem ZH:Ub 0:=by
 intro g d5 d6 w d7 b b7 b8 X Y A Z d8 B a0 C a1;have G:=X.lt;obtain⟨j,c,q,N,rfl,rfl⟩:=X;have c3:1+2*(c.length-16)+2*b.length<=1800000:=by rw[<-Cv c];exact a1
 have c4:c.length<=16:=by rw[<-Cv c];exact Z
 obtain⟨c7,c8,c9,-⟩:=q.cells;obtain⟨d0,d1,rfl⟩:=Ad B;have a2:=Aa (Hh g _ _ _ _ _ w q);have a3:Hid (TkL g j w (Tr.Cr (Ab c) (Ac (b.take 0))) j c w):=⟨q,N,rfl,Mod.of_below (xA _ w),fun k m=> .inl m⟩;have a4:=Aa B;have a5:=Aa a0;have H:=Aa C;have a6:=Aa A;have c5:=Aa Y;have c6:=Aa G;have I:Hid (∀a,Tr.WF 0 b7 b8 (Tr.Cr (Ab c) (Ac (b.take a)))):=fun a=>DQ _ A fun D b9=>C D (by obtain⟨x,b5,rfl⟩:=xL.1 b9;exact xL.2 ⟨x,vU b5,rfl⟩)
 have a7:Hid (∀a,(Tr.Cr (Ab c) (Ac (b.take a))).length<=1802000):=fun a=>by have:=Jt (Ac (b.take a)) (Ab c);rw[Bd,Cv,xR]at this;omega
 clear q N B a0 C A Y G Z a1;go_in;go_wp2_with fail;refine a2.o.mono ?_;rintro b6 w ⟨rfl,rfl⟩;rw[show decide True=true from rfl];go_wp2_with fail
 go_loopw [10] (fun F wr=>∃a:Nat,a<=b.length/\F=J_ (a:Nat)/\∃l r,TkL g j w (Tr.Cr (Ab c) (Ac (b.take a))) l r wr) (fun F _=>b.length-(intOf F).toNat)
 case atStart=>exact⟨0,Y_,rfl,_,_,a3.o⟩
 case round=>
  obtain⟨a,d2,rfl,l,r,f⟩:=hrel;have d:=Aa f;clear f;by_cases i:a<b.length
  ·obtain⟨k,d3,e,d4,-,m,O,R,S⟩:=a4.o.at a i;simp only[xJ]at e;obtain⟨rfl,-,rfl⟩:=e;have J:k∉g::blk j:=a5.o k rfl;have o:=fun c0=>d.o.mod.cell (p:=(Q_ k c0)) m J
   have a8:=(o _).trans O;have a9:=(o _).trans R;have b0:=(o _).trans S;have b1:Hid (Ac (b.take (a+1))=Ac (b.take a)++Ac [b[a]'i]):=(by show _=_;rw[zN,xW i];unfold Ac;rw[yX];rfl);have b2:=Aa (H.o _ (xL.2 ⟨b[a]'i,yA i,rfl⟩));clear o O R S J;generalize b[a]'i=D at*;obtain⟨u,y,z⟩:=D;have p:=I.o a;have s:=a7.o a;rw[<-d.o.pl]at p s;rw[Cv]at s;have t:Below wr.heap.size wr (wr.alloc (C_ #[J_ u,B_ y,B_ z] 34)):=(xA wr.heap.size wr).alloc X_ _;have L:=Aa (OM g l _ _ r u y z (wr.alloc (C_ #[J_ u,B_ y,B_ z] 34)) ((t.block g d.o.nod.lt).trans d.o.nod) (Ae d.o.its t X_) O_ p.1 (QB p) (by have:=(Nh b2.o.2).2;simpa using this));clear t p s;go_wp2_with fail;refine L.o.mono ?_;rintro b6 T ⟨rfl,U,V,W⟩;have b3:Hid (TkL g j w (Tr.Cr (Ab c) (Ac (b.take (a+1)))) U V T):=(by have:=d.o.next _ W;rw[d.o.pl]at this;rw[b1.o];show TkL g j w (Tr.Cr _ (_++[_])) U V T;rw[Qd];exact this);clear W L d a8 a9 b0;go_wp2_with fail;exact⟨⟨a+1,O_,W_,_,_,b3.o⟩,by simp[intOf];omega⟩
  ·have i:a=b.length:=O_;subst i;rw[zQ]at d;go_wp2_with fail;refine yS (results_none rfl _ _ _) rfl ?_;have f:=d.o;have M:=I.o b.length;rw[zQ]at M;refine⟨rfl,Tr.lf (Tr.Cr (Ab c) (Ac b)),g::blk l,⟨⟨l,r,f.nod,f.its,f.pl,rfl⟩,?_,M,trivial,f.mod,fun k m=> ?_⟩,?_,fun c1 _=>Qe c1 _ a6.o H.o⟩
   ·exact yV.2 ⟨fun n=>Bg f.nod f.its Do (Aj.1 n),Dg _⟩
   ·rcases xG.1 m with n|n
    ·exact .inl (by simp[n])
    ·exact(f.new k (Aj.1 n)).imp (fun c2=>by simp[Aj.2 c2]) id
   ·have b4:=Jt (Ac b) (Ab c);rw[Bd]at b4;show 1+2*((Tr.Cr (Ab c) (Ac b)).length-16)<=1+2*((Ab c).length-16)+2*b.length;omega
def Acd(p:Nat)(w:World):Nat:=match w.cell? (Q_ p 2)with
 | some (.slice _ n _)=>n
 | _=>0
theorem JO{a3:Option Addr}{U V:Nat}(h:Ax w d H I (L_ a3 U V)):Acd d w=U:=by unfold Acd;rw[h.cells.2.2.1]
theorem Rep.nodc{a:List (Tr.Key×Tr.Ai h)}(m:Rep (h+1) w d (Tr.brT a j) f):∃b c g,Ax w d Z_ b (L_ c j.length g):=by obtain⟨b,n,o,k,p,i,q,l,rfl,r,rfl⟩:=m;obtain⟨c,g,rfl⟩:=Ad l;rw[<-Bd k]at i;exact⟨b,c,g,i⟩
theorem AL.trans{a g F:List (Tr.Key×Tr.Ai h)}{X:List Tr.Ch}(k:AL h b c d f w a j m g q n)(i:AL h b c d n m g q r F X p):AL h b c d f w a j r F X p:=
 ⟨i.rep,i.nd,i.wf,xI i.wt k.wt,k.gone.trans i.gone,fun l o=>(i.val l o).trans (k.val l o)⟩
theorem UE(a b:gZ):Cd (a++b)=Cd a++Cd b:=by unfold Cd;simp
theorem Si(a b:gZ):Ac (a++b)=Ac a++Ac b:=by unfold Ac;simp
theorem QC(h:Nat)(b5:Ub h):Ub (h+1):=by
 intro d e0 h7 w h8 f W X b1 Y M e1 Z a0 e2 b2 a1;obtain⟨g,f0⟩:=e0;have G:=b1.lt;obtain⟨f1,f2,k,b,y,z,S,I,rfl,D,rfl⟩:=b1;have e6:0<g.length:=Ns Z M.1;have e7:=D.len;have b6:(Ac b).length+wts g+f.length<=1800000:=by have h0:=Afm g (Ac b);have a2:Tr.wt (h+1) (Tr.brT g (Ac b))+2*f.length<=1800000:=a1;omega
 rw[Bd]at b6;obtain⟨m,n,rfl⟩:=Ad S;obtain⟨o,p,rfl⟩:=Ad I;obtain⟨d3,d4,rfl⟩:=Ad a0;obtain⟨f3,f4,f5,f6,f7,f8⟩:=z.cells;have b7:=Aa (Hh d _ _ _ _ _ w z);obtain⟨f9,A,a8,T,a9,J⟩:=Sd w 77 77 34 kX _ 3 40 Em rfl Do Do (L_ o b.length p) (L_ d3 f.length d4) b.length f.length (Cd b) (Cd f) I a0 (Uq f) O_;obtain⟨r,s,t,rfl⟩:=Fo T;have b8:=Aa a8;have N:(Value.slice o b.length p).ownBlock≠some d:=Bg z I Do;have B:Mod (fun u=>(Value.slice o b.length p).ownBlock=some u) w A:=Mod.of_grown a9;have O:Ax A d Z_ (L_ m k.length n) (L_ o b.length p):=B.nod z N;have H:=Mod.setCell A d 2 (L_ r s t);have a3:(Value.slice r s t).ownBlock≠some d:=by
  rcases J with q|q
  ·rw[q];exact N
  ·rw[q];intro j;have:=xM j;have:=z.lt;omega
 have b9:Hid (AL h W X d (d::(blk (L_ m k.length n)++(blk (L_ o b.length p)++y))) w g (Ac (b++f)) (A.setCell (Q_ d 2) (L_ r s t)) g (Ac (b++f)) (d::(blk (L_ m k.length n)++(blk (L_ r s t)++y)))):=by
  have R:((d::blk (L_ m k.length n))++(blk (L_ o b.length p)++y)).Nodup:=by simpa using Y
  have c0:=(xO.1 R).2.2;have c1:=(xO.1 (xO.1 R).2.1).2.2;have c2:∀a,a<w.heap.size->(Value.slice o b.length p).ownBlock≠some a->a≠d->(A.setCell (Q_ d 2) (L_ r s t)).heap[a]?=w.heap[a]?:=fun a a2 a6 e3=>
   (H.block a (by have:=B.size;omega) e3).trans (B.block a a2 a6)
  have a4:∀a∈blk (L_ m k.length n)++y,(A.setCell (Q_ d 2) (L_ r s t)).heap[a]?=w.heap[a]?:=fun a c=>by
   refine c2 a (G a (by simp at c⊢;rcases c with q|q<;>simp[q])) (fun q=> ?_) (fun q=> ?_)
   ·rcases xE.1 c with j|j
    ·exact c0 a (by simp[j]) a (by simp[Aj.2 q]) rfl
    ·exact c1 a (Aj.2 q) a j rfl
   ·have:=(yV.1 Y).1;rw[<-q]at this;exact this (by rcases xE.1 c with j|j<;>simp[j])
  refine⟨⟨L_ m k.length n,L_ r s t,k,b++f,y,O.setc _,Bx S fun a c _=>a4 a (by simp[Aj.2 c]),?_,rfl,D.keep fun a c=>a4 a (by simp[c]),rfl⟩,?_,⟨M.1,fun b3 b4=> ?_⟩,X_,⟨?_,fun a c=> ?_⟩,fun _ _=>rfl⟩
  ·refine H.row ?_ (fun a c q=>a3 (by rw[<-q];exact c));rw[xC,UE];exact T
  ·have:=Ji (N:=w.heap.size) (M':=blk (L_ r s t)) R (Dg _) (fun a c=>by
    rcases J with q|q
    ·exact .inl (by rw[Oo q]at c;exact c)
    ·exact .inr (by have:=Aj.1 c;rw[q]at this;have:=xM this;omega)) (fun a c=>G a (by simp at c⊢;rcases c with q|q<;>simp[q])) (fun a c=>G a (by simp[c]))
   simpa using this
  ·rw[Si]at b4;rcases xE.1 b4 with q|q
   ·exact M.2 b3 q
   ·exact b2 b3 q
  ·refine(B.trans H (H:=fun a=>a∈d::(blk (L_ m k.length n)++(blk (L_ o b.length p)++y))) (fun a _ q=> ?_) (fun a _ q=> ?_))
   ·simp[Aj.2 q]
   ·simp[q]
  ·rcases xG.1 c with q|q
   ·exact .inl (by simp[q])
   ·rcases xE.1 q with q|q
    ·exact .inl (by simp[q])
    ·rcases xE.1 q with q|q
     ·rcases J with j|j
      ·rw[Oo j]at q;exact .inl (by simp[q])
      ·exact .inr (by have:=Aj.1 q;rw[j]at this;have:=xM this;omega)
     ·exact .inl (by simp[q])
 have a5:Hid (Tr.wt (h+1) (Tr.brT g (Ac (b++f)))<=Tr.wt (h+1) (Tr.brT g (Ac b))+2*f.length):=by show _<=_;rw[Nm,Nm,Si,xC,Bd,Bd];omega
 have c3:Hid (Tr.wt (h+1) (Tr.brT g (Ac (b++f)))<=1800000):=by show _<=_;have:=a5.o;have a6:Tr.wt (h+1) (Tr.brT g (Ac b))+2*f.length<=1800000:=a1;omega
 have c4:Hid (∀u,Tr.val (h+1) (Tr.brT g (Ac (b++f))) u=Tr.Av (Ac f) u (Tr.val (h+1) (Tr.brT g (Ac b)) u)):=fun u=>by rw[Si];exact Tr.Fz ..
 obtain⟨g0,g1,g2,g3,g4,g5⟩:=O.cells;have c5:=Aa b5;have c6:=Aa Z;have c7:decide (k.length=0)=false:=xN O_;clear z S I a0 D Y G M e1 Z e2 b2 a1 a8 T a9 J B H N a3 O b5;generalize h9:d::(blk (L_ m k.length n)++(blk (L_ o b.length p)++y))=e5 at*;generalize i0:d::(blk (L_ m k.length n)++(blk (L_ r s t)++y))=i1 at*;go_in;go_wp2_with fail;refine b7.o.mono ?_;rintro d8 w ⟨rfl,rfl⟩;rw[c7];go_wp2_with (at_builtin;refine vO w rfl (.tmp 22) (.tmp 23) 77 77 rfl _ _ rfl rfl _ _ b8.o ?_)
 go_loopw [27] (fun _ wr=>∃F l L,AL h W X d e5 w g (Ac (b++f)) wr F l L) (fun _ wr=>Acd d wr)
 case atStart=>exact⟨_,_,_,b9.o⟩
 case round=>
  obtain⟨F,l,L,i⟩:=hrel;have C:=Aa i;obtain⟨g6,g7,g8,U⟩:=i.rep.nodc;obtain⟨d5,d6,d7,-⟩:=U.cells;have c8:=Aa (JO U);have a7:Tr.wt (h+1) (Tr.brT F l)<=1800000:=xI i.wt c3.o;have e8:l.length<=1800000:=by rw[Nm]at a7;omega
  clear i U;by_cases e4:8<l.length
  ·have c9:decide ((8:Int)<(l.length:Int))=true:=xQ O_;have d0:=Aa (Acb c5.o d F l L wr W X C.o.rep C.o.nd C.o.wf c6.o O_ a7);go_wp2_with fail;refine d0.o.mono ?_;rintro d8 h3 ⟨rfl,h4,h5,h6,V,d9⟩;have d1:=Aa (C.o.trans V);obtain⟨g9,h1,h2,b0⟩:=V.rep.nodc;have d2:=Aa (JO b0);clear V b0 d5 d6 d7;go_wp2_with fail;exact⟨⟨_,_,_,d1.o⟩,by rw[c8.o,d2.o];exact d9⟩
  ·have c9:decide ((8:Int)<(l.length:Int))=false:=xN O_;have e9:¬((8:Int)<(l.length:Int)):=O_;go_wp2_with fail;go_end0;have i:=C.o;exact⟨rfl,Tr.brT F l,⟨L,⟨i.rep,i.nd,i.wf,aD e4,i.gone.1,i.gone.2⟩⟩,xI i.wt a5.o,fun u D=>(i.val u D).trans (c4.o u)⟩
theorem JP:∀h,Ub h
 | 0=>ZH
 | h+1=>QC h (JP h)
