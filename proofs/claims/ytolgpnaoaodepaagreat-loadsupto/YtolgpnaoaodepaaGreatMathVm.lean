import Derived.Test.YtolgpnaoaodepaaGreatRefRm
set_option maxHeartbeats 1000000
set_option maxRecDepth 100000
namespace Go.Proofs.YtolgpnaoaodepaaGreat
open Ld
namespace Pr
open Pg
variable {j:Lb}{b:hE}{n:Its}{a:Nat}{p:Bool}{A B:List hE}
theorem Tf(h:Mc j=true)(b:j.1=1):∃a,j=(1,a,[],[],[])/\Kw a/\a.length<=16:=by obtain⟨k,a,l,m,n⟩:=j;simp only at b;subst b;unfold Mc Kh at h;simp only at h;rw[xD trivial]at h;simp only[yK,yL,xP]at h;obtain⟨⟨⟨⟨c,d⟩,f⟩,g⟩,i⟩:=h;rw[zA.1 f,zA.1 g,zA.1 i];exact⟨a,rfl,(Oj a).1 c,d⟩
theorem AR(h:Mc j=true)(g:j.1≠1):∃b c d,j=(2,[],b,c,d)/\(∀a∈b,a<=2147483647)/\(∀f∈c,f.length<=12)/\(∀a∈d,Bh a=true)/\b.length<=4/\c.length+1=b.length/\d.length<=8:=by obtain⟨r,s,b,c,d⟩:=j;simp only at g;unfold Mc Kh at h;simp only at h;rw[xB g]at h;simp only[yK,yL,xP]at h;obtain⟨⟨⟨⟨⟨⟨⟨⟨i,k⟩,l⟩,m⟩,n⟩,t⟩,o⟩,p⟩,q⟩:=h;subst m;rw[zA.1 n];refine⟨b,c,d,rfl,fun a f=> ?_,Fe _ _ i,fun a f=>zV.1 l a f,o,p,q⟩;have:=zV.1 k (Int.ofNat a) (xL.2 ⟨a,f,rfl⟩);simp only[Bz,yK,yL]at this;have:=this.2;simp only[bA]at this;omega
theorem Aa5(a:Its):Kq (1,a,[],[],[])=Lx a:=rfl
theorem AS(a:hF)(b:List hE)(c:List (Int×hE×hE)):Kq (2,[],a,b,c)=Fb a b c:=by
 show page 2 [] (a.map Int.ofNat) b c=_;unfold page;have d:(a.map Int.ofNat).map Int.toNat=a:=by rw[zW];exact List.map_id' _ |>.trans rfl
 rw[xD rfl,d]
theorem Aa6(a:Its):(Lx a).take 3=[83,50,76]:=by unfold Lx sealed;simp
theorem RI(a:hF)(b:List hE)(c:List (Int×hE×hE)):(Fb a b c).take 3=[83,50,73]:=by unfold Fb sealed;simp
theorem Aa7(h:En b=some j)(g:b.take 3=[83,50,76]):∃a,j=(1,a,[],[],[])/\Kw a/\a.length<=16/\b=Lx a:=by
 obtain⟨d,c⟩:=Ph h;by_cases f:j.1=1
 ·obtain⟨a,rfl,i,k⟩:=Tf d f;exact⟨a,rfl,i,k,c.symm⟩
 ·obtain⟨l,m,n,rfl,-⟩:=AR d f;rw[AS]at c;rw[<-c,RI]at g;simp at g
theorem RJ(h:En b=some j)(k:b.take 3≠[83,50,76]):∃a c d,j=(2,[],a,c,d)/\He b=((a,c,d),true):=by
 obtain⟨g,f⟩:=Ph h;by_cases i:j.1=1
 ·obtain⟨r,rfl,s,t⟩:=Tf g i;rw[Aa5]at f;rw[<-f,Aa6]at k;exact absurd rfl k
 ·obtain⟨a,c,d,rfl,l,m,n,o,p,q⟩:=AR g i;rw[AS]at f;exact⟨a,c,d,rfl,by rw[<-f];exact MV a c d l m n o p q⟩
theorem RK(h:Kw n)(a:n.length<=16):Gu (Lx n)=some (Fq (parts n),secs (parts n)):=by refine(GK _ _ _).2 ⟨FB h a,?_⟩;exact JG h a
theorem Afe{H:List Its}(h:Pi H)(a:Nat)(b:a<H.length):Ay (Fq H) a (TU (H[a]'b))=some (H[a]'b):=by
 have e:H=H.take a++H[a]::H.drop (a+1):=by rw[qW,zK]
 have:=Aby (H.take a) H[a] (H.drop (a+1)) (by rw[<-e];exact h);rw[<-e,xR,jL O_]at this;exact this
def RL(t:hE)(j:Nat)(b:Bool)(il:Its):Prop:=∀n,En t=some n->b=true/\∃l,n=(1,l,[],[],[])/\Gu t=some (Fq (parts l),secs (parts l))/\Pi (parts l)/\(parts l).flatten=l/\il=((parts l).take j).flatten
theorem RM(a:Its):(parts a).flatten=a:=Ql _ _ (by unfold many;omega)
theorem RN(f:b.take 3=[83,50,76]):RL b 0 true []:=by intro g h;obtain⟨a,rfl,c,d,rfl⟩:=Aa7 h f;exact⟨rfl,a,rfl,RK c d,Np c,RM a,D_⟩
theorem Aff(c:b.take 3=[83,50,76])(d:Gu b=none):En b=none:=by
 cases h:En b with
 | none=>rfl
 | some n=>
  obtain⟨-,f,-,a,-⟩:=RN c n h;rw[d]at a;simp at a
theorem Afg{b':Bool}{x:Its}(h:RL b a p n)(k:Gu b=some (A,B))(d:a<B.length)(l:b'=true->Ay A a (B[a]'d)=some x)(m:b'=false->Ay A a (B[a]'d)=none):RL b (a+1) b' (n++x):=by
 intro r h0;obtain⟨-,c,rfl,i,j,o,q⟩:=h r h0;rw[k]at i;simp only[xX,kL]at i;obtain⟨rfl,rfl⟩:=i;have f:a<(parts c).length:=by simpa[secs]using d
 have g:=Afe j a f;have e:(secs (parts c))[a]'d=TU ((parts c)[a]'f):=by simp[secs]
 rw[e]at l m
 cases b' with
 | false=>rw[m rfl]at g;simp at g
 | true=>
  have:=l rfl;rw[g]at this;simp only[xX]at this;refine⟨rfl,c,rfl,k,j,o,?_⟩;rw[q,zN,xW f,<-this];simp only[Option.toList_some,kI,yO,vG,yC]
theorem Agc(h:RL b a p n)(k:Gu b=some (A,B))(l:p=true->B.length<=a):∀c,En b=some c->p=true/\c=(1,n,[],[],[]):=by
 intro c h0;obtain⟨f,g,rfl,d,m,i,j⟩:=h c h0;rw[k]at d;simp only[xX,kL]at d;obtain⟨rfl,rfl⟩:=d;have:(parts g).length<=a:=by have:=l f;simpa[secs]using this
 rw[j,yY this,i];exact⟨f,rfl⟩
end Pr
open Go.RowKit
variable {w c q:World}{b:hE}{r:gY}{C:hF}{g:hD}{D:gZ}{d f i l s v:Value}{a k:Nat}{F:List NdM}{m G:Nat->Prop}{t u y:TypeId}{mk:Value->hH}{z:Value->Prop}
def Adi(w:World)(o:Option Pr.Lb)(r:Ending)(w':World):Prop:=Below w.heap.size w w'/\((o=none/\r=R_ (.tuple #[.agg #[J_ 0,Z_,Z_,Z_,Z_],J_ 2]))\/∃kd il cl pl ml v,o=some (kd,Ab il,cl,Ag pl,Ac ml)/\r=R_ (.tuple #[v,J_ 0])/\Gp w.heap.size w' v kd il cl pl ml)
structure GO(w wx:World)(t:hE)(b:Bool)(kd:Int)(il:gY)(cl:hF)(pl:hD)(ml:gZ)(vi vc vp vm:Value):Prop where
 res:Pk w wx
 none_:Bq wx (w.heap.size+1) (J_ 0) Z_ Z_ Z_ Z_
 var:Bq wx (w.heap.size+2) (J_ kd) vi vc vp vm
 val:Gp (w.heap.size+3) wx (.agg #[J_ kd,vi,vc,vp,vm]) kd il cl pl ml
 can:∀n,Pr.En t=some n->b=true/\n=(kd,Ab il,cl,Ag pl,Ac ml)
theorem GO.below{p:Bool}{I:Int}(h:GO w c b p I r C g D d f i l)(a:Below c.heap.size c q):GO w q b p I r C g D d f i l:=
 ⟨h.res.below a,h.none_.keep a,h.var.keep a,h.val.below a,h.can⟩
theorem KH(h:Bq w k d f i l s)(b:k≠a)(u0 u1 u2 u3 u4:Value):Bq (Hl w a u0 u1 u2 u3 u4) k d f i l s:=
 ((((h.but (Be a 0 w u0) b).but (Be a 1 _ u1) b).but (Be a 2 _ u2) b).but (Be a 3 _ u3) b).but (Be a 4 _ u4) b
theorem Tl(h:Bc a w v g)(c:Bq w k d f i l s):v.ownBlock≠some k:=by
 rcases h.2 with⟨rfl,-⟩|⟨j,m,n,rfl,o,b,-⟩
 ·simp[Value.ownBlock]
 ·intro e;have:j=k:=by simpa[Value.ownBlock]using e
  subst this;unfold Bq at c;rw[c]at b;simp at b
theorem WY(h:Bc a w v g)(n:Below k w c)(o:∀b,v.ownBlock=some b->b<k):Bc a c v g:=by
 refine⟨h.1,?_⟩;rcases h.2 with d|⟨b,f,i,rfl,j,l,m⟩
 ·exact .inl d
 ·exact .inr ⟨b,f,i,rfl,j,(n.block b (o b (by simp[Value.ownBlock]))).trans l,m⟩
theorem Agd(h:Ap a w v r):(v=Z_/\r=[])\/∃c b,v=L_ (some c) r.length b/\∀d f,(Al r)[d]?=some f->w.cell? (c.add d)=some f:=by
 rcases h.2 with⟨rfl,c⟩|⟨d,b,f,rfl,g,i,j⟩
 ·exact .inl ⟨rfl,zA.1 c⟩
 ·exact .inr ⟨(Q_ d 0),b,rfl,zD h rfl⟩
theorem Vl(h:Pk w c)(a:Pr.En b=none):Adi w (Pr.En b) (R_ (.tuple #[.agg #[J_ 0,Z_,Z_,Z_,Z_],J_ 2])) (Hl c w.heap.size (J_ 0) Z_ Z_ Z_ Z_):=
 ⟨Hy h.2 X_ _ _ _ _ _,.inl ⟨a,rfl⟩⟩
theorem Age(w:World):Pk w (((w.alloc (.cells #[.int .i64 0,.slice none 0 0,.slice none 0 0,.slice none 0 0,.slice none 0 0] 79)).alloc (.cells #[.int .i64 0,.slice none 0 0,.slice none 0 0,.slice none 0 0,.slice none 0 0] 79)).alloc (.cells #[.int .i64 0,.slice none 0 0,.slice none 0 0,.slice none 0 0,.slice none 0 0] 79))/\
  Bq (((w.alloc (.cells #[.int .i64 0,.slice none 0 0,.slice none 0 0,.slice none 0 0,.slice none 0 0] 79)).alloc (.cells #[.int .i64 0,.slice none 0 0,.slice none 0 0,.slice none 0 0,.slice none 0 0] 79)).alloc (.cells #[.int .i64 0,.slice none 0 0,.slice none 0 0,.slice none 0 0,.slice none 0 0] 79)) (w.heap.size+1) (.int .i64 0) (.slice none 0 0) (.slice none 0 0) (.slice none 0 0) (.slice none 0 0)/\
  Bq (((w.alloc (.cells #[.int .i64 0,.slice none 0 0,.slice none 0 0,.slice none 0 0,.slice none 0 0] 79)).alloc (.cells #[.int .i64 0,.slice none 0 0,.slice none 0 0,.slice none 0 0,.slice none 0 0] 79)).alloc (.cells #[.int .i64 0,.slice none 0 0,.slice none 0 0,.slice none 0 0,.slice none 0 0] 79)) (w.heap.size+2) (.int .i64 0) (.slice none 0 0) (.slice none 0 0) (.slice none 0 0) (.slice none 0 0):=by
 generalize i:(Obj.cells #[.int .i64 0,.slice none 0 0,.slice none 0 0,.slice none 0 0,.slice none 0 0] 79)=a;have c:∀b:World,Bq (b.alloc a) b.heap.size (.int .i64 0) (.slice none 0 0) (.slice none 0 0) (.slice none 0 0) (.slice none 0 0):=fun b=>by rw[<-i];exact Cz b _ _ _ _ _
 have f:(w.alloc a).heap.size=w.heap.size+1:=D_;have g:((w.alloc a).alloc a).heap.size=w.heap.size+2:=D_;have b:=c (w.alloc a);have d:=c ((w.alloc a).alloc a);rw[f]at b;rw[g]at d;exact⟨⟨((c w).keep ((xA _ _).alloc X_ _)).keep ((xA _ _).alloc X_ _),(((xA _ w).alloc X_ _).alloc D_ _).alloc K_ _⟩,b.keep ((xA _ _).alloc X_ _),d⟩
theorem RO(a:hJ)(w:World)(q0:a.size<=10000000):
  Calls Tryz.prog 100 #[B_ a] w fun b5 p7=>Adi w (Pr.En a.data.toList) b5 p7:=by
 obtain⟨j0,j1,j2⟩:=Age w;have c9:=Aa j0;have d0:=Aa j1;have d1:=Aa j2;have m2:w.heap.size+3<=(((w.alloc (C_ #[J_ 0,Z_,Z_,Z_,Z_] 79)).alloc (C_ #[J_ 0,Z_,Z_,Z_,Z_] 79)).alloc (C_ #[J_ 0,Z_,Z_,Z_,Z_] 79)).heap.size:=D_;clear j0 j1 j2;go_in;go_upto_region 4 with fail;generalize((w.alloc (C_ #[J_ 0,Z_,Z_,Z_,Z_] 79)).alloc (C_ #[J_ 0,Z_,Z_,Z_,Z_] 79)).alloc (C_ #[J_ 0,Z_,Z_,Z_,Z_] 79)=p8 at*;rw[show w.heap.size+1+1=w.heap.size+2 from rfl]
 go_cut [22] (fun g8 g9=>g8=.bool (decide (a.data.toList.take 3=[83,50,76]))/\g9=p8)
 case first=>
  by_cases s6:3<=a.size
  ·have m3:(3:Int)<=(a.size:Int):=O_;have d2:Hid ((a.extract 0 3).data.toList=a.data.toList.take 3):=(by show _=_;rw[zZ];rfl);by_cases l:a.data.toList.take 3=[83,50,76]
   ·have e6:a.extract 0 3=⟨#[83,50,76]⟩:=Fi (by rw[d2.o,l]);have b7:=Aa (xQ l);clear l;go_wp2_with fail;go_meet;exact⟨by rw[b7.o],rfl⟩
   ·have m4:((a.extract 0 3).toList==(⟨#[83,50,76]⟩:hJ).toList)=false:=(by rw[Af,Af,d2.o];simpa using l);have m5:¬a.extract 0 3=⟨#[83,50,76]⟩:=fun e=>l (by rw[<-d2.o,e])
    have q1:((a.extract 0 3).toList==[83,50,76])=false:=(by rw[Af,d2.o];simpa using l);have b7:=Aa (xN l);clear l;go_wp2_with fail;go_meet;exact⟨by rw[b7.o],rfl⟩
  ·have m3:¬(3:Int)<=(a.size:Int):=O_;have l:¬a.data.toList.take 3=[83,50,76]:=fun e=>by have:=yW List.length e;rw[xR,Ah]at this;simp at this;omega
   have b7:=Aa (xN l);clear l;go_wp2_with fail;go_meet;exact⟨by rw[b7.o],rfl⟩
 case rest=>
  obtain⟨rfl,rfl⟩:=hcut;go_upto_if 22 with fail
  go_cut [6] (fun g8 g9=>∃q m b f g i c3 k1 k2 k3,g8=.bool q/\GO w g9 a.data.toList q m b f g i c3 k1 k2 k3)
  case first=>
   by_cases l:a.data.toList.take 3=[83,50,76]
   ·rw[xQ l];have d3:=Aa l;clear l;go_wp2_with fail;refine(SQ a wc O_).mono ?_;rintro b5 o ⟨B,⟨U,g0,S,g1,g2,T,g3,rfl⟩|⟨c,d,s0,s1,b1,g4,rfl,e0,e1⟩⟩
    ·have Z:=Aa (Pr.Aff d3.o U);have I:=B.alloc B.size (C_ #[L_ g0 S g1,L_ g2 T g3] 205);have a0:=Aa (c9.o.below I);have b4:=Aa (d0.o.keep I);have D:=Aa (d1.o.keep I);have a1:Hid (GO w ((o.alloc (C_ #[L_ g0 S g1,L_ g2 T g3] 205)).setCell (Q_ (w.heap.size+2) 0) (J_ 1)) a.data.toList false 1 [] [] [] [] Z_ Z_ Z_ Z_):=by
      refine⟨a0.o.but (Be (w.heap.size+2) 0 _ (J_ 1)) O_,b4.o.but (Be (w.heap.size+2) 0 _ (J_ 1)) O_,D.o.set0 _,⟨_,_,_,_,rfl,yP _ _ _ _,yP _ _ _ _,yP _ _ _ _,yP _ _ _ _,D_,D_,D_,D_⟩,fun W h=> ?_⟩;rw[Z.o]at h;simp at h
     obtain⟨b8,b9,c0,c1,c2,L,M,N,O,R⟩:=D.o.cells;clear B U I;go_wp2_with fail;generalize(o.alloc (C_ #[L_ g0 S g1,L_ g2 T g3] 205)).setCell (Q_ (w.heap.size+2) 0) (J_ 1)=C at*
     go_loopw [6,9] (fun e4 c8 wr=>e4=.bool false/\c8=J_ 0/\wr=C) (fun _ _ _=>0)
     case atStart=>exact⟨rfl,rfl,rfl⟩
     case round=>
      obtain⟨rfl,rfl,rfl⟩:=hrel;go_wp2_with fail;go_meet;exact⟨_,_,_,_,_,_,_,_,_,_,rfl,a1.o⟩
    ·obtain⟨p2,p3,j3⟩:=RG g4;have m6:(Ag c).length=c.length:=(by simp[Ag]);have m7:(Ag d).length=d.length:=(by simp[Ag]);have m8:Hid (∀x∈d,x.size<=1000000):=fun x e6=>by have:=j3 x.data.toList (by unfold Ag;exact xL.2 ⟨x,e6,rfl⟩);rw[Ah]at this;omega
     have e7:Hid (c.length=d.length):=(by show _=_;omega);have q2:c.length<=4:=O_;have m9:d.length<=4:=O_;have h1:=Aa g4;obtain⟨j,k,rfl⟩:=e0.shape;obtain⟨G,H,rfl⟩:=e1.shape;have I:=(xA o.heap.size o).alloc X_ (C_ #[L_ j c.length k,L_ G d.length H] 205);have d4:=B.trans (I.mono B.size);have a0:=Aa (c9.o.below d4);have b4:=Aa (d0.o.keep d4);have D:=Aa (d1.o.keep d4);have e8:=Aa (e0.below I X_);have e9:=Aa (e1.below I X_);have h2:Hid ((o.alloc (C_ #[L_ j c.length k,L_ G d.length H] 205)).heap[o.heap.size]?=some (C_ #[L_ j c.length k,L_ G d.length H] 205 (0,0))):=xK _ _;have n0:o.heap.size<(o.alloc (C_ #[L_ j c.length k,L_ G d.length H] 205)).heap.size:=D_;have q3:=B.size;have h3:=Tl e8.o D.o;have h4:=Tl e9.o D.o;have n1:Hid (∀r,(Value.slice j c.length k).ownBlock=some r->r<o.heap.size):=fun r e=>(xF e0 r e).2
     have n2:Hid (∀r,(Value.slice G d.length H).ownBlock=some r->r<o.heap.size):=fun r e=>(xF e1 r e).2
     obtain⟨b8,b9,c0,c1,c2,L,M,N,O,R⟩:=D.o.cells;clear B g4 e0 e1 p2 p3 j3 I d4 m6 m7;go_wp2_with fail;generalize o.alloc (C_ #[L_ j c.length k,L_ G d.length H] 205)=C at*;have p:=Be (w.heap.size+2) 0 C (J_ 1);have h5:=Aa (a0.o.but p O_);have h6:=Aa (b4.o.but p O_);have h7:=Aa (D.o.set0 (J_ 1));have h8:Hid (Bc b1 (C.setCell (Q_ (w.heap.size+2) 0) (J_ 1)) (L_ j c.length k) c):=zP e8.o p (.inr h3);have h9:Hid (Bc b1 (C.setCell (Q_ (w.heap.size+2) 0) (J_ 1)) (L_ G d.length H) d):=zP e9.o p (.inr h4);have i0:=Aa ((p.block o.heap.size n0 K_).trans h2.o);have n3:C.heap.size<=(C.setCell (Q_ (w.heap.size+2) 0) (J_ 1)).heap.size:=p.size;clear p a0 b4 D e8 e9 h2 b8 b9 c0 c1 c2 L M N O R h3 h4;generalize C.setCell (Q_ (w.heap.size+2) 0) (J_ 1)=l8 at*;have a2:=Aa (BV (B:=C.heap.size) h7.o O_ n3);generalize o.heap.size=Y at*
     go_loopw [6,9] (fun e4 c8 wr=>∃(n:Nat) (b:gY) (q:Bool) (c3:Value),n<=c.length/\c8=J_ n/\e4=.bool q/\NdB (w.heap.size+2) C.heap.size wr (J_ 1) b [] [] [] c3 Z_ Z_ Z_/\Pk w wr/\Bq wr (w.heap.size+1) (J_ 0) Z_ Z_ Z_ Z_/\wr.heap[Y]?=some (C_ #[L_ j c.length k,L_ G d.length H] 205 (0,0))/\Bc b1 wr (L_ j c.length k) c/\Bc b1 wr (L_ G d.length H) d/\Pr.RL a.data.toList n q (Ab b)/\b.length<=5*n) (fun e4 c8 _=>c.length-(intOf c8).toNat)
     case atStart=>exact⟨0,[],true,_,Y_,rfl,rfl,a2.o,h5.o,h6.o,i0.o,h8.o,h9.o,Pr.RN d3.o,D_⟩
     case round=>
      clear a2 h5 h6 i0 h8 h9 h7;obtain⟨n,b,q,c3,q9,rfl,rfl,c4,j4,j5,d7,j6,j7,j8,r0⟩:=hrel;have a2:=Aa c4;have f0:=Aa j4;have f1:=Aa j5;have i1:=Aa d7;have f2:=Aa j6;have f3:=Aa j7;have f4:=Aa j8;obtain⟨j9,k0,rfl⟩:=Ad c4.its;obtain⟨b8,b9,c0,c1,c2,L,M,N,O,R⟩:=c4.var.cells;have q4:=c4.le;have n4:wr.cell? (Q_ Y 0)=some (L_ j c.length k):=(by unfold World.cell?;rw[d7];rfl);have n5:wr.cell? (Q_ Y 1)=some (L_ G d.length H):=(by unfold World.cell?;rw[d7];rfl);clear c4 j4 j5 d7 j6 j7 j8;by_cases e5:q=true/\n<c.length
      ·obtain⟨rfl,r1⟩:=e5;have d5:n<d.length:=(by have:=e7.o;omega);have q5:(n:Int)<(c.length:Int):=O_;have i2:=Aa (Aa4 b1 _ _ c d n wr f2.o f3.o e7.o d5 m9 m8.o);have i3:n<(Ag d).length:=(by simpa[Ag]using d5);have f5:=Aa (fun(e2:Bool) x a3 d8=>Pr.Afg (b':=e2) (x:=x) f4.o h1.o i3 a3 d8);rw[show(Ag d)[n]'i3=(d[n]'d5).data.toList by simp[Ag]]at f5;generalize(d[n]'d5).data.toList=s7 at*;go_wp2_with fail;refine i2.o.mono ?_;rintro b5 p6 ⟨X,V,s2,e2,rfl,e3,s3,l5,U⟩;have i4:=Aa (f5.o e2 (Ab V) l5 U);have q6:=X.size;have d6:=Aa (a2.o.below X);have n6:=Aa (f0.o.below X);have n7:=Aa (f1.o.keep X);have n8:=Aa ((X.block Y O_).trans i1.o);have n9:=Aa (f2.o.below X X_);have o0:=Aa (f3.o.below X X_);have q7:=Aa e3;have i5:=Agd e3;obtain⟨p4,p5,rfl⟩:=Ad e3;clear b8 b9 c0 c1 c2 L M N O R n4 n5 X e3 l5 U i2 f5 a2 f0 f1 i1 f2 f3 f4;obtain⟨b8,b9,c0,c1,c2,L,M,N,O,R⟩:=d6.o.var.cells;have q8:b.length+V.length<=100:=O_;have o1:=Aa i5;clear i5
       go_wp2_with (first
        | (at_builtin;refine SK p6 rfl (.tmp 47) (.tmp 48) rfl C.heap.size (L_ j9 b.length k0) b rfl d6.o.its (L_ p4 V.length p5) V rfl o1.o O_ d6.o.le ?_))
       intro s5 g6 g7 m0 m1;obtain⟨f8,f9,rfl⟩:=Ad g7;have F:=Aa (d6.o.apI g7 m0 m1);obtain⟨r2,r3,r4,r5,r6,t,u,y,z,A⟩:=F.o.1.cells;have p:=Be (w.heap.size+2) 1 g6 (L_ f8 (b++V).length f9);have o2:=Aa ((n6.o.belowB F.o.2.2 O_).but p O_);have o3:=Aa ((n7.o.below F.o.2.2 O_).but p O_);have o4:=Aa ((p.block Y (by have:=F.o.2.2.size;omega) K_).trans ((F.o.2.2.block Y O_).trans n8.o));have o5:Hid (Bc b1 (g6.setCell (Q_ (w.heap.size+2) 1) (L_ f8 (b++V).length f9)) (L_ j c.length k) c):=(by have a3:=WY n9.o F.o.2.2 (fun r e=>by have:=n1.o r e;omega);exact zP a3 p (.inr (Tl a3 F.o.1)));have o6:Hid (Bc b1 (g6.setCell (Q_ (w.heap.size+2) 1) (L_ f8 (b++V).length f9)) (L_ G d.length H) d):=(by have a3:=WY o0.o F.o.2.2 (fun r e=>by have:=n2.o r e;omega);exact zP a3 p (.inr (Tl a3 F.o.1)));have o7:=Aa F.o.2.1;rw[<-Lg]at i4;have o8:(b++V).length<=5*(n+1):=(by rw[xC];omega);clear g7 m0 m1 p F;generalize b++V=p9 at*;go_wp2_with fail
       go_roundw
       case rel=>exact⟨n+1,p9,e2,_,O_,W_,rfl,o7.o,o2.o,o3.o,o4.o,o5.o,o6.o,i4.o,o8⟩
       case measure=>simp[intOf];omega
      ·have a1:Hid (GO w wr a.data.toList q 1 b [] [] [] (L_ j9 b.length k0) Z_ Z_ Z_):=by
        refine⟨f0.o,f1.o,a2.o.var,(a2.o.nodeV O_ D_ D_ D_).shrink O_,fun W U=> ?_⟩;have:=Pr.Agc f4.o h1.o (fun Y=>by
         rcases jX n c.length with h|h
         ·exact absurd ⟨Y,h⟩ e5
         ·have:=e7.o;simp[Ag];omega) W U
        exact this
       have o9:q=false\/(q=true/\¬(n:Int)<(c.length:Int)):=by
        cases q with
        | false=>exact .inl rfl
        | true=>exact .inr ⟨rfl,fun h=>e5 ⟨rfl,O_⟩⟩
       clear e5;rcases o9 with rfl|⟨rfl,e6⟩
       ·go_wp2_with fail;go_meet;exact⟨_,_,_,_,_,_,_,_,_,_,rfl,a1.o⟩
       ·go_wp2_with fail;go_meet;exact⟨_,_,_,_,_,_,_,_,_,_,rfl,a1.o⟩
   ·rw[xN l];have d3:=Aa l;clear l;go_wp2_with fail;refine(UZ a wc q0).mono ?_;rintro b5 o ⟨B,f,g,i,s4,rfl,l6,g5⟩;have i6:=Aa l6;have a0:=Aa (c9.o.below B);have b4:=Aa (d0.o.keep B);have D:=Aa (d1.o.keep B);obtain⟨a5,a6,j,k,a7,a8,a9,b0,rfl⟩:=g5.shape;have p0:=Aa (g5.shrink (C:=w.heap.size+3) O_);obtain⟨c5,S,T,c6,c7,L,M,N,O,R⟩:=D.o.cells;have a1:Hid (GO w (Hl o (w.heap.size+2) (J_ 2) (L_ a5 0 a6) (L_ j f.length k) (L_ a7 g.length a8) (L_ a9 i.length b0)) a.data.toList (Pg.He a.data.toList).2 2 [] f g i (L_ a5 0 a6) (L_ j f.length k) (L_ a7 g.length a8) (L_ a9 i.length b0)):=by
     refine⟨⟨?_,Hy a0.o.2 O_ _ _ _ _ _⟩,?_,D.o.put _ _ _ _ _,p0.o.put O_ _ _ _ _ _,fun W U=> ?_⟩
     ·exact KH a0.o.1 O_ _ _ _ _ _
     ·exact KH b4.o O_ _ _ _ _ _
     ·obtain⟨r7,r8,r9,rfl,d8⟩:=Pr.RJ U d3.o;rw[d8]at i6;have:=i6.o;simp only[kL]at this;obtain⟨rfl,rfl,rfl⟩:=this;rw[d8];exact⟨rfl,rfl⟩
    unfold Hl at a1;clear B l6 g5;generalize(Pg.He a.data.toList).2=s8 at*;go_wp2_with fail;go_meet;exact⟨_,_,_,_,_,_,_,_,_,_,rfl,a1.o⟩
  case rest=>
   obtain⟨q,m,b,f,g,i,c3,k1,k2,k3,rfl,d9⟩:=hcut;have f6:=Aa d9;obtain⟨a5,a6,j,k,a7,a8,a9,b0,k4⟩:=d9.val.shape;simp only[vB,kN,jA,yB,yG]at k4;obtain⟨rfl,rfl,rfl,rfl⟩:=k4;obtain⟨c5,S,T,c6,c7,-⟩:=d9.var.cells;clear d9 c9 d0 d1 m2;go_wp2_with fail;refine(Ab2 _ m b (f.map Int.ofNat) g i _ f6.o.val.isNode).mono ?_;rintro b5 C ⟨rfl,l7⟩;have s:=Aa (f6.o.below l7);clear l7 f6 c5 S T c6 c7;obtain⟨c5,S,T,c6,c7,-⟩:=s.o.var.cells;obtain⟨k5,k6,k7,k8,k9,-⟩:=s.o.none_.cells;obtain⟨l0,l1,l2,l3,l4,L,M,N,O,R⟩:=s.o.res.1.cells
   cases q with
   | false=>
    have Z:Hid (Pr.En a.data.toList=none):=by
     show _=_
     cases b3:Pr.En a.data.toList with
     | none=>rfl
     | some W=>exact absurd (s.o.can W b3).1 D_
    have a4:=Aa (Vl s.o.res Z.o);obtain⟨t,u,y,z,A⟩:=Lp s.o.res.1 (J_ 0) Z_ Z_ Z_ Z_;unfold Hl at t u y z A;go_wp2_with fail;refine yS (v:=.tuple #[.agg #[J_ 0,Z_,Z_,Z_,Z_],J_ 2]) ?_ rfl a4.o;simp[results,go_sem,t,u,y,z,A]
   | true=>
    cases b6:Pg.Kh m (Ab b) (f.map Int.ofNat) (Ag g) (Ac i)with
    | false=>
     have Z:Hid (Pr.En a.data.toList=none):=by
      show _=_
      cases b3:Pr.En a.data.toList with
      | none=>rfl
      | some W=>
       obtain⟨-,rfl⟩:=s.o.can W b3;have:=(Pr.Ph b3).1;unfold Pr.Mc at this;rw[b6]at this;simp at this
     have a4:=Aa (Vl s.o.res Z.o);obtain⟨t,u,y,z,A⟩:=Lp s.o.res.1 (J_ 0) Z_ Z_ Z_ Z_;unfold Hl at t u y z A;clear b6;go_wp2_with fail;refine yS (v:=.tuple #[.agg #[J_ 0,Z_,Z_,Z_,Z_],J_ 2]) ?_ rfl a4.o;simp[results,go_sem,t,u,y,z,A]
    | true=>
     have p1:=Aa b6;have f7:=Aa (Ab3 _ m b (f.map Int.ofNat) g i _ s.o.val.isNode b6);have i7:Hid (Pg.page m (Ab b) (f.map Int.ofNat) (Ag g) (Ac i)=Pr.Kq (m,Ab b,f,Ag g,Ac i)):=rfl;rw[i7.o]at f7;have i8:Hid (Pr.Mc (m,Ab b,f,Ag g,Ac i)=true):=b6;clear b6 i7 p1;go_wp2_with fail;refine f7.o.mono ?_;rintro b5 l8 ⟨rfl,l9⟩;have J:=Aa (s.o.below l9);clear l9 s f7 c5 S T c6 c7 k5 k6 k7 k8 k9 l0 l1 l2 l3 l4 L M N O R;obtain⟨c5,S,T,c6,c7,-⟩:=J.o.var.cells;obtain⟨k5,k6,k7,k8,k9,-⟩:=J.o.none_.cells;obtain⟨l0,l1,l2,l3,l4,L,M,N,O,R⟩:=J.o.res.1.cells;by_cases b2:Pr.Kq (m,Ab b,f,Ag g,Ac i)=a.data.toList
     ·have i9:Hid (Pr.En a.data.toList=some (m,Ab b,f,Ag g,Ac i)):=(by show _=_;rw[<-b2];exact Pr.FZ i8.o);have a4:Hid (Adi w (Pr.En a.data.toList) (R_ (.tuple #[.agg #[J_ m,L_ a5 b.length a6,L_ j f.length k,L_ a7 g.length a8,L_ a9 i.length b0],J_ 0])) (Hl l8 w.heap.size (J_ m) (L_ a5 b.length a6) (L_ j f.length k) (L_ a7 g.length a8) (L_ a9 i.length b0))):=
       ⟨Hy J.o.res.2 X_ _ _ _ _ _,.inr ⟨m,b,f,g,i,_,i9.o,rfl,(J.o.val.put O_ _ _ _ _ _).shrink O_⟩⟩
      obtain⟨t,u,y,z,A⟩:=Lp J.o.res.1 (J_ m) (L_ a5 b.length a6) (L_ j f.length k) (L_ a7 g.length a8) (L_ a9 i.length b0);unfold Hl at t u y z A;rw[b2,BO];clear b2 i8 i9;go_wp2_with fail;refine yS (v:=.tuple #[.agg #[J_ m,L_ a5 b.length a6,L_ j f.length k,L_ a7 g.length a8,L_ a9 i.length b0],J_ 0]) ?_ rfl a4.o;simp[results,go_sem,t,u,y,z,A]
     ·have Z:Hid (Pr.En a.data.toList=none):=by
       show _=_
       cases b3:Pr.En a.data.toList with
       | none=>rfl
       | some W=>
        obtain⟨-,rfl⟩:=J.o.can W b3;exact absurd (Pr.Ph b3).2 b2
      have a4:=Aa (Vl J.o.res Z.o);obtain⟨t,u,y,z,A⟩:=Lp J.o.res.1 (J_ 0) Z_ Z_ Z_ Z_;unfold Hl at t u y z A;have m4:((⟨(Pr.Kq (m,Ab b,f,Ag g,Ac i)).toArray⟩:hJ).toList==a.toList)=false:=(by rw[Af,Af];simpa using b2);have m5:¬(⟨(Pr.Kq (m,Ab b,f,Ag g,Ac i)).toArray⟩:hJ)=a:=fun e=>b2 (by rw[<-e])
      clear b2;generalize(⟨(Pr.Kq (m,Ab b,f,Ag g,Ac i)).toArray⟩:hJ)=s9 at*;go_wp2_with fail;refine yS (v:=.tuple #[.agg #[J_ 0,Z_,Z_,Z_,Z_],J_ 2]) ?_ rfl a4.o;simp[results,go_sem,t,u,y,z,A]
theorem Adj(w:World){M:Array Oper}{N:Oper}{O:Act}{K:Act->World->Prop}{Q:Exit->Act->World->Prop}{E:Prop}(z:N.guard=none)(j x:Operand)(A:N.op=Op.call {callee:=Callee.builtin Builtin.append,args:= #[j,x],argTypes:= #[57,57]})(f:Nat)(v:Value)(d:List NdM)(B:O.eval j=v)(C:Sn f w v d)(a:NdM)(D:a.2.1.oneCell'=true)(F:a.2.2.1.oneCell'=true)(G:a.2.2.2.1.oneCell'=true)(H:a.2.2.2.2.oneCell'=true)(g:Nat)(I:O.eval x=L_ (P_ g) 1 1)(J:w.heap[g]?=some (C_ #[J_ a.1,a.2.1,a.2.2.1,a.2.2.2.1,a.2.2.2.2] 79 (0,0)))(R:d.length+1<=1000000000)(L:f<=w.heap.size)(h:∀(b:Value) (c:World),Sn f c b (d++[a])->w.grownBy c v.ownBlock->(b.ownBlock=v.ownBlock\/∃i,w.heap.size<=i/\b.ownBlock=some i)->K (O.put N.dst b) c):if Region.wanted N (yielded M O.tmps)=true then Oper.wp Tryz.prog N O w K Q else E:=by
 have k:Region.wanted N (yielded M O.tmps)=true:=by simp[Region.wanted,z]
 rw[xD k];obtain⟨m,n,o,p,q⟩:=zB ZL;obtain⟨b,c,r,s,t,_,u⟩:=kY (P:=Tryz.prog) w f 57 N.type 79 m (.agg #[J_ 0,Z_,Z_,Z_,Z_]) 5 104 Tryz.underlying57 n o p q rfl Do v d.length (Ih d) C (Q_ g 0) 1 1 [J_ a.1,a.2.1,a.2.2.1,a.2.2.2.1,a.2.2.2.2] rfl (fun i y i=>by
  rw[Dy];unfold World.cell?;simp only[zR,J];simpa using i) (by
   intro y i;simp only[xG,List.not_mem_nil,or_false]at i;rcases i with rfl|rfl|rfl|rfl|rfl
   ·rfl
   ·exact D
   ·exact F
   ·exact G
   ·exact H) (by unfold maxLen;omega) O_ L
 have l:K (O.put N.dst b) c:=by refine h b c ?_ t (u.imp_right fun e=>⟨w.heap.size,X_,e⟩);unfold Sn;rw[xC,Sp];exact s
 unfold Oper.wp;simp[execOp,A,resolve,invoke,builtin,B,I,r,Result.andThen];exact l
theorem Adk{S:Option Addr}(h:Ik w (L_ S g.length a) g.length (g.map .string))(c:Nat)(f:c<g.length):∃d b,S=some (Q_ d b)/\d<w.heap.size/\w.cell? (Q_ d (b+c))=some (B_ (g[c]'f)):=by
 obtain⟨k,l,e,_,h⟩:=h;simp only[xJ,yB]at e;obtain⟨rfl,rfl⟩:=e;rcases h with h0|⟨d,b,rfl,i,j⟩
 ·omega
 ·refine⟨d,b,rfl,i,?_⟩;rw[j c (by simpa using f)];simp
structure RlR(iml:hD)(w:World)(b:Nat)(vr vp:Value)(ps:List NdM)(W:World):Prop where
 lb:LB W b vp vr (-1)
 pg:Acn iml vp ps W
 re:W.ownsRow 0 4 1 vr (Iy iml.length []).length ((Iy iml.length []).map .bool)
 bel:Below w.heap.size w W
 low:w.heap.size<=b/\(∀g,vp.ownBlock=some g->w.heap.size<=g)/\∀g,vr.ownBlock=some g->w.heap.size<=g
theorem RlR.below{W:World}(h:RlR g w a d f F W)(b:Below W.heap.size W c):RlR g w a d f F c:=
 ⟨(b.block a h.lb.lt).trans h.lb,h.pg.mod (Mod.of_below (F:=fun _=>False) b) (fun _ i=>i.elim),Ae h.re b X_,h.bel.trans (b.mono h.bel.size),h.low⟩
theorem Mm(h:Below w.heap.size w c)(a:Mod m c q)(g:∀b,m b->w.heap.size<=b):Below w.heap.size w q:=
 h.trans ⟨a.os,a.tape,a.output,a.size,fun b d=>a.block b (yF d h.size) (fun f=>bS _ (yF d (g b f)))⟩
theorem RlR.snoc{x:NdM}(h:RlR g w a d f F c){J:hD}(O:(Au g)[F.length]?=some (some (x.1,Ab r,C,Ag J,Ac D)))(R:Gp 0 c (.agg #[J_ x.1,x.2.1,x.2.2.1,x.2.2.2.1,x.2.2.2.2]) x.1 r C J D)(S:Sn 0 q i (F++[x]))(b:c.grownBy q f.ownBlock)(T:i.ownBlock=f.ownBlock\/∃o,c.heap.size<=o/\i.ownBlock=some o):
  LB q a f d (-1)/\RlR g w a d i (F++[x]) (q.setCell (Q_ a 0) i):=by
 have l:=Mod.of_grown b;have B:Md c (fun o=>f.ownBlock=some o) Acm:=fun j b=>by obtain⟨t,u,e⟩:=Iz h.pg.row b;exact⟨t,_,u,e,Do⟩
 have H:f.ownBlock≠some a:=fun e=>by obtain⟨t,u,k⟩:=Iz h.pg.row e;have s:=h.lb;unfold LB at s;rw[s]at k;simp at k
 have m:LB q a f d (-1):=(l.block a h.lb.lt H).trans h.lb;have n:=Mod.setCell q a 0 i;have y:Md q (fun j=>j=a) JU:=fun j b=>by rw[show j=a from b];exact⟨_,_,_,m,Do⟩
 have G:q.ownsRow 0 4 1 d (Iy g.length []).length ((Iy g.length []).map .bool):=l.row h.re fun j b e=>by obtain⟨t,u,M⟩:=Iz h.pg.row e;obtain⟨U,V,k⟩:=Iz h.re b;rw[M]at k;simp at k
 have I:d.ownBlock≠some a:=fun e=>by obtain⟨t,u,k⟩:=Iz G e;unfold LB at m;rw[m]at k;simp at k
 refine⟨m,m.setP i,⟨Fu n y Do S,fun p z=> ?_⟩,n.row G (fun j b e=>I (by rw[<-show j=a from e];exact b)),Mm (Mm h.bel l h.low.2.1) n (fun j b=>by rw[show j=a from b];exact h.low.1),h.low.1,fun j b=> ?_,h.low.2.2⟩
 ·by_cases A:p<F.length
  ·obtain⟨r,C,J,D,s,N⟩:=h.pg.pgs p A;have e:(F++[x])[p]'z=F[p]'A:=vA A;rw[e];exact⟨r,C,J,D,s,(N.mod l B).mod n y.nd⟩
  ·have L:p=F.length:=(by rw[xC,jR]at z;omega);subst L;have e:(F++[x])[F.length]'z=x:=D_;rw[e];exact⟨r,C,J,D,O,(R.mod l B).mod n y.nd⟩
 ·rcases T with e|⟨o,p,e⟩
  ·exact h.low.2.1 j (by rw[<-e];exact b)
  ·rw[e]at b;rw[<-xM b];exact xI h.bel.size p
def RLQ(iml:hD)(w:World)(r:Ending)(w':World):Prop:=
 Below w.heap.size w w'/\((r=R_ (.tuple #[.pointer none,J_ 2])/\¬Xj (Au iml))\/∃(H:Nat) (f:PT H) (y:Nat) (v:Value) (il:gY),r=R_ (.tuple #[A_ y,J_ 0])/\Dz (Au iml) H [] [] f/\Ld.num H f=0/\(Ld.nums H f).Nodup/\(∀n,n<iml.length->n∈Ld.nums H f)/\RT w' y v/\Ap 0 w' v il/\Ab il=Tr.Cr [] (eff (Au iml) H f)/\Tr.WF 0 [] none (Ab il)/\w.heap.size<=y/\∀g,v.ownBlock=some g->w.heap.size<=g)
theorem RP(f5:Value)(a:hD)(w:World)(f6:Ik w f5 a.length (a.map .string))(i8:a.length<=1200000)(f7:∀f1∈a,f1.size<=10000000):
  Calls Tryz.prog 110 #[f5] w (RLQ a w):=by
 have f8:=Aa f6;obtain⟨j4,j5,rfl,j6,h1⟩:=f6;have f9:=Aa f7;clear f7 h1;go_in;go_wp2_with (at_make;refine Afo w rfl (.tmp 12) (.tmp 12) rfl a.length U_ U_ O_ ?_;intro G e8 a4);have c1:Hid (RlR a w G.heap.size (L_ (P_ w.heap.size) a.length a.length) Z_ [] (G.alloc (C_ #[Z_,L_ (P_ w.heap.size) a.length a.length,J_ (-1)] 215))):=by
  have c2:Below G.heap.size G (G.alloc (C_ #[Z_,L_ (P_ w.heap.size) a.length a.length,J_ (-1)] 215)):=(xA _ G).alloc X_ _;refine⟨xK _ _,⟨⟨rfl,.inl ⟨rfl,rfl⟩⟩,fun b b3=>by cases b3⟩,?_,?_,a4.size,(fun B C=>by cases C),fun B C=> ?_⟩
  ·rw[Gi];exact Ae (Dp e8) c2 X_
  ·exact a4.trans (c2.mono a4.size)
  ·rw[<-xM C];exact Nat.le_refl _
 clear e8 a4;generalize G.alloc (C_ #[Z_,L_ (P_ w.heap.size) a.length a.length,J_ (-1)] 215)=n0 at*;generalize G.heap.size=a5 at*
 go_loopw [5] (fun y wr=>∃(d6:Value) (c:List NdM),y=J_ (c.length:Nat)/\c.length<=a.length/\RlR a w a5 (L_ (P_ w.heap.size) a.length a.length) d6 c wr) (fun y _=>a.length-(intOf y).toNat)
 case atStart=>exact⟨_,[],rfl,Y_,c1.o⟩
 case round=>
  obtain⟨d6,c,rfl,h2,O⟩:=hrel;have H:=Aa O;obtain⟨R,S,rfl⟩:=Ad O.pg.row;clear c1;by_cases L:c.length<a.length
  ·obtain⟨B,j7,rfl,C,j8⟩:=Adk (f8.o.below O.bel) c.length L;have i9:(0:Int)<=(c.length:Int):=O_;have g0:(c.length:Int)<(a.length:Int):=O_;have c3:=Aa (EW L);have c4:=f9.o _ (yA L);have g1:=Aa (RO (a[c.length]'L) wr c4);clear O c4;generalize a[c.length]'L=f1 at*;go_wp2_with fail;refine g1.o.mono ?_;rintro i1 t ⟨Z,⟨e3,rfl⟩|⟨f,g,i,j,k,v,e4,rfl,e5⟩⟩
   ·have a6:Hid (RLQ a w (R_ (.tuple #[.pointer none,J_ 2])) (t.alloc (C_ #[J_ 0,Z_,Z_,Z_,Z_] 79))):=by
     have M:Below t.heap.size t (t.alloc (C_ #[J_ 0,Z_,Z_,Z_,Z_] 79)):=(xA _ t).alloc X_ _;refine⟨((H.o.below Z).below M).bel,.inl ⟨rfl,fun i6=> ?_⟩⟩;obtain⟨j9,d7⟩:=i6.all c.length (by unfold Au;rw[xP];exact L);rw[c3.o,e3]at d7
     cases d7
    clear Z e3;go_wp2_with fail;go_ret2;exact a6.o
   ·have c5:=e5;obtain⟨k0,k1,k2,k3,rfl,d8,d9,e0,e1,-⟩:=e5;obtain⟨l,m,rfl⟩:=Ad d8;obtain⟨n,o,rfl⟩:=Ad d9;obtain⟨p,q,rfl⟩:=Ad e0;obtain⟨r,s,rfl⟩:=Ad e1;have g2:Hid ((Au a)[c.length]?=some (some (f,Ab g,i,Ag j,Ac k))):=(by show _=_;rw[c3.o,e4]);have M:Below t.heap.size t (t.alloc (C_ #[J_ f,L_ l g.length m,L_ n i.length o,L_ p j.length q,L_ r k.length s] 79)):=(xA _ t).alloc X_ _;have a7:=Aa ((H.o.below Z).below M);have g3:Hid (Gp 0 (t.alloc (C_ #[J_ f,L_ l g.length m,L_ n i.length o,L_ p j.length q,L_ r k.length s] 79)) (.agg #[J_ f,L_ l g.length m,L_ n i.length o,L_ p j.length q,L_ r k.length s]) f g i j k):=(c5.shrink Y_).mod (Mod.of_below (F:=fun _=>False) M) (fun _ z=>z.elim);have c6:Hid (Bq (t.alloc (C_ #[J_ f,L_ l g.length m,L_ n i.length o,L_ p j.length q,L_ r k.length s] 79)) t.heap.size (J_ f) (L_ l g.length m) (L_ n i.length o) (L_ p j.length q) (L_ r k.length s)):=Cz _ _ _ _ _ _;clear Z e4 c5 d8 d9 e0 e1 M;go_upto_region 8 with fail;generalize t.alloc (C_ #[J_ f,L_ l g.length m,L_ n i.length o,L_ p j.length q,L_ r k.length s] 79)=A at*;have a8:Below A.heap.size A (A.drew.alloc (C_ #[J_ f,L_ l g.length m,L_ n i.length o,L_ p j.length q,L_ r k.length s] 79)):=(xA _ A).drew.alloc X_ _;have c7:=Aa (a7.o.below a8);have g4:=Aa (g3.o.mod (Mod.of_below (F:=fun _=>False) a8) (fun _ z=>z.elim));have g5:Hid ((A.drew.alloc (C_ #[J_ f,L_ l g.length m,L_ n i.length o,L_ p j.length q,L_ r k.length s] 79)).heap[A.heap.size]?=some (C_ #[J_ f,L_ l g.length m,L_ n i.length o,L_ p j.length q,L_ r k.length s] 79 (0,0))):=xK _ _;obtain⟨k4,k5,k6,k7,k8,-⟩:=c6.o.cells;obtain⟨h3,h4,h5,h6,h7⟩:=a7.o.lb.cells;have N:Hid (∀J b8,Sn 0 b8 J (c++[(f,L_ l g.length m,L_ n i.length o,L_ p j.length q,L_ r k.length s)])->(A.drew.alloc (C_ #[J_ f,L_ l g.length m,L_ n i.length o,L_ p j.length q,L_ r k.length s] 79)).grownBy b8 (Value.slice R c.length S).ownBlock->(J.ownBlock=(Value.slice R c.length S).ownBlock\/∃f2,(A.drew.alloc (C_ #[J_ f,L_ l g.length m,L_ n i.length o,L_ p j.length q,L_ r k.length s] 79)).heap.size<=f2/\J.ownBlock=some f2)->_/\_):=fun J b8 U V a3=>c7.o.snoc (x:=(f,L_ l g.length m,L_ n i.length o,L_ p j.length q,L_ r k.length s)) g2.o g4.o U V a3
    obtain⟨k9,l0,l1,l2,l3⟩:=(a7.o.below ((xA _ A).alloc X_ (C_ #[J_ f,L_ l g.length m,L_ n i.length o,L_ p j.length q,L_ r k.length s] 79))).lb.cells;obtain⟨l4,l5,l6,l7,l8,-⟩:=(c6.o.keep ((xA _ A).alloc X_ (C_ #[J_ f,L_ l g.length m,L_ n i.length o,L_ p j.length q,L_ r k.length s] 79))).cells;clear a8
    go_region_law (refine Adj _ (by rfl) (.tmp 36) (.tmp 38) (by rfl) 0 (L_ R c.length S) c U_ c7.o.pg.row (f,L_ l g.length m,L_ n i.length o,L_ p j.length q,L_ r k.length s) rfl rfl rfl rfl A.heap.size U_ g5.o O_ Y_ ?_;intro W i5 b7 e9 f0;have c8:=Aa (N.o W i5 b7 e9 f0);obtain⟨l9,m0,m1,m2,m3⟩:=c8.o.1.cells;obtain⟨m4,m5,rfl⟩:=Ad b7;clear b7 e9 f0)
    all_goals
     go_wp2_with fail;have c9:=c8.o.2;rw[xC,jR]at c9;refine⟨⟨_,_,?_,?_,c9⟩,?_⟩
     ·rw[xC];go_num
     ·simp;omega
     ·simp[intOf];omega
  ·have g6:a.length<=c.length:=O_;have d0:Below wr.heap.size wr (wr.alloc (C_ #[Z_] 113)):=(xA _ wr).alloc X_ _;have D:=Aa (H.o.below d0);have g0:¬(c.length:Int)<(a.length:Int):=O_;have d1:Hid (RlI a a5 wr.heap.size (L_ R c.length S) (L_ (P_ w.heap.size) a.length a.length) c [] (-1) Z_ [] (wr.alloc (C_ #[Z_] 113))):=⟨D.o.lb,D.o.pg,Nat.le_antisymm h2 g6,D.o.re,xK _ _,⟨rfl,.inl ⟨rfl,rfl⟩⟩,⟨List.Pairwise.nil,fun x i7=>by cases i7⟩,⟨wJ,fun d X=>by cases X⟩,fun B C=>by cases C⟩;have d2:Hid (∀B,rlF a5 wr.heap.size (L_ (P_ w.heap.size) a.length a.length) B->w.heap.size<=B):=by
    rintro B (rfl|rfl|C)
    ·exact D.o.low.1
    ·exact H.o.bel.size
    ·exact D.o.low.2.2 B C
   have a9:=Aa (UV a i8 a5 wr.heap.size (L_ R c.length S) (L_ (P_ w.heap.size) a.length a.length) c a.length [] (-1) _ [] 0 0 ⟨#[]⟩ ⟨#[]⟩ _ D_ d1.o D_ O_ Y_);have d3:=Aa (H.o.bel.size);clear O d0 d1;go_wp2_with fail;generalize wr.alloc (C_ #[Z_] 113)=n1 at*;generalize wr.heap.size=f4 at*;refine a9.o.mono ?_;rintro i1 T ⟨a0,⟨rfl,e6⟩|⟨h,u,J,i2,rfl,a1,a2,i3,F,b5⟩⟩
   ·have a6:Hid (RLQ a w (R_ (.tuple #[.pointer none,J_ 2])) T):=by
     refine⟨Mm D.o.bel a0 d2.o,.inl ⟨rfl,?_⟩⟩;rintro⟨b6,u,U,V,a3,-⟩;exact e6 b6 u U V (by simpa using a3) (.inl Do)
    clear a0 e6 a9 H D;go_wp2_with fail
    go_loopw [10,9] (fun y W b9=>∃b:Nat,y=J_ (b:Nat)/\b<=a.length/\W=.bool false/\b9=T) (fun y _ _=>a.length-(intOf y).toNat)
    case atStart=>exact⟨0,rfl,Y_,rfl,rfl⟩
    case round=>
     obtain⟨b,rfl,b3,rfl,rfl⟩:=hrel;by_cases f3:b<a.length
     ·have b0:(b:Int)<(a.length:Int):=O_;go_wp2_with fail;exact⟨⟨b+1,W_,O_,rfl,by trivial⟩,by simp[intOf];omega⟩
     ·have b0:¬(b:Int)<(a.length:Int):=O_;go_wp2_with fail;go_ret2;exact a6.o
   ·have d4:=Aa (Mm D.o.bel a0 d2.o);have j0:=Aa a1;have j1:=Aa a2;have g7:=Aa F;have j2:=Aa b5;obtain⟨h3,h4,h5,h6,h7⟩:=F.lb.cells;have g8:Hid ((∀d,d<a.length->d∈Ld.nums h u)->RLQ a w (R_ (.tuple #[A_ f4,J_ 0])) T):=fun c0=>
     ⟨d4.o,.inr ⟨h,u,f4,J,i2,rfl,a1,a2,by have:=F.rdn.1;simpa using this,c0,F.rt,F.it,b5,F.wf,d3.o,fun B C=>xI d3.o (F.lo B C)⟩⟩
    have g9:Hid (¬(∀d,d<a.length->d∈Ld.nums h u)->RLQ a w (R_ (.tuple #[.pointer none,J_ 2])) T):=fun c0=>by
     refine⟨d4.o,.inl ⟨rfl,?_⟩⟩;rintro⟨b6,i4,U,V,a3,e7⟩;obtain⟨rfl,h8⟩:=Ln (Dd a) b6 h [] [] [] [] i4 u U a1 (by rw[V,a2]);rw[aN h8]at e7;refine c0 fun d X=>e7 d ?_
     unfold Au;rw[xP];exact X
    clear a0 a1 a2 i3 F b5 a9 H D;go_wp2_with fail
    go_loopw [10,9] (fun y W b9=>∃b:Nat,y=J_ (b:Nat)/\b<=a.length/\(∃I:Bool,W=.bool I/\(I=true↔∀d,d<b->d∈Ld.nums h u))/\b9=T) (fun y _ _=>a.length-(intOf y).toNat)
    case atStart=>exact⟨0,rfl,Y_,⟨true,rfl,D_⟩,rfl⟩
    case round=>
     obtain⟨b,rfl,b3,⟨I,rfl,e2⟩,rfl⟩:=hrel;have b1:=Aa e2;clear e2;by_cases f3:b<a.length
     ·have j3:(0:Int)<=(b:Int):=O_;have b0:(b:Int)<(a.length:Int):=O_;have b2:b<(Iy a.length ([]++Ld.nums h u)).length:=(by rw[Gi];exact f3);obtain⟨m6,m7,b4,h9,m8,i0,m9⟩:=BP g7.o.re b b2;rw[Gi]at b4;simp only[xJ,xX,yT,yB,yG]at b4;obtain⟨rfl,rfl⟩:=b4;rw[Adb b2,zI]at i0;have d5:Hid ((I&&decide (b∈Ld.nums h u))=true↔∀d,d<b+1->d∈Ld.nums h u):=by
       rw[yK,yL,b1.o];refine⟨fun z d X=> ?_,fun z=>⟨fun d X=>z d O_,z b O_⟩⟩;by_cases e:d=b
       ·rw[e];exact z.2
       ·exact z.1 d O_
      generalize decide (b∈Ld.nums h u)=n2 at*;clear h9 b2
      cases I
      ·go_wp2_with fail;exact⟨⟨b+1,W_,O_,⟨_,rfl,d5.o⟩,by trivial⟩,by simp[intOf];omega⟩
      ·go_wp2_with fail;exact⟨⟨b+1,W_,O_,⟨_,rfl,d5.o⟩,by trivial⟩,by simp[intOf];omega⟩
     ·have Y:b=a.length:=O_;have b0:¬(b:Int)<(a.length:Int):=O_
      cases I with
      | false=>
       have N:=Aa (g9.o fun z=>by have:=b1.o.2 (by rw[Y];exact z);cases this);clear Y;go_wp2_with fail;go_ret2;exact N.o
      | true=>
       have N:=Aa (g8.o (by have:=b1.o.1 rfl;rw[Y]at this;exact this));clear Y;go_wp2_with fail;go_ret2;exact N.o
def Xu(eS eE eM:TypeId)(mk:Value->hH)(ok:Value->Prop)(F:Nat->Prop)(w:World)(vS vM:Value)(k:Nat):Prop:=∃L M:hH,w.ownsRow 0 eS 1 vS k L/\w.ownsRow 0 eM 1 vM k M/\∀(i:Nat) (u m:Value),L[i]?=some u->M[i]?=some m->ok m/\Dn eE (mk m) w u/\∀g,Gd u=some g->F g
theorem Xu.kept{t u y:TypeId}{mk:Value->hH}{z:Value->Prop}{m:Nat->Prop}{w:World}{d f:Value}{a:Nat}(h:Xu t u y mk z m w d f a):AY t u y mk z w d f a:=by obtain⟨l,n,o,p,b⟩:=h;exact⟨l,n,o,p,fun c g i j k=>⟨(b c g i j k).1,(b c g i j k).2.1⟩⟩
theorem Xu.stay(h:Xu t u y mk z m w d f a)(j:∀b,b<w.heap.size->(d.ownBlock=some b\/f.ownBlock=some b\/m b)->c.heap[b]?=w.heap[b]?)(H:∀b,b<w.heap.size->m b->G b):Xu t u y mk z G c d f a:=by obtain⟨l,n,o,p,q⟩:=h;refine⟨l,n,Bx o fun b g i=>j b i (.inl g),Bx p fun b g i=>j b i (.inr (.inl g)),fun s B C D F=> ?_⟩;obtain⟨r,i,k⟩:=q s B C D F;exact⟨r,i.keep fun b g=>j b (i.lt g) (.inr (.inr (k b g))),fun b g=>H b (i.lt g) (k b g)⟩
theorem Aa8{L:Value}{T U:hH}(X:∀(j:Nat) (g o:Value),T[j]?=some g->U[j]?=some o->z o/\Dn u (mk o) w g/\∀b,Gd g=some b->m b)(Y:T.length=k)(Z:U.length=k)(a0:XY w a t u y (mk L) L d f i k T U l s c)(a1:z L)(H:∀b,b<w.heap.size->m b->b≠a/\d.ownBlock≠some b/\f.ownBlock≠some b/\i.ownBlock≠some b/\G b)(a2:∀b,(d.ownBlock=some b\/w.heap.size<=b)->b≠a->l.ownBlock≠some b->s.ownBlock≠some b->G b):Xu t u y mk z G c l s (k+4):=by
 obtain⟨M,N,O,R,S,V,a3,a4,-,-,-,a5,W⟩:=a0;refine⟨_,_,R,S,fun j g o p q=> ?_⟩;by_cases a6:j<k
 ·rw[vQ O_]at p q;obtain⟨r,n,F⟩:=X j g o p q;refine⟨r,n.keep fun b j=> ?_,fun b j=>(H b (n.lt j) (F b j)).2.2.2.2⟩;obtain⟨A,B,C,D,-⟩:=H b (n.lt j) (F b j);exact W b (n.lt j) A B C D
 ·rw[kC O_]at p q;have I:=(jM.1 p).1;rw[Y]at p I;rw[Z]at q;have J:g=d\/g=M\/g=N\/g=O:=by
   have:=dV p;simpa using this
  have p:o=L:=by have:=dV q;simpa using this
  subst p;obtain⟨r,n⟩:=V g J;refine⟨a1,r,fun b j=> ?_⟩;obtain⟨A,B,C,D⟩:=n b j;exact a2 b A B C D
