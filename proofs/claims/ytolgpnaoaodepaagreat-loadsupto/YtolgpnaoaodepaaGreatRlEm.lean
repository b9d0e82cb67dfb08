import Derived.Test.YtolgpnaoaodepaaGreatRtAm
import Derived.Test.YtolgpnaoaodepaaGreatImCm
set_option maxHeartbeats 1000000
set_option maxRecDepth 20000
namespace Go.Proofs.YtolgpnaoaodepaaGreat
open Go.RowKit Ld Sq Tr
variable {k s:hD}{a c f:Nat}{t u y z A B v:Value}{C:List NdM}{w F:World}{l m:Int}{i D:gY}{j n:hF}{p:gZ}
structure PgW(iml:hD)(b bt:Nat)(vp vr:Value)(ps:List NdM)(w:World)(nb:Nat)(kd:Int)(v1 v2 v3 v4:Value)(il0:gY)(cl:hF)(pl:hD)(ml:gZ)(rd:hF)(far:Int)(v:Value)(il:gY)(W:World):Prop where
 li:RlI iml b bt vp vr ps rd far v il W
 nd:Bq W nb (J_ kd) v1 v2 v3 v4
 nv:Gp 0 W (.agg #[J_ kd,v1,v2,v3,v4]) kd il0 cl pl ml
 mod:Mod (rlF b bt vr) w W
theorem PgW.next{L:hF}{I:Int}{H:Value}{J:gY}{M:World}(h:PgW k a c t u C w f l y z A B i j s p n m v D F)(q:RlI k a c t u C L I H J M)(g:Mod (rlF a c u) F M):PgW k a c t u C w f l y z A B i j s p L I H J M:=
 ⟨q,(g.block f h.nd.lt (fun b=>by obtain⟨r,G,N,d,o⟩:=h.li.alien f b;have:=h.nd;unfold Bq at this;rw[this]at d;simp only[xX,vW]at d;exact o (by rw[<-d.2.1];decide))).trans h.nd,h.nv.mod g h.li.alien.nd,h.mod.trans g (fun _ _ b=>b) (fun _ _ b=>b)⟩
theorem PgW.below{W:World}(h:PgW k a c t u C w f l y z A B i j s p n m v D W)(b:Below W.heap.size W F):PgW k a c t u C w f l y z A B i j s p n m v D F:=
 h.next (h.li.below b) (Mod.of_below b)
theorem Af4(h:w.ownsRow 0 3 1 v j.length (Cl j))(a:Nat)(c:a<j.length):∃b d,v=L_ (P_ b) j.length d/\j.length<=d/\b<w.heap.size/\w.cell? (Q_ b a)=some (J_ ((j[a]'c:Nat):Int)):=by
 rcases h.2 with⟨_,h0⟩|⟨b,f,k,d,_,g,i,_⟩
 ·omega
 ·have:=zD h (g:=b) (by rw[d];rfl) a (J_ ((j[a]'c:Nat):Int)) (by simp[Cl,c]);rw[Gv]at this;exact⟨b,f,d,i,(xS.1 g).1,by simpa using this⟩
theorem Vh(h:Tr.WF 0 [] none (Ab i)):Tr.Cb (Ab i)/\∀a∈i,a.2.size<=16:=by refine⟨h.1,fun a b=> ?_⟩;have:=(h.2 (a.1.data.toList,a.2.data.toList) (xL.2 ⟨a,b,rfl⟩)).2.2;rw[<-Ah];exact this
theorem Adb{rd:hF}(h:c<(Iy a rd).length):(Iy a rd)[c]'h=decide (c∈rd):=by
 have:(Iy a rd)[c]?=some (decide (c∈rd)):=by unfold Iy;rw[zU,dQ (by rw[Gi]at h;exact h)];rfl
 exact(jM.1 this).2
def AP(l:gY):List Tr.Ch:=(Ab l).map fun x=>((1:Int),x.1,x.2)
theorem UU(b:a<i.length):AP (i.take (a+1))=AP (i.take a)++[chP 1 (i[a]'b).1 (i[a]'b).2]:=by
 have:i.take (a+1)=i.take a++[i[a]'b]:=by rw[zN,xW b];rfl
 rw[this];unfold AP Ab;rw[yX,yX];rfl
theorem Aa0(b:gY)(a:Nat):(AP (b.take a)).length<=a:=by unfold AP Ab;simp;omega
theorem Adc(b:a<p.length):Ac (p.take (a+1))=Ac (p.take a)++[chP (p[a]'b).1 (p[a]'b).2.1 (p[a]'b).2.2]:=by
 have:p.take (a+1)=p.take a++[p[a]'b]:=by rw[zN,xW b];rfl
 rw[this];unfold Ac;rw[yX];rfl
theorem Af5(d:Nd){cl:hF}(l:kds d=cl)(m:Ld.pvs d=Ag k)(b c:hJ)(a:Nat)(g:a<cl.length)(f:a<(Gh b c k).length)(n:a<(Fv d b.data.toList c.data.toList).length):(Fv d b.data.toList c.data.toList)[a]'n=(cl[a]'g,((Gh b c k)[a]'f).1.data.toList,((Gh b c k)[a]'f).2.data.toList):=by
 have e:=Sc k b c;subst l;have i:(Ma b.data.toList c.data.toList (Ld.pvs d))[a]?=some (((Gh b c k)[a]'f).1.data.toList,((Gh b c k)[a]'f).2.data.toList):=by rw[m,<-e,zU,xW f];rfl
 have j:(Fv d b.data.toList c.data.toList)[a]?=some ((kds d)[a]'g,((Gh b c k)[a]'f).1.data.toList,((Gh b c k)[a]'f).2.data.toList):=by show(List.zipWith _ _ _)[a]?=_;rw[gJ,xW g,i]
 exact(jM.1 j).2
def Ade(iml:hD)(b bt:Nat)(vp vr:Value)(ps:List NdM)(m:Nat):Prop:=∀(rd:hF) (far:Int) (v:Value) (il:gY) (n deep:Nat) (lo hi:hJ) (w:World),iml.length<=rd.length+m->RlI iml b bt vp vr ps rd far v il w->il.length<=16*rd.length->n<=2147483647->deep<=rd.length->Calls Tryz.prog 160 #[A_ b,A_ bt,J_ (n:Nat),J_ (deep:Nat),B_ lo,B_ hi] w (RpQ iml b bt vp vr ps rd far il n deep lo.data.toList hi.data.toList w)
theorem Aga{P:List (Option Nd)}(p:BB P){N:Nd}{O S:Tr.Key}{T:List Tr.It}{h:Nat}{V:List (PT h)}{U:List Tr.It}(b:KdI P N O S a j l c T f h V n m U)(s:T.length<=16*j.length):U.length+16<=16*n.length/\j.length<n.length:=by
 have q:=Jt ((V.map (eff P h)).flatten) T;have r:=Ld.Nn (eff P h) (Ld.nums h) 16 V fun d o=>by obtain⟨g,i,k⟩:=b.ff.each d o;exact MM p h g i d k
 rw[b.ls,b.rd,xC,xC];have e:(Co h V).length=((V.map (Ld.nums h)).flatten).length:=rfl;rw[e,jR];omega
theorem RE(d:hD)(y7:d.length<=1200000)(z t:Nat)(o8 o9:Value)(j:List NdM)(p0:Nat)(p1:∀v3<p0,Ade d z t o8 o9 j v3):Ade d z t o8 o9 j p0:=by
 intro p u v C i m q r w o0 hI o1 y5 y6;have j6:=Aa p1;have v6:=Aa hI;have j7:=Aa o1;have v7:p.length<=d.length:=Lm hI.rdn.1 hI.rdn.2;have p2:j.length<=d.length/\d.length<=j.length:=⟨wM hI.len,wM hI.len.symm⟩;obtain⟨w9,x0⟩:=p2;have p3:Hid ((Au d).length=d.length):=by show _=_;unfold Au;simp
 obtain⟨x1,D,r9⟩:=Ad hI.pg.row;obtain⟨x2,F,l4⟩:=Ad hI.re;rw[Gi]at l4;subst r9 l4;obtain⟨l5,l6,l7,l8,e8⟩:=hI.lb.cells;have p4:=Aa o0;clear p1 o1 o0;by_cases j5:i<j.length
 case neg=>
  have g0:Hid (FP (Au d) p u m i q.data.toList r.data.toList):=Va fun j2 B _=>by have:=(jM.1 B).1;rw[p3.o]at this;omega
  have p5:(j.length:Int)<=(i:Int):=O_;clear hI;go_enter fE,fH;go_wp2_with fail;go_ret;exact⟨Mod.of_below (xA _ w),.inl ⟨rfl,g0.o⟩⟩
 case pos=>
  have c9:i<(Iy d.length p).length:=by rw[Gi];omega
  obtain⟨n,x3,h3,l9,s0,h4,s1⟩:=BP hI.re i c9;rw[Gi]at h3 l9;simp only[xJ,yB]at h3;obtain⟨rfl,rfl⟩:=h3;have p5:¬(j.length:Int)<=(i:Int):=O_;have v8:(0:Int)<=(i:Int):=O_;have v9:(i:Int)<(d.length:Int):=O_;have w0:(i:Int)<(j.length:Int):=O_;by_cases f8:i∈p
  case pos=>
   have g0:Hid (FP (Au d) p u m i q.data.toList r.data.toList):=Va fun _ _ _=>f8
   have e:(Iy d.length p)[i]'c9=true:=(by have:=Adb (rd:=p) c9;rw[this];simp[f8]);rw[e]at h4;clear hI;go_enter fE,fH;go_wp2_with fail;go_ret;exact⟨Mod.of_below (xA _ w),.inl ⟨rfl,g0.o⟩⟩
  case neg=>
   have e:(Iy d.length p)[i]'c9=false:=(by have:=Adb (rd:=p) c9;rw[this];simp[f8]);rw[e]at h4;obtain⟨d5,m0⟩:=hI.mark (n:=i) O_ f8;have j8:=Aa d5;have j9:=Aa m0;obtain⟨c,f,g,b,e9,h5⟩:=d5.pg.pgs i j5;obtain⟨G,x4,m1,s2,-,s3,m2,m3,m4,m5,m6⟩:=d5.pg.row.at i j5;simp only[xJ,yB]at m1;obtain⟨rfl,rfl⟩:=m1;generalize j[i]'j5=j2 at*;obtain⟨a7,x5,c1,a0,x6⟩:=j2;simp only at e9 h5 m2 m3 m4 m5 m6;obtain⟨s4,s5,s6,-⟩:=d5.lb.cells;have b8:=Aa e9;obtain⟨m7,m8⟩:=Qm e9;have e4:=Aa m7;have k0:=Aa m8;have k1:=Aa h5;obtain⟨u1,u2,u3,u4,m9,H,M,I,J,f0,h6,f1,f2⟩:=h5;simp only[vB,kN,jA,yG,yB]at m9;obtain⟨rfl,rfl,rfl,rfl⟩:=m9;obtain⟨a1,S,rfl⟩:=Ad H;obtain⟨a2,T,rfl⟩:=Ad M;obtain⟨U,V,rfl⟩:=Ad I;obtain⟨a3,W,rfl⟩:=Ad J;have k2:(w.setCell (Q_ n i) (.bool true)).heap.size=w.heap.size:=(by simp[World.setCell]);have e5:Hid (PgW d z t (L_ (P_ G) j.length D) (L_ (P_ n) d.length F) j w w.heap.size a7 (L_ a1 c.length S) (L_ a2 f.length T) (L_ U g.length V) (L_ a3 b.length W) c f g b (p++[i]) u v C ((w.setCell (Q_ n i) (.bool true)).alloc (C_ #[J_ a7,L_ a1 c.length S,L_ a2 f.length T,L_ U g.length V,L_ a3 b.length W] 79))):=(by have g1:Below (w.setCell (Q_ n i) (.bool true)).heap.size (w.setCell (Q_ n i) (.bool true)) ((w.setCell (Q_ n i) (.bool true)).alloc (C_ #[J_ a7,L_ a1 c.length S,L_ a2 f.length T,L_ U g.length V,L_ a3 b.length W] 79)):=(xA _ _).alloc X_ _;refine⟨j8.o.below g1,?_,k1.o.mod (Mod.of_below (F:=fun _=>False) g1) (fun _ s=>s.elim),j9.o.trans (Mod.of_below (F:=fun _=>False) g1) (fun _ _ s=>s) (fun _ _ s=>s.elim)⟩;have:=Cz (w.setCell (Q_ n i) (.bool true)) (J_ a7) (L_ a1 c.length S) (L_ a2 f.length T) (L_ U g.length V) (L_ a3 b.length W);rw[k2]at this;exact this);have p6:=Aa f0;have p7:=Aa f1;have p8:=Aa f2;clear hI d5 m0 e9 m7 m8 H M I J f0 h6 f1 f2 k2;go_enter fE,fH;go_wp2_with fail;generalize(w.setCell (Q_ n i) (.bool true)).alloc (C_ #[J_ a7,L_ a1 c.length S,L_ a2 f.length T,L_ U g.length V,L_ a3 b.length W] 79)=v4 at*;clear m2 m3 m4 m5 m6 s4 s5 s6 l5 l6 l7 l8 e8 h4 s1 e j8 j9 k1 s3 s2 l9 s0;obtain⟨h7,h8,b2,h9,X,H,M,I,J,-⟩:=e5.o.nv;simp only[vB,kN,jA,yG,yB]at X;obtain⟨rfl,rfl,rfl,rfl⟩:=X;refine(MO q r a7 _ _ _ _ c g b v4 H I J (xI p6.o Do) (xI p7.o Do) (xI p8.o Do)).mono ?_;rintro o u6 ⟨rfl,n8⟩;have b9:=Aa (e5.o.below n8);have g2:=Aa (PI a7 q.data.toList r.data.toList c f g b);clear H M I J n8 e5;obtain⟨c2,c3,c4,c5,c6,-⟩:=b9.o.nd.cells
   cases f9:Wy q.data.toList r.data.toList c b g with
   | false=>
    have e6:Hid (RpQ d z t (L_ (P_ G) j.length D) (L_ (P_ n) d.length F) j p u C i m q.data.toList r.data.toList w (R_ (.bool false)) u6):=⟨b9.o.mod,.inl ⟨rfl,Va fun j2 B a6=>by rw[b8.o]at B;simp only[xX]at B;rw[<-B]at a6;have:=g2.o.2 a6;rw[f9]at this;cases this⟩⟩;clear f9;go_wp2_with fail;go_ret;exact e6.o
   | true=>
    have k3:=Aa (g2.o.1 f9);clear f9 g2;rcases e4.o with⟨i9,j0,c8,f4,e3,j1,f5⟩|⟨i9,j0,c8,f4,e3,j1,f5,o2,o3⟩
    ·obtain rfl:a7=1:=i9;have w1:c.length<=16:=(by have L:(Ab c).length<=16:=e3;rw[Cv]at L;exact L);have p9:Hid (∀(a:Nat) (h:a<c.length),Tr.Kv (chP 1 (c[a]'h).1 (c[a]'h).2)):=fun a h=>FO (x:=((c[a]'h).1.data.toList,(c[a]'h).2.data.toList)) (f5 _ (xL.2 ⟨c[a]'h,yA h,rfl⟩))
     clear j0 c8 f4 e3 j1 f5 e4 k0;go_wp2_with fail
     go_loopw [15] (fun Z wr=>∃(a:Nat) (a4:Value) (y:gY),Z=J_ (a:Nat)/\a<=c.length/\PgW d z t (L_ (P_ G) j.length D) (L_ (P_ n) d.length F) j w w.heap.size 1 (L_ a1 c.length S) (L_ a2 f.length T) (L_ U g.length V) (L_ a3 b.length W) c f g b (p++[i]) u a4 y wr/\Ab y=Tr.Cr (Ab C) (AP (c.take a))) (fun Z _=>c.length-(intOf Z).toNat)
     case atStart=>exact⟨0,v,C,rfl,Y_,b9.o,rfl⟩
     case round=>
      clear c2 c3 c4 c5 c6;obtain⟨a,a4,y,rfl,s7,k,c7⟩:=hrel;have g3:=Aa k;have q0:=Aa c7;obtain⟨c2,c3,c4,c5,c6,-⟩:=k.nd.cells;by_cases A:a<c.length
      ·obtain⟨h7,h8,b2,h9,X,H,M,I,J,-⟩:=k.nv;simp only[vB,kN,jA,yG,yB]at X;obtain⟨rfl,rfl,rfl,rfl⟩:=X;obtain⟨i0,s8,e,s9,-,t0,i1,i2⟩:=H.at a A;simp only[xJ,yB]at e;obtain⟨rfl,rfl⟩:=e;have d0:y.length<=20000000:=by
        have B:=Jt (AP (c.take a)) (Ab C);rw[<-c7,Cv,Cv]at B;have a6:=Aa0 c a;have R:=j7.o;omega
       have c0:=k.below ((xA _ wr).drew);have b0:=Vh c0.li.wf;have d1:=Aa (Yz t a4 y 1 (c[a]'A).1 (c[a]'A).2 wr.drew c0.li.rt c0.li.it d0 b0.1 b0.2);have b1:Hid (∀o O,RmQ wr.drew t a4 y 1 (c[a]'A).1 (c[a]'A).2 o O->o=R_ (J_ 0)/\∃i3 f3,PgW d z t (L_ (P_ G) j.length D) (L_ (P_ n) d.length F) j w w.heap.size 1 (L_ (P_ i0) c.length S) (L_ a2 f.length T) (L_ U g.length V) (L_ a3 b.length W) c f g b (p++[i]) u i3 f3 O/\Ab f3=Tr.Cr (Ab C) (AP (c.take (a+1)))):=fun o O b7=>by obtain⟨e,i3,f3,B,a6,R⟩:=c0.li.make (p9.o a A) b7;exact⟨e,i3,f3,c0.next B R,by rw[a6,c7,UU A,Qd]⟩
       have k4:(0:Int)<=(a:Int):=O_;have g4:(a:Int)<(c.length:Int):=O_;clear H M I J k c7 c0 b0 d0;generalize c[a]'A=x at*;obtain⟨t1,t2⟩:=x;simp only at i1 i2 d1 b1;go_upto_region 12 with fail
       first|go_region_law (go_simp;go_at_call 112;refine d1.o.mono ?_;rintro o i8 e2;obtain⟨rfl,i4,i5,L,d6⟩:=b1.o o i8 e2;have g5:=Aa L;have g6:=Aa d6;clear e2 L d6)|fail
       all_goals
        go_wp2_with fail;exact⟨⟨a+1,i4,i5,W_,O_,g5.o,g6.o⟩,by simp[intOf];omega⟩
      ·have g7:a=c.length:=O_;subst g7;obtain⟨n0,i6⟩:=k.li.setFar (m:Int);obtain⟨l5,l6,l7,l8,e8⟩:=k.li.lb.cells;have k5:Hid (Sj u m->RpQ d z t (L_ (P_ G) j.length D) (L_ (P_ n) d.length F) j p u C i m q.data.toList r.data.toList w (R_ (.bool true)) (wr.setCell (Q_ z 2) (J_ (m:Nat)))):=fun j3=>by
        refine⟨k.mod.trans i6 (fun _ _ s=>s) (fun _ _ s=>s),.inr ⟨0,lfP i,a4,y,rfl,⟨_,b8.o,rfl,k3.o⟩,rfl,j3,n0,?_⟩⟩;rw[c7,zQ];show _=Tr.Cr (Ab C) ((Ld.its (Ld.pg (Au d) i)).map _);rw[La b8.o];rfl
       have q1:Hid (¬Sj u m->RpQ d z t (L_ (P_ G) j.length D) (L_ (P_ n) d.length F) j p u C i m q.data.toList r.data.toList w (R_ (.bool false)) (wr.setCell (Q_ z 2) (J_ (m:Nat)))):=fun j3=>⟨k.mod.trans i6 (fun _ _ s=>s) (fun _ _ s=>s),.inl ⟨rfl,UI b8.o rfl j3⟩⟩
       clear n0 i6 k c7 q0 g3;by_cases e0:u<0
       ·have g8:=Aa e0;go_wp2_with fail;go_ret;exact k5.o (.inl g8.o)
       ·have g8:=Aa e0;by_cases a9:u=(m:Int)
        ·have g9:=Aa a9;have e7:(u==(m:Int))=true:=(by simp[a9]);clear a9;go_wp2_with fail;go_ret;exact k5.o (.inr g9.o)
        ·have g9:=Aa a9;have e7:(u==(m:Int))=false:=(by simp[a9]);go_wp2_with fail;go_ret;exact q1.o (fun s=>by unfold Sj at s;have B:=g8.o;have a6:=g9.o;omega)
    ·obtain rfl:a7=2:=i9;have k6:1<=f.length/\f.length<=4:=⟨c8,f4⟩;obtain⟨x7,k6⟩:=k6;have q2:g.length+1=f.length:=(by have L:(Ag g).length+1=f.length:=e3;unfold Ag at L;rw[xP]at L;exact L);have w2:g.length<f.length:=O_;have w3:f.length<=g.length+1:=O_;have w4:b.length<=8:=(by have k7:(Ac b).length<=8:=o2;rw[Bd]at k7;exact k7);have q3:Hid (∀(a:Nat) (h:a<b.length),Tr.Kv (chP (b[a]'h).1 (b[a]'h).2.1 (b[a]'h).2.2)):=fun a h=>o3 _ (xL.2 ⟨b[a]'h,yA h,rfl⟩)
     have k8:Hid ((Fv ((2,Ab c,f,Ag g,Ac b):Nd) q.data.toList r.data.toList).length=f.length):=Wp e4.o _ _;clear j0 c8 f4 e3 j1 f5 o2 o3 e4 q2;go_wp2_with fail
     go_loopw [17,14] (fun Z _ wr=>∃(a h:Nat) (n1:List (PT h)) (a8:hF) (b3:Int) (a4:Value) (y:gY),Z=J_ (a:Nat)/\a<=f.length/\PgW d z t (L_ (P_ G) j.length D) (L_ (P_ n) d.length F) j w w.heap.size 2 (L_ a1 c.length S) (L_ a2 f.length T) (L_ U g.length V) (L_ a3 b.length W) c f g b a8 b3 a4 y wr/\KdI (Au d) (2,Ab c,f,Ag g,Ac b) q.data.toList r.data.toList i p u m (Ab C) a h n1 a8 b3 (Ab y)) (fun Z _ _=>f.length-(intOf Z).toNat)
     case atStart=>exact⟨0,0,[],_,_,v,C,rfl,Y_,b9.o,KdI.zero ..⟩
     case round=>
      clear c2 c3 c4 c5 c6;obtain⟨a,h,n1,a8,b3,a4,y,rfl,s7,k,b4⟩:=hrel;obtain⟨c2,c3,c4,c5,c6,-⟩:=k.nd.cells;have w5:=Aa b4;have g3:=Aa k;obtain⟨t3,x8⟩:=Aga (Dd d) b4 (by rw[Cv];exact j7.o);rw[Cv]at t3;have w6:a8.length<=d.length:=Lm k.li.rdn.1 k.li.rdn.2;obtain⟨h7,h8,b2,h9,X,H,M,I,J,-⟩:=k.nv;simp only[vB,kN,jA,yG,yB]at X;obtain⟨rfl,rfl,rfl,rfl⟩:=X;by_cases A:a<f.length
      ·obtain⟨t4,x9,n2,y0,y1,y2⟩:=Af4 M a A;simp only[xJ,yB]at n2;obtain⟨rfl,rfl⟩:=n2;have h1:a<(Gh q r g).length:=(by rw[Ms];omega);have h2:a<(Fv ((2,Ab c,f,Ag g,Ac b):Nd) q.data.toList r.data.toList).length:=(by rw[k8.o];exact A);have k9:=EX g q r a h1;have d2:=Af5 ((2,Ab c,f,Ag g,Ac b):Nd) (cl:=f) rfl rfl q r a A h1 h2;have q4:f[a]'A<=2147483647:=k0.o _ (yA A);generalize f[a]'A=o7 at*;generalize(Gh q r g)[a]'h1=v5 at*;obtain⟨b5,d7⟩:=v5;simp only[kL]at k9;simp only at d2;obtain⟨n3,n4⟩:=k9;have e6:=Aa n3;have l0:=Aa n4;have l1:=Aa I;have q5:=Aa (j6.o (d.length-a8.length) (by have:=p4.o;omega) a8 b3 a4 y o7 (m+1) b5 d7 wr O_ k.li O_ q4 O_);have b1:Hid (∀o O,RpQ d z t (L_ (P_ G) j.length D) (L_ (P_ n) d.length F) j a8 b3 y o7 (m+1) b5.data.toList d7.data.toList wr o O->(o=R_ (.bool false)/\RpQ d z t (L_ (P_ G) j.length D) (L_ (P_ n) d.length F) j p u C i m q.data.toList r.data.toList w (R_ (.bool false)) O)\/(o=R_ (.bool true)/\∃(R:Nat) (d8:List (PT R)) (f6:hF) (f7:Int) (a0:Value) (Y:gY),PgW d z t (L_ (P_ G) j.length D) (L_ (P_ n) d.length F) j w w.heap.size 2 (L_ a1 c.length S) (L_ (P_ t4) f.length T) (L_ U g.length V) (L_ a3 b.length W) c f g b f6 f7 a0 Y O/\KdI (Au d) (2,Ab c,f,Ag g,Ac b) q.data.toList r.data.toList i p u m (Ab C) (a+1) R d8 f6 f7 (Ab Y))):=by
        rintro o O ⟨n9,⟨rfl,u7⟩|⟨a6,e8,a0,Y,rfl,f0,h6,f1,f2,u8⟩⟩
        ·exact .inl ⟨rfl,k.mod.trans n9 (fun _ _ s=>s) (fun _ _ s=>s),.inl ⟨rfl,b4.fail (Dd d) b8.o rfl h2 (by rw[d2];exact u7)⟩⟩
        ·obtain⟨R,d8,c8⟩:=b4.step h2 (f2:=e8) (by rw[d2];exact f0) (by rw[d2];exact h6) f1;exact .inr ⟨rfl,R,d8,_,_,a0,Y,k.next f2 n9,by rw[u8];exact c8⟩
       have k4:(0:Int)<=(a:Int):=O_;have g4:(a:Int)<(f.length:Int):=O_;have w7:IntKind.i64.wrap ((m:Int)+1)=((m+1:Nat):Int):=(by rw[yZ];omega);clear H M I J k b4 n3 n4 d2;go_upto_if 109 with fail
       go_cut [18] (fun v0 j4=>v0=B_ b5/\j4=wr)
       case first=>
        by_cases h0:0<a
        ·have l2:a-1<g.length:=O_;obtain⟨t5,t6,d9,t7,-,t8,b2⟩:=l1.o.at (a-1) l2;simp only[xJ,yB]at d9;obtain⟨rfl,rfl⟩:=d9;have d3:b5=g[a-1]'l2:=(by have:=e6.o;rw[wC h0]at this;exact this);rw[<-d3]at b2;clear d3;have w8:IntKind.i64.wrap ((a:Int)-1)=((a-1:Nat):Int):=(by rw[yZ];omega);go_wp2_with fail;go_meet;exact⟨rfl,rfl⟩
        ·have d3:b5=q:=(by have:=e6.o;rw[qK h0]at this;exact this);have q6:=Aa d3;clear d3;go_wp2_with fail;go_meet;exact⟨by rw[q6.o],rfl⟩
       case rest=>
        obtain⟨t9,i7⟩:=hcut;subst t9 i7;go_upto_if 120 with fail
        go_cut [19] (fun v1 j4=>v1=B_ d7/\j4=wc)
        case first=>
         by_cases h0:a<g.length
         ·obtain⟨t5,t6,d9,t7,-,t8,b2⟩:=l1.o.at a h0;simp only[xJ,yB]at d9;obtain⟨rfl,rfl⟩:=d9;have d4:d7=g[a]'h0:=(by have:=l0.o;rw[wC h0]at this;exact this);rw[<-d4]at b2;clear d4;have q7:(a:Int)<(g.length:Int):=O_;go_wp2_with fail;go_meet;exact⟨rfl,rfl⟩
         ·have d4:d7=r:=(by have:=l0.o;rw[qK h0]at this;exact this);have q8:=Aa d4;clear d4;have q7:¬(a:Int)<(g.length:Int):=O_;go_wp2_with fail;go_meet;exact⟨by rw[q8.o],rfl⟩
        case rest=>
         obtain⟨u0,i7⟩:=hcut;subst u0 i7;go_wp2_with fail;refine q5.o.mono ?_;rintro o u9 b7;rcases b1.o o u9 b7 with⟨rfl,o4⟩|⟨rfl,R,d8,f6,f7,a0,Y,o5,o6⟩
         ·have q9:=Aa o4;clear o4 b7;go_wp2_with fail;go_ret;exact q9.o
         ·have b9:=Aa o5;have r0:=Aa o6;clear o5 o6 b7;go_wp2_with fail;exact⟨⟨a+1,R,d8,f6,f7,a0,Y,W_,O_,b9.o,r0.o⟩,by simp[intOf];omega⟩
      ·have g7:a=f.length:=O_;subst g7;obtain⟨b5,e0,a9,e7,n5,n6,n7⟩:=b4.fin b8.o rfl k3.o k8.o.symm O_;have r1:=Aa e0;have r2:=Aa a9;have r3:=Aa e7;have r4:=Aa n5;have r5:=Aa n6;have r6:=Aa n7;clear H M I J k b4 e0 a9 e7 n5 n6 n7 j6;go_wp2_with fail
       go_loopw [20] (fun Z v2=>∃(l:Nat) (c1:Value) (b6:gY),Z=J_ (l:Nat)/\l<=b.length/\PgW d z t (L_ (P_ G) j.length D) (L_ (P_ n) d.length F) j w w.heap.size 2 (L_ a1 c.length S) (L_ a2 f.length T) (L_ U g.length V) (L_ a3 b.length W) c f g b a8 b3 c1 b6 v2/\Ab b6=Tr.Cr (Ab y) (Ac (b.take l))) (fun Z _=>b.length-(intOf Z).toNat)
       case atStart=>exact⟨0,a4,y,rfl,Y_,g3.o,rfl⟩
       case round=>
        clear c2 c3 c4 c5 c6;obtain⟨l,c1,b6,rfl,y3,N,e1⟩:=hrel;have e5:=Aa N;obtain⟨c2,c3,c4,c5,c6,-⟩:=N.nd.cells;by_cases a5:l<b.length
        ·obtain⟨h7,h8,b2,h9,X,H,M,I,J,-⟩:=N.nv;simp only[vB,kN,jA,yG,yB]at X;obtain⟨rfl,rfl,rfl,rfl⟩:=X;obtain⟨i0,s8,e,s9,-,t0,i1,i2,u5⟩:=J.at l a5;simp only[xJ,yB]at e;obtain⟨rfl,rfl⟩:=e;have d0:b6.length<=20000000:=by
          have B:=Jt (Ac (b.take l)) (Ab y);rw[<-e1,Cv,Cv,Bd,xR]at B;omega
         have b0:=Vh N.li.wf;have d1:=Aa (Yz t c1 b6 (b[l]'a5).1 (b[l]'a5).2.1 (b[l]'a5).2.2 wr N.li.rt N.li.it d0 b0.1 b0.2);have b1:Hid (∀o O,RmQ wr t c1 b6 (b[l]'a5).1 (b[l]'a5).2.1 (b[l]'a5).2.2 o O->o=R_ (J_ 0)/\∃a0 Y,PgW d z t (L_ (P_ G) j.length D) (L_ (P_ n) d.length F) j w w.heap.size 2 (L_ a1 c.length S) (L_ a2 f.length T) (L_ U g.length V) (L_ (P_ i0) b.length W) c f g b a8 b3 a0 Y O/\Ab Y=Tr.Cr (Ab y) (Ac (b.take (l+1)))):=fun o O b7=>by obtain⟨e,a0,Y,B,a6,R⟩:=N.li.make (q3.o l a5) b7;exact⟨e,a0,Y,N.next B R,by rw[a6,e1,Adc a5,Qd]⟩
         have k4:(0:Int)<=(l:Int):=O_;have g4:(l:Int)<(b.length:Int):=O_;clear H M I J N e1 b0 d0;generalize b[l]'a5=x at*;obtain⟨y4,t1,t2⟩:=x;simp only at i1 i2 u5 d1 b1;go_wp2_with fail;refine d1.o.mono ?_;rintro o i8 e2;obtain⟨rfl,i4,i5,L,d6⟩:=b1.o o i8 e2;have g5:=Aa L;have g6:=Aa d6;clear e2 L d6;go_wp2_with fail;exact⟨⟨l+1,i4,i5,W_,O_,g5.o,g6.o⟩,by simp[intOf];omega⟩
        ·have r7:l=b.length:=O_;have r8:Hid (RpQ d z t (L_ (P_ G) j.length D) (L_ (P_ n) d.length F) j p u C i m q.data.toList r.data.toList w (R_ (.bool true)) wr):=by
          have l3:=N.li;rw[r3.o,r4.o]at l3;refine⟨N.mod,.inr ⟨h+1,b5,c1,b6,rfl,r1.o,r2.o,r5.o,l3,?_⟩⟩;rw[<-r6.o,e1,r7,zQ];rfl
         clear N e1;have g4:¬(l:Int)<(b.length:Int):=O_;go_wp2_with fail;go_ret;exact r8.o
theorem UV(b:hD)(j:b.length<=1200000)(c d:Nat)(f g:Value)(i:List NdM)(a:Nat):Ade b c d f g i a:=by
 induction a using Nat.strongRecOn with
 | _ a ih=>exact RE b j c d f g i a ih
namespace Pg
theorem GI(a b:hE):(⟨a++b,false⟩:Cur).take a.length=(a,⟨b,false⟩):=by rw[NN rfl D_];simp
theorem Gk(a:UInt8)(b:hE):(⟨a::b,false⟩:Cur).take 1=([a],⟨b,false⟩):=GI [a] b
theorem Ip(a:UInt8):Da [a]=a.toNat:=by simp[Da]
theorem AQ:∀(f d b a:Nat) (first:Bool) (c:hE),a<128^(f+1)->d+a*b<=2147483647->(0<a\/first=true)->0<b->numberF (f+1) ⟨num a++c,false⟩ d b first=(d+a*b,⟨c,false⟩)
 | f,d,b,a,first,c,hm,hle,h0,hc=>by
  by_cases g:a<128
  ·rw[Lc a g,low,low,show a % 256=a by omega];simp only[jF,zI];have i:(UInt8.ofNat a).toNat=a:=K_;have j:(⟨UInt8.ofNat a::c,false⟩:Cur).byte=a:=(by unfold Cur.byte;rw[Gk,Ip,i]);rw[numberF,j,xD g,Gk,bT g];rw[xB];rintro(h|⟨h,k⟩|h)
   ·simp at h
   ·rcases h0 with h0|h0
    ·omega
    ·rw[h0]at k;simp at k
   ·omega
  ·rw[Vr a g,low,low,show(128+a % 128) % 256=128+a % 128 by omega];simp only[jF,zI];have i:(UInt8.ofNat (128+a % 128)).toNat=128+a % 128:=(by rw[jY];omega);have j:(⟨UInt8.ofNat (128+a % 128)::(num (a / 128)++c),false⟩:Cur).byte=128+a % 128:=(by unfold Cur.byte;rw[Gk,Ip,i]);rw[numberF,j,xB O_,Gk,show(128+a % 128) % 128=a % 128 by omega];have l:a % 128*b+a / 128*(128*b)=a*b:=by
    rw[<-Nat.mul_assoc,<-wL,vJ (a / 128) 128];congr 1;omega
   match f with
   | 0=>omega
   | f+1=>
    rw[AQ f (d+a % 128*b) (128*b) (a / 128) false c (by rw[bQ Do];rw[vV]at hm;exact hm) O_ (.inl O_) O_];congr 1;omega
theorem Vi(a:Nat)(b:hE)(h:a<=2147483647):(⟨num a++b,false⟩:Cur).number=(a,⟨b,false⟩):=by have:=AQ 4 0 1 a true b (by show a<128^5;omega) O_ (.inr rfl) Do;unfold Cur.number;rw[this];simp
theorem Pj(a b:hE)(c:Nat)(h:a.length<=c)(d:a.length<=2147483647):(⟨text a++b,false⟩:Cur).text c=(a,⟨b,false⟩):=by unfold Cur.text text;rw[xT,Vi _ _ d];simp only;rw[xB O_,GI]
theorem UW{b G:hE}(h:(content b G).2=true):Ar b (content b G).1=G:=by
 by_cases a:(Pt G).2.ends=false\/(Ka G).1≠b\/1<Da (Hf G).1
 ·rw[Ul a]at h;simp at h
 ·by_cases c:Da (Hf G).1=1
  ·cases d:Ev (Ke G).1 with
   | none=>rw[Pu a c d]at h;simp at h
   | some u=>
    by_cases f:u.length=(Oy G).1
    ·rw[Mg a c d f]at h⊢;simpa using h
    ·rw[Pv a c d f]at h;simp at h
  ·rw[Lr a c]at h⊢;simpa using h
theorem GJ(g f:UInt8)(d:Nat)(b c:hE)(p:d<=2147483647)(q:b.length<=2147483647)(r:c.length=4)(a:hE)(m:a=[g]++[f]++num d++text b++c):
  (Ka a).1=[g]/\(Hf a).1=[f]/\(Oy a).1=d/\(Ke a).1=b/\(Pt a).2.ends=true:=by
 have e:a=g::(f::(num d++(text b++c))):=by rw[m];simp
 have n:b.length<=a.length:=by rw[m];unfold text;simp only[xC];omega
 have i:Ka a=([g],⟨f::(num d++(text b++c)),false⟩):=by unfold Ka;rw[e];exact Gk _ _
 have j:Hf a=([f],⟨num d++(text b++c),false⟩):=by unfold Hf;rw[i];exact Gk _ _
 have k:Oy a=(d,⟨text b++c,false⟩):=by unfold Oy;rw[j];exact Vi _ _ p
 have l:Ke a=(b,⟨c,false⟩):=by unfold Ke;rw[k];exact Pj _ _ _ n q
 have o:Pt a=(c,⟨[],false⟩):=by unfold Pt;rw[l];have:=GI c [];rw[yC,r]at this;exact this
 rw[i,j,k,l,o];exact⟨rfl,rfl,rfl,rfl,rfl⟩
theorem Mb(b:UInt8)(a:hE)(h:a.length<=100000):content [b] (Ar [b] a)=(a,true):=by
 by_cases k:(Br a).length<a.length
 ·have e:Ar [b] a=[b]++[1]++num a.length++text (Br a)++low (crc ([b]++low 1 1++num a.length++text (Br a))) 4:=by unfold Ar;rw[xD k];rfl
  obtain⟨f,c,j,g,i⟩:=GJ b 1 _ _ _ O_ O_ (Bo 4 _) _ e;have d:¬((Pt (Ar [b] a)).2.ends=false\/(Ka (Ar [b] a)).1≠[b]\/1<Da (Hf (Ar [b] a)).1):=by rw[f,c,i,Ip];simp
  rw[Mg d (by rw[c,Ip];rfl) (u:=a) (by rw[g];exact Rh a) (by rw[j])];simp
 ·have e:Ar [b] a=[b]++[0]++num a.length++text a++low (crc ([b]++low 0 1++num a.length++text a)) 4:=by unfold Ar;rw[xB k];rfl
  obtain⟨f,c,j,g,i⟩:=GJ b 0 _ _ _ O_ O_ (Bo 4 _) _ e;have d:¬((Pt (Ar [b] a)).2.ends=false\/(Ka (Ar [b] a)).1≠[b]\/1<Da (Hf (Ar [b] a)).1):=by rw[f,c,i,Ip];simp
  rw[Lr d (by rw[c,Ip];simp),g];simp
end Pg
namespace Pr
open Pg
variable {d:List hE}{a:Nat}{b:hE}{q:List (hE×hE)}
theorem Ks(h:Ay d a b=some q):b=Ar [98] (Bl q)/\Oh d a q=true:=by
 unfold Ay at h
 cases f:Lz 98 b with
 | none=>rw[f]at h;simp at h
 | some c=>
  rw[f]at h;simp only[xV]at h
  cases g:Qz c with
  | none=>rw[g]at h;simp at h
  | some x=>
   rw[g]at h;simp only[xV]at h;split at h
   ·rename_i i;simp only[xX]at h;subst h;exact⟨by rw[Adz g,Ady f],i⟩
   ·simp at h
theorem Lo(h:Oh d a q=true):1<=q.length/\q.length<=4/\Kw q:=by unfold Oh at h;simp only[yK,yL]at h;exact⟨h.1.1.1.1,h.1.1.1.2,(Oj q).1 h.1.1.2⟩
theorem MT(i:b=Ar [98] (Bl q))(h:Oh d a q=true):Ay d a b=some q:=by
 obtain⟨j,k,f⟩:=Lo h;have c:∀x∈q,x.1.length<=12/\x.2.length<=16:=fun x g=>⟨(Ed (f.1 x g).1),(f.1 x g).2⟩
 have g:(Bl q).length<=249:=by have:=Ir q c;omega
 unfold Ay;rw[i,Mj 98 _ g];simp only[xV];rw[Tw q O_ c];simp only[xV,h,wD]
end Pr
namespace Pg
open Pr
def ahead(i:Nat)(ks:List hE):Option hE:=if i=0 then none else some (ks.getD (i-1) [])
theorem Xs(a:Nat)(b:List hE)(c:hE):Ly a b c= !Gn (ahead a b) c:=by
 unfold Ly ahead;by_cases h:a=0
 ·subst h;simp[Gn]
 ·rw[xB h,xQ (by omega:0<a)];simp[Gn]
theorem UX(a:Nat)(b:List hE)(c:hE)(h:b.length=a):ahead (a+1) (b++[c])=some c:=by unfold ahead;rw[xB O_,qF,<-h];simp
theorem Af6(e:hE)(h:e.length=15):e=e.take 2++[e.getD 2 0]++e.drop 3:=by
 have a:2<e.length:=O_;have b:e.drop 2=e[2]::e.drop 3:=yM a;have c:e.getD 2 0=e[2]:=by rw[jH,xW a];rfl
 rw[c,xT,List.singleton_append,<-b,zK]
theorem Agb{e:hE}{a c:Nat}(h:e.length=15)(f:Jf e a c=false):e=Nb (Ft e) (Ez e)/\Dm (Ez e).length=true/\a+Ft e<=c/\Ft e<65536:=by
 unfold Jf at f;simp only[dB,qJ]at f;obtain⟨⟨⟨k,l⟩,b⟩,m⟩:=f;have b:e.drop (3+Vt e)=List.replicate (12-Vt e) 0:=kH b;have d:(Ez e).length=Vt e:=by unfold Ez;rw[xR,xY];omega
 have g:low (Ft e) 2=e.take 2:=by have:=NM (e.take 2);rw[xR,h]at this;exact this
 have i:low (Ez e).length 1=[e.getD 2 0]:=by rw[d];have:(e.getD 2 0).toNat<256:=(e.getD 2 0).toNat_lt;unfold Vt;simp only[low];rw[bT this];simp
 have j:Ez e++List.replicate (12-(Ez e).length) 0=e.drop 3:=by rw[d,<-b,<-jG];unfold Ez;exact zK _ _
 refine⟨?_,?_,O_,?_⟩
 ·unfold Nb;rw[g,i,xT (e.take 2++_),j];exact Af6 e h
 ·unfold Dm;rw[d];simp;omega
 ·exact Nx _ 2 (by rw[xR];omega)
theorem UY(b:Nat)(a:hE)(j:b<65536)(g:Dm a.length=true):Ft (Nb b a)=b/\Vt (Nb b a)=a.length/\Ez (Nb b a)=a/\(Nb b a).drop (3+a.length)=List.replicate (12-a.length) 0:=by
 have k:1<=a.length/\a.length<=12:=by unfold Dm at g;simpa using g
 have e:Nb b a=low b 2++(UInt8.ofNat (a.length % 256)::(a++List.replicate (12-a.length) 0)):=by unfold Nb;simp[low]
 have i:(UInt8.ofNat (a.length % 256)).toNat=a.length:=by rw[jY];omega
 have c:(low b 2).length=2:=Bo 2 b;have d:Vt (Nb b a)=a.length:=by unfold Vt;rw[e,jH,kC O_,c];simpa using i
 have f:(Nb b a).drop 3=a++List.replicate (12-a.length) 0:=by rw[e,bF,c];rw[zG O_];simp
 refine⟨?_,d,?_,?_⟩
 ·unfold Ft;rw[e,kE O_,yY O_,Mw 2 b (by simpa using j)]
 ·unfold Ez;rw[f,d,jB]
 ·rw[<-jG,f,jQ]
theorem WU(b:hE)(a c:Nat)(h:68<=b.length)(d:a+(c+1)=4):(b.drop (4+15*a)).take (15*(c+1))=ent b a++(b.drop (4+15*(a+1))).take (15*c)/\(ent b a).length=15:=by
 unfold ent;constructor
 ·rw[show 15*(c+1)=15+15*c by omega,bO,jG,show 4+15*a+15=4+15*(a+1)by omega]
 ·rw[xR,xY];omega
theorem WV{b G W X:hE}(h:b++G=W++X)(a:b.length=15)(c:W.length=15):b=W/\G=X:=bD h O_
theorem KE(b:hE)(j:Nat)(n:68<=b.length):∀(f a c:Nat) (d g:List hE) (i:List hE×List hE),a+f=4->j<=a->(Ec b j f a c d g=some i↔i=(d,g)/\c=b.length/\(b.drop (4+15*a)).take (15*f)=List.replicate (15*f) 0)
 | 0,a,c,d,g,i,hi,hm=>by
  rw[VM];constructor
  ·intro h;split at h
   ·simp only[xX]at h;exact⟨h.symm,V_,D_⟩
   ·simp at h
  ·rintro⟨rfl,h,-⟩;rw[xD h]
 | f+1,a,c,d,g,i,hi,hm=>by
  obtain⟨p,q⟩:=WU b a f n hi;have o:List.replicate (15*(f+1)) (0:UInt8)=List.replicate 15 0++List.replicate (15*f) 0:=by rw[gO];congr 1;omega
  rw[p,o];by_cases k:ent b a=List.replicate 15 0
  ·rw[NP b j f a c d g hm k,KE b j n f (a+1) c d g i O_ O_,k];constructor
   ·rintro⟨l,m,i⟩;exact⟨l,m,by rw[i]⟩
   ·rintro⟨l,m,i⟩;exact⟨l,m,gF i⟩
  ·rw[Zm b j f a c d g hm k];constructor
   ·intro h;simp at h
   ·rintro⟨-,-,i⟩;exact absurd (WV i q D_).1 k
theorem MU(b:hE)(o:Nat)(I:68<=b.length)(T:o<=4):∀(f a l:Nat) (n z:List hE) (C:List hE×List hE),a+f=4->a<=o->n.length=a->l<=b.length->
  (Ec b o f a l n z=some C↔∃d c,C=(n++d,z++c)/\d.length=o-a/\c.length=o-a/\b.drop l=c.flatten/\Az d (ahead a n)=true/\(∀m∈c,m.length<65536)/\(b.drop (4+15*a)).take (15*f)=Cq (c.map List.length) d++List.replicate (15*f-15*(o-a)) 0)
 | f,a,l,n,z,C,hi,him,hks,hat=>by
  by_cases G:o<=a
  ·rw[KE b o I f a l n z C hi G,show o-a=0 by omega];constructor
   ·rintro⟨rfl,rfl,h⟩;exact⟨[],[],D_,rfl,rfl,D_,rfl,D_,by simpa[Cq]using h⟩
   ·rintro⟨d,c,rfl,H,A,R,X,Y,S⟩;obtain rfl:=zA.1 H;obtain rfl:=zA.1 A;refine⟨D_,?_,by simpa[Cq]using S⟩;have:=yW List.length R;simp only[xY,vG,yU]at this;omega
  ·match f,hi with
   | 0,hi=>omega
   | f+1,hi=>
    obtain⟨H,A⟩:=WU b a f I hi;rw[H];by_cases q:Jf (ent b a) l b.length=true
    ·rw[Vu b o f a l n z G q];constructor
     ·intro h;simp at h
     ·rintro⟨d,c,rfl,g,i,y,j,s,p⟩;exfalso
      match d,c,g,i with
      | [],_,g,_=>simp at g;omega
      | _::_,[],_,i=>simp at i;omega
      | k::d,m::c,g,i=>
       rw[Az,yK,yK]at j;rw[yD,Cq,xT]at p;obtain⟨B,-⟩:=WV p A (Wd _ _ (Ed j.1.1));obtain⟨t,D,u,F⟩:=UY m.length k (s m D_) j.1.1;rw[<-B]at t D u F;have U:1<=k.length/\k.length<=12:=(by have:=j.1.1;unfold Dm at this;simpa using this);have V:l+m.length<=b.length:=(by have:=yW List.length y;rw[xY,yO,xC]at this;omega);unfold Jf at q;rw[t,D,F,xN (by omega:¬k.length<1),xN (by omega:¬12<k.length),xN (by omega:¬b.length<l+m.length)]at q;simp at q
    ·have q:Jf (ent b a) l b.length=false:=(by simpa using q);obtain⟨M,N,O,W⟩:=Agb A q;by_cases r:Ly a n (Ez (ent b a))=true
     ·rw[VN b o f a l n z G q r];constructor
      ·intro h;simp at h
      ·rintro⟨d,c,rfl,g,i,y,j,s,p⟩;exfalso
       match d,c,g,i with
       | [],_,g,_=>simp at g;omega
       | _::_,[],_,i=>simp at i;omega
       | k::d,m::c,g,i=>
        rw[Az,yK,yK]at j;rw[yD,Cq,xT]at p;obtain⟨B,-⟩:=WV p A (Wd _ _ (Ed j.1.1));obtain⟨t,D,u,F⟩:=UY m.length k (s m D_) j.1.1;rw[<-B]at u;rw[Xs,u,j.1.2]at r;simp at r
     ·have r:Ly a n (Ez (ent b a))=false:=(by simpa using r);have J:Gn (ahead a n) (Ez (ent b a))=true:=(by rw[Xs]at r;simpa using r);have L:((b.drop l).take (Ft (ent b a))).length=Ft (ent b a):=(by rw[xR,xY];omega);rw[CG b o f a l n z G q r,MU b o I T f (a+1) (l+Ft (ent b a)) _ _ C O_ O_ (by simp[hks]) O,UX a n _ hks];constructor
      ·rintro⟨d,c,rfl,g,i,y,j,s,p⟩;refine⟨Ez (ent b a)::d,(b.drop l).take (Ft (ent b a))::c,D_,by rw[xH];omega,by rw[xH];omega,?_,?_,?_,?_⟩
       ·rw[yO,<-y,<-jG,zK]
       ·rw[Az,N,J,j];rfl
       ·intro m n;rcases xG.1 n with rfl|n
        ·omega
        ·exact s m n
       ·rw[yD,Cq,L,<-M,xT,p];congr 3;omega
      ·rintro⟨d,c,rfl,g,i,y,j,s,p⟩
       match d,c,g,i with
       | [],_,g,_=>simp at g;omega
       | _::_,[],_,i=>simp at i;omega
       | k::d,m::c,g,i=>
        rw[Az,yK,yK]at j;rw[yD,Cq,xT]at p;obtain⟨B,C⟩:=WV p A (Wd _ _ (Ed j.1.1));obtain⟨t,D,u,F⟩:=UY m.length k (s m D_) j.1.1;rw[<-B]at t u;have z:(b.drop l).take (Ft (ent b a))=m:=(by rw[t,y,yO,jB]);rw[z,u,t];refine⟨d,c,D_,by rw[xH]at g;omega,by rw[xH]at i;omega,?_,j.2,fun x a=>s x (by simp[a]),?_⟩
        ·rw[<-jG,y,yO,jQ]
        ·rw[C];congr 2;omega
end Pg
namespace Pr
open Pg
variable {b:hE}
theorem Aa1{x:Nat×hE}(h:Gw b=some x):x.1<65536:=by
 unfold Gw at h
 cases a:Di 2 b with
 | none=>rw[a]at h;simp at h
 | some y=>
  rw[a]at h;simp only[vY,xX]at h;rw[<-h];exact Nx _ 2 (by rw[(Er a).1];exact Nat.le_refl _)
theorem WW:∀(n:Nat) (a:hE) (x:hF×List hE),Ie n a=some x->∀c∈x.1,c<65536
 | 0,a,x,h=>by simp[Ie]at h;subst h;simp
 | n+1,a,x,h=>by
  rw[Ie]at h
  cases d:Gw a with
  | none=>rw[d]at h;simp at h
  | some c=>
   rw[d]at h;simp only[xV]at h
   cases f:Ee c.2 with
   | none=>rw[f]at h;simp at h
   | some b=>
    rw[f]at h;simp only[xV]at h
    cases g:Di 12 b.2 with
    | none=>rw[g]at h;simp at h
    | some p=>
     rw[g]at h;simp only[xV]at h;split at h
     ·simp at h
     ·cases c:Ie n p.2 with
      | none=>rw[c]at h;simp at h
      | some r=>
       rw[c]at h;simp only[vY,xX]at h;subst h;intro i a;rcases xG.1 a with rfl|a
       ·exact Aa1 d
       ·exact WW n p.2 r c i a
theorem RF{Y:hF×List hE}(h:Jc b=some Y):∀d∈Y.1,d<65536:=by
 unfold Jc at h
 cases g:Di 68 b with
 | none=>rw[g]at h;simp at h
 | some f=>
  rw[g]at h;simp only[xV]at h
  cases i:Di 3 f.1 with
  | none=>rw[i]at h;simp at h
  | some a=>
   rw[i]at h;simp only[xV]at h
   cases j:Ee a.2 with
   | none=>rw[j]at h;simp at h
   | some c=>
    rw[j]at h;simp only[xV]at h;split at h
    ·simp at h
    ·cases d:Ie c.1.toNat c.2 with
     | none=>rw[d]at h;simp at h
     | some x=>
      rw[d]at h;simp only[xV]at h;split at h
      ·split at h
       ·simp only[xX]at h;subst h;exact WW _ _ _ d
       ·simp at h
      ·simp at h
theorem Ahd(a:hE)(h:68<=a.length):a.take 64=a.take 3++[a.getD 3 0]++(a.drop 4).take 60:=by
 have b:3<a.length:=O_;have c:a.getD 3 0=a[3]:=by rw[jH,xW b];rfl
 rw[show 64=3+61 from rfl,bO,xT];congr 1;rw[yM b,aB,c];rfl
theorem GK(b:hE)(c a:List hE):Gu b=some (c,a)↔Jc b=some (a.map List.length,c)/\Py b (a.map List.length)=some a:=by
 constructor
 ·intro h;unfold Gu at h;split at h
  ·rename_i d;unfold Mi at d;simp only[yK,yL]at d;obtain⟨⟨⟨f,n⟩,j⟩,J⟩:=d;obtain⟨V,W,e,L,o,M,A,N,p⟩:=(MU b (Mh b) f J 4 0 68 [] [] (c,a) rfl Y_ rfl f).1 h;simp only[zI,kL]at e;obtain⟨rfl,rfl⟩:=e;rw[fB]at L o p;have D:low (a.map List.length).length 1=[b.getD 3 0]:=by
    rw[xP,o];have:(b.getD 3 0).toNat<256:=(b.getD 3 0).toNat_lt;unfold Mh;simp only[low];rw[bT this];simp
   have l:∀t∈c,t.length<=12:=Fe _ _ A;have g:=Pb (a.map List.length) c (by rw[xP];omega) l;have u:Fl (a.map List.length) c=b.take 68:=(by unfold Fl;rw[D,g,xP,o,<-n,xT (b.take 3++_)];rw[show(15*4:Nat)=60 from rfl,show 4+15*0=4 from rfl]at p;rw[<-p,<-Ahd b f,j]);have y:b=Fl (a.map List.length) c++a.flatten:=(by rw[u,<-M,zK]);have F:(Fl (a.map List.length) c).length=68:=(by rw[u,xR];omega);refine⟨?_,?_⟩
   ·rw[y];exact Zr _ _ _ (by rw[xP];omega) (by rw[xP];omega) (fun i s=>by obtain⟨x,O,rfl⟩:=xL.1 s;exact N x O) A
   ·conv=>lhs;rw[y]
    exact Ye _ _ F
  ·simp at h
 ·rintro⟨f,n⟩;obtain⟨k,q,r,B,C⟩:=OB f;obtain⟨X,R,Y⟩:=KX n;simp only at q r B C;rw[xP]at B C;have l:∀t∈c,t.length<=12:=Fe _ _ r;have g:=Pb (a.map List.length) c (by rw[xP];omega) l;rw[xP]at g;have U:([83,50,76]++low (a.map List.length).length 1++Cq (a.map List.length) c++List.replicate (60-(Cq (a.map List.length) c).length) 0).length=64:=by
   simp only[xC,Bo,kD,g];simp;omega
  have m:b.take 64=[83,50,76]++low (a.map List.length).length 1++Cq (a.map List.length) c++List.replicate (60-(Cq (a.map List.length) c).length) 0:=by have e:b.take 64=(b.take 68).take 64:=(by rw[jO];rfl);rw[e,<-q];unfold Fl sealed;rw[kE O_,yY O_]
  have j:b.take 3=[83,50,76]:=by have e:b.take 3=(b.take 64).take 3:=(by rw[jO];rfl);rw[e,m];simp
  have z:=Ahd b k;rw[j,m]at z;have G:[b.getD 3 0]++(b.drop 4).take 60=low a.length 1++(Cq (a.map List.length) c++List.replicate (60-(Cq (a.map List.length) c).length) 0):=by have:=z;rw[xP]at this;simp only[xT]at this;exact(gF this).symm
  obtain⟨S,T⟩:=bD G (by rw[Bo];rfl);have H:Mh b=a.length:=by unfold Mh;have d:=yW Da S;rw[Ip,Mw 1 _ O_]at d;exact d
  have I:∀i∈a,i.length<65536:=by intro i s;exact RF f i.length (xL.2 ⟨i,s,rfl⟩)
  unfold Gu;rw[xD]
  ·refine(MU b (Mh b) k O_ 4 0 68 [] [] (c,a) rfl Y_ rfl k).2 ⟨c,a,D_,O_,O_,R,r,I,?_⟩;rw[show(15*4:Nat)=60 from rfl,show 4+15*0=4 from rfl,T,g,H];rfl
  ·unfold Mi;simp only[yK,yL];refine⟨⟨⟨k,j⟩,?_⟩,O_⟩;rw[m,<-q];rfl
end Pr
namespace Pg
open Pr
variable {d ks:List hE}{a i c f:Nat}{b sec:hE}{g:Its}
theorem Af7(b:Cur)(a:Nat):(b.take a).1.length<=a:=by
 unfold Cur.take;split
 ·rw[xR];omega
 ·split
  ·simp
  ·simp
theorem GL(a:Cur)(b:Nat):(a.text b).1.length<=b:=by
 unfold Cur.text;split
 ·simp
 ·have:=Af7 a.number.2 a.number.1;omega
theorem Vj(g a:hE):(content g a).1.length<=66*a.length:=by
 have j:(Ke a).1.length<=a.length:=GL _ _;by_cases c:(Pt a).2.ends=false\/(Ka a).1≠g\/1<Da (Hf a).1
 ·rw[Ul c];simp
 ·by_cases d:Da (Hf a).1=1
  ·cases b:Ev (Ke a).1 with
   | none=>rw[Pu c d b];simp
   | some u=>
    by_cases f:u.length=(Oy a).1
    ·rw[Mg c d b f];have:u.length<=66*(Ke a).1.length:=by
      unfold Ev at b;split at b
      ·rename_i k i;have:=Mn _ _ _ i;split at b
       ·simp at b;subst b;simpa using this
       ·simp at b
      ·simp at b
     simp only;omega
    ·rw[Pv c d b f];simp
  ·rw[Lr c d];simp only;omega
def Jd(l:Its):hE:=(l.map (·.1)).getD (l.length-1) []
theorem Vk(b:Its)(a v:hE):Jd (b++[(a,v)])=a:=by unfold Jd;rw[xC,yX,jR,qF,jH,kC D_];simp
def KF(ks:List hE)(i:Nat)(sec:hE)(n k:Nat)(il:Its)(ck:Cur):Prop:=∀l0,Ay ks i sec=some l0->n=l0.length/\il=l0.take k/\ck=⟨items (Jd il) (l0.drop k),false⟩
theorem St(h:Ay d a b=some g):content [98] b=(Bl g,true):=by
 obtain⟨j,k⟩:=Ks h;obtain⟨l,m,c⟩:=Lo k;have i:∀x∈g,x.1.length<=12/\x.2.length<=16:=fun x f=>⟨Ed (c.1 x f).1,(c.1 x f).2⟩
 have f:=Ir g i;rw[j];exact Mb 98 _ O_
theorem Aa2(b:Cur)(f:b=⟨(content [98] sec).1,false⟩):KF ks i sec b.byte 0 [] (b.take 1).2:=by
 intro a h;obtain⟨g,d⟩:=Ks h;obtain⟨j,k,l⟩:=Lo d;have e:b=⟨UInt8.ofNat (a.length % 256)::items [] a,false⟩:=by rw[f,St h];unfold Bl;simp[low]
 have c:(UInt8.ofNat (a.length % 256)).toNat=a.length:=by rw[jY];omega
 refine⟨?_,D_,?_⟩
 ·unfold Cur.byte;rw[e,Gk,Ip,c]
 ·rw[e,Gk];rfl
theorem Adf{r:Cur}(h:KF d a b c f g r)(Z:f<c)(G:g.length=f):
  KF d a b c (f+1) (g++[((Jd g).take r.byte++((r.take 1).2.text 12).1,(((r.take 1).2.text 12).2.text 16).1)]) (((r.take 1).2.text 12).2.text 16).2/\
  (Ay d a b≠none->r.byte<=(Jd g).length/\Dm ((Jd g).take r.byte++((r.take 1).2.text 12).1).length=true/\(0<f->Jd g<(Jd g).take r.byte++((r.take 1).2.text 12).1)):=by
 have y:∀i,Ay d a b=some i->∃x,i.drop f=x::i.drop (f+1)/\c=i.length/\g=i.take f/\Kw i/\r.byte<=(Jd g).length/\(Jd g).take r.byte++((r.take 1).2.text 12).1=x.1/\(((r.take 1).2.text 12).2.text 16).1=x.2/\(((r.take 1).2.text 12).2.text 16).2=⟨items x.1 (i.drop (f+1)),false⟩:=by
  intro i h0;obtain⟨q,o,m⟩:=h i h0;obtain⟨W,S⟩:=Ks h0;obtain⟨X,Y,B⟩:=Lo S;have z:f<i.length:=O_;have k:i.drop f=i[f]::i.drop (f+1):=yM z;have s:=B.1 i[f] (yA z);have H:=Ed s.1;refine⟨i[f],k,q,o,B,?_⟩;rw[k]at m;generalize i[f]=x at*;obtain⟨j,C⟩:=x;simp only at s H⊢;have I:=Ox (Jd g) j;have J:=Rp (Jd g) j;generalize V:Du (Jd g) j=l at*;have n:r=⟨UInt8.ofNat (l % 256)::(text (j.drop l)++(text C++items j (i.drop (f+1)))),false⟩:=by rw[m,items,V];simp[low]
  have L:(UInt8.ofNat (l % 256)).toNat=l:=by rw[jY];omega
  have M:r.byte=l:=by unfold Cur.byte;rw[n,Gk,Ip,L]
  have N:(r.take 1).2=⟨text (j.drop l)++(text C++items j (i.drop (f+1))),false⟩:=by rw[n,Gk]
  have O:(j.drop l).length<=12:=by rw[xY];omega
  rw[M,N,Pj _ _ 12 O O_];simp only;rw[Pj _ _ 16 s.2 O_];exact⟨I.1,J,rfl,rfl⟩
 constructor
 ·intro i h0;obtain⟨x,k,q,o,m,n,p,u,D⟩:=y i h0;refine⟨q,?_,?_⟩
  ·rw[p,u,o,zN];have:i[f]?=some x:=(by rw[<-List.head?_drop,k];rfl);rw[this];rfl
  ·rw[p,u,D,Vk]
 ·intro t
  cases h0:Ay d a b with
  | none=>exact absurd h0 t
  | some i=>
   obtain⟨x,k,q,o,m,n,p,u,D⟩:=y i h0;have R:x∈i:=bJ (i:=f) (by rw[k];simp);refine⟨n,by rw[p];exact(m.1 x R).1,fun A=> ?_⟩;rw[p];have t:g≠[]:=fun e=>by rw[e]at G;simp at G;omega
   obtain⟨F,T,U⟩:=PM t;have:Jd g=F.1:=U.symm;rw[this];have A:=m.2;rw[<-zK f i,jN]at A;exact A.2.2 F (by rw[<-o];exact T) x (by rw[k];simp)
def Lw(ok ends:Bool)(n:Nat)(ks:List hE)(i:Nat)(il:Its):Bool:=
 !ok || !ends || decide (n<1) || decide (4<n) || decide ((il.map (·.1)).getD 0 []≠ks.getD i []) || (decide (i+1<ks.length)&& !decide (Jd il<ks.getD (i+1) []))
theorem Af8{r:Cur}(h:KF d a b c f g r)(s:f<c->f<5->r.bad=true)(C:f<=5)(D:f<=c):Ay d a b≠none->Lw (content [98] b).2 r.ends c d a g=false:=by
 intro p
 cases h0:Ay d a b with
 | none=>exact absurd h0 p
 | some l0=>
  obtain⟨t,o,l⟩:=h l0 h0;obtain⟨u,i⟩:=Ks h0;obtain⟨y,z,A⟩:=Lo i;have k:f=l0.length:=by
   rcases jX f c with q|B
   ·have:=s q O_;rw[l]at this;simp at this
   ·omega
  have m:g=l0:=by rw[o,k,zQ]
  have n:r=⟨[],false⟩:=by rw[l,k,qQ,items]
  unfold Oh at i;simp only[yK,yL,kT,dA,qJ]at i;unfold Lw;rw[St h0,n,m,xN (by omega:¬c<1),xN (by omega:¬4<c),i.1.2];simp only[Cur.ends,List.isEmpty_nil,Bool.not_true,Bool.not_false,Bool.and_self,Bool.false_or,ne_eq,not_true,decide_false];unfold Jd;rcases i.2 with j|j
  ·rw[xN j];rfl
  ·rw[xQ j];simp
theorem Af9{ck:Cur}(o:g.length=a)(j:Kw g)(d:Lw (content [98] sec).2 ck.ends a ks i g=false)(k:Bl g=(content [98] sec).1):Ay ks i sec=some g:=by
 unfold Lw at d;simp only[dB,Bool.not_eq_false',qJ,fY]at d;obtain⟨⟨⟨⟨⟨f,l⟩,m⟩,n⟩,c⟩,b⟩:=d;have c:(g.map (·.1)).getD 0 []=ks.getD i []:=kH c;refine MT (by rw[k,UW f]) ?_;unfold Oh;rw[xQ (by omega:1<=g.length),xQ (by omega:g.length<=4),(Oj g).2 j,c];simp only[decide_true,dC,Bool.and_true];rcases b with b|b
 ·rw[xN b];rfl
 ·have:Jd g<ks.getD (i+1) []:=by simpa using b
  unfold Jd at this;rw[xQ this];simp
theorem Afa{r:Cur}(h:KF d a b c f g r)(n:f<c->f<5->r.bad=true)(z:f<=5)(A:f<=c)(o:Bl g≠(content [98] b).1):Ay d a b=none:=by
 cases h0:Ay d a b with
 | none=>rfl
 | some l0=>
  exfalso;obtain⟨p,j,k⟩:=h l0 h0;obtain⟨q,l⟩:=Ks h0;obtain⟨s,t,u⟩:=Lo l;have i:f=l0.length:=by
   rcases jX f c with m|y
   ·have:=n m O_;rw[k]at this;simp at this
   ·omega
  apply o;rw[St h0,j,i,zQ]
end Pg
