import Derived.Test.YtolgpnaoaodepaaGreatWalkAFm
set_option maxHeartbeats 2000000
set_option maxRecDepth 20000
namespace Go.Proofs.YtolgpnaoaodepaaGreat
open Ld
namespace Pr
open Pg
abbrev Lb:=Int×List (hE×hE)×hF×List hE×List (Int×hE×hE)
def Kp(t:hE):Option Lb:=if t.take 3=[83,50,73]then brO (Dl t)else lfO (Pf t)
def Mc(n:Lb):Bool:=Kh n.1 n.2.1 (n.2.2.1.map Int.ofNat) n.2.2.2.1 n.2.2.2.2
def Kq(n:Lb):hE:=page n.1 n.2.1 (n.2.2.1.map Int.ofNat) n.2.2.2.1 n.2.2.2.2
def En(t:hE):Option Lb:=(Kp t).bind fun n=>if Mc n=true then(if Kq n=t then some n else none)else none
theorem Ph{H:hE}{I:Lb}(h:En H=some I):Mc I=true/\Kq I=H:=by
 unfold En at h;rw[gW]at h;obtain⟨d,_,a⟩:=h;by_cases b:Mc d=true
 ·rw[xD b]at a;by_cases c:Kq d=H
  ·rw[xD c]at a;simp only[xX]at a;subst a;exact⟨b,c⟩
  ·rw[xB c]at a;simp at a
 ·rw[xB b]at a;simp at a
end Pr
open Go.RowKit
variable {a n C u D:Nat}{w f p:World}{v j k l m q z F:Value}{b y:Int}{g:gY}{d:hF}{c:hD}{i:gZ}{B:hA}{A:List Bool}{e:TypeId}{G:hH}{s t:hJ}
theorem Gp.isNode(h:Gp a w v b g d c i):Mz w v b g (d.map Int.ofNat) c i:=by
 obtain⟨f,j,k,l,e,m,n,o,p,q,r,s,t⟩:=h;refine⟨f,j,k,l,e,Lv m,O_,?_,?_,p.isChs O_⟩
 ·have:=ownsRow.isRow n O_;rw[xP,zW];exact this
 ·exact ownsRow.isRow o O_
theorem Gp.put(h:Gp a w v b g d c i)(f:n<a)(u0 u1 u2 u3 u4:Value):Gp a (Hl w n u0 u1 u2 u3 u4) v b g d c i:=by obtain⟨j,k,l,m,e,o,p,q,r,s⟩:=h;exact⟨j,k,l,m,e,Oi o f _ _ _ _ _,Oi p f _ _ _ _ _,Oi q f _ _ _ _ _,Oi r f _ _ _ _ _,s⟩
theorem Gp.below{B:Nat}(h:Gp B w v b g d c i)(a:Below w.heap.size w f):Gp B f v b g d c i:=by obtain⟨j,k,l,m,e,n,o,p,q,r⟩:=h;exact⟨j,k,l,m,e,Ae n a X_,Ae o a X_,Ae p a X_,Ae q a X_,r⟩
theorem Gp.shrink(h:Gp a w v b g d c i)(f:C<=a):Gp C w v b g d c i:=by obtain⟨j,k,l,m,e,n,o,p,q,r⟩:=h;exact⟨j,k,l,m,e,Bi n f,Bi o f,Bi p f,Bi q f,r⟩
theorem Gp.shape(h:Gp a w v b g d c i):∃f j k l m n o p,v=.agg #[J_ b,L_ f g.length j,L_ k d.length l,L_ m c.length n,L_ o i.length p]:=by obtain⟨u,y,z,A,e,q,r,s,t,B⟩:=h;obtain⟨f,j,rfl⟩:=Ad q;obtain⟨k,l,rfl⟩:=Ad r;obtain⟨m,n,rfl⟩:=Ad s;obtain⟨o,p,rfl⟩:=Ad t;exact⟨f,j,k,l,m,n,o,p,e⟩
theorem TO(a:hE)(w:World):
  Calls Tryz.prog 243 #[B_ ⟨a.toArray⟩,B_ ⟨#[83,50,73]⟩] w fun b c=>b=R_ (.bool (decide (a.take 3=[83,50,73])))/\c=w:=by
 have g:=Ba a;generalize c:decide (a.take 3=[83,50,73])=f;have b:=Aa c;clear c;go_in;by_cases j:3<=a.length
 ·have c:(3:Int)<=(a.length:Int):=O_;have i:=EG a 3;go_wp2_with fail;go_ret;refine⟨?_,rfl⟩;rw[<-b.o];show Ending.returned (.bool (a.take 3==[83,50,73]))=_;rw[show(a.take 3==[83,50,73])=decide (a.take 3=[83,50,73])from Bool.eq_iff_iff.2 D_]
 ·have c:¬(3:Int)<=(a.length:Int):=O_;have d:Hid (f=false):=by show _=_;rw[<-b.o];exact xN fun e=>by have:=yW List.length e;rw[xR]at this;simp at this;omega
  go_wp2_with fail;go_ret;exact⟨by rw[d.o];rfl,rfl⟩
theorem TP(a:hE)(w:World):
  Calls Tryz.prog 199 #[B_ ⟨a.toArray⟩,B_ ⟨#[83,50,73]⟩] w fun b c=>b=R_ (.bool (decide (a.take 3=[83,50,73])))/\c=w:=by
 have c:=Aa (TO a w);generalize decide (a.take 3=[83,50,73])=f at*;go_in;go_wp2_with fail;refine c.o.mono ?_;rintro b d ⟨rfl,rfl⟩;go_wp2_with fail;go_ret;exact⟨rfl,rfl⟩
theorem Ys{M:Option Pr.Lb}(o:Below w.heap.size w f)(p:M=some (b,Ab g,d,Ag c,Ac i))(q:Gp a f (.agg #[J_ b,j,k,l,m]) b g d c i)(n:w.heap.size<a)(r:TN b (.agg #[J_ b,j,k,l,m])):
  ES w M (R_ (.agg #[J_ b,j,k,l,m])) (Hl f w.heap.size (J_ b) j k l m):=
 ⟨Hy o X_ _ _ _ _ _,.inr ⟨b,g,d,c,i,_,p,rfl,(q.put n _ _ _ _ _).shrink (zX n),r⟩⟩
theorem EU(a:hE)(w:World):
  Calls Tryz.prog 143 #[B_ ⟨a.toArray⟩] w fun L b=>ES w (Pr.Kp a) L b:=by
 go_in;go_wp2_with fail;have R:=Aa (Cz w (J_ 0) Z_ Z_ Z_ Z_);have J:=Aa ((xA w.heap.size w).alloc X_ (C_ #[J_ 0,Z_,Z_,Z_,Z_] 79));have a3:w.heap.size<(w.alloc (C_ #[J_ 0,Z_,Z_,Z_,Z_] 79)).heap.size:=D_
 generalize w.alloc (C_ #[J_ 0,Z_,Z_,Z_,Z_] 79)=a5 at*;refine(TP a _).mono ?_;rintro L a4 ⟨rfl,rfl⟩;by_cases g:a.take 3=[83,50,73]
 ·have i:Hid (Pr.Kp a=brO (Pr.Dl a)):=by show _=_;unfold Pr.Kp;rw[xD g]
  rw[xQ g];clear g;go_wp2_with fail;refine(ET a _).mono ?_;rintro L a2 ⟨b,⟨A,rfl⟩|⟨B,C,D,F,G,v,H,rfl,f,I⟩⟩
  ·have c:Hid (Pr.Kp a=none):=i.o.trans A;have d:=Aa (J.o.trans (b.mono O_));clear b A;unfold Am;go_wp2_with fail;exact⟨rfl,d.o,.inl ⟨c.o,rfl⟩⟩
  ·have c:=Aa (i.o.trans H);have d:=Aa (J.o.trans (b.mono O_));have j:=Aa (R.o.keep b);obtain⟨k,l,m,n,o,p,q,r,rfl⟩:=f.shape;have M:=Aa f;have N:=Aa (Ys d.o c.o M.o O_ I);clear I;have O:=Aa (j.o.put (J_ B) (L_ k C.length l) (L_ m D.length n) (L_ o F.length p) (L_ q G.length r));obtain⟨S,T,U,V,W,X,Y,Z,a0,a1⟩:=j.o.cells;clear b H f;go_wp2_with fail;refine yS (v:=.agg #[J_ B,L_ k C.length l,L_ m D.length n,L_ o F.length p,L_ q G.length r]) ?_ rfl N.o;obtain⟨s,t,u,y,z⟩:=Gg O.o;unfold Hl at s t u y z;simp[results,Tryz.results143,go_sem,s,t,u,y,z]
 ·have i:Hid (Pr.Kp a=lfO (Pr.Pf a)):=by show _=_;unfold Pr.Kp;rw[xB g]
  rw[xN g];clear g;go_wp2_with fail;refine(MF a _).mono ?_;rintro L a2 ⟨b,⟨A,rfl⟩|⟨B,C,D,F,G,v,H,rfl,f,I⟩⟩
  ·have c:Hid (Pr.Kp a=none):=i.o.trans A;have d:=Aa (J.o.trans (b.mono O_));clear b A;unfold Am;go_wp2_with fail;exact⟨rfl,d.o,.inl ⟨c.o,rfl⟩⟩
  ·have c:=Aa (i.o.trans H);have d:=Aa (J.o.trans (b.mono O_));have j:=Aa (R.o.keep b);obtain⟨k,l,m,n,o,p,q,r,rfl⟩:=f.shape;have M:=Aa f;have N:=Aa (Ys d.o c.o M.o O_ I);clear I;have O:=Aa (j.o.put (J_ B) (L_ k C.length l) (L_ m D.length n) (L_ o F.length p) (L_ q G.length r));obtain⟨S,T,U,V,W,X,Y,Z,a0,a1⟩:=j.o.cells;clear b H f;go_wp2_with fail;refine yS (v:=.agg #[J_ B,L_ k C.length l,L_ m D.length n,L_ o F.length p,L_ q G.length r]) ?_ rfl N.o;obtain⟨s,t,u,y,z⟩:=Gg O.o;unfold Hl at s t u y z;simp[results,Tryz.results143,go_sem,s,t,u,y,z]
theorem EV(g:hE)(w:World):
  Calls Tryz.prog 83 #[B_ ⟨g.toArray⟩] w fun j a=>ES w (Pr.En g) j a:=by
 go_in;go_wp2_with fail;have C:=Aa (Cz w (J_ 0) Z_ Z_ Z_ Z_);have z:=Aa ((xA w.heap.size w).alloc X_ (C_ #[J_ 0,Z_,Z_,Z_,Z_] 79));have a3:w.heap.size<(w.alloc (C_ #[J_ 0,Z_,Z_,Z_,Z_] 79)).heap.size:=D_
 generalize w.alloc (C_ #[J_ 0,Z_,Z_,Z_,Z_] 79)=b9 at*;refine(EU g _).mono ?_;rintro j k ⟨l,⟨m,rfl⟩|⟨a,b,c,d,f,v,I,rfl,B,J⟩⟩
 ·have i:Hid (Pr.En g=none):=by show _=_;unfold Pr.En;rw[m];rfl
  have u:=Aa (z.o.trans (l.mono O_));clear l m;unfold Am;go_wp2_with fail;exact⟨rfl,u.o,.inl ⟨i.o,rfl⟩⟩
 have i:Hid (Pr.En g=if Pg.Kh a (Ab b) (c.map Int.ofNat) (Ag d) (Ac f)=true then(if Pg.page a (Ab b) (c.map Int.ofNat) (Ag d) (Ac f)=g then some (a,Ab b,c,Ag d,Ac f)else none)else none):=by show _=_;unfold Pr.En;rw[I];rfl
 have u:=Aa (z.o.trans (l.mono O_));have D:=Aa (C.o.keep l);obtain⟨m,n,o,p,q,r,s,t,rfl⟩:=B.shape;have y:=(xA k.heap.size k).alloc X_ (C_ #[J_ a,L_ m b.length n,L_ o c.length p,L_ q d.length r,L_ s f.length t] 79);have F:=Aa (Cz k (J_ a) (L_ m b.length n) (L_ o c.length p) (L_ q d.length r) (L_ s f.length t));have G:=Aa (u.o.trans (y.mono (by have:=l.size;omega)));have H:=Aa (D.o.keep y);have A:=Aa (B.below y);have a4:=l.size;have a5:k.heap.size<(k.alloc (C_ #[J_ a,L_ m b.length n,L_ o c.length p,L_ q d.length r,L_ s f.length t] 79)).heap.size:=D_;have R:=Aa J;clear l I B y u D C z J;have y:=Aa A.o.isNode;go_wp2_with fail;generalize k.alloc (C_ #[J_ a,L_ m b.length n,L_ o c.length p,L_ q d.length r,L_ s f.length t] 79)=c0 at*;generalize k.heap.size=c1 at*;refine(TI _ a b (c.map Int.ofNat) d f _ y.o).mono ?_;rintro j b8 ⟨rfl,l⟩;have z:=Aa (G.o.trans (l.mono O_));have S:=Aa (H.o.keep l);have B:=Aa (F.o.keep l);have T:=Aa (A.o.below l);have U:=Aa (y.o.below l);have a6:=l.size;obtain⟨C,D,I,J,L,-⟩:=B.o.cells;clear l G H F A y
 cases l:Pg.Kh a (Ab b) (c.map Int.ofNat) (Ag d) (Ac f)
 ·have V:Hid (Pr.En g=none):=by show _=_;rw[i.o,l];rfl
  clear l;go_wp2_with fail;refine(Bt _).mono ?_;rintro j a1 ⟨rfl,rfl⟩;unfold Am;go_wp2_with fail;exact⟨rfl,z.o,.inl ⟨V.o,rfl⟩⟩
 ·have W:=Aa l;rw[l,xD rfl]at i;clear l;go_wp2_with fail;refine(Sa _ a b (c.map Int.ofNat) d f _ U.o W.o).mono ?_;rintro j a1 ⟨rfl,l⟩;have y:=Aa (z.o.trans (l.mono O_));have A:=Aa (S.o.keep l);have X:=Aa (B.o.keep l);have Y:=Aa (T.o.below l);clear l C D I J L;generalize Pg.page a (Ab b) (c.map Int.ofNat) (Ag d) (Ac f)=O at*;obtain⟨C,D,I,J,L,-⟩:=X.o.cells;obtain⟨a8,a9,b0,b1,b2,b3,b4,b5,b6,b7⟩:=A.o.cells;by_cases l:O=g
  ·rw[xD l]at i;subst l;have Z:=Aa (Ys y.o i.o Y.o O_ R.o);have a0:=Aa (A.o.put (J_ a) (L_ m b.length n) (L_ o c.length p) (L_ q d.length r) (L_ s f.length t));go_wp2_with fail;refine(Bm _).mono ?_;rintro j a2 ⟨rfl,rfl⟩;go_wp2_with fail;refine yS (v:=.agg #[J_ a,L_ m b.length n,L_ o c.length p,L_ q d.length r,L_ s f.length t]) ?_ rfl Z.o;obtain⟨F,G,H,M,N⟩:=Gg a0.o;unfold Hl at F G H M N;simp[results,Tryz.results83,go_sem,F,G,H,M,N]
  ·rw[xB l]at i;have a7:(O==g)=false:=(by simpa using l);go_wp2_with fail;refine(Bt _).mono ?_;rintro j a2 ⟨rfl,rfl⟩;unfold Am;go_wp2_with fail;exact⟨rfl,y.o,.inl ⟨i.o,rfl⟩⟩
theorem HM(a:hJ):(⟨a.data.toList.toArray⟩:hJ)=a:=by cases a;simp
structure LdM(vim vre:Value)(iml:hD)(rb:List Bool)(w:World):Prop where
 im:Bc 0 w vim iml
 re:w.ownsRow 0 4 1 vre rb.length (rb.map .bool)
 len:rb.length=iml.length
theorem BP(h:w.ownsRow 0 4 1 v A.length (A.map .bool))(b:Nat)(d:b<A.length):∃a c,v=L_ (P_ a) A.length c/\A.length<=c/\a<w.heap.size/\w.cell? (Q_ a b)=some (.bool (A[b]'d))/\w.frozen? (Q_ a b)=false:=by
 rcases h.2 with⟨_,h0⟩|⟨a,c,i,e,j,f,g,-⟩
 ·omega
 ·refine⟨a,c,e,g,(xS.1 f).1,?_,by simp[World.frozen?,f]⟩;have:=zD h (g:=a) (by rw[e];rfl) b (.bool (A[b]'d)) (by simp[d]);rw[Dy]at this;simpa using this
def Au(iml:hD):List (Option Nd):=iml.map fun s=>Pr.En s.data.toList
def Afz(vim vre:Value)(iml:hD)(rb:List Bool)(n:Nat)(w:World)(r:Ending)(w':World):Prop:=Mod (fun g=>vre.ownBlock=some g) w w'/\
 ((r=Am/\∀nd,¬(rb[n]?=some false/\(Au iml)[n]?=some (some nd)))\/∃kd il cl pl ml v,rb[n]?=some false/\(Au iml)[n]?=some (some (kd,Ab il,cl,Ag pl,Ac ml))/\r=R_ v/\Gp w.heap.size w' v kd il cl pl ml/\TN kd v/\LdM vim vre iml (rb.set n true) w')
theorem EW{iml:hD}(h:n<iml.length):(Au iml)[n]?=some (Pr.En (iml[n]'h).data.toList):=by unfold Au;simp[h]
theorem LdM.mod(h:LdM j k c A w)(a:Below w.heap.size w f):LdM j k c A f:=⟨Ae h.im a X_,Ae h.re a X_,h.len⟩
theorem Tg{N:Nat->Prop}(a:Mod N w f)(b:Below w.heap.size f p):Mod N w p:=⟨b.os.trans a.os,b.tape.trans a.tape,b.output.trans a.output,xI a.size b.size,fun c d g=>(b.block c d).trans (a.block c d g)⟩
theorem Dh{O:TypeId}{J:Nat}{S:hH}(h:w.ownsRow a e u v D G)(l:w.ownsRow n O C j J S)(m:e≠O){g:Nat}(f:v.ownBlock=some g):j.ownBlock≠some g:=by
 intro c;rcases h.2 with⟨rfl,_⟩|⟨d,o,p,rfl,_,i,_⟩
 ·simp[Value.ownBlock]at f
 ·rcases l.2 with⟨rfl,_⟩|⟨k,q,r,rfl,_,b,_⟩
  ·simp[Value.ownBlock]at c
  ·obtain rfl:d=g:=xM f;obtain rfl:k=d:=xM c;rw[i]at b;simp only[xX,vW]at b;exact m b.2.1
theorem Ag0{L:hD}(h:LdM j (L_ (P_ n) A.length u) c A w)(s:Below w.heap.size w f)(U:w.heap.size+1<f.heap.size)(D:a<A.length)(J:A[a]'D=false)(M:(Au c)[a]?=some (some (b,Ab g,d,Ag L,Ac i)))(F:Below (f.setCell (Q_ n a) (.bool true)).heap.size (f.setCell (Q_ n a) (.bool true)) p)(N:Gp (f.setCell (Q_ n a) (.bool true)).heap.size p (.agg #[J_ b,k,l,m,q]) b g d L i)(O:TN b (.agg #[J_ b,k,l,m,q])):Afz j (L_ (P_ n) A.length u) c A a w (R_ (.agg #[J_ b,k,l,m,q])) (Hl p (w.heap.size+1) (J_ b) k l m q):=by
 have t:=Mod.setCell f n a (.bool true);have R:=t.size;have S:=s.size;have T:(f.setCell (Q_ n a) (.bool true)).heap.size=f.heap.size:=by simp[World.setCell]
 have z:n<w.heap.size:=(xF h.re n rfl).2;have B:Below w.heap.size p (Hl p (w.heap.size+1) (J_ b) k l m q):=Hy (xA _ p) (kF _) _ _ _ _ _;have C:∀o,o<w.heap.size->(Hl p (w.heap.size+1) (J_ b) k l m q).heap[o]?=(f.setCell (Q_ n a) (.bool true)).heap[o]?:=fun o r=>(B.block o r).trans (F.block o O_)
 refine⟨?_,.inr ⟨b,g,d,L,i,_,by rw[xW D,J],M,rfl,((N.put O_ _ _ _ _ _).shrink O_),O,⟨?_,?_,by rw[jV];exact h.len⟩⟩⟩
 ·have G:Mod (fun o=>(Value.slice (P_ n) A.length u).ownBlock=some o) w (f.setCell (Q_ n a) (.bool true)):=(Mod.of_below (F:=fun o=>(Value.slice (P_ n) A.length u).ownBlock=some o) s).trans t (fun _ _ y=>y) (fun H _ y=>by rw[y];rfl);exact Tg (Tg G (F.mono O_)) B
 ·refine Bx (Ae h.im s X_) fun o r _=> ?_
  have y:o<w.heap.size:=(xF h.im o r).2;have H:o≠n:=fun e=>Dh h.im h.re Do r (by rw[e];rfl)
  exact(C o y).trans (t.block o O_ H)
 ·have I:=Gx (Ae h.re s X_) a (.bool true);have e:(A.set a true).map Value.bool=(A.map Value.bool).set a (.bool true):=qX ..;rw[e,jV];exact Bx I fun o r _=>C o (by rw[show n=o from xM r]at z;exact z)
theorem TQ(z A:Value)(b:hD)(c:List Bool)(a:Nat)(w:World)(h:LdM z A b c w)(e1:a<=9000000000000000000):
  Calls Tryz.prog 134 #[.agg #[z,A],J_ (a:Nat)] w (Afz z A b c a w):=by
 obtain⟨n,i,rfl⟩:=Ad h.im;obtain⟨o,j,rfl⟩:=Ad h.re;have q:=Aa h;have a3:c.length<=b.length/\b.length<=c.length:=⟨wM h.len,wM h.len.symm⟩;obtain⟨c5,c6⟩:=a3;have g:Below w.heap.size w (w.alloc (C_ #[L_ n b.length i,L_ o c.length j] 152)):=(xA _ w).alloc X_ _;have r:(w.alloc (C_ #[L_ n b.length i,L_ o c.length j] 152)).heap.size=w.heap.size+1:=D_;have s:(w.alloc (C_ #[L_ n b.length i,L_ o c.length j] 152)).heap[w.heap.size]?=some (C_ #[L_ n b.length i,L_ o c.length j] 152 (0,0)):=xK _ _;clear h;go_in;go_upto_region 1 with fail;generalize w.alloc (C_ #[L_ n b.length i,L_ o c.length j] 152)=m at*;have k:Below m.heap.size m (m.alloc (C_ #[J_ 0,Z_,Z_,Z_,Z_] 79)):=(xA _ m).alloc X_ _;have p:=Cz m (J_ 0) Z_ Z_ Z_ Z_;have t:(m.alloc (C_ #[J_ 0,Z_,Z_,Z_,Z_] 79)).heap.size=m.heap.size+1:=D_;rw[r]at p;generalize m.alloc (C_ #[J_ 0,Z_,Z_,Z_,Z_] 79)=f at*;have d:f.heap[w.heap.size]?=some (C_ #[L_ n b.length i,L_ o c.length j] 152 (0,0)):=(k.block _ O_).trans s;have l:=Aa (g.trans (k.mono g.size));have B:w.heap.size+1<f.heap.size:=O_;have a4:=Aa p;have a5:=Aa d;have b8:f.cell? (Q_ w.heap.size 0)=some (L_ n b.length i):=by simp[World.cell?,d]
 have b9:f.cell? (Q_ w.heap.size 1)=some (L_ o c.length j):=by simp[World.cell?,d]
 clear g k s p d r t;by_cases s:a<c.length
 ·obtain⟨d,c7,e,c8,I,g,p⟩:=BP q.o.re a s;simp only[xJ]at e;obtain⟨rfl,-,rfl⟩:=e;obtain⟨k,c9,e,d0,-,b4,r⟩:=q.o.im.at a O_;simp only[xJ]at e;obtain⟨rfl,-,rfl⟩:=e;have C:=Aa (EW (iml:=b) (n:=a) O_);have a6:Hid (d≠k):=fun e=>Dh q.o.im q.o.re Do (g:=k) rfl (by rw[<-e];rfl)
  have D:f.cell? (Q_ d a)=some (.bool (c[a]'s)):=(l.o.cell (p:=(Q_ d a)) I).trans g;have c0:f.frozen? (Q_ d a)=false:=by have:f.heap[d]?=w.heap[d]?:=l.o.block d I;simp only[World.frozen?,this]at*;exact p
  have F:f.cell? (Q_ k a)=some (B_ (b[a]'O_)):=(l.o.cell (p:=(Q_ k a)) b4).trans r;have c1:(0:Int)<=(a:Int):=O_;have c2:(a:Int)<(c.length:Int):=O_;have c3:(a:Int)<(b.length:Int):=O_;clear g p r
  cases p:c[a]'s with
  | true=>
   have t:Hid (c[a]?=some true):=(by show _=_;rw[xW s,p]);rw[p]at D;clear p;go_wp2_with fail;refine(Bt _).mono ?_;rintro u b5 ⟨rfl,rfl⟩;unfold Am;go_wp2_with fail;exact⟨rfl,Mod.of_below l.o,.inl ⟨rfl,fun a2 g=>by rw[t.o]at g;cases g.1⟩⟩
  | false=>
   have a7:=Aa p;rw[p]at D;clear p;go_wp2_with fail;refine(Bm _).mono ?_;rintro u f ⟨rfl,rfl⟩;have p:=Mod.setCell f d a (.bool true);have y:(f.setCell (Q_ d a) (.bool true)).heap[w.heap.size]?=some (C_ #[L_ (P_ k) b.length i,L_ (P_ d) c.length j] 152 (0,0)):=(p.block _ O_ O_).trans a5.o;have V:(f.setCell (Q_ d a) (.bool true)).cell? (Q_ w.heap.size 0)=some (L_ (P_ k) b.length i):=(by simp[World.cell?,y]);have W:(f.setCell (Q_ d a) (.bool true)).cell? (Q_ k a)=some (B_ (b[a]'O_)):=(by have e:=p.block k (by have:=l.o.size;omega) (fun e=>a6.o e.symm);simp only[World.cell?,e]at F⊢;exact F);have a8:Hid (Bq (f.setCell (Q_ d a) (.bool true)) (w.heap.size+1) (J_ 0) Z_ Z_ Z_ Z_):=(p.block _ B O_).trans a4.o;have a9:Hid ((f.setCell (Q_ d a) (.bool true)).heap.size=f.heap.size):=(by show _=_;simp[World.setCell]);have b0:=Aa p;generalize b[a]'O_=b7 at*;have G:=Aa (EV b7.data.toList (f.setCell (Q_ d a) (.bool true)));rw[HM]at G;clear y p;go_wp2_with fail;refine G.o.mono ?_;rintro u b6 ⟨p,⟨H,rfl⟩|⟨X,Y,Z,a0,a1,v,r,rfl,y,U⟩⟩
   ·have b1:Hid (Afz (L_ (P_ k) b.length i) (L_ (P_ d) c.length j) b c a w Am b6):=by
     refine⟨Tg ((Mod.of_below (F:=fun J=>(Value.slice (P_ d) c.length j).ownBlock=some J) l.o).trans b0.o (fun _ _ g=>g) (fun J _ g=>by rw[g];rfl)) (p.mono (by rw[a9.o];omega)),.inl ⟨rfl,fun a2 g=> ?_⟩⟩;rw[C.o,H]at g
     cases g.2
    clear p H;unfold Am at*;go_wp2_with fail;exact⟨rfl,b1.o⟩
   ·obtain⟨J,L,M,N,O,R,S,T,rfl⟩:=y.shape;have b2:=Aa (Ag0 q.o l.o B s a7.o (by rw[C.o,r]) p y U);have H:=Aa (a8.o.keep p);have b3:=Aa (H.o.put (J_ X) (L_ J Y.length L) (L_ M Z.length N) (L_ O a0.length R) (L_ S a1.length T));obtain⟨d1,d2,d3,d4,d5,d6,d7,d8,d9,e0⟩:=H.o.cells;clear p r y U V W;go_wp2_with fail;refine yS (v:=.agg #[J_ X,L_ J Y.length L,L_ M Z.length N,L_ O a0.length R,L_ S a1.length T]) ?_ rfl b2.o;obtain⟨p,y,U,V,W⟩:=Gg b3.o;unfold Hl at p y U V W;simp[results,Tryz.results134,go_sem,p,y,U,V,W]
 ·have t:Hid (c[a]?=none):=dP O_;have c4:¬(a:Int)<(b.length:Int):=O_;go_wp2_with fail;refine(Bt _).mono ?_;rintro u b5 ⟨rfl,rfl⟩;unfold Am;go_wp2_with fail;exact⟨rfl,Mod.of_below l.o,.inl ⟨rfl,fun a2 g=>by rw[t.o]at g;cases g.1⟩⟩
abbrev TkM:=Nat×Nat×ByteArray×ByteArray
variable {r:List TkM}
def Fy(l:List TkM):hH:=l.flatMap fun x=>[J_ (x.1:Nat),A_ x.2.1,B_ x.2.2.1,B_ x.2.2.2]
def No(B:Nat)(w:World)(v:Value)(l:List TkM):Prop:=w.ownsRow B 154 4 v l.length (Fy l)
theorem Uy:∀a:List TkM,(Fy a).length=a.length*4
 | []=>rfl
 | x::r=>by have:Fy (x::r)=[J_ (x.1:Nat),A_ x.2.1,B_ x.2.2.1,B_ x.2.2.2]++Fy r:=rfl;rw[this,xC,Uy r,xH];simp;omega
theorem On(a b:List TkM):Fy (a++b)=Fy a++Fy b:=by unfold Fy;rw[dO]
theorem PG(a:List TkM)(x:TkM):Fy (a++[x])=Fy a++[J_ (x.1:Nat),A_ x.2.1,B_ x.2.2.1,B_ x.2.2.2]:=by rw[On];rfl
theorem TR:∀(a:List TkM),∀v∈Fy a,v.oneCell'=true:=fun a v b=>by obtain⟨x,_,a⟩:=wI.1 b;simp at a;rcases a with rfl|rfl|rfl|rfl<;>rfl
theorem JF:(Tryz.prog.info? 154).map (fun a=>(a.zero,a.size,a.bytes))=some (some (.agg #[J_ 0,.pointer none,B_ ⟨#[]⟩,B_ ⟨#[]⟩]),4,48):=S_
theorem No.at(h:No a w v r)(b:Nat)(c:b<r.length):∃d k,v=L_ (P_ d) r.length k/\r.length<=k/\a<=d/\d<w.heap.size/\w.cell? (Q_ d (b*4))=some (J_ ((r[b]'c).1:Nat))/\w.cell? (Q_ d (b*4+1))=some (A_ ((r[b]'c).2.1))/\w.cell? (Q_ d (b*4+2))=some (B_ (r[b]'c).2.2.1)/\w.cell? (Q_ d (b*4+3))=some (B_ (r[b]'c).2.2.2):=by
 rcases h.2 with⟨_,h0⟩|⟨d,k,q,e,n,o,p,-⟩
 ·omega
 ·have i:∀f g,(Fy r)[f]?=some g->w.cell? (Q_ d f)=some g:=fun f g l=>by
   have:=zD h (g:=d) (by rw[e];rfl) f g l;rw[Dy]at this;simpa using this
  have j:∀f g,[J_ ((r[b]'c).1:Nat),A_ ((r[b]'c).2.1),B_ (r[b]'c).2.2.1,B_ (r[b]'c).2.2.2][f]?=some g->(Fy r)[b*4+f]?=some g:=fun f g l=>by
   have g:Fy r=Fy (r.take b)++([J_ ((r[b]'c).1:Nat),A_ ((r[b]'c).2.1),B_ (r[b]'c).2.2.1,B_ (r[b]'c).2.2.2]++Fy (r.drop (b+1))):=by
    have:r=r.take b++(r[b]'c::r.drop (b+1)):=by rw[<-yM c,zK]
    conv=>lhs;rw[this]
    rw[On];rfl
   have m:f<4:=(by have:=(jM.1 l).1;simpa using this);rw[g,kC (by rw[Uy,xR];omega),Uy,xR,jL (zX c),show b*4+f-b*4=f by omega,vQ (by simpa using m)];exact l
  exact⟨d,k,e,p,n,(xS.1 o).1,by simpa using i _ _ (j 0 _ rfl),i _ _ (j 1 _ rfl),i _ _ (j 2 _ rfl),i _ _ (j 3 _ rfl)⟩
def Gh:hJ->hJ->hD->gY
 | lo,hi,[]=>[(lo,hi)]
 | lo,hi,p::r=>(lo,p)::Gh p hi r
theorem Ms:∀(c a:hJ) (b:hD),(Gh c a b).length=b.length+1
 | _,_,[]=>rfl
 | _,a,p::r=>by rw[Gh,xH,Ms p a r,xH]
theorem EX:∀(d:hD) (c b:hJ) (a:Nat) (h:a<(Gh c b d).length),(Gh c b d)[a]'h=((if h0:0<a then d[a-1]'(by rw[Ms]at h;omega)else c),if f:a<d.length then d[a]'f else b)
 | [],c,b,a,h=>by
  have:a=0:=by rw[Ms]at h;simp at h;exact h
  subst this;simp[Gh]
 | p::r,c,b,0,h=>by simp[Gh]
 | p::r,c,b,a+1,h=>by
  have d:a<(Gh p b r).length:=by rw[Ms]at h⊢;simp at h;omega
  have e:(Gh c b (p::r))[a+1]'h=(Gh p b r)[a]'d:=rfl;rw[e,EX r p b a d];congr 1
  ·by_cases h0:0<a
   ·rw[wC h0,wC O_];obtain⟨b,rfl⟩:∃b,a=b+1:=⟨a-1,O_⟩;simp
   ·have:a=0:=O_;subst this;simp
  ·by_cases f:a<r.length
   ·rw[wC f,wC K_];simp
   ·rw[qK f,qK K_]
theorem Sc:∀(d:hD) (b a:hJ),(Gh b a d).map (fun c=>(c.1.data.toList,c.2.data.toList))=Ma b.data.toList a.data.toList (Ag d)
 | [],b,a=>rfl
 | p::r,b,a=>by have:=Sc r p a;unfold Ag at*;rw[Gh,yD,this,yD,Ma]
def tkP(x:TkM):Tk:=(x.1,x.2.2.1.data.toList,x.2.2.2.data.toList)
def Gq(l:List TkM):hA:=(l.filter fun x=>Cu x.2.2.1.data.toList x.2.2.2.data.toList).map fun x=>(x.2.2.1,x.2.1)
theorem TS(a:List TkM)(x:TkM):Gq (a++[x])=Gq a++if Cu x.2.2.1.data.toList x.2.2.2.data.toList then[(x.2.2.1,x.2.1)]else[]:=by
 unfold Gq;rw[wG,yX];congr 1;by_cases h:Cu x.2.2.1.data.toList x.2.2.2.data.toList=true
 ·simp[h]
 ·simp[h]
theorem Sd(w:World)(g n e:TypeId)(s:Tryz.prog.underlying g=some (.slice e))(o:Value)(a k:Nat)(H:(Tryz.prog.info? e).map (fun b=>(b.zero,b.size,b.bytes))=some (some o,a,k))(I:o.cells.size=a)(J:0<a)(L:k<=1000)(v p:Value)(d i:Nat)(l j:hH)(q:w.ownsRow 0 e a v d l)(m:w.ownsRow 0 e a p i j)(M:∀x∈j,x.oneCell'=true)(N:d+i<=1000000000):
  ∃c f,(Builtin.append_ #[g,g] n #[v,p]).run Tryz.prog w=.ok c f/\f.ownsRow 0 e a c (d+i) (l++j)/\w.grownBy f v.ownBlock/\(c.ownBlock=v.ownBlock\/c.ownBlock=some w.heap.size):=by
 obtain⟨b,r,u,y,z⟩:=zB H;rcases m.2 with⟨rfl,rfl⟩|⟨F,G,O,rfl,R,S,T,U,V,W⟩
 ·have t:j=[]:=zT (by rw[m.1,vK]);subst t;refine⟨v,w,fT w 0 g n e b a s r v d l q,?_,⟨rfl,rfl,rfl,X_,fun _ _ _=>rfl⟩,.inl rfl⟩;rw[jW,yC];exact q
 ·obtain⟨c,f,A,B,C,_,D⟩:=kY w 0 g n e b o a k s r u y z I J v d l q (Q_ F 0) i G j m.1 (m.cells rfl) M (by unfold maxLen;omega) (by have:(d+i)*k<=1000000000*1000:=wO N L;omega) Y_;exact⟨c,f,A,B,C,D⟩
theorem List.take_succ_eq_append_getElem'{α:Type _}{T:List α}{U:α}(h:T[a]?=some U):T.take (a+1)=T.take a++[U]:=by rw[zN,h];rfl
structure FiM(w:World)(n:Int)(q:Nat)(lo hi:hJ)(kd:Int)(v1 v2 v3 v4:Value)(cl:hF)(pl:hD)(tl:List TkM)(ps:hA)(v5 vp:Value)(W:World):Prop where
 tk:TkB W w.heap.size n q lo hi
 nd:Bq W (w.heap.size+1) (J_ kd) v1 v2 v3 v4
 nod:Ax W q v1 vp v4
 par:Bf (w.heap.size+2) W vp ps
 row:No (w.heap.size+2) W v5 tl
 kid:W.ownsRow 0 3 1 v2 cl.length (Cl cl)
 piv:Bc 0 W v3 pl
 tks:tl.map (fun x=>(x.1,x.2.2))=(List.zipWith (fun c b=>(c,b)) cl (Gh lo hi pl)).take tl.length
 nods:∀x∈tl,Ax W x.2.1 Z_ Z_ Z_/\w.heap.size+2<=x.2.1
 dist:(tl.map (·.2.1)).Nodup
 mod:Mod (fun g=>g=q) w W
 ql:q<w.heap.size
 pnil:ps=[]->vp=Z_
theorem FiM.below{W:World}(h:FiM w b a s t y j k l m d c r B q z W)(g:Below W.heap.size W f):FiM w b a s t y j k l m d c r B q z f:=
 ⟨h.tk.keep g,h.nd.keep g,(g.block a h.nod.lt).trans h.nod,Ae h.par g X_,Ae h.row g X_,Ae h.kid g X_,Ae h.piv g X_,h.tks,fun x i=>⟨(g.block _ (h.nods x i).1.lt).trans (h.nods x i).1,(h.nods x i).2⟩,h.dist,h.mod.trans (Mod.of_below (F:=fun _=>False) g) (fun _ _ i=>i) (fun _ _ i=>i.elim),h.ql,h.pnil⟩
theorem Ag1(h:TkB w a b n s t)(i:w.ownsRow u e C v D G)(j:e≠154):v.ownBlock≠some a:=by
 intro c;rcases i.2 with⟨d,_⟩|⟨f,k,l,rfl,_,g,_⟩
 ·subst d;cases c
 ·have:f=a:=xM c;subst this;unfold TkB at h;rw[g]at h;simp only[xX,vW]at h;exact j h.2.1
theorem FiM.part(h:FiM w b a s t y j k l m d c r B q z f)(x:ByteArray×Nat)(J:p.ownsRow (w.heap.size+2) 132 2 F (B.length+1) (An B++[B_ x.1,A_ x.2]))(O:f.grownBy p z.ownBlock):FiM w b a s t y j k l m d c r (B++[x]) q F (p.setCell (Q_ a 1) F):=by
 have o:=Mod.of_grown O;have u:=Mod.setCell p a 1 F;have R:=h.ql;have D:∀n,z.ownBlock=some n->w.heap.size+2<=n:=fun n g=>(xF h.par n g).1
 have C:Ax p a j z m:=o.nod h.nod (fun g=>Bg h.nod h.par Do g);have G:No (w.heap.size+2) p q r:=o.row h.row (fun n g i=>Dh h.row h.par Do g i);have H:p.ownsRow 0 3 1 k d.length (Cl d):=o.row h.kid (fun n g i=>Dh h.kid h.par Do g i);have I:Bc 0 p l c:=o.row h.piv (fun n g i=>Dh h.piv h.par Do g i);refine⟨(u.block _ ?_ ?_).trans ((o.block _ h.tk.lt ?_).trans h.tk),(u.block _ ?_ ?_).trans ((o.block _ h.nd.lt ?_).trans h.nd),C.setp F,?_,u.row G (fun n g i=>Bg C G Do (by rw[<-i];exact g)),u.row H (fun n g i=>Bg C H Do (by rw[<-i];exact g)),u.row I (fun n g i=>Bg C I Do (by rw[<-i];exact g)),h.tks,?_,h.dist,(h.mod.trans o (fun _ _ g=>g) (fun N L g=> ?_)).trans u (fun _ _ g=>g) (fun _ _ g=>g),h.ql,fun g=>absurd g D_⟩
 ·exact yF h.tk.lt o.size
 ·exact fun g=>O_
 ·intro g;have:=D _ g;omega
 ·exact yF h.nd.lt o.size
 ·exact fun g=>O_
 ·intro g;have:=D _ g;omega
 ·unfold Bf;rw[xC,Dj];exact u.row J (fun n g i=>Bg C J Do (by rw[<-i];exact g))
 ·intro L M;obtain⟨i,n⟩:=h.nods L M;refine⟨u.nod (o.nod i (fun g=>Bg i h.par Do g)) (fun g=>O_),n⟩
 ·have:=D N g;omega
theorem FiM.snoc(h:FiM w b a s t y j k l m d c r B q z f)(x:TkM)(D:Ax f x.2.1 Z_ Z_ Z_)(M:w.heap.size+2<=x.2.1)(N:x.2.1∉r.map (·.2.1))(O:(List.zipWith (fun g C=>(g,C)) d (Gh s t c))[r.length]?=some (x.1,x.2.2))(R:p.ownsRow (w.heap.size+2) 154 4 F (r.length+1) (Fy r++[J_ (x.1:Nat),A_ x.2.1,B_ x.2.2.1,B_ x.2.2.2]))(S:f.grownBy p q.ownBlock):FiM w b a s t y j k l m d c (r++[x]) B F z p:=by
 have i:=Mod.of_grown S;have T:=h.ql;have u:∀n,q.ownBlock=some n->w.heap.size+2<=n:=fun n g=>(xF h.row n g).1
 refine⟨(i.block _ h.tk.lt ?_).trans h.tk,(i.block _ h.nd.lt ?_).trans h.nd,i.nod h.nod (fun g=>Bg h.nod h.row Do g),i.row h.par (fun n g o=>Dh h.par h.row Do g o),?_,i.row h.kid (fun n g o=>Dh h.kid h.row Do g o),i.row h.piv (fun n g o=>Dh h.piv h.row Do g o),?_,?_,?_,h.mod.trans i (fun _ _ g=>g) (fun L n g=> ?_),h.ql,h.pnil⟩
 ·intro g;have:=u _ g;omega
 ·intro g;have:=u _ g;omega
 ·unfold No;rw[xC,PG];exact R
 ·rw[yX,h.tks,xC,yD,vH];exact(List.take_succ_eq_append_getElem' O).symm
 ·intro H I;rcases xE.1 I with g|g
  ·obtain⟨n,G⟩:=h.nods H g;exact⟨i.nod n (fun g=>Bg n h.row Do g),G⟩
  ·obtain rfl:=yR.1 g;exact⟨i.nod D (fun g=>Bg D h.row Do g),M⟩
 ·rw[yX,xO];refine⟨h.dist,D_,?_⟩;intro U J C o e;rw[yD,vH,yR]at o;subst o;subst e;exact N J
 ·have:=u L g;omega
