import Derived.Test.YtolgpnaoaodepaaGreatTreZWm
set_option maxHeartbeats 1000000
set_option maxRecDepth 20000
namespace Go.Proofs.YtolgpnaoaodepaaGreat
open Ld Tr
namespace Ld
open Go.Proofs.YtolgpnaoaodepaaGreat.Tr
theorem FF.each{α:Type}{l:Key->Key->α->Prop}{m:α->Nat}:∀{b:List Tk} {a:List α},FF l m b a->∀c∈a,∃d f,l d f c
 | t::b,c::_,h,x,a=>by
  rcases xG.1 a with rfl|a
  ·exact⟨_,_,h.1.2⟩
  ·exact h.2.each x a
 | [],[],_,_,a=>by cases a
 | [],_::_,h,_,_=>h.elim
 | _::_,[],h,_,_=>h.elim
theorem FO{x:It}(h:Ae4 x):Kv ((1:Int),x.1,x.2):=by unfold Kv Pg.Bh Pg.Bv;simp[h.1,h.2]
theorem UH{P:List (Option Nd)}(i:BB P):∀(h:Nat) (f g:Key) (c:PT h),Dz P h f g c->∀d∈eff P h c,Kv d
 | 0,f,g,c,⟨nd,h1,h2,_⟩,d,b=>by
  rw[eff,La h1]at b;obtain⟨x,j,rfl⟩:=xL.1 b;rcases i _ nd h1 with⟨_,_,_,_,_,_,a⟩|⟨a,_⟩
  ·exact FO (a x j)
  ·rw[h2]at a;exact absurd a Do
 | h+1,f,g,(n,ks),⟨nd,h1,h2,_,h4⟩,d,b=>by
  rw[eff,La h1]at b;rcases xE.1 b with b|b
  ·obtain⟨p,f,g⟩:=kV.1 b;obtain⟨c,k,rfl⟩:=xL.1 f;obtain⟨l,m,o⟩:=h4.each c k;exact UH i h l m c o d g
  ·rcases i _ nd h1 with⟨a,_⟩|⟨_,_,_,_,_,_,_,_,a⟩
   ·rw[h2]at a;exact absurd a Do
   ·exact a d b
theorem Nn{α β:Type}(b:α->List β)(c:α->hF)(d:Nat):∀(a:List α),(∀x∈a,(b x).length<=d*(c x).length)->((a.map b).flatten).length<=d*((a.map c).flatten).length
 | [],_=>D_
 | x::r,h=>by
  have g:=Nn b c d r fun a f=>h a (xZ _ f)
  have a:=h x (xU ..);simp only[yD,yO,xC,qG];omega
theorem MM{P:List (Option Nd)}(f:BB P):∀(h:Nat) (c d:Key) (b:PT h),Dz P h c d b->(eff P h b).length<=16*(nums h b).length
 | 0,c,d,b,⟨nd,h1,h2,_⟩=>by
  rw[eff,La h1,xP];rcases f _ nd h1 with⟨_,_,_,_,a,_⟩|⟨a,_⟩
  ·show(its nd).length<=16*1;omega
  ·rw[h2]at a;exact absurd a Do
 | h+1,c,d,(n,ks),⟨nd,h1,h2,_,h4⟩=>by
  rw[eff,La h1,xC];have j:=Nn (eff P h) (nums h) 16 ks fun b i=>by obtain⟨c,d,g⟩:=h4.each b i;exact MM f h c d b g
  have b:(chs nd).length<=8:=by
   rcases f _ nd h1 with⟨a,_⟩|⟨_,_,_,_,_,_,_,a,_⟩
   ·rw[h2]at a;exact absurd a Do
   ·exact a
  show _<=16*(n::(ks.map (nums h)).flatten).length;rw[xH];omega
theorem Xl(d:Key):∀(b:List Ch) (f:Option Key) (x:Key),(∀c∈b,Kv c)->(∀g,f=some g->g.length<=16/\Pg.Dm d.length=true)->Av b d f=some x->x.length<=16/\Pg.Dm d.length=true
 | [],f,x,_,hs,h=>hs x h
 | c::b,f,x,hc,hs,h=>by
  rw[Ej]at h;refine Xl d b _ x (fun c b=>hc c (xZ _ b)) (fun g b=> ?_) h;unfold one at b;by_cases e:c.2.1=d
  ·rw[xD e]at b;have f:=hc c (xU ..);unfold Kv Pg.Bh Pg.Bv at f;simp only[yK,yL]at f;rw[<-e];refine⟨?_,f.1.1⟩;unfold Es at b;by_cases i:c.1=2
   ·rw[xD i]at b;cases b
   ·rw[xB i]at b;by_cases j:c.1=3
    ·rw[xD j]at b;rw[<-xM b];exact DG _
    ·rw[xB j]at b;rw[<-xM b];exact f.1.2
  ·rw[xB e]at b;exact hs g b
theorem JQ{P:List (Option Nd)}(d:BB P):∀(h:Nat) (b c:Key) (a:PT h),Dz P h b c a->h<(nums h a).length
 | 0,_,_,_,_=>Nat.zero_lt_one
 | h+1,b,c,(n,ks),⟨nd,h1,h2,_,h4⟩=>by
  have f:=h4.len;have k:=Wp (d _ nd h1) b c;have l:1<=(kds nd).length:=by
   rcases d _ nd h1 with⟨b,_⟩|⟨_,_,b,_⟩
   ·rw[h2]at b;exact absurd b Do
   ·exact b
  obtain⟨a,c,rfl⟩:=vF (l:=ks) (fun e=>by rw[e,yU]at f;omega);obtain⟨g,i,j⟩:=h4.each a (xU ..);have:=JQ d h g i a j;show h+1<(n::((a::c).map (nums h)).flatten).length;rw[yD,yO,xH,xC];omega
end Ld
open Go.RowKit
variable {a c:Nat}
theorem QG{P:List (Option Nd)}(f:BB P){b:PT a}(h:Dz P a [] [] b)(j:Tr.wt a (Ld.tr P a [] [] b)<=2*c):ML (fun d=>Tr.Av (eff P a b) d none) c a (Ld.tr P a [] [] b):=by obtain⟨g,i⟩:=WE f a [] [] b h rfl (.inl rfl);exact⟨g,i,fun d=>TF f d a [] [] b h ⟨dW d,.inl rfl⟩ (.inl rfl),j⟩
theorem AM{u:hD}{b:PT a}(h:Dz (Au u) a [] [] b){y:World}{j:Nat}{f:hF}(g:TB y c j)(i:Rep a y j (Ld.tr (Au u) a [] [] b) f)(k:f.Nodup)(l:c∉f){t:Nat}(m:Tr.wt a (Ld.tr (Au u) a [] [] b)<=2*t)(o:(Ld.nums a b).length<=2000000):Eh (fun d=>Tr.Av (eff (Au u) a b) d none) t c f y:=
 ⟨a,j,_,by have d:=JQ (Dd u) a [] [] b h;have n:=Yj Kr (WE (Dd u) a [] [] b h rfl (.inl rfl)).1;omega,g,i,k,l,QG (Dd u) h m⟩
namespace Ld
open Go.Proofs.YtolgpnaoaodepaaGreat.Tr
variable {α:Type}{g:Nd}{P:List (Option Nd)}{b d:Key}{a c j h:Nat}{f n:hF}{i p:Int}{q r:List It}
theorem FF.nums{l:Key->Key->α->Prop}{m:α->Nat}:∀{a:List Tk} {b:List α},FF l m a b->b.map m=a.map (·.1)
 | [],[],_=>rfl
 | _::_,_::_,h=>by rw[yD,yD,h.1.1,h.2.nums]
 | [],_::_,h=>h.elim
 | _::_,[],h=>h.elim
theorem QH:∀(b:hF) (a:List (Key×Key)),b.length<=a.length->(List.zipWith (fun c a=>(c,a)) b a).map (·.1)=b
 | [],_,_=>D_
 | _::_,[],h=>by simp at h
 | x::b,y::a,h=>by simp[QH b a (by simpa using h)]
theorem JR(h:okN g)(b c:Key):(Fv g b c).map (·.1)=kds g:=by
 refine QH _ _ ?_;rw[DR];rcases h with⟨_,a,_⟩|⟨_,_,_,_,d,_⟩
 ·rw[a];simp
 ·omega
theorem MN{P:List (Option Nd)}{h:Nat}(c:∀d f g i (a b:PT h),Dz P h d f a->Dz P h g i b->num h a=num h b->a=b):∀{d f:List Tk} {a b:List (PT h)},FF (Dz P h) (num h) d a->FF (Dz P h) (num h) f b->a.map (num h)=b.map (num h)->a=b
 | _,_,[],[],_,_,_=>rfl
 | _,_,[],_::_,_,_,e=>by simp at e
 | _,_,_::_,[],_,_,e=>by simp at e
 | [],_,_::_,_::_,h1,_,_=>h1.elim
 | _::_,[],_::_,_::_,_,h2,_=>h2.elim
 | _::_,_::_,k::a,k'::b,h1,h2,e=>by rw[yD,yD,jA]at e;rw[c _ _ _ _ k k' h1.1.2 h2.1.2 e.1,MN c h1.2 h2.2 e.2]
theorem Ln{P:List (Option Nd)}(s:BB P):∀(h b:Nat) (g i j k:Key) (a:PT h) (d:PT b),Dz P h g i a->Dz P b j k d->num h a=num b d->h=b/\HEq a d
 | 0,0,_,_,_,_,_,_,_,_,e=>⟨rfl,heq_of_eq e⟩
 | 0,b+1,_,_,_,_,a,(n,ks),⟨nd,h1,h2,_⟩,⟨nd',h1',h2',_⟩,e=>by
  have e:num 0 a=n:=e;rw[e,h1']at h1;obtain rfl:nd'=nd:=by simpa using h1
  rw[h2]at h2';exact absurd h2' Do
 | h+1,0,_,_,_,_,(n,ks),a,⟨nd,h1,h2,_⟩,⟨nd',h1',h2',_⟩,e=>by
  have e:n=num 0 a:=e;rw[e,h1']at h1;obtain rfl:nd'=nd:=by simpa using h1
  rw[h2]at h2';exact absurd h2' Do
 | h+1,b+1,g,i,j,k,(n,ks),(n',ks'),⟨nd,h1,h2,_,h4⟩,⟨nd',h1',_,_,h4'⟩,e=>by
  have e:n=n':=e;subst e;rw[h1']at h1;obtain rfl:nd'=nd:=by simpa using h1
  have l:=s _ nd' h1';have m:ks.map (num h)=kds nd':=by rw[h4.nums,JR l]
  have o:ks'.map (num b)=kds nd':=by rw[h4'.nums,JR l]
  have f:1<=(kds nd').length:=by
   rcases l with⟨c,_⟩|⟨_,_,c,_⟩
   ·rw[h2]at c;exact absurd c Do
   ·exact c
  have t:ks≠[]:=fun c=>by rw[c]at m;rw[<-m]at f;simp at f
  have u:ks'≠[]:=fun c=>by rw[c]at o;rw[<-o]at f;simp at f
  obtain⟨q,J,rfl⟩:=vF t;obtain⟨r,L,rfl⟩:=vF u;obtain⟨z,B,C⟩:=h4.each q (xU ..);obtain⟨D,F,G⟩:=h4'.each r (xU ..);have p:=m.trans o.symm;have y:num h q=num b r:=by rw[yD,yD,jA]at p;exact p.1
  obtain⟨rfl,-⟩:=Ln s h b z B D F q r C G y;refine⟨rfl,heq_of_eq ?_⟩;rw[MN (fun g i j k a d b H I=>aN (Ln s h h g i j k a d b H I).2) h4 h4' p]
theorem Yx{P:List (Option Nd)}:∀(h:Nat) (b c:Key) (a:PT h),Dz P h b c a->∀d∈nums h a,∃c,P[d]?=some (some c)
 | 0,_,_,a,⟨c,h1,_⟩,d,b=>by rw[yR.1 b];exact⟨c,h1⟩
 | h+1,_,_,(m,ks),⟨c,h1,_,_,h4⟩,d,b=>by
  rcases xG.1 b with e|b
  ·rw[e];exact⟨c,h1⟩
  ·obtain⟨l,c,f⟩:=kV.1 b;obtain⟨a,g,rfl⟩:=xL.1 c;obtain⟨i,j,k⟩:=h4.each a g;exact Yx h i j a k d f
theorem Xj.all(h:Xj P):∀b,b<P.length->∃c,P[b]?=some (some c):=by obtain⟨c,d,f,-,-,g⟩:=h;exact fun b i=>Yx c [] [] d f b (g b i)
def Sj(far:Int)(d:Nat):Prop:=far<0\/far=(d:Int)
def FP(P:List (Option Nd))(rd:hF)(far:Int)(deep n:Nat)(lo hi:Key):Prop:=∀(h:Nat) (f:PT h),Dz P h lo hi f->num h f=n->(rd++nums h f).Nodup->¬Sj far (deep+h)
structure KdI(P:List (Option Nd))(nd:Nd)(lo hi:Key)(n:Nat)(rd:hF)(far:Int)(deep:Nat)(l:List It)(i h:Nat)(fs:List (PT h))(rd':hF)(far':Int)(l':List It):Prop where
 ff:FF (Dz P h) (num h) ((Fv nd lo hi).take i) fs
 rd:rd'=rd++[n]++Co h fs
 far:(i=0/\far'=far)\/(0<i/\far'=((deep+1+h:Nat):Int)/\Sj far (deep+1+h))
 ls:l'=Cr l ((fs.map (eff P h)).flatten)
theorem KdI.zero(P:List (Option Nd))(f:Nd)(g i:Key)(a:Nat)(b:hF)(c:Int)(j:Nat)(d:List It):KdI P f g i a b c j d 0 0 [] (b++[a]) c d:=
 ⟨trivial,by simp[Co],.inl ⟨rfl,rfl⟩,rfl⟩
theorem Sk(a:List It)(b c:List Ch):Cr a (b++c)=Cr (Cr a b) c:=by simp[Cr]
theorem FF.one{l:Key->Key->α->Prop}{m:α->Nat}{z:Tk}{A:α}(a:m A=z.1)(b:l z.2.1 z.2.2 A):FF l m [z] [A]:=⟨⟨a,b⟩,trivial⟩
theorem KdI.step{k:List (PT h)}(l:KdI P g b d a f i c q j h k n p r)(m:j<(Fv g b d).length){t:Nat}{f2:PT t}(s:Dz P t ((Fv g b d)[j]'m).2.1 ((Fv g b d)[j]'m).2.2 f2)(u:num t f2=((Fv g b d)[j]'m).1)(y:Sj p (c+1+t)):
  ∃(o:Nat) (z:List (PT o)),KdI P g b d a f i c q (j+1) o z (n++nums t f2) ((c+1+t:Nat):Int) (Cr r (eff P t f2)):=by
 have o:(Fv g b d).take (j+1)=(Fv g b d).take j++[(Fv g b d)[j]'m]:=by rw[zN,xW m];rfl
 rcases l.far with⟨rfl,rfl⟩|⟨_,e,B⟩
 ·have z:k=[]:=zT (by have:=l.ff.len;simpa using this.symm);subst z;refine⟨t,[f2],?_,?_,.inr ⟨Nat.succ_pos _,rfl,y⟩,?_⟩
  ·rw[o];exact FF.one u s
  ·rw[l.rd];simp[Co]
  ·rw[l.ls];simp[Cr]
 ·have A:t=h:=by
   unfold Sj at y;omega
  subst A;refine⟨t,k++[f2],?_,?_,.inr ⟨Nat.succ_pos _,rfl,B⟩,?_⟩
  ·rw[o];exact FF.append (FF.one u s) l.ff
  ·rw[l.rd,Km];simp[Co]
  ·rw[l.ls,<-Sk];simp
theorem KdI.fail(S:BB P){k:List (PT h)}(m:KdI P g b d a f i c q j h k n p r)(T:P[a]?=some (some g))(b3:g.1=2)(z:j<(Fv g b d).length)(b4:FP P n p (c+1) ((Fv g b d)[j]'z).1 ((Fv g b d)[j]'z).2.1 ((Fv g b d)[j]'z).2.2):FP P f i c a b d:=by
 intro l G O C R b2
 cases l with
 | zero=>
  obtain⟨D,s,A,_⟩:=O;rw[C,T]at s;obtain rfl:g=D:=by simpa using s
  rw[b3]at A;exact absurd A Do
 | succ l=>
  obtain⟨B,b5⟩:=G;obtain⟨D,s,A,L,a1⟩:=O;have C:B=a:=C;subst C;rw[T]at s;obtain rfl:g=D:=by simpa using s
  have U:Fv g b d=(Fv g b d).take j++((Fv g b d)[j]'z::(Fv g b d).drop (j+1)):=by rw[qW,zK]
  have H:=a1;rw[U]at H;obtain⟨t,M,rfl,y,N⟩:=FF.split H;obtain⟨o,u,rfl⟩:∃o u,M=o::u:=by
   cases M with
   | nil=>exact N.elim
   | cons o u=>exact⟨o,u,rfl⟩
  obtain⟨⟨a2,a3⟩,-⟩:=N;have V:l=h\/j=0->n=f++[B]++Co l t:=by
   rintro(rfl|rfl)
   ·rw[m.rd];have e:k=t:=MN (fun b d F z G I s A L=>aN (Ln S l l b d F z G I s A L).2) m.ff y (by rw[m.ff.nums,y.nums]);rw[e]
   ·have W:k=[]:=zT (by have:=m.ff.len;simpa using this.symm);have X:t=[]:=zT (by have:=y.len;simpa using this.symm);rw[m.rd,W,X];simp[Co]
  have I:l=h\/j=0:=by
   rcases m.far with⟨e,_⟩|⟨h0,_⟩
   ·exact .inr e
   ·left;have Y:0<k.length:=(by have:=m.ff.len;rw[xR]at this;omega);have Z:0<t.length:=(by have:=y.len;rw[xR]at this;omega);obtain⟨x,a4,rfl⟩:=vF (gM Y);obtain⟨F,a5,rfl⟩:=vF (gM Z);obtain⟨a6,a7,a8⟩:=m.ff.each x (xU ..);obtain⟨a9,b0,b1⟩:=y.each F (xU ..);have J:(x::a4).map (num h)=(F::a5).map (num l):=m.ff.nums.trans y.nums.symm;rw[yD,yD,jA]at J;exact(Ln S h l a6 a7 a9 b0 x F a8 b1 J.1).1.symm
  have a0:=V I;refine b4 l o a3 a2 ?_ ?_
  ·rw[a0];have e:f++nums (l+1) (B,t++o::u)=(f++[B]++Co l t++nums l o)++Co l u:=by
    show f++(B::Co l (t++o::u))=_;rw[Km,Gm];simp
   rw[e]at R;exact(xO.1 R).1
  ·rcases m.far with⟨_,e⟩|⟨h0,e,_⟩
   ·rw[e];unfold Sj at b2⊢;omega
   ·rcases I with rfl|rfl
    ·exact .inr e
    ·omega
theorem KdI.fin{k:List (PT h)}(l:KdI P g b d a f i c q j h k n p r)(o:P[a]?=some (some g))(s:g.1=2)(t:okP g b d)(u:j=(Fv g b d).length)(h0:0<j):∃m:PT (h+1),Dz P (h+1) b d m/\num (h+1) m=a/\n=f++nums (h+1) m/\p=((c+(h+1):Nat):Int)/\Sj i (c+(h+1))/\Cr r (chs g)=Cr q (eff P (h+1) m):=by
 have m:=l.ff;rw[u,zQ]at m;refine⟨brP a k,⟨g,o,s,t,m⟩,rfl,?_,?_,?_,?_⟩
 ·rw[l.rd];show _=f++(a::Co h k);simp
 ·rcases l.far with⟨e,_⟩|⟨_,e,_⟩
  ·omega
  ·rw[e];omega
 ·rcases l.far with⟨e,_⟩|⟨_,_,e⟩
  ·omega
  ·rw[show c+(h+1)=c+1+h by omega];exact e
 ·rw[l.ls,<-Sk];show _=Cr q ((k.map (eff P h)).flatten++chs (pg P a));rw[La o]
theorem Va(h:∀g,P[c]?=some (some g)->okP g b d->c∈f):FP P f i a c b d:=by
 intro m n o l r _;have p:∃g,P[c]?=some (some g)/\okP g b d:=by
  cases m with
  | zero=>
   obtain⟨g,j,_,k⟩:=o;exact⟨g,by rw[<-l];exact j,k⟩
  | succ m=>
   obtain⟨s,t⟩:=n;obtain⟨g,j,_,k,_⟩:=o;exact⟨g,by rw[<-l];exact j,k⟩
 obtain⟨g,j,q⟩:=p;exact(xO.1 r).2.2 c (h g j q) c (by rw[<-l];exact Aea n) rfl
theorem UI(s:P[c]?=some (some g))(t:g.1=1)(u:¬Sj i a):FP P f i a c b d:=by
 intro m p q j _ r
 cases m with
 | zero=>exact u r
 | succ m=>
  obtain⟨n,y⟩:=p;obtain⟨o,k,l,_⟩:=q;have j:n=c:=j;rw[j,s]at k;obtain rfl:g=o:=by simpa using k
  rw[t]at l;exact absurd l Do
def Qo{h:Nat}:Ai (h+1)->List (Key×Ai h)
 | (ps,_)=>ps
def chgs{h:Nat}:Ai (h+1)->List Ch
 | (_,cs)=>cs
def nk:(h:Nat)->Ai h->Nat
 | 0,_=>0
 | _+1,t=>(Qo t).length
def pgN:(h:Nat)->Ai h->Nat->Nd
 | 0,l,_=>(1,l,[],[],[])
 | _+1,t,first=>(2,[],List.range' first (Qo t).length,((Qo t).map (·.1)).tail,chgs t)
def lvN(h:Nat):List (Ai h)->Nat->List Nd
 | [],_=>[]
 | t::r,first=>pgN h t first::lvN h r (first+nk h t)
def Qy(h:Nat)(ts:List (Ai (h+1))):List (Ai h):=(ts.map fun t=>(Qo t).map (·.2)).flatten
def Sl:(h:Nat)->List (Ai h)->Nat->List Nd
 | 0,ts,a=>lvN 0 ts (a+ts.length)
 | h+1,ts,a=>lvN (h+1) ts (a+ts.length)++Sl h (Qy h ts) (a+ts.length)
theorem Xm(h:Nat):∀(a:List (Ai h)) (b:Nat),(lvN h a b).length=a.length
 | [],_=>rfl
 | _::r,b=>by rw[lvN,xH,Xm h r,xH]
def IF(P:List (Option Nd))(h:Nat):Nat->List (Key×Key×Ai h)->List (PT h)->Prop
 | _,[],[]=>True
 | a,s::S,f::fs=>(num h f=a/\Dz P h s.1 s.2.1 f/\tr P h s.1 s.2.1 f=s.2.2)/\IF P h (a+1) S fs
 | _,_,_=>False
theorem IF.split{P:List (Option Nd)}{h:Nat}{B:List (Key×Key×Ai h)}:∀{S:List (Key×Key×Ai h)} {a:Nat} {b:List (PT h)},IF P h a (S++B) b->∃x c,b=x++c/\IF P h a S x/\IF P h (a+S.length) B c
 | [],a,b,hf=>⟨[],b,rfl,trivial,hf⟩
 | s::S,a,f::b,hf=>by obtain⟨x,c,rfl,b,d⟩:=IF.split (S:=S) hf.2;refine⟨f::x,c,rfl,⟨hf.1,b⟩,?_⟩;rw[xH,show a+(S.length+1)=a+1+S.length by omega];exact d
 | _::_,_,[],hf=>hf.elim
def kidsB(h:Nat)(hi:Key):List (Key×Ai h)->List (Key×Key×Ai h)
 | []=>[]
 | [(f,t)]=>[(f,hi,t)]
 | (f,t)::(f2,t2)::r=>(f,f2,t)::kidsB h hi ((f2,t2)::r)
theorem Sm(h:Nat)(a:Key):∀b:List (Key×Ai h),(kidsB h a b).map (·.2.2)=b.map (·.2)
 | []=>rfl
 | [_]=>rfl
 | (f,t)::(f2,t2)::r=>by show t::(kidsB h a ((f2,t2)::r)).map (·.2.2)=t::((f2,t2)::r).map (·.2);rw[Sm h a ((f2,t2)::r)]
theorem ZK(h:Nat)(b:Key)(a:List (Key×Ai h)):(kidsB h b a).length=a.length:=by have:=yW List.length (Sm h b a);simpa using this
def okS(h:Nat)(s:Key×Key×Ai h):Prop:=WF h s.1 (hiO s.2.1) s.2.2/\Top h s.2.2/\Cu s.1 s.2.1=true
theorem Vb(h:room b (hiO d)):Cu b d=true:=by
 unfold Cu;by_cases e:d=[]
 ·simp[e]
 ·have:=(h d (Ry e)).1;simp[this]
theorem QI{h:Nat}{b:Key}:∀{a:List (Key×Ai h)} {i:Key},Bu (fun f g d=>WF h f g d/\Top h d) (some i) (hiO b) a->∀c∈kidsB h b a,okS h c
 | [],_,_,c,a=>by cases a
 | [(f,d)],i,⟨e,g,h1,h2,h3⟩,c,a=>by have a:c=(f,b,d):=yR.1 a;obtain rfl:g=hiO b:=h3;rw[a];exact⟨h2.1,h2.2,Vb h1⟩
 | (f,d)::(f2,t2)::r,i,⟨e,g,h1,h2,h3⟩,c,a=>by
  obtain rfl:g=some f2:=h3.1;have a:c∈(f,f2,d)::kidsB h b ((f2,t2)::r):=a;rcases xG.1 a with rfl|a
  ·have f:=h1 f2 rfl;have d:=LN f.2;refine⟨by rw[Ry d];exact h2.1,h2.2,Vb (by rw[Ry d];exact h1)⟩
  ·exact QI h3 c a
theorem Xn{h:Nat}{s:Key->Option Key->Ai h->Prop}:∀{a:List (Key×Ai h)} {b:Key} {c:Option Key},Bu s (some b) c a->∀d∈a,inR b c d.1
 | [],_,_,_,d,a=>by cases a
 | [(f,t)],b,c,⟨e,m,h1,h2,h3⟩,d,a=>by obtain rfl:b=f:=xM e;rw[yR.1 a];exact⟨lt_ir _,fun g i=>(h1 g (by rw[show m=c from h3];exact i)).1⟩
 | (f,t)::(f2,t2)::r,b,c,⟨e,m,h1,h2,h3⟩,d,a=>by
  obtain rfl:b=f:=xM e;obtain rfl:m=some f2:=h3.1;have b:=(h1 f2 rfl).1;rcases xG.1 a with rfl|a
  ·exact⟨lt_ir _,fun g i=>Ei b ((Xn h3 (f2,t2) (xU ..)).2 g i)⟩
  ·have:=Xn h3 d a;exact⟨fun c=>this.1 (Ei c b),this.2⟩
theorem JS{h:Nat}{s:Key->Option Key->Ai h->Prop}:∀{a:List (Key×Ai h)} {c:Key} {d:Option Key},Bu s (some c) d a->(∀b∈(a.map (·.1)).tail,okK b)/\(a.map (·.1)).Pairwise (·< ·)
 | [],_,_,_=>⟨(fun b a=>by cases a),List.Pairwise.nil⟩
 | [(f,t)],_,_,_=>⟨(fun b a=>by cases a),bL _ _⟩
 | (f,t)::(f2,t2)::r,c,d,⟨e,m,h1,h2,h3⟩=>by
  obtain rfl:m=some f2:=h3.1;obtain⟨d,g⟩:=JS h3;have c:=h1 f2 rfl;refine⟨fun b a=> ?_,zJ.2 ⟨fun b a=> ?_,g⟩⟩
  ·have a:b∈f2::r.map (·.1):=a;rcases xG.1 a with rfl|a
   ·exact c.2
   ·exact d b a
  ·obtain⟨b,i,rfl⟩:=xL.1 a;exact Kz c.1 (Xn h3 b i).1
theorem Ach{P:List (Option Nd)}{h:Nat}{s:Key->Option Key->Ai h->Prop}:∀(c:List (Key×Ai h)) (a b:Key) (first:Nat) (j:List (PT h)),Bu s (some a) (hiO b) c->c≠[]->IF P h first (kidsB h b c) j->FF (Dz P h) (num h) (List.zipWith (fun d i=>(d,i)) (List.range' first c.length) (Ma a b (c.map (·.1)).tail)) j/\prt (tr P h) (List.zipWith (fun d i=>(d,i)) (List.range' first c.length) (Ma a b (c.map (·.1)).tail)) j=c
 | [],_,_,_,_,_,hn,_=>absurd rfl hn
 | [(f,t)],a,b,first,j,⟨e,m,h1,h2,h3⟩,_,c=>by
  match j,c with
  | [g],c=>
   obtain rfl:a=f:=xM e;obtain rfl:m=hiO b:=h3;obtain⟨⟨l,n,k⟩,-⟩:=c;refine⟨⟨⟨l,n⟩,trivial⟩,?_⟩;show(if Cu a b=true then(a,tr P h a b g)::[]else[])=[(a,t)];rw[xD (Vb h1)];have k:tr P h a b g=t:=k;rw[k]
  | _::_::_,c=>exact c.2.elim
 | (f,t)::(f2,t2)::r,a,b,first,j,⟨e,m,h1,h2,h3⟩,_,c=>by
  match j,c with
  | g::gs,c=>
   obtain rfl:a=f:=xM e;obtain rfl:m=some f2:=h3.1;have c:(num h g=first/\Dz P h a f2 g/\tr P h a f2 g=t)/\IF P h (first+1) (kidsB h b ((f2,t2)::r)) gs:=c;obtain⟨⟨l,n,k⟩,c⟩:=c;obtain⟨o,p⟩:=Ach ((f2,t2)::r) f2 b (first+1) gs h3 D_ c;have j:Cu a f2=true:=(by unfold Cu;have:=(h1 f2 rfl).1;simp[this]);refine⟨⟨⟨l,n⟩,o⟩,?_⟩;show(if Cu a f2=true then(a,tr P h a f2 g)::prt (tr P h) (List.zipWith (fun d i=>(d,i)) (List.range' (first+1) ((f2,t2)::r).length) (Ma f2 b (((f2,t2)::r).map (·.1)).tail)) gs else prt (tr P h) (List.zipWith (fun d i=>(d,i)) (List.range' (first+1) ((f2,t2)::r).length) (Ma f2 b (((f2,t2)::r).map (·.1)).tail)) gs)=(a,t)::(f2,t2)::r;rw[xD j,p,k]
theorem QJ{C:Ai (h+1)}(y:okS (h+1) (b,d,C)){first:Nat}{k:List (PT h)}(n:P[a]?=some (some (pgN (h+1) C first)))(z:IF P h first (kidsB h d (Qo C)) k):Dz P (h+1) b d (brP a k)/\tr P (h+1) b d (brP a k)=C:=by
 obtain⟨f,j⟩:=C;obtain⟨⟨c,p⟩,-,g⟩:=y;have o:f≠[]:=fun e=>by
  rw[e]at c;have c:some b=hiO d:=c;unfold hiO at c;unfold Cu at g;by_cases m:d=[]
  ·rw[xD m]at c;cases c
  ·rw[xB m]at c;have:=xM c;simp only[kT,yL,m,false_or]at g;rw[this]at g;exact lt_ir _ g
 obtain⟨q,r⟩:=Ach f b d first k c o z;refine⟨⟨_,n,rfl,⟨(fun x i=>by cases i),(fun l i=>Rz.2 (p l i).1),fun s i=> ?_⟩,q⟩,?_⟩
 ·have i:s∈(f.map (·.1)).tail:=i;obtain⟨s,t,rfl⟩:=xL.1 (List.mem_of_mem_tail i);exact Rz.2 (Xn c s t)
 ·show brT (prt (tr P h) (Fv (pg P a) b d) k) (chs (pg P a))=(f,j);rw[La n];show(prt (tr P h) (List.zipWith (fun l u=>(l,u)) (List.range' first f.length) (Ma b d (f.map (·.1)).tail)) k,j)=(f,j);rw[r]
theorem Aci{P:List (Option Nd)}{h:Nat}:∀(b:List (Key×Key×Ai (h+1))) (a first:Nat) (g:List (PT h)),(∀c∈b,okS (h+1) c)->IF P h first ((b.map fun c=>kidsB h c.2.1 (Qo c.2.2)).flatten) g->(∀(d:Nat) (j:Nd),(lvN (h+1) (b.map (·.2.2)) first)[d]?=some j->P[a+d]?=some (some j))->∃i:List (PT (h+1)),IF P (h+1) a b i/\(Co (h+1) i).Perm (List.range' a b.length++Co h g)
 | [],a,first,g,_,hf,_=>by
  cases g with
  | nil=>exact⟨[],trivial,List.Perm.nil⟩
  | cons f g=>exact hf.elim
 | (lo,hi,t)::b,a,first,g,hs,hf,hp=>by
  obtain⟨x,g,rfl,m,l⟩:=IF.split (S:=kidsB h hi (Qo t)) hf;rw[ZK]at l;obtain⟨i,n,o⟩:=Aci b (a+1) (first+(Qo t).length) g (fun c k=>hs c (xZ _ k)) l (fun d j k=>by have:=hp (d+1) j k;rw[show a+(d+1)=a+1+d by omega]at this;exact this);obtain⟨c,d⟩:=QJ (hs _ (xU ..)) (hp 0 _ rfl) m;refine⟨brP a x::i,⟨⟨rfl,c,d⟩,n⟩,?_⟩;rw[Gm,Km,xH];show(a::(Co h x++Co (h+1) i)).Perm ((a::List.range' (a+1) b.length)++(Co h x++Co h g));refine List.Perm.cons _ ?_;refine(wW (Co h x) o).trans ?_;show(Co h x++(List.range' (a+1) b.length++Co h g)).Perm (List.range' (a+1) b.length++(Co h x++Co h g));rw[<-xT,<-xT];exact dJ _ qD
theorem FQ{P:List (Option Nd)}:∀(c:List (Key×Key×Ai 0)) (a i:Nat),(∀j∈c,okS 0 j)->(∀(b:Nat) (f:Nd),(lvN 0 (c.map (·.2.2)) i)[b]?=some f->P[a+b]?=some (some f))->∃d:List (PT 0),IF P 0 a c d/\Co 0 d=List.range' a c.length
 | [],a,i,_,_=>⟨[],trivial,rfl⟩
 | (lo,hi,t)::c,a,i,hs,g=>by
  obtain⟨d,k,l⟩:=FQ c (a+1) i (fun j c=>hs j (xZ _ c)) (fun b f c=>by have:=g (b+1) f c;rw[show a+(b+1)=a+1+b by omega]at this;exact this);have b:P[a]?=some (some ((1,t,[],[],[]):Nd)):=g 0 _ rfl;obtain⟨c,-,-⟩:=hs _ (xU ..);refine⟨lfP a::d,⟨⟨rfl,⟨_,b,rfl,⟨(fun x f=>Rz.2 (c.2 x f).1),(fun f f=>by cases f),(fun f g=>by cases g)⟩⟩,?_⟩,k⟩,?_⟩
  ·show its (pg P a)=t;rw[La b];rfl
  ·rw[Gm,l];rfl
theorem FR(b:List (Key×Key×Ai (h+1))):((b.map fun a=>kidsB h a.2.1 (Qo a.2.2)).flatten).map (·.2.2)=Qy h (b.map (·.2.2)):=by
 unfold Qy;rw[List.map_flatten,zW,zW];congr 1;refine dT fun a _=> ?_
 exact Sm h a.2.1 (Qo a.2.2)
theorem QK{P:List (Option Nd)}:∀(h:Nat) (a:List (Key×Key×Ai h)) (b:Nat),(∀d∈a,okS h d)->(∀(f:Nat) (g:Nd),(Sl h (a.map (·.2.2)) b)[f]?=some g->P[b+f]?=some (some g))->∃i:List (PT h),IF P h b a i/\(Co h i).Perm (List.range' b (Sl h (a.map (·.2.2)) b).length)
 | 0,a,b,hs,hp=>by obtain⟨k,l,m⟩:=FQ a b _ hs hp;refine⟨k,l,?_⟩;rw[Sl,Xm,xP,m]
 | h+1,a,b,hs,hp=>by
  have j:(lvN (h+1) (a.map (·.2.2)) (b+(a.map (·.2.2)).length)).length=a.length:=by rw[Xm,xP]
  rw[Sl]at hp;obtain⟨i,l,m⟩:=QK h ((a.map fun d=>kidsB h d.2.1 (Qo d.2.2)).flatten) (b+a.length) (fun d c=>by
   obtain⟨t,n,o⟩:=kV.1 c;obtain⟨p,q,rfl⟩:=xL.1 n;obtain⟨u,y,r⟩:=p;obtain⟨z,A⟩:=r;exact QI (hs _ q).1.1 d o) (fun f g c=>by
   rw[FR]at c;have:=hp (a.length+f) g (by rw[kC (by rw[j];omega),j,gR,xP];exact c);rw[<-aC]at this;exact this)
  obtain⟨k,d,s⟩:=Aci a b (b+a.length) i hs l (fun f g c=>by
   refine hp f g ?_;rw[xP,vQ]
   ·exact c
   ·have:=(jM.1 c).1;rw[Xm,xP]at this;rw[Xm,xP];exact this)
  refine⟨k,d,s.trans ?_⟩;rw[Sl,xC,j,FR]at*;rw[xP];refine(wW _ m).trans ?_;rw[List.range'_append_1]
theorem QL{D:Ai h}(n:WF h [] none D)(o:Top h D)(g:P=(Sl h [D] 0).map some):∃a:PT h,Dz P h [] [] a/\num h a=0/\(nums h a).Nodup/\(∀f,f<P.length->f∈nums h a)/\tr P h [] [] a=D:=by
 obtain⟨j,b,c⟩:=QK (P:=P) h [([],[],D)] 0 (fun d d=>by rw[yR.1 d];exact⟨n,o,rfl⟩) (fun i k d=>by rw[zR,g,zU];have d:(Sl h [D] 0)[i]?=some k:=d;rw[d];rfl)
 match j,b with
 | [a],b=>
  obtain⟨⟨k,l,m⟩,-⟩:=b;have e:Co h [a]=nums h a:=by unfold Co;simp
  rw[e]at c;have i:(Sl h ([(([]:Key),([]:Key),D)].map (·.2.2)) 0).length=P.length:=by rw[g,xP];rfl
  rw[i]at c;exact⟨a,l,k,c.nodup_iff.2 List.nodup_range',fun f a=>c.mem_iff.2 (List.mem_range'_1.2 ⟨Y_,O_⟩),m⟩
 | _::_::_,b=>exact b.2.elim
end Ld
theorem Jz(c a b:hJ)(w:World):
  Calls Tryz.prog 259 #[B_ b,B_ c,B_ a] w fun d f=>d=R_ (.bool (Cw c.data.toList a.data.toList b.data.toList))/\f=w:=by
 have j:Op.bytesLess b.toList c.toList=decide (b.data.toList<c.data.toList):=by rw[Af,Af,Cj]
 have k:a.toList.isEmpty=decide (a.data.toList=[]):=by rw[Af];cases a.data.toList<;>simp
 have l:Op.bytesLess b.toList a.toList=decide (b.data.toList<a.data.toList):=by rw[Af,Af,Cj]
 have d:Hid (Cw c.data.toList a.data.toList b.data.toList=(!decide (b.data.toList<c.data.toList)&&(decide (a.data.toList=[]) || decide (b.data.toList<a.data.toList)))):=rfl;generalize decide (b.data.toList<c.data.toList)=f at*;generalize decide (a.data.toList=[])=g at*;generalize decide (b.data.toList<a.data.toList)=i at*
 cases f<;>cases g<;>cases i
 all_goals
  go_in;go_wp2_with fail;go_ret;exact⟨by rw[d.o];rfl,rfl⟩
theorem MO(b c:hJ)(G:Int)(a5 H a6 a7:Value)(d:gY)(f:hD)(g:gZ)(w:World)(S:Ap 0 w a5 d)(T:Bc 0 w a6 f)(U:Bb 0 w a7 g)(c2:d.length<=1100)(c3:f.length<=1000)(c4:g.length<=1000):
  Calls Tryz.prog 219 #[.agg #[J_ G,a5,H,a6,a7],B_ b,B_ c] w fun t b3=>t=R_ (.bool (Wy b.data.toList c.data.toList d g f))/\Below w.heap.size w b3:=by
 obtain⟨J,L,rfl⟩:=Ad S;obtain⟨M,N,rfl⟩:=Ad T;obtain⟨O,R,rfl⟩:=Ad U;have u:Below w.heap.size w (w.alloc (C_ #[J_ G,L_ J d.length L,H,L_ M f.length N,L_ O g.length R] 79)):=(xA _ w).alloc X_ _;have V:=Cz w (J_ G) (L_ J d.length L) H (L_ M f.length N) (L_ O g.length R);have W:Hid (Wy b.data.toList c.data.toList d g f=(d.all (fun x=>Cw b.data.toList c.data.toList x.1.data.toList)&&g.all (fun b4=>Cw b.data.toList c.data.toList b4.2.1.data.toList)&&f.all (fun b5=>Cw b.data.toList c.data.toList b5.data.toList))):=rfl;have I:Hid (((∃x∈d,Cw b.data.toList c.data.toList x.1.data.toList=false)\/(∃x∈g,Cw b.data.toList c.data.toList x.2.1.data.toList=false)\/∃x∈f,Cw b.data.toList c.data.toList x.data.toList=false)->Wy b.data.toList c.data.toList d g f=false):=fun h=>by
  rw[W.o];rcases h with⟨x,m,e⟩|⟨x,m,e⟩|⟨x,m,e⟩
  ·rw[dK.2 ⟨x,m,by rw[e];decide⟩];rfl
  ·rw[dK.2 ⟨x,m,by rw[e];decide⟩,aY];rfl
  ·rw[dK.2 ⟨x,m,by rw[e];decide⟩,aY]
 have a8:Hid (Ap 0 _ _ d):=Ae S u X_;have a9:Hid (Bc 0 _ _ f):=Ae T u X_;have b0:Hid (Bb 0 _ _ g):=Ae U u X_;have F:=Aa u;obtain⟨b7,b8,b9,c0,c1,-⟩:=V.cells;clear S T U u V;go_in;go_wp2_with fail;generalize w.alloc (C_ #[J_ G,L_ J d.length L,H,L_ M f.length N,L_ O g.length R] 79)=b6 at*
 go_loopw [7] (fun o D=>∃a:Nat,o=J_ (a:Nat)/\a<=d.length/\(∀x∈d.take a,Cw b.data.toList c.data.toList x.1.data.toList=true)/\D=b6) (fun o _=>d.length-(intOf o).toNat)
 case atStart=>exact⟨0,rfl,Y_,(fun x m=>by simp at m),rfl⟩
 case round=>
  obtain⟨a,rfl,Z,q,rfl⟩:=hrel;have l:=Aa q;clear q;by_cases k:a<d.length
  ·obtain⟨a0,a1,e,a2,-,a3,a4,-⟩:=a8.o.at a k;simp only[xJ]at e;obtain⟨rfl,-,rfl⟩:=e;have y:Hid (d.take (a+1)=d.take a++[d[a]'k]):=by
    show _=_;rw[zN,xW k];rfl
   have z:=Aa (yA k);have X:(0:Int)<=(a:Int):=O_;have Y:(a:Int)<(d.length:Int):=O_;generalize d[a]'k=x at*
   cases i:Cw b.data.toList c.data.toList x.1.data.toList with
   | false=>
    have A:=Aa i;have j:=Aa (Jz b c x.1 wr);rw[i]at j;clear i;go_wp2_with fail;refine j.o.mono ?_;rintro t C ⟨rfl,rfl⟩;go_wp2_with fail;go_ret;exact⟨by rw[I.o (by exact .inl ⟨_,z.o,A.o⟩)];rfl,F.o⟩
   | true=>
    have B:Hid (∀p∈d.take (a+1),Cw b.data.toList c.data.toList p.1.data.toList=true):=fun p r=>by
     rw[y.o]at r;rcases xE.1 r with n|n
     ·exact l.o p n
     ·rw[yR.1 n];exact i
    have j:=Aa (Jz b c x.1 wr);rw[i]at j;clear i;go_wp2_with fail;refine j.o.mono ?_;rintro t C ⟨rfl,rfl⟩;go_wp2_with fail;exact⟨⟨a+1,W_,O_,B.o,by trivial⟩,by simp[intOf];omega⟩
  ·have s:Hid (∀x∈d,Cw b.data.toList c.data.toList x.1.data.toList=true):=by
    have:=l.o;rw[yY O_]at this;exact this
   clear l;have b1:=Aa s.o;clear s;go_wp2_with fail
   go_loopw [9] (fun o D=>∃a:Nat,o=J_ (a:Nat)/\a<=g.length/\(∀x∈g.take a,Cw b.data.toList c.data.toList x.2.1.data.toList=true)/\D=wr) (fun o _=>g.length-(intOf o).toNat)
   case atStart=>exact⟨0,rfl,Y_,(fun x m=>by simp at m),rfl⟩
   case round=>
    obtain⟨a,rfl,Z,q,rfl⟩:=hrel;have l:=Aa q;clear q;by_cases k:a<g.length
    ·obtain⟨a0,a1,e,a2,-,a3,-,a4,-⟩:=b0.o.at a k;simp only[xJ]at e;obtain⟨rfl,-,rfl⟩:=e;have y:Hid (g.take (a+1)=g.take a++[g[a]'k]):=by
      show _=_;rw[zN,xW k];rfl
     have z:=Aa (yA k);have X:(0:Int)<=(a:Int):=O_;have Y:(a:Int)<(g.length:Int):=O_;generalize g[a]'k=x at*
     cases i:Cw b.data.toList c.data.toList x.2.1.data.toList with
     | false=>
      have A:=Aa i;have j:=Aa (Jz b c x.2.1 wr);rw[i]at j;clear i;go_wp2_with fail;refine j.o.mono ?_;rintro t C ⟨rfl,rfl⟩;go_wp2_with fail;go_ret;exact⟨by rw[I.o (by exact .inr (.inl ⟨_,z.o,A.o⟩))];rfl,F.o⟩
     | true=>
      have B:Hid (∀p∈g.take (a+1),Cw b.data.toList c.data.toList p.2.1.data.toList=true):=fun p r=>by
       rw[y.o]at r;rcases xE.1 r with n|n
       ·exact l.o p n
       ·rw[yR.1 n];exact i
      have j:=Aa (Jz b c x.2.1 wr);rw[i]at j;clear i;go_wp2_with fail;refine j.o.mono ?_;rintro t C ⟨rfl,rfl⟩;go_wp2_with fail;exact⟨⟨a+1,W_,O_,B.o,by trivial⟩,by simp[intOf];omega⟩
    ·have s:Hid (∀x∈g,Cw b.data.toList c.data.toList x.2.1.data.toList=true):=by
      have:=l.o;rw[yY O_]at this;exact this
     clear l;have b2:=Aa s.o;clear s;go_wp2_with fail
     go_loopw [11] (fun o D=>∃a:Nat,o=J_ (a:Nat)/\a<=f.length/\(∀x∈f.take a,Cw b.data.toList c.data.toList x.data.toList=true)/\D=wr) (fun o _=>f.length-(intOf o).toNat)
     case atStart=>exact⟨0,rfl,Y_,(fun x m=>by simp at m),rfl⟩
     case round=>
      obtain⟨a,rfl,Z,q,rfl⟩:=hrel;have l:=Aa q;clear q;by_cases k:a<f.length
      ·obtain⟨a0,a1,e,a2,-,a3,a4⟩:=a9.o.at a k;simp only[xJ]at e;obtain⟨rfl,-,rfl⟩:=e;have y:Hid (f.take (a+1)=f.take a++[f[a]'k]):=by
        show _=_;rw[zN,xW k];rfl
       have z:=Aa (yA k);have X:(0:Int)<=(a:Int):=O_;have Y:(a:Int)<(f.length:Int):=O_;generalize f[a]'k=x at*
       cases i:Cw b.data.toList c.data.toList x.data.toList with
       | false=>
        have A:=Aa i;have j:=Aa (Jz b c x wr);rw[i]at j;clear i;go_wp2_with fail;refine j.o.mono ?_;rintro t C ⟨rfl,rfl⟩;go_wp2_with fail;go_ret;exact⟨by rw[I.o (by exact .inr (.inr ⟨_,z.o,A.o⟩))];rfl,F.o⟩
       | true=>
        have B:Hid (∀p∈f.take (a+1),Cw b.data.toList c.data.toList p.data.toList=true):=fun p r=>by
         rw[y.o]at r;rcases xE.1 r with n|n
         ·exact l.o p n
         ·rw[yR.1 n];exact i
        have j:=Aa (Jz b c x wr);rw[i]at j;clear i;go_wp2_with fail;refine j.o.mono ?_;rintro t C ⟨rfl,rfl⟩;go_wp2_with fail;exact⟨⟨a+1,W_,O_,B.o,by trivial⟩,by simp[intOf];omega⟩
      ·have s:Hid (∀x∈f,Cw b.data.toList c.data.toList x.data.toList=true):=by
        have:=l.o;rw[yY O_]at this;exact this
       clear l;go_wp2_with fail;go_ret;exact⟨by rw[W.o,zV.2 b1.o,zV.2 b2.o,zV.2 s.o];rfl,F.o⟩
