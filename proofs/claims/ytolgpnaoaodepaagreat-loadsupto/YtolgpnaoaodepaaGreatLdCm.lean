import Derived.Test.YtolgpnaoaodepaaGreatTreZFm
set_option maxHeartbeats 4000000
set_option maxRecDepth 100000
namespace Go.Proofs.YtolgpnaoaodepaaGreat
open Go.RowKit Ld Pg
variable {w:World}{a:Nat}
def Cw(lo hi k:hE):Bool:= !decide (k<lo)&&(decide (hi=[]) || decide (k<hi))
theorem YN(a b c:hE):Cw a b c=true↔Mk a b c:=by unfold Cw Mk;simp
theorem LU(g:Int)(i:Nat)(b c a:hJ)(w:World):
  Calls Tryz.prog 188 #[.agg #[J_ g,A_ i,B_ b,B_ c],B_ a] w fun d f=>d=R_ (.bool (Cw b.data.toList c.data.toList a.data.toList))/\Below w.heap.size w f:=by
 have j:=Aa ((xA w.heap.size w).alloc X_ (C_ #[J_ g,A_ i,B_ b,B_ c] 154));have r:Op.bytesLess b.toList a.toList=decide (b.data.toList<a.data.toList):=by rw[Af,Af,Cj]
 have s:(b.toList==a.toList)=decide (b.data.toList=a.data.toList):=by
  rw[Af,Af];by_cases e:b.data.toList=a.data.toList
  ·rw[e];simp
  ·rw[xN e];exact fR.2 e
 have t:c.toList.isEmpty=decide (c.data.toList=[]):=by rw[Af];cases c.data.toList<;>simp
 have u:Op.bytesLess a.toList c.toList=decide (a.data.toList<c.data.toList):=by rw[Af,Af,Cj]
 have k:Hid (Cw b.data.toList c.data.toList a.data.toList=((decide (b.data.toList<a.data.toList) || decide (b.data.toList=a.data.toList))&&(decide (c.data.toList=[]) || decide (a.data.toList<c.data.toList)))):=by
  show _=_;unfold Cw;congr 1;by_cases d:a.data.toList<b.data.toList
  ·have l:¬b.data.toList<a.data.toList:=fun f=>Tr.lt_ir _ (Tr.Ei f d)
   have m:¬b.data.toList=a.data.toList:=fun f=>by rw[f]at d;exact Tr.lt_ir _ d
   simp[d,l,m]
  ·by_cases f:b.data.toList<a.data.toList
   ·simp[d,f]
   ·have:=Tr.tri _ _ f d;simp[this]
 generalize decide (b.data.toList<a.data.toList)=n at*;generalize decide (b.data.toList=a.data.toList)=o at*;generalize decide (c.data.toList=[])=p at*;generalize decide (a.data.toList<c.data.toList)=q at*
 cases n<;>cases o<;>cases p<;>cases q
 all_goals
  go_in;go_wp2_with fail;go_ret;exact⟨by rw[k.o];rfl,j.o⟩
theorem OZ(i:Int)(j:Nat)(c b:hJ)(w:World):
  Calls Tryz.prog 191 #[.agg #[J_ i,A_ j,B_ c,B_ b]] w fun d f=>d=R_ (.bool (Cu c.data.toList b.data.toList))/\Below w.heap.size w f:=by
 have g:=Aa ((xA w.heap.size w).alloc X_ (C_ #[J_ i,A_ j,B_ c,B_ b] 154));by_cases d:b.data.toList=[]
 ·have k:b.toList.isEmpty=true:=by rw[Af,d];rfl
  have f:Hid (Cu c.data.toList b.data.toList=true):=by show _=_;unfold Cu;simp only[xQ d];rfl
  go_in;go_wp2_with fail;go_ret;exact⟨by rw[f.o];rfl,g.o⟩
 ·have k:b.toList.isEmpty=false:=by rw[Af];cases h:b.data.toList with
                                | nil=>exact absurd h d
                                | cons a l=>rfl
  have m:Op.bytesLess c.toList b.toList=decide (c.data.toList<b.data.toList):=by rw[Af,Af,Cj]
  have f:Hid (Cu c.data.toList b.data.toList=decide (c.data.toList<b.data.toList)):=by show _=_;unfold Cu;simp only[xN d];simp
  generalize decide (c.data.toList<b.data.toList)=n at*;go_in;go_wp2_with fail;go_ret;exact⟨by rw[f.o];rfl,g.o⟩
def TkB(w:World)(b:Nat)(n:Int)(q:Nat)(lo hi:hJ):Prop:=w.heap[b]?=some (C_ #[J_ n,A_ q,B_ lo,B_ hi] 154 (0,0))
theorem TkB.lt{w:World}{a:Nat}{c:Int}{b:Nat}{d f:hJ}(h:TkB w a c b d f):a<w.heap.size:=(xS.1 h).1
theorem TkB.cells{w:World}{a:Nat}{c:Int}{b:Nat}{d f:hJ}(h:TkB w a c b d f):w.cell? (Q_ a 0)=some (J_ c)/\w.cell? (Q_ a 1)=some (A_ b)/\w.cell? (Q_ a 2)=some (B_ d)/\w.cell? (Q_ a 3)=some (B_ f)/\∀g,w.frozen? (Q_ a g)=false:=by unfold TkB at h;refine⟨?_,?_,?_,?_,fun g=> ?_⟩<;>simp[World.cell?,World.frozen?,h]
theorem TkB.keep{w':World}{c:Int}{b:Nat}{d f:hJ}(h:TkB w a c b d f)(g:Below w.heap.size w w'):TkB w' a c b d f:=(g.block a h.lt).trans h
theorem Bc.at{v:Value}{j:hD}(h:Bc a w v j)(c:Nat)(f:c<j.length):∃b d,v=L_ (P_ b) j.length d/\j.length<=d/\a<=b/\b<w.heap.size/\w.cell? (Q_ b c)=some (B_ (j[c]'f)):=by
 rcases h.2 with⟨_,h0⟩|⟨b,d,l,e,g,i,k,-⟩
 ·omega
 ·refine⟨b,d,e,k,g,(xS.1 i).1,?_⟩;have:=zD h (g:=b) (by rw[e];rfl) c (B_ (j[c]'f)) (by simp[strs,f]);rw[Dy]at this;simpa using this
theorem LV(f:Nat)(g:Int)(i:Nat)(a b c:hJ)(w:World)(h:TkB w f g i a b):
  Calls Tryz.prog 190 #[B_ c,A_ f] w fun d j=>d=R_ (.bool (!Cw a.data.toList b.data.toList c.data.toList))/\Below w.heap.size w j:=by
 obtain⟨l,m,n,o,-⟩:=h.cells;have j:=Aa (LU g i a b c w);clear h;go_in;go_wp2_with fail;refine j.o.mono ?_;rintro d p ⟨rfl,k⟩;go_wp2_with fail;go_ret;exact⟨rfl,k⟩
theorem LX(v:Value)(b:hD)(p:Nat)(C:Int)(g:Nat)(d f:hJ)(w:World)(h:Bc 0 w v b)(W:b.length<=1000)(D:TkB w p C g d f):
  Calls Tryz.prog 241 #[v,.func (.func 190) #[] #[A_ p]] w fun n O=>Below w.heap.size w O/\((n=R_ (J_ (-1))/\∀c∈b,Cw d.data.toList f.data.toList c.data.toList=true)\/∃(a:Nat),n=R_ (J_ (a:Nat))/\a<=1000/\∃c∈b,Cw d.data.toList f.data.toList c.data.toList=false):=by
 have F:=Aa h;have u:=Aa D;obtain⟨S,c,rfl⟩:=Ad h;clear h D;go_in;go_wp2_with fail
 go_loopw [8] (fun t wr=>∃a:Nat,t=J_ (a:Nat)/\a<=b.length/\(∀c∈b.take a,Cw d.data.toList f.data.toList c.data.toList=true)/\Below w.heap.size w wr) (fun t _=>b.length-(intOf t).toNat)
 case atStart=>exact⟨0,rfl,Y_,fun c o=>by simp at o,xA _ _⟩
 case round=>
  obtain⟨a,rfl,T,A,s⟩:=hrel;have y:=Aa A;have k:=Aa s;have z:=s.size;clear A s;by_cases i:a<b.length
  ·obtain⟨L,U,e,V,-,M,B⟩:=F.o.at a i;simp only[xJ]at e;obtain⟨rfl,-,rfl⟩:=e;have R:=(k.o.cell (p:=(Q_ L a)) M).trans B;have m:=Aa (LV p C g d f (b[a]'i) wr ((k.o.block p u.o.lt).trans u.o));have G:Hid (b.take (a+1)=b.take a++[b[a]'i]):=by
    show _=_;rw[zN,xW i];rfl
   have H:=Aa (yA i);clear B
   cases j:Cw d.data.toList f.data.toList (b[a]'i).data.toList with
   | false=>
    rw[j]at m;have I:=Aa j;clear j;go_wp2_with fail;refine m.o.mono ?_;rintro n N ⟨rfl,l⟩;have q:=Aa (k.o.trans (l.mono z));clear l;go_wp2_with fail;go_ret;exact⟨q.o,.inr ⟨a,rfl,O_,_,H.o,I.o⟩⟩
   | true=>
    rw[j]at m;have r:Hid (∀c∈b.take (a+1),Cw d.data.toList f.data.toList c.data.toList=true):=fun c o=>by
     rw[G.o]at o;rcases xE.1 o with g|g
     ·exact y.o c g
     ·rw[yR.1 g];exact j
    clear j;go_wp2_with fail;refine m.o.mono ?_;rintro n N ⟨rfl,l⟩;have q:=Aa (k.o.trans (l.mono z));clear l;go_wp2_with fail;exact⟨⟨a+1,W_,O_,r.o,q.o⟩,by simp[intOf];omega⟩
  ·have J:a=b.length:=O_;subst J;have r:Hid (∀c∈b,Cw d.data.toList f.data.toList c.data.toList=true):=by
    have:=y.o;rw[zQ]at this;exact this
   go_wp2_with fail;go_ret;exact⟨k.o,.inl ⟨rfl,r.o⟩⟩
def Wy(lo hi:hE)(il:gY)(ml:gZ)(pl:hD):Bool:=il.all (fun x=>Cw lo hi x.1.data.toList)&&ml.all (fun c=>Cw lo hi c.2.1.data.toList)&&pl.all (fun p=>Cw lo hi p.data.toList)
theorem PA(v:Value)(a:hD)(j:Nat)(o:Int)(p:Nat)(c d:hJ)(w:World)(h:Bc 0 w v a)(s:a.length<=1000)(f:TkB w j o p c d):
  Calls Tryz.prog 189 #[v,.func (.func 190) #[] #[A_ j]] w fun k g=>k=R_ (.bool (!a.all (fun b=>Cw c.data.toList d.data.toList b.data.toList)))/\Below w.heap.size w g:=by
 have q:=Aa (LX v a j o p c d w h s f);obtain⟨t,u,rfl⟩:=Ad h;clear h f;go_in;go_wp2_with fail;refine q.o.mono ?_;rintro k y ⟨f,⟨rfl,l⟩|⟨r,rfl,z,x,m,n⟩⟩
 ·have g:Hid (a.all (fun b=>Cw c.data.toList d.data.toList b.data.toList)=true):=zV.2 l;have i:=Aa f;clear f l;go_wp2_with fail;go_ret;exact⟨by rw[g.o];rfl,i.o⟩
 ·have g:Hid (a.all (fun b=>Cw c.data.toList d.data.toList b.data.toList)=false):=by
   refine wU.2 fun b=> ?_
   have:=zV.1 b x m;rw[n]at this;cases this
  have i:=Aa f;have b:(0:Int)<=(r:Int):=O_;clear f m n;go_wp2_with fail;go_ret;exact⟨by rw[g.o];rfl,i.o⟩
namespace Pg
theorem ED:∀(c:hF) (d:List hE) (f:Nat) (g:hE),c.length=d.length->Cq (c++[f]) (d++[g])=Cq c d++Nb f g
 | [],[],f,g,_=>by simp[Cq]
 | a::c,b::d,f,g,h=>by rw[jF,jF,Cq,ED c d f g (by simpa using h),Cq,xT]
 | [],b::d,_,_,h=>by simp at h
 | a::c,[],_,_,h=>by simp at h
theorem YO{a:Nat}(h:0<a):many a=many (a-4)+1:=by unfold many;omega
theorem Abj(a v:hE)(b:List (hE×hE)):IG ((a,v)::b)=Nb (base ((a,v)::b)).length a:=rfl
end Pg
variable {w:World}{a b i:Nat}{g:gY}
theorem YP(a:gY)(d:hJ)(o:hE)(p:List (hE×hE))(h:Ab a=(d.data.toList,o)::p)(b:Nat)(q:b=min a.length 4)(c:hE)(i:Pg.base (Ab a)=c):
  Pg.entries (Pg.many a.length) (Ab a)=Pg.Nb c.length d.data.toList++Pg.entries (Pg.many (a.drop b).length) (Ab (a.drop b))/\Pg.Kx (Pg.many a.length) (Ab a)=c++Pg.Kx (Pg.many (a.drop b).length) (Ab (a.drop b))/\Pg.many a.length=Pg.many (a.drop b).length+1:=by
 have j:(Ab a).length=a.length:=by simp[Ab]
 have k:0<a.length:=by rw[<-j,h];simp
 have f:Ab a≠[]:=by rw[h];simp
 have g:a.drop b=a.drop 4:=by
  by_cases n:a.length<=4
  ·rw[zG (show a.length<=b by omega),zG n]
  ·rw[show b=4 by omega]
 have l:Pg.many a.length=Pg.many (a.drop b).length+1:=by rw[g,xY];exact YO k
 have m:IG (Ab a)=Pg.Nb c.length d.data.toList:=by rw[<-i,h,Abj]
 rw[l,Vv _ _ f,CK _ _ f,<-CI,<-g,m,i];exact⟨rfl,rfl,rfl⟩
theorem TG(d:Gr w a b g)(f:a<w.heap.size)(j:g.length<=i)(k:i<=9223372036854775807)(c:Nat):Fa w (L_ (some (Q_ a (b+c*2))) (g.length-c) (i-c)) (g.drop c):=by refine .inr ⟨a,b+c*2,i-c,by rw[xY],by rw[xY];omega,O_,f,?_⟩;have:=d.part c g.length;rw[yY (by rw[xY];omega)]at this;exact this
theorem PC(d:Gr w a b g)(f:a<w.heap.size)(j:g.length<=i)(k:i<=9223372036854775807)(c:Nat):Fa w (L_ (if i=c then some (Q_ a b)else some (Q_ a (b+c*2))) (g.length-c) (i-c)) (g.drop c):=by
 by_cases h:i=c
 ·rw[xD h,show g.length-c=0 by omega];exact .inl ⟨_,_,rfl,zG O_⟩
 ·rw[xB h];exact TG d f j k c
theorem AA(a:hD)(b:hJ):Ag (a++[b])=Ag a++[b.data.toList]:=by simp[Ag]
theorem HH(v:Value)(d:gY)(w:World)(d3:Fa w v d)(i4:d.length<=16)(d4:∀x∈d,x.1.size<=12/\x.2.size<=16):
  Calls Tryz.prog 129 #[v] w fun a h8=>a=R_ (B_ ⟨(Pg.Lx (Ab d)).toArray⟩)/\Below w.heap.size w h8:=by
 have d5:=Aa d3;have d6:=Aa d4;clear d3 d4;have U:=Aa (IL w.heap.size w w (xA _ w) X_);go_in;go_wp2_with fail
 go_loopw [0,4] (fun x h9 wr=>∃(a:gY) (body:hJ) (c:hF) (f:hD) (a5 a6:Value),Fa w x a/\h9=B_ body/\LHd w.heap.size w.heap.size w wr c f a5 a6/\a.length<=16/\(∀u∈a,u.1.size<=12/\u.2.size<=16)/\c.length=f.length/\(∀t∈f,t.size<=12)/\c.length+Pg.many a.length=Pg.many d.length/\body.size<=c.length*1000/\Pg.Cq c (Ag f)++Pg.entries (Pg.many a.length) (Ab a)=Pg.entries (Pg.many d.length) (Ab d)/\body.data.toList++Pg.Kx (Pg.many a.length) (Ab a)=Pg.Kx (Pg.many d.length) (Ab d)) (fun x _ _=>match x with | .slice _ b _=>b|_=>0)
 case atStart=>exact⟨d,⟨#[]⟩,[],[],_,_,d5.o,rfl,U.o,i4,d6.o,rfl,D_,D_,Do,by simp[Pg.Cq],D_⟩
 case round=>
  clear U;obtain⟨a,body,c,f,a5,a6,I,rfl,i,k1,a7,a8,a9,b0,k2,b1,b2⟩:=hrel;have V:=Aa i;have z:=Aa a7;have l:=Aa a8;have C:=Aa a9;have W:=Aa b0;have X:=Aa b1;have Y:=Aa b2;have A:=Aa i.bel;have i5:=i.lt;have i6:Pg.many d.length<=4:=by unfold Pg.many;omega
  have i7:c.length<=4:=O_;obtain⟨b3,b4,b5,b6⟩:=i.cells;obtain⟨f8,f9,rfl⟩:=Ad i.szs;obtain⟨g0,g1,rfl⟩:=i.fst.shape;clear i a7 a8 a9 b0 b1 b2;obtain⟨k3,J,rfl⟩:=I.shape;by_cases k:0<a.length
  ·obtain⟨j,o,k4,g2,g3,b7,s,B⟩:=I.resolve_left (by rintro⟨_,_,_,rfl⟩;simp at k);injection g2 with hve1 hve2 hve3;subst hve1 hve3;have d7:=Aa B;obtain⟨b,L⟩:∃b:Nat,b=min a.length 4:=⟨_,rfl⟩;have i8:min (a.length:Int) 4=(b:Int):=O_;have d8:b<=a.length/\b<=4/\0<b:=O_;have d9:=Aa L;have e0:Hid (Pg.Ar [98] (Pg.Bl (Ab (a.take b)))=Pg.base (Ab a)):=by
    show _=_;unfold Pg.base;rw[CJ,L];by_cases l5:a.length<=4
    ·rw[yY (show(Ab a).length<=min a.length 4 by simp[Ab];omega),yY (show(Ab a).length<=4 by simp[Ab];omega)]
    ·rw[show min a.length 4=4 by omega]
   have i9:=Pg.Ir (Ab (a.take b)) (NT (fun x S=>z.o x (vU S)));have j0:(Ab (a.take b)).length<=4:=(by simp[Ab];omega);have e1:Hid (Fa wr (L_ (some (Q_ j o)) b J) (a.take b)):=(by refine .inr ⟨j,o,J,by rw[xR,jL d8.1],by rw[xR];omega,b7,O_,?_⟩;have:=(B.below A.o s).part 0 b;simpa using this);have m:=(B.below A.o s) 0 k;have e2:Hid (∃M,Ab a=((a[0]'k).1.data.toList,(a[0]'k).2.data.toList)::M):=by
    cases a with
    | nil=>simp at k
    | cons u ys=>exact⟨Ab ys,rfl⟩
   have Z:=(z.o _ (yA k)).1;generalize a[0]'k=u at*;obtain⟨g,k5⟩:=u;simp only[vK,jW]at m Z;obtain⟨m,-⟩:=m;have e3:Hid (w.cell? (Q_ j o)=some (B_ g)):=((A.o.cell (p:=(Q_ j o)) s).symm.trans m);clear L B I;have j1:(0:Int)<=(b:Int):=O_;have j2:(b:Int)<=(J:Int):=O_;go_wp2_with fail;refine(NX _ (a.take b) _ e1.o (by rw[xR];omega) (fun x S=>by have:=z.o x (vU S);omega)).mono ?_;rintro c2 h4 ⟨h5,rfl,c3,p⟩;have e4:=Aa c3;have D:=Aa p;have e5:=p.size;clear c3 p;go_wp2_with fail;refine(Px wr.heap.size 98 h5 _ _ e4.o O_).mono ?_;rintro c2 h6 ⟨rfl,c4⟩;have a0:=Aa (D.o.trans (c4.mono e5));have a1:=Pg.Ek [98] (Pg.Bl (Ab (a.take b))) O_;rw[e0.o]at a1⊢;have n:=Aa (V.o.below a0.o);have a2:=Aa (a0.o.cell (p:=(Q_ j o)) (show j<_ by omega));have e6:=a2.o.trans m;obtain⟨b8,b9,c0,c1⟩:=n.o.cells;have e7:=n.o.lt;clear c4 b3 b4 b5 b6 m a2;have j3:(Pg.base (Ab a)).length<=300:=(by simp at a1;omega);generalize d1:Pg.base (Ab a)=q at*;have e8:=Aa d1;clear d1;have e9:=Ba q
   go_wp2_with (first
    | (at_builtin;refine Ix h6 rfl (.tmp 19) (.tmp 22) 25 3 aK _ 1 8 Rl rfl Do Do rfl (w.heap.size+1) (L_ f8 c.length f9) c.length (Cl c) rfl n.o.szs [J_ (q.length:Int)] rfl (by intro l0 c5;simp at c5;subst c5;rfl) rfl O_ e7 ?_))
   intro l1 h7 O c6 c7;obtain⟨g4,g5,rfl⟩:=Ad O;have F:=Aa (n.o.apN O c6 c7);obtain⟨g6,H,g7,g8⟩:=n.o.mid F.o.1;clear O c6 c7 b8 b9 c0 c1 e6;generalize d2:c.length+1=i3 at*;have j4:=Aa d2;clear d2;go_wp2_with fail;have G:=Aa F.o.2;clear F g6 H g7 g8 n;generalize h7.setCell (Q_ w.heap.size 0) (L_ g4 i3 g5)=y at*;obtain⟨b3,b4,b5,b6⟩:=G.o.cells;have j5:=(G.o.bel.cell (p:=(Q_ j o)) s).trans e3.o;have r:=Aa (G.o.below (((xA _ y).alloc X_ (C_ #[B_ g] 9)).drew));have f0:Hid (((y.alloc (C_ #[B_ g] 9)).drew).cell? (Q_ y.heap.size 0)=some (B_ g)):=Vx y _ _;obtain⟨-,k6,-,k7⟩:=r.o.cells;have a3:f.length<=4:=(by rw[<-l.o];omega);have j6:(0:Int)<(a.length:Int):=O_
   go_region_law (refine Vw _ (by rfl) (.tmp 26) (.tmp 31) (by rfl) (w.heap.size+1) (L_ g0 f.length g1) f U_ r.o.fst g y.heap.size U_ f0.o O_ r.o.lt ?_;intro l2 l3 R c8 c9;obtain⟨k8,k9,rfl⟩:=R.shape;generalize i2:(f++[g]).length=l6 at*;clear i2;have a4:=Aa (r.o.apF R c8 c9);obtain⟨b8,b9,c0,c1⟩:=r.o.mid a4.o.1;clear R c8 c9)
   all_goals
    have j7:(0:Int)<=(b:Int):=O_;have j8:(b:Int)<=(a.length:Int):=O_;have H:∀w,(Op.stringOp .add body ⟨q.toArray⟩).run Tryz.prog w=.ok (B_ (body++⟨q.toArray⟩)) w:=fun w=>kA w _ _ O_
    go_wp2_with fail
    go_roundw
    case rel=>
     obtain⟨M,g9⟩:=e2.o;obtain⟨h1,h2,h3⟩:=YP a g _ M g9 b d9.o q e8.o;refine⟨a.drop b,_,c++[q.length],f++[g],_,_,PC d7.o s g3 b7 b,rfl,a4.o.2,by rw[xY];omega,fun i0 i1=>z.o i0 (bJ i1),by rw[xC,xC,l.o];rfl,?_,?_,?_,?_,?_⟩
     ·intro t N;rcases xE.1 N with h|h
      ·exact C.o t h
      ·rw[yR.1 h];exact Z
     ·have:=W.o;rw[xC,<-this,h3];simp;omega
     ·rw[zO,e9,xC];simp;omega
     ·rw[AA,ED _ _ _ _ (by rw[l.o];simp[Ag]),<-X.o,h1,xT]
     ·rw[<-Y.o,h2];simp
    case measure=>simp;omega
  ·have f1:a=[]:=zA.1 O_;subst f1;have f2:Hid (Pg.Cq c (Ag f)=Pg.entries (Pg.many d.length) (Ab d)):=by
    show _=_;rw[<-X.o];simp[Pg.many,Pg.entries]
   have f3:Hid (body.data.toList=Pg.Kx (Pg.many d.length) (Ab d)):=(by show _=_;rw[<-Y.o];simp[Pg.many,Pg.Kx]);have f4:Hid (c.length=Pg.many d.length):=(by show _=_;rw[<-W.o];simp[Pg.many]);have a3:f.length<=4:=(by rw[<-l.o];omega);have f5:=Aa (V.o.isLH O_ O_);go_wp2_with fail;refine(Tx _ c f _ f5.o l.o a3 C.o).mono ?_;rintro c2 h4 ⟨rfl,p⟩;have D:=Aa (A.o.trans (p.mono O_));have j9:(Pg.Fl c (Ag f)).length<=200:=(by have f6:=Pg.Pb c (Ag f) (by rw[l.o];simp[Ag]) (by intro l4 d0;simp only[Ag,xL]at d0;obtain⟨t,N,rfl⟩:=d0;rw[Ah];exact C.o t N);unfold Pg.Fl;rw[Pg.Jb];simp only[xC,Pg.Bo,kD,f6];simp;omega);have f7:Hid (Pg.Fl c (Ag f)++body.data.toList=Pg.Lx (Ab d)):=(by show _=_;unfold Pg.Fl Pg.Lx;rw[show(Ab d).length=d.length by simp[Ab],f2.o,f3.o,f4.o]);generalize Pg.Fl c (Ag f)=T at*;have k0:=Ba T;have H:∀w,(Op.stringOp .add ⟨T.toArray⟩ body).run Tryz.prog w=.ok (B_ (⟨T.toArray⟩++body)) w:=fun w=>kA w _ _ O_
   clear p;go_wp2_with fail;go_ret;exact⟨Ib (by rw[<-f7.o];simp),D.o⟩
theorem Il{k l:Bool}(h:k=l):Ending.returned (.bool k)=R_ (.bool l):=by rw[h]
theorem Yo(a:hJ)(w:World):Calls Tryz.prog 60 #[B_ a] w fun b c=>b=R_ (.bool (Pg.Dm a.size))/\c=w:=by
 go_in;by_cases b:1<=a.size
 ·have c:decide ((1:Int)<=(a.size:Int))=true:=K_;go_wp2_with fail;go_ret;exact⟨Il (by unfold Pg.Dm;rw[xQ b];simp;omega),rfl⟩
 ·have c:decide ((1:Int)<=(a.size:Int))=false:=K_;go_wp2_with fail;go_ret;exact⟨Il (by unfold Pg.Dm;rw[xN b];rfl),rfl⟩
theorem AB(a:hJ)(w:World):Calls Tryz.prog 61 #[B_ a] w fun b c=>b=R_ (.bool (decide (a.size<=16)))/\c=w:=by go_in;go_wp2_with fail;go_ret;exact⟨Il K_,rfl⟩
theorem Ho{m:FuncId}{n:Array Value}{v:Value}(h:Calls Tryz.prog m n (w.drewN a) fun e b=>e=R_ v/\b=w.drewN a):Calls Tryz.prog m n (w.drewN a) fun e b=>e=R_ v/\∃c,b=w.drewN c:=
 h.mono fun _ _ ⟨b,c⟩=>⟨b,a,c⟩
theorem Wz(v:Value)(b:gY)(w:World)(B:Fa w v b)(c4:b.length<=1000000000):
  Calls Tryz.prog 195 #[v] w fun o p=>o=R_ (.bool (Pg.Cx none (Ab b)))/\Below w.heap.size w p:=by
 obtain⟨b0,b1,rfl⟩:=B.shape;have N:=Aa B;clear B;go_in;go_wp2_with fail
 go_loopw [7] (fun y wr=>∃a:Nat,a<=b.length/\y=J_ a/\Pg.Cx (Ic (Ab b) a) (Ab (b.drop a))=Pg.Cx none (Ab b)/\Below w.heap.size w wr) (fun y _=>b.length-(intOf y).toNat)
 case atStart=>exact⟨0,Y_,rfl,rfl,xA _ _⟩
 case round=>
  obtain⟨a,b2,rfl,G,t⟩:=hrel;have g:=Aa G;have r:=Aa t;have O:=t.size;clear G t;by_cases q:a<b.length
  ·obtain⟨b3,b4,b5,X,b6,b7,H,I⟩:=N.o.resolve_left (by rintro⟨_,_,_,rfl⟩;simp at q);injection X with hve1 hve2 hve3;subst hve1 hve3;have C:=Aa I;clear I;obtain⟨J,L⟩:=C.o.below r.o H a q;generalize A:b[a]'q=x at*;obtain⟨c,d⟩:=x;simp only at J L;have R:Hid (Ab (b.drop a)=(c.data.toList,d.data.toList)::Ab (b.drop (a+1))):=by
    show _=_;rw[yM q,A];rfl
   have D:Hid (Ic (Ab b) (a+1)=some c.data.toList):=(by show _=_;unfold Ic Ab;rw[xB O_,qF,zU,xW q,A];rfl);clear A;rw[R.o,VO,Ah,Ah]at g;have a3:(0:Int)<=(a:Int):=O_;have a4:(a:Int)<(b.length:Int):=O_;have l:∀f,Calls Tryz.prog 60 #[B_ c] f fun o p=>o=R_ (.bool (Pg.Dm c.size))/\p=f:=fun f=>Yo c f
   have m:∀f,Calls Tryz.prog 61 #[B_ d] f fun o p=>o=R_ (.bool (decide (d.size<=16)))/\p=f:=fun f=>AB d f
   have S:=Aa (show(wr.alloc (C_ #[B_ c,B_ d] 51)).cell? (Q_ wr.heap.size 0)=some (B_ c)by simp);have T:=Aa (show(wr.alloc (C_ #[B_ c,B_ d] 51)).cell? (Q_ wr.heap.size 1)=some (B_ d)by simp);have i:=Aa (r.o.alloc O (C_ #[B_ c,B_ d] 51));generalize b9:Pg.Dm c.size=a0 at*;generalize c0:decide (d.size<=16)=a1 at*;go_wp2_with fail;generalize(wr.alloc (C_ #[B_ c,B_ d] 51))=c1 at*;generalize wr.heap.size=c2 at*;have a5:=S.o;have a6:=T.o;clear J L
   cases a0
   ·have n:Hid (Pg.Cx none (Ab b)=false):=by
     show _=_;rw[<-g.o];rfl
    go_quiet (first|exact Ho (l _)|exact Ho (m _));go_wp2_with fail;go_ret;exact⟨by rw[n.o];rfl,Ao i.o _⟩
   ·cases a1
    ·have n:Hid (Pg.Cx none (Ab b)=false):=by
      show _=_;rw[<-g.o];rfl
     go_quiet (first|exact Ho (l _)|exact Ho (m _));go_wp2_with fail;go_ret;exact⟨by rw[n.o];rfl,Ao i.o _⟩
    ·by_cases z:a=0
     ·have s:Hid (Pg.Cx (Ic (Ab b) (a+1)) (Ab (b.drop (a+1)))=Pg.Cx none (Ab b)):=by
       show _=_;rw[<-g.o,D.o,z];rfl
      have U:decide (0<a)=false:=K_;clear z;go_quiet (first|exact Ho (l _)|exact Ho (m _));go_wp2_with fail
      go_roundw
      case rel=>exact⟨a+1,O_,W_,s.o,Ao i.o _⟩
      case measure=>simp[intOf];omega
     ·have U:decide (0<a)=true:=K_;have j:a-1<b.length:=O_;obtain⟨Y,M⟩:=C.o.below i.o H (a-1) j;have F:Hid (Ic (Ab b) a=some (b[a-1]'j).1.data.toList):=by
       show _=_;unfold Ic Ab;rw[xB z,zU,xW j];rfl
      generalize b[a-1]'j=a2 at*;obtain⟨u,b8⟩:=a2;simp only at Y M;have a7:IntKind.i64.wrap ((a:Int)-1)=((a-1:Nat):Int):=(by rw[zY _ ⟨O_,O_⟩];omega);have a8:((a-1:Nat):Int)<(b.length:Int):=O_;have a9:Hid (a-1<b.length):=j;generalize Z:a-1=c3 at*;clear Z j M;by_cases k:u.data.toList<c.data.toList
      ·have s:Hid (Pg.Cx (Ic (Ab b) (a+1)) (Ab (b.drop (a+1)))=Pg.Cx none (Ab b)):=by
        show _=_;rw[<-g.o,D.o,F.o];simp[Pg.Gn,k]
       have V:Op.bytesLess u.toList c.toList=true:=(by rw[Af,Af,Cj];exact xQ k);clear k;go_quiet (first|exact Ho (l _)|exact Ho (m _));go_wp2_with fail
       go_roundw
       case rel=>exact⟨a+1,O_,W_,s.o,Ao i.o _⟩
       case measure=>simp[intOf];omega
      ·have n:Hid (Pg.Cx none (Ab b)=false):=by
        show _=_;rw[<-g.o,F.o];simp[Pg.Gn,k]
       have V:Op.bytesLess u.toList c.toList=false:=(by rw[Af,Af,Cj];exact xN k);clear k;go_quiet (first|exact Ho (l _)|exact Ho (m _));go_wp2_with fail;go_ret;exact⟨by rw[n.o];rfl,Ao i.o _⟩
  ·have W:Hid (Pg.Cx none (Ab b)=true):=by
    show _=_;rw[<-g.o,zG O_];rfl
   go_wp2_with fail;go_ret;exact⟨by rw[W.o];rfl,r.o⟩
namespace Pg
theorem HI(b:Option hE)(a:hE)(c:List hE):Az (a::c) b=(Dm a.length&&Gn b a&&Az c (some a)):=rfl
end Pg
theorem AC(v:Value)(b:hD)(w:World)(V:Ik w v b.length (b.map .string)):
  Calls Tryz.prog 197 #[v] w fun f s=>f=R_ (.bool (Pg.Az (Ag b) none))/\Below w.heap.size w s:=by
 obtain⟨a5,a6,rfl,a7,C⟩:=V;have G:=Aa C;clear C;go_in;go_wp2_with fail
 go_loopw [7] (fun t wr=>∃a:Nat,a<=b.length/\t=J_ a/\Pg.Az (Ag (b.drop a)) (Kg (Ag b) a)=Pg.Az (Ag b) none/\Below w.heap.size w wr) (fun t _=>b.length-(intOf t).toNat)
 case atStart=>exact⟨0,Y_,rfl,rfl,xA _ _⟩
 case round=>
  obtain⟨a,a8,rfl,D,p⟩:=hrel;have g:=Aa D;have d:=Aa p;have W:=p.size;clear D p;by_cases m:a<b.length
  ·obtain⟨a9,b0,O,F,q⟩:=G.o.resolve_left O_;subst O;have X:=Vy (pl:=b) q d.o F a m;have H:=Aa (fun R S=>Vy (pl:=b) q d.o F R S);clear q;generalize y:b[a]'m=c at*;have I:Hid (Ag (b.drop a)=c.data.toList::Ag (b.drop (a+1))):=by
    show _=_;rw[yM m,y];rfl
   have A:Hid (Kg (Ag b) (a+1)=some c.data.toList):=(by show _=_;unfold Kg Ag;rw[xB O_,qF,zU,xW m,y];rfl);clear y;rw[I.o,HI,Ah]at g;have Y:(0:Int)<=(a:Int):=O_;have Z:(a:Int)<(b.length:Int):=O_;have k:∀l,Calls Tryz.prog 60 #[B_ c] l fun f s=>f=R_ (.bool (Pg.Dm c.size))/\s=l:=fun l=>Yo c l
   generalize b1:Pg.Dm c.size=U at*
   cases U
   ·have n:Hid (Pg.Az (Ag b) none=false):=by
     show _=_;rw[<-g.o];rfl
    go_wp2_with fail;refine(k _).mono ?_;rintro f r ⟨rfl,rfl⟩;go_wp2_with fail;go_ret;exact⟨by rw[n.o];rfl,d.o⟩
   ·by_cases u:a=0
    ·have o:Hid (Pg.Az (Ag (b.drop (a+1))) (Kg (Ag b) (a+1))=Pg.Az (Ag b) none):=by
      show _=_;rw[<-g.o,A.o,u];rfl
     have J:decide (0<a)=false:=K_;have L:¬0<a:=O_;clear u;go_wp2_with fail;refine(k _).mono ?_;rintro f r ⟨rfl,rfl⟩;go_wp2_with fail
     go_roundw
     case rel=>exact⟨a+1,O_,W_,o.o,d.o⟩
     case measure=>simp[intOf];omega
    ·have J:decide (0<a)=true:=K_;have L:0<a:=O_;have i:a-1<b.length:=O_;have a0:=H.o (a-1) i;have B:Hid (Kg (Ag b) a=some (b[a-1]'i).data.toList):=by
      show _=_;unfold Kg Ag;rw[xB u,zU,xW i];rfl
     generalize b[a-1]'i=z at*;have a1:IntKind.i64.wrap ((a:Int)-1)=((a-1:Nat):Int):=(by rw[zY _ ⟨O_,O_⟩];omega);have a2:(a:Int)-1=((a-1:Nat):Int):=O_;have a3:((a-1:Nat):Int)<(b.length:Int):=O_;have a4:Hid (a-1<b.length):=i;generalize T:a-1=b2 at*;clear T i;by_cases j:z.data.toList<c.data.toList
     ·have o:Hid (Pg.Az (Ag (b.drop (a+1))) (Kg (Ag b) (a+1))=Pg.Az (Ag b) none):=by
       show _=_;rw[<-g.o,A.o,B.o];simp[Pg.Gn,j]
      have M:Op.bytesLess z.toList c.toList=true:=(by rw[Af,Af,Cj];exact xQ j);clear j;go_wp2_with fail;refine(k _).mono ?_;rintro f r ⟨rfl,rfl⟩;go_wp2_with fail
      go_roundw
      case rel=>exact⟨a+1,O_,W_,o.o,d.o⟩
      case measure=>simp[intOf];omega
     ·have n:Hid (Pg.Az (Ag b) none=false):=by
       show _=_;rw[<-g.o,B.o];simp[Pg.Gn,j]
      have M:Op.bytesLess z.toList c.toList=false:=(by rw[Af,Af,Cj];exact xN j);clear j;go_wp2_with fail;refine(k _).mono ?_;rintro f r ⟨rfl,rfl⟩;go_wp2_with fail;go_ret;exact⟨by rw[n.o];rfl,d.o⟩
  ·have N:Hid (Pg.Az (Ag b) none=true):=by
    show _=_;rw[<-g.o,zG O_];rfl
   go_wp2_with fail;go_ret;exact⟨by rw[N.o];rfl,d.o⟩
theorem BC(v:Value)(a:List Int)(w:World)(z:Ik w v a.length (a.map (.int .i64))):
  Calls Tryz.prog 196 #[v] w fun u y=>u=R_ (.bool (decide (1<=a.length)&&decide (a.length<=4)&&a.all Pg.Bz))/\Below w.heap.size w y:=by
 obtain⟨B,C,rfl,D,l⟩:=z;have p:=Aa l;clear l;go_in;by_cases I:a.length<1
 ·go_wp2_with fail;go_ret;exact⟨Il (by rw[xN (show ¬1<=a.length by omega)];rfl),xA _ _⟩
 ·by_cases J:4<a.length
  ·go_wp2_with fail;go_ret;exact⟨Il (by rw[xN (show ¬a.length<=4 by omega)];simp),xA _ _⟩
  ·have g:Hid ((decide (1<=a.length)&&decide (a.length<=4)&&a.all Pg.Bz)=a.all Pg.Bz):=by
    show _=_;rw[xQ (show 1<=a.length by omega),xQ (show a.length<=4 by omega)];rfl
   go_wp2_with fail
   go_loopw [15] (fun j wr=>∃b:Nat,b<=a.length/\j=J_ b/\(a.drop b).all Pg.Bz=a.all Pg.Bz/\Below w.heap.size w wr) (fun j _=>a.length-(intOf j).toNat)
   case atStart=>exact⟨0,Y_,rfl,rfl,xA _ _⟩
   case round=>
    obtain⟨b,F,rfl,m,n⟩:=hrel;have d:=Aa m;have f:=Aa n;clear m n;by_cases k:b<a.length
    ·obtain⟨G,H,s,t,o⟩:=p.o.resolve_left O_;subst s;have A:=Aat (pl:=a) o f.o t b k;clear o;rw[yM k,bC]at d;generalize a[b]'k=c at*;by_cases L:c<0
     ·have i:Hid (a.all Pg.Bz=false):=by
       show _=_;rw[<-d.o];unfold Pg.Bz;rw[xN (show ¬0<=c by omega)];rfl
      go_wp2_with fail;go_ret;exact⟨by rw[g.o,i.o];rfl,f.o⟩
     ·by_cases M:2147483647<c
      ·have i:Hid (a.all Pg.Bz=false):=by
        show _=_;rw[<-d.o];unfold Pg.Bz;rw[xN (show ¬c<=2147483647 by omega)];simp
       go_wp2_with fail;go_ret;exact⟨by rw[g.o,i.o];rfl,f.o⟩
      ·have q:Hid ((a.drop (b+1)).all Pg.Bz=a.all Pg.Bz):=by
        show _=_;rw[<-d.o];unfold Pg.Bz;rw[xQ (show 0<=c by omega),xQ (show c<=2147483647 by omega)];simp
       go_wp2_with fail
       go_roundw
       case rel=>exact⟨b+1,O_,W_,q.o,f.o⟩
       case measure=>simp[intOf];omega
    ·have r:Hid (a.all Pg.Bz=true):=by
      show _=_;rw[<-d.o,zG O_];rfl
     go_wp2_with fail;go_ret;exact⟨by rw[g.o,r.o];rfl,f.o⟩
theorem Abk(v:hJ):v.toList.isEmpty=decide (v.size=0):=by
 rw[Af];by_cases h:v.size=0
 ·rw[zA.1 (show v.data.toList.length=0 by rw[Ah];exact h),xQ h];rfl
 ·rw[xN h,List.isEmpty_eq_false_iff];intro e;exact h (by rw[<-Ah,e];rfl)
theorem Xa(a:Int)(b v:hJ)(w:World):
  Calls Tryz.prog 36 #[.agg #[J_ a,B_ b,B_ v]] w fun c g=>c=R_ (.bool (Pg.Bv a b.size v.size))/\Below w.heap.size w g:=by
 have f:=Aa ((xA w.heap.size w).alloc X_ (C_ #[J_ a,B_ b,B_ v] 34));have k:∀d,Calls Tryz.prog 60 #[B_ b] d fun c g=>c=R_ (.bool (Pg.Dm b.size))/\g=d:=fun d=>Yo b d
 have m:∀d,Calls Tryz.prog 61 #[B_ v] d fun c g=>c=R_ (.bool (decide (v.size<=16)))/\g=d:=fun d=>AB v d
 have l:Hid (Pg.Bv a b.size v.size=(Pg.Dm b.size&&decide (v.size<=16)&&(decide (a=1) || decide (a=3) || (decide (a=2)&&decide (v.size=0))))):=rfl;have p:=Aa (Abk v);generalize d:Pg.Dm b.size=g at*;clear d;go_in;by_cases i:a=1\/a=3
 ·have d:Hid (Pg.Bv a b.size v.size=(g&&decide (v.size<=16))):=by
   show _=_;rw[l.o];rcases i with h|h<;>rw[h]<;>simp
  generalize j:decide (v.size<=16)=t at*;clear j;rcases i with h|h
  ·subst h;go_wp2_with fail;refine(k _).mono ?_;rintro c j ⟨rfl,rfl⟩
   cases g
   ·go_wp2_with fail;go_ret;exact⟨by rw[d.o];rfl,f.o⟩
   ·go_wp2_with fail;refine(m _).mono ?_;rintro c j ⟨rfl,rfl⟩;go_wp2_with fail;go_ret;exact⟨by rw[d.o];rfl,f.o⟩
  ·subst h;go_wp2_with fail;refine(k _).mono ?_;rintro c j ⟨rfl,rfl⟩
   cases g
   ·go_wp2_with fail;go_ret;exact⟨by rw[d.o];rfl,f.o⟩
   ·go_wp2_with fail;refine(m _).mono ?_;rintro c j ⟨rfl,rfl⟩;go_wp2_with fail;go_ret;exact⟨by rw[d.o];rfl,f.o⟩
 ·have n:¬a=1:=fun h=>i (.inl h)
  have o:¬a=3:=fun h=>i (.inr h)
  clear i;have q:(a==1)=false:=by simpa using n
  have r:(a==3)=false:=by simpa using o
  by_cases i:a=2
  ·have d:Hid (Pg.Bv a b.size v.size=(g&&decide (v.size=0))):=by
    show _=_;rw[l.o,i];by_cases h0:v.size=0
    ·rw[h0];cases g<;>simp
    ·rw[xN h0];simp
   subst i;go_wp2_with fail;refine(k _).mono ?_;rintro c j ⟨rfl,rfl⟩
   cases g
   ·go_wp2_with fail;go_ret;exact⟨by rw[d.o];rfl,f.o⟩
   ·go_wp2_with fail;go_ret;exact⟨by rw[d.o,<-p.o];rfl,f.o⟩
  ·have d:Hid (Pg.Bv a b.size v.size=false):=by
    show _=_;rw[l.o,xN n,xN o,xN i];simp
   have s:(a==2)=false:=(by simpa using i);go_wp2_with fail;go_ret;exact⟨by rw[d.o];rfl,f.o⟩
theorem EE(v:Value)(a:gZ)(w:World)(N:Rk w v a):
  Calls Tryz.prog 198 #[v] w fun r L=>r=R_ (.bool (decide (a.length<=8)&&(Ac a).all Pg.Bh))/\Below w.heap.size w L:=by
 obtain⟨O,R,rfl,S,o⟩:=N;have t:=Aa o;clear o;go_in;by_cases X:8<a.length
 ·go_wp2_with fail;go_ret;exact⟨Il (by rw[xN (show ¬a.length<=8 by omega)];rfl),xA _ _⟩
 ·have m:Hid ((decide (a.length<=8)&&(Ac a).all Pg.Bh)=(Ac a).all Pg.Bh):=by
   show _=_;rw[xQ (show a.length<=8 by omega)];rfl
  go_wp2_with fail
  go_loopw [10] (fun l wr=>∃b:Nat,b<=a.length/\l=J_ b/\(Ac (a.drop b)).all Pg.Bh=(Ac a).all Pg.Bh/\Below w.heap.size w wr) (fun l _=>a.length-(intOf l).toNat)
  case atStart=>exact⟨0,Y_,rfl,rfl,xA _ _⟩
  case round=>
   obtain⟨b,T,rfl,p,k⟩:=hrel;have i:=Aa p;have j:=Aa k;have u:=k.size;clear p k;by_cases c:b<a.length
   ·obtain⟨U,V,F,G,q⟩:=t.o.resolve_left O_;subst F;obtain⟨H,I,J⟩:=q.below j.o G b c;clear q;have y:Hid (Ac (a.drop b)=((a[b]'c).1,(a[b]'c).2.1.data.toList,(a[b]'c).2.2.data.toList)::Ac (a.drop (b+1))):=by
     show _=_;rw[yM c];rfl
    generalize a[b]'c=x at*;obtain⟨d,f,g⟩:=x;simp only at H I J;have z:=Aa (j.o.alloc u (C_ #[J_ d,B_ f,B_ g] 34));have A:Hid (Pg.Bh (d,f.data.toList,g.data.toList)=Pg.Bv d f.size g.size):=(by show _=_;unfold Pg.Bh;simp only[Ah]);rw[y.o,bC,A.o]at i;go_wp2_with fail;refine(Xa d f g _).mono ?_;rintro r W ⟨rfl,s⟩;have n:=Aa (z.o.trans (s.mono K_));clear s;generalize Pg.Bv d f.size g.size=M at*
    cases M
    ·have B:Hid ((Ac a).all Pg.Bh=false):=by
      show _=_;rw[<-i.o];rfl
     go_wp2_with fail;go_ret;exact⟨by rw[m.o,B.o];rfl,n.o⟩
    ·have C:Hid ((Ac (a.drop (b+1))).all Pg.Bh=(Ac a).all Pg.Bh):=by
      show _=_;rw[<-i.o];rfl
     go_wp2_with fail
     go_roundw
     case rel=>exact⟨b+1,O_,W_,C.o,n.o⟩
     case measure=>simp[intOf];omega
   ·have D:Hid ((Ac a).all Pg.Bh=true):=by
     show _=_;rw[<-i.o,zG O_];rfl
    go_wp2_with fail;go_ret;exact⟨by rw[m.o,D.o];rfl,j.o⟩
theorem TH(k:Int)(A:Value)(l m n:Option Addr)(b c d o p q:Nat)(a:gY)(w:World)(g:Fa w A a)(G:a.length<=1000000000):
  Calls Tryz.prog 140 #[.agg #[J_ k,A,L_ l b o,L_ m c p,L_ n d q]] w fun t f=>t=R_ (.bool (Pg.Cx none (Ab a)&&decide (a.length<=16)&&decide (b=0)&&decide (c=0)&&decide (d=0)))/\Below w.heap.size w f:=by
 generalize i:(Pg.Cx none (Ab a)&&decide (a.length<=16)&&decide (b=0)&&decide (c=0)&&decide (d=0))=L;have f:=Aa i;clear i;obtain⟨r,s,rfl⟩:=g.shape;have B:=Aa g;clear g;have g:=Aa ((xA w.heap.size w).alloc X_ (C_ #[J_ k,L_ r a.length s,L_ l b o,L_ m c p,L_ n d q] 79));have C:=Aa (B.o.below ((xA w.heap.size w).alloc X_ (C_ #[J_ k,L_ r a.length s,L_ l b o,L_ m c p,L_ n d q] 79)));go_in;by_cases i:b=0
 ·by_cases j:c=0
  ·by_cases y:d=0
   ·subst i j y;by_cases z:a.length<=16
    ·have D:Hid ((Pg.Cx none (Ab a)&&decide (a.length<=16)&&decide (0=0)&&decide (0=0)&&decide (0=0))=Pg.Cx none (Ab a)):=by
      show _=_;rw[xQ z];simp
     go_wp2_with fail;refine(Wz _ a _ C.o G).mono ?_;rintro t J ⟨rfl,u⟩;have F:=Aa (g.o.trans (u.mono D_));clear u;generalize Pg.Cx none (Ab a)=M at*;go_wp2_with fail;go_ret;exact⟨by rw[<-f.o,D.o];rfl,F.o⟩
    ·go_wp2_with fail;go_ret;exact⟨Il (by rw[<-f.o,xN z];simp),g.o⟩
   ·have u:0<d:=O_;subst i j;go_wp2_with fail;go_ret;exact⟨Il (by rw[<-f.o,xN y];simp),g.o⟩
  ·have H:0<c:=O_;subst i;go_wp2_with fail;go_ret;exact⟨Il (by rw[<-f.o,xN j];simp),g.o⟩
 ·have I:0<b:=O_;go_wp2_with fail;go_ret;exact⟨Il (by rw[<-f.o,xN i];simp),g.o⟩
theorem LY(v:Value)(g:Int)(d:gY)(a:List Int)(b:hD)(c:gZ)(w:World)(a1:Mz w v g d a b c):
  Calls Tryz.prog 141 #[v] w fun s f=>s=R_ (.bool (Pg.Az (Ag b) none&&a.all Pg.Bz&&(Ac c).all Pg.Bh&&decide (d.length=0)&&decide (1<=a.length)&&decide (a.length<=4)&&decide (b.length+1=a.length)&&decide (c.length<=8)))/\Below w.heap.size w f:=by
 generalize f:(Pg.Az (Ag b) none&&a.all Pg.Bz&&(Ac c).all Pg.Bh&&decide (d.length=0)&&decide (1<=a.length)&&decide (a.length<=4)&&decide (b.length+1=a.length)&&decide (c.length<=8))=V;have A:=Aa f;clear f;obtain⟨a6,a7,a8,a9,rfl,C,b0,r,t,u⟩:=a1;obtain⟨i,j,rfl⟩:=C.shape;obtain⟨k,l,rfl,b1,-⟩:=id r;obtain⟨m,n,rfl,b2,-⟩:=id t;obtain⟨o,p,rfl,b3,-⟩:=id u;have f:=(xA w.heap.size w).alloc X_ (C_ #[J_ g,L_ i d.length j,L_ k a.length l,L_ m b.length n,L_ o c.length p] 79);have B:=Aa f;have L:=Aa (r.below f);have y:=Aa (t.below f);have z:=Aa (u.below f);have q:Hid ((w.alloc (C_ #[J_ g,L_ i d.length j,L_ k a.length l,L_ m b.length n,L_ o c.length p] 79)).heap[w.heap.size]?=some (C_ #[J_ g,L_ i d.length j,L_ k a.length l,L_ m b.length n,L_ o c.length p] 79 (0,0))):=xK _ _;have a2:w.heap.size<(w.alloc (C_ #[J_ g,L_ i d.length j,L_ k a.length l,L_ m b.length n,L_ o c.length p] 79)).heap.size:=D_;clear f C r t u;go_in;by_cases b7:0<d.length
 ·go_wp2_with fail;go_ret;exact⟨Il (by rw[<-A.o,xN (show ¬d.length=0 by omega)];simp),B.o⟩
 ·have M:Hid (decide (d.length=0)=true):=by exact xQ O_
  go_wp2_with fail;generalize w.alloc (C_ #[J_ g,L_ i d.length j,L_ k a.length l,L_ m b.length n,L_ o c.length p] 79)=b8 at*;refine(BC _ a _ L.o).mono ?_;rintro s b4 ⟨rfl,f⟩;have t:=Aa (B.o.trans (f.mono O_));obtain⟨D,F,G,H,I⟩:=Dv ((f.block w.heap.size O_).trans q.o);have N:=Aa (y.o.below f);have O:=Aa (z.o.below f);have a3:=f.size;have R:=Aa ((f.block w.heap.size O_).trans q.o);clear f y z q;have f:Hid ((decide (1<=a.length)&&decide (a.length<=4)&&a.all Pg.Bz)=(a.all Pg.Bz&&decide (1<=a.length)&&decide (a.length<=4))):=by show _=_;generalize a.all Pg.Bz=x;generalize decide (1<=a.length)=y;generalize decide (a.length<=4)=z;cases x<;>cases y<;>cases z<;>rfl
  generalize r:(decide (1<=a.length)&&decide (a.length<=4)&&a.all Pg.Bz)=J at*;have q:Hid (V=(J&&decide (b.length+1=a.length)&&Pg.Az (Ag b) none&&(decide (c.length<=8)&&(Ac c).all Pg.Bh))):=by
   show _=_;rw[<-A.o,f.o,M.o];generalize a.all Pg.Bz=x;generalize decide (1<=a.length)=y;generalize decide (a.length<=4)=z;generalize Pg.Az (Ag b) none=W;generalize(Ac c).all Pg.Bh=X;generalize decide (b.length+1=a.length)=Y;generalize decide (c.length<=8)=Z
   cases x<;>cases y<;>cases z<;>cases W<;>cases X<;>cases Y<;>cases Z<;>rfl
  clear r f
  cases J
  ·go_wp2_with fail;go_ret;exact⟨by rw[q.o];rfl,t.o⟩
  ·by_cases u:b.length+1=a.length
   ·have S:((b.length:Int)==(a.length:Int)-1)=true:=K_;have r:Hid (decide (b.length+1=a.length)=true):=(by exact xQ u);have a4:1<=a.length:=O_;clear u;go_wp2_with fail;refine(AC _ b _ N.o).mono ?_;rintro s b5 ⟨rfl,f⟩;have C:=Aa (t.o.trans (f.mono O_));have T:=Aa (O.o.below f);clear D F G H I;obtain⟨D,F,G,H,I⟩:=Dv ((f.block w.heap.size O_).trans R.o);have a5:=f.size;clear f;generalize Pg.Az (Ag b) none=a0 at*
    cases a0
    ·go_wp2_with fail;go_ret;exact⟨by rw[q.o,r.o];rfl,C.o⟩
    ·go_wp2_with fail;refine(EE _ c _ T.o).mono ?_;rintro s b6 ⟨rfl,f⟩;have U:=Aa (C.o.trans (f.mono O_));clear f;generalize(decide (c.length<=8)&&(Ac c).all Pg.Bh)=f at*;go_wp2_with fail;go_ret;exact⟨by rw[q.o,r.o];rfl,U.o⟩
   ·have S:((b.length:Int)==(a.length:Int)-1)=false:=K_;have r:Hid (decide (b.length+1=a.length)=false):=(by exact xN u);go_wp2_with fail;go_ret;exact⟨by rw[q.o,r.o];rfl,t.o⟩
theorem AD{g:gY}{p:List Int}{j:hD}{q:gZ}(a:Int)(n:a≠1)(x:Bool)(o:(Pg.Az (Ag j) none&&p.all Pg.Bz&&(Ac q).all Pg.Bh&&decide (g.length=0)&&decide (1<=p.length)&&decide (p.length<=4)&&decide (j.length+1=p.length)&&decide (q.length<=8))=x):Pg.Kh a (Ab g) p (Ag j) (Ac q)=(decide (a=2)&&x):=by
 unfold Pg.Kh;rw[xB n,<-o];simp only[Ab,Ag,Ac,xP];generalize p.all Pg.Bz=x;generalize decide (1<=p.length)=b;generalize decide (p.length<=4)=c;generalize Pg.Az _ none=d;generalize(List.all _ Pg.Bh)=f;generalize decide (j.length+1=p.length)=i;generalize decide (q.length<=8)=k;generalize decide (g.length=0)=l;generalize decide (a=2)=m
 cases x<;>cases b<;>cases c<;>cases d<;>cases f<;>cases i<;>cases k<;>cases l<;>cases m<;>rfl
theorem TI(v:Value)(a:Int)(c:gY)(b:List Int)(d:hD)(f:gZ)(w:World)(A:Mz w v a c b d f):
  Calls Tryz.prog 80 #[v] w fun o g=>o=R_ (.bool (Pg.Kh a (Ab c) b (Ag d) (Ac f)))/\Below w.heap.size w g:=by
 have B:=Aa A;generalize g:Pg.Kh a (Ab c) b (Ag d) (Ac f)=p;have k:=Aa g;clear g;obtain⟨R,S,T,U,rfl,i,L,j,m,n⟩:=A;obtain⟨M,N,rfl⟩:=i.shape;obtain⟨q,r,rfl,V,-⟩:=id j;obtain⟨s,t,rfl,W,-⟩:=id m;obtain⟨u,y,rfl,X,-⟩:=id n;have g:=(xA w.heap.size w).alloc X_ (C_ #[J_ a,L_ M c.length N,L_ q b.length r,L_ s d.length t,L_ u f.length y] 79);have l:=Aa g;have C:=Aa (i.below g);have D:=Aa (B.o.below g);clear g i j m n;go_in;by_cases g:a=1
 ·have F:Hid (p=(Pg.Cx none (Ab c)&&decide (c.length<=16)&&decide (b.length=0)&&decide (d.length=0)&&decide (f.length=0))):=by
   show _=_;rw[<-k.o];unfold Pg.Kh;rw[xD g];simp only[Ab,Ag,Ac,xP]
  have G:(a==1)=true:=by simpa using g
  clear g;go_wp2_with fail;refine(TH a _ q s u b.length d.length f.length r t y c _ C.o L).mono ?_;rintro o O ⟨rfl,j⟩;have m:=Aa (l.o.trans (j.mono D_));clear j;rw[<-F.o];go_wp2_with fail;go_ret;exact⟨rfl,m.o⟩
 ·have G:(a==1)=false:=by simpa using g
  by_cases i:a=2
  ·have H:(a==2)=true:=(by simpa using i);have I:=Aa (xQ i);have J:=Aa g;clear g i;go_wp2_with fail;refine(LY _ a c b d f _ D.o).mono ?_;rintro o O ⟨rfl,j⟩;have m:=Aa (l.o.trans (j.mono D_));clear j;generalize z:(Pg.Az (Ag d) none&&b.all Pg.Bz&&(Ac f).all Pg.Bh&&decide (c.length=0)&&decide (1<=b.length)&&decide (b.length<=4)&&decide (d.length+1=b.length)&&decide (f.length<=8))=x;have n:Hid (p=x):=by
    show _=_;rw[<-k.o,AD a J.o x z,I.o];rfl
   clear z;go_wp2_with fail;go_ret;exact⟨by rw[n.o];rfl,m.o⟩
  ·have H:(a==2)=false:=(by simpa using i);have n:Hid (p=false):=by
    show _=_;rw[<-k.o,AD a g _ rfl,xN i];rfl
   clear g i;go_wp2_with fail;go_ret;exact⟨by rw[n.o];rfl,l.o⟩
