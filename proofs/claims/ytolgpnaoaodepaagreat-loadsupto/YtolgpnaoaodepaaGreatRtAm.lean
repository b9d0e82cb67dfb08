import Derived.Test.YtolgpnaoaodepaaGreatLdVm
set_option maxHeartbeats 1000000
set_option maxRecDepth 20000
namespace Go.Proofs.YtolgpnaoaodepaaGreat
open Go.RowKit Ld Tr
variable {d:gY}{m x:hJ}{a i r t:Nat}{w n W c:World}{v b f p s y:Value}{g:Int}{e:TypeId}{u:hH}{q:Nat->Prop}{k:hF}{j:hD}
def RT(w:World)(b:Nat)(v:Value):Prop:=w.heap[b]?=some (C_ #[v] 113 (0,0))
theorem RT.lt{w:World}{a:Nat}{v:Value}(h:RT w a v):a<w.heap.size:=(xS.1 h).1
theorem RT.cells{w:World}{a:Nat}{v:Value}(h:RT w a v):w.cell? (Q_ a 0)=some v/\w.frozen? (Q_ a 0)=false:=by unfold RT at h;refine⟨?_,?_⟩<;>simp[World.cell?,World.frozen?,h]
theorem Acj{α:Type}{A B C:List α}{x:α}(e:A=B++x::C)(h:B.length<A.length):A[B.length]'h=x:=by subst e;simp
theorem Ack(g:∀x∈d.take a,x.1.data.toList<m.data.toList)(i:a<=d.length)(f:∀h:a<d.length,¬(d[a]'h).1.data.toList<m.data.toList):Fc d m=d.take a/\Dr d m=d.drop a:=by
 unfold Fc Dr;have e:d=d.take a++d.drop a:=(zK a d).symm;have b:∀x∈d.take a,decide (x.1.data.toList<m.data.toList)=true:=fun x c=>xQ (g x c)
 have c:(d.drop a).takeWhile (fun x=>decide (x.1.data.toList<m.data.toList))=[]/\(d.drop a).dropWhile (fun x=>decide (x.1.data.toList<m.data.toList))=d.drop a:=by
  by_cases h:a<d.length
  ·rw[yM h];exact⟨List.takeWhile_cons_of_neg (by rw[yL];exact f h),List.dropWhile_cons_of_neg (by rw[yL];exact f h)⟩
  ·rw[kB O_];simp
 constructor
 ·conv=>lhs;rw[e]
  rw[gP b,c.1,yC]
 ·conv=>lhs;rw[e]
  rw[gH b,c.2]
theorem JT(t:Nat)(v:Value)(b:gY)(a:hJ)(w:World)(M:RT w t v)(h:Ap 0 w v b)(Y:b.length<=100000000):
  Calls Tryz.prog 162 #[A_ t,B_ a] w fun I J=>I=R_ (.tuple #[J_ ((Fc b a).length:Nat),.bool (Dt (Dr b a) a)])/\Below w.heap.size w J:=by
 obtain⟨N,O,rfl⟩:=Ad h;obtain⟨R,S⟩:=M.cells;have u:=Aa h;clear h;go_in;go_wp2_with fail
 go_loopw [6] (fun o wr=>∃c:Nat,o=J_ (c:Nat)/\c<=b.length/\(∀x∈b.take c,x.1.data.toList<a.data.toList)/\wr=w) (fun o _=>b.length-(intOf o).toNat)
 case atStart=>exact⟨0,rfl,Y_,fun x f=>by simp at f,rfl⟩
 case round=>
  obtain⟨c,rfl,n,r,rfl⟩:=hrel;have m:=Aa r;clear r;by_cases k:c<b.length
  ·obtain⟨T,U,e,V,-,W,G,H⟩:=u.o.at c k;simp only[xJ]at e;obtain⟨rfl,-,rfl⟩:=e;obtain⟨x,f⟩:∃x,b[c]'k=x:=⟨_,rfl⟩;rw[f]at G H;have p:=Aa f;have y:Hid (b.take (c+1)=b.take c++[x]):=by
    show _=_;rw[zN,xW k,f];rfl
   clear f;obtain⟨d,X⟩:=x;by_cases l:d.data.toList<a.data.toList
   ·have z:Op.bytesLess d.toList a.toList=true:=(by rw[Af,Af,Cj];exact xQ l);have A:Hid (∀x∈b.take (c+1),x.1.data.toList<a.data.toList):=fun L s=>by
     rw[y.o]at s;rcases xE.1 s with j|j
     ·exact m.o L j
     ·rw[yR.1 j];exact l
    go_wp2_with fail;exact⟨⟨c+1,W_,O_,A.o,by trivial⟩,by simp[intOf];omega⟩
   ·have z:Op.bytesLess d.toList a.toList=false:=(by rw[Af,Af,Cj];exact xN l);obtain⟨g,i⟩:=Ack m.o n (fun _=>by rw[p.o];exact l);have B:=Aa g;have C:Hid (Dt (Dr b a) a=decide (d.data.toList=a.data.toList)):=by
     show _=_;rw[i,yM k,p.o];rfl
    clear g i;go_upto_region 5 with fail;go_quiet (fail);go_wp2_with fail;refine yS (v:=.tuple #[J_ (c:Nat),.bool (d.toList==a.toList)]) ?_ rfl ⟨?_,Ao (xA _ _) _⟩
    ·simp[results,Tryz.results162,go_sem]
    ·rw[B.o,C.o,xR,jL n,Af,Af];have D:(d.data.toList==a.data.toList)=decide (d.data.toList=a.data.toList):=by
      by_cases e:d.data.toList=a.data.toList
      ·rw[e];simp
      ·rw[xN e];exact fR.2 e
     rw[D]
  ·have F:c=b.length:=O_;subst F;obtain⟨g,i⟩:=Ack m.o n (fun j=>absurd j k);have q:Hid ((Fc b a).length=b.length/\Dt (Dr b a) a=false):=by
    show _/\_;rw[g,i,zQ,qQ];exact⟨rfl,rfl⟩
   clear g i;go_wp2_with fail;refine yS (v:=.tuple #[J_ (b.length:Nat),.bool false]) ?_ rfl ⟨?_,xA _ _⟩
   ·simp[results,Tryz.results162,go_sem]
   ·rw[q.o.1,q.o.2]
theorem Acl(g:Nat)(v:Value)(b:gY)(a:hJ)(w:World)(c:RT w g v)(h:Ap 0 w v b)(A:b.length<=100000000):
  Calls Tryz.prog 113 #[A_ g,B_ a] w fun l d=>l=R_ (.tuple #[B_ (stV (Et (Dr b a) a)),J_ (if Dt (Dr b a) a then 0 else 3)])/\Below w.heap.size w d:=by
 have q:=Aa (JT g v b a w c h A);have m:=Aa c;have r:=Aa h;clear c h;go_in;go_wp2_with fail;refine q.o.mono ?_;rintro l p ⟨rfl,c⟩;have d:RT p g v:=(c.block g m.o.lt).trans m.o;obtain⟨B,C⟩:=d.cells;have s:Hid (Ap 0 p v b):=Ae r.o c X_;have n:=Aa c;clear c d
 cases d:Dt (Dr b a) a with
 | false=>
  have i:Hid (Et (Dr b a) a=none):=by
   show _=_;unfold Et
   cases c:Dr b a with
   | nil=>rfl
   | cons x l=>rw[c]at d;exact xB (fS d)
  go_wp2_with fail
  all_goals
   refine yS (v:=.tuple #[B_ ⟨#[]⟩,J_ 3]) ?_ rfl ⟨?_,n.o⟩
   ·simp[results,Tryz.results113,go_sem]
   ·rw[i.o];rfl
 | true=>
  obtain⟨x,f,c,t⟩:∃x f,Dr b a=x::f/\x.1.data.toList=a.data.toList:=by
   cases c:Dr b a with
   | nil=>rw[c]at d;cases d
   | cons x f=>rw[c]at d;exact⟨x,f,rfl,jZ d⟩
  have j:b=Fc b a++x::f:=by rw[<-c];unfold Fc Dr;exact(bN ..).symm
  have k:(Fc b a).length<b.length:=by have:=yW List.length j;rw[xC,xH]at this;omega
  have o:b[(Fc b a).length]'k=x:=Acj j k;obtain⟨D,F,e,G,-,H,u,y⟩:=s.o.at _ k;subst e;rw[o]at u y;have i:Hid (Et (Dr b a) a=some x.2.data.toList):=by show _=_;rw[c];exact xD t
  obtain⟨I,z⟩:=x;clear j o c;generalize(Fc b a).length=j at*;go_wp2_with fail
  all_goals
   refine yS (v:=.tuple #[B_ z,J_ 0]) ?_ rfl ⟨?_,n.o⟩
   ·simp[results,Tryz.results113,go_sem]
   ·rw[i.o];rfl
theorem RT.set(h:RT w a v)(b:Value):RT (w.setCell (Q_ a 0) b) a b:=by unfold RT at*;rw[Ak (i:=0) h];rfl
theorem Ap.pre{D:Option Addr}{n:Nat}{C:gY}(h:Ap 0 w (L_ D n a) (d++C)):Ap 0 w (L_ D d.length a) d:=by
 rcases h.2 with⟨e,c⟩|⟨f,p,g,e,i,j,k,l,m,o⟩
 ·simp only[xJ]at e;obtain⟨rfl,-,rfl⟩:=e;have b:d=[]:=zT (by rw[xC]at c;omega);subst b;exact yP _ _ _ _
 ·simp only[xJ]at e;obtain⟨rfl,-,rfl⟩:=e;refine⟨Bw d,.inr ⟨f,a,g,rfl,i,j,?_,l,m,?_⟩⟩
  ·rw[xC]at k;omega
  ·have:=yW (List.take (d.length*2)) o;rw[jO,xC,jL O_,Dk,dY (by rw[Bw])]at this;exact this
theorem Ap.rest(h:Ap 0 w (L_ (P_ a) d.length i) d)(b:Nat)(k:b<=d.length):∀c f,(Al (d.drop b))[c]?=some f->w.cell? (((Q_ a (b*2)):Addr).add c)=some f:=fun c f g=>by
 have h0:=h.cells rfl;have e:Al d=Al (d.take b)++Al (d.drop b):=by rw[<-Dk,zK]
 have j:(Al d)[b*2+c]?=some f:=by rw[e,kC (by rw[Bw,xR];omega),Bw,xR,jL k];rw[show b*2+c-b*2=c by omega];exact g
 have g:=h0 (b*2+c) f j;rw[Dy]at g⊢;simpa using g
def Nt(il:gY)(k:Int)(key x:hJ):Tr.Key:=if Dt (Dr il key) key/\k=3 then Lh ((Et (Dr il key) key).getD []++x.data.toList)else x.data.toList
theorem UJ(h:Dt d m=false):Et d m=none:=by
 cases d with
 | nil=>rfl
 | cons y D=>exact xB (fS h)
theorem Yy(j:Tr.Cb (Ab d))(b:Int)(a x:hJ)(l:x.size<=16)(m:b=1\/b=2\/b=3):
  Kl (Ab d) (chP b a x)=Ab (Fc d a)++((if b=2 then[]else[(a.data.toList,Nt d b a x)])++Ab (if Dt (Dr d a) a then(Dr d a).drop 1 else Dr d a)):=by
 have k:=Wl (Nf d a j) j;unfold Kl;show Pc (Ab d) a.data.toList (Tr.Es (Ce (Ab d) a.data.toList) (chP b a x))=_;rw[k];have i:∀g,g=Et (Dr d a) a->((Tr.Es g (chP b a x)).map fun v=>(a.data.toList,v)).toList=if b=2 then[]else[(a.data.toList,Nt d b a x)]:=by
  rintro g rfl;unfold Tr.Es Nt;show(Option.map _ (if b=2 then none else if b=3 then some (Lh ((Et (Dr d a) a).getD []++x.data.toList))else some x.data.toList)).toList=_;rcases m with rfl|rfl|rfl
  ·simp
  ·simp
  ·cases c:Dt (Dr d a) a with
   | true=>simp
   | false=>
    rw[UJ c];simp only[Option.getD_none,zI];rw[Wj (by rw[Ah];exact l)];simp
 cases c:Dt (Dr d a) a with
 | false=>rw[Ab8 rfl rfl c,i _ rfl];rfl
 | true=>
  cases f:Dr d a with
  | nil=>rw[f]at c;cases c
  | cons y D=>
   rw[f]at c;rw[<-f,VY rfl f (jZ c),i _ rfl,f];rfl
structure RmB(w:World)(b:Nat)(v:Value)(il:gY)(k:Int)(key x:hJ)(W:World):Prop where
 bel:Below w.heap.size w W
 ch:ChB W w.heap.size k key x
 rt:RT W b v
 row:Ap 0 W v il
theorem RmB.below(h:RmB w a v d g m x W)(b:Below W.heap.size W c):RmB w a v d g m x c:=
 ⟨h.bel.trans (b.mono h.bel.size),(b.block _ h.ch.lt).trans h.ch,(b.block _ h.rt.lt).trans h.rt,Ae h.row b X_⟩
def RmQ(w:World)(b:Nat)(v:Value)(il:gY)(k:Int)(key x:hJ)(r:Ending)(w':World):Prop:=
 r=R_ (J_ (if Pg.Bv k key.size x.size then 0 else 1))/\Mod (fun g=>g=b) w w'/\(Pg.Bv k key.size x.size=false->RT w' b v)/\(Pg.Bv k key.size x.size=true->∃v' il',RT w' b v'/\Ap 0 w' v' il'/\Ab il'=Kl (Ab il) (chP k key x)/\∀g,v'.ownBlock=some g->w.heap.size<=g)
theorem MP{l1 l2:gY}(o:Pg.Bv g m.size x.size=true)(p:RmB w a v d g m x c)(r:Below c.heap.size c n)(u:a<w.heap.size)(s:i=l2.length)(k:n.ownsRow c.heap.size 51 2 b (l1.length+i) (Al l1++Al l2))(t:Ab (l1++l2)=Kl (Ab d) (chP g m x)):RmQ w a v d g m x (R_ (J_ 0)) (n.setCell (Q_ a 0) b):=by have q:=p.bel.size;subst s;have i:=Mod.setCell n a 0 b;have l:=(p.below r);refine⟨by rw[o];rfl,(show Mod (fun f=>f=a) w _ from(Mod.of_below (F:=fun f=>f=a) l.bel).trans i (fun _ _ j=>j) (fun _ _ j=>j)),⟨fun j=>(by rw[o]at j;cases j),fun _=>⟨b,l1++l2,l.rt.set b,?_,t,fun f j=>xI q (xF k f j).1⟩⟩⟩;refine i.row (Dp (B:=c.heap.size) ?_) (fun f j e=>by have:=(xF k f j).1;omega);rw[xC,Dk];exact k
theorem Yz(a5:Nat)(v:Value)(a:gY)(c:Int)(b x:hJ)(w:World)(d2:RT w a5 v)(h:Ap 0 w v a)(k4:a.length<=20000000)(d3:Tr.Cb (Ab a))(i9:∀i6∈a,i6.2.size<=16):
  Calls Tryz.prog 112 #[A_ a5,.agg #[J_ c,B_ b,B_ x]] w (RmQ w a5 v a c b x):=by
 have c1:Below w.heap.size w (w.alloc (C_ #[J_ c,B_ b,B_ x] 34)):=(xA _ w).alloc X_ _;have d4:Hid (RmB w a5 v a c b x (w.alloc (C_ #[J_ c,B_ b,B_ x] 34))):=⟨c1,xK _ _,(c1.block a5 d2.lt).trans d2,Ae h c1 X_⟩;have c2:=Aa d2.lt;obtain⟨h8,L,rfl⟩:=Ad h;have g2:a.length<=L/\(h8=none->L=0):=by
  rcases h.2 with⟨e,h3⟩|⟨D,i2,i3,e,_,_,i4,_⟩
  ·simp only[xJ]at e;obtain⟨rfl,j2,rfl⟩:=e;exact⟨O_,fun _=>rfl⟩
  ·simp only[xJ]at e;obtain⟨rfl,-,rfl⟩:=e;exact⟨i4,fun j=>by cases j⟩
 obtain⟨g2,-⟩:=g2;clear d2 h c1;go_in;obtain⟨t,u,p⟩:=d4.o.ch.cells;go_wp2_with fail;generalize w.alloc (C_ #[J_ c,B_ b,B_ x] 34)=i8 at*;refine(CY c b x i8).mono ?_;rintro i0 i1 ⟨rfl,g7⟩;have S:=Aa (d4.o.below g7);clear g7 t u p d4;obtain⟨t,u,p⟩:=S.o.ch.cells
 cases a0:Pg.Bv c b.size x.size with
 | false=>
  have T:=Aa a0;clear a0;go_wp2_with fail;go_ret;refine⟨by rw[T.o];rfl,Mod.of_below S.o.bel,fun _=>S.o.rt,fun j=>by rw[T.o]at j;cases j⟩
 | true=>
  have T:=Aa a0;have g:(c=1\/c=2\/c=3)/\x.size<=16:=by unfold Pg.Bv at a0;simp only[yK,kT,yL]at a0;exact⟨O_,a0.1.2⟩
  obtain⟨g,e8⟩:=g;clear a0;go_wp2_with fail;refine(JT a5 _ a b i1 S.o.rt S.o.row O_).mono ?_;rintro i0 d ⟨rfl,g8⟩;have k:=Aa (S.o.below g8);clear g8 t u p S;obtain⟨t,u,p⟩:=k.o.ch.cells;obtain⟨B,C⟩:=k.o.rt.cells;have a6:=Aa (Nf a b d3);have h3:(Fc a b).length<=a.length:=by have:=yW List.length a6.o.1;rw[xC]at this;omega
  have d5:Hid (Dt (Dr a b) b=true->∃M c9,Dr a b=M::c9/\(Fc a b).length<a.length/\Et (Dr a b) b=some M.2.data.toList/\M.2.size<=16/\∀h:(Fc a b).length<a.length,a[(Fc a b).length]'h=M):=fun d0=>by
   cases b5:Dr a b with
   | nil=>rw[b5]at d0;cases d0
   | cons M c9=>
    rw[b5]at d0;have e:=a6.o.1;rw[b5]at e;have a1:(Fc a b).length<a.length:=(by have:=yW List.length e;rw[xC,xH]at this;omega);have c3:=Acj e a1;exact⟨M,c9,rfl,a1,xD (jZ d0),i9 M (by rw[e];simp),fun _=>c3⟩
  have d6:Hid (Dt (Dr a b) b=false\/(Dt (Dr a b) b=true/\c≠3)\/(Dt (Dr a b) b=true/\c=3)):=by
   cases Dt (Dr a b) b
   ·exact .inl rfl
   ·by_cases j:c=3
    ·exact .inr (.inr ⟨rfl,j⟩)
    ·exact .inr (.inl ⟨rfl,j⟩)
  have j0:=Aa k.o.bel.size;have d7:=Aa (Bw (Fc a b));rcases k.o.row.2 with⟨e,i5⟩|⟨D,i2,i3,e,-,h1,-⟩
  ·simp only[xJ]at e;obtain⟨rfl,-,rfl⟩:=e;have h4:a=[]:=zT i5;subst h4;obtain⟨c7,c8,j3,j4,j5⟩:=zB Cg;have a7:Hid (d.ownsRow d.heap.size 51 2 Z_ 0 []):=yP _ _ _ _;have c4:Hid (d.heap.size<=d.heap.size):=X_;have a2:Hid (Ab (([]++if c=2 then[]else[(b,x)])++[])=Kl (Ab []) (chP c b x)):=by
    show _=_;rw[Yy d3 c b x e8 g];by_cases j:c=2
    ·rw[xD j,xD j];rfl
    ·rw[xB j,xB j];rfl
   rw[show Dt (Dr [] b) b=false from rfl,show(Fc [] b).length=0 from rfl];clear d6 d5 d7;by_cases l:c=2
   ·have a8:(c !=2)=false:=(by simpa using l);have r:=a2.o;rw[xD l]at r;have d8:=Aa r;clear r l
    go_wp2_with (at_builtin;first
     | (refine aS rfl (.tmp 47) (.tmp 53) 30 rfl d.heap.size 51 c7 2 zC c8 Z_ 0 [] rfl a7.o rfl ?_)
     | (refine aS rfl (.tmp 69) (.tmp 75) 30 rfl d.heap.size 51 c7 2 zC c8 Z_ 0 [] rfl a7.o rfl ?_))
    go_ret;exact MP (l1:=[]++[]) (l2:=[]) T.o k.o (xA _ _) c2.o rfl (by simpa[Al]using a7.o) d8.o
   ·have a8:(c !=2)=true:=(by simpa using l);have r:=a2.o;rw[xB l]at r;have d8:=Aa r;clear r l
    go_wp2_with (at_builtin;first
     | (refine aS rfl (.tmp 47) (.tmp 53) 30 rfl d.heap.size 51 c7 2 zC c8 Z_ 0 [] rfl a7.o rfl ?_)
     | (refine Ix d rfl (.tmp 58) (.tmp 63) 30 51 zC _ 2 32 Cg rfl Do Do rfl d.heap.size Z_ 0 [] rfl a7.o [B_ b,B_ x] rfl (by intro V R;simp at R;rcases R with rfl|rfl<;>rfl) rfl O_ c4.o ?_;intro g9 f6 a3 a4 f7;have n:=Aa a3;have O:Hid (Below d.heap.size d f6):=(xA _ d).grown a4 X_ (fun c g=>by simp[Value.ownBlock]at g);clear a3 a4 f7 B C t u p;obtain⟨j6,j7,j8,rfl⟩:=Fo n.o;obtain⟨B,C⟩:=(k.o.below O.o).rt.cells)
     | (refine aS rfl (.tmp 69) (.tmp 75) 30 rfl d.heap.size 51 c7 2 zC c8 _ _ _ rfl n.o rfl ?_))
    go_ret;exact MP (l1:=[]++[(b,x)]) (l2:=[]) T.o k.o O.o c2.o rfl (by simpa[Al]using n.o) d8.o
  ·simp only[xJ]at e;obtain⟨rfl,-,rfl⟩:=e;have j1:D<d.heap.size:=(xS.1 h1).1;have g3:Hid (∀d1 V,(Al (Fc a b))[d1]?=some V->d.cell? (((Q_ D 0):Addr).add d1)=some V):=by
    have h5:Ap 0 d (L_ (P_ D) (Fc a b).length L) (Fc a b):=Ap.pre (n:=a.length) (C:=Dr a b) (by rw[<-a6.o.1];exact k.o.row);exact h5.cells rfl
   have c4:Hid (d.heap.size<=d.heap.size):=X_;clear h1;rcases d6.o with q|⟨q,b7⟩|⟨q,b7⟩
   case' inr.inl=>
    obtain⟨i,m⟩:∃i,i=x:=⟨x,rfl⟩;have a9:Hid (i.data.toList=Nt a c b x):=(by show _=_;unfold Nt;rw[m,q];simp);rw[<-m]at p;clear m;have c5:Hid (Dt (Dr a b) b=false):=q;rw[q]
   case' inr.inr.inl=>
    obtain⟨i,m⟩:∃i,i=x:=⟨x,rfl⟩;have a9:Hid (i.data.toList=Nt a c b x):=(by show _=_;unfold Nt;rw[m,xB (fun j=>b7 j.2)]);rw[<-m]at p;clear m;have d9:(c==3)=false:=(by simpa using b7);obtain⟨-,-,-,a1,-⟩:=d5.o q;have c5:Hid (Dt (Dr a b) b=true):=q;rw[q]
   case' inr.inr.inr=>
    obtain⟨M,c9,b5,a1,g6,h9,c3⟩:=d5.o q;obtain⟨j9,k0,e,k1,-,k2,e9,f0⟩:=k.o.row.at _ a1;simp only[xJ,xX,yT,yG,yB]at e;obtain⟨rfl,rfl⟩:=e;rw[c3 a1]at e9 f0;obtain⟨k3,y⟩:=M;have h6:=Aa g6;have c5:Hid (Dt (Dr a b) b=true):=q;rw[q];clear b5 c3 g6;have d9:(c==3)=true:=(by simpa using b7);have g4:(y.size+x.size)<=32:=by simp only at h9;omega
   all_goals clear d6
   case' inr.inr.inr=>
    have e0:(y++x).size=y.size+x.size:=ByteArray.size_append;have c6:(y++x).data.toList=y.data.toList++x.data.toList:=(by rw[qN,vD]);have g5:Hid (Nt a c b x=Lh (y.data.toList++x.data.toList)):=(by show _=_;unfold Nt;rw[xD ⟨q,b7⟩,h6.o];rfl);by_cases h2:16<y.size+x.size
   case' pos=>
    obtain⟨i,m⟩:∃i,i=(y++x).extract (y.size+x.size-16) (y.size+x.size):=⟨_,rfl⟩;have a9:Hid (i.data.toList=Nt a c b x):=by show _=_;rw[m,g5.o,<-c6,<-e0,zZ];unfold Lh;rw[Ah,yY (by rw[xY,Ah];omega)]
   case' neg=>
    obtain⟨i,m⟩:∃i,i=y++x:=⟨_,rfl⟩;have a9:Hid (i.data.toList=Nt a c b x):=by show _=_;rw[m,g5.o,<-c6,Wj (by rw[Ah];omega)]
   case inr.inl=>
    generalize c0:(Fc a b).length=f at*;have F:=Aa c0;clear c0;go_upto_region 11 with fail
    try clear e9 f0
    try clear d9
    try clear h2 e0 c6 g4
    try rw[<-m]
    try clear m
    go_upto_if 57 with(at_builtin;refine Ni d rfl (.tmp 47) (.tmp 53) 30 51 zC _ 2 32 Cg rfl Do Do rfl d.heap.size Z_ 0 [] rfl (yP _ _ _ _) (Q_ D 0) f L (Al (Fc a b)) rfl d7.o g3.o (Ew _) O_ c4.o ?_;intro W N X Y f8;have e1:=((k.o.below ((xA _ d).grown Y X_ (fun c g=>by simp[Value.ownBlock]at g))).ch.cells).1);clear e1;have s:Hid (Below d.heap.size d N):=(xA _ d).grown Y X_ (fun c g=>by simp[Value.ownBlock]at g);have U:=Aa (k.o.below s.o);clear t u p B C;obtain⟨t,u,p⟩:=U.o.ch.cells;obtain⟨B,C⟩:=U.o.rt.cells;have G:Hid (Ap d.heap.size N W (Fc a b)):=(by show Ap _ _ _ _;unfold Ap;rw[zR,zI]at X;rw[F.o];exact X);have b0:=s.o.size;clear X Y f8
    go_cut [9] (fun g1 b8=>Ap d.heap.size b8 g1 (Fc a b++if c=2 then[]else[(b,i)])/\Below d.heap.size d b8)
    case first=>
     by_cases l:c=2
     ·try(exfalso;omega)
      all_goals
       have a8:(c !=2)=false:=(by simpa using l);have r:Hid (Ap d.heap.size N W (Fc a b++if c=2 then[]else[(b,i)])):=(by show Ap _ _ _ _;rw[xD l,yC];exact G.o);clear l;go_wp2_with fail;go_meet;exact⟨r.o,s.o⟩
     ·have a8:(c !=2)=true:=(by simpa using l);have e2:=Aa l;clear l;go_wp2_with (at_builtin;refine Ix N rfl (.tmp 58) (.tmp 63) 30 51 zC _ 2 32 Cg rfl Do Do rfl d.heap.size W _ _ rfl G.o [B_ b,B_ i] rfl (by intro V R;simp at R;rcases R with rfl|rfl<;>rfl) rfl (by have:=F.o;omega) b0 ?_;intro g9 f6 a3 a4 f7)
      go_meet;have o:=s.o.grown a4 b0 (fun c g=>(xF G.o c g).1);refine⟨?_,o⟩;rw[xB e2.o];unfold Ap;rw[xC,Jo];exact a3
    case rest=>
     obtain⟨b6,o⟩:=hcut;have n:=Aa b6;have O:=Aa o;have b1:=Aa (k.o.below o);have H:=o.size;clear b6 o t u p B C U s G;obtain⟨B,C⟩:=b1.o.rt.cells;have h7:IntKind.i64.wrap ((f:Int)+1)=(f:Int)+1:=zY _ ⟨O_,O_⟩;go_upto_region 16 with fail;have e3:f<=a.length:=O_;have e4:=Aa (b1.o.row.rest (f) e3);have b2:Hid ((Al (a.drop (f))).length=(a.length-(f))*2):=(by show _=_;rw[Bw,xY]);have a2:Hid (Ab ((Fc a b++if c=2 then[]else[(b,i)])++a.drop (f))=Kl (Ab a) (chP c b x)):=by
      show _=_;rw[Yy d3 c b x e8 g,c5.o];have e:a.drop (f)=Dr a b:=by
       have e5:a.drop f=Dr a b:=(by have b3:=yW (List.drop (Fc a b).length) a6.o.1;rw[jQ,F.o]at b3;exact b3);exact e5
      rw[e,<-a9.o];unfold Ab;rw[yX,yX,xT];by_cases j:c=2
      ·rw[xD j,xD j];rfl
      ·rw[xB j,xB j];rfl
     have e6:Hid ((Fc a b++if c=2 then[]else[(b,i)]).length<=a.length+1):=by show _<=_;rw[xC,F.o];split<;>simp<;>omega
     by_cases i7:L=f
     case' pos=>
      have e7:Hid (Al (a.drop (f))=[]):=by show _=_;rw[kB O_];rfl
     all_goals
      have b4:(Fc a b++if c=2 then[]else[(b,i)]).length+(a.length-(f))<=1000000000:=by have:=e6.o;omega
      go_wp2_with (at_builtin;first
       | (refine Ni wc rfl (.tmp 69) (.tmp 75) 30 51 zC _ 2 32 Cg rfl Do Do rfl d.heap.size u9 _ _ rfl n.o (Q_ D ((f)*2)) (a.length-(f)) (L-(f)) (Al (a.drop (f))) rfl b2.o e4.o (Ew _) b4 H ?_;intro f9 g0 z A Z;have I:=Aa z;have J:=Aa (O.o.grown A H (fun c g=>(xF n.o c g).1));clear z A Z;obtain⟨f1,f2,f3,rfl⟩:=Fo I.o;obtain⟨f4,f5⟩:=(k.o.below J.o).rt.cells)
       | (refine Ni wc rfl (.tmp 69) (.tmp 75) 30 51 zC _ 2 32 Cg rfl Do Do rfl d.heap.size u9 _ _ rfl n.o (Q_ D 0) (a.length-(f)) 0 (Al (a.drop (f))) rfl b2.o (fun d1 V b9=>by rw[e7.o]at b9;simp at b9) (Ew _) b4 H ?_;intro f9 g0 z A Z;have I:=Aa z;have J:=Aa (O.o.grown A H (fun c g=>(xF n.o c g).1));clear z A Z;obtain⟨f1,f2,f3,rfl⟩:=Fo I.o;obtain⟨f4,f5⟩:=(k.o.below J.o).rt.cells))
      go_ret;exact MP T.o k.o J.o c2.o (xY ..).symm I.o a2.o
   all_goals
    generalize c0:(Fc a b).length=f at*;have F:=Aa c0;clear c0;go_upto_region 11 with fail
    try clear e9 f0
    try clear d9
    try clear h2 e0 c6 g4
    try rw[<-m]
    try clear m
    go_upto_if 57 with(at_builtin;refine Ni d rfl (.tmp 47) (.tmp 53) 30 51 zC _ 2 32 Cg rfl Do Do rfl d.heap.size Z_ 0 [] rfl (yP _ _ _ _) (Q_ D 0) f L (Al (Fc a b)) rfl d7.o g3.o (Ew _) O_ c4.o ?_;intro W N X Y f8;have e1:=((k.o.below ((xA _ d).grown Y X_ (fun c g=>by simp[Value.ownBlock]at g))).ch.cells).1);clear e1;have s:Hid (Below d.heap.size d N):=(xA _ d).grown Y X_ (fun c g=>by simp[Value.ownBlock]at g);have U:=Aa (k.o.below s.o);clear t u p B C;obtain⟨t,u,p⟩:=U.o.ch.cells;obtain⟨B,C⟩:=U.o.rt.cells;have G:Hid (Ap d.heap.size N W (Fc a b)):=(by show Ap _ _ _ _;unfold Ap;rw[zR,zI]at X;rw[F.o];exact X);have b0:=s.o.size;clear X Y f8
    go_cut [9] (fun g1 b8=>Ap d.heap.size b8 g1 (Fc a b++if c=2 then[]else[(b,i)])/\Below d.heap.size d b8)
    case first=>
     by_cases l:c=2
     ·try(exfalso;omega)
      all_goals
       have a8:(c !=2)=false:=(by simpa using l);have r:Hid (Ap d.heap.size N W (Fc a b++if c=2 then[]else[(b,i)])):=(by show Ap _ _ _ _;rw[xD l,yC];exact G.o);clear l;go_wp2_with fail;go_meet;exact⟨r.o,s.o⟩
     ·have a8:(c !=2)=true:=(by simpa using l);have e2:=Aa l;clear l;go_wp2_with (at_builtin;refine Ix N rfl (.tmp 58) (.tmp 63) 30 51 zC _ 2 32 Cg rfl Do Do rfl d.heap.size W _ _ rfl G.o [B_ b,B_ i] rfl (by intro V R;simp at R;rcases R with rfl|rfl<;>rfl) rfl (by have:=F.o;omega) b0 ?_;intro g9 f6 a3 a4 f7)
      go_meet;have o:=s.o.grown a4 b0 (fun c g=>(xF G.o c g).1);refine⟨?_,o⟩;rw[xB e2.o];unfold Ap;rw[xC,Jo];exact a3
    case rest=>
     obtain⟨b6,o⟩:=hcut;have n:=Aa b6;have O:=Aa o;have b1:=Aa (k.o.below o);have H:=o.size;clear b6 o t u p B C U s G;obtain⟨B,C⟩:=b1.o.rt.cells;have h7:IntKind.i64.wrap ((f:Int)+1)=(f:Int)+1:=zY _ ⟨O_,O_⟩;go_upto_region 16 with fail
     try rw[show((f:Int)+1)=((f+1:Nat):Int)by omega]
     have e3:f+1<=a.length:=O_;have e4:=Aa (b1.o.row.rest (f+1) e3);have b2:Hid ((Al (a.drop (f+1))).length=(a.length-(f+1))*2):=(by show _=_;rw[Bw,xY]);have a2:Hid (Ab ((Fc a b++if c=2 then[]else[(b,i)])++a.drop (f+1))=Kl (Ab a) (chP c b x)):=by
      show _=_;rw[Yy d3 c b x e8 g,c5.o];have e:a.drop (f+1)=(Dr a b).drop 1:=by
       have e5:a.drop f=Dr a b:=(by have b3:=yW (List.drop (Fc a b).length) a6.o.1;rw[jQ,F.o]at b3;exact b3);rw[<-e5,jG]
      rw[e,<-a9.o];unfold Ab;rw[yX,yX,xT];by_cases j:c=2
      ·rw[xD j,xD j];rfl
      ·rw[xB j,xB j];rfl
     have e6:Hid ((Fc a b++if c=2 then[]else[(b,i)]).length<=a.length+1):=by show _<=_;rw[xC,F.o];split<;>simp<;>omega
     by_cases i7:L=f+1
     case' pos=>
      have e7:Hid (Al (a.drop (f+1))=[]):=by show _=_;rw[kB O_];rfl
     all_goals
      have b4:(Fc a b++if c=2 then[]else[(b,i)]).length+(a.length-(f+1))<=1000000000:=by have:=e6.o;omega
      go_wp2_with (at_builtin;first
       | (refine Ni wc rfl (.tmp 69) (.tmp 75) 30 51 zC _ 2 32 Cg rfl Do Do rfl d.heap.size u9 _ _ rfl n.o (Q_ D ((f+1)*2)) (a.length-(f+1)) (L-(f+1)) (Al (a.drop (f+1))) rfl b2.o e4.o (Ew _) b4 H ?_;intro f9 g0 z A Z;have I:=Aa z;have J:=Aa (O.o.grown A H (fun c g=>(xF n.o c g).1));clear z A Z;obtain⟨f1,f2,f3,rfl⟩:=Fo I.o;obtain⟨f4,f5⟩:=(k.o.below J.o).rt.cells)
       | (refine Ni wc rfl (.tmp 69) (.tmp 75) 30 51 zC _ 2 32 Cg rfl Do Do rfl d.heap.size u9 _ _ rfl n.o (Q_ D 0) (a.length-(f+1)) 0 (Al (a.drop (f+1))) rfl b2.o (fun d1 V b9=>by rw[e7.o]at b9;simp at b9) (Ew _) b4 H ?_;intro f9 g0 z A Z;have I:=Aa z;have J:=Aa (O.o.grown A H (fun c g=>(xF n.o c g).1));clear z A Z;obtain⟨f1,f2,f3,rfl⟩:=Fo I.o;obtain⟨f4,f5⟩:=(k.o.below J.o).rt.cells))
      go_ret;exact MP T.o k.o J.o c2.o (xY ..).symm I.o a2.o
abbrev NdM:=Int×Value×Value×Value×Value
variable {l:List NdM}
def Ih(l:List NdM):hH:=l.flatMap fun x=>[J_ x.1,x.2.1,x.2.2.1,x.2.2.2.1,x.2.2.2.2]
def Sn(B:Nat)(w:World)(v:Value)(l:List NdM):Prop:=w.ownsRow B 79 5 v l.length (Ih l)
theorem So:∀a:List NdM,(Ih a).length=a.length*5
 | []=>rfl
 | x::r=>by have:Ih (x::r)=[J_ x.1,x.2.1,x.2.2.1,x.2.2.2.1,x.2.2.2.2]++Ih r:=rfl;rw[this,xC,So r,xH];simp;omega
theorem Sp(a b:List NdM):Ih (a++b)=Ih a++Ih b:=by unfold Ih;rw[dO]
theorem ZL:(Tryz.prog.info? 79).map (fun a=>(a.zero,a.size,a.bytes))=some (some (.agg #[J_ 0,Z_,Z_,Z_,Z_]),5,104):=S_
theorem Sn.at(h:Sn a w v l)(b:Nat)(c:b<l.length):∃d k,v=L_ (P_ d) l.length k/\l.length<=k/\a<=d/\d<w.heap.size/\w.cell? (Q_ d (b*5))=some (J_ (l[b]'c).1)/\w.cell? (Q_ d (b*5+1))=some (l[b]'c).2.1/\w.cell? (Q_ d (b*5+2))=some (l[b]'c).2.2.1/\w.cell? (Q_ d (b*5+3))=some (l[b]'c).2.2.2.1/\w.cell? (Q_ d (b*5+4))=some (l[b]'c).2.2.2.2:=by
 rcases h.2 with⟨_,h0⟩|⟨d,k,r,e,o,p,q,-⟩
 ·omega
 ·have i:∀f g,(Ih l)[f]?=some g->w.cell? (Q_ d f)=some g:=fun f g m=>by
   have:=zD h (g:=d) (by rw[e];rfl) f g m;rw[Dy]at this;simpa using this
  have j:∀f g,[J_ (l[b]'c).1,(l[b]'c).2.1,(l[b]'c).2.2.1,(l[b]'c).2.2.2.1,(l[b]'c).2.2.2.2][f]?=some g->(Ih l)[b*5+f]?=some g:=fun f g m=>by
   have g:Ih l=Ih (l.take b)++([J_ (l[b]'c).1,(l[b]'c).2.1,(l[b]'c).2.2.1,(l[b]'c).2.2.2.1,(l[b]'c).2.2.2.2]++Ih (l.drop (b+1))):=by
    have:l=l.take b++(l[b]'c::l.drop (b+1)):=by rw[<-yM c,zK]
    conv=>lhs;rw[this]
    rw[Sp];rfl
   have n:f<5:=(by have:=(jM.1 m).1;simpa using this);rw[g,kC (by rw[So,xR];omega),So,xR,jL (zX c),show b*5+f-b*5=f by omega,vQ (by simpa using n)];exact m
  exact⟨d,k,e,q,o,(xS.1 p).1,by simpa using i _ _ (j 0 _ rfl),i _ _ (j 1 _ rfl),i _ _ (j 2 _ rfl),i _ _ (j 3 _ rfl),i _ _ (j 4 _ rfl)⟩
theorem Iz(h:w.ownsRow a e i v r u)(b:v.ownBlock=some t):∃c d,w.heap[t]?=some (.cells c e d):=by
 rcases h.2 with⟨rfl,_⟩|⟨c,f,g,rfl,_,d,_⟩
 ·simp[Value.ownBlock]at b
 ·obtain rfl:c=t:=xM b;exact⟨_,_,d⟩
def Md(w:World)(F:Nat->Prop)(es:List TypeId):Prop:=∀g,F g->∃cs ty q,w.heap[g]?=some (.cells cs ty q)/\ty∉es
theorem Fu(k:Mod q w c){G:List TypeId}(l:Md w q G)(m:e∈G)(h:w.ownsRow a e i v r u):c.ownsRow a e i v r u:=k.row h fun b g j=>by obtain⟨n,o,p,d,f⟩:=l b j;obtain⟨j,s,b⟩:=Iz h g;rw[d]at b;simp only[xX,vW]at b;exact f (by rw[b.2.1];exact m)
def JU:List TypeId:=[79,51,3,9,34]
def Acm:List TypeId:=[51,3,9,34]
theorem Md.nd(h:Md w q JU):Md w q Acm:=fun g i=>by obtain⟨a,b,c,d,f⟩:=h g i;exact⟨a,b,c,d,fun g=>f (xZ _ g)⟩
theorem Gp.mod(a:Mod q w c)(b:Md w q Acm){B:Nat}{H:gZ}(h:Gp B w v g d k j H):Gp B c v g d k j H:=by obtain⟨f,i,l,m,e,n,o,p,r,s⟩:=h;exact⟨f,i,l,m,e,Fu a b Do n,Fu a b Do o,Fu a b Do p,Fu a b Do r,s⟩
structure Acn(iml:hD)(vp:Value)(ps:List NdM)(w:World):Prop where
 row:Sn 0 w vp ps
 pgs:∀(i:Nat) (hi:i<ps.length),∃il cl pl ml,(Au iml)[i]?=some (some ((ps[i]'hi).1,Ab il,cl,Ag pl,Ac ml))/\Gp 0 w (.agg #[J_ (ps[i]'hi).1,(ps[i]'hi).2.1,(ps[i]'hi).2.2.1,(ps[i]'hi).2.2.2.1,(ps[i]'hi).2.2.2.2]) (ps[i]'hi).1 il cl pl ml
theorem Acn.mod(a:Mod q w c)(d:Md w q JU)(h:Acn j b l w):Acn j b l c:=
 ⟨Fu a d Do h.row,fun o p=>by obtain⟨f,g,i,k,m,n⟩:=h.pgs o p;exact⟨f,g,i,k,m,n.mod a d.nd⟩⟩
def LB(w:World)(b:Nat)(vp vr:Value)(far:Int):Prop:=w.heap[b]?=some (C_ #[vp,vr,J_ far] 215 (0,0))
theorem LB.lt{w:World}{a:Nat}{b f:Value}{g:Int}(h:LB w a b f g):a<w.heap.size:=(xS.1 h).1
theorem LB.cells{w:World}{a:Nat}{b f:Value}{g:Int}(h:LB w a b f g):w.cell? (Q_ a 0)=some b/\w.cell? (Q_ a 1)=some f/\w.cell? (Q_ a 2)=some (J_ g)/\w.frozen? (Q_ a 0)=false/\w.frozen? (Q_ a 2)=false:=by unfold LB at h;refine⟨?_,?_,?_,?_,?_⟩<;>simp[World.cell?,World.frozen?,h]
theorem LB.set(h:LB w a b f g)(x:Int):LB (w.setCell (Q_ a 2) (J_ x)) a b f x:=by unfold LB at*;rw[Ak (i:=2) h];rfl
theorem LB.setP(h:LB w a b f g)(c:Value):LB (w.setCell (Q_ a 0) c) a c f g:=by unfold LB at*;rw[Ak (i:=0) h];rfl
def rlF(b bt:Nat)(vr:Value)(g:Nat):Prop:=g=b\/g=bt\/vr.ownBlock=some g
structure RlI(iml:hD)(b bt:Nat)(vp vr:Value)(ps:List NdM)(rd:hF)(far:Int)(v:Value)(il:gY)(W:World):Prop where
 lb:LB W b vp vr far
 pg:Acn iml vp ps W
 len:ps.length=iml.length
 re:W.ownsRow 0 4 1 vr (Iy iml.length rd).length ((Iy iml.length rd).map .bool)
 rt:RT W bt v
 it:Ap 0 W v il
 wf:Tr.WF 0 [] none (Ab il)
 rdn:rd.Nodup/\∀n∈rd,n<iml.length
 lo:∀g,v.ownBlock=some g->bt<=g
theorem RlI.alien(h:RlI j a i b f l k g v d c):Md c (rlF a i f) JU:=by
 rintro p (rfl|rfl|o)
 ·exact⟨_,_,_,h.lb,Do⟩
 ·exact⟨_,_,_,h.rt,Do⟩
 ·obtain⟨m,n,e⟩:=Iz h.re o;exact⟨m,_,n,e,Do⟩
theorem RlI.ne(h:RlI j a i b f l k g v d c):a≠i/\f.ownBlock≠some a/\f.ownBlock≠some i:=by
 refine⟨fun e=> ?_,fun e=> ?_,fun e=> ?_⟩
 ·have m:=h.lb;have o:=h.rt;unfold LB at m;unfold RT at o;rw[e,o]at m;simp at m
 ·obtain⟨p,q,n⟩:=Iz h.re e;have m:=h.lb;unfold LB at m;rw[m]at n;simp at n
 ·obtain⟨p,q,n⟩:=Iz h.re e;have m:=h.rt;unfold RT at m;rw[m]at n;simp at n
theorem RlI.below(h:RlI j a i b f l k g v d W)(m:Below W.heap.size W c):RlI j a i b f l k g v d c:=
 ⟨(m.block a h.lb.lt).trans h.lb,h.pg.mod (Mod.of_below (F:=fun _=>False) m) (fun _ n=>n.elim),h.len,Ae h.re m X_,(m.block i h.rt.lt).trans h.rt,Ae h.it m X_,h.wf,h.rdn,h.lo⟩
theorem RlI.make(h:RlI j a i b f l k g v d c){F:Int}(y:Tr.Kv (chP F m x)){I:Ending}(J:RmQ c i v d F m x I n):I=R_ (J_ 0)/\∃s r,RlI j a i b f l k g s r n/\Ab r=Kl (Ab d) (chP F m x)/\Mod (rlF a i f) c n:=by
 have t:Pg.Bv F m.size x.size=true:=by have:=y;unfold Tr.Kv Pg.Bh chP at this;rw[<-Ah m,<-Ah x];exact this
 obtain⟨e,q,-,z⟩:=J;rw[t]at e;obtain⟨s,r,B,C,u,D⟩:=z t;obtain⟨G,L,H⟩:=h.ne;refine⟨e,s,r,⟨(q.block a h.lb.lt G).trans h.lb,h.pg.mod q (fun o p=>by rw[show o=i from p];exact h.alien i (.inr (.inl rfl))),h.len,q.row h.re (fun o p e=>H (by rw[<-show o=i from e];exact p)),B,C,?_,h.rdn,fun o p=>xI (zX h.rt.lt) (D o p)⟩,u,q.mono fun o _ o=> .inr (.inl o)⟩;rw[u];exact DP h.wf ⟨Qn _,y⟩
theorem RlI.mark{z:Nat}(h:RlI j a i b (L_ (P_ r) z t) l k g v d c){n:Nat}(F:n<j.length)(G:n∉k):RlI j a i b (L_ (P_ r) z t) l (k++[n]) g v d (c.setCell (Q_ r n) (.bool true))/\Mod (rlF a i (L_ (P_ r) z t)) c (c.setCell (Q_ r n) (.bool true)):=by
 obtain⟨H,C,D⟩:=h.ne;have f:=Mod.setCell c r n (.bool true);have u:z=(Iy j.length k).length:=by
  rcases h.re.2 with⟨e,_⟩|⟨I,J,L,e,_⟩
  ·cases e
  ·simp only[xJ]at e;exact e.2.1
 have y:a≠r:=fun e=>C (by rw[e];rfl)
 have B:i≠r:=fun e=>D (by rw[e];rfl)
 have q:Md c (fun o=>o=r) JU:=fun o m=>by rw[show o=r from m];exact h.alien r (.inr (.inr rfl))
 refine⟨⟨(f.block a h.lb.lt y).trans h.lb,h.pg.mod f q,h.len,?_,(f.block i h.rt.lt B).trans h.rt,Fu f q Do h.it,h.wf,⟨xO.2 ⟨h.rdn.1,D_,fun s p m m e=>G (by rw[<-yR.1 m,<-e];exact p)⟩,fun s p=> ?_⟩,h.lo⟩,f.mono fun o _ m=> .inr (.inr (by rw[show o=r from m];rfl))⟩
 ·subst u;have o:=Gx h.re n (.bool true);rw[<-qX,PH]at o;rw[Gi]at o;rw[Gi,Gi];exact o
 ·rcases xE.1 p with m|m
  ·exact h.rdn.2 s m
  ·rw[yR.1 m];exact F
theorem RlI.setFar(h:RlI j a i b f l k g v d c)(x:Int):RlI j a i b f l k x v d (c.setCell (Q_ a 2) (J_ x))/\Mod (rlF a i f) c (c.setCell (Q_ a 2) (J_ x)):=by
 obtain⟨q,r,s⟩:=h.ne;have n:=Mod.setCell c a 2 (J_ x);have p:Md c (fun m=>m=a) JU:=fun m o=>by rw[show m=a from o];exact h.alien a (.inl rfl)
 exact⟨⟨h.lb.set x,h.pg.mod n p,h.len,n.row h.re (fun m o e=>r (by rw[<-show m=a from e];exact o)),(n.block i h.rt.lt (fun e=>q e.symm)).trans h.rt,Fu n p Do h.it,h.wf,h.rdn,h.lo⟩,n.mono fun m _ m=> .inl m⟩
def RpQ(iml:hD)(b bt:Nat)(vp vr:Value)(ps:List NdM)(rd:hF)(far:Int)(il:gY)(n deep:Nat)(lo hi:Tr.Key)(w:World)(r:Ending)(w':World):Prop:=
 Mod (rlF b bt vr) w w'/\((r=R_ (.bool false)/\FP (Au iml) rd far deep n lo hi)\/∃(h:Nat) (f:PT h) (v':Value) (il':gY),r=R_ (.bool true)/\Dz (Au iml) h lo hi f/\Ld.num h f=n/\Sj far (deep+h)/\RlI iml b bt vp vr ps (rd++Ld.nums h f) ((deep+h:Nat):Int) v' il' w'/\Ab il'=Tr.Cr (Ab il) (eff (Au iml) h f))
theorem HQ(d:Nat)(a:Option Addr)(b c:Nat)(first:Int)(w:World)(i:Ax w d (L_ a b c) Z_ Z_):
  Calls Tryz.prog 67 #[A_ d,J_ first] w fun m f=>m=R_ (.agg #[J_ 1,L_ a b c,Z_,Z_,Z_])/\Below w.heap.size w f:=by
 have f:Below w.heap.size w (w.alloc (C_ #[J_ 0,Z_,Z_,Z_,Z_] 79)):=(xA _ w).alloc X_ _;have n:=Aa f;have g:Ax _ d (L_ a b c) Z_ Z_:=(f.block d i.lt).trans i;have j:=Aa (Cz w (J_ 0) Z_ Z_ Z_ Z_);have o:=Aa (Hh d _ _ _ _ _ _ g);obtain⟨r,s,t,-⟩:=g.cells;clear f g i;go_in;go_wp2_with fail;generalize w.alloc (C_ #[J_ 0,Z_,Z_,Z_,Z_] 79)=J at*;refine o.o.mono ?_;rintro m I ⟨rfl,rfl⟩;obtain⟨u,y,z,A,B,C,D,F,G,H⟩:=j.o.cells;have p:=Aa (j.o.put (J_ 1) (L_ a b c) Z_ Z_ Z_);have q:=Aa (Hy n.o X_ (J_ 1) (L_ a b c) Z_ Z_ Z_);go_wp2_with fail;refine yS (v:=.agg #[J_ 1,L_ a b c,Z_,Z_,Z_]) ?_ rfl ⟨rfl,q.o⟩;obtain⟨f,g,i,k,l⟩:=Gg p.o;unfold Hl at f g i k l;simp[results,Tryz.results67,go_sem,f,g,i,k,l]
structure FT(w:World)(nb:Nat)(vm:Value)(cl:hF)(pv:hD)(v2 v3:Value)(W:World):Prop where
 nd:Bq W nb (J_ 2) Z_ v2 v3 vm
 kids:W.ownsRow w.heap.size 3 1 v2 cl.length (Cl cl)
 pivs:Bc w.heap.size W v3 pv
 bel:Below w.heap.size w W
 low:w.heap.size<nb
 rs:Bq W w.heap.size (J_ 0) Z_ Z_ Z_ Z_
theorem FT.below(h:FT w a b k j f p W)(d:Below W.heap.size W c):FT w a b k j f p c:=
 ⟨h.nd.keep d,Ae h.kids d X_,Ae h.pivs d X_,h.bel.trans (d.mono h.bel.size),h.low,h.rs.keep d⟩
theorem Jj(h:Below w.heap.size w c)(a:Mod q c n)(g:∀b,q b->w.heap.size<=b):Below w.heap.size w n:=
 h.trans ⟨a.os,a.tape,a.output,a.size,fun b d=>a.block b (yF d h.size) (fun f=>bS _ (yF d (g b f)))⟩
theorem Bq.alien(h:Bq w a b f p s y):Md w (fun c=>c=a) [3,9]:=fun c d=>by rw[show c=a from d];exact⟨_,_,_,h,Do⟩
theorem Bq.not_row(h:Bq w a b f p s y)(g:w.ownsRow i e r v t u)(j:e≠79):v.ownBlock≠some a:=fun d=>by obtain⟨k,l,c⟩:=Iz g d;unfold Bq at h;rw[h]at c;simp only[xX,vW]at c;exact j c.2.1.symm
theorem FT.kid{i:World}{n:Nat}(h:FT w a b k j f p c)(y:i.ownsRow w.heap.size 3 1 s (k.length+1) (Cl k++[J_ (n:Nat)]))(d:c.grownBy i f.ownBlock):Bq i a (J_ 2) Z_ f p b/\FT w a b (k++[n]) j s p (i.setCell (Q_ a 2) s):=by
 have l:=Mod.of_grown d;have r:Md c (fun m=>f.ownBlock=some m) [9]:=fun g d=>by obtain⟨t,u,e⟩:=Iz h.kids d;exact⟨t,_,u,e,Do⟩
 have m:Bq i a (J_ 2) Z_ f p b:=(l.block a h.nd.lt (h.nd.not_row h.kids Do)).trans h.nd;have q:Bq i w.heap.size (J_ 0) Z_ Z_ Z_ Z_:=(l.block _ h.rs.lt (h.rs.not_row h.kids Do)).trans h.rs;have o:=Mod.setCell i a 2 s;refine⟨m,m.set2 s,?_,Fu o m.alien Do (Fu l r Do h.pivs),Jj (Jj h.bel l (fun g d=>(xF h.kids g d).1)) o (fun g d=>by rw[show g=a from d];exact zX h.low),h.low,(o.block _ q.lt (Nat.ne_of_lt h.low)).trans q⟩;have e:Cl (k++[n])=Cl k++[J_ (n:Nat)]:=by simp[Cl]
 rw[e,xC];exact Fu o m.alien Do y
theorem FT.piv(h:FT w a b k j f p c)(y:Bc w.heap.size n s (j++[m]))(d:c.grownBy n p.ownBlock):Bq n a (J_ 2) Z_ f p b/\FT w a b k (j++[m]) f s (n.setCell (Q_ a 3) s):=by
 have g:=Mod.of_grown d;have r:Md c (fun i=>p.ownBlock=some i) [3]:=fun o d=>by obtain⟨t,u,e⟩:=Iz h.pivs d;exact⟨t,_,u,e,Do⟩
 have i:Bq n a (J_ 2) Z_ f p b:=(g.block a h.nd.lt (h.nd.not_row h.pivs Do)).trans h.nd;have q:Bq n w.heap.size (J_ 0) Z_ Z_ Z_ Z_:=(g.block _ h.rs.lt (h.rs.not_row h.pivs Do)).trans h.rs;have l:=Mod.setCell n a 3 s;exact⟨i,i.set3 s,Fu l i.alien Do (Fu g r Do h.kids),Fu l i.alien Do y,Jj (Jj h.bel g (fun o d=>(xF h.pivs o d).1)) l (fun o d=>by rw[show o=a from d];exact zX h.low),h.low,(l.block _ q.lt (Nat.ne_of_lt h.low)).trans q⟩
theorem ZM{J:hA}(b:a<J.length)(h0:0<a):((J.take (a+1)).map (·.1)).tail=((J.take a).map (·.1)).tail++[(J[a]'b).1]:=by
 have e:J.take (a+1)=J.take a++[J[a]'b]:=by rw[zN,xW b];rfl
 have c:(J.take a).map (·.1)≠[]:=fun d=>by have:=yW List.length d;rw[xP,xR,yU]at this;omega
 rw[e,yX,List.tail_append_of_ne_nil c];rfl
theorem UK(a:hA):((a.take 0).map (·.1)).tail=((a.take (0+1)).map (·.1)).tail:=by cases a<;>rfl
theorem Aes(w:World)(b:Nat)(u0 u1 u2 u3 u4:Value):Mod (fun a=>a=b) w (Hl w b u0 u1 u2 u3 u4):=by
 have c:∀{d f g:World},Mod (fun a=>a=b) d f->Mod (fun a=>a=b) f g->Mod (fun a=>a=b) d g:=fun a d=>a.trans d (fun _ _ a=>a) (fun _ _ a=>a)
 exact c (c (c (c (Mod.setCell _ _ _ _) (Mod.setCell _ _ _ _)) (Mod.setCell _ _ _ _)) (Mod.setCell _ _ _ _)) (Mod.setCell _ _ _ _)
theorem BG(B:Nat)(e1:Value)(b:hA)(d:Option Addr)(f g first:Nat)(w:World)(T:Ax w B Z_ e1 (L_ d f g))(a5:Bf 0 w e1 b)(h0:0<b.length)(j0:b.length<=4)(j1:first<=1000000000):
  Calls Tryz.prog 67 #[A_ B,J_ (first:Nat)] w fun d6 a3=>∃o p,d6=R_ (.agg #[J_ 2,Z_,o,p,L_ d f g])/\a3.ownsRow 0 3 1 o b.length (Cl (List.range' first b.length))/\Bc 0 a3 p (b.map (·.1)).tail/\Below w.heap.size w a3:=by
 obtain⟨c2,c3,rfl⟩:=Ad a5;have a6:=Aa T;have e2:=Aa a5;have N:Below w.heap.size w (w.alloc (C_ #[J_ 0,Z_,Z_,Z_,Z_] 79)):=(xA _ w).alloc X_ _;have a7:(w.alloc (C_ #[J_ 0,Z_,Z_,Z_,Z_] 79)).heap.size=w.heap.size+1:=D_;have U:Ax _ B Z_ (L_ c2 b.length c3) (L_ d f g):=(N.block B T.lt).trans T;have a8:=Cz w (J_ 0) Z_ Z_ Z_ Z_;have a9:=Aa (Hh B _ _ _ _ _ _ U);obtain⟨f8,f9,g0,-⟩:=U.cells;have b0:decide (b.length=0)=false:=xN O_;have b1:Hid (FT w (w.heap.size+1) (L_ d f g) [] [] Z_ Z_ ((w.alloc (C_ #[J_ 0,Z_,Z_,Z_,Z_] 79)).alloc (C_ #[J_ 2,Z_,Z_,Z_,L_ d f g] 79))):=by generalize w.alloc (C_ #[J_ 0,Z_,Z_,Z_,Z_] 79)=M at*;have b2:Below M.heap.size M (M.alloc (C_ #[J_ 2,Z_,Z_,Z_,L_ d f g] 79)):=(xA _ M).alloc X_ _;have O:=Cz M (J_ 2) Z_ Z_ Z_ (L_ d f g);rw[a7]at O;exact⟨O,⟨rfl,.inl ⟨rfl,rfl⟩⟩,⟨rfl,.inl ⟨rfl,rfl⟩⟩,N.trans (b2.mono N.size),Nat.lt_succ_self _,a8.keep b2⟩
 clear N U a8 T a5;go_in;go_wp2_with fail;refine a9.o.mono ?_;rintro d6 i4 ⟨rfl,rfl⟩;rw[b0];have b3:=b1.o.bel.block B a6.o.lt;have b4:Ax _ B Z_ (L_ c2 b.length c3) (L_ d f g):=b3.trans a6.o;obtain⟨u0,u1,u2,-⟩:=b4.cells;clear b4 b3;go_wp2_with fail;generalize(w.alloc (C_ #[J_ 0,Z_,Z_,Z_,Z_] 79)).alloc (C_ #[J_ 2,Z_,Z_,Z_,L_ d f g] 79)=i9 at*;clear u0 u1 u2 f8 f9 g0 a9 b0 a7
 go_loopw [25] (fun a4 wr=>∃(a:Nat) (c:hF) (j:hD) (o p:Value),a4=J_ (a:Nat)/\a<=b.length/\(c=List.range' first a/\j=((b.take a).map (·.1)).tail)/\FT w (w.heap.size+1) (L_ d f g) c j o p wr) (fun a4 _=>b.length-(intOf a4).toNat)
 case atStart=>exact⟨0,[],[],_,_,rfl,Y_,⟨rfl,rfl⟩,b1.o⟩
 case round=>
  obtain⟨a,c,j,o,p,rfl,g8,k,i⟩:=hrel;have e3:=Aa k;obtain⟨l,m,rfl⟩:=Ad i.kids;obtain⟨q,r,rfl⟩:=Ad i.pivs;have g2:c.length<=4:=by rw[k.1,qB];omega
  have g3:j.length<=4:=by rw[k.2,dS,xP,xR];omega
  have g4:=Aa i;by_cases S:a<b.length
  ·obtain⟨c4,g9,e,h1,-,c5,c6,c7⟩:=Bf.at (Ae e2.o i.bel X_) a S;simp only[xJ,yB]at e;obtain⟨rfl,rfl⟩:=e;have e4:(a:Int)<(b.length:Int):=O_;have g5:(0:Int)<=(a:Int):=O_;have b5:Hid (c++[first+a]=List.range' first (a+1)):=(by show _=_;rw[k.1,List.range'_concat];simp);have b6:Hid (0<a->j++[(b[a]'S).1]=((b.take (a+1)).map (·.1)).tail):=fun h=>by rw[k.2,ZM S h]
   have e5:Hid (a=0->j=((b.take (a+1)).map (·.1)).tail):=fun h=>by rw[k.2,h];exact UK b
   clear k;generalize b[a]'S=x at*;obtain⟨n,s⟩:=x;simp only at c6 c7 b6;have V:Hid ((wr.alloc (C_ #[B_ n,A_ s] 132)).heap[wr.heap.size]?=some (C_ #[B_ n,A_ s] 132 (0,0))):=xK _ _;have W:Below wr.heap.size wr (wr.alloc (C_ #[B_ n,A_ s] 132)):=(xA _ wr).alloc X_ _;have b7:(wr.alloc (C_ #[B_ n,A_ s] 132)).heap.size=wr.heap.size+1:=D_;have b8:=Aa b7;have I:=Aa (i.below W);obtain⟨t,u,y,z,A,C,D,F,G,H⟩:=(i.below W).nd.cells;have g6:IntKind.i64.wrap ((first:Int)+(a:Int))=((first+a:Nat):Int):=(by rw[yZ];omega);have e6:=Aa I.o.bel.size;have e7:=Aa (i.nd.lt);clear i W b7;go_upto_if 39 with(at_builtin;refine Ix (wr.alloc (C_ #[B_ n,A_ s] 132)) rfl (.tmp 31) (.tmp 35) 25 3 aK _ 1 8 Rl rfl Do Do rfl w.heap.size (L_ l c.length m) c.length _ rfl I.o.kids [J_ ((first+a:Nat):Int)] rfl (by intro i5 d7;simp at d7;rw[d7];rfl) U_ O_ e6.o ?_;intro i6 L a0 a1 _;have X:=Aa (I.o.kid (n:=first+a) a0 a1);have Y:Hid (L.heap[wr.heap.size]?=some (C_ #[B_ n,A_ s] 132 (0,0))):=((Mod.of_grown a1).block _ (by rw[b8.o];omega) (fun d9=>by obtain⟨h2,h3,c8⟩:=Iz I.o.kids d9;rw[V.o]at c8;simp at c8)).trans V.o;obtain⟨c9,d0,rfl⟩:=Ad a0;clear a0 a1;clear t u y z A C D F G H;obtain⟨t,u,y,z,A,C,D,F,G,H⟩:=X.o.1.cells);have J:=Aa X.o.2;have e8:Hid ((L.setCell (Q_ (w.heap.size+1) 2) (L_ c9 (c.length+1) d0)).heap[wr.heap.size]?=some (C_ #[B_ n,A_ s] 132 (0,0))):=(by have e9:wr.heap.size<L.heap.size:=(xS.1 Y.o).1;exact((Mod.setCell L (w.heap.size+1) 2 _).block _ e9 (fun d9=>by have:=e7.o;omega)).trans Y.o);clear t u y z A C D F G H X Y I V b8;generalize L.setCell (Q_ (w.heap.size+1) 2) (L_ c9 (c.length+1) d0)=e0 at*;by_cases g1:0<a
   ·have f0:(0:Int)<(a:Int):=O_;have g7:e0.cell? (Q_ wr.heap.size 0)=some (B_ n):=(by simp[World.cell?,e8.o]);obtain⟨t,u,y,z,A,C,D,F,G,H⟩:=J.o.nd.cells;have f1:=Aa J.o.bel.size;go_wp2_with (at_builtin;refine IJ e0 rfl (.tmp 41) (.tmp 44) rfl w.heap.size (L_ q j.length r) j rfl J.o.pivs n U_ O_ f1.o ?_;intro i7 i8 a2 d8 _;have b9:=Aa (J.o.piv a2 d8);obtain⟨h4,h5,rfl⟩:=Ad a2;clear a2 d8 t u y z A C D F G H;obtain⟨t,u,y,z,A,C,D,F,G,H⟩:=b9.o.1.cells);have c0:=b9.o.2;rw[xC,jR]at c0;exact⟨⟨a+1,_,_,_,_,W_,O_,⟨b5.o,b6.o g1⟩,c0⟩,by simp[intOf];omega⟩
   ·have f0:¬(0:Int)<(a:Int):=O_;go_wp2_with fail;exact⟨⟨a+1,_,_,_,_,W_,O_,⟨b5.o,e5.o O_⟩,J.o⟩,by simp[intOf];omega⟩
  ·have Z:a=b.length:=O_;obtain⟨t,u,y,z,A,-⟩:=i.nd.cells;obtain⟨h6,h7,h8,h9,i0,c6,c7,i1,i2,i3⟩:=i.rs.cells;have e4:¬(a:Int)<(b.length:Int):=O_;have f2:=Aa (i.rs.put (J_ 2) Z_ (L_ l c.length m) (L_ q j.length r) (L_ d f g));have R:=Aes wr w.heap.size (J_ 2) Z_ (L_ l c.length m) (L_ q j.length r) (L_ d f g);have f3:Hid (∃o p,(Ending.returned (.agg #[J_ 2,Z_,L_ l c.length m,L_ q j.length r,L_ d f g]))=R_ (.agg #[J_ 2,Z_,o,p,L_ d f g])/\(Hl wr w.heap.size (J_ 2) Z_ (L_ l c.length m) (L_ q j.length r) (L_ d f g)).ownsRow 0 3 1 o b.length (Cl (List.range' first b.length))/\Bc 0 (Hl wr w.heap.size (J_ 2) Z_ (L_ l c.length m) (L_ q j.length r) (L_ d f g)) p (b.map (·.1)).tail/\Below w.heap.size w (Hl wr w.heap.size (J_ 2) Z_ (L_ l c.length m) (L_ q j.length r) (L_ d f g))):=by
    have f4:=Dp (Fu R i.rs.alien Do i.kids);have O:Bc 0 _ _ _:=Dp (Fu R i.rs.alien Do i.pivs);have f5:=Jj i.bel R (fun c4 c5=>by rw[show c4=w.heap.size from c5];exact Nat.le_refl _);have c1:c=List.range' first b.length:=(by rw[k.1,Z]);have f6:j=(b.map (·.1)).tail:=(by rw[k.2,Z,zQ]);have f7:c.length=b.length:=(by rw[c1,qB]);refine⟨L_ l c.length m,_,rfl,?_,?_,f5⟩
    ·rw[<-c1,<-f7];exact f4
    ·rw[<-f6];exact O
   clear i k e3 Z R;go_wp2_with fail;refine yS (v:=.agg #[J_ 2,Z_,L_ l c.length m,L_ q j.length r,L_ d f g]) ?_ rfl f3.o;obtain⟨d1,d2,d3,d4,d5⟩:=Gg f2.o;unfold Hl at d1 d2 d3 d4 d5;simp[results,Tryz.results67,go_sem,d1,d2,d3,d4,d5]
