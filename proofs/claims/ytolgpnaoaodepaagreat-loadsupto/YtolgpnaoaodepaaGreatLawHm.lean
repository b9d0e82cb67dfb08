import Derived.Test.YtolgpnaoaodepaaGreatRefPm
set_option maxHeartbeats 2000000
set_option maxRecDepth 20000
namespace Go.Proofs.YtolgpnaoaodepaaGreat
open Go.RowKit
variable {b w:World}{a l:Nat}{c d v:Value}{f e i j:TypeId}{g:hH}{mk:Value->hH}{k:Value->Prop}
theorem Ut(c:hJ):∀a∈([B_ c]:hH),a.oneCell'=true:=by intro a b;simp at b;subst b;rfl
theorem LH(m:Nat)(Y Z a0 a1 a2 z A a3 a4:Value)(e4:Int)(B:Value)(b d:Nat)(a5 a6 a7:hH)(w:World)(h:Wb w m Y Z a0 a1 a2 z A a3 a4 e4)(C:w.ownsRow 0 9 1 B b a5)(a8:w.ownsRow 0 40 1 z d a6)(a9:w.ownsRow 0 9 1 A d a7)(j4:b<=2000000)(j5:d<=100000000)(e5:XZ m B z A):
  Calls Tryz.prog 103 #[.pointer (some (Q_ m 1)),B] w fun c6 e2=>∃a L S U,c6=R_ (.tuple #[])/\Wb e2 m Y Z a0 a1 a2 S U a3 a4 L/\XY w m 40 9 9 [B_ a] (B_ a) B z A d a6 a7 S U e2:=by
 have b0:=Aa h;have b1:=Aa C;have b2:=Aa a8;have b3:=Aa a9;have j:=Aa e5;have e6:=h.lt;have b4:Hid (a5.length=b):=by have:=C.1;simpa[Hid]using this
 obtain⟨i,k,rfl⟩:=Ad C;obtain⟨f2,f3,rfl⟩:=Ad a8;obtain⟨f4,f5,rfl⟩:=Ad a9;clear h C a8 a9 e5;go_in;go_wp2_with fail;refine(OD m Y Z a0 a1 a2 _ _ a3 a4 e4 w b0.o).mono ?_;rintro c6 g5 ⟨a,L,rfl,c7,c8⟩;have b5:=Aa c7;have u:=Aa c8;clear c7 c8;go_wp2_with fail
 go_loopw [5] (fun X wr=>∃c:Nat,c<=b/\X=J_ c/\wr.ownsRow 0 9 1 (L_ i b k) b (Ci [B_ a] c++a5.drop c)/\g5.grownBy wr (Value.slice i b k).ownBlock) (fun X _=>b-(intOf X).toNat)
 case atStart=>exact⟨0,Y_,rfl,by simpa[Ci]using zP b1.o u.o (.inr j.o.1),⟨rfl,rfl,rfl,X_,fun _ _ _=>rfl⟩⟩
 case round=>
  obtain⟨c,i2,rfl,l,y⟩:=hrel;by_cases h3:c<b
  ·obtain⟨q,rfl⟩:∃q,i=P_ q:=by
    rcases l.2 with⟨_,h0⟩|⟨q,j2,j3,e1,_⟩
    ·omega
    ·simp only[xJ]at e1;exact⟨q,e1.1⟩
   obtain⟨⟨i3,i4⟩,f⟩:=Yi l c O_;have D:=Gx l c (B_ a);rw[DB _ _ _ (by rw[b4.o];exact h3)]at D;have e7:=Aa D;have o:=Aa (Ge y (Be q c wr (B_ a)));clear l y D;go_wp2_with fail
   go_roundw
   case rel=>exact⟨c+1,O_,W_,e7.o,o.o⟩
   case measure=>simp[intOf];omega
  ·have b6:wr.ownsRow 0 9 1 (L_ i b k) b (Ci [B_ a] b):=by
    rw[show c=b by omega,zG (by rw[b4.o];omega),yC]at l;exact l
   have b7:=Aa b6;have o:=Aa y;have h4:¬(c:Int)<(b:Int):=O_;clear b6 l y
   go_wp2_with (first
    | (at_builtin;refine IP wr rfl (.tmp 21) (.tmp 23) 40 9 kM _ 1 16 Jr rfl O_ O_ rfl 0 (L_ i b k) b [B_ a] rfl (Ut a) rfl b7.o 1 rfl O_ O_ #[B_ a] rfl ?_))
   intro i8 g6 M c9 d0 d1 g7;obtain⟨f6,f7,rfl⟩:=Ad M;have p:=Aa (And.intro d0 (And.intro d1 (marked_of M)));have b8:=Aa c9;clear M c9 d0 d1 b7 g7
   go_wp2_with (first
    | (at_builtin;refine IP g6 rfl (.tmp 25) (.tmp 28) 40 9 kM _ 1 16 Jr rfl O_ O_ rfl 0 (L_ i b k) b [B_ a] rfl (Ut a) rfl b8.o 2 rfl O_ O_ #[B_ a,B_ a] rfl ?_))
   intro i9 g8 N d2 d3 d4 d5;obtain⟨f8,f9,rfl⟩:=Ad N;have n:=Aa (And.intro d3 (And.intro d4 (And.intro (marked_of N) (d5 _ p.o.2.2))));have b9:=Aa d2;clear N d2 d3 d4 b8 d5
   go_wp2_with (first
    | (at_builtin;refine IP g8 rfl (.tmp 30) (.tmp 34) 40 9 kM _ 1 16 Jr rfl O_ O_ rfl 0 (L_ i b k) b [B_ a] rfl (Ut a) rfl b9.o 3 rfl O_ O_ #[B_ a,B_ a,B_ a] rfl ?_))
   intro j0 g9 O d6 d7 d8 R;obtain⟨g0,g1,rfl⟩:=Ad O;have g:=Aa (And.intro d7 (And.intro d8 (And.intro (marked_of O) (And.intro (R _ n.o.2.2.1) (And.intro (R _ n.o.2.2.2) (marked_of d6))))));clear O d6 d7 d8 b9 R;have F:=Ge (Ge (Ge o.o p.o.1) n.o.1) g.o.1;have h5:=u.o.size;have h6:=o.o.size;have h7:=p.o.1.size;have h8:=n.o.1.size;have h9:=g.o.1.size;have G:=Aa (VT b2.o b3.o j.o u.o F g.o.2.2.2.2.2 g.o.2.2.2.2.1 g.o.2.2.2.1 g.o.2.2.1 (p.o.2.1.imp_right fun⟨t,e3,e⟩=>⟨t,O_,e⟩) (n.o.2.1.imp_right fun⟨t,e3,e⟩=>⟨t,O_,e⟩) (g.o.2.1.imp_right fun⟨t,e3,e⟩=>⟨t,O_,e⟩));have c0:=Aa (b5.o.grown F j.o.1);clear o p n g F u b5 b1 b2 b3 b0;obtain⟨-,-,-,-,-,g2,-,-,-,-,f⟩:=c0.o.cells;have e8:=f 5;clear f
   go_wp2_with (first
    | (at_builtin;refine VS g9 rfl (.tmp 40) (.tmp 45) 70 40 Tryz.underlying70 _ 1 24 XX rfl O_ O_ rfl 0 (L_ f2 d f3) d a6 rfl G.o.1 [L_ i b k,L_ f6 (b+1) f7,L_ f8 (b+2) f9,L_ g0 (b+3) g1] 4 rfl (by intro h1 r;simp at r;rcases r with rfl|rfl|rfl|rfl<;>rfl) rfl O_ O_ ?_))
   intro S h2 T s d9;obtain⟨I,J,rfl⟩:=Ad T;have H:=Aa (And.intro T (And.intro s d9));have c1:=Aa (c0.o.grown s j.o.2.1);have c2:=Aa (G.o.rowM j.o s 5 (L_ I (d+4) J));have c3:=Aa (c1.o.set5 (L_ I (d+4) J));have i0:=s.size;obtain⟨-,-,-,-,-,g3,-,-,-,-,f⟩:=c1.o.cells;have e9:=f 5;obtain⟨-,-,-,-,-,-,g4,-,-,-,c5⟩:=c3.o.cells;have f0:=c5 6;clear T s d9 f c5 g2 e8
   go_wp2_with (first
    | (at_builtin;refine VS (h2.setCell (Q_ m 5) (L_ I (d+4) J)) rfl (.tmp 53) (.tmp 58) 40 9 kM _ 1 16 Jr rfl O_ O_ rfl 0 (L_ f4 d f5) d a7 rfl c2.o [B_ a,B_ a,B_ a,B_ a] 4 rfl (by intro h1 r;simp at r;subst r;rfl) U_ O_ (by rw[setSize];omega) ?_))
   intro U j1 V W e0;obtain⟨i5,i6,rfl⟩:=Ad V;have c4:=Aa (c3.o.grown W j.o.2.2.1);have f1:=Aa (VU e6 G.o j.o H.o.1 H.o.2.1 H.o.2.2 5 V W e0 6);obtain⟨-,-,-,-,-,-,i7,-,-,-,f⟩:=c4.o.cells;have i1:=f 6;clear V W e0 f g3 g4 e9 f0 c2;go_wp2_with fail;go_end0;exact⟨a,L,_,_,rfl,c4.o.set6 _,f1.o⟩
theorem DC(c:hJ):∀a∈([B_ c,B_ ⟨#[]⟩]:hH),a.oneCell'=true:=by intro a b;simp at b;rcases b with rfl|rfl<;>rfl
theorem SS(b d:Value)(c:hH)(a:Nat)(h:a*2+1<c.length):((Ci [b,d] a++c.drop (a*2)).set (a*2) b).set (a*2+1) d=Ci [b,d] (a+1)++c.drop ((a+1)*2):=by
 have f:(Ci [b,d] a).length=a*2:=by rw[Iv];rfl
 rw[yM (show a*2<c.length by omega),Wh _ _ _ _ _ f.symm,yM h];have e:Ci [b,d] a++b::c[a*2+1]::c.drop (a*2+1+1)=(Ci [b,d] a++[b])++c[a*2+1]::c.drop (a*2+1+1):=D_;rw[e,Wh _ _ _ _ _ (by simp[f]),Jq,show(a+1)*2=a*2+1+1 by omega];simp[Ci]
theorem Ae3(h:b.heap[a]?=some (C_ #[c,d] f (0,0))):b.cell? (Q_ a 0)=some c/\b.cell? (Q_ a 1)=some d:=by simp[World.cell?,h]
theorem Ta{n:Obj}{p:Option Nat}(h:w.heap[l]?=some n)(c:w.grownBy b p)(d:p≠some l):b.heap[l]?=some n:=(c.block l (xS.1 h).1 fun e=>d e.symm).trans h
theorem LI(o:Nat)(a4 D F a5 a6 a7 a8 a9 b0:Value)(f3:Int)(z:Value)(b f:Nat)(b1 b2 b3:hH)(w:World)(h:Wb w o a4 D F a5 a6 a7 a8 a9 b0 f3)(A:w.ownsRow 0 51 2 z b b1)(b4:w.ownsRow 0 30 1 D f b2)(b5:w.ownsRow 0 9 1 F f b3)(l6:b<=2000000)(l7:f<=100000000)(f4:XZ o z D F):
  Calls Tryz.prog 57 #[.pointer (some (Q_ o 1)),z] w fun d7 e9=>∃a R f1 f2,d7=R_ (.tuple #[])/\Wb e9 o a4 f1 f2 a5 a6 a7 a8 a9 b0 R/\XY w o 30 51 9 [B_ a,B_ ⟨#[]⟩] (B_ a) z D F f b2 b3 f1 f2 e9:=by
 have b6:=Aa h;have b7:=Aa A;have b8:=Aa b4;have b9:=Aa b5;have n:=Aa f4;have f5:=h.lt;have c0:Hid (b1.length=b*2):=A.1;have c1:∀d,z.ownBlock=some d->d<w.heap.size:=fun d i6=>(xF A d i6).2
 obtain⟨g,l,rfl⟩:=Ad A;have f6:=Aa c1;clear c1;obtain⟨g2,g3,rfl⟩:=Ad b4;obtain⟨g4,g5,rfl⟩:=Ad b5;clear h A b4 b5 f4;go_in;go_wp2_with fail;refine(OD o a4 _ _ a5 a6 a7 a8 a9 b0 f3 w b6.o).mono ?_;rintro d7 j ⟨a,R,rfl,S,T⟩;have i8:=T.size;have c2:=Aa (S.below ((xA j.heap.size j).alloc X_ (C_ #[B_ a,B_ ⟨#[]⟩] 51)) S.lt);have B:=Aa (Aw T (Mo ((xA j.heap.size j).alloc X_ (C_ #[B_ a,B_ ⟨#[]⟩] 51))));have c3:Hid ((j.alloc (C_ #[B_ a,B_ ⟨#[]⟩] 51)).heap[j.heap.size]?=some (C_ #[B_ a,B_ ⟨#[]⟩] 51 (0,0))):=xK _ _;have C:Hid ((Value.slice g b l).ownBlock≠some j.heap.size):=fun e=>by have:=f6.o _ e;omega
 clear S T;go_wp2_with fail;generalize j.alloc (C_ #[B_ a,B_ ⟨#[]⟩] 51)=i7 at*;generalize j.heap.size=l5 at*
 go_loopw [6] (fun a3 wr=>∃c:Nat,c<=b/\a3=J_ c/\wr.ownsRow 0 51 2 (L_ g b l) b (Ci [B_ a,B_ ⟨#[]⟩] c++b1.drop (c*2))/\i7.grownBy wr (Value.slice g b l).ownBlock) (fun a3 _=>b-(intOf a3).toNat)
 case atStart=>exact⟨0,Y_,rfl,by simpa[Ci]using zP b7.o B.o (.inr n.o.1),⟨rfl,rfl,rfl,X_,fun _ _ _=>rfl⟩⟩
 case round=>
  obtain⟨c,j7,rfl,m,q⟩:=hrel;by_cases l4:c<b
  ·obtain⟨d,rfl⟩:∃d,g=P_ d:=by
    rcases m.2 with⟨_,h0⟩|⟨d,l2,l3,e8,_⟩
    ·omega
    ·simp only[xJ]at e8;exact⟨d,e8.1⟩
   obtain⟨⟨j8,j9⟩,i⟩:=Yi m (c*2) O_;obtain⟨⟨k0,k1⟩,k2⟩:=Yi m (c*2+1) O_;have G:=Gx (Gx m (c*2) (B_ a)) (c*2+1) (B_ ⟨#[]⟩);rw[SS _ _ _ _ (by rw[c0.o];omega)]at G;have f7:=Aa G;have r:=Aa (Ge q (Ge (Be d (c*2) wr (B_ a)) (Be d (c*2+1) _ (B_ ⟨#[]⟩))));obtain⟨d4,d5⟩:=Ae3 (Ta c3.o q C.o);clear m q G;go_wp2_with fail
   go_roundw
   case rel=>exact⟨c+1,O_,W_,f7.o,r.o⟩
   case measure=>simp[intOf];omega
  ·have c4:wr.ownsRow 0 51 2 (L_ g b l) b (Ci [B_ a,B_ ⟨#[]⟩] b):=by
    rw[show c=b by omega,zG (by rw[c0.o];exact Nat.le_refl _),yC]at m;exact m
   have c5:=Aa c4;have r:=Aa q;have i9:¬(c:Int)<(b:Int):=O_;have H:=Aa (Ta c3.o q C.o);obtain⟨d4,d5⟩:=Ae3 H.o;clear c4 m q
   go_wp2_with (first
    | (at_builtin;refine IP wr rfl (.tmp 24) (.tmp 26) 30 51 zC _ 2 32 Cg rfl O_ O_ rfl 0 (L_ g b l) b [B_ a,B_ ⟨#[]⟩] rfl (DC a) rfl c5.o 1 rfl O_ O_ #[B_ a,B_ ⟨#[]⟩] rfl ?_))
   intro k6 i0 U d8 V d9 i1;obtain⟨g6,g7,rfl⟩:=Ad U;have s:=Aa (And.intro V (And.intro d9 (marked_of U)));have c6:=Aa d8;have I:=Aa (Ta H.o V C.o);obtain⟨g8,g9⟩:=Ae3 I.o;clear U d8 V d9 c5 i1 d4 d5 H
   go_wp2_with (first
    | (at_builtin;refine IP i0 rfl (.tmp 28) (.tmp 31) 30 51 zC _ 2 32 Cg rfl O_ O_ rfl 0 (L_ g b l) b [B_ a,B_ ⟨#[]⟩] rfl (DC a) rfl c6.o 2 rfl O_ O_ #[B_ a,B_ ⟨#[]⟩,B_ a,B_ ⟨#[]⟩] rfl ?_))
   intro k7 i2 W e0 X e1 e2;obtain⟨h1,h2,rfl⟩:=Ad W;have p:=Aa (And.intro X (And.intro e1 (And.intro (marked_of W) (e2 _ s.o.2.2))));have c7:=Aa e0;have c8:=Aa (Ta I.o X C.o);obtain⟨h3,h4⟩:=Ae3 c8.o;clear W e0 X e1 c6 e2 g8 g9 I
   go_wp2_with (first
    | (at_builtin;refine IP i2 rfl (.tmp 33) (.tmp 37) 30 51 zC _ 2 32 Cg rfl O_ O_ rfl 0 (L_ g b l) b [B_ a,B_ ⟨#[]⟩] rfl (DC a) rfl c7.o 3 rfl O_ O_ #[B_ a,B_ ⟨#[]⟩,B_ a,B_ ⟨#[]⟩,B_ a,B_ ⟨#[]⟩] rfl ?_))
   intro k8 i3 Y e3 e4 e5 Z;obtain⟨h5,h6,rfl⟩:=Ad Y;have k:=Aa (And.intro e4 (And.intro e5 (And.intro (marked_of Y) (And.intro (Z _ p.o.2.2.1) (And.intro (Z _ p.o.2.2.2) (marked_of e3))))));clear Y e3 e4 e5 c7 Z h3 h4 c8;have J:=Ge (Ge (Ge r.o s.o.1) p.o.1) k.o.1;have j0:=B.o.size;have j1:=r.o.size;have j2:=s.o.1.size;have j3:=p.o.1.size;have j4:=k.o.1.size;have L:=Aa (VT b8.o b9.o n.o B.o J k.o.2.2.2.2.2 k.o.2.2.2.2.1 k.o.2.2.2.1 k.o.2.2.1 (s.o.2.1.imp_right fun⟨y,f0,e⟩=>⟨y,O_,e⟩) (p.o.2.1.imp_right fun⟨y,f0,e⟩=>⟨y,O_,e⟩) (k.o.2.1.imp_right fun⟨y,f0,e⟩=>⟨y,O_,e⟩));have c9:=Aa (c2.o.grown J n.o.1);clear r s p k J B c2 b7 b8 b9 b6;obtain⟨-,h7,-,-,-,-,-,-,-,-,i⟩:=c9.o.cells;have f8:=i 1;clear i
   go_wp2_with (first
    | (at_builtin;refine VS i3 rfl (.tmp 43) (.tmp 48) 68 30 Tryz.underlying68 _ 1 24 IM rfl O_ O_ rfl 0 (L_ g2 f g3) f b2 rfl L.o.1 [L_ g b l,L_ g6 (b+1) g7,L_ h1 (b+2) h2,L_ h5 (b+3) h6] 4 rfl (by intro i4 t;simp at t;rcases t with rfl|rfl|rfl|rfl<;>rfl) rfl O_ O_ ?_))
   intro k9 i5 a0 u e6;obtain⟨N,O,rfl⟩:=Ad a0;have M:=Aa (And.intro a0 (And.intro u e6));have d0:=Aa (c9.o.grown u n.o.2.1);have d1:=Aa (L.o.rowM n.o u 1 (L_ N (f+4) O));have d2:=Aa (d0.o.set1 (L_ N (f+4) O));have j5:=u.size;obtain⟨-,h8,-,-,-,-,-,-,-,-,i⟩:=d0.o.cells;have f9:=i 1;obtain⟨-,-,h9,-,-,-,-,-,-,-,d6⟩:=d2.o.cells;have g0:=d6 2;clear a0 u e6 i d6 h7 f8
   go_wp2_with (first
    | (at_builtin;refine VS (i5.setCell (Q_ o 1) (L_ N (f+4) O)) rfl (.tmp 56) (.tmp 61) 40 9 kM _ 1 16 Jr rfl O_ O_ rfl 0 (L_ g4 f g5) f b3 rfl d1.o [B_ a,B_ a,B_ a,B_ a] 4 rfl (by intro i4 t;simp at t;subst t;rfl) U_ O_ (by rw[setSize];omega) ?_))
   intro l0 l1 a1 a2 e7;obtain⟨k3,k4,rfl⟩:=Ad a1;have d3:=Aa (d2.o.grown a2 n.o.2.2.1);have g1:=Aa (VU f5 L.o n.o M.o.1 M.o.2.1 M.o.2.2 1 a1 a2 e7 2);obtain⟨-,-,k5,-,-,-,-,-,-,-,i⟩:=d3.o.cells;have j6:=i 2;clear a1 a2 e7 i h8 h9 f9 g0 d1;go_wp2_with fail;go_end0;exact⟨a,R,_,_,rfl,d3.o.set2 _,g1.o⟩
theorem Ab4(a:hH)(d b c:Nat)(j:b<d)(x:Value)(f:a[c]?=some x):(Ci a d)[b*a.length+c]?=some x:=by
 have g:c<a.length:=(jM.1 f).1;have i:=Iv a b;rw[show d=b+(1+(d-b-1))by omega,Jq,Jq,kC (show(Ci a b).length<=b*a.length+c by omega),vQ (show b*a.length+c-(Ci a b).length<(Ci a 1).length by rw[Iv a 1];omega)];have e:b*a.length+c-(Ci a b).length=c:=O_;rw[e];simpa[Ci]using f
theorem Dn.at{q:Option Addr}(h:Dn e g w (L_ q a l))(f:Nat)(p:f<a):∃b,q=P_ b/\b<w.heap.size/\a<=l/\∀d x,g[d]?=some x->w.cell? (Q_ b (f*g.length+d))=some x:=by
 obtain⟨r,s,t,i,m,u,j⟩:=h;simp only[xJ]at i;obtain⟨rfl,rfl,rfl⟩:=i;rcases j with j|⟨b,y,rfl,k,n⟩
 ·omega
 ·refine⟨b,rfl,(xS.1 k).1,m,fun d x o=> ?_⟩;have c:=Ab4 g a f d p x o;rw[<-n]at c;unfold World.cell?;rw[k];have d:=(jM.1 c).1;rw[qU (by simp at d;omega)]at c;simpa using c
theorem Dn.shape(h:Dn e g w v):∃b a c,v=L_ b a c/\a<=9223372036854775807:=by obtain⟨b,a,c,rfl,f,d,-⟩:=h;exact⟨b,a,c,rfl,by unfold maxLen at d;omega⟩
theorem VV{m:Nat}(h:w.ownsRow a e l v m g)(c:Below w.heap.size w b):b.ownsRow a e l v m g:=
 zP h (row:=none) ⟨c.os,c.tape,c.output,c.size,fun d f _=>c.block d f⟩ (by cases v.ownBlock<;>simp)
def AY(eS eE eM:TypeId)(mk:Value->hH)(ok:Value->Prop)(w:World)(vS vM:Value)(k:Nat):Prop:=∃L M:hH,w.ownsRow 0 eS 1 vS k L/\w.ownsRow 0 eM 1 vM k M/\∀(i:Nat) (u m:Value),L[i]?=some u->M[i]?=some m->ok m/\Dn eE (mk m) w u
theorem AY.below(h:AY f i j mk k w c d a)(g:Below w.heap.size w b):AY f i j mk k b c d a:=by obtain⟨r,s,t,u,l⟩:=h;exact⟨r,s,VV t g,VV u g,fun m n o p q=>⟨(l m n o p q).1,(l m n o p q).2.below g⟩⟩
theorem AY.shape(h:AY f i j mk k w c d a):(∃b g,c=L_ b a g)/\∃b g,d=L_ b a g:=by obtain⟨l,m,b,g,n⟩:=h;exact⟨Ad b,Ad g⟩
theorem Wi(h:w.ownsRow 0 e 1 v a g)(b:Nat)(r:b<a):∃c d x,v=L_ (P_ c) a d/\c<w.heap.size/\a<=d/\g[b]?=some x/\w.cell? (Q_ c b)=some x:=by
 have n:=h.1;rcases h.2 with⟨_,h0⟩|⟨c,d,k,rfl,o,j,l,p,q,m⟩
 ·omega
 ·have f:b<g.length:=O_;refine⟨c,d,g[b],rfl,(xS.1 j).1,l,xW f,?_⟩;have i:(k.toList.take (a*1))[b]?=some g[b]:=by rw[m];exact xW f
  rw[qU O_]at i;unfold World.cell?;rw[j];simpa using i
theorem AY.at(h:AY f i j mk k w c d a)(g:Nat)(q:g<a):∃m o n p l b,c=L_ (P_ m) a o/\d=L_ (P_ n) a p/\a<=o/\a<=p/\m<w.heap.size/\n<w.heap.size/\w.cell? (Q_ m g)=some l/\w.cell? (Q_ n g)=some b/\k b/\Dn i (mk b) w l:=by obtain⟨I,J,m,n,o⟩:=h;obtain⟨p,r,l,s,t,u,y,z⟩:=Wi m g q;obtain⟨A,B,b,C,D,F,G,H⟩:=Wi n g q;exact⟨p,r,A,B,l,b,s,C,u,F,t,D,z,H,o g l b y G⟩
abbrev mkI(m:Value):hH:=[m,B_ ⟨#[]⟩]
abbrev mkC(m:Value):hH:=[J_ 0,m,B_ ⟨#[]⟩]
abbrev mkT(m:Value):hH:=[m]
def IQ(m:Value):Prop:=∃s,m=B_ s
def Afk(m:Value):Prop:=∃q,m=J_ q
abbrev Agq:=AY 30 51 9 mkI IQ
abbrev Agr:=AY 77 34 9 mkC IQ
abbrev Ags:=AY 40 9 9 mkT IQ
abbrev Agt:=AY 25 3 3 mkT Afk
theorem YA(b8:Nat)(d4 b9 c0 c1 c2 c3 c4 c5 c6:Value)(d5:Int)(R S T U:Nat)(w:World)(h:Wb w b8 d4 b9 c0 c1 c2 c3 c4 c5 c6 d5)(b4:Agq w b9 c0 R)(b5:Agr w c1 c2 S)(b6:Ags w c3 c4 T)(b7:Agt w c5 c6 U)(f3:R<=1000000000)(f4:S<=1000000000)(f5:T<=1000000000)(f6:U<=1000000000):
  Calls Tryz.prog 30 #[.pointer (some (Q_ b8 1))] w fun d2 d3=>d2=R_ (.bool true)/\Below w.heap.size w d3:=by
 obtain⟨⟨d7,d8,rfl⟩,⟨d9,e0,rfl⟩⟩:=b4.shape;obtain⟨⟨e1,e2,rfl⟩,⟨e3,e4,rfl⟩⟩:=b5.shape;obtain⟨⟨e5,e6,rfl⟩,⟨e7,e8,rfl⟩⟩:=b6.shape;obtain⟨⟨e9,f0,rfl⟩,⟨f1,f2,rfl⟩⟩:=b7.shape;have A:=Aa h;have c7:=Aa b4;have c8:=Aa b5;have c9:=Aa b6;have d0:=Aa b7;have B:=h.lt;clear h b4 b5 b6 b7;go_in;go_wp2_with fail
 go_loopw [3,4] (fun j _ wr=>∃a:Nat,a<=R/\j=J_ a/\Below w.heap.size w wr) (fun j _ _=>R-(intOf j).toNat)
 case atStart=>exact⟨0,Y_,rfl,xA _ _⟩
 case round=>
  obtain⟨a,V,rfl,g⟩:=hrel;have f:=Aa g;obtain⟨-,s,t,-,-,-,-,-,-,-,-⟩:=(A.o.below g B).cells;clear g;by_cases z:a<R
  ·obtain⟨I,a0,J,a1,a2,a3,n,o,a4,a5,L,M,p,q,⟨a6,rfl⟩,i⟩:=(c7.o.below f.o).at a z;simp only[xJ,yB]at n o;obtain⟨rfl,rfl⟩:=n;obtain⟨rfl,rfl⟩:=o;obtain⟨a7,d,a8,rfl,a9⟩:=i.shape;have C:=Aa i;clear i;go_wp2_with fail;have D:=f.o.size
   go_loopw [4] (fun k N=>∃b:Nat,b<=d/\k=J_ b/\Below wr.heap.size wr N) (fun k _=>d-(intOf k).toNat)
   case atStart=>exact⟨0,Y_,rfl,xA _ _⟩
   case round=>
    obtain⟨b,b0,rfl,c⟩:=hrel;have m:=Aa (f.o.trans (c.mono D));obtain⟨-,b1,b2,-,-,-,-,-,-,-,-⟩:=(A.o.below m.o B).cells;have W:=(c.cell (p:=(Q_ I a)) L).trans p;have X:=(c.cell (p:=(Q_ J a)) M).trans q;clear s t p q;have Y:(0:Int)<=(a:Int):=O_;have r:(a:Int)<(R:Int):=O_;by_cases O:b<d
    ·obtain⟨u,rfl,y,b3,l⟩:=C.o.at b O;have F:=(c.cell (p:=(Q_ u (b*2+0))) y).trans (l 0 _ rfl);have d1:=(c.cell (p:=(Q_ u (b*2+1))) y).trans (l 1 _ rfl);rw[jW]at F;have Z:(0:Int)<=(b:Int):=O_;have G:(b:Int)<(d:Int):=O_;have H:=Aa c;clear c l;go_wp2_with fail;go_quiet (fail);go_wp2_with fail
     go_roundw
     case rel=>exact⟨b+1,O_,W_,Ao H.o _⟩
     case measure=>simp[intOf];omega
    ·have G:¬(b:Int)<(d:Int):=O_;go_wp2_with fail
     go_roundw
     case rel=>exact⟨a+1,O_,W_,m.o⟩
     case measure=>simp[intOf];omega
  ·have r:¬(a:Int)<(R:Int):=O_;go_wp2_with fail;clear s t r z V
   go_loopw [5,6] (fun j _ wr=>∃a:Nat,a<=S/\j=J_ a/\Below w.heap.size w wr) (fun j _ _=>S-(intOf j).toNat)
   case atStart=>exact⟨0,Y_,rfl,f.o⟩
   case round=>
    obtain⟨a,V,rfl,g⟩:=hrel;have f:=Aa g;obtain⟨-,-,-,s,t,-,-,-,-,-,-⟩:=(A.o.below g B).cells;clear g;by_cases z:a<S
    ·obtain⟨I,a0,J,a1,a2,a3,n,o,a4,a5,L,M,p,q,⟨a6,rfl⟩,i⟩:=(c8.o.below f.o).at a z;simp only[xJ,yB]at n o;obtain⟨rfl,rfl⟩:=n;obtain⟨rfl,rfl⟩:=o;obtain⟨a7,d,a8,rfl,a9⟩:=i.shape;have C:=Aa i;clear i;go_wp2_with fail;have D:=f.o.size
     go_loopw [6] (fun k N=>∃b:Nat,b<=d/\k=J_ b/\Below wr.heap.size wr N) (fun k _=>d-(intOf k).toNat)
     case atStart=>exact⟨0,Y_,rfl,xA _ _⟩
     case round=>
      obtain⟨b,b0,rfl,c⟩:=hrel;have m:=Aa (f.o.trans (c.mono D));obtain⟨-,-,-,b1,b2,-,-,-,-,-,-⟩:=(A.o.below m.o B).cells;have W:=(c.cell (p:=(Q_ I a)) L).trans p;have X:=(c.cell (p:=(Q_ J a)) M).trans q;clear s t p q;have Y:(0:Int)<=(a:Int):=O_;have r:(a:Int)<(S:Int):=O_;by_cases O:b<d
      ·obtain⟨u,rfl,y,b3,l⟩:=C.o.at b O;have F:=(c.cell (p:=(Q_ u (b*3+0))) y).trans (l 0 _ rfl);have d1:=(c.cell (p:=(Q_ u (b*3+1))) y).trans (l 1 _ rfl);have d6:=(c.cell (p:=(Q_ u (b*3+2))) y).trans (l 2 _ rfl);rw[jW]at F;have Z:(0:Int)<=(b:Int):=O_;have G:(b:Int)<(d:Int):=O_;have H:=Aa c;clear c l;go_wp2_with fail;go_quiet (fail);go_wp2_with fail
       go_roundw
       case rel=>exact⟨b+1,O_,W_,Ao H.o _⟩
       case measure=>simp[intOf];omega
      ·have G:¬(b:Int)<(d:Int):=O_;go_wp2_with fail
       go_roundw
       case rel=>exact⟨a+1,O_,W_,m.o⟩
       case measure=>simp[intOf];omega
    ·have r:¬(a:Int)<(S:Int):=O_;go_wp2_with fail;clear s t r z V
     go_loopw [7,8] (fun j _ wr=>∃a:Nat,a<=T/\j=J_ a/\Below w.heap.size w wr) (fun j _ _=>T-(intOf j).toNat)
     case atStart=>exact⟨0,Y_,rfl,f.o⟩
     case round=>
      obtain⟨a,V,rfl,g⟩:=hrel;have f:=Aa g;obtain⟨-,-,-,-,-,s,t,-,-,-,-⟩:=(A.o.below g B).cells;clear g;by_cases z:a<T
      ·obtain⟨I,a0,J,a1,a2,a3,n,o,a4,a5,L,M,p,q,⟨a6,rfl⟩,i⟩:=(c9.o.below f.o).at a z;simp only[xJ,yB]at n o;obtain⟨rfl,rfl⟩:=n;obtain⟨rfl,rfl⟩:=o;obtain⟨a7,d,a8,rfl,a9⟩:=i.shape;have C:=Aa i;clear i;go_wp2_with fail;have D:=f.o.size
       go_loopw [8] (fun k N=>∃b:Nat,b<=d/\k=J_ b/\Below wr.heap.size wr N) (fun k _=>d-(intOf k).toNat)
       case atStart=>exact⟨0,Y_,rfl,xA _ _⟩
       case round=>
        obtain⟨b,b0,rfl,c⟩:=hrel;have m:=Aa (f.o.trans (c.mono D));obtain⟨-,-,-,-,-,b1,b2,-,-,-,-⟩:=(A.o.below m.o B).cells;have W:=(c.cell (p:=(Q_ I a)) L).trans p;have X:=(c.cell (p:=(Q_ J a)) M).trans q;clear s t p q;have Y:(0:Int)<=(a:Int):=O_;have r:(a:Int)<(T:Int):=O_;by_cases O:b<d
        ·obtain⟨u,rfl,y,b3,l⟩:=C.o.at b O;have F:=(c.cell (p:=(Q_ u (b*1+0))) y).trans (l 0 _ rfl);rw[jW,kJ]at F;have Z:(0:Int)<=(b:Int):=O_;have G:(b:Int)<(d:Int):=O_;have H:=Aa c;clear c l;go_wp2_with fail;go_quiet (fail);go_wp2_with fail
         go_roundw
         case rel=>exact⟨b+1,O_,W_,Ao H.o _⟩
         case measure=>simp[intOf];omega
        ·have G:¬(b:Int)<(d:Int):=O_;go_wp2_with fail
         go_roundw
         case rel=>exact⟨a+1,O_,W_,m.o⟩
         case measure=>simp[intOf];omega
      ·have r:¬(a:Int)<(T:Int):=O_;go_wp2_with fail;clear s t r z V
       go_loopw [9,10] (fun j _ wr=>∃a:Nat,a<=U/\j=J_ a/\Below w.heap.size w wr) (fun j _ _=>U-(intOf j).toNat)
       case atStart=>exact⟨0,Y_,rfl,f.o⟩
       case round=>
        obtain⟨a,V,rfl,g⟩:=hrel;have f:=Aa g;obtain⟨-,-,-,-,-,-,-,s,t,-,-⟩:=(A.o.below g B).cells;clear g;by_cases z:a<U
        ·obtain⟨I,a0,J,a1,a2,a3,n,o,a4,a5,L,M,p,q,⟨a6,rfl⟩,i⟩:=(d0.o.below f.o).at a z;simp only[xJ,yB]at n o;obtain⟨rfl,rfl⟩:=n;obtain⟨rfl,rfl⟩:=o;obtain⟨a7,d,a8,rfl,a9⟩:=i.shape;have C:=Aa i;clear i;go_wp2_with fail;have D:=f.o.size
         go_loopw [10] (fun k N=>∃b:Nat,b<=d/\k=J_ b/\Below wr.heap.size wr N) (fun k _=>d-(intOf k).toNat)
         case atStart=>exact⟨0,Y_,rfl,xA _ _⟩
         case round=>
          obtain⟨b,b0,rfl,c⟩:=hrel;have m:=Aa (f.o.trans (c.mono D));obtain⟨-,-,-,-,-,-,-,b1,b2,-,-⟩:=(A.o.below m.o B).cells;have W:=(c.cell (p:=(Q_ I a)) L).trans p;have X:=(c.cell (p:=(Q_ J a)) M).trans q;clear s t p q;have Y:(0:Int)<=(a:Int):=O_;have r:(a:Int)<(U:Int):=O_;by_cases O:b<d
          ·obtain⟨u,rfl,y,b3,l⟩:=C.o.at b O;have F:=(c.cell (p:=(Q_ u (b*1+0))) y).trans (l 0 _ rfl);rw[jW,kJ]at F;have Z:(0:Int)<=(b:Int):=O_;have G:(b:Int)<(d:Int):=O_;have H:=Aa c;clear c l;go_wp2_with fail;go_quiet (fail);go_wp2_with fail
           go_roundw
           case rel=>exact⟨b+1,O_,W_,Ao H.o _⟩
           case measure=>simp[intOf];omega
          ·have G:¬(b:Int)<(d:Int):=O_;go_wp2_with fail
           go_roundw
           case rel=>exact⟨a+1,O_,W_,m.o⟩
           case measure=>simp[intOf];omega
        ·have r:¬(a:Int)<(U:Int):=O_;go_wp2_with fail;go_ret;exact⟨rfl,f.o⟩
