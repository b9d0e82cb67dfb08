import Derived.Test.YtolgpnaoaodepaaGreatRlEm
set_option maxHeartbeats 4000000
set_option maxRecDepth 100000
namespace Go.Proofs.YtolgpnaoaodepaaGreat
open Go.RowKit Pg
variable {s:List hE}{p:hE}{y:Pr.Its}
def Adg(w:World)(ks:List hE)(i:Nat)(sec:hE)(r:Ending)(w':World):Prop:=
 Below w.heap.size w w'/\∃l v b,r=R_ (.tuple #[v,.bool b])/\Ap w.heap.size w' v l/\l.length<=5/\(b=true->Pr.Ay ks i sec=some (Ab l))/\(b=false->Pr.Ay ks i sec=none)
theorem Qs{w b:World}{a:Nat}(c:Below w.heap.size w b)(h:Pr.Ay s a p=none):Adg w s a p (R_ (.tuple #[Z_,.bool false])) b:=
 ⟨c,[],_,false,rfl,yP _ _ _ _,D_,(nomatch ·),fun _=>h⟩
theorem BU{α:Type}{C:Option α}{D:Prop}(h:C≠none->D)(a:¬D):C=none:=by
 cases C with
 | none=>rfl
 | some x=>exact absurd (h D_) a
theorem Aa3{v:hE}(b:Pr.Kw y)(f:Pg.Dm p.length=true)(g:v.length<=16)(i:∀a∈y,a.1<p):Pr.Kw (y++[(p,v)]):=by
 refine⟨fun a c=> ?_,?_⟩
 ·rcases xE.1 c with h|h
  ·exact b.1 a h
  ·rw[yR.1 h];exact⟨f,g⟩
 ·rw[jN];refine⟨b.2,bL _ _,fun a c d d=> ?_⟩;rw[yR.1 d];exact i a c
theorem Pg.le_last_lt(i:Pr.Kw y){F:hE×hE}(a:F∈y)(h:Jd y<p):F.1<p:=by
 have c:y≠[]:=fun e=>by rw[e]at a;simp at a
 obtain⟨d,b,rfl⟩:∃d b,y=d++[b]:=⟨y.dropLast,y.getLast c,(List.dropLast_concat_getLast c).symm⟩;obtain⟨f,g⟩:=b;rw[Vk]at h;rcases xE.1 a with a|a
 ·have:=i.2;rw[jN]at this;exact Pr.Ei (this.2.2 F a (f,g) D_) h
 ·rw[yR.1 a];exact h
theorem Aa4(b9:Nat)(l9 m0:Value)(c l:hD)(b:Nat)(w:World)(g5:Bc b9 w l9 c)(c0:Bc b9 w m0 l)(m1:c.length=l.length)(Z:b<l.length)(q2:l.length<=4)(m2:∀k8∈l,k8.size<=1000000):
  Calls Tryz.prog 153 #[.agg #[l9,m0],J_ b] w fun q p7=>Adg w (Ag c) b (l[b]'Z).data.toList q p7:=by
 have q7:=Aa m1;have c1:b<c.length:=O_;have q8:c.length<=4:=O_;obtain⟨s,u,rfl,t5,t6,t7⟩:=g5.shape_pos O_;obtain⟨L,V,rfl,t8,o7,t9⟩:=c0.shape_pos O_;have m3:=Aa g5;have q9:=Aa c0;have r0:=m2 (l[b]'Z) (yA Z);have g6:=c0.cellAt b (l[b]'Z) (xW Z);generalize l[b]'Z=r at*;have g7:Hid ((w.alloc (C_ #[L_ (P_ s) c.length u,L_ (P_ L) l.length V] 205)).heap[w.heap.size]?=some (C_ #[L_ (P_ s) c.length u,L_ (P_ L) l.length V] 205 (0,0))):=xK _ _;have c2:=Aa ((xA w.heap.size w).alloc X_ (C_ #[L_ (P_ s) c.length u,L_ (P_ L) l.length V] 205));have m4:w.heap.size<(w.alloc (C_ #[L_ (P_ s) c.length u,L_ (P_ L) l.length V] 205)).heap.size:=D_;have m5:=(c2.o.cell (p:=(Q_ L b)) o7).trans g6;have r1:(b:Int)<(l.length:Int):=O_;have r2:(0:Int)<=(b:Int):=O_;clear g5 c0 m1 m2 g6;go_in;go_wp2_with fail;generalize w.alloc (C_ #[L_ (P_ s) c.length u,L_ (P_ L) l.length V] 205)=q5 at*;have g8:=Vj [98] r.data.toList;rw[Ah]at g8;refine(Rr ⟨#[98]⟩ r q5 Do O_).mono ?_;rintro q G ⟨rfl,b4⟩;rw[show(⟨#[98]⟩:hJ).data.toList=[98]from rfl];have g9:Hid (∃k,k=(content [98] r.data.toList).1):=⟨_,rfl⟩;obtain⟨k,e4⟩:=g9.o;obtain⟨a2,e5⟩:∃a2,a2=(content [98] r.data.toList).2:=⟨_,rfl⟩;rw[<-e4]at g8⊢;rw[<-e5];have h1:=Aa e4;have m6:=Aa e5;have m7:=Ba k;have m8:=Aa (c2.o.trans (b4.mono O_));have m9:=Aa ((b4.block w.heap.size m4).trans g7.o);have r3:=b4.size;clear e4 e5 b4 c2 g7 m5 g9;have h2:=Aa (We ⟨k.toArray⟩ G (by rw[m7];omega));have c3:=(xA G.heap.size G).alloc X_ (C_ #[B_ ⟨k.toArray⟩,J_ 0,.bool false] 259);have c4:=Aa (m8.o.trans (c3.mono O_));have n0:=Aa ((c3.block w.heap.size O_).trans m9.o);have r4:G.heap.size<(G.alloc (C_ #[B_ ⟨k.toArray⟩,J_ 0,.bool false] 259)).heap.size:=D_;clear c3;go_wp2_with fail;generalize G.alloc (C_ #[B_ ⟨k.toArray⟩,J_ 0,.bool false] 259)=n at*;have r5:w.heap.size<G.heap.size:=O_;generalize G.heap.size=y at*;have h3:=Aa (Aa2 (ks:=Ag c) (i:=b) (sec:=r.data.toList) ⟨k,false⟩ (by rw[h1.o]));refine(Ha y 1 ⟨k,false⟩ n h2.o O_).mono ?_;rintro q f0 ⟨rfl,a5,X⟩;have a0:=Aa a5;have R:=Aa X;clear a5 X;go_wp2_with fail;refine(Gz _ _ (by rw[Kf];omega)).mono ?_;rintro q u5 ⟨rfl,rfl⟩;rw[show Pg.Da (⟨((⟨k,false⟩:Cur).take 1).1.toArray⟩:hJ).data.toList=(⟨k,false⟩:Cur).byte from rfl];have r6:=Sx ⟨k,false⟩;generalize(⟨k,false⟩:Cur).byte=f at*;generalize((⟨k,false⟩:Cur).take 1).2=q6 at*;go_wp2_with fail
 go_loopw [10,11,12] (fun p8 p9 f7 wr=>∃(d:Nat) (a:gY) (i:hJ) (g:Cur),d<=5/\d<=f/\f7=J_ d/\a.length=d/\p9=B_ i/\i.data.toList=Jd (Ab a)/\i.size<=12/\Pr.Kw (Ab a)/\Ap n.heap.size wr p8 a/\Iu wr y g/\But y n wr/\KF (Ag c) b r.data.toList f d (Ab a) g) (fun _ _ f7 _=>f-(intOf f7).toNat)
 case atStart=>exact⟨0,[],⟨#[]⟩,q6,O_,Y_,rfl,rfl,rfl,rfl,Do,⟨by simp[Ab],by simp[Ab]⟩,yP _ _ _ _,a0.o,R.o,h3.o⟩
 case round=>
  clear a0 R h3 h2;obtain⟨d,a,i,g,k1,k2,rfl,k3,rfl,k4,u0,k5,e6,e7,M,k6⟩:=hrel;have S:=Aa k3;have c5:=Aa k4;have a8:=Aa k5;have c6:=Aa e6;have c7:=Aa e7;have c8:=Aa M;have a9:=Aa k6;have h4:=M.size;have c9:=Aa (Aq c4.o M O_ O_);obtain⟨b2,k7⟩:=e7.cells;obtain⟨a3,D,rfl⟩:=Ad e6;have h5:a.length<=5:=O_;clear k3 k4 k5 e6 e7 M k6;by_cases g1:d<f/\d<5/\g.bad=false
  ·obtain⟨o8,u1,o9⟩:=g1;rw[o9]at b2;have t:=Aa (Adf a9.o o8 (by have:=S.o;simpa[Ab]using this));rw[<-c5.o]at t;go_wp2_with fail;refine(Ha y 1 g wr c7.o O_).mono ?_;rintro q f0 ⟨rfl,a5,X⟩;have a0:=Aa a5;have R:=Aa (Aw c8.o X);have h6:Hid (Ap n.heap.size f0 (L_ a3 a.length D) a):=Hj c6.o X O_;clear a5 X b2 k7;go_wp2_with fail;refine(Gz _ _ (by rw[Kf];omega)).mono ?_;rintro q f1 ⟨rfl,rfl⟩;rw[show Pg.Da (⟨(g.take 1).1.toArray⟩:hJ).data.toList=g.byte from rfl];have r7:=Sx g;by_cases u9:i.size<g.byte
   ·have J:Hid (Pr.Ay (Ag c) b r.data.toList=none):=BU t.o.2 (fun h=>by have:=h.1;rw[Ah]at this;omega);have A:=Aa (Aq c4.o R.o O_ O_);generalize g.byte=z at*;clear t;go_wp2_with fail;go_ret2;exact Qs A.o J.o
   ·have r8:(g.byte:Int)<=(i.size:Int):=O_;have r9:(0:Int)<=(g.byte:Int):=O_;have s0:=GL (g.take 1).2 12;have n1:=GL ((g.take 1).2.text 12).2 16;have h7:=Aa (Yg y 12 (g.take 1).2 (World.drew f1) a0.o O_);have h8:=Aa (fun q0 h=>Yg y 16 ((g.take 1).2.text 12).2 q0 h O_);generalize g.byte=z at*;generalize(g.take 1).2=l5 at*;generalize(l5.text 12).1=x at*;generalize(l5.text 12).2=l6 at*;generalize(l6.text 16).1=v at*;generalize(l6.text 16).2=l7 at*;have s1:=Ba x;have s2:(i.extract 0 z).size=z:=(by rw[zM];omega);have n2:∀w,(Op.stringOp .add (i.extract 0 z) ⟨x.toArray⟩).run Tryz.prog w=.ok (B_ (i.extract 0 z++⟨x.toArray⟩)) w:=fun w=>kA w _ _ O_
    go_wp2_with fail
    go_region_law (go_simp;refine h7.o.mono ?_;rintro q l0 ⟨rfl,l1,f2⟩;have h9:=Aa l1;have i0:=Aa (Aw R.o (Im f2));have i1:Hid (Ap n.heap.size l0 (L_ a3 a.length D) a):=Hj h6.o (Im f2) O_;clear l1 f2)
    all_goals
     have i2:Hid ((i.extract 0 z++⟨x.toArray⟩:hJ).data.toList=i.data.toList.take z++x):=(by show _=_;rw[qN,vD,zZ];simp);rw[<-i2.o]at t;have s3:(i.extract 0 z++⟨x.toArray⟩:hJ).size<=24:=(by rw[zO];omega);clear i2 n2;generalize(i.extract 0 z++⟨x.toArray⟩:hJ)=j at*;go_wp2_with fail;refine(h8.o l0 h9.o).mono ?_;rintro q l2 ⟨rfl,l3,f3⟩;have d0:=Aa l3;have d1:=Aa (Aw i0.o f3);have b0:Hid (Ap n.heap.size l2 (L_ a3 a.length D) a):=Hj i1.o f3 O_;have s4:=d1.o.size;clear l3 f3 h9 i0 i1 a0 R h6 h7 h8
     go_wp2_with (first
      | (at_builtin;refine Ix l2 rfl (.tmp 61) (.tmp 66) 30 51 zC _ 2 32 Cg rfl Do Do rfl n.heap.size (L_ a3 a.length D) a.length (Al a) rfl b0.o [B_ j,B_ ⟨v.toArray⟩] rfl (by intro u7 M;simp at M;rcases M with rfl|rfl<;>rfl) rfl O_ O_ ?_))
     intro p4 l4 f5 f6 p5;have d2:Hid (Ap n.heap.size l4 p4 (a++[(j,⟨v.toArray⟩)])):=(by show Ap _ _ _ _;unfold Ap;rw[xC,Jo];exact f5);have i3:=Aa (d0.o.other (f6.block y (by obtain⟨k8,u2,h,_⟩:=d0.o;exact h.lt) (fun e=>by have:=(xF b0.o y e.symm).1;omega)));have d3:=Aa (Pe d1.o b0.o X_ f6);obtain⟨u3,u4,rfl⟩:=Ad f5;have n3:a.length+1<=6:=O_;clear f5 f6 p5 d0 d1 b0;rw[show a.length+1=(a++[(j,(⟨v.toArray⟩:hJ))]).length by simp]at d2 n3⊢;have d4:Hid (Ab (a++[(j,(⟨v.toArray⟩:hJ))])=Ab a++[(j.data.toList,v)]):=(by show _=_;rw[EJ]);have i4:Hid (j.data.toList=Jd (Ab (a++[(j,(⟨v.toArray⟩:hJ))]))):=(by show _=_;rw[d4.o,Vk]);have i5:Hid ((a++[(j,(⟨v.toArray⟩:hJ))]).length=d+1):=(by show _=_;rw[xC,S.o];rfl);rw[<-d4.o]at t;have A:=Aa (Aq c4.o d3.o O_ O_);have i6:Hid (Pg.Dm j.size=true->(0<d->i.data.toList<j.data.toList)->Pr.Kw (Ab (a++[(j,(⟨v.toArray⟩:hJ))]))):=fun p C=>by
      rw[d4.o];refine Aa3 a8.o (by rw[Ah];exact p) n1 fun u8 a6=> ?_
      have b1:0<d:=by
       rcases bR d with h|h
       ·have:=S.o;rw[h]at this;rw[zA.1 this]at a6;simp[Ab]at a6
       ·exact h
      have:=C b1;rw[c5.o]at this;exact Pg.le_last_lt a8.o a6 this
     generalize q4:a++[(j,(⟨v.toArray⟩:hJ))]=l8 at*;clear q4;go_wp2_with fail;refine(BK j l4).mono ?_;rintro q u6 ⟨rfl,rfl⟩;by_cases N:Pg.Dm j.size=true
     ·rw[N];have i7:j.size<=12:=Pg.Ed N;by_cases b1:d=0
      ·have n4:decide ((0:Int)<(d:Int))=false:=K_;have d5:decide (0<d)=false:=K_;have i8:¬0<d:=O_;have d6:=Aa (i6.o N (fun h=>O_));clear b1;go_wp2_with fail
       go_roundw
       case rel=>exact⟨d+1,l8,j,l7,O_,O_,W_,i5.o,rfl,i4.o,i7,d6.o,d2.o,i3.o,d3.o,t.o.1⟩
       case measure=>simp[intOf];omega
      ·have n4:decide ((0:Int)<(d:Int))=true:=K_;have d5:decide (0<d)=true:=K_;have i8:0<d:=O_;clear b1;by_cases m:i.data.toList<j.data.toList
       ·have d7:Op.bytesLess i.toList j.toList=true:=(by rw[Af,Af,Cj];exact xQ m);have d6:=Aa (i6.o N (fun _=>m));clear m;go_wp2_with fail
        go_roundw
        case rel=>exact⟨d+1,l8,j,l7,O_,O_,W_,i5.o,rfl,i4.o,i7,d6.o,d2.o,i3.o,d3.o,t.o.1⟩
        case measure=>simp[intOf];omega
       ·have d7:Op.bytesLess i.toList j.toList=false:=(by rw[Af,Af,Cj];exact xN m);have J:Hid (Pr.Ay (Ag c) b r.data.toList=none):=BU t.o.2 (fun h=>m (h.2.2 i8));clear m;go_wp2_with fail;go_ret2;exact Qs A.o J.o
     ·have i9:Pg.Dm j.size=false:=(by simpa using N);have J:Hid (Pr.Ay (Ag c) b r.data.toList=none):=BU t.o.2 (fun h=>N (by have:=h.2.1;rwa [Ah]at this));rw[i9];clear N i9;go_wp2_with fail;go_ret2;exact Qs A.o J.o
  ·have a1:Hid (d<f->d<5->g.bad=true):=fun p C=>by
    cases d8:g.bad with
    | true=>rfl
    | false=>exact absurd ⟨p,C,d8⟩ g1
   have j0:(¬(d:Int)<(f:Int))\/((d:Int)<(f:Int)/\¬(d:Int)<5)\/((d:Int)<(f:Int)/\(d:Int)<5/\g.bad=true):=by
    rcases jX d f with p|p
    ·rcases jX d 5 with C|C
     ·exact .inr (.inr ⟨O_,O_,a1.o p C⟩)
     ·exact .inr (.inl ⟨O_,O_⟩)
    ·exact .inl O_
   clear g1;go_upto_region 7 with fail
   go_cut [45] (fun f8 f9=>f8=.bool false/\f9=wr)
   case first=>
    rcases j0 with b5|⟨b5,a6⟩|⟨b5,a6,p6⟩
    ·go_wp2_with fail;go_meet;exact⟨rfl,rfl⟩
    ·go_wp2_with fail;go_meet;exact⟨rfl,rfl⟩
    ·rw[p6]at b2;go_wp2_with fail;go_meet;exact⟨rfl,rfl⟩
   case rest=>
    obtain⟨rfl,rfl⟩:=hcut;clear j0;go_wp2_with fail;refine(KZ y g wc c7.o).mono ?_;rintro q f0 ⟨rfl,H,rfl⟩;have j1:Hid (g.ends=true->f<=4->d=f):=fun g0 q2=>by
     have d8:g.bad=false:=(by unfold Cur.ends at g0;simp only[yK,dA]at g0;exact g0.1);rcases jX d f with p|p
     ·have:=a1.o p O_;rw[d8]at this;cases this
     ·omega
    have j2:=Aa (Af8 a9.o a1.o k1 k2);have j3:=Aa (Afa a9.o a1.o k1 k2);have d9:=Aa (fun(h:(Ab a).length=f)=>Af9 (ks:=Ag c) (i:=b) (sec:=r.data.toList) (ck:=g) h a8.o);have j4:=Aa ((c8.o.block w.heap.size O_ K_).trans n0.o);have j5:Hid (Bc b9 wc (L_ (P_ s) c.length u) c):=m3.o.below c9.o X_;rw[<-m6.o]at j2 d9;rw[<-h1.o]at d9 j3;clear a9 a1 c8 c7;generalize g.ends=g3 at*;have n5:=Aa (Ao c9.o H);have n6:Hid ((wc.drewN H).heap[w.heap.size]?=some (C_ #[L_ (P_ s) c.length u,L_ (P_ L) l.length V] 205 (0,0))):=j4.o;have j6:Hid (Bc b9 (wc.drewN H) (L_ (P_ s) c.length u) c):=j5.o;have e0:Hid (Ap n.heap.size (wc.drewN H) (L_ a3 a.length D) a):=c6.o;have n7:n.heap.size<=(wc.drewN H).heap.size:=h4;clear c9 j4 j5 c6 h4 b2 k7;generalize wc.drewN H=O at*;have s5:O.cell? (Q_ w.heap.size 0)=some (L_ (P_ s) c.length u):=(by unfold World.cell?;rw[n6.o];rfl);obtain⟨F,e8⟩:∃F,F=c[b]'c1:=⟨_,rfl⟩;have s6:=j6.o.cellAt b F (by rw[e8];exact xW c1);have n8:Hid ((Ag c).getD b []=F.data.toList):=(by show _=_;rw[e8,jH,Ag,zU,xW c1];rfl);clear e8;go_upto_region 19 with fail
    go_cut [127] (fun f8 f9=>f8=.bool (Lw a2 g3 f (Ag c) b (Ab a))/\∃H,f9=O.drewN H)
    case first=>
     cases a2 with
     | false=>
      go_quiet (fail);go_wp2_with fail;go_meet;exact⟨rfl,_,rfl⟩
     | true=>
      cases g3 with
      | false=>
       go_quiet (fail);go_wp2_with fail;go_meet;exact⟨rfl,_,rfl⟩
      | true=>
       by_cases b6:f<1
       ·have d5:decide ((f:Int)<1)=true:=K_;have o:Hid (Lw true true f (Ag c) b (Ab a)=true):=(by show _=_;unfold Lw;rw[xQ b6];rfl);clear b6;go_quiet (fail);go_wp2_with fail;go_meet;exact⟨by rw[o.o],_,rfl⟩
       ·have d5:decide ((f:Int)<1)=false:=K_;by_cases b7:4<f
        ·have n9:decide ((4:Int)<(f:Int))=true:=K_;have o:Hid (Lw true true f (Ag c) b (Ab a)=true):=(by show _=_;unfold Lw;rw[xQ b7];simp);have s7:(4:Int)<(f:Int):=O_;clear b7;go_quiet (fail);go_wp2_with fail;go_meet;exact⟨by rw[o.o],_,rfl⟩
        ·have n9:decide ((4:Int)<(f:Int))=false:=K_;have e1:d=f:=j1.o rfl O_;have B:0<a.length:=(by have:=S.o;omega);obtain⟨b3,p0,e9,p1,p2,k9,a4⟩:=e0.o.isItems.resolve_left (by rintro⟨_,_,_,rfl⟩;simp at B);injection e9 with q1 W q3;subst q1 q3;obtain⟨p3,-⟩:=a4 0 B;simp only[zR,vK]at p3;clear a4;have j7:Hid (((Ab a).map (·.1)).getD 0 []=(a[0]'B).1.data.toList):=by
          show _=_;rw[jH,Ab,zW,zU,xW B];rfl
         have T:Hid (Lw true true f (Ag c) b (Ab a)=(decide ((a[0]'B).1.data.toList≠F.data.toList) || (decide (b+1<c.length)&& !decide (i.data.toList<(Ag c).getD (b+1) [])))):=(by show _=_;unfold Lw;rw[xN b6,xN b7,j7.o,n8.o,c5.o,show(Ag c).length=c.length by simp[Ag]];rfl);generalize(a[0]'B).1=g4 at*;have s8:(0:Int)<(a.length:Int):=O_;clear j7 e1 b6 b7;by_cases g2:g4=F
         ·subst g2;have s9:IntKind.i64.wrap ((b:Int)+1)=(b:Int)+1:=zY _ ⟨O_,O_⟩;by_cases I:b+1<c.length
          ·have o0:=j6.o.cellAt (b+1) (c[b+1]'I) (xW I);have o1:Hid ((Ag c).getD (b+1) []=(c[b+1]'I).data.toList):=(by show _=_;rw[jH,Ag,zU,xW I];rfl);generalize c[b+1]'I=b8 at*;have t0:O.cell? (Q_ s (((b:Int)+1).toNat))=some (B_ b8):=(by rw[show((b:Int)+1).toNat=b+1 by omega];exact o0);have o2:decide ((b:Int)+1<(c.length:Int))=true:=K_;have t1:(b:Int)+1<(c.length:Int):=O_;have t2:(0:Int)<=(b:Int)+1:=O_;have e2:decide (b+1<c.length)=true:=K_;rw[e2,o1.o]at T;by_cases m:i.data.toList<b8.data.toList
           ·have d7:Op.bytesLess i.toList b8.toList=true:=(by rw[Af,Af,Cj];exact xQ m);have o:Hid (Lw true true f (Ag c) b (Ab a)=false):=(by show _=_;rw[T.o,xQ m];simp);clear m I;go_quiet (fail);go_wp2_with fail;go_meet;exact⟨by rw[o.o],_,rfl⟩
           ·have d7:Op.bytesLess i.toList b8.toList=false:=(by rw[Af,Af,Cj];exact xN m);have o:Hid (Lw true true f (Ag c) b (Ab a)=true):=(by show _=_;rw[T.o,xN m];simp);clear m I;go_quiet (fail);go_wp2_with fail;go_meet;exact⟨by rw[o.o],_,rfl⟩
          ·have o2:decide ((b:Int)+1<(c.length:Int))=false:=K_;have e2:decide (b+1<c.length)=false:=K_;have o:Hid (Lw true true f (Ag c) b (Ab a)=false):=(by show _=_;rw[T.o,e2];simp);clear I;go_quiet (fail);go_wp2_with fail;go_meet;exact⟨by rw[o.o],_,rfl⟩
         ·have o3:(g4.toList==F.toList)=false:=by rw[Af,Af];simpa using fun e=>g2 (Fi e)
          have o:Hid (Lw true true f (Ag c) b (Ab a)=true):=(by show _=_;rw[T.o,xQ (p:=g4.data.toList≠F.data.toList) (fun e=>g2 (Fi e))];rfl);clear T;go_quiet (fail);go_wp2_with fail;go_meet;exact⟨by rw[o.o],_,rfl⟩
    case rest=>
     obtain⟨rfl,W,rfl⟩:=hcut;have A:=Aa (Ao n5.o W)
     cases a7:Lw a2 g3 f (Ag c) b (Ab a)with
     | true=>
      have J:Hid (Pr.Ay (Ag c) b r.data.toList=none):=BU j2.o (by rw[a7];simp);clear a7;go_wp2_with fail;go_ret2;exact Qs A.o J.o
     | false=>
      have U:=a7;unfold Lw at U;simp only[dB,Bool.not_eq_false',qJ]at U;have e1:d=f:=j1.o U.1.1.1.1.2 (by have:=U.1.1.2;omega);have B:0<a.length:=(by have:=S.o;have:=U.1.1.1.2;omega);obtain⟨b3,p0,e9,p1,p2,k9,a4⟩:=e0.o.isItems.resolve_left (by rintro⟨_,_,_,rfl⟩;simp at B);injection e9 with q1 q2' q3;subst q1 q3;have o4:=Aa a4;have o5:=Aa (d9.o (by have:=S.o;rw[show(Ab a).length=a.length by simp[Ab]];omega) a7);have o6:Hid (Ap n.heap.size (O.drewN W) (L_ (P_ b3) a.length D) a):=e0.o;have j8:=Aa (Wf b3 0 D a (O.drewN W) O_ o4.o k9 (fun x b5=>by have:=a8.o.1 (x.1.data.toList,x.2.data.toList) (by unfold Ab;exact xL.2 ⟨x,b5,rfl⟩);have p:=Pg.Ed this.1;have C:=this.2;simp only[Ah]at p C;exact⟨O_,O_⟩));have t3:n.heap.size<=(O.drewN W).heap.size:=n7;clear a7 U a4 e1;generalize O.drewN W=v0 at*;go_wp2_with fail;refine j8.o.mono ?_;rintro q f1 ⟨rfl,f4⟩;have j9:=Aa (A.o.trans (f4.mono A.o.size));have k0:Hid (Ap w.heap.size f1 (L_ (P_ b3) a.length D) a):=Bi (Ae o6.o f4 X_) O_;clear f4 j8;by_cases Y:Pg.Bl (Ab a)=k
      ·have e3:=Aa (o5.o Y);rw[Y];clear Y;go_wp2_with fail;go_ret2;exact⟨j9.o,a,_,true,rfl,k0.o,h5,fun _=>e3.o,(nomatch ·)⟩
      ·have e3:=Aa (j3.o Y);have o3:((⟨(Pg.Bl (Ab a)).toArray⟩:hJ).toList==(⟨k.toArray⟩:hJ).toList)=false:=(by rw[Af,Af];simpa using Y);have t4:(Pg.Bl (Ab a)==k)=false:=(by simpa using Y);generalize Pg.Bl (Ab a)=v1 at*;go_wp2_with fail;go_ret2;exact⟨j9.o,a,_,false,rfl,k0.o,h5,(nomatch ·),fun _=>e3.o⟩
theorem RG{B:List hE}(h:Pg.Gu p=some (s,B)):s.length=B.length/\B.length<=4/\∀a∈B,a.length<65536:=by obtain⟨b,g⟩:=(Pr.GK p s B).1 h;obtain⟨i,j,k,d,c⟩:=Pr.OB b;simp only[xP]at d c;exact⟨O_,c,fun a f=>Pr.RF b a.length (xL.2 ⟨a,f,rfl⟩)⟩
namespace Pg
open Pr
variable {p u:hE}{a:Nat}
theorem Adh(h:p.length=a):(p++u).drop a=u:=by subst h;exact jQ
theorem Afq(h:p.length=a):(p++u).take a=p:=by subst h;exact jB
def Nv:Nat->Cur->hF×Cur
 | 0,c=>([],c)
 | n+1,c=>if c.bad=true then([],c)else(c.number.1::(Nv n c.number.2).1,(Nv n c.number.2).2)
def Kt:Nat->Cur->List hE×Cur
 | 0,c=>([],c)
 | n+1,c=>if c.bad=true then([],c)else((c.text 12).1::(Kt n (c.text 12).2).1,(Kt n (c.text 12).2).2)
theorem KG:∀(b:hF) (a:hE),(∀c∈b,c<=2147483647)->Nv b.length ⟨b.flatMap num++a,false⟩=(b,⟨a,false⟩)
 | [],a,_=>rfl
 | x::r,a,h=>by rw[xH,Nv,xB D_,jJ,xT,Vi x _ (h x D_)];simp only;rw[KG r a fun a b=>h a (by simp[b])]
theorem GM:∀(b:List hE) (a:hE),(∀c∈b,c.length<=12)->Kt b.length ⟨b.flatMap text++a,false⟩=(b,⟨a,false⟩)
 | [],a,_=>rfl
 | x::r,a,h=>by have b:=h x D_;rw[xH,Kt,xB D_,jJ,xT,Pj x _ 12 b O_];simp only;rw[GM r a fun a c=>h a (by simp[c])]
theorem RH(f:Int×hE×hE)(b:hE)(h:Bh f=true):Ki ⟨Ct f++b,false⟩=(f,⟨b,false⟩):=by
 obtain⟨d,c,v⟩:=f;simp only[Bh,Bv,yK,kT,yL]at h;have i:=Ed h.1.1;have m:d=1\/d=2\/d=3:=O_;obtain⟨a,rfl,n⟩:∃a:Nat,d=(a:Int)/\a<256:=⟨d.toNat,O_,O_⟩;have j:(UInt8.ofNat (a % 256)).toNat=a:=by rw[jY];omega
 have e:Ct ((a:Int),c,v)++b=UInt8.ofNat (a % 256)::(text c++((if(a:Int)=2 then[]else text v)++b)):=by unfold Ct;simp[low]
 have k:(⟨Ct ((a:Int),c,v)++b,false⟩:Cur).byte=a:=by unfold Cur.byte;rw[e,Gk,Ip,j]
 have l:((⟨Ct ((a:Int),c,v)++b,false⟩:Cur).take 1).2=⟨text c++((if(a:Int)=2 then[]else text v)++b),false⟩:=by rw[e,Gk]
 unfold Ki;rw[k,l,Pj c _ 12 i O_];simp only;by_cases g:a=2
 ·rw[xD g,xD O_];have:v=[]:=zA.1 (by rcases h.2 with(h|h)|h<;>omega)
  rw[this];rfl
 ·rw[xB g,xB O_,Pj v _ 16 h.1.2 O_]
theorem Xt:∀(b:List (Int×hE×hE)) (a:hE),(∀c∈b,Bh c=true)->Ef b.length ⟨b.flatMap Ct++a,false⟩=(b,⟨a,false⟩)
 | [],a,_=>rfl
 | x::r,a,h=>by rw[xH,Ef,xB D_,jJ,xT,RH x _ (h x D_)];simp only;rw[Xt r a fun a b=>h a (by simp[b])]
def Afb(c:Cur):List (Int×hE×hE)×Cur:=Ef c.byte (c.take 1).2
theorem Afc(a:List (Int×hE×hE))(b:hE)(f:a.length<=255)(h:∀c∈a,Bh c=true):Afb ⟨Cc a++b,false⟩=(a,⟨b,false⟩):=by
 have c:(UInt8.ofNat (a.length % 256)).toNat=a.length:=by rw[jY];omega
 have e:Cc a++b=UInt8.ofNat (a.length % 256)::(a.flatMap Ct++b):=by unfold Cc;simp[low]
 unfold Afb;have d:(⟨Cc a++b,false⟩:Cur).byte=a.length:=by unfold Cur.byte;rw[e,Gk,Ip,c]
 rw[d,e,Gk];exact Xt a b h
def brA(t:hE):Nat:=Da ((t.drop 4).take 2)
def brB(t:hE):Nat:=Da ((t.drop 6).take 2)
def brN(t:hE):Nat:=(t.getD 3 0).toNat
def brP(t:hE):hE×Bool:=content [112] ((t.drop 68).take (brA t))
def brM(t:hE):hE×Bool:=content [109] (t.drop (68+brA t))
def brC(t:hE):hF×Cur:=Nv (brN t) ⟨(brP t).1,false⟩
def brV(t:hE):List hE×Cur:=Kt (brN t-1) (brC t).2
def brH(t:hE):List (Int×hE×hE)×Cur:=Afb ⟨(brM t).1,false⟩
def brL(t:hE):Bool:=decide (68<=t.length)&&decide (t.length=68+brA t+brB t)
def Afd(t:hE):Bool:=(brP t).2&&(brM t).2&&(brV t).2.ends&&(brH t).2.ends
def He(t:hE):(hF×List hE×List (Int×hE×hE))×Bool:=
 if brL t=true then(((brC t).1,(brV t).1,(brH t).1),Afd t)else(([],[],[]),false)
theorem MV(a:hF)(b:List hE)(c:List (Int×hE×hE))(y:∀f∈a,f<=2147483647)(z:∀d∈b,d.length<=12)(A:∀f∈c,Bh f=true)(U:a.length<=4)(V:b.length+1=a.length)(W:c.length<=8):He (Fb a b c)=((a,b,c),true):=by
 have I:=Ud a b y z;have J:=Uc c A;have L:=Ek [112] (Dw a b) O_;have M:=Ek [109] (Cc c) O_;have N:([112]:hE).length=1:=rfl;have O:([109]:hE).length=1:=rfl;have m:Ck a b=Ar [112] (Dw a b):=rfl;have n:Cf c=Ar [109] (Cc c):=rfl;obtain⟨rest,l,u⟩:∃rest,Fb a b c=[83,50,73]++(UInt8.ofNat (a.length % 256)::(low (Ck a b).length 2++(low (Cf c).length 2++(rest++(Ck a b++Cf c)))))/\rest.length=60:=by refine⟨List.replicate 56 0++low (crc ([83,50,73]++low a.length 1++low (Ck a b).length 2++low (Cf c).length 2++List.replicate 56 0)) 4,?_,by simp[Bo]⟩;unfold Fb sealed;generalize crc ([83,50,73]++low a.length 1++low (Ck a b).length 2++low (Cf c).length 2++List.replicate 56 0)=f;generalize Ck a b=P;generalize Cf c=T;simp[low]
 have B:(UInt8.ofNat (a.length % 256)).toNat=a.length:=by rw[jY];omega
 have C:=Mb 112 (Dw a b) O_;have D:=Mb 109 (Cc c) O_;generalize Fb a b c=d at*;have g:=Bo 2 (Ck a b).length;have i:=Bo 2 (Cf c).length;have o:d.drop 4=low (Ck a b).length 2++(low (Cf c).length 2++(rest++(Ck a b++Cf c))):=by rw[l];rfl
 have p:d.drop 6=low (Cf c).length 2++(rest++(Ck a b++Cf c)):=by rw[show 6=4+2 from rfl,<-jG,o,Adh g]
 have j:d.drop 68=Ck a b++Cf c:=by rw[show 68=6+(2+60)from rfl,<-jG,p,<-jG,Adh i,Adh u]
 have k:brA d=(Ck a b).length:=by unfold brA;rw[o,Afq g,Mw 2 _ (by rw[m];omega)]
 have F:brB d=(Cf c).length:=by unfold brB;rw[p,Afq i,Mw 2 _ (by rw[n];omega)]
 have q:brN d=a.length:=by unfold brN;rw[l];simpa using B
 have R:d.length=68+(Ck a b).length+(Cf c).length:=by
  have:=yW List.length j;rw[xY,xC]at this;have S:68<=d.length:=by rw[l];simp only[xC,xH,g,i,u];simp;omega
  omega
 have r:brP d=(Dw a b,true):=by unfold brP;rw[k,j,jB,m,C]
 have s:brM d=(Cc c,true):=by unfold brM;rw[k,<-jG,j,jQ,n,D]
 have t:brC d=(a,⟨b.flatMap text++[],false⟩):=by unfold brC;rw[q,r];unfold Dw;have:=KG a (b.flatMap text++[]) y;rw[yC]at this⊢;exact this
 have G:brV d=(b,⟨[],false⟩):=by unfold brV;rw[t,q,show a.length-1=b.length by omega];exact GM b [] z
 have H:brH d=(c,⟨[],false⟩):=by unfold brH;rw[s];have:=Afc c [] O_ A;rw[yC]at this;exact this
 unfold He brL Afd;rw[xQ (by omega:68<=d.length),xQ (by rw[k,F];omega:d.length=68+brA d+brB d),t,G,H,r,s];simp[Cur.ends]
end Pg
variable {a B c q t:Nat}{wr b w:World}{d f g i j v r:Value}{k:gY}{l:hF}{m:hD}{n:gZ}{z:TypeId}{A:hH}
structure NdB(nb B:Nat)(wr:World)(kd:Value)(il:gY)(cl:hF)(pl:hD)(ml:gZ)(vi vc vp vm:Value):Prop where
 var:Bq wr nb kd vi vc vp vm
 its:Ap B wr vi il
 kids:wr.ownsRow B 3 1 vc cl.length (Cl cl)
 pivs:Bc B wr vp pl
 chgs:Bb B wr vm ml
 ic:Ep vi vc
 ip:Ep vi vp
 im:Ep vi vm
 cp:Ep vc vp
 cm:Ep vc vm
 pm:Ep vp vm
 lt:nb<B
 le:B<=wr.heap.size
theorem NdB.below(h:NdB a B wr d k l m n f g i j)(c:Below wr.heap.size wr b):NdB a B b d k l m n f g i j:=
 ⟨h.var.keep c,Ae h.its c X_,Ae h.kids c X_,Ae h.pivs c X_,Ae h.chgs c X_,h.ic,h.ip,h.im,h.cp,h.cm,h.pm,h.lt,xI h.le c.size⟩
theorem NdB.but(h:NdB a c wr d k l m n f g i j)(o:But q wr b)(p:a≠q)(r:f.ownBlock≠some q)(s:g.ownBlock≠some q)(t:i.ownBlock≠some q)(u:j.ownBlock≠some q):NdB a c b d k l m n f g i j:=
 ⟨h.var.but o p,zP h.its o (.inr r),zP h.kids o (.inr s),zP h.pivs o (.inr t),zP h.chgs o (.inr u),h.ic,h.ip,h.im,h.cp,h.cm,h.pm,h.lt,xI h.le o.size⟩
theorem MW(h:w.ownsRow a z c v q A)(b:t<a):v.ownBlock≠some t:=fun e=>by have:=(xF h t e).1;omega
theorem WX(h:w.ownsRow a z c v q A)(b:w.heap.size<=t):v.ownBlock≠some t:=fun e=>by have:=(xF h t e).2;omega
theorem NdB.butLow(h:NdB a c wr d k l m n f g i j)(p:But q wr b)(r:a≠q)(o:q<c):NdB a c b d k l m n f g i j:=
 h.but p r (MW h.its o) (MW h.kids o) (MW h.pivs o) (MW h.chgs o)
theorem BV(f:Bq b a d Z_ Z_ Z_ Z_)(g:a<B)(i:B<=b.heap.size):NdB a B b d [] [] [] [] Z_ Z_ Z_ Z_:=
 ⟨f,yP _ _ _ _,yP _ _ _ _,yP _ _ _ _,yP _ _ _ _,fun c _=>by simp[Value.ownBlock],fun c _=>by simp[Value.ownBlock],fun c _=>by simp[Value.ownBlock],fun c _=>by simp[Value.ownBlock],fun c _=>by simp[Value.ownBlock],fun c _=>by simp[Value.ownBlock],g,i⟩
theorem NdB.drewN(h:NdB a c wr d k l m n f g i j)(b:Nat):NdB a c (wr.drewN b) d k l m n f g i j:=
 ⟨h.var,h.its,h.kids,h.pivs,h.chgs,h.ic,h.ip,h.im,h.cp,h.cm,h.pm,h.lt,h.le⟩
def Pk(w wr:World):Prop:=Bq wr w.heap.size (J_ 0) Z_ Z_ Z_ Z_/\Below w.heap.size w wr
theorem Pk.below(h:Pk w wr)(a:Below wr.heap.size wr b):Pk w b:=⟨h.1.keep a,h.2.trans (a.mono h.2.size)⟩
theorem Pk.belowB(h:Pk w wr)(c:Below a wr b)(d:w.heap.size<a):Pk w b:=⟨h.1.below c d,h.2.trans (c.mono O_)⟩
theorem Pk.but(h:Pk w wr)(c:But a wr b)(d:w.heap.size<a):Pk w b:=⟨h.1.but c O_,Aq h.2 c O_ h.2.size⟩
theorem Pk.drewN(h:Pk w wr)(a:Nat):Pk w (wr.drewN a):=⟨h.1,Ao h.2 a⟩
theorem NdB.apC(h:NdB a c wr d k l m n f g i j)(F:b.ownsRow c 3 1 r (l.length+1) (Cl l++[J_ (q:Int)]))(s:wr.grownBy b g.ownBlock)(t:r.ownBlock=g.ownBlock\/∃o,wr.heap.size<=o/\r.ownBlock=some o):
  Bq b a d f g i j/\NdB a c (b.setCell (Q_ a 2) r) d k (l++[q]) m n f r i j/\Below c wr b:=by
 obtain⟨y,z,p⟩:=Fm h.its h.kids h.le h.ic s t;obtain⟨A,B,-⟩:=Fm h.pivs h.kids h.le h.cp.symm s t;obtain⟨C,D,-⟩:=Fm h.chgs h.kids h.le h.cm.symm s t;have u:Bq b a d f g i j:=h.var.below p h.lt;have o:=h.lt;have G:=h.le;have H:=p.size;refine⟨u,⟨u.set2 r,De y o _,?_,De A o _,De C o _,z,h.ip,h.im,B.symm,D.symm,h.pm,o,by simp[World.setCell];omega⟩,p⟩;have e:Cl (l++[q])=Cl l++[J_ (q:Int)]:=by simp[Cl]
 rw[e,xC];exact De F o _
theorem NdB.apP{H:hJ}(h:NdB a c wr d k l m n f g i j)(D:Bc c b r (m++[H]))(q:wr.grownBy b i.ownBlock)(s:r.ownBlock=i.ownBlock\/∃o,wr.heap.size<=o/\r.ownBlock=some o):
  Bq b a d f g i j/\NdB a c (b.setCell (Q_ a 3) r) d k l (m++[H]) n f g r j/\Below c wr b:=by
 obtain⟨u,y,p⟩:=Fm h.its h.pivs h.le h.ip q s;obtain⟨z,A,-⟩:=Fm h.kids h.pivs h.le h.cp q s;obtain⟨B,C,-⟩:=Fm h.chgs h.pivs h.le h.pm.symm q s;have t:Bq b a d f g i j:=h.var.below p h.lt;have o:=h.lt;have F:=h.le;have G:=p.size;exact⟨t,⟨t.set3 r,De u o _,De z o _,De D o _,De B o _,h.ic,y,h.im,A,h.cm,C.symm,o,by simp[World.setCell];omega⟩,p⟩
theorem NdB.apI{x:gY}(h:NdB a c wr d k l m n f g i j)(D:Ap c b r (k++x))(q:wr.grownBy b f.ownBlock)(s:r.ownBlock=f.ownBlock\/∃o,wr.heap.size<=o/\r.ownBlock=some o):
  Bq b a d f g i j/\NdB a c (b.setCell (Q_ a 1) r) d (k++x) l m n r g i j/\Below c wr b:=by
 obtain⟨u,y,p⟩:=Fm h.kids h.its h.le h.ic.symm q s;obtain⟨z,A,-⟩:=Fm h.pivs h.its h.le h.ip.symm q s;obtain⟨B,C,-⟩:=Fm h.chgs h.its h.le h.im.symm q s;have t:Bq b a d f g i j:=h.var.below p h.lt;have o:=h.lt;have F:=h.le;have G:=p.size;exact⟨t,⟨t.set1 r,De D o _,De u o _,De z o _,De B o _,y.symm,A.symm,C.symm,h.cp,h.cm,h.pm,o,by simp[World.setCell];omega⟩,p⟩
theorem NdB.setM{G:gZ}(h:NdB a c wr d k l m n f g i j)(t:Bb q wr r G)(y:c<=q)(z:∀b,f.ownBlock=some b->b<q)(A:∀b,g.ownBlock=some b->b<q)(B:∀b,i.ownBlock=some b->b<q):NdB a c (wr.setCell (Q_ a 4) r) d k l m G f g i r:=by
 have o:=h.lt;have C:=h.le;have p:∀s:Value,(∀b,s.ownBlock=some b->b<q)->Ep s r:=fun s s b u e=>by have:=(xF t b e).1;have:=s b u;omega
 exact⟨h.var.set4 r,De h.its o _,De h.kids o _,De h.pivs o _,De (Bi t y) o _,h.ic,h.ip,p f z,h.cp,p g A,p i B,o,by simp[World.setCell];omega⟩
theorem NdB.nodeV{I:Int}(h:NdB a c wr (J_ I) k l m n d f g i)(b:k.length<=1020)(j:l.length<=255)(o:m.length<=255)(p:n.length<=255):Gp c wr (.agg #[J_ I,d,f,g,i]) I k l m n:=
 ⟨_,_,_,_,rfl,h.its,h.kids,h.pivs,h.chgs,b,j,o,p⟩
theorem w64(x:Int)(h:-9223372036854775808<=x)(a:x<=9223372036854775807):wrap64 x=x:=by unfold wrap64;omega
def MX(w:World)(t:hE)(r:Ending)(w':World):Prop:=
 Below w.heap.size w w'/\∃cl pl ml v,r=R_ (.tuple #[v,.bool (Pg.He t).2])/\(Pg.He t).1=(cl,Ag pl,Ac ml)/\Gp w.heap.size w' v 2 [] cl pl ml
theorem GN{p:hE}(b:Pk w wr)(d:NdB a c wr (J_ 2) [] [] [] [] Z_ Z_ Z_ Z_)(f:w.heap.size<c)(h:brL p=false):
  MX w p (R_ (.tuple #[.agg #[J_ 2,Z_,Z_,Z_,Z_],.bool false])) (Hl wr w.heap.size (J_ 2) Z_ Z_ Z_ Z_):=by
 have e:Pg.He p=(([],[],[]),false):=by unfold Pg.He;rw[xB (by rw[h];decide)]
 refine⟨Hy b.2 X_ _ _ _ _ _,[],[],[],_,by rw[e],by rw[e];rfl,?_⟩;exact((d.nodeV D_ D_ D_ D_).put f _ _ _ _ _).shrink O_
theorem Lp(h:Bq w a d f g i j)(u0 u1 u2 u3 u4:Value):(Hl w a u0 u1 u2 u3 u4).cell? (Q_ a 0)=some u0/\(Hl w a u0 u1 u2 u3 u4).cell? (Q_ a 1)=some u1/\(Hl w a u0 u1 u2 u3 u4).cell? (Q_ a 2)=some u2/\(Hl w a u0 u1 u2 u3 u4).cell? (Q_ a 3)=some u3/\(Hl w a u0 u1 u2 u3 u4).cell? (Q_ a 4)=some u4:=by obtain⟨b,a,c,k,e,-⟩:=(h.put u0 u1 u2 u3 u4).cells;exact⟨b,a,c,k,e⟩
theorem UZ(a:hJ)(w:World)(u3:a.size<=10000000):
  Calls Tryz.prog 154 #[B_ a] w fun D r3=>MX w a.data.toList D r3:=by
 have e8:=Aa (Ah a);have R:Hid (Pk w ((w.alloc (C_ #[J_ 0,Z_,Z_,Z_,Z_] 79)).alloc (C_ #[J_ 2,Z_,Z_,Z_,Z_] 79))):=
  ⟨(Cz w _ _ _ _ _).keep ((xA _ _).alloc X_ _),((xA _ w).alloc X_ _).alloc D_ _⟩
 have b3:Hid (Bq ((w.alloc (C_ #[J_ 0,Z_,Z_,Z_,Z_] 79)).alloc (C_ #[J_ 2,Z_,Z_,Z_,Z_] 79)) (w.heap.size+1) (J_ 2) Z_ Z_ Z_ Z_):=by have:=Cz (w.alloc (C_ #[J_ 0,Z_,Z_,Z_,Z_] 79)) (J_ 2) Z_ Z_ Z_ Z_;rw[show(w.alloc (C_ #[J_ 0,Z_,Z_,Z_,Z_] 79)).heap.size=w.heap.size+1 by simp]at this;exact this
 have i5:w.heap.size+2<=((w.alloc (C_ #[J_ 0,Z_,Z_,Z_,Z_] 79)).alloc (C_ #[J_ 2,Z_,Z_,Z_,Z_] 79)).heap.size:=D_;by_cases u2:a.size<68
 ·have b4:Hid (brL a.data.toList=false):=by show _=_;unfold brL;rw[e8.o,xN O_];rfl
  have n4:(a.size:Int)<68:=O_
  go_in;go_upto_if 20 with fail;generalize(w.alloc (C_ #[J_ 0,Z_,Z_,Z_,Z_] 79)).alloc (C_ #[J_ 2,Z_,Z_,Z_,Z_] 79)=r6 at*;obtain⟨U,V,W,X,Y,-⟩:=b3.o.cells;obtain⟨l8,l9,m0,m1,m2,f0,f1,f2,f3,f4⟩:=R.o.1.cells;go_wp2_with fail;refine yS (v:=.tuple #[.agg #[J_ 2,Z_,Z_,Z_,Z_],.bool false]) ?_ rfl (GN R.o (BV b3.o O_ i5) O_ b4.o);obtain⟨s,t,j,u,y⟩:=Lp R.o.1 (J_ 2) Z_ Z_ Z_ Z_;unfold Hl at s t j u y;simp[results,go_sem,s,t,j,u,y]
 ·have n4:¬(a.size:Int)<68:=O_;have i6:(6:Int)<=(a.size:Int):=O_;have r8:(8:Int)<=(a.size:Int):=O_;have i7:Hid (Pg.Da (a.extract 4 6).data.toList=brA a.data.toList):=by show _=_;unfold brA;rw[zZ]
  have i8:Hid (Pg.Da (a.extract 6 8).data.toList=brB a.data.toList):=by show _=_;unfold brB;rw[zZ]
  have i9:brA a.data.toList<65536:=Pg.Nx _ 2 (by rw[xR];omega);have j0:brB a.data.toList<65536:=Pg.Nx _ 2 (by rw[xR];omega);go_in;go_wp2_with fail;generalize(w.alloc (C_ #[J_ 0,Z_,Z_,Z_,Z_] 79)).alloc (C_ #[J_ 2,Z_,Z_,Z_,Z_] 79)=r6 at*;refine(Gz _ _ (by rw[zM];omega)).mono ?_;rintro D u0 ⟨rfl,rfl⟩;rw[i7.o];go_wp2_with fail;refine(Gz _ _ (by rw[zM];omega)).mono ?_;rintro D q9 ⟨rfl,rfl⟩;rw[i8.o];clear i7 i8;by_cases e4:a.size=68+brA a.data.toList+brB a.data.toList
  ·have b4:Hid (brL a.data.toList=true):=(by show _=_;unfold brL;rw[e8.o,xQ e4,xQ (by omega:68<=a.size)];rfl);have j1:Hid (Pg.He a.data.toList=(((brC a.data.toList).1,(brV a.data.toList).1,(brH a.data.toList).1),Afd a.data.toList)):=(by show _=_;unfold Pg.He;rw[xD b4.o]);have g0:Hid (content [112] (a.extract 68 (68+brA a.data.toList)).data.toList=Pg.brP a.data.toList):=(by show _=_;unfold Pg.brP;rw[zZ,gR]);have g1:Hid (content [109] (a.extract (68+brA a.data.toList) a.size).data.toList=brM a.data.toList):=by
    show _=_;unfold brM;rw[zZ,yY (by rw[xY,e8.o];omega)]
   have n5:Hid ((a.data.toList.getD 3 0).toNat=brN a.data.toList):=rfl;have g2:=Vj [112] (a.extract 68 (68+brA a.data.toList)).data.toList;have g3:=Vj [109] (a.extract (68+brA a.data.toList) a.size).data.toList;rw[g0.o,Ah,zM]at g2;rw[g1.o,Ah,zM]at g3;have n6:brN a.data.toList<256:=(a.data.toList.getD 3 0).toNat_lt;have n7:Hid (Afd a.data.toList=((Pg.brP a.data.toList).2&&(brM a.data.toList).2&&(brV a.data.toList).2.ends&&(brH a.data.toList).2.ends)):=rfl;generalize r4:brA a.data.toList=F at*;generalize brB a.data.toList=N at*;have g4:(a.size:Int)=68+(F:Int)+(N:Int):=O_;have n8:=Aa g4;clear r4 g4;have j2:((a.size:Int) !=wrap64 (68+(F:Int)+(N:Int)))=false:=(by have:=n8.o;rw[w64 _ O_ O_];simp;omega);have r9:(68:Int)<=68+(F:Int):=O_;have s0:(68:Int)+(F:Int)<=(a.size:Int):=O_;have s1:(0:Int)<=68+(F:Int):=O_;have s2:=Aa e4;clear e4 b4;have j3:=Aa g2;have j4:=Aa g3;have s3:=Aa i9;have s4:=Aa j0;clear g2 g3 i9 j0;go_wp2_with fail;refine(Rr ⟨#[112]⟩ (a.extract 68 (68+F)) q9 Do (by rw[zM];omega)).mono ?_;rintro D r0 ⟨rfl,b9⟩;rw[show(⟨#[112]⟩:hJ).data.toList=[112]from rfl,g0.o];have j5:=Aa (R.o.below b9);have j6:=Aa (b3.o.keep b9);have s5:=b9.size;clear b9 g0 j2;go_wp2_with fail;refine(Rr ⟨#[109]⟩ (a.extract (68+F) a.size) r0 Do (by rw[zM];omega)).mono ?_;rintro D a2 ⟨rfl,f7⟩;rw[show(⟨#[109]⟩:hJ).data.toList=[109]from rfl,g1.o];have j7:=Aa (j5.o.below f7);have j8:=Aa (j6.o.keep f7);have s6:=f7.size;clear f7 g1 j5 j6 R b3;obtain⟨I,f5⟩:∃I,I=(Pg.brP a.data.toList).1:=⟨_,rfl⟩;obtain⟨C,f6⟩:∃C,C=(brM a.data.toList).1:=⟨_,rfl⟩;have n9:=Aa f5;have o0:=Aa f6;have s7:I.length<=1000000000:=(by rw[f5];have:=j3.o;omega);have s8:C.length<=1000000000:=(by rw[f6];have:=j4.o;omega);rw[<-f5,<-f6];generalize(Pg.brP a.data.toList).2=b8 at*;generalize(brM a.data.toList).2=e5 at*;clear f5 f6 j3 j4;have o1:=Ba I;have o2:=Ba C;have j9:=Aa (We ⟨I.toArray⟩ a2 (by rw[o1];omega));have g5:=(xA a2.heap.size a2).alloc X_ (C_ #[B_ ⟨I.toArray⟩,J_ 0,.bool false] 259);have k0:=Aa (j7.o.below g5);have k1:=Aa (j8.o.keep g5);have s9:a2.heap.size<(a2.alloc (C_ #[B_ ⟨I.toArray⟩,J_ 0,.bool false] 259)).heap.size:=D_;clear g5 j7 j8;have g6:3<a.size:=O_;have t0:(3:Int)<(a.size:Int):=O_;have g7:Hid (((a[3]'g6).toNat:Nat)=brN a.data.toList):=(by show _=_;unfold brN;rw[jH,Kb a 3 g6];rfl);go_wp2_with fail;generalize a2.alloc (C_ #[B_ ⟨I.toArray⟩,J_ 0,.bool false] 259)=e6 at*;have t1:w.heap.size+2<=a2.heap.size:=O_;generalize a2.heap.size=k at*;have k2:=Aa (BV (B:=e6.heap.size) k1.o O_ X_);have g8:Hid (brC a.data.toList=Nv (brN a.data.toList) ⟨I,false⟩):=(by show _=_;unfold brC;rw[n9.o]);have b5:Hid (brV a.data.toList=Kt (brN a.data.toList-1) (brC a.data.toList).2):=rfl;have k3:Hid (brH a.data.toList=Afb ⟨C,false⟩):=(by show _=_;unfold brH;rw[o0.o]);obtain⟨d,m3⟩:∃d,d=brN a.data.toList:=⟨_,rfl⟩;rw[<-m3]at g8 b5 n6 g7;have b9:((a[3]'g6).toNat:Int)=(d:Int):=(by rw[g7.o]);clear m3 n5 g7
   go_loopw [12] (fun b1 wr=>∃(b:Nat) (f:hF) (c:Cur) (m4:Value),b<=d/\b1=J_ b/\f.length=b/\Iu wr k c/\NdB (w.heap.size+1) e6.heap.size wr (J_ 2) [] f [] [] Z_ m4 Z_ Z_/\Pk w wr/\f++(Nv (d-b) c).1=(brC a.data.toList).1/\(Nv (d-b) c).2=(brC a.data.toList).2) (fun b1 _=>d-(intOf b1).toNat)
   case atStart=>exact⟨0,[],_,_,Y_,rfl,rfl,j9.o,k2.o,k0.o,by rw[g8.o];rfl,by rw[g8.o];rfl⟩
   case round=>
    clear j9 k2 k0 k1;obtain⟨b,f,c,m4,Z,rfl,m5,a6,z,c7,c8,c9⟩:=hrel;have k4:=Aa m5;have a3:=Aa a6;have G:=Aa z;have a4:=Aa c7;have o:=Aa c8;have p:=Aa c9;obtain⟨J,L,rfl⟩:=Ad z.kids;obtain⟨a7,h7⟩:=a6.cells;obtain⟨U,V,W,X,Y,d0,d1,d2,d3,d4⟩:=z.var.cells;have k5:=z.le;have o3:f.length<=255:=O_;clear m5 a6 z c7 c8 c9;by_cases O:b<d/\c.bad=false
    ·obtain⟨p3,a8⟩:=O;rw[a8]at a7;obtain⟨a9,d5⟩:∃a9,d-b=a9+1:=⟨d-b-1,O_⟩;have c0:Hid (a9=d-(b+1)):=(by show _=_;omega);rw[d5,Nv,xB (by rw[a8];decide)]at o p;have g9:=Aa (CX k c (World.drew wr) a3.o);generalize i2:c.number.1=n at*;generalize i3:c.number.2=i4 at*;have i6:(b:Int)<(d:Int):=O_;clear d5 i2 i3 a8;go_wp2_with fail
     go_region_law (first
      | (refine WG _ (by rfl) (.tmp 70) (.tmp 73) (by rfl) e6.heap.size (L_ J f.length L) f U_ r.o.kids n l.heap.size U_ c2.o O_ r.o.le ?_
         intro r2 M b0 e2 e3;obtain⟨d6,d7,rfl⟩:=Ad b0;have q:=Aa (r.o.apC b0 e2 e3);obtain⟨p4,p5,p6,p7,p8,f0,f1,f2,f3,f4⟩:=q.o.1.cells;clear b0 e2 e3)
      | (go_simp
         refine g9.o.mono ?_;rintro D l ⟨rfl,d8,d9⟩;have a5:=Im d9;have b6:=Aa d8;have S:=Aa (G.o.butLow a5 O_ O_);have b7:=Aa (a4.o.but a5 O_);have H:=(xA l.heap.size l).alloc X_ (C_ #[J_ (n:Int)] 3);have r:=Aa (S.o.below H);have c1:=Aa (b6.o.below H);have T:=Aa (b7.o.below H);have c2:Hid ((l.alloc (C_ #[J_ (n:Int)] 3)).cell? (Q_ l.heap.size 0)=some (J_ (n:Int))):=(by show _=_;simp);obtain⟨p9,q0,q1,q2,q3,q4,q5,q6,q7,q8⟩:=S.o.var.cells;obtain⟨-,-,t6,-,-,-,-,t7,-,-⟩:=r.o.var.cells;clear d8 d9 a5 H))
     all_goals
      have h1:=Aa q.o.2.1;have h2:=Aa ((T.o.belowB q.o.2.2 O_).but (Be (w.heap.size+1) 2 M (L_ d6 (f.length+1) d7)) O_);have h3:=Aa ((c1.o.other (q.o.2.2.block k O_)).other (kS M ((Q_ (w.heap.size+1) 2):Addr) (L_ d6 (f.length+1) d7) k (by show k≠w.heap.size+1;omega)));clear q r c1 T c2;go_wp2_with fail
      go_roundw
      case rel=>exact⟨b+1,f++[n],i4,_,O_,W_,by rw[xC,k4.o];rfl,h3.o,h1.o,h2.o,by rw[<-c0.o,<-o.o];simp,by rw[<-c0.o,<-p.o]⟩
      case measure=>simp[intOf];omega
    ·have c3:Hid (Nv (d-b) c=([],c)):=by
      show _=_;rcases jX b d with h|h
      ·have h4:c.bad=true:=by
        cases b2:c.bad with
        | true=>rfl
        | false=>exact absurd ⟨h,b2⟩ O
       rw[show d-b=(d-b-1)+1 by omega,Nv,xD h4]
      ·rw[show d-b=0 by omega];rfl
     have c4:(¬(b:Int)<(d:Int))\/((b:Int)<(d:Int)/\c.bad=true):=by
      rcases jX b d with h|h
      ·refine .inr ⟨O_,?_⟩
       cases b2:c.bad with
       | true=>rfl
       | false=>exact absurd ⟨h,b2⟩ O
      ·exact .inl O_
     rw[c3.o]at o p;have o4:Hid (f=(brC a.data.toList).1):=(by show _=_;rw[<-o.o];simp);have k6:Hid (c=(brC a.data.toList).2):=p.o;clear O o p c3;go_upto_region 12 with fail
     go_cut [66] (fun N i1=>N=.bool false/\i1=wr)
     case first=>
      rcases c4 with h9|⟨h9,i0⟩
      ·go_wp2_with fail;go_meet;exact⟨rfl,rfl⟩
      ·rw[i0]at a7;go_wp2_with fail;go_meet;exact⟨rfl,rfl⟩
     case rest=>
      obtain⟨rfl,rfl⟩:=hcut;clear c4 a7 h7 U V W X Y d0 d1 d2 d3 d4;rw[<-k6.o]at b5;clear k6;obtain⟨g,m6⟩:∃g,g=d-1:=⟨_,rfl⟩;rw[<-m6]at b5;have t2:d<=g+1/\(g=0\/g+1<=d):=O_;clear m6;go_wp2_with fail
      go_loopw [13] (fun b1 wr=>∃(b:Nat) (i:hD) (c:Cur) (m7:Value),b<=g/\b1=J_ b/\i.length=b/\Iu wr k c/\NdB (w.heap.size+1) e6.heap.size wr (J_ 2) [] f i [] Z_ (L_ J f.length L) m7 Z_/\Pk w wr/\Ag i++(Kt (g-b) c).1=(brV a.data.toList).1/\(Kt (g-b) c).2=(brV a.data.toList).2) (fun b1 _=>d-(intOf b1).toNat)
      case atStart=>exact⟨0,[],c,_,Y_,rfl,rfl,a3.o,G.o,a4.o,by rw[b5.o];rfl,by rw[b5.o];rfl⟩
      case round=>
       clear a3 G a4 b5 k5 Z k4;obtain⟨b,i,c,m7,Z,rfl,m8,a6,z,c7,c8,c9⟩:=hrel;have o5:=Aa m8;have a3:=Aa a6;have G:=Aa z;have a4:=Aa c7;have o:=Aa c8;have p:=Aa c9;obtain⟨a0,a1,rfl⟩:=Ad z.pivs;obtain⟨a7,h7⟩:=a6.cells;obtain⟨U,V,W,X,Y,d0,d1,d2,d3,d4⟩:=z.var.cells;have k5:=z.le;have o6:i.length<=255:=O_;clear m8 a6 z c7 c8 c9;by_cases O:b<g/\c.bad=false
       ·obtain⟨p3,a8⟩:=O;rw[a8]at a7;obtain⟨a9,d5⟩:∃a9,g-b=a9+1:=⟨g-b-1,O_⟩;have c0:Hid (a9=g-(b+1)):=(by show _=_;omega);rw[d5,Kt,xB (by rw[a8];decide)]at o p;have g9:=Aa (Yg k 12 c (World.drew wr) a3.o O_);generalize i2:(c.text 12).1=n at*;generalize i3:(c.text 12).2=i4 at*;have i6:(b:Int)+1<(d:Int):=O_;clear d5 i2 i3 a8;go_wp2_with fail
        go_region_law (first
         | (refine Vw _ (by rfl) (.tmp 92) (.tmp 95) (by rfl) e6.heap.size (L_ a0 i.length a1) i U_ r.o.pivs ⟨n.toArray⟩ l.heap.size U_ c2.o O_ r.o.le ?_
            intro r2 M b0 e2 e3;obtain⟨d6,d7,rfl⟩:=b0.shape;generalize r5:(i++[(⟨n.toArray⟩:hJ)]).length=n2 at*;have q:=Aa (r.o.apP b0 e2 e3);obtain⟨p4,p5,p6,p7,p8,f0,f1,f2,f3,f4⟩:=q.o.1.cells;clear b0 e2 e3 r5)
         | (go_simp
            refine g9.o.mono ?_;rintro D l ⟨rfl,d8,d9⟩;have a5:=Im d9;have b6:=Aa d8;have S:=Aa (G.o.butLow a5 O_ O_);have b7:=Aa (a4.o.but a5 O_);have H:=(xA l.heap.size l).alloc X_ (C_ #[B_ ⟨n.toArray⟩] 9);have r:=Aa (S.o.below H);have c1:=Aa (b6.o.below H);have T:=Aa (b7.o.below H);have c2:Hid ((l.alloc (C_ #[B_ ⟨n.toArray⟩] 9)).cell? (Q_ l.heap.size 0)=some (B_ ⟨n.toArray⟩)):=(by show _=_;simp);obtain⟨p9,q0,q1,q2,q3,q4,q5,q6,q7,q8⟩:=S.o.var.cells;obtain⟨-,-,-,t8,-,-,-,-,t9,-⟩:=r.o.var.cells;clear d8 d9 a5 H))
        all_goals
         have h1:=Aa q.o.2.1;have h2:=Aa ((T.o.belowB q.o.2.2 O_).but (Be (w.heap.size+1) 3 M (L_ d6 n2 d7)) O_);have h3:=Aa ((c1.o.other (q.o.2.2.block k O_)).other (kS M ((Q_ (w.heap.size+1) 3):Addr) (L_ d6 n2 d7) k (by show k≠w.heap.size+1;omega)));clear q r c1 T c2;go_wp2_with fail
         go_roundw
         case rel=>exact⟨b+1,i++[⟨n.toArray⟩],i4,_,O_,W_,by rw[xC,o5.o];rfl,h3.o,h1.o,h2.o,by rw[<-c0.o,<-o.o,My];simp,by rw[<-c0.o,<-p.o]⟩
         case measure=>simp[intOf];omega
       ·have c3:Hid (Kt (g-b) c=([],c)):=by
         show _=_;rcases jX b g with h|h
         ·have h4:c.bad=true:=by
           cases b2:c.bad with
           | true=>rfl
           | false=>exact absurd ⟨h,b2⟩ O
          rw[show g-b=(g-b-1)+1 by omega,Kt,xD h4]
         ·rw[show g-b=0 by omega];rfl
        have c4:(¬(b:Int)+1<(d:Int))\/((b:Int)+1<(d:Int)/\c.bad=true):=by
         rcases jX b g with h|h
         ·refine .inr ⟨O_,?_⟩
          cases b2:c.bad with
          | true=>rfl
          | false=>exact absurd ⟨h,b2⟩ O
         ·exact .inl O_
        rw[c3.o]at o p;have o7:Hid (Ag i=(brV a.data.toList).1):=(by show _=_;rw[<-o.o];simp);have o8:Hid (c=(brV a.data.toList).2):=p.o;clear O o p c3;go_upto_region 16 with fail
        go_cut [88] (fun N i1=>N=.bool false/\i1=wr)
        case first=>
         rcases c4 with h9|⟨h9,i0⟩
         ·go_wp2_with fail;go_meet;exact⟨rfl,rfl⟩
         ·rw[i0]at a7;go_wp2_with fail;go_meet;exact⟨rfl,rfl⟩
        case rest=>
         obtain⟨rfl,rfl⟩:=hcut;clear c4 a7 h7 U V W X Y d0 d1 d2 d3 d4;have k7:=Aa (We ⟨C.toArray⟩ wc (by rw[o2];omega));have e9:=(xA wc.heap.size wc).alloc X_ (C_ #[B_ ⟨C.toArray⟩,J_ 0,.bool false] 259);have k8:=Aa (a4.o.below e9);have c5:=Aa (G.o.below e9);have k9:=Aa (a3.o.below e9);have t3:wc.heap.size<(wc.alloc (C_ #[B_ ⟨C.toArray⟩,J_ 0,.bool false] 259)).heap.size:=D_;have o9:=WX G.o.kids (Nat.le_refl wc.heap.size);have p0:=WX G.o.pivs (Nat.le_refl wc.heap.size);have t4:k<wc.heap.size:=O_;clear e9 a4 G a3;go_wp2_with fail;generalize wc.alloc (C_ #[B_ ⟨C.toArray⟩,J_ 0,.bool false] 259)=r7 at*;generalize wc.heap.size=e7 at*;refine(LD e7 ⟨C,false⟩ r7 k7.o).mono ?_;rintro D e0 ⟨u1,m,rfl,m9,r1,h8,n0,e1⟩;have p1:Hid (Ac m=(brH a.data.toList).1):=(by show _=_;rw[k3.o];exact m9);have l0:Hid (Iu e0 e7 (brH a.data.toList).2):=(by rw[k3.o];exact n0);have h5:=Aa (c5.o.but e1 O_ (by simp[Value.ownBlock]) o9 p0 (by simp[Value.ownBlock]));have l1:=Aa (k8.o.but e1 O_);have l2:=Aa (k9.o.other (e1.block k O_ K_));have l3:=Aa h8;obtain⟨A,B,rfl⟩:=Ad h8;have t5:=e1.size;have S:=Aa (h5.o.setM l3.o (by have:=c5.o.le;omega) (fun b Z=>by simp[Value.ownBlock]at Z) (fun b Z=>(xF c5.o.kids b Z).2) (fun b Z=>(xF c5.o.pivs b Z).2));have b7:=Aa (l1.o.but (Be (w.heap.size+1) 4 e0 (L_ A m.length B)) O_);have b6:=Aa (l2.o.other (kS e0 ((Q_ (w.heap.size+1) 4):Addr) (L_ A m.length B) k (by show k≠w.heap.size+1;omega)));have l4:=Aa (l0.o.other (kS e0 ((Q_ (w.heap.size+1) 4):Addr) (L_ A m.length B) e7 (by show e7≠w.heap.size+1;omega)));obtain⟨U,V,W,X,Y,d0,d1,d2,d3,d4⟩:=h5.o.var.cells;clear m9 h8 n0 e1 c5 k8 k9 k7 l3;go_wp2_with fail;generalize e0.setCell (Q_ (w.heap.size+1) 4) (L_ A m.length B)=l at*;clear h5 l1 l2 l0 U V W X Y d0 d1 d2 d3 d4;refine(KZ k c l b6.o).mono ?_;rintro D M ⟨rfl,f8,rfl⟩;have l5:=Aa (S.o.drewN f8);have T:=Aa (b7.o.drewN f8);have l6:=Aa (l4.o.drewN f8);clear S b7 b6 l4;rw[o8.o];go_wp2_with fail;generalize l.drewN f8=M at*;refine(KZ e7 _ M l6.o).mono ?_;rintro D n1 ⟨rfl,j,rfl⟩;have l7:=Aa (l5.o.drewN j);have h6:=Aa (T.o.drewN j);clear l5 T l6;generalize(brV a.data.toList).2.ends=f9 at*;generalize(brH a.data.toList).2.ends=n3 at*;generalize M.drewN j=n1 at*;have c6:Hid (MX w a.data.toList (R_ (.tuple #[.agg #[J_ 2,Z_,L_ J f.length L,L_ a0 i.length a1,L_ A m.length B],.bool (b8&&e5&&f9&&n3)])) (Hl n1 w.heap.size (J_ 2) Z_ (L_ J f.length L) (L_ a0 i.length a1) (L_ A m.length B))):=(by refine⟨Hy h6.o.2 X_ _ _ _ _ _,f,i,m,_,by rw[j1.o,n7.o],by rw[j1.o,o4.o,o7.o,p1.o],?_⟩;exact((l7.o.nodeV D_ o3 o6 r1).put O_ _ _ _ _ _).shrink O_);have p2:(b8=false)\/(b8=true/\e5=false)\/(b8=true/\e5=true/\f9=false)\/(b8=true/\e5=true/\f9=true):=by cases b8<;>cases e5<;>cases f9<;>simp
         obtain⟨U,V,W,X,Y,-⟩:=l7.o.var.cells;obtain⟨l8,l9,m0,m1,m2,f0,f1,f2,f3,f4⟩:=h6.o.1.cells;obtain⟨s,t,j,u,y⟩:=Lp h6.o.1 (J_ 2) Z_ (L_ J f.length L) (L_ a0 i.length a1) (L_ A m.length B);unfold Hl at s t j u y;rcases p2 with rfl|⟨rfl,rfl⟩|⟨rfl,rfl,rfl⟩|⟨rfl,rfl,rfl⟩
         ·go_wp2_with fail;refine yS (v:=.tuple #[.agg #[J_ 2,Z_,L_ J f.length L,L_ a0 i.length a1,L_ A m.length B],.bool false]) ?_ rfl c6.o;simp[results,go_sem,s,t,j,u,y]
         ·go_wp2_with fail;refine yS (v:=.tuple #[.agg #[J_ 2,Z_,L_ J f.length L,L_ a0 i.length a1,L_ A m.length B],.bool false]) ?_ rfl c6.o;simp[results,go_sem,s,t,j,u,y]
         ·go_wp2_with fail;refine yS (v:=.tuple #[.agg #[J_ 2,Z_,L_ J f.length L,L_ a0 i.length a1,L_ A m.length B],.bool false]) ?_ rfl c6.o;simp[results,go_sem,s,t,j,u,y]
         ·simp only[dC]at c6;go_wp2_with fail;refine yS (v:=.tuple #[.agg #[J_ 2,Z_,L_ J f.length L,L_ a0 i.length a1,L_ A m.length B],.bool n3]) ?_ rfl c6.o;simp[results,go_sem,s,t,j,u,y]
  ·have b4:Hid (brL a.data.toList=false):=(by show _=_;unfold brL;rw[e8.o,xN e4,aY]);generalize brA a.data.toList=F at*;generalize brB a.data.toList=N at*;have g4:¬(a.size:Int)=68+(F:Int)+(N:Int):=O_;have j2:((a.size:Int)==68+(F:Int)+(N:Int))=false:=K_;obtain⟨U,V,W,X,Y,-⟩:=b3.o.cells;obtain⟨l8,l9,m0,m1,m2,f0,f1,f2,f3,f4⟩:=R.o.1.cells;clear e4;go_wp2_with fail;refine yS (v:=.tuple #[.agg #[J_ 2,Z_,Z_,Z_,Z_],.bool false]) ?_ rfl (GN R.o (BV b3.o O_ i5) O_ b4.o);obtain⟨s,t,j,u,y⟩:=Lp R.o.1 (J_ 2) Z_ Z_ Z_ Z_;unfold Hl at s t j u y;simp[results,go_sem,s,t,j,u,y]
