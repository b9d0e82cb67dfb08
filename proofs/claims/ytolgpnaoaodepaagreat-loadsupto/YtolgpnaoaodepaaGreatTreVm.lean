import Derived.Test.YtolgpnaoaodepaaGreatTreQm
set_option maxHeartbeats 1500000
set_option maxRecDepth 20000
namespace Go.Proofs.YtolgpnaoaodepaaGreat
open Go.RowKit Tr
variable {w:World}{a c:Nat}{b:hA}{f:hH}{g:List (hA)}{d:Nat->Value}
def IY(l:hA):hE:=(l.head?.map (·.1.data.toList)).getD []
structure BrM(w:World)(B:Nat)(pl:hA)(vs:hH)(ls:List (hA))(vc:Nat->Value):Prop where
 n:pl.length<=vs.length
 m:vs.length=ls.length
 nod:∀i (h:i<pl.length) (h':i<vs.length),Ax w (pl[i]'h).2 Z_ (vs[i]'(h')) (vc i)
 key:∀i (h:i<pl.length) (h':i<ls.length),(pl[i]'h).1.data.toList=IY (ls[i]'(h'))
 inc:(pl.map (·.2)).Pairwise (·< ·)
 low:∀x∈pl,B<=x.2
theorem BrM.keep{w':World}(h:BrM w a b f g d){i:Nat->Prop}(l:Mod i w w')(m:∀x∈b,¬i x.2):BrM w' a b f g d:=
 ⟨h.n,h.m,fun j c k=>l.nod (h.nod j c k) (m _ (yA c)),h.key,h.inc,h.low⟩
theorem BrM.snoc(h:BrM w a b f g d)(x:ByteArray×Nat)(n:b.length<f.length)(o:Ax w x.2 Z_ (f[b.length]'n) (d b.length))(p:x.1.data.toList=IY (g[b.length]'(by rw[<-h.m];exact n)))(q:∀j∈b,j.2<x.2)(r:a<=x.2):BrM w a (b++[x]) f g d:=by
 refine⟨K_,h.m,fun i l m=> ?_,fun i l m=> ?_,?_,fun j k=> ?_⟩
 ·by_cases c:i<b.length
  ·rw[vA c];exact h.nod i c m
  ·have e:i=b.length:=(by simp at l;omega);subst e;simpa using o
 ·by_cases c:i<b.length
  ·rw[vA c];exact h.key i c m
  ·have e:i=b.length:=(by simp at l;omega);subst e;simpa using p
 ·rw[yX];refine jN.2 ⟨h.inc,D_,fun i l i i=> ?_⟩;obtain⟨j,k,rfl⟩:=xL.1 l;simp at i;subst i;exact q j k
 ·rcases xE.1 k with c|c
  ·exact h.low j c
  ·simp at c;subst c;exact r
structure BrC(w:World)(B:Nat)(pl:hA)(vc:Nat->Value)(cs:gZ):Prop where
 o:∀i,i<pl.length->Bb B w (vc i) (cs.filter (atP pl i))
 a:∀i j,i<pl.length->j<pl.length->i≠j->∀g,(vc i).ownBlock=some g->(vc j).ownBlock≠some g
theorem BrC.next{j:World}{k:gZ}(h:BrC w a b d k)(l:Nat)(p:Int×ByteArray×ByteArray)(y:Tr.ix (Cp b) p.2.1.data.toList=l)(v:Value)(C:Bb a j v (k.filter (atP b l)++[p]))(z:v.ownBlock=(d l).ownBlock\/∃r,w.heap.size<=r/\v.ownBlock=some r)(D:∀c,c<b.length->c≠l->Bb a j (d c) (k.filter (atP b c)))(F:l<b.length):BrC j a b (fun c=>if c=l then v else d c) (k++[p]):=by
 refine⟨fun c m=> ?_,fun c n m s t o g i=> ?_⟩
 ·rw[wG];by_cases e:c=l
  ·subst e;have:atP b c p=true:=xQ y;simp only[wD,qS,this,List.filter_nil];exact C
  ·have:atP b c p=false:=xN (by rw[y];exact fun f=>e f.symm);simp only[e,wQ,qS,this,List.filter_nil,yC,cZ];exact D c m e
 ·by_cases u:c=l
  ·subst u;have q:¬n=c:=fun f=>t f.symm
   simp only[wD,q,wQ]at g i;rcases z with f|⟨r,B,f⟩
   ·exact h.a c n m s t o (by rw[<-f];exact g) i
   ·have A:=(xF (h.o n s) o i).2;rw[f]at g;have:=xM g;omega
  ·by_cases q:n=l
   ·subst q;simp only[u,wD,wQ]at g i;rcases z with f|⟨r,B,f⟩
    ·exact h.a c n m s t o g (by rw[<-f];exact i)
    ·have A:=(xF (h.o c m) o g).2;rw[f]at i;have:=xM i;omega
   ·simp only[u,q,wQ]at g i;exact h.a c n m s t o g i
structure CbQ(w:World)(pl:hA)(vs:hH)(ls:List (hA))(vc:Nat->Value)(ml:gZ)(v:Value)(C:Nat)(w':World):Prop where
 len:pl.length=vs.length
 row:Bf w.heap.size w' v pl
 many:Od w.heap.size w' vs ls
 brm:BrM w' C pl vs ls vc
 brc:BrC w' C pl vc ml
 old:∀u∈vs,∀g,u.ownBlock=some g->g<C
 pv:∀g,v.ownBlock=some g->C<=g
 hC:w.heap.size<=C
 bel:Below w.heap.size w w'
theorem HE(M:hJ)(s:Nat)(k9 l0:Value)(t:hA)(m:gZ)(w:World)(g0:Ax w s Z_ k9 l0)(g1:Bf 0 w k9 t)(c5:Bb 0 w l0 m)(t0:4<t.length)(p6:t.length<=2000000)(t1:m.length<=2000000):
  Calls Tryz.prog 128 #[.agg #[B_ M,A_ s]] w fun f7 o6=>∃v a d A p2,f7=R_ v/\CbQ w a d (shares t 4) A m v p2 o6:=by
 obtain⟨D,d3,e,n3,-,Y,-,-⟩:=g1.at 0 O_;subst e;obtain⟨f2,f3,rfl⟩:=Ad c5;have c6:=Aa ((xA w.heap.size w).alloc X_ (C_ #[B_ M,A_ s] 132));have l1:Hid (PtB (w.alloc (C_ #[B_ M,A_ s] 132)) w.heap.size M s):=xK _ _;have e1:Ax (w.alloc (C_ #[B_ M,A_ s] 132)) s Z_ (L_ (P_ D) t.length d3) (L_ f2 m.length f3):=(c6.o.block s g0.lt).trans g0;obtain⟨n4,n5,n6,-⟩:=e1.cells;have g2:Bf 0 (w.alloc (C_ #[B_ M,A_ s] 132)) (L_ (P_ D) t.length d3) t:=Ae g1 c6.o X_;have g3:=Aa (OO D 0 t.length d3 t 4 (w.alloc (C_ #[B_ M,A_ s] 132)) rfl n3 p6 Do Do (fun g Z b4=>by have:=zD g2 (g:=D) rfl g Z b4;rw[Gv]at this;simpa using this) K_);have b8:Hid (w.heap.size<(w.alloc (C_ #[B_ M,A_ s] 132)).heap.size):=by show _<_;simp
 have g4:=Aa e1;have l2:Hid (Bb 0 (w.alloc (C_ #[B_ M,A_ s] 132)) (L_ f2 m.length f3) m):=Ae c5 c6.o X_;clear e1 g2 g0 g1 c5;go_in;go_wp2_with fail;refine g3.o.mono ?_;clear g3 n4 n5 n6;generalize w.alloc (C_ #[B_ M,A_ s] 132)=p at*;rintro f7 j ⟨s7,d,rfl,c2,k2⟩;have a8:=Aa c2;have g5:=Aa k2;have e2:=Li t 4 Do;have g6:=Aa (BM _ t e2.2.1);have l3:Hid ((shares t 4).length<=2000000/\0<(shares t 4).length):=by unfold shares;rw[Nj];exact⟨O_,e2.2.2 O_⟩
 have l4:Hid (∀p3∈shares t 4,p3≠[]):=g6.o;clear e2 g6 c2 k2;generalize k4:shares t 4=q at*;have l5:=Aa k4;clear k4;obtain⟨i3,f4,rfl⟩:=Ad a8.o.row;have p7:d.length<=2000000/\0<d.length:=by rw[a8.o.many.n];exact l3.o
 have b9:p.heap.size<=j.heap.size:=g5.o.size;go_wp2_with fail
 go_loopw [3,17] (fun o7 c wr=>∃(g:Nat) (a:hA),c=J_ (g:Nat)/\a.length=g/\g<=d.length/\Bf j.heap.size wr o7 a/\ShP p.heap.size wr (L_ i3 d.length f4) d q/\BrM wr j.heap.size a d q (fun _=> Z_)/\Below p.heap.size p wr/\j.heap.size<=wr.heap.size) (fun _ c _=>d.length-(intOf c).toNat)
 case atStart=>exact⟨0,[],rfl,rfl,Y_,yP _ _ _ _,a8.o,⟨D_,a8.o.many.n,fun c h=>by simp at h,fun c h=>by simp at h,D_,fun x h=>by simp at h⟩,g5.o,X_⟩
 case round=>
  obtain⟨g,a,rfl,f5,b4,c1,c2,i4,a4,c3⟩:=hrel;have u:=Aa c1;have S:=Aa c2;have T:=Aa i4;have N:=Aa a4;have a9:=a4.size;clear c1 c2 i4 a4;by_cases a7:g<d.length
  ·have a0:g<q.length:=(by rw[<-S.o.many.n];exact a7);have g7:=S.o.many.o g a7 a0;have X:0<(q[g]'a0).length:=by
    have:=l4.o _ (yA a0);exact kP.2 this
   obtain⟨b5,b6,i5,q4,-,q5,d4,-⟩:=g7.at 0 X;rw[vK]at d4;obtain⟨a5,d5,c4,c5⟩:∃a5 d5,Value.slice i3 d.length f4=L_ (P_ a5) d.length d5/\wr.cell? (Q_ a5 g)=some (d[g]'a7):=by
    rcases S.o.row.2 with⟨_,h0⟩|⟨a5,d5,s8,c4,_⟩
    ·omega
    ·have:=zD S.o.row (g:=a5) (by rw[c4];rfl) g (d[g]'a7) (xW a7);rw[Gv]at this;exact⟨a5,d5,c4,by simpa using this⟩
   simp only[xJ,yB]at c4;obtain⟨rfl,rfl⟩:=c4;have l6:Hid (((q[g]'a0)[0]'X).1.data.toList=IY (q[g]'a0)):=(by show _=_;unfold IY;rw[gL,xW X];rfl);have l7:=Aa i5;rw[i5]at c5;generalize(q[g]'a0)[0]'X=p4 at*;obtain⟨O,q6⟩:=p4;generalize m9:(q[g]'a0).length=b7 at*;have g8:=(xA wr.heap.size wr).alloc X_ (C_ #[Z_,L_ (P_ b5) b7 b6,Z_] 123);have U:Hid (Below wr.heap.size wr ((wr.alloc (C_ #[Z_,L_ (P_ b5) b7 b6,Z_] 123)).alloc (C_ #[B_ O,A_ wr.heap.size] 132))):=g8.alloc D_ _;have l8:Hid (Ax ((wr.alloc (C_ #[Z_,L_ (P_ b5) b7 b6,Z_] 123)).alloc (C_ #[B_ O,A_ wr.heap.size] 132)) wr.heap.size Z_ (d[g]'a7) Z_):=(by rw[l7.o];exact(kR _ _ _ D_).trans (xK _ _));have l9:Hid (((wr.alloc (C_ #[Z_,L_ (P_ b5) b7 b6,Z_] 123)).alloc (C_ #[B_ O,A_ wr.heap.size] 132)).heap[wr.heap.size+1]?=some (C_ #[B_ O,A_ wr.heap.size] 132 (0,0))):=(by have h:(wr.alloc (C_ #[Z_,L_ (P_ b5) b7 b6,Z_] 123)).heap.size=wr.heap.size+1:=D_;show _=_;rw[<-h];exact xK _ _);clear g7 g8;go_wp2_with (generalize(wr.alloc (C_ #[Z_,L_ (P_ b5) b7 b6,Z_] 123)).alloc (C_ #[B_ O,A_ wr.heap.size] 132)=k8 at*;at_builtin;refine Ni k8 rfl (.tmp 21) (.tmp 30) 121 132 jP _ 2 24 Hu rfl Do Do rfl j.heap.size u3 a.length (An a) rfl (Ae u.o U.o X_) (Q_ (wr.heap.size+1) 0) 1 1 [B_ O,A_ wr.heap.size] rfl rfl (fun g Z b4=>by rw[Dy];unfold World.cell?;simp only[l9.o,zR];simpa using b4) (by intro Z G;simp at G;rcases G with rfl|rfl<;>rfl) O_ (xI c3 U.o.size) ?_;intro o4 l o5 f8 f1)
   have c7:Mod (fun i=>u3.ownBlock=some i) wr l:=(Mod.of_below (F:=fun _=>False) U.o).trans (Mod.of_grown f8) (fun _ _ b=>b.elim) (fun _ _ b=>b);have c8:Hid (Bf j.heap.size l o4 (a++[(O,wr.heap.size)])/\ShP p.heap.size l (L_ (P_ a5) d.length f4) d q/\BrM l j.heap.size (a++[(O,wr.heap.size)]) d q (fun _=> Z_)/\Below p.heap.size p l/\j.heap.size<=l.heap.size):=by
    refine⟨?_,⟨c7.row S.o.row (fun D Y o8=>Dq S.o.row u.o Do D Y o8),S.o.many.keep c7 (fun Z G i d6 o9=> ?_)⟩,?_,?_,xI c3 c7.size⟩
    ·unfold Bf;rw[xC,Dj];exact o5
    ·have p8:=(a8.o.many.lt G i d6).2;have p9:=(xF u.o i o9).1;omega
    ·have m0:=T.o.keep c7 (fun x f9 b=>by
      obtain⟨c,k,rfl⟩:=jK f9;exact Bg (T.o.nod c k (by have:=T.o.n;omega)) u.o Do b)
     subst f5;refine m0.snoc (O,wr.heap.size) a7 ((Mod.of_grown f8).nod l8.o (fun b=> ?_)) l6.o (fun s9 p0=> ?_) c3
     ·have:=(xF u.o _ b).2;omega
     ·obtain⟨c,k,rfl⟩:=jK p0;exact(T.o.nod c k (by have:=T.o.n;omega)).lt
    ·exact(N.o.trans (U.o.mono a9)).grown f8 (xI a9 U.o.size) (fun i d6=>xI b9 (xF u.o i d6).1)
   exact⟨⟨g+1,a++[(O,wr.heap.size)],W_,by simp[f5],O_,c8.o⟩,by simp[intOf];omega⟩
  ·have g9:g=d.length:=O_;subst f5;have h1:=Aa g9;have h2:a.length<=2000000/\0<a.length:=O_;clear g9;obtain⟨r,o,n7⟩:=Ad u.o;subst n7;have U:=Aa ((xA wr.heap.size wr).alloc X_ (C_ #[Z_,L_ r a.length o,Z_] 123));have h3:Hid (Ax (wr.alloc (C_ #[Z_,L_ r a.length o,Z_] 123)) wr.heap.size Z_ (L_ r a.length o) Z_):=xK _ _;have e3:=Aa (N.o.trans (U.o.mono a9));have e4:PtB (wr.alloc (C_ #[Z_,L_ r a.length o,Z_] 123)) w.heap.size M s:=(e3.o.block w.heap.size b8.o).trans l1.o;obtain⟨-,q7⟩:=e4.cells;have h4:Ax (wr.alloc (C_ #[Z_,L_ r a.length o,Z_] 123)) s Z_ (L_ (P_ D) t.length d3) (L_ f2 m.length f3):=(e3.o.block s g4.o.lt).trans g4.o;obtain⟨-,-,q8,-⟩:=h4.cells;clear e4 h4;have e5:Hid (Bf j.heap.size (wr.alloc (C_ #[Z_,L_ r a.length o,Z_] 123)) (L_ r a.length o) a/\Od p.heap.size (wr.alloc (C_ #[Z_,L_ r a.length o,Z_] 123)) d q/\BrM (wr.alloc (C_ #[Z_,L_ r a.length o,Z_] 123)) j.heap.size a d q (fun _=> Z_)):=by
    have e6:=Mod.of_below (F:=fun _=>False) U.o;exact⟨e6.row u.o (fun _ _ b=>b),S.o.many.keep e6 (fun _ _ _ _ b=>b),T.o.keep e6 (fun _ _ b=>b)⟩
   have m1:wr.heap.size<(wr.alloc (C_ #[Z_,L_ r a.length o,Z_] 123)).heap.size:=h3.o.lt;have m2:Hid (∀x∈a,x.2<wr.heap.size):=fun x f9=>by obtain⟨c,k,rfl⟩:=jK f9;exact(T.o.nod c k (by have:=T.o.n;omega)).lt
   clear u S T N U;go_upto_region 9 with fail;generalize wr.alloc (C_ #[Z_,L_ r a.length o,Z_] 123)=k8 at*;have q0:j.heap.size<=wr.heap.size:=c3;generalize k5:wr.heap.size=R at*;have q1:=Aa k5;clear k5 a9 c3
   go_loopw [41] (fun c a6=>∃(i:Nat) (A:Nat->Value),c=J_ (i:Nat)/\i<=m.length/\Bf j.heap.size a6 (L_ r a.length o) a/\Od p.heap.size a6 d q/\BrM a6 j.heap.size a d q A/\BrC a6 j.heap.size a A (m.take i)/\Ax a6 R Z_ (L_ r a.length o) Z_/\Below p.heap.size p a6/\R<a6.heap.size) (fun c _=>m.length-(intOf c).toNat)
   case atStart=>exact⟨0,fun _=> Z_,rfl,Y_,e5.o.1,e5.o.2.1,e5.o.2.2,⟨fun c _=>by rw[qE];exact yP _ _ _ _,fun c g _ _ _ D Y=>by simp[Value.ownBlock]at Y⟩,h3.o,e3.o,m1⟩
   case round=>
    obtain⟨i,A,rfl,d6,c1,i6,i7,i8,i9,a4,j0⟩:=hrel;have u:=Aa c1;have b0:=Aa i6;have c9:=Aa i7;have a1:=Aa i8;have e7:=Aa i9;have N:=Aa a4;have a9:=a4.size;clear c1 i6 i7 i8 i9 a4;by_cases e0:i<m.length
    ·obtain⟨n8,q9,e,r0,-,n9,d4,j1,j2⟩:=l2.o.at i e0;simp only[xJ]at e;obtain⟨rfl,-,rfl⟩:=e;have d0:=fun p1=>N.o.cell (p:=(Q_ n8 p1)) n9
     have m3:=(d0 _).trans d4;have m4:=(d0 _).trans j1;have m5:=(d0 _).trans j2;clear d0 d4 j1 j2;have m6:Hid (m.take (i+1)=m.take i++[m[i]'e0]):=(by show _=_;rw[zN,xW e0];rfl);generalize m[i]'e0=p5 at*;obtain⟨I,y,J⟩:=p5;have V:=Aa ((xA wr.heap.size wr).alloc X_ (C_ #[J_ I,B_ y,B_ J] 34));have e8:Hid (ChB (wr.alloc (C_ #[J_ I,B_ y,B_ J] 34)) wr.heap.size I y J):=xK _ _;have c0:Hid (Ax (wr.alloc (C_ #[J_ I,B_ y,B_ J] 34)) R Z_ (L_ r a.length o) Z_):=(V.o.block R j0).trans e7.o;have a2:Hid (Bf j.heap.size (wr.alloc (C_ #[J_ I,B_ y,B_ J] 34)) (L_ r a.length o) a):=Ae u.o V.o X_;have c8:=Aa (Mq R j.heap.size _ _ _ a y _ c0.o a2.o O_);have n:Tr.ix (Cp a) y.data.toList<a.length:=(by have:=WB (Cp a) y.data.toList (by intro b;unfold Cp at b;rw[bI]at b;rw[b]at h2;simp at h2);simpa[Cp]using this);go_wp2_with fail;refine c8.o.mono ?_;rintro f7 l ⟨rfl,k3⟩;have h5:=V.o.size;rw[<-k3]at V e8 c0 a2 h5;clear k3 c8 m3 m4 m5;have H:=Aa (c9.o.keep (Mod.of_below (F:=fun _=>False) V.o) (fun _ _ b=>b));have b1:=Aa (b0.o.keep (Mod.of_below (F:=fun _=>False) V.o) (fun _ _ _ _ b=>b));have z:Hid (∀c,c<a.length->Bb j.heap.size l (A c) ((m.take i).filter (atP a c))):=fun c k=>Ae (a1.o.o c k) V.o X_
     generalize k6:Tr.ix (Cp a) y.data.toList=f at*;have m7:=Aa k6;clear k6;obtain⟨j3,r1,j4,r2,-,r3,-,r4⟩:=a2.o.at f n;simp only[xJ]at j4;obtain⟨rfl,-,rfl⟩:=j4;have d1:=H.o.nod f n (by have:=h1.o;omega);obtain⟨-,-,o0,-,-,r5⟩:=d1.cells;have b2:=Aa d1;have q2:=d1.lt;clear d1;have h6:Hid (∀c (h:c<a.length),c≠f->(a[c]'h).2≠(a[f]'n).2):=fun c h X b=>by
      have h7:=wK.1 H.o.inc;rcases Nat.lt_or_gt_of_ne X with W|W
      ·have:=h7 c f (by simpa using h) (by simpa using n) W;simp only[vR]at this;omega
      ·have:=h7 f c (by simpa using n) (by simpa using h) W;simp only[vR]at this;omega
     have m8:=Aa (H.o.low _ (yA n));generalize k7:(a[f]'n).2=C at*;have h8:=Aa k7;clear k7;obtain⟨r6,r7,r8,j5⟩:=Fo (z.o f n);have m9:((m.take i).filter (atP a f)).length<=2000000:=(by have:=kU (atP a f) (m.take i);rw[xR]at this;omega);have a3:=Aa ((xA l.heap.size l).drew.alloc X_ (C_ #[J_ I,B_ y,B_ J] 34));obtain⟨o1,j6,j7,j8,j9⟩:=zB Em;obtain⟨B,L,k0,d7,f6,-,k1⟩:=kY (P:=Tryz.prog) (l.drew.alloc (C_ #[J_ I,B_ y,B_ J] 34)) j.heap.size 77 77 34 o1 _ 3 40 kX j6 j7 j8 j9 rfl Do (A f) _ _ (Ae (z.o f n) a3.o X_) (Q_ l.heap.size 0) 1 1 [J_ I,B_ y,B_ J] rfl (fun g Z b4=>by rw[Dy];have h:=xK l.drew (C_ #[J_ I,B_ y,B_ J] 34);unfold World.cell?;simp only[zR];rw[show(l.drew.alloc (C_ #[J_ I,B_ y,B_ J] 34)).heap[l.heap.size]?=_ from h];simpa using b4) (by intro Z G;simp at G;rcases G with rfl|rfl|rfl<;>rfl) (by unfold maxLen;omega) O_ (by have:=a3.o.size;have:=N.o.size;omega)
     have h9:=Aa k0;have e9:Mod (fun b=>(A f).ownBlock=some b) l L:=(Mod.of_below (F:=fun _=>False) a3.o).trans (Mod.of_grown f6) (fun _ _ b=>b.elim) (fun _ _ b=>b);have i0:(A f).ownBlock≠some C:=Bg b2.o (z.o f n) Do;have d2:=e9.nod b2.o i0;obtain⟨-,-,r9,-,-,s0⟩:=d2.cells;obtain⟨s1,s2,s3,o2⟩:=Fo d7;have f0:Hid (∃d8,Bf j.heap.size (L.setCell (Q_ C 2) B) (L_ (P_ j3) a.length o) a/\Od p.heap.size (L.setCell (Q_ C 2) B) d q/\BrM (L.setCell (Q_ C 2) B) j.heap.size a d q d8/\BrC (L.setCell (Q_ C 2) B) j.heap.size a d8 (m.take (i+1))/\Ax (L.setCell (Q_ C 2) B) R Z_ (L_ (P_ j3) a.length o) Z_/\Below p.heap.size p (L.setCell (Q_ C 2) B)/\R<(L.setCell (Q_ C 2) B).heap.size):=by
      have i1:=Mod.setCell L C 2 B;have b3:Mod (fun b=>b=C\/(A f).ownBlock=some b) l (L.setCell (Q_ C 2) B):=e9.trans i1 (fun _ _ b=> .inr b) (fun _ _ b=> .inl b);have q3:C<R:=(by have:=m2.o _ (yA n);rw[h8.o]at this;exact this);have n0:R<l.heap.size:=yF j0 h5;refine⟨fun c=>if c=f then B else A c,b3.row a2.o ?_,b1.o.keep b3 ?_,⟨H.o.n,H.o.m,fun c k d9=> ?_,H.o.key,H.o.inc,H.o.low⟩,?_,b3.nod c0.o ?_,?_,yF n0 b3.size⟩
      ·rintro b F (rfl|W)
       ·exact Bg b2.o a2.o Do F
       ·exact Dq a2.o (z.o f n) Do b F W
      ·rintro Z G b F (rfl|W)
       ·obtain⟨c,k,rfl⟩:=jK G;exact Bg b2.o (b1.o.o c k (by have:=b1.o.n;omega)) Do F
       ·obtain⟨c,k,rfl⟩:=jK G;exact Dq (b1.o.o c k (by have:=b1.o.n;omega)) (z.o f n) Do b F W
      ·by_cases e:c=f
       ·subst e;simp only[wD];have:=d2.setc B;rw[h8.o];exact this
       ·simp only[e,wQ];refine b3.nod (H.o.nod c k d9) ?_;rintro(b|b)
        ·exact h6.o c k e b
        ·exact Bg (H.o.nod c k d9) (z.o f n) Do b
      ·rw[m6.o];refine BrC.next (w:=l) ⟨z.o,a1.o.a⟩ f (I,y,J) m7.o B ?_ ?_ (fun c k X=>b3.row (z.o c k) ?_) n
       ·unfold Bb;rw[xC,Qf];exact i1.row d7 (fun b F e=>Bg d2 d7 Do (by rw[<-e];exact F))
       ·rcases k1 with b|b
        ·exact .inl b
        ·exact .inr ⟨_,a3.o.size,b⟩
       ·rintro b F (rfl|W)
        ·exact Bg b2.o (z.o c k) Do F
        ·exact a1.o.a c f k n X b F W
      ·rintro(b|b)
       ·omega
       ·have:=(xF (z.o f n) R b);exact Bg c0.o (z.o f n) Do b
      ·have f1:=N.o.trans (V.o.mono a9);have i2:p.heap.size<=l.heap.size:=f1.size;have n1:Below p.heap.size p L:=(f1.trans (a3.o.mono i2)).grown f6 (xI i2 a3.o.size) (fun b F=>xI b9 (xF (z.o f n) b F).1);exact n1.setCell (p:=(Q_ C 2)) (xI b9 m8.o) B
     rw[j5]at o0 h9;obtain⟨s4,s5,s6⟩:=e8.o.cells;have e4:wr.heap.size<l.heap.size:=e8.o.lt;clear j5 d7 f6 k1 d2 e9 i0 u b0 c9 a1 e7 N V c0 a2 H b1 z b2 h6 a3 k0 j6 j7 j8 j9;subst o2;go_upto_region 12 with fail
     go_region_law (refine Qc _ (by rfl) (.tmp 56) (.tmp 58) _ _ (by rfl) _ _ U_ U_ _ _ h9.o ?_)
     all_goals
      go_wp2_with fail;obtain⟨d8,o3⟩:=f0.o;exact⟨⟨i+1,d8,W_,O_,o3⟩,by simp[intOf];omega⟩
    ·have n2:i=m.length:=O_;subst n2;rw[zQ]at a1;have f0:Hid (CbQ w a d q A m (L_ r a.length o) j.heap.size wr):=⟨h1.o,Bi u.o (xI (zX b8.o) b9),⟨b0.o.n,fun c k d9=>Bi (b0.o.o c k d9) (zX b8.o),b0.o.a⟩,c9.o,a1.o,fun Z G D Y=>(a8.o.many.lt G D Y).2,fun D Y=>(xF u.o D Y).1,xI (zX b8.o) b9,c6.o.trans (N.o.mono (zX b8.o))⟩;clear u b0 c9 a1 e7 N;go_wp2_with fail;go_ret;exact⟨_,a,d,A,j.heap.size,rfl,by rw[l5.o];exact f0.o⟩
theorem Tc{j:Nat}(h:Bf 0 w (L_ (P_ c) b.length j) b)(g:Nat)(k:g<=b.length):∀d f,(An (b.drop g))[d]?=some f->w.cell? (Q_ c (g*2+d))=some f:=by
 intro d f i;rw[Ru _ _ k,kZ]at i;have:=zD h (g:=c) rfl _ _ i
 rwa [Gv]at this
theorem Ah2:∀w,(Go.zeroValue 132).run Tryz.prog w=.ok (.agg #[B_ ⟨#[]⟩,.pointer none]) w:=by intro w;obtain⟨c,a,b,d,f⟩:=zB Hu;simp[Go.zeroValue,typeInfo,a,b]
theorem Rw(b:Nat):(Builtin.zeroCells (Value.agg #[B_ ⟨#[]⟩,.pointer none]).cells b).size=b*2/\∀v∈(Builtin.zeroCells (Value.agg #[B_ ⟨#[]⟩,.pointer none]).cells b).toList,v.oneCell'=true:=by
 constructor
 ·rw[wS];rfl
 ·intro v c;simp only[Builtin.zeroCells,aX,xL]at c;obtain⟨a,_,rfl⟩:=c;show((#[Value.string ⟨#[]⟩,Value.pointer none]:Array Value)[a % 2]!).oneCell'=true;rcases(show a % 2=0\/a % 2=1 by omega)with d|d<;>rw[d]<;>rfl
theorem Zz(v:Value)(b:hA)(a:Nat)(w:World)(a3:a<b.length)(h:Bf 0 w v b)(a4:b.length<=20000000):
  Calls Tryz.prog 225 #[v,.int .i64 (a:Nat),.int .i64 ((a:Nat)+1)] w fun f d=>∃c,f=.returned c/\Bf 0 d c (b.take a++b.drop (a+1))/\w.grownBy d v.ownBlock/\c.ownBlock=v.ownBlock:=by
 rcases h.2 with⟨_,a2⟩|⟨c,d,g,rfl,R,u,S,p,y,F⟩
 ·omega
 have U:d<=9223372036854775807:=by unfold maxLen at p;omega
 obtain⟨C,N,Z,t,a0⟩:=zB Hu;obtain⟨o,a1,D⟩:∃o:Addr,(if d=a+1 then some ⟨c,0,none⟩else some ⟨c,(a+1)*2,none⟩)=some o/\∀f i,(An (b.drop (a+1)))[f]?=some i->w.drew.cell? (o.add f)=some i:=by
  by_cases I:d=a+1
  ·refine⟨⟨c,0,none⟩,xD I,fun f i j=> ?_⟩;rw[kB O_]at j;simp[An]at j
  ·refine⟨⟨c,(a+1)*2,none⟩,xB I,fun f i j=> ?_⟩;rw[Dy];exact Tc h (a+1) O_ f i j
 have z:(An (b.drop (a+1))).length=(b.length-(a+1))*C.size:=by rw[Bj,xY,t]
 have l:g.toList.length=d*2:=by simpa using y
 have q:=fU (P:=Tryz.prog) w.drew 121 121 132 C jP N c a d g u o (b.length-(a+1)) (d-(a+1)) (An (b.drop (a+1))) z D (Fp _) O_ (by rw[t,Bj,xY,y];omega);rw[t]at q;have V:a+(b.length-(a+1))=b.length-1:=O_;have m:(An (b.drop (a+1))).length=(b.length-1-a)*2:=by rw[Bj,xY];omega
 have n:(g.toList.take (a*2)++An (b.drop (a+1))++g.toList.drop (a*2+(An (b.drop (a+1))).length)).length=d*2:=by simp only[xC,xR,xY,m,l];omega
 have r:(g.toList.take (a*2)++An (b.drop (a+1))++g.toList.drop (a*2+(An (b.drop (a+1))).length)).take ((b.length-1)*2)=An (b.take a++b.drop (a+1)):=by rw[kE (by simp only[xC,xR,m,l];omega),yY (by simp only[xC,xR,m,l];omega),Dj,Ju _ _ O_];rw[<-F,jO];congr 2;omega
 generalize T:g.toList.take (a*2)++An (b.drop (a+1))++g.toList.drop (a*2+(An (b.drop (a+1))).length)=f at*;have A:=Aa (Eg (w:=w.drew) u f);have W:=Aa (Cn w.drew c f.toArray);have X:=Aa p;have J:=Aa n;have Y:=Aa r;have L:=Aa q;have M:Hid (∀k:hH,k.length=2->Bf 0 ((w.drew.setRow c f.toArray).setRow c (f.take ((b.length-1)*2)++(k++f.drop ((b.length-1)*2+2))).toArray) (.slice (some ⟨c,0,none⟩) (b.length-1) d) (b.take a++b.drop (a+1))/\w.grownBy ((w.drew.setRow c f.toArray).setRow c (f.take ((b.length-1)*2)++(k++f.drop ((b.length-1)*2+2))).toArray) (some c)):=by
  intro k O;have B:(b.take a++b.drop (a+1)).length=b.length-1:=K_;constructor
  ·unfold Bf;rw[B];refine Rt (Eg A.o _) O_ p ?_ ?_ (by rw[Bj,B])
   ·simp only[xC,xR,xY,n,O];omega
   ·rw[kE (by rw[xR,n];omega),jO,wN,r]
  ·have i:=Cn w.drew c f.toArray;have j:=Cn (w.drew.setRow c f.toArray) c (f.take ((b.length-1)*2)++(k++f.drop ((b.length-1)*2+2))).toArray;exact⟨j.os.trans i.os,j.tape.trans i.tape,j.output.trans i.output,xI i.size j.size,fun G H s=>(j.block G (yF H i.size) s).trans (i.block G H s)⟩
 clear q T u y F h p R n r D z l m;have m:a<=d:=O_;have n:(a:Int)<=(d:Int):=O_;have p:a+1<=b.length:=O_;have q:(a:Int)+1<=(b.length:Int):=O_;have r:(0:Int)<=(a:Int)+1:=O_;have u:a+1<=d:=O_;have s:((a:Int)==(a:Int)+1)=false:=K_
 go_in;go_upto_region 5 with fail
 go_region_law (refine Qc _ (by rfl) (.tmp 22) (.tmp 25) _ _ (by rfl) _ _ (by rfl) (by simp[Act.eval];rfl) _ _ L.o ?_)
 all_goals
  have y:¬d=b.length-1:=O_;have z:b.length-(b.length-1)=1:=O_;have D:b.length-1<=b.length:=O_;have F:b.length<=d:=S;go_wp2_with (refine Ae9 _ (by rfl) (.tmp 31) 121 (by rfl) _ (by rfl) _ _ (Qb _ _ _ 132 (.agg #[.string ⟨#[]⟩,.pointer none]) 2 c ((b.length-1)*2) 1 (d-(b.length-1)) f.toArray 132 jP Ah2 (Rw 1).1 (Rw 1).2 A.o (by have:=J.o;simp;omega)) ?_);go_ret;have l:=M.o (Builtin.zeroCells #[Value.string ⟨#[]⟩,Value.pointer none] 1).toList (by rw[jT,wS];rfl);exact⟨_,rfl,l.1,l.2,rfl⟩
def Ra(pl:hA)(i:Nat)(xl:hA):hA:=pl.take i++xl++pl.drop (i+1)
theorem Pd(a:hA)(b:Nat)(c:hA)(d:b<a.length):(Ra a b c).length=a.length-1+c.length:=by simp[Ra];omega
theorem Uv(a:hA)(b:Nat)(c:hA):An (Ra a b c)=An (a.take b)++An c++An (a.drop (b+1)):=by unfold Ra;rw[Dj,Dj]
structure HF(v:Value)(l:hA)(w:World)(v':Value)(w':World):Prop where
 o:Bf 0 w' v' l
 g:w.grownBy w' v.ownBlock
 b:v'.ownBlock=v.ownBlock\/∃k,w.heap.size<=k/\v'.ownBlock=some k
theorem TD(h:Bf 0 w (L_ (P_ a) b.length c) b)(d:Nat)(n:d<=b.length):w.ownsRow 0 132 2 (L_ (P_ a) d c) d (An (b.take d)):=by
 rcases h.2 with⟨f,_⟩|⟨o,p,g,e,i,j,q,k,l,m⟩
 ·simp at f
 ·simp only[xJ,xX,yT,yG,yB]at e;obtain⟨rfl,rfl⟩:=e;refine⟨by rw[Bj,xR];omega,.inr ⟨a,c,g,rfl,i,j,O_,k,l,?_⟩⟩;rw[Ju _ _ n,<-m,jO];congr 1;omega
theorem Td(h:Bf 0 w (L_ (P_ a) b.length c) b):∀d f,(An b)[d]?=some f->w.cell? (Q_ a d)=some f:=by intro d f g;have:=Tc h 0 Y_ d f (by simpa using g);simpa using this
theorem DV(f d j k:Nat)(c b:hA)(a:Nat)(w:World)(l:a+1=c.length)(h:Bf 0 w (L_ (P_ f) c.length d) c)(m:Bf 0 w (L_ (P_ j) b.length k) b)(M:0<b.length)(N:c.length<=20000000)(O:b.length<=20000000):
  Calls Tryz.prog 175 #[L_ (P_ f) c.length d,J_ (a:Nat),J_ ((a:Nat)+1),L_ (P_ j) b.length k] w fun i n=>∃g,i=R_ g/\HF (L_ (P_ f) c.length d) (Ra c a b) w g n:=by
 obtain⟨H,I,e,J,-,-,-,-⟩:=h.at 0 O_;simp only[xJ,xX,yT,yG,yB]at e;obtain⟨rfl,rfl⟩:=e;have n:=Aa (TD h a O_);have o:Hid (∀g i,(An b)[g]?=some i->w.cell? (((Q_ j 0):Addr).add g)=some i):=fun g i p=>by rw[Dy,zR];exact Td m g i p
 have p:Hid (Ra c a b=c.take a++b):=by show _=_;unfold Ra;rw[kB O_,yC]
 have q:Hid ((An b).length=b.length*2):=Bj b;clear h m;have A:a<=20000000:=O_;have B:a<=d:=O_;have C:(a:Int)+1<=(d:Int):=O_;have D:a+1<=d:=O_;have F:((a:Int)==(a:Int)+1)=false:=K_;have G:((a:Int)+1==(c.length:Int))=true:=K_;have m:Hid (¬((a:Int)+(b.length:Int))<(c.length:Int)):=by show ¬_;omega
 have r:=Aa l;clear l;go_enter bY,cE;go_upto_region 6 with(at_builtin;refine Ni w rfl (.tmp 32) (.tmp 33) 121 132 jP _ 2 24 Hu rfl Do Do rfl 0 (L_ (P_ f) a d) a (An (c.take a)) rfl n.o (Q_ j 0) b.length k (An b) rfl q.o o.o (Fp b) O_ Y_ ?_;intro L y g i l);obtain⟨t,u,rfl⟩:=Ad g;have s:Hid (HF (L_ (P_ f) c.length d) (Ra c a b) w (L_ t (a+b.length) u) y):=by refine⟨?_,i,l.imp_right fun z=>⟨_,X_,z⟩⟩;rw[p.o];unfold Bf;rw[xC,Dj,xR,show min a c.length=a by have:=r.o;omega];exact g
 have z:decide ((a:Int)+(b.length:Int)<(c.length:Int))=false:=xN m.o;clear g i l;go_wp2_with fail;go_ret;exact⟨_,rfl,s.o⟩
theorem HG(g f j y:Nat)(c b:hA)(a:Nat)(w:World)(e0:a+1<c.length)(e1:c.length-1+b.length<=f)(h:Bf 0 w (L_ (P_ g) c.length f) c)(z:Bf 0 w (L_ (P_ j) b.length y) b)(e2:2<=b.length)(e3:c.length<=20000000)(e4:b.length<=20000000)(R:g≠j):
  Calls Tryz.prog 175 #[L_ (P_ g) c.length f,J_ (a:Nat),J_ ((a:Nat)+1),L_ (P_ j) b.length y] w fun i k=>∃d,i=R_ d/\HF (L_ (P_ g) c.length f) (Ra c a b) w d k:=by
 rcases h.2 with⟨_,d5⟩|⟨a2,a3,i,e,a4,t,d6,D,u,O⟩
 ·omega
 simp only[xJ,xX,yT,yG,yB]at e;obtain⟨rfl,rfl⟩:=e;have a7:f<=9223372036854775807:=by unfold maxLen at D;omega
 obtain⟨d,s⟩:∃d,d=c.length-1+b.length:=⟨_,rfl⟩;have a8:(a:Int)+(b.length:Int)+((c.length-(a+1):Nat):Int)=(d:Int):=O_;have a9:a<=20000000:=O_;have b0:a<=f:=O_;have b1:(a:Int)+1<=(f:Int):=O_;have b2:a+1<=f:=O_;have b3:((a:Int)==(a:Int)+1)=false:=K_;have b4:((a:Int)+1==(c.length:Int))=false:=K_;have b5:(a:Int)+1<=(c.length:Int):=O_;have b6:a+1<=c.length:=O_;have b7:¬f=a+1:=O_;have b8:(0:Int)<=(a:Int)+1:=O_;have b9:d<=f:=O_;have c0:decide ((f:Int)<(d:Int))=false:=K_;have c1:decide ((a:Int)+(b.length:Int)<=(a:Int)+1)=false:=K_;have c2:a+b.length<=d:=O_;have c3:IntKind.i64.wrap ((a:Int)+(b.length:Int))=(a:Int)+(b.length:Int):=by rw[yZ];omega
 have c4:((a:Int)+(b.length:Int)).toNat=a+b.length:=O_;have c5:(0:Int)<=(a:Int)+(b.length:Int):=O_;have c6:(a:Int)+(b.length:Int)<=(d:Int):=O_;have c7:¬f=a+b.length:=O_;have c8:IntKind.i64.wrap (d:Int)=(d:Int):=by rw[yZ];omega
 have r:i.toList.length=f*2:=by simpa using u
 have k:(An (c.drop (a+1))).length=(c.length-(a+1))*2:=by rw[Bj,xY]
 have l:(An b).length=b.length*2:=Bj b;have F:i.toList.take (a*2)=An (c.take a):=by rw[Ju _ _ O_,<-O,jO];congr 1;omega
 obtain⟨d0,d1,M,-,-,Y,-,-⟩:=z.at 0 O_;simp only[xJ,xX,yT,yG,yB]at M;obtain⟨rfl,rfl⟩:=M;obtain⟨n,N,Z⟩:∃n:Array Value,w.heap[j]?=some (.cells n 132 (0,0))/\0<n.size:=by
  rcases z.2 with⟨_,d7⟩|⟨a2,a3,n,e,_,a5,d8,_,d9,_⟩
  ·omega
  ·simp only[xJ,xX,yT,yG,yB]at e;obtain⟨rfl,rfl⟩:=e;exact⟨n,a5,O_⟩
 have A:=Gf (P:=Tryz.prog) w.drew.drew 121 121 3 132 2 g ((a+b.length)*2) (d-(a+b.length)) (f-(a+b.length)) g ((a+1)*2) (c.length-(a+1)) (f-(a+1)) (c.length-(a+1)) i 132 (An (c.drop (a+1))) jP S_ t (by rw[show d-(a+b.length)=c.length-(a+1)by omega];exact wN _) k (fun p q C=>Tc h (a+1) O_ p q C) (by rw[k,u];omega) (Fp _);rw[k,show(a+b.length)*2+(c.length-(a+1))*2=d*2 by omega]at A;have S:(i.toList.take ((a+b.length)*2)++An (c.drop (a+1))++i.toList.drop (d*2)).length=f*2:=by simp only[xC,xR,xY,k,r];omega
 have G:(i.toList.take ((a+b.length)*2)++An (c.drop (a+1))++i.toList.drop (d*2)).take (a*2)=An (c.take a):=by rw[xT,kE (by rw[xR,r];omega),jO,<-F];congr 1;omega
 have H:(i.toList.take ((a+b.length)*2)++An (c.drop (a+1))++i.toList.drop (d*2)).drop (a*2+b.length*2)=An (c.drop (a+1))++i.toList.drop (d*2):=by rw[xT,show a*2+b.length*2=(i.toList.take ((a+b.length)*2)).length by rw[xR,r];omega,jQ]
 generalize a6:i.toList.take ((a+b.length)*2)++An (c.drop (a+1))++i.toList.drop (d*2)=o at*;have B:=Eg (w:=w.drew.drew) t o;have m:=Cn w.drew.drew g o.toArray;have I:∀p q,(An b)[p]?=some q->(w.drew.drew.setRow g o.toArray).cell? (Q_ j (0+p))=some q:=fun p q C=>by rw[zR];exact(kK (m.block j Y (fun e=>R (xM e).symm))).trans (Td z p q C)
 have p:=Gf (P:=Tryz.prog) (w.drew.drew.setRow g o.toArray) 121 121 3 132 2 g (a*2) (d-a) (f-a) j 0 b.length y b.length o.toArray 132 (An b) jP S_ B (jL O_) l I (by rw[l];simp;omega) (Fp _);rw[l]at p;simp only[G,H]at p;have T:Hid (HF (L_ (P_ g) c.length f) (Ra c a b) w (L_ (P_ g) d f) ((w.drew.drew.setRow g o.toArray).setRow g (An (c.take a)++An b++(An (c.drop (a+1))++i.toList.drop (d*2))).toArray)):=by
  have C:(An (c.take a)).length=a*2:=by rw[Bj,xR];omega
  refine⟨?_,?_,.inl rfl⟩
  ·unfold Bf;rw[Pd _ _ _ O_,<-s];refine Rt (Eg B _) O_ D ?_ ?_ (by rw[Bj,Pd _ _ _ O_,<-s])
   ·simp only[xC,xY,C,l,k,r];omega
   ·rw[Uv,<-xT,kE (by simp only[xC,C,l,k];omega),yY (by simp only[xC,C,l,k];omega)]
  ·have U:=Cn (w.drew.drew.setRow g o.toArray) g (An (c.take a)++An b++(An (c.drop (a+1))++i.toList.drop (d*2))).toArray;exact SV (⟨m.os,m.tape,m.output,m.size,m.block⟩:w.grownBy _ (some g)) U
 have q:w.drew.heap[g]?=some (.cells i 132 (0,0)):=t;have J:w.drew.heap[j]?=some (.cells n 132 (0,0)):=N;have L:(callFunc 227 #[L_ (some (Q_ g ((a+b.length)*2))) (d-(a+b.length)) (f-(a+b.length)),L_ (P_ j) b.length y]).run Tryz.prog w.drew=.ok (.value (.bool false)) w.drew:=by
  rw[fV Tryz.func227 S_ S_ S_ (e:=Extern.SlicesOverlaps.overlaps #[121,121] #[4]) S_,gE w.drew 121 4 132 jP 2 (by intro w;obtain⟨d2,a0,d3,a1,d4⟩:=zB Hu;simp[Go.sizeOf,typeInfo,a0,a1]) (Q_ g ((a+b.length)*2)) (Q_ j 0) _ _ _ _ R 132 132 (f*2) n.size (by simp[World.shape?,q,u]) (by simp[World.shape?,J]) O_ (by simp[World.frozen?,q]) (by simp[World.frozen?,q])];rfl
 have V:=Aa L;have W:=Aa A;have X:=Aa p;have c9:=Aa s;clear L q J A p B m I G H S a6 F k l r N Z s h z t u O D a4;go_enter bY,cE;go_upto_region 9 with fail
 go_region_law (fail)
 all_goals
  go_wp2_with fail;rw[V.o];rw[Oper.upon_value];go_upto_region 22 with fail
  go_region_law (refine DK _ rfl (.tmp 126) (.tmp 129) 121 121 rfl _ _ (by simp[Act.eval,Act.put]) (by simp[Act.eval,Act.put]) _ _ W.o ?_)
  all_goals
   have l:¬f=a:=O_;have m:a<=d:=O_;go_wp2_with (refine Ab6 _ rfl (.tmp 133) (.tmp 134) 121 121 rfl _ _ rfl rfl _ _ X.o ?_);go_ret;have k:=T.o;simp only[xT]at k;exact⟨_,rfl,k⟩
theorem DW{P:Program}(w:World)(a c e:TypeId)(b:Option Addr)(d:Nat)(f:P.underlying a=some (.slice e)):(Builtin.clear_ #[a] c #[.slice b 0 d]).run P w=.ok (.tuple #[]) w:=by cases b<;>simp[Builtin.clear_,kG f]
theorem DX(c d r A:Nat)(b:hA)(x:ByteArray×Nat)(a:Nat)(w:World)(c2:a+1<b.length)(h:Bf 0 w (.slice (some ⟨c,0,none⟩) b.length d) b)(B:Bf 0 w (.slice (some ⟨r,0,none⟩) 1 A) [x])(c3:b.length<=20000000):
  Calls Tryz.prog 175 #[.slice (some ⟨c,0,none⟩) b.length d,.int .i64 (a:Nat),.int .i64 ((a:Nat)+1),.slice (some ⟨r,0,none⟩) 1 A] w fun V W=>∃N,V=.returned N/\HF (.slice (some ⟨c,0,none⟩) b.length d) (Ra b a [x]) w N W:=by
 rcases h.2 with⟨_,b8⟩|⟨b9,c0,i,e,U,t,c1,u,y,z⟩
 ·omega
 simp only[xJ,xX,yT,yG,yB]at e;obtain⟨rfl,rfl⟩:=e;have Z:d<=9223372036854775807:=by unfold maxLen at u;omega
 have a0:(a:Int)+1+((b.length-(a+1):Nat):Int)=(b.length:Int):=O_;have a1:a<=20000000:=O_;have a2:a<=d:=O_;have a3:(a:Int)+1<=(d:Int):=O_;have a4:a+1<=d:=O_;have a5:((a:Int)==(a:Int)+1)=false:=K_;have a6:((a:Int)+1==(b.length:Int))=false:=K_;have a7:(a:Int)+1<=(b.length:Int):=O_;have a8:a+1<=b.length:=O_;have a9:¬d=a+1:=O_;have b0:¬d=a:=O_;have b1:(0:Int)<=(a:Int)+1:=O_;have b2:a<=b.length:=O_;have b3:decide ((d:Int)<(b.length:Int))=false:=K_;have b4:IntKind.i64.wrap ((a:Int)+1)=(a:Int)+1:=by rw[yZ];omega
 have b5:IntKind.i64.wrap (b.length:Int)=(b.length:Int):=by rw[yZ];omega
 have b6:((a:Int)+1).toNat=a+1:=O_;have C:i.toList.length=d*2:=by simpa using y
 have n:(An (b.drop (a+1))).length=(b.length-(a+1))*2:=by rw[Bj,xY]
 have D:i.toList.take (a*2)=An (b.take a):=by rw[Ju _ _ O_,<-z,jO];congr 1;omega
 have O:=(xF B r rfl).2;have o:=Gf (P:=Tryz.prog) w.drew 121 121 3 132 2 c (a*2) (b.length-a) (d-a) r 0 1 A 1 i 132 (An [x]) jP S_ t (jL O_) (Bj [x]) (fun j m k=>by rw[zR];exact Td B j m k) (by rw[Bj,y];simp;omega) (Fp _);rw[Bj,D]at o;simp only[xH,yU]at o;rw[show a*2+(0+1)*2=(a+1)*2 by omega]at o;have g:(An (b.take a)).length=a*2:=by rw[Bj,xR];omega
 have F:(An (b.take a)++An [x]++i.toList.drop ((a+1)*2)).length=d*2:=by simp only[xC,xY,g,Bj,C,xH,yU];omega
 have G:(An (b.take a)++An [x]++i.toList.drop ((a+1)*2)).take ((a+1)*2)=An (b.take a)++An [x]:=by rw[show(a+1)*2=(An (b.take a)++An [x]).length by simp only[xC,g,Bj,xH,yU];omega,jB]
 have H:(An (b.take a)++An [x]++i.toList.drop ((a+1)*2)).drop ((a+1)*2)=i.toList.drop ((a+1)*2):=by
  conv=>lhs;rw[show(a+1)*2=(An (b.take a)++An [x]).length by simp only[xC,g,Bj,xH,yU];omega]
  rw[show(An (b.take a)++An [x]).length=(a+1)*2 by simp only[xC,g,Bj,xH,yU];omega];rw[bF,kB (by simp only[xC,g,Bj,xH,yU];omega),show(a+1)*2-(An (b.take a)++An [x]).length=0 by simp only[xC,g,Bj,xH,yU];omega];rfl
 generalize Y:An (b.take a)++An [x]++i.toList.drop ((a+1)*2)=f at*;have p:=Eg (w:=w.drew) t f;have l:=Cn w.drew c f.toArray;have I:∀j m,(An (b.drop (a+1)))[j]?=some m->(w.drew.setRow c f.toArray).drew.cell? ⟨c,(a+1)*2+j,none⟩=some m:=fun j m k=>by
  have b7:j<(b.length-(a+1))*2:=by rw[<-n];exact(jM.1 k).1
  have R:f[(a+1)*2+j]?=some m:=by
   rw[<-kZ,H,kZ];rw[Ru _ _ O_,kZ,<-z,qT]at k;split at k
   ·exact k
   ·cases k
  unfold World.cell?;rw[show(w.drew.setRow c f.toArray).drew.heap[c]?=some (.cells f.toArray 132 (0,0))from p];simpa using R
 have q:=Gf (P:=Tryz.prog) (w.drew.setRow c f.toArray).drew 121 121 3 132 2 c ((a+1)*2) (b.length-(a+1)) (d-(a+1)) c ((a+1)*2) (b.length-(a+1)) (d-(a+1)) (b.length-(a+1)) f.toArray 132 (An (b.drop (a+1))) jP S_ p (wN _) n I (by rw[n];simp;omega) (Fp _);rw[n,show(a+1)*2+(b.length-(a+1))*2=b.length*2 by omega]at q;simp only[G]at q;have J:Hid (HF (.slice (some ⟨c,0,none⟩) b.length d) (Ra b a [x]) w (.slice (some ⟨c,0,none⟩) b.length d) ((w.drew.setRow c f.toArray).drew.setRow c (An (b.take a)++An [x]++An (b.drop (a+1))++f.drop (b.length*2)).toArray)):=by
  refine⟨?_,?_,.inl rfl⟩
  ·unfold Bf;rw[Pd _ _ _ O_,show b.length-1+[x].length=b.length by simp;omega];refine Rt (Eg (w:=(w.drew.setRow c f.toArray).drew) p _) O_ u ?_ ?_ (by rw[Bj,Pd _ _ _ O_];simp;omega)
   ·simp only[xC,xY,g,Bj,F,xH,yU];omega
   ·rw[Uv,kE (by simp only[xC,g,Bj,xY,xH,yU];omega),yY (by simp only[xC,g,Bj,xY,xH,yU];omega)]
  ·have S:=Cn (w.drew.setRow c f.toArray).drew c (An (b.take a)++An [x]++An (b.drop (a+1))++f.drop (b.length*2)).toArray;exact SV (⟨l.os,l.tape,l.output,l.size,l.block⟩:w.grownBy (w.drew.setRow c f.toArray).drew (some c)) S
 have L:=Aa o;have M:=Aa q;clear o q p l I G H F Y D g n C O h B t y z u U;go_enter bY,cE;go_upto_region 9 with fail
 go_region_law (fail)
 all_goals
  go_upto_region 17 with fail;go_upto_region 18 with(refine Ab6 _ rfl (.tmp 95) (.tmp 96) 121 121 rfl _ _ rfl rfl _ _ L.o ?_)
  go_region_law (refine DK _ rfl (.tmp 103) (.tmp 106) 121 121 rfl _ _ (by simp[Act.eval,Act.put]) (by simp[Act.eval,Act.put]) _ _ M.o ?_)
  all_goals
   have s:=J.o;simp only[xT]at s;have T:=Aa s;clear s J L M;by_cases X:d=b.length
   case' pos=>subst X
   all_goals
    go_wp2_with (refine Ae9 _ rfl (.tmp 110) 121 rfl _ rfl _ _ (DW _ _ _ 132 _ _ jP) ?_);go_ret;exact⟨_,rfl,T.o⟩
