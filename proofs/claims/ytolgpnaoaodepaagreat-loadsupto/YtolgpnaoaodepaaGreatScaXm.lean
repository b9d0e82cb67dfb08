import Derived.Test.YtolgpnaoaodepaaGreatScaEm
set_option maxHeartbeats 2000000
set_option maxRecDepth 20000
namespace Go.Proofs.YtolgpnaoaodepaaGreat
open Go.RowKit Ld Tr
variable {b d k w W:World}{a c p h r:Nat}{f g q x:hJ}{s P:List Plc}{y:Plc}{n:Int}{i:hF}{z:Tr.Key->Option Tr.Key}{v:Value}{j:gY}{l:Option hE}
variable {A:hF}
theorem ZW(k:ScM b A a f g s d){t:ByteArray×Nat}{u:Tr.Key}{B:Option Tr.Key}{m:Tr.Ai h}(l:PlM b A d c t (.nd u p h B m))(y:(Plc.nd u p h B m).ok f.data.toList r)(n:s.length<=16000000)(F:r<=20000000000000)(o:∀i∈A,i<d.heap.size):
  Calls Tryz.prog 133 #[A_ a,A_ c] d fun j i=>j=R_ (.tuple #[])/\∃j,Scd f.data.toList (nodeCh h m) j/\ScM b A a f g (kidsFrom f.data.toList p B h m++(lay p u B j++s)) i/\Frm a d i:=by
 obtain⟨j,i,q,z⟩:=y
 cases h with
 | zero=>exact UP k l i n o
 | succ h=>
  obtain⟨C,D⟩:=m;exact UQ k l i (Ns q j.1) n O_ o
theorem ScM.more(h:ScM b A a g q P d)(L:d.heap.size<=p):ScM b (p::A) a g q P d:=by
 obtain⟨v,K,j,i⟩:=h;refine⟨v,K,j,i.hp,i.pm,fun x k=> ?_,i.bel,i.sbn,i.vn⟩;have:=i.pl x k;obtain⟨J,l⟩:=x
 cases l using Tr.Plc.two with
 | nd f j h' m t=>exact this
 | ch j f m c cs=>
  obtain⟨n,o,r,s,u,y,z,B,C,k,D,F,G,H⟩:=this;refine⟨n,o,r,s,u,y,z,B,C,k,D,F,fun I=> ?_,H⟩;rcases xG.1 I with e|e
  ·have:=(xS.1 k).1;omega
  ·exact G e
theorem PlM.less{g:ByteArray×Nat}(h:PlM b (p::A) d a g y):PlM b A d a g y:=by
 cases y using Tr.Plc.two with
 | nd f L h' m t=>exact h
 | ch L f m c cs=>
  obtain⟨i,j,k,l,n,o,q,r,s,u,z,B,C,D⟩:=h;exact⟨i,j,k,l,n,o,q,r,s,u,z,B,fun F=>C (xZ _ F),D⟩
theorem ScM.less(h:ScM b (c::A) a f g P d):ScM b A a f g P d:=by obtain⟨v,K,j,i⟩:=h;exact⟨v,K,j,i.hp,i.pm,fun x k=>(i.pl x k).less,i.bel,i.sbn,i.vn⟩
theorem ScM.set(h:ScM b A a g q P d){C:Array Value}(D:d.heap[c]?=some (.cells C 34 (0,0)))(Y:c∈A)(Z:b.heap.size<=c)(o:Mod (fun n=>n=c) d k):ScM b A a g q P k:=by
 obtain⟨v,K,r,i⟩:=h;have M:a≠c:=fun e=>by have:=i.hp.sc;unfold ScB at this;rw[e,D]at this;simp at this
 have N:v.ownBlock≠some c:=Eo D i.hp.row (by decide);have p:∀j l m s ch,PlB d j l m s ch->j≠c:=fun j l m s ch l e=>by unfold PlB at l;rw[e,D]at l;simp at l
 refine⟨v,K,r,⟨(o.block a i.hp.sc.lt M).trans i.hp.sc,Bx i.hp.row fun n m s=>o.block n s (fun e=>N (by rw[<-e];exact m)),fun j m=> ?_,i.hp.heap⟩,i.pm,fun x u=> ?_,i.bel.trans (o.below i.bel.size fun s e=>by rw[e];exact Z),i.sbn,i.vn⟩
 ·obtain⟨s,G,l⟩:=i.hp.pl j m;exact⟨s,G,(o.block j l.lt (p _ _ _ _ _ l)).trans l⟩
 ·have:=i.pl x u;obtain⟨j,u9⟩:=x
  cases u9 using Tr.Plc.two with
  | nd f r h' m' t=>
   obtain⟨y,z,u,O,m,B⟩:=this;exact⟨y,z,u,O,(o.block j m.lt (p _ _ _ _ _ m)).trans m,B⟩
  | ch r f m' G cs=>
   obtain⟨y,z,n,H,R,S,T,m,B,I,U,V,J,W⟩:=this;have F:=o.block n (xS.1 I).1 (fun e=>J (by rw[e];exact Y));exact⟨y,z,n,H,R,S,T,(o.block j m.lt (p _ _ _ _ _ m)).trans m,B,F.trans I,fun L s X=>(kK (w:=d) (a:=(Q_ n (H+L))) F).trans (U L s X),V,J,W⟩
theorem ChB.put(h:ChB w a n f x)(b:Int)(c d:hJ):ChB (((w.setCell (Q_ a 0) (J_ b)).setCell (Q_ a 1) (B_ c)).setCell (Q_ a 2) (B_ d)) a b c d:=by unfold ChB at*;have g:=Ak (i:=0) h (J_ b);have i:=Ak (i:=1) g (B_ c);have j:=Ak (i:=2) i (B_ d);rw[j];rfl
theorem Frm.set(h:Frm a b d)(p:b.heap.size<=c)(j:Mod (fun f=>f=c) d k):Frm a b k:=⟨xI h.1 j.size,fun f l m i n o=>by have g:=h.2 f l m i n o;have l:=(xS.1 i).1;exact(j.block f (xS.1 g).1 O_).trans g⟩
theorem WS{α β:Type}(c:α->β->Prop)(g:β->Nat):∃i:α->Nat,(∀b a,c b a->i b<=g a)/\∀b,(∃a,c b a)->∃a,c b a/\g a=i b:=by
 have h:∀b,∃f,(∀a,c b a->f<=g a)/\((∃a,c b a)->∃a,c b a/\g a=f):=fun b=>by
  by_cases m:∃a,c b a
  ·obtain⟨a,j⟩:=m;generalize p:g a=f
   induction f using Nat.strongRecOn generalizing a with
   | ind f ih=>
    by_cases n:∃d,c b d/\g d<f
    ·obtain⟨d,k,o⟩:=n;exact ih (g d) o d k rfl
    ·exact⟨f,fun d k=>aD fun l=>n ⟨d,k,l⟩,fun _=>⟨a,j,p⟩⟩
  ·exact⟨0,fun a j=>absurd ⟨a,j⟩ m,fun l=>absurd l m⟩
 obtain⟨i,l⟩:=Classical.skolem.1 h;exact⟨i,fun b=>(l b).1,fun b=>(l b).2⟩
structure NxI(w0:World)(A:hF)(sb:Nat)(fr ub:hJ)(D:Nat)(P:List Plc)(W wr:World)(P1:List Plc):Prop where
 op:Io fr.data.toList D P P1
 wt:wtP P1<=wtP P
 sc:ScM w0 A sb fr ub P1 wr
 frm:Frm sb W wr
def NxQ(w0:World)(A:hF)(sb:Nat)(fr ub:hJ)(D:Nat)(P:List Plc)(W:World)(r:Ending)(W':World):Prop:=
 (∃k key x P',r=R_ (.tuple #[.agg #[J_ k,B_ key,B_ x],.bool true])/\GD fr.data.toList ub.data.toList D P (chP k key x) P'/\wtP P'<=wtP P/\ScM w0 A sb fr ub P' W'/\Frm sb W W')\/
 (∃k key x,r=R_ (.tuple #[.agg #[J_ k,B_ key,B_ x],.bool false])/\GE fr.data.toList ub.data.toList D P/\Below w0.heap.size w0 W'/\Frm sb W W')
theorem NxI.pop(h:NxI b A a f g c P d w s){i:List Plc}(j:s.Perm (y::i)):Io f.data.toList c P (y::i)/\wtP (y::i)<=wtP P:=⟨h.op.perm j,by rw[<-Ad2 j];exact h.wt⟩
theorem Zf(c4:ScM b A a g q P k)(n5:Rb g.data.toList p P)(n6:wtP P<=1800000)(n7:p<=20000000000000)(n8:∀b4∈A,b4<k.heap.size):
  Calls Tryz.prog 68 #[A_ a] k (NxQ b A a g q p P k):=by
 obtain⟨g6,g7,g8⟩:=WS (NxI b (k.heap.size::A) a g q p P k) Tr.size;have i6:=Aa g7;have i7:=Aa g8;have c5:Below k.heap.size k (k.alloc (C_ #[J_ 0,B_ ⟨#[]⟩,B_ ⟨#[]⟩] 34)):=(xA _ k).alloc X_ _;have f0:Hid (ChB (k.alloc (C_ #[J_ 0,B_ ⟨#[]⟩,B_ ⟨#[]⟩] 34)) k.heap.size 0 ⟨#[]⟩ ⟨#[]⟩):=xK _ _;have i8:Hid (NxI b (k.heap.size::A) a g q p P k (k.alloc (C_ #[J_ 0,B_ ⟨#[]⟩,B_ ⟨#[]⟩] 34)) P):=⟨Io.start n5,X_,(c4.more X_).below c5,Frm.below c5⟩;have c6:Hid (a<k.heap.size):=by obtain⟨v,l2⟩:=c4.sc;exact l2.lt
 have c7:Hid (b.heap.size<=k.heap.size):=c4.bel.size;clear g7 g8 c4 c5;go_in;go_wp2_with fail
 go_loopw [4] (fun _ wr=>(∃M,NxI b (k.heap.size::A) a g q p P k wr M)/\ChB wr k.heap.size 0 ⟨#[]⟩ ⟨#[]⟩) (fun _ wr=>g6 wr)
 case atStart=>exact⟨⟨P,i8.o⟩,f0.o⟩
 case round=>
  obtain⟨hrel,Z⟩:=hrel;obtain⟨M,hI,g9⟩:=i7.o wr hrel;have V:=Aa hI;have i9:=Aa g9;obtain⟨p3,N,p4,a0⟩:=hI.sc;have b6:=Aa a0;obtain⟨p5,p6,rfl⟩:=Ad a0.hp.row;obtain⟨l3,l4,d7,l5⟩:=a0.hp.sc.cells;rw[xP,a0.len]at d7;have n9:M.length<=1800000:=xI (MR hI.op.inv.ok) (xI hI.wt n6);have c8:=Aa Z;have c9:=Aa hI.frm;obtain⟨d8,d9,e0⟩:=Z.cells;obtain⟨l6,l7,l8⟩:=(show wr.frozen? (Q_ k.heap.size 0)=false/\wr.frozen? (Q_ k.heap.size 1)=false/\wr.frozen? (Q_ k.heap.size 2)=false by unfold ChB at Z;refine⟨?_,?_,?_⟩<;>simp[World.frozen?,Z])
  clear hI a0 hrel Z g9 f0;by_cases i5:M.length=0
  ·have j0:M=[]:=zT i5;rw[i5]at d7;have d0:Hid (GE g.data.toList q.data.toList p P):=by
    have:=V.o.op;rw[j0]at this;exact this.none
   have o:=Mod.set3 wr k.heap.size 0 (J_ 0) (B_ ⟨#[]⟩) (B_ ⟨#[]⟩);have d1:Hid (Below b.heap.size b (((wr.setCell (Q_ k.heap.size 0) (J_ 0)).setCell (Q_ k.heap.size 1) (B_ ⟨#[]⟩)).setCell (Q_ k.heap.size 2) (B_ ⟨#[]⟩))):=V.o.sc.bel.trans (o.below V.o.sc.bel.size fun m7 e=>by rw[e];exact c7.o);have W:=Aa (c9.o.set X_ o);have X:=Aa (c8.o.put 0 ⟨#[]⟩ ⟨#[]⟩);clear o;go_wp2_with fail;obtain⟨a1,a2,a3⟩:=X.o.cells;refine yS (v:=.tuple #[.agg #[J_ 0,B_ ⟨#[]⟩,B_ ⟨#[]⟩],.bool false]) ?_ rfl (.inr ⟨0,⟨#[]⟩,⟨#[]⟩,rfl,d0.o,d1.o,W.o⟩);simp[results,go_sem,a1,a2,a3]
  ·have o0:(0:Int)<(M.length:Int):=O_;have f1:=Aa (Ag6 b6.o (by rw[b6.o.len];omega) (by rw[b6.o.len];omega));have j1:=fun m8 (m9:Nat)=>QS (P_ m9) m8
   go_wp2_with fail;refine f1.o.mono ?_;rintro T i ⟨y,b2,H,m5,m6,rfl,e2,i4,e3,e4,e5⟩;have o1:=j1 i y;obtain⟨h1,h2⟩:=V.o.pop e2;have O:=Aa h1;have d2:=Aa h2;have f2:=Aa i4;have C:Hid (ScM b (k.heap.size::A) a g q H i):=⟨m5,N,m6,e3⟩;have d3:=Aa e4;have d4:=Aa (c9.o.trans e5);have f3:ChB i k.heap.size 0 ⟨#[]⟩ ⟨#[]⟩:=e5.2 _ _ _ c8.o Do (by have:=c6.o;omega);have R:=Aa f3;have j2:Hid (∀e7,Tr.size e7<Tr.size (b2::H)->Tr.size e7<g6 wr):=fun e7 h=>by rw[<-i9.o,Ze e2];exact h
   obtain⟨⟨p7,ch,h3⟩,h4,l9⟩:=e4.plb;obtain⟨c1,c2,c3,a4⟩:=h3.cells;obtain⟨m0,m1,m2,m3⟩:=e3.hp.sc.cells;have f4:=Aa h4;clear e2 i4 e3 e4 e5 f3 h1 h2 h3 h4 l9 l3 l4 d7 l5 d8 d9 e0 l6 l7 l8 f1 b6 V c9 c8;have j3:Hid (q.data.toList=[]\/(q.data.toList≠[]/\(N y).1.data.toList<q.data.toList)\/(q.data.toList≠[]/\¬(N y).1.data.toList<q.data.toList)):=by
    by_cases r:q.data.toList=[]
    ·exact .inl r
    ·by_cases I:(N y).1.data.toList<q.data.toList
     ·exact .inr (.inl ⟨r,I⟩)
     ·exact .inr (.inr ⟨r,I⟩)
   have o2:decide (0<M.length)=true:=xQ O_;obtain⟨d8,d9,e0⟩:=R.o.cells;have o3:∀j,i.frozen? (Q_ k.heap.size j)=false:=fun j=>by have:=R.o;unfold ChB at this;simp[World.frozen?,this]
   have o4:H.length<=1800000:=(by have J:=MR O.o.inv.ok;have Y:=d2.o;rw[xH]at J;omega);have j4:∀b4∈k.heap.size::A,b4<i.heap.size:=fun b4 n0=>by
    have:=R.o.lt;rcases xG.1 n0 with e|e
    ·omega
    ·have:=n8 b4 e;omega
   rcases j3.o with r|⟨r,I⟩|⟨r,I⟩
   case inr.inr=>
    have b7:Hid (¬Oq q.data.toList b2.key):=fun e8=>e8.elim r (fun e8=>I (by rw[f4.o];exact e8))
    have f5:(q.toList==[])=false:=(by rw[Af];simpa using r);have j5:Op.bytesLess (N y).1.toList q.toList=false:=(by rw[Af,Af,Cj];exact xN I);have d0:=Aa (O.o.stop f2.o b7.o);go_upto_region 3 with fail;go_quiet (fail);have u:Below i.heap.size i (i.drewN nq):=Ao (xA _ i) nq;have o:=Mod.set3 (i.drewN nq) k.heap.size 0 (J_ 0) (B_ ⟨#[]⟩) (B_ ⟨#[]⟩);have d1:Hid (Below b.heap.size b ((((i.drewN nq).setCell (Q_ k.heap.size 0) (J_ 0)).setCell (Q_ k.heap.size 1) (B_ ⟨#[]⟩)).setCell (Q_ k.heap.size 2) (B_ ⟨#[]⟩))):=(C.o.bel.trans (u.mono C.o.bel.size)).trans (o.below (xI C.o.bel.size u.size) fun m7 e=>by rw[e];exact c7.o);have W:=Aa ((d4.o.trans (Frm.below u)).set X_ o);have X:Hid (ChB ((((i.drewN nq).setCell (Q_ k.heap.size 0) (J_ 0)).setCell (Q_ k.heap.size 1) (B_ ⟨#[]⟩)).setCell (Q_ k.heap.size 2) (B_ ⟨#[]⟩)) k.heap.size 0 ⟨#[]⟩ ⟨#[]⟩):=ChB.put (w:=i.drewN nq) R.o 0 ⟨#[]⟩ ⟨#[]⟩;clear o u;go_wp2_with fail;obtain⟨a1,a2,a3⟩:=X.o.cells;refine yS (v:=.tuple #[.agg #[J_ 0,B_ ⟨#[]⟩,B_ ⟨#[]⟩],.bool false]) ?_ rfl (.inr ⟨0,⟨#[]⟩,⟨#[]⟩,rfl,d0.o,d1.o,W.o⟩);simp[results,go_sem,a1,a2,a3]
   case' inl=>
    have b7:Hid (Oq q.data.toList b2.key):=.inl r;have f5:(q.toList==[])=true:=(by rw[Af];simpa using r);go_upto_region 3 with fail;go_quiet (fail)
   case' inr.inl=>
    have b7:Hid (Oq q.data.toList b2.key):=.inr (by rw[<-f4.o];exact I);have f5:(q.toList==[])=false:=(by rw[Af];simpa using r);have j5:Op.bytesLess (N y).1.toList q.toList=true:=(by rw[Af,Af,Cj];exact xQ I);go_upto_region 3 with fail;go_quiet (fail)
   all_goals
    have u:Below i.heap.size i (i.drewN nq):=Ao (xA _ i) nq;clear c1 c2 c3 a4
    cases b2 using Tr.Plc.two with
    | nd f L h m t=>
     obtain⟨J,Y,p8,p9,D,a5⟩:=d3.o;obtain⟨c1,c2,c3,a4⟩:=D.cells;obtain⟨h5,F⟩:=C.o.sc;have f6:=Aa (ZW (C.o.below u) (d3.o.frm F (Frm.below u)) (O.o.inv.ok _ (xU ..)) O_ n7 j4);have j6:=Aa (O.o.inv.ok _ (xU ..));clear J Y D a5 F;go_wp2_with fail;refine f6.o.mono ?_;rintro T z ⟨rfl,B,e6,b3,U⟩;obtain⟨h6,h7⟩:=O.o.open' e6;have f7:Hid (NxI b (k.heap.size::A) a g q p P k z (kidsFrom g.data.toList L m h t++(lay L f m B++H))):=⟨h6,xI (Ad3 j6.o e6) d2.o,b3,(d4.o.trans (Frm.below u)).trans U⟩;have j7:Hid (ChB z k.heap.size 0 ⟨#[]⟩ ⟨#[]⟩):=U.2 _ _ _ R.o Do (by have:=c6.o;omega);have j8:=Aa (fA (i6.o z _ f7.o) (j2.o _ h7));clear e6 b3 U h6 h7 f6;go_wp2_with fail;exact⟨⟨⟨_,f7.o⟩,j7.o⟩,j8.o⟩
    | ch L f m c B=>
     obtain⟨J,Y,l,j,s,h8,m4,D,a5,a6,a7,e1,h9,i0⟩:=d3.o;obtain⟨G,n,rfl⟩:∃G n,h8=G::n:=by
      cases h8 with
      | nil=>cases a5
      | cons G T=>exact⟨G,T,rfl⟩
     have j9:(G.1,G.2.1.data.toList,G.2.2.data.toList)=c/\Ac n=B:=(by have:=bE a5;exact⟨this.1,this.2⟩);obtain⟨i1,i2⟩:=j9;obtain⟨c1,c2,c3,a4⟩:=D.cells;obtain⟨a8,a9,b0⟩:=G;have d5:=a7 0 _ rfl;have f8:=a7 1 _ rfl;have f9:=a7 2 _ rfl;rw[jW]at d5;have b8:Below i.heap.size i (i.drewN nq).drew:=u.drew;obtain⟨b1,q0,i3⟩:∃b1:Addr,(if s=1 then some ((Q_ l j):Addr)else some (Q_ l (j+3)))=some b1/\(¬s=1->b1=(Q_ l (j+3))):=by
      by_cases e:s=1
      ·exact⟨_,xD e,fun n1=>absurd e n1⟩
      ·exact⟨_,xB e,fun _=>rfl⟩
     have d6:=b8.block l (xS.1 a6).1;rw[xH]at e1 i0 a4;have g0:Ag7 (k.heap.size::A) (i.drewN nq).drew (L_ (some b1) n.length (s-1)) n:=by
      by_cases e:s=1
      ·have k0:n=[]:=zT O_;subst k0;exact .inl ⟨rfl,_,_,rfl⟩
      ·rw[i3 e]
       cases n with
       | nil=>exact .inl ⟨rfl,_,_,rfl⟩
       | cons d T=>exact .inr ⟨D_,l,j+3,s-1,m4,rfl,by rw[xH]at e1⊢;omega,d6.trans a6,h9,fun b5 n2 n3=>(kK (w:=i) (a:=(Q_ l (j+3+b5))) d6).trans (by have:=a7 (3+b5) n2 (by show(J_ a8::Value.string a9::Value.string b0::Cd (d::T))[3+b5]?=_;rw[show 3+b5=b5+3 by omega];exact n3);rw[<-aC]at this;exact this)⟩
     have k1:=Aa (QX (C.o.below b8) L f m (L_ (some b1) n.length (s-1)) n g0 O_ O_);have k2:Hid (∀e9,e9.Perm (lay L f m B++H)->GD g.data.toList q.data.toList p P c e9):=fun e9 n4=>O.o.take f2.o b7.o n4
     have k3:Hid (wtP (lay L f m B++H)<=wtP P):=(by show _<=_;have J:=d2.o;rw[Xr]at J;rw[Vf];have Y:=(WP L f m B).2;have D:(Plc.ch L f m c B).wt=1:=rfl;omega);have k4:=Aa i1;have k5:=Aa i2;have k6:=Aa (d4.o.trans (Frm.below b8));have g1:=Aa a6;have k7:=Aa D;have k8:l≠a:=fun e=>by obtain⟨h5,F⟩:=C.o.sc;unfold ScB at F;rw[<-e,a6]at F;simp at F
     have k9:y≠a:=(by obtain⟨h5,F⟩:=C.o.sc;exact D.ne F);have o5:(1:Int)<=(n.length:Int)+1:=O_;have o6:1<=n.length+1:=O_;have o7:1<=s:=O_;have o8:n.length+1<=s:=e1;clear g0 d6 J Y D a5 a6 a7 h9 i0 i1 i2 i3 b8;go_upto_region 5 with fail
     go_region_law (go_simp;go_at_call 132;refine k1.o.mono ?_;rintro T z ⟨rfl,b3,U⟩;have l0:=Aa b3;have b9:=Aa U;clear b3 U)
     all_goals
      have S:ChB z k.heap.size 0 ⟨#[]⟩ ⟨#[]⟩:=b9.o.2 _ _ _ R.o Do (by have:=c6.o;omega);have g2:PlB z y (N y).1 L none (L_ (some (Q_ l j)) (n.length+1) s):=b9.o.2 _ _ _ k7.o Do k9;have g3:=b9.o.2 _ _ _ g1.o Do k8;have c0:z.heap[l]?=i.heap[l]?:=g3.trans g1.o.symm;have o9:=(kK (w:=i) (a:=(Q_ l j)) c0).trans d5;have p0:=(kK (w:=i) (a:=(Q_ l (j+1))) c0).trans f8;have p1:=(kK (w:=i) (a:=(Q_ l (j+2))) c0).trans f9;obtain⟨q1,q2,q3,q4⟩:=g2.cells;obtain⟨q5,q6,q7⟩:=S.cells;have p2:∀j,z.frozen? (Q_ k.heap.size j)=false:=fun j=>by unfold ChB at S;simp[World.frozen?,S]
      have o:=Mod.set3 z k.heap.size 0 (J_ a8) (B_ a9) (B_ b0);have X:=Aa (S.put a8 a9 b0);have l1:=Aa ((l0.o.set S (xU ..) c7.o o).less);have W:=Aa ((k6.o.trans b9.o).set X_ o);clear S g2 g3 c0 o d5 f8 f9 c1 c2 c3 a4 d8 d9 e0 m0 m1 m2 m3;go_wp2_with fail;obtain⟨a1,a2,a3⟩:=X.o.cells;have g4:=l1.o;rw[k5.o]at g4;have g5:=k2.o (lay L f m B++H) (vP _);rw[<-k4.o]at g5;refine yS (v:=.tuple #[.agg #[J_ a8,B_ a9,B_ b0],.bool true]) ?_ rfl (.inl ⟨a8,a9,b0,lay L f m B++H,rfl,g5,k3.o,g4,W.o⟩);simp[results,go_sem,a1,a2,a3]
theorem UR{m:Tr.Ai h}(c:ML z a h m)(f:Tr.Key):Rb f (h+1) [.nd [] 0 h none m]/\(∀b,z b=Tr.Av (Tr.left (h+1) [.nd [] 0 h none m] b) b none)/\wtP [.nd [] 0 h none m]<=2*a:=by
 refine⟨⟨fun d d=> ?_,bL ..⟩,fun b=> ?_,?_⟩
 ·rw[yR.1 d];exact⟨c.wf,c.top,Kr,O_⟩
 ·rw[<-c.val b,WK h c.wf (Qn b)];congr 1;refine Lk fun d _=> ?_
  show _=(if d<0 then[]else Tr.lev h m (d-0) b)++[];rw[xB O_,yC];rfl
 ·show Tr.wt h m+0<=2*a;exact c.wt
theorem Ad5{m:Tr.Ai h}(n:ScB b a f g (L_ (P_ p) 1 1))(o:b.heap[p]?=some (C_ #[A_ c] 137 (0,0)))(q:b.heap[c]?=some (C_ #[B_ ⟨#[]⟩,J_ 0,A_ r,Z_] 139 (0,0)))(s:Rep h w r m i)(t:Below w.heap.size w b)(u:w.heap.size<=a)(y:w.heap.size<=p):ScM w [] a f g [.nd [] 0 h none m] b:=by have j:Ea 0 b (L_ (P_ p) 1 1) [c]:=⟨rfl,.inr ⟨p,1,#[A_ c],rfl,Y_,o,X_,by unfold maxLen;omega,D_,by simp[Gj]⟩⟩;have d:PlB b c ⟨#[]⟩ 0 (P_ r) Z_:=q;refine⟨L_ (P_ p) 1 1,fun _=>(⟨#[]⟩,0),[(c,.nd [] 0 h none m)],⟨n,j,fun k k=>by rw[yR.1 k];exact⟨_,_,d⟩,fun k h0 k=>by simp at k;omega⟩,vP _,fun x k=>by rw[yR.1 k];exact⟨rfl,rfl,r,i,d,s⟩,t,u,fun k l=>by have:p=k:=xM l;omega⟩
theorem ScM.keepT(h:ScM b i a g q P d)(l:∀(c:Nat) (y:Array Value) (j:TypeId),d.heap[c]?=some (.cells y j (0,0))->(j=143\/j=139\/j=137\/j=34)->k.heap[c]?=d.heap[c]?)(T:Below b.heap.size d k):ScM b i a g q P k:=by
 obtain⟨v,K,n,j⟩:=h;have H:∀c,v.ownBlock=some c->k.heap[c]?=d.heap[c]?:=fun c m=>by
  rcases j.hp.row.2 with⟨rfl,_⟩|⟨O,D,U,rfl,_,R,_⟩
  ·simp[Value.ownBlock]at m
  ·have e:O=c:=xM m;subst e;exact l _ _ _ R (.inr (.inr (.inl rfl)))
 refine⟨v,K,n,⟨(l _ _ _ j.hp.sc (.inl rfl)).trans j.hp.sc,Bx j.hp.row fun c m _=>H c m,fun B m=> ?_,j.hp.heap⟩,j.pm,fun x p=> ?_,j.bel.trans T,j.sbn,j.vn⟩
 ·obtain⟨o,z,A⟩:=j.hp.pl B m;exact⟨o,z,(l _ _ _ A (.inr (.inl rfl))).trans A⟩
 ·have:=j.pl x p;obtain⟨B,p9⟩:=x
  cases p9 using Tr.Plc.two with
  | nd f n h' m' t=>
   obtain⟨r,s,p,I,m,u⟩:=this;exact⟨r,s,p,I,(l _ _ _ m (.inr (.inl rfl))).trans m,u⟩
  | ch n f m' z y=>
   obtain⟨r,s,c,C,D,J,L,m,u,F,M,N⟩:=this;have y:=l _ _ _ F (.inr (.inr (.inr rfl)));exact⟨r,s,c,C,D,J,L,(l _ _ _ m (.inr (.inl rfl))).trans m,u,y.trans F,fun G o S=>(kK (w:=d) (a:=(Q_ c (C+G))) y).trans (M G o S),N⟩
theorem ScM.mod(h:ScM b i a f g P d){F:Nat->Prop}(n:Mod F d k)(q:∀(c:Nat) (l:Array Value) (j:TypeId),d.heap[c]?=some (.cells l j (0,0))->F c->j=136\/j=51)(r:∀c,F c->b.heap.size<=c):ScM b i a f g P k:=by refine h.keepT (fun c l j m o=>n.block c (xS.1 m).1 fun p=> ?_) (n.below h.bel.size r);rcases q c l j m p with e|e<;>subst e<;>revert o<;>decide
structure ScR(w:World)(v:Value)(il:gY)(s:Option hE)(W:World):Prop where
 row:Ap w.heap.size W v il
 st:StB W w.heap.size (stV s) (stB s)
 bel:Below w.heap.size w W
theorem ScR.frm(h:ScR w v j l b)(g:Frm a b d)(n:Below w.heap.size w d)(o:∀c:Array Value,b.heap[a]?≠some (.cells c 51 (0,0)))(p:a≠w.heap.size):ScR w v j l d:=by
 refine⟨Bx h.row fun m f c=> ?_,g.2 _ _ _ h.st (by decide) (fun e=>p e.symm),n⟩;rcases h.row.2 with⟨rfl,_⟩|⟨i,q,k,rfl,_,c9,_⟩
 ·simp[Value.ownBlock]at f
 ·have e:i=m:=xM f;subst e;exact(g.2 _ _ _ c9 (by decide) (fun e=>o k (by rw[<-e];exact c9))).trans c9.symm
theorem ScR.below(h:ScR w v j l W)(a:Below W.heap.size W b):ScR w v j l b:=⟨Ae h.row a X_,(a.block _ h.st.lt).trans h.st,h.bel.trans (a.mono h.bel.size)⟩
structure HS(w:World)(sb:Nat)(fr ub:hJ)(P:List Plc)(cb:Nat)(k:Int)(key x:hJ)(v:Value)(il:gY)(s:Option hE)(W:World):Prop where
 r:ScR w v il s W
 c:ChB W cb k key x
 m:ScM w [cb] sb fr ub P W
theorem HS.below(h:HS w a f g P c n q x v j l W)(d:Below W.heap.size W b):HS w a f g P c n q x v j l b:=⟨h.r.below d,(d.block _ h.c.lt).trans h.c,h.m.below d⟩
theorem HS.put(h:HS w a f g P c n q x v j l b)(d:Option hE):HS w a f g P c n q x v j d ((b.setCell (Q_ w.heap.size 0) (B_ (stV d))).setCell (Q_ w.heap.size 1) (.bool (stB d))):=by
 have p:=Mod.setCell b w.heap.size 0 (B_ (stV d));have r:=Mod.setCell (b.setCell (Q_ w.heap.size 0) (B_ (stV d))) w.heap.size 1 (.bool (stB d));have m:Mod (fun o=>o=w.heap.size) b ((b.setCell (Q_ w.heap.size 0) (B_ (stV d))).setCell (Q_ w.heap.size 1) (.bool (stB d))):=p.trans r (fun _ _ i=>i) (fun _ _ i=>i);have i:=h.r.st;refine⟨⟨m.row h.r.row (fun o k e=>Eo i h.r.row Do (by rw[<-e];exact k)),i.put _ _,h.r.bel.trans (m.below h.r.bel.size fun n e=>O_)⟩,(m.block c h.c.lt (fun e=> ?_)).trans h.c,h.m.mod m (fun o s s k e=> ?_) (fun o e=>O_)⟩
 ·have:=h.c;unfold ChB at this;unfold StB at i;rw[e,i]at this;simp at this
 ·unfold StB at i;rw[e,i]at k;simp at k;exact .inl k.2.symm
theorem HS.app{H:Value}{G:gY}(h:HS w a f g P c n q x v j l b)(p:Ap w.heap.size d H G)(r:Below w.heap.size b d)(s:b.grownBy d v.ownBlock):HS w a f g P c n q x H G l d:=by
 have i:=Mod.of_grown s;refine⟨⟨p,(i.block _ h.r.st.lt (Eo h.r.st h.r.row Do)).trans h.r.st,h.r.bel.trans r⟩,(i.block c h.c.lt (Eo h.c h.r.row Do)).trans h.c,h.m.mod i (fun k m m o e=> ?_) (fun k e=>(xF h.r.row k e).1)⟩;by_cases k:m=51
 ·exact .inr k
 ·exact absurd e (Eo o h.r.row (fun m=>k m.symm))
def SlI(w:World)(V:Tr.Key->Option Tr.Key)(fr ub:hJ)(D N sb C:Nat)(a:Value×Value×Value×Value×World)(P:List Plc):Prop:=
 ∃kb il s cb q k key x,a.2.1=B_ kb/\a.2.2.1=A_ cb/\a.2.2.2.1=.bool q/\ScR w a.1 il s a.2.2.2.2/\ChB a.2.2.2.2 cb k key x/\w.heap.size<cb/\ScI V fr.data.toList ub.data.toList D (Ab il) kb.data.toList s P/\il.length+Tr.cnt P<=C/\
  (q=true->∃P',GD fr.data.toList ub.data.toList D P (chP k key x) P'/\ScM w [cb] sb fr ub P' a.2.2.2.2/\wtP P'<=N)/\(q=false->GE fr.data.toList ub.data.toList D P)
theorem AO(a:gY)(b:hJ)(c:Option hE):Ab (Tq a b c)=Ue (Ab a) b.data.toList c:=TY a b c
theorem Ad6(a:gY)(c:hJ)(b:Option hE):(Tq a c b).length<=a.length+1:=by cases b<;>simp[Tq]
theorem NxQ.uni{I:Ending}(h:NxQ b i a f g c P d I k):∃j l x n,I=R_ (.tuple #[.agg #[J_ j,B_ l,B_ x],.bool n])/\(n=true->∃m,GD f.data.toList g.data.toList c P (chP j l x) m/\ScM b i a f g m k/\wtP m<=wtP P)/\(n=false->GE f.data.toList g.data.toList c P)/\Below b.heap.size b k/\Frm a d k:=by
 rcases h with⟨j,l,x,m,o,p,q,n,r⟩|⟨j,l,x,o,p,q,n⟩
 ·exact⟨j,l,x,true,o,fun _=>⟨m,p,n,q⟩,fun e=>absurd e D_,n.bel,r⟩
 ·exact⟨j,l,x,false,o,fun e=>absurd e D_,fun _=>p,q,n⟩
theorem ScM.noItem(h:ScM b i a f g P d):∀c:Array Value,d.heap[a]?≠some (.cells c 51 (0,0)):=fun c e=>by obtain⟨v,c⟩:=h.sc;unfold ScB at c;rw[c]at e;simp at e
theorem US{m:Tr.Ai h}(f g:hJ)(A:Rep h w a m i):
  ScM w [] (w.heap.size+1+1+1) f g [.nd [] 0 h none m] ((((w.alloc (C_ #[B_ ⟨#[]⟩,.bool false] 136)).alloc (C_ #[B_ ⟨#[]⟩,J_ 0,A_ a,Z_] 139)).alloc (C_ #[A_ (w.heap.size+1)] 137)).alloc (C_ #[B_ f,B_ g,L_ (P_ (w.heap.size+1+1)) 1 1] 143))/\ScR w Z_ [] none ((((w.alloc (C_ #[B_ ⟨#[]⟩,.bool false] 136)).alloc (C_ #[B_ ⟨#[]⟩,J_ 0,A_ a,Z_] 139)).alloc (C_ #[A_ (w.heap.size+1)] 137)).alloc (C_ #[B_ f,B_ g,L_ (P_ (w.heap.size+1+1)) 1 1] 143)):=by
 have t:=xK w (C_ #[B_ ⟨#[]⟩,.bool false] 136);have u:Below w.heap.size w (w.alloc (C_ #[B_ ⟨#[]⟩,.bool false] 136)):=(xA _ w).alloc X_ _;have k:(w.alloc (C_ #[B_ ⟨#[]⟩,.bool false] 136)).heap.size=w.heap.size+1:=D_;generalize w.alloc (C_ #[B_ ⟨#[]⟩,.bool false] 136)=b at*;have n:=xK b (C_ #[B_ ⟨#[]⟩,J_ 0,A_ a,Z_] 139);have o:Below b.heap.size b (b.alloc (C_ #[B_ ⟨#[]⟩,J_ 0,A_ a,Z_] 139)):=(xA _ b).alloc X_ _;have p:(b.alloc (C_ #[B_ ⟨#[]⟩,J_ 0,A_ a,Z_] 139)).heap.size=b.heap.size+1:=D_;generalize b.alloc (C_ #[B_ ⟨#[]⟩,J_ 0,A_ a,Z_] 139)=c at*;have q:=xK c (C_ #[A_ (w.heap.size+1)] 137);have l:Below c.heap.size c (c.alloc (C_ #[A_ (w.heap.size+1)] 137)):=(xA _ c).alloc X_ _;have y:(c.alloc (C_ #[A_ (w.heap.size+1)] 137)).heap.size=c.heap.size+1:=D_;generalize c.alloc (C_ #[A_ (w.heap.size+1)] 137)=d at*;have r:=xK d (C_ #[B_ f,B_ g,L_ (P_ (w.heap.size+1+1)) 1 1] 143);have j:Below d.heap.size d (d.alloc (C_ #[B_ f,B_ g,L_ (P_ (w.heap.size+1+1)) 1 1] 143)):=(xA _ d).alloc X_ _;generalize d.alloc (C_ #[B_ f,B_ g,L_ (P_ (w.heap.size+1+1)) 1 1] 143)=z at*;have s:Below w.heap.size w z:=((u.trans (o.mono O_)).trans (l.mono O_)).trans (j.mono O_);rw[y,p,k]at r;rw[p,k]at q;rw[k]at n;refine⟨Ad5 r ((j.block _ O_).trans q) ((j.block _ O_).trans ((l.block _ O_).trans n)) A s O_ O_,yP _ _ _ _,(j.block _ O_).trans ((l.block _ O_).trans ((o.block _ O_).trans t)),s⟩
theorem KB(z:Tr.Key->Option Tr.Key)(N i7:Nat)(m6:hF)(k l:hJ)(w:World)(m7:Eh z N i7 m6 w)(i8:N<=900000):
  Calls Tryz.prog 39 #[A_ i7,B_ k,B_ l] w fun G i4=>∃v d,G=R_ v/\Ap w.heap.size i4 v d/\Below w.heap.size w i4/\Tr.Cb (Ab d)/\∀c,(¬c<k.data.toList/\Oq l.data.toList c->Ce (Ab d) c=z c)/\(¬(¬c<k.data.toList/\Oq l.data.toList c)->Ce (Ab d) c=none):=by
 obtain⟨h,n0,c8,n1,B⟩:=m7;obtain⟨n2,n3⟩:=B.tb.cells;have m8:=B.tb.lt;obtain⟨c9,f7,k1⟩:=UR B.root k.data.toList;obtain⟨d0,f8⟩:=US k l B.rep;have i9:Tr.cnt [.nd [] 0 h none c8]<=28800000:=by have e7:=WO h B.root.wf B.root.top;have b1:=B.root.wt;show HR h c8+0<=_;omega
 have j0:=Aa (ScI.start (ub:=l.data.toList) c9 fun c _=>f7 c);have O:=Aa (Zf d0 c9 O_ O_ (fun i5 a9=>by cases a9));have j1:=Aa f8;have j2:=Aa d0;clear c9 f7 d0 f8 B;generalize n7:[Plc.nd [] 0 h none c8]=i6 at*;obtain⟨k2,f9,g0⟩:=WS (SlI w z k l (h+1) (2*N) (w.heap.size+1+1+1) 28800000) Tr.size;have e8:=Aa f9;have j3:=Aa g0;clear f9 g0;go_in;go_wp2_with fail;refine O.o.mono ?_;rintro G M F;obtain⟨c,d1,x,g1,rfl,C,D,g2,g3⟩:=F.uni;have c1:=j1.o.frm g3 g2 j2.o.noItem O_;have q:Below M.heap.size M (M.alloc (C_ #[J_ c,B_ d1,B_ x] 34)):=(xA _ M).alloc X_ _;have j4:Hid (SlI w z k l (h+1) (2*N) (w.heap.size+1+1+1) 28800000 (Z_,B_ ⟨#[]⟩,A_ M.heap.size,.bool g1,M.alloc (C_ #[J_ c,B_ d1,B_ x] 34)) i6):=
  ⟨⟨#[]⟩,[],none,M.heap.size,g1,c,d1,x,rfl,rfl,rfl,c1.below q,xK _ _,c1.st.lt,j0.o,by simpa using i9,fun e=>by obtain⟨p,e7,b1,f5⟩:=C e;exact⟨p,e7,(b1.more X_).below q,xI f5 k1⟩,D⟩
 clear C D g2 g3 c1 q F O;go_wp2_with fail
 go_loopw [7,8,11,12] (fun e2 e3 e4 e5 wr=>∃P,SlI w z k l (h+1) (2*N) (w.heap.size+1+1+1) 28800000 (e2,e3,e4,e5,wr) P) (fun e2 e3 e4 e5 wr=>k2 (e2,e3,e4,e5,wr))
 case atStart=>exact⟨i6,j4.o⟩
 case round=>
  obtain⟨n4,hI,g4⟩:=j3.o _ hrel;clear hrel;obtain⟨g,d,j,k3,g5,i,b,f,c2,c3,c4,g6,g7,n5,g8,n6,g9,h1⟩:=hI;have c2:u8=B_ g:=c2;have c3:u11=A_ k3:=c3;have c4:u12=.bool g5:=c4;subst c2 c3 c4;have H:=Aa g6;have e9:=Aa g7;have b2:=Aa g8;have j5:=Aa g9;have j6:=Aa h1;have f0:=Aa g4;obtain⟨h2,h3,h4⟩:=e9.o.cells;obtain⟨h5,h6,h7,h8⟩:=H.o.st.cells;clear g6 g7 g8 g9 h1 g4
  cases g5 with
  | false=>
   have b3:=Aa (Sf j w.heap.size u7 d g wr H.o.row H.o.bel.size O_);go_wp2_with fail;refine b3.o.mono ?_;rintro G b7 ⟨b8,rfl,a5,a6,-,-⟩;have f1:=j6.o (by first|rfl|trivial);obtain⟨h9,i0⟩:=b2.o.told f1;have j7:Hid (Ap w.heap.size b7 b8 (Tq d g j)/\Below w.heap.size w b7/\Tr.Cb (Ab (Tq d g j))/\∀c,(¬c<k.data.toList/\Oq l.data.toList c->Ce (Ab (Tq d g j)) c=z c)/\(¬(¬c<k.data.toList/\Oq l.data.toList c)->Ce (Ab (Tq d g j)) c=none)):=(by rw[AO];exact⟨a5,H.o.bel.trans a6,h9,i0⟩);clear a5 a6 f1 h9 i0;go_wp2_with fail;go_ret;exact⟨_,_,rfl,j7.o⟩
  | true=>
   obtain⟨p,F,i1,i2⟩:=j5.o rfl;have O:=Aa F;have b4:=Aa i2;have f2:=Aa (HS.mk H.o e9.o i1);have f3:=Aa F.size;have m9:d.length+1+Tr.cnt p<=28800000:=(by have:=F.cn;omega);have j8:∀b9:Option hE,(∀v,b9=some v->v.length<=16)->(b9.getD []).length<=20000000:=fun b9 h=>by
    cases b9 with
    | none=>simp
    | some v=>have:=h v rfl;show v.length<=_;omega
   have f4:f.size<=20000000:=(by have:=(Nh F.okc).2;have b1:f.data.toList.length<=16:=this;have f5:f.size<=16:=(by simpa using b1);omega);clear F i1 i2;by_cases c0:b.data.toList=g.data.toList
   case pos=>
    have j9:(b.toList==g.toList)=true:=(by rw[Af,Af];simpa using c0);have R:=Aa (Tb j i b f wr (j8 j b2.o.len) f4);go_wp2_with fail;refine R.o.mono ?_;rintro G e1 ⟨rfl,a7⟩;have I:=f2.o.below a7;obtain⟨d2,d3,d4,d5⟩:=I.r.st.cells;have o:=Aa (I.put (Tr.Es j (chP i b f)));have S:Hid (ScI z k.data.toList l.data.toList (h+1) (Ab d) g.data.toList (Tr.Es j (chP i b f)) p):=b2.o.stay O.o c0;have c5:Hid (d.length+Tr.cnt p<=28800000):=(by show _<=_;omega);generalize Tr.Es j (chP i b f)=A at*;obtain⟨a,a2⟩:∃a,(e1.setCell (Q_ w.heap.size 0) (B_ (stV A))).setCell (Q_ w.heap.size 1) (.bool (stB A))=a:=⟨_,rfl⟩;rw[a2]at o;obtain⟨k4,k5,k6⟩:=o.o.c.cells;clear a7 I R h2 h3 h4 h5 h6 h7 h8;go_upto_region 11 with fail;clear a2 d2 d3 d4 d5;have q:Below a.heap.size a (a.alloc (C_ #[J_ i,B_ b,B_ f] 34)):=(xA _ a).alloc X_ _;have J:ScM w [a.heap.size] (w.heap.size+1+1+1) k l p (a.alloc (C_ #[J_ i,B_ b,B_ f] 34)):=(o.o.m.less.more X_).below q;have T:=o.o.r.below q;have U:ChB (a.alloc (C_ #[J_ i,B_ b,B_ f] 34)) a.heap.size i b f:=xK _ _;have V:=Aa (Zf J S.o.inv (xI b4.o (wP 2 i8)) O_ (fun i5 a9=>by rw[yR.1 a9];simp));have W:=Aa J;have X:=Aa T;have Y:=Aa U;have c6:=o.o.r.st.lt;clear q J T U;go_wp2_with fail;refine V.o.mono ?_;rintro G y a8;obtain⟨s,t,u,a3,rfl,C,D,a4,L⟩:=a8.uni;have m:=X.o.frm L a4 W.o.noItem O_;have n:ChB y a.heap.size i b f:=L.2 _ _ _ Y.o Do (by obtain⟨k7,d6⟩:=o.o.m.sc;have:=d6.lt;omega);have r:=Mod.set3 y a.heap.size 0 (J_ s) (B_ t) (B_ u);have Z:=n.put s t u;have a0:ScR w u7 d A (((y.setCell (Q_ a.heap.size 0) (J_ s)).setCell (Q_ a.heap.size 1) (B_ t)).setCell (Q_ a.heap.size 2) (B_ u)):=⟨r.row m.row (fun m5 e6 e=>Eo n m.row Do (by rw[<-e];exact e6)),(r.block _ m.st.lt O_).trans m.st,m.bel.trans (r.below m.bel.size fun c e=>O_)⟩;have a1:Hid (SlI w z k l (h+1) (2*N) (w.heap.size+1+1+1) 28800000 (u7,B_ g,A_ a.heap.size,.bool a3,((y.setCell (Q_ a.heap.size 0) (J_ s)).setCell (Q_ a.heap.size 1) (B_ t)).setCell (Q_ a.heap.size 2) (B_ u)) p):=
     ⟨g,d,A,a.heap.size,a3,s,t,u,rfl,rfl,rfl,a0,Z,c6,S.o,c5.o,fun e=>by obtain⟨d7,d8,d9,e0⟩:=C e;exact⟨d7,d8,d9.set n (yR.2 rfl) O_ r,xI e0 b4.o⟩,D⟩
    have c7:=Aa (fA (e8.o _ _ a1.o) f3.o);obtain⟨k8,k9,l0⟩:=n.cells;have k0:∀b0,y.frozen? (Q_ a.heap.size b0)=false:=fun b0=>by unfold ChB at n;simp[World.frozen?,n]
    clear C D a4 L m n r Z a0 a8 V W X Y;go_wp2_with fail;exact⟨⟨p,a1.o⟩,by rw[<-f0.o];exact c7.o⟩
   case neg=>
    have j9:(b.toList==g.toList)=false:=(by rw[Af,Af];simpa using c0);have b3:=Aa (Sf j w.heap.size u7 d g wr H.o.row H.o.bel.size O_);go_wp2_with fail;refine b3.o.mono ?_;rintro G b7 ⟨b8,rfl,a5,a6,i3,-⟩;have b5:=f2.o.app a5 a6 i3;obtain⟨d2,d3,d4,d5⟩:=b5.r.st.cells;obtain⟨l1,l2,l3⟩:=b5.c.cells;have b6:=b5.put none;have f6:=Aa b6;obtain⟨l4,l5,l6,l7⟩:=b6.r.st.cells;obtain⟨l8,l9,m0⟩:=b6.c.cells;have R:=Aa (Tb none i b f ((b7.setCell (Q_ w.heap.size 0) (B_ (stV none))).setCell (Q_ w.heap.size 1) (.bool (stB none))) D_ f4);have S:Hid (ScI z k.data.toList l.data.toList (h+1) (Ab (Tq d g j)) b.data.toList (Tr.Es none (chP i b f)) p):=(by show ScI _ _ _ _ _ _ _ _;rw[AO];exact b2.o.turn O.o c0);have c5:Hid ((Tq d g j).length+Tr.cnt p<=28800000):=(by show _<=_;have:=Ad6 d g j;omega);clear a5 a6 i3 b5 b6 b3;go_wp2_with fail;refine R.o.mono ?_;rintro G e1 ⟨rfl,a7⟩;have I:=f6.o.below a7;obtain⟨m1,m2,m3,m4⟩:=I.r.st.cells;have o:=Aa (I.put (Tr.Es none (chP i b f)));generalize Tr.Es none (chP i b f)=A at*;obtain⟨a,a2⟩:∃a,(e1.setCell (Q_ w.heap.size 0) (B_ (stV A))).setCell (Q_ w.heap.size 1) (.bool (stB A))=a:=⟨_,rfl⟩;rw[a2]at o;obtain⟨k4,k5,k6⟩:=o.o.c.cells;clear a7 I R f6 h2 h3 h4 h5 h6 h7 h8 d2 d3 d4 d5 l1 l2 l3 l4 l5 l6 l7 l8 l9 m0;go_upto_region 11 with fail;clear a2 m1 m2 m3 m4;have q:Below a.heap.size a (a.alloc (C_ #[J_ i,B_ b,B_ f] 34)):=(xA _ a).alloc X_ _;have J:ScM w [a.heap.size] (w.heap.size+1+1+1) k l p (a.alloc (C_ #[J_ i,B_ b,B_ f] 34)):=(o.o.m.less.more X_).below q;have T:=o.o.r.below q;have U:ChB (a.alloc (C_ #[J_ i,B_ b,B_ f] 34)) a.heap.size i b f:=xK _ _;have V:=Aa (Zf J S.o.inv (xI b4.o (wP 2 i8)) O_ (fun i5 a9=>by rw[yR.1 a9];simp));have W:=Aa J;have X:=Aa T;have Y:=Aa U;have c6:=o.o.r.st.lt;clear q J T U;go_wp2_with fail;refine V.o.mono ?_;rintro G y a8;obtain⟨s,t,u,a3,rfl,C,D,a4,L⟩:=a8.uni;have m:=X.o.frm L a4 W.o.noItem O_;have n:ChB y a.heap.size i b f:=L.2 _ _ _ Y.o Do (by obtain⟨k7,d6⟩:=o.o.m.sc;have:=d6.lt;omega);have r:=Mod.set3 y a.heap.size 0 (J_ s) (B_ t) (B_ u);have Z:=n.put s t u;have a0:ScR w b8 (Tq d g j) A (((y.setCell (Q_ a.heap.size 0) (J_ s)).setCell (Q_ a.heap.size 1) (B_ t)).setCell (Q_ a.heap.size 2) (B_ u)):=⟨r.row m.row (fun m5 e6 e=>Eo n m.row Do (by rw[<-e];exact e6)),(r.block _ m.st.lt O_).trans m.st,m.bel.trans (r.below m.bel.size fun c e=>O_)⟩;have a1:Hid (SlI w z k l (h+1) (2*N) (w.heap.size+1+1+1) 28800000 (b8,B_ b,A_ a.heap.size,.bool a3,((y.setCell (Q_ a.heap.size 0) (J_ s)).setCell (Q_ a.heap.size 1) (B_ t)).setCell (Q_ a.heap.size 2) (B_ u)) p):=
     ⟨b,(Tq d g j),A,a.heap.size,a3,s,t,u,rfl,rfl,rfl,a0,Z,c6,S.o,c5.o,fun e=>by obtain⟨d7,d8,d9,e0⟩:=C e;exact⟨d7,d8,d9.set n (yR.2 rfl) O_ r,xI e0 b4.o⟩,D⟩
    have c7:=Aa (fA (e8.o _ _ a1.o) f3.o);obtain⟨k8,k9,l0⟩:=n.cells;have k0:∀b0,y.frozen? (Q_ a.heap.size b0)=false:=fun b0=>by unfold ChB at n;simp[World.frozen?,n]
    clear C D a4 L m n r Z a0 a8 V W X Y;go_wp2_with fail;exact⟨⟨p,a1.o⟩,by rw[<-f0.o];exact c7.o⟩
theorem Ss{u v:Tr.Key}:∀{a:List Tr.It},Tr.Cb a->(u,v)∈a->Ce a u=some v
 | x::r,h,a=>by
  have b:=zJ.1 h;rcases xG.1 a with e|a
  ·rw[<-e];exact xD rfl
  ·have c:¬x.1=u:=fun e=>by
    have:=b.1 (u,v) a;rw[e]at this;exact Tr.lt_ir _ this
   exact(xB c).trans (Ss b.2 a)
 | [],_,a=>by cases a
theorem Eh.more(h:Eh z a p i w)(d:a<=c):Eh z c p i w:=by obtain⟨h,f,g,j,b⟩:=h;exact⟨h,f,g,xI j (kW _ d),b.tb,b.rep,b.nd,b.nb,⟨b.root.wf,b.root.top,b.root.val,xI b.root.wt (wP 2 d)⟩⟩
def Qr(il:gY):List Tr.Ch:=(Ab il).map fun x=>((1:Int),x.1,x.2)
theorem QZ(a:gY)(x:ByteArray×ByteArray):Qr (a++[x])=Qr a++[chP 1 x.1 x.2]:=by unfold Qr Ab chP;simp
structure AnM(w:World)(b:Nat)(v:Value)(il:gY)(i:Nat)(F:hF)(W:World):Prop where
 tr:Eh (fun k=>Tr.Av (Qr (il.take i)) k none) (i+1) b F W
 low:∀g∈b::F,w.heap.size<=g/\v.ownBlock≠some g
 row:Ap 0 W v il
 bel:Below w.heap.size w W
theorem AnM.below(h:AnM w a v j c i W)(d:Below W.heap.size W b):AnM w a v j c i b:=
 ⟨h.tr.keep fun f g=>d.block f (h.tr.lt f g),h.low,Ae h.row d X_,h.bel.trans (d.mono h.bel.size)⟩
theorem AnM.make{D:hF}(h:AnM w a v j c i b)(l:c<j.length)(p:Eh (fun f=>Tr.one f (Tr.Av (Qr (j.take c)) f none) (chP 1 (j[c]'l).1 (j[c]'l).2)) (c+1+1) a D d)(m:Ia (a::i) (a::D) b d):AnM w a v j (c+1) D d:=by
 refine⟨?_,fun k n=> ?_,m.1.row h.row fun k g o=>(h.low k o).2 g,h.bel.trans (m.1.below h.bel.size fun k g=>(h.low k g).1)⟩
 ·have e:(fun f=>Tr.Av (Qr (j.take (c+1))) f none)=fun f=>Tr.one f (Tr.Av (Qr (j.take c)) f none) (chP 1 (j[c]'l).1 (j[c]'l).2):=by
   funext f
   rw[List.take_succ_eq_append_getElem' (xW l),QZ,Tr.Fz];rfl
  rw[e];exact p
 ·rcases m.2 k n with g|g
  ·exact h.low k g
  ·refine⟨xI h.bel.size g,fun f=> ?_⟩;have:=(xF h.row k f).2;omega
theorem Ad7(m:Tr.Key->Option Tr.Key)(F u G:Nat)(a0:hF)(w:World)(a1:Eh m F G a0 w)(c0:F<=900000)(a2:∀f x,m f=some x->x.length<=16/\Pg.Dm f.length=true)(a3:∀a:gY,Tr.Cb (Ab a)->(∀f,Ce (Ab a) f=m f)->a.length<=u)(d1:u+1<=900000):
  Calls Tryz.prog 75 #[A_ G] w fun r Z=>∃g,r=R_ (A_ g)/\(∃o,Eh m (u+1) g o Z/\∀d∈g::o,w.heap.size<=d)/\Below w.heap.size w Z:=by
 have H:=Aa a1;have a4:=Aa a2;have a5:=Aa a3;clear a1 a2 a3;go_in;go_wp2_with fail;refine(QF w).mono ?_;rintro r b6 ⟨g,o,rfl,U,V,A⟩;have y:=Aa U;have a6:=Aa V;have I:=Aa A;have a7:=Aa (KB m F G a0 ⟨#[]⟩ ⟨#[]⟩ b6 (H.o.keep fun d j=>A.block d (H.o.lt d j)) c0);clear U V A;go_wp2_with fail;refine a7.o.mono ?_;rintro r b7 ⟨v,a,rfl,s,B,C,W⟩;have z:Hid (∀f,Ce (Ab a) f=m f):=fun f=>(W f).1 ⟨dW f,.inl rfl⟩
 have a8:=Aa (a5.o a C z.o);have c1:=a8.o;obtain⟨T,q,rfl⟩:=Ad s;have a9:Hid (AnM w g (L_ T a.length q) a 0 o b7):=⟨by
   have:=y.o.keep fun d j=>B.block d (y.o.lt d j)
   exact this,fun d j=>⟨a6.o d j,fun b9=>by have k:=y.o.lt d j;have p:=(xF s d b9).1;omega⟩,Bi s Y_,I.o.trans (B.mono I.o.size)⟩
 have J:=Aa C;clear s B C W;go_wp2_with fail
 go_loopw [10] (fun D wr=>∃(b:Nat) (n:hF),D=J_ (b:Nat)/\b<=a.length/\AnM w g (L_ T a.length q) a b n wr) (fun D _=>a.length-(intOf D).toNat)
 case atStart=>exact⟨0,o,rfl,Y_,a9.o⟩
 case round=>
  obtain⟨b,n,rfl,c5,l⟩:=hrel;have c2:=Aa l;by_cases c:b<a.length
  ·obtain⟨d,c6,e,c7,-,j,b4,b5⟩:=l.row.at b c;simp only[xJ,yB]at e;obtain⟨rfl,rfl⟩:=e;have c3:(0:Int)<=(b:Int):=O_;have c4:(b:Int)<(a.length:Int):=O_;have b0:Hid (Tr.Kv (chP 1 (a[b]'c).1 (a[b]'c).2)):=by
    have b1:((a[b]'c).1.data.toList,(a[b]'c).2.data.toList)∈Ab a:=xL.2 ⟨_,yA c,rfl⟩;have L:=z.o (a[b]'c).1.data.toList;rw[Ss J.o b1]at L;obtain⟨k,p⟩:=a4.o _ _ L.symm;exact FO (x:=((a[b]'c).1.data.toList,(a[b]'c).2.data.toList)) ⟨p,k⟩
   have M:Below wr.heap.size wr (wr.alloc (C_ #[B_ (a[b]'c).1,B_ (a[b]'c).2] 51)):=(xA _ wr).alloc X_ _;have N:=Aa (l.below M);have O:=Aa (JW _ (b+1) g n 1 (a[b]'c).1 (a[b]'c).2 (wr.alloc (C_ #[B_ (a[b]'c).1,B_ (a[b]'c).2] 51)) N.o.tr O_ b0.o);have R:∀(d0:b<a.length),AnM w g (L_ (P_ d) a.length q) a b n (wr.alloc (C_ #[B_ (a[b]'c).1,B_ (a[b]'c).2] 51)):=fun _=>N.o
   have S:Hid (∀i t,Eh (fun f=>Tr.one f (Tr.Av (Qr (a.take b)) f none) (chP 1 (a[b]'c).1 (a[b]'c).2)) (b+1+1) g i t->Ia (g::n) (g::i) (wr.alloc (C_ #[B_ (a[b]'c).1,B_ (a[b]'c).2] 51)) t->AnM w g (L_ (P_ d) a.length q) a (b+1) i t):=fun i t k p=>(R c).make c k p
   clear M l R;generalize a[b]'c=x at*;obtain⟨c8,c9⟩:=x;simp only at b4 b5 O S;go_wp2_with fail;refine O.o.mono ?_;rintro r b8 ⟨rfl,i,X,Y⟩;have b2:=Aa (S.o i b8 X Y);clear X Y;go_wp2_with fail;exact⟨⟨b+1,i,W_,O_,b2.o⟩,by simp[intOf];omega⟩
  ·have b3:Hid ((∃i,Eh m (u+1) g i wr/\∀d∈g::i,w.heap.size<=d)/\Below w.heap.size w wr):=by
    refine⟨⟨n,?_,fun d j=>(l.low d j).1⟩,l.bel⟩;have k:=l.tr;rw[yY O_]at k;have e:(fun f=>Tr.Av (Qr a) f none)=m:=by
     funext f
     exact(LS J.o).trans (z.o f)
    rw[e]at k;exact k.more O_
   clear l;go_wp2_with fail;go_ret;exact⟨g,rfl,b3.o⟩
theorem MS{α:Type}[DecidableEq α]:∀{l m:List α},l.Nodup->(∀x∈l,x∈m)->l.length<=m.length
 | [],_,_,_=>Y_
 | x::r,m,hn,hs=>by have a:=hs x (xU ..);have b:=yV.1 hn;have d:=MS (l:=r) (m:=m.erase x) b.2 (fun f c=>(List.mem_erase_of_ne (fun e=>b.1 (by rw[<-e];exact c))).2 (hs f (xZ _ c)));rw[List.length_erase_of_mem a]at d;have:=List.length_pos_of_mem a;rw[xH];omega
theorem WT{P:List (Option Nd)}:∀(h:Nat) (b c:Tr.Key) (a:PT h),Dz P h b c a->∀c∈Ld.nums h a,c<P.length
 | 0,_,_,a,⟨_,h1,_⟩,c,b=>by rw[yR.1 b];exact(jM.1 h1).1
 | h+1,_,_,(m,ks),⟨_,h1,_,_,h4⟩,c,b=>by
  rcases xG.1 b with e|b
  ·rw[e];exact(jM.1 h1).1
  ·obtain⟨l,d,f⟩:=kV.1 b;obtain⟨a,g,rfl⟩:=xL.1 d;obtain⟨i,j,k⟩:=h4.each a g;exact WT h i j a k c f
theorem Ad8{J:List Tr.Ch}(c:Tr.Cb (Ab j))(l:∀b,Ce (Ab j) b=Tr.Av J b none):j.length<=J.length:=by
 have d:((Ab j).map (·.1)).Nodup:=by unfold Tr.Cb at c;rw[List.Nodup,List.pairwise_map];exact c.imp fun h e=>by rw[e]at h;exact Tr.lt_ir _ h
 have a:=MS (m:=J.map (·.2.1)) d fun b b=>by
  obtain⟨x,f,rfl⟩:=xL.1 b;have b:=l x.1;rw[Ss c (show(x.1,x.2)∈Ab j from f)]at b;refine kH fun g=> ?_
  rw[Tr.Ff J x.1 none (fun i k e=>g (xL.2 ⟨i,k,e⟩))]at b
  cases b
 rw[xP,xP]at a;unfold Ab at a
 rwa [xP]at a
def LdN(iml:hD)(N:Nat):Prop:=∀(H:Nat) (f:PT H),Dz (Au iml) H [] [] f->Ld.num H f=0->(Ld.nums H f).Nodup->Tr.wt H (Ld.tr (Au iml) H [] [] f)<=2*N/\∀il:gY,Tr.Cb (Ab il)->(∀k,Ce (Ab il) k=Tr.Av (eff (Au iml) H f) k none)->il.length+1<=N
theorem RA{L:hD}{b:PT a}(f:Dz (Au L) a [] [] b)(g:(Ld.nums a b).Nodup):(Ld.nums a b).length<=L.length:=Lm g fun c d=>by
 have:=WT a [] [] b f c d;unfold Au at this
 rwa [xP]at this
def TLQ(N:Nat)(iml:hD)(w:World)(r:Ending)(w':World):Prop:=
 Below w.heap.size w w'/\((r=Am/\¬Xj (Au iml))\/∃(H:Nat) (f:PT H) (b:Nat) (F:hF),r=R_ (A_ b)/\Dz (Au iml) H [] [] f/\Ld.num H f=0/\(Ld.nums H f).Nodup/\(∀n,n<iml.length->n∈Ld.nums H f)/\Eh (fun k=>Tr.Av (eff (Au iml) H f) k none) N b F w'/\∀g∈b::F,w.heap.size<=g)
theorem ZX(c:Nat)(s:Value)(d:hD)(w:World)(T:Bc 0 w s d)(W:d.length<=2000000)(B:LdN d c)(X:c<=900000):
  Calls Tryz.prog 42 #[s] w (TLQ c d w):=by
 have t:=Dd d;refine(Acg (fun a b n j y=>∃o,Eh (fun q=>Tr.Av (eff (Au d) a b) q none) c j o y/\∀r∈j::o,n.heap.size<=r) s d w T O_ ?_).mono ?_
 ·intro a b n z C p M N u m k A h0;have f:=RA k A;obtain⟨i,g⟩:=B a b k h0 A;have U:1<=c:=by have:=Yj Kr (WE t a [] [] b k rfl (.inl rfl)).1;omega
  obtain⟨l,rfl⟩:∃l,c=l+1:=⟨c-1,O_⟩;exact Ad7 _ (l+1) l z p n (AM k M N u m i O_) O_ (fun q x D=>Xl q _ none x (UH t a [] [] b k) (fun q q=>by cases q) D) (fun q D F=>by have:=g q D F;omega) O_
 ·rintro V y ⟨m,h|⟨a,b,n,z,j,C,p,rfl,f,i,g,q,D,F,G,H,I,J,L⟩⟩
  ·exact⟨m,.inl h⟩
  ·have u:=RA f g;refine⟨m,.inr ?_⟩;rcases L with⟨rfl,_,rfl⟩|⟨_,o,O,R⟩
   ·exact⟨a,b,j,p,rfl,f,i,g,q,AM f D F G H (B a b f i g).1 O_,I⟩
   ·exact⟨a,b,j,o,rfl,f,i,g,q,O,fun r S=>xI J.size (R r S)⟩
theorem Zg(a:Nat)(x:Int)(f:List PanicEntry)(w:World)(l:w.cell? (Q_ a 0)=some (J_ x))(k:w.frozen? (Q_ a 0)=false)(m:a<w.heap.size):
  CallsD Tryz.prog 71 #[A_ a] (.panicking ({v:=.iface 148 (.agg #[]),recovered:=false}::f)) w fun e c b=>
   e=R_ (.tuple #[])/\c=.panicking ({v:=.iface 148 (.agg #[]),recovered:=true}::f)/\b=(w.setCell (Q_ a 0) (J_ 2)).alloc (C_ #[] 148):=by
 refine callsD_of_wpS Tryz.func71 rfl fun g i c=> ?_
 apply wpS_seq;apply wpS_region;simp[wpOpsS,go_sem,recoverD,c,Tryz.ntmps71,Exit.thenS];refine wpS_of_wp ?_;rw[show(#[A_ a]++((Array.replicate 14 undef).setIfInBounds 3 (Value.iface 148 (Value.agg #[]))).setIfInBounds 0 (Value.iface 148 (Value.agg #[])))= #[A_ a,Value.iface 148 (Value.agg #[]),undef,undef,Value.iface 148 (Value.agg #[]),undef,undef,undef,undef,undef,undef,undef,undef,undef,undef]from rfl];generalize d:(fun e j b=>bodyPostS Tryz.prog Tryz.f71 g i _ e j _ b)=Q;have b:=Aa d;clear d c;have c:=ta;have d:(w.alloc (C_ #[] 148)).frozen? (Q_ a 0)=false:=by rw[World.frozen?_alloc_old _ _ _ K_];exact k
 go_wp2_with fail;rw[<-b.o];simp[bodyPostS,results,Tryz.results71]
theorem RB(c:Addr)(w:World):
  CallsD Tryz.prog 71 #[.pointer (some c)] .returning w fun e a b=>e=R_ (.tuple #[])/\a=.returning/\b=w:=by
 refine callsD_of_wpS Tryz.func71 rfl fun d g a=> ?_
 apply wpS_seq;apply wpS_region;simp[wpOpsS,go_sem,recoverD,a,Tryz.ntmps71,Exit.thenS];refine wpS_of_wp ?_;rw[show(#[Value.pointer (some c)]++((Array.replicate 14 undef).setIfInBounds 3 Value.nilIface).setIfInBounds 0 Value.nilIface)= #[Value.pointer (some c),Value.nilIface,undef,undef,Value.nilIface,undef,undef,undef,undef,undef,undef,undef,undef,undef,undef]from rfl];generalize f:(fun e i b=>bodyPostS Tryz.prog Tryz.f71 d g _ e i _ b)=Q;have b:=Aa f;have g:=Aa a;clear f a;go_wp2_with fail;rw[<-b.o];have a:=g.o
 cases d
 simp_all [bodyPostS,results,Tryz.results71]
theorem RC(b k:Nat)(l:Value)(a:hD)(w:World)(t:w.cell? (Q_ k 0)=some l)(c:Bc 0 w l a)(d:a.length<=2000000)(f:LdN a b)(g:b<=900000):
  Calls Tryz.prog 41 #[A_ k] w (TLQ b a w):=by
 obtain⟨q,r,rfl⟩:=Ad c;have m:=Aa (ZX b _ a w c d f g);clear c d f g;go_in;go_wp2_with fail;refine m.o.mono ?_;rintro s f ⟨c,⟨rfl,g⟩|⟨n,o,i,p,rfl,j⟩⟩
 ·have d:Hid (TLQ b a w Am f):=⟨c,.inl ⟨rfl,g⟩⟩;clear c g;unfold Am at*;go_wp2_with fail;exact⟨rfl,d.o⟩
 ·have d:Hid (TLQ b a w (R_ (A_ i)) f):=⟨c,.inr ⟨n,o,i,p,rfl,j⟩⟩;clear c j;go_wp2_with fail;go_ret;exact d.o
def CLQ(N:Nat)(iml:hD)(w:World)(r:Ending)(w':World):Prop:=
 Below w.heap.size w w'/\((r=R_ (.tuple #[.pointer none,J_ 2])/\¬Xj (Au iml))\/∃(H:Nat) (f:PT H) (b:Nat) (F:hF),r=R_ (.tuple #[A_ b,J_ 0])/\Dz (Au iml) H [] [] f/\Ld.num H f=0/\(Ld.nums H f).Nodup/\(∀n,n<iml.length->n∈Ld.nums H f)/\Eh (fun k=>Tr.Av (eff (Au iml) H f) k none) N b F w'/\∀g∈b::F,w.heap.size<=g)
theorem HU(d i:Nat)(n:Value)(b:hD)(w:World)(M:i<w.heap.size)(N:w.cell? (Q_ i 0)=some n)(f:Bc 0 w n b)(g:b.length<=2000000)(k:LdN b d)(l:d<=900000):
  Calls Tryz.prog 40 #[.func (.func 41) #[] #[A_ i]] w (CLQ d b w):=by
 have O:∀(a:Fn) (first c:Array Value) (w:World),(Instr.makeFunc a first c).run Tryz.prog w=.ok (.func a first c) w:=fun _ _ _ _=>rfl
 have j:Below w.heap.size w (w.alloc (C_ #[J_ 0] 36)):=(xA _ w).alloc X_ _;have y:=Aa (RC d i n b (w.alloc (C_ #[J_ 0] 36)) (by rw[vN _ _ _ M];exact N) (Ae f j X_) g k l);clear f g k l;go_enter_defers Tryz.func40,Tryz.ntmps40;go_wp2_with fail;refine y.o.mono ?_;rintro R a ⟨c,F⟩;have k:a.cell? (Q_ w.heap.size 0)=some (J_ 0):=by rw[c.cell D_];simp
 have z:a.frozen? (Q_ w.heap.size 0)=false:=by rw[c.frozen D_];simp
 have A:w.heap.size<a.heap.size:=by have:=c.size;simp at this;omega
 have o:=Aa (j.trans (c.mono j.size));clear c;rcases F with⟨rfl,c⟩|⟨I,J,q,L,rfl,r,s,t,u,m,f⟩
 ·have B:=Aa c;clear c;unfold Am;go_wp2_with fail;refine wE (f:=71) (args:= #[A_ w.heap.size]) D_ (by simp[go_sem]) ?_;refine(Zg w.heap.size 0 [] _ k z A).mono ?_;rintro e G H ⟨rfl,rfl,rfl⟩;have C:=Aa ((o.o.setCell (p:=(Q_ w.heap.size 0)) X_ (J_ 2)).alloc K_ (C_ #[] 148));have l:((a.setCell (Q_ w.heap.size 0) (J_ 2)).alloc (C_ #[] 148)).cell? (Q_ w.heap.size 0)=some (J_ 2):=by
   rw[vN _ _ _ K_];exact cK _ _ _ k
  simp[Leaves,settle,results,Tryz.results40,go_sem,l];exact⟨C.o,.inl ⟨rfl,B.o⟩⟩
 ·have p:(w.alloc (C_ #[J_ 0] 36)).heap.size=w.heap.size+1:=D_;rw[p]at f;have D:Hid (CLQ d b w (R_ (.tuple #[A_ q,J_ 0])) (a.setCell (Q_ w.heap.size 0) (J_ 0))):=by
   refine⟨o.o.setCell (p:=(Q_ w.heap.size 0)) X_ _,.inr ⟨I,J,q,L,rfl,r,s,t,u,m.keep fun c g=> ?_,fun c g=> ?_⟩⟩
   ·refine(Mod.setCell a w.heap.size 0 (J_ 0)).block c (m.lt c g) (fun e=> ?_);have:=f c g;omega
   ·have:=f c g;omega
  clear r s t u m f p;go_wp2_with fail;refine wE (f:=71) (args:= #[A_ w.heap.size]) D_ (by simp[go_sem]) ?_;refine(RB (Q_ w.heap.size 0) _).mono ?_;rintro e G H ⟨rfl,rfl,rfl⟩;have l:(a.setCell (Q_ w.heap.size 0) (J_ 0)).cell? (Q_ w.heap.size 0)=some (J_ 0):=cK _ _ _ k;simp[Leaves,settle,results,Tryz.results40,go_sem,l];exact D.o
