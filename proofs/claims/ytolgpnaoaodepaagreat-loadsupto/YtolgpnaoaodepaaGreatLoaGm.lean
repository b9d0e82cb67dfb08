import Derived.Test.YtolgpnaoaodepaaGreatLawTEm
set_option maxHeartbeats 2500000
set_option maxRecDepth 100000
namespace Go.Proofs.YtolgpnaoaodepaaGreat
open Go.RowKit
theorem VG:Hr [XH]<=1048576:=jZ S_
attribute [local go_sem ↓] dG dF
theorem ND(g:Nat)(U:Value)(w:World)(I:LW g 0 1 (fun _=>False) U [] w):
  Calls Tryz.prog 27 #[A_ g,J_ 7,J_ 12] w fun z j=>z=R_ (.bool true)/\(∃k l,LW g 48 262157 (fun _=>False) k l j)/\Below g w j:=by
 have V:=Aa I;have e2:g<w.heap.size:=I.lt;clear I;have C:Giv w ((w.alloc (C_ #[B_ ⟨#[97]⟩,B_ ⟨#[120]⟩] 51)).alloc (C_ #[J_ 1,L_ (P_ w.heap.size) 1 1,Z_,Z_,Z_] 79)):=by
  refine⟨((xA _ w).alloc X_ _).alloc D_ _,D_,?_,?_⟩
  ·rw[kR _ _ _ D_];exact xK _ _
  ·have:=xK (w.alloc (C_ #[B_ ⟨#[97]⟩,B_ ⟨#[120]⟩] 51)) (C_ #[J_ 1,L_ (P_ w.heap.size) 1 1,Z_,Z_,Z_] 79);simpa using this
 go_in;go_wp2_with fail;generalize(w.alloc (C_ #[B_ ⟨#[97]⟩,B_ ⟨#[120]⟩] 51)).alloc (C_ #[J_ 1,L_ (P_ w.heap.size) 1 1,Z_,Z_,Z_] 79)=f2 at*;obtain⟨e5,e6,e7,e8,e9⟩:=C.cells;have e3:=C.sz
 go_region_held3 (fun j=>j.cell? (Q_ (w.heap.size+1) 0)=some (J_ 1)/\j.cell? (Q_ (w.heap.size+1) 1)=some (L_ (P_ w.heap.size) 1 1)/\j.cell? (Q_ (w.heap.size+1) 2)=some Z_/\j.cell? (Q_ (w.heap.size+1) 3)=some Z_/\j.cell? (Q_ (w.heap.size+1) 4)=some Z_) (go_keep)
  (first
   | (go_at_call 48;refine(Aak _ (by first|exact C.drew|assumption)).mono ?_;rintro z c ⟨rfl,o⟩;obtain⟨a6,a7,a8,a9,b0⟩:=o.cells;have W:=o.sz)
   | (go_at_call 49;refine(Ado _ V_).mono ?_;rintro z c ⟨rfl,o⟩;obtain⟨a6,a7,a8,a9,b0⟩:=o.cells;have W:=o.sz))
 all_goals go_wp2_with fail
 generalize t:World.alloc (World.alloc c _) (Obj.cells _ 81 _)=i at*;have e4:c.heap.size+2=i.heap.size:=by rw[<-t];simp
 have J:Hid (Below w.heap.size w i):=by rw[<-t];exact(o.bel.alloc O_ _).alloc K_ _
 have L:Txt i (fun b=>b=c.heap.size) (L_ (P_ c.heap.size) 1 1):=by
  refine⟨[XH],⟨_,1,rfl,rfl,.inr ⟨c.heap.size,0,rfl,O_,fun d8 d9 T=> ?_⟩⟩,VG,fun S f0 f1 e _=> ?_⟩
  ·have X:d8=0:=(by have:=(jM.1 T).1;simp[strs]at this;omega);subst X;have Y:d9=B_ XH:=(by simpa[strs]using T.symm);rw[Y,<-t,vN _ _ _ D_];simp
  ·simp only[xJ,xX]at e;rw[<-e.1]
 have f:Txt i (fun b=>b=c.heap.size) Z_:=Txt.nil _ _;have M:∀d,d<12->OpU i (fun b=>b=c.heap.size) (c.heap.size+1) (d*13):=by
  intro d O;have a:=fun(e0:Nat) (v:Value)=>HZ t (show _=c.heap.size+1 by simp) e0 v
  match d,O with
  | 0,_=>exact⟨_,_,_,_,_,_,_,_,_,_,_,_,_,⟨a _ _ rfl,a _ _ rfl,a _ _ rfl,a _ _ rfl,a _ _ rfl,a _ _ rfl,a _ _ rfl,a _ _ rfl,a _ _ rfl,a _ _ rfl,a _ _ rfl,a _ _ rfl,a _ _ rfl⟩,f⟩
  | 1,_=>exact⟨_,_,_,_,_,_,_,_,_,_,_,_,_,⟨a _ _ rfl,a _ _ rfl,a _ _ rfl,a _ _ rfl,a _ _ rfl,a _ _ rfl,a _ _ rfl,a _ _ rfl,a _ _ rfl,a _ _ rfl,a _ _ rfl,a _ _ rfl,a _ _ rfl⟩,f⟩
  | 2,_=>exact⟨_,_,_,_,_,_,_,_,_,_,_,_,_,⟨a _ _ rfl,a _ _ rfl,a _ _ rfl,a _ _ rfl,a _ _ rfl,a _ _ rfl,a _ _ rfl,a _ _ rfl,a _ _ rfl,a _ _ rfl,a _ _ rfl,a _ _ rfl,a _ _ rfl⟩,f⟩
  | 3,_=>exact⟨_,_,_,_,_,_,_,_,_,_,_,_,_,⟨a _ _ rfl,a _ _ rfl,a _ _ rfl,a _ _ rfl,a _ _ rfl,a _ _ rfl,a _ _ rfl,a _ _ rfl,a _ _ rfl,a _ _ rfl,a _ _ rfl,a _ _ rfl,a _ _ rfl⟩,f⟩
  | 4,_=>exact⟨_,_,_,_,_,_,_,_,_,_,_,_,_,⟨a _ _ rfl,a _ _ rfl,a _ _ rfl,a _ _ rfl,a _ _ rfl,a _ _ rfl,a _ _ rfl,a _ _ rfl,a _ _ rfl,a _ _ rfl,a _ _ rfl,a _ _ rfl,a _ _ rfl⟩,f⟩
  | 5,_=>exact⟨_,_,_,_,_,_,_,_,_,_,_,_,_,⟨a _ _ rfl,a _ _ rfl,a _ _ rfl,a _ _ rfl,a _ _ rfl,a _ _ rfl,a _ _ rfl,a _ _ rfl,a _ _ rfl,a _ _ rfl,a _ _ rfl,a _ _ rfl,a _ _ rfl⟩,f⟩
  | 6,_=>exact⟨_,_,_,_,_,_,_,_,_,_,_,_,_,⟨a _ _ rfl,a _ _ rfl,a _ _ rfl,a _ _ rfl,a _ _ rfl,a _ _ rfl,a _ _ rfl,a _ _ rfl,a _ _ rfl,a _ _ rfl,a _ _ rfl,a _ _ rfl,a _ _ rfl⟩,f⟩
  | 7,_=>exact⟨_,_,_,_,_,_,_,_,_,_,_,_,_,⟨a _ _ rfl,a _ _ rfl,a _ _ rfl,a _ _ rfl,a _ _ rfl,a _ _ rfl,a _ _ rfl,a _ _ rfl,a _ _ rfl,a _ _ rfl,a _ _ rfl,a _ _ rfl,a _ _ rfl⟩,f⟩
  | 8,_=>exact⟨_,_,_,_,_,_,_,_,_,_,_,_,_,⟨a _ _ rfl,a _ _ rfl,a _ _ rfl,a _ _ rfl,a _ _ rfl,a _ _ rfl,a _ _ rfl,a _ _ rfl,a _ _ rfl,a _ _ rfl,a _ _ rfl,a _ _ rfl,a _ _ rfl⟩,f⟩
  | 9,_=>exact⟨_,_,_,_,_,_,_,_,_,_,_,_,_,⟨a _ _ rfl,a _ _ rfl,a _ _ rfl,a _ _ rfl,a _ _ rfl,a _ _ rfl,a _ _ rfl,a _ _ rfl,a _ _ rfl,a _ _ rfl,a _ _ rfl,a _ _ rfl,a _ _ rfl⟩,f⟩
  | 10,_=>exact⟨_,_,_,_,_,_,_,_,_,_,_,_,_,⟨a _ _ rfl,a _ _ rfl,a _ _ rfl,a _ _ rfl,a _ _ rfl,a _ _ rfl,a _ _ rfl,a _ _ rfl,a _ _ rfl,a _ _ rfl,a _ _ rfl,a _ _ rfl,a _ _ rfl⟩,L⟩
  | 11,_=>exact⟨_,_,_,_,_,_,_,_,_,_,_,_,_,⟨a _ _ rfl,a _ _ rfl,a _ _ rfl,a _ _ rfl,a _ _ rfl,a _ _ rfl,a _ _ rfl,a _ _ rfl,a _ _ rfl,a _ _ rfl,a _ _ rfl,a _ _ rfl,a _ _ rfl⟩,f⟩
 have Z:=Aa M;clear t M L f
 go_loopw [9] (fun H wr=>∃d:Nat,d<=12/\H=J_ d/\(∃k l,LW g (d*4) (262145+d) (fun x=>x=c.heap.size+1\/x=c.heap.size) k l wr)/\(Below g i wr/\i.heap.size<=wr.heap.size)/\(∀b,(b=c.heap.size+1\/b=c.heap.size)->wr.heap[b]?=i.heap[b]?)) (fun H _=>12-(intOf H).toNat)
 case atStart=>exact⟨0,O_,rfl,⟨U,[],(V.o.mono X_ O_).aside J.o (fun b n=> .inr O_)⟩,⟨xA _ _,X_⟩,fun _ _=>rfl⟩
 case round=>
  obtain⟨d,O,rfl,⟨k,l,u⟩,⟨y,G⟩,s⟩:=hrel;by_cases e1:d<12
  ·obtain⟨m,b1,b2,b3,b4,b5,b6,b7,b8,b9,c0,c1,c2,⟨c3,c4,c5,c6,c7,c8,c9,d0,d1,d2,d3,d4,d5⟩,R⟩:=(Z.o d e1).keep (s _ (.inl rfl)) G (fun b n=>s b (.inr n));have a0:=Aa R;have D:=Aa G;clear R G;have q:=Aa u;have r:=Aa y;have F:=Aa s;clear u y s;by_cases B:7<=m/\m<=12
   ·have N:=Aa (AV q.o O_ O_ O_ m B b1 b2 b3 b4 b5 b6 b7 b8 b9 c0 c1 c2 a0.o);obtain⟨d6,a4⟩:=B;go_wp2_with fail;refine N.o.mono ?_;intro z A p;have a1:Hid (∃k l,LW g ((d+1)*4) (262145+(d+1)) (fun x=>x=c.heap.size+1\/x=c.heap.size) k l A):=by
     obtain⟨S,g,d7⟩:=p.lw;exact⟨S,g,d7.mono O_ O_⟩
    have a2:Hid (Below g i A/\i.heap.size<=A.heap.size):=⟨r.o.trans p.bel,xI D.o p.bel.size⟩;have a3:Hid (∀b,(b=c.heap.size+1\/b=c.heap.size)->A.heap[b]?=i.heap[b]?):=fun b n=>(p.same b n).trans (F.o b n)
    obtain rfl:=p.ret;clear p N c3 c4 c5 c6 c7 c8 c9 d0 d1 d2 d3 d4 d5;go_wp2_with fail
    go_roundw
    case rel=>exact⟨d+1,O_,W_,a1.o,a2.o,a3.o⟩
    case measure=>simp[intOf];omega
   ·by_cases d6:7<=m
    ·have a4:12<m:=O_;have a5:decide (m<=12)=false:=K_;clear B;go_wp2_with fail
     go_roundw
     case rel=>exact⟨d+1,O_,W_,⟨_,_,q.o.mono O_ O_⟩,⟨r.o,D.o⟩,F.o⟩
     case measure=>simp[intOf];omega
    ·have a5:decide (7<=m)=false:=K_;clear B;go_wp2_with fail
     go_roundw
     case rel=>exact⟨d+1,O_,W_,⟨_,_,q.o.mono O_ O_⟩,⟨r.o,D.o⟩,F.o⟩
     case measure=>simp[intOf];omega
  ·have q:Hid (LW g 48 262157 (fun _=>False) k l wr):=(u.mono O_ O_).less fun b n=>n.elim
   have r:=Aa y;clear u y s;go_wp2_with fail;go_ret;exact⟨rfl,⟨_,_,q.o⟩,(J.o.mono O_).trans r.o⟩
theorem Agj(w:World):LW w.heap.size 0 1 (fun _=>False) Z_ [] (w.alloc (C_ #[Z_,Z_,Z_,Z_,Z_,Z_,Z_,Z_,Z_,J_ 0] 75)):=by refine⟨⟨yP _ _ _ _,(fun a a=>by cases a),(by simp[blk,Value.ownBlock,prB])⟩,?_,(fun b a=>by simp[blk,Value.ownBlock,prB]at a),(fun b a=>a.elim),D_⟩;exact(Agg (vl:=Z_) (xK w (C_ #[Z_,Z_,Z_,Z_,Z_,Z_,Z_,Z_,Z_,J_ 0] 75))).below2 (xA _ _) fun b a=>by simp[blk,Value.ownBlock,prB]at a
theorem NE(n:Option Addr)(j L:Nat)(w:World)(M:To w n j L):
  Calls Tryz.prog 10 #[L_ n j L,J_ 7,J_ 12] w fun p d5=>p=R_ (.bool true)/\Below w.heap.size w d5:=by
 have d8:j<=65536:=by rcases M with h|⟨l,s,_,_,h,_⟩<;>omega
 have q:=Aa M;clear M;have N:=Aa ((xA w.heap.size w).alloc X_ (C_ #[Z_,Z_,Z_,Z_,Z_,Z_,Z_,Z_,Z_,J_ 0] 75));have O:=Aa (Agj w);go_in;go_wp2_with fail;refine(ND w.heap.size _ _ O.o).mono ?_;rintro p f3 ⟨rfl,t,U⟩;have W:=Aa t;have X:=Aa (N.o.trans U);clear U t O N;go_wp2_with fail
 go_loopw [9] (fun b wr=>∃y:Nat,y<=j/\b=J_ y/\(∃k a,LW w.heap.size (48+y*4) (262157+y) (fun _=>False) k a wr)/\Below w.heap.size w wr) (fun b _=>j-(intOf b).toNat)
 case atStart=>exact⟨0,O_,rfl,W.o,X.o⟩
 case round=>
  obtain⟨b,e3,rfl,⟨k,a,c⟩,f⟩:=hrel;by_cases d7:b<j
  ·obtain⟨l,s,rfl,e4,_,a6,S⟩:∃l s,n=some (Q_ l s)/\j<=L/\j<=65536/\l<w.heap.size/\∀b,b<j->OpU w (fun u=>u<w.heap.size) l (s+b*13):=by
    rcases q.o with h|h
    ·omega
    ·exact h
   obtain⟨g,a7,a8,a9,b0,b1,b2,b3,b4,b5,b6,b7,b8,⟨b9,c0,c1,c2,c3,c4,c5,c6,c7,c8,c9,d0,d1⟩,T⟩:=(S b d7).keep (f.block l a6) f.size (fun u d6=>f.block u d6);have Y:=Aa T;clear T;obtain⟨e5,-⟩:=c.cell;obtain⟨e6,e7,rfl⟩:=Ad c.trs.row;have r:=Aa c;have m:=Aa f;clear c f S;have C:Hid (∃k a,LW w.heap.size (48+(b+1)*4) (262157+(b+1)) (fun _=>False) k a wr):=⟨_,_,r.o.mono O_ O_⟩;by_cases z:7<=g/\g<=12
   ·have D:=Aa (AV r.o O_ O_ O_ g z a7 a8 a9 b0 b1 b2 b3 b4 b5 b6 b7 b8 Y.o);obtain⟨t,a1⟩:=z;by_cases A:g<11\/a.length<10
    ·have d9:(decide (g<11) || decide ((a.length:Int)<10))=true:=by
      rcases A with h|h
      ·simp[h]
      ·have:(a.length:Int)<10:=O_;simp[this]
     by_cases a0:g<11
     all_goals
      try(have Z:(a.length:Int)<10:=O_)
      go_wp2_with fail;refine D.o.mono ?_;intro p I i;have F:Hid (∃k a,LW w.heap.size (48+(b+1)*4) (262157+(b+1)) (fun _=>False) k a I):=(by obtain⟨n,l,o⟩:=i.lw;exact⟨n,l,o.mono O_ O_⟩);have G:=Aa (m.o.trans i.bel);obtain rfl:=i.ret;clear i D b9 c0 c1 c2 c3 c4 c5 c6 c7 c8 c9 d0 d1;go_wp2_with fail
      go_roundw
      case rel=>exact⟨b+1,O_,W_,F.o,G.o⟩
      case measure=>simp[intOf];omega
    ·have a0:¬g<11:=fun o=>A (.inl o)
     have Z:¬(a.length:Int)<10:=fun o=>A (.inr O_)
     clear A D;go_wp2_with fail
     go_roundw
     case rel=>exact⟨b+1,O_,W_,C.o,m.o⟩
     case measure=>simp[intOf];omega
   ·by_cases t:7<=g
    ·have a1:12<g:=O_;have a2:decide (g<=12)=false:=K_;clear z;go_wp2_with fail
     go_roundw
     case rel=>exact⟨b+1,O_,W_,C.o,m.o⟩
     case measure=>simp[intOf];omega
    ·have a2:decide (7<=g)=false:=K_;clear z;go_wp2_with fail
     go_roundw
     case rel=>exact⟨b+1,O_,W_,C.o,m.o⟩
     case measure=>simp[intOf];omega
  ·have r:Hid (LW w.heap.size 400000 400000 (fun _=>False) k a wr):=c.mono O_ O_;have m:=Aa f;have a3:=c.cnt;have e0:a.length<=400000:=O_;clear c f a3;go_wp2_with fail
   go_loopw [10] (fun J wr=>∃d:Nat,d<=a.length/\J=J_ d/\LW w.heap.size (400000+d*4) 400000 (fun _=>False) k a wr/\Below w.heap.size w wr) (fun J _=>a.length-(intOf J).toNat)
   case atStart=>exact⟨0,Y_,rfl,r.o,m.o⟩
   case round=>
    obtain⟨d,e8,rfl,c,f⟩:=hrel;have R:=Aa c;have H:=Aa f;obtain⟨d2,d3⟩:=c.cell;obtain⟨e9,f0,rfl⟩:=Ad c.trs.row;by_cases B:d<a.length
    ·obtain⟨u,f1,e,f2,d4⟩:=Vm c.trs d B;simp only[xJ]at e;obtain⟨rfl,-,rfl⟩:=e;have q:=Aa (AU R.o O_ O_ (a[d]'B) (yA B) ⟨#[]⟩ ⟨#[]⟩);generalize(a[d]'B).1=o at*;have e1:(0:Int)<=(d:Int):=O_;have e2:(d:Int)<(a.length:Int):=O_;clear c f;go_wp2_with fail;refine q.o.mono ?_;intro p I i;have F:=Aa i.lw;have G:=Aa (H.o.trans i.bel);obtain rfl:=i.ret;clear i q d2 d3 d4;go_wp2_with fail
     go_roundw
     case rel=>exact⟨d+1,O_,W_,by rw[show 400000+(d+1)*4=400000+d*4+4 by omega];exact F.o,G.o⟩
     case measure=>simp[intOf];omega
    ·have a4:d=a.length:=O_;subst a4;clear c f;go_wp2_with fail;refine(Adl w.heap.size _ _ _ _ R.o.bk O_).mono ?_;rintro p I ⟨rfl,V⟩;have a5:=Aa (H.o.trans (V.mono H.o.size));clear V;go_wp2_with fail;go_ret;exact⟨rfl,a5.o⟩
theorem Aal(a:Option Addr)(b c:Nat)(w:World)(f:To w a b c):
  Calls Tryz.prog 6 #[L_ a b c] w fun d g=>d=R_ (.bool true)/\Below w.heap.size w g:=by
 have g:=Aa f;clear f;go_in;go_wp2_with fail;refine(NE a b c _ g.o).mono ?_;rintro d i ⟨rfl,f⟩;go_wp2_with fail;go_ret;exact⟨rfl,f⟩
