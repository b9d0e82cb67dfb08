import Derived.Test.YtolgpnaoaodepaaGreatRefAm
set_option maxHeartbeats 4000000
set_option maxRecDepth 100000
namespace Go.Proofs.YtolgpnaoaodepaaGreat
open Go.RowKit Pg Sq
theorem Gz(a:hJ)(w:World)(o:a.size<=7):
  Calls Tryz.prog 207 #[B_ a] w fun k l=>k=R_ (J_ (Pg.Da a.data.toList))/\l=w:=by
 go_in;go_wp2_with fail
 go_loop [3,4] (fun g f=>∃c:Nat,c<=a.size/\f=J_ ((c:Int)-1)/\g=J_ (Pg.Da (a.data.toList.drop c))) (fun _ f=>(intOf f+1).toNat)
 case atStart=>exact⟨a.size,X_,rfl,by rw[zG (by rw[Ah];exact Nat.le_refl _)];rfl⟩
 case round=>
  obtain⟨c,n,rfl,rfl⟩:=hrel;by_cases h0:0<c
  ·obtain⟨b,rfl⟩:∃b,c=b+1:=⟨c-1,O_⟩;have d:b<a.size:=O_;have i:=Aa (XQ a b d);have j:=Pg.Nx (a.data.toList.drop (b+1)) 6 (by rw[xY,Ah];omega);rw[show(256:Nat)^6=281474976710656 from rfl]at j;have m:(a[b]'d).toNat<256:=(a[b]'d).toNat_lt;generalize Pg.Da (a.data.toList.drop (b+1))=g at*;rw[show(((b+1:Nat):Int)-1)=(b:Int)by omega];go_wp2_with fail
   go_round
   case rel=>exact⟨b,O_,Je O_,by rw[i.o];exact Je O_⟩
   case measure=>simp[intOf]
  ·obtain rfl:c=0:=O_;go_wp2_with fail;go_ret;exact⟨rfl,rfl⟩
theorem Ha(c a:Nat)(r:Cur)(w:World)(L:Iu w c r)(X:a<=1000000000):
  Calls Tryz.prog 209 #[A_ c,J_ a] w fun d b=>d=R_ (B_ ⟨(r.take a).1.toArray⟩)/\Iu b c (r.take a).2/\But c w b:=by
 obtain⟨g,b,d,m,n,f⟩:=L;have M:=Sy f m;have i:=Aa d;have l:=Aa f;obtain⟨B,C,D,F,G⟩:=d.cells;clear d f;obtain⟨q,H⟩:=r;simp only at*
 cases H with
 | true=>
  have j:=Aa (VL (c:=⟨q,true⟩) (n:=a) (fun h=>by cases h.1));by_cases p:a<=300
  ·go_enter aH,aJ;go_wp2_with fail;go_quiet (fail);have d:=Aa (i.o.drewN nq).setBad;have f:=Aa (Aw (Jn c w nq) (Be c 2 (w.drewN nq) (.bool true)))
   go_wp2_with (first
    | (at_make;refine Adu _ rfl (.tmp 36) (.tmp 36) rfl a rfl rfl O_ ?_))
   intro I o k _;have y:=o.str;have s:=Aa (d.o.belowAt k i.o.lt);have t:=Aa (Aw f.o (Zo k (by simp[World.setCell])));clear o k;generalize List.replicate a (0:UInt8)=J at*;go_wp2_with fail;go_ret;rw[j.o,xD p];exact⟨rfl,⟨g,b,s.o,m,n,l.o⟩,t.o⟩
  ·go_enter aH,aJ;go_wp2_with fail;go_quiet (fail);have d:=Aa (i.o.drewN nq).setBad;have f:=Aa (Aw (Jn c w nq) (Be c 2 (w.drewN nq) (.bool true)));go_wp2_with fail;go_ret;rw[j.o,xB p];exact⟨rfl,⟨g,b,d.o,m,n,l.o⟩,f.o⟩
 | false=>
  by_cases u:a<=q.length
  ·have j:=Aa (NN (c:=⟨q,false⟩) rfl u);have z:decide ((a:Int)<0)=false:=D_;have A:(a:Int)<=(g.size:Int)-(b:Int):=O_;go_enter aH,aJ;go_wp2_with fail;go_quiet (fail);go_wp2_with fail;have d:=Aa ((i.o.drewN nq).setAt (b+a) ((b:Int)+(a:Int)) O_);have f:=Aa (Aw (Jn c w nq) (Be c 1 (w.drewN nq) (J_ ((b:Int)+(a:Int)))));generalize(w.drewN nq).setCell (Q_ c 1) (J_ ((b:Int)+(a:Int)))=W at*;obtain⟨T,U,V,_,_⟩:=d.o.cells;have N:(0:Int)<=((b+a:Nat):Int)-(a:Int):=O_;have O:((b+a:Nat):Int)-(a:Int)<=((b+a:Nat):Int):=O_;have R:((b+a:Nat):Int)<=(g.size:Int):=O_;have S:IntKind.i64.wrap (((b+a:Nat):Int)-(a:Int))=(b:Int):=(by rw[zY _ ⟨O_,O_⟩];omega);clear B C D F G;go_quiet (fail);go_wp2_with fail;go_ret;rw[j.o];refine⟨Ib ?_,⟨g,b+a,d.o.drewN _,O_,n,?_⟩,Aw f.o (Jn _ _ _)⟩
   ·rw[l.o,zZ,show b+a-b=a by omega]
   ·rw[l.o,jG]
  ·have j:=Aa (VL (c:=⟨q,false⟩) (n:=a) (fun h=>u h.2));have z:decide ((a:Int)<0)=false:=D_;have A:(g.size:Int)-(b:Int)<(a:Int):=O_;by_cases p:a<=300
   ·go_enter aH,aJ;go_wp2_with fail;go_quiet (fail);have d:=Aa (i.o.drewN nq).setBad;have f:=Aa (Aw (Jn c w nq) (Be c 2 (w.drewN nq) (.bool true)))
    go_wp2_with (first
     | (at_make;refine Adu _ rfl (.tmp 36) (.tmp 36) rfl a rfl rfl O_ ?_))
    intro I o k _;have y:=o.str;have s:=Aa (d.o.belowAt k i.o.lt);have t:=Aa (Aw f.o (Zo k (by simp[World.setCell])));clear o k;generalize List.replicate a (0:UInt8)=J at*;go_wp2_with fail;go_ret;rw[j.o,xD p];exact⟨rfl,⟨g,b,s.o,m,n,l.o⟩,t.o⟩
   ·go_enter aH,aJ;go_wp2_with fail;go_quiet (fail);have d:=Aa (i.o.drewN nq).setBad;have f:=Aa (Aw (Jn c w nq) (Be c 2 (w.drewN nq) (.bool true)));go_wp2_with fail;go_ret;rw[j.o,xB p];exact⟨rfl,⟨g,b,d.o,m,n,l.o⟩,f.o⟩
theorem CX(y:Nat)(z:Cur)(w:World)(S:Iu w y z):
  Calls Tryz.prog 212 #[A_ y] w fun u R=>u=R_ (J_ z.number.1)/\Iu R y z.number.2/\But y w R:=by
 have T:=Aa S;clear S;go_in;go_wp2_with fail
 go_loopw [3,4,5] (fun U V M wr=>∃(r g:Nat) (a:Cur),r<=5/\M=J_ r/\U=J_ g/\V=J_ (128^r:Nat)/\g<128^r/\Iu wr y a/\But y w wr/\numberF (5-r) a g (128^r) (decide (r=0))=z.number) (fun _ _ M _=>5-(intOf M).toNat)
 case atStart=>exact⟨0,0,z,O_,rfl,rfl,rfl,Do,T.o,Rj _ _,rfl⟩
 case round=>
  obtain⟨r,g,a,Y,rfl,rfl,rfl,H,N,O,o⟩:=hrel;have F:=Aa N;have G:=Aa O;clear N O;have W:=Sx a;rcases(show r=5\/r=0\/r=1\/r=2\/r=3\/r=4 by omega)with rfl|rfl|rfl|rfl|rfl|rfl
  ·obtain⟨p,I⟩:=F.o.cells;have c:Hid (z.number=(0,⟨a.rem,true⟩)):=o.symm;clear o;go_wp2_with fail;go_ret;rw[c.o];exact⟨rfl,F.o.bad,Aw G.o (Be _ _ _ _)⟩
  ·simp only[Nat.reducePow,Nat.reduceSub]at H o⊢;have l:Hid (numberF (4+1) a g 1 true=z.number):=o;clear o;go_wp2_with fail;refine(Ha y 1 a _ F.o O_).mono ?_;rintro u J ⟨rfl,s,t⟩;have f:=Aa s;have j:=Aa (Aw G.o t);clear s t;go_wp2_with fail;refine(Gz _ _ (by rw[Kf a];omega)).mono ?_;rintro u L ⟨rfl,rfl⟩;rw[show(Pg.Da (⟨(a.take 1).1.toArray⟩:hJ).data.toList)=a.byte by simp[Cur.byte]];obtain⟨p,I⟩:=f.o.cells;by_cases m:a.byte<128
   ·by_cases k:(a.take 1).2.bad=true
    ·have c:=Aa (l.o.symm.trans (Hi _ _ _ _ _ m (.inl k)));rw[k]at p;generalize a.byte=b at*;generalize(a.take 1).2=n at*;go_wp2_with fail;go_ret;rw[c.o];exact⟨rfl,f.o.bad,Aw j.o (Be _ _ _ _)⟩
    ·have A:(a.take 1).2.bad=false:=(by simpa using k);rw[A]at p;by_cases d:(a.byte=0/\true=false)\/2147483647<g+a.byte % 128*1
     ·exfalso;rcases d with h|h
      ·cases h.2
      ·omega
     ·have c:=Aa (l.o.symm.trans (Mx _ _ _ _ _ m (fun C=>C.elim (fun e=>k e) d)));generalize a.byte=b at*;generalize(a.take 1).2=n at*;by_cases i:b=0
      ·have q:((b:Int)==0)=true:=(by simpa using i);have B:g+b % 128*1<=2147483647:=O_;have D:=Aa d;clear d;go_wp2_with fail;go_ret;rw[c.o];exact⟨Fr O_,f.o,j.o⟩
      ·have q:((b:Int)==0)=false:=(by simpa using i);have B:g+b % 128*1<=2147483647:=O_;clear d;go_wp2_with fail;go_ret;rw[c.o];exact⟨Fr O_,f.o,j.o⟩
   ·have c:=Aa (l.o.symm.trans (Oz _ _ _ _ _ m));generalize a.byte=b at*;generalize(a.take 1).2=n at*;go_wp2_with fail
    go_roundw
    case rel=>exact⟨1,g+b % 128*1,n,O_,rfl,Je O_,rfl,by show _<128;omega,f.o,j.o,c.o.symm⟩
    case measure=>simp[intOf]
  ·simp only[Nat.reducePow,Nat.reduceSub]at H o⊢;have l:Hid (numberF (3+1) a g 128 false=z.number):=o;clear o;go_wp2_with fail;refine(Ha y 1 a _ F.o O_).mono ?_;rintro u J ⟨rfl,s,t⟩;have f:=Aa s;have j:=Aa (Aw G.o t);clear s t;go_wp2_with fail;refine(Gz _ _ (by rw[Kf a];omega)).mono ?_;rintro u L ⟨rfl,rfl⟩;rw[show(Pg.Da (⟨(a.take 1).1.toArray⟩:hJ).data.toList)=a.byte by simp[Cur.byte]];obtain⟨p,I⟩:=f.o.cells;by_cases m:a.byte<128
   ·by_cases k:(a.take 1).2.bad=true
    ·have c:=Aa (l.o.symm.trans (Hi _ _ _ _ _ m (.inl k)));rw[k]at p;generalize a.byte=b at*;generalize(a.take 1).2=n at*;go_wp2_with fail;go_ret;rw[c.o];exact⟨rfl,f.o.bad,Aw j.o (Be _ _ _ _)⟩
    ·have A:(a.take 1).2.bad=false:=(by simpa using k);rw[A]at p;by_cases d:(a.byte=0/\false=false)\/2147483647<g+a.byte % 128*128
     ·have c:=Aa (l.o.symm.trans (Hi _ _ _ _ _ m (.inr d)));generalize a.byte=b at*;generalize(a.take 1).2=n at*;by_cases i:b=0
      ·have q:((b:Int)==0)=true:=(by simpa using i);go_wp2_with fail;go_ret;rw[c.o];exact⟨rfl,f.o.bad,Aw j.o (Be _ _ _ _)⟩
      ·exfalso;rcases d with h|h
       ·exact i h.1
       ·omega
     ·have c:=Aa (l.o.symm.trans (Mx _ _ _ _ _ m (fun C=>C.elim (fun e=>k e) d)));generalize a.byte=b at*;generalize(a.take 1).2=n at*;by_cases i:b=0
      ·have q:((b:Int)==0)=true:=(by simpa using i);have B:g+b % 128*128<=2147483647:=O_;have D:=Aa d;clear d;exact absurd (.inl ⟨i,rfl⟩) D.o
      ·have q:((b:Int)==0)=false:=(by simpa using i);have B:g+b % 128*128<=2147483647:=O_;clear d;go_wp2_with fail;go_ret;rw[c.o];exact⟨Fr O_,f.o,j.o⟩
   ·have c:=Aa (l.o.symm.trans (Oz _ _ _ _ _ m));generalize a.byte=b at*;generalize(a.take 1).2=n at*;go_wp2_with fail
    go_roundw
    case rel=>exact⟨2,g+b % 128*128,n,O_,rfl,Je O_,rfl,by show _<16384;omega,f.o,j.o,c.o.symm⟩
    case measure=>simp[intOf]
  ·simp only[Nat.reducePow,Nat.reduceSub]at H o⊢;have l:Hid (numberF (2+1) a g 16384 false=z.number):=o;clear o;go_wp2_with fail;refine(Ha y 1 a _ F.o O_).mono ?_;rintro u J ⟨rfl,s,t⟩;have f:=Aa s;have j:=Aa (Aw G.o t);clear s t;go_wp2_with fail;refine(Gz _ _ (by rw[Kf a];omega)).mono ?_;rintro u L ⟨rfl,rfl⟩;rw[show(Pg.Da (⟨(a.take 1).1.toArray⟩:hJ).data.toList)=a.byte by simp[Cur.byte]];obtain⟨p,I⟩:=f.o.cells;by_cases m:a.byte<128
   ·by_cases k:(a.take 1).2.bad=true
    ·have c:=Aa (l.o.symm.trans (Hi _ _ _ _ _ m (.inl k)));rw[k]at p;generalize a.byte=b at*;generalize(a.take 1).2=n at*;go_wp2_with fail;go_ret;rw[c.o];exact⟨rfl,f.o.bad,Aw j.o (Be _ _ _ _)⟩
    ·have A:(a.take 1).2.bad=false:=(by simpa using k);rw[A]at p;by_cases d:(a.byte=0/\false=false)\/2147483647<g+a.byte % 128*16384
     ·have c:=Aa (l.o.symm.trans (Hi _ _ _ _ _ m (.inr d)));generalize a.byte=b at*;generalize(a.take 1).2=n at*;by_cases i:b=0
      ·have q:((b:Int)==0)=true:=(by simpa using i);go_wp2_with fail;go_ret;rw[c.o];exact⟨rfl,f.o.bad,Aw j.o (Be _ _ _ _)⟩
      ·exfalso;rcases d with h|h
       ·exact i h.1
       ·omega
     ·have c:=Aa (l.o.symm.trans (Mx _ _ _ _ _ m (fun C=>C.elim (fun e=>k e) d)));generalize a.byte=b at*;generalize(a.take 1).2=n at*;by_cases i:b=0
      ·have q:((b:Int)==0)=true:=(by simpa using i);have B:g+b % 128*16384<=2147483647:=O_;have D:=Aa d;clear d;exact absurd (.inl ⟨i,rfl⟩) D.o
      ·have q:((b:Int)==0)=false:=(by simpa using i);have B:g+b % 128*16384<=2147483647:=O_;clear d;go_wp2_with fail;go_ret;rw[c.o];exact⟨Fr O_,f.o,j.o⟩
   ·have c:=Aa (l.o.symm.trans (Oz _ _ _ _ _ m));generalize a.byte=b at*;generalize(a.take 1).2=n at*;go_wp2_with fail
    go_roundw
    case rel=>exact⟨3,g+b % 128*16384,n,O_,rfl,Je O_,rfl,by show _<2097152;omega,f.o,j.o,c.o.symm⟩
    case measure=>simp[intOf]
  ·simp only[Nat.reducePow,Nat.reduceSub]at H o⊢;have l:Hid (numberF (1+1) a g 2097152 false=z.number):=o;clear o;go_wp2_with fail;refine(Ha y 1 a _ F.o O_).mono ?_;rintro u J ⟨rfl,s,t⟩;have f:=Aa s;have j:=Aa (Aw G.o t);clear s t;go_wp2_with fail;refine(Gz _ _ (by rw[Kf a];omega)).mono ?_;rintro u L ⟨rfl,rfl⟩;rw[show(Pg.Da (⟨(a.take 1).1.toArray⟩:hJ).data.toList)=a.byte by simp[Cur.byte]];obtain⟨p,I⟩:=f.o.cells;by_cases m:a.byte<128
   ·by_cases k:(a.take 1).2.bad=true
    ·have c:=Aa (l.o.symm.trans (Hi _ _ _ _ _ m (.inl k)));rw[k]at p;generalize a.byte=b at*;generalize(a.take 1).2=n at*;go_wp2_with fail;go_ret;rw[c.o];exact⟨rfl,f.o.bad,Aw j.o (Be _ _ _ _)⟩
    ·have A:(a.take 1).2.bad=false:=(by simpa using k);rw[A]at p;by_cases d:(a.byte=0/\false=false)\/2147483647<g+a.byte % 128*2097152
     ·have c:=Aa (l.o.symm.trans (Hi _ _ _ _ _ m (.inr d)));generalize a.byte=b at*;generalize(a.take 1).2=n at*;by_cases i:b=0
      ·have q:((b:Int)==0)=true:=(by simpa using i);go_wp2_with fail;go_ret;rw[c.o];exact⟨rfl,f.o.bad,Aw j.o (Be _ _ _ _)⟩
      ·exfalso;rcases d with h|h
       ·exact i h.1
       ·omega
     ·have c:=Aa (l.o.symm.trans (Mx _ _ _ _ _ m (fun C=>C.elim (fun e=>k e) d)));generalize a.byte=b at*;generalize(a.take 1).2=n at*;by_cases i:b=0
      ·have q:((b:Int)==0)=true:=(by simpa using i);have B:g+b % 128*2097152<=2147483647:=O_;have D:=Aa d;clear d;exact absurd (.inl ⟨i,rfl⟩) D.o
      ·have q:((b:Int)==0)=false:=(by simpa using i);have B:g+b % 128*2097152<=2147483647:=O_;clear d;go_wp2_with fail;go_ret;rw[c.o];exact⟨Fr O_,f.o,j.o⟩
   ·have c:=Aa (l.o.symm.trans (Oz _ _ _ _ _ m));generalize a.byte=b at*;generalize(a.take 1).2=n at*;go_wp2_with fail
    go_roundw
    case rel=>exact⟨4,g+b % 128*2097152,n,O_,rfl,Je O_,rfl,by show _<268435456;omega,f.o,j.o,c.o.symm⟩
    case measure=>simp[intOf]
  ·simp only[Nat.reducePow,Nat.reduceSub]at H o⊢;have l:Hid (numberF (0+1) a g 268435456 false=z.number):=o;clear o;go_wp2_with fail;refine(Ha y 1 a _ F.o O_).mono ?_;rintro u J ⟨rfl,s,t⟩;have f:=Aa s;have j:=Aa (Aw G.o t);clear s t;go_wp2_with fail;refine(Gz _ _ (by rw[Kf a];omega)).mono ?_;rintro u L ⟨rfl,rfl⟩;rw[show(Pg.Da (⟨(a.take 1).1.toArray⟩:hJ).data.toList)=a.byte by simp[Cur.byte]];obtain⟨p,I⟩:=f.o.cells;by_cases m:a.byte<128
   ·by_cases k:(a.take 1).2.bad=true
    ·have c:=Aa (l.o.symm.trans (Hi _ _ _ _ _ m (.inl k)));rw[k]at p;generalize a.byte=b at*;generalize(a.take 1).2=n at*;go_wp2_with fail;go_ret;rw[c.o];exact⟨rfl,f.o.bad,Aw j.o (Be _ _ _ _)⟩
    ·have A:(a.take 1).2.bad=false:=(by simpa using k);rw[A]at p;by_cases d:(a.byte=0/\false=false)\/2147483647<g+a.byte % 128*268435456
     ·have c:=Aa (l.o.symm.trans (Hi _ _ _ _ _ m (.inr d)));generalize a.byte=b at*;generalize(a.take 1).2=n at*;by_cases i:b=0
      ·have q:((b:Int)==0)=true:=(by simpa using i);go_wp2_with fail;go_ret;rw[c.o];exact⟨rfl,f.o.bad,Aw j.o (Be _ _ _ _)⟩
      ·have q:((b:Int)==0)=false:=(by simpa using i);have X:2147483647<g+b % 128*268435456:=O_;clear d;go_wp2_with fail;go_ret;rw[c.o];exact⟨rfl,f.o.bad,Aw j.o (Be _ _ _ _)⟩
     ·have c:=Aa (l.o.symm.trans (Mx _ _ _ _ _ m (fun C=>C.elim (fun e=>k e) d)));generalize a.byte=b at*;generalize(a.take 1).2=n at*;by_cases i:b=0
      ·have q:((b:Int)==0)=true:=(by simpa using i);have B:g+b % 128*268435456<=2147483647:=O_;have D:=Aa d;clear d;exact absurd (.inl ⟨i,rfl⟩) D.o
      ·have q:((b:Int)==0)=false:=(by simpa using i);have B:g+b % 128*268435456<=2147483647:=O_;clear d;go_wp2_with fail;go_ret;rw[c.o];exact⟨Fr O_,f.o,j.o⟩
   ·have c:=Aa (l.o.symm.trans (Oz _ _ _ _ _ m));generalize a.byte=b at*;generalize(a.take 1).2=n at*;go_wp2_with fail
    go_roundw
    case rel=>exact⟨5,g+b % 128*268435456,n,O_,rfl,Je O_,rfl,by show _<34359738368;omega,f.o,j.o,c.o.symm⟩
    case measure=>simp[intOf]
theorem Yg(c b:Nat)(a:Cur)(w:World)(g:Iu w c a)(u:b<=1000000000):
  Calls Tryz.prog 210 #[A_ c,J_ b] w fun f d=>f=R_ (B_ ⟨(a.text b).1.toArray⟩)/\Iu d c (a.text b).2/\But c w d:=by
 have m:=Aa g;clear g;have p:=II a;go_in;go_wp2_with fail;refine(CX c a _ m.o).mono ?_;rintro f s ⟨rfl,d,j⟩;have g:=Aa d;have i:=Aa j;obtain⟨q,r⟩:=d.cells;clear d j;by_cases j:b<a.number.1
 ·have d:Hid (a.text b=([],⟨a.number.2.rem,true⟩)):=by show _=_;unfold Cur.text;rw[xD j]
  generalize a.number.1=k at*;generalize a.number.2=l at*;go_wp2_with fail;go_ret;rw[d.o];exact⟨rfl,g.o.bad,Aw i.o (Be _ _ _ _)⟩
 ·have d:Hid (a.text b=a.number.2.take a.number.1):=by show _=_;unfold Cur.text;rw[xB j]
  generalize a.number.1=k at*;generalize a.number.2=l at*;go_wp2_with fail;refine(Ha c k l _ g.o O_).mono ?_;rintro f t ⟨rfl,n,o⟩;go_wp2_with fail;go_ret;rw[d.o];exact⟨rfl,n,Aw i.o o⟩
theorem KZ(g:Nat)(d:Cur)(w:World)(m:Iu w g d):
  Calls Tryz.prog 211 #[A_ g] w fun a b=>a=R_ (.bool d.ends)/\∃a,b=w.drewN a:=by
 obtain⟨a,b,c,k,o,f⟩:=m;have i:=Sy f k;obtain⟨p,q,r,s,t⟩:=c.cells;clear c f;obtain⟨c,l⟩:=d;simp only at*
 cases l with
 | true=>
  have n:(!true)=false:=rfl;go_in;go_wp2_with fail;go_quiet (fail);go_wp2_with fail;go_ret;exact⟨rfl,_,rfl⟩
 | false=>
  have f:Hid ((⟨c,false⟩:Cur).ends=((b:Int)==(a.size:Int))):=by
   show _=_;unfold Cur.ends;by_cases h:b=a.size
   ·have h0:c=[]:=zA.1 O_;subst h0;simp[h]
   ·have h0:c≠[]:=fun e=>by subst e;simp at i;omega
    have j:((b:Int)==(a.size:Int))=false:=K_;rw[j];simp[h0]
  go_in;go_wp2_with fail;go_quiet (fail);go_wp2_with fail;go_ret;rw[f.o];exact⟨rfl,_,rfl⟩
theorem Rr(b a:hJ)(w:World)(b1:b.size<=1000)(b2:a.size<=1000000000):
  Calls Tryz.prog 208 #[B_ b,B_ a] w fun j b8=>j=R_ (.tuple #[B_ ⟨(content b.data.toList a.data.toList).1.toArray⟩,.bool (content b.data.toList a.data.toList).2])/\Below w.heap.size w b8:=by
 have c0:=II (Hf a.data.toList).2;have c1:(Ke a.data.toList).1.length<=1000000000:=Um _ _ (by rw[Ah];exact b2);have c2:=Aa (Ah a);go_in;go_wp2_with fail;refine(Ha w.heap.size 1 ⟨a.data.toList,false⟩ _ (We a w b2) O_).mono ?_;rintro j c7 ⟨rfl,Z,a0⟩;rw[show(⟨a.data.toList,false⟩:Cur).take 1=Ka a.data.toList from rfl]at*;have L:=Aa Z;have M:=Aa a0;clear Z a0;go_wp2_with fail;refine(Ha w.heap.size 1 _ _ L.o O_).mono ?_;rintro j c8 ⟨rfl,a1,a2⟩;rw[show(Ka a.data.toList).2.take 1=Hf a.data.toList from rfl]at*;have N:=Aa a1;have O:=Aa (Aw M.o a2);clear a1 a2;go_wp2_with fail;refine(Gz _ _ (by rw[Ba];unfold Hf;rw[CE _ 1 Do];omega)).mono ?_;rintro j c9 ⟨rfl,rfl⟩;rw[show Pg.Da (⟨(Hf a.data.toList).1.toArray⟩:hJ).data.toList=Pg.Da (Hf a.data.toList).1 by simp];have c3:Pg.Da (Hf a.data.toList).1<256:=Sx (Ka a.data.toList).2;go_wp2_with fail;refine(CX w.heap.size _ _ N.o).mono ?_;rintro j d0 ⟨rfl,a3,a4⟩;rw[show(Hf a.data.toList).2.number=Oy a.data.toList from rfl]at*;have R:=Aa a3;have S:=Aa (Aw O.o a4);clear a3 a4;go_wp2_with fail;refine(Yg w.heap.size a.size _ _ R.o O_).mono ?_;rintro j d1 ⟨rfl,a5,a6⟩;rw[show(Oy a.data.toList).2.text a.size=Ke a.data.toList by unfold Ke;rw[Ah]]at*;have T:=Aa a5;have U:=Aa (Aw S.o a6);clear a5 a6;go_wp2_with fail;refine(Ha w.heap.size 4 _ _ T.o O_).mono ?_;rintro j b4 ⟨rfl,a7,a8⟩;rw[show(Ke a.data.toList).2.take 4=Pt a.data.toList from rfl]at*;have V:=Aa a7;have W:=Aa (Aw U.o a8);clear a7 a8;go_wp2_with fail;refine(KZ w.heap.size _ _ V.o).mono ?_;rintro j b5 ⟨rfl,a9,rfl⟩;have l:=Aa (KT (Aw W.o (Jn _ _ a9)));have C:=l.o.size;generalize b9:b4.drewN a9=b5 at*;clear b9;clear L N R T V M O S U W;by_cases d:(Pt a.data.toList).2.ends=false\/(Ka a.data.toList).1≠b.data.toList\/1<Pg.Da (Hf a.data.toList).1
 ·have i:=Aa (Ul d);by_cases B:(Pt a.data.toList).2.ends=false
  ·rw[B];generalize(Ka a.data.toList).1=t at*;generalize Pg.Da (Hf a.data.toList).1=u at*;generalize(Ke a.data.toList).1=g at*;generalize(Oy a.data.toList).1=y at*;clear d;go_wp2_with fail;go_ret2;rw[i.o];exact⟨rfl,l.o⟩
  ·have D:(Pt a.data.toList).2.ends=true:=(by simpa using B);rw[D];by_cases m:(Ka a.data.toList).1=b.data.toList
   ·have b3:1<Pg.Da (Hf a.data.toList).1:=by
     rcases d with h|h|h
     ·exact absurd h B
     ·exact absurd m h
     ·exact h
    have X:(!(Ka a.data.toList).1==b.toList)=false:=(by rw[Af,m];simp);clear d m B;generalize(Ka a.data.toList).1=t at*;generalize Pg.Da (Hf a.data.toList).1=u at*;generalize(Ke a.data.toList).1=g at*;generalize(Oy a.data.toList).1=y at*;go_wp2_with fail;go_ret2;rw[i.o];exact⟨rfl,l.o⟩
   ·have X:(!(Ka a.data.toList).1==b.toList)=true:=(by rw[Af];simpa using m);clear d m B;generalize(Ka a.data.toList).1=t at*;generalize Pg.Da (Hf a.data.toList).1=u at*;generalize(Ke a.data.toList).1=g at*;generalize(Oy a.data.toList).1=y at*;go_wp2_with fail;go_ret2;rw[i.o];exact⟨rfl,l.o⟩
 ·have D:(Pt a.data.toList).2.ends=true:=by
   cases h:(Pt a.data.toList).2.ends with
   | true=>rfl
   | false=>exact absurd (.inl h) d
  have m:(Ka a.data.toList).1=b.data.toList:=kH fun h=>d (.inr (.inl h))
  have b3:¬1<Pg.Da (Hf a.data.toList).1:=fun h=>d (.inr (.inr h))
  have X:(!(Ka a.data.toList).1==b.toList)=false:=by rw[Af,m];simp
  rw[D];clear m D;by_cases q:Pg.Da (Hf a.data.toList).1=1
  ·rcases KU (Ke a.data.toList).1 with⟨f,r,s⟩|⟨c,f,r,s⟩
   ·have i:=Aa (Pu d q f);have F:=Aa r;have G:=Aa s;clear d f r s;generalize(Ka a.data.toList).1=t at*;generalize Pg.Da (Hf a.data.toList).1=u at*;generalize(Ke a.data.toList).1=g at*;generalize(Oy a.data.toList).1=y at*;subst q;go_wp2_with fail;refine(Om ⟨g.toArray⟩ _ (by rw[Ba];omega)).mono ?_;rintro j b0 ⟨rfl,n⟩;have o:=Aa (l.o.trans (n.mono C));clear n;rw[show(⟨g.toArray⟩:hJ).data.toList=g by simp,F.o,G.o];go_wp2_with fail;go_ret2;rw[i.o];exact⟨rfl,o.o⟩
   ·have c4:c.length<=66*(Ke a.data.toList).1.length:=by
     unfold Ev at f;split at f
     ·rename_i d2 b7;have:=Mn _ _ _ b7;split at f
      ·simp at f;subst f;simpa using this
      ·simp at f
     ·simp at f
    have F:=Aa r;have G:=Aa s;by_cases H:c.length=(Oy a.data.toList).1
    ·have i:=Aa (Mg d q f H);clear d f r s;generalize(Ka a.data.toList).1=t at*;generalize Pg.Da (Hf a.data.toList).1=u at*;generalize(Ke a.data.toList).1=g at*;generalize(Oy a.data.toList).1=y at*;subst q;subst H;go_wp2_with fail;refine(Om ⟨g.toArray⟩ _ (by rw[Ba];omega)).mono ?_;rintro j b0 ⟨rfl,n⟩;have o:=Aa (l.o.trans (n.mono C));have Y:=o.o.size;clear n;rw[show(⟨g.toArray⟩:hJ).data.toList=g by simp,F.o,G.o];go_wp2_with fail;refine(Lt b ⟨c.toArray⟩ _ b1 (by rw[Ba];omega)).mono ?_;rintro j b6 ⟨rfl,A⟩;have z:=Aa (o.o.trans (A.mono Y));clear A;rw[show(⟨c.toArray⟩:hJ).data.toList=c by simp];by_cases k:Pg.Ar b.data.toList c=a.data.toList
     ·have p:=Aa k;have I:(Pg.Ar b.data.toList c==a.toList)=true:=(by rw[Af];simpa using k);clear k;generalize Pg.Ar b.data.toList c=J at*;go_wp2_with fail;go_ret2;rw[i.o,xQ p.o];exact⟨rfl,z.o⟩
     ·have p:=Aa k;have I:(Pg.Ar b.data.toList c==a.toList)=false:=(by rw[Af];simpa using k);clear k;generalize Pg.Ar b.data.toList c=J at*;go_wp2_with fail;go_ret2;rw[i.o,xN p.o];exact⟨rfl,z.o⟩
    ·have i:=Aa (Pv d q f H);have c5:(((c.length:Int)) !=(((Oy a.data.toList).1:Nat):Int))=true:=(by rw[bne_iff_ne];omega);clear d f r s H;generalize(Ka a.data.toList).1=t at*;generalize Pg.Da (Hf a.data.toList).1=u at*;generalize(Ke a.data.toList).1=g at*;generalize(Oy a.data.toList).1=y at*;subst q;go_wp2_with fail;refine(Om ⟨g.toArray⟩ _ (by rw[Ba];omega)).mono ?_;rintro j b0 ⟨rfl,n⟩;have o:=Aa (l.o.trans (n.mono C));have Y:=o.o.size;clear n;rw[show(⟨g.toArray⟩:hJ).data.toList=g by simp,F.o,G.o];go_wp2_with fail;go_ret2;rw[i.o];exact⟨rfl,o.o⟩
  ·have i:=Aa (Lr d q);have c6:((Pg.Da (Hf a.data.toList).1:Int)==1)=false:=K_;clear d;generalize(Ka a.data.toList).1=t at*;generalize Pg.Da (Hf a.data.toList).1=u at*;generalize(Ke a.data.toList).1=c at*;generalize(Oy a.data.toList).1=y at*;go_wp2_with fail;refine(Lt b ⟨c.toArray⟩ _ b1 (by rw[Ba];omega)).mono ?_;rintro j b6 ⟨rfl,A⟩;have z:=Aa (l.o.trans (A.mono C));clear A;rw[show(⟨c.toArray⟩:hJ).data.toList=c by simp];by_cases k:Pg.Ar b.data.toList c=a.data.toList
   ·have p:=Aa k;have I:(Pg.Ar b.data.toList c==a.toList)=true:=(by rw[Af];simpa using k);clear k;generalize Pg.Ar b.data.toList c=J at*;go_wp2_with fail;go_ret2;rw[i.o,xQ p.o];exact⟨rfl,z.o⟩
   ·have p:=Aa k;have I:(Pg.Ar b.data.toList c==a.toList)=false:=(by rw[Af];simpa using k);clear k;generalize Pg.Ar b.data.toList c=J at*;go_wp2_with fail;go_ret2;rw[i.o,xN p.o];exact⟨rfl,z.o⟩
def Ago(w:World)(l:hE)(r:Ending)(w':World):Prop:=Below w.heap.size w w'/\((Pg.Gu l=none/\∃a1 n1 c1 a2 n2 c2,r=R_ (.tuple #[.agg #[L_ a1 n1 c1,L_ a2 n2 c2],.bool false]))\/∃ks ss vk vs B,Pg.Gu l=some (Ag ks,Ag ss)/\r=R_ (.tuple #[.agg #[vk,vs],.bool true])/\Bc B w' vk ks/\Bc B w' vs ss)
theorem SQ(a:hJ)(w:World)(n7:a.size<=1000000000):
  Calls Tryz.prog 152 #[B_ a] w fun Z e2=>Ago w a.data.toList Z e2:=by
 have e7:=Aa (XV w);by_cases n3:a.size<68
 ·have m:=Aa (IK (l:=a.data.toList) (by unfold Pg.Mi;rw[xN (by rw[Ah];omega)];rfl));go_in;go_wp2_with fail;exact yS (v:=.tuple #[.agg #[Z_,Z_],.bool false]) (by simp[results,go_sem]) rfl ⟨e7.o.bel,.inl ⟨m.o,_,_,_,_,_,_,rfl⟩⟩
 ·have H:3<a.size:=O_;have k5:(a[3]'H).toNat<256:=(a[3]'H).toNat_lt;have c8:Hid (Pg.Mh a.data.toList=(a[3]'H).toNat):=by show _=_;unfold Pg.Mh;rw[jH,Kb a 3 H];rfl
  have h3:Hid ((a.extract 0 64).data.toList=a.data.toList.take 64):=by show _=_;rw[zZ];simp
  go_in;go_wp2_with fail;refine(Jh (a.extract 0 64) _ (by rw[zM];omega)).mono ?_;rintro Z n0 ⟨rfl,g1⟩;have c9:=Aa (e7.o.below g1);clear g1;rw[h3.o];obtain⟨n,o,p,q,y,z,A,B⟩:=c9.o.cells;have k6:(3:Int)<(a.size:Int):=O_
  by_cases J:Pg.Mi a.data.toList=true
  ·have h4:Hid (Pg.Gu a.data.toList=Ec a.data.toList (a[3]'H).toNat 4 0 68 [] []):=by
    show _=_;unfold Pg.Gu;rw[xD J,c8.o]
   have I:(a.extract 0 3).data.toList=[83,50,76]/\Pg.sealed (a.data.toList.take 64)=(a.extract 0 68).data.toList/\(a[3]'H).toNat<=4:=(by rw[zZ,zZ,<-c8.o];simp only[qR,fB];unfold Pg.Mi at J;simp only[yK,yL]at J;exact⟨J.1.1.2,J.1.2,J.2⟩);have d0:(!(a.extract 0 3).toList==[83,50,76])=false:=(by rw[Af,I.1];rfl);have d1:(!Pg.sealed (a.data.toList.take 64)==(a.extract 0 68).toList)=false:=(by rw[Af,I.2.1];simp);have k7:=I.2.2;clear I J;generalize Pg.sealed (a.data.toList.take 64)=c7 at*;generalize g8:(a[3]'H).toNat=a3 at*;go_wp2_with fail;have k8:=Aa g8;clear d0 d1 g8 n o p q y z A B
   go_loopw [7,8] (fun k2 e3 wr=>∃(c b:Nat) (g j:hD) (f4 f5:Value),c<=4/\b<=a.size/\e3=J_ c/\k2=J_ b/\g.length=min c a3/\j.length=min c a3/\Hdr w wr g j f4 f5/\Ec a.data.toList a3 (4-c) c b (Ag g) (Ag j)=Pg.Gu a.data.toList) (fun _ e3 _=>4-(intOf e3).toNat)
   case atStart=>exact⟨0,68,[],[],_,_,O_,O_,rfl,rfl,D_,D_,c9.o,h4.o.symm⟩
   case round=>
    obtain⟨c,b,g,j,f4,f5,m7,i7,rfl,rfl,f6,f7,W,f8⟩:=hrel;obtain⟨N,D,i8⟩:=W.keys.shape;obtain⟨F,G,i9⟩:=W.secs.shape;subst i8 i9;have M:=Aa W;have t:=Aa f8;have c0:=Aa f6;have a4:=Aa f7;have l:=Aa W.o;obtain⟨n,o,p,q,y,z,A,B⟩:=W.cells;clear W f8 f6 f7;by_cases n4:c<4
    ·obtain⟨d8,f9⟩:∃d8,4-c=d8+1:=⟨3-c,O_⟩;rw[f9]at t;have d2:Hid (d8=4-(c+1)):=(by show _=_;omega);clear f9;have h5:(a.extract (4+15*c) (19+15*c)).size=15:=(by rw[zM];omega);have V:Hid ((a.extract (4+15*c) (19+15*c)).data.toList=ent a.data.toList c):=by
      show _=_;unfold ent;rw[zZ,show 19+15*c-(4+15*c)=15 by omega]
     have k9:(0:Int)<=4+15*(c:Int):=O_;have l0:(19:Int)+15*(c:Int)<=(a.size:Int):=O_;go_wp2_with fail;generalize a.extract (4+15*c) (19+15*c)=e at*;refine(Gz (e.extract 0 2) _ (by rw[zM];omega)).mono ?_;rintro Z n1 ⟨rfl,rfl⟩;have c1:Hid (Ft (ent a.data.toList c)=Pg.Da (e.extract 0 2).data.toList):=(by show _=_;unfold Ft;rw[<-V.o,zZ];simp);have h6:=Pg.Nx (e.extract 0 2).data.toList 2 (by rw[Ah,zM];omega);rw[show(256:Nat)^2=65536 from rfl]at h6;generalize Pg.Da (e.extract 0 2).data.toList=f at*;have a5:2<e.size:=O_;have l1:(e[2]'a5).toNat<256:=(e[2]'a5).toNat_lt;have a6:Hid (Vt (ent a.data.toList c)=(e[2]'a5).toNat):=(by show _=_;unfold Vt;rw[<-V.o,jH,Kb e 2 a5];rfl);generalize n5:(e[2]'a5).toNat=d at*;have l2:(2:Int)<(e.size:Int):=O_;by_cases L:a3<=c
     ·go_wp2_with fail;refine(Jp 15 _ O_).mono ?_;rintro Z n2 ⟨rfl,g2⟩;have k:=Aa (M.o.below g2);have i:=Aa k.o.o;obtain⟨n,o,p,q,y,z,A,B⟩:=k.o.cells;clear g2;by_cases a0:ent a.data.toList c=List.replicate 15 0
      ·have a7:=Aa ((NP _ _ _ _ _ _ _ L a0).symm.trans t.o);have c2:(!e.toList==List.replicate 15 0)=false:=(by rw[Af,V.o,a0];simp);clear a0;generalize List.replicate 15 (0:UInt8)=b9 at*;go_wp2_with fail
       go_roundw
       case rel=>exact⟨c+1,b,g,j,_,_,O_,i7,W_,rfl,by rw[c0.o];omega,by rw[a4.o];omega,k.o,by rw[<-d2.o];exact a7.o⟩
       case measure=>simp[intOf];omega
      ·have m:=Aa (t.o.symm.trans (Zm _ _ _ _ _ _ _ L a0));have c2:(!e.toList==List.replicate 15 0)=true:=(by rw[Af,V.o];simpa using a0);clear a0;generalize List.replicate 15 (0:UInt8)=b9 at*;go_wp2_with fail;refine yS (v:=.tuple #[.agg #[L_ N g.length D,L_ F j.length G],.bool false]) ?_ rfl ⟨i.o.2.2.1,.inl ⟨m.o,_,_,_,_,_,_,rfl⟩⟩;have r:=i.o.1;have s:=i.o.2.1;simp[results,go_sem,r,s]
     ·by_cases g3:d<1
      ·have m:=Aa (t.o.symm.trans (Vu _ _ _ _ _ _ _ L (by unfold Jf;rw[a6.o,xQ g3];rfl)));have e8:decide ((d:Int)<1)=true:=K_;go_wp2_with fail;go_quiet (fail);have i:=Aa (M.o.drewN nq).o;go_wp2_with fail;refine yS (v:=.tuple #[.agg #[L_ N g.length D,L_ F j.length G],.bool false]) ?_ rfl ⟨i.o.2.2.1,.inl ⟨m.o,_,_,_,_,_,_,rfl⟩⟩;have r:=i.o.1;have s:=i.o.2.1;simp[results,go_sem,r,s]
      ·by_cases g4:12<d
       ·have m:=Aa (t.o.symm.trans (Vu _ _ _ _ _ _ _ L (by unfold Jf;rw[a6.o,xQ g4];simp)));have e8:decide ((d:Int)<1)=false:=K_;have h7:decide ((12:Int)<(d:Int))=true:=K_;go_wp2_with fail;go_quiet (fail);have i:=Aa (M.o.drewN nq).o;go_wp2_with fail;refine yS (v:=.tuple #[.agg #[L_ N g.length D,L_ F j.length G],.bool false]) ?_ rfl ⟨i.o.2.2.1,.inl ⟨m.o,_,_,_,_,_,_,rfl⟩⟩;have r:=i.o.1;have s:=i.o.2.1;simp[results,go_sem,r,s]
       ·have e8:decide ((d:Int)<1)=false:=K_;have h7:decide ((12:Int)<(d:Int))=false:=K_;have l3:(0:Int)<=3+(d:Int):=O_;have l4:(3:Int)+(d:Int)<=15:=O_;have l5:IntKind.i64.wrap (3+(d:Int))=3+(d:Int):=zY _ ⟨O_,O_⟩;have l6:IntKind.i64.wrap (12-(d:Int))=((12-d:Nat):Int):=(by rw[zY _ ⟨O_,O_⟩];omega);have l7:IntKind.i64.wrap ((b:Int)+(f:Int))=(b:Int)+(f:Int):=zY _ ⟨O_,O_⟩;have l8:(3+(d:Int)).toNat=3+d:=O_;have c3:∀b6,Calls Tryz.prog 90 #[J_ ((12-d:Nat):Int)] b6 fun Z e2=>Z=R_ (B_ ⟨(List.replicate (12-d) (0:UInt8)).toArray⟩)/\Below b6.heap.size b6 e2:=fun b6=>Jp (12-d) b6 O_
        have e9:Hid ((e.extract (3+d) 15).data.toList=(ent a.data.toList c).drop (3+d)):=(by show _=_;rw[<-h5,Jl,V.o]);generalize g9:(12-d:Nat)=k3 at*;have f0:=Aa g9;clear g9;generalize h1:List.replicate k3 (0:UInt8)=b9 at*;have f1:=Aa h1;clear h1;by_cases b7:(ent a.data.toList c).drop (3+d)=b9
        ·have c2:(!(e.extract (3+d) 15).toList==b9)=false:=(by rw[Af,e9.o];simpa using b7);by_cases g5:a.size<b+f
         ·have m:=Aa (t.o.symm.trans (Vu _ _ _ _ _ _ _ L (by unfold Jf;rw[c1.o,Ah,xQ g5];simp)));have h8:decide ((a.size:Int)<(b:Int)+(f:Int))=true:=K_;go_wp2_with fail;refine aU S_ S_ ?_
          repeat(quiet_step (exact wV (c3 _)))
          refine aT ?_;intro c6 b3;obtain⟨⟨b1,b2⟩,O⟩:=b3;have k:=Aa (M.o.below (O▸aM _ b1 b2));have i:=Aa k.o.o;clear O n o p q y z A B;obtain⟨n,o,p,q,y,z,A,B⟩:=k.o.cells;go_wp2_with fail;refine yS (v:=.tuple #[.agg #[L_ N g.length D,L_ F j.length G],.bool false]) ?_ rfl ⟨i.o.2.2.1,.inl ⟨m.o,_,_,_,_,_,_,rfl⟩⟩;have r:=i.o.1;have s:=i.o.2.1;simp[results,go_sem,r,s]
         ·have d3:Hid (Jf (ent a.data.toList c) b a.data.toList.length=false):=by
           show _=_;unfold Jf;rw[a6.o,f0.o,f1.o,c1.o,Ah,xN g3,xN g4,xN g5,xN (by simpa using b7)];rfl
          have h8:decide ((a.size:Int)<(b:Int)+(f:Int))=false:=K_;go_wp2_with fail;refine aU S_ S_ ?_
          repeat(quiet_step (exact wV (c3 _)))
          refine aT ?_;intro c6 b3;obtain⟨⟨b1,b2⟩,O⟩:=b3;have k:=Aa (M.o.below (O▸aM _ b1 b2));have i:=Aa k.o.o;clear O n o p q y z A B;obtain⟨n,o,p,q,y,z,A,B⟩:=k.o.cells;clear c2 b7 c3;have d4:Hid ((e.extract 3 (3+d)).data.toList=Ez (ent a.data.toList c)):=(by show _=_;unfold Ez;rw[a6.o,<-V.o,zZ,show 3+d-3=d by omega]);have c4:g.length=c:=(by rw[c0.o];omega);by_cases g6:c=0
          ·have d5:Hid (Ly c (Ag g) (Ez (ent a.data.toList c))=false):=by
            show _=_;unfold Ly;rw[xN O_];rfl
           have h9:decide ((0:Int)<(c:Int))=false:=K_;have a7:Hid (Ec a.data.toList a3 (4-(c+1)) (c+1) (b+f) (Ag (g++[e.extract 3 (3+d)])) (Ag (j++[a.extract b (b+f)]))=Pg.Gu a.data.toList):=(by show _=_;rw[<-t.o,CG _ _ _ _ _ _ _ L d3.o d5.o,<-d2.o,c1.o,My,My,d4.o,zZ,show b+f-b=f by omega]);have d6:=Aa c4;have l9:¬0<c:=O_;clear c4 g6
           go_wp2_with (first
            | (at_builtin;refine IJ c6 rfl (.tmp 105) (.tmp 107) rfl (w.heap.size+2) (L_ N g.length D) g rfl k.o.keys (e.extract 3 (3+d)) rfl (by rw[d6.o];omega) k.o.sz ?_))
           intro j9 e1 T X b4;obtain⟨d9,e0,rfl⟩:=T.shape;generalize e4:(g++[e.extract 3 (3+d)]).length=e6 at*;clear e4;have R:=Aa (k.o.apK T X b4);clear T X b4 n o p q y z A B;obtain⟨n,o,p,q⟩:=k.o.mid R.o.1;go_wp2_with fail;have a8:=Aa R.o.2;clear R n o p q i k l M;generalize e1.setCell (Q_ (w.heap.size+1) 0) (L_ d9 e6 e0)=C at*;obtain⟨n,o,p,q,-,-,-,-⟩:=a8.o.cells;have i0:(b:Int)<=(b:Int)+(f:Int):=O_;have i1:(b:Int)+(f:Int)<=(a.size:Int):=O_;have i2:(0:Int)<=(b:Int)+(f:Int):=O_;have i3:((b:Int)+(f:Int)).toNat=b+f:=O_;have u:=Aa (a8.o.below (((xA _ C).alloc X_ (C_ #[B_ (a.extract b (b+f))] 9)).drew));have d7:Hid (((C.alloc (C_ #[B_ (a.extract b (b+f))] 9)).drew).cell? (Q_ C.heap.size 0)=some (B_ (a.extract b (b+f)))):=(by exact Vx C _ _);obtain⟨-,j0,-,j1,-,-,-,-⟩:=u.o.cells
           go_region_law (refine Vw _ (by rfl) (.tmp 111) (.tmp 118) (by rfl) (w.heap.size+2) (L_ F j.length G) j U_ u.o.secs (a.extract b (b+f)) C.heap.size U_ d7.o (by rw[a4.o];omega) u.o.sz ?_;intro k0 k1 U Y b5;obtain⟨j2,j3,rfl⟩:=U.shape;generalize e5:(j++[a.extract b (b+f)]).length=k4 at*;clear e5;have a9:=Aa (u.o.apS U Y b5);obtain⟨j4,j5,j6,j7⟩:=u.o.mid a9.o.1;clear U Y b5)
           all_goals
            go_wp2_with fail
            go_roundw
            case rel=>exact⟨c+1,b+f,g++[e.extract 3 (3+d)],j++[a.extract b (b+f)],_,_,O_,O_,W_,W_,by rw[xC,c0.o];simp;omega,by rw[xC,a4.o];simp;omega,a9.o.2,a7.o⟩
            case measure=>simp[intOf];omega
          ·obtain⟨g0,m8,j8,X,Y,m9⟩:=k.o.keys.shape_pos O_;injection j8 with hge1 hge2 hge3;subst hge1 hge3;obtain⟨S,c5⟩:∃S,g[c-1]?=some S:=⟨_,xW O_⟩;have m0:=k.o.keys.cellAt (c-1) S c5;have m1:IntKind.i64.wrap ((c:Int)-1)=((c-1:Nat):Int):=(by rw[zY _ ⟨O_,O_⟩];omega);have h9:decide ((0:Int)<(c:Int))=true:=K_;have f2:Hid (Ly c (Ag g) (Ez (ent a.data.toList c))= !decide (S.data.toList<(e.extract 3 (3+d)).data.toList)):=by
            show _=_;unfold Ly;rw[xQ O_,d4.o,jH,Ag,zU,c5];rfl
           have m2:((c-1:Nat):Int)<(g.length:Int):=O_;have d6:=Aa c4;have m3:=Aa c5;have m4:0<c:=O_;clear c4 c5 g6;generalize h2:c-1=n6 at*;have m5:=Aa h2;clear h2;by_cases a1:S.data.toList<(e.extract 3 (3+d)).data.toList
           ·have d5:Hid (Ly c (Ag g) (Ez (ent a.data.toList c))=false):=by
             show _=_;rw[f2.o,xQ a1];rfl
            have i4:Op.bytesLess S.toList (e.extract 3 (3+d)).toList=true:=(by rw[Af,Af,Cj];exact xQ a1);clear a1;have a7:Hid (Ec a.data.toList a3 (4-(c+1)) (c+1) (b+f) (Ag (g++[e.extract 3 (3+d)])) (Ag (j++[a.extract b (b+f)]))=Pg.Gu a.data.toList):=by show _=_;rw[<-t.o,CG _ _ _ _ _ _ _ L d3.o d5.o,<-d2.o,c1.o,My,My,d4.o,zZ,show b+f-b=f by omega]
            go_wp2_with (first
             | (at_builtin;refine IJ c6 rfl (.tmp 105) (.tmp 107) rfl (w.heap.size+2) (L_ (P_ g0) g.length D) g rfl k.o.keys (e.extract 3 (3+d)) rfl (by rw[d6.o];omega) k.o.sz ?_))
            intro j9 e1 T X b4;obtain⟨d9,e0,rfl⟩:=T.shape;generalize e4:(g++[e.extract 3 (3+d)]).length=e6 at*;clear e4;have R:=Aa (k.o.apK T X b4);clear T X b4 n o p q y z A B;obtain⟨n,o,p,q⟩:=k.o.mid R.o.1;go_wp2_with fail;have a8:=Aa R.o.2;clear R n o p q i k l M;generalize e1.setCell (Q_ (w.heap.size+1) 0) (L_ d9 e6 e0)=C at*;obtain⟨n,o,p,q,-,-,-,-⟩:=a8.o.cells;have i0:(b:Int)<=(b:Int)+(f:Int):=O_;have i1:(b:Int)+(f:Int)<=(a.size:Int):=O_;have i2:(0:Int)<=(b:Int)+(f:Int):=O_;have i3:((b:Int)+(f:Int)).toNat=b+f:=O_;have u:=Aa (a8.o.below (((xA _ C).alloc X_ (C_ #[B_ (a.extract b (b+f))] 9)).drew));have d7:Hid (((C.alloc (C_ #[B_ (a.extract b (b+f))] 9)).drew).cell? (Q_ C.heap.size 0)=some (B_ (a.extract b (b+f)))):=(by exact Vx C _ _);obtain⟨-,j0,-,j1,-,-,-,-⟩:=u.o.cells
            go_region_law (refine Vw _ (by rfl) (.tmp 111) (.tmp 118) (by rfl) (w.heap.size+2) (L_ F j.length G) j U_ u.o.secs (a.extract b (b+f)) C.heap.size U_ d7.o (by rw[a4.o];omega) u.o.sz ?_;intro k0 k1 U Y b5;obtain⟨j2,j3,rfl⟩:=U.shape;generalize e5:(j++[a.extract b (b+f)]).length=k4 at*;clear e5;have a9:=Aa (u.o.apS U Y b5);obtain⟨j4,j5,j6,j7⟩:=u.o.mid a9.o.1;clear U Y b5)
            all_goals
             go_wp2_with fail
             go_roundw
             case rel=>exact⟨c+1,b+f,g++[e.extract 3 (3+d)],j++[a.extract b (b+f)],_,_,O_,O_,W_,W_,by rw[xC,c0.o];simp;omega,by rw[xC,a4.o];simp;omega,a9.o.2,a7.o⟩
             case measure=>simp[intOf];omega
           ·have m:=Aa (t.o.symm.trans (VN _ _ _ _ _ _ _ L d3.o (by rw[f2.o,xN a1];rfl)));have i4:Op.bytesLess S.toList (e.extract 3 (3+d)).toList=false:=(by rw[Af,Af,Cj];exact xN a1);clear a1;go_wp2_with fail;refine yS (v:=.tuple #[.agg #[L_ (P_ g0) g.length D,L_ F j.length G],.bool false]) ?_ rfl ⟨i.o.2.2.1,.inl ⟨m.o,_,_,_,_,_,_,rfl⟩⟩;have r:=i.o.1;have s:=i.o.2.1;simp[results,go_sem,r,s]
        ·have m:=Aa (t.o.symm.trans (Vu _ _ _ _ _ _ _ L (by unfold Jf;rw[a6.o,f0.o,f1.o,xQ b7];simp)));have c2:(!(e.extract (3+d) 15).toList==b9)=true:=(by rw[Af,e9.o];simpa using b7);go_wp2_with fail;refine aU S_ S_ ?_
         repeat(quiet_step (exact wV (c3 _)))
         refine aT ?_;intro c6 b3;obtain⟨⟨b1,b2⟩,O⟩:=b3;have k:=Aa (M.o.below (O▸aM _ b1 b2));have i:=Aa k.o.o;clear O n o p q y z A B;obtain⟨n,o,p,q,y,z,A,B⟩:=k.o.cells;go_wp2_with fail;refine yS (v:=.tuple #[.agg #[L_ N g.length D,L_ F j.length G],.bool false]) ?_ rfl ⟨i.o.2.2.1,.inl ⟨m.o,_,_,_,_,_,_,rfl⟩⟩;have r:=i.o.1;have s:=i.o.2.1;simp[results,go_sem,r,s]
    ·obtain rfl:c=4:=O_;have f3:=Aa (t.o.symm.trans (VM _ _ _ _ _ _));by_cases g7:b=a.size
     ·have i5:Hid (Pg.Gu a.data.toList=some (Ag g,Ag j)):=by
       show _=_;rw[f3.o,xD (by rw[Ah];exact g7)]
      have i6:decide ((b:Int)=(a.size:Int))=true:=K_;go_wp2_with fail;refine yS (v:=.tuple #[.agg #[L_ N g.length D,L_ F j.length G],.bool true]) ?_ rfl ⟨l.o.2.2.1,.inr ⟨g,j,_,_,w.heap.size+2,i5.o,rfl,l.o.2.2.2.1,l.o.2.2.2.2⟩⟩;have r:=l.o.1;have s:=l.o.2.1;simp[results,go_sem,r,s]
     ·have m:Hid (Pg.Gu a.data.toList=none):=by
       show _=_;rw[f3.o,xB (by rw[Ah];exact g7)]
      have i6:decide ((b:Int)=(a.size:Int))=false:=K_;go_wp2_with fail;refine yS (v:=.tuple #[.agg #[L_ N g.length D,L_ F j.length G],.bool false]) ?_ rfl ⟨l.o.2.2.1,.inl ⟨m.o,_,_,_,_,_,_,rfl⟩⟩;have r:=l.o.1;have s:=l.o.2.1;simp[results,go_sem,r,s];omega
  ·have b0:Pg.Mi a.data.toList=false:=(by simpa using J);have m:=Aa (IK b0);have I:(a.extract 0 3).data.toList≠[83,50,76]\/Pg.sealed (a.data.toList.take 64)≠(a.extract 0 68).data.toList\/4<(a[3]'H).toNat:=by
    rw[zZ,zZ,<-c8.o];simp only[qR,fB];unfold Pg.Mi at b0;simp only[fY,qJ,Ah]at b0;rcases b0 with((h|h)|h)|h
    ·omega
    ·exact .inl h
    ·exact .inr (.inl h)
    ·exact .inr (.inr O_)
   clear J b0;generalize Pg.sealed (a.data.toList.take 64)=c7 at*;have l:=Aa c9.o.o;by_cases a2:(a.extract 0 3).data.toList=[83,50,76]
   ·have d0:(!(a.extract 0 3).toList==[83,50,76])=false:=(by rw[Af,a2];rfl);by_cases b8:c7=(a.extract 0 68).data.toList
    ·have d1:(!c7==(a.extract 0 68).toList)=false:=(by rw[Af,b8];simp);have m6:4<(a[3]'H).toNat:=by
      rcases I with h|h|h
      ·exact absurd a2 h
      ·exact absurd b8 h
      ·exact h
     clear I a2 b8;go_wp2_with fail;exact yS (v:=.tuple #[.agg #[Z_,Z_],.bool false]) (by simp[results,go_sem,l.o.1,l.o.2.1]) rfl ⟨l.o.2.2.1,.inl ⟨m.o,_,_,_,_,_,_,rfl⟩⟩
    ·have d1:(!c7==(a.extract 0 68).toList)=true:=(by rw[Af];simpa using b8);clear I a2 b8;go_wp2_with fail;exact yS (v:=.tuple #[.agg #[Z_,Z_],.bool false]) (by simp[results,go_sem,l.o.1,l.o.2.1]) rfl ⟨l.o.2.2.1,.inl ⟨m.o,_,_,_,_,_,_,rfl⟩⟩
   ·have d0:(!(a.extract 0 3).toList==[83,50,76])=true:=(by rw[Af];simpa using a2);clear I a2;go_wp2_with fail;exact yS (v:=.tuple #[.agg #[Z_,Z_],.bool false]) (by simp[results,go_sem,l.o.1,l.o.2.1]) rfl ⟨l.o.2.2.1,.inl ⟨m.o,_,_,_,_,_,_,rfl⟩⟩
theorem BK(a:hJ)(w:World):
  Calls Tryz.prog 206 #[B_ a] w fun b c=>b=R_ (.bool (Pg.Dm a.size))/\c=w:=by
 go_in;go_wp2_with fail
 all_goals
  go_ret;refine⟨?_,rfl⟩;by_cases b:1<=a.size<;>by_cases c:a.size<=12<;>simp[Pg.Dm,b,c]<;>omega
theorem CY(c:Int)(a v:hJ)(w:World):
  Calls Tryz.prog 161 #[.agg #[J_ c,B_ a,B_ v]] w fun b d=>b=R_ (.bool (Pg.Bv c a.size v.size))/\Below w.heap.size w d:=by
 go_in;go_wp2_with fail;refine(BK a _).mono ?_;rintro b i ⟨rfl,rfl⟩;generalize f:Pg.Dm a.size=g;have d:Hid (v.toList.isEmpty=decide (v.size=0)):=by show _=_;rw[Af,<-Ah];cases v.data.toList<;>simp
 cases g
 ·go_wp2_with fail
  all_goals
   go_ret;exact⟨by simp[Pg.Bv,f],(xA _ w).alloc X_ _⟩
 ·go_wp2_with fail
  all_goals
   go_ret;refine⟨?_,(xA _ w).alloc X_ _⟩;simp[Pg.Bv,d.o, *]
   try omega
