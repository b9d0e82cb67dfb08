import Derived.Test.YtolgpnaoaodepaaGreatRefFm
set_option maxHeartbeats 1000000
set_option maxRecDepth 100000
namespace Go.Proofs.YtolgpnaoaodepaaGreat
open Go.RowKit Pg
theorem LA(v:Value)(i j k:Option Addr)(c d f l m n:Nat)(a:gY)(w:World)(c0:Fa w v a)(d5:a.length<=1000000000):
  Calls Tryz.prog 151 #[.agg #[J_ 1,v,L_ i c l,L_ j d m,L_ k f n]] w fun Z b5=>Z=R_ (.bool (Pg.Cx none (Ab a)&&decide (a.length<=16)&&decide (c=0)&&decide (d=0)&&decide (f=0)))/\Below w.heap.size w b5:=by
 rcases c0 with⟨A,B,rfl,rfl⟩|⟨C,D,F,rfl,d0,d1,a0,a1⟩
 ·have H:=Aa ((xA w.heap.size w).alloc X_ (C_ #[J_ 1,L_ A 0 B,L_ i c l,L_ j d m,L_ k f n] 79));have I:Hid ((w.alloc (C_ #[J_ 1,L_ A 0 B,L_ i c l,L_ j d m,L_ k f n] 79)).heap[w.heap.size]?=some (C_ #[J_ 1,L_ A 0 B,L_ i c l,L_ j d m,L_ k f n] 79 (0,0))):=xK _ _;go_enter fD,fG;go_wp2_with fail
  go_loopw [3] (fun y wr=>y=J_ 0/\wr.heap[w.heap.size]?=some (C_ #[J_ 1,L_ A 0 B,L_ i c l,L_ j d m,L_ k f n] 79 (0,0))/\Below w.heap.size w wr) (fun _ _=>0)
  case atStart=>exact⟨rfl,I.o,H.o⟩
  case round=>
   obtain⟨rfl,r,s⟩:=hrel;have g:=Aa s;obtain⟨a6,a7,a8,a9,b0⟩:=Dv r;clear s r;have J:Hid (Pg.Cx none (Ab [])=true):=rfl;go_wp2_with fail
   all_goals
    go_ret;refine⟨?_,g.o⟩;rw[J.o];by_cases N:c=0<;>by_cases O:d=0<;>by_cases R:f=0<;>simp[N,O,R]<;>omega
 ·have U:=Aa a1;clear a1;have H:=Aa ((xA w.heap.size w).alloc X_ (C_ #[J_ 1,L_ (some (Q_ C D)) a.length F,L_ i c l,L_ j d m,L_ k f n] 79));have I:Hid ((w.alloc (C_ #[J_ 1,L_ (some (Q_ C D)) a.length F,L_ i c l,L_ j d m,L_ k f n] 79)).heap[w.heap.size]?=some (C_ #[J_ 1,L_ (some (Q_ C D)) a.length F,L_ i c l,L_ j d m,L_ k f n] 79 (0,0))):=xK _ _;go_enter fD,fG;go_wp2_with fail
  go_loopw [3] (fun y wr=>∃b:Nat,b<=a.length/\y=J_ b/\Pg.Cx (Ic (Ab a) b) (Ab (a.drop b))=Pg.Cx none (Ab a)/\wr.heap[w.heap.size]?=some (C_ #[J_ 1,L_ (some (Q_ C D)) a.length F,L_ i c l,L_ j d m,L_ k f n] 79 (0,0))/\Below w.heap.size w wr) (fun y _=>a.length-(intOf y).toNat)
  case atStart=>exact⟨0,Y_,rfl,rfl,I.o,H.o⟩
  case round=>
   obtain⟨b,c7,rfl,Y,r,s⟩:=hrel;have o:=Aa Y;have V:=Aa r;have g:=Aa s;have c1:=s.size;obtain⟨a6,a7,a8,a9,b0⟩:=Dv r;clear Y s r;by_cases G:b<a.length
   ·obtain⟨b1,b2⟩:=U.o.below g.o a0 b G;generalize T:a[b]'G=x at*;obtain⟨p,z⟩:=x;simp only at b1 b2;have a2:Hid (Ab (a.drop b)=(p.data.toList,z.data.toList)::Ab (a.drop (b+1))):=by
     show _=_;rw[yM G,T];rfl
    have W:Hid (Ic (Ab a) (b+1)=some p.data.toList):=(by show _=_;unfold Ic Ab;rw[xB O_,qF,zU,xW G,T];rfl);clear T;rw[a2.o,VO,Ah,Ah]at o;have c2:(0:Int)<=(b:Int):=O_;have c3:(b:Int)<(a.length:Int):=O_;go_wp2_with fail;refine(BK p _).mono ?_;rintro Z c9 ⟨rfl,rfl⟩;generalize d3:Pg.Dm p.size=b8 at*
    cases b8
    ·have u:Hid (Pg.Cx none (Ab a)=false):=by
      show _=_;rw[<-o.o];rfl
     go_wp2_with fail;go_quiet (fail);go_wp2_with fail;go_ret;exact⟨by rw[u.o];rfl,Ao g.o _⟩
    ·by_cases d2:16<z.size
     ·have u:Hid (Pg.Cx none (Ab a)=false):=by
       show _=_;rw[<-o.o,xN O_];rfl
      have a3:decide ((16:Int)<(z.size:Int))=true:=K_;go_wp2_with fail;go_quiet (fail);go_wp2_with fail;go_ret;exact⟨by rw[u.o];rfl,Ao g.o _⟩
     ·have a3:decide ((16:Int)<(z.size:Int))=false:=K_;by_cases S:b=0
      ·have L:Hid (Pg.Cx (Ic (Ab a) (b+1)) (Ab (a.drop (b+1)))=Pg.Cx none (Ab a)):=by
        show _=_;rw[<-o.o,xQ O_,W.o,S];rfl
       have a4:decide (0<b)=false:=K_;clear S;go_wp2_with fail;go_quiet (fail);go_wp2_with fail
       go_roundw
       case rel=>exact⟨b+1,O_,W_,L.o,V.o,Ao g.o _⟩
       case measure=>simp[intOf];omega
      ·have a4:decide (0<b)=true:=K_;have q:b-1<a.length:=O_;obtain⟨b3,b4⟩:=U.o.below g.o a0 (b-1) q;have X:Hid (Ic (Ab a) b=some (a[b-1]'q).1.data.toList):=by
        show _=_;unfold Ic Ab;rw[xB S,zU,xW q];rfl
       generalize a[b-1]'q=b9 at*;obtain⟨M,c8⟩:=b9;simp only at b3 b4;have c4:IntKind.i64.wrap ((b:Int)-1)=((b-1:Nat):Int):=(by rw[zY _ ⟨O_,O_⟩];omega);have c5:((b-1:Nat):Int)<(a.length:Int):=O_;have c6:Hid (b-1<a.length):=q;generalize b7:b-1=d4 at*;clear b7 q;by_cases t:M.data.toList<p.data.toList
       ·have L:Hid (Pg.Cx (Ic (Ab a) (b+1)) (Ab (a.drop (b+1)))=Pg.Cx none (Ab a)):=by
         show _=_;rw[<-o.o,xQ O_,W.o,X.o];simp[Pg.Gn,t]
        have a5:Op.bytesLess M.toList p.toList=true:=(by rw[Af,Af,Cj];exact xQ t);clear t;go_wp2_with fail;go_quiet (fail);go_wp2_with fail
        go_roundw
        case rel=>exact⟨b+1,O_,W_,L.o,V.o,Ao g.o _⟩
        case measure=>simp[intOf];omega
       ·have u:Hid (Pg.Cx none (Ab a)=false):=by
         show _=_;rw[<-o.o,X.o];simp[Pg.Gn,t]
        have a5:Op.bytesLess M.toList p.toList=false:=(by rw[Af,Af,Cj];exact xN t);clear t;go_wp2_with fail;go_quiet (fail);go_wp2_with fail;go_ret;exact⟨by rw[u.o];rfl,Ao g.o _⟩
   ·obtain rfl:b=a.length:=O_;have J:Hid (Pg.Cx none (Ab a)=true):=by
     show _=_;rw[<-o.o,qQ];rfl
    go_wp2_with fail
    all_goals
     go_ret;refine⟨?_,g.o⟩;rw[J.o];by_cases b6:a.length<=16<;>by_cases N:c=0<;>by_cases O:d=0<;>by_cases R:f=0<;>simp[b6,N,O,R]<;>omega
theorem HA(o:Int)(d6:o≠1)(u:Option Addr)(q y:Nat)(b6 b7 b8:Value)(c:List Int)(b:hD)(d:gZ)(w:World)(O:Ik w b6 c.length (c.map (.int .i64)))(R:Ik w b7 b.length (b.map .string))(S:Rk w b8 d):
  Calls Tryz.prog 151 #[.agg #[J_ o,L_ u q y,b6,b7,b8]] w fun a3 d3=>a3=R_ (.bool (Pg.Az (Ag b) none&&c.all Pg.Bz&&(Ac d).all Pg.Bh&&decide (o=2)&&decide (q=0)&&decide (1<=c.length)&&decide (c.length<=4)&&decide (b.length+1=c.length)&&decide (d.length<=8)))/\Below w.heap.size w d3:=by
 obtain⟨A,B,rfl,e2,O⟩:=O;obtain⟨C,D,rfl,e3,R⟩:=R;obtain⟨F,G,rfl,e4,S⟩:=S;have b9:=Aa O;have c0:=Aa R;have c1:=Aa S;clear O R S;have d7:(o==1)=false:=by simpa using d6
 have c2:=Aa ((xA w.heap.size w).alloc X_ (C_ #[J_ o,L_ u q y,L_ A c.length B,L_ C b.length D,L_ F d.length G] 79));have c3:Hid ((w.alloc (C_ #[J_ o,L_ u q y,L_ A c.length B,L_ C b.length D,L_ F d.length G] 79)).heap[w.heap.size]?=some (C_ #[J_ o,L_ u q y,L_ A c.length B,L_ C b.length D,L_ F d.length G] 79 (0,0))):=xK _ _;go_enter fD,fG;go_wp2_with fail
 go_loopw [5] (fun n wr=>∃a:Nat,a<=b.length/\n=J_ a/\Pg.Az (Ag (b.drop a)) (Kg (Ag b) a)=Pg.Az (Ag b) none/\wr.heap[w.heap.size]?=some (C_ #[J_ o,L_ u q y,L_ A c.length B,L_ C b.length D,L_ F d.length G] 79 (0,0))/\Below w.heap.size w wr) (fun n _=>b.length-(intOf n).toNat)
 case atStart=>exact⟨0,Y_,rfl,rfl,c3.o,c2.o⟩
 case round=>
  obtain⟨a,T,rfl,r,k,l⟩:=hrel;have f:=Aa r;have j:=Aa k;have g:=Aa l;have L:=l.size;obtain⟨U,V,W,X,Y⟩:=Dv k;clear r l k;by_cases i:a<b.length
  ·obtain⟨b4,b5,M,H,s⟩:=c0.o.resolve_left O_;subst M;have a8:=Aa s;clear s;have Z:=Vy a8.o g.o H a i;generalize J:b[a]'i=m at*;have a0:Hid (Ag (b.drop a)=m.data.toList::Ag (b.drop (a+1))):=by
    show _=_;rw[yM i,J];rfl
   have a9:Hid (Kg (Ag b) (a+1)=some m.data.toList):=(by show _=_;unfold Kg Ag;rw[xB O_,qF,zU,xW i,J];rfl);clear J;rw[a0.o,Pg.Az,Ah]at f;have b0:(0:Int)<=(a:Int):=O_;have b1:(a:Int)<(b.length:Int):=O_;go_wp2_with fail;refine(BK m _).mono ?_;rintro a3 d2 ⟨rfl,rfl⟩;generalize d4:Pg.Dm m.size=a6 at*
   cases a6
   ·have p:Hid (Pg.Az (Ag b) none=false):=by
     show _=_;rw[<-f.o];rfl
    go_wp2_with fail;go_quiet (fail);go_wp2_with fail;go_ret;exact⟨by rw[p.o];rfl,Ao g.o _⟩
   ·by_cases a5:a=0
    ·have t:Hid (Pg.Az (Ag (b.drop (a+1))) (Kg (Ag b) (a+1))=Pg.Az (Ag b) none):=by
      show _=_;rw[<-f.o,a9.o,a5];rfl
     have c4:decide (0<a)=false:=K_;clear a5;go_wp2_with fail;go_quiet (fail);go_wp2_with fail
     go_roundw
     case rel=>exact⟨a+1,O_,W_,t.o,j.o,Ao g.o _⟩
     case measure=>simp[intOf];omega
    ·have c4:decide (0<a)=true:=K_;have z:a-1<b.length:=O_;have d8:=Vy a8.o g.o H (a-1) z;have b2:Hid (Kg (Ag b) a=some (b[a-1]'z).data.toList):=by
      show _=_;unfold Kg Ag;rw[xB a5,zU,xW z];rfl
     generalize b[a-1]'z=a7 at*;have d9:IntKind.i64.wrap ((a:Int)-1)=((a-1:Nat):Int):=(by rw[zY _ ⟨O_,O_⟩];omega);have e0:((a-1:Nat):Int)<(b.length:Int):=O_;have e1:Hid (a-1<b.length):=z;generalize d5:a-1=e7 at*;clear d5 z;by_cases I:a7.data.toList<m.data.toList
     ·have t:Hid (Pg.Az (Ag (b.drop (a+1))) (Kg (Ag b) (a+1))=Pg.Az (Ag b) none):=by
       show _=_;rw[<-f.o,a9.o,b2.o];simp[Pg.Gn,I]
      have c5:Op.bytesLess a7.toList m.toList=true:=(by rw[Af,Af,Cj];exact xQ I);clear I;go_wp2_with fail;go_quiet (fail);go_wp2_with fail
      go_roundw
      case rel=>exact⟨a+1,O_,W_,t.o,j.o,Ao g.o _⟩
      case measure=>simp[intOf];omega
     ·have p:Hid (Pg.Az (Ag b) none=false):=by
       show _=_;rw[<-f.o,b2.o];simp[Pg.Gn,I]
      have c5:Op.bytesLess a7.toList m.toList=false:=(by rw[Af,Af,Cj];exact xN I);clear I;go_wp2_with fail;go_quiet (fail);go_wp2_with fail;go_ret;exact⟨by rw[p.o];rfl,Ao g.o _⟩
  ·have c6:Hid (Pg.Az (Ag b) none=true):=by
    show _=_;rw[<-f.o,zG O_];rfl
   clear f;go_wp2_with fail
   go_loopw [7] (fun n wr=>∃a:Nat,a<=c.length/\n=J_ a/\(c.drop a).all Pg.Bz=c.all Pg.Bz/\wr.heap[w.heap.size]?=some (C_ #[J_ o,L_ u q y,L_ A c.length B,L_ C b.length D,L_ F d.length G] 79 (0,0))/\Below w.heap.size w wr) (fun n _=>c.length-(intOf n).toNat)
   case atStart=>exact⟨0,Y_,rfl,rfl,j.o,g.o⟩
   case round=>
    clear j g L U V W X Y T i;obtain⟨a,T,rfl,r,k,l⟩:=hrel;have f:=Aa r;have j:=Aa k;have g:=Aa l;have L:=l.size;obtain⟨U,V,W,X,Y⟩:=Dv k;clear r l k;by_cases i:a<c.length
    ·obtain⟨b4,b5,M,H,s⟩:=b9.o.resolve_left O_;subst M;have Z:=Aat s g.o H a i;clear s;rw[yM i,bC]at f;generalize c[a]'i=N at*;have b0:(0:Int)<=(a:Int):=O_;have b1:(a:Int)<(c.length:Int):=O_;by_cases e5:N<0
     ·have p:Hid (c.all Pg.Bz=false):=by
       show _=_;rw[<-f.o];unfold Pg.Bz;rw[xN O_];rfl
      go_wp2_with fail;go_ret;exact⟨by rw[p.o];simp,g.o⟩
     ·by_cases e6:2147483647<N
      ·have p:Hid (c.all Pg.Bz=false):=by
        show _=_;rw[<-f.o];unfold Pg.Bz;rw[xN (by omega:¬N<=2147483647),aY];rfl
       go_wp2_with fail;go_ret;exact⟨by rw[p.o];simp,g.o⟩
      ·have t:Hid ((c.drop (a+1)).all Pg.Bz=c.all Pg.Bz):=by
        show _=_;rw[<-f.o];unfold Pg.Bz;rw[xQ (by omega:0<=N),xQ (by omega:N<=2147483647)];rfl
       go_wp2_with fail
       go_roundw
       case rel=>exact⟨a+1,O_,W_,t.o,j.o,g.o⟩
       case measure=>simp[intOf];omega
    ·have c7:Hid (c.all Pg.Bz=true):=by
      show _=_;rw[<-f.o,zG O_];rfl
     clear f;go_wp2_with fail
     go_loopw [8] (fun n wr=>∃a:Nat,a<=d.length/\n=J_ a/\(Ac (d.drop a)).all Pg.Bh=(Ac d).all Pg.Bh/\wr.heap[w.heap.size]?=some (C_ #[J_ o,L_ u q y,L_ A c.length B,L_ C b.length D,L_ F d.length G] 79 (0,0))/\Below w.heap.size w wr) (fun n _=>d.length-(intOf n).toNat)
     case atStart=>exact⟨0,Y_,rfl,rfl,j.o,g.o⟩
     case round=>
      clear j g L U V W X Y T i;obtain⟨a,T,rfl,r,k,l⟩:=hrel;have f:=Aa r;have j:=Aa k;have g:=Aa l;have L:=l.size;obtain⟨U,V,W,X,Y⟩:=Dv k;clear r l k;by_cases i:a<d.length
      ·obtain⟨b4,b5,M,H,s⟩:=c1.o.resolve_left O_;subst M;obtain⟨Z,d0,d1⟩:=s.below g.o H a i;clear s;generalize J:d[a]'i=x at*;obtain⟨a1,m,a2⟩:=x;simp only at Z d0 d1;have a0:Hid (Ac (d.drop a)=(a1,m.data.toList,a2.data.toList)::Ac (d.drop (a+1))):=by
        show _=_;rw[yM i,J];rfl
       clear J;rw[a0.o,bC,Pg.Bh,Ah,Ah]at f;have b0:(0:Int)<=(a:Int):=O_;have b1:(a:Int)<(d.length:Int):=O_;go_wp2_with fail;refine(CY a1 m a2 _).mono ?_;rintro a3 d2 ⟨rfl,a4⟩;have b3:=Aa (g.o.trans (a4.mono L));have c8:=Aa ((a4.block _ (xS.1 j.o).1).trans j.o);clear a4;generalize d4:Pg.Bv a1 m.size a2.size=a6 at*
       cases a6
       ·have p:Hid ((Ac d).all Pg.Bh=false):=by
         show _=_;rw[<-f.o];rfl
        go_wp2_with fail;go_ret;exact⟨by rw[p.o];simp,b3.o⟩
       ·have t:Hid ((Ac (d.drop (a+1))).all Pg.Bh=(Ac d).all Pg.Bh):=by
         show _=_;rw[<-f.o];rfl
        go_wp2_with fail
        go_roundw
        case rel=>exact⟨a+1,O_,W_,t.o,c8.o,b3.o⟩
        case measure=>simp[intOf];omega
      ·have c9:Hid ((Ac d).all Pg.Bh=true):=by
        show _=_;rw[<-f.o,zG O_];rfl
       clear f;go_wp2_with fail
       all_goals
        go_ret;refine⟨?_,g.o⟩;simp[c6.o,c7.o,c9.o]
        first
         | done
         | omega
         | (rw[xQ (by omega:o=2),xQ (by omega:q=0),xQ (by omega:1<=c.length),xQ (by omega:c.length<=4),xQ (by omega:b.length+1=c.length)]
            simp only[dC];exact decide_eq_decide.2 O_)
theorem LC(v:Value)(a:gZ)(w:World)(c6:Rk w v a)(e4:a.length<=100000)(Z:∀x∈a,(0<=x.1/\x.1<=1000)/\x.2.1.size<=10000/\x.2.2.size<=10000):
  Calls Tryz.prog 87 #[v] w fun f i=>f=R_ (B_ ⟨(Pg.Cc (Ac a)).toArray⟩)/\Below w.heap.size w i:=by
 obtain⟨d2,d3,rfl,d4,O⟩:=c6;have a0:=Aa O;have a1:=Aa Z;clear O Z;go_in;go_wp2_with fail;refine(Gc a.length 1 _ O_ O_).mono ?_;rintro f e1 ⟨rfl,V⟩;have a2:=Aa V;have c7:=Pg.Bo 1 a.length;have a3:Hid (Pg.low a.length 1++(Ac a).flatMap Pg.Ct=Pg.Cc (Ac a)):=by show _=_;unfold Pg.Cc Ac;rw[xP]
 clear V;generalize Pg.low a.length 1=c5 at*;go_wp2_with fail
 go_loopw [3,4] (fun c3 G wr=>∃(b:Nat) (d:hJ),b<=a.length/\G=J_ b/\c3=B_ d/\d.size<=1+b*30000/\d.data.toList++(Ac (a.drop b)).flatMap Pg.Ct=Pg.Cc (Ac a)/\Below w.heap.size w wr) (fun _ G _=>a.length-(intOf G).toNat)
 case atStart=>exact⟨0,⟨c5.toArray⟩,Y_,rfl,rfl,by rw[Ba];omega,by simpa using a3.o,a2.o⟩
 case round=>
  obtain⟨b,d,d5,rfl,rfl,d6,R,B⟩:=hrel;have k:=Aa R;have y:=Aa B;have a4:=B.size;clear R B;by_cases t:b<a.length
  ·obtain⟨r,S,b8,b9,T⟩:=a0.o.resolve_left O_;subst b8;obtain⟨s,C,D⟩:=T.below y.o b9 b t;clear T;have I:=a1.o _ (yA t);generalize Y:a[b]'t=x at*;obtain⟨F,l,m⟩:=x;simp only at s C D I;have a5:Hid (Ac (a.drop b)=(F,l.data.toList,m.data.toList)::Ac (a.drop (b+1))):=by
    show _=_;rw[yM t,Y];rfl
   clear Y;obtain⟨⟨d7,d8⟩,d9,e0⟩:=I;obtain⟨g,rfl⟩:∃c4:Nat,F=(c4:Int):=⟨F.toNat,O_⟩;rw[a5.o,jJ,Pg.Ct]at k;simp only[Int.toNat_natCast]at k;have c8:(0:Int)<=(b:Int):=O_;have c9:(b:Int)<(a.length:Int):=O_;have a6:=wB s;have a7:=wB C;have J:∀c,Calls Tryz.prog 89 #[J_ (g:Int),J_ 1] c fun f i=>f=R_ (B_ ⟨(Pg.low g 1).toArray⟩)/\Below c.heap.size c i:=fun c=>Gc g 1 c O_ O_
   have o:∀c,Calls Tryz.prog 85 #[B_ l] c fun f i=>f=R_ (B_ ⟨(Pg.text l.data.toList).toArray⟩)/\Below c.heap.size c i:=fun c=>Kj l c O_
   have d0:=Pg.Bo 1 g;have a8:=El l.data.toList (by rw[Ah];omega);rw[Ah]at a8;have a9:=El m.data.toList (by rw[Ah];omega);rw[Ah]at a9;generalize Pg.low g 1=j at*;generalize Pg.text l.data.toList=p at*;have L:=Ba j;have b0:=Ba p;have M:∀w,(Op.stringOp .add d ⟨j.toArray⟩).run Tryz.prog w=.ok (B_ (d++⟨j.toArray⟩)) w:=fun w=>kA w _ _ O_
   have b1:∀w,(Op.stringOp .add (d++⟨j.toArray⟩) ⟨p.toArray⟩).run Tryz.prog w=.ok (B_ (d++⟨j.toArray⟩++⟨p.toArray⟩)) w:=fun w=>kA w _ _ (by rw[zO];omega)
   go_wp2_with fail;refine aU S_ S_ ?_
   repeat(quiet_step (first|exact wV (J _)|exact wV (o _)))
   refine aT ?_;intro X c2;obtain⟨⟨c0,c1⟩,U⟩:=c2;have q:Below wr.heap.size wr X:=U▸aM _ c0 c1;have z:=Aa (y.o.trans (q.mono a4));have b2:=z.o.size;have b3:=(q.cell (p:=(Q_ r (S+b*3))) (by show r<_;omega)).trans s;have b4:=(q.cell (p:=(Q_ r (S+b*3+2))) (by show r<_;omega)).trans D;clear U q a6 a7 s C D M b1 J o;generalize H:d++(⟨j.toArray⟩:hJ)++⟨p.toArray⟩=n at*;have d1:n.size=d.size+j.length+p.length:=(by rw[<-H,zO,zO];omega);have N:=Aa H;clear H L b0;by_cases e3:g=2
   ·have A:Hid (n.data.toList++(Ac (a.drop (b+1))).flatMap Pg.Ct=Pg.Cc (Ac a)):=by
     show _=_;rw[<-k.o,<-N.o,xD O_];simp
    have b5:((g:Int)==2)=true:=K_;go_wp2_with fail
    go_roundw
    case rel=>exact⟨b+1,n,O_,W_,rfl,O_,A.o,z.o⟩
    case measure=>simp[intOf];omega
   ·rw[xB O_]at k;have b5:((g:Int)==2)=false:=K_;have o:∀c,Calls Tryz.prog 85 #[B_ m] c fun f i=>f=R_ (B_ ⟨(Pg.text m.data.toList).toArray⟩)/\Below c.heap.size c i:=fun c=>Kj m c O_
    generalize Pg.text m.data.toList=u at*;have L:=Ba u;have M:∀w,(Op.stringOp .add n ⟨u.toArray⟩).run Tryz.prog w=.ok (B_ (n++⟨u.toArray⟩)) w:=fun w=>kA w _ _ O_
    have A:Hid ((n++⟨u.toArray⟩).data.toList++(Ac (a.drop (b+1))).flatMap Pg.Ct=Pg.Cc (Ac a)):=(by show _=_;rw[<-k.o,<-N.o];simp);go_wp2_with fail;refine(o X).mono ?_;rintro f e2 ⟨rfl,W⟩;have b6:=Aa (z.o.trans (W.mono b2));clear W o b3 b4;go_wp2_with fail
    go_roundw
    case rel=>exact⟨b+1,_,O_,W_,rfl,by rw[zO];omega,A.o,b6.o⟩
    case measure=>simp[intOf];omega
  ·have b7:Hid (d.data.toList=Pg.Cc (Ac a)):=by
    show _=_;rw[<-k.o,zG O_];simp[Ac]
   go_wp2_with fail;go_ret;exact⟨Ib (by rw[b7.o]),y.o⟩
theorem CZ(A d4 d5 d6:Value)(a:hF)(c:hD)(f:gZ)(w:World)(T:Ik w d4 a.length (a.map fun(a3:Nat)=> J_ (a3:Int)))(U:Ik w d5 c.length (c.map .string))(a8:Rk w d6 f)(j0:a.length<=4)(d7:∀a3∈a,a3<=2147483647)(j1:c.length<=4)(d8:∀x∈c,x.size<=12)(j2:f.length<=8)(d9:∀x∈f,(0<=x.1/\x.1<=1000)/\x.2.1.size<=12/\x.2.2.size<=16):
  Calls Tryz.prog 48 #[.agg #[J_ 2,A,d4,d5,d6]] w fun k h4=>k=R_ (B_ ⟨(Pg.Fb a (Ag c) (Ac f)).toArray⟩)/\Below w.heap.size w h4:=by
 obtain⟨C,D,rfl,i2,T⟩:=T;obtain⟨F,G,rfl,i3,U⟩:=U;obtain⟨H,I,g6,i4,g7⟩:=id a8;subst g6;have e0:=Aa T;have e1:=Aa U;have e2:=Aa a8;have e3:=Aa d7;have e4:=Aa d8;have R:=Aa d9;clear T U a8 g7 d7 d8 d9;have e5:=Aa ((xA w.heap.size w).alloc X_ (C_ #[J_ 2,A,L_ C a.length D,L_ F c.length G,L_ H f.length I] 79));have e6:Hid ((w.alloc (C_ #[J_ 2,A,L_ C a.length D,L_ F c.length G,L_ H f.length I] 79)).heap[w.heap.size]?=some (C_ #[J_ 2,A,L_ C a.length D,L_ F c.length G,L_ H f.length I] 79 (0,0))):=xK _ _;go_enter Tryz.func48,fJ;go_wp2_with fail
 go_loopw [4,5] (fun a4 z wr=>∃(b:Nat) (d:hJ),b<=a.length/\z=J_ b/\a4=B_ d/\d.size<=10*b/\d.data.toList++(a.drop b).flatMap Pg.num=a.flatMap Pg.num/\wr.heap[w.heap.size]?=some (C_ #[J_ 2,A,L_ C a.length D,L_ F c.length G,L_ H f.length I] 79 (0,0))/\Below w.heap.size w wr) (fun _ z _=>a.length-(intOf z).toNat)
 case atStart=>exact⟨0,⟨#[]⟩,Y_,rfl,rfl,Do,D_,e6.o,e5.o⟩
 case round=>
  obtain⟨b,d,c2,rfl,rfl,c3,J,u,y⟩:=hrel;have j:=Aa J;have g:=Aa u;have m:=Aa y;have B:=y.size;obtain⟨o,p,q,r,s⟩:=Dv u;clear J y u;by_cases l:b<a.length
  ·obtain⟨g8,g9,Y,Z,L⟩:=e0.o.resolve_left O_;subst Y;have e7:=KV L m.o Z b l;clear L;have e8:=e3.o _ (yA l);rw[yM l,jJ]at j;generalize a[b]'l=a6 at*;have e9:(0:Int)<=(b:Int):=O_;have f0:(b:Int)<(a.length:Int):=O_;go_wp2_with fail;refine(Pz a6 _ O_).mono ?_;rintro k c4 ⟨rfl,i⟩;have n:=Aa (m.o.trans (i.mono B));have t:=Aa ((i.block _ (xS.1 g.o).1).trans g.o);clear i;have a9:=Fj a6 O_;generalize Pg.num a6=M at*;have V:Hid ((d++⟨M.toArray⟩).data.toList++(a.drop (b+1)).flatMap Pg.num=a.flatMap Pg.num):=by
    show _=_;rw[<-j.o];simp
   have f1:=Ba M;go_wp2_with fail
   go_roundw
   case rel=>exact⟨b+1,_,O_,W_,rfl,by rw[zO];omega,V.o,t.o,n.o⟩
   case measure=>simp[intOf];omega
  ·rw[zG O_]at j;have b0:Hid (d.data.toList=a.flatMap Pg.num):=(by show _=_;rw[<-j.o];simp);clear j;go_wp2_with fail
   go_loopw [4,6] (fun a4 z wr=>∃(b:Nat) (d:hJ),b<=c.length/\z=J_ b/\a4=B_ d/\d.size<=40+30*b/\d.data.toList++(Ag (c.drop b)).flatMap Pg.text=Pg.Dw a (Ag c)/\wr.heap[w.heap.size]?=some (C_ #[J_ 2,A,L_ C a.length D,L_ F c.length G,L_ H f.length I] 79 (0,0))/\Below w.heap.size w wr) (fun _ z _=>c.length-(intOf z).toNat)
   case atStart=>exact⟨0,d,Y_,rfl,rfl,O_,by rw[b0.o];rfl,g.o,m.o⟩
   case round=>
    clear b0 g m B o p q r s c2 l c3;obtain⟨b,d,c2,rfl,rfl,c3,J,u,y⟩:=hrel;have j:=Aa J;have g:=Aa u;have m:=Aa y;have B:=y.size;obtain⟨o,p,q,r,s⟩:=Dv u;clear J y u;by_cases l:b<c.length
    ·obtain⟨g8,g9,Y,Z,L⟩:=e1.o.resolve_left O_;subst Y;have e7:=Vy L m.o Z b l;clear L;have e8:=e4.o _ (yA l);have b1:Hid (Ag (c.drop b)=(c[b]'l).data.toList::Ag (c.drop (b+1))):=by
      show _=_;rw[yM l];rfl
     rw[b1.o,jJ]at j;clear b1;generalize c[b]'l=a7 at*;have e9:(0:Int)<=(b:Int):=O_;have f0:(b:Int)<(c.length:Int):=O_;go_wp2_with fail;refine(Kj a7 _ O_).mono ?_;rintro k c4 ⟨rfl,i⟩;have n:=Aa (m.o.trans (i.mono B));have t:=Aa ((i.block _ (xS.1 g.o).1).trans g.o);clear i;have a9:=El a7.data.toList (by rw[Ah];omega);rw[Ah]at a9;generalize Pg.text a7.data.toList=M at*;have V:Hid ((d++⟨M.toArray⟩).data.toList++(Ag (c.drop (b+1))).flatMap Pg.text=Pg.Dw a (Ag c)):=(by show _=_;rw[<-j.o];simp);have f1:=Ba M;go_wp2_with fail
     go_roundw
     case rel=>exact⟨b+1,_,O_,W_,rfl,by rw[zO];omega,V.o,t.o,n.o⟩
     case measure=>simp[intOf];omega
    ·rw[zG O_]at j;have f2:Hid (d.data.toList=Pg.Dw a (Ag c)):=(by show _=_;rw[<-j.o];simp[Ag]);clear j;go_wp2_with fail;refine(Lt ⟨#[112]⟩ d _ Do O_).mono ?_;rintro k c4 ⟨rfl,i⟩;have n:=Aa (m.o.trans (i.mono B));have f3:=n.o.size;obtain⟨o,p,q,r,s⟩:=Dv ((i.block _ (xS.1 g.o).1).trans g.o);have t:=Aa ((i.block _ (xS.1 g.o).1).trans g.o);clear i;have b2:=Pg.Ek [112] d.data.toList (by rw[Ah];omega);rw[Ah]at b2;have f4:Hid (Pg.Ar [112] d.data.toList=Pg.Ck a (Ag c)):=by
      show _=_;rw[f2.o];rfl
     simp only[xH,yU]at b2;generalize Pg.Ar [112] d.data.toList=N at*;go_wp2_with fail;refine(LC _ f _ (e2.o.below n.o) O_ (fun x a5=>⟨(R.o x a5).1,by have:=(R.o x a5).2;omega,by have:=(R.o x a5).2;omega⟩)).mono ?_;rintro k h1 ⟨rfl,a0⟩;have W:=Aa (n.o.trans (a0.mono f3));have f5:=W.o.size;have S:=Aa ((a0.block _ (xS.1 t.o).1).trans t.o);clear a0 o p q r s;obtain⟨o,p,q,r,s⟩:=Dv S.o;have h5:=CO _ (CN R.o);have h6:(Ac f).length=f.length:=(by simp[Ac]);have f6:=Pg.Ek [109] (Pg.Cc (Ac f)) O_;simp only[xH,yU]at f6;go_wp2_with fail;have b3:=Lt ⟨#[109]⟩ ⟨(Pg.Cc (Ac f)).toArray⟩ h1 Do (by rw[Ba];omega);refine b3.mono ?_;clear b3;rintro k i5 ⟨rfl,a1⟩;have b4:=Aa (W.o.trans (a1.mono f5));have f7:=b4.o.size;have X:=Aa ((a1.block _ (xS.1 S.o).1).trans S.o);clear a1 o p q r s;obtain⟨o,p,q,r,s⟩:=Dv X.o;have f8:Hid (Pg.Ar [109] (Pg.Cc (Ac f))=Pg.Cf (Ac f)):=rfl;simp only[];generalize Pg.Ar [109] (Pg.Cc (Ac f))=O at*;go_wp2_with fail;clear t S n W m g;refine(Gc a.length 1 _ O_ O_).mono ?_;rintro k h2 ⟨rfl,a2⟩;have b5:=Aa (b4.o.trans (a2.mono f7));have f9:=b5.o.size;have h7:=Aa ((a2.block _ (xS.1 X.o).1).trans X.o);clear a2 o p q r s;have g0:Hid (Pg.Fb a (Ag c) (Ac f)=Pg.sealed ([83,50,73]++Pg.low a.length 1++Pg.low N.length 2++Pg.low O.length 2++List.replicate 56 0)++N++O):=(by show _=_;rw[f4.o,f8.o];rfl);have h8:=Pg.Bo 1 a.length;generalize Pg.low a.length 1=d0 at*;go_wp2_with fail;have b6:=Gc N.length 2 h2 O_ O_;refine b6.mono ?_;clear b6;rintro k h3 ⟨rfl,c5⟩;have b7:=Aa (b5.o.trans (c5.mono f9));have g1:=b7.o.size;clear c5;have h9:=Pg.Bo 2 N.length;generalize Pg.low N.length 2=d1 at*;go_wp2_with fail;have b8:=Gc O.length 2 h3 O_ O_;refine b8.mono ?_;clear b8;rintro k i6 ⟨rfl,c6⟩;have b9:=Aa (b7.o.trans (c6.mono g1));have g2:=b9.o.size;clear c6;have i0:=Pg.Bo 2 O.length;generalize Pg.low O.length 2=d2 at*;go_wp2_with fail;refine(Jp 56 _ O_).mono ?_;rintro k i7 ⟨rfl,c7⟩;have c0:=Aa (b9.o.trans (c7.mono g2));have g3:=c0.o.size;clear c7;have i1:(List.replicate 56 (0:UInt8)).length=56:=kD;generalize List.replicate 56 (0:UInt8)=d3 at*;go_wp2_with fail;refine(Jh _ _ (by simp only[zO,Ba,xH,yU];omega)).mono ?_;rintro k i8 ⟨rfl,c8⟩;have g4:=Aa (c0.o.trans (c8.mono g3));clear c8;have c1:=Pg.Jb ((⟨#[83,50,73]⟩:hJ)++⟨d0.toArray⟩++⟨d1.toArray⟩++⟨d2.toArray⟩++⟨d3.toArray⟩).data.toList;rw[Ah]at c1;simp only[zO,Ba,xH,yU]at c1;generalize c9:Pg.sealed ((⟨#[83,50,73]⟩:hJ)++⟨d0.toArray⟩++⟨d1.toArray⟩++⟨d2.toArray⟩++⟨d3.toArray⟩).data.toList=i9 at*;have g5:=Aa c9;clear c9;go_wp2_with fail;go_ret;refine⟨Ib ?_,g4.o⟩;rw[g0.o];show(_:hJ).data.toList=_;simp only[qN,vD];rw[<-g5.o];simp
