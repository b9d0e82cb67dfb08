import Derived.Test.YtolgpnaoaodepaaGreatMathFm
set_option maxHeartbeats 4000000
set_option maxRecDepth 20000
namespace Go.Proofs.YtolgpnaoaodepaaGreat
open Go.RowKit Pg Sq
variable {i:hE}{b p:hJ}{a d:Nat}{f w wr:World}{j:Bool}{g:Cur}{k l:hD}{c m r:Value}{n:gZ}{q:Int}
theorem Aaz(d:hJ)(a c:Nat)(w:World)(H:d.size<=140737488355328)(I:1<=c)(J:c<=a)(L:a<=d.size):
  Calls Tryz.prog 147 #[B_ d,J_ a,J_ c] w fun q r=>q=R_ (J_ (mat d.data.toList a c))/\∃i,r=w.drewN i:=by
 go_in
 go_wp2
 go_loopw [7] (fun l wr=>∃b:Nat,b<=min 66 (d.size-a)/\l=J_ b/\(∀f,f<b->d.data.toList[a-c+f]?=d.data.toList[a+f]?)/\∃i,wr=w.drewN i) (fun l _=>66-(intOf l).toNat)
 case atStart=>exact⟨0,Y_,rfl,fun f h=>O_,0,rfl⟩
 case round=>
  obtain⟨b,D,rfl,k,i,rfl⟩:=hrel;have g:Hid (∀f,f<b->d.data.toList[a-c+f]?=d.data.toList[a+f]?):=k;clear k;by_cases F:b<66
  ·by_cases G:a+b<d.size
   ·have m:(a:Int)+(b:Int)<(d.size:Int):=O_;have t:(a:Int)+(b:Int)-(c:Int)<(d.size:Int):=O_;have u:(0:Int)<=(a:Int)+(b:Int):=O_;have y:(0:Int)<=(a:Int)+(b:Int)-(c:Int):=O_;have n:(b:Int)<66:=O_;have o:IntKind.i64.wrap ((a:Int)+(b:Int))=(a:Int)+(b:Int):=zY _ ⟨O_,O_⟩;have z:IntKind.i64.wrap ((a:Int)+(b:Int)-(c:Int))=(a:Int)+(b:Int)-(c:Int):=zY _ ⟨O_,O_⟩;have A:(c:Int)<=(a:Int)+(b:Int):=O_;have B:c<=a+b:=O_;have C:decide ((a:Int)+(b:Int)<(d.size:Int))=true:=by simpa using m
    go_wp2
    go_quiet (fail)
    go_wp2
    ·have j:=VH d (a+b) (a+b-c) O_ O_ V_
     go_roundw
     case rel=>
      refine⟨b+1,O_,W_,fun f k=> ?_,_,rfl⟩;by_cases s:f=b
      ·rw[s,j,show a-c+b=a+b-c by omega]
      ·exact g.o f O_
     case measure=>simp[intOf];omega
    ·have j:=VI d (a+b) (a+b-c) O_ O_ V_;go_ret;exact⟨Fr (by unfold mat;rw[Ot d.data.toList _ (a-c) a b K_ K_ g.o (.inr fun h=>j (by rw[h.2.symm,show a-c+b=a+b-c by omega]))]),_,vC _ _ _⟩
   ·have n:(b:Int)<66:=O_;have p:decide ((a:Int)+(b:Int)<(d.size:Int))=false:=K_;have o:IntKind.i64.wrap ((a:Int)+(b:Int))=(a:Int)+(b:Int):=zY _ ⟨O_,O_⟩
    go_wp2
    go_quiet (fail)
    go_wp2
    go_ret;exact⟨Fr (by unfold mat;rw[Ot d.data.toList _ (a-c) a b K_ K_ g.o (.inl K_)]),_,vC _ _ _⟩
  ·have p:decide ((b:Int)<66)=false:=K_
   go_wp2
   go_quiet (fail)
   go_wp2
   go_ret;exact⟨Fr (by unfold mat;rw[Ot d.data.toList _ (a-c) a b K_ K_ g.o (.inl K_)]),_,vC _ _ _⟩
theorem IN(c:hE)(b a:Nat):Sq.Fh c b (a+1)=if 255-a<=b/\(Sq.Fh c b a).1<=mat c b (255-a)then(mat c b (255-a),255-a)else Sq.Fh c b a:=rfl
theorem Ae0(b:hE)(c a:Nat):(Sq.Fh b c a).1<=66/\(Sq.Fh b c a).2<=255:=by
 induction a with
 | zero=>simp[Sq.Fh]
 | succ a ih=>
  rw[IN];split
  ·exact⟨KN _ _ _,D_⟩
  ·exact ih
theorem Rq(a:hJ)(w:World)(i1:a.size<=35184372088832):
  Calls Tryz.prog 93 #[B_ a] w fun e5 g7=>e5=R_ (B_ ⟨(Br a.data.toList).toArray⟩)/\Below w.heap.size w g7:=by
 have O:=Aa (Ah a);go_in;go_wp2_with fail
 go_loopw [3,4,5] (fun e9 v c6 wr=>∃(g c:hE) (b:Nat),b<=a.size/\c6=J_ b/\c.length<128/\Bp w.heap.size wr e9 g/\Bp w.heap.size wr v c/\Ep e9 v/\Below w.heap.size w wr/\g.length+c.length<=2*b/\g++Sq.rest a.data.toList b c=Br a.data.toList) (fun _ _ c6 _=>a.size-(intOf c6).toNat)
 case atStart=>exact⟨[],[],0,Y_,rfl,D_,Bp.nil _ _,Bp.nil _ _,by intro N F;simp[Value.ownBlock]at F,xA _ _,D_,by simp[Br]⟩
 case round=>
  obtain⟨g,c,b,f9,rfl,h6,d4,d5,d6,c2,g0,d7⟩:=hrel;have R:=Aa d7;have H:=Aa d4;have I:=Aa d5;have S:=Aa c2;have A:=Aa d6;have a8:=c2.size;clear d7 d4 c2 d5 d6;by_cases b6:b<a.size
  ·go_wp2_with fail
   go_loopw [6,7,8] (fun i M f a7=>∃d:Nat,d<=255/\f=J_ (255-d:Nat)/\i=J_ (Sq.Fh a.data.toList b d).1/\M=J_ (Sq.Fh a.data.toList b d).2/\∃D,a7=wr.drewN D) (fun _ _ f _=>(intOf f).toNat)
   case atStart=>exact⟨0,Y_,rfl,rfl,rfl,0,rfl⟩
   case round=>
    obtain⟨d,h7,rfl,rfl,rfl,D,rfl⟩:=hrel;have h2:=Ae0 a.data.toList b d;have T:=Aa (IN a.data.toList b d);generalize f2:Sq.Fh a.data.toList b d=g9 at*;have U:=Aa f2;clear f2;obtain⟨i,M⟩:=g9;by_cases i0:d<255
    ·obtain⟨f,c3⟩:∃f:Nat,255-d=f:=⟨_,rfl⟩;have b7:=Aa c3;rw[c3]at T⊢;have h3:1<=f/\f<=255:=O_;clear c3;by_cases c7:f<=b
     ·go_wp2_with fail;refine(Aaz a b f _ O_ O_ c7 f9).mono ?_;rintro e5 e6 ⟨rfl,h8,rfl⟩;have h4:=KN a.data.toList b f;generalize mat a.data.toList b f=h1 at*;by_cases f0:i<=h1
      ·go_wp2_with fail
       go_roundw
       case rel=>
        have h:=T.o;rw[xD ⟨c7,f0⟩]at h;exact⟨d+1,O_,by have:=b7.o;go_num,by rw[h],by rw[h],_,rfl⟩
       case measure=>simp[intOf];omega
      ·go_wp2_with fail
       go_roundw
       case rel=>
        have h:=T.o;rw[xB (fun x=>f0 x.2)]at h;exact⟨d+1,O_,by have:=b7.o;go_num,by rw[h],by rw[h],_,rfl⟩
       case measure=>simp[intOf];omega
     ·go_wp2_with fail
      go_roundw
      case rel=>
       have h:=T.o;rw[xB (fun x=>c7 x.1)]at h;exact⟨d+1,O_,by have:=b7.o;go_num,by rw[h],by rw[h],_,rfl⟩
      case measure=>simp[intOf];omega
    ·obtain rfl:d=255:=O_;have B:=Aa (H.o.drewN D);have l:=Aa (I.o.drewN D);have V:=Aa (Ao S.o D);have C:w.heap.size<=(wr.drewN D).heap.size:=a8;have a9:=Aa (XI a.data.toList b);clear H I S a8 T;generalize wr.drewN D=a7 at*;rw[show(255-255:Nat)=0 from rfl];by_cases g8:i<3
     ·have f4:Hid ((Eb a.data.toList b).2=0):=by
       rcases a9.o with h|h
       ·exact h.1
       ·rw[U.o]at h;exact absurd h.2.1 K_
      obtain⟨p,g1,d8⟩:∃p:UInt8,Hid (((a[b]'b6).toNat:Int)=(p.toNat:Int))/\Hid (Sq.rest a.data.toList b c=Sq.rest a.data.toList (b+1) (c++[p])):=
       ⟨a.data.toList[b]'(by rw[O.o];exact b6),rfl,Rf _ _ _ (by rw[O.o];exact b6) f4.o⟩
      go_wp2_with (first
       | (at_builtin;refine Rg a7 rfl (.tmp 32) (.tmp 36) rfl w.heap.size u4 c rfl l.o p _ g1.o rfl O_ C ?_))
      intro h9 e6 e7 a2 e8;obtain⟨d9,e0,e1⟩:=Ow B.o l.o C A.o (Cm a2) (e8.imp_right fun h=>⟨_,kF _,h⟩);have b0:=Aa d9;have J:=Aa e7;have W:=Aa e0;have b1:=Aa (V.o.trans e1);have c8:=b1.o.size;clear e7 a2 e8 d9 e0 e1 B l V A C a9 U;obtain⟨a0,a1,k,a2,j⟩:=J.o.shape_pos D_;subst k;have X:(c++[p]).length=c.length+1:=D_;rw[X]at J W⊢;have c9:Hid (g++Sq.rest a.data.toList (b+1) (c++[p])=Br a.data.toList):=(by rw[<-d8.o];exact R.o);clear d8 R;by_cases f1:c.length+1=128
      ·have h5:(((c.length+1:Nat):Int)==128)=true:=(by rw[f1];rfl);rw[f1]at J W X;generalize c++[p]=f3 at*;have b2:=Aa X;clear X
       go_wp2_with (first
        | (at_builtin;refine Rg e6 rfl (.tmp 43) (.tmp 44) rfl w.heap.size u3 g rfl b0.o 127 127 rfl rfl O_ c8 ?_))
       intro a4 s t j u;obtain⟨q,a3,r⟩:=Ow J.o b0.o c8 W.o.symm (Cm j) (u.imp_right fun h=>⟨_,kF _,h⟩);have m:=Aa t;have Y:=Aa q;have n:=Aa (b1.o.trans r);have o:=n.o.size;clear t j u q a3 r b0 J b1 W
       go_wp2_with (first
        | (at_builtin;refine IC s rfl (.tmp 46) (.tmp 47) rfl w.heap.size a4 _ rfl m.o (Q_ a0 0) a1 f3 (by rw[b2.o];rfl) Y.o.cells (by rw[b2.o];simp;omega) o ?_))
       intro b4 b5 y z _;have b3:=Aa y;have L:=Aa (n.o.trans ((xA _ s).grown z o fun N F=>(xF m.o N F).1));clear y z;go_wp2_with fail
       go_roundw
       case rel=>
        refine⟨_,[],b+1,O_,W_,D_,b3.o,Bp.nil _ _,Sv _,L.o,?_,?_⟩
        ·have:=b2.o;simp;omega
        ·rw[<-c9.o,XJ _ _ f3 b2.o];simp
       case measure=>simp[intOf];omega
      ·have d0:=Aa X;go_wp2_with fail
       go_roundw
       case rel=>exact⟨g,c++[p],b+1,O_,W_,by rw[d0.o];omega,b0.o,J.o,W.o,b1.o,by rw[d0.o];omega,c9.o⟩
       case measure=>simp[intOf];omega
     ·obtain⟨c4,c5⟩:Hid ((Eb a.data.toList b).2≠0)/\Hid (Eb a.data.toList b=(i,M)):=by
       rcases a9.o with h|h
       ·rw[U.o]at h;exact absurd h.2 (by simpa using g8)
       ·exact⟨h.1,by rw[<-U.o];exact h.2.2.symm⟩
      have f5:=(Mu a.data.toList b c4.o).2.2;rw[O.o,c5.o]at f5;have d1:Hid (g++(Ii c++(UInt8.ofNat (125+i)::UInt8.ofNat M::Sq.rest a.data.toList (b+i) []))=Br a.data.toList):=(by rw[<-R.o,Uh _ _ _ (by rw[O.o];exact b6) c4.o,c5.o];rfl);clear a9 R c4 c5 U;by_cases G:0<c.length
      ·obtain⟨a0,a1,k,a2,j⟩:=l.o.shape_pos G;subst k;have b8:=Aa (Zi c (by intro e;rw[e]at G;simp at G) O_)
       go_wp2_with (first
        | (at_builtin;refine Rg a7 rfl (.tmp 52) (.tmp 57) rfl w.heap.size u3 g rfl B.o (UInt8.ofNat (c.length-1)) _ ?_ rfl O_ C ?_))
       ·omega
       intro a4 s t j u;obtain⟨q,a3,r⟩:=Ow l.o B.o C A.o.symm (Cm j) (u.imp_right fun h=>⟨_,kF _,h⟩);have m:=Aa t;have Y:=Aa q;have n:=Aa (V.o.trans r);have o:=n.o.size;clear t j u q a3 r B l V A
       go_wp2_with (first
        | (at_builtin;refine IC s rfl (.tmp 59) (.tmp 60) rfl w.heap.size a4 _ rfl m.o (Q_ a0 0) a1 c rfl Y.o.cells K_ o ?_))
       intro b4 b5 y z _;have b3:=Aa y;have L:=Aa (n.o.trans ((xA _ s).grown z o fun N F=>(xF m.o N F).1));have d2:=L.o.size;clear y z
       go_wp2_with (first
        | (at_builtin;refine VJ b5 rfl (.tmp 62) (.tmp 68) rfl w.heap.size b4 _ rfl b3.o (UInt8.ofNat (125+i)) (UInt8.ofNat M) _ _ ?_ ?_ rfl ?_ d2 ?_))
       ·simp;omega
       ·simp;omega
       ·simp;omega
       intro g4 g5 a5 a6 _;have b9:=Aa a5;have c0:=Aa (L.o.trans (Ij b3.o d2 a6));clear a5 a6;go_wp2_with fail
       go_roundw
       case rel=>
        refine⟨_,[],b+i,O_,W_,D_,b9.o,Bp.nil _ _,Sv _,c0.o,?_,?_⟩
        ·simp;omega
        ·rw[<-d1.o,b8.o];simp
       case measure=>simp[intOf];omega
      ·have c1:c=[]:=zA.1 O_;subst c1;obtain⟨g2,g3,k⟩:=l.o.shape;subst k
       go_wp2_with (first
        | (at_builtin;refine VJ a7 rfl (.tmp 62) (.tmp 68) rfl w.heap.size u3 _ rfl B.o (UInt8.ofNat (125+i)) (UInt8.ofNat M) _ _ ?_ ?_ rfl ?_ C ?_))
       ·omega
       ·omega
       ·omega
       intro g4 g5 a5 a6 g6;obtain⟨e2,e3,e4⟩:=Ow l.o B.o C A.o.symm (Cm a6) (g6.imp_right fun h=>⟨_,kF _,h⟩);have b9:=Aa a5;have f6:=Aa e2;have f7:=Aa e3;have c0:=Aa (V.o.trans e4);clear a5 a6 e2 e3 e4;go_wp2_with fail
       go_roundw
       case rel=>
        refine⟨_,[],b+i,O_,W_,D_,b9.o,f6.o,f7.o.symm,c0.o,?_,?_⟩
        ·simp at g0⊢;omega
        ·rw[<-d1.o,Jk];simp
       case measure=>simp[intOf];omega
  ·have d3:Hid (g++Ii c=Br a.data.toList):=by
    rw[<-R.o,BY _ _ _ (by rw[O.o];omega)];exact rfl
   by_cases G:0<c.length
   ·obtain⟨a0,a1,k,a2,j⟩:=I.o.shape_pos G;subst k;have b8:=Aa (Zi c (by intro e;rw[e]at G;simp at G) O_)
    go_wp2_with (first
     | (at_builtin;refine Rg wr rfl (.tmp 76) (.tmp 81) rfl w.heap.size u3 g rfl H.o (UInt8.ofNat (c.length-1)) _ ?_ rfl O_ a8 ?_))
    ·simp;omega
    intro a4 s t j u;obtain⟨q,a3,r⟩:=Ow I.o H.o a8 A.o.symm (Cm j) (u.imp_right fun h=>⟨_,kF _,h⟩);have m:=Aa t;have Y:=Aa q;have n:=Aa (S.o.trans r);have o:=n.o.size;clear t j u q a3 r H I S A
    go_wp2_with (first
     | (at_builtin;refine IC s rfl (.tmp 83) (.tmp 84) rfl w.heap.size a4 _ rfl m.o (Q_ a0 0) a1 c rfl Y.o.cells K_ o ?_))
    intro b4 b5 y z _;have L:=Aa (n.o.trans ((xA _ s).grown z o fun N F=>(xF m.o N F).1));have Z:Bp w.heap.size b5 b4 (Br a.data.toList):=(by rw[<-d3.o,b8.o];simpa using y);have f8:=Z.str;clear y z Z;go_wp2_with fail;go_ret;exact⟨rfl,L.o⟩
   ·have c1:c=[]:=zA.1 O_;subst c1;obtain⟨g2,g3,k⟩:=I.o.shape;subst k;have Z:Bp w.heap.size wr u3 (Br a.data.toList):=(by rw[<-d3.o,Jk];simpa using H.o);have f8:=Z.str;clear Z;go_wp2_with fail;go_ret;exact⟨rfl,S.o⟩
theorem SN(h:Bn i []=none):Me i=⟨#[]⟩/\Mf i=2:=by unfold Me Mf Ev;rw[h];exact⟨rfl,rfl⟩
theorem Ab0{s:hE}(h:Bn i []=some s):(Br s=i->Me i=⟨s.toArray⟩/\Mf i=0)/\(Br s≠i->Me i=⟨#[]⟩/\Mf i=2):=by unfold Me Mf Ev;rw[h];exact⟨fun e=>by simp only[xD e];exact⟨yQ,yQ⟩,fun e=>by simp only[xB e];exact⟨yQ,yQ⟩⟩
theorem Aft(h:a<b.size)(c:Bn (b.data.toList.drop a) i=Bn b.data.toList [])(d:(b[a]'h).toNat<128)(f:a+(b[a]'h).toNat+2<=b.size):
  Bn (b.data.toList.drop (a+(b[a]'h).toNat+2)) (i++(b.data.toList.drop (a+1)).take ((b[a]'h).toNat+1))=Bn b.data.toList []:=by
 rw[<-c,Nw b a h,Uj _ _ _ d (by rw[xY,Ah];omega),jG,show a+1+((b[a]'h).toNat+1)=a+(b[a]'h).toNat+2 by omega]
theorem XT(h:a<b.size)(c:Bn (b.data.toList.drop a) i=Bn b.data.toList [])(d:(b[a]'h).toNat<128)(f:b.size<a+(b[a]'h).toNat+2):Bn b.data.toList []=none:=by rw[<-c,Nw b a h,Tt _ _ _ d (by rw[xY,Ah];omega)]
theorem Afu(h:a+1<b.size)(c:Bn (b.data.toList.drop a) i=Bn b.data.toList [])(d:¬(b[a]'O_).toNat<128)(f:(b[a]'O_).toNat<=191/\1<=(b[a+1]'h).toNat/\(b[a+1]'h).toNat<=i.length):
  Bn (b.data.toList.drop (a+2)) (Ja i (b[a+1]'h).toNat ((b[a]'O_).toNat-125))=Bn b.data.toList []:=by
 rw[<-c,Nw b a O_,Nw b (a+1) h,Po _ _ _ _ d f]
theorem XU(h:a+1<b.size)(c:Bn (b.data.toList.drop a) i=Bn b.data.toList [])(d:¬(b[a]'O_).toNat<128)(f:¬((b[a]'O_).toNat<=191/\1<=(b[a+1]'h).toNat/\(b[a+1]'h).toNat<=i.length)):Bn b.data.toList []=none:=by rw[<-c,Nw b a O_,Nw b (a+1) h,Qt _ _ _ _ d f]
theorem SO(h:a<b.size)(f:¬a+1<b.size)(c:Bn (b.data.toList.drop a) i=Bn b.data.toList [])(d:¬(b[a]'h).toNat<128):Bn b.data.toList []=none:=by rw[<-c,Nw b a h,zG (by rw[Ah];omega),Ov _ _ d]
theorem Om(a:hJ)(w:World)(e2:a.size<=68719476736):
  Calls Tryz.prog 95 #[B_ a] w fun Y c6=>Y=R_ (.tuple #[B_ (Me a.data.toList),J_ (Mf a.data.toList)])/\Below w.heap.size w c6:=by
 go_in;go_wp2_with fail
 go_loopw [4,5] (fun H o wr=>∃(d:hE) (b:Nat),b<=a.size/\o=J_ b/\Bp w.heap.size wr H d/\Below w.heap.size w wr/\d.length+66*(a.size-b)<=66*a.size/\Bn (a.data.toList.drop b) d=Bn a.data.toList []) (fun _ o _=>a.size-(intOf o).toNat)
 case atStart=>exact⟨[],0,Y_,rfl,Bp.nil _ _,xA _ _,D_,rfl⟩
 case round=>
  obtain⟨d,b,d7,rfl,U,n,d8,V⟩:=hrel;have p:=Aa V;have m:=Aa U;have l:=Aa n;have J:=n.size;clear V U n;by_cases h0:b<a.size
  ·have d0:(a[b]'h0).toNat<256:=(a[b]'h0).toNat_lt;by_cases t:(a[b]'h0).toNat<128
   ·by_cases a2:b+(a[b]'h0).toNat+2<=a.size
    ·have c:=Aa (Aft h0 p.o t a2);generalize A:(a[b]'h0).toNat=f at*
     go_wp2_with (first
      | (at_builtin;refine Afh wr rfl (.tmp 29) (.tmp 36) rfl w.heap.size u4 d rfl m.o (a.extract (b+1) (b+1+f+1)) rfl (by rw[zM];omega) J ?_))
     intro c4 c5 G Z;have L:Bp w.heap.size c5 c4 (d++List.take (f+1) (List.drop (b+1) a.data.toList)):=(by rw[show b+1+f-b=f+1 by omega]at G;exact G);have a5:=Aa L;have a6:=Aa (l.o.trans Z);clear G Z L;go_wp2_with fail
     go_roundw
     case rel=>exact⟨_,b+f+2,a2,Je O_,a5.o,a6.o,K_,c.o⟩
     case measure=>simp[intOf];omega
    ·have c:=Aa (SN (XT h0 p.o t O_));generalize A:(a[b]'h0).toNat=f at*;go_wp2_with fail;go_ret2;rw[c.o.1,c.o.2];exact⟨rfl,l.o⟩
   ·by_cases j:b+1<a.size
    ·by_cases a3:(a[b]'h0).toNat<=191/\1<=(a[b+1]'j).toNat/\(a[b+1]'j).toNat<=d.length
     ·have c:=Aa (Afu j p.o t a3);have a7:(a[b+1]'j).toNat<256:=(a[b+1]'j).toNat_lt;obtain⟨b9,c0,s⟩:=m.o.shape;subst s;generalize A:(a[b]'h0).toNat=f at*;generalize c8:(a[b+1]'j).toNat=g at*;have u:((g:Int)==0)=false:=K_;have a8:(b:Int)+1<(a.size:Int):=O_;have a9:decide ((f:Int)<128)=false:=K_;have b0:decide ((191:Int)<(f:Int))=false:=K_;have b1:decide ((a.size:Int)<=(b:Int)+1)=false:=K_;have b2:decide (d.length<g)=false:=K_;go_wp2_with fail;clear a9 b0 b1 b2 u
      go_loopw [4,8] (fun H o a1=>∃i:Nat,i+125<=f/\o=J_ i/\Bp w.heap.size a1 H (Ja d g i)/\Below w.heap.size w a1) (fun _ o _=>f-(intOf o).toNat)
      case atStart=>exact⟨0,O_,rfl,m.o,l.o⟩
      case round=>
       obtain⟨i,W,rfl,X,C⟩:=hrel;have M:=Aa (Ou i d g);have q:=Aa X;have N:=Aa C;have d1:=C.size;clear X C;by_cases e1:i+125<f
       ·have b3:=Aa (Pn i d g);generalize c9:Ja d g i=k at*;have d2:g<=k.length/\k.length<=140737488355000/\1<=k.length:=(by have:=M.o;omega);obtain⟨z,n⟩:∃z,k[k.length-g]?=some z:=⟨k[k.length-g]'O_,xW _⟩;obtain⟨c1,c2,s,d9,D⟩:=q.o.shape_pos O_;subst s;have d3:=q.o.cellAt (k.length-g) z n;have b4:=Aa n;clear n c9;generalize a4:k.length=B at*;have b5:=Aa a4;clear a4;have d4:(0:Int)<=(B:Int)-(g:Int):=O_;have d5:(B:Int)-(g:Int)<(B:Int):=O_
        go_wp2_with (first
         | (at_builtin;refine Rg wr rfl (.tmp 77) (.tmp 85) rfl w.heap.size (L_ (P_ c1) B c2) k rfl q.o z _ rfl rfl (by rw[b5.o];omega) O_ ?_))
        intro e0 c3 a0 D _;have b6:=Aa a0;have y:=Aa (N.o.trans (Ij q.o O_ D));clear a0 D;go_wp2_with fail
        go_roundw
        case rel=>
         refine⟨i+1,O_,W_,?_,y.o⟩;rw[b3.o,jH,b4.o];exact b6.o
        case measure=>simp[intOf];omega
       ·have O:f-125=i:=O_;rw[O]at c;clear O;go_wp2_with fail
        go_roundw
        case rel=>exact⟨_,b+2,O_,Je O_,q.o,N.o,by rw[M.o];omega,c.o⟩
        case measure=>simp[intOf];omega
     ·have c:=Aa (SN (XU j p.o t a3));have a7:(a[b+1]'j).toNat<256:=(a[b+1]'j).toNat_lt;obtain⟨b9,c0,s⟩:=m.o.shape;subst s;generalize A:(a[b]'h0).toNat=f at*;generalize c8:(a[b+1]'j).toNat=g at*;have a8:(b:Int)+1<(a.size:Int):=O_;by_cases c7:191<f
      ·go_wp2_with fail;go_ret2;rw[c.o.1,c.o.2];exact⟨rfl,l.o⟩
      ·by_cases u:g=0
       ·subst u;go_wp2_with fail;go_ret2;rw[c.o.1,c.o.2];exact⟨rfl,l.o⟩
       ·have u:((g:Int)==0)=false:=K_;go_wp2_with fail;go_ret2;rw[c.o.1,c.o.2];exact⟨rfl,l.o⟩
    ·have c:=Aa (SN (SO h0 j p.o t));generalize A:(a[b]'h0).toNat=f at*;by_cases c7:191<f
     ·go_wp2_with fail;go_ret2;rw[c.o.1,c.o.2];exact⟨rfl,l.o⟩
     ·go_wp2_with fail;go_ret2;rw[c.o.1,c.o.2];exact⟨rfl,l.o⟩
  ·have b7:=m.o.str;have R:Hid (Bn a.data.toList []=some d):=by
    rw[<-p.o,zG (by rw[Ah];omega),Ui];exact rfl
   have S:=Mn _ _ _ R.o;rw[Ah]at S;have T:=Aa (Ab0 R.o);go_wp2_with fail;refine(Rq ⟨d.toArray⟩ _ (by show d.toArray.size<=_;simp at S⊢;omega)).mono ?_;rintro Y c3 ⟨rfl,F⟩;have y:=Aa (l.o.trans (F.mono J));have b8:=(m.o.below F (fun i W=>(xF m.o i W).2)).str;clear F b7;by_cases I:Br d=a.data.toList
   ·have r:=Aa (T.o.1 I);go_wp2_with fail;go_ret2;rw[r.o.1,r.o.2];exact⟨rfl,y.o⟩
   ·have r:=Aa (T.o.2 I);have d6:(!Br d==a.toList)=true:=(by rw[Af];simpa using I);clear b8;go_wp2_with fail;go_ret2;rw[r.o.1,r.o.2];exact⟨rfl,y.o⟩
theorem BJ(e:Int)(w:World):Calls Tryz.prog 96 #[J_ e] w fun a b=>a=R_ (J_ e)/\b=w:=by
 go_in
 go_wp2
 go_ret;exact⟨rfl,rfl⟩
theorem Ab1{u:World}(d:Below a f u):(∀b c,b<a->u.cell? (Q_ b c)=f.cell? (Q_ b c)):=
 fun b c h=>d.cell (p:=(Q_ b c)) h
def Gy(w:World)(b:Nat)(s:hJ)(a:Nat)(bad:Bool):Prop:=w.heap[b]?=some (C_ #[B_ s,J_ a,.bool bad] 259 (0,0))
theorem Gy.cells{w:World}{a d:Nat}{b:hJ}{j:Bool}(h:Gy w a b d j):w.cell? (Q_ a 0)=some (B_ b)/\w.cell? (Q_ a 1)=some (J_ d)/\w.cell? (Q_ a 2)=some (.bool j)/\w.frozen? (Q_ a 1)=false/\w.frozen? (Q_ a 2)=false:=by unfold Gy at h;refine⟨?_,?_,?_,?_,?_⟩<;>simp[World.cell?,World.frozen?,h]
theorem Gy.setAt(h:Gy w a b d j)(c:Nat)(x:Int)(f:x=c):Gy (w.setCell (Q_ a 1) (J_ x)) a b c j:=by subst f;have:=Ak (i:=1) h (J_ c);unfold Gy;rw[this];rfl
theorem Gy.setBad(h:Gy w a b d j):Gy (w.setCell (Q_ a 2) (.bool true)) a b d true:=by have:=Ak (i:=2) h (.bool true);unfold Gy;rw[this];rfl
theorem Gy.below(h:Gy w a b d j)(g:Below w.heap.size w f):Gy f a b d j:=by
 unfold Gy at*;rw[g.block a ?_,h];rcases jX a w.heap.size with c|c
 ·exact c
 ·rw[aV c]at h;cases h
theorem Gy.drewN(h:Gy w a b d j)(c:Nat):Gy (w.drewN c) a b d j:=h
theorem Gy.lt{w:World}{a d:Nat}{b:hJ}{j:Bool}(h:Gy w a b d j):a<w.heap.size:=by
 unfold Gy at h;rcases jX a w.heap.size with c|c
 ·exact c
 ·rw[aV c]at h;cases h
theorem Gy.belowAt{t:Nat}(h:Gy w a b d j)(c:Below t w f)(g:a<t):Gy f a b d j:=by unfold Gy at*;rw[c.block a g,h]
def Iu(w:World)(b:Nat)(c:Cur):Prop:=∃s a,Gy w b s a c.bad/\a<=s.size/\s.size<=1000000000/\c.rem=s.data.toList.drop a
theorem Iu.bad(h:Iu w a g):Iu (w.setCell (Q_ a 2) (.bool true)) a ⟨g.rem,true⟩:=by obtain⟨b,c,d,f,i,j⟩:=h;exact⟨b,c,d.setBad,f,i,j⟩
theorem Iu.cells{w:World}{a:Nat}{g:Cur}(h:Iu w a g):w.cell? (Q_ a 2)=some (.bool g.bad)/\w.frozen? (Q_ a 2)=false:=by obtain⟨c,d,b,f,i,j⟩:=h;exact⟨b.cells.2.2.1,b.cells.2.2.2.2⟩
theorem We(a:hJ)(w:World)(b:a.size<=1000000000):Iu (w.alloc (C_ #[B_ a,J_ 0,.bool false] 259)) w.heap.size ⟨a.data.toList,false⟩:=
 ⟨a,0,xK _ _,O_,b,D_⟩
theorem Iu.drewN(h:Iu w a g)(b:Nat):Iu (w.drewN b) a g:=h
theorem Iu.below(h:Iu w a g)(l:Below w.heap.size w f):Iu f a g:=by obtain⟨b,c,d,i,j,k⟩:=h;exact⟨b,c,d.below l,i,j,k⟩
structure Hdr(w wr:World)(ks ss:hD)(vk vs:Value):Prop where
 res:wr.heap[w.heap.size]?=some (C_ #[Z_,Z_] 205 (0,0))
 var:wr.heap[w.heap.size+1]?=some (C_ #[vk,vs] 205 (0,0))
 keys:Bc (w.heap.size+2) wr vk ks
 secs:Bc (w.heap.size+2) wr vs ss
 apart:Ep vk vs
 bel:Below w.heap.size w wr
 sz:w.heap.size+2<=wr.heap.size
theorem Hdr.cells{w wr:World}{k l:hD}{c m:Value}(h:Hdr w wr k l c m):wr.cell? (Q_ (w.heap.size+1) 0)=some c/\wr.cell? (Q_ (w.heap.size+1) 1)=some m/\wr.frozen? (Q_ (w.heap.size+1) 0)=false/\wr.frozen? (Q_ (w.heap.size+1) 1)=false/\wr.frozen? (Q_ w.heap.size 0)=false/\wr.frozen? (Q_ w.heap.size 1)=false/\wr.cell? (Q_ w.heap.size 0)=some Z_/\wr.cell? (Q_ w.heap.size 1)=some Z_:=by have a:=h.res;have b:=h.var;refine⟨?_,?_,?_,?_,?_,?_,?_,?_⟩<;>simp[World.cell?,World.frozen?,a,b]
theorem Hdr.below(h:Hdr w wr k l c m)(a:Below wr.heap.size wr f):Hdr w f k l c m:=
 ⟨(a.block _ (by have:=h.sz;omega)).trans h.res,(a.block _ (by have:=h.sz;omega)).trans h.var,h.keys.below a X_,h.secs.below a X_,h.apart,h.bel.trans (a.mono (by have:=h.sz;omega)),xI h.sz a.size⟩
theorem XV(w:World):Hdr w ((w.alloc (C_ #[Z_,Z_] 205)).alloc (C_ #[Z_,Z_] 205)) [] [] Z_ Z_:=by
 refine⟨?_,?_,Bc.nil _ _,Bc.nil _ _,Sv _,((xA _ w).alloc X_ _).alloc D_ _,D_⟩
 ·rw[kR _ _ _ D_];exact xK _ _
 ·have:=xK (w.alloc (C_ #[Z_,Z_] 205)) (C_ #[Z_,Z_] 205);simpa using this
theorem Hdr.drewN(h:Hdr w wr k l c m)(a:Nat):Hdr w (wr.drewN a) k l c m:=⟨h.res,h.var,h.keys,h.secs,h.apart,Ao h.bel a,h.sz⟩
theorem Hdr.o(h:Hdr w wr k l c m):
  ((wr.setCell (Q_ w.heap.size 0) c).setCell (Q_ w.heap.size 1) m).cell? (Q_ w.heap.size 0)=some c/\((wr.setCell (Q_ w.heap.size 0) c).setCell (Q_ w.heap.size 1) m).cell? (Q_ w.heap.size 1)=some m/\Below w.heap.size w ((wr.setCell (Q_ w.heap.size 0) c).setCell (Q_ w.heap.size 1) m)/\Bc (w.heap.size+2) ((wr.setCell (Q_ w.heap.size 0) c).setCell (Q_ w.heap.size 1) m) c k/\Bc (w.heap.size+2) ((wr.setCell (Q_ w.heap.size 0) c).setCell (Q_ w.heap.size 1) m) m l:=by
 have a:=Ak (i:=1) (Ak (i:=0) h.res c) m;refine⟨?_,?_,(h.bel.setCell (p:=(Q_ w.heap.size 0)) X_ _).setCell (p:=(Q_ w.heap.size 1)) X_ _,(h.keys.setBelow O_ _).setBelow O_ _,(h.secs.setBelow O_ _).setBelow O_ _⟩
 ·unfold World.cell?;rw[a];rfl
 ·unfold World.cell?;rw[a];rfl
theorem Hdr.mid(h:Hdr w wr k l c m)(b:Below (w.heap.size+2) wr f):f.cell? (Q_ (w.heap.size+1) 0)=some c/\f.cell? (Q_ (w.heap.size+1) 1)=some m/\f.frozen? (Q_ (w.heap.size+1) 0)=false/\f.frozen? (Q_ (w.heap.size+1) 1)=false:=by have a:=(b.block (w.heap.size+1) O_).trans h.var;refine⟨?_,?_,?_,?_⟩<;>simp[World.cell?,World.frozen?,a]
theorem Hdr.apK(h:Hdr w wr k l c m)(i:Bc (w.heap.size+2) f r (k++[b]))(j:wr.grownBy f c.ownBlock)(n:r.ownBlock=c.ownBlock\/∃a,wr.heap.size<=a/\r.ownBlock=some a):
  Below (w.heap.size+2) wr f/\Hdr w (f.setCell (Q_ (w.heap.size+1) 0) r) (k++[b]) l r m:=by
 obtain⟨d,g,a⟩:=CL h.secs h.keys h.sz h.apart.symm j n;refine⟨a,(kS _ _ _ _ D_).trans ((a.block _ O_).trans h.res),?_,i.setBelow O_ _,d.setBelow O_ _,g.symm,(h.bel.trans (a.mono O_)).setCell (p:=(Q_ (w.heap.size+1) 0)) D_ _,?_⟩
 ·rw[Ak (i:=0) ((a.block (w.heap.size+1) O_).trans h.var) r];rfl
 ·have:=h.sz;have:=a.size;simp[World.setCell];omega
theorem Hdr.apS(h:Hdr w wr k l c m)(i:Bc (w.heap.size+2) f r (l++[b]))(j:wr.grownBy f m.ownBlock)(n:r.ownBlock=m.ownBlock\/∃a,wr.heap.size<=a/\r.ownBlock=some a):
  Below (w.heap.size+2) wr f/\Hdr w (f.setCell (Q_ (w.heap.size+1) 1) r) k (l++[b]) c r:=by
 obtain⟨d,g,a⟩:=CL h.keys h.secs h.sz h.apart j n;refine⟨a,(kS _ _ _ _ D_).trans ((a.block _ O_).trans h.res),?_,d.setBelow O_ _,i.setBelow O_ _,g,(h.bel.trans (a.mono O_)).setCell (p:=(Q_ (w.heap.size+1) 1)) D_ _,?_⟩
 ·rw[Ak (i:=1) ((a.block (w.heap.size+1) O_).trans h.var) r];rfl
 ·have:=h.sz;have:=a.size;simp[World.setCell];omega
def Agn(w:World)(b:Nat)(c:Cur)(r:Ending)(w':World):Prop:=∃v ml,r=R_ v/\Ac ml=(Ef c.byte (c.take 1).2).1/\ml.length<=255/\Bb w.heap.size w' v ml/\Iu w' b (Ef c.byte (c.take 1).2).2/\But b w w'
theorem Iu.other(h:Iu w a g)(j:f.heap[a]?=w.heap[a]?):Iu f a g:=by obtain⟨b,c,d,i⟩:=h;exact⟨b,c,by unfold Gy at*;rw[j];exact d,i⟩
structure Mid(w wr:World)(b xb:Nat)(c:Cur)(ml:gZ)(vl:Value)(kd:Int)(key val:hJ):Prop where
 cur:Iu wr b c
 own:Bb w.heap.size wr vl ml
 but:But b w wr
 x:wr.heap[xb]?=some (C_ #[J_ kd,B_ key,B_ val] 34 (0,0))
 ne:∀k,vl.ownBlock=some k->k≠xb
 ge:w.heap.size<=xb
 lt:b<w.heap.size
theorem Mid.cells{w wr:World}{a d:Nat}{g:Cur}{n:gZ}{c:Value}{q:Int}{b p:hJ}(h:Mid w wr a d g n c q b p):wr.cell? (Q_ d 0)=some (J_ q)/\wr.cell? (Q_ d 1)=some (B_ b)/\wr.cell? (Q_ d 2)=some (B_ p)/\wr.frozen? (Q_ d 1)=false/\wr.frozen? (Q_ d 2)=false/\d<wr.heap.size:=by have f:=h.x;refine⟨?_,?_,?_,?_,?_,(xS.1 f).1⟩<;>simp[World.cell?,World.frozen?,f]
theorem Mid.step{y:Cur}(h:Mid w wr a d g n c q b p)(j:Iu f a y)(i:But a wr f):Mid w f a d y n c q b p:=
 ⟨j,h.own.but i h.lt,Aw h.but i,(i.block d h.cells.2.2.2.2.2 (by have:=h.ge;have:=h.lt;simp;omega)).trans h.x,h.ne,h.ge,h.lt⟩
theorem Mid.set{key' val':hJ}(h:Mid w wr a d g n c q b p)(f:Nat)(i:Value)(o:(#[J_ q,B_ b,B_ p]:Array Value).setIfInBounds f i= #[J_ q,B_ key',B_ val']):Mid w (wr.setCell (Q_ d f) i) a d g n c q key' val':=by
 have k:a≠d:=by have:=h.ge;have:=h.lt;omega
 refine⟨h.cur.other (kS _ _ _ _ k),zP h.own (Be d f wr i) ?_,?_,?_,h.ne,h.ge,h.lt⟩
 ·cases e:c.ownBlock with
  | none=>exact .inl rfl
  | some j=>exact .inr (fun l=>h.ne j e (by simpa using l))
 ·exact⟨h.but.os,h.but.tape,h.but.output,xI h.but.size (Be d f wr i).size,fun j l m=>(kS _ _ _ _ (by have:=h.ge;show j≠d;omega)).trans (h.but.block j l m)⟩
 ·rw[Ak (i:=f) h.x i,o]
theorem Ae1{kd:Int}(f:a<w.heap.size)(l:Iu wr a g)(i:Bb w.heap.size wr c n)(b:But a w wr):Mid w (wr.alloc (C_ #[J_ kd,B_ ⟨#[]⟩,B_ ⟨#[]⟩] 34)) a wr.heap.size g n c kd ⟨#[]⟩ ⟨#[]⟩:=by have d:=(xA wr.heap.size wr).alloc X_ (C_ #[J_ kd,B_ ⟨#[]⟩,B_ ⟨#[]⟩] 34);refine⟨l.other (d.block a (yF f b.size)),cN i _,Aw b (Mo d),xK _ _,fun j k=> ?_,b.size,f⟩;have:=(xF i j k).2;omega
theorem Mid.ap(h:Mid w wr a d g n c q b p)(j:wr.grownBy f c.ownBlock):Iu f a g/\But a w f:=by
 have l:∀i,i<w.heap.size->some i≠c.ownBlock:=fun i k e=>by have:=(xF h.own i e.symm).1;omega
 refine⟨h.cur.other (j.block a (yF h.lt h.but.size) (l a h.lt)),⟨j.os.trans h.but.os,j.tape.trans h.but.tape,j.output.trans h.but.output,xI h.but.size j.size,fun i k m=>(j.block i (yF k h.but.size) (l i k)).trans (h.but.block i k m)⟩⟩
