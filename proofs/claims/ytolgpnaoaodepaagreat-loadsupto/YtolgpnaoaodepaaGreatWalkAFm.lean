import Derived.Test.YtolgpnaoaodepaaGreatMathJm
set_option maxHeartbeats 4000000
set_option maxRecDepth 20000
namespace Go.Proofs.YtolgpnaoaodepaaGreat
open Go.RowKit
variable {a j m B:Nat}{w i:World}{v b c d f g:Value}{k:TypeId}{l:hH}{p:hD}
def ChQ(b:Nat)(w:World)(o:Option (List (Int×hE×hE)×hE))(r:Ending)(w':World):Prop:=But b w w'/\((o=none/\r=Am)\/∃l v u,o=some (Ac l,u)/\r=R_ v/\Bb w.heap.size w' v l/\l.length<=255/\Rd w' b u)
def PvQ(b:Nat)(w:World)(o:Option (List hE×hE))(r:Ending)(w':World):Prop:=But b w w'/\((o=none/\r=Am)\/∃l v u,o=some (Ag l,u)/\r=R_ v/\Bc w.heap.size w' v l/\l.length<=255/\Rd w' b u)
theorem Pe(b:But a w i){s:World}(n:i.ownsRow j k m v B l)(o:w.heap.size<=j)(c:i.grownBy s v.ownBlock):But a w s:=
 ⟨c.os.trans b.os,c.tape.trans b.tape,c.output.trans b.output,xI b.size c.size,fun d f g=>(c.block d (yF f b.size) (fun e=>by have:=(xF n d e.symm).1;omega)).trans (b.block d f g)⟩
theorem YU(h:But a w i)(f:Obj):But a w (i.alloc f):=
 ⟨h.os,h.tape,h.output,by have:=h.size;simp;omega,fun b c d=>(kR _ _ _ (by have:=h.size;omega)).trans (h.block b c d)⟩
theorem ER(k a:Nat)(g:hE)(w:World)(i:Rd w k g)(b4:a<=255)(b5:g.length<=10000000):
  Calls Tryz.prog 267 #[A_ k,J_ a] w fun c a0=>PvQ k w (Pr.Hk (a-1) g) c a0:=by
 have a2:=i.lt;have z:=Aa i;clear i;go_in;go_wp2_with fail
 go_loopw [5,8] (fun a1 y wr=>∃(b:Nat) (d:hD) (f:hE),(b:Int)<=max 0 ((a:Int)-1)/\y=J_ b/\d.length<=b/\f.length<=g.length/\Bc w.heap.size wr a1 d/\Rd wr k f/\But k w wr/\(Pr.Hk (a-1-b) f).map (fun c=>(Ag d++c.1,c.2))=Pr.Hk (a-1) g) (fun _ y _=>a-(intOf y).toNat)
 case atStart=>exact⟨0,[],g,O_,rfl,D_,X_,Bc.nil _ _,z.o,Rj _ _,by simp[Ag]⟩
 case round=>
  clear z;obtain⟨b,d,f,a6,rfl,a7,a8,q,i,r,F⟩:=hrel;have A:=Aa q;have B:=Aa i;have m:=Aa r;have n:=Aa F;have a3:=r.size;obtain⟨G,H,rfl⟩:=q.shape;clear q i r F;by_cases b3:b+1<a
  ·obtain⟨l,I⟩:∃l,a-1-b=l+1:=⟨a-1-b-1,O_⟩;have O:Hid (l=a-1-(b+1)):=(by show _=_;omega);have C:Hid (Pr.Hk (a-1-b) f=(Pr.Fx f).bind fun x=>(Pr.Hk l x.2).map fun c=>(x.1::c.1,c.2)):=(by show _=_;rw[I];rfl);clear I;have D:=Aa (Mr k f wr B.o O_);have R:(b:Int)<(a:Int)-1:=O_;go_wp2_with fail;refine D.o.mono ?_;rintro c J ⟨j,⟨L,rfl⟩|⟨x,M,s,rfl,N⟩⟩
   ·have S:Hid (Pr.Hk (a-1) g=none):=(by show _=_;rw[<-n.o,C.o,L];rfl);have o:=Aa (Aw m.o j);clear j L;unfold Am;go_wp2_with fail;exact⟨rfl,o.o,.inl ⟨S.o,rfl⟩⟩
   ·have a4:=Pr.Pa s;have T:Hid ((Pr.Hk (a-1-(b+1)) M).map (fun c=>(Ag (d++[⟨x.toArray⟩])++c.1,c.2))=Pr.Hk (a-1) g):=by
     show _=_;rw[<-n.o,C.o,s,<-O.o];simp only[xV,vX];congr 1
     funext c
     simp[Ag]
    have o:=Aa (Aw m.o j);have U:=Aa N;have p:Hid (Bc w.heap.size J (L_ G d.length H) d):=Hj A.o j O_;have a5:=j.size;clear j s N D;unfold sv
    go_wp2_with (first
     | (at_builtin;refine IJ J rfl (.tmp 10) (.tmp 13) rfl w.heap.size (L_ G d.length H) d rfl p.o ⟨x.toArray⟩ rfl O_ O_ ?_))
    intro b1 b2 t u Z;have V:=Aa t;have W:=Aa (U.o.grown u (fun e=>by have:=(xF p.o _ e.symm).1;omega));have X:=Aa (Pe o.o p.o X_ u);obtain⟨a9,b0,rfl⟩:=t.shape;clear t u Z;go_wp2_with fail
    go_roundw
    case rel=>exact⟨b+1,_,M,O_,W_,by rw[xC];simp;omega,O_,V.o,W.o,X.o,T.o⟩
    case measure=>simp[intOf];omega
  ·have Y:Hid (Pr.Hk (a-1) g=some (Ag d,f)):=by
    show _=_;rw[<-n.o,show a-1-b=0 by omega];simp[Pr.Hk]
   have R:¬(b:Int)<(a:Int)-1:=O_;go_wp2_with fail;go_ret;exact⟨m.o,.inr ⟨d,_,f,Y.o,rfl,A.o,O_,B.o⟩⟩
theorem Ua(a:gZ)(x:Int×ByteArray×ByteArray):Ac (a++[x])=Ac a++[(x.1,x.2.1.data.toList,x.2.2.data.toList)]:=by simp[Ac]
theorem BE(g:Nat)(j:hE)(w:World)(o:Rd w g j)(i0:j.length<=10000000):
  Calls Tryz.prog 250 #[A_ g] w fun a f4=>ChQ g w (Pr.Qv j) a f4:=by
 have f9:=o.lt;have B:=Aa (Jv g j w o);clear o;go_in;go_wp2_with fail;refine B.o.mono ?_;rintro a h8 ⟨H,⟨d0,rfl⟩|⟨S,A,a6,rfl,d1⟩⟩
 ·have e0:Hid (Pr.Qv j=none):=by show _=_;unfold Pr.Qv;rw[d0];rfl
  have y:=Aa H;clear H d0;unfold Am;go_wp2_with fail;exact⟨rfl,y.o,.inl ⟨e0.o,rfl⟩⟩
 have N:Hid (Pr.Qv j=Pr.Dc S.toNat A):=by show _=_;unfold Pr.Qv;rw[a6];rfl
 have e1:A.length<=j.length:=by rw[Pr.Lf a6];simp
 have b5:=Aa H;have b6:=Aa d1;have e2:=H.size;have g0:S.toNat<256:=S.toNat_lt;clear H a6 d1 B;unfold bv;generalize S.toNat=f at*;go_wp2_with fail
 go_loopw [3,7] (fun f5 b4 wr=>∃(c:Nat) (b:gZ) (k:hE),c<=f/\b4=.int .u8 c/\b.length<=c/\k.length<=j.length/\Bb w.heap.size wr f5 b/\Rd wr g k/\But g w wr/\(Pr.Dc (f-c) k).map (fun a=>(Ac b++a.1,a.2))=Pr.Dc f A) (fun _ b4 _=>f-(intOf b4).toNat)
 case atStart=>exact⟨0,[],A,Y_,rfl,D_,e1,yP _ _ _ _,b6.o,b5.o,by simp[Ac]⟩
 case round=>
  clear b6 b5 e2;obtain⟨c,b,k,h6,rfl,h7,c7,a4,o,a5,c8⟩:=hrel;have U:=Aa a4;have b7:=Aa o;have y:=Aa a5;have z:=Aa c8;have g1:=a5.size;obtain⟨q,r,rfl⟩:=Ad a4;clear a4 o a5 c8;by_cases h9:c<f
  ·obtain⟨n,c9⟩:∃n,f-c=n+1:=⟨f-c-1,O_⟩;have b8:Hid (n=f-(c+1)):=(by show _=_;omega);have V:Hid (Pr.Dc (f-c) k=(Pr.Ee k).bind fun g=>(Pr.Fx g.2).bind fun c=>if g.1.toNat=2 then(Pr.Dc n c.2).map fun a=>(((2:Int),c.1,[])::a.1,a.2)else(Pr.Fx c.2).bind fun v=>(Pr.Dc n v.2).map fun a=>(((g.1.toNat:Int),c.1,v.1)::a.1,a.2)):=(by show _=_;rw[c9];rfl);clear c9;have B:=Aa (Jv g k wr b7.o);go_wp2_with fail;refine B.o.mono ?_;rintro a d2 ⟨I,⟨d3,rfl⟩|⟨J,a7,a8,rfl,d4⟩⟩
   ·have C:Hid (Pr.Qv j=none):=(by show _=_;rw[N.o,<-z.o,V.o,d3];rfl);have D:=Aa (Aw y.o I);clear I d3;unfold Am;go_wp2_with fail;exact⟨rfl,D.o,.inl ⟨C.o,rfl⟩⟩
   have W:Hid (Pr.Dc (f-c) k=(Pr.Fx a7).bind fun x=>if J.toNat=2 then(Pr.Dc n x.2).map fun a=>(((2:Int),x.1,[])::a.1,a.2)else(Pr.Fx x.2).bind fun v=>(Pr.Dc n v.2).map fun a=>(((J.toNat:Int),x.1,v.1)::a.1,a.2)):=(by show _=_;rw[V.o,a8];rfl);have g2:a7.length<=j.length:=(by have:=Pr.Lf a8;rw[this]at c7;simp at c7;omega);have D:=Aa (Aw y.o I);have b9:Hid (Bb w.heap.size d2 (L_ q b.length r) b):=Hj U.o I O_;have g3:J.toNat<256:=J.toNat_lt;have c0:=Aa (Mr g a7 d2 d4 O_);clear I a8 d4 B V U y;unfold bv;generalize J.toNat=d at*;go_wp2_with fail;refine c0.o.mono ?_;rintro a i ⟨L,⟨d5,rfl⟩|⟨x,M,a9,rfl,d6⟩⟩
   ·have C:Hid (Pr.Qv j=none):=(by show _=_;rw[N.o,<-z.o,W.o,d5];rfl);have O:=Aa (Aw D.o L);clear L d5;unfold Am;go_wp2_with fail;exact⟨rfl,O.o,.inl ⟨C.o,rfl⟩⟩
   have F:Hid (Pr.Dc (f-c) k=if d=2 then(Pr.Dc n M).map fun a=>(((2:Int),x,[])::a.1,a.2)else(Pr.Fx M).bind fun v=>(Pr.Dc n v.2).map fun a=>(((d:Int),x,v.1)::a.1,a.2)):=(by show _=_;rw[W.o,a9];rfl);have g4:=Pr.Pa a9;have O:=Aa (Aw D.o L);have c1:Hid (Bb w.heap.size i (L_ q b.length r) b):=Hj b9.o L O_;have X:=Aa d6;have g5:=O.o.size;clear L a9 d6 c0 W b9 D;unfold sv;have Y:=Aa (YU O.o (C_ #[J_ (d:Int),B_ ⟨x.toArray⟩,B_ ⟨#[]⟩] 34));have R:Hid (Bb w.heap.size (i.alloc (C_ #[J_ (d:Int),B_ ⟨x.toArray⟩,B_ ⟨#[]⟩] 34)) (L_ q b.length r) b):=cN c1.o _;have c2:=Aa (X.o.below ((xA i.heap.size i).alloc X_ (C_ #[J_ (d:Int),B_ ⟨x.toArray⟩,B_ ⟨#[]⟩] 34)) X.o.lt);have e3:Hid ((i.alloc (C_ #[J_ (d:Int),B_ ⟨x.toArray⟩,B_ ⟨#[]⟩] 34)).heap[i.heap.size]?=some (C_ #[J_ (d:Int),B_ ⟨x.toArray⟩,B_ ⟨#[]⟩] 34 (0,0))):=xK _ _;have g6:i.heap.size<(i.alloc (C_ #[J_ (d:Int),B_ ⟨x.toArray⟩,B_ ⟨#[]⟩] 34)).heap.size:=D_;have g7:g<i.heap.size:=X.o.lt;have e4:=Aa (SI c1.o (Nat.le_refl i.heap.size));by_cases T:d=2
   ·rw[xD T]at F;have e5:((d:Int)==2)=true:=K_;have e6:Hid ((d:Int)=2):=(by show _=_;omega);clear T
    go_wp2_with (first
     | (at_builtin;refine Ix (i.alloc (C_ #[J_ (d:Int),B_ ⟨x.toArray⟩,B_ ⟨#[]⟩] 34)) rfl (.tmp 21) (.tmp 23) 77 34 kX _ 3 40 Em rfl Do Do rfl w.heap.size (L_ q b.length r) b.length (Cd b) rfl R.o [J_ (d:Int),B_ ⟨x.toArray⟩,B_ ⟨#[]⟩] rfl (Adw _ _ _) U_ O_ O_ ?_))
    intro b1 b2 t u b3;have Z:Hid (Bb w.heap.size b2 b1 (b++[((d:Int),⟨x.toArray⟩,⟨#[]⟩)])):=(by show Bb _ _ _ _;unfold Bb;rw[xC,Nz];exact t);have a0:=Aa (c2.o.grown u (fun e=>by have:=(xF R.o _ e.symm).1;omega));have a1:=Aa (Pe Y.o R.o X_ u);have a2:Hid ((Pr.Dc (f-(c+1)) M).map (fun a=>(Ac (b++[((d:Int),⟨x.toArray⟩,⟨#[]⟩)])++a.1,a.2))=Pr.Dc f A):=by
     show _=_;rw[<-z.o,F.o,<-b8.o,Ua,e6.o];simp only[vX];congr 1
     funext a
     simp
    obtain⟨f2,f3,rfl⟩:=Ad t;clear t u b3;go_wp2_with fail
    go_roundw
    case rel=>exact⟨c+1,_,M,O_,W_,by rw[xC];simp;omega,O_,Z.o,a0.o,a1.o,a2.o⟩
    case measure=>simp[intOf];omega
   ·rw[xB T]at F;have e5:((d:Int)==2)=false:=K_;clear T;go_wp2_with fail;generalize i.alloc (C_ #[J_ (d:Int),B_ ⟨x.toArray⟩,B_ ⟨#[]⟩] 34)=f8 at*;generalize i.heap.size=m at*;have c3:=Aa (Mr g M f8 c2.o O_);refine c3.o.mono ?_;rintro a l ⟨s,⟨d7,rfl⟩|⟨v,d8,b0,rfl,d9⟩⟩
    ·have C:Hid (Pr.Qv j=none):=(by show _=_;rw[N.o,<-z.o,F.o,d7];rfl);have p:=Aa (Aw Y.o s);clear s d7;unfold Am;go_wp2_with fail;exact⟨rfl,p.o,.inl ⟨C.o,rfl⟩⟩
    ·have g8:=Pr.Pa b0;have a2:Hid ((Pr.Dc (f-(c+1)) d8).map (fun a=>(Ac (b++[((d:Int),⟨x.toArray⟩,⟨v.toArray⟩)])++a.1,a.2))=Pr.Dc f A):=by
      show _=_;rw[<-z.o,F.o,b0,<-b8.o,Ua];simp only[xV,vX];congr 1
      funext a
      simp
     have p:=Aa (Aw Y.o s);have G:=Aa ((s.block m O_ K_).trans e3.o);have e7:Hid (Bb w.heap.size l (L_ q b.length r) b):=Hj R.o s O_;have e8:=Aa d9;have c4:=p.o.size;have g9:=s.size;have h1:l.cell? (Q_ m 0)=some (J_ (d:Int)):=(by unfold World.cell?;rw[G.o];rfl);have h2:l.cell? (Q_ m 1)=some (B_ ⟨x.toArray⟩):=(by unfold World.cell?;rw[G.o];rfl);have h3:l.cell? (Q_ m 2)=some (B_ ⟨#[]⟩):=(by unfold World.cell?;rw[G.o];rfl);have h4:l.frozen? (Q_ m 2)=false:=(by unfold World.frozen?;rw[G.o];rfl);have h5:=Aa (Ak (i:=2) G.o (B_ ⟨v.toArray⟩));have a3:Hid (Bb w.heap.size (l.setCell (Q_ m 2) (B_ ⟨v.toArray⟩)) (L_ q b.length r) b):=zP e7.o (Be m 2 l _) (.inr (fun e=>e4.o e));have e9:=Aa (e8.o.setOther (c:=m) (i:=2) O_ (B_ ⟨v.toArray⟩));have f0:Hid (But g w (l.setCell (Q_ m 2) (B_ ⟨v.toArray⟩))):=⟨p.o.os,p.o.tape,p.o.output,by simp[World.setCell];exact c4,fun f6 f7 o=>(kS _ _ _ _ K_).trans (p.o.block f6 f7 o)⟩;have c5:(l.setCell (Q_ m 2) (B_ ⟨v.toArray⟩)).heap.size=l.heap.size:=(by simp[World.setCell]);have c6:=Aa c5;clear s b0 d9 c3 c5;unfold sv
     go_wp2_with (first
      | (at_builtin;refine Ix (l.setCell (Q_ m 2) (B_ ⟨v.toArray⟩)) rfl (.tmp 21) (.tmp 23) 77 34 kX _ 3 40 Em rfl Do Do rfl w.heap.size (L_ q b.length r) b.length (Cd b) rfl a3.o [J_ (d:Int),B_ ⟨x.toArray⟩,B_ ⟨v.toArray⟩] rfl (Adw _ _ _) (by rw[c6.o];rfl) O_ (by rw[c6.o];exact c4) ?_))
     intro b1 b2 t u b3;have Z:Hid (Bb w.heap.size b2 b1 (b++[((d:Int),⟨x.toArray⟩,⟨v.toArray⟩)])):=(by show Bb _ _ _ _;unfold Bb;rw[xC,Nz];exact t);have a0:=Aa (e9.o.grown u (fun e=>by have:=(xF a3.o _ e.symm).1;omega));have a1:=Aa (Pe f0.o a3.o X_ u);obtain⟨f2,f3,rfl⟩:=Ad t;clear t u b3;go_wp2_with fail
     go_roundw
     case rel=>exact⟨c+1,_,d8,O_,W_,by rw[xC];simp;omega,O_,Z.o,a0.o,a1.o,a2.o⟩
     case measure=>simp[intOf];omega
  ·have f1:Hid (Pr.Qv j=some (Ac b,k)):=by
    show _=_;rw[N.o,<-z.o,show f-c=0 by omega];simp[Pr.Dc]
   go_wp2_with fail;go_ret;exact⟨y.o,.inr ⟨b,_,k,f1.o,rfl,U.o,O_,b7.o⟩⟩
def Ahi(w:World)(o:Option (hF×List hE))(r:Ending)(w':World):Prop:=Below w.heap.size w w'/\((o=none/\r=Am)\/∃cl pl v1 v2,o=some (cl,Ag pl)/\r=R_ (.tuple #[v1,v2])/\w'.ownsRow w.heap.size 3 1 v1 cl.length (Cl cl)/\Bc w.heap.size w' v2 pl/\cl.length<=255/\pl.length<=255)
theorem Yr(c:hE)(b:Nat)(w:World)(b4:b<=255)(d0:c.length<=1000000):
  Calls Tryz.prog 248 #[B_ ⟨c.toArray⟩,J_ b] w fun f b2=>Ahi w (Pr.Hx c b) f b2:=by
 go_in;go_wp2_with fail;refine(Fg c _).mono ?_;rintro f c5 ⟨rfl,rfl⟩;have I:=Aa (Sb w c);have J:=Aa ((xA w.heap.size w).alloc X_ (C_ #[B_ ⟨c.toArray⟩] 298));have L:w.heap.size<(w.alloc (C_ #[B_ ⟨c.toArray⟩] 298)).heap.size:=D_
 generalize w.alloc (C_ #[B_ ⟨c.toArray⟩] 298)=c9 at*;go_wp2_with fail
 go_loopw [4,10] (fun b3 H wr=>∃(d:Nat) (a:hF) (i:hE),d<=b/\H=J_ d/\a.length<=d/\i.length<=c.length/\wr.ownsRow (w.heap.size+1) 3 1 b3 a.length (Cl a)/\Rd wr w.heap.size i/\Below w.heap.size w wr/\w.heap.size<wr.heap.size/\(Pr.Qw (b-d) i).map (fun f=>(a++f.1,f.2))=Pr.Qw b c) (fun _ H _=>b-(intOf H).toNat)
 case atStart=>exact⟨0,[],c,Y_,rfl,D_,X_,yP _ _ _ _,I.o,J.o,L,D_⟩
 case round=>
  clear I J L;obtain⟨d,a,i,T,rfl,b8,b9,B,U,V,c0,W⟩:=hrel;have M:=Aa B;have N:=Aa U;have r:=Aa V;have y:=Aa W;obtain⟨C,D,rfl⟩:=Ad B;clear B U V W;by_cases c8:d<b
  ·obtain⟨t,X⟩:∃t,b-d=t+1:=⟨b-d-1,O_⟩;have a2:Hid (t=b-(d+1)):=(by show _=_;omega);have O:Hid (Pr.Qw (b-d) i=(Pr.Ds i).bind fun x=>(Pr.Qw t x.2).map fun f=>(x.1::f.1,f.2)):=(by show _=_;rw[X];rfl);clear X;have n:=Aa (Of w.heap.size i wr N.o);go_wp2_with fail;refine n.o.mono ?_;rintro f l ⟨g,⟨p,rfl⟩|⟨x,Y,m,rfl,q⟩⟩
   ·have z:Hid (Pr.Hx c b=none):=(by show _=_;unfold Pr.Hx;rw[<-y.o,O.o,p];rfl);have j:=Aa (Aq r.o g X_ O_);clear g p;unfold Am;go_wp2_with fail;exact⟨rfl,j.o,.inl ⟨z.o,rfl⟩⟩
   ·have b5:=Pr.Uo m;have a3:Hid ((Pr.Qw (b-(d+1)) Y).map (fun f=>(a++[x]++f.1,f.2))=Pr.Qw b c):=by
     show _=_;rw[<-y.o,O.o,m,<-a2.o];simp only[xV,vX];congr 1
     funext f
     simp
    have j:=Aa (Aq r.o g X_ O_);have a4:=Aa q;have o:Hid (l.ownsRow (w.heap.size+1) 3 1 (L_ C a.length D) a.length (Cl a)):=Hj M.o g O_;have b6:=g.size;clear g m q n;unfold nv
    go_wp2_with (first
     | (at_builtin;refine Ix l rfl (.tmp 12) (.tmp 15) 25 3 aK _ 1 8 Rl rfl Do Do rfl (w.heap.size+1) (L_ C a.length D) a.length (Cl a) rfl o.o [J_ (x:Int)] rfl (by intro c7 k;simp at k;subst k;rfl) rfl O_ O_ ?_))
    intro b0 a0 G u b1;have a5:Hid (a0.ownsRow (w.heap.size+1) 3 1 b0 (a++[x]).length (Cl (a++[x]))):=(by show World.ownsRow _ _ _ _ _ _ _;rw[xC,show Cl (a++[x])=Cl a++[J_ (x:Int)]by simp[Cl]];exact G);have a6:=Aa (a4.o.grown u (fun e=>by have:=(xF o.o _ e.symm).1;omega));have a7:=Aa (j.o.trans (((xA (w.heap.size+1) l).grown u O_ fun d T=>(xF o.o d T).1).mono O_));have b7:=u.size;obtain⟨c1,c2,rfl⟩:=Ad G;clear G u b1;go_wp2_with fail
    go_roundw
    case rel=>exact⟨d+1,_,Y,O_,W_,by rw[xC];simp;omega,O_,a5.o,a6.o,a7.o,O_,a3.o⟩
    case measure=>simp[intOf];omega
  ·have R:Hid (Pr.Qw b c=some (a,i)):=by
    show _=_;rw[<-y.o,show b-d=0 by omega];simp[Pr.Qw]
   have A:Hid (Pr.Hx c b=(Pr.Hk (b-1) i).bind fun a1=>if a1.2=[]then some (a,a1.1)else none):=(by show _=_;unfold Pr.Hx;rw[R.o];rfl);have n:=Aa (ER w.heap.size b i wr N.o b4 O_);go_wp2_with fail;refine n.o.mono ?_;rintro f l ⟨g,⟨p,rfl⟩|⟨Z,c6,u2,m,rfl,F,a9,q⟩⟩
   ·have z:Hid (Pr.Hx c b=none):=(by show _=_;rw[A.o,p];rfl);have j:=Aa (Aq r.o g X_ O_);clear g p;unfold Am;go_wp2_with fail;exact⟨rfl,j.o,.inl ⟨z.o,rfl⟩⟩
   ·have s:Hid (Pr.Hx c b=if u2=[]then some (a,Ag Z)else none):=(by show _=_;rw[A.o,m];rfl);have j:=Aa (Aq r.o g X_ O_);have o:Hid (l.ownsRow (w.heap.size+1) 3 1 (L_ C a.length D) a.length (Cl a)):=Hj M.o g O_;have a8:=Aa F;have S:=Aa (EH w.heap.size u2 l q);obtain⟨c3,c4,rfl⟩:=F.shape;clear g m q F n A R;go_wp2_with fail;refine S.o.mono ?_;rintro f a0 ⟨rfl,rfl⟩;clear S;by_cases k:u2=[]
    ·rw[xD k]at s⊢;clear k;go_wp2_with fail;go_ret2;exact⟨j.o,.inr ⟨a,Z,_,_,s.o,rfl,Bi o.o O_,Bi a8.o O_,O_,a9⟩⟩
    ·rw[xB k]at s⊢;clear k;unfold Am;go_wp2_with fail;exact⟨rfl,j.o,.inl ⟨s.o,rfl⟩⟩
def Bq(w:World)(b:Nat)(v0 v1 v2 v3 v4:Value):Prop:=w.heap[b]?=some (C_ #[v0,v1,v2,v3,v4] 79 (0,0))
theorem Bq.cells{w:World}{a:Nat}{b c d f g:Value}(h:Bq w a b c d f g):w.cell? (Q_ a 0)=some b/\w.cell? (Q_ a 1)=some c/\w.cell? (Q_ a 2)=some d/\w.cell? (Q_ a 3)=some f/\w.cell? (Q_ a 4)=some g/\w.frozen? (Q_ a 0)=false/\w.frozen? (Q_ a 1)=false/\w.frozen? (Q_ a 2)=false/\w.frozen? (Q_ a 3)=false/\w.frozen? (Q_ a 4)=false:=by unfold Bq at h;refine⟨?_,?_,?_,?_,?_,?_,?_,?_,?_,?_⟩<;>simp[World.cell?,World.frozen?,h]
theorem Bq.lt{w:World}{a:Nat}{b c d f g:Value}(h:Bq w a b c d f g):a<w.heap.size:=(xS.1 h).1
theorem Bq.but(h:Bq w a b c d f g)(k:But j w i)(l:a≠j):Bq i a b c d f g:=(k.block a h.lt (by simpa using l)).trans h
theorem Bq.below(h:Bq w a b c d f g)(j:Below B w i)(k:a<B):Bq i a b c d f g:=(j.block a k).trans h
theorem Bq.keep{w':World}(h:Bq w a b c d f g)(i:Below w.heap.size w w'):Bq w' a b c d f g:=h.below i h.lt
theorem Cz(w:World)(a b c d f:Value):Bq (w.alloc (C_ #[a,b,c,d,f] 79)) w.heap.size a b c d f:=xK _ _
def Gp(B:Nat)(w:World)(v:Value)(kd:Int)(il:gY)(cl:hF)(pl:hD)(ml:gZ):Prop:=
 ∃v1 v2 v3 v4,v=.agg #[J_ kd,v1,v2,v3,v4]/\Ap B w v1 il/\w.ownsRow B 3 1 v2 cl.length (Cl cl)/\Bc B w v3 pl/\Bb B w v4 ml/\il.length<=1020/\cl.length<=255/\pl.length<=255/\ml.length<=255
def TN(kd:Int)(v:Value):Prop:=(kd=1->∃v1,v=.agg #[J_ 1,v1,Z_,Z_,Z_])/\(kd=2->∃v2 v3 v4,v=.agg #[J_ 2,Z_,v2,v3,v4])
theorem Aei(a:Value):TN 1 (.agg #[J_ 1,a,Z_,Z_,Z_]):=⟨fun _=>⟨_,rfl⟩,fun h=>absurd h Do⟩
theorem Aej(a b c:Value):TN 2 (.agg #[J_ 2,Z_,a,b,c]):=⟨fun h=>absurd h Do,fun _=>⟨_,_,_,rfl⟩⟩
def ES(w:World)(o:Option (Int×List (hE×hE)×hF×List hE×List (Int×hE×hE)))(r:Ending)(w':World):Prop:=Below w.heap.size w w'/\((o=none/\r=Am)\/∃kd il cl pl ml v,o=some (kd,Ab il,cl,Ag pl,Ac ml)/\r=R_ v/\Gp w.heap.size w' v kd il cl pl ml/\TN kd v)
theorem Afy{α:Type}{t:List α}(h:t.length=2):∃a b,t=[a,b]:=by
 match t,h with
 | [a,b],_=>exact⟨a,b,rfl⟩
theorem Bq.set1(h:Bq w a b c d f g)(i:Value):Bq (w.setCell (Q_ a 1) i) a b i d f g:=by unfold Bq at*;rw[Ak (i:=1) h];rfl
theorem Bq.set2(h:Bq w a b c d f g)(i:Value):Bq (w.setCell (Q_ a 2) i) a b c i f g:=by unfold Bq at*;rw[Ak (i:=2) h];rfl
theorem Bq.set3(h:Bq w a b c d f g)(i:Value):Bq (w.setCell (Q_ a 3) i) a b c d i g:=by unfold Bq at*;rw[Ak (i:=3) h];rfl
theorem Bq.set4(h:Bq w a b c d f g)(i:Value):Bq (w.setCell (Q_ a 4) i) a b c d f i:=by unfold Bq at*;rw[Ak (i:=4) h];rfl
theorem WH(a:UInt8)(b:hJ)(w:World):Calls Tryz.prog 249 #[.int .u8 (a.toNat:Int),B_ b] w fun c d=>c=Qj (Pr.Lz a b.data.toList)/\Below w.heap.size w d:=by
 have:=Qu a b.data.toList w
 rwa [BO]at this
theorem Aek(w:World)(x a:Nat):Ik (w.alloc (C_ #[J_ (x:Int),J_ (a:Int)] 3)) (L_ (P_ w.heap.size) 2 2) 2 (Cl [x,a]):=by
 refine⟨_,_,rfl,O_,.inr ⟨_,_,rfl,D_,fun b c=> ?_⟩⟩;have e:=xK w (C_ #[J_ (x:Int),J_ (a:Int)] 3)
 match b,c with
 | 0,_=>unfold World.cell?;rw[e];rfl
 | 1,_=>unfold World.cell?;rw[e];rfl
theorem De(h:w.ownsRow B k a v j l){b i:Nat}(d:b<B)(c:Value):(w.setCell (Q_ b i) c).ownsRow B k a v j l:=aO h d c
abbrev Hl(w:World)(b:Nat)(v0 v1 v2 v3 v4:Value):World:=((((w.setCell (Q_ b 0) v0).setCell (Q_ b 1) v1).setCell (Q_ b 2) v2).setCell (Q_ b 3) v3).setCell (Q_ b 4) v4
theorem Bq.set0(h:Bq w a b c d f g)(i:Value):Bq (w.setCell (Q_ a 0) i) a i c d f g:=by unfold Bq at*;rw[Ak (i:=0) h];rfl
theorem Bq.put(h:Bq w a b c d f g)(u0 u1 u2 u3 u4:Value):Bq (Hl w a u0 u1 u2 u3 u4) a u0 u1 u2 u3 u4:=((((h.set0 u0).set1 u1).set2 u2).set3 u3).set4 u4
theorem Hy(h:Below a i w)(b:a<=j)(u0 u1 u2 u3 u4:Value):Below a i (Hl w j u0 u1 u2 u3 u4):=
 ((((h.setCell (p:=(Q_ j 0)) b u0).setCell (p:=(Q_ j 1)) b u1).setCell (p:=(Q_ j 2)) b u2).setCell (p:=(Q_ j 3)) b u3).setCell (p:=(Q_ j 4)) b u4
theorem Oi(h:w.ownsRow a k j v m l){b:Nat}(c:b<a)(u0 u1 u2 u3 u4:Value):(Hl w b u0 u1 u2 u3 u4).ownsRow a k j v m l:=
 De (De (De (De (De h c u0) c u1) c u2) c u3) c u4
theorem Gg(h:Bq w a b c d f g):w.cell? (Q_ a 0)=some b/\w.cell? (Q_ a 1)=some c/\w.cell? (Q_ a 2)=some d/\w.cell? (Q_ a 3)=some f/\w.cell? (Q_ a 4)=some g:=⟨h.cells.1,h.cells.2.1,h.cells.2.2.1,h.cells.2.2.2.1,h.cells.2.2.2.2.1⟩
def brO(o:Option (hF×List hE×List (Int×hE×hE))):Option (Int×List (hE×hE)×hF×List hE×List (Int×hE×hE)):=o.map fun x=>(2,[],x.1,x.2.1,x.2.2)
theorem ET(b:hE)(w:World):
  Calls Tryz.prog 200 #[B_ ⟨b.toArray⟩] w fun o a=>ES w (brO (Pr.Dl b)) o a:=by
 go_in;go_wp2_with fail;have a:=Aa (Cz w (J_ 0) Z_ Z_ Z_ Z_);have c:=Aa ((xA w.heap.size w).alloc X_ (C_ #[J_ 0,Z_,Z_,Z_,Z_] 79));have e3:w.heap.size<(w.alloc (C_ #[J_ 0,Z_,Z_,Z_,Z_] 79)).heap.size:=D_
 refine(Fg b _).mono ?_;rintro o b8 ⟨rfl,rfl⟩;generalize w.alloc (C_ #[J_ 0,Z_,Z_,Z_,Z_] 79)=A at*;have s:=(xA A.heap.size A).alloc X_ (C_ #[B_ ⟨b.toArray⟩] 298);have f:=Aa (Sb A b);have d:=Aa (c.o.alloc O_ (C_ #[B_ ⟨b.toArray⟩] 298));have g:=Aa (a.o.keep s);have e4:A.heap.size<(A.alloc (C_ #[B_ ⟨b.toArray⟩] 298)).heap.size:=D_;generalize A.alloc (C_ #[B_ ⟨b.toArray⟩] 298)=b8 at*;generalize A.heap.size=Z at*;clear a c s;have H:=Aa (Hw Z 3 b b8 f.o);go_wp2_with fail;refine H.o.mono ?_;rintro o d5 ⟨a,⟨i,rfl⟩|⟨h5,u2,k,rfl,l⟩⟩
 ·have c:Hid (brO (Pr.Dl b)=none):=by show _=_;unfold Pr.Dl;simp only[i,vL];rfl
  have I:=Aa (Aq d.o a O_ O_);clear a i;unfold Am;go_wp2_with fail;exact⟨rfl,I.o,.inl ⟨c.o,rfl⟩⟩
 have t:=Aa k;have I:=Aa (Aq d.o a O_ O_);have i:=Aa (g.o.but a O_);have e5:=a.size;have j:=Aa (Jv Z u2 d5 l);clear a k l H d g f;unfold sv;go_wp2_with fail;refine j.o.mono ?_;rintro o d6 ⟨a,⟨d,rfl⟩|⟨a5,u3,g,rfl,k⟩⟩
 ·have c:Hid (brO (Pr.Dl b)=none):=by show _=_;unfold Pr.Dl;simp only[t.o,d,vL,xV];rfl
  have J:=Aa (Aq I.o a O_ O_);clear a d;unfold Am;go_wp2_with fail;exact⟨rfl,J.o,.inl ⟨c.o,rfl⟩⟩
 have u:=Aa g;have J:=Aa (Aq I.o a O_ O_);have d:=Aa (i.o.but a O_);have e6:=a.size;have c3:a5.toNat<=255:=by have:=a5.toNat_lt;omega
 have f:=Aa (Ux Z u3 d6 k);clear a g k j I i;unfold bv;go_wp2_with fail;refine f.o.mono ?_;rintro o d7 ⟨a,⟨g,rfl⟩|⟨C,u4,j,rfl,k⟩⟩
 ·have c:Hid (brO (Pr.Dl b)=none):=by show _=_;unfold Pr.Dl;simp only[t.o,u.o,g,vL,xV];rfl
  have L:=Aa (Aq J.o a O_ O_);clear a g;unfold Am;go_wp2_with fail;exact⟨rfl,L.o,.inl ⟨c.o,rfl⟩⟩
 have z:=Aa j;have L:=Aa (Aq J.o a O_ O_);have g:=Aa (d.o.but a O_);have e7:=a.size;have i:=Aa (Ux Z u4 d7 k);clear a j k f J d;unfold nv;go_wp2_with fail;refine i.o.mono ?_;rintro o D ⟨a,⟨d,rfl⟩|⟨F,u5,f,rfl,j⟩⟩
 ·have c:Hid (brO (Pr.Dl b)=none):=by show _=_;unfold Pr.Dl;simp only[t.o,u.o,z.o,d,vL,xV];rfl
  have T:=Aa (Aq L.o a O_ O_);clear a d;unfold Am;go_wp2_with fail;exact⟨rfl,T.o,.inl ⟨c.o,rfl⟩⟩
 have B:=Aa f;have T:=Aa (Aq L.o a O_ O_);have d:=Aa (g.o.but a O_);have e8:=a.size;clear a f j i L g;unfold nv;go_wp2_with fail;have j:=Aa (Aek D C F);have s:=(xA D.heap.size D).alloc X_ (C_ #[J_ (C:Int),J_ (F:Int)] 3);have g:=Aa (T.o.trans (s.mono O_));have k:=Aa (d.o.keep s);have e9:D.heap.size<(D.alloc (C_ #[J_ (C:Int),J_ (F:Int)] 3)).heap.size:=D_;clear s T d;generalize D.alloc (C_ #[J_ (C:Int),J_ (F:Int)] 3)=i2 at*;refine(AE b _ [C,F] _ j.o D_).mono ?_;rintro o a ⟨d,⟨l,rfl⟩|⟨d8,h6,i,rfl,f⟩⟩
 ·have c:Hid (brO (Pr.Dl b)=none):=by show _=_;unfold Pr.Dl;simp only[t.o,u.o,z.o,B.o,l,vL,xV];rfl
  have y:=Aa (g.o.trans (d.mono O_));clear d l;unfold Am;go_wp2_with fail;exact⟨rfl,y.o,.inl ⟨c.o,rfl⟩⟩
 have l:d8.length=2:=by have:=(Pr.KX i).2.2;have:=yW List.length this;simpa[Ag]using this
 obtain⟨X,Y,rfl⟩:=Afy l;have M:Hid (Pr.Py b [C,F]=some [X.data.toList,Y.data.toList]):=i;have y:=Aa (g.o.trans (d.mono O_));have c4:=Aa (k.o.keep d);have f0:=d.size;obtain⟨b4,g0,rfl,g1,d3,g2⟩:=f.shape_pos D_;have n:=f.cellAt 0 X rfl;have m:=f.cellAt 1 Y rfl;have c5:=Aa m;clear i d f l j g k;have s:=(xA a.heap.size a).alloc X_ (C_ #[J_ 2,Z_,Z_,Z_,Z_] 79);have f:=Aa s;have g:=Aa (Cz a (J_ 2) Z_ Z_ Z_ Z_);have f1:a.heap.size<(a.alloc (C_ #[J_ 2,Z_,Z_,Z_,Z_] 79)).heap.size:=D_;clear s m;go_wp2_with fail;generalize a.alloc (C_ #[J_ 2,Z_,Z_,Z_,Z_] 79)=i3 at*;refine(WH 112 X _).mono ?_;rintro o h7 ⟨rfl,d⟩;have i:=Aa (f.o.trans (d.mono O_));have S:=Aa (g.o.keep d);have f2:=d.size;clear d f g n;rcases EO (Pr.Lz 112 X.data.toList)with⟨p,r⟩|⟨e2,p,r⟩
 ·have c:Hid (brO (Pr.Dl b)=none):=by show _=_;unfold Pr.Dl;simp only[t.o,u.o,z.o,B.o,M.o,vL,xV,wZ,p];rfl
  have q:=Aa (y.o.trans (i.o.mono O_));rw[r];clear p r;unfold Am;go_wp2_with fail;exact⟨rfl,q.o,.inl ⟨c.o,rfl⟩⟩
 rw[r];have U:=Aa p;have f3:=Pr.EL p;clear p r;go_wp2_with fail;refine(Yr e2 a5.toNat _ c3 O_).mono ?_;rintro o O ⟨d,⟨j,rfl⟩|⟨f,g,h8,h9,W,rfl,N,R,d9,e0⟩⟩
 ·have c:Hid (brO (Pr.Dl b)=none):=by show _=_;unfold Pr.Dl;simp only[t.o,u.o,z.o,B.o,M.o,vL,xV,wZ,U.o,j];rfl
  have q:=Aa (y.o.trans ((i.o.trans (d.mono O_)).mono O_));clear d j;unfold Am;go_wp2_with fail;exact⟨rfl,q.o,.inl ⟨c.o,rfl⟩⟩
 have a0:=Aa W;have j:=Aa (i.o.trans (d.mono O_));have G:=Aa (S.o.keep d);have f4:=d.size;obtain⟨k,l,rfl⟩:=Ad N;obtain⟨m,n,rfl⟩:=R.shape;have a8:=Aa (De (De N (b:=a.heap.size) (i:=2) O_ (L_ k f.length l)) (b:=a.heap.size) (i:=3) O_ (L_ m g.length n));have a9:=Aa ((R.setBelow (b:=a.heap.size) (i:=2) O_ (L_ k f.length l)).setBelow (b:=a.heap.size) (i:=3) O_ (L_ m g.length n));have b0:=Aa ((G.o.set2 (L_ k f.length l)).set3 (L_ m g.length n));have V:=Aa ((j.o.setCell (p:=(Q_ a.heap.size 2)) X_ (L_ k f.length l)).setCell (p:=(Q_ a.heap.size 3)) X_ (L_ m g.length n));obtain⟨-,-,b5,b6,-,-,-,a3,a4,-⟩:=G.o.cells;have a1:((O.setCell (Q_ a.heap.size 2) (L_ k f.length l)).setCell (Q_ a.heap.size 3) (L_ m g.length n)).heap.size=O.heap.size:=by rw[setSize,setSize]
 have c6:Hid (O.heap.size<=((O.setCell (Q_ a.heap.size 2) (L_ k f.length l)).setCell (Q_ a.heap.size 3) (L_ m g.length n)).heap.size):=wM a1.symm;have a2:=j.o.cell (p:=(Q_ b4 1)) d3 |>.trans c5.o;have f5:¬b4=a.heap.size:=O_;clear W d N R j G i S a1;go_wp2_with fail;generalize(O.setCell (Q_ a.heap.size 2) (L_ k f.length l)).setCell (Q_ a.heap.size 3) (L_ m g.length n)=i4 at*;have a1:=c6.o;refine(WH 109 Y _).mono ?_;rintro o R ⟨rfl,i⟩;have d:=Aa i;have f6:=i.size;clear i b5 b6 a3 a4 a2;rcases EO (Pr.Lz 109 Y.data.toList)with⟨p,r⟩|⟨G,p,r⟩
 ·have c:Hid (brO (Pr.Dl b)=none):=by show _=_;unfold Pr.Dl;simp only[t.o,u.o,z.o,B.o,M.o,vL,xV,wZ,bG,U.o,a0.o,p];rfl
  have q:=Aa (y.o.trans ((V.o.trans (d.o.mono O_)).mono O_));rw[r];clear p r;unfold Am;go_wp2_with fail;exact⟨rfl,q.o,.inl ⟨c.o,rfl⟩⟩
 rw[r];have b1:=Aa p;have f7:=Pr.EL p;clear p r;go_wp2_with fail;refine(Fg G _).mono ?_;rintro o b9 ⟨rfl,rfl⟩;have b2:=Aa (Sb R G);have a2:=Aa (d.o.alloc O_ (C_ #[B_ ⟨G.toArray⟩] 298));have f8:R.heap.size<(R.alloc (C_ #[B_ ⟨G.toArray⟩] 298)).heap.size:=D_;generalize R.alloc (C_ #[B_ ⟨G.toArray⟩] 298)=b9 at*;generalize R.heap.size=c2 at*;clear d;have H:=Aa (BE c2 G b9 b2.o O_);go_wp2_with fail;refine H.o.mono ?_;rintro o a6 ⟨S,⟨i,rfl⟩|⟨d,i0,u14,c0,rfl,a7,e1,c1⟩⟩
 ·have c:Hid (brO (Pr.Dl b)=none):=by show _=_;unfold Pr.Dl;simp only[t.o,u.o,z.o,B.o,M.o,vL,xV,wZ,bG,U.o,a0.o,b1.o,i];rfl
  have q:=Aa (y.o.trans ((V.o.trans ((Aq a2.o S O_ O_).mono O_)).mono O_));clear S i;unfold Am;go_wp2_with fail;exact⟨rfl,q.o,.inl ⟨c.o,rfl⟩⟩
 have W:Hid (brO (Pr.Dl b)=if u14=[]then some (2,Ab [],f,Ag g,Ac d)else none):=by show _=_;unfold Pr.Dl;simp only[t.o,u.o,z.o,B.o,M.o,xV,wZ,bG,U.o,a0.o,b1.o,c0];split<;>rfl
 have N:=Aa (Aq a2.o S O_ O_);have f9:=S.size;obtain⟨i,j,rfl⟩:=Ad a7;have a3:=Aa (b0.o.below N.o O_);have b3:=Aa (V.o.trans (N.o.mono O_));have c7:=Aa (De (Ae a8.o N.o X_) (b:=a.heap.size) (i:=4) O_ (L_ i d.length j));have c8:=Aa (Bc.setBelow (a9.o.below N.o X_) (b:=a.heap.size) (i:=4) O_ (L_ i d.length j));have c9:=Aa (De a7 (b:=a.heap.size) (i:=4) O_ (L_ i d.length j));have d0:=Aa (a3.o.set4 (L_ i d.length j));have a4:=Aa (b3.o.setCell (p:=(Q_ a.heap.size 4)) X_ (L_ i d.length j));have d1:=Aa (c1.setOther (c:=a.heap.size) (i:=4) O_ (L_ i d.length j));have d2:Hid (a6.heap.size<=(a6.setCell (Q_ a.heap.size 4) (L_ i d.length j)).heap.size):=wM (setSize _ _ _).symm;obtain⟨-,-,-,-,b7,-,-,-,-,d4⟩:=a3.o.cells;clear c0 S c1 a7 H a2 b2 a3 b3 N a8 a9 b0 V;go_wp2_with fail;generalize a6.setCell (Q_ a.heap.size 4) (L_ i d.length j)=c0 at*;have c1:=d2.o;refine(EH c2 u14 c0 d1.o).mono ?_;rintro o i1 ⟨rfl,rfl⟩;clear b7 d4;by_cases N:u14=[]
 ·rw[xD N]at W⊢;clear N;have S:=Aa (c4.o.below a4.o O_);obtain⟨d4,g3,g4,g5,g6,g7,g8,g9,h1,h2⟩:=S.o.cells;obtain⟨h3,h4,b5,b6,b7,-⟩:=d0.o.cells;have q:=Aa (Hy (y.o.trans (a4.o.mono O_)) X_ (J_ 2) Z_ (L_ k f.length l) (L_ m g.length n) (L_ i d.length j));have a9:=Aa (S.o.put (J_ 2) Z_ (L_ k f.length l) (L_ m g.length n) (L_ i d.length j));have b0:=Aa (Bi (Oi c7.o (b:=w.heap.size) O_ (J_ 2) Z_ (L_ k f.length l) (L_ m g.length n) (L_ i d.length j)) (C:=w.heap.size) O_);have b2:=Aa (Bi (Oi c8.o (b:=w.heap.size) O_ (J_ 2) Z_ (L_ k f.length l) (L_ m g.length n) (L_ i d.length j)) (C:=w.heap.size) O_);have b3:=Aa (Bi (Oi c9.o (b:=w.heap.size) O_ (J_ 2) Z_ (L_ k f.length l) (L_ m g.length n) (L_ i d.length j)) (C:=w.heap.size) O_);go_wp2_with fail;refine yS (v:=.agg #[J_ 2,Z_,L_ k f.length l,L_ m g.length n,L_ i d.length j]) ?_ rfl ⟨q.o,.inr ⟨2,[],f,g,d,_,W.o,rfl,⟨_,_,_,_,rfl,yP _ _ _ _,b0.o,b2.o,b3.o,D_,d9,e0,e1⟩,Aej _ _ _⟩⟩;obtain⟨V,a2,a3,a7,a8⟩:=Gg a9.o;unfold Hl at V a2 a3 a7 a8;simp[results,Tryz.results200,go_sem,V,a2,a3,a7,a8]
 ·rw[xB N]at W⊢;clear N;have q:=Aa (y.o.trans (a4.o.mono O_));unfold Am;go_wp2_with fail;exact⟨rfl,q.o,.inl ⟨W.o,rfl⟩⟩
structure HoM(w:World)(n:Int)(q:Nat)(lo hi:hJ)(kd:Int)(v1 v2 v3 v4:Value)(il:gY)(pl:hD)(ml:gZ)(W:World):Prop where
 bel:Below w.heap.size w W
 tk:TkB W w.heap.size n q lo hi
 nd:Bq W (w.heap.size+1) (J_ kd) v1 v2 v3 v4
 its:Ap 0 W v1 il
 pvs:Bc 0 W v3 pl
 chs:Bb 0 W v4 ml
theorem HoM.below{u:Int}{z A:hJ}{y:Int}{n:gY}{q:gZ}{W:World}(h:HoM w u a z A y b c d f n p q W)(g:Below W.heap.size W i):HoM w u a z A y b c d f n p q i:=
 ⟨h.bel.trans (g.mono h.bel.size),h.tk.keep g,h.nd.keep g,Ae h.its g X_,Ae h.pvs g X_,Ae h.chs g X_⟩
theorem PF{n:Int}{q:Nat}{lo hi:hJ}{kd:Int}{v2:Value}{k:gY}{l:gZ}(r:Ap 0 w b k)(s:Bc 0 w c p)(t:Bb 0 w d l):HoM w n q lo hi kd b v2 c d k p l ((w.alloc (C_ #[J_ n,A_ q,B_ lo,B_ hi] 154)).alloc (C_ #[J_ kd,b,v2,c,d] 79)):=by
 have g:Below w.heap.size w (w.alloc (C_ #[J_ n,A_ q,B_ lo,B_ hi] 154)):=(xA _ w).alloc X_ _;have m:TkB (w.alloc (C_ #[J_ n,A_ q,B_ lo,B_ hi] 154)) w.heap.size n q lo hi:=xK _ _;have o:(w.alloc (C_ #[J_ n,A_ q,B_ lo,B_ hi] 154)).heap.size=w.heap.size+1:=D_;generalize w.alloc (C_ #[J_ n,A_ q,B_ lo,B_ hi] 154)=a at*;have i:Below a.heap.size a (a.alloc (C_ #[J_ kd,b,v2,c,d] 79)):=(xA _ a).alloc X_ _;have f:=g.trans (i.mono g.size);have j:=Cz a (J_ kd) b v2 c d;rw[o]at j;exact⟨f,m.keep i,j,Ae r f X_,Ae s f X_,Ae t f X_⟩
theorem YV(p:Int)(q:Nat)(b c:hJ)(F:Int)(b6 G b7 b8:Value)(d:gY)(j:hD)(f:gZ)(w:World)(Z:Ap 0 w b6 d)(a0:Bc 0 w b7 j)(a1:Bb 0 w b8 f)(d6:d.length<=1100)(d3:j.length<=1000)(d7:f.length<=1000):
  Calls Tryz.prog 135 #[.agg #[J_ p,A_ q,B_ b,B_ c],.agg #[J_ F,b6,G,b7,b8]] w fun y d1=>y=R_ (.bool (Wy b.data.toList c.data.toList d f j))/\Below w.heap.size w d1:=by
 have b9:=Aa (PF (n:=p) (q:=q) (lo:=b) (hi:=c) (kd:=F) (v2:=G) Z a0 a1);obtain⟨R,S,rfl⟩:=Ad Z;obtain⟨T,U,rfl⟩:=Ad a1;obtain⟨V,W,rfl⟩:=Ad a0;clear Z a0 a1;go_in;go_wp2_with fail;generalize(w.alloc (C_ #[J_ p,A_ q,B_ b,B_ c] 154)).alloc (C_ #[J_ F,L_ R d.length S,G,L_ V j.length W,L_ T f.length U] 79)=d4 at*
 go_loopw [12] (fun t wr=>∃a:Nat,t=J_ (a:Nat)/\a<=d.length/\(∀x∈d.take a,Cw b.data.toList c.data.toList x.1.data.toList=true)/\HoM w p q b c F (L_ R d.length S) G (L_ V j.length W) (L_ T f.length U) d j f wr) (fun t _=>d.length-(intOf t).toNat)
 case atStart=>exact⟨0,rfl,Y_,fun d2 X=>by simp at X,b9.o⟩
 case round=>
  obtain⟨a,rfl,a3,s,g⟩:=hrel;have u:=Aa s;have H:=Aa g;obtain⟨a4,a5,a6,a7,-⟩:=g.tk.cells;obtain⟨a8,a9,b0,b1,b2,-⟩:=g.nd.cells;by_cases l:a<d.length
  ·obtain⟨c2,c3,e,c4,-,c5,b3,b4⟩:=g.its.at a l;simp only[xJ]at e;obtain⟨rfl,-,rfl⟩:=e;have J:Hid (d.take (a+1)=d.take a++[d[a]'l]):=by
    show _=_;rw[zN,xW l];rfl
   have L:=Aa (yA l);generalize d[a]'l=x at*;obtain⟨o,C⟩:=x;have z:Below wr.heap.size wr (wr.alloc (C_ #[B_ o,B_ C] 51)):=(xA _ wr).alloc X_ _;have r:=Aa (g.below z);obtain⟨c6,c7,c8,c9,-⟩:=r.o.tk.cells;have n:=Aa (LU p q b c o (wr.alloc (C_ #[B_ o,B_ C] 51)));clear s g z
   cases k:Cw b.data.toList c.data.toList o.data.toList with
   | false=>
    have A:Hid (Wy b.data.toList c.data.toList d f j=false):=by
     show _=_;unfold Wy;have:d.all (fun x=>Cw b.data.toList c.data.toList x.1.data.toList)=false:=wU.2 fun m=>by have:=zV.1 m _ L.o;rw[k]at this;cases this
     rw[this];rfl
    rw[k]at n;clear k;go_wp2_with fail;refine n.o.mono ?_;rintro y I ⟨rfl,i⟩;have B:=Aa ((r.o.below i).bel);clear i;go_wp2_with fail;go_ret;exact⟨by rw[A.o];rfl,B.o⟩
   | true=>
    have M:Hid (∀x∈d.take (a+1),Cw b.data.toList c.data.toList x.1.data.toList=true):=fun x D=>by
     rw[J.o]at D;rcases xE.1 D with m|m
     ·exact u.o x m
     ·rw[yR.1 m];exact k
    rw[k]at n;clear k;go_wp2_with fail;refine n.o.mono ?_;rintro y I ⟨rfl,i⟩;have N:=Aa (r.o.below i);clear i;go_wp2_with fail;exact⟨⟨a+1,W_,O_,M.o,N.o⟩,by simp[intOf];omega⟩
  ·have O:a=d.length:=O_;subst O;have a2:Hid (d.all (fun x=>Cw b.data.toList c.data.toList x.1.data.toList)=true):=by
    have:=u.o;rw[zQ]at this;exact zV.2 this
   clear s g u a3 l;go_wp2_with fail
   go_loopw [25] (fun t wr=>∃a:Nat,t=J_ (a:Nat)/\a<=f.length/\(∀x∈f.take a,Cw b.data.toList c.data.toList x.2.1.data.toList=true)/\HoM w p q b c F (L_ R d.length S) G (L_ V j.length W) (L_ T f.length U) d j f wr) (fun t _=>f.length-(intOf t).toNat)
   case atStart=>exact⟨0,rfl,Y_,fun d2 X=>by simp at X,H.o⟩
   case round=>
    clear H a4 a5 a6 a7 a8 a9 b0 b1 b2;obtain⟨a,rfl,a3,s,g⟩:=hrel;have u:=Aa s;have H:=Aa g;obtain⟨a4,a5,a6,a7,-⟩:=g.tk.cells;obtain⟨a8,a9,b0,b1,b2,-⟩:=g.nd.cells;by_cases l:a<f.length
    ·obtain⟨c2,c3,e,c4,-,c5,b3,b4,d0⟩:=Bb.at g.chs a l;simp only[xJ]at e;obtain⟨rfl,-,rfl⟩:=e;have J:Hid (f.take (a+1)=f.take a++[f[a]'l]):=by
      show _=_;rw[zN,xW l];rfl
     have L:=Aa (yA l);generalize f[a]'l=x at*;obtain⟨b5,o,C⟩:=x;simp only at b3 b4 d0;have z:Below wr.heap.size wr (wr.alloc (C_ #[J_ b5,B_ o,B_ C] 34)):=(xA _ wr).alloc X_ _;have r:=Aa (g.below z);obtain⟨c6,c7,c8,c9,-⟩:=r.o.tk.cells;have n:=Aa (LU p q b c o (wr.alloc (C_ #[J_ b5,B_ o,B_ C] 34)));clear s g z
     cases k:Cw b.data.toList c.data.toList o.data.toList with
     | false=>
      have A:Hid (Wy b.data.toList c.data.toList d f j=false):=by
       show _=_;unfold Wy;have:f.all (fun x=>Cw b.data.toList c.data.toList x.2.1.data.toList)=false:=wU.2 fun m=>by have:=zV.1 m _ L.o;rw[k]at this;cases this
       rw[this,a2.o];rfl
      rw[k]at n;clear k;go_wp2_with fail;refine n.o.mono ?_;rintro y I ⟨rfl,i⟩;have B:=Aa ((r.o.below i).bel);clear i;go_wp2_with fail;go_ret;exact⟨by rw[A.o];rfl,B.o⟩
     | true=>
      have M:Hid (∀x∈f.take (a+1),Cw b.data.toList c.data.toList x.2.1.data.toList=true):=fun x D=>by
       rw[J.o]at D;rcases xE.1 D with m|m
       ·exact u.o x m
       ·rw[yR.1 m];exact k
      rw[k]at n;clear k;go_wp2_with fail;refine n.o.mono ?_;rintro y I ⟨rfl,i⟩;have N:=Aa (r.o.below i);clear i;go_wp2_with fail;exact⟨⟨a+1,W_,O_,M.o,N.o⟩,by simp[intOf];omega⟩
    ·have O:a=f.length:=O_;subst O;have c0:Hid (f.all (fun x=>Cw b.data.toList c.data.toList x.2.1.data.toList)=true):=by
      have:=u.o;rw[zQ]at this;exact zV.2 this
     have c1:=Aa (PA _ j w.heap.size p q b c wr g.pvs d3 g.tk);have A:Hid (Wy b.data.toList c.data.toList d f j=j.all (fun Y=>Cw b.data.toList c.data.toList Y.data.toList)):=(by show _=_;unfold Wy;rw[a2.o,c0.o];rfl);clear s g;generalize j.all (fun Y=>Cw b.data.toList c.data.toList Y.data.toList)=d5 at*;go_wp2_with fail;refine c1.o.mono ?_;rintro y I ⟨rfl,i⟩;have B:=Aa ((H.o.below i).bel);clear i;go_wp2_with fail;go_ret;exact⟨by rw[A.o];simp,B.o⟩
namespace Pr
open Pg
def Ko(ks:List hE):Nat->List hE->Option (List (hE×hE))
 | _,[]=>some []
 | i,s::r=>(Ay ks i s).bind fun l=>(Ko ks (i+1) r).map (l++·)
def Pf(page:hE):Option (List (hE×hE)):=(Jc page).bind fun h=>(Py page h.1).bind fun cs=>Ko h.2 0 cs
theorem HL{B:List hE}{a:Nat}{C:hE}{D:List (hE×hE)}(h:Ay B a C=some D):1<=D.length:=by
 unfold Ay at h;simp only[gW]at h;obtain⟨d,_,f,_,b⟩:=h;split at b
 ·rename_i c;simp only[xX]at b;subst b;unfold Oh at c;simp only[yK,yL]at c;exact c.1.1.1.1
 ·simp at b
end Pr
def lfO(o:Option (List (hE×hE))):Option (Int×List (hE×hE)×hF×List hE×List (Int×hE×hE)):=o.map fun x=>(1,x,[],[],[])
theorem Ael(w:World){F:Array Oper}{G:Oper}{H:Act}{K:Act->World->Prop}{Q:Exit->Act->World->Prop}{E:Prop}(u:G.guard=none)(i x:Operand)(y:G.op=Op.call {callee:=Callee.builtin Builtin.append,args:= #[i,x],argTypes:= #[30,30]})(f:Nat)(v:Value)(d:gY)(z:H.eval i=v)(A:Ap f w v d)(a:gY)(g j:Nat)(B:H.eval x=L_ (P_ g) a.length j)(C:∀b c,(Al a)[b]?=some c->w.cell? (((Q_ g 0):Addr).add b)=some c)(I:d.length+a.length<=1000000000)(D:f<=w.heap.size)(h:∀(c:Value) (b:World),Ap f b c (d++a)->w.grownBy b v.ownBlock->K (H.put G.dst c) b):if Region.wanted G (yielded F H.tmps)=true then Oper.wp Tryz.prog G H w K Q else E:=by
 have k:Region.wanted G (yielded F H.tmps)=true:=by simp[Region.wanted,u]
 rw[xD k];obtain⟨m,n,o,p,q⟩:=zB Cg;obtain⟨c,b,r,s,t,_,_⟩:=kY (P:=Tryz.prog) w f 30 G.type 51 m (.agg #[B_ ⟨#[]⟩,B_ ⟨#[]⟩]) 2 32 zC n o p q rfl Do v d.length (Al d) A (Q_ g 0) a.length j (Al a) (CU a) C (Ur a) (by unfold maxLen;omega) O_ D;have l:K (H.put G.dst c) b:=by refine h c b ?_ t;unfold Ap;rw[xC,CV];exact s
 unfold Oper.wp;simp[execOp,y,resolve,invoke,builtin,z,B,r,Result.andThen];exact l
theorem MF(i:hE)(w:World):
  Calls Tryz.prog 201 #[B_ ⟨i.toArray⟩] w fun u i1=>ES w (lfO (Pr.Pf i)) u i1:=by
 go_in;go_wp2_with fail;have b7:=Aa (Cz w (J_ 0) Z_ Z_ Z_ Z_);have T:=Aa ((xA w.heap.size w).alloc X_ (C_ #[J_ 0,Z_,Z_,Z_,Z_] 79));have i4:w.heap.size<(w.alloc (C_ #[J_ 0,Z_,Z_,Z_,Z_] 79)).heap.size:=D_
 generalize w.alloc (C_ #[J_ 0,Z_,Z_,Z_,Z_] 79)=n6 at*;refine(MD i _).mono ?_;rintro u d ⟨D,⟨J,rfl⟩|⟨g,c,n0,e0,rfl,a9,e4,n1,h9⟩⟩
 ·have r:Hid (lfO (Pr.Pf i)=none):=by show _=_;unfold Pr.Pf;rw[J];rfl
  have H:=Aa (T.o.trans (D.mono O_));clear D J;unfold Am;go_wp2_with fail;exact⟨rfl,H.o,.inl ⟨r.o,rfl⟩⟩
 have U:Hid (Pr.Pf i=(Pr.Py i g).bind fun i2=>Pr.Ko (Ag c) 0 i2):=by show _=_;unfold Pr.Pf;rw[e0];rfl
 obtain⟨k2,k3,rfl,a1,d4⟩:=id a9;obtain⟨j,k,rfl,-,-⟩:=id a1;obtain⟨l,m,rfl,-,-⟩:=id d4;have n:=(xA d.heap.size d).alloc X_ (C_ #[L_ j g.length k,L_ l c.length m] 233);have e9:=Aa (b7.o.keep D);have i5:=D.size;have i6:d.heap.size<(d.alloc (C_ #[L_ j g.length k,L_ l c.length m] 233)).heap.size:=D_;have f0:=Aa a9;have b8:=Aa (a1.below n);have b9:=Aa n;have H:=Aa (T.o.trans (D.mono O_));have c0:Hid ((d.alloc (C_ #[L_ j g.length k,L_ l c.length m] 233)).heap[d.heap.size]?=some (C_ #[L_ j g.length k,L_ l c.length m] 233 (0,0))):=xK _ _;have i7:g.length<=4:=O_;have f1:=Aa e4;clear D e0 a9 n e4 h9 a1 d4 T b7;go_wp2_with fail;have c1:(d.alloc (C_ #[L_ j g.length k,L_ l c.length m] 233)).heap.size=d.heap.size+1:=D_;rw[<-c1];clear c1;generalize d.alloc (C_ #[L_ j g.length k,L_ l c.length m] 233)=z at*;have n:=(xA z.heap.size z).alloc X_ (C_ #[J_ 1,Z_,Z_,Z_,Z_] 79);have c2:=Aa (Cz z (J_ 1) Z_ Z_ Z_ Z_);have V:=Aa (b9.o.trans (n.mono O_));have c3:=Aa (b8.o.below n);have c4:=Aa ((n.block d.heap.size O_).trans c0.o);have i8:z.heap.size<(z.alloc (C_ #[J_ 1,Z_,Z_,Z_,Z_] 79)).heap.size:=D_;generalize z.alloc (C_ #[J_ 1,Z_,Z_,Z_,Z_] 79)=n7 at*;generalize z.heap.size=q at*;clear n b9 b8 c0;refine(AE i _ g _ c3.o O_).mono ?_;rintro u L ⟨y,⟨J,rfl⟩|⟨f,n2,b0,rfl,b1⟩⟩
 ·have r:Hid (lfO (Pr.Pf i)=none):=by show _=_;rw[U.o,J];rfl
  have f2:=Aa (H.o.trans ((V.o.trans (y.mono O_)).mono O_));clear y J;unfold Am;go_wp2_with fail;exact⟨rfl,f2.o,.inl ⟨r.o,rfl⟩⟩
 have c5:Hid (Pr.Pf i=Pr.Ko (Ag c) 0 (Ag f)):=by show _=_;rw[U.o,b0];rfl
 have f3:f.length=g.length:=by have:=(Pr.KX b0).2.2;rw[<-this];simp[Ag]
 have c6:=Aa (V.o.trans (y.mono O_));have f4:=Aa (c2.o.keep y);have f5:=Aa ((y.block d.heap.size O_).trans c4.o);have c7:=Aa b1;have i9:=y.size;have j0:f.length<=c.length:=by have:=f1.o;omega
 obtain⟨k4,k5,rfl⟩:=b1.shape;clear y b0 b1 c3 V c2 c4 U f3;go_wp2_with fail
 go_loopw [15] (fun b4 wr=>∃(a:Nat) (b:gY) (a2:Value),a<=f.length/\b4=J_ a/\b.length<=255*a/\Bq wr q (J_ 1) a2 Z_ Z_ Z_/\Ap L.heap.size wr a2 b/\But q L wr/\(Pr.Ko (Ag c) a (Ag (f.drop a))).map (Ab b++·)=Pr.Ko (Ag c) 0 (Ag f)) (fun b4 _=>f.length-(intOf b4).toNat)
 case atStart=>exact⟨0,[],_,Y_,rfl,D_,f4.o,yP _ _ _ _,Rj _ _,by simp[Ab]⟩
 case round=>
  obtain⟨a,b,a2,k6,rfl,k7,N,a3,C,d5⟩:=hrel;have f6:=Aa N;have c8:=Aa a3;have c9:=Aa C;have I:=Aa d5;have j1:=C.size;obtain⟨s,t,rfl⟩:=Ad a3;have W:=Aa (Aq c6.o C O_ O_);have X:=Aa ((C.block d.heap.size O_ K_).trans f5.o);have d0:=Aa ((e9.o.below c6.o O_).but C O_);have j2:wr.cell? (Q_ d.heap.size 0)=some (L_ j g.length k):=by unfold World.cell?;rw[X.o];rfl
  have j3:wr.cell? (Q_ d.heap.size 1)=some (L_ l c.length m):=by unfold World.cell?;rw[X.o];rfl
  obtain⟨k8,k9,l0,l1,l2,l3,l4,-⟩:=N.cells;have j4:=N.lt;clear N a3 C d5;by_cases G:a<f.length
  ·obtain⟨d6,l5,h6,l6,l7,l8⟩:=c7.o.shape_pos O_;injection h6 with e1 e2 e3;subst e1 e3;have j5:wr.cell? (Q_ d6 a)=some (B_ (f[a]'G)):=by
    have:=c7.o.cellAt a (f[a]'G) (xW G);rw[<-this];unfold World.cell?;rw[c9.o.block d6 O_ K_]
   have f7:Hid (Ag (f.drop a)=(f[a]'G).data.toList::Ag (f.drop (a+1))):=(by show _=_;rw[yM G];rfl);generalize f[a]'G=b5 at*;have j6:(0:Int)<=(a:Int):=O_;have j7:(a:Int)<(f.length:Int):=O_;have d1:Hid (GY wr.drew (.agg #[L_ j g.length k,L_ l c.length m]) g c):=f0.o.below W.o.drew;rw[f7.o,Pr.Ko]at I
   cases A:Pr.Ay (Ag c) a b5.data.toList with
   | none=>
    have r:Hid (lfO (Pr.Pf i)=none):=(by show _=_;rw[c5.o,<-I.o,A];rfl);have Y:=Aa (Afx _ g c a b5 wr.drew d1.o O_ O_ A);clear A;go_wp2_with fail
    go_region_dies
    all_goals
     refine Y.o.mono ?_;rintro u F ⟨rfl,M⟩;have f8:=Aa (H.o.trans ((W.o.trans ((EP M).mono (by show d.heap.size<=wr.heap.size;omega))).mono O_));clear M;unfold Am;go_wp2_with fail;exact⟨rfl,f8.o,.inl ⟨r.o,rfl⟩⟩
   | some p=>
    have f9:=Pr.HL A;have g0:Hid ((Pr.Ko (Ag c) (a+1) (Ag (f.drop (a+1)))).map (fun u=>Ab b++(p++u))=Pr.Ko (Ag c) 0 (Ag f)):=(by show _=_;rw[<-I.o,A];simp only[xV,vX];rfl);have Y:=Aa (Aeh _ g c a b5 wr.drew d1.o O_ O_ A);clear A I;go_wp2_with fail
    go_region_law (first
     | (refine Ael _ (by rfl) (.tmp 21) (.tmp 25) (by rfl) L.heap.size (L_ s b.length t) b U_ Z.o o d9 h7 U_ g6.o O_ O_ ?_
        intro n5 e6 b3 S;obtain⟨a4,a5,rfl⟩:=Ad b3;generalize i3:(b++o).length=b6 at*;have g1:=Aa b3;have j8:=Aa S;have d2:Hid (Bq e6 q (J_ 1) (L_ s b.length t) Z_ Z_ Z_):=(S.block q (by have:=a0.o.lt;omega) (fun e=>by have:=(xF Z.o q e.symm).1;omega)).trans a0.o;obtain⟨O,R,-,-,-,d7,d8,-⟩:=d2.o.cells;have g2:=Aa (Pe g3.o Z.o X_ S);clear b3 S)
     | (go_simp
        refine Y.o.mono ?_;rintro u F ⟨o,n3,b2,rfl,e5,n4,i0,M⟩;have B:=EP M;have Z:Hid (Ap L.heap.size F (L_ s b.length t) b):=Ae c8.o B X_;have a0:=Aa (f6.o.keep B);have g3:=Aa (Aw c9.o (Mo (b:=q) B));have j9:wr.heap.size<=F.heap.size:=B.size
        have g4:1<=o.length:=by have:(Ab o).length=o.length:=by simp[Ab]
                                rw[b2]at f9;omega
        have g5:=Aa b2;obtain⟨d9,h7,rfl,l9,m0,m1,h8⟩:=e5.isItems.resolve_left (by rintro⟨_,_,_,rfl⟩;simp at g4);have g6:Hid (∀e7 e8,(Al o)[e7]?=some e8->F.cell? (((Q_ d9 0):Addr).add e7)=some e8):=zD e5 rfl;obtain⟨O,R,a6,a7,a8,d7,d8,-⟩:=a0.o.cells;have d3:=Aa ((B.block d.heap.size (by show d.heap.size<wr.heap.size;omega)).trans X.o);have k0:F.cell? (Q_ d.heap.size 0)=some (L_ j g.length k):=(by unfold World.cell?;rw[d3.o];rfl);have k1:F.cell? (Q_ d.heap.size 1)=some (L_ l c.length m):=(by unfold World.cell?;rw[d3.o];rfl);clear i0 M B b2 h8))
    all_goals
     have g7:=Aa (d2.o.set1 (L_ a4 b6 a5));have g8:=Aa (De (B:=L.heap.size) g1.o (b:=q) (i:=1) O_ (L_ a4 b6 a5));have g9:=Aa (Aw g2.o (Be q 1 e6 (L_ a4 b6 a5)));have h1:(b++o).length<=255*(a+1):=(by rw[xC];omega);clear i3;go_wp2_with fail
     go_roundw
     case rel=>exact⟨a+1,b++o,_,O_,W_,h1,g7.o,g8.o,g9.o,by rw[<-g0.o,g5.o,Lg];simp only[xT]⟩
     case measure=>simp[intOf];omega
  ·have r:Hid (lfO (Pr.Pf i)=some (1,Ab b,[],Ag [],Ac [])):=by
    show _=_;rw[c5.o,<-I.o,zG O_];simp[Ag,Pr.Ko,lfO,Ac]
   have h2:=Aa (Hy (H.o.trans (W.o.mono O_)) (Nat.le_refl w.heap.size) (J_ 1) (L_ s b.length t) Z_ Z_ Z_);have h3:=Aa (d0.o.put (J_ 1) (L_ s b.length t) Z_ Z_ Z_);have h4:=Aa (Bi (Oi c8.o (b:=w.heap.size) O_ (J_ 1) (L_ s b.length t) Z_ Z_ Z_) (C:=w.heap.size) O_);obtain⟨m2,m3,m4,m5,m6,d7,d8,m7,m8,m9⟩:=d0.o.cells;have h5:b.length<=1020:=O_;go_wp2_with fail;refine yS (v:=.agg #[J_ 1,L_ s b.length t,Z_,Z_,Z_]) ?_ rfl ⟨h2.o,.inr ⟨1,b,[],[],[],_,r.o,rfl,⟨_,_,_,_,rfl,h4.o,yP _ _ _ _,yP _ _ _ _,yP _ _ _ _,h5,D_,D_,D_⟩,Aei _⟩⟩;obtain⟨O,R,a6,a7,a8⟩:=Gg h3.o;unfold Hl at O R a6 a7 a8;simp[results,Tryz.results201,go_sem,O,R,a6,a7,a8]
