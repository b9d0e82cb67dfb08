import Derived.Test.YtolgpnaoaodepaaGreatRtAm
import Derived.Test.YtolgpnaoaodepaaGreatImCm
set_option maxHeartbeats 1000000
set_option maxRecDepth 20000
namespace Go.Proofs.YtolgpnaoaodepaaGreat
open Go.RowKit Ld Tr
variable {w c m W:World}{x d:hJ}{u:List Nd}{y:List (Nat×Fw)}{b j z:hF}{k:hD}{g l r v:Value}{a p f h D:Nat}{i:Int}{n:Tr.Key->Option Tr.Key}{t:hA}
def npc(bs:hF):hH:=bs.map fun p=> A_ p
def Za(B:Nat)(w:World)(v:Value)(bs:hF):Prop:=w.ownsRow B 120 1 v bs.length (npc bs)
def QOk(w:World)(x:Nat×Fw):Prop:=∃F lo hi,Rep x.2.1 w x.1 x.2.2 F/\Tr.WF x.2.1 lo hi x.2.2/\Tr.Top x.2.1 x.2.2/\Tr.room lo hi
theorem Acw{h:Nat}{w:World}:∀{g:hA} {c:List (Tr.Key×Tr.Ai h)} {i:hF} {j k:Option Tr.Key},Db (Rep h w) g c i->Tr.Bu (fun d f b=>Tr.WF h d f b/\Tr.Top h b) j k c->∃a:List (Nat×Fw),a.map (·.1)=g.map (·.2)/\a.map (·.2)=(c.map fun l=>(⟨h,l.2⟩:Fw))/\∀x∈a,QOk w x
 | [],[],_,_,_,_,_=>⟨[],rfl,rfl,fun x l=>by cases l⟩
 | x::g,(d,b)::c,i,j,k,⟨_,G1,G2,hr,hk,_⟩,⟨_,f,h1,h2,h3⟩=>by
  obtain⟨a,c,g,i⟩:=Acw hk h3;refine⟨(x.2,⟨h,b⟩)::a,by rw[yD,c];rfl,by rw[yD,g];rfl,fun j b=> ?_⟩;rcases xG.1 b with rfl|b
  ·exact⟨G1,d,f,hr,h2.1,h2.2,h1⟩
  ·exact i j b
 | [],_::_,_,_,_,hk,_=>hk.elim
 | _::_,[],_,_,_,hk,_=>hk.elim
theorem QOk.node{x:Nat×Fw}(h:QOk w x):∃(d c g:Value) (a:hA) (b:List (Nat×Fw)),Ax w x.1 d c g/\Bf 0 w c a/\a.length<=4/\a.length=nk x.2.1 x.2.2/\b.map (·.1)=a.map (·.2)/\b.map (·.2)=Xo x.2/\∀i∈b,QOk w i:=by
 obtain⟨r,s,t,j,k,l,-⟩:=h;obtain⟨u,h,m⟩:=x
 cases h with
 | zero=>
  obtain⟨d,y,f,z,-,-⟩:=j;exact⟨d,_,_,[],[],f,⟨rfl,.inl ⟨rfl,rfl⟩⟩,D_,rfl,rfl,rfl,fun i i=>by cases i⟩
 | succ h=>
  obtain⟨A,B⟩:=m;obtain⟨c,g,a,C,D,f,n,F,rfl,i,rfl⟩:=j;obtain⟨b,o,p,q⟩:=Acw i k.1;exact⟨_,c,g,a,b,f,n,by rw[i.len];exact l.1,i.len,o,p,q⟩
def PnQ(x:Fw)(first:Nat)(w:World)(r:Ending)(w':World):Prop:=∃v kd il cl pl ml,r=R_ v/\Mz w' v kd il (cl.map Int.ofNat) pl ml/\((kd,Ab il,cl,Ag pl,Ac ml):Nd)=pgA x first/\Below w.heap.size w w'
theorem ZR{x:Nat×Fw}(h:QOk w x)(first:Nat)(J:first<=1000000000):
  Calls Tryz.prog 67 #[A_ x.1,J_ (first:Nat)] w (PnQ x.2 first w):=by
 obtain⟨N,O,R,m,t,i,u⟩:=h;obtain⟨n,h,y⟩:=x
 cases h with
 | zero=>
  obtain⟨S,f,j,o,rfl,rfl⟩:=m;obtain⟨z,A,rfl⟩:=Ad o;refine(HQ n z f.length A (first:Nat) w j).mono ?_;rintro G l ⟨rfl,d⟩;have L:f.length<=16:=by have c:(Ab f).length<=16:=i;rw[Cv]at c;exact c
  exact⟨_,1,f,[],[],[],rfl,⟨_,_,_,_,rfl,Lv (Ae o d X_),O_,⟨none,0,rfl,D_,.inl rfl⟩,⟨none,0,rfl,D_,.inl rfl⟩,(show Bb 0 l Z_ []from⟨rfl,.inl ⟨rfl,rfl⟩⟩).isChs D_⟩,rfl,d⟩
 | succ h=>
  obtain⟨k,T⟩:=y;obtain⟨B,U,a,b,V,j,C,p,rfl,g,rfl⟩:=m;obtain⟨D,F,rfl⟩:=Ad p;have q:0<a.length:=by rw[g.len];exact Ns u t.1
  have r:a.length<=4:=by rw[g.len];exact i.1
  have M:b.length<=8:=by have c:(Ac b).length<=8:=i.2;rw[Bd]at c;exact c
  refine(BG n B a D b.length F first w j C q r J).mono ?_;rintro G l ⟨W,X,rfl,H,I,d⟩;refine⟨_,2,[],List.range' first a.length,(a.map (·.1)).tail,b,rfl,⟨_,_,_,_,rfl,Lv (show Ap 0 l Z_ []from⟨rfl,.inl ⟨rfl,rfl⟩⟩),D_,?_,?_,Bb.isChs (Ae p d X_) O_⟩,?_,d⟩
  ·rw[xP,qB,zW];exact ownsRow.isRow H O_
  ·exact ownsRow.isRow I (by rw[dS,xP];omega)
  ·have s:=g.keys;show((2,[],List.range' first a.length,Ag (a.map (·.1)).tail,Ac b):Nd)=(2,[],List.range' first k.length,(k.map (·.1)).tail,Ac b);rw[g.len];have e:Ag (a.map (·.1)).tail=(k.map (·.1)).tail:=by
    rw[<-s];unfold Ag Cp;rw[<-List.map_tail,zW,<-List.map_tail];rfl
   rw[e]
structure ImI(w:World)(tot:List Nd)(q:List (Nat×Fw))(bs:hF)(ss:hD)(v3 v4:Value)(W:World):Prop where
 np:Za w.heap.size W v4 bs
 im:Bc w.heap.size W v3 ss
 qs:bs.drop ss.length=q.map (·.1)
 ln:bs.length=ss.length+q.length
 ok:∀x∈q,QOk w x
 pg:Au ss++(Ld.rem (cns (q.map (·.2))) (q.map (·.2)) bs.length).map some=tot.map some
 bel:Below w.heap.size w W
theorem ImI.tot(h:ImI w u y b k g l c):u.length=k.length+cns (y.map (·.2))/\y.length<=cns (y.map (·.2)):=by
 have a:=yW List.length h.pg;rw[xC,xP,xP,Ld.Sy _ _ _ rfl]at a;have f:(Au k).length=k.length:=by unfold Au;simp
 have d:=Xp (y.map (·.2));rw[xP]at d;omega
theorem QOk.keep{x:Nat×Fw}(h:QOk w x)(k:Below w.heap.size w c):QOk c x:=by obtain⟨d,f,g,a,i⟩:=h;exact⟨d,f,g,a.keep fun b j=>k.block b (a.lt b j),i⟩
theorem ImI.next{x:Nat×Fw}{C:Value}(h:ImI w u (x::y) b k g l c)(q:Pr.En d.data.toList=some (pgA x.2 b.length)){B:List (Nat×Fw)}(j:B.map (·.2)=Xo x.2)(s:∀i∈B,QOk w i)(t:Za w.heap.size m C (b++B.map (·.1)))(z:Bc w.heap.size m r (k++[d]))(A:Below w.heap.size w m):ImI w u (y++B) (b++B.map (·.1)) (k++[d]) r C m:=by
 have n:=h.ln;rw[xH]at n;have o:B.length=nk x.2.1 x.2.2:=by rw[<-QM,<-j,xP]
 refine⟨t,z,?_,?_,fun i f=> ?_,?_,A⟩
 ·have a:=h.qs;rw[yD]at a;have p:b.drop (k.length+1)=y.map (·.1):=by
   rw[<-jG,a];rfl
  rw[xC,jR,List.drop_append_of_le_length O_,p,yX]
 ·simp only[xC,xP,jR];omega
 ·rcases xE.1 f with f|f
  ·exact h.ok i (xZ _ f)
  ·exact s i f
 ·have a:=h.pg;rw[yD,Nu,Qp,show 1+cns (Xo x.2)+cns (y.map (·.2))=(cns (y.map (·.2))+cns (Xo x.2))+1 by omega,Ld.rem,yD]at a;rw[<-a,yX,j,Qq,xC,xP,o];have e:Au (k++[d])=Au k++[some (pgA x.2 b.length)]:=by
   unfold Au;rw[yX,List.map_singleton,q]
  rw[e,xT];rfl
theorem Za.at(h:Za a w v b)(c:Nat)(f:c<b.length):∃d g,v=L_ (P_ d) b.length g/\b.length<=g/\d<w.heap.size/\w.cell? (Q_ d c)=some (A_ (b[c]'f)):=by
 rcases h.2 with⟨_,h0⟩|⟨d,i,l,g,_,j,k,_⟩
 ·omega
 ·have:=zD h (g:=d) (by rw[g];rfl) c (A_ (b[c]'f)) (by simp[npc,f]);rw[Gv]at this;exact⟨d,i,g,k,(xS.1 j).1,by simpa using this⟩
structure ImK(w:World)(bs:hF)(ss:hD)(v3 v4:Value)(W:World):Prop where
 np:Za w.heap.size W v4 bs
 im:Bc w.heap.size W v3 ss
 bel:Below w.heap.size w W
theorem ImK.below(h:ImK w b k g l W)(a:Below W.heap.size W c):ImK w b k g l c:=
 ⟨Ae h.np a X_,Ae h.im a X_,h.bel.trans (a.mono h.bel.size)⟩
theorem ImK.apS(h:ImK w b k g l c)(p:Bc w.heap.size m r (k++[d]))(a:c.grownBy m g.ownBlock):ImK w b (k++[d]) r l m:=by
 have f:=Mod.of_grown a;have j:Md c (fun i=>g.ownBlock=some i) [120]:=fun i a=>by obtain⟨n,o,e⟩:=Iz h.im a;exact⟨n,_,o,e,Do⟩
 exact⟨Fu f j Do h.np,p,Jj h.bel f (fun i a=>(xF h.im i a).1)⟩
theorem ImK.apN(h:ImK w b k g l c)(o:m.ownsRow w.heap.size 120 1 r (b.length+1) (npc b++[A_ p]))(a:c.grownBy m l.ownBlock):ImK w (b++[p]) k g r m:=by
 have d:=Mod.of_grown a;have i:Md c (fun f=>l.ownBlock=some f) [9]:=fun f a=>by obtain⟨j,n,e⟩:=Iz h.np a;exact⟨j,_,n,e,Do⟩
 refine⟨?_,Fu d i Do h.im,Jj h.bel d (fun f a=>(xF h.np f a).1)⟩;have e:npc (b++[p])=npc b++[A_ p]:=by simp[npc]
 unfold Za;rw[e,xC];exact o
theorem UN(d6 j b:Nat)(c:Tr.Ai b)(d7:hF)(w:World)(d8:TB w d6 j)(d9:Rep b w j c d7)(e0:Tr.WF b [] none c)(e1:Tr.Top b c)(i3:Tr.wt b c<=1800000):
  Calls Tryz.prog 38 #[A_ d6] w fun W d4=>∃v a,W=R_ v/\Bc w.heap.size d4 v a/\Below w.heap.size w d4/\Au a=(Sl b [c] 0).map some/\a.length<=Tr.wt b c:=by
 have i4:=xI (Aco b c) i3;have e2:=Aa (Aco b c);have a0:Hid (Ld.rem (cns [(⟨b,c⟩:Fw)]) [(⟨b,c⟩:Fw)] 1=Sl b [c] 0):=WM b [c] _ 0 rfl;have a1:(Sl b [c] 0).length=Ld.cn b c:=by rw[<-a0.o,Ld.Sy _ _ _ rfl];show Ld.cn b c+0=_;omega
 have a2:=Aa a1;have a3:Below w.heap.size w (w.alloc (C_ #[A_ j] 120)):=(xA _ w).alloc X_ _;have a4:Hid (ImI w (Sl b [c] 0) [(j,⟨b,c⟩)] [j] [] Z_ (L_ (P_ w.heap.size) 1 1) (w.alloc (C_ #[A_ j] 120))):=by
  refine⟨?_,⟨rfl,.inl ⟨rfl,rfl⟩⟩,rfl,rfl,fun x h9=>by rw[yR.1 h9];exact⟨d7,[],none,d9,e0,e1,Kr⟩,?_,a3⟩
  ·exact⟨rfl,.inr ⟨w.heap.size,1,#[A_ j],rfl,X_,xK _ _,X_,by unfold maxLen;omega,D_,by simp[npc]⟩⟩
  ·show([]:List (Option Nd))++_=_;rw[zI];exact yW (List.map some) a0.o
 obtain⟨f6,f7⟩:=d8.cells;clear a3 d8 d9 e0 e1;generalize Sl b [c] 0=u at*;go_in;go_wp2_with fail;generalize w.alloc (C_ #[A_ j] 120)=k6 at*;clear f6 f7
 go_loopw [5,3,4] (fun t i0 B wr=>∃(l:List (Nat×Fw)) (d:hF) (a:hD),t=J_ (a.length:Nat)/\ImI w u l d a i0 B wr) (fun t _ _ _=>u.length-(intOf t).toNat)
 case atStart=>exact⟨_,[j],[],rfl,a4.o⟩
 case round=>
  obtain⟨l,d,a,rfl,hI⟩:=hrel;obtain⟨O,R⟩:=hI.tot;have y:=hI.ln;obtain⟨j2,f8,rfl⟩:=Ad hI.np;obtain⟨S,T,rfl⟩:=Ad hI.im;have e3:=Aa hI;clear a4
  cases l with
  | nil=>
   have e4:¬(a.length:Int)<(d.length:Int):=(by rw[yU]at y;omega);have e5:Hid (Bc w.heap.size wr (L_ S a.length T) a/\Below w.heap.size w wr/\Au a=u.map some/\a.length<=Tr.wt b c):=by
    refine⟨hI.im,hI.bel,?_,?_⟩
    ·have:=hI.pg;simpa[Ld.rem,cns]using this
    ·have z:=a2.o;have a5:=e2.o;omega
   clear hI y O R a2 a1;go_wp2_with fail;go_ret;exact⟨_,rfl,_,e5.o⟩
  | cons x l=>
   rw[xH]at y R;have F:a.length<d.length:=O_;have i5:(0:Int)<=(a.length:Int):=O_;have e4:(a.length:Int)<(d.length:Int):=O_;have i6:d.length<=1800000:=O_;have e6:Hid (a.length<u.length):=(by show _<_;omega);obtain⟨f9,j3,e,j4,j5,g0⟩:=hI.np.at a.length F;simp only[xJ,yB]at e;obtain⟨rfl,rfl⟩:=e;have a6:d[a.length]'F=x.1:=(by have z:=hI.qs;rw[yM F,yD]at z;exact(bE z).1);rw[a6]at g0;have G:=hI.ok x (xU ..);have a7:=Aa G;have a8:=Aa (ZR (G.keep hI.bel) d.length O_);have a9:Hid (d.length+nk x.2.1 x.2.2<=2147483648):=(by show _<=_;have z:=Qp x.2;have a5:=Xp (Xo x.2);rw[QM]at a5;have i7:=Nu x.2 (l.map (·.2));have s:=Xp (l.map (·.2));rw[xP]at s;rw[yD]at O;omega);have b0:Hid (ImK w d a (L_ S a.length T) (L_ (P_ f9) d.length f8) wr):=⟨hI.np,hI.im,hI.bel⟩;clear a6 hI G y O R;go_wp2_with fail;refine a8.o.mono ?_;rintro W h6 ⟨v,n,o,p,q,r,rfl,c8,X,c9⟩;have H:Hid (Pr.Mc ((n,Ab o,p,Ag q,Ac r):Pr.Lb)=true):=(by show _=_;rw[X];obtain⟨j6,g1,g2,-,g3,g4,g5⟩:=a7.o;exact Aet _ _ g1 g2 _ g3 g4 g5 a9.o);have b1:Hid (Pr.En (Pr.Kq ((n,Ab o,p,Ag q,Ac r):Pr.Lb))=some (pgA x.2 d.length)):=(by show _=_;rw[Pr.FZ H.o,X]);have I:=Aa (Sa v n o (p.map Int.ofNat) q r h6 c8 H.o);have b2:=Aa (b0.o.below c9);clear c8 X c9 a8 b0;have e7:Pg.page n (Ab o) (p.map Int.ofNat) (Ag q) (Ac r)=Pr.Kq ((n,Ab o,p,Ag q,Ac r):Pr.Lb):=rfl;rw[e7]at I;generalize Pr.Kq ((n,Ab o,p,Ag q,Ac r):Pr.Lb)=d5 at*;go_wp2_with fail;refine I.o.mono ?_;rintro W h7 ⟨rfl,d0⟩;have J:=Aa (b2.o.below d0);have e8:Hid (Pr.En (⟨d5.toArray⟩:hJ).data.toList=some (pgA x.2 d.length)):=(by show _=_;simpa using b1.o);obtain⟨t,j7,g6,g,U,b8,V,j8,g7,b9,c0,c1⟩:=a7.o.node;have L:=Aa (And.intro b9 (And.intro c0 c1));have b3:=Aa b8;have e9:=Aa V;have f0:=Aa J.o.bel.size;obtain⟨g8,g9,rfl⟩:=Ad V;have i8:a.length<=1800000:=O_;clear d0 b2 I b1 H b8 V b9 c0 c1 g7 a9;generalize(⟨d5.toArray⟩:hJ)=D at*;go_wp2_with (at_builtin;refine IJ h7 rfl (.tmp 24) (.tmp 30) rfl w.heap.size (L_ S a.length T) a rfl J.o.im D U_ O_ f0.o ?_;intro B h8 Y d1 _;have M:=Aa (J.o.apS Y d1);obtain⟨c2,c3,rfl⟩:=Ad Y;clear Y d1;have b4:Ax h8 x.1 t (L_ g8 g.length g9) g6:=(M.o.bel.block _ b3.o.lt).trans b3.o;obtain⟨h1,h2,h3,-⟩:=b4.cells;clear b4);have s:=M.o;rw[xC,jR]at s;have f1:=Aa s;clear s M h1 h2 h3
   go_loopw [37,4] (fun Z B i1=>∃(f:Nat) (i:hF),Z=J_ (f:Nat)/\f<=g.length/\i=d++(g.take f).map (·.2)/\ImK w i (a++[D]) (L_ c2 (a.length+1) c3) B i1) (fun Z _ _=>g.length-(intOf Z).toNat)
   case atStart=>exact⟨0,d,rfl,Y_,D_,f1.o⟩
   case round=>
    obtain⟨f,i,rfl,j9,m,k⟩:=hrel;have i9:=Aa m;obtain⟨c4,c5,rfl⟩:=Ad k.np;have j0:i.length<=1800004:=(by rw[m,xC,xP,xR];omega);by_cases C:f<g.length
    ·obtain⟨k0,k1,c6,k2,-,k3,h4,h5⟩:=Bf.at (Ae e9.o k.bel X_) f C;simp only[xJ,yB]at c6;obtain⟨rfl,rfl⟩:=c6;have j1:(0:Int)<=(f:Int):=O_;have f2:(f:Int)<(g.length:Int):=O_;have b5:Hid (i++[(g[f]'C).2]=d++(g.take (f+1)).map (·.2)):=by
      show _=_;rw[m,zN,xW C,yX,xT];rfl
     clear m;generalize g[f]'C=i2 at*;obtain⟨c7,A⟩:=i2;simp only at h4 h5 b5;have b6:Below wr.heap.size wr (wr.alloc (C_ #[B_ c7,A_ A] 132)):=(xA _ wr).alloc X_ _;have N:=Aa (k.below b6);have f3:=Aa N.o.bel.size;clear k b6;go_wp2_with (at_builtin;refine Afp (wr.alloc (C_ #[B_ c7,A_ A] 132)) rfl (.tmp 41) (.tmp 44) rfl w.heap.size (L_ c4 i.length c5) i.length _ rfl N.o.np (A_ A) rfl U_ O_ f3.o ?_;intro k4 k5 d2 d3;have f4:=Aa (N.o.apN (p:=A) d2 d3);clear d2 d3);exact⟨⟨f+1,_,W_,O_,b5.o,f4.o⟩,by simp[intOf];omega⟩
    ·have b7:f=g.length:=O_;have f2:¬(f:Int)<(g.length:Int):=O_;have f5:Hid (ImI w u (l++U) (d++U.map (·.1)) (a++[D]) (L_ c2 (a.length+1) c3) (L_ c4 i.length c5) wr):=by
      have e:i=d++U.map (·.1):=(by rw[m,b7,zQ,L.o.1]);refine e3.o.next e8.o L.o.2.1 L.o.2.2 ?_ k.im k.bel;rw[<-e];exact k.np
     clear k m b7;go_wp2_with fail;refine⟨⟨_,_,a++[D],?_,f5.o⟩,?_⟩
     ·rw[xC];go_num
     ·have:=e6.o;simp[intOf];omega
structure CW(w:World)(k:Int)(key x:hJ)(W:World):Prop where
 ch:ChB W w.heap.size k key x
 bel:Below w.heap.size w W
theorem CW.below(h:CW w i d x W)(a:Below W.heap.size W c):CW w i d x c:=⟨(a.block _ h.ch.lt).trans h.ch,h.bel.trans (a.mono h.bel.size)⟩
theorem CW.drew(h:CW w i d x c):CW w i d x c.drew:=h.below (xA _ c).drew
theorem ChB.set1(h:ChB w a i d x):ChB (w.setCell (Q_ a 1) (B_ d)) a i d x:=by unfold ChB at*;rw[Ak (i:=1) h];rfl
theorem ChB.set2(h:ChB w a i d x):ChB (w.setCell (Q_ a 2) (B_ x)) a i d x:=by unfold ChB at*;rw[Ak (i:=2) h];rfl
theorem ChB.froz(h:ChB w a i d x):w.frozen? (Q_ a 0)=false/\w.frozen? (Q_ a 1)=false/\w.frozen? (Q_ a 2)=false:=by unfold ChB at h;refine⟨?_,?_,?_⟩<;>simp[World.frozen?,h]
theorem CW.stores(h:CW w i d x c):CW w i d x ((c.setCell (Q_ w.heap.size 1) (B_ d)).setCell (Q_ w.heap.size 2) (B_ x)):=
 ⟨h.ch.set1.set2,(h.bel.setCell (p:=(Q_ w.heap.size 1)) X_ _).setCell (p:=(Q_ w.heap.size 2)) X_ _⟩
theorem UO(b:World)(c:Int)(d x:hJ):Bb 0 (b.alloc (C_ #[J_ c,B_ d,B_ x] 34)) (L_ (P_ b.heap.size) 1 1) [(c,d,x)]:=
 ⟨rfl,.inr ⟨b.heap.size,1,#[J_ c,B_ d,B_ x],rfl,Y_,xK _ _,X_,by unfold maxLen;omega,D_,by simp[Cd]⟩⟩
structure MkP(V:Tr.Key->Option Tr.Key)(N b:Nat)(F:hF)(w:World)(h:Nat)(v:Value)(pl:hA)(ps:List (Tr.Key×Tr.Ai h))(G:hF)(W:World):Prop where
 tb:∃p,TB W b p
 row:Bf 0 W v pl
 kids:Db (Rep h W) pl ps G
 nd:(blk v++G).Nodup
 lvl:Lvl V N h ps
 gone:Ia (b::F) (blk v++G) w W
 nb:b∉blk v++G
theorem MkP.start{F:Tr.Ai h}(o:TB c f p)(u:Tr.WF h [] none F)(y:Js h F)(A:∀d,Tr.val h F d=n d)(B:Tr.wt h F<=2*a)(i:Ia (f::b) (f::j) w c)(C:f∉j)(k:CtQ h c (Iw h [] F) v t z m)(D:∀d∈z,d∈j\/c.heap.size<=d)(r:Below c.heap.size c m):MkP n a f b w h v t (Iw h [] F) z m:=by
 have s:=Xg k.row;have q:∀d∈blk v++z,d∈j\/c.heap.size<=d:=fun d i=>(xE.1 i).elim (fun l=> .inr (s d l)) (D d)
 refine⟨⟨p,o.keep (r.block f o.lt)⟩,Dp k.row,k.kids,k.nd,Lvl.start u y A B,⟨(i.trans (Ia.below r)).1,fun d g=> ?_⟩,fun l=> ?_⟩
 ·rcases q d g with g|g
  ·exact i.2 d (xZ _ g)
  ·exact .inr (xI i.1.size g)
 ·rcases q f l with g|g
  ·exact C g
  ·have:=o.lt;omega
theorem MkP.node{q:List (Tr.Key×Tr.Ai h)}(i:MkP n f p b w h v t q j c):Rep (h+1) (c.alloc (C_ #[Z_,v,Z_] 123)) c.heap.size (Tr.brT q []) (c.heap.size::(blk v++j))/\(c.heap.size::(blk v++j)).Nodup/\(∀d∈blk v++j,d<c.heap.size):=by
 have k:∀d∈blk v++j,d<c.heap.size:=fun d l=>(xE.1 l).elim (fun g=>(xF i.row d (Aj.1 g)).2) (fun g=>i.kids.lt d g)
 have m:Below c.heap.size c (c.alloc (C_ #[Z_,v,Z_] 123)):=(xA _ c).alloc X_ _;refine⟨⟨v,Z_,t,[],j,xK _ _,Ae i.row m X_,yP _ _ _ _,rfl,i.kids.keep fun d l=>m.block d (k d (yE _ l)),by simp[blk,Value.ownBlock]⟩,yV.2 ⟨fun g=>by have:=k _ g;omega,i.nd⟩,k⟩
theorem MkP.up{G:hA}{q:List (Tr.Key×Tr.Ai h)}(k:MkP n a f b w h v t q j c)(C:1<q.length)(o:CtQ (h+1) (c.alloc (C_ #[Z_,v,Z_] 123)) (Iw (h+1) [] (Tr.brT q [])) g G z m)(D:∀d∈z,d∈c.heap.size::(blk v++j)\/(c.alloc (C_ #[Z_,v,Z_] 123)).heap.size<=d)(F:Below (c.alloc (C_ #[Z_,v,Z_] 123)).heap.size (c.alloc (C_ #[Z_,v,Z_] 123)) m):MkP n a f b w (h+1) g G (Iw (h+1) [] (Tr.brT q [])) z m:=by
 obtain⟨A,r⟩:=k.tb;have p:Below c.heap.size c (c.alloc (C_ #[Z_,v,Z_] 123)):=(xA _ c).alloc X_ _;have s:Below c.heap.size c m:=p.trans (F.mono p.size);have H:=p.size;have y:=Xg o.row;have u:∀d∈blk g++z,d∈blk v++j\/c.heap.size<=d:=fun d i=>(xE.1 i).elim (fun l=> .inr (by have:=y d l;omega)) (fun l=>(D d l).elim (fun i=>(xG.1 i).elim (fun e=> .inr O_) .inl) (fun i=> .inr O_))
 refine⟨⟨A,r.keep (s.block f r.lt)⟩,Dp o.row,o.kids,o.nd,k.lvl.up C,⟨(k.gone.trans (Ia.below s)).1,fun d B=> ?_⟩,fun l=> ?_⟩
 ·rcases u d B with i|i
  ·exact k.gone.2 d i
  ·exact .inr (xI k.gone.1.size i)
 ·rcases u f l with i|i
  ·exact k.nb i
  ·have:=r.lt;omega
theorem MkP.root{x:ByteArray×Nat}{q:List (Tr.Key×Tr.Ai h)}(i:MkP n a p b w h v [x] q j c):∃o,QD n a p h x.2 o j (c.setCell (Q_ p 0) (A_ x.2))/\Ia (p::b) (p::j) w (c.setCell (Q_ p 0) (A_ x.2)):=by
 obtain⟨y,u⟩:=i.tb;have s:=i.kids;have l:=i.lvl
 match q,s,l with
 | [(f,o)],⟨e,G1,G2,r1,m,eG⟩,l=>
  have m:G2=[]:=m;subst m;rw[yC]at eG;subst eG;have r:=Mod.setCell c p 0 (A_ x.2);have t:∀g∈j,g≠p:=fun g k d=>i.nb (by rw[<-d];exact yE _ k)
  refine⟨o,⟨u.set _,r1.keep fun g k=>r.block g (r1.lt g k) (t g k),(xO.1 i.nd).2.1,fun d=>i.nb (yE _ d),l.root⟩,i.gone.1.trans r (fun _ _ d=>d) (fun g _ d=>by simp[d]),fun g k=> ?_⟩;rcases xG.1 k with d|d
  ·exact .inl (by simp[d])
  ·exact i.gone.2 g (yE _ d)
theorem QD.idle{q:List (Tr.Key×Tr.Ai h)}(i:QD n a p (h+1) D (Tr.brT q []) b w)(N:q.length=1):∃d j o r c,Ax w D Z_ (L_ (P_ d) 1 j) (L_ o 0 r)/\w.cell? (Q_ d 1)=some (A_ c)/\1<=j/\∃s g,QD n a p h c s g (w.setCell (Q_ p 0) (A_ c))/\Ia (p::b) (p::g) w (w.setCell (Q_ p 0) (A_ c)):=by
 have k:=i.root;have B:=i.nd;have C:=i.nb;obtain⟨O,R,G,y,z,H,m,I,e,J,rfl⟩:=i.rep;have F:y=[]:=zT (by rw[<-Bd y,e];rfl);subst F;obtain⟨o,r,rfl⟩:=Ad I
 match q,N,G,J,m,k with
 | [(f,s)],_,[x],⟨ex,G1,G2,r1,l,eG⟩,m,k=>
  have l:G2=[]:=l;subst l;rw[yC]at eG;subst eG;obtain⟨d,j,rfl,L,-,g,S,M⟩:=m.at 0 D_;have t:=Mod.setCell w p 0 (A_ x.2);have u:∀d∈z,d≠p:=fun d g c=>C (by rw[<-c];simp[g])
  refine⟨d,j,o,r,x.2,H,by simpa using M,L,s,z,⟨i.tb.set _,r1.keep fun d g=>t.block d (r1.lt d g) (u d g),?_,fun c=>u p c rfl,k.idle⟩,t.mono (fun d _ c=>by simp[c]),fun d g=> .inl ?_⟩
  ·have s:=(yV.1 B).2;exact(xO.1 (xO.1 s).2.1).2.1
  ·rcases xG.1 g with c|c
   ·simp[c]
   ·simp[c]
def lenOf(v:Value):Nat:=match v with
 | .slice _ n _=>n
 | _=>0
theorem JW(b4:Tr.Key->Option Tr.Key)(p a:Nat)(y:hF)(c:Int)(b x:hJ)(w:World)(k4:Eh b4 p a y w)(o0:p+1<=900000)(c8:Tr.Kv (chP c b x)):
  Calls Tryz.prog 37 #[A_ a,.agg #[J_ c,B_ b,B_ x]] w fun f g1=>f=R_ (.tuple #[])/\∃R,Eh (fun o=>Tr.one o (b4 o) (chP c b x)) (p+1) a R g1/\Ia (a::y) (a::R) w g1:=by
 obtain⟨h,s,e2,k7,g⟩:=k4;have g2:b.size<=12/\x.size<=16:=by obtain⟨i,k⟩:=Nh c8;unfold Pg.Dm at i;simp only[yK,yL]at i;have g3:b.data.toList.length<=12:=i.2;have g4:x.data.toList.length<=16:=k;exact⟨by simpa using g3,by simpa using g4⟩
 obtain⟨k8,k9⟩:=g2;have c9:Below w.heap.size w (w.alloc (C_ #[J_ c,B_ b,B_ x] 34)):=(xA _ w).alloc X_ _;have b5:Hid (CW w c b x (w.alloc (C_ #[J_ c,B_ b,B_ x] 34))):=⟨xK _ _,c9⟩;obtain⟨h9,e3,i0⟩:=b5.o.ch.cells;have d0:=Aa (fun d=>Yp b d O_);have d1:=Aa (fun d=>Yp x d O_);have k5:=Aa g.tb.lt;have d2:Hid (∀d,CW w c b x d->TB d a s):=fun d a2=>g.tb.keep (a2.bel.block a g.tb.lt)
 have d3:Hid (∀d,CW w c b x d->Calls Tryz.prog 63 #[A_ s,L_ (P_ d.heap.size) 1 1] (d.alloc (C_ #[J_ c,B_ b,B_ x] 34)) fun f m=>f=R_ (.tuple #[])/\TB m a s/\Calls Tryz.prog 64 #[.agg #[B_ ⟨#[]⟩,A_ s]] m fun f G=>∃v r n t,f=R_ v/\MkP (fun o=>Tr.one o (b4 o) (chP c b x)) (p+1) a y w h v r n t G):=by
  intro d a2;have g5:Below d.heap.size d (d.alloc (C_ #[J_ c,B_ b,B_ x] 34)):=(xA _ d).alloc X_ _;have T:Below w.heap.size w (d.alloc (C_ #[J_ c,B_ b,B_ x] 34)):=a2.bel.trans (g5.mono a2.bel.size);have a4:=g.rep.lt;refine(JP h s e2 y _ _ [(c,b,x)] [] none (g.rep.keep fun l N=>T.block l (a4 l N)) g.nd g.root.wf g.root.top Kr (UO d c b x) (fun l N j=> ?_) (fun F k3=> ?_) ?_).mono ?_
  ·have e:d.heap.size=l:=xM N;have:=a4 l j;have:=a2.bel.size;omega
  ·have e:F=chP c b x:=yR.1 k3;rw[e];exact⟨Qn _,c8⟩
  ·have:=g.root.wt;show _+2*1<=_;omega
  ·rintro f m ⟨rfl,c6,R,u,j9,k0⟩;have g6:a<(d.alloc (C_ #[J_ c,B_ b,B_ x] 34)).heap.size:=yF g.tb.lt T.size;have U:TB m a s:=g.tb.keep ((u.mod.block a g6 g.nb).trans (T.block a g.tb.lt));have g7:Tr.wt h c6<=2*(p+1):=(by have:=g.root.wt;have k:Tr.wt h c6<=Tr.wt h e2+2*1:=j9;omega);have g8:Ia (a::y) (a::R) w m:=by
    refine⟨(Mod.of_below (F:=fun l=>l∈a::y) T).trans u.mod (fun _ _ j=>j) (fun l _ j=>xZ _ j),fun l N=> ?_⟩;rcases xG.1 N with j|j
    ·exact .inl (by simp[j])
    ·exact(u.sub l j).imp (fun S=>xZ _ S) (fun S=>xI T.size S)
   have A:a∉R:=fun j=>by
    rcases u.sub a j with S|S
    ·exact g.nb S
    ·omega
   refine⟨rfl,U,?_⟩;refine(MK h ⟨#[]⟩ s c6 R m u.rep u.nd [] none u.wf O_).mono ?_;rintro f G ⟨v,r,t,rfl,a7,k1,H⟩;refine⟨v,r,_,t,rfl,MkP.start U u.wf u.small (fun o=> ?_) g7 g8 A a7 k1 H⟩;rw[k0 o (Qn o),g.root.val];rfl
 clear c9 g c8;generalize n9:(fun o=>Tr.one o (b4 o) (chP c b x))=b3 at*;go_in;go_upto_region 1 with fail
 go_cut [12] (fun _ b2=>CW w c b x b2)
 case first=>
  go_region_law (first
   | (go_simp;go_at_call 62;refine(d0.o (World.drew (w.alloc (C_ #[J_ c,B_ b,B_ x] 34)))).mono ?_;rintro f m ⟨rfl,A⟩;have B:=Aa (b5.o.drew.below A);obtain⟨c0,c1,c2⟩:=B.o.ch.cells;obtain⟨i1,i2,i3⟩:=B.o.ch.froz;clear A)
   | (go_simp;go_at_call 62;refine(d1.o (World.drew (w.alloc (C_ #[J_ c,B_ b,B_ x] 34)))).mono ?_;rintro f m ⟨rfl,A⟩;have B:=Aa (b5.o.drew.below A);obtain⟨c0,c1,c2⟩:=B.o.ch.cells;obtain⟨i1,i2,i3⟩:=B.o.ch.froz;clear A)
   | (go_simp;go_at_call 62;refine(d0.o m).mono ?_;rintro f G ⟨rfl,H⟩;have J:=Aa (B.o.below H);obtain⟨i4,i5,i6⟩:=J.o.ch.cells;obtain⟨h0,i,k⟩:=J.o.ch.froz;clear H)
   | (go_simp;go_at_call 62;refine(d1.o m).mono ?_;rintro f G ⟨rfl,H⟩;have J:=Aa (B.o.below H);obtain⟨i4,i5,i6⟩:=J.o.ch.cells;obtain⟨h0,i,k⟩:=J.o.ch.froz;clear H))
  all_goals
   go_wp2_with fail;go_meet;exact J.o.stores
 case rest=>
  have g9:=Aa hcut;obtain⟨c0,c1,c2⟩:=hcut.ch.cells;obtain⟨i7,e4⟩:=(d2.o wc hcut).cells;have V:Below wc.heap.size wc (wc.alloc (C_ #[J_ c,B_ b,B_ x] 34)):=(xA _ wc).alloc X_ _;obtain⟨C,i8⟩:=(d2.o _ (hcut.below V)).cells;have d4:=Aa (d3.o wc.drew hcut.drew);clear hcut V h9 e3 i0 d3;go_upto_region 2 with fail
  go_cut [19] (fun _ b2=>TB b2 a s/\Calls Tryz.prog 64 #[.agg #[B_ ⟨#[]⟩,A_ s]] b2 fun f G=>∃v r n t,f=R_ v/\MkP b3 (p+1) a y w h v r n t G)
  case first=>
   go_region_law (go_simp;go_at_call 63;refine d4.o.mono ?_;rintro f m ⟨rfl,U,f8⟩;have a5:=Aa (And.intro U f8);clear U f8)
   all_goals
    go_wp2_with fail;go_meet;exact a5.o
  case rest=>
   obtain⟨e5,a7⟩:=hcut;have a5:=Aa a7;obtain⟨e6,i9⟩:=e5.cells;clear e5 a7 d4 g9 i7 e4 C i8 c0 c1 c2;go_wp2_with fail;refine a5.o.mono ?_;rintro f G ⟨v,r,n,t,rfl,f9⟩;have b6:=Aa f9;clear f9 a5 e6 i9;go_wp2_with fail
   go_loopw [4] (fun c7 wr=>∃i r n t,i+r.length<=h+(p+1)/\MkP b3 (p+1) a y w i c7 r n t wr) (fun c7 _=>lenOf c7)
   case atStart=>exact⟨_,_,_,_,by have i:=b6.o.kids.len;have k:=b6.o.lvl.len;omega,b6.o⟩
   case round=>
    obtain⟨i,W,j0,l0,e7,M⟩:=hrel;have b7:=Aa e7;clear e7;have z:=Aa M;obtain⟨l1,e3,rfl⟩:=Ad M.row;have L:=Aa M.kids.len;have k6:W.length<=1800000:=(by rw[M.kids.len];have:=M.lvl.len;omega);clear M;by_cases I:1<W.length
    ·obtain⟨e8,e9,a4⟩:=z.o.node;have d5:=Aa (MK (i+1) ⟨#[]⟩ wr.heap.size (Tr.brT j0 []) _ _ e8 e9 [] none z.o.lvl.wf.1 (by have:=z.o.lvl.wtb (by rw[<-L.o];exact I);omega));clear e8 e9 a4;go_wp2_with fail;refine d5.o.mono ?_;rintro f n6 ⟨n7,k2,n8,rfl,b1,g0,V⟩;have h1:=Aa (z.o.up (by rw[<-L.o];exact I) b1 g0 V);have h2:k2.length<W.length:=by
      rw[b1.kids.len,L.o];exact Tr.SD (by rw[<-L.o];exact I)
     obtain⟨l2,l3,rfl⟩:=Ad b1.row;clear b1 g0 V d5;go_wp2_with fail;exact⟨⟨_,_,_,_,by have:=b7.o;omega,h1.o⟩,h2⟩
    ·have b8:=z.o.lvl.pos;obtain⟨a8,rfl⟩:∃a8,W=[a8]:=by
      match W,I,L.o with
      | [a8],_,_=>exact⟨a8,rfl⟩
      | [],_,hlen=>rw[<-hlen]at b8;simp at b8
      | _::_::_,I,_=>simp at I
     have h4:Hid (i<=(p+1)*2000000):=(by show _<=_;have:=b7.o;rw[jR]at this;omega);clear b7;obtain⟨l4,f0⟩:=z.o.tb;obtain⟨j1,j2⟩:=f0.cells;obtain⟨l,l5,e,l6,-,N,f1,f2⟩:=z.o.row.at 0 D_;simp only[xJ]at e;obtain⟨rfl,-,rfl⟩:=e;obtain⟨e4,f3,f4⟩:=z.o.root;have h5:=Aa f3;have h6:=Aa f4;simp only[List.getElem_cons_zero,vK,zR]at f1 f2;clear f0 f3 f4 b8 I L;rw[jR];go_wp2_with fail
     go_loopw [45] (fun _ wr=>∃k D C X,k<=i/\QD b3 (p+1) a k D C X wr/\Ia (a::y) (a::X) w wr) (fun _ wr=>Ace i a wr)
     case atStart=>exact⟨_,_,_,_,X_,h5.o,h6.o⟩
     case round=>
      obtain⟨k,D,C,X,j3,q,f5⟩:=hrel;have b9:=Aa q;have d6:=Aa f5;obtain⟨l7,l8⟩:=q.tb.cells;clear q f5 j1 j2 f1 f2;by_cases a3:∃(h3:Nat) (e:k=h3+1) (n:List (Tr.Key×Tr.Ai h3)),n.length=1/\QD b3 (p+1) a (h3+1) D (Tr.brT n []) X wr
      ·obtain⟨h3,l9,m0,j4,c3⟩:=a3;obtain⟨m1,m2,m3,m4,m5,c4,m6,m7,e6,m8,c5,f6⟩:=c3.idle j4;have a6:=Aa (Zu D _ _ _ _ _ _ _ wr c4);obtain⟨m9,n0,n1,-⟩:=c4.cells;have d7:=Aa c5;have d8:=Aa (d6.o.trans f6);have d9:=Aa (QE c3 (n:=i) O_);have e0:=Aa (QE c5 (n:=i) O_);clear c4 c5 f6 c3 b9;go_wp2_with fail;refine a6.o.mono ?_;rintro f wr ⟨rfl,rfl⟩;go_wp2_with fail
       first
        | exact⟨⟨_,_,_,_,O_,d7.o,d8.o⟩,by rw[d9.o,e0.o];omega⟩
        | (go_roundw;case rel=>exact⟨_,_,_,_,O_,d7.o,d8.o⟩;case measure=>rw[d9.o,e0.o];omega)
        | (trace_state;fail)
      ·have e1:Hid (∃(Y:Value) (Z a0:Option Addr) (a9 F b0 a1:Nat),Ax wr D Y (L_ Z a9 F) (L_ a0 b0 a1)/\(decide (a9=1)&&decide (b0=0))=false):=by
        have q:=b9.o
        match k,C,q,a3 with
        | 0,C,q,_=>
         obtain⟨Y,n2,O,-⟩:=q.rep;exact⟨Y,none,none,0,0,0,0,O,rfl⟩
        | h3+1,(n,cs),q,a3=>
         obtain⟨n3,n4,r,j5,t,O,j6,j7,e,j8,n5⟩:=q.rep;obtain⟨Z,F,rfl⟩:=Ad j6;obtain⟨a0,a1,rfl⟩:=Ad j7;refine⟨_,Z,a0,_,F,_,a1,O,?_⟩;refine wU.2 fun j=>a3 ?_
         simp only[yK,yL]at j;have h7:j5=[]:=zT j.2;subst h7;have h8:cs=[]:=e.symm;subst h8;exact⟨h3,rfl,n,by rw[<-j8.len];exact j.1,q⟩
       obtain⟨Y,Z,a0,a9,F,b0,a1,O,f7⟩:=e1.o;have a6:=Aa (Zu D Y Z a0 a9 F b0 a1 wr O);rw[f7]at a6;clear O f7 e1 a3;go_wp2_with fail;refine a6.o.mono ?_;rintro f wr ⟨rfl,rfl⟩;go_wp2_with fail;go_end0;exact⟨rfl,X,⟨k,D,C,xI j3 h4.o,b9.o⟩,d6.o⟩
def PlB(w:World)(b:Nat)(key:hJ)(lv:Nat)(un:Option Addr)(ch:Value):Prop:=w.heap[b]?=some (C_ #[B_ key,J_ (lv:Nat),.pointer un,ch] 139 (0,0))
theorem PlB.lt{w:World}{a:Nat}{d:hJ}{f:Nat}{A:Option Addr}{g:Value}(h:PlB w a d f A g):a<w.heap.size:=(xS.1 h).1
theorem PlB.cells{w:World}{a:Nat}{d:hJ}{f:Nat}{A:Option Addr}{g:Value}(h:PlB w a d f A g):w.cell? (Q_ a 0)=some (B_ d)/\w.cell? (Q_ a 1)=some (J_ (f:Nat))/\w.cell? (Q_ a 2)=some (.pointer A)/\w.cell? (Q_ a 3)=some g:=by unfold PlB at h;refine⟨?_,?_,?_,?_⟩<;>simp[World.cell?,h]
def Gj(bs:hF):hH:=bs.map fun b=>A_ b
def Ea(B:Nat)(w:World)(v:Value)(bs:hF):Prop:=w.ownsRow B 137 1 v bs.length (Gj bs)
theorem AN(a:hF):(Gj a).length=a.length:=by simp[Gj]
theorem Ea.at(h:Ea a w v b)(d:Nat)(j:d<b.length):∃c f,v=L_ (P_ c) b.length f/\b.length<=f/\a<=c/\c<w.heap.size/\w.cell? (Q_ c d)=some (A_ (b[d]'j))/\w.frozen? (Q_ c d)=false:=by
 rcases h.2 with⟨_,m⟩|⟨c,f,n,rfl,k,i,l,o,p,q⟩
 ·omega
 ·have g:=zD h (g:=c) rfl d _ (by show(Gj b)[d]?=_;simp[Gj,j];rfl);rw[Gv]at g;exact⟨c,f,rfl,l,k,(xS.1 i).1,by simpa using g,by simp[World.frozen?,i]⟩
theorem Ea.set(h:Ea a w (L_ (P_ f) b.length p) b)(c:Nat)(s:c<b.length)(d:Nat):Ea a (w.setCell (Q_ f c) (A_ d)) (L_ (P_ f) b.length p) (b.set c d):=by
 rcases h.2 with⟨_,o⟩|⟨q,r,g,e,i,j,k,l,m,n⟩
 ·omega
 ·simp only[xJ,xX,yT,yG,yB]at e;obtain⟨rfl,rfl⟩:=e;unfold Ea;rw[jV];refine⟨by rw[AN,jV,kJ],.inr ⟨f,p,g.setIfInBounds c (A_ d),rfl,i,?_,k,l,by simpa using m,?_⟩⟩
  ·rw[Ak (i:=c) j]
  ·rw[qM,aA,n];simp[Gj]
theorem QP(d:Option Addr)(a f:Nat)(w:World):
  Calls Tryz.prog 292 #[L_ d a f] w fun b c=>b=R_ (J_ (a:Nat))/\c=w:=by
 go_in;go_wp2_with fail;go_ret;exact⟨rfl,rfl⟩
def Sr(k1:hJ)(l1:Nat)(k2:hJ)(l2:Nat):Bool:=if k1.data.toList=k2.data.toList then decide (l2<l1)else decide (k1.data.toList<k2.data.toList)
theorem Zb(v:Value)(a:hF)(f g:Nat)(w:World)(h:Ea 0 w v a)(i:f<a.length)(j:g<a.length)(b c:hJ)(k l:Nat)(u1 u2:Option Addr)(p q:Value)(d:PlB w (a[f]'i) b k u1 p)(m:PlB w (a[g]'j) c l u2 q):
  Calls Tryz.prog 293 #[v,J_ (f:Nat),J_ (g:Nat)] w fun n o=>n=R_ (.bool (Sr b k c l))/\Below w.heap.size w o:=by
 obtain⟨n,o,rfl,r,-,s,t,-⟩:=h.at f i;obtain⟨u,y,e,-,-,-,z,-⟩:=h.at g j;simp only[xJ,xX,yT,yG,yB]at e;obtain⟨rfl,rfl⟩:=e;obtain⟨A,B,-,-⟩:=d.cells;obtain⟨C,D,-,-⟩:=m.cells;clear h d m;generalize a[f]'i=F at*;generalize a[g]'j=G at*;generalize a.length=H at*;unfold Sr;by_cases d:b.data.toList=c.data.toList
 ·rw[xD d];have e:b=c:=by cases b;cases c;simpa[Array.toList_inj]using d
  subst e;go_in;go_upto_region 1 with fail;go_quiet (fail);go_upto_region 2 with fail;go_quiet (fail);go_upto_region 4 with fail;go_quiet (fail);go_wp2_with fail;go_ret;exact⟨D_,Ao (xA _ _) _⟩
 ·rw[xB d];have e:¬b=c:=fun m=>d (by rw[m])
  have m:(b.toList==c.toList)=false:=by rw[Af,Af];simpa using d
  go_in;go_upto_region 1 with fail;go_quiet (fail);go_upto_region 2 with fail;go_quiet (fail);go_upto_region 3 with fail;go_quiet (fail);go_wp2_with fail;go_ret;refine⟨?_,Ao (Ao (Ao (xA _ _) _) _) _⟩;show Ending.returned (.bool (Op.bytesLess b.toList c.toList))=_;rw[Af,Af,Cj]
theorem Zc(v:Value)(a:hF)(c b:Nat)(w:World)(h:Ea 0 w v a)(g:c<a.length)(f:b<a.length):
  Calls Tryz.prog 294 #[v,J_ (c:Nat),J_ (b:Nat)] w fun i d=>i=R_ (.tuple #[])/\Ea 0 d v (Hp.swL 0 a c b)/\w.grownBy d v.ownBlock/\d.heap.size=w.heap.size:=by
 obtain⟨d,p,rfl,y,-,z,A,B⟩:=h.at c g;obtain⟨C,D,e,-,-,-,F,G⟩:=h.at b f;simp only[xJ,xX,yT,yG,yB]at e;obtain⟨rfl,rfl⟩:=e;have l:Ea 0 (w.setCell (Q_ d c) (A_ (a[b]'f))) (L_ (P_ d) a.length p) (a.set c (a[b]'f)):=Ea.set h c g _;have j:(a.set c (a[b]'f)).length=a.length:=D_;have n:Ea 0 ((w.setCell (Q_ d c) (A_ (a[b]'f))).setCell (Q_ d b) (A_ (a[c]'g))).drew (L_ (P_ d) a.length p) (Hp.swL 0 a c b):=by unfold Hp.swL;rw[Hp.Eu 0 a g,Hp.Eu 0 a f];have:=l;rw[<-j]at this⊢;exact Ea.set this b (by rw[j];exact f) _
 obtain⟨H,I,m,-,-,-,q,J⟩:=l.at b (by rw[j];exact f);rw[j]at m;simp only[xJ,xX,yT,yG,yB]at m;obtain⟨rfl,rfl⟩:=m;have t:Hid (w.grownBy ((w.setCell (Q_ d c) (A_ (a[b]'f))).setCell (Q_ d b) (A_ (a[c]'g))).drew (some d)):=by have i:=Be d c w (A_ (a[b]'f));have k:=Be d b (w.setCell (Q_ d c) (A_ (a[b]'f))) (A_ (a[c]'g));exact⟨k.os.trans i.os,k.tape.trans i.tape,k.output.trans i.output,xI i.size k.size,fun o r s=>(k.block o (yF r i.size) s).trans (i.block o r s)⟩
 have s:Hid ((((w.setCell (Q_ d c) (A_ (a[b]'f))).setCell (Q_ d b) (A_ (a[c]'g))).drew).heap.size=w.heap.size):=by show _=_;simp
 have u:=Aa n;have o:∃r,(w.setCell (Q_ d c) (A_ (a[b]'f))).cell? (Q_ d b)=some (.pointer r):=⟨_,q⟩;obtain⟨r,o⟩:=o;clear h l n q j;generalize a[c]'g=j at*;generalize a[b]'f=l at*;go_in;go_upto_region 0 with fail
 go_region_law (fail)
 all_goals
  go_wp2_with fail;go_end0;exact⟨rfl,u.o,t.o,s.o⟩
def ScB(w:World)(sb:Nat)(fr ub:hJ)(v:Value):Prop:=w.heap[sb]?=some (C_ #[B_ fr,B_ ub,v] 143 (0,0))
theorem ScB.lt{w:World}{a:Nat}{d s:hJ}{v:Value}(h:ScB w a d s v):a<w.heap.size:=(xS.1 h).1
theorem ScB.cells{w:World}{a:Nat}{d s:hJ}{v:Value}(h:ScB w a d s v):w.cell? (Q_ a 0)=some (B_ d)/\w.cell? (Q_ a 1)=some (B_ s)/\w.cell? (Q_ a 2)=some v/\w.frozen? (Q_ a 2)=false:=by unfold ScB at h;refine⟨?_,?_,?_,?_⟩<;>simp[World.cell?,World.frozen?,h]
theorem ScB.set{s:hJ}(h:ScB w a d s v)(b:Value):ScB (w.setCell (Q_ a 2) b) a d s b:=by unfold ScB at*;rw[Ak (i:=2) h];rfl
theorem Ea.prefix(h:Ea a w (L_ (P_ f) D p) (b++j)):Ea a w (L_ (P_ f) b.length p) b:=by
 rcases h.2 with⟨e,n⟩|⟨o,q,c,e,d,g,i,k,l,m⟩
 ·simp at e
 ·simp only[xJ,xX,yT,yG]at e;obtain⟨rfl,-,rfl⟩:=e;refine⟨by rw[AN,kJ],.inr ⟨f,p,c,rfl,d,g,?_,k,l,?_⟩⟩
  ·rw[xC]at i;omega
  ·have:=yW (List.take (b.length*1)) m;rw[jO,xC,jL O_]at this;rw[this];unfold Gj;rw[yX,kJ,dY D_]
theorem Acx(d:Nat)(m n:hJ)(v:Value)(a:hF)(b:Nat)(w:World)(j:ScB w d m n v)(h:Ea 0 w v (a++[b]))(y:a.length<=1000000000):
  Calls Tryz.prog 295 #[.pointer (some (Q_ d 2))] w fun c f=>c=R_ (.iface 137 (A_ b))/\∃c,f=w.setCell (Q_ d 2) c/\Ea 0 w c a/\c.ownBlock=v.ownBlock:=by
 have c:a.length<(a++[b]).length:=D_;obtain⟨p,q,rfl,g,-,r,l,-⟩:=h.at a.length c;have f:(a++[b])[a.length]'c=b:=D_;rw[f]at l;have k:=Aa h.prefix;obtain⟨s,t,i,u⟩:=j.cells;rw[xC]at i g⊢;simp only[jR]at i g⊢;have o:IntKind.i64.wrap (((a.length+1:Nat):Int)-1)=(a.length:Int):=by rw[yZ];omega
 clear h j f c;go_in;go_wp2_with fail;go_ret;exact⟨rfl,_,rfl,k.o,rfl⟩
