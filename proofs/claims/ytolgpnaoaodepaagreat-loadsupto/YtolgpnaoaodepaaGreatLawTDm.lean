import Derived.Test.YtolgpnaoaodepaaGreatLawSm
set_option maxHeartbeats 1000000
set_option maxRecDepth 20000
namespace Go.Proofs.YtolgpnaoaodepaaGreat
open Go.RowKit Tr
variable {p:gY}{m:Tr.Key->Option Tr.Key}{k q:hJ}{w g s:World}{a b c x r:Nat}{v f:Value}{d t:List (Nat×hF)}{i:Nat->Prop}{j u:hF}{n:Int}{l:Ending}
def inK(fr ub k:Tr.Key):Bool:= !decide (k<fr)&&(decide (ub=[]) || decide (k<ub))
theorem XB(b c a:Tr.Key):inK b c a=true↔¬a<b/\Oq c a:=by unfold inK Oq;simp
theorem AT(a:Tr.Key->Bool)(b:Tr.Key):∀c:List Tr.It,Ce (c.filter fun x=>a x.1) b=if a b then Ce c b else none
 | []=>by simp[Ce]
 | x::r=>by
  have d:=AT a b r;by_cases c:a x.1=true
  ·rw[kO (p:=fun x:Tr.It=>a x.1) c,Ce,Ce,d];by_cases e:x.1=b
   ·rw[xD e,xD e,<-e,c];rfl
   ·rw[xB e,xB e]
  ·rw[jU (p:=fun x:Tr.It=>a x.1) c,d,Ce];by_cases e:x.1=b
   ·have:a b=false:=(by rw[<-e];exact wU.2 c);rw[this];rfl
   ·rw[xB e]
theorem Xv(a b:hJ)(c:gY):Ab (c.filter (inB a b))=(Ab c).filter fun x=>inK a.data.toList b.data.toList x.1:=by unfold Ab;rw[List.filter_map];rfl
theorem Aad{y:gY}(d:Tr.Cb (Ab p))(c:∀a,(¬a<k.data.toList/\Oq q.data.toList a->Ce (Ab p) a=m a)/\(¬(¬a<k.data.toList/\Oq q.data.toList a)->Ce (Ab p) a=none))(f:Tr.Cb (Ab y))(g:∀a,Ce (Ab y) a=m a):p=y.filter (inB k q):=by
 refine SM (DH d ?_ fun a=> ?_)
 ·rw[Xv];exact f.filter _
 ·rw[Xv,AT fun a=>inK k.data.toList q.data.toList a];by_cases b:inK k.data.toList q.data.toList a=true
  ·rw[b,(c a).1 ((XB _ _ _).1 b),g];rfl
  ·rw[(c a).2 (fun a=>b ((XB _ _ _).2 a)),wU.2 b];rfl
theorem XC:(Tryz.prog.info? 84).map (fun a=>(a.zero,a.size,a.bytes))=some (some (.pointer none),1,8):=S_
theorem GP{B:Option Nat}(h:w.cell? (Q_ a 0)=some v/\w.frozen? (Q_ a 0)=false)(c:a<w.heap.size)(d:w.grownBy g B)(f:B≠some a):g.cell? (Q_ a 0)=some v/\g.frozen? (Q_ a 0)=false:=by
 have e:=d.block a c fun b=>f b.symm
 simp only[World.cell?,World.frozen?,e]at*;exact h
theorem KI{X:Nat->Prop}{vl:Value}{y b':Nat}{F:hF}{il:gY}{V:Tr.Key->Option Tr.Key}(h:LW a b c (fun f=>X f\/f∈x::y::b'::(F++blk v)) vl d w)(i:ST w x b')(m:Eh V c b' F w)(n:RT w y v)(o:Ap 0 w v il)(p:Tr.Cb (Ab il))(q:∀b,Ce (Ab il) b=V b)(r:il.length<=c)(s:∀g∈il,g.2.size<=16)(t:(x::y::b'::(F++blk v)).Nodup)(u:∀f∈x::y::b'::(F++blk v),¬X f)(M:c<=9000000):
  Calls Tryz.prog 52 #[A_ a,A_ x,A_ y] w (AdQ a b c X d w):=by
 obtain⟨D,G⟩:=h.cell;have g:Below w.heap.size w (w.alloc (C_ #[A_ x,A_ y] 117)):=(xA _ w).alloc X_ _;have z:(w.alloc (C_ #[A_ x,A_ y] 117)).heap.size=w.heap.size+1:=D_;have A:Hid ((w.alloc (C_ #[A_ x,A_ y] 117)).ownsRow 0 84 1 vl d.length (d.map fun j=> A_ j.1)):=Ae h.trs.row g X_;have j:=(h.below g).cell;have H:=h.cnt;have B:=Aa (fun k l C=>LW.add (w3:=k) (w4:=l) (vl':=C) h i m n o p q r s t u);have C:Hid (∀f,vl.ownBlock=some f->a<f):=fun f k=>(h.far f (yN _ (Aj.2 k))).1
 have I:=h.lt;obtain⟨k,l,rfl⟩:=Ad h.trs.row;clear h i m n o p q r s t u g;go_in;go_wp2_with (at_builtin;refine Ix (w.alloc (C_ #[A_ x,A_ y] 117)) rfl (.tmp 18) (.tmp 23) 67 84 Tryz.underlying67 _ 1 8 XC rfl Do Do rfl 0 (L_ k d.length l) d.length _ rfl A.o [A_ w.heap.size] rfl (by intro L m;simp at m;rw[m];rfl) U_ O_ Y_ ?_;intro q f g i n;have o:=Aa (B.o _ f q rfl g i n);have p:f.cell? (Q_ a 0)=some (L_ k d.length l)/\f.frozen? (Q_ a 0)=false:=GP j (by rw[z];omega) i (fun e=>by have:=C.o a e;omega);obtain⟨r,s⟩:=p;obtain⟨t,u,J,rfl⟩:=Fo g;clear g i n j D G);go_ret;exact o.o
structure ScQ(b k N:Nat)(X:Nat->Prop)(vl:Value)(qs:List (Nat×hF))(w:World)(r:Ending)(w':World):Prop where
 ret:r=R_ (.bool true)
 lw:LW b (k+4) N X vl qs w'
 bel:Below b w w'
 same:∀g,X g->w'.heap[g]?=w.heap[g]?
 row:∀g∈blk vl,w'.heap[g]?=w.heap[g]?
theorem LW.owned(h:LW a b c i f d w)(l:Below w.heap.size w s)(o:Bk g a f (b+4) (fun j=>i j\/j∈blk f++prB d))(n:Below a s g)(m:∀j,(i j\/j∈blk f++prB d)->g.heap[j]?=s.heap[j]?):ScQ a b c i f d w (R_ (.bool true)) g:=
 ⟨rfl,⟨h.trs.keep fun j k=>(m j (.inr k)).trans (l.block j (h.trs.lt j k)),o,h.far,fun j k=>⟨(h.xs j k).1,yF (h.xs j k).2 (xI l.size n.size)⟩,h.cnt⟩,(l.mono (zX h.lt)).trans n,fun j k=>(m j (.inl k)).trans (l.block j (h.xs j k).2),fun j k=>(m j (.inr (yN _ k))).trans (l.block j (h.trs.lt j (yN _ k)))⟩
theorem AU(h:LW a b c i f d w)(e7:b<=90000000)(b4:c<=900000)(B:Nat×hF)(d0:B∈d)(R S:hJ):
  Calls Tryz.prog 29 #[A_ a,A_ B.1,B_ R,B_ S] w (ScQ a b c i f d w):=by
 obtain⟨x,a2,a3,a4,v,a5,c1,o,c2⟩:=h.trs.prs B d0;have p:=Aa h;have n:=Aa o;obtain⟨F,G⟩:=o.pb.cells;have T:x∉a3::a4:=fun M=>by have:=(yV.1 (yV.1 o.nd).2).1;exact this (by rcases xG.1 M with e|e<;>simp[e])
 have U:=Aa (ZZ c1 c x a3 a4 R S w o.st o.tr T b4);have b5:a5.length<=900000:=xI (zX o.len) b4;clear h o c2 T;go_in;go_wp2_with fail;refine U.o.mono ?_;rintro a8 H ⟨e4,j,rfl,I,u,a9,b0⟩;have V:=Aa (Aad a9 b0 n.o.ris n.o.val);have b6:=Aa I;have C:=Aa u;obtain⟨r,s,rfl⟩:=Ad I;have W:PB H B.1 x a2:=(u.block _ n.o.pb.lt).trans n.o.pb;have X:=Aa (Aac a2 v a5 R S H ((u.block _ n.o.rt.lt).trans n.o.rt) (Ae n.o.row u X_) O_);clear F G;obtain⟨F,G⟩:=W.cells;have d1:j.length<=900000:=by rw[V.o];exact xI (kU ..) b5
 clear I u a9 b0 W U;go_wp2_with fail;refine X.o.mono ?_;rintro a8 J ⟨e5,rfl,A,L⟩;rw[<-V.o]at A;have b7:=Aa A;have Y:=Aa L;obtain⟨c3,c4,rfl⟩:=Ad A;have Z:Hid (Ap w.heap.size J (L_ r j.length s) j):=Ae b6.o L X_;clear A L X F G;go_wp2_with fail
 go_loopw [12,13] (fun c9 N wr=>c9=.bool true/\∃m:Nat,m<=j.length/\N=J_ (m:Nat)/\Below J.heap.size J wr) (fun _ N _=>j.length-(intOf N).toNat)
 case atStart=>exact⟨D_,0,Y_,rfl,xA _ _⟩
 case round=>
  obtain⟨rfl,m,d5,rfl,t⟩:=hrel;have D:=Aa t;by_cases O:m<j.length
  ·have a0:Ap w.heap.size wr (L_ r j.length s) j:=Ae Z.o t X_;have a1:Ap H.heap.size wr (L_ c3 j.length c4) j:=Ae b7.o t X_;obtain⟨d6,d7,a6,d8,-,-,c5,c6⟩:=a0.at m O;obtain⟨d9,e0,a7,e1,-,-,c7,c8⟩:=a1.at m O;simp only[xJ]at a6 a7;obtain⟨rfl,-,rfl⟩:=a6;obtain⟨rfl,-,rfl⟩:=a7;generalize j[m]'O=M at*;obtain⟨e2,e3⟩:=M;simp only at c5 c6 c7 c8;clear t a0 a1;go_upto_region 7 with fail;go_quiet (fail);go_wp2_with fail;exact⟨⟨rfl,m+1,O_,W_,Ao D.o _⟩,by simp[intOf];omega⟩
  ·obtain rfl:m=j.length:=O_;clear t;have y:Below w.heap.size w wr:=(C.o.trans (Y.o.mono C.o.size)).trans (D.o.mono (xI C.o.size Y.o.size));have q:Ap w.heap.size wr (L_ r j.length s) j:=Ae Z.o D.o X_;have d2:=p.o.lt;have z:∀g,(i g\/g∈blk f++prB d)->a<g/\g<w.heap.size:=fun g k=>k.elim (p.o.xs g) fun l=>⟨(p.o.far g l).1,p.o.trs.lt g l⟩
   have b8:=Aa (RU a f b (fun g=>(i g\/g∈blk f++prB d)\/(Value.slice r j.length s).ownBlock=some g) (fun g=>i g\/g∈blk f++prB d) (L_ r j.length s) j.length (Al j) wr (p.o.bk.below2 y fun g k=>k.imp id fun l=>(xF q g l).1) (Dp q) O_ O_ (fun g k=>⟨by have:=(xF q g k).1;omega,.inr k⟩) (fun g k=>⟨.inl k,fun l=>by have d3:=(xF q g l).1;have d4:=(z g k).2;omega,yF (z g k).2 y.size⟩) (fun g k=>k.elim (fun l=>(z g l).1) fun l=>by have:=(xF q g l).1;omega));have b9:=Aa y;clear y q z;go_wp2_with fail;refine b8.o.mono ?_;rintro a8 e6 ⟨rfl,b1,b2,b3⟩;have c0:=Aa (LW.owned p.o b9.o b1 b2 b3);clear b1 b2 b3;go_wp2_with fail;go_ret;exact c0.o
theorem XD{I J:hF}{S S':Nat}(h:(a::x::b::c::(j++I)).Nodup)(g:∀f∈a::x::b::c::(j++I),f<S)(R:u.Nodup)(T:c∉u)(r:∀f∈u,f∈c::j\/S<=f)(U:∀f∈u,f<S')(Y:S<=S')(V:J.Nodup)(l:∀f∈J,f∈I\/S'<=f):(a::x::b::c::(u++J)).Nodup:=by
 have s:=g a D_;have t:=g x D_;have y:=g b D_;have W:=g c D_;have z:∀f∈I,f<S:=fun f d=>g f (by simp[d])
 simp only[yV,xG,xE,not_or]at h;obtain⟨⟨A,B,m,C,D⟩,⟨F,n,G,H⟩,⟨o,L,M⟩,⟨X,p⟩,i⟩:=h;have i:=(xO.1 i).2.2;have k:∀f,f<S->f≠c->f∉j->f∉I->f∉u++J:=fun f q q N O d=>by
  rcases xE.1 d with d|d
  ·rcases r f d with d|d
   ·rcases xG.1 d with e|d
    ·exact q e
    ·exact N d
   ·omega
  ·rcases l f d with d|d
   ·exact O d
   ·omega
 refine yV.2 ⟨fun d=> ?_,yV.2 ⟨fun d=> ?_,yV.2 ⟨fun d=> ?_,yV.2 ⟨fun d=> ?_,xO.2 ⟨R,V,fun f q N N e=> ?_⟩⟩⟩⟩⟩
 ·rcases xG.1 d with e|d
  ·exact A e
  ·rcases xG.1 d with e|d
   ·exact B e
   ·rcases xG.1 d with e|d
    ·exact m e
    ·exact k a s m C D d
 ·rcases xG.1 d with e|d
  ·exact F e
  ·rcases xG.1 d with e|d
   ·exact n e
   ·exact k x t n G H d
 ·rcases xG.1 d with e|d
  ·exact o e
  ·exact k b y o L M d
 ·rcases xE.1 d with d|d
  ·exact T d
  ·rcases l c d with d|d
   ·exact p d
   ·omega
 ·subst e;rcases l f N with d|d
  ·rcases r f q with b|b
   ·rcases xG.1 b with e|b
    ·exact p (by rw[<-e];exact d)
    ·exact i f b f d rfl
   ·have:=z f d;omega
  ·have:=U f q;omega
theorem Eh.nds(h:Eh m a b j w):j.Nodup/\b∉j:=by obtain⟨h,d,f,g,c⟩:=h;exact⟨c.nd,c.nb⟩
theorem PrQ.made{i:Nat}(h:PrQ b c x r i j v p m w){N:Ending}(L:SmQ m b x i j n k q w l g)(c7:RmQ g r v p n k q N s):∃f,PrM (b+1) c f s/\Mod (fun d=>d∈c::x::r::i::(j++blk v)) w s/\∀d∈f,d∈c::x::r::i::(j++blk v)\/w.heap.size<=d:=by
 obtain⟨-,a2,o,B,u⟩:=L;obtain⟨-,M,b0,b1⟩:=c7;have C:=h.lt;have I:=h.nd;have R:=u.1.size;have c8:=M.size;have S:=I;simp only[yV,xG,xE,not_or]at S;obtain⟨⟨d1,b2,b3,b4,d2⟩,⟨b5,d3,d4,d5⟩,⟨a3,b6,b7⟩,⟨d6,b8⟩,J⟩:=S;have J:=(xO.1 J).2.2;have T:∀d,d<w.heap.size->d≠i->d∉j->g.heap[d]?=w.heap[d]?:=fun d t y f=>u.1.block d t fun z=>(xG.1 z).elim y f
 have U:PB g c x r:=(T c (C c D_) b3 b4).trans h.pb;have a6:Ap 0 g v p:=Bx h.row fun d f _=>T d (C d (by simp[Aj.2 f])) (fun e=>b8 (by rw[<-e];exact Aj.2 f)) (fun z=>J d z d (Aj.2 f) rfl)
 have a7:r∉i::o:=fun z=>by
  rcases xG.1 z with e|z
  ·exact a3 e
  ·rcases u.2 r (xZ _ z)with z|z
   ·rcases xG.1 z with e|z
    ·exact a3 e
    ·exact b6 z
   ·have:=C r D_;omega
 have D:∀d,d<g.heap.size->d≠r->s.heap[d]?=g.heap[d]?:=fun d t y=>M.block d t y
 have V:PB s c x r:=(D c U.lt b2).trans U;have W:ST s x i:=(D x a2.lt b5).trans a2;have X:∀{t},Eh t (b+1) i o g->Eh t (b+1) i o s:=fun t=>t.keep fun d f=>D d (t.lt d f) (fun e=>a7 (by rw[<-e];exact f))
 have Y:∀d∈o,d<g.heap.size:=fun d f=>B.lt d (xZ _ f)
 have Z:Mod (fun d=>d∈c::x::r::i::(j++blk v)) w s:=u.1.trans M (fun d _ z=>by rcases xG.1 z with e|z<;>simp[*]) (fun d _ z=>by simp[z])
 have a0:∀{t:hF},(∀d∈t,d∈blk v\/g.heap.size<=d)->∀d∈x::r::i::(o++t),d∈c::x::r::i::(j++blk v)\/w.heap.size<=d:=fun F d f=>by
  rcases xG.1 f with e|f
  ·exact .inl (by simp[e])
  ·rcases xG.1 f with e|f
   ·exact .inl (by simp[e])
   ·rcases xG.1 f with e|f
    ·exact .inl (by simp[e])
    ·rcases xE.1 f with z|z
     ·rcases u.2 d (xZ _ z)with z|z
      ·rcases xG.1 z with e|z
       ·exact .inl (by simp[e])
       ·exact .inl (by simp[z])
      ·exact .inr z
     ·rcases F d z with z|z
      ·exact .inl (by simp[z])
      ·exact .inr O_
 obtain⟨a4,a5⟩:=B.nds
 cases y:Pg.Bv n k.size q.size with
 | false=>
  rw[y]at B;have a8:Ap 0 s v p:=Bx a6 fun d f t=>D d t (fun e=>b7 (by rw[<-e];exact Aj.2 f))
  refine⟨x::r::i::(o++blk v),⟨x,r,i,o,v,p,m,⟨V,W,X B,b0 y,a8,h.ris,h.val,Nat.lt_succ_of_lt h.len,h.v16,?_⟩,rfl⟩,Z,a0 fun d f=> .inl f⟩;exact XD (S:=w.heap.size) (S':=g.heap.size) I C a4 a5 (fun d z=>u.2 d (xZ _ z)) Y R (Dg _) fun d z=> .inl z
 | true=>
  rw[y]at B;obtain⟨O,G,b9,c0,H,c1⟩:=b1 y;have a9:q.size<=16:=by unfold Pg.Bv at y;simp only[yK,kT,yL]at y;exact y.1.2
  have F:∀d∈blk O,d∈blk v\/g.heap.size<=d:=fun d z=> .inr (c1 d (Aj.1 z))
  refine⟨x::r::i::(o++blk O),⟨x,r,i,o,O,G,_,⟨V,W,X B,b9,c0,by rw[H];exact Zy h.ris _ _,fun t=> ?_,?_,fun z c2=> ?_,?_⟩,rfl⟩,Z,a0 F⟩
  ·rw[H,DO h.ris,h.val];rfl
  ·have t:G.length=(Ab G).length:=(by simp[Ab]);have c9:p.length=(Ab p).length:=(by simp[Ab]);have d0:=h.len;have:(Kl (Ab p) (chP n k q)).length<=(Ab p).length+1:=OH _ _ _;rw[t,H];omega
  ·have a1:(z.1.data.toList,z.2.data.toList)∈Ab G:=xL.2 ⟨z,c2,rfl⟩;rw[H]at a1;rcases OG a1 with c5|⟨d7,e,c6⟩
   ·obtain⟨c2,c3,c4⟩:=xL.1 c5;have:=h.v16 c2 c3;have t:=yW Prod.snd c4;simp only at t;rw[<-Ah,<-t,Ah];exact this
   ·have L:=Ng (c:=chP n k q) (by show q.data.toList.length<=16;rw[Ah];exact a9) e;have t:=yW Prod.snd c6;simp only at t;rw[<-Ah,t];exact L
  ·exact XD (S:=w.heap.size) (S':=g.heap.size) I C a4 a5 (fun d z=>u.2 d (xZ _ z)) Y R (Dg _) F
open Go.MuLone
theorem Adm(a:Tr.Key->Option Tr.Key)(g x b:Nat)(i:hF)(c:hJ)(w:World)(d:ST w x b)(k:Eh a g b i w)(r:x∉b::i)(A:g<=900000):
  Calls Tryz.prog 22 #[A_ x,B_ c] w fun q p=>q=R_ (.tuple #[B_ (stV (a c.data.toList)),J_ (if stB (a c.data.toList)then 0 else 3)])/\Below w.heap.size w p:=by
 have s:=Aa d;have t:=Aa (Mod.setCell w x 0 (.int .i32 1));have j:=Aa d.lock;have u:Hid (Eh a g b i (w.setCell (Q_ x 0) (.int .i32 1))):=k.keep fun f l=>t.o.block f (k.lt f l) fun e=>r (by rw[<-e];exact l)
 obtain⟨m,-,n⟩:=d.cells;have l:=n 0;obtain⟨f,o,-⟩:=j.o.cells;have y:=Aa (Acv a g b i c _ u.o A);clear d k r n;go_enter_defers Tryz.func22,Tryz.ntmps22;go_wp2_with (go_at_call 34;refine(lock_free Uf (Q_ x 0) w m l).mono ?_;rintro e p ⟨rfl,rfl⟩);refine y.o.mono ?_;rintro q r ⟨rfl,d⟩;have n:Hid (SL r x b):=(d.block x j.o.lt).trans j.o;have k:=Aa (Vg s.o d);clear d f o m l;obtain⟨f,o,d⟩:=n.o.cells;have l:=d 0;clear d
 cases B:a c.data.toList with
 | none=>
  have d:Hid (stV (none:Option hE)=⟨#[]⟩/\stB (none:Option hE)=false):=⟨rfl,rfl⟩;rw[d.o.1,d.o.2];go_wp2_with fail
  all_goals
   refine wE (f:=35) (args:= #[A_ x]) D_ (by simp[go_sem]) ?_;refine(unlock_deferred Uf (Q_ x 0) .returning _ f l).mono ?_;rintro e m z ⟨rfl,rfl,rfl⟩;exact⟨_,cS rfl _ _ _,rfl,k.o⟩
 | some v=>
  have d:Hid (stB (some v)=true):=rfl;rw[d.o];go_wp2_with fail
  all_goals
   refine wE (f:=35) (args:= #[A_ x]) D_ (by simp[go_sem]) ?_;refine(unlock_deferred Uf (Q_ x 0) .returning _ f l).mono ?_;rintro e m z ⟨rfl,rfl,rfl⟩;exact⟨_,cS rfl _ _ _,rfl,k.o⟩
structure StQ(b k N:Nat)(X:Nat->Prop)(w:World)(r:Ending)(w':World):Prop where
 ret:r=R_ (.bool true)
 lw:∃vl qs,LW b (k+4) (N+1) X vl qs w'
 bel:Below b w w'
 same:∀g,X g->w'.heap[g]?=w.heap[g]?
theorem StQ.of_below(h:LW a b c i f d w)(j:Below w.heap.size w g):StQ a b c i w (R_ (.bool true)) g:=
 ⟨rfl,⟨f,d,(h.below j).mono O_ O_⟩,j.mono (zX h.lt),fun k l=>j.block k (h.xs k l).2⟩
theorem StQ.box(h:LW b c r i f d w)(n:Below w.heap.size w g)(j:StQ b c r i g l s):StQ b c r i w l s:=
 ⟨j.ret,j.lw,(n.mono (zX h.lt)).trans j.bel,fun k m=>(j.same k m).trans (n.block k (h.xs k m).2)⟩
theorem StQ.of_turn(h:LW a b c i f (d++(r,j)::t) w)(p:PrM (c+1) r u g)(l:Mod (fun k=>k∈r::j) w g)(q:∀k∈u,k∈r::j\/w.heap.size<=k):StQ a b c i w (R_ (.bool true)) g:=by
 have o:∀k∈r::j,k∈blk f++prB (d++(r,j)::t):=fun k m=>by rw[Ls];exact yE _ (yE _ (yN _ m))
 have s:=h.lt;exact⟨rfl,⟨f,_,(h.turn p (kF c) l q).mono O_ X_⟩,⟨l.os,l.tape,l.output,l.size,fun k m=>l.block k O_ fun n=>by have:=(h.far k (o k n)).1;omega⟩,fun k m=>l.block k (h.xs k m).2 fun n=>(h.far k (o k n)).2 m⟩
theorem LW.row_turn(h:LW a b c i f (d++(r,j)::t) w)(n:Mod (fun k=>k∈r::j) w g):∀k∈blk f,g.heap[k]?=w.heap[k]?:=fun k l=>
 n.block k (h.trs.lt k (yN _ l)) fun m=>(xO.1 h.trs.nd).2.2 k l k (by rw[Ls];exact yE _ (yN _ m)) rfl
theorem StQ.of_scan(h:ScQ a b c i f d w l g):StQ a b c i w l g:=
 ⟨h.ret,⟨f,d,h.lw.mono X_ (kF c)⟩,h.bel,h.same⟩
def OpB(w:World)(bx:Nat)(kk ix:Int)(s t:hJ)(c4 c5 c6 c7 c8:Value)(ck:Int)(key xv:hJ)(c12:Value):Prop:=w.heap[bx]?=some (C_ #[J_ kk,J_ ix,B_ s,B_ t,c4,c5,c6,c7,c8,J_ ck,B_ key,B_ xv,c12] 81 (0,0))
theorem OpB.cells{w:World}{a:Nat}{n L:Int}{k q:hJ}{f C D F G:Value}{M:Int}{z A:hJ}{H:Value}(h:OpB w a n L k q f C D F G M z A H):w.cell? (Q_ a 0)=some (J_ n)/\w.cell? (Q_ a 1)=some (J_ L)/\w.cell? (Q_ a 2)=some (B_ k)/\w.cell? (Q_ a 3)=some (B_ q)/\w.cell? (Q_ a 4)=some f/\w.cell? (Q_ a 5)=some C/\w.cell? (Q_ a 6)=some D/\w.cell? (Q_ a 7)=some F/\w.cell? (Q_ a 8)=some G/\w.cell? (Q_ a 9)=some (J_ M)/\w.cell? (Q_ a 10)=some (B_ z)/\w.cell? (Q_ a 11)=some (B_ A)/\w.cell? (Q_ a 12)=some H:=by unfold OpB at h;refine⟨?_,?_,?_,?_,?_,?_,?_,?_,?_,?_,?_,?_,?_⟩<;>simp[World.cell?,h]
theorem SmQ.drew{v:hJ}(h:SmQ m a x b j n k v w.drew l g):SmQ m a x b j n k v w l g:=by obtain⟨d,f,i,o,c⟩:=h;exact⟨d,f,i,o,⟨⟨c.1.os,c.1.tape,c.1.output,c.1.size,c.1.block⟩,c.2⟩⟩
theorem RmQ.drew{x:hJ}(h:RmQ w.drew a v p n k x l g):RmQ w a v p n k x l g:=by obtain⟨c,b,d,f⟩:=h;exact⟨c,⟨b.os,b.tape,b.output,b.size,b.block⟩,d,f⟩
theorem HV(h:LW a b c i f d w)(e5:c+1<=900000)(a4:Nat×hF)(a5:a4∈d)(s:Int)(t u:hJ)(y z A B C:Value)(j:Int)(k l:hJ)(D:Value):
  Calls Tryz.prog 54 #[A_ a,A_ a4.1,.agg #[J_ 8,J_ s,B_ t,B_ u,y,z,A,B,C,J_ j,B_ k,B_ l,D]] w (fun n U=>StQ a b c i w n U/\U.cell? (Q_ a 0)=some f/\∀g∈blk f,U.heap[g]?=w.heap[g]?):=by
 have V:Below w.heap.size w (w.alloc (C_ #[J_ 8,J_ s,B_ t,B_ u,y,z,A,B,C,J_ j,B_ k,B_ l,D] 81)):=(xA _ w).alloc X_ _;have J:OpB (w.alloc (C_ #[J_ 8,J_ s,B_ t,B_ u,y,z,A,B,C,J_ j,B_ k,B_ l,D] 81)) w.heap.size 8 s t u y z A B C j k l D:=xK _ _;have W:=Aa h;have a6:=Aa V;have X:=h.below V;obtain⟨e6,e7,rfl⟩:=List.append_of_mem a5;obtain⟨Z,e8⟩:=a4;obtain⟨x,F,p,r,v,b2,a0,m,rfl⟩:=X.trs.prs _ a5;clear h V a5;go_enter cC,cG;go_upto_region 3 with fail;generalize w.alloc (C_ #[J_ 8,J_ s,B_ t,B_ u,y,z,A,B,C,J_ j,B_ k,B_ l,D] 81)=I at*;obtain⟨b3,-,-,-,-,-,-,-,-,b4,b5,b6,-⟩:=J.cells;obtain⟨b7,b8⟩:=m.pb.cells;have a7:=m.nd;have L:=m.lt;simp only[yV,xG,xE,not_or]at a7;obtain⟨⟨d6,d7,b9,c0,d8⟩,⟨d9,c1,c2,e0⟩,⟨c3,c4,e1⟩,⟨e2,c5⟩,M⟩:=a7;have M:=(xO.1 M).2.2;have a8:x∉p::r:=fun q=>(xG.1 q).elim c1 c2
 have a9:=Aa (ZY a0 c x p r j k l I.drew m.st (m.tr.keep fun _ _=>rfl) a8 e5);have b0:Hid (∀o n,SmQ a0 c x p r j k l I n o->PB o Z x F/\RT o F v/\Ap 0 o v b2/\OpB o w.heap.size 8 s t u y z A B C j k l D):=fun o n e3=>by
  obtain⟨-,-,e9,-,R⟩:=e3;have N:∀g,g<I.heap.size->g≠p->g∉r->o.heap[g]?=I.heap[g]?:=fun g S G T=>R.1.block g S fun q=>(xG.1 q).elim G T
  have b1:∀g∈p::r,g<w.heap.size:=fun g H=>by
   have h0:=W.o.trs.lt g (by rw[Ls];refine yE _ (yE _ (yN _ ?_));rcases xG.1 H with e|e<;>simp[e])
   exact h0
  refine⟨(N Z (L Z D_) b9 c0).trans m.pb,(N F (L F D_) c3 c4).trans m.rt,Bx m.row fun g H _=>N g (L g (by simp[Aj.2 H])) (fun e=>c5 (by rw[<-e];exact Aj.2 H)) (fun q=>M g q g (Aj.2 H) rfl),(N _ (xS.1 J).1 (fun e=> ?_) (fun q=> ?_)).trans J⟩
  ·have:=b1 p (xU ..);omega
  ·have:=b1 _ (xZ _ q);omega
 have O:=Aa m;have Y:=Aa X;clear m X J M a8 L d6 d7 b9 c0 d8 d9 c1 c2 e0 c3 c4 e1 e2 c5
 go_cut [7] (fun e4 o=>SmQ a0 c x p r j k l I (R_ e4) o)
 case first=>
  go_region_law (go_simp;go_at_call 14;refine a9.o.mono ?_;rintro n f1 a2;obtain⟨e,rfl⟩:∃e,n=R_ (J_ e):=⟨_,a2.1⟩;have d0:=Aa (SmQ.drew a2);clear a2)
  all_goals
   go_wp2_with fail;go_meet;exact d0.o
 case rest=>
  have d1:=Aa hcut;obtain⟨e,a1⟩:∃e:Int,e=if Pg.Bv j k.size l.size then 0 else 1:=⟨_,rfl⟩
  have d2:u7=J_ e:=by have:=hcut.1;rw[<-a1]at this;simpa using this
  obtain⟨c6,c7,c8,c9⟩:=b0.o wc _ hcut;have d3:=Aa a1;have d4:=Aa (Yz F v b2 j k l wc.drew c7 (Bx c8 fun _ _ _=>rfl) (by have:=O.o.len;omega) O.o.ris O.o.v16);subst d2;clear hcut a1 b3 b4 b5 b6 b7 b8;obtain⟨b3,-,-,-,-,-,-,-,-,b4,b5,b6,-⟩:=c9.cells;obtain⟨b7,b8⟩:=c6.cells;clear c6 c7 c8 c9 b0 a9;go_upto_region 4 with fail
  go_region_law (first
   | (go_simp;go_at_call 96;refine(BJ _ _).mono ?_;rintro n U ⟨rfl,rfl⟩)
   | (go_simp;go_at_call 112;refine d4.o.mono ?_;rintro n f2 a3;obtain rfl:n=R_ (J_ e):=(by rw[d3.o];exact a3.1);have d5:=Aa (RmQ.drew a3);clear a3))
  all_goals
   go_wp2_with fail;go_ret;obtain⟨f0,S,G,T⟩:=PrQ.made O.o d1.o d5.o;exact⟨StQ.box W.o a6.o (StQ.of_turn Y.o S G T),(Y.o.turn S (kF c) G T).cell.1,fun g R=>(Y.o.row_turn G g R).trans (a6.o.block g (W.o.trs.lt g (yN _ R)))⟩
theorem VA(a:gY)(b:hJ):stB (Et a b)=Dt a b:=by
 cases a with
 | nil=>rfl
 | cons y D=>
  unfold Et Dt;by_cases e:y.1.data.toList=b.data.toList
  ·simp[e,stB]
  ·simp[e,stB]
theorem MY(h:LW a b c i f d w)(c7:c<=900000)(a1:Nat×hF)(b7:a1∈d)(q:Int)(g r:hJ)(s t u y z:Value)(A:Int)(B C:hJ)(D:Value):
  Calls Tryz.prog 54 #[A_ a,A_ a1.1,.agg #[J_ 9,J_ q,B_ g,B_ r,s,t,u,y,z,J_ A,B_ B,B_ C,D]] w (fun n o=>StQ a b c i w n o/\o.cell? (Q_ a 0)=some f/\∀J∈blk f,o.heap[J]?=w.heap[J]?):=by
 have O:Below w.heap.size w (w.alloc (C_ #[J_ 9,J_ q,B_ g,B_ r,s,t,u,y,z,J_ A,B_ B,B_ C,D] 81)):=(xA _ w).alloc X_ _;have L:OpB (w.alloc (C_ #[J_ 9,J_ q,B_ g,B_ r,s,t,u,y,z,J_ A,B_ B,B_ C,D] 81)) w.heap.size 9 q g r s t u y z A B C D:=xK _ _;have R:=Aa h;have p:=Aa O;have a2:=h.below O;obtain⟨b8,c8⟩:=a1;obtain⟨x,T,a8,a9,v,U,M,j,rfl⟩:=a2.trs.prs _ b7;clear h O b7;go_enter cC,cG;go_upto_region 6 with fail;generalize w.alloc (C_ #[J_ 9,J_ q,B_ g,B_ r,s,t,u,y,z,J_ A,B_ B,B_ C,D] 81)=m at*;obtain⟨V,-,W,-⟩:=L.cells;obtain⟨X,Y⟩:=j.pb.cells;have a3:=j.nd;simp only[yV,xG,xE,not_or]at a3;obtain⟨-,⟨b9,b0,b1,c0⟩,-⟩:=a3;have a4:x∉a8::a9:=fun c1=>(xG.1 c1).elim b0 b1
 have S:=Aa (Adm M c x a8 a9 g m.drew j.st (j.tr.keep fun _ _=>rfl) a4 c7);obtain⟨H,Z⟩:∃H,H=stV (M g.data.toList):=⟨_,rfl⟩;obtain⟨e,a0⟩:∃e:Int,e=if stB (M g.data.toList)then 0 else 3:=⟨_,rfl⟩
 rw[<-Z,<-a0]at S;have a5:M g.data.toList=Et (Dr U g) g:=by rw[<-j.val,Wl (Nf U g j.ris) j.ris]
 have a6:Hid (∀l,Below m.heap.size m l->PB l b8 x T/\OpB l w.heap.size 9 q g r s t u y z A B C D/\Calls Tryz.prog 113 #[A_ T,B_ g] l.drew fun n o=>n=R_ (.tuple #[B_ H,J_ e])/\Below l.heap.size l o):=fun l N=>by refine⟨(N.block _ j.pb.lt).trans j.pb,(N.block _ (xS.1 L).1).trans L,?_⟩;refine(Acl T v U g l.drew ((N.block _ j.rt.lt).trans j.rt) (Bx (Ae j.row N X_) fun _ _ _=>rfl) (by have:=j.len;omega)).mono ?_;rintro n o ⟨rfl,I⟩;refine⟨?_,⟨I.os,I.tape,I.output,I.size,I.block⟩⟩;rw[Z,a0,a5,VA]
 clear j a2 L a4 b9 b0 b1 c0 a5 Z a0
 go_cut [8,9] (fun c2 c3 l=>c2=B_ H/\c3=J_ e/\Below m.heap.size m l)
 case first=>
  go_region_law (go_simp;go_at_call 22;refine S.o.mono ?_;rintro n b6 ⟨rfl,k⟩;have F:Hid (Below m.heap.size m b6):=⟨k.os,k.tape,k.output,k.size,k.block⟩;clear k)
  all_goals
   go_wp2_with fail;go_meet;exact⟨rfl,rfl,F.o⟩
 case rest=>
  obtain⟨rfl,rfl,k⟩:=hcut;obtain⟨b2,b3,b4⟩:=a6.o wc k;have F:=Aa k;have a7:=Aa b4;clear k b4 V W X Y;obtain⟨V,-,W,-⟩:=b3.cells;obtain⟨X,Y⟩:=b2.cells;clear b2 b3 a6 S;go_upto_region 7 with fail
  go_cut [10,11] (fun c4 c5 l=>c4=B_ H/\c5=J_ e/\Below m.heap.size m l)
  case first=>
   go_region_law (go_simp;go_at_call 113;refine a7.o.mono ?_;rintro n b6 ⟨rfl,k⟩;have G:=Aa (F.o.trans (k.mono F.o.size));clear k)
   all_goals
    go_wp2_with fail;go_meet;exact⟨rfl,rfl,G.o⟩
  case rest=>
   obtain⟨rfl,rfl,b5⟩:=hcut;have G:=Aa b5;clear b5 V W X Y a7 F;go_wp2_with (go_at_call 96;refine(BJ _ _).mono ?_;rintro n o ⟨rfl,rfl⟩);go_ret;exact⟨StQ.of_below R.o (p.o.trans (G.o.mono p.o.size)),(R.o.below (p.o.trans (G.o.mono p.o.size))).cell.1,fun J c6=>(p.o.trans (G.o.mono p.o.size)).block J (R.o.trs.lt J (yN _ c6))⟩
theorem HW(h:LW a b c i f d w)(I:b<=90000000)(J:c<=900000)(k:Nat×hF)(q:k∈d)(r:Int)(l m:hJ)(s t u y z:Value)(A:Int)(B C:hJ)(D:Value):
  Calls Tryz.prog 54 #[A_ a,A_ k.1,.agg #[J_ 10,J_ r,B_ l,B_ m,s,t,u,y,z,J_ A,B_ B,B_ C,D]] w (fun p j=>StQ a b c i w p j/\j.cell? (Q_ a 0)=some f/\∀g∈blk f,j.heap[g]?=w.heap[g]?):=by
 have j:Below w.heap.size w (w.alloc (C_ #[J_ 10,J_ r,B_ l,B_ m,s,t,u,y,z,J_ A,B_ B,B_ C,D] 81)):=(xA _ w).alloc X_ _;have n:=Aa h;have o:=Aa j;have F:=Aa (AU (h.below j) I J k q l m);clear h j q;go_enter cC,cG;go_wp2_with fail;refine F.o.mono ?_;rintro p H j;have G:=Aa (And.intro (StQ.box n.o o.o (StQ.of_scan j)) (And.intro j.lw.cell.1 (show ∀g∈blk f,H.heap[g]?=w.heap[g]? from fun g q=>(j.row g q).trans (o.o.block g (n.o.trs.lt g (yN _ q))))));obtain rfl:=j.ret;clear j;go_wp2_with fail;go_ret;exact G.o
