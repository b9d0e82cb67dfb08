import Derived.Test.YtolgpnaoaodepaaGreatScaQm
set_option maxHeartbeats 1000000
set_option maxRecDepth 4000
namespace Go.Proofs.YtolgpnaoaodepaaGreat
open Go.RowKit Ld Tr
variable {w a wr:World}{b:Nat}{v:Value}{s:hJ}{t:gZ}
theorem Ac3{e:TypeId}{c u:Nat}{y:hH}(h:w.ownsRow 0 e c v u y)(n:∀a,v.ownBlock=some a->b<=a):w.ownsRow b e c v u y:=by
 rcases h.2 with⟨rfl,d⟩|⟨a,f,g,rfl,_,i,j,k,l,m⟩
 ·exact⟨h.1,.inl ⟨rfl,d⟩⟩
 ·exact⟨h.1,.inr ⟨a,f,g,rfl,n a rfl,i,j,k,l,m⟩⟩
theorem Mod.below{z:Nat->Prop}{B:Nat}(h:Mod z w a)(f:B<=w.heap.size)(d:∀b,z b->B<=b):Below B w a:=⟨h.os,h.tape,h.output,h.size,fun b c=>h.block b O_ (fun c=>by have:=d b c;omega)⟩
theorem Xi{A:Array Value}{B:TypeId}(h:w.heap[b]?=some (.cells A B (0,0)))(a:Nat):w.cell? (Q_ b a)=A[a]?:=by unfold World.cell?;simp[h]
def Nr(x:ByteArray×ByteArray):Int×ByteArray×ByteArray:=(1,x.1,x.2)
structure CfM(w:World)(fr:hJ)(v:Value)(ml:gZ)(wr:World):Prop where
 row:Bb 0 wr v ml
 new:∀g,v.ownBlock=some g->w.heap.size<=g
 box:wr.heap[w.heap.size]?=some (C_ #[B_ fr] 9 (0,0))
 bel:Below w.heap.size w wr
theorem CfM.ne(h:CfM w s v t wr):v.ownBlock≠some w.heap.size:=fun e=>by
 rcases h.row.2 with⟨rfl,_⟩|⟨b,c,d,rfl,f,a,_⟩
 ·simp[Value.ownBlock]at e
 ·have:b=w.heap.size:=by simpa[Value.ownBlock]using e
  rw[this,h.box]at a;simp at a
theorem CfM.grown{d:Value}{C:gZ}(h:CfM w s v t wr)(i:Bb 0 a d C)(f:Mod (fun b=>v.ownBlock=some b) wr a)(j:d.ownBlock=v.ownBlock\/∃b,wr.heap.size<=b/\d.ownBlock=some b):CfM w s d C a:=by
 refine⟨i,fun g c=> ?_,?_,h.bel.trans (f.below h.bel.size h.new)⟩
 ·rcases j with e|⟨b,k,e⟩
  ·rw[e]at c;exact h.new g c
  ·rw[e]at c;have:=xM c;have:=h.bel.size;omega
 ·have c:w.heap.size<wr.heap.size:=(xS.1 h.box).1;exact(f.block _ c h.ne).trans h.box
theorem CfM.below(h:CfM w s v t wr)(b:Below wr.heap.size wr a):CfM w s v t a:=by have c:w.heap.size<wr.heap.size:=(xS.1 h.box).1;exact⟨Ae h.row b X_,h.new,(b.block _ c).trans h.box,h.bel.trans (b.mono h.bel.size)⟩
theorem BF(m:Nat)(l H c4:Value)(a:gY)(b:gZ)(c:hJ)(w:World)(t:Ax w m l H c4)(I:Ap 0 w l a)(J:Bb 0 w c4 b)(f3:a.length+b.length<=19):
  Calls Tryz.prog 187 #[A_ m,B_ c] w fun G c2=>∃v c3,G=R_ v/\Bb w.heap.size c2 v c3/\Scd c.data.toList (Ac (a.map Nr++b)) (Ac c3)/\Below w.heap.size w c2:=by
 obtain⟨Y,Z,rfl⟩:=Ad I;obtain⟨o,p,rfl⟩:=Ad J;have u:Below w.heap.size w (w.alloc (C_ #[B_ c] 9)):=(xA _ w).alloc X_ _;have c5:Hid (CfM w c Z_ [] (w.alloc (C_ #[B_ c] 9))):=⟨yP _ _ _ _,fun a3 F=>by simp[Value.ownBlock]at F,xK _ _,u⟩;have L:=Aa t;have c6:=Aa I;have c7:=Aa J;have M:Ax (w.alloc (C_ #[B_ c] 9)) m (L_ Y a.length Z) H (L_ o b.length p):=(u.block m t.lt).trans t;obtain⟨a0,a1,a2,-⟩:=M.cells;clear t I J u M;go_in;go_wp2_with fail
 go_loopw [5,13] (fun d9 l wr=>∃d:Nat,l=J_ (d:Nat)/\d<=a.length/\CfM w c d9 ((a.take d).map Nr) wr) (fun _ l _=>a.length-(intOf l).toNat)
 case atStart=>exact⟨0,rfl,Y_,c5.o⟩
 case round=>
  obtain⟨d,rfl,e9,f⟩:=hrel;have n:=Aa f;have e3:=f.bel.size;clear f a0 a1 a2;by_cases s:d<a.length
  ·obtain⟨a3,f0,e,f1,-,F,a4,a5⟩:=c6.o.at d s;simp only[xJ]at e;obtain⟨rfl,-,rfl⟩:=e;have y:=fun e0=>n.o.bel.cell (p:=(Q_ a3 e0)) F
   have e4:=(y _).trans a4;have e5:=(y _).trans a5;have c8:Hid ((a.take (d+1)).map Nr=(a.take d).map Nr++[Nr (a[d]'s)]):=(by show _=_;rw[zN,xW s,yX];rfl);clear y a4 a5;generalize a[d]'s=e2 at*;obtain⟨g,i⟩:=e2;have N:Below wr.heap.size wr (wr.alloc (C_ #[B_ g,B_ i] 51)):=(xA _ wr).alloc X_ _;have z:=Aa (n.o.below N);have A:(wr.alloc (C_ #[B_ g,B_ i] 51)).heap[wr.heap.size]?=some (C_ #[B_ g,B_ i] 51 (0,0)):=xK _ _;have e6:(wr.alloc (C_ #[B_ g,B_ i] 51)).cell? (Q_ wr.heap.size 0)=some (B_ g):=Xi A 0;have e7:(wr.alloc (C_ #[B_ g,B_ i] 51)).cell? (Q_ wr.heap.size 1)=some (B_ i):=Xi A 1;have e8:((a.take d).map Nr).length<=19:=(by rw[xP,xR];omega);clear N A;go_wp2_with (at_builtin;refine Ix (wr.alloc (C_ #[B_ g,B_ i] 51)) rfl (.tmp 17) (.tmp 23) 77 34 kX _ 3 40 Em rfl Do Do rfl 0 u5 _ _ rfl z.o.row [J_ 1,B_ g,B_ i] rfl (by intro f2 b8;simp at b8;rcases b8 with rfl|rfl|rfl<;>rfl) U_ O_ Y_ ?_;intro d7 d8 b9 c0 c1)
   have c9:Hid (CfM w c d7 ((a.take (d+1)).map Nr) d8):=(by refine z.o.grown ?_ (Mod.of_grown c0) c1;rw[c8.o];unfold Bb;rw[xC,Qf];exact b9);clear b9 c0 c1 z;go_wp2_with fail;exact⟨⟨d+1,W_,O_,c9.o⟩,by simp[intOf];omega⟩
  ·have d0:d=a.length:=O_;subst d0;rw[zQ]at n;have f:=n.o;obtain⟨d4,d5,rfl⟩:=Ad f.row;have O:Ax wr m (L_ Y a.length Z) H (L_ o b.length p):=(f.bel.block m L.o.lt).trans L.o;have R:Bb 0 wr (L_ o b.length p) b:=Ae c7.o f.bel X_;obtain⟨a6,q,a7,a8,a9,b0⟩:=Sd wr 77 77 34 kX _ 3 40 Em rfl Do Do (L_ d4 (a.map Nr).length d5) (L_ o b.length p) (a.map Nr).length b.length (Cd (a.map Nr)) (Cd b) f.row R (Uq b) K_;have k:CfM w c a6 (a.map Nr++b) q:=by
    refine f.grown ?_ (Mod.of_grown a9) (b0.imp id fun e1=>⟨_,X_,e1⟩);unfold Bb;rw[xC,show Cd (a.map Nr++b)=Cd (a.map Nr)++Cd b by unfold Cd;simp];exact a8
   have S:=Aa a7;obtain⟨a0,a1,a2,-⟩:=O.cells;have T:w.heap.size<q.heap.size:=(xS.1 k.box).1;have U:q.cell? (Q_ w.heap.size 0)=some (B_ c):=(by simp[World.cell?,k.box]);have B:=Aa (FL a6 (a.map Nr++b) c w.heap.size q k.row K_ U T k.ne);have d1:Hid (FI w.heap.size=.func (.func 238) #[] #[A_ w.heap.size]):=rfl;rw[d1.o]at B;have d2:=Aa k;clear f O R a7 a8 a9 b0 k U T;rw[xP]at S⊢;go_wp2_with (at_builtin;refine vO wr rfl (.tmp 26) (.tmp 30) 77 77 rfl _ _ rfl rfl _ _ S.o ?_);refine B.o.mono ?_;rintro G d6 ⟨b1,rfl,b2,b3,b4⟩;have C:=d2.o.grown b2 b4 (.inl b3);have V:((a.map Nr++b).filter fun j=> !Hd c j).length<=19:=xI (kU _ _) K_;have W:=Aa (FM b1 _ d6 C.row V);have X:=Aa C;clear b2 b3 b4 C B V;go_wp2_with fail;refine W.o.mono ?_;rintro G b5 ⟨rfl,b6,r,b7⟩;have d3:Hid (Bb w.heap.size b5 b1 b6/\Scd c.data.toList (Ac (a.map Nr++b)) (Ac b6)/\Below w.heap.size w b5):=(by have D:=X.o.grown r.row r.mod (.inl rfl);refine⟨Ac3 D.row D.new,Stb.scd ?_ b7,D.bel⟩;have:=r.stb;rw[show Ac ((a.map Nr++b).filter fun j=> !Hd c j)=(Ac (a.map Nr++b)).filter fun j=> !decide (j.2.1<c.data.toList)from Kn (a.map Nr++b) (fun j=> !decide (j.2.1<c.data.toList))]at this;exact this);clear r b7 W X;go_wp2_with fail;go_ret;exact⟨_,_,rfl,d3.o⟩
namespace Ld
def Xj(P:List (Option Nd)):Prop:=∃(H:Nat) (f:PT H),Dz P H [] [] f/\num H f=0/\(nums H f).Nodup/\∀n,n<P.length->n∈nums H f
theorem Lev.pages{P:List (Option Nd)}:∀{c:List Tk} {d:hF} {a:List Nd},Lev P d c a->∀b∈a,∃f:Nat,P[f]?=some (some b)
 | t::c,d,f::_,h,b,a=>by
  rcases xG.1 a with rfl|a
  ·exact⟨_,h.1.2.1⟩
  ·exact h.2.pages b a
 | [],_,[],_,_,a=>by cases a
 | [],_,_::_,h,_,_=>h.elim
 | _::_,_,[],h,_,_=>h.elim
theorem JK:∀{d:List Tk} {a:List Nd} {b:Tk},b∈below d a->∃c∈a,b.1∈kds c
 | x::d,c::a,b,h=>by
  rcases xE.1 h with h|h
  ·refine⟨c,xU ..,?_⟩;unfold Fv at h;obtain⟨d,f,rfl⟩:=jK h;rw[List.getElem_zipWith];exact yA _
  ·obtain⟨a,b,c⟩:=JK h;exact⟨a,xZ _ b,c⟩
 | [],_,_,h=>by cases h
 | _::_,[],_,h=>by cases h
theorem JL:∀{ts:List Tk} {b:List Nd},(∀a∈b,okN a)->(below ts b).length<=4*ts.length
 | x::ts,a::b,h=>by
  have f:=JL (ts:=ts) (fun c d=>h c (xZ _ d));have d:=Wp (h a (xU ..)) x.2.1 x.2.2;have g:(kds a).length<=4:=by
   rcases h a (xU ..)with⟨_,c,_⟩|⟨_,_,_,c,_⟩
   ·rw[c];simp
   ·exact c
  show(Fv a x.2.1 x.2.2++below ts b).length<=_;rw[xC,xH];omega
 | [],_,_=>by simp[below]
 | _::_,[],_=>by simp[below]
theorem Lm:∀{L:Nat} {b:hF},b.Nodup->(∀c∈b,c<L)->b.length<=L
 | 0,b,_,hl=>by
  cases b with
  | nil=>simp
  | cons a r=>exact absurd (hl a (xU ..)) O_
 | L+1,b,h,hl=>by
  have b:=Lm (L:=L) (h.erase L) (fun c d=>by have f:=hl c (List.mem_of_mem_erase d);have c:=(h.mem_erase_iff.1 d).1;omega);rw[List.length_erase]at b;split at b<;>omega
end Ld
variable {a l q r:World}{K:List (Nat×Obj)}{d g v m:Value}{n:hD}{p:hF}{f:List TkM}{b c:Nat}{i:List Nd}{j:List (List TkM)}{Fs:List hF}
structure LoM(w0:World)(K:List (Nat×Obj))(vim vre:Value)(iml:hD)(rd:hF)(v:Value)(tl:List TkM)(d p:Nat)(W:World):Prop where
 ld:LdM vim vre iml (Iy iml.length rd) W
 row:No 0 W v tl
 nods:∀x∈tl,Ax W x.2.1 Z_ Z_ Z_
 dist:(tl.map (·.2.1)).Nodup
 low:(∀g,vre.ownBlock=some g->w0.heap.size<=g)/\∀x∈tl,w0.heap.size<=x.2.1
 nums:∀x∈tl,x.1<=2147483647
 rdn:rd.Nodup/\∀n∈rd,n<iml.length
 len:tl.length<=4*iml.length+1
 ne:tl≠[]
 kept:∀x∈K,x.1<W.heap.size/\vre.ownBlock≠some x.1/\x.1∉tl.map (·.2.1)/\W.heap[x.1]?=some x.2
 compl:∀(H:Nat) (f:PT H),Dz (Au iml) H [] [] f->Ld.num H f=0->(Ld.nums H f).Nodup->∃(h:Nat) (fs:List (PT h)),H=h+d/\FF (Dz (Au iml) h) (Ld.num h) (tl.map tkP) fs/\(Ld.nums H f).Perm (rd++Co h fs)
 sound:∃G:hF,G.Nodup/\(∀g∈G,g<W.heap.size/\vre.ownBlock≠some g/\g∉tl.map (·.2.1)/\w0.heap.size<=g/\g∉K.map (·.1))/\
  ∀(h:Nat) (W':World) (fs:List (PT h)) (Gs:List hF),FF (Dz (Au iml) h) (Ld.num h) (tl.map tkP) fs->Xb (Au iml) h W' tl fs Gs->(G++Gs.flatten).Nodup->(∀g∈G,W'.heap[g]?=W.heap[g]?)->
   ∃(H:Nat) (f:PT H) (F:hF),H=h+d/\Dz (Au iml) H [] [] f/\Ld.num H f=0/\(Ld.nums H f).Perm (rd++Co h fs)/\Rep H W' p (Ld.tr (Au iml) H [] [] f) F/\F.Nodup/\∀g∈F,g∈G\/g∈Gs.flatten
 bel:Below w0.heap.size w0 W
theorem LoM.give(h:LoM a K d g n p v f b c l)(s:∀i,Lev (Au n) p (f.map tkP) i->¬OJ i):¬Xj (Au n):=by
 rintro⟨u,y,z,B,r,-⟩;obtain⟨o,D,rfl,q,t⟩:=h.compl u y z B r;have j:=t.nodup r
 cases o with
 | zero=>
  obtain⟨i,k,m,-⟩:=Wq q j;exact s i k (.inl m)
 | succ o=>
  obtain⟨i,F,k,m,-⟩:=Wr q j;exact s i k (.inr fun C j e=>by rw[m C j]at e;exact absurd e Do)
theorem Fld.apart(h:Fld b a f i j Fs):∀c∈Fs.flatten,c<a.heap.size/\(b<=c\/c∈f.map (·.2.1)):=fun c l=>by obtain⟨x,d,m,n,o,g,k⟩:=h.all c l;have:=g.lt c k;exact⟨this.1,this.2.imp id fun e=>xL.2 ⟨x,d,e.symm⟩⟩
theorem Fld.fresh(h:Fld b a f i j Fs)(n:Ax a c d g m)(t:c∉f.map (·.2.1)):c∉Fs.flatten:=fun l=>by
 obtain⟨x,o,u,y,z,p,k⟩:=h.all c l;obtain⟨A,g,B,C,D,F,q,r,s,-,-,-,-,-,rfl⟩:=p;rcases xG.1 k with e|k
 ·exact t (xL.2 ⟨x,o,e.symm⟩)
 rcases xE.1 k with l|k
 ·exact Bg n q Do (Aj.1 l)
 rcases xE.1 k with l|l
 ·exact Bg n r Do (Aj.1 l)
 ·exact Bg n s Do (Aj.1 l)
theorem ZB{F:Nd}(h:okN F)(b:F.1=2)(c d:Tr.Key):1<=(Fv F c d).length:=by
 rw[Wp h];rcases h with⟨e,_⟩|⟨_,_,a,_⟩
 ·rw[b]at e;exact absurd e Do
 ·exact a
theorem LoM.same{D:hF}{u:Nat}(h:LoM l K d g n p v f b c q)(s:Below q.heap.size q r)(C:RlM r d g n p D v f u i j Fs m a):(∀k,k<q.heap.size->g.ownBlock≠some k->k∉f.map (·.2.1)->a.heap[k]?=q.heap[k]?)/\Below l.heap.size l a:=by
 have A:∀k,k∈(f.take u).map (·.2.1)->k∈f.map (·.2.1):=fun k o=>by obtain⟨t,y,e⟩:=xL.1 o;exact xL.2 ⟨t,vU y,e⟩
 refine⟨fun k B F G=>(C.mod.block k (yF B s.size) (fun o=>o.elim F fun o=>G (A k o))).trans (s.block k B),?_⟩;have B:=C.mod.below (B:=l.heap.size) (xI h.bel.size s.size) (fun k o=>by
  rcases o with o|o
  ·exact h.low.1 k o
  ·obtain⟨t,y,rfl⟩:=xL.1 (A k o);exact h.low.2 t y)
 exact(h.bel.trans (s.mono h.bel.size)).trans B
theorem LoM.step(h:LoM a K d g n p v f b c l)(z:Below l.heap.size l q)(o:RlM q d g n p (p++f.map (·.1)) v f f.length i j Fs m r)(a2:∀I∈i,I.1=2):LoM a K d g n (p++f.map (·.1)) m j.flatten (b+1) c r:=by
 obtain⟨a5,c6⟩:=h.same z o;have G:=o.lev;have L:=o.fld;rw[zQ]at G L;have f4:q.heap.size<=r.heap.size:=o.mod.size;have c2:=Dd n;have a3:∀s∈i,okN s:=fun s H=>by obtain⟨I,e⟩:=G.pages s H;exact c2 I s e
 have J:=L.below;have V:(f.map tkP).map (·.1)=f.map (·.1):=by rw[zW];rfl
 have W:(p++f.map (·.1)).Nodup/\∀I∈p++f.map (·.1),I<n.length:=by
  constructor
  ·have:=G.nd h.rdn.1;rwa [V]at this
  ·intro I H;rcases xE.1 H with k|k
   ·exact h.rdn.2 I k
   ·obtain⟨x,y,rfl⟩:=xL.1 k;have:=G.lt (tkP x) (xL.2 ⟨x,y,rfl⟩);unfold Au at this;rw[xP]at this;exact this
 have f5:f.length<=n.length:=by have:=Lm W.1 W.2;rw[xC,xP]at this;omega
 have a4:i≠[]:=fun e=>by have:=G.len;rw[e,xP]at this;exact h.ne (zT this)
 have c3:∀B∈j.flatten,B.2.1∉f.map (·.2.1):=fun B D k=>by obtain⟨x,y,e⟩:=xL.1 k;have O:=(o.nods B D).2;have R:=o.low.2.2 x y;omega
 obtain⟨c7,c8,S,c9⟩:=h.sound;refine⟨o.ld,Bi o.row Y_,fun x y=>(o.nods x y).1,o.dist,⟨h.low.1,fun x y=>xI (xI h.bel.size z.size) (o.nods x y).2⟩,?_,W,?_,?_,?_,?_,?_,c6⟩
 ·intro x y;have c4:tkP x∈below (f.map tkP) i:=by rw[<-J];exact xL.2 ⟨x,y,rfl⟩
  obtain⟨s,H,d0⟩:=JK c4;obtain⟨I,e⟩:=G.pages s H;exact(Qm e).2 _ d0
 ·have O:=JL (ts:=f.map tkP) a3;rw[<-J,xP,xP]at O;omega
 ·intro e;rw[e]at J;obtain⟨x,a6,rfl⟩:=vF h.ne;obtain⟨s,T,rfl⟩:=vF a4;have O:=ZB (a3 s (xU ..)) (a2 s (xU ..)) x.2.2.1.data.toList x.2.2.2.data.toList;have R:below ((x::a6).map tkP) (s::T)=Fv s x.2.2.1.data.toList x.2.2.2.data.toList++below (a6.map tkP) T:=rfl;rw[R]at J;have:=yW List.length J;simp only[vH,yU,xC]at this;omega
 ·intro x y;obtain⟨a7,a8,Y,d1⟩:=h.kept x y;refine⟨by have:=z.size;omega,a8,fun k=> ?_,(a5 x.1 a7 a8 Y).trans d1⟩;obtain⟨B,D,e⟩:=xL.1 k;have O:=(o.nods B D).2;have R:=z.size;omega
 ·intro a0 a1 f1 f2 b7;obtain⟨U,d2,e,a9,b0⟩:=h.compl a0 a1 f1 f2 b7;have H:=b0.nodup b7
  cases U with
  | zero=>
   obtain⟨T,Z,d3,-⟩:=Wq a9 H;obtain rfl:=Z.uniq G;obtain⟨s,T,rfl⟩:=vF a4;have C:=d3 s (xU ..);rw[a2 s (xU ..)]at C;exact absurd C Do
  | succ U=>
   obtain⟨T,d4,Z,-,d5,b1⟩:=Wr a9 H;obtain rfl:=Z.uniq G;refine⟨U,d4,O_,by rw[J];exact d5,?_⟩;rw[V]at b1;rw[xT];exact b0.trans (wW _ b1)
 ·refine⟨c7++Fs.flatten,?_,?_,?_⟩
  ·rw[xO];refine⟨c8,o.nd,fun C M N t e=> ?_⟩;subst e;obtain⟨d6,-,b2,-⟩:=S C M;rcases(L.apart C t).2 with u|u
   ·have:=z.size;omega
   ·exact b2 u
  ·intro t F;rcases xE.1 F with k|k
   ·obtain⟨d6,d7,b2,d8,d9⟩:=S t k;refine⟨by have:=z.size;omega,d7,fun u=> ?_,d8,d9⟩;obtain⟨B,D,e⟩:=xL.1 u;have O:=(o.nods B D).2;have R:=z.size;omega
   ·obtain⟨x,y,s,f6,b3,b4,b5⟩:=L.all t k;have X:=b4.lt t b5;refine⟨X.1,b4.apart o.ld.re Do Do Do Do t b5,fun u=> ?_,?_,fun u=> ?_⟩
    ·obtain⟨B,D,e⟩:=xL.1 u;exact L.fresh (o.nods B D).1 (c3 B D) (by rw[e];exact k)
    ·rcases X.2 with u|u
     ·exact xI (xI h.bel.size z.size) u
     ·rw[u];exact h.low.2 x y
    ·obtain⟨B,D,e⟩:=xL.1 u;obtain⟨a7,-,Y,-⟩:=h.kept B D;rcases X.2 with u|u
     ·have R:=z.size;omega
     ·exact Y (xL.2 ⟨x,y,by rw[e,u]⟩)
  ·intro U b8 d2 Gs b9 f3 c0 c1;rw[xO,xO]at c0;obtain⟨⟨e0,e1,e2⟩,e3,b6⟩:=c0;have c5:=L.keep (W':=b8) fun t F=>c1 t (yE _ F)
   rw[J]at b9;obtain⟨e4,Hs,u1,u2,u3,u4,u5⟩:=Ac0 G a2 c5 b9 f3 (xO.2 ⟨e1,e3,fun C M N z=>b6 C (yE _ M) N z⟩);obtain⟨a0,a1,b3,e,e5,e6,e7,e8,e9,f0⟩:=c9 (U+1) b8 e4 Hs u1 u3 (xO.2 ⟨e0,u4,fun C M N z=>by
     rcases u5 N z with k|k
     ·exact e2 C M N k
     ·exact b6 C (yN _ M) N k⟩) (fun t F=>(c1 t (yN _ F)).trans (a5 t (S t F).1 (S t F).2.1 (S t F).2.2.1))
   refine⟨a0,a1,b3,O_,e5,e6,?_,e8,e9,fun t F=> ?_⟩
   ·rw[V]at u2;rw[xT];exact e7.trans (wW _ u2)
   ·rcases f0 t F with k|k
    ·exact .inl (yN _ k)
    ·exact(u5 t k).imp (fun k=>yE _ k) id
structure LoD(w0:World)(K:List (Nat×Obj))(vim vre:Value)(iml:hD)(rd:hF)(d p:Nat)(W:World):Prop where
 ld:LdM vim vre iml (Iy iml.length rd) W
 rdn:rd.Nodup/\∀n∈rd,n<iml.length
 kept:∀x∈K,x.1<W.heap.size/\vre.ownBlock≠some x.1/\W.heap[x.1]?=some x.2
 compl:∀(H:Nat) (f:PT H),Dz (Au iml) H [] [] f->Ld.num H f=0->(Ld.nums H f).Nodup->(Ld.nums H f).Perm rd
 fin:∃(H:Nat) (f:PT H) (F:hF),H+1=d/\Dz (Au iml) H [] [] f/\Ld.num H f=0/\(Ld.nums H f).Perm rd/\Rep H W p (Ld.tr (Au iml) H [] [] f) F/\F.Nodup/\∀g∈F,g<W.heap.size/\vre.ownBlock≠some g/\w0.heap.size<=g/\g∉K.map (·.1)
 bel:Below w0.heap.size w0 W
theorem Xk:∀{ts:List Tk} {b:List Nd},(∀a∈b,okN a)->(∀a∈b,a.1=1)->below ts b=[]
 | x::ts,a::b,h,h1=>by
  have f:=Xk (ts:=ts) (fun c d=>h c (xZ _ d)) (fun c d=>h1 c (xZ _ d));have d:kds a=[]:=by
   rcases h a (xU ..)with⟨_,c,_⟩|⟨c,_⟩
   ·exact c
   ·rw[h1 a (xU ..)]at c;exact absurd c Do
  show Fv a x.2.1 x.2.2++below ts b=[];rw[f];unfold Fv;rw[d];simp
 | [],_,_,_=>by simp[below]
 | _::_,[],_,_=>by simp[below]
theorem LoM.last(h:LoM a K d g n p v f b c l)(F:Below l.heap.size l q)(A:RlM q d g n p (p++f.map (·.1)) v f f.length i j Fs m r)(S:∀y∈i,y.1=1):LoD a K d g n (p++f.map (·.1)) (b+1) c r/\j.flatten=[]:=by
 obtain⟨V,b4⟩:=h.same F A;have u:=A.lev;have H:=A.fld;rw[zQ]at u H;have d4:q.heap.size<=r.heap.size:=A.mod.size;have a9:=Dd n;have b0:∀t∈i,okN t:=fun t B=>by obtain⟨y,e⟩:=u.pages t B;exact a9 y t e
 have T:=H.below;have L:(f.map tkP).map (·.1)=f.map (·.1):=by rw[zW];rfl
 have b1:(p++f.map (·.1)).Nodup/\∀y∈p++f.map (·.1),y<n.length:=by
  constructor
  ·have:=u.nd h.rdn.1;rwa [L]at this
  ·intro y B;rcases xE.1 B with s|s
   ·exact h.rdn.2 y s
   ·obtain⟨x,z,rfl⟩:=xL.1 s;have:=u.lt (tkP x) (xL.2 ⟨x,z,rfl⟩);unfold Au at this;rw[xP]at this;exact this
 have b2:i≠[]:=fun e=>by have:=u.len;rw[e,xP]at this;exact h.ne (zT this)
 obtain⟨W,b5,D,b6⟩:=h.sound;have d5:=F.size;have U:∀k∈Fs.flatten,k<r.heap.size/\g.ownBlock≠some k/\a.heap.size<=k/\k∉K.map (·.1)/\k∉W:=fun k s=>by
  obtain⟨x,z,t,d6,X,Y,Z⟩:=H.all k s;have I:=Y.lt k Z;refine⟨I.1,Y.apart A.ld.re Do Do Do Do k Z,?_,fun o=> ?_,fun o=> ?_⟩
  ·rcases I.2 with o|o
   ·exact xI (xI h.bel.size F.size) o
   ·rw[o];exact h.low.2 x z
  ·obtain⟨b7,b8,e⟩:=xL.1 o;obtain⟨a0,-,M,-⟩:=h.kept b7 b8;rcases I.2 with o|o
   ·omega
   ·exact M (xL.2 ⟨x,z,by rw[e,o]⟩)
  ·obtain⟨N,-,J,-⟩:=D k o;rcases I.2 with o|o
   ·omega
   ·exact J (xL.2 ⟨x,z,o.symm⟩)
 obtain⟨b9,Hs,u1,u2,u3,u4,u5⟩:=FC u S H A.nd;rw[L]at u2;have b3:(W++Hs.flatten).Nodup:=by rw[xO];refine⟨b5,u4,fun C G O F e=> ?_⟩;subst e;exact(U C (u5 C F)).2.2.2.2 G
 obtain⟨c0,c1,X,e,c2,c3,a1,c4,c5,c6⟩:=b6 0 r b9 Hs u1 u3 b3 (fun k G=>V k (D k G).1 (D k G).2.1 (D k G).2.2.1);refine⟨⟨A.ld,b1,?_,?_,?_,b4⟩,?_⟩
 ·intro x z;obtain⟨a0,a2,M,c7⟩:=h.kept x z;exact⟨O_,a2,(V x.1 a0 a2 M).trans c7⟩
 ·intro d0 d1 d2 d3 a8;obtain⟨a3,d7,d8,a4,O⟩:=h.compl d0 d1 d2 d3 a8;have B:=O.nodup a8
  cases a3 with
  | zero=>
   obtain⟨a5,a6,a7,c8⟩:=Wq a4 B;rw[c8,L]at O;exact O
  | succ a3=>
   obtain⟨a5,d9,a6,a7,-⟩:=Wr a4 B;obtain rfl:=a6.uniq u;obtain⟨t,a5,rfl⟩:=vF b2;have C:=a7 t (xU ..);rw[S t (xU ..)]at C;exact absurd C Do
 ·refine⟨c0,c1,X,O_,c2,c3,by rw[u2]at a1;exact a1,c4,c5,fun k G=> ?_⟩;rcases c6 k G with s|s
  ·obtain⟨N,G,J,R,c9⟩:=D k s;exact⟨O_,G,R,c9⟩
  ·obtain⟨N,G,J,R,-⟩:=U k (u5 k s);exact⟨N,G,J,R⟩
 ·rw[Xk b0 S]at T;exact bI.1 T
theorem UC(v:Value)(b:List Bool)(w:World)(h:w.ownsRow 0 4 1 v b.length (b.map .bool))(I:b.length<=1000000000):
  Calls Tryz.prog 137 #[v,.bool false] w fun n y=>Below w.heap.size w y/\((n=R_ (J_ (-1))/\false∉b)\/∃a:Nat,n=R_ (J_ (a:Nat))/\a<=1000000000/\false∈b):=by
 have o:=Aa h;obtain⟨C,D,rfl⟩:=Ad h;clear h;go_in;go_wp2_with fail
 go_loopw [8] (fun i wr=>∃a:Nat,i=J_ (a:Nat)/\a<=b.length/\false∉b.take a/\Below w.heap.size w wr) (fun i _=>b.length-(intOf i).toNat)
 case atStart=>exact⟨0,rfl,Y_,D_,xA _ _⟩
 case round=>
  obtain⟨a,rfl,F,k,l⟩:=hrel;have j:=Aa k;have d:=Aa l;clear k l;by_cases c:a<b.length
  ·obtain⟨t,G,e,H,u,m,-⟩:=BP o.o a c;simp only[xJ]at e;obtain⟨rfl,-,rfl⟩:=e;have z:=(d.o.cell (p:=(Q_ t a)) u).trans m;have p:Hid (b.take (a+1)=b.take a++[b[a]'c]):=by
    show _=_;rw[zN,xW c];rfl
   have q:=Aa (yA c);have A:(0:Int)<=(a:Int):=O_;have B:(a:Int)<(b.length:Int):=O_;clear m;generalize b[a]'c=x at*
   cases x with
   | false=>
    go_wp2_with fail;go_ret;exact⟨d.o,.inr ⟨a,rfl,O_,q.o⟩⟩
   | true=>
    have r:Hid (false∉b.take (a+1)):=fun f=>by
     rw[p.o]at f;rcases xE.1 f with g|g
     ·exact j.o g
     ·simp at g
    go_wp2_with fail;exact⟨⟨a+1,W_,O_,r.o,d.o⟩,by simp[intOf];omega⟩
  ·have s:Hid (false∉b):=fun f=>by
    have:=j.o;rw[yY O_]at this;exact this f
   go_wp2_with fail;go_ret;exact⟨d.o,.inl ⟨rfl,s.o⟩⟩
theorem HP(v:Value)(a:List Bool)(w:World)(h:w.ownsRow 0 4 1 v a.length (a.map .bool))(k:a.length<=1000000000):
  Calls Tryz.prog 74 #[v,.bool false] w fun g b=>Below w.heap.size w b/\((g=R_ (.bool false)/\false∉a)\/(g=R_ (.bool true)/\false∈a)):=by
 have i:=Aa (UC v a w h k);obtain⟨l,m,rfl⟩:=Ad h;clear h;go_in;go_wp2_with fail;refine i.o.mono ?_;rintro g n ⟨c,⟨rfl,b⟩|⟨j,rfl,o,b⟩⟩
 ·have d:=Aa c;have f:=Aa b;clear c b;go_wp2_with fail;go_ret;exact⟨d.o,.inl ⟨rfl,f.o⟩⟩
 ·have d:=Aa c;have f:=Aa b;clear c b;have h0:(0:Int)<=(j:Int):=O_;go_wp2_with fail;go_ret;exact⟨d.o,.inr ⟨rfl,f.o⟩⟩
