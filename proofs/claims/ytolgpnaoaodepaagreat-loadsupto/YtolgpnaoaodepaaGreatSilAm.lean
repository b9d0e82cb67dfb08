import Derived.Test.YtolgpnaoaodepaaGreatScaXm
set_option maxHeartbeats 1000000
set_option maxRecDepth 20000
namespace Go.Proofs.YtolgpnaoaodepaaGreat
open Go.RowKit Ld Tr
variable {w b g:World}{x a f:Nat}{c:hF}{d:Tr.Key->Option Tr.Key}{i:hD}
def ST(w:World)(x b:Nat):Prop:=w.heap[x]?=some (C_ #[.int .i32 0,.int .u32 0,A_ b] 95 (0,0))
def SL(w:World)(x b:Nat):Prop:=w.heap[x]?=some (C_ #[.int .i32 1,.int .u32 0,A_ b] 95 (0,0))
theorem ST.lt{w:World}{x a:Nat}(h:ST w x a):x<w.heap.size:=(xS.1 h).1
theorem SL.lt{w:World}{x a:Nat}(h:SL w x a):x<w.heap.size:=(xS.1 h).1
theorem ST.cells{w:World}{x a:Nat}(h:ST w x a):w.cell? (Q_ x 0)=some (.int .i32 0)/\w.cell? (Q_ x 2)=some (A_ a)/\∀b,w.frozen? (Q_ x b)=false:=by unfold ST at h;refine⟨?_,?_,fun b=> ?_⟩<;>simp[World.cell?,World.frozen?,h]
theorem SL.cells{w:World}{x a:Nat}(h:SL w x a):w.cell? (Q_ x 0)=some (.int .i32 1)/\w.cell? (Q_ x 2)=some (A_ a)/\∀b,w.frozen? (Q_ x b)=false:=by unfold SL at h;refine⟨?_,?_,fun b=> ?_⟩<;>simp[World.cell?,World.frozen?,h]
theorem ST.lock(h:ST w x a):SL (w.setCell (Q_ x 0) (.int .i32 1)) x a:=by unfold SL;rw[Ak (i:=0) h];rfl
theorem SL.unlock(h:SL w x a):ST (w.setCell (Q_ x 0) (.int .i32 0)) x a:=by unfold ST;rw[Ak (i:=0) h];rfl
theorem SL.keep{w':World}{j:Nat->Prop}(h:SL w x a)(b:Mod j w w')(c:¬j x):SL w' x a:=(b.block x h.lt c).trans h
theorem RD{F:Nat->Prop}(h:ST w x a)(c:Mod F (w.setCell (Q_ x 0) (.int .i32 1)) b)(o:¬F x):Mod F w (b.setCell (Q_ x 0) (.int .i32 0))/\ST (b.setCell (Q_ x 0) (.int .i32 0)) x a:=by
 have d:=Mod.setCell w x 0 (.int .i32 1);have f:=Mod.setCell b x 0 (.int .i32 0);have j:SL b x a:=h.lock.keep c o;have i:=j.unlock;have k:=d.size;have l:=c.size;refine⟨⟨f.os.trans (c.os.trans d.os),f.tape.trans (c.tape.trans d.tape),f.output.trans (c.output.trans d.output),xI (xI k l) f.size,fun g m n=> ?_⟩,i⟩;by_cases e:g=x
 ·rw[e];exact i.trans h.symm
 ·exact(f.block g O_ e).trans ((c.block g O_ n).trans (d.block g m e))
theorem Vg(h:ST w x a)(i:Below (w.setCell (Q_ x 0) (.int .i32 1)).heap.size (w.setCell (Q_ x 0) (.int .i32 1)) b):Below w.heap.size w (b.setCell (Q_ x 0) (.int .i32 0)):=by obtain⟨c,-⟩:=RD (F:=fun _=>False) h (Mod.of_below i) (fun d=>d);exact⟨c.os,c.tape,c.output,c.size,fun f g=>c.block f g (fun d=>d)⟩
abbrev Ag9:Go.Conc.Locks.MuLink:={lock:=34,unlock:=35,ilock:=58,iunlock:=59,lockSlow:=120,unlockSlow:=123,disable:=116,enable:=118,acquire:=119,relMerge:=121,cas32:=117,add32:=122,tMutex:=93,tIMutex:=91,tPMutex:=126,tPIMutex:=184,tPI32:=186,tUP:=188,tNoCopy:=88,tU32:=89}
theorem Uf:Go.Conc.Locks.MuLib Tryz.prog Ag9:=
 ⟨Tryz.func34,Tryz.func35,Tryz.func58,Tryz.func59,Tryz.func116,Tryz.func118,Tryz.func119,Tryz.func121,Tryz.func117,Tryz.func122,
  Tryz.underlying91,Tryz.runUnderlying91,Tryz.sizeOf91,Tryz.isAgg91,Tryz.zeroValue91,
  Tryz.underlying93,Tryz.runUnderlying93,Tryz.sizeOf93,Tryz.isAgg93,Tryz.zeroValue93,
  Tryz.underlying126,Tryz.runUnderlying126,Tryz.sizeOf126,Tryz.isAgg126,Tryz.zeroValue126,
  Tryz.underlying184,Tryz.runUnderlying184,Tryz.sizeOf184,Tryz.isAgg184,Tryz.zeroValue184,
  Tryz.underlying186,Tryz.runUnderlying186,Tryz.sizeOf186,Tryz.isAgg186,Tryz.zeroValue186,
  Tryz.underlying188,Tryz.runUnderlying188,Tryz.sizeOf188,Tryz.isAgg188,Tryz.zeroValue188,
  Tryz.underlying88,Tryz.runUnderlying88,Tryz.sizeOf88,Tryz.isAgg88,Tryz.zeroValue88,
  Tryz.underlying21,Tryz.runUnderlying21,Tryz.sizeOf21,Tryz.isAgg21,Tryz.zeroValue21,S_⟩
open Go.MuLone
theorem ST.below(h:ST w x a)(c:Below w.heap.size w b):ST b x a:=(c.block x h.lt).trans h
theorem Ia.of_mod{k:hF}(f:Below w.heap.size w b)(i:Mod (fun a=>a∈c) b g)(j:∀a∈k,a∈c\/b.heap.size<=a):Ia c k w g:=
 ⟨(Mod.of_below (F:=fun a=>a∈c) f).trans i (fun _ _ d=>d) (fun _ _ d=>d),fun a d=>(j a d).imp id (xI f.size)⟩
theorem Ad9(w:World):
  Calls Tryz.prog 12 #[] w fun n a=>∃x b g,n=R_ (A_ x)/\ST a x b/\Eh (fun _=>none) 1 b g a/\(∀c∈x::b::g,w.heap.size<=c)/\x∉b::g/\Below w.heap.size w a:=by
 go_in;go_wp2_with fail;refine(QF w).mono ?_;rintro n a ⟨b,g,rfl,i,o,k⟩;have m:=k.size;have j:Below a.heap.size a (a.alloc (C_ #[.int .i32 0,.int .u32 0,A_ b] 95)):=(xA _ a).alloc X_ _;have p:Hid (∃d f,ST (a.alloc (C_ #[.int .i32 0,.int .u32 0,A_ b] 95)) a.heap.size d/\Eh (fun _=>none) 1 d f (a.alloc (C_ #[.int .i32 0,.int .u32 0,A_ b] 95))/\(∀c∈a.heap.size::d::f,w.heap.size<=c)/\a.heap.size∉d::f/\Below w.heap.size w (a.alloc (C_ #[.int .i32 0,.int .u32 0,A_ b] 95))):=
  ⟨b,g,xK _ _,i.keep fun c l=>j.block c (i.lt c l),fun c l=>(xG.1 l).elim (fun e=>O_) (o c),fun c=>by have:=i.lt _ c;omega,k.trans (j.mono m)⟩
 clear i o k m j;go_wp2_with fail;go_ret;obtain⟨d,f,c,i,j,k,l⟩:=p.o;exact⟨_,d,f,rfl,c,i,j,k,l⟩
def SmQ(V:Tr.Key->Option Tr.Key)(N x b:Nat)(F:hF)(k:Int)(key v:hJ)(w:World)(r:Ending)(w':World):Prop:=
 r=R_ (J_ (if Pg.Bv k key.size v.size then 0 else 1))/\ST w' x b/\∃F',Eh (if Pg.Bv k key.size v.size then fun k'=>Tr.one k' (V k') (chP k key v)else V) (N+1) b F' w'/\Ia (b::F) (b::F') w w'
theorem Eh.up(h:Eh d a f c w):Eh d (a+1) f c w:=by obtain⟨h,g,i,j,b⟩:=h;exact⟨h,g,i,xI j (kW _ (kF a)),b.tb,b.rep,b.nd,b.nb,b.root.wf,b.root.top,b.root.val,xI b.root.wt (wP 2 (kF _))⟩
theorem Ada{V':Tr.Key->Option Tr.Key}{N:Nat}{F':hF}(o:Below w.heap.size w b)(i:ST b x a)(p:Mod (fun d=>d∈a::c) (b.setCell (Q_ x 0) (.int .i32 1)) g)(j:x∉a::c)(k:Eh V' N a F' g)(l:∀d∈a::F',d∈a::c\/b.heap.size<=d):ST (g.setCell (Q_ x 0) (.int .i32 0)) x a/\Eh V' N a F' (g.setCell (Q_ x 0) (.int .i32 0))/\Ia (a::c) (a::F') w (g.setCell (Q_ x 0) (.int .i32 0)):=by
 obtain⟨m,n⟩:=RD i p j;refine⟨n,k.keep fun d f=>(Mod.setCell g x 0 (.int .i32 0)).block d (k.lt d f) fun e=> ?_,Ia.of_mod o m l⟩;rcases l d f with d|d
 ·exact j (by rw[<-e];exact d)
 ·have:=i.lt;omega
theorem ZY(k:Tr.Key->Option Tr.Key)(i x d:Nat)(f:hF)(b:Int)(c v:hJ)(w:World)(m:ST w x d)(q:Eh k i d f w)(r:x∉d::f)(X:i+1<=900000):
  Calls Tryz.prog 14 #[A_ x,.agg #[J_ b,B_ c,B_ v]] w (SmQ k i x d f b c v w):=by
 have j:Below w.heap.size w (w.alloc (C_ #[J_ b,B_ c,B_ v] 34)):=(xA _ w).alloc X_ _;have u:=Aa j;have L:=Aa m.lt;have p:=Aa r;have l:=m.below j;have n:Eh k i d f (w.alloc (C_ #[J_ b,B_ c,B_ v] 34)):=q.keep fun a g=>j.block a (q.lt a g)
 have o:ChB (w.alloc (C_ #[J_ b,B_ c,B_ v] 34)) w.heap.size b c v:=xK _ _;clear m q r j;generalize j:w.alloc (C_ #[J_ b,B_ c,B_ v] 34)=m at*;have M:=Aa j;clear j;have y:=Aa l;have z:=Aa (Mod.setCell m x 0 (.int .i32 1));have A:=Aa l.lock;have B:Hid (Eh k i d f (m.setCell (Q_ x 0) (.int .i32 1))):=n.keep fun a g=>z.o.block a (n.lt a g) fun e=>p.o (by rw[<-e];exact g)
 have q:Hid (ChB (m.setCell (Q_ x 0) (.int .i32 1)) w.heap.size b c v):=(z.o.block _ o.lt (by have:=L.o;omega)).trans o;obtain⟨D,I,j⟩:=l.cells;have t:=j 0;obtain⟨F,G,H⟩:=q.o.cells;clear l n o j;go_enter_defers Tryz.func14,Tryz.ntmps14;go_wp2_with (go_at_call 34;rw[M.o];refine(lock_free Uf (Q_ x 0) m D t).mono ?_;rintro e a1 ⟨rfl,rfl⟩);have N:Hid ((m.setCell (Q_ x 0) (.int .i32 1)).heap.size=m.heap.size):=by show _=_;simp[World.setCell]
 refine(Xa b c v _).mono ?_;rintro U l ⟨rfl,j⟩;have r:=Aa j;have s:Hid (SL l x d):=(j.block x A.o.lt).trans A.o;have O:Hid (ChB l w.heap.size b c v):=(j.block _ q.o.lt).trans q.o;have C:Hid (Eh k i d f l):=B.o.keep fun a g=>j.block a (B.o.lt a g)
 clear j F G H D I t;obtain⟨F,G,H⟩:=O.o.cells;obtain⟨T,Z,j⟩:=s.o.cells;have R:=j 0;clear j
 cases j:Pg.Bv b c.size v.size with
 | false=>
  have n:=Aa (Ada (V':=k) (N:=i+1) (F':=f) u.o y.o (Mod.of_below r.o) p.o C.o.up (fun a g=> .inl g));have t:=Aa j;clear j;go_wp2_with fail;refine wE (f:=35) (args:= #[A_ x]) D_ (by simp[go_sem]) ?_;refine(unlock_deferred Uf (Q_ x 0) .returning _ T R).mono ?_;rintro e V W ⟨rfl,rfl,rfl⟩;refine⟨_,results_tmp rfl _ _ _,?_⟩;unfold SmQ;rw[t.o];exact⟨rfl,n.o.1,f,n.o.2⟩
 | true=>
  have S:=Aa (JW k i d f b c v l.drew (C.o.keep fun _ _=>rfl) X (show Tr.Kv (chP b c v)by show Pg.Bv b c.data.toList.length v.data.toList.length=true;rw[Ah,Ah];exact j));have t:=Aa j;clear j;go_upto_region 5 with fail
  first|go_region_law (go_simp;go_at_call 37;refine S.o.mono ?_;rintro U D ⟨rfl,I,J,j⟩;have n:=Aa (Ada (V':=fun o=>Tr.one o (k o) (chP b c v)) (N:=i+1) (F':=I) u.o y.o (((Mod.of_below (F:=fun a=>a∈d::f) r.o).trans (show Mod (fun a=>a∈d::f) l D from⟨j.1.os,j.1.tape,j.1.output,j.1.size,j.1.block⟩) (fun _ _ o=>o) (fun _ _ o=>o))) p.o J (fun a g=>(j.2 a g).imp id (fun o=>by have Y:l.heap.size<=a:=o;have g:=r.o.size;rw[N.o]at g;omega)));have o:Hid (SL D x d):=(j.1.block x s.o.lt p.o).trans s.o;clear J j;obtain⟨J,a0,a⟩:=o.o.cells;have j:=a 0;clear a)|fail
  all_goals
   go_wp2_with fail;refine wE (f:=35) (args:= #[A_ x]) D_ (by simp[go_sem]) ?_;refine(unlock_deferred Uf (Q_ x 0) .returning _ J j).mono ?_;rintro e V W ⟨rfl,rfl,rfl⟩;refine⟨_,results_tmp rfl _ _ _,?_⟩;unfold SmQ;rw[t.o];exact⟨rfl,n.o.1,I,n.o.2⟩
theorem ZZ(g:Tr.Key->Option Tr.Key)(i x c:Nat)(j:hF)(k l:hJ)(w:World)(d:ST w x c)(p:Eh g i c j w)(y:x∉c::j)(N:i<=900000):
  Calls Tryz.prog 19 #[A_ x,B_ k,B_ l] w fun u o=>∃v a,u=R_ (.tuple #[v,J_ 0])/\Ap w.heap.size o v a/\Below w.heap.size w o/\Tr.Cb (Ab a)/\∀b,(¬b<k.data.toList/\Oq l.data.toList b->Ce (Ab a) b=g b)/\(¬(¬b<k.data.toList/\Oq l.data.toList b)->Ce (Ab a) b=none):=by
 have A:=Aa d;have B:=Aa y;have C:=Aa (Mod.setCell w x 0 (.int .i32 1));have m:=Aa d.lock;have D:Hid (Eh g i c j (w.setCell (Q_ x 0) (.int .i32 1))):=p.keep fun b f=>C.o.block b (p.lt b f) fun e=>B.o (by rw[<-e];exact f)
 have F:Hid ((w.setCell (Q_ x 0) (.int .i32 1)).heap.size=w.heap.size):=by show _=_;simp[World.setCell]
 have G:=Aa d.lt;obtain⟨s,-,q⟩:=d.cells;have r:=q 0;obtain⟨n,t,-⟩:=m.o.cells;have H:=Aa (KB g i c j k l _ D.o N);clear d p y q;go_enter_defers Tryz.func19,Tryz.ntmps19;go_wp2_with (go_at_call 34;refine(lock_free Uf (Q_ x 0) w s r).mono ?_;rintro e o ⟨rfl,rfl⟩);refine H.o.mono ?_;rintro u d ⟨v,a,rfl,p,q,y,z⟩;have I:=Aa (And.intro y z);have J:Hid (SL d x c):=(q.block x m.o.lt).trans m.o;have L:=Aa p;have M:=Aa (Vg A.o q);clear q n t s r y z;obtain⟨n,t,q⟩:=J.o.cells;have r:=q 0;obtain⟨s,y,z,rfl⟩:=Fo p;clear p q;go_wp2_with fail;refine wE (f:=35) (args:= #[A_ x]) D_ (by simp[go_sem]) ?_;refine(unlock_deferred Uf (Q_ x 0) .returning _ n r).mono ?_;rintro e O R ⟨rfl,rfl,rfl⟩;refine⟨_,cS rfl _ _ _,?_⟩;have p:Ap w.heap.size d (L_ s y z) a:=by have:=L.o;rw[F.o]at this;exact this
 refine⟨_,a,rfl,?_,M.o,I.o⟩;exact(Mod.setCell d x 0 (.int .i32 0)).row p fun b f e=>by have q:=(xF p b f).1;have b:=G.o;omega
def SLQ(N:Nat)(iml:hD)(w:World)(r:Ending)(w':World):Prop:=
 Below w.heap.size w w'/\((r=R_ (.tuple #[.pointer none,J_ 2])/\¬Xj (Au iml))\/∃(H:Nat) (f:PT H) (x b:Nat) (F:hF),r=R_ (.tuple #[A_ x,J_ 0])/\Dz (Au iml) H [] [] f/\Ld.num H f=0/\(Ld.nums H f).Nodup/\(∀n,n<iml.length->n∈Ld.nums H f)/\ST w' x b/\Eh (fun k=>Tr.Av (eff (Au iml) H f) k none) N b F w'/\(∀g∈x::b::F,w.heap.size<=g)/\x∉b::F)
theorem KC(c:Nat)(y:Value)(a:hD)(w:World)(f:Bc 0 w y a)(g:a.length<=2000000)(i:LdN a c)(j:c<=900000):
  Calls Tryz.prog 21 #[y] w (SLQ c a w):=by
 have F:∀(b:Fn) (first d:Array Value) (w:World),(Instr.makeFunc b first d).run Tryz.prog w=.ok (.func b first d) w:=fun _ _ _ _=>rfl
 obtain⟨n,o,rfl⟩:=Ad f;have b:Below w.heap.size w (w.alloc (C_ #[L_ n a.length o] 40)):=(xA _ w).alloc X_ _;have z:=Aa (HU c w.heap.size (L_ n a.length o) a (w.alloc (C_ #[L_ n a.length o] 40)) D_ D_ (Ae f b X_) g i j);have d:=Aa b;clear f b g i j;go_in;go_wp2_with fail;refine z.o.mono ?_;rintro G b ⟨i,⟨rfl,f⟩|⟨A,B,p,C,rfl,q,r,s,t,j,u⟩⟩
 ·have l:Hid (SLQ c a w (R_ (.tuple #[.pointer none,J_ 2])) b):=⟨d.o.trans (i.mono d.o.size),.inl ⟨rfl,f⟩⟩;clear i f;go_wp2_with fail;go_ret2;exact l.o
 ·have m:Below b.heap.size b (b.alloc (C_ #[.int .i32 0,.int .u32 0,A_ p] 95)):=(xA _ b).alloc X_ _;have g:=d.o.trans (i.mono d.o.size);have l:Hid (SLQ c a w (R_ (.tuple #[A_ b.heap.size,J_ 0])) (b.alloc (C_ #[.int .i32 0,.int .u32 0,A_ p] 95))):=by
   refine⟨g.trans (m.mono g.size),.inr ⟨A,B,b.heap.size,p,C,rfl,q,r,s,t,xK _ _,j.keep fun k f=>m.block k (j.lt k f),fun k f=> ?_,fun D=>by have:=j.lt _ D;omega⟩⟩;rcases xG.1 f with e|f
   ·rw[e];exact g.size
   ·exact xI d.o.size (u k f)
  clear i m g q r s t j u;go_wp2_with fail;go_ret2;exact l.o
structure KD(V:Tr.Key->Option Tr.Key)(N:Nat)(ss:hD):Prop where
 right:Xj (Au ss)
 len:ss.length<=2*N
 all:∀(H:Nat) (f:PT H),Dz (Au ss) H [] [] f->Ld.num H f=0->Tr.wt H (Ld.tr (Au ss) H [] [] f)<=2*N/\∀k,Tr.Av (eff (Au ss) H f) k none=V k
theorem KD.of{j:Tr.Ai f}(b:ML d a f j)(s:Au i=(Sl f [j] 0).map some)(t:i.length<=Tr.wt f j):KD d a i:=by obtain⟨c,g,k,o,p,l⟩:=QL b.wf b.top s;refine⟨⟨f,c,g,k,o,p⟩,xI t b.wt,fun m n q r=> ?_⟩;obtain⟨rfl,e⟩:=Ln (Dd i) m f [] [] [] [] n c q g (by rw[r,k]);rw[aN e];refine⟨by rw[l];exact b.wt,fun n=> ?_⟩;rw[<-TF (Dd i) n m [] [] c g ⟨dW n,.inl rfl⟩ (.inl rfl),l,b.val]
theorem KD.ldn(h:KD d a i){l:gY}(m:Tr.Cb (Ab l))(n:∀b,Ce (Ab l) b=d b)(p:l.length<a):LdN i a:=fun f g j k _=>by
 obtain⟨o,c⟩:=h.all f g j k;refine⟨O_,fun f g j=> ?_⟩;have e:Ab f=Ab l:=DH g m fun b=>by rw[j,c,n]
 have:=yW List.length e;rw[Cv,Cv]at this;omega
theorem UT(o:Tr.Key->Option Tr.Key)(i x b:Nat)(j:hF)(w:World)(d:ST w x b)(n:Eh o i b j w)(u:x∉b::j)(T:i<=900000):
  Calls Tryz.prog 17 #[A_ x] w fun t m=>∃v c,t=R_ v/\Bc w.heap.size m v c/\Below w.heap.size w m/\KD o i c:=by
 have y:=Aa d;have z:=Aa u;have A:=Aa (Mod.setCell w x 0 (.int .i32 1));have k:=Aa d.lock;have B:Hid (Eh o i b j (w.setCell (Q_ x 0) (.int .i32 1))):=n.keep fun f g=>A.o.block f (n.lt f g) fun e=>z.o (by rw[<-e];exact g)
 have C:Hid ((w.setCell (Q_ x 0) (.int .i32 1)).heap.size=w.heap.size):=by show _=_;simp[World.setCell]
 have D:=Aa d.lt;obtain⟨q,-,r⟩:=d.cells;have p:=r 0;obtain⟨l,s,-⟩:=k.o.cells;obtain⟨M,N,O,-,a⟩:=B.o;have F:=Aa (UN b N M O j _ a.tb a.rep a.root.wf a.root.top (xI a.root.wt O_));have G:=Aa a.root;clear d n u r a;go_enter_defers Tryz.func17,Tryz.ntmps17;go_wp2_with (go_at_call 34;refine(lock_free Uf (Q_ x 0) w q p).mono ?_;rintro e m ⟨rfl,rfl⟩);refine F.o.mono ?_;rintro t a ⟨v,c,rfl,d,n,r,u⟩;have H:=Aa (KD.of G.o r u);have I:Hid (SL a x b):=(n.block x k.o.lt).trans k.o;have J:=Aa d;have L:=Aa (Vg y.o n);clear n l s q p r u;obtain⟨l,s,n⟩:=I.o.cells;have p:=n 0;obtain⟨q,r,u,rfl⟩:=Fo d;clear d n;go_wp2_with fail;refine wE (f:=35) (args:= #[A_ x]) D_ (by simp[go_sem]) ?_;refine(unlock_deferred Uf (Q_ x 0) .returning _ l p).mono ?_;rintro e R S ⟨rfl,rfl,rfl⟩;refine⟨_,results_tmp rfl _ _ _,?_⟩;have d:Bc w.heap.size a (L_ q r u) c:=by have:=J.o;rw[C.o]at this;exact this
 refine⟨_,c,rfl,?_,L.o,H.o⟩;exact(Mod.setCell a x 0 (.int .i32 0)).row d fun f g e=>by have n:=(xF d f g).1;have f:=D.o;omega
