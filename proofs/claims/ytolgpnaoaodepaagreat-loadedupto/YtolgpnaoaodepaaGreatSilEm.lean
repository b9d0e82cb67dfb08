import Derived.Test.YtolgpnaoaodepaaGreatImCm
import Derived.Test.YtolgpnaoaodepaaGreatLdWm
namespace Go.Proofs.YtolgpnaoaodepaaGreat
open Go.RowKit Go.MuLone
structure Afz (V:Tr.Key->Option Tr.Key) (N:Nat) (ss:List ByteArray):Prop where
 right:Ld.Sb (Ag ss)
 len:ss.length<=2*N
 all:∀(H:Nat) (f:Ld.PT H),Ld.Co (Ag ss) H [] [] f->Ld.num H f=0->Tr.wt H (Ld.tr (Ag ss) H [] [] f)<=2*N/\∀k,Tr.Aj (Ld.eff (Ag ss) H f) k none=V k
theorem Afz.of {V:Tr.Key->Option Tr.Key} {N H:Nat} {t:Tr.Ac H} (a:Tr.Acr V N H t) {b:List ByteArray} (p:Ag b=(Ld.Oc H [t] 0).map some) (q:b.length<=Tr.wt H t):Afz V N b:=by
 obtain ⟨f,c,d,j,l,g⟩:=Ld.Aft a.wf a.top p;refine ⟨⟨H,f,c,d,j,l⟩,Nat.le_trans q a.wt,fun i m n o=> ?_⟩;obtain ⟨rfl,e⟩:=Ld.Oz (Ct b) i H [] [] [] [] m f n c (by rw [o,d]);rw [eq_of_heq e];refine ⟨by rw [g];exact a.wt,fun k=> ?_⟩;rw [<-Ld.Ahl (Ct b) k i [] [] f c ⟨List.not_lt_nil k,.inl rfl⟩ (.inl rfl),g,a.val]
set_option maxHeartbeats 1000000 in
set_option maxRecDepth 20000 in
theorem Ai6 (V:Tr.Key->Option Tr.Key) (N x b:Nat) (F:List Nat) (w:World) (s:ST w x b) (R:Ek V N b F w) (Y:x∉b::F) (hN:N<=900000):
  Calls Tryz.prog 17 #[.pointer (some ⟨x,0,none⟩)] w fun r w'=>∃v m,r= .returned v/\Av w.heap.size w' v m/\Below w.heap.size w w'/\Afz V N m:=by
 have y:=hid s;have Z:=hid Y;have z:=hid (Mod.setCell w x 0 (.int .i32 1));have d:=hid s.lock;have A:Hid (Ek V N b F (w.setCell ⟨x,0,none⟩ (.int .i32 1))):=R.keep fun g u=> z.out.block g (R.lt g u) fun e=> Z.out (by rw [<-e];exact u)
 have B:Hid ((w.setCell ⟨x,0,none⟩ (.int .i32 1)).heap.size=w.heap.size):=by show _=_;simp [World.setCell]
 have C:=hid s.lt;obtain ⟨T,-,U⟩:=s.cells;have l:=U 0;obtain ⟨M,W,-⟩:=d.out.cells;obtain ⟨H,p,t,-,i⟩:=A.out;have D:=hid (Ai5 b p H t F _ i.tb i.rep i.root.wf i.root.top (Nat.le_trans i.root.wt (by omega)));have G:=hid i.root;clear s R Y U i;go_enter_defers Tryz.func17,Tryz.ntmps17;go_wp2_with (go_at_call 34;refine (lock_free Pf ⟨x,0,none⟩ w T l).mono ?_;rintro e w' ⟨rfl,rfl⟩);refine D.out.mono ?_;rintro r O ⟨v,m,rfl,j,k,o,q⟩;have HV:=hid (Afz.of G.out o q);have I:Hid (SL O x b):=(k.block x d.out.lt).trans d.out;have J:=hid j;have HE:=hid (Pz y.out k);clear k M W T l o q;obtain ⟨M,W,X⟩:=I.out.cells;have L:=X 0;obtain ⟨a,n,c,rfl⟩:=Ey j;clear j X;go_wp2_with fail;refine leaves_cons (f:=35) (args:= #[.pointer (some ⟨x,0,none⟩)]) (by simp) (by simp [go_sem]) ?_;refine (unlock_deferred Pf ⟨x,0,none⟩ .returning _ M L).mono ?_;rintro e u' a0 ⟨rfl,rfl,rfl⟩;refine ⟨_,results_tmp rfl _ _ _,?_⟩;have S:Av w.heap.size O (.slice a n c) m:=by have:=J.out;rw [B.out] at this;exact this
 refine ⟨_,m,rfl,?_,HE.out,HV.out⟩;exact (Mod.setCell O x 0 (.int .i32 0)).row S fun g u e=> by have h1:=(World.ownsRow.lt S g u).1;have h2:=C.out;omega
structure KT (V:Tr.Key->Option Tr.Key) (N x b:Nat) (F:List Nat) (w0 w:World):Prop where
 st:ST w x b
 tr:Ek V N b F w
 new:∀g∈x::b::F,w0.heap.size<=g
 nx:x∉b::F
 bel:Below w0.heap.size w0 w
theorem KT.below {V:Tr.Key->Option Tr.Key} {N x b:Nat} {F:List Nat} {w0 w w':World} (h:KT V N x b F w0 w) (a:Below w.heap.size w w'):KT V N x b F w0 w':=
 ⟨(a.block x h.st.lt).trans h.st,h.tr.keep fun g c=> a.block g (h.tr.lt g c),h.new,h.nx,h.bel.trans (a.mono h.bel.size)⟩
theorem KT.make {V:Tr.Key->Option Tr.Key} {N x b:Nat} {F:List Nat} {w0 w w':World} (h:KT V N x b F w0 w) {k:Int} {key v:ByteArray} (j:Pg.Bt k key.size v.size=true) {r:Ending} (l:SmQ V N x b F k key v w r w'):r= .returned (.int .i64 0)/\∃F',KT (fun i=> Tr.one i (V i) (chP k key v)) (N+1) x b F' w0 w'/\Mod (fun g=> g∈b::F) w w':=by
 obtain ⟨e,f,F',c,d⟩:=l;rw [j] at e c;refine ⟨e,F',⟨f,c,fun g a=> ?_,fun q=> ?_,Dp h.bel d.1 fun g a=> h.new g (List.mem_cons_of_mem _ a)⟩,d.1⟩
 ·rcases List.mem_cons.1 a with e | a
  ·rw [e];exact h.new x (by simp)
  ·rcases d.2 g a with q | q
   ·exact h.new g (List.mem_cons_of_mem _ q)
   ·exact Nat.le_trans h.bel.size q
 ·rcases d.2 x q with z | z
  ·exact h.nx z
  ·have:=h.st.lt;omega
set_option maxHeartbeats 1000000 in
set_option maxRecDepth 20000 in
theorem Al1 (w:World):Calls Tryz.prog 11 #[] w fun r w'=> r= .returned (.bool true)/\Below w.heap.size w w':=by
 go_enter Tryz.func11,Tryz.ntmps11;go_wp2_with fail;refine (Amx w).mono ?_;rintro r u ⟨x,b,F,rfl,j,k,f,y,l⟩;have a:Hid (KT _ 1 x b F w u):=⟨j,k,f,y,l⟩;clear j k f y l;go_wp2_with fail;refine (Tm _ 1 x b F 1 ⟨#[97]⟩ ⟨#[97]⟩ u a.out.st a.out.tr a.out.nx (by omega)).mono ?_;rintro r B m;obtain ⟨rfl,z,g,-⟩:=a.out.make (by decide) m;have c:=hid g;clear g m a;go_wp2_with fail;refine (Tm _ 2 x b z 3 ⟨#[97]⟩ ⟨#[98]⟩ B c.out.st c.out.tr c.out.nx (by omega)).mono ?_;rintro r C n;obtain ⟨rfl,A,i,-⟩:=c.out.make (by decide) n;have d:=hid i;clear i n c;go_wp2_with fail;refine (An5 _ 3 x b A ⟨#[97]⟩ C d.out.st d.out.tr d.out.nx (by omega)).mono ?_;rintro r D ⟨rfl,o⟩;have p:=hid (d.out.below o).bel;have q:Tr.one (⟨#[97]⟩:ByteArray).data.toList (Tr.one (⟨#[97]⟩:ByteArray).data.toList none (chP 1 ⟨#[97]⟩ ⟨#[97]⟩)) (chP 3 ⟨#[97]⟩ ⟨#[98]⟩)=some [97,98]:=by decide+kernel
 have s:stV (some [97,98])=⟨#[97,98]⟩:=rfl;have t:stB (some [97,98])=true:=rfl;simp only [q,s,t,if_true];clear q s t o d;go_wp2_with fail;go_ret;exact ⟨rfl,p.out⟩
set_option maxHeartbeats 400000 in
theorem Ty (lo hi key:ByteArray) (w:World):
  Calls Tryz.prog 47 #[.string key,.string lo,.string hi] w fun r w'=> r= .returned (.bool (De lo.data.toList hi.data.toList key.data.toList))/\w'=w:=by
 have a:Op.bytesLess key.toList lo.toList=decide (key.data.toList < lo.data.toList):=by rw [Ah,Ah,Db]
 have b:hi.toList.isEmpty=decide (hi.data.toList=[]):=by
  rw [Ah];cases hi.data.toList <;> simp
 have c:Op.bytesLess key.toList hi.toList=decide (key.data.toList < hi.data.toList):=by rw [Ah,Ah,Db]
 have d:Hid (De lo.data.toList hi.data.toList key.data.toList=(!decide (key.data.toList < lo.data.toList)&&(decide (hi.data.toList=[]) || decide (key.data.toList < hi.data.toList)))):=rfl;generalize decide (key.data.toList < lo.data.toList)=f at*;generalize decide (hi.data.toList=[])=g at*;generalize decide (key.data.toList < hi.data.toList)=i at*
 cases f <;> cases g <;> cases i
 all_goals
  go_enter Tryz.func47,Tryz.ntmps47;go_wp2_with fail;go_ret;exact ⟨by rw [d.out];rfl,rfl⟩
set_option maxHeartbeats 1000000 in
set_option maxRecDepth 20000 in
theorem Zx (v1 v2:Value) (il:List (ByteArray×ByteArray)) (w:World) (g:Ak 0 w v1 il) (i:Ak 0 w v2 il) (R:il.length<=20000000):
  Calls Tryz.prog 20 #[v1,v2] w fun r w'=> r= .returned (.bool true)/\Below w.heap.size w w':=by
 have o:=hid g;have p:=hid i;obtain ⟨s,t,rfl⟩:=Ab g;obtain ⟨u,y,rfl⟩:=Ab i;clear g i;go_enter Tryz.func20,Tryz.ntmps20;go_wp2_with fail
 go_loopw [5] (fun f wr=>∃j:Nat,j<=il.length/\f= .int .i64 (j:Nat)/\Below w.heap.size w wr) (fun f _=> il.length - (intOf f).toNat)
 case atStart=> exact ⟨0,Nat.zero_le _,rfl,Below.refl _ _⟩
 case round=>
  obtain ⟨j,F,rfl,a⟩:=hrel;have c:=hid a;by_cases b:j < il.length
  ·have k:Ak 0 wr (.slice s il.length t) il:=Aa o.out a (Nat.le_refl _);have l:Ak 0 wr (.slice u il.length y) il:=Aa p.out a (Nat.le_refl _);obtain ⟨G,H,m,I,-,-,A,B⟩:=k.at j b;obtain ⟨J,L,n,M,-,-,C,D⟩:=l.at j b;simp only [Value.slice.injEq] at m n;obtain ⟨rfl,-,rfl⟩:=m;obtain ⟨rfl,-,rfl⟩:=n;generalize il[j]'b=z at*;obtain ⟨N,O⟩:=z;simp only at A B C D;have q:(0:Int)<=(j:Int):=(by omega);have d:(j:Int) < (il.length:Int):=(by omega);clear a k l;go_upto_region 6 with fail;go_quiet (fail);go_wp2_with fail;exact ⟨⟨j+1,by omega,by go_num,Am c.out _⟩,by simp [intOf];omega⟩
  ·have d:¬(j:Int) < (il.length:Int):=(by omega);clear a;go_wp2_with fail;go_ret;exact ⟨rfl,c.out⟩
set_option maxHeartbeats 1000000 in
theorem Ag0 (b:Nat) (t:List UInt8) (w:World) (X:w.cell? ⟨b,0,none⟩=some (.string ⟨t.toArray⟩)) (Y:b < w.heap.size):
  Calls Tryz.prog 82 #[.pointer (some ⟨b,0,none⟩)] w fun r w'=> Aiy w (Pr.Fg t) r w':=by
 have i:=hid (Bw w (.int .i64 0) (.slice none 0 0) (.slice none 0 0) (.slice none 0 0) (.slice none 0 0));have d:=hid ((Below.refl w.heap.size w).alloc (Nat.le_refl _) (.cells #[.int .i64 0,.slice none 0 0,.slice none 0 0,.slice none 0 0,.slice none 0 0] 79));have H:w.heap.size < (w.alloc (.cells #[.int .i64 0,.slice none 0 0,.slice none 0 0,.slice none 0 0,.slice none 0 0] 79)).heap.size:=by simp
 go_enter Tryz.func82,Tryz.ntmps82;go_wp2_with fail;generalize w.alloc (.cells #[.int .i64 0,.slice none 0 0,.slice none 0 0,.slice none 0 0,.slice none 0 0] 79)=w0 at*;refine (Aal t _).mono ?_;rintro r W ⟨a,⟨F,rfl⟩ | ⟨kd,il,cl,pl,ml,v,G,rfl,l⟩⟩
 ·have j:=hid F;have c:=hid (d.out.trans (a.mono (by omega)));clear a F;unfold Ae;go_wp2_with fail;exact ⟨rfl,c.out,.inl ⟨j.out,rfl⟩⟩
 ·have j:=hid G;have c:=hid (d.out.trans (a.mono (by omega)));have f:=hid (i.out.keep a);obtain ⟨m,n,o,p,q,s,u,y,rfl⟩:=l.shape;have I:=hid l;have g:=hid (Ani c.out j.out I.out (by omega));have k:=hid (f.out.put (.int .i64 kd) (.slice m il.length n) (.slice o cl.length p) (.slice q pl.length s) (.slice u ml.length y));obtain ⟨J,L,M,N,O,R,S,T,U,V⟩:=f.out.cells;clear a G l;go_wp2_with fail;refine bodyPost_ret (v:= .agg #[.int .i64 kd,.slice m il.length n,.slice o cl.length p,.slice q pl.length s,.slice u ml.length y]) ?_ rfl g.out;obtain ⟨z,A,B,C,D⟩:=Cb k.out;unfold Hm at z A B C D;simp [results,Tryz.results82,go_sem,z,A,B,C,D]
set_option maxHeartbeats 1000000 in
theorem Tz (b:Nat) (x:Int) (a:List PanicEntry) (w:World) (o:w.cell? ⟨b,0,none⟩=some (.int .i64 x)) (n:w.frozen? ⟨b,0,none⟩=false) (p:b < w.heap.size):
  CallsD Tryz.prog 142 #[.pointer (some ⟨b,0,none⟩)] (.panicking ({v:= .iface 148 (.agg #[]),recovered:=false}::a)) w fun e k w'=>
   e= .returned (.tuple #[])/\k= .panicking ({v:= .iface 148 (.agg #[]),recovered:=true}::a)/\w'=(w.setCell ⟨b,0,none⟩ (.int .i64 2)).alloc (.cells #[] 148):=by
 refine callsD_of_wpS Tryz.func142 rfl fun c l d=> ?_
 apply wpS_seq;apply wpS_region;simp [wpOpsS,go_sem,recoverD,d,Tryz.ntmps142,Exit.thenS];refine wpS_of_wp ?_;rw [show (#[Value.pointer (some ⟨b,0,none⟩)]++((Array.replicate 14 undef).setIfInBounds 3 (Value.iface 148 (Value.agg #[]))).setIfInBounds 0 (Value.iface 148 (Value.agg #[])))= #[Value.pointer (some ⟨b,0,none⟩),Value.iface 148 (Value.agg #[]),undef,undef,Value.iface 148 (Value.agg #[]),undef,undef,undef,undef,undef,undef,undef,undef,undef,undef] from rfl];generalize f:(fun e m w'=> bodyPostS Tryz.prog Tryz.f142 c l _ e m _ w')=Q;have g:=hid f;clear f d;have i:=ta;have j:(w.alloc (.cells #[] 148)).frozen? ⟨b,0,none⟩=false:=by rw [World.frozen?_alloc_old _ _ _ (by simp;omega)];exact n
 go_wp2_with fail;rw [<-g.out];simp [bodyPostS,results,Tryz.results142]
theorem Ag1 (p:Addr) (w:World):
  CallsD Tryz.prog 142 #[.pointer (some p)] .returning w fun e g w'=> e= .returned (.tuple #[])/\g= .returning/\w'=w:=by
 refine callsD_of_wpS Tryz.func142 rfl fun a i b=> ?_
 apply wpS_seq;apply wpS_region;simp [wpOpsS,go_sem,recoverD,b,Tryz.ntmps142,Exit.thenS];refine wpS_of_wp ?_;rw [show (#[Value.pointer (some p)]++((Array.replicate 14 undef).setIfInBounds 3 Value.nilIface).setIfInBounds 0 Value.nilIface)= #[Value.pointer (some p),Value.nilIface,undef,undef,Value.nilIface,undef,undef,undef,undef,undef,undef,undef,undef,undef,undef] from rfl];generalize c:(fun e j w'=> bodyPostS Tryz.prog Tryz.f142 a i _ e j _ w')=Q;have d:=hid c;have f:=hid b;clear c b;go_wp2_with fail;rw [<-d.out];have b:=f.out
 cases a
 simp_all [bodyPostS,results,Tryz.results142]
def Aq0 (w:World) (o:Option Pr.Hi) (r:Ending) (w':World):Prop:=Below w.heap.size w w'/\((o=none/\r= .returned (.tuple #[.agg #[.int .i64 0,.slice none 0 0,.slice none 0 0,.slice none 0 0,.slice none 0 0],.int .i64 2]))\/∃kd il cl pl ml v,o=some (kd,plain il,cl,lists pl,plainCh ml)/\r= .returned (.tuple #[v,.int .i64 0])/\Eb w.heap.size w' v kd il cl pl ml)
theorem Eb.set {B:Nat} {w:World} {v:Value} {kd:Int} {il:List (ByteArray×ByteArray)} {cl:List Nat} {pl:List ByteArray} {ml:List (Int×ByteArray×ByteArray)} (h:Eb B w v kd il cl pl ml) {b i:Nat} (a:b < B) (u:Value):Eb B (w.setCell ⟨b,i,none⟩ u) v kd il cl pl ml:=by
 obtain ⟨v1,v2,v3,v4,e,c,d,f,g,j⟩:=h;exact ⟨v1,v2,v3,v4,e,Fu c a _,Fu d a _,Fu f a _,Fu g a _,j⟩
set_option maxHeartbeats 1000000 in
theorem Aas (b:Nat) (t:List UInt8) (w:World) (h1:w.cell? ⟨b,0,none⟩=some (.string ⟨t.toArray⟩)) (M:b < w.heap.size):
  Calls Tryz.prog 81 #[.func (.func 82) #[] #[.pointer (some ⟨b,0,none⟩)]] w fun r w'=> Aq0 w (Pr.Fg t) r w':=by
 have a5:∀(fn:Fn) (first L:Array Value) (w:World),(Instr.makeFunc fn first L).run Tryz.prog w= .ok (.func fn first L) w:=fun _ _ _ _=> rfl
 have HC:=hid (Ag0 b t ((w.alloc (.cells #[.int .i64 0,.slice none 0 0,.slice none 0 0,.slice none 0 0,.slice none 0 0] 79)).alloc (.cells #[.int .i64 0] 36)) (by rw [World.cell?_alloc_past _ _ _ (by simp;omega),World.cell?_alloc_past _ _ _ M];exact h1) (by simp;omega));have BA:=(Below.refl w.heap.size w).alloc (Nat.le_refl _) (.cells #[.int .i64 0,.slice none 0 0,.slice none 0 0,.slice none 0 0,.slice none 0 0] 79);have HN:=hid (Bw w (.int .i64 0) (.slice none 0 0) (.slice none 0 0) (.slice none 0 0) (.slice none 0 0));have O:=hid (HN.out.keep ((Below.refl _ _).alloc (Nat.le_refl _) (.cells #[.int .i64 0] 36)));have R:=hid (BA.alloc (by simp) (.cells #[.int .i64 0] 36));have S:Hid (((w.alloc (.cells #[.int .i64 0,.slice none 0 0,.slice none 0 0,.slice none 0 0,.slice none 0 0] 79)).alloc (.cells #[.int .i64 0] 36)).heap[w.heap.size+1]?=some (.cells #[.int .i64 0] 36 (0,0))):=by
  show _=_;rw [show w.heap.size+1=(w.alloc (.cells #[.int .i64 0,.slice none 0 0,.slice none 0 0,.slice none 0 0,.slice none 0 0] 79)).heap.size by simp];exact heap_alloc_new _ _
 have a6:w.heap.size+2<=((w.alloc (.cells #[.int .i64 0,.slice none 0 0,.slice none 0 0,.slice none 0 0,.slice none 0 0] 79)).alloc (.cells #[.int .i64 0] 36)).heap.size:=by simp
 clear h1 M BA HN;go_enter_defers Tryz.func81,Tryz.ntmps81;go_wp2_with fail;generalize (w.alloc (.cells #[.int .i64 0,.slice none 0 0,.slice none 0 0,.slice none 0 0,.slice none 0 0] 79)).alloc (.cells #[.int .i64 0] 36)=w0 at*;refine HC.out.mono ?_;rintro r j ⟨g,c⟩;have a:j.heap[w.heap.size+1]?=some (.cells #[.int .i64 0] 36 (0,0)):=(g.block _ (by omega)).trans S.out;have k:j.cell? ⟨w.heap.size+1,0,none⟩=some (.int .i64 0):=by unfold World.cell?;rw [a];rfl
 have T:j.frozen? ⟨w.heap.size+1,0,none⟩=false:=by unfold World.frozen?;rw [a];rfl
 have U:w.heap.size+1 < j.heap.size:=(Array.getElem?_eq_some_iff.1 a).1;have q:=hid (R.out.trans (g.mono (by omega)));have l:=hid (O.out.keep g);have m:=hid c;clear g a c HC;rcases m.out with ⟨hn,rfl⟩ | ⟨kd,il,cl,pl,ml,v,hs,rfl,hv⟩
 ·have V:=hid hn;clear hn m;unfold Ae;go_wp2_with fail;refine leaves_cons (f:=142) (args:= #[.pointer (some ⟨w.heap.size+1,0,none⟩)]) (by simp) (by simp [go_sem]) ?_;refine (Tz (w.heap.size+1) 0 [] _ k T U).mono ?_;rintro e u' a0 ⟨rfl,rfl,rfl⟩;have n:=hid ((q.out.setCell (p:=⟨w.heap.size+1,0,none⟩) (by simp) (.int .i64 2)).alloc (by simp;omega) (.cells #[] 148));have o:=hid ((l.out.but (Gn (w.heap.size+1) 0 j (.int .i64 2)) (by omega)).keep ((Below.refl _ _).alloc (Nat.le_refl _) (.cells #[] 148)));have W:((j.setCell ⟨w.heap.size+1,0,none⟩ (.int .i64 2)).alloc (.cells #[] 148)).cell? ⟨w.heap.size+1,0,none⟩=some (.int .i64 2):=by
   rw [World.cell?_alloc_past _ _ _ (by simp;omega)];exact World.cell?_setCell_same _ _ _ k
  obtain ⟨Y,Z,q2,q3,q4⟩:=Cb o.out;simp [Leaves,settle,results,Tryz.results81,go_sem,W,Y,Z,q2,q3,q4];exact ⟨n.out,.inl ⟨V.out,rfl⟩⟩
 ·have V:=hid hs;obtain ⟨A,B,D,F,G,H,I,J,rfl⟩:=hv.shape;have HV:=hid hv;obtain ⟨r0,r1,r2,r3,r4,y0,y1,y2,y3,y4⟩:=l.out.cells;clear hs hv m;have s:=hid (Gi q.out (Nat.le_refl _) (.int .i64 kd) (.slice A il.length B) (.slice D cl.length F) (.slice G pl.length H) (.slice I ml.length J));have u:=hid (l.out.put (.int .i64 kd) (.slice A il.length B) (.slice D cl.length F) (.slice G pl.length H) (.slice I ml.length J));have y:=hid (HV.out.put (b:=w.heap.size) (by omega) (.int .i64 kd) (.slice A il.length B) (.slice D cl.length F) (.slice G pl.length H) (.slice I ml.length J));have z:(Hm j w.heap.size (.int .i64 kd) (.slice A il.length B) (.slice D cl.length F) (.slice G pl.length H) (.slice I ml.length J)).cell? ⟨w.heap.size+1,0,none⟩=some (.int .i64 0):=by
   unfold Hm;rw [<-k];unfold World.cell?;rw [Below.heap_setCell _ _ _ _ (by simp),Below.heap_setCell _ _ _ _ (by simp),Below.heap_setCell _ _ _ _ (by simp),Below.heap_setCell _ _ _ _ (by simp),Below.heap_setCell _ _ _ _ (by simp)]
  go_wp2_with fail;obtain ⟨N,d⟩:∃N,N=Hm j w.heap.size (.int .i64 kd) (.slice A il.length B) (.slice D cl.length F) (.slice G pl.length H) (.slice I ml.length J):=⟨_,rfl⟩;rw [<-d] at s u y z;unfold Hm at d;rw [<-d];clear d;refine leaves_cons (f:=142) (args:= #[.pointer (some ⟨w.heap.size+1,0,none⟩)]) (by simp) (by simp [go_sem]) ?_;refine (Ag1 ⟨w.heap.size+1,0,none⟩ _).mono ?_;rintro e u' a0 ⟨rfl,rfl,rfl⟩;have W:(N.setCell ⟨w.heap.size+1,0,none⟩ (.int .i64 0)).cell? ⟨w.heap.size+1,0,none⟩=some (.int .i64 0):=World.cell?_setCell_same _ _ _ z;have n:=hid (s.out.setCell (p:=⟨w.heap.size+1,0,none⟩) (by simp) (.int .i64 0));have o:=hid (u.out.but (Gn (w.heap.size+1) 0 N (.int .i64 0)) (by omega));have X:=hid ((y.out.set (b:=w.heap.size+1) (i:=0) (by omega) (.int .i64 0)).shrink (C:=w.heap.size) (by omega));obtain ⟨Y,Z,q2,q3,q4⟩:=Cb o.out;simp [Leaves,settle,results,Tryz.results81,go_sem,W,Y,Z,q2,q3,q4];exact ⟨n.out,.inr ⟨kd,il,cl,pl,ml,_,V.out,rfl,X.out⟩⟩
set_option maxHeartbeats 1000000 in
theorem Adg (t:List UInt8) (w:World):
  Calls Tryz.prog 46 #[.string ⟨t.toArray⟩] w fun r w'=> Aq0 w (Pr.Fg t) r w':=by
 have S:∀(R:Fn) (first p:Array Value) (w:World),(Instr.makeFunc R first p).run Tryz.prog w= .ok (.func R first p) w:=fun _ _ _ _=> rfl
 have L:=hid (Aas w.heap.size t ((w.alloc (.cells #[.string ⟨t.toArray⟩] 9)).alloc (.cells #[.int .i64 0,.slice none 0 0,.slice none 0 0,.slice none 0 0,.slice none 0 0] 79)) (by rw [World.cell?_alloc_past _ _ _ (by simp)];exact World.cell?_alloc_at _ _ _ 0 (by simp)) (by simp;omega));have M:=(Below.refl w.heap.size w).alloc (Nat.le_refl _) (.cells #[.string ⟨t.toArray⟩] 9);have F:=hid (M.alloc (by simp) (.cells #[.int .i64 0,.slice none 0 0,.slice none 0 0,.slice none 0 0,.slice none 0 0] 79));have G:Hid (Bd ((w.alloc (.cells #[.string ⟨t.toArray⟩] 9)).alloc (.cells #[.int .i64 0,.slice none 0 0,.slice none 0 0,.slice none 0 0,.slice none 0 0] 79)) (w.heap.size+1) (.int .i64 0) (.slice none 0 0) (.slice none 0 0) (.slice none 0 0) (.slice none 0 0)):=by
  have:=Bw (w.alloc (.cells #[.string ⟨t.toArray⟩] 9)) (.int .i64 0) (.slice none 0 0) (.slice none 0 0) (.slice none 0 0) (.slice none 0 0);rw [show (w.alloc (.cells #[.string ⟨t.toArray⟩] 9)).heap.size=w.heap.size+1 by simp] at this;exact this
 have T:w.heap.size+2<=((w.alloc (.cells #[.string ⟨t.toArray⟩] 9)).alloc (.cells #[.int .i64 0,.slice none 0 0,.slice none 0 0,.slice none 0 0,.slice none 0 0] 79)).heap.size:=by simp
 clear M;go_enter Tryz.func46,Tryz.ntmps46;go_wp2_with fail;generalize (w.alloc (.cells #[.string ⟨t.toArray⟩] 9)).alloc (.cells #[.int .i64 0,.slice none 0 0,.slice none 0 0,.slice none 0 0,.slice none 0 0] 79)=w0 at*;refine L.out.mono ?_;rintro r w1 ⟨i,a⟩;have j:=hid (F.out.trans (i.mono (by omega)));have c:=hid (G.out.keep i);have d:=hid a;obtain ⟨U,V,W,X,Y,Z,y1,y2,y3,y4⟩:=c.out.cells;clear i a L;rcases d.out with ⟨N,rfl⟩ | ⟨kd,il,cl,pl,ml,v,O,rfl,J⟩
 ·have H:=hid N;have f:=hid (Gi j.out (b:=w.heap.size+1) (by omega) (.int .i64 0) (.slice none 0 0) (.slice none 0 0) (.slice none 0 0) (.slice none 0 0));have g:=hid (c.out.put (.int .i64 0) (.slice none 0 0) (.slice none 0 0) (.slice none 0 0) (.slice none 0 0));clear N d;go_wp2_with fail;refine bodyPost_ret (v:= .tuple #[.agg #[.int .i64 0,.slice none 0 0,.slice none 0 0,.slice none 0 0,.slice none 0 0],.int .i64 2]) ?_ rfl ⟨f.out,.inl ⟨H.out,rfl⟩⟩;obtain ⟨k,l,m,n,o⟩:=Cb g.out;unfold Hm at k l m n o;simp [results,Tryz.results46,go_sem,k,l,m,n,o]
 ·have H:=hid O;obtain ⟨q,s,u,y,z,A,B,D,rfl⟩:=J.shape;have f:=hid (Gi j.out (b:=w.heap.size+1) (by omega) (.int .i64 kd) (.slice q il.length s) (.slice u cl.length y) (.slice z pl.length A) (.slice B ml.length D));have g:=hid (c.out.put (.int .i64 kd) (.slice q il.length s) (.slice u cl.length y) (.slice z pl.length A) (.slice B ml.length D));have I:=hid ((J.put (b:=w.heap.size+1) (by omega) (.int .i64 kd) (.slice q il.length s) (.slice u cl.length y) (.slice z pl.length A) (.slice B ml.length D)).shrink (C:=w.heap.size) (by omega));clear O J d;go_wp2_with fail;refine bodyPost_ret (v:= .tuple #[.agg #[.int .i64 kd,.slice q il.length s,.slice u cl.length y,.slice z pl.length A,.slice B ml.length D],.int .i64 0]) ?_ rfl ⟨f.out,.inr ⟨kd,il,cl,pl,ml,_,H.out,rfl,I.out⟩⟩;obtain ⟨k,l,m,n,o⟩:=Cb g.out;unfold Hm at k l m n o;simp [results,Tryz.results46,go_sem,k,l,m,n,o]
end Go.Proofs.YtolgpnaoaodepaaGreat
