import Derived.Test.YtolgpnaoaodepaaGreatLdSm
namespace Go.Proofs.YtolgpnaoaodepaaGreat
open Go.RowKit
theorem Og {k v:Tr.Key}:∀{l:List Tr.It},Tr.Bi l->(k,v)∈l->Tr.Bj l k=some v
 | x::r,h,a=> by
  have c:=List.pairwise_cons.1 h;rcases List.mem_cons.1 a with e | a
  ·rw [<-e];exact if_pos rfl
  ·have b:¬x.1=k:=fun e=> by
    have:=c.1 (k,v) a;rw [e] at this;exact Tr.lt_ir _ this
   exact (if_neg b).trans (Og c.2 a)
 | [],_,a=> by cases a
theorem Ek.more {V:Tr.Key->Option Tr.Key} {N c b:Nat} {F:List Nat} {w:World} (h:Ek V N b F w) (d:N<=c):Ek V c b F w:=by
 obtain ⟨h,p,t,f,a⟩:=h;exact ⟨h,p,t,Nat.le_trans f (Nat.mul_le_mul_right _ d),a.tb,a.rep,a.nd,a.nb,⟨a.root.wf,a.root.top,a.root.val,Nat.le_trans a.root.wt (Nat.mul_le_mul_left 2 d)⟩⟩
def Mj (il:List (ByteArray×ByteArray)):List Tr.Ch:=(plain il).map fun x=> ((1:Int),x.1,x.2)
theorem Afw (il:List (ByteArray×ByteArray)) (x:ByteArray×ByteArray):Mj (il++[x])=Mj il++[chP 1 x.1 x.2]:=by
 unfold Mj plain chP;simp
structure AnM (w:World) (b:Nat) (v:Value) (il:List (ByteArray×ByteArray)) (i:Nat) (F:List Nat) (W:World):Prop where
 tr:Ek (fun k=> Tr.Aj (Mj (il.take i)) k none) (i+1) b F W
 low:∀g∈b::F,w.heap.size<=g/\v.ownBlock≠some g
 row:Ak 0 W v il
 bel:Below w.heap.size w W
theorem AnM.below {w:World} {b:Nat} {v:Value} {il:List (ByteArray×ByteArray)} {i:Nat} {F:List Nat} {W W':World} (h:AnM w b v il i F W) (a:Below W.heap.size W W'):AnM w b v il i F W':=
 ⟨h.tr.keep fun g c=> a.block g (h.tr.lt g c),h.low,Aa h.row a (Nat.le_refl _),h.bel.trans (a.mono h.bel.size)⟩
theorem AnM.make {w:World} {b:Nat} {v:Value} {il:List (ByteArray×ByteArray)} {i:Nat} {F F':List Nat} {W W':World} (h:AnM w b v il i F W) (hi:i < il.length) (f:Ek (fun k=> Tr.one k (Tr.Aj (Mj (il.take i)) k none) (chP 1 (il[i]'hi).1 (il[i]'hi).2)) (i+1+1) b F' W') (c:Fm (b::F) (b::F') W W'):AnM w b v il (i+1) F' W':=by
 refine ⟨?_,fun g a=> ?_,c.1.row h.row fun g z d=> (h.low g d).2 z,h.bel.trans (c.1.below h.bel.size fun g z=> (h.low g z).1)⟩
 ·have e:(fun k=> Tr.Aj (Mj (il.take (i+1))) k none)=fun k=> Tr.one k (Tr.Aj (Mj (il.take i)) k none) (chP 1 (il[i]'hi).1 (il[i]'hi).2):=by
   funext k;rw [List.take_succ_eq_append_getElem' (List.getElem?_eq_getElem hi),Afw,Tr.Eg];rfl
  rw [e];exact f
 ·rcases c.2 g a with z | z
  ·exact h.low g z
  ·refine ⟨Nat.le_trans h.bel.size z,fun q=> ?_⟩;have:=(World.ownsRow.lt h.row g q).2;omega
set_option maxHeartbeats 1000000 in
set_option maxRecDepth 20000 in
theorem Anz (V:Tr.Key->Option Tr.Key) (N M b:Nat) (F:List Nat) (w:World) (ht:Ek V N b F w) (hN:N<=900000) (hV:∀k x,V k=some x->x.length<=16/\Pg.Ei k.length=true) (hM:∀il:List (ByteArray×ByteArray),Tr.Bi (plain il)->(∀k,Tr.Bj (plain il) k=V k)->il.length<=M) (a4:M+1<=900000):
  Calls Tryz.prog 75 #[.pointer (some ⟨b,0,none⟩)] w fun r w'=>∃c,r= .returned (.pointer (some ⟨c,0,none⟩))/\(∃F',Ek V (M+1) c F' w'/\∀g∈c::F',w.heap.size<=g)/\Below w.heap.size w w':=by
 have HT:=hid ht;have HV:=hid hV;have HM:=hid hM;clear ht hV hM;go_enter Tryz.func75,Tryz.ntmps75;go_wp2_with fail;refine (Aet w).mono ?_;rintro r w1 ⟨c,F',rfl,D,G,q⟩;have o:=hid D;have S:=hid G;have u:=hid q;have T:=hid (Abu V N b F ⟨#[]⟩ ⟨#[]⟩ w1 (HT.out.keep fun g l=> q.block g (HT.out.lt g l)) hN);clear D G q;go_wp2_with fail;refine T.out.mono ?_;rintro r w2 ⟨v,il,rfl,R,s,f,H⟩;have p:Hid (∀k,Tr.Bj (plain il) k=V k):=fun k=> (H k).1 ⟨List.not_lt_nil k,.inl rfl⟩
 have U:=hid (HM.out il f p.out);have a0:=U.out;obtain ⟨av,O,rfl⟩:=Ab R;have W:Hid (AnM w c (.slice av il.length O) il 0 F' w2):=⟨by
   have:=o.out.keep fun g l=> s.block g (o.out.lt g l)
   exact this,fun g l=> ⟨S.out g l,fun z=> by
    have m:=o.out.lt g l;have L:=(World.ownsRow.lt R g z).1;omega⟩,Al R (Nat.zero_le _),u.out.trans (s.mono u.out.size)⟩
 have y:=hid f;clear R s f H;go_wp2_with fail
 go_loopw [10] (fun Z wr=>∃(i:Nat) (t:List Nat),Z= .int .i64 (i:Nat)/\i<=il.length/\AnM w c (.slice av il.length O) il i t wr) (fun Z _=> il.length - (intOf Z).toNat)
 case atStart=> exact ⟨0,F',rfl,Nat.zero_le _,W.out⟩
 case round=>
  obtain ⟨i,t,rfl,hi,n⟩:=hrel;have HA:=hid n;by_cases a:i < il.length
  ·obtain ⟨g,a3,e,hc,-,l,x0,x1⟩:=n.row.at i a;simp only [Value.slice.injEq,true_and] at e;obtain ⟨rfl,rfl⟩:=e;have a1:(0:Int)<=(i:Int):=(by omega);have a2:(i:Int) < (il.length:Int):=(by omega);have X:Hid (Tr.Ew (chP 1 (il[i]'a).1 (il[i]'a).2)):=by
    have hm:((il[i]'a).1.data.toList,(il[i]'a).2.data.toList)∈plain il:=List.mem_map.2 ⟨_,List.getElem_mem a,rfl⟩;have hv:=p.out (il[i]'a).1.data.toList;rw [Og y.out hm] at hv;obtain ⟨m,L⟩:=HV.out _ _ hv.symm;exact Ld.Zo (x:=((il[i]'a).1.data.toList,(il[i]'a).2.data.toList)) ⟨L,m⟩
   have ba:Below wr.heap.size wr (wr.alloc (.cells #[.string (il[i]'a).1,.string (il[i]'a).2] 51)):=(Below.refl _ wr).alloc (Nat.le_refl _) _;have A:=hid (n.below ba);have B:=hid (Abm _ (i+1) c t 1 (il[i]'a).1 (il[i]'a).2 (wr.alloc (.cells #[.string (il[i]'a).1,.string (il[i]'a).2] 51)) A.out.tr (by omega) X.out);have C:∀(hh:i < il.length),AnM w c (.slice (some ⟨g,0,none⟩) il.length O) il i t (wr.alloc (.cells #[.string (il[i]'a).1,.string (il[i]'a).2] 51)):=fun _=> A.out
   have d:Hid (∀j W',Ek (fun k=> Tr.one k (Tr.Aj (Mj (il.take i)) k none) (chP 1 (il[i]'a).1 (il[i]'a).2)) (i+1+1) c j W'->Fm (c::t) (c::j) (wr.alloc (.cells #[.string (il[i]'a).1,.string (il[i]'a).2] 51)) W'->AnM w c (.slice (some ⟨g,0,none⟩) il.length O) il (i+1) j W'):=fun j W' m L=> (C a).make a m L
   clear ba n C;generalize il[i]'a=x at*;obtain ⟨kx,vx⟩:=x;simp only at x0 x1 B d;go_wp2_with fail;refine B.out.mono ?_;rintro r w4 ⟨rfl,j,I,J⟩;have HN:=hid (d.out j w4 I J);clear I J;go_wp2_with fail;exact ⟨⟨i+1,j,by go_num,by omega,HN.out⟩,by simp [intOf];omega⟩
  ·have Y:Hid ((∃j,Ek V (M+1) c j wr/\∀g∈c::j,w.heap.size<=g)/\Below w.heap.size w wr):=by
    refine ⟨⟨t,?_,fun g l=> (n.low g l).1⟩,n.bel⟩;have m:=n.tr;rw [List.take_of_length_le (by omega)] at m;have e:(fun k=> Tr.Aj (Mj il) k none)=V:=by
     funext k;exact (Ld.Ad3 y.out).trans (p.out k)
    rw [e] at m;exact m.more (by omega)
   clear n;go_wp2_with fail;go_ret;exact ⟨c,rfl,Y.out⟩
theorem Aj6 {α:Type} [DecidableEq α]:∀{l m:List α},l.Nodup->(∀x∈l,x∈m)->l.length<=m.length
 | [],_,_,_=> Nat.zero_le _
 | x::r,m,hn,hs=> by
  have a:=hs x (List.mem_cons_self ..);have b:=List.nodup_cons.1 hn;have d:=Aj6 (l:=r) (m:=m.erase x) b.2 (fun y c=> (List.mem_erase_of_ne (fun e=> b.1 (by rw [<-e];exact c))).2 (hs y (List.mem_cons_of_mem _ c)));rw [List.length_erase_of_mem a] at d;have:=List.length_pos_of_mem a;rw [List.length_cons];omega
theorem Adf {P:List (Option Ld.Nd)}:∀(h:Nat) (lo hi:Tr.Key) (f:Ld.PT h),Ld.Co P h lo hi f->∀n∈Ld.nums h f,n < P.length
 | 0,_,_,f,⟨_,h1,_⟩,n,a=> by
  rw [List.mem_singleton.1 a];exact (List.getElem?_eq_some_iff.1 h1).1
 | h+1,_,_,(m,ks),⟨_,h1,_,_,h4⟩,n,a=> by
  rcases List.mem_cons.1 a with e | a
  ·rw [e];exact (List.getElem?_eq_some_iff.1 h1).1
  ·obtain ⟨l,g,b⟩:=List.mem_flatten.1 a;obtain ⟨f,i,rfl⟩:=List.mem_map.1 g;obtain ⟨c,d,j⟩:=h4.each f i;exact Adf h c d f j n b
theorem Ao0 {a:List Tr.Ch} {il:List (ByteArray×ByteArray)} (f:Tr.Bi (plain il)) (n:∀k,Tr.Bj (plain il) k=Tr.Aj a k none):il.length<=a.length:=by
 have g:((plain il).map (·.1)).Nodup:=by
  unfold Tr.Bi at f;rw [List.Nodup,List.pairwise_map];exact f.imp fun h e=> by rw [e] at h;exact Tr.lt_ir _ h
 have b:=Aj6 (m:=a.map (·.2.1)) g fun k j=> by
  obtain ⟨x,i,rfl⟩:=List.mem_map.1 j;have d:=n x.1;rw [Og f (show (x.1,x.2)∈plain il from i)] at d;refine Classical.byContradiction fun q=> ?_
  rw [Tr.Dv a x.1 none (fun c l e=> q (List.mem_map.2 ⟨c,l,e⟩))] at d
  cases d
 rw [List.length_map,List.length_map] at b;unfold plain at b
 rwa [List.length_map] at b
def LdN (iml:List ByteArray) (N:Nat):Prop:=∀(H:Nat) (f:Ld.PT H),Ld.Co (Ag iml) H [] [] f->Ld.num H f=0->(Ld.nums H f).Nodup->Tr.wt H (Ld.tr (Ag iml) H [] [] f)<=2*N/\∀il:List (ByteArray×ByteArray),Tr.Bi (plain il)->(∀k,Tr.Bj (plain il) k=Tr.Aj (Ld.eff (Ag iml) H f) k none)->il.length+1<=N
theorem Zw {iml:List ByteArray} {H:Nat} {f:Ld.PT H} (b:Ld.Co (Ag iml) H [] [] f) (c:(Ld.nums H f).Nodup):(Ld.nums H f).length<=iml.length:=Ld.Ie c fun n a=> by
 have:=Adf H [] [] f b n a;unfold Ag at this
 rwa [List.length_map] at this
theorem LdN.any (iml:List ByteArray):LdN iml (16*iml.length+1):=fun H f a _ b=> by
 have g:=Zw a b;have i:=Ld.Apy (Ct iml) H [] [] f a;refine ⟨by omega,fun il c d=> ?_⟩;have j:=Ao0 c d;have k:=Ld.Add (Ct iml) H [] [] f a;omega
def TLQ (N:Nat) (iml:List ByteArray) (w:World) (r:Ending) (w':World):Prop:=
 Below w.heap.size w w'/\((r=Ae/\¬Ld.Sb (Ag iml))\/∃(H:Nat) (f:Ld.PT H) (b:Nat) (F:List Nat),r= .returned (.pointer (some ⟨b,0,none⟩))/\Ld.Co (Ag iml) H [] [] f/\Ld.num H f=0/\(Ld.nums H f).Nodup/\(∀n,n < iml.length->n∈Ld.nums H f)/\Ek (fun k=> Tr.Aj (Ld.eff (Ag iml) H f) k none) N b F w'/\∀g∈b::F,w.heap.size<=g)
theorem Akz (N:Nat) (a:Value) (iml:List ByteArray) (w:World) (Y:Av 0 w a iml) (Z:iml.length<=2000000) (D:LdN iml N) (hN:N<=900000):
  Calls Tryz.prog 42 #[a] w (TLQ N iml w):=by
 have A:=Ct iml;refine (Ans (fun H f W j w'=>∃F',Ek (fun k=> Tr.Aj (Ld.eff (Ag iml) H f) k none) N j F' w'/\∀g∈j::F',W.heap.size<=g) a iml w Y (by omega) ?_).mono ?_
 ·intro H f W b p F s S B n l m h0;have c:=Zw l m;obtain ⟨i,d⟩:=D H f l h0 m;have G:1<=N:=by have:=Tr.St Tr.Hf (Ld.Aiw A H [] [] f l rfl (.inl rfl)).1;omega
  obtain ⟨M,rfl⟩:∃M,N=M+1:=⟨N - 1,by omega⟩;exact Anz _ (M+1) M b F W (Vi l s S B n i (by omega)) (by omega) (fun k x U=> Ld.Sd k _ none x (Ld.Ai2 A H [] [] f l) (fun y V=> by cases V) U) (fun il u z=> by have:=d il u z;omega) (by omega)
 ·rintro r w' ⟨n,h | ⟨H,f,W,b,j,p,F,rfl,c,i,d,C,I,J,L,O,R,o,q⟩⟩
  ·exact ⟨n,.inl h⟩
  ·have B:=Zw c d;refine ⟨n,.inr ?_⟩;rcases q with ⟨rfl,_,rfl⟩ | ⟨_,F',T,t⟩
   ·exact ⟨H,f,j,F,rfl,c,i,d,C,Vi c I J L O (D H f c i d).1 (by omega),R⟩
   ·exact ⟨H,f,j,F',rfl,c,i,d,C,T,fun g X=> Nat.le_trans o.size (t g X)⟩
set_option maxHeartbeats 1000000 in
theorem Tx (b:Nat) (x:Int) (a:List PanicEntry) (w:World) (o:w.cell? ⟨b,0,none⟩=some (.int .i64 x)) (n:w.frozen? ⟨b,0,none⟩=false) (p:b < w.heap.size):
  CallsD Tryz.prog 71 #[.pointer (some ⟨b,0,none⟩)] (.panicking ({v:= .iface 148 (.agg #[]),recovered:=false}::a)) w fun e k w'=>
   e= .returned (.tuple #[])/\k= .panicking ({v:= .iface 148 (.agg #[]),recovered:=true}::a)/\w'=(w.setCell ⟨b,0,none⟩ (.int .i64 2)).alloc (.cells #[] 148):=by
 refine callsD_of_wpS Tryz.func71 rfl fun c l d=> ?_
 apply wpS_seq;apply wpS_region;simp [wpOpsS,go_sem,recoverD,d,Tryz.ntmps71,Exit.thenS];refine wpS_of_wp ?_;rw [show (#[Value.pointer (some ⟨b,0,none⟩)]++((Array.replicate 14 undef).setIfInBounds 3 (Value.iface 148 (Value.agg #[]))).setIfInBounds 0 (Value.iface 148 (Value.agg #[])))= #[Value.pointer (some ⟨b,0,none⟩),Value.iface 148 (Value.agg #[]),undef,undef,Value.iface 148 (Value.agg #[]),undef,undef,undef,undef,undef,undef,undef,undef,undef,undef] from rfl];generalize f:(fun e m w'=> bodyPostS Tryz.prog Tryz.f71 c l _ e m _ w')=Q;have g:=hid f;clear f d;have i:=ta;have j:(w.alloc (.cells #[] 148)).frozen? ⟨b,0,none⟩=false:=by rw [World.frozen?_alloc_old _ _ _ (by simp;omega)];exact n
 go_wp2_with fail;rw [<-g.out];simp [bodyPostS,results,Tryz.results71]
theorem Afx (p:Addr) (w:World):
  CallsD Tryz.prog 71 #[.pointer (some p)] .returning w fun e g w'=> e= .returned (.tuple #[])/\g= .returning/\w'=w:=by
 refine callsD_of_wpS Tryz.func71 rfl fun a i b=> ?_
 apply wpS_seq;apply wpS_region;simp [wpOpsS,go_sem,recoverD,b,Tryz.ntmps71,Exit.thenS];refine wpS_of_wp ?_;rw [show (#[Value.pointer (some p)]++((Array.replicate 14 undef).setIfInBounds 3 Value.nilIface).setIfInBounds 0 Value.nilIface)= #[Value.pointer (some p),Value.nilIface,undef,undef,Value.nilIface,undef,undef,undef,undef,undef,undef,undef,undef,undef,undef] from rfl];generalize c:(fun e j w'=> bodyPostS Tryz.prog Tryz.f71 a i _ e j _ w')=Q;have d:=hid c;have f:=hid b;clear c b;go_wp2_with fail;rw [<-d.out];have b:=f.out
 cases a
 simp_all [bodyPostS,results,Tryz.results71]
set_option maxHeartbeats 1000000 in
theorem Afy (N b:Nat) (d:Value) (iml:List ByteArray) (w:World) (t:w.cell? ⟨b,0,none⟩=some d) (j:Av 0 w d iml) (o:iml.length<=2000000) (p:LdN iml N) (q:N<=900000):
  Calls Tryz.prog 41 #[.pointer (some ⟨b,0,none⟩)] w (TLQ N iml w):=by
 obtain ⟨a,c,rfl⟩:=Ab j;have s:=hid (Akz N _ iml w j o p q);clear j o p q;go_enter Tryz.func41,Tryz.ntmps41;go_wp2_with fail;refine s.out.mono ?_;rintro r k ⟨g,⟨rfl,l⟩ | ⟨H,f,m,F,rfl,n⟩⟩
 ·have i:Hid (TLQ N iml w Ae k):=⟨g,.inl ⟨rfl,l⟩⟩;clear g l;unfold Ae at*;go_wp2_with fail;exact ⟨rfl,i.out⟩
 ·have i:Hid (TLQ N iml w (.returned (.pointer (some ⟨m,0,none⟩))) k):=⟨g,.inr ⟨H,f,m,F,rfl,n⟩⟩;clear g n;go_wp2_with fail;go_ret;exact i.out
def CLQ (N:Nat) (iml:List ByteArray) (w:World) (r:Ending) (w':World):Prop:=
 Below w.heap.size w w'/\((r= .returned (.tuple #[.pointer none,.int .i64 2])/\¬Ld.Sb (Ag iml))\/∃(H:Nat) (f:Ld.PT H) (b:Nat) (F:List Nat),r= .returned (.tuple #[.pointer (some ⟨b,0,none⟩),.int .i64 0])/\Ld.Co (Ag iml) H [] [] f/\Ld.num H f=0/\(Ld.nums H f).Nodup/\(∀n,n < iml.length->n∈Ld.nums H f)/\Ek (fun k=> Tr.Aj (Ld.eff (Ag iml) H f) k none) N b F w'/\∀g∈b::F,w.heap.size<=g)
set_option maxHeartbeats 1000000 in
theorem Aar (N b:Nat) (k:Value) (iml:List ByteArray) (w:World) (Y:b < w.heap.size) (Z:w.cell? ⟨b,0,none⟩=some k) (R:Av 0 w k iml) (S:iml.length<=2000000) (T:LdN iml N) (U:N<=900000):
  Calls Tryz.prog 40 #[.func (.func 41) #[] #[.pointer (some ⟨b,0,none⟩)]] w (CLQ N iml w):=by
 have V:∀(O:Fn) (first m:Array Value) (w:World),(Instr.makeFunc O first m).run Tryz.prog w= .ok (.func O first m) w:=fun _ _ _ _=> rfl
 have c:Below w.heap.size w (w.alloc (.cells #[.int .i64 0] 36)):=(Below.refl _ w).alloc (Nat.le_refl _) _;have q:=hid (Afy N b k iml (w.alloc (.cells #[.int .i64 0] 36)) (by rw [World.cell?_alloc_past _ _ _ Y];exact Z) (Aa R c (Nat.le_refl _)) S T U);clear R S T U;go_enter_defers Tryz.func40,Tryz.ntmps40;go_wp2_with fail;refine q.out.mono ?_;rintro r i ⟨a,j⟩;have d:i.cell? ⟨w.heap.size,0,none⟩=some (.int .i64 0):=by rw [a.cell (by simp)];simp
 have s:i.frozen? ⟨w.heap.size,0,none⟩=false:=by rw [a.frozen (by simp)];simp
 have t:w.heap.size < i.heap.size:=by have:=a.size;simp at this;omega
 have l:=hid (c.trans (a.mono c.size));clear a;rcases j with ⟨rfl,D⟩ | ⟨H,f,G,F,rfl,I,J,L,M,B,n⟩
 ·have W:=hid D;clear D;unfold Ae;go_wp2_with fail;refine leaves_cons (f:=71) (args:= #[.pointer (some ⟨w.heap.size,0,none⟩)]) (by simp) (by simp [go_sem]) ?_;refine (Tx w.heap.size 0 [] _ d s t).mono ?_;rintro e X A ⟨rfl,rfl,rfl⟩;have u:=hid ((l.out.setCell (p:=⟨w.heap.size,0,none⟩) (Nat.le_refl _) (.int .i64 2)).alloc (by simp;omega) (.cells #[] 148));have y:((i.setCell ⟨w.heap.size,0,none⟩ (.int .i64 2)).alloc (.cells #[] 148)).cell? ⟨w.heap.size,0,none⟩=some (.int .i64 2):=by
   rw [World.cell?_alloc_past _ _ _ (by simp;omega)];exact World.cell?_setCell_same _ _ _ d
  simp [Leaves,settle,results,Tryz.results40,go_sem,y];exact ⟨u.out,.inl ⟨rfl,W.out⟩⟩
 ·have C:(w.alloc (.cells #[.int .i64 0] 36)).heap.size=w.heap.size+1:=by simp
  rw [C] at n;have z:Hid (CLQ N iml w (.returned (.tuple #[.pointer (some ⟨G,0,none⟩),.int .i64 0])) (i.setCell ⟨w.heap.size,0,none⟩ (.int .i64 0))):=by
   refine ⟨l.out.setCell (p:=⟨w.heap.size,0,none⟩) (Nat.le_refl _) _,.inr ⟨H,f,G,F,rfl,I,J,L,M,B.keep fun g o=> ?_,fun g o=> ?_⟩⟩
   ·refine (Mod.setCell i w.heap.size 0 (.int .i64 0)).block g (B.lt g o) (fun e=> ?_);have:=n g o;omega
   ·have:=n g o;omega
  clear I J L M B n C;go_wp2_with fail;refine leaves_cons (f:=71) (args:= #[.pointer (some ⟨w.heap.size,0,none⟩)]) (by simp) (by simp [go_sem]) ?_;refine (Afx ⟨w.heap.size,0,none⟩ _).mono ?_;rintro e X A ⟨rfl,rfl,rfl⟩;have y:(i.setCell ⟨w.heap.size,0,none⟩ (.int .i64 0)).cell? ⟨w.heap.size,0,none⟩=some (.int .i64 0):=World.cell?_setCell_same _ _ _ d;simp [Leaves,settle,results,Tryz.results40,go_sem,y];exact z.out
def SLQ (N:Nat) (iml:List ByteArray) (w:World) (r:Ending) (w':World):Prop:=
 Below w.heap.size w w'/\((r= .returned (.tuple #[.pointer none,.int .i64 2])/\¬Ld.Sb (Ag iml))\/∃(H:Nat) (f:Ld.PT H) (x b:Nat) (F:List Nat),r= .returned (.tuple #[.pointer (some ⟨x,0,none⟩),.int .i64 0])/\Ld.Co (Ag iml) H [] [] f/\Ld.num H f=0/\(Ld.nums H f).Nodup/\(∀n,n < iml.length->n∈Ld.nums H f)/\ST w' x b/\Ek (fun k=> Tr.Aj (Ld.eff (Ag iml) H f) k none) N b F w'/\(∀g∈x::b::F,w.heap.size<=g)/\x∉b::F)
set_option maxHeartbeats 1000000 in
theorem Al0 (N:Nat) (p:Value) (iml:List ByteArray) (w:World) (u:Av 0 w p iml) (I:iml.length<=2000000) (J:LdN iml N) (L:N<=900000):
  Calls Tryz.prog 21 #[p] w (SLQ N iml w):=by
 have M:∀(G:Fn) (first o:Array Value) (w:World),(Instr.makeFunc G first o).run Tryz.prog w= .ok (.func G first o) w:=fun _ _ _ _=> rfl
 obtain ⟨a,c,rfl⟩:=Ab u;have l:Below w.heap.size w (w.alloc (.cells #[.slice a iml.length c] 40)):=(Below.refl _ w).alloc (Nat.le_refl _) _;have O:=hid (Aar N w.heap.size (.slice a iml.length c) iml (w.alloc (.cells #[.slice a iml.length c] 40)) (by simp) (by simp) (Aa u l (Nat.le_refl _)) I J L);have d:=hid l;clear u l I J L;go_enter Tryz.func21,Tryz.ntmps21;go_wp2_with fail;refine O.out.mono ?_;rintro r k ⟨j,⟨rfl,y⟩ | ⟨H,f,b,F,rfl,z,A,B,C,s,D⟩⟩
 ·have t:Hid (SLQ N iml w (.returned (.tuple #[.pointer none,.int .i64 2])) k):=⟨d.out.trans (j.mono d.out.size),.inl ⟨rfl,y⟩⟩;clear j y;go_wp2_with fail;go_ret2;exact t.out
 ·have m:Below k.heap.size k (k.alloc (.cells #[.int .i32 0,.int .u32 0,.pointer (some ⟨b,0,none⟩)] 95)):=(Below.refl _ k).alloc (Nat.le_refl _) _;have i:=d.out.trans (j.mono d.out.size);have t:Hid (SLQ N iml w (.returned (.tuple #[.pointer (some ⟨k.heap.size,0,none⟩),.int .i64 0])) (k.alloc (.cells #[.int .i32 0,.int .u32 0,.pointer (some ⟨b,0,none⟩)] 95))):=by
   refine ⟨i.trans (m.mono i.size),.inr ⟨H,f,k.heap.size,b,F,rfl,z,A,B,C,heap_alloc_new _ _,s.keep fun g n=> m.block g (s.lt g n),fun g n=> ?_,fun q=> by have:=s.lt _ q;omega⟩⟩;rcases List.mem_cons.1 n with e | n
   ·rw [e];exact i.size
   ·exact Nat.le_trans d.out.size (D g n)
  clear j m i z A B C s D;go_wp2_with fail;go_ret2;exact t.out
end Go.Proofs.YtolgpnaoaodepaaGreat
