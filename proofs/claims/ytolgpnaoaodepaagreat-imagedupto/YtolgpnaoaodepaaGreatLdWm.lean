import Derived.Test.YtolgpnaoaodepaaGreatLdSm
import Derived.Test.YtolgpnaoaodepaaGreatWalkVm
import Derived.Test.YtolgpnaoaodepaaGreatScaYm
import Derived.Test.YtolgpnaoaodepaaGreatWalkFm
namespace Go.Proofs.YtolgpnaoaodepaaGreat
open Go.RowKit
theorem look_rising {k v:Tr.Key}:∀{l:List Tr.It},Tr.Rising l→(k,v)∈l→Tr.look l k=some v
 | x::r,h,a=> by
  have c:=List.pairwise_cons.1 h
  rcases List.mem_cons.1 a with e | a
  ·rw [←e];exact if_pos rfl
  ·have b:¬x.1=k:=fun e=> by
    have:=c.1 (k,v) a
    rw [e] at this
    exact Tr.lt_ir _ this
   exact (if_neg b).trans (look_rising c.2 a)
 | [],_,a=> by cases a
theorem TreM.more {V:Tr.Key→Option Tr.Key} {N c b:Nat} {F:List Nat} {w:World} (h:TreM V N b F w) (d:N≤c):TreM V c b F w:=by
 obtain ⟨h,p,t,f,a⟩:=h
 exact ⟨h,p,t,Nat.le_trans f (Nat.mul_le_mul_right _ d),a.tb,a.rep,a.nd,a.nb,⟨a.root.wf,a.root.top,a.root.val,Nat.le_trans a.root.wt (Nat.mul_le_mul_left 2 d)⟩⟩
def putsOf (il:List (ByteArray×ByteArray)):List Tr.Ch:=(plain il).map fun x=> ((1:Int),x.1,x.2)
theorem putsOf_snoc (il:List (ByteArray×ByteArray)) (x:ByteArray×ByteArray):putsOf (il++[x])=putsOf il++[chP 1 x.1 x.2]:=by
 unfold putsOf plain chP;simp
structure AnM (w:World) (b:Nat) (v:Value) (il:List (ByteArray×ByteArray)) (i:Nat) (F:List Nat) (W:World):Prop where
 tr:TreM (fun k=> Tr.afterAll (putsOf (il.take i)) k none) (i+1) b F W
 low:∀g∈b::F,w.heap.size≤g∧v.ownBlock≠some g
 row:OwnsI 0 W v il
 bel:Below w.heap.size w W
theorem AnM.below {w:World} {b:Nat} {v:Value} {il:List (ByteArray×ByteArray)} {i:Nat} {F:List Nat} {W W':World} (h:AnM w b v il i F W) (a:Below W.heap.size W W'):AnM w b v il i F W':=
 ⟨h.tr.keep fun g c=> a.block g (h.tr.lt g c),h.low,row_below h.row a (Nat.le_refl _),h.bel.trans (a.mono h.bel.size)⟩
theorem AnM.make {w:World} {b:Nat} {v:Value} {il:List (ByteArray×ByteArray)} {i:Nat} {F F':List Nat} {W W':World} (h:AnM w b v il i F W) (hi:i < il.length) (f:TreM (fun k=> Tr.one k (Tr.afterAll (putsOf (il.take i)) k none) (chP 1 (il[i]'hi).1 (il[i]'hi).2)) (i+1+1) b F' W') (c:Gone (b::F) (b::F') W W'):AnM w b v il (i+1) F' W':=by
 refine ⟨?_,fun g a=> ?_,c.1.row h.row fun g z d=> (h.low g d).2 z,h.bel.trans (c.1.below h.bel.size fun g z=> (h.low g z).1)⟩
 ·have e:(fun k=> Tr.afterAll (putsOf (il.take (i+1))) k none)=fun k=> Tr.one k (Tr.afterAll (putsOf (il.take i)) k none) (chP 1 (il[i]'hi).1 (il[i]'hi).2):=by
   funext k
   rw [List.take_succ_eq_append_getElem' (List.getElem?_eq_getElem hi),putsOf_snoc,Tr.afterAll_append];rfl
  rw [e];exact f
 ·rcases c.2 g a with z | z
  ·exact h.low g z
  ·refine ⟨Nat.le_trans h.bel.size z,fun q=> ?_⟩
   have:=(World.ownsRow.lt h.row g q).2
   omega
set_option maxHeartbeats 1000000 in
set_option maxRecDepth 20000 in
theorem anew_any (V:Tr.Key→Option Tr.Key) (N M b:Nat) (F:List Nat) (w:World) (ht:TreM V N b F w) (hN:N≤900000) (hV:∀k x,V k=some x→x.length≤16∧Pg.isKey k.length=true) (hM:∀il:List (ByteArray×ByteArray),Tr.Rising (plain il)→(∀k,Tr.look (plain il) k=V k)→il.length≤M) (a4:M+1≤900000):
  Calls Tryz.prog 75 #[.pointer (some ⟨b,0,none⟩)] w fun r w'=>∃c,r= .returned (.pointer (some ⟨c,0,none⟩))∧(∃F',TreM V (M+1) c F' w'∧∀g∈c::F',w.heap.size≤g)∧Below w.heap.size w w':=by
 have HT:=hid ht
 have HV:=hid hV
 have HM:=hid hM
 clear ht hV hM
 go_enter Tryz.func75,Tryz.ntmps75
 go_wp2_with fail
 refine (tNew_any w).mono ?_
 rintro r w1 ⟨c,F',rfl,D,G,q⟩
 have o:=hid D
 have S:=hid G
 have u:=hid q
 have T:=hid (tScan_any V N b F ⟨#[]⟩ ⟨#[]⟩ w1 (HT.out.keep fun g l=> q.block g (HT.out.lt g l)) hN)
 clear D G q
 go_wp2_with fail
 refine T.out.mono ?_
 rintro r w2 ⟨v,il,rfl,R,s,f,H⟩
 have p:Hid (∀k,Tr.look (plain il) k=V k):=fun k=> (H k).1 ⟨List.not_lt_nil k,.inl rfl⟩
 have U:=hid (HM.out il f p.out)
 have a0:=U.out
 obtain ⟨av,O,rfl⟩:=rowShape R
 have W:Hid (AnM w c (.slice av il.length O) il 0 F' w2):=⟨by
   have:=o.out.keep fun g l=> s.block g (o.out.lt g l)
   exact this,fun g l=> ⟨S.out g l,fun z=> by
    have m:=o.out.lt g l
    have L:=(World.ownsRow.lt R g z).1
    omega⟩,row_shrink R (Nat.zero_le _),u.out.trans (s.mono u.out.size)⟩
 have y:=hid f
 clear R s f H
 go_wp2_with fail
 go_loopw [10] (fun Z wr=>∃(i:Nat) (t:List Nat),Z= .int .i64 (i:Nat)∧i≤il.length∧AnM w c (.slice av il.length O) il i t wr) (fun Z _=> il.length - (intOf Z).toNat)
 case atStart=> exact ⟨0,F',rfl,Nat.zero_le _,W.out⟩
 case round=>
  obtain ⟨i,t,rfl,hi,n⟩:=hrel
  have HA:=hid n
  by_cases a:i < il.length
  ·obtain ⟨g,a3,e,hc,-,l,x0,x1⟩:=n.row.at i a
   simp only [Value.slice.injEq,true_and] at e
   obtain ⟨rfl,rfl⟩:=e
   have a1:(0:Int)≤(i:Int):=by omega
   have a2:(i:Int) < (il.length:Int):=by omega
   have X:Hid (Tr.okCh (chP 1 (il[i]'a).1 (il[i]'a).2)):=by
    have hm:((il[i]'a).1.data.toList,(il[i]'a).2.data.toList)∈plain il:=List.mem_map.2 ⟨_,List.getElem_mem a,rfl⟩
    have hv:=p.out (il[i]'a).1.data.toList
    rw [look_rising y.out hm] at hv
    obtain ⟨m,L⟩:=HV.out _ _ hv.symm
    exact Ld.okCh_put (x:=((il[i]'a).1.data.toList,(il[i]'a).2.data.toList)) ⟨L,m⟩
   have ba:Below wr.heap.size wr (wr.alloc (.cells #[.string (il[i]'a).1,.string (il[i]'a).2] 51)):=(Below.refl _ wr).alloc (Nat.le_refl _) _
   have A:=hid (n.below ba)
   have B:=hid (tMake_any _ (i+1) c t 1 (il[i]'a).1 (il[i]'a).2 (wr.alloc (.cells #[.string (il[i]'a).1,.string (il[i]'a).2] 51)) A.out.tr (by omega) X.out)
   have C:∀(hh:i < il.length),AnM w c (.slice (some ⟨g,0,none⟩) il.length O) il i t (wr.alloc (.cells #[.string (il[i]'a).1,.string (il[i]'a).2] 51)):=fun _=> A.out
   have d:Hid (∀j W',TreM (fun k=> Tr.one k (Tr.afterAll (putsOf (il.take i)) k none) (chP 1 (il[i]'a).1 (il[i]'a).2)) (i+1+1) c j W'→Gone (c::t) (c::j) (wr.alloc (.cells #[.string (il[i]'a).1,.string (il[i]'a).2] 51)) W'→AnM w c (.slice (some ⟨g,0,none⟩) il.length O) il (i+1) j W'):=fun j W' m L=> (C a).make a m L
   clear ba n C
   generalize il[i]'a=x at*
   obtain ⟨kx,vx⟩:=x
   simp only at x0 x1 B d
   go_wp2_with fail
   refine B.out.mono ?_
   rintro r w4 ⟨rfl,j,I,J⟩
   have HN:=hid (d.out j w4 I J)
   clear I J
   go_wp2_with fail
   exact ⟨⟨i+1,j,by go_num,by omega,HN.out⟩,by simp [intOf];omega⟩
  ·have Y:Hid ((∃j,TreM V (M+1) c j wr∧∀g∈c::j,w.heap.size≤g)∧Below w.heap.size w wr):=by
    refine ⟨⟨t,?_,fun g l=> (n.low g l).1⟩,n.bel⟩
    have m:=n.tr
    rw [List.take_of_length_le (by omega)] at m
    have e:(fun k=> Tr.afterAll (putsOf il) k none)=V:=by
     funext k
     exact (Ld.put_all y.out).trans (p.out k)
    rw [e] at m
    exact m.more (by omega)
   clear n
   go_wp2_with fail
   go_ret
   exact ⟨c,rfl,Y.out⟩
end Go.Proofs.YtolgpnaoaodepaaGreat
namespace Go.Proofs.YtolgpnaoaodepaaGreat
open Go.RowKit
theorem fits_lt {P:List (Option Ld.Nd)}:∀(h:Nat) (lo hi:Tr.Key) (f:Ld.PT h),Ld.Fits P h lo hi f→∀n∈Ld.nums h f,n < P.length
 | 0,_,_,f,⟨_,h1,_⟩,n,a=> by
  rw [List.mem_singleton.1 a]
  exact (List.getElem?_eq_some_iff.1 h1).1
 | h+1,_,_,(m,ks),⟨_,h1,_,_,h4⟩,n,a=> by
  rcases List.mem_cons.1 a with e | a
  ·rw [e];exact (List.getElem?_eq_some_iff.1 h1).1
  ·obtain ⟨l,g,b⟩:=List.mem_flatten.1 a
   obtain ⟨f,i,rfl⟩:=List.mem_map.1 g
   obtain ⟨c,d,j⟩:=h4.each f i
   exact fits_lt h c d f j n b
def LdN (iml:List ByteArray) (N:Nat):Prop:=∀(H:Nat) (f:Ld.PT H),Ld.Fits (pagesOf iml) H [] [] f→Ld.num H f=0→(Ld.nums H f).Nodup→Tr.wt H (Ld.tr (pagesOf iml) H [] [] f)≤2*N∧∀il:List (ByteArray×ByteArray),Tr.Rising (plain il)→(∀k,Tr.look (plain il) k=Tr.afterAll (Ld.eff (pagesOf iml) H f) k none)→il.length+1≤N
theorem nums_len {iml:List ByteArray} {H:Nat} {f:Ld.PT H} (b:Ld.Fits (pagesOf iml) H [] [] f) (c:(Ld.nums H f).Nodup):(Ld.nums H f).length≤iml.length:=Ld.nodup_len c fun n a=> by
 have:=fits_lt H [] [] f b n a
 unfold pagesOf at this
 rwa [List.length_map] at this
def TLQ (N:Nat) (iml:List ByteArray) (w:World) (r:Ending) (w':World):Prop:=
 Below w.heap.size w w'∧((r=gaveUp∧¬Ld.Right (pagesOf iml))∨∃(H:Nat) (f:Ld.PT H) (b:Nat) (F:List Nat),r= .returned (.pointer (some ⟨b,0,none⟩))∧Ld.Fits (pagesOf iml) H [] [] f∧Ld.num H f=0∧(Ld.nums H f).Nodup∧(∀n,n < iml.length→n∈Ld.nums H f)∧TreM (fun k=> Tr.afterAll (Ld.eff (pagesOf iml) H f) k none) N b F w'∧∀g∈b::F,w.heap.size≤g)
theorem tLoad_any (N:Nat) (a:Value) (iml:List ByteArray) (w:World) (Y:OwnsS 0 w a iml) (Z:iml.length≤2000000) (D:LdN iml N) (hN:N≤900000):
  Calls Tryz.prog 42 #[a] w (TLQ N iml w):=by
 have A:=okPs_pages iml
 refine (load_any (fun H f W j w'=>∃F',TreM (fun k=> Tr.afterAll (Ld.eff (pagesOf iml) H f) k none) N j F' w'∧∀g∈j::F',W.heap.size≤g) a iml w Y (by omega) ?_).mono ?_
 ·intro H f W b p F s S B n l m h0
  have c:=nums_len l m
  obtain ⟨i,d⟩:=D H f l h0 m
  have G:1≤N:=by have:=Tr.wt_pos Tr.room_all (Ld.tr_wf A H [] [] f l rfl (.inl rfl)).1;omega
  obtain ⟨M,rfl⟩:∃M,N=M+1:=⟨N - 1,by omega⟩
  exact anew_any _ (M+1) M b F W (loaded_tree l s S B n i (by omega)) (by omega) (fun k x U=> Ld.after_all_ok k _ none x (Ld.eff_ok A H [] [] f l) (fun y V=> by cases V) U) (fun il u z=> by have:=d il u z;omega) (by omega)
 ·rintro r w' ⟨n,h | ⟨H,f,W,b,j,p,F,rfl,c,i,d,C,I,J,L,O,R,o,q⟩⟩
  ·exact ⟨n,.inl h⟩
  ·have B:=nums_len c d
   refine ⟨n,.inr ?_⟩
   rcases q with ⟨rfl,_,rfl⟩ | ⟨_,F',T,t⟩
   ·exact ⟨H,f,j,F,rfl,c,i,d,C,loaded_tree c I J L O (D H f c i d).1 (by omega),R⟩
   ·exact ⟨H,f,j,F',rfl,c,i,d,C,T,fun g X=> Nat.le_trans o.size (t g X)⟩
end Go.Proofs.YtolgpnaoaodepaaGreat
namespace Go.Proofs.YtolgpnaoaodepaaGreat
open Go.RowKit
set_option maxHeartbeats 1000000 in
theorem catchT_panicking (b:Nat) (x:Int) (a:List PanicEntry) (w:World) (o:w.cell? ⟨b,0,none⟩=some (.int .i64 x)) (n:w.frozen? ⟨b,0,none⟩=false) (p:b < w.heap.size):
  CallsD Tryz.prog 71 #[.pointer (some ⟨b,0,none⟩)] (.panicking ({v:= .iface 148 (.agg #[]),recovered:=false}::a)) w fun e k w'=>
   e= .returned (.tuple #[])∧k= .panicking ({v:= .iface 148 (.agg #[]),recovered:=true}::a)∧w'=(w.setCell ⟨b,0,none⟩ (.int .i64 2)).alloc (.cells #[] 148):=by
 refine callsD_of_wpS Tryz.func71 rfl fun c l d=> ?_
 apply wpS_seq
 apply wpS_region
 simp [wpOpsS,go_sem,recoverD,d,Tryz.ntmps71,Exit.thenS]
 refine wpS_of_wp ?_
 rw [show (#[Value.pointer (some ⟨b,0,none⟩)]++((Array.replicate 14 undef).setIfInBounds 3 (Value.iface 148 (Value.agg #[]))).setIfInBounds 0 (Value.iface 148 (Value.agg #[])))= #[Value.pointer (some ⟨b,0,none⟩),Value.iface 148 (Value.agg #[]),undef,undef,Value.iface 148 (Value.agg #[]),undef,undef,undef,undef,undef,undef,undef,undef,undef,undef] from rfl]
 generalize f:(fun e m w'=> bodyPostS Tryz.prog Tryz.f71 c l _ e m _ w')=Q
 have g:=hid f
 clear f d
 have i:=ta
 have j:(w.alloc (.cells #[] 148)).frozen? ⟨b,0,none⟩=false:=by rw [World.frozen?_alloc_old _ _ _ (by simp;omega)];exact n
 go_wp2_with fail
 rw [←g.out]
 simp [bodyPostS,results,Tryz.results71]
theorem catchT_idle (p:Addr) (w:World):
  CallsD Tryz.prog 71 #[.pointer (some p)] .returning w fun e g w'=> e= .returned (.tuple #[])∧g= .returning∧w'=w:=by
 refine callsD_of_wpS Tryz.func71 rfl fun a i b=> ?_
 apply wpS_seq
 apply wpS_region
 simp [wpOpsS,go_sem,recoverD,b,Tryz.ntmps71,Exit.thenS]
 refine wpS_of_wp ?_
 rw [show (#[Value.pointer (some p)]++((Array.replicate 14 undef).setIfInBounds 3 Value.nilIface).setIfInBounds 0 Value.nilIface)= #[Value.pointer (some p),Value.nilIface,undef,undef,Value.nilIface,undef,undef,undef,undef,undef,undef,undef,undef,undef,undef] from rfl]
 generalize c:(fun e j w'=> bodyPostS Tryz.prog Tryz.f71 a i _ e j _ w')=Q
 have d:=hid c
 have f:=hid b
 clear c b
 go_wp2_with fail
 rw [←d.out]
 have b:=f.out
 cases a
 simp_all [bodyPostS,results,Tryz.results71]
set_option maxHeartbeats 1000000 in
theorem loadLit_any (N b:Nat) (d:Value) (iml:List ByteArray) (w:World) (t:w.cell? ⟨b,0,none⟩=some d) (j:OwnsS 0 w d iml) (o:iml.length≤2000000) (p:LdN iml N) (q:N≤900000):
  Calls Tryz.prog 41 #[.pointer (some ⟨b,0,none⟩)] w (TLQ N iml w):=by
 obtain ⟨a,c,rfl⟩:=rowShape j
 have s:=hid (tLoad_any N _ iml w j o p q)
 clear j o p q
 go_enter Tryz.func41,Tryz.ntmps41
 go_wp2_with fail
 refine s.out.mono ?_
 rintro r k ⟨g,⟨rfl,l⟩ | ⟨H,f,m,F,rfl,n⟩⟩
 ·have i:Hid (TLQ N iml w gaveUp k):=⟨g,.inl ⟨rfl,l⟩⟩
  clear g l
  unfold gaveUp at*
  go_wp2_with fail
  exact ⟨rfl,i.out⟩
 ·have i:Hid (TLQ N iml w (.returned (.pointer (some ⟨m,0,none⟩))) k):=⟨g,.inr ⟨H,f,m,F,rfl,n⟩⟩
  clear g n
  go_wp2_with fail
  go_ret
  exact i.out
def CLQ (N:Nat) (iml:List ByteArray) (w:World) (r:Ending) (w':World):Prop:=
 Below w.heap.size w w'∧((r= .returned (.tuple #[.pointer none,.int .i64 2])∧¬Ld.Right (pagesOf iml))∨∃(H:Nat) (f:Ld.PT H) (b:Nat) (F:List Nat),r= .returned (.tuple #[.pointer (some ⟨b,0,none⟩),.int .i64 0])∧Ld.Fits (pagesOf iml) H [] [] f∧Ld.num H f=0∧(Ld.nums H f).Nodup∧(∀n,n < iml.length→n∈Ld.nums H f)∧TreM (fun k=> Tr.afterAll (Ld.eff (pagesOf iml) H f) k none) N b F w'∧∀g∈b::F,w.heap.size≤g)
set_option maxHeartbeats 1000000 in
theorem loadCatch_any (N b:Nat) (k:Value) (iml:List ByteArray) (w:World) (Y:b < w.heap.size) (Z:w.cell? ⟨b,0,none⟩=some k) (R:OwnsS 0 w k iml) (S:iml.length≤2000000) (T:LdN iml N) (U:N≤900000):
  Calls Tryz.prog 40 #[.func (.func 41) #[] #[.pointer (some ⟨b,0,none⟩)]] w (CLQ N iml w):=by
 have V:∀(O:Fn) (first m:Array Value) (w:World),(Instr.makeFunc O first m).run Tryz.prog w= .ok (.func O first m) w:=fun _ _ _ _=> rfl
 have c:Below w.heap.size w (w.alloc (.cells #[.int .i64 0] 36)):=(Below.refl _ w).alloc (Nat.le_refl _) _
 have q:=hid (loadLit_any N b k iml (w.alloc (.cells #[.int .i64 0] 36)) (by rw [World.cell?_alloc_past _ _ _ Y];exact Z) (row_below R c (Nat.le_refl _)) S T U)
 clear R S T U
 go_enter_defers Tryz.func40,Tryz.ntmps40
 go_wp2_with fail
 refine q.out.mono ?_
 rintro r i ⟨a,j⟩
 have d:i.cell? ⟨w.heap.size,0,none⟩=some (.int .i64 0):=by rw [a.cell (by simp)];simp
 have s:i.frozen? ⟨w.heap.size,0,none⟩=false:=by rw [a.frozen (by simp)];simp
 have t:w.heap.size < i.heap.size:=by have:=a.size;simp at this;omega
 have l:=hid (c.trans (a.mono c.size))
 clear a
 rcases j with ⟨rfl,D⟩ | ⟨H,f,G,F,rfl,I,J,L,M,B,n⟩
 ·have W:=hid D
  clear D
  unfold gaveUp
  go_wp2_with fail
  refine leaves_cons (f:=71) (args:= #[.pointer (some ⟨w.heap.size,0,none⟩)]) (by simp) (by simp [go_sem]) ?_
  refine (catchT_panicking w.heap.size 0 [] _ d s t).mono ?_
  rintro e X A ⟨rfl,rfl,rfl⟩
  have u:=hid ((l.out.setCell (p:=⟨w.heap.size,0,none⟩) (Nat.le_refl _) (.int .i64 2)).alloc (by simp;omega) (.cells #[] 148))
  have y:((i.setCell ⟨w.heap.size,0,none⟩ (.int .i64 2)).alloc (.cells #[] 148)).cell? ⟨w.heap.size,0,none⟩=some (.int .i64 2):=by
   rw [World.cell?_alloc_past _ _ _ (by simp;omega)];exact World.cell?_setCell_same _ _ _ d
  simp [Leaves,settle,results,Tryz.results40,go_sem,y]
  exact ⟨u.out,.inl ⟨rfl,W.out⟩⟩
 ·have C:(w.alloc (.cells #[.int .i64 0] 36)).heap.size=w.heap.size+1:=by simp
  rw [C] at n
  have z:Hid (CLQ N iml w (.returned (.tuple #[.pointer (some ⟨G,0,none⟩),.int .i64 0])) (i.setCell ⟨w.heap.size,0,none⟩ (.int .i64 0))):=by
   refine ⟨l.out.setCell (p:=⟨w.heap.size,0,none⟩) (Nat.le_refl _) _,.inr ⟨H,f,G,F,rfl,I,J,L,M,B.keep fun g o=> ?_,fun g o=> ?_⟩⟩
   ·refine (Mod.setCell i w.heap.size 0 (.int .i64 0)).block g (B.lt g o) (fun e=> ?_)
    have:=n g o;omega
   ·have:=n g o;omega
  clear I J L M B n C
  go_wp2_with fail
  refine leaves_cons (f:=71) (args:= #[.pointer (some ⟨w.heap.size,0,none⟩)]) (by simp) (by simp [go_sem]) ?_
  refine (catchT_idle ⟨w.heap.size,0,none⟩ _).mono ?_
  rintro e X A ⟨rfl,rfl,rfl⟩
  have y:(i.setCell ⟨w.heap.size,0,none⟩ (.int .i64 0)).cell? ⟨w.heap.size,0,none⟩=some (.int .i64 0):=World.cell?_setCell_same _ _ _ d
  simp [Leaves,settle,results,Tryz.results40,go_sem,y]
  exact z.out
end Go.Proofs.YtolgpnaoaodepaaGreat
namespace Go.Proofs.YtolgpnaoaodepaaGreat
open Go.RowKit
def SLQ (N:Nat) (iml:List ByteArray) (w:World) (r:Ending) (w':World):Prop:=
 Below w.heap.size w w'∧((r= .returned (.tuple #[.pointer none,.int .i64 2])∧¬Ld.Right (pagesOf iml))∨∃(H:Nat) (f:Ld.PT H) (x b:Nat) (F:List Nat),r= .returned (.tuple #[.pointer (some ⟨x,0,none⟩),.int .i64 0])∧Ld.Fits (pagesOf iml) H [] [] f∧Ld.num H f=0∧(Ld.nums H f).Nodup∧(∀n,n < iml.length→n∈Ld.nums H f)∧ST w' x b∧TreM (fun k=> Tr.afterAll (Ld.eff (pagesOf iml) H f) k none) N b F w'∧(∀g∈x::b::F,w.heap.size≤g)∧x∉b::F)
set_option maxHeartbeats 1000000 in
theorem sLoad_any (N:Nat) (p:Value) (iml:List ByteArray) (w:World) (u:OwnsS 0 w p iml) (I:iml.length≤2000000) (J:LdN iml N) (L:N≤900000):
  Calls Tryz.prog 21 #[p] w (SLQ N iml w):=by
 have M:∀(G:Fn) (first o:Array Value) (w:World),(Instr.makeFunc G first o).run Tryz.prog w= .ok (.func G first o) w:=fun _ _ _ _=> rfl
 obtain ⟨a,c,rfl⟩:=rowShape u
 have l:Below w.heap.size w (w.alloc (.cells #[.slice a iml.length c] 40)):=(Below.refl _ w).alloc (Nat.le_refl _) _
 have O:=hid (loadCatch_any N w.heap.size (.slice a iml.length c) iml (w.alloc (.cells #[.slice a iml.length c] 40)) (by simp) (by simp) (row_below u l (Nat.le_refl _)) I J L)
 have d:=hid l
 clear u l I J L
 go_enter Tryz.func21,Tryz.ntmps21
 go_wp2_with fail
 refine O.out.mono ?_
 rintro r k ⟨j,⟨rfl,y⟩ | ⟨H,f,b,F,rfl,z,A,B,C,s,D⟩⟩
 ·have t:Hid (SLQ N iml w (.returned (.tuple #[.pointer none,.int .i64 2])) k):=⟨d.out.trans (j.mono d.out.size),.inl ⟨rfl,y⟩⟩
  clear j y
  go_wp2_with fail
  go_ret2
  exact t.out
 ·have m:Below k.heap.size k (k.alloc (.cells #[.int .i32 0,.int .u32 0,.pointer (some ⟨b,0,none⟩)] 95)):=(Below.refl _ k).alloc (Nat.le_refl _) _
  have i:=d.out.trans (j.mono d.out.size)
  have t:Hid (SLQ N iml w (.returned (.tuple #[.pointer (some ⟨k.heap.size,0,none⟩),.int .i64 0])) (k.alloc (.cells #[.int .i32 0,.int .u32 0,.pointer (some ⟨b,0,none⟩)] 95))):=by
   refine ⟨i.trans (m.mono i.size),.inr ⟨H,f,k.heap.size,b,F,rfl,z,A,B,C,heap_alloc_new _ _,s.keep fun g n=> m.block g (s.lt g n),fun g n=> ?_,fun q=> by have:=s.lt _ q;omega⟩⟩
   rcases List.mem_cons.1 n with e | n
   ·rw [e];exact i.size
   ·exact Nat.le_trans d.out.size (D g n)
  clear j m i z A B C s D
  go_wp2_with fail
  go_ret2
  exact t.out
end Go.Proofs.YtolgpnaoaodepaaGreat
