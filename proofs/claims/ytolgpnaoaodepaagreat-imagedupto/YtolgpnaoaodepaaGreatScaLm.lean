import Derived.Test.YtolgpnaoaodepaaGreatScaHm
import Derived.Test.YtolgpnaoaodepaaGreatScaMm
import Derived.Test.YtolgpnaoaodepaaGreatSilBm
import Derived.Test.YtolgpnaoaodepaaGreatScaOm
import Derived.Test.YtolgpnaoaodepaaGreatTreZNm
namespace Go.Proofs.YtolgpnaoaodepaaGreat
open Go.RowKit
theorem PlB.ne {w:World} {b c:Nat} {key:ByteArray} {d:Nat} {f:Option Addr} {g:Value} {i ub:ByteArray} {v:Value} (h:PlB w b key d f g) (a:ScB w c i ub v):b≠c:=fun e=> by
 subst e
 unfold PlB at h
 unfold ScB at a
 rw [h] at a
 simp at a
theorem nth_app (bs:List Nat) (b:Nat) {k:Nat} (a:k < bs.length):Hp.nth 0 (bs++[b]) k=Hp.nth 0 bs k:=by
 unfold Hp.nth;rw [List.getElem?_append_left a]
set_option maxHeartbeats 400000 in
set_option maxRecDepth 4000 in
theorem hPush_any (f:Nat) (A ub:ByteArray) (v:Value) (K:Nat→ByteArray×Nat) (bs:List Nat) (b:Nat) (w:World) (h:HpQ f A ub v K bs w) (T:∃x y,PlB w b (K b).1 (K b).2 x y) (hl:bs.length≤20000000) (O:Hp.Ord (ltK K)):
  Calls Tryz.prog 186 #[.iface 193 (.pointer (some ⟨f,2,none⟩)),.iface 137 (.pointer (some ⟨b,0,none⟩))] w fun r w'=> r= .returned (.tuple #[])∧∃d J,d.Perm (b::bs)∧HpQ f A ub J K d w'∧(J.ownBlock=v.ownBlock∨∃k,w.heap.size≤k∧J.ownBlock=some k)∧Mod (fun g=> g=f∨v.ownBlock=some g) w w':=by
 have L:=hid (pPush_any f A ub v bs b w h.sc h.row (by omega))
 have H:=hid h
 have U:=hid T
 have V:=hid O
 have W:=fun w'=> mPush ⟨f,2,none⟩ w'
 clear h T O
 go_enter Tryz.func186,Tryz.ntmps186
 go_wp2_with fail
 refine L.out.mono ?_
 rintro r l ⟨rfl,v1,i,j,t,G⟩
 have a:∀c key I x y,PlB w c key I x y→PlB l c key I x y:=fun c key I x y q=> (G.block c q.lt (fun e=> by
  rcases e with e | e
  ·exact q.ne H.out.sc e
  ·exact blk_type q H.out.row (by decide) e)).trans q
 have n:PlK l K (bs++[b]):=fun c hc=> by
  rcases List.mem_append.1 hc with q | q
  ·obtain ⟨u,F,z⟩:=H.out.pl c q;exact ⟨u,F,a _ _ _ _ _ z⟩
  ·rw [List.mem_singleton.1 q];obtain ⟨u,F,z⟩:=U.out;exact ⟨u,F,a _ _ _ _ _ z⟩
 have M:Hp.Heap (ltK K) (Hp.nth 0 (bs++[b])) bs.length:=H.out.heap.congr fun k S=> nth_app bs b S
 have D:=hid (hUp_any f A ub v1 K (bs++[b]) bs.length l i j n (by simp) (by simp;omega) M V.out)
 obtain ⟨B,C,rfl⟩:=rowShape j
 have o:(bs++[b]).length=bs.length+1:=by simp
 rw [o] at i D
 have X:=mLen ⟨f,2,none⟩ l _ i.cells.2.2.1
 have N:=hid (pLen_any B (bs.length+1) C l)
 have p:=hid G
 have s:=hid t
 have xw:IntKind.i64.wrap (((bs.length+1:Nat):Int) - 1)=(bs.length:Int):=by rw [IntKind.wrap_i64];omega
 have Y:IntKind.i64.wrap ((bs.length:Int)+1 - 1)=(bs.length:Int):=by rw [IntKind.wrap_i64];omega
 clear i j t G a n M L
 go_wp2_with fail
 refine N.out.mono ?_
 rintro r l ⟨rfl,rfl⟩
 go_wp2_with fail
 refine D.out.mono ?_
 rintro r Q ⟨rfl,d,m,R⟩
 have Z:Hid (d.Perm (b::bs)∧HpQ f A ub (.slice B (bs.length+1) C) K d Q∧((Value.slice B (bs.length+1) C).ownBlock=v.ownBlock∨∃k,w.heap.size≤k∧(Value.slice B (bs.length+1) C).ownBlock=some k)∧Mod (fun g=> g=f∨v.ownBlock=some g) w Q):=by
  have P:d.Perm (b::bs):=m.perm.trans List.perm_append_comm
  have E:=s.out
  rw [o] at E
  refine ⟨P,⟨m.sc,m.row,m.pl,?_⟩,E,p.out.trans (Mod.of_grown m.gr) (fun _ _ q=> q) (fun g hg q=> ?_)⟩
  ·rw [P.length_eq];exact R
  ·rcases E with z | ⟨k,S,z⟩
   ·rw [z] at q;exact .inr q
   ·rw [z] at q;have:=Option.some.inj q;omega
 clear m R D N p s
 go_wp2_with fail
 go_end0
 exact ⟨rfl,_,_,Z.out⟩
end Go.Proofs.YtolgpnaoaodepaaGreat
namespace Go.Proofs.YtolgpnaoaodepaaGreat.Tr
def cntT:(h:Nat)→TreeT h→Nat
 | 0,l=> (its l).length
 | h+1,(ps,cs)=> cs.length+(ps.map fun p=> cntT h p.2).sum
def Plc.cnt:Plc→Nat
 | .inl ⟨_,_,h,_,t⟩=> cntT h t
 | .inr ⟨_,_,_,_,cs⟩=> cs.length+1
def cnt (P:List Plc):Nat:=(P.map Plc.cnt).sum
theorem cnt_cons (p:Plc) (P:List Plc):cnt (p::P)=p.cnt+cnt P:=by simp [cnt]
theorem cnt_append (P Q:List Plc):cnt (P++Q)=cnt P+cnt Q:=by simp [cnt]
theorem cnt_lay (L:Nat) (f:Key) (m:Option Key) (a:List Ch):cnt (lay L f m a)=a.length:=by cases a <;> simp [lay,cnt,Plc.cnt]
theorem cnt_nodes {L h:Nat} {hi:Option Key}:∀(a:List (Key×TreeT h)),cnt (nodes L a hi)=(a.map fun p=> cntT h p.2).sum
 | []=> rfl
 | (f,t)::r=> by rw [nodes,cnt_cons,cnt_nodes r];rfl
theorem cnt_perm {P Q:List Plc} (h:P.Perm Q):cnt P=cnt Q:=(h.map Plc.cnt).sum_nat
theorem cnt_open {c:Key} {L h:Nat} {f:Key} {m:Option Key} {t:TreeT h} {R:List Plc} {d:List Ch} (g:Scd c (nodeCh h t) d):cnt (kidsFrom c L m h t++(lay L f m d++R))≤cnt (.nd f L h m t::R):=by
 rw [cnt_append,cnt_append,cnt_cons,cnt_lay]
 have i:=g.len
 show _≤cntT h t+_
 cases h with
 | zero=>
  show 0+_≤(its t).length+_
  have:(nodeCh 0 t).length=(its t).length:=List.length_map ..
  omega
 | succ h=>
  obtain ⟨b,a⟩:=t
  rw [kidsFrom,cnt_nodes]
  have e:=sum_drop (b.map fun p=> cntT h p.2) (ix (b.map (·.1)) c)
  rw [←List.map_drop] at e
  have j:(nodeCh (h+1) (b,a)).length=a.length:=rfl
  show _≤a.length+(b.map fun p=> cntT h p.2).sum+_
  omega
theorem wgD {h:Nat} (H:∀ {lo:Key} {hi:Option Key} {t:TreeT h},WF h lo hi t→Top h t→cntT h t≤16*wt h t):∀ (ps:List (Key×TreeT h)) {lo hi:Option Key},Chain (fun f m t=> WF h f m t∧Top h t) lo hi ps→(ps.map fun p=> cntT h p.2).sum≤16*(ps.map fun p=> wt h p.2).sum
 | [],_,_,_=> by simp
 | (f,t)::r,lo,hi,⟨_,m,_,h2,h3⟩=> by
  have a:=H h2.1 h2.2
  have b:=wgD H r h3
  simp only [List.map_cons,List.sum_cons]
  omega
theorem cntT_le:∀(h:Nat) {lo:Key} {hi:Option Key} {t:TreeT h},WF h lo hi t→Top h t→cntT h t≤16*wt h t
 | 0,lo,hi,l,_,ht=> by
  have a:(its l).length≤16:=ht
  show (its l).length≤16*(1+2*((its l).length - 16))
  omega
 | h+1,lo,hi,(ps,cs),hw,_=> by
  have a:=wgD (fun a b=>cntT_le h a b) ps hw.1
  show cs.length+(ps.map fun p=> cntT h p.2).sum≤16*(2*cs.length+(ps.map fun p=> wt h p.2).sum+((ps.length - 1)+(2 - ps.length)))
  omega
def inTo (ub k:Key):Prop:=ub=[]∨k < ub
structure NextS (fr ub:Key) (D:Nat) (P:List Plc) (c:Ch) (P':List Plc):Prop where
 inv:SInv fr D P'
 size:size P' < size P
 cn:cnt P' < cnt P
 okc:okCh c
 ge:¬c.2.1 < fr
 ub':inTo ub c.2.1
 here:left D P c.2.1=c::left D P' c.2.1
 same:∀k,k≠c.2.1→¬k < fr→left D P k=left D P' k
 ahead:∀k,k < c.2.1→¬k < fr→left D P k=[]
def NextN (fr ub:Key) (D:Nat) (P:List Plc):Prop:=∀k,¬k < fr→inTo ub k→left D P k=[]
def addIt (I:List It) (key:Key) (s:Option Key):List It:=I++(s.map fun v=> (key,v)).toList
structure ScI (V:Key→Option Key) (fr ub:Key) (D:Nat) (I:List It) (key:Key) (s:Option Key) (P:List Plc):Prop where
 inv:SInv fr D P
 rise:Rising I
 mem:∀x∈I,x.1 < key∧¬x.1 < fr∧inTo ub x.1
 past:∀k,¬k < fr→k < key→left D P k=[]∧look I k=V k
 here:¬key < fr→V key=afterAll (left D P key) key s
 rest:∀k,¬k < fr→key < k→V k=afterAll (left D P k) k none
 st:s=none∨¬key < fr∧inTo ub key
 len:∀v,s=some v→v.length≤16
theorem addIt_none (I:List It) (key:Key):addIt I key none=I:=by simp [addIt]
theorem addIt_some (I:List It) (key v:Key):addIt I key (some v)=I++[(key,v)]:=rfl
theorem addIt_rise {I:List It} {key:Key} (h:Rising I) (c:∀x∈I,x.1 < key) (s:Option Key):Rising (addIt I key s):=by
 cases s with
 | none=> rw [addIt_none];exact h
 | some v=>
  rw [addIt_some]
  exact List.pairwise_append.2 ⟨h,List.pairwise_singleton ..,fun x a y b=> by rw [List.mem_singleton.1 b];exact c x a⟩
theorem addIt_look {I:List It} {key:Key} (c:∀x∈I,x.1 < key) (s:Option Key) (k:Key):look (addIt I key s) k=if k=key then s else look I k:=by
 have a:look I key=none:=look_none fun x b e=> by have:=c x b;rw [e] at this;exact lt_ir _ this
 cases s with
 | none=>
  rw [addIt_none]
  by_cases e:k=key
  ·rw [if_pos e,e,a]
  ·rw [if_neg e]
 | some v=>
  rw [addIt_some,look_append]
  by_cases e:k=key
  ·rw [if_pos e,e,a];simp [look]
  ·rw [if_neg e]
   have:look [(key,v)] k=none:=by rw [look,if_neg fun z=> e z.symm];rfl
   rw [this];simp
theorem ScI.start {V:Key→Option Key} {b ub:Key} {D:Nat} {P:List Plc} (hi:SInv b D P) (c:∀k,¬k < b→V k=afterAll (left D P k) k none):ScI V b ub D [] [] none P:=
 ⟨hi,List.Pairwise.nil,fun x d=> absurd d (by simp),fun k _ a=> absurd a (by simp),fun h=> c _ h,fun k a _=> c k a,.inl rfl,fun v e=> by cases e⟩
theorem one_self (s:Option Key) (c:Ch):one c.2.1 s c=after s c:=if_pos rfl
theorem ScI.stay {V:Key→Option Key} {g ub:Key} {D:Nat} {I:List It} {key:Key} {s:Option Key} {P i:List Plc} {c:Ch} (h:ScI V g ub D I key s P) (d:NextS g ub D P c i) (f:c.2.1=key):ScI V g ub D I key (after s c) i:=by
 refine ⟨d.inv,h.rise,h.mem,fun k b a=> ?_,fun b=> ?_,fun k b a=> ?_,.inr ⟨by rw [←f];exact d.ge,by rw [←f];exact d.ub'⟩,fun v l=> after_some (okCh_key d.okc).2 l⟩
 ·have j:=h.past k b a
  rw [←d.same k (fun e=> by rw [e,f] at a;exact lt_ir _ a) b];exact j
 ·rw [h.here b,←f,d.here,afterAll_cons,one_self]
 ·rw [h.rest k b a,d.same k (fun e=> by rw [e,f] at a;exact lt_ir _ a) b]
theorem ScI.turn {V:Key→Option Key} {n ub:Key} {D:Nat} {I:List It} {key:Key} {s:Option Key} {P o:List Plc} {c:Ch} (h:ScI V n ub D I key s P) (b:NextS n ub D P c o) (t:c.2.1≠key):ScI V n ub D (addIt I key s) c.2.1 (after none c) o:=by
 have d:key < c.2.1:=by
  refine Classical.byContradiction fun q=> ?_
  have a:c.2.1 < key:=Classical.byContradiction fun z=> t (tri _ _ z q)
  have:=(h.past _ b.ge a).1
  rw [b.here] at this;cases this
 have j:∀x∈I,x.1 < key:=fun x g=> (h.mem x g).1
 refine ⟨b.inv,addIt_rise h.rise j s,fun x g=> ?_,fun k f a=> ?_,fun f=> ?_,fun k f a=> ?_,.inr ⟨b.ge,b.ub'⟩,fun v r=> after_some (okCh_key b.okc).2 r⟩
 ·rcases List.mem_append.1 g with q | q
  ·have:=h.mem x q;exact ⟨lt_tr this.1 d,this.2⟩
  ·cases i:s with
   | none=> rw [i] at q;simp at q
   | some v=>
    rw [i] at q;simp at q
    rcases h.st with z | z
    ·rw [z] at i;cases i
    ·rw [q];exact ⟨d,z.1,z.2⟩
 ·have l:k≠c.2.1:=fun e=> by rw [e] at a;exact lt_ir _ a
  have m:=b.ahead k a f
  rw [←b.same k l f]
  refine ⟨m,?_⟩
  rw [addIt_look j]
  by_cases e:k=key
  ·subst e
   rw [if_pos rfl,h.here f,m];rfl
  ·rw [if_neg e]
   by_cases q:k < key
   ·exact (h.past k f q).2
   ·have p:key < k:=Classical.byContradiction fun z=> e (tri _ _ q z)
    rw [h.rest k f p,m]
    exact look_none fun x g e=> by have:=j x g;rw [e] at this;exact q this
 ·rw [h.rest _ b.ge d,b.here,afterAll_cons,one_self]
 ·rw [h.rest k f (lt_tr d a),b.same k (fun e=> by rw [e] at a;exact lt_ir _ a) f]
open Classical in
theorem ScI.told {V:Key→Option Key} {d ub:Key} {D:Nat} {I:List It} {key:Key} {s:Option Key} {P:List Plc} (h:ScI V d ub D I key s P) (i:NextN d ub D P):Rising (addIt I key s)∧∀k,(¬k < d∧inTo ub k→look (addIt I key s) k=V k)∧(¬(¬k < d∧inTo ub k)→look (addIt I key s) k=none):=by
 have c:∀x∈I,x.1 < key:=fun x b=> (h.mem x b).1
 refine ⟨addIt_rise h.rise c s,fun k=> ⟨fun a=> ?_,fun a=> ?_⟩⟩
 ·rw [addIt_look c]
  have f:=i k a.1 a.2
  by_cases e:k=key
  ·subst e;rw [if_pos rfl,h.here a.1,f];rfl
  ·rw [if_neg e]
   by_cases q:k < key
   ·exact (h.past k a.1 q).2
   ·have g:key < k:=Classical.byContradiction fun z=> e (tri _ _ q z)
    rw [h.rest k a.1 g,f]
    exact look_none fun x b e=> by have:=c x b;rw [e] at this;exact q this
 ·rw [addIt_look c]
  by_cases e:k=key
  ·rw [if_pos e]
   rcases h.st with z | z
   ·exact z
   ·rw [←e] at z;exact absurd z a
  ·rw [if_neg e]
   exact look_none fun x b e=> by have:=h.mem x b;rw [e] at this;exact a this.2
end Go.Proofs.YtolgpnaoaodepaaGreat.Tr
namespace Go.Proofs.YtolgpnaoaodepaaGreat.Tr
structure Opened (fr:Key) (D:Nat) (P P1:List Plc):Prop where
 inv:SInv fr D P1
 fits:size P1≤size P
 cn:cnt P1≤cnt P
 same:∀k,¬k < fr→left D P k=left D P1 k
theorem Opened.start {a:Key} {D:Nat} {P:List Plc} (h:SInv a D P):Opened a D P P:=⟨h,Nat.le_refl _,Nat.le_refl _,fun _ _=> rfl⟩
theorem size_perm {P Q:List Plc} (h:P.Perm Q):size P=size Q:=(h.map Plc.size).sum_nat
theorem Opened.perm {b:Key} {D:Nat} {P c d:List Plc} (h:Opened b D P c) (a:c.Perm d):Opened b D P d:=
 ⟨h.inv.perm a,by rw [←size_perm a];exact h.fits,by rw [←cnt_perm a];exact h.cn,fun k e=> (h.same k e).trans (left_perm a h.inv k)⟩
theorem Opened.open' {a:Key} {D L h:Nat} {f:Key} {m:Option Key} {t:TreeT h} {P R:List Plc} {c:List Ch} (b:Opened a D P (.nd f L h m t::R)) (e:Scd a (nodeCh h t) c):Opened a D P (kidsFrom a L m h t++(lay L f m c++R))∧size (kidsFrom a L m h t++(lay L f m c++R)) < size (.nd f L h m t::R):=by
 obtain ⟨g,i,j⟩:=step_nd b.inv e
 exact ⟨⟨g,by have:=b.fits;omega,Nat.le_trans (cnt_open e) b.cn,fun k d=> (b.same k d).trans (i k d)⟩,j⟩
theorem Opened.take {o ub:Key} {D L:Nat} {f:Key} {m:Option Key} {c:Ch} {a:List Ch} {P R p:List Plc} (b:Opened o D P (.ch L f m c a::R)) (d:∀q∈R,¬q.less (.ch L f m c a)) (n:inTo ub c.2.1) (e:p.Perm (lay L f m a++R)):NextS o ub D P c p:=by
 obtain ⟨i,t,u,v⟩:=step_ch b.inv d
 have g:=b.inv.ok _ (List.mem_cons_self ..)
 have h:=g.2.2 c (List.mem_cons_self ..)
 have r:size (lay L f m a++R) < size (.ch L f m c a::R):=by
  rw [size_append,size_lay,size_cons]
  show _ < a.length+1+_
  omega
 have s:cnt (lay L f m a++R) < cnt (.ch L f m c a::R):=by
  rw [cnt_append,cnt_lay,cnt_cons]
  show _ < a.length+1+_
  omega
 refine ⟨i.perm e.symm,by rw [size_perm e];have:=b.fits;omega,by rw [cnt_perm e];have:=b.cn;omega,h.2.2,h.1,n,?_,fun k j l=> ?_,fun k j l=> ?_⟩
 ·rw [b.same _ h.1,t,left_perm e.symm i]
 ·rw [b.same k l,u k j,left_perm e.symm i]
 ·rw [b.same k l,v k j]
theorem Opened.stop {d ub:Key} {D:Nat} {p:Plc} {P R:List Plc} (e:Opened d D P (p::R)) (a:∀q∈R,¬q.less p) (b:¬inTo ub p.key):NextN d ub D P:=fun k f c=> by
 rw [e.same k f]
 refine left_ahead e.inv a ?_
 rcases c with q | q
 ·exact absurd (.inl q) b
 ·exact lt_le q (fun z=> b (.inr z))
theorem Opened.none {a ub:Key} {D:Nat} {P:List Plc} (c:Opened a D P []):NextN a ub D P:=fun k b _=> by
 rw [c.same k b]
 exact down_nil fun _ _=> rfl
end Go.Proofs.YtolgpnaoaodepaaGreat.Tr
namespace Go.Proofs.YtolgpnaoaodepaaGreat.Tr
def Plc.wt:Plc→Nat
 | .inl ⟨_,_,h,_,t⟩=> Tr.wt h t
 | .inr ⟨_,_,_,_,_⟩=> 1
def wtP (P:List Plc):Nat:=(P.map Plc.wt).sum
theorem wtP_cons (p:Plc) (P:List Plc):wtP (p::P)=p.wt+wtP P:=by simp [wtP]
theorem wtP_append (P Q:List Plc):wtP (P++Q)=wtP P+wtP Q:=by simp [wtP]
theorem wtP_perm {P Q:List Plc} (h:P.Perm Q):wtP P=wtP Q:=(h.map Plc.wt).sum_nat
theorem wtP_lay (L:Nat) (f:Key) (m:Option Key) (a:List Ch):wtP (lay L f m a)≤a.length∧wtP (lay L f m a)≤1:=by cases a <;> simp [lay,wtP,Plc.wt]
theorem wtP_nodes {L h:Nat} {hi:Option Key}:∀(a:List (Key×TreeT h)),wtP (nodes L a hi)=wts a
 | []=> rfl
 | (f,t)::r=> by rw [nodes,wtP_cons,wtP_nodes r,wts_cons];rfl
theorem wtP_len {b:Key} {D:Nat}:∀{P:List Plc},(∀p∈P,p.ok b D)→P.length≤wtP P
 | [],_=> Nat.zero_le _
 | p::P,h=> by
  have d:=wtP_len fun q a=> h q (List.mem_cons_of_mem _ a)
  have e:1≤p.wt:=by
   have:=h p (List.mem_cons_self ..)
   cases p using Tr.Plc.two with
   | nd f L h' m t=> exact wt_pos this.2.2.1 this.1
   | ch L f m c cs=> exact Nat.le_refl _
  rw [wtP_cons,List.length_cons];omega
theorem wtP_open {c:Key} {D L h:Nat} {f:Key} {m:Option Key} {t:TreeT h} {R:List Plc} {e:List Ch} (d:(Plc.nd f L h m t).ok c D) (i:Scd c (nodeCh h t) e):wtP (kidsFrom c L m h t++(lay L f m e++R))≤wtP (.nd f L h m t::R):=by
 rw [wtP_append,wtP_append,wtP_cons]
 have j:=wtP_lay L f m e
 have k:=i.len
 show _≤Tr.wt h t+_
 cases h with
 | zero=>
  have:=wt_pos d.2.2.1 d.1
  show 0+_≤_
  omega
 | succ h=>
  obtain ⟨a,b⟩:=t
  rw [kidsFrom,wtP_nodes]
  have l:wts (a.drop (ix (a.map (·.1)) c))≤wts a:=by
   have:=List.take_append_drop (ix (a.map (·.1)) c) a
   have g:=congrArg wts this
   rw [wts_append] at g
   omega
  have g:(nodeCh (h+1) (a,b)).length=b.length:=rfl
  show _≤2*b.length+wts a+((a.length - 1)+(2 - a.length))+_
  omega
theorem perm_map {α β:Type} (f:α→β) {M N:List β} (h:M.Perm N):∀L:List α,L.map f=M→∃d,L.Perm d∧d.map f=N:=by
 induction h with
 | nil=> intro L c;exact ⟨L,List.Perm.refl _,c⟩
 | cons x _ ih=>
  intro L c
  cases L with
  | nil=> cases c
  | cons y r=>
   simp only [List.map_cons,List.cons.injEq] at c
   obtain ⟨d,e,g⟩:=ih r c.2
   exact ⟨y::d,e.cons y,by rw [List.map_cons,g,c.1]⟩
 | swap x y r=>
  intro L c
  match L,c with
  | a::b::r',c=>
   simp only [List.map_cons,List.cons.injEq] at c
   exact ⟨b::a::r',List.Perm.swap _ _ _,by rw [List.map_cons,List.map_cons,c.1,c.2.1,c.2.2]⟩
 | trans _ _ ih1 ih2=>
  intro L c
  obtain ⟨i,e,g⟩:=ih1 L c
  obtain ⟨j,k,l⟩:=ih2 i g
  exact ⟨j,e.trans k,l⟩
end Go.Proofs.YtolgpnaoaodepaaGreat.Tr
namespace Go.Proofs.YtolgpnaoaodepaaGreat
open Go.RowKit
theorem ltK_ord (K:Nat→ByteArray×Nat):Hp.Ord (ltK K):=by
 have d:∀a b,ltK K a b↔((K a).1.data.toList < (K b).1.data.toList∨(K a).1.data.toList=(K b).1.data.toList∧(K b).2 < (K a).2):=fun a b=> by
  unfold ltK lessB
  by_cases e:(K a).1.data.toList=(K b).1.data.toList
  ·rw [if_pos e,decide_eq_true_eq]
   exact ⟨fun q=> .inr ⟨e,q⟩,fun q=> q.elim (fun z=> by rw [e] at z;exact absurd z (Tr.lt_ir _)) (·.2)⟩
  ·rw [if_neg e,decide_eq_true_eq]
   exact ⟨.inl,fun q=> q.elim id (fun z=> absurd z.1 e)⟩
 constructor
 ·intro a b h g
  rw [d] at h g
  rcases h with h | ⟨h,j⟩ <;> rcases g with g | ⟨g,k⟩
  ·exact Tr.lt_ir _ (Tr.lt_tr h g)
  ·rw [g] at h;exact Tr.lt_ir _ h
  ·rw [h] at g;exact Tr.lt_ir _ g
  ·omega
 ·intro a b c h g q
  rw [d] at h g q
  have f:¬(K b).1.data.toList < (K a).1.data.toList:=fun z=> h (.inl z)
  have i:¬(K c).1.data.toList < (K b).1.data.toList:=fun z=> g (.inl z)
  rcases q with q | ⟨q,l⟩
  ·exact Tr.le_tr f i q
  ·have e:(K b).1.data.toList=(K a).1.data.toList:=Tr.tri _ _ f (by rw [←q];exact i)
   exact h (.inr ⟨e,Classical.byContradiction fun z=> g (.inr ⟨by rw [q,e],by omega⟩)⟩)
theorem HpQ.congr {f:Nat} {g ub:ByteArray} {v:Value} {K i:Nat→ByteArray×Nat} {bs:List Nat} {w:World} (h:HpQ f g ub v K bs w) (d:∀b∈bs,i b=K b):HpQ f g ub v i bs w:=by
 refine ⟨h.sc,h.row,fun b e=> by rw [d b e];exact h.pl b e,fun k h0 c=> ?_⟩
 have j:Hp.nth 0 bs k∈bs:=by rw [Hp.nth_get 0 bs c];exact List.getElem_mem c
 have a:(k - 1) / 2 < bs.length:=by omega
 have l:Hp.nth 0 bs ((k - 1) / 2)∈bs:=by rw [Hp.nth_get 0 bs a];exact List.getElem_mem a
 unfold ltK
 rw [d _ j,d _ l]
 exact h.heap k h0 c
variable {A:List Nat}
def PlM (w0:World) (A:List Nat) (W:World) (b:Nat) (kv:ByteArray×Nat):Tr.Plc→Prop
 | .inl ⟨f,L,h,_,t⟩=> kv.1.data.toList=f∧kv.2=L∧∃p F,PlB W b kv.1 L (some ⟨p,0,none⟩) (.slice none 0 0)∧Rep h w0 p t F
 | .inr ⟨L,_,_,c,cs⟩=> kv.1.data.toList=c.2.1∧kv.2=L∧∃g o cap ml cur,PlB W b kv.1 L none (.slice (some ⟨g,o,none⟩) ml.length cap)∧plainCh ml=c::cs∧W.heap[g]?=some (.cells cur 34 (0,0))∧(∀j u,(ccells ml)[j]?=some u→W.cell? ⟨g,o+j,none⟩=some u)∧ml.length≤cap∧g∉A∧ml.length≤1000
theorem PlM.plb {w0 W:World} {b:Nat} {kv:ByteArray×Nat} {p:Tr.Plc} (h:PlM w0 A W b kv p):(∃l ch,PlB W b kv.1 kv.2 l ch)∧kv.1.data.toList=p.key∧kv.2=p.lv:=by
 cases p using Tr.Plc.two with
 | nd f L h' m t=> obtain ⟨d,a,p,F,e,i⟩:=h;exact ⟨⟨_,_,by rw [a];exact e⟩,d,a⟩
 | ch L f m c cs=> obtain ⟨d,a,g,o,j,ml,k,e,i⟩:=h;exact ⟨⟨_,_,by rw [a];exact e⟩,d,a⟩
theorem PlM.keep {w0 W W':World} {b C:Nat} {kv:ByteArray×Nat} {p:Tr.Plc} {K ub:ByteArray} {v:Value} {bs:List Nat} (h:PlM w0 A W b kv p) (d:ScB W C K ub v) (D:OwnsPt 0 W v bs) (E:∀g,g < W.heap.size→g≠C→v.ownBlock≠some g→W'.heap[g]?=W.heap[g]?):PlM w0 A W' b kv p:=by
 have i:∀z T,W.heap[b]?=some (.cells z T (0,0))→T=139→W'.heap[b]?=W.heap[b]?:=fun z T B I=> by
  subst I
  refine E b (Array.getElem?_eq_some_iff.1 B).1 (fun e=> ?_) (blk_type B D (by decide))
  subst e;unfold ScB at d;rw [B] at d;simp at d
 cases p using Tr.Plc.two with
 | nd f L h' m t=>
  obtain ⟨q,r,p,F,l,s⟩:=h
  exact ⟨q,r,p,F,(i _ _ l rfl).trans l,s⟩
 | ch L f m c z=>
  obtain ⟨q,r,g,o,x,ml,y,l,s,n,G,H⟩:=h
  have k:W'.heap[g]?=W.heap[g]?:=by
   refine E g (Array.getElem?_eq_some_iff.1 n).1 (fun e=> ?_) (blk_type n D (by decide))
   subst e;unfold ScB at d;rw [n] at d;simp at d
  exact ⟨q,r,g,o,x,ml,y,(i _ _ l rfl).trans l,s,k.trans n,fun j u J=> (World.cell?_of_block (w:=W) (a:=⟨g,o+j,none⟩) k).trans (G j u J),H⟩
theorem lt_less {w0 W:World} {K:Nat→ByteArray×Nat} {a b:Nat} {p q:Tr.Plc} (h:PlM w0 A W a (K a) p) (i:PlM w0 A W b (K b) q):p.less q↔ltK K a b:=by
 obtain ⟨-,c,d⟩:=h.plb
 obtain ⟨-,f,g⟩:=i.plb
 unfold Tr.Plc.less ltK lessB
 rw [←c,←f,←d,←g]
 by_cases e:(K a).1.data.toList=(K b).1.data.toList
 ·rw [if_pos e,decide_eq_true_eq]
  exact ⟨fun q=> q.elim (fun z=> by rw [e] at z;exact absurd z (Tr.lt_ir _)) (·.2),fun q=> .inr ⟨e,q⟩⟩
 ·rw [if_neg e,decide_eq_true_eq]
  exact ⟨fun q=> q.elim id (fun z=> absurd z.1 e),.inl⟩
structure ScW (w0:World) (A:List Nat) (sb:Nat) (fr ub:ByteArray) (P:List Tr.Plc) (v:Value) (K:Nat→ByteArray×Nat) (L:List (Nat×Tr.Plc)) (W:World):Prop where
 hp:HpQ sb fr ub v K (L.map (·.1)) W
 pm:(L.map (·.2)).Perm P
 pl:∀x∈L,PlM w0 A W x.1 (K x.1) x.2
 bel:Below w0.heap.size w0 W
 sbn:w0.heap.size≤sb
 vn:∀g,v.ownBlock=some g→w0.heap.size≤g
def ScM (w0:World) (A:List Nat) (sb:Nat) (fr ub:ByteArray) (P:List Tr.Plc) (W:World):Prop:=∃v K L,ScW w0 A sb fr ub P v K L W
theorem ScW.below {w0:World} {e:Nat} {f ub:ByteArray} {P:List Tr.Plc} {v:Value} {K:Nat→ByteArray×Nat} {L:List (Nat×Tr.Plc)} {W W':World} (h:ScW w0 A e f ub P v K L W) (a:Below W.heap.size W W'):ScW w0 A e f ub P v K L W':=by
 refine ⟨⟨(a.block e h.hp.sc.lt).trans h.hp.sc,row_below h.hp.row a (Nat.le_refl _),fun b d=> by obtain ⟨u,c,q⟩:=h.hp.pl b d;exact ⟨u,c,(a.block b q.lt).trans q⟩,h.hp.heap⟩,h.pm,fun x i=> (h.pl x i).keep h.hp.sc h.hp.row fun g j _ _=> a.block g j,h.bel.trans (a.mono h.bel.size),h.sbn,h.vn⟩
end Go.Proofs.YtolgpnaoaodepaaGreat
