import Derived.Test.YtolgpnaoaodepaaGreatScaHm
import Derived.Test.YtolgpnaoaodepaaGreatTreZNm
namespace Go.Proofs.YtolgpnaoaodepaaGreat
open Go.RowKit
theorem PlB.ne {w:World} {b c:Nat} {key:ByteArray} {d:Nat} {f:Option Addr} {g:Value} {i ub:ByteArray} {v:Value} (h:PlB w b key d f g) (a:ScB w c i ub v):b≠c:=fun e=> by
 subst e;unfold PlB at h;unfold ScB at a;rw [h] at a;simp at a
theorem Ap4 (bs:List Nat) (b:Nat) {k:Nat} (a:k < bs.length):Hp.nth 0 (bs++[b]) k=Hp.nth 0 bs k:=by
 unfold Hp.nth;rw [List.getElem?_append_left a]
set_option maxHeartbeats 400000 in
set_option maxRecDepth 4000 in
theorem Ak9 (f:Nat) (B ub:ByteArray) (v:Value) (K:Nat->ByteArray×Nat) (bs:List Nat) (b:Nat) (w:World) (h:HpQ f B ub v K bs w) (X:∃y A,PlB w b (K b).1 (K b).2 y A) (hl:bs.length<=20000000) (O:Hp.Ord (ltK K)):
  Calls Tryz.prog 186 #[.iface 193 (.pointer (some ⟨f,2,none⟩)),.iface 137 (.pointer (some ⟨b,0,none⟩))] w fun r w'=> r= .returned (.tuple #[])/\∃d M,d.Perm (b::bs)/\HpQ f B ub M K d w'/\(M.ownBlock=v.ownBlock\/∃k,w.heap.size<=k/\M.ownBlock=some k)/\Mod (fun g=> g=f\/v.ownBlock=some g) w w':=by
 have N:=hid (Ak8 f B ub v bs b w h.sc h.row (by omega));have H:=hid h;have Y:=hid X;have Z:=hid O;have a0:=fun w'=> Ar2 ⟨f,2,none⟩ w'
 clear h X O;go_enter Tryz.func186,Tryz.ntmps186;go_wp2_with fail;refine N.out.mono ?_;rintro r l ⟨rfl,v1,i,j,t,J⟩;have a:∀c key L y A,PlB w c key L y A->PlB l c key L y A:=fun c key L y A q=> (J.block c q.lt (fun e=> by
  rcases e with e | e
  ·exact q.ne H.out.sc e
  ·exact Dd q H.out.row (by decide) e)).trans q
 have n:PlK l K (bs++[b]):=fun c hc=> by
  rcases List.mem_append.1 hc with q | q
  ·obtain ⟨u,I,z⟩:=H.out.pl c q;exact ⟨u,I,a _ _ _ _ _ z⟩
  ·rw [List.mem_singleton.1 q];obtain ⟨u,I,z⟩:=Y.out;exact ⟨u,I,a _ _ _ _ _ z⟩
 have R:Hp.Mu (ltK K) (Hp.nth 0 (bs++[b])) bs.length:=H.out.heap.congr fun k W=> Ap4 bs b W
 have F:=hid (Ap1 f B ub v1 K (bs++[b]) bs.length l i j n (by simp) (by simp;omega) R Z.out);obtain ⟨C,D,rfl⟩:=Ab j;have o:(bs++[b]).length=bs.length+1:=by simp
 rw [o] at i F;have a2:=Ar3 ⟨f,2,none⟩ l _ i.cells.2.2.1;have S:=hid (Aez C (bs.length+1) D l);have p:=hid J;have s:=hid t;have xw:IntKind.i64.wrap (((bs.length+1:Nat):Int) - 1)=(bs.length:Int):=by rw [IntKind.wrap_i64];omega
 have a3:IntKind.i64.wrap ((bs.length:Int)+1 - 1)=(bs.length:Int):=by rw [IntKind.wrap_i64];omega
 clear i j t J a n R N;go_wp2_with fail;refine S.out.mono ?_;rintro r l ⟨rfl,rfl⟩;go_wp2_with fail;refine F.out.mono ?_;rintro r U ⟨rfl,d,m,V⟩;have HF:Hid (d.Perm (b::bs)/\HpQ f B ub (.slice C (bs.length+1) D) K d U/\((Value.slice C (bs.length+1) D).ownBlock=v.ownBlock\/∃k,w.heap.size<=k/\(Value.slice C (bs.length+1) D).ownBlock=some k)/\Mod (fun g=> g=f\/v.ownBlock=some g) w U):=by
  have T:d.Perm (b::bs):=m.perm.trans List.perm_append_comm;have G:=s.out;rw [o] at G;refine ⟨T,⟨m.sc,m.row,m.pl,?_⟩,G,p.out.trans (Mod.of_grown m.gr) (fun _ _ q=> q) (fun g hg q=> ?_)⟩
  ·rw [T.length_eq];exact V
  ·rcases G with z | ⟨k,W,z⟩
   ·rw [z] at q;exact .inr q
   ·rw [z] at q;have:=Option.some.inj q;omega
 clear m V F S p s;go_wp2_with fail;go_end0;exact ⟨rfl,_,_,HF.out⟩
end Go.Proofs.YtolgpnaoaodepaaGreat
namespace Go.Proofs.YtolgpnaoaodepaaGreat.Tr
def Aaf:(h:Nat)->Ac h->Nat
 | 0,l=> (its l).length
 | h+1,(ps,cs)=> cs.length+(ps.map fun p=> Aaf h p.2).sum
def Plc.cnt:Plc->Nat
 | .inl ⟨_,_,h,_,t⟩=> Aaf h t
 | .inr ⟨_,_,_,_,cs⟩=> cs.length+1
def cnt (P:List Plc):Nat:=(P.map Plc.cnt).sum
theorem Yl (p:Plc) (P:List Plc):cnt (p::P)=p.cnt+cnt P:=by simp [cnt]
theorem Qd (P Q:List Plc):cnt (P++Q)=cnt P+cnt Q:=by simp [cnt]
theorem Aiq (L:Nat) (f:Key) (m:Option Key) (a:List Ch):cnt (lay L f m a)=a.length:=by cases a <;> simp [lay,cnt,Plc.cnt]
theorem Abq {L h:Nat} {hi:Option Key}:∀(a:List (Key×Ac h)),cnt (Gy L a hi)=(a.map fun p=> Aaf h p.2).sum
 | []=> rfl
 | (f,t)::r=> by rw [Gy,Yl,Abq r];rfl
theorem Af4 {P Q:List Plc} (h:P.Perm Q):cnt P=cnt Q:=(h.map Plc.cnt).sum_nat
theorem Amr {c:Key} {L h:Nat} {f:Key} {m:Option Key} {t:Ac h} {R:List Plc} {d:List Ch} (i:Scd c (nodeCh h t) d):cnt (kidsFrom c L m h t++(lay L f m d++R))<=cnt (.nd f L h m t::R):=by
 rw [Qd,Qd,Yl,Aiq];have j:=i.len;show _<=Aaf h t+_
 cases h with
 | zero=>
  show 0+_<=(its t).length+_;have:(nodeCh 0 t).length=(its t).length:=List.length_map ..;omega
 | succ h=>
  obtain ⟨b,a⟩:=t;rw [kidsFrom,Abq];have g:=Aev (b.map fun p=> Aaf h p.2) (ix (b.map (·.1)) c);rw [<-List.map_drop] at g;have k:(nodeCh (h+1) (b,a)).length=a.length:=rfl;show _<=a.length+(b.map fun p=> Aaf h p.2).sum+_;omega
theorem wgD {h:Nat} (H:∀ {lo:Key} {hi:Option Key} {t:Ac h},WF h lo hi t->Top h t->Aaf h t<=16*wt h t):∀ (ps:List (Key×Ac h)) {lo hi:Option Key},Ba (fun f m t=> WF h f m t/\Top h t) lo hi ps->(ps.map fun p=> Aaf h p.2).sum<=16*(ps.map fun p=> wt h p.2).sum
 | [],_,_,_=> by simp
 | (f,t)::r,lo,hi,⟨_,m,_,h2,h3⟩=> by
  have a:=H h2.1 h2.2;have b:=wgD H r h3;simp only [List.map_cons,List.sum_cons];omega
theorem Air:∀(h:Nat) {lo:Key} {hi:Option Key} {t:Ac h},WF h lo hi t->Top h t->Aaf h t<=16*wt h t
 | 0,lo,hi,l,_,ht=> by
  have a:(its l).length<=16:=ht;show (its l).length<=16*(1+2*((its l).length - 16));omega
 | h+1,lo,hi,(ps,cs),hw,_=> by
  have a:=wgD (fun a b=>Air h a b) ps hw.1;show cs.length+(ps.map fun p=> Aaf h p.2).sum<=16*(2*cs.length+(ps.map fun p=> wt h p.2).sum+((ps.length - 1)+(2 - ps.length)));omega
def Ns (ub k:Key):Prop:=ub=[]\/k < ub
structure Ym (fr ub:Key) (D:Nat) (P:List Plc) (c:Ch) (P':List Plc):Prop where
 inv:Mt fr D P'
 size:size P' < size P
 cn:cnt P' < cnt P
 okc:Ew c
 ge:¬c.2.1 < fr
 ub':Ns ub c.2.1
 here:left D P c.2.1=c::left D P' c.2.1
 same:∀k,k≠c.2.1->¬k < fr->left D P k=left D P' k
 ahead:∀k,k < c.2.1->¬k < fr->left D P k=[]
def Yn (fr ub:Key) (D:Nat) (P:List Plc):Prop:=∀k,¬k < fr->Ns ub k->left D P k=[]
def Pk (I:List It) (key:Key) (s:Option Key):List It:=I++(s.map fun v=> (key,v)).toList
structure ScI (V:Key->Option Key) (fr ub:Key) (D:Nat) (I:List It) (key:Key) (s:Option Key) (P:List Plc):Prop where
 inv:Mt fr D P
 rise:Bi I
 mem:∀x∈I,x.1 < key/\¬x.1 < fr/\Ns ub x.1
 past:∀k,¬k < fr->k < key->left D P k=[]/\Bj I k=V k
 here:¬key < fr->V key=Aj (left D P key) key s
 rest:∀k,¬k < fr->key < k->V k=Aj (left D P k) k none
 st:s=none\/¬key < fr/\Ns ub key
 len:∀v,s=some v->v.length<=16
theorem Yo (I:List It) (key:Key):Pk I key none=I:=by simp [Pk]
theorem Yp (I:List It) (key v:Key):Pk I key (some v)=I++[(key,v)]:=rfl
theorem Yq {I:List It} {key:Key} (h:Bi I) (c:∀x∈I,x.1 < key) (s:Option Key):Bi (Pk I key s):=by
 cases s with
 | none=> rw [Yo];exact h
 | some v=>
  rw [Yp];exact List.pairwise_append.2 ⟨h,List.pairwise_singleton ..,fun x a y b=> by rw [List.mem_singleton.1 b];exact c x a⟩
theorem Qe {I:List It} {key:Key} (c:∀x∈I,x.1 < key) (s:Option Key) (k:Key):Bj (Pk I key s) k=if k=key then s else Bj I k:=by
 have a:Bj I key=none:=Ce fun x b e=> by have:=c x b;rw [e] at this;exact lt_ir _ this
 cases s with
 | none=>
  rw [Yo];by_cases e:k=key
  ·rw [if_pos e,e,a]
  ·rw [if_neg e]
 | some v=>
  rw [Yp,Es];by_cases e:k=key
  ·rw [if_pos e,e,a];simp [Bj]
  ·rw [if_neg e];have:Bj [(key,v)] k=none:=(by rw [Bj,if_neg fun z=> e z.symm];rfl);rw [this];simp
theorem ScI.start {V:Key->Option Key} {b ub:Key} {D:Nat} {P:List Plc} (hi:Mt b D P) (c:∀k,¬k < b->V k=Aj (left D P k) k none):ScI V b ub D [] [] none P:=
 ⟨hi,List.Pairwise.nil,fun x d=> absurd d (by simp),fun k _ a=> absurd a (by simp),fun h=> c _ h,fun k a _=> c k a,.inl rfl,fun v f=> by cases f⟩
theorem Af5 (s:Option Key) (c:Ch):one c.2.1 s c=Di s c:=if_pos rfl
theorem ScI.stay {V:Key->Option Key} {g ub:Key} {D:Nat} {I:List It} {key:Key} {s:Option Key} {P i:List Plc} {c:Ch} (h:ScI V g ub D I key s P) (d:Ym g ub D P c i) (f:c.2.1=key):ScI V g ub D I key (Di s c) i:=by
 refine ⟨d.inv,h.rise,h.mem,fun k b a=> ?_,fun b=> ?_,fun k b a=> ?_,.inr ⟨by rw [<-f];exact d.ge,by rw [<-f];exact d.ub'⟩,fun v l=> Lw (Jp d.okc).2 l⟩
 ·have j:=h.past k b a;rw [<-d.same k (fun e=> by rw [e,f] at a;exact lt_ir _ a) b];exact j
 ·rw [h.here b,<-f,d.here,Dc,Af5]
 ·rw [h.rest k b a,d.same k (fun e=> by rw [e,f] at a;exact lt_ir _ a) b]
theorem ScI.turn {V:Key->Option Key} {n ub:Key} {D:Nat} {I:List It} {key:Key} {s:Option Key} {P o:List Plc} {c:Ch} (h:ScI V n ub D I key s P) (b:Ym n ub D P c o) (t:c.2.1≠key):ScI V n ub D (Pk I key s) c.2.1 (Di none c) o:=by
 have d:key < c.2.1:=by
  refine Classical.byContradiction fun q=> ?_
  have a:c.2.1 < key:=Classical.byContradiction fun z=> t (tri _ _ z q)
  have:=(h.past _ b.ge a).1;rw [b.here] at this;cases this
 have j:∀x∈I,x.1 < key:=fun x g=> (h.mem x g).1
 refine ⟨b.inv,Yq h.rise j s,fun x g=> ?_,fun k f a=> ?_,fun f=> ?_,fun k f a=> ?_,.inr ⟨b.ge,b.ub'⟩,fun v r=> Lw (Jp b.okc).2 r⟩
 ·rcases List.mem_append.1 g with q | q
  ·have:=h.mem x q;exact ⟨Cz this.1 d,this.2⟩
  ·cases i:s with
   | none=> rw [i] at q;simp at q
   | some v=>
    rw [i] at q;simp at q;rcases h.st with z | z
    ·rw [z] at i;cases i
    ·rw [q];exact ⟨d,z.1,z.2⟩
 ·have l:k≠c.2.1:=fun e=> by rw [e] at a;exact lt_ir _ a
  have m:=b.ahead k a f;rw [<-b.same k l f];refine ⟨m,?_⟩;rw [Qe j];by_cases e:k=key
  ·subst e;rw [if_pos rfl,h.here f,m];rfl
  ·rw [if_neg e];by_cases q:k < key
   ·exact (h.past k f q).2
   ·have p:key < k:=Classical.byContradiction fun z=> e (tri _ _ q z)
    rw [h.rest k f p,m];exact Ce fun x g e=> by have:=j x g;rw [e] at this;exact q this
 ·rw [h.rest _ b.ge d,b.here,Dc,Af5]
 ·rw [h.rest k f (Cz d a),b.same k (fun e=> by rw [e] at a;exact lt_ir _ a) f]
open Classical in
theorem ScI.told {V:Key->Option Key} {d ub:Key} {D:Nat} {I:List It} {key:Key} {s:Option Key} {P:List Plc} (h:ScI V d ub D I key s P) (i:Yn d ub D P):Bi (Pk I key s)/\∀k,(¬k < d/\Ns ub k->Bj (Pk I key s) k=V k)/\(¬(¬k < d/\Ns ub k)->Bj (Pk I key s) k=none):=by
 have c:∀x∈I,x.1 < key:=fun x b=> (h.mem x b).1
 refine ⟨Yq h.rise c s,fun k=> ⟨fun a=> ?_,fun a=> ?_⟩⟩
 ·rw [Qe c];have f:=i k a.1 a.2;by_cases e:k=key
  ·subst e;rw [if_pos rfl,h.here a.1,f];rfl
  ·rw [if_neg e];by_cases q:k < key
   ·exact (h.past k a.1 q).2
   ·have g:key < k:=Classical.byContradiction fun z=> e (tri _ _ q z)
    rw [h.rest k a.1 g,f];exact Ce fun x b e=> by have:=c x b;rw [e] at this;exact q this
 ·rw [Qe c];by_cases e:k=key
  ·rw [if_pos e];rcases h.st with z | z
   ·exact z
   ·rw [<-e] at z;exact absurd z a
  ·rw [if_neg e];exact Ce fun x b e=> by have:=h.mem x b;rw [e] at this;exact a this.2
structure Gc (fr:Key) (D:Nat) (P P1:List Plc):Prop where
 inv:Mt fr D P1
 fits:size P1<=size P
 cn:cnt P1<=cnt P
 same:∀k,¬k < fr->left D P k=left D P1 k
theorem Gc.start {a:Key} {D:Nat} {P:List Plc} (h:Mt a D P):Gc a D P P:=⟨h,Nat.le_refl _,Nat.le_refl _,fun _ _=> rfl⟩
theorem Tj {P Q:List Plc} (h:P.Perm Q):size P=size Q:=(h.map Plc.size).sum_nat
theorem Gc.perm {b:Key} {D:Nat} {P c d:List Plc} (h:Gc b D P c) (a:c.Perm d):Gc b D P d:=
 ⟨h.inv.perm a,by rw [<-Tj a];exact h.fits,by rw [<-Af4 a];exact h.cn,fun k f=> (h.same k f).trans (Td a h.inv k)⟩
theorem Gc.open' {a:Key} {D L h:Nat} {f:Key} {m:Option Key} {t:Ac h} {P R:List Plc} {c:List Ch} (b:Gc a D P (.nd f L h m t::R)) (g:Scd a (nodeCh h t) c):Gc a D P (kidsFrom a L m h t++(lay L f m c++R))/\size (kidsFrom a L m h t++(lay L f m c++R)) < size (.nd f L h m t::R):=by
 obtain ⟨i,j,l⟩:=Aoy b.inv g;exact ⟨⟨i,by have:=b.fits;omega,Nat.le_trans (Amr g) b.cn,fun k d=> (b.same k d).trans (j k d)⟩,l⟩
theorem Gc.take {r ub:Key} {D L:Nat} {f:Key} {m:Option Key} {c:Ch} {a:List Ch} {P R s:List Plc} (b:Gc r D P (.ch L f m c a::R)) (d:∀q∈R,¬q.less (.ch L f m c a)) (p:Ns ub c.2.1) (g:s.Perm (lay L f m a++R)):Ym r ub D P c s:=by
 obtain ⟨l,y,z,A⟩:=Aox b.inv d;have i:=b.inv.ok _ (List.mem_cons_self ..);have j:=i.2.2 c (List.mem_cons_self ..);have t:size (lay L f m a++R) < size (.ch L f m c a::R):=by
  rw [size_append,Aeu,Tf];show _ < a.length+1+_;omega
 have u:cnt (lay L f m a++R) < cnt (.ch L f m c a::R):=by
  rw [Qd,Aiq,Yl];show _ < a.length+1+_;omega
 refine ⟨l.perm g.symm,by rw [Tj g];have:=b.fits;omega,by rw [Af4 g];have:=b.cn;omega,j.2.2,j.1,p,?_,fun k n o=> ?_,fun k n o=> ?_⟩
 ·rw [b.same _ j.1,y,Td g.symm l]
 ·rw [b.same k o,z k n,Td g.symm l]
 ·rw [b.same k o,A k n]
theorem Gc.stop {d ub:Key} {D:Nat} {p:Plc} {P R:List Plc} (f:Gc d D P (p::R)) (a:∀q∈R,¬q.less p) (b:¬Ns ub p.key):Yn d ub D P:=fun k g c=> by
 rw [f.same k g];refine Ahc f.inv a ?_;rcases c with q | q
 ·exact absurd (.inl q) b
 ·exact Hq q (fun z=> b (.inr z))
theorem Gc.none {a ub:Key} {D:Nat} {P:List Plc} (c:Gc a D P []):Yn a ub D P:=fun k b _=> by
 rw [c.same k b];exact Ro fun _ _=> rfl
def Plc.wt:Plc->Nat
 | .inl ⟨_,_,h,_,t⟩=> Tr.wt h t
 | .inr ⟨_,_,_,_,_⟩=> 1
def wtP (P:List Plc):Nat:=(P.map Plc.wt).sum
theorem Ru (p:Plc) (P:List Plc):wtP (p::P)=p.wt+wtP P:=by simp [wtP]
theorem Qf (P Q:List Plc):wtP (P++Q)=wtP P+wtP Q:=by simp [wtP]
theorem Ams {P Q:List Plc} (h:P.Perm Q):wtP P=wtP Q:=(h.map Plc.wt).sum_nat
theorem Ais (L:Nat) (f:Key) (m:Option Key) (a:List Ch):wtP (lay L f m a)<=a.length/\wtP (lay L f m a)<=1:=by cases a <;> simp [lay,wtP,Plc.wt]
theorem Abr {L h:Nat} {hi:Option Key}:∀(a:List (Key×Ac h)),wtP (Gy L a hi)=wts a
 | []=> rfl
 | (f,t)::r=> by rw [Gy,Ru,Abr r,Dr];rfl
theorem Acy {b:Key} {D:Nat}:∀{P:List Plc},(∀p∈P,p.ok b D)->P.length<=wtP P
 | [],_=> Nat.zero_le _
 | p::P,h=> by
  have d:=Acy fun q a=> h q (List.mem_cons_of_mem _ a)
  have g:1<=p.wt:=by
   have:=h p (List.mem_cons_self ..)
   cases p using Tr.Plc.two with
   | nd f L h' m t=> exact St this.2.2.1 this.1
   | ch L f m c cs=> exact Nat.le_refl _
  rw [Ru,List.length_cons];omega
theorem Amt {c:Key} {D L h:Nat} {f:Key} {m:Option Key} {t:Ac h} {R:List Plc} {g:List Ch} (d:(Plc.nd f L h m t).ok c D) (j:Scd c (nodeCh h t) g):wtP (kidsFrom c L m h t++(lay L f m g++R))<=wtP (.nd f L h m t::R):=by
 rw [Qf,Qf,Ru];have k:=Ais L f m g;have l:=j.len;show _<=Tr.wt h t+_
 cases h with
 | zero=>
  have:=St d.2.2.1 d.1;show 0+_<=_;omega
 | succ h=>
  obtain ⟨a,b⟩:=t;rw [kidsFrom,Abr];have n:wts (a.drop (ix (a.map (·.1)) c))<=wts a:=by
   have:=List.take_append_drop (ix (a.map (·.1)) c) a;have i:=congrArg wts this;rw [Dn] at i;omega
  have i:(nodeCh (h+1) (a,b)).length=b.length:=rfl;show _<=2*b.length+wts a+((a.length - 1)+(2 - a.length))+_;omega
theorem Af6 {α β:Type} (f:α->β) {M N:List β} (h:M.Perm N):∀L:List α,L.map f=M->∃d,L.Perm d/\d.map f=N:=by
 induction h with
 | nil=> intro L c;exact ⟨L,List.Perm.refl _,c⟩
 | cons x _ ih=>
  intro L c
  cases L with
  | nil=> cases c
  | cons y r=>
   simp only [List.map_cons,List.cons.injEq] at c;obtain ⟨d,g,i⟩:=ih r c.2;exact ⟨y::d,g.cons y,by rw [List.map_cons,i,c.1]⟩
 | swap x y r=>
  intro L c
  match L,c with
  | a::b::r',c=>
   simp only [List.map_cons,List.cons.injEq] at c;exact ⟨b::a::r',List.Perm.swap _ _ _,by rw [List.map_cons,List.map_cons,c.1,c.2.1,c.2.2]⟩
 | trans _ _ ih1 ih2=>
  intro L c;obtain ⟨j,g,i⟩:=ih1 L c;obtain ⟨k,l,m⟩:=ih2 j i;exact ⟨k,g.trans l,m⟩
end Go.Proofs.YtolgpnaoaodepaaGreat.Tr
namespace Go.Proofs.YtolgpnaoaodepaaGreat
open Go.RowKit
theorem Ait (K:Nat->ByteArray×Nat):Hp.Ord (ltK K):=by
 have d:∀a b,ltK K a b↔((K a).1.data.toList < (K b).1.data.toList\/(K a).1.data.toList=(K b).1.data.toList/\(K b).2 < (K a).2):=fun a b=> by
  unfold ltK Nr;by_cases e:(K a).1.data.toList=(K b).1.data.toList
  ·rw [if_pos e,decide_eq_true_eq];exact ⟨fun q=> .inr ⟨e,q⟩,fun q=> q.elim (fun z=> by rw [e] at z;exact absurd z (Tr.lt_ir _)) (·.2)⟩
  ·rw [if_neg e,decide_eq_true_eq];exact ⟨.inl,fun q=> q.elim id (fun z=> absurd z.1 e)⟩
 constructor
 ·intro a b h g;rw [d] at h g;rcases h with h | ⟨h,j⟩ <;> rcases g with g | ⟨g,k⟩
  ·exact Tr.lt_ir _ (Tr.Cz h g)
  ·rw [g] at h;exact Tr.lt_ir _ h
  ·rw [h] at g;exact Tr.lt_ir _ g
  ·omega
 ·intro a b c h g q;rw [d] at h g q;have f:¬(K b).1.data.toList < (K a).1.data.toList:=fun z=> h (.inl z)
  have i:¬(K c).1.data.toList < (K b).1.data.toList:=fun z=> g (.inl z)
  rcases q with q | ⟨q,l⟩
  ·exact Tr.Aie f i q
  ·have e:(K b).1.data.toList=(K a).1.data.toList:=Tr.tri _ _ f (by rw [<-q];exact i);exact h (.inr ⟨e,Classical.byContradiction fun z=> g (.inr ⟨by rw [q,e],by omega⟩)⟩)
theorem HpQ.congr {g:Nat} {i ub:ByteArray} {v:Value} {K j:Nat->ByteArray×Nat} {bs:List Nat} {w:World} (h:HpQ g i ub v K bs w) (d:∀b∈bs,j b=K b):HpQ g i ub v j bs w:=by
 refine ⟨h.sc,h.row,fun b f=> by rw [d b f];exact h.pl b f,fun k h0 c=> ?_⟩;have l:Hp.nth 0 bs k∈bs:=by rw [Hp.Dj 0 bs c];exact List.getElem_mem c
 have a:(k - 1) / 2 < bs.length:=by omega
 have m:Hp.nth 0 bs ((k - 1) / 2)∈bs:=by rw [Hp.Dj 0 bs a];exact List.getElem_mem a
 unfold ltK;rw [d _ l,d _ m];exact h.heap k h0 c
variable {A:List Nat}
def PlM (w0:World) (A:List Nat) (W:World) (b:Nat) (kv:ByteArray×Nat):Tr.Plc->Prop
 | .inl ⟨f,L,h,_,t⟩=> kv.1.data.toList=f/\kv.2=L/\∃p F,PlB W b kv.1 L (some ⟨p,0,none⟩) (.slice none 0 0)/\Rep h w0 p t F
 | .inr ⟨L,_,_,c,cs⟩=> kv.1.data.toList=c.2.1/\kv.2=L/\∃g o cap ml cur,PlB W b kv.1 L none (.slice (some ⟨g,o,none⟩) ml.length cap)/\plainCh ml=c::cs/\W.heap[g]?=some (.cells cur 34 (0,0))/\(∀j u,(ccells ml)[j]?=some u->W.cell? ⟨g,o+j,none⟩=some u)/\ml.length<=cap/\g∉A/\ml.length<=1000
theorem PlM.plb {w0 W:World} {b:Nat} {kv:ByteArray×Nat} {p:Tr.Plc} (h:PlM w0 A W b kv p):(∃n ch,PlB W b kv.1 kv.2 n ch)/\kv.1.data.toList=p.key/\kv.2=p.lv:=by
 cases p using Tr.Plc.two with
 | nd f L h' m t=> obtain ⟨d,a,p,F,i,j⟩:=h;exact ⟨⟨_,_,by rw [a];exact i⟩,d,a⟩
 | ch L f m c cs=> obtain ⟨d,a,g,o,k,ml,l,i,j⟩:=h;exact ⟨⟨_,_,by rw [a];exact i⟩,d,a⟩
theorem PlM.keep {w0 W W':World} {b D:Nat} {kv:ByteArray×Nat} {p:Tr.Plc} {O ub:ByteArray} {v:Value} {bs:List Nat} (h:PlM w0 A W b kv p) (d:ScB W D O ub v) (G:Cs 0 W v bs) (H:∀g,g < W.heap.size->g≠D->v.ownBlock≠some g->W'.heap[g]?=W.heap[g]?):PlM w0 A W' b kv p:=by
 have i:∀B T,W.heap[b]?=some (.cells B T (0,0))->T=139->W'.heap[b]?=W.heap[b]?:=fun B T C M=> by
  subst M;refine H b (Array.getElem?_eq_some_iff.1 C).1 (fun e=> ?_) (Dd C G (by decide));subst e;unfold ScB at d;rw [C] at d;simp at d
 cases p using Tr.Plc.two with
 | nd f L h' m t=>
  obtain ⟨q,r,p,F,l,s⟩:=h;exact ⟨q,r,p,F,(i _ _ l rfl).trans l,s⟩
 | ch L f m c B=>
  obtain ⟨q,r,g,o,y,ml,z,l,s,n,I,J⟩:=h;have k:W'.heap[g]?=W.heap[g]?:=by
   refine H g (Array.getElem?_eq_some_iff.1 n).1 (fun e=> ?_) (Dd n G (by decide));subst e;unfold ScB at d;rw [n] at d;simp at d
  exact ⟨q,r,g,o,y,ml,z,(i _ _ l rfl).trans l,s,k.trans n,fun j u N=> (World.cell?_of_block (w:=W) (a:=⟨g,o+j,none⟩) k).trans (I j u N),J⟩
theorem Ap5 {w0 W:World} {K:Nat->ByteArray×Nat} {a b:Nat} {p q:Tr.Plc} (i:PlM w0 A W a (K a) p) (j:PlM w0 A W b (K b) q):p.less q↔ltK K a b:=by
 obtain ⟨-,c,d⟩:=i.plb;obtain ⟨-,f,g⟩:=j.plb;unfold Tr.Plc.less ltK Nr;rw [<-c,<-f,<-d,<-g];by_cases e:(K a).1.data.toList=(K b).1.data.toList
 ·rw [if_pos e,decide_eq_true_eq];exact ⟨fun q=> q.elim (fun z=> by rw [e] at z;exact absurd z (Tr.lt_ir _)) (·.2),fun q=> .inr ⟨e,q⟩⟩
 ·rw [if_neg e,decide_eq_true_eq];exact ⟨fun q=> q.elim id (fun z=> absurd z.1 e),.inl⟩
structure ScW (w0:World) (A:List Nat) (sb:Nat) (fr ub:ByteArray) (P:List Tr.Plc) (v:Value) (K:Nat->ByteArray×Nat) (L:List (Nat×Tr.Plc)) (W:World):Prop where
 hp:HpQ sb fr ub v K (L.map (·.1)) W
 pm:(L.map (·.2)).Perm P
 pl:∀x∈L,PlM w0 A W x.1 (K x.1) x.2
 bel:Below w0.heap.size w0 W
 sbn:w0.heap.size<=sb
 vn:∀g,v.ownBlock=some g->w0.heap.size<=g
def ScM (w0:World) (A:List Nat) (sb:Nat) (fr ub:ByteArray) (P:List Tr.Plc) (W:World):Prop:=∃v K L,ScW w0 A sb fr ub P v K L W
theorem ScW.below {w0:World} {f:Nat} {i ub:ByteArray} {P:List Tr.Plc} {v:Value} {K:Nat->ByteArray×Nat} {L:List (Nat×Tr.Plc)} {W W':World} (h:ScW w0 A f i ub P v K L W) (a:Below W.heap.size W W'):ScW w0 A f i ub P v K L W':=by
 refine ⟨⟨(a.block f h.hp.sc.lt).trans h.hp.sc,Aa h.hp.row a (Nat.le_refl _),fun b d=> by obtain ⟨u,c,q⟩:=h.hp.pl b d;exact ⟨u,c,(a.block b q.lt).trans q⟩,h.hp.heap⟩,h.pm,fun x j=> (h.pl x j).keep h.hp.sc h.hp.row fun g k _ _=> a.block g k,h.bel.trans (a.mono h.bel.size),h.sbn,h.vn⟩
end Go.Proofs.YtolgpnaoaodepaaGreat
