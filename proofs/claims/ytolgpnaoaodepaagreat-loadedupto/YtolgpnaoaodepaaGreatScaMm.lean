import Derived.Test.YtolgpnaoaodepaaGreatTreZGm
namespace Go.Proofs.YtolgpnaoaodepaaGreat
open Go.RowKit
def Pc (il:List (ByteArray×ByteArray)) (key:ByteArray):Option (List UInt8)->List (ByteArray×ByteArray)
 | none=> il
 | some x=> il++[(key,⟨x.toArray⟩)]
set_option maxHeartbeats 400000 in
set_option maxRecDepth 4000 in
theorem No (s:Option (List UInt8)) (B:Nat) (v:Value) (il:List (ByteArray×ByteArray)) (key:ByteArray) (w:World) (h:Ak B w v il) (z:B<=w.heap.size) (F:il.length<=400000000):
  Calls Tryz.prog 69 #[.agg #[.string (stV s),.bool (stB s)],v,.string key] w fun r w'=>∃l,r= .returned l/\Ak B w' l (Pc il key s)/\Below B w w'/\w.grownBy w' v.ownBlock/\(l.ownBlock=v.ownBlock\/∃k,w.heap.size<=k/\l.ownBlock=some k):=by
 have c:Below w.heap.size w (w.alloc (.cells #[.string (stV s),.bool (stB s)] 136)):=(Below.refl _ w).alloc (Nat.le_refl _) _;have m:StB (w.alloc (.cells #[.string (stV s),.bool (stB s)] 136)) w.heap.size (stV s) (stB s):=heap_alloc_new _ _;have i:Hid (Ak B (w.alloc (.cells #[.string (stV s),.bool (stB s)] 136)) v il):=h.alloc _;obtain ⟨D,q,-,-⟩:=m.cells;have b:=hid c;have A:(w.alloc (.cells #[.string (stV s),.bool (stB s)] 136)).heap.size=w.heap.size+1:=by simp
 cases s with
 | none=>
  have n:stB none=false:=rfl;rw [n] at q;clear m h c;go_enter Tryz.func69,Tryz.ntmps69;go_wp2_with fail;go_ret;exact ⟨_,rfl,i.out,b.out.mono z,⟨b.out.os,b.out.tape,b.out.output,b.out.size,fun k d _=> b.out.block k d⟩,.inl rfl⟩
 | some x=>
  have n:stB (some x)=true:=rfl;rw [n] at q D i b A ⊢;have o:Hid (stV (some x)=⟨x.toArray⟩):=rfl;clear m h c;generalize stV (some x)=y at*;go_enter Tryz.func69,Tryz.ntmps69;go_wp2_with (at_builtin;refine Iw (w.alloc (.cells #[.string y,.bool true] 136)) rfl (.tmp 11) (.tmp 16) 30 51 Tryz.underlying30 _ 2 32 Cm rfl (by decide) (by decide) rfl B v il.length (icells il) rfl i.out [.string key,.string y] rfl (by intro u t;simp at t;rcases t with rfl | rfl <;> rfl) (by simp [Act.eval]) (by omega) (by omega) ?_;intro v2 j f a g)
  have C:Hid (Ak B j v2 (Pc il key (some x))/\Below B w j/\w.grownBy j v.ownBlock/\(v2.ownBlock=v.ownBlock\/∃k,w.heap.size<=k/\v2.ownBlock=some k)):=by
   refine ⟨?_,((b.out.mono z).grown a (by omega) fun k d=> (World.ownsRow.lt i.out k d).1),?_,g.imp id (fun ⟨k,d,e⟩=> ⟨k,by omega,e⟩)⟩
   ·show Ak B j v2 (il++[(key,⟨x.toArray⟩)]);unfold Ak;rw [List.length_append,Kk,<-o.out];exact f
   ·exact ⟨a.os.trans b.out.os,a.tape.trans b.out.tape,a.output.trans b.out.output,Nat.le_trans b.out.size a.size,fun k d p=> (a.block k (by omega) p).trans (b.out.block k d)⟩
  clear f a g;go_wp2_with fail;go_ret;exact ⟨_,rfl,C.out⟩
theorem Ahb (il:List (ByteArray×ByteArray)) (key:ByteArray) (s:Option (List UInt8)):plain (Pc il key s)=plain il++(s.map fun v=> (key.data.toList,v)).toList:=by
 cases s with
 | none=> simp [Pc]
 | some x=> simp [Pc,plain]
set_option maxHeartbeats 400000 in
theorem Ak4 (k:Int) (key x d:ByteArray) (c:Nat) (w:World) (l:w.cell? ⟨c,0,none⟩=some (.string d)) (f:c < w.heap.size):
  Calls Tryz.prog 238 #[.agg #[.int .i64 k,.string key,.string x],.pointer (some ⟨c,0,none⟩)] w fun r w'=> r= .returned (.bool (decide (key.data.toList < d.data.toList)))/\Below w.heap.size w w':=by
 have b:Below w.heap.size w (w.alloc (.cells #[.int .i64 k,.string key,.string x] 34)):=(Below.refl _ w).alloc (Nat.le_refl _) _;have g:ChB (w.alloc (.cells #[.int .i64 k,.string key,.string x] 34)) w.heap.size k key x:=heap_alloc_new _ _;obtain ⟨m,n,o⟩:=g.cells;have i:=(b.cell (p:=⟨c,0,none⟩) f).trans l;have j:=hid b;clear b g;go_enter Tryz.func238,Tryz.ntmps238;go_wp2_with fail;go_ret;refine ⟨?_,j.out⟩;show Ending.returned (.bool (Op.bytesLess key.toList d.toList))=_;rw [Ah,Ah,Db]
set_option maxHeartbeats 400000 in
theorem Ak5 (c i:Int) (a d b j:ByteArray) (w:World):
  Calls Tryz.prog 240 #[.agg #[.int .i64 c,.string a,.string d],.agg #[.int .i64 i,.string b,.string j]] w fun r w'=> r= .returned (.int .i64 (Lib.compareBytes a.data.toList b.data.toList))/\Below w.heap.size w w':=by
 have k:ChB (w.alloc (.cells #[.int .i64 c,.string a,.string d] 34)) w.heap.size c a d:=heap_alloc_new _ _;have g:Below w.heap.size w (w.alloc (.cells #[.int .i64 c,.string a,.string d] 34)):=(Below.refl _ w).alloc (Nat.le_refl _) _;have l:Below w.heap.size w ((w.alloc (.cells #[.int .i64 c,.string a,.string d] 34)).alloc (.cells #[.int .i64 i,.string b,.string j] 34)):=g.alloc g.size _;have m:ChB ((w.alloc (.cells #[.int .i64 c,.string a,.string d] 34)).alloc (.cells #[.int .i64 i,.string b,.string j] 34)) (w.heap.size+1) i b j:=by
  have:=heap_alloc_new (w.alloc (.cells #[.int .i64 c,.string a,.string d] 34)) (.cells #[.int .i64 i,.string b,.string j] 34);rw [show (w.alloc (.cells #[.int .i64 c,.string a,.string d] 34)).heap.size=w.heap.size+1 by simp] at this;exact this
 have f:ChB ((w.alloc (.cells #[.int .i64 c,.string a,.string d] 34)).alloc (.cells #[.int .i64 i,.string b,.string j] 34)) w.heap.size c a d:=by
  have n:=(Below.refl (w.heap.size+1) (w.alloc (.cells #[.int .i64 c,.string a,.string d] 34))).alloc (by simp) (.cells #[.int .i64 i,.string b,.string j] 34);exact (n.block _ (by omega)).trans k
 obtain ⟨p,q,s⟩:=f.cells;obtain ⟨t,u,y⟩:=m.cells;have o:=hid l;clear k g l m f;go_enter Tryz.func240,Tryz.ntmps240;go_wp2_with fail;refine (Uj a b _).mono ?_;rintro r z ⟨rfl,rfl⟩;go_wp2_with fail;go_ret;exact ⟨rfl,o.out⟩
end Go.Proofs.YtolgpnaoaodepaaGreat
namespace Go.Proofs.YtolgpnaoaodepaaGreat.Tr
def Bu (k:Key) (c:Ch):Bool:=decide (c.2.1=k)
def lev:(h:Nat)->Ac h->Nat->Key->List Ch
 | 0,l,0,k=> ((Bj l k).map fun v=> ((1:Int),k,v)).toList
 | 0,_,_+1,_=> []
 | _+1,(_,cs),0,k=> cs.filter (Bu k)
 | h+1,(ps,_),d+1,k=> (ps.map fun p=> lev h p.2 d k).flatten
def Kx (f:Nat->List Ch):Nat->List Ch
 | 0=> []
 | n+1=> f n++Kx f n
theorem Yb (f:Nat->List Ch):∀n,Kx f (n+1)=Kx (fun d=> f (d+1)) n++f 0
 | 0=> by simp [Kx]
 | n+1=> by
  have:=Yb f n;rw [Kx,this,Kx,List.append_assoc]
theorem Hz {f g:Nat->List Ch}:∀{n:Nat},(∀d,d < n->f d=g d)->Kx f n=Kx g n
 | 0,_=> rfl
 | n+1,h=> by rw [Kx,Kx,h n (by omega),Hz fun d a=> h d (by omega)]
theorem Ro {f:Nat->List Ch}:∀{n:Nat},(∀d,d < n->f d=[])->Kx f n=[]
 | 0,_=> rfl
 | n+1,h=> by rw [Kx,h n (by omega),Ro fun d a=> h d (by omega)];rfl
theorem Abn {f g:Nat->List Ch} {c:Ch} {L:Nat}:∀{n:Nat},L < n->(∀d,L < d->d < n->f d=[])->(∀d,L < d->d < n->g d=[])->f L=c::g L->(∀d,d < L->f d=g d)->Kx f n=c::Kx g n
 | 0,h,_,_,_,_=> by omega
 | n+1,h,h1,h2,h3,h4=> by
  by_cases e:L=n
  ·subst e;rw [Kx,Kx,h3,Hz h4];rfl
  ·rw [Kx,Kx,h1 n (by omega) (by omega),h2 n (by omega) (by omega)];exact Abn (by omega) (fun d a b=> h1 d a (by omega)) (fun d a b=> h2 d a (by omega)) h3 h4
theorem Jh {h:Nat} {R:Key->Option Key->Ac h->Prop}:∀{g:List (Key×Ac h)} {lo:Key} {hi:Option Key},Ba R (some lo) hi g->∀p∈g,∃m,R p.1 m p.2/\room p.1 m/\¬p.1 < lo/\∀b,hi=some b->∃a,m=some a/\¬b < a
 | [],_,_,_,_,c=> by cases c
 | (f,t)::r,lo,hi,⟨e,m,h1,h2,h3⟩,p,c=> by
  obtain rfl:lo=f:=Option.some.inj e;rcases List.mem_cons.1 c with rfl | c
  ·exact ⟨m,h2,h1,lt_ir _,fun b o=> Jn h3 b o⟩
  ·match r,h3,c with
   | (f2,t2)::r2,h3,c=>
    have d:m=some f2:=h3.1;rw [d] at h3;obtain ⟨i,j,k,l,n⟩:=Jh h3 p c;have:=(h1 f2 d).1;exact ⟨i,j,k,fun q=> l (Cz q this),n⟩
theorem lt_of_not_le' {a b c:Key} (h:¬b < a) (h2:b < c):a < c:=Wu h h2
theorem Ou:∀(h:Nat) {lo:Key} {hi:Option Key} {t:Ac h},WF h lo hi t->∀{k:Key},¬inR lo hi k->∀d,lev h t d k=[]
 | 0,lo,hi,l,hw,k,hk,0=> by
  have e:Bj l k=none:=Ce (l:=l) fun x s e=> hk (by rw [<-e];exact (hw.2 x s).1)
  exact congrArg (fun o=> (Option.map (fun v=> ((1:Int),k,v)) o).toList) e
 | 0,_,_,_,_,_,_,_+1=> rfl
 | h+1,lo,hi,(ps,cs),hw,k,hk,0=> by
  simp only [lev];refine List.filter_eq_nil_iff.2 fun c u e=> hk ?_
  rw [<-of_decide_eq_true e];exact (hw.2 c u).1
 | h+1,lo,hi,(ps,cs),hw,k,hk,d+1=> by
  simp only [lev];refine List.flatten_eq_nil_iff.2 fun l y=> ?_
  obtain ⟨p,g,rfl⟩:=List.mem_map.1 y;obtain ⟨m,i,B,j,n⟩:=Jh hw.1 p g;refine Ou h i.1 (fun q=> hk ⟨fun z=> j (lt_of_not_le' q.1 z),fun b A=> ?_⟩) d;obtain ⟨a,r,f⟩:=n b A;have:=q.2 a r;exact Hq this f
theorem Ak6 {h:Nat} {lo:Key} {hi:Option Key} {A B:List (Key×Ac h)} {f:Key} {t:Ac h} {m:Option Key} {k:Key} (H:Ba (fun f m t=> WF h f m t/\Top h t) (some lo) (some f) A) (g:Ba (fun f m t=> WF h f m t/\Top h t) m hi B) (y:inR f m k) (d:Nat):((A++(f,t)::B).map fun p=> lev h p.2 d k).flatten=lev h t d k:=by
 have z:(A.map fun p=> lev h p.2 d k).flatten=[]:=by
  refine List.flatten_eq_nil_iff.2 fun l n=> ?_
  obtain ⟨p,c,rfl⟩:=List.mem_map.1 n;obtain ⟨D,i,F,s,u⟩:=Jh H p c;refine Ou h i.1 (fun q=> y.1 ?_) d;obtain ⟨a,G,j⟩:=u f rfl;exact Hq (q.2 a G) j
 have C:(B.map fun p=> lev h p.2 d k).flatten=[]:=by
  refine List.flatten_eq_nil_iff.2 fun l n=> ?_
  obtain ⟨p,c,rfl⟩:=List.mem_map.1 n
  cases o:m with
  | none=>
   rw [o] at g
   cases B with
   | nil=> cases c
   | cons x r=> exact absurd g.1 (by simp)
  | some b=>
   rw [o] at g;obtain ⟨D,i,F,s,u⟩:=Jh g p c;exact Ou h i.1 (fun q=> q.1 (Hq (y.2 b o) s)) d
 rw [List.map_append,List.map_cons,List.flatten_append,List.flatten_cons,z,C];simp
theorem Aip:∀(h:Nat) {lo:Key} {hi:Option Key} {t:Ac h},WF h lo hi t->∀{k:Key},inR lo hi k->val h t k=Aj (Kx (fun d=> lev h t d k) (h+1)) k none
 | 0,lo,hi,l,hw,k,hk=> by
  simp only [Kx,lev,val,List.append_nil]
  cases p:Bj l k with
  | none=> rfl
  | some v=>
   show some v=one k none (1,k,v);simp [one,Di]
 | h+1,lo,hi,(ps,cs),hw,k,hk=> by
  rw [Yb,Eg];obtain ⟨A,f,t,B,m,a,g,i,o,b,j,n⟩:=El hw.1 hk;have h0:(fun d=> lev (h+1) (ps,cs) (d+1) k)=fun d=> lev h t d k:=by
   funext d;simp only [lev];rw [a];exact Ak6 j n b d
  rw [h0,<-Aip h i.1 b];show _=Aj (cs.filter (Bu k)) k _;rw [Fc (Bu k) cs k _ (fun c _ e=> decide_eq_true e)];subst a;exact Pv g
structure PlN where
 f:Key
 L:Nat
 h:Nat
 m:Option Key
 t:Ac h
structure PlC where
 L:Nat
 f:Key
 m:Option Key
 c:Ch
 cs:List Ch
abbrev Plc:=PlN ⊕ PlC
abbrev Plc.nd (f:Key) (L h:Nat) (m:Option Key) (t:Ac h):Plc:=.inl ⟨f,L,h,m,t⟩
abbrev Plc.ch (L:Nat) (f:Key) (m:Option Key) (c:Ch) (cs:List Ch):Plc:=.inr ⟨L,f,m,c,cs⟩
theorem Plc.two {P:Plc → Prop} (p:Plc) (nd:∀ f L h m t,P (.nd f L h m t)) (ch:∀ L f m c cs,P (.ch L f m c cs)):P p:=by
 rcases p with ⟨f,L,h,m,t⟩ | ⟨L,f,m,c,cs⟩
 ·exact nd f L h m t
 ·exact ch L f m c cs
def Plc.key:Plc->Key
 | .inl ⟨f,_,_,_,_⟩=> f
 | .inr ⟨_,_,_,c,_⟩=> c.2.1
def Plc.lv:Plc->Nat
 | .inl ⟨_,L,_,_,_⟩=> L
 | .inr ⟨L,_,_,_,_⟩=> L
def Plc.cont:Plc->Nat->Key->List Ch
 | .inl ⟨_,L,h,_,t⟩,l,k=> if l < L then [] else lev h t (l - L) k
 | .inr ⟨L,_,_,c,cs⟩,l,k=> if l=L then (c::cs).filter (Bu k) else []
def Plc.cov:Plc->Nat->Key->Prop
 | .inl ⟨f,L,_,m,_⟩,l,k=> L<=l/\inR f m k
 | .inr ⟨L,f,m,_,_⟩,l,k=> l=L/\inR f m k
def Acw (cs:List Ch):Prop:=cs.Pairwise fun a b=>¬b.2.1 < a.2.1
def Plc.ok (fr:Key) (D:Nat):Plc->Prop
 | .inl ⟨f,L,h,m,t⟩=> WF h f m t/\Top h t/\room f m/\L+h+1=D
 | .inr ⟨L,f,m,c,cs⟩=> L < D/\Acw (c::cs)/\∀d∈c::cs,¬d.2.1 < fr/\inR f m d.2.1/\Ew d
def Ir (p q:Plc):Prop:=∀l k,p.cov l k->¬q.cov l k
theorem Ir.symm {p q:Plc} (h:Ir p q):Ir q p:=fun l k a b=> h l k b a
def tot (P:List Plc) (l:Nat) (k:Key):List Ch:=(P.map fun p=> p.cont l k).flatten
def left (D:Nat) (P:List Plc) (k:Key):List Ch:=Kx (fun l=> tot P l k) D
structure Mt (fr:Key) (D:Nat) (P:List Plc):Prop where
 ok:∀p∈P,p.ok fr D
 ap:P.Pairwise Ir
def Plc.less (p q:Plc):Prop:=p.key < q.key\/p.key=q.key/\q.lv < p.lv
theorem Rp {n:Key} {D:Nat} {p:Plc} (a:p.ok n D) {l:Nat} {k:Key} (h:p.cont l k≠[]):p.cov l k:=by
 cases p using Tr.Plc.two with
 | nd f L h' m t=>
  by_cases q:l < L
  ·exact absurd (if_pos q) h
  ·refine ⟨by omega,Classical.byContradiction fun z=> h ?_⟩;show (if l < L then [] else lev h' t (l - L) k)=[];rw [if_neg q];exact Ou h' a.1 z _
 | ch L f m c cs=>
  by_cases q:l=L
  ·refine ⟨q,?_⟩;have b:(c::cs).filter (Bu k)≠[]:=by
    have:(Plc.ch L f m c cs).cont l k=(c::cs).filter (Bu k):=if_pos q;rw [this] at h;exact h
   obtain ⟨d,g⟩:=List.exists_mem_of_ne_nil _ b;obtain ⟨i,j⟩:=List.mem_filter.1 g;rw [<-of_decide_eq_true j];exact (a.2.2 d i).2.1
  ·exact absurd (if_neg q) h
theorem Wc {n:Key} {D:Nat} {p:Plc} (a:p.ok n D) {l:Nat} {k:Key} (h:p.cont l k≠[]):¬k < p.key:=by
 cases p using Tr.Plc.two with
 | nd f L h' m t=> exact (Rp a h).2.1
 | ch L f m c cs=>
  by_cases q:l=L
  ·have b:(c::cs).filter (Bu k)≠[]:=by
    have:(Plc.ch L f m c cs).cont l k=(c::cs).filter (Bu k):=if_pos q;rw [this] at h;exact h
   obtain ⟨d,g⟩:=List.exists_mem_of_ne_nil _ b;obtain ⟨i,j⟩:=List.mem_filter.1 g;rw [<-of_decide_eq_true j];rcases List.mem_cons.1 i with e | e
   ·rw [e];exact lt_ir _
   ·exact (List.pairwise_cons.1 a.2.1).1 d e
  ·exact absurd (if_neg q) h
theorem Aow {g:Key} {D:Nat} {p:Plc} (a:p.ok g D):p.cov p.lv p.key:=by
 cases p using Tr.Plc.two with
 | nd f L h' m t=> exact ⟨Nat.le_refl _,lt_ir _,fun b d=> (a.2.2.1 b d).1⟩
 | ch L f m c cs=> exact ⟨rfl,(a.2.2 c (List.mem_cons_self ..)).2.1⟩
theorem Acx {P:List Plc} {l:Nat} {k:Key} (h:∀p∈P,p.cont l k=[]):tot P l k=[]:=
 List.flatten_eq_nil_iff.2 fun x b=> by obtain ⟨p,a,rfl⟩:=List.mem_map.1 b;exact h p a
theorem Ia (P Q:List Plc) (l:Nat) (k:Key):tot (P++Q) l k=tot P l k++tot Q l k:=by simp [tot]
theorem Ff (p:Plc) (Q:List Plc) (l:Nat) (k:Key):tot (p::Q) l k=p.cont l k++tot Q l k:=by simp [tot]
theorem Mt.perm {a:Key} {D:Nat} {P Q:List Plc} (h:Mt a D P) (b:P.Perm Q):Mt a D Q:=
 ⟨fun p c=> h.ok p (b.mem_iff.2 c),(b.pairwise_iff (fun q=> Ir.symm q)).1 h.ap⟩
theorem Amk {d:Key} {D:Nat} {P Q:List Plc} (a:P.Perm Q) (h:Mt d D P) (l:Nat) (k:Key):tot P l k=tot Q l k:=by
 induction a with
 | nil=> rfl
 | cons x _ ih=> rw [Ff,Ff,ih ⟨fun p a=> h.ok p (List.mem_cons_of_mem _ a),(List.pairwise_cons.1 h.ap).2⟩]
 | swap x y r=>
  rw [Ff,Ff,Ff,Ff,<-List.append_assoc,<-List.append_assoc];congr 1;by_cases b:x.cont l k=[]
  ·rw [b];simp
  ·by_cases c:y.cont l k=[]
   ·rw [c];simp
   ·have:=(List.pairwise_cons.1 h.ap).1 x (List.mem_cons_self ..);exact absurd (Rp (h.ok x (by simp)) b) (this l k (Rp (h.ok y (by simp)) c))
 | trans h1 _ ih1 ih2=> rw [ih1 h,ih2 (h.perm h1)]
theorem Td {a:Key} {D:Nat} {P Q:List Plc} (b:P.Perm Q) (h:Mt a D P) (k:Key):left D P k=left D Q k:=Hz fun l _=> Amk b h l k
def lay (L:Nat) (f:Key) (m:Option Key):List Ch->List Plc
 | []=> []
 | c::cs=> [.ch L f m c cs]
theorem Rq (L:Nat) (f:Key) (m:Option Key) (a:List Ch) (l:Nat) (k:Key):tot (lay L f m a) l k=if l=L then a.filter (Bu k) else []:=by
 cases a with
 | nil=> simp [lay,tot]
 | cons c r=>
  show (if l=L then (c::r).filter (Bu k) else [])++[]=_;rw [List.append_nil]
theorem Aox {C:Key} {D L:Nat} {f:Key} {m:Option Key} {c:Ch} {g:List Ch} {P:List Plc} (h:Mt C D (.ch L f m c g::P)) (s:∀q∈P,¬q.less (.ch L f m c g)):
  Mt C D (lay L f m g++P)/\left D (.ch L f m c g::P) c.2.1=c::left D (lay L f m g++P) c.2.1/\(∀k,k≠c.2.1->left D (.ch L f m c g::P) k=left D (lay L f m g++P) k)/\(∀k,k < c.2.1->left D (.ch L f m c g::P) k=[]):=by
 have b:=h.ok _ (List.mem_cons_self ..);have t:∀p∈P,p.ok C D:=fun p y=> h.ok p (List.mem_cons_of_mem _ y)
 obtain ⟨n,o⟩:=List.pairwise_cons.1 h.ap;have u:Mt C D (lay L f m g++P):=by
  cases g with
  | nil=> exact ⟨t,o⟩
  | cons d r=>
   refine ⟨fun p y=> ?_,List.pairwise_cons.2 ⟨fun q j=> n q j,o⟩⟩;rcases List.mem_cons.1 y with rfl | y
   ·exact ⟨b.1,(List.pairwise_cons.1 b.2.1).2,fun e O=> b.2.2 e (List.mem_cons_of_mem _ O)⟩
   ·exact t p y
 have a:∀l k,(Plc.ch L f m c g).cont l k=if l=L then (c::g).filter (Bu k) else []:=fun _ _=> rfl
 have i:∀l,L < l->tot P l c.2.1=[]:=fun l A=> Acx fun q j=> Classical.byContradiction fun z=> by
  have F:=Wc (t q j) z;have G:=s q j;have J:¬q.key < c.2.1:=fun e=> G (.inl e)
  have M:q.key=c.2.1:=tri _ _ J F;have H:¬L < q.lv:=fun e=> G (.inr ⟨M,e⟩)
  have I:=Rp (t q j) z;have N:(Plc.ch L f m c g).cov L c.2.1:=Aow b;refine n q j L c.2.1 N ?_
  cases q using Tr.Plc.two with
  | nd f' L' h' m' t'=> exact ⟨Nat.le_of_not_lt H,I.2⟩
  | ch L' f' m' c' cs'=> exact absurd I.1 (by have:¬L < L':=H;omega)
 refine ⟨u,?_,fun k B=> Hz fun l _=> ?_,fun k B=> Ro fun l _=> Acx fun q j=> Classical.byContradiction fun z=> ?_⟩
 ·refine Abn (L:=L) b.1 (fun l A _=> ?_) (fun l A _=> ?_) ?_ (fun l A=> ?_)
  ·rw [Ff,a,if_neg (by omega),i l A];rfl
  ·rw [Ia,Rq,if_neg (by omega),i l A];rfl
  ·rw [Ff,a,if_pos rfl,Ia,Rq,if_pos rfl,List.filter_cons_of_pos (p:=Bu c.2.1) (decide_eq_true rfl)];rfl
  ·rw [Ff,a,if_neg (by omega),Ia,Rq,if_neg (by omega)]
 ·rw [Ff,a,Ia,Rq,List.filter_cons_of_neg (by simp [Bu];exact fun e=> B e.symm)]
 ·rcases List.mem_cons.1 j with rfl | j
  ·exact Wc b z B
  ·have F:=Wc (t q j) z;exact s q j (.inl (Wu F B))
theorem Ahc {f:Key} {D:Nat} {p:Plc} {P:List Plc} (h:Mt f D (p::P)) (a:∀q∈P,¬q.less p) {k:Key} (d:k < p.key):left D (p::P) k=[]:=
 Ro fun l _=> Acx fun q b=> Classical.byContradiction fun z=> by
  have c:=Wc (h.ok q b) z;rcases List.mem_cons.1 b with rfl | b
  ·exact c d
  ·exact a q b (.inl (Wu c d))
def Gy (L:Nat) {h:Nat}:List (Key×Ac h)->Option Key->List Plc
 | [],_=> []
 | (f,t)::r,hi=> .nd f L h (nxt r hi) t::Gy L r hi
def nodeCh:(h:Nat)->Ac h->List Ch
 | 0,l=> (its l).map fun x=> ((1:Int),x.1,x.2)
 | _+1,(_,cs)=> cs
theorem wgB:∀(l:List It),Bi l->∀k,(l.map fun x=> ((1:Int),x.1,x.2)).filter (Bu k)=((Bj l k).map fun v=> ((1:Int),k,v)).toList
 | [],_,_=> rfl
 | x::r,hr,k=> by
  obtain ⟨h1,h2⟩:=List.pairwise_cons.1 hr;rw [List.map_cons,Bj];by_cases e:x.1=k
  ·rw [List.filter_cons_of_pos (p:=Bu k) (a:=((1:Int),x.1,x.2)) (decide_eq_true e),if_pos e,wgB r h2 k,Ce fun y hy q=> by
    have:=h1 y hy;rw [q,e] at this;exact lt_ir _ this]
   subst e;rfl
  ·rw [List.filter_cons_of_neg (by simp [Bu,e]),if_neg e];exact wgB r h2 k
theorem Yc:∀(h:Nat) {lo:Key} {hi:Option Key} {t:Ac h},WF h lo hi t->∀k,(nodeCh h t).filter (Bu k)=lev h t 0 k
 | 0,_,_,l,hw,k=> wgB l hw.1 k
 | _+1,_,_,(_,_),_,_=> rfl
structure Scd (fr:Key) (l l':List Ch):Prop where
 rise:Acw l'
 sub:∀c∈l',c∈l/\¬c.2.1 < fr
 fil:∀k,¬k < fr->l'.filter (Bu k)=l.filter (Bu k)
 len:l'.length<=l.length
def kidsFrom (fr:Key) (L:Nat) (m:Option Key):(h:Nat)->Ac h->List Plc
 | 0,_=> []
 | _+1,(ps,_)=> Gy (L+1) (ps.drop (ix (ps.map (·.1)) fr)) m
theorem Te {L h:Nat} {hi:Option Key} {p:Plc}:∀{j:List (Key×Ac h)} {lo:Option Key},Ba (fun f m t=> WF h f m t/\Top h t) lo hi j->p∈Gy L j hi->∃f m t,p= .nd f L h m t/\WF h f m t/\Top h t/\room f m/\(∀a,lo=some a->¬f < a)/\∀b,hi=some b->∃a,m=some a/\¬b < a
 | [],_,_,c=> by cases c
 | (f,t)::r,lo,⟨e,m,h1,h2,h3⟩,c=> by
  have g:m=nxt r hi:=Fj h3;rcases List.mem_cons.1 c with rfl | c
  ·rw [<-g];exact ⟨f,m,t,rfl,h2.1,h2.2,h1,fun a d=> by rw [e] at d;rw [<-Option.some.inj d];exact lt_ir _,fun b C=> Jn h3 b C⟩
  ·obtain ⟨l,n,o,s,u,y,z,A,B⟩:=Te h3 c;refine ⟨l,n,o,s,u,y,z,fun a d=> ?_,B⟩;rw [e] at d;rw [<-Option.some.inj d]
   cases k:r with
   | nil=> rw [k] at c;cases c
   | cons x r'=>
    have i:m=some x.1:=(by rw [g,k];rfl);exact fun q=> A x.1 i (Cz q (h1 x.1 i).1)
theorem Uy {L h:Nat} {hi:Option Key}:∀{i:List (Key×Ac h)} {lo:Option Key},Ba (fun f m t=> WF h f m t/\Top h t) lo hi i->(Gy L i hi).Pairwise Ir
 | [],_,_=> List.Pairwise.nil
 | (f,t)::r,lo,⟨e,m,h1,h2,h3⟩=> by
  have d:m=nxt r hi:=Fj h3;refine List.pairwise_cons.2 ⟨fun q c l k a b=> ?_,Uy h3⟩;obtain ⟨o,p,s,rfl,_,_,_,n,_⟩:=Te h3 c;rw [<-d] at a
  cases j:r with
  | nil=> rw [j] at c;cases c
  | cons x r'=>
   have g:m=some x.1:=(by rw [d,j];rfl);exact n x.1 g (Wu b.2.1 (a.2.2 x.1 g))
theorem Abo {L h:Nat} {hi:Option Key} (l:Nat) (k:Key):∀(a:List (Key×Ac h)),tot (Gy L a hi) l k=if l < L then [] else (a.map fun p=> lev h p.2 (l - L) k).flatten
 | []=> by simp [Gy,tot]
 | (f,t)::r=> by
  rw [Gy,Ff,Abo l k r];show (if l < L then [] else lev h t (l - L) k)++_=_;by_cases q:l < L
  ·simp [q]
  ·simp [q]
theorem Aml {h:Nat} {lo s:Key} {hi:Option Key} {u:List (Key×Ac h)} (z:Ba (fun f m t=> WF h f m t/\Top h t) (some lo) hi u) (d:Nat) {k:Key} (J:¬k < s):((u.drop (ix (u.map (·.1)) s)).map fun p=> lev h p.2 d k).flatten=(u.map fun p=> lev h p.2 d k).flatten:=by
 by_cases n:inR lo hi s
 ·obtain ⟨A,f,t,B,m,N,O,W,X,R,S,Y⟩:=El z n;rw [O];subst N;rw [List.drop_left,List.map_append,List.flatten_append];have C:(A.map fun p=> lev h p.2 d k).flatten=[]:=by
   refine List.flatten_eq_nil_iff.2 fun l y=> ?_
   obtain ⟨p,i,rfl⟩:=List.mem_map.1 y;obtain ⟨T,D,U,V,F⟩:=Jh S p i;refine Ou h D.1 (fun q=> J ?_) d;obtain ⟨a,G,j⟩:=F f rfl;exact Hq (Hq (q.2 a G) j) R.1
  rw [C];rfl
 ·by_cases o:s < lo
  ·have:ix (u.map (·.1)) s=0:=by
    match u,z with
    | [],_=> rfl
    | [_],_=> rfl
    | (f,t)::(f2,t2)::r,⟨e,m,C,h2,h3⟩=>
     have L:m=some f2:=h3.1;have M:lo=f:=Option.some.inj e;show ix (f::f2::r.map (·.1)) s=0;rw [ix,if_pos (Cz (by rw [<-M];exact o) (C f2 L).1)]
   rw [this];rfl
  ·
   obtain ⟨b,H,I⟩:∃b,hi=some b/\¬s < b:=by
    cases hi with
    | none=> exact absurd ⟨o,fun b H=> by cases H⟩ n
    | some b=> exact ⟨b,rfl,fun q=> n ⟨o,fun c z=> by rw [<-Option.some.inj z];exact q⟩⟩
   have g:∀p∈u,lev h p.2 d k=[]:=fun p i=> by
    obtain ⟨T,D,U,V,F⟩:=Jh z p i;refine Ou h D.1 (fun q=> J ?_) d;obtain ⟨a,G,j⟩:=F b H;exact Hq (Hq (q.2 a G) j) I
   rw [List.flatten_eq_nil_iff.2 (fun l y=> by obtain ⟨p,i,rfl⟩:=List.mem_map.1 y;exact g p (List.mem_of_mem_drop i)),List.flatten_eq_nil_iff.2 (fun l y=> by obtain ⟨p,i,rfl⟩:=List.mem_map.1 y;exact g p i)]
theorem Qc {h:Nat} {R:Key->Option Key->Ac h->Prop} {hi:Option Key}:∀(i:List (Key×Ac h)) {lo:Option Key} (n:Nat),Ba R lo hi i->∃c,Ba R c hi (i.drop n)/\∀a,lo=some a->n < i.length->∃b,c=some b/\¬b < a
 | i,lo,0,hc=> ⟨lo,hc,fun a g _=> ⟨a,g,lt_ir _⟩⟩
 | [],lo,n+1,hc=> ⟨lo,hc,fun a g k=> by simp at k⟩
 | (f,t)::r,lo,n+1,⟨e,m,h1,h2,h3⟩=> by
  obtain ⟨c,l,o⟩:=Qc r n h3;refine ⟨c,l,fun a g k=> ?_⟩;rw [e] at g;obtain rfl:=Option.some.inj g;have d:n < r.length:=by simpa using k
  cases r with
  | nil=> simp at d
  | cons x r'=>
   obtain ⟨b,p,j⟩:=o x.1 h3.1 d;exact ⟨b,p,fun q=> j (Cz q (h1 x.1 h3.1).1)⟩
def sz:(h:Nat)->Ac h->Nat
 | 0,l=> 1+(its l).length
 | h+1,(ps,cs)=> 1+cs.length+(ps.map fun p=> sz h p.2).sum
def Plc.size:Plc->Nat
 | .inl ⟨_,_,h,_,t⟩=> sz h t
 | .inr ⟨_,_,_,_,cs⟩=> cs.length+1
def size (P:List Plc):Nat:=(P.map Plc.size).sum
theorem Tf (p:Plc) (P:List Plc):size (p::P)=p.size+size P:=by simp [size]
theorem size_append (P Q:List Plc):size (P++Q)=size P+size Q:=by simp [size]
theorem Aeu (L:Nat) (f:Key) (m:Option Key) (a:List Ch):size (lay L f m a)=a.length:=by cases a <;> simp [lay,size,Plc.size]
theorem Yd {L h:Nat} {hi:Option Key}:∀(a:List (Key×Ac h)),size (Gy L a hi)=(a.map fun p=> sz h p.2).sum
 | []=> rfl
 | (f,t)::r=> by rw [Gy,Tf,Yd r];rfl
theorem Aev (l:List Nat) (n:Nat):(l.drop n).sum<=l.sum:=by
 have:=List.take_append_drop n l;have a:=congrArg List.sum this;rw [List.sum_append] at a;omega
theorem Aoy {i:Key} {D L h:Nat} {f:Key} {m:Option Key} {t:Ac h} {P:List Plc} {B:List Ch} (hi:Mt i D (.nd f L h m t::P)) (G:Scd i (nodeCh h t) B):
  Mt i D (kidsFrom i L m h t++(lay L f m B++P))/\(∀k,¬k < i->left D (.nd f L h m t::P) k=left D (kidsFrom i L m h t++(lay L f m B++P)) k)/\size (kidsFrom i L m h t++(lay L f m B++P)) < size (.nd f L h m t::P):=by
 have N:=hi.ok _ (List.mem_cons_self ..);obtain ⟨j,Y,O,hD⟩:=N;have hP:∀p∈P,p.ok i D:=fun p g=> hi.ok p (List.mem_cons_of_mem _ g)
 obtain ⟨A,M⟩:=List.pairwise_cons.1 hi.ap;have H:∀c∈nodeCh h t,inR f m c.2.1/\Ew c:=by
  cases h with
  | zero=>
   intro c hc;obtain ⟨x,hx,rfl⟩:=List.mem_map.1 hc;have:=j.2 x hx;refine ⟨this.1,?_⟩;unfold Ew Pg.Ax Pg.Bt;simp [this.2.1,this.2.2]
  | succ h=> obtain ⟨o,n⟩:=t;exact j.2
 have s:∀p∈lay L f m B,p.ok i D/\∀l k,p.cov l k->l=L/\inR f m k:=by
  cases B with
  | nil=> intro p g;cases g
  | cons c r=>
   intro p g;rw [List.mem_singleton.1 g];exact ⟨⟨by omega,G.rise,fun d C=> ⟨(G.sub d C).2,(H d (G.sub d C).1).1,(H d (G.sub d C).1).2⟩⟩,fun _ _ q=> q⟩
 have u:∀p∈kidsFrom i L m h t,p.ok i D/\∀l k,p.cov l k->L < l/\inR f m k:=by
  cases h with
  | zero=> intro p g;cases g
  | succ h=>
   obtain ⟨o,n⟩:=t;intro p g;obtain ⟨R,S,Z⟩:=Qc o (ix (o.map (·.1)) i) j.1;obtain ⟨f',m',t',rfl,a2,a3,a4,a5,a6⟩:=Te S g;refine ⟨⟨a2,a3,a4,by omega⟩,fun l k q=> ⟨q.1,fun z=> ?_,fun b T=> ?_⟩⟩
   ·by_cases hn:ix (o.map (·.1)) i < o.length
    ·obtain ⟨b,T,U⟩:=Z f rfl hn;exact q.2.1 (Hq z (fun y=> a5 b T (Hq y U)))
    ·rw [kidsFrom,List.drop_of_length_le (by omega)] at g;cases g
   ·obtain ⟨a,ea,V⟩:=a6 b T;exact Hq (q.2.2 a ea) V
 have I:(kidsFrom i L m h t).Pairwise Ir:=by
  cases h with
  | zero=> exact List.Pairwise.nil
  | succ h=>
   obtain ⟨o,n⟩:=t;obtain ⟨R,S,Z⟩:=Qc o (ix (o.map (·.1)) i) j.1;exact Uy S
 have J:(lay L f m B).Pairwise Ir:=by cases B <;> simp [lay]
 refine ⟨⟨fun p g=> ?_,List.pairwise_append.2 ⟨I,List.pairwise_append.2 ⟨J,M,fun p g q F l k a b=> ?_⟩,fun p g q F l k a b=> ?_⟩⟩,fun k X=> Hz fun l hl=> ?_,?_⟩
 ·rcases List.mem_append.1 g with g | g
  ·exact (u p g).1
  ·rcases List.mem_append.1 g with g | g
   ·exact (s p g).1
   ·exact hP p g
 ·obtain ⟨e1,W⟩:=(s p g).2 l k a;exact A q F l k ⟨by omega,W⟩ b
 ·obtain ⟨e1,W⟩:=(u p g).2 l k a;rcases List.mem_append.1 F with F | F
  ·have:=((s q F).2 l k b).1;omega
  ·exact A q F l k ⟨by omega,W⟩ b
 ·rw [Ff,Ia,Ia,Rq,<-List.append_assoc];congr 1;show (if l < L then [] else lev h t (l - L) k)=_
  cases h with
  | zero=>
   show _=[]++_;rw [List.nil_append];rcases Nat.lt_trichotomy l L with q | q | q
   ·rw [if_pos q,if_neg (by omega)]
   ·subst q;rw [if_neg (by omega),if_pos rfl,Nat.sub_self,G.fil k X,Yc 0 j k]
   ·rw [if_neg (by omega),if_neg (by omega)];obtain ⟨d,C⟩:∃d,l - L=d+1:=⟨l - L - 1,by omega⟩;rw [C];rfl
  | succ h=>
   obtain ⟨o,n⟩:=t;rw [kidsFrom,Abo,Aml j.1 _ X];rcases Nat.lt_trichotomy l L with q | q | q
   ·rw [if_pos q,if_pos (by omega),if_neg (by omega)];rfl
   ·subst q;rw [if_neg (by omega),if_pos (by omega),if_pos rfl,Nat.sub_self,G.fil k X,Yc (h+1) j k];rfl
   ·rw [if_neg (by omega),if_neg (by omega),if_neg (by omega),List.append_nil];obtain ⟨d,C⟩:∃d,l - L=d+1:=⟨l - L - 1,by omega⟩;rw [C,show l - (L+1)=d by omega];rfl
 ·rw [Tf,size_append,size_append,Aeu];have hl:=G.len;show _ < sz h t+_
  cases h with
  | zero=>
   show 0+_ < 1+(its t).length+_;have:(nodeCh 0 t).length=(its t).length:=List.length_map ..;omega
  | succ h=>
   obtain ⟨o,n⟩:=t;rw [kidsFrom,Yd];have h3:=Aev (o.map fun p=> sz h p.2) (ix (o.map (·.1)) i);rw [<-List.map_drop] at h3;have h4:(nodeCh (h+1) (o,n)).length=n.length:=rfl;show _ < 1+n.length+(o.map fun p=> sz h p.2).sum+_;omega
end Go.Proofs.YtolgpnaoaodepaaGreat.Tr
namespace Go.Proofs.YtolgpnaoaodepaaGreat.Hp
structure Ord {α:Type} (lt:α->α->Prop):Prop where
 asy:∀{a b},lt a b->¬lt b a
 tr:∀{a b c},¬lt b a->¬lt c b->¬lt c a
def swp {α:Type} (g:Nat->α) (i j k:Nat):α:=if k=i then g j else if k=j then g i else g k
def Mu {α:Type} (lt:α->α->Prop) (g:Nat->α) (n:Nat):Prop:=∀k,0 < k->k < n->¬lt (g k) (g ((k - 1) / 2))
structure UpI {α:Type} (lt:α->α->Prop) (g:Nat->α) (n j:Nat):Prop where
 a:∀k,0 < k->k < n->k≠j->¬lt (g k) (g ((k - 1) / 2))
 b:∀k,0 < k->k < n->(k - 1) / 2=j->0 < j->¬lt (g k) (g ((j - 1) / 2))
structure Ml {α:Type} (lt:α->α->Prop) (g:Nat->α) (n i:Nat):Prop where
 a:∀k,0 < k->k < n->(k - 1) / 2≠i->¬lt (g k) (g ((k - 1) / 2))
 b:∀k,0 < k->k < n->(k - 1) / 2=i->0 < i->¬lt (g k) (g ((i - 1) / 2))
variable {α:Type} {lt:α->α->Prop}
theorem Abp (g:Nat->α) (i j:Nat):swp g i j i=g j:=if_pos rfl
theorem Uz (g:Nat->α) (i j:Nat):swp g i j j=g i:=by unfold swp;split;·rename_i e;rw [e]
                                                    ·rw [if_pos rfl]
theorem Jy (g:Nat->α) {i j k:Nat} (a:k≠i) (b:k≠j):swp g i j k=g k:=by unfold swp;rw [if_neg a,if_neg b]
theorem UpI.step (O:Ord lt) {g:Nat->α} {n j i:Nat} (h:UpI lt g n j) (f:i=(j - 1) / 2) (y:j < n) (r:i≠j) (s:lt (g j) (g i)):UpI lt (swp g i j) n i:=by
 have l:0 < j:=by omega
 have t:i < j:=by omega
 refine ⟨fun k h0 d m=> ?_,fun k h0 d u o=> ?_⟩
 ·by_cases e:k=j
  ·subst e;rw [Uz,<-f,Abp];exact O.asy s
  ·rw [Jy g m e];by_cases p:(k - 1) / 2=j
   ·rw [p,Uz];have:=h.b k h0 d p l;rw [<-f] at this;exact this
   ·by_cases q:(k - 1) / 2=i
    ·rw [q,Abp];have:=h.a k h0 d e;rw [q] at this;exact O.tr (O.asy s) this
    ·rw [Jy g q p];exact h.a k h0 d e
 ·have c:¬lt (g i) (g ((i - 1) / 2)):=h.a i o (by omega) r;rw [Jy g (k:=(i - 1) / 2) (by omega) (by omega)];by_cases e:k=j
  ·subst e;rw [Uz];exact c
  ·rw [Jy g (by omega) e];have:=h.a k h0 d e;rw [u] at this;exact O.tr c this
theorem UpI.done {g:Nat->α} {n j:Nat} (h:UpI lt g n j) (c:j=0\/¬lt (g j) (g ((j - 1) / 2))):Mu lt g n:=fun k h0 b=> by
 by_cases e:k=j
 ·subst e;rcases c with q | q
  ·omega
  ·exact q
 ·exact h.a k h0 b e
theorem UpI.start {g:Nat->α} {n:Nat} (h:Mu lt g n):UpI lt g (n+1) n:=⟨fun k h0 a b=> h k h0 (by omega),fun k h0 a c _=> by omega⟩
theorem Ml.step (O:Ord lt) {g:Nat->α} {n i j:Nat} (h:Ml lt g n i) (u:j < n) (h0:0 < j) (p:(j - 1) / 2=i) (f:∀k,0 < k->k < n->(k - 1) / 2=i->¬lt (g k) (g j)) (y:lt (g j) (g i)):Ml lt (swp g i j) n j:=by
 have s:i < j:=by omega
 refine ⟨fun k d l c=> ?_,fun k d l c _=> ?_⟩
 ·by_cases e:(k - 1) / 2=i
  ·rw [e,Abp];by_cases q:k=j
   ·subst q;rw [Uz];exact O.asy y
   ·rw [Jy g (by omega) q];exact f k d l e
  ·rw [Jy g (k:=(k - 1) / 2) e c];by_cases r:k=i
   ·subst r;rw [Abp];exact h.b j h0 u p d
   ·rw [Jy g r (fun t=> by subst t;exact e p)];exact h.a k d l e
 ·have m:k≠i:=by omega
  have o:k≠j:=by omega
  rw [p,Abp,Jy g m o];have:=h.a k d l (by omega);rw [c] at this;exact this
theorem Ml.done {g:Nat->α} {n i:Nat} (h:Ml lt g n i) (c:∀k,0 < k->k < n->(k - 1) / 2=i->¬lt (g k) (g i)):Mu lt g n:=fun k h0 b=> by
 by_cases e:(k - 1) / 2=i
 ·rw [e];exact c k h0 b e
 ·exact h.a k h0 b e
theorem Ml.start {g:Nat->α} {n:Nat} (h:Mu lt g (n+1)):Ml lt (swp g 0 n) n 0:=by
 refine ⟨fun k h0 b a=> ?_,fun k h0 b a q=> by omega⟩;rw [Jy g (by omega) (by omega),Jy g a (by omega)];exact h k h0 (by omega)
theorem Mu.root (O:Ord lt) {g:Nat->α} {n:Nat} (h:Mu lt g n):∀k,k < n->¬lt (g k) (g 0):=by
 intro k
 induction k using Nat.strongRecOn with
 | ind k ih=>
  intro a;by_cases e:k=0
  ·subst e;exact fun q=> O.asy q q
  ·exact O.tr (ih ((k - 1) / 2) (by omega) (by omega)) (h k (by omega) a)
theorem Mu.congr {g b:Nat->α} {n:Nat} (h:Mu lt g n) (c:∀k,k < n->b k=g k):Mu lt b n:=fun k h0 a=> by
 rw [c k a,c _ (by omega)];exact h k h0 a
def nth (d:α) (l:List α) (i:Nat):α:=(l[i]?).getD d
def swL (d:α) (l:List α) (i j:Nat):List α:=(l.set i (nth d l j)).set j (nth d l i)
theorem Dj (d:α) (l:List α) {i:Nat} (h:i < l.length):nth d l i=l[i]'h:=by unfold nth;rw [List.getElem?_eq_getElem h];rfl
theorem Aoz (d:α) (l:List α) (i j:Nat):(swL d l i j).length=l.length:=by simp [swL]
theorem Rr (d:α) (l:List α) {i j:Nat} (hi:i < l.length) (c:j < l.length) (k:Nat):nth d (swL d l i j) k=swp (nth d l) i j k:=by
 unfold swL swp;show (((l.set i (nth d l j)).set j (nth d l i))[k]?).getD d=_;rw [List.getElem?_set];by_cases b:j=k
 ·subst b;rw [if_pos rfl,List.length_set,if_pos c];by_cases a:j=i
  ·subst a;rw [if_pos rfl];rfl
  ·rw [if_neg a,if_pos rfl];rfl
 ·rw [if_neg b,List.getElem?_set];by_cases a:i=k
  ·subst a;rw [if_pos rfl,if_pos hi,if_pos rfl];rfl
  ·rw [if_neg a,if_neg (fun q=> a q.symm),if_neg (fun q=> b q.symm)];rfl
theorem Aew (d:α) (l:List α) {i j:Nat} (hi:i < l.length) (a:j < l.length):(swL d l i j).Perm l:=by
 unfold swL;rw [Dj d l hi,Dj d l a];have:=Array.swap_perm (xs:=l.toArray) (i:=i) (j:=j) (by simpa using hi) (by simpa using a);rw [Array.perm_iff_toList_perm] at this;simpa [Array.swap] using this
end Go.Proofs.YtolgpnaoaodepaaGreat.Hp
