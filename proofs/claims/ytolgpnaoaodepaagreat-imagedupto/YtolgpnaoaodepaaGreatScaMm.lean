import Derived.Test.YtolgpnaoaodepaaGreatSilBm
import Derived.Test.YtolgpnaoaodepaaGreatTreZGm
import Derived.Test.YtolgpnaoaodepaaGreatGenm
namespace Go.Proofs.YtolgpnaoaodepaaGreat
open Go.RowKit
def addB (il:List (ByteArray×ByteArray)) (key:ByteArray):Option (List UInt8)→List (ByteArray×ByteArray)
 | none=> il
 | some x=> il++[(key,⟨x.toArray⟩)]
set_option maxHeartbeats 400000 in
set_option maxRecDepth 4000 in
theorem appendItem_any (s:Option (List UInt8)) (B:Nat) (v:Value) (il:List (ByteArray×ByteArray)) (key:ByteArray) (w:World) (h:OwnsI B w v il) (z:B≤w.heap.size) (E:il.length≤400000000):
  Calls Tryz.prog 69 #[.agg #[.string (stV s),.bool (stB s)],v,.string key] w fun r w'=>∃l,r= .returned l∧OwnsI B w' l (addB il key s)∧Below B w w'∧w.grownBy w' v.ownBlock∧(l.ownBlock=v.ownBlock∨∃k,w.heap.size≤k∧l.ownBlock=some k):=by
 have c:Below w.heap.size w (w.alloc (.cells #[.string (stV s),.bool (stB s)] 136)):=(Below.refl _ w).alloc (Nat.le_refl _) _
 have m:StB (w.alloc (.cells #[.string (stV s),.bool (stB s)] 136)) w.heap.size (stV s) (stB s):=heap_alloc_new _ _
 have i:Hid (OwnsI B (w.alloc (.cells #[.string (stV s),.bool (stB s)] 136)) v il):=h.alloc _
 obtain ⟨D,q,-,-⟩:=m.cells
 have b:=hid c
 have A:(w.alloc (.cells #[.string (stV s),.bool (stB s)] 136)).heap.size=w.heap.size+1:=by simp
 cases s with
 | none=>
  have n:stB none=false:=rfl
  rw [n] at q
  clear m h c
  go_enter Tryz.func69,Tryz.ntmps69
  go_wp2_with fail
  go_ret
  exact ⟨_,rfl,i.out,b.out.mono z,⟨b.out.os,b.out.tape,b.out.output,b.out.size,fun k d _=> b.out.block k d⟩,.inl rfl⟩
 | some x=>
  have n:stB (some x)=true:=rfl
  rw [n] at q D i b A ⊢
  have o:Hid (stV (some x)=⟨x.toArray⟩):=rfl
  clear m h c
  generalize stV (some x)=y at*
  go_enter Tryz.func69,Tryz.ntmps69
  go_wp2_with (at_builtin;refine wpApG (w.alloc (.cells #[.string y,.bool true] 136)) rfl (.tmp 11) (.tmp 16) 30 51 Tryz.underlying30 _ 2 32 info_item rfl (by decide) (by decide) rfl B v il.length (icells il) rfl i.out [.string key,.string y] rfl (by intro u t;simp at t;rcases t with rfl | rfl <;> rfl) (by simp [Act.eval]) (by omega) (by omega) ?_;intro v2 j f a g)
  have C:Hid (OwnsI B j v2 (addB il key (some x))∧Below B w j∧w.grownBy j v.ownBlock∧(v2.ownBlock=v.ownBlock∨∃k,w.heap.size≤k∧v2.ownBlock=some k)):=by
   refine ⟨?_,((b.out.mono z).grown a (by omega) fun k d=> (World.ownsRow.lt i.out k d).1),?_,g.imp id (fun ⟨k,d,e⟩=> ⟨k,by omega,e⟩)⟩
   ·show OwnsI B j v2 (il++[(key,⟨x.toArray⟩)])
    unfold OwnsI
    rw [List.length_append,icells_snoc,←o.out]
    exact f
   ·exact ⟨a.os.trans b.out.os,a.tape.trans b.out.tape,a.output.trans b.out.output,Nat.le_trans b.out.size a.size,fun k d p=> (a.block k (by omega) p).trans (b.out.block k d)⟩
  clear f a g
  go_wp2_with fail
  go_ret
  exact ⟨_,rfl,C.out⟩
theorem plain_addB (il:List (ByteArray×ByteArray)) (key:ByteArray) (s:Option (List UInt8)):plain (addB il key s)=plain il++(s.map fun v=> (key.data.toList,v)).toList:=by
 cases s with
 | none=> simp [addB]
 | some x=> simp [addB,plain]
set_option maxHeartbeats 400000 in
theorem ahead_any (k:Int) (key x d:ByteArray) (c:Nat) (w:World) (i:w.cell? ⟨c,0,none⟩=some (.string d)) (e:c < w.heap.size):
  Calls Tryz.prog 238 #[.agg #[.int .i64 k,.string key,.string x],.pointer (some ⟨c,0,none⟩)] w fun r w'=> r= .returned (.bool (decide (key.data.toList < d.data.toList)))∧Below w.heap.size w w':=by
 have b:Below w.heap.size w (w.alloc (.cells #[.int .i64 k,.string key,.string x] 34)):=(Below.refl _ w).alloc (Nat.le_refl _) _
 have f:ChB (w.alloc (.cells #[.int .i64 k,.string key,.string x] 34)) w.heap.size k key x:=heap_alloc_new _ _
 obtain ⟨j,l,m⟩:=f.cells
 have g:=(b.cell (p:=⟨c,0,none⟩) e).trans i
 have h:=hid b
 clear b f
 go_enter Tryz.func238,Tryz.ntmps238
 go_wp2_with fail
 go_ret
 refine ⟨?_,h.out⟩
 show Ending.returned (.bool (Op.bytesLess key.toList d.toList))=_
 rw [toList_is,toList_is,less_is]
set_option maxHeartbeats 400000 in
theorem order_any (c g:Int) (a d b h:ByteArray) (w:World):
  Calls Tryz.prog 240 #[.agg #[.int .i64 c,.string a,.string d],.agg #[.int .i64 g,.string b,.string h]] w fun r w'=> r= .returned (.int .i64 (Lib.compareBytes a.data.toList b.data.toList))∧Below w.heap.size w w':=by
 have i:ChB (w.alloc (.cells #[.int .i64 c,.string a,.string d] 34)) w.heap.size c a d:=heap_alloc_new _ _
 have f:Below w.heap.size w (w.alloc (.cells #[.int .i64 c,.string a,.string d] 34)):=(Below.refl _ w).alloc (Nat.le_refl _) _
 have j:Below w.heap.size w ((w.alloc (.cells #[.int .i64 c,.string a,.string d] 34)).alloc (.cells #[.int .i64 g,.string b,.string h] 34)):=f.alloc f.size _
 have k:ChB ((w.alloc (.cells #[.int .i64 c,.string a,.string d] 34)).alloc (.cells #[.int .i64 g,.string b,.string h] 34)) (w.heap.size+1) g b h:=by
  have:=heap_alloc_new (w.alloc (.cells #[.int .i64 c,.string a,.string d] 34)) (.cells #[.int .i64 g,.string b,.string h] 34)
  rw [show (w.alloc (.cells #[.int .i64 c,.string a,.string d] 34)).heap.size=w.heap.size+1 by simp] at this
  exact this
 have e:ChB ((w.alloc (.cells #[.int .i64 c,.string a,.string d] 34)).alloc (.cells #[.int .i64 g,.string b,.string h] 34)) w.heap.size c a d:=by
  have l:=(Below.refl (w.heap.size+1) (w.alloc (.cells #[.int .i64 c,.string a,.string d] 34))).alloc (by simp) (.cells #[.int .i64 g,.string b,.string h] 34)
  exact (l.block _ (by omega)).trans i
 obtain ⟨n,o,p⟩:=e.cells
 obtain ⟨q,s,t⟩:=k.cells
 have m:=hid j
 clear i f j k e
 go_enter Tryz.func240,Tryz.ntmps240
 go_wp2_with fail
 refine (compare_any a b _).mono ?_
 rintro r u ⟨rfl,rfl⟩
 go_wp2_with fail
 go_ret
 exact ⟨rfl,m.out⟩
end Go.Proofs.YtolgpnaoaodepaaGreat
namespace Go.Proofs.YtolgpnaoaodepaaGreat.Tr
def hasKey (k:Key) (c:Ch):Bool:=decide (c.2.1=k)
def lev:(h:Nat)→TreeT h→Nat→Key→List Ch
 | 0,l,0,k=> ((look l k).map fun v=> ((1:Int),k,v)).toList
 | 0,_,_+1,_=> []
 | _+1,(_,cs),0,k=> cs.filter (hasKey k)
 | h+1,(ps,_),d+1,k=> (ps.map fun p=> lev h p.2 d k).flatten
def down (f:Nat→List Ch):Nat→List Ch
 | 0=> []
 | n+1=> f n++down f n
theorem down_shift (f:Nat→List Ch):∀n,down f (n+1)=down (fun d=> f (d+1)) n++f 0
 | 0=> by simp [down]
 | n+1=> by
  have:=down_shift f n
  rw [down,this,down,List.append_assoc]
theorem down_congr {f g:Nat→List Ch}:∀{n:Nat},(∀d,d < n→f d=g d)→down f n=down g n
 | 0,_=> rfl
 | n+1,h=> by rw [down,down,h n (by omega),down_congr fun d a=> h d (by omega)]
theorem down_nil {f:Nat→List Ch}:∀{n:Nat},(∀d,d < n→f d=[])→down f n=[]
 | 0,_=> rfl
 | n+1,h=> by rw [down,h n (by omega),down_nil fun d a=> h d (by omega)];rfl
theorem down_cons {f g:Nat→List Ch} {c:Ch} {L:Nat}:∀{n:Nat},L < n→(∀d,L < d→d < n→f d=[])→(∀d,L < d→d < n→g d=[])→f L=c::g L→(∀d,d < L→f d=g d)→down f n=c::down g n
 | 0,h,_,_,_,_=> by omega
 | n+1,h,h1,h2,h3,h4=> by
  by_cases e:L=n
  ·subst e
   rw [down,down,h3,down_congr h4];rfl
  ·rw [down,down,h1 n (by omega) (by omega),h2 n (by omega) (by omega)]
   exact down_cons (by omega) (fun d a b=> h1 d a (by omega)) (fun d a b=> h2 d a (by omega)) h3 h4
theorem chain_mem {h:Nat} {R:Key→Option Key→TreeT h→Prop}:∀{g:List (Key×TreeT h)} {lo:Key} {hi:Option Key},Chain R (some lo) hi g→∀p∈g,∃m,R p.1 m p.2∧room p.1 m∧¬p.1 < lo∧∀b,hi=some b→∃a,m=some a∧¬b < a
 | [],_,_,_,_,c=> by cases c
 | (f,t)::r,lo,hi,⟨e,m,h1,h2,h3⟩,p,c=> by
  obtain rfl:lo=f:=Option.some.inj e
  rcases List.mem_cons.1 c with rfl | c
  ·exact ⟨m,h2,h1,lt_ir _,fun b o=> chain_lo h3 b o⟩
  ·match r,h3,c with
   | (f2,t2)::r2,h3,c=>
    have d:m=some f2:=h3.1
    rw [d] at h3
    obtain ⟨i,j,k,l,n⟩:=chain_mem h3 p c
    have:=(h1 f2 d).1
    exact ⟨i,j,k,fun q=> l (lt_tr q this),n⟩
theorem lt_of_not_le' {a b c:Key} (h:¬b < a) (h2:b < c):a < c:=le_lt h h2
theorem lev_nil:∀(h:Nat) {lo:Key} {hi:Option Key} {t:TreeT h},WF h lo hi t→∀{k:Key},¬inR lo hi k→∀d,lev h t d k=[]
 | 0,lo,hi,l,hw,k,hk,0=> by
  have e:look l k=none:=look_none (l:=l) fun x s e=> hk (by rw [←e];exact (hw.2 x s).1)
  exact congrArg (fun o=> (Option.map (fun v=> ((1:Int),k,v)) o).toList) e
 | 0,_,_,_,_,_,_,_+1=> rfl
 | h+1,lo,hi,(ps,cs),hw,k,hk,0=> by
  simp only [lev]
  refine List.filter_eq_nil_iff.2 fun c u e=> hk ?_
  rw [←of_decide_eq_true e];exact (hw.2 c u).1
 | h+1,lo,hi,(ps,cs),hw,k,hk,d+1=> by
  simp only [lev]
  refine List.flatten_eq_nil_iff.2 fun l w=> ?_
  obtain ⟨p,g,rfl⟩:=List.mem_map.1 w
  obtain ⟨m,i,A,j,n⟩:=chain_mem hw.1 p g
  refine lev_nil h i.1 (fun q=> hk ⟨fun z=> j (lt_of_not_le' q.1 z),fun b y=> ?_⟩) d
  obtain ⟨a,r,f⟩:=n b y
  have:=q.2 a r
  exact lt_le this f
theorem lev_parts {h:Nat} {lo:Key} {hi:Option Key} {A B:List (Key×TreeT h)} {f:Key} {t:TreeT h} {m:Option Key} {k:Key} (D:Chain (fun f m t=> WF h f m t∧Top h t) (some lo) (some f) A) (e:Chain (fun f m t=> WF h f m t∧Top h t) m hi B) (u:inR f m k) (d:Nat):((A++(f,t)::B).map fun p=> lev h p.2 d k).flatten=lev h t d k:=by
 have v:(A.map fun p=> lev h p.2 d k).flatten=[]:=by
  refine List.flatten_eq_nil_iff.2 fun l j=> ?_
  obtain ⟨p,c,rfl⟩:=List.mem_map.1 j
  obtain ⟨y,g,z,o,s⟩:=chain_mem D p c
  refine lev_nil h g.1 (fun q=> u.1 ?_) d
  obtain ⟨a,C,i⟩:=s f rfl
  exact lt_le (q.2 a C) i
 have w:(B.map fun p=> lev h p.2 d k).flatten=[]:=by
  refine List.flatten_eq_nil_iff.2 fun l j=> ?_
  obtain ⟨p,c,rfl⟩:=List.mem_map.1 j
  cases n:m with
  | none=>
   rw [n] at e
   cases B with
   | nil=> cases c
   | cons x r=> exact absurd e.1 (by simp)
  | some b=>
   rw [n] at e
   obtain ⟨y,g,z,o,s⟩:=chain_mem e p c
   exact lev_nil h g.1 (fun q=> q.1 (lt_le (u.2 b n) o)) d
 rw [List.map_append,List.map_cons,List.flatten_append,List.flatten_cons,v,w];simp
theorem val_lev:∀(h:Nat) {lo:Key} {hi:Option Key} {t:TreeT h},WF h lo hi t→∀{k:Key},inR lo hi k→val h t k=afterAll (down (fun d=> lev h t d k) (h+1)) k none
 | 0,lo,hi,l,hw,k,hk=> by
  simp only [down,lev,val,List.append_nil]
  cases p:look l k with
  | none=> rfl
  | some v=>
   show some v=one k none (1,k,v)
   simp [one,after]
 | h+1,lo,hi,(ps,cs),hw,k,hk=> by
  rw [down_shift,afterAll_append]
  obtain ⟨A,f,t,B,m,a,g,i,o,b,j,n⟩:=chain_find hw.1 hk
  have h0:(fun d=> lev (h+1) (ps,cs) (d+1) k)=fun d=> lev h t d k:=by
   funext d
   simp only [lev]
   rw [a]
   exact lev_parts j n b d
  rw [h0,←val_lev h i.1 b]
  show _=afterAll (cs.filter (hasKey k)) k _
  rw [afterAll_filter (hasKey k) cs k _ (fun c _ e=> decide_eq_true e)]
  subst a
  exact val_at g
end Go.Proofs.YtolgpnaoaodepaaGreat.Tr
namespace Go.Proofs.YtolgpnaoaodepaaGreat.Tr
structure PlN where
 f:Key
 L:Nat
 h:Nat
 m:Option Key
 t:TreeT h
structure PlC where
 L:Nat
 f:Key
 m:Option Key
 c:Ch
 cs:List Ch
abbrev Plc:=PlN ⊕ PlC
abbrev Plc.nd (f:Key) (L h:Nat) (m:Option Key) (t:TreeT h):Plc:=.inl ⟨f,L,h,m,t⟩
abbrev Plc.ch (L:Nat) (f:Key) (m:Option Key) (c:Ch) (cs:List Ch):Plc:=.inr ⟨L,f,m,c,cs⟩
theorem Plc.two {P:Plc → Prop} (p:Plc) (nd:∀ f L h m t,P (.nd f L h m t)) (ch:∀ L f m c cs,P (.ch L f m c cs)):P p:=by
 rcases p with ⟨f,L,h,m,t⟩ | ⟨L,f,m,c,cs⟩
 ·exact nd f L h m t
 ·exact ch L f m c cs
def Plc.key:Plc→Key
 | .inl ⟨f,_,_,_,_⟩=> f
 | .inr ⟨_,_,_,c,_⟩=> c.2.1
def Plc.lv:Plc→Nat
 | .inl ⟨_,L,_,_,_⟩=> L
 | .inr ⟨L,_,_,_,_⟩=> L
def Plc.cont:Plc→Nat→Key→List Ch
 | .inl ⟨_,L,h,_,t⟩,l,k=> if l < L then [] else lev h t (l - L) k
 | .inr ⟨L,_,_,c,cs⟩,l,k=> if l=L then (c::cs).filter (hasKey k) else []
def Plc.cov:Plc→Nat→Key→Prop
 | .inl ⟨f,L,_,m,_⟩,l,k=> L≤l∧inR f m k
 | .inr ⟨L,f,m,_,_⟩,l,k=> l=L∧inR f m k
def Rise (cs:List Ch):Prop:=cs.Pairwise fun a b=>¬b.2.1 < a.2.1
def Plc.ok (fr:Key) (D:Nat):Plc→Prop
 | .inl ⟨f,L,h,m,t⟩=> WF h f m t∧Top h t∧room f m∧L+h+1=D
 | .inr ⟨L,f,m,c,cs⟩=> L < D∧Rise (c::cs)∧∀d∈c::cs,¬d.2.1 < fr∧inR f m d.2.1∧okCh d
def Apart (p q:Plc):Prop:=∀l k,p.cov l k→¬q.cov l k
theorem Apart.symm {p q:Plc} (h:Apart p q):Apart q p:=fun l k a b=> h l k b a
def tot (P:List Plc) (l:Nat) (k:Key):List Ch:=(P.map fun p=> p.cont l k).flatten
def left (D:Nat) (P:List Plc) (k:Key):List Ch:=down (fun l=> tot P l k) D
structure SInv (fr:Key) (D:Nat) (P:List Plc):Prop where
 ok:∀p∈P,p.ok fr D
 ap:P.Pairwise Apart
def Plc.less (p q:Plc):Prop:=p.key < q.key∨p.key=q.key∧q.lv < p.lv
theorem cont_cov {j:Key} {D:Nat} {p:Plc} (a:p.ok j D) {l:Nat} {k:Key} (h:p.cont l k≠[]):p.cov l k:=by
 cases p using Tr.Plc.two with
 | nd f L h' m t=>
  by_cases q:l < L
  ·exact absurd (if_pos q) h
  ·refine ⟨by omega,Classical.byContradiction fun z=> h ?_⟩
   show (if l < L then [] else lev h' t (l - L) k)=[]
   rw [if_neg q];exact lev_nil h' a.1 z _
 | ch L f m c cs=>
  by_cases q:l=L
  ·refine ⟨q,?_⟩
   have b:(c::cs).filter (hasKey k)≠[]:=by
    have:(Plc.ch L f m c cs).cont l k=(c::cs).filter (hasKey k):=if_pos q
    rw [this] at h;exact h
   obtain ⟨d,e⟩:=List.exists_mem_of_ne_nil _ b
   obtain ⟨g,i⟩:=List.mem_filter.1 e
   rw [←of_decide_eq_true i]
   exact (a.2.2 d g).2.1
  ·exact absurd (if_neg q) h
theorem cont_ge {n:Key} {D:Nat} {p:Plc} (a:p.ok n D) {l:Nat} {k:Key} (h:p.cont l k≠[]):¬k < p.key:=by
 cases p using Tr.Plc.two with
 | nd f L h' m t=> exact (cont_cov a h).2.1
 | ch L f m c cs=>
  by_cases q:l=L
  ·have b:(c::cs).filter (hasKey k)≠[]:=by
    have:(Plc.ch L f m c cs).cont l k=(c::cs).filter (hasKey k):=if_pos q
    rw [this] at h;exact h
   obtain ⟨d,g⟩:=List.exists_mem_of_ne_nil _ b
   obtain ⟨i,j⟩:=List.mem_filter.1 g
   rw [←of_decide_eq_true j]
   rcases List.mem_cons.1 i with e | e
   ·rw [e];exact lt_ir _
   ·exact (List.pairwise_cons.1 a.2.1).1 d e
  ·exact absurd (if_neg q) h
theorem cov_key {e:Key} {D:Nat} {p:Plc} (a:p.ok e D):p.cov p.lv p.key:=by
 cases p using Tr.Plc.two with
 | nd f L h' m t=> exact ⟨Nat.le_refl _,lt_ir _,fun b d=> (a.2.2.1 b d).1⟩
 | ch L f m c cs=> exact ⟨rfl,(a.2.2 c (List.mem_cons_self ..)).2.1⟩
theorem tot_nil {P:List Plc} {l:Nat} {k:Key} (h:∀p∈P,p.cont l k=[]):tot P l k=[]:=
 List.flatten_eq_nil_iff.2 fun x b=> by obtain ⟨p,a,rfl⟩:=List.mem_map.1 b;exact h p a
theorem tot_append (P Q:List Plc) (l:Nat) (k:Key):tot (P++Q) l k=tot P l k++tot Q l k:=by simp [tot]
theorem tot_cons (p:Plc) (Q:List Plc) (l:Nat) (k:Key):tot (p::Q) l k=p.cont l k++tot Q l k:=by simp [tot]
theorem SInv.perm {a:Key} {D:Nat} {P Q:List Plc} (h:SInv a D P) (b:P.Perm Q):SInv a D Q:=
 ⟨fun p c=> h.ok p (b.mem_iff.2 c),(b.pairwise_iff (fun q=> Apart.symm q)).1 h.ap⟩
theorem tot_perm {d:Key} {D:Nat} {P Q:List Plc} (a:P.Perm Q) (h:SInv d D P) (l:Nat) (k:Key):tot P l k=tot Q l k:=by
 induction a with
 | nil=> rfl
 | cons x _ ih=> rw [tot_cons,tot_cons,ih ⟨fun p a=> h.ok p (List.mem_cons_of_mem _ a),(List.pairwise_cons.1 h.ap).2⟩]
 | swap x y r=>
  rw [tot_cons,tot_cons,tot_cons,tot_cons,←List.append_assoc,←List.append_assoc]
  congr 1
  by_cases b:x.cont l k=[]
  ·rw [b];simp
  ·by_cases c:y.cont l k=[]
   ·rw [c];simp
   ·have:=(List.pairwise_cons.1 h.ap).1 x (List.mem_cons_self ..)
    exact absurd (cont_cov (h.ok x (by simp)) b) (this l k (cont_cov (h.ok y (by simp)) c))
 | trans h1 _ ih1 ih2=> rw [ih1 h,ih2 (h.perm h1)]
theorem left_perm {a:Key} {D:Nat} {P Q:List Plc} (b:P.Perm Q) (h:SInv a D P) (k:Key):left D P k=left D Q k:=down_congr fun l _=> tot_perm b h l k
def lay (L:Nat) (f:Key) (m:Option Key):List Ch→List Plc
 | []=> []
 | c::cs=> [.ch L f m c cs]
theorem lay_tot (L:Nat) (f:Key) (m:Option Key) (a:List Ch) (l:Nat) (k:Key):tot (lay L f m a) l k=if l=L then a.filter (hasKey k) else []:=by
 cases a with
 | nil=> simp [lay,tot]
 | cons c r=>
  show (if l=L then (c::r).filter (hasKey k) else [])++[]=_
  rw [List.append_nil]
theorem step_ch {y:Key} {D L:Nat} {f:Key} {m:Option Key} {c:Ch} {g:List Ch} {P:List Plc} (h:SInv y D (.ch L f m c g::P)) (s:∀q∈P,¬q.less (.ch L f m c g)):
  SInv y D (lay L f m g++P)∧left D (.ch L f m c g::P) c.2.1=c::left D (lay L f m g++P) c.2.1∧(∀k,k≠c.2.1→left D (.ch L f m c g::P) k=left D (lay L f m g++P) k)∧(∀k,k < c.2.1→left D (.ch L f m c g::P) k=[]):=by
 have b:=h.ok _ (List.mem_cons_self ..)
 have t:∀p∈P,p.ok y D:=fun p v=> h.ok p (List.mem_cons_of_mem _ v)
 obtain ⟨n,o⟩:=List.pairwise_cons.1 h.ap
 have u:SInv y D (lay L f m g++P):=by
  cases g with
  | nil=> exact ⟨t,o⟩
  | cons d r=>
   refine ⟨fun p v=> ?_,List.pairwise_cons.2 ⟨fun q j=> n q j,o⟩⟩
   rcases List.mem_cons.1 v with rfl | v
   ·exact ⟨b.1,(List.pairwise_cons.1 b.2.1).2,fun e I=> b.2.2 e (List.mem_cons_of_mem _ I)⟩
   ·exact t p v
 have a:∀l k,(Plc.ch L f m c g).cont l k=if l=L then (c::g).filter (hasKey k) else []:=fun _ _=> rfl
 have i:∀l,L < l→tot P l c.2.1=[]:=fun l w=> tot_nil fun q j=> Classical.byContradiction fun z=> by
  have A:=cont_ge (t q j) z
  have B:=s q j
  have F:¬q.key < c.2.1:=fun e=> B (.inl e)
  have G:q.key=c.2.1:=tri _ _ F A
  have C:¬L < q.lv:=fun e=> B (.inr ⟨G,e⟩)
  have E:=cont_cov (t q j) z
  have H:(Plc.ch L f m c g).cov L c.2.1:=cov_key b
  refine n q j L c.2.1 H ?_
  cases q using Tr.Plc.two with
  | nd f' L' h' m' t'=> exact ⟨Nat.le_of_not_lt C,E.2⟩
  | ch L' f' m' c' cs'=> exact absurd E.1 (by have:¬L < L':=C;omega)
 refine ⟨u,?_,fun k x=> down_congr fun l _=> ?_,fun k x=> down_nil fun l _=> tot_nil fun q j=> Classical.byContradiction fun z=> ?_⟩
 ·refine down_cons (L:=L) b.1 (fun l w _=> ?_) (fun l w _=> ?_) ?_ (fun l w=> ?_)
  ·rw [tot_cons,a,if_neg (by omega),i l w];rfl
  ·rw [tot_append,lay_tot,if_neg (by omega),i l w];rfl
  ·rw [tot_cons,a,if_pos rfl,tot_append,lay_tot,if_pos rfl,List.filter_cons_of_pos (p:=hasKey c.2.1) (decide_eq_true rfl)];rfl
  ·rw [tot_cons,a,if_neg (by omega),tot_append,lay_tot,if_neg (by omega)]
 ·rw [tot_cons,a,tot_append,lay_tot,List.filter_cons_of_neg (by simp [hasKey];exact fun e=> x e.symm)]
 ·rcases List.mem_cons.1 j with rfl | j
  ·exact cont_ge b z x
  ·have A:=cont_ge (t q j) z
   exact s q j (.inl (le_lt A x))
theorem left_ahead {e:Key} {D:Nat} {p:Plc} {P:List Plc} (h:SInv e D (p::P)) (a:∀q∈P,¬q.less p) {k:Key} (d:k < p.key):left D (p::P) k=[]:=
 down_nil fun l _=> tot_nil fun q b=> Classical.byContradiction fun z=> by
  have c:=cont_ge (h.ok q b) z
  rcases List.mem_cons.1 b with rfl | b
  ·exact c d
  ·exact a q b (.inl (le_lt c d))
def nodes (L:Nat) {h:Nat}:List (Key×TreeT h)→Option Key→List Plc
 | [],_=> []
 | (f,t)::r,hi=> .nd f L h (nxt r hi) t::nodes L r hi
def nodeCh:(h:Nat)→TreeT h→List Ch
 | 0,l=> (its l).map fun x=> ((1:Int),x.1,x.2)
 | _+1,(_,cs)=> cs
theorem wgB:∀(l:List It),Rising l→∀k,(l.map fun x=> ((1:Int),x.1,x.2)).filter (hasKey k)=((look l k).map fun v=> ((1:Int),k,v)).toList
 | [],_,_=> rfl
 | x::r,hr,k=> by
  obtain ⟨h1,h2⟩:=List.pairwise_cons.1 hr
  rw [List.map_cons,look]
  by_cases e:x.1=k
  ·rw [List.filter_cons_of_pos (p:=hasKey k) (a:=((1:Int),x.1,x.2)) (decide_eq_true e),if_pos e,wgB r h2 k,look_none fun y hy q=> by
    have:=h1 y hy;rw [q,e] at this;exact lt_ir _ this]
   subst e;rfl
  ·rw [List.filter_cons_of_neg (by simp [hasKey,e]),if_neg e]
   exact wgB r h2 k
theorem nodeCh_lev:∀(h:Nat) {lo:Key} {hi:Option Key} {t:TreeT h},WF h lo hi t→∀k,(nodeCh h t).filter (hasKey k)=lev h t 0 k
 | 0,_,_,l,hw,k=> wgB l hw.1 k
 | _+1,_,_,(_,_),_,_=> rfl
structure Scd (fr:Key) (l l':List Ch):Prop where
 rise:Rise l'
 sub:∀c∈l',c∈l∧¬c.2.1 < fr
 fil:∀k,¬k < fr→l'.filter (hasKey k)=l.filter (hasKey k)
 len:l'.length≤l.length
def kidsFrom (fr:Key) (L:Nat) (m:Option Key):(h:Nat)→TreeT h→List Plc
 | 0,_=> []
 | _+1,(ps,_)=> nodes (L+1) (ps.drop (ix (ps.map (·.1)) fr)) m
theorem nodes_mem {L h:Nat} {hi:Option Key} {p:Plc}:∀{j:List (Key×TreeT h)} {lo:Option Key},Chain (fun f m t=> WF h f m t∧Top h t) lo hi j→p∈nodes L j hi→∃f m t,p= .nd f L h m t∧WF h f m t∧Top h t∧room f m∧(∀a,lo=some a→¬f < a)∧∀b,hi=some b→∃a,m=some a∧¬b < a
 | [],_,_,c=> by cases c
 | (f,t)::r,lo,⟨e,m,h1,h2,h3⟩,c=> by
  have g:m=nxt r hi:=chain_nxt h3
  rcases List.mem_cons.1 c with rfl | c
  ·rw [←g]
   exact ⟨f,m,t,rfl,h2.1,h2.2,h1,fun a d=> by rw [e] at d;rw [←Option.some.inj d];exact lt_ir _,fun b A=> chain_lo h3 b A⟩
  ·obtain ⟨l,n,o,s,u,v,w,y,z⟩:=nodes_mem h3 c
   refine ⟨l,n,o,s,u,v,w,fun a d=> ?_,z⟩
   rw [e] at d
   rw [←Option.some.inj d]
   cases k:r with
   | nil=> rw [k] at c;cases c
   | cons x r'=>
    have i:m=some x.1:=by rw [g,k];rfl
    exact fun q=> y x.1 i (lt_tr q (h1 x.1 i).1)
theorem nodes_apart {L h:Nat} {hi:Option Key}:∀{i:List (Key×TreeT h)} {lo:Option Key},Chain (fun f m t=> WF h f m t∧Top h t) lo hi i→(nodes L i hi).Pairwise Apart
 | [],_,_=> List.Pairwise.nil
 | (f,t)::r,lo,⟨e,m,h1,h2,h3⟩=> by
  have d:m=nxt r hi:=chain_nxt h3
  refine List.pairwise_cons.2 ⟨fun q c l k a b=> ?_,nodes_apart h3⟩
  obtain ⟨o,p,s,rfl,_,_,_,n,_⟩:=nodes_mem h3 c
  rw [←d] at a
  cases j:r with
  | nil=> rw [j] at c;cases c
  | cons x r'=>
   have g:m=some x.1:=by rw [d,j];rfl
   exact n x.1 g (le_lt b.2.1 (a.2.2 x.1 g))
theorem nodes_tot {L h:Nat} {hi:Option Key} (l:Nat) (k:Key):∀(a:List (Key×TreeT h)),tot (nodes L a hi) l k=if l < L then [] else (a.map fun p=> lev h p.2 (l - L) k).flatten
 | []=> by simp [nodes,tot]
 | (f,t)::r=> by
  rw [nodes,tot_cons,nodes_tot l k r]
  show (if l < L then [] else lev h t (l - L) k)++_=_
  by_cases q:l < L
  ·simp [q]
  ·simp [q]
theorem drop_lev {h:Nat} {lo s:Key} {hi:Option Key} {u:List (Key×TreeT h)} (w:Chain (fun f m t=> WF h f m t∧Top h t) (some lo) hi u) (d:Nat) {k:Key} (F:¬k < s):((u.drop (ix (u.map (·.1)) s)).map fun p=> lev h p.2 d k).flatten=(u.map fun p=> lev h p.2 d k).flatten:=by
 by_cases n:inR lo hi s
 ·obtain ⟨A,f,t,B,m,I,J,P,Q,K,L,R⟩:=chain_find w n
  rw [J]
  subst I
  rw [List.drop_left,List.map_append,List.flatten_append]
  have x:(A.map fun p=> lev h p.2 d k).flatten=[]:=by
   refine List.flatten_eq_nil_iff.2 fun l v=> ?_
   obtain ⟨p,i,rfl⟩:=List.mem_map.1 v
   obtain ⟨M,y,N,O,z⟩:=chain_mem L p i
   refine lev_nil h y.1 (fun q=> F ?_) d
   obtain ⟨a,C,j⟩:=z f rfl
   exact lt_le (lt_le (q.2 a C) j) K.1
  rw [x];rfl
 ·by_cases o:s < lo
  ·have:ix (u.map (·.1)) s=0:=by
    match u,w with
    | [],_=> rfl
    | [_],_=> rfl
    | (f,t)::(f2,t2)::r,⟨e,m,x,h2,h3⟩=>
     have G:m=some f2:=h3.1
     have H:lo=f:=Option.some.inj e
     show ix (f::f2::r.map (·.1)) s=0
     rw [ix,if_pos (lt_tr (by rw [←H];exact o) (x f2 G).1)]
   rw [this];rfl
  ·
   obtain ⟨b,D,E⟩:∃b,hi=some b∧¬s < b:=by
    cases hi with
    | none=> exact absurd ⟨o,fun b D=> by cases D⟩ n
    | some b=> exact ⟨b,rfl,fun q=> n ⟨o,fun c w=> by rw [←Option.some.inj w];exact q⟩⟩
   have g:∀p∈u,lev h p.2 d k=[]:=fun p i=> by
    obtain ⟨M,y,N,O,z⟩:=chain_mem w p i
    refine lev_nil h y.1 (fun q=> F ?_) d
    obtain ⟨a,C,j⟩:=z b D
    exact lt_le (lt_le (q.2 a C) j) E
   rw [List.flatten_eq_nil_iff.2 (fun l v=> by obtain ⟨p,i,rfl⟩:=List.mem_map.1 v;exact g p (List.mem_of_mem_drop i)),List.flatten_eq_nil_iff.2 (fun l v=> by obtain ⟨p,i,rfl⟩:=List.mem_map.1 v;exact g p i)]
theorem drop_chain {h:Nat} {R:Key→Option Key→TreeT h→Prop} {hi:Option Key}:∀(i:List (Key×TreeT h)) {lo:Option Key} (n:Nat),Chain R lo hi i→∃c,Chain R c hi (i.drop n)∧∀a,lo=some a→n < i.length→∃b,c=some b∧¬b < a
 | i,lo,0,hc=> ⟨lo,hc,fun a g _=> ⟨a,g,lt_ir _⟩⟩
 | [],lo,n+1,hc=> ⟨lo,hc,fun a g k=> by simp at k⟩
 | (f,t)::r,lo,n+1,⟨e,m,h1,h2,h3⟩=> by
  obtain ⟨c,l,o⟩:=drop_chain r n h3
  refine ⟨c,l,fun a g k=> ?_⟩
  rw [e] at g
  obtain rfl:=Option.some.inj g
  have d:n < r.length:=by simpa using k
  cases r with
  | nil=> simp at d
  | cons x r'=>
   obtain ⟨b,p,j⟩:=o x.1 h3.1 d
   exact ⟨b,p,fun q=> j (lt_tr q (h1 x.1 h3.1).1)⟩
def sz:(h:Nat)→TreeT h→Nat
 | 0,l=> 1+(its l).length
 | h+1,(ps,cs)=> 1+cs.length+(ps.map fun p=> sz h p.2).sum
def Plc.size:Plc→Nat
 | .inl ⟨_,_,h,_,t⟩=> sz h t
 | .inr ⟨_,_,_,_,cs⟩=> cs.length+1
def size (P:List Plc):Nat:=(P.map Plc.size).sum
theorem size_cons (p:Plc) (P:List Plc):size (p::P)=p.size+size P:=by simp [size]
theorem size_append (P Q:List Plc):size (P++Q)=size P+size Q:=by simp [size]
theorem size_lay (L:Nat) (f:Key) (m:Option Key) (a:List Ch):size (lay L f m a)=a.length:=by cases a <;> simp [lay,size,Plc.size]
theorem size_nodes {L h:Nat} {hi:Option Key}:∀(a:List (Key×TreeT h)),size (nodes L a hi)=(a.map fun p=> sz h p.2).sum
 | []=> rfl
 | (f,t)::r=> by rw [nodes,size_cons,size_nodes r];rfl
theorem sum_drop (l:List Nat) (n:Nat):(l.drop n).sum≤l.sum:=by
 have:=List.take_append_drop n l
 have a:=congrArg List.sum this
 rw [List.sum_append] at a
 omega
theorem step_nd {g:Key} {D L h:Nat} {f:Key} {m:Option Key} {t:TreeT h} {P:List Plc} {v:List Ch} (hi:SInv g D (.nd f L h m t::P)) (B:Scd g (nodeCh h t) v):
  SInv g D (kidsFrom g L m h t++(lay L f m v++P))∧(∀k,¬k < g→left D (.nd f L h m t::P) k=left D (kidsFrom g L m h t++(lay L f m v++P)) k)∧size (kidsFrom g L m h t++(lay L f m v++P)) < size (.nd f L h m t::P):=by
 have H:=hi.ok _ (List.mem_cons_self ..)
 obtain ⟨i,S,I,hD⟩:=H
 have U:∀p∈P,p.ok g D:=fun p e=> hi.ok p (List.mem_cons_of_mem _ e)
 obtain ⟨u,G⟩:=List.pairwise_cons.1 hi.ap
 have C:∀c∈nodeCh h t,inR f m c.2.1∧okCh c:=by
  cases h with
  | zero=>
   intro c hc
   obtain ⟨x,X,rfl⟩:=List.mem_map.1 hc
   have:=i.2 x X
   refine ⟨this.1,?_⟩
   unfold okCh Pg.okChange Pg.isChange
   simp [this.2.1,this.2.2]
  | succ h=> obtain ⟨n,j⟩:=t;exact i.2
 have o:∀p∈lay L f m v,p.ok g D∧∀l k,p.cov l k→l=L∧inR f m k:=by
  cases v with
  | nil=> intro p e;cases e
  | cons c r=>
   intro p e
   rw [List.mem_singleton.1 e]
   exact ⟨⟨by omega,B.rise,fun d w=> ⟨(B.sub d w).2,(C d (B.sub d w).1).1,(C d (B.sub d w).1).2⟩⟩,fun _ _ q=> q⟩
 have s:∀p∈kidsFrom g L m h t,p.ok g D∧∀l k,p.cov l k→L < l∧inR f m k:=by
  cases h with
  | zero=> intro p e;cases e
  | succ h=>
   obtain ⟨n,j⟩:=t
   intro p e
   obtain ⟨J,K,T⟩:=drop_chain n (ix (n.map (·.1)) g) i.1
   obtain ⟨f',m',t',rfl,Y,Z,a4,a5,a6⟩:=nodes_mem K e
   refine ⟨⟨Y,Z,a4,by omega⟩,fun l k q=> ⟨q.1,fun z=> ?_,fun b M=> ?_⟩⟩
   ·by_cases hn:ix (n.map (·.1)) g < n.length
    ·obtain ⟨b,M,N⟩:=T f rfl hn
     exact q.2.1 (lt_le z (fun y=> a5 b M (lt_le y N)))
    ·rw [kidsFrom,List.drop_of_length_le (by omega)] at e;cases e
   ·obtain ⟨a,ea,O⟩:=a6 b M
    exact lt_le (q.2.2 a ea) O
 have E:(kidsFrom g L m h t).Pairwise Apart:=by
  cases h with
  | zero=> exact List.Pairwise.nil
  | succ h=>
   obtain ⟨n,j⟩:=t
   obtain ⟨J,K,T⟩:=drop_chain n (ix (n.map (·.1)) g) i.1
   exact nodes_apart K
 have F:(lay L f m v).Pairwise Apart:=by cases v <;> simp [lay]
 refine ⟨⟨fun p e=> ?_,List.pairwise_append.2 ⟨E,List.pairwise_append.2 ⟨F,G,fun p e q A l k a b=> ?_⟩,fun p e q A l k a b=> ?_⟩⟩,fun k R=> down_congr fun l V=> ?_,?_⟩
 ·rcases List.mem_append.1 e with e | e
  ·exact (s p e).1
  ·rcases List.mem_append.1 e with e | e
   ·exact (o p e).1
   ·exact U p e
 ·obtain ⟨e1,Q⟩:=(o p e).2 l k a
  exact u q A l k ⟨by omega,Q⟩ b
 ·obtain ⟨e1,Q⟩:=(s p e).2 l k a
  rcases List.mem_append.1 A with A | A
  ·have:=((o q A).2 l k b).1;omega
  ·exact u q A l k ⟨by omega,Q⟩ b
 ·rw [tot_cons,tot_append,tot_append,lay_tot,←List.append_assoc]
  congr 1
  show (if l < L then [] else lev h t (l - L) k)=_
  cases h with
  | zero=>
   show _=[]++_
   rw [List.nil_append]
   rcases Nat.lt_trichotomy l L with q | q | q
   ·rw [if_pos q,if_neg (by omega)]
   ·subst q;rw [if_neg (by omega),if_pos rfl,Nat.sub_self,B.fil k R,nodeCh_lev 0 i k]
   ·rw [if_neg (by omega),if_neg (by omega)]
    obtain ⟨d,w⟩:∃d,l - L=d+1:=⟨l - L - 1,by omega⟩
    rw [w];rfl
  | succ h=>
   obtain ⟨n,j⟩:=t
   rw [kidsFrom,nodes_tot,drop_lev i.1 _ R]
   rcases Nat.lt_trichotomy l L with q | q | q
   ·rw [if_pos q,if_pos (by omega),if_neg (by omega)];rfl
   ·subst q;rw [if_neg (by omega),if_pos (by omega),if_pos rfl,Nat.sub_self,B.fil k R,nodeCh_lev (h+1) i k];rfl
   ·rw [if_neg (by omega),if_neg (by omega),if_neg (by omega),List.append_nil]
    obtain ⟨d,w⟩:∃d,l - L=d+1:=⟨l - L - 1,by omega⟩
    rw [w,show l - (L+1)=d by omega];rfl
 ·rw [size_cons,size_append,size_append,size_lay]
  have V:=B.len
  show _ < sz h t+_
  cases h with
  | zero=>
   show 0+_ < 1+(its t).length+_
   have:(nodeCh 0 t).length=(its t).length:=List.length_map ..
   omega
  | succ h=>
   obtain ⟨n,j⟩:=t
   rw [kidsFrom,size_nodes]
   have W:=sum_drop (n.map fun p=> sz h p.2) (ix (n.map (·.1)) g)
   rw [←List.map_drop] at W
   have h4:(nodeCh (h+1) (n,j)).length=j.length:=rfl
   show _ < 1+j.length+(n.map fun p=> sz h p.2).sum+_
   omega
end Go.Proofs.YtolgpnaoaodepaaGreat.Tr
namespace Go.Proofs.YtolgpnaoaodepaaGreat.Hp
structure Ord {α:Type} (lt:α→α→Prop):Prop where
 asy:∀{a b},lt a b→¬lt b a
 tr:∀{a b c},¬lt b a→¬lt c b→¬lt c a
def swp {α:Type} (g:Nat→α) (i j k:Nat):α:=if k=i then g j else if k=j then g i else g k
def Heap {α:Type} (lt:α→α→Prop) (g:Nat→α) (n:Nat):Prop:=∀k,0 < k→k < n→¬lt (g k) (g ((k - 1) / 2))
structure UpI {α:Type} (lt:α→α→Prop) (g:Nat→α) (n j:Nat):Prop where
 a:∀k,0 < k→k < n→k≠j→¬lt (g k) (g ((k - 1) / 2))
 b:∀k,0 < k→k < n→(k - 1) / 2=j→0 < j→¬lt (g k) (g ((j - 1) / 2))
structure DownI {α:Type} (lt:α→α→Prop) (g:Nat→α) (n i:Nat):Prop where
 a:∀k,0 < k→k < n→(k - 1) / 2≠i→¬lt (g k) (g ((k - 1) / 2))
 b:∀k,0 < k→k < n→(k - 1) / 2=i→0 < i→¬lt (g k) (g ((i - 1) / 2))
variable {α:Type} {lt:α→α→Prop}
theorem swp_i (g:Nat→α) (i j:Nat):swp g i j i=g j:=if_pos rfl
theorem swp_j (g:Nat→α) (i j:Nat):swp g i j j=g i:=by unfold swp;split;·rename_i e;rw [e]
                                                      ·rw [if_pos rfl]
theorem swp_o (g:Nat→α) {i j k:Nat} (a:k≠i) (b:k≠j):swp g i j k=g k:=by unfold swp;rw [if_neg a,if_neg b]
theorem UpI.step (O:Ord lt) {g:Nat→α} {n j i:Nat} (h:UpI lt g n j) (f:i=(j - 1) / 2) (v:j < n) (r:i≠j) (s:lt (g j) (g i)):UpI lt (swp g i j) n i:=by
 have l:0 < j:=by omega
 have t:i < j:=by omega
 refine ⟨fun k h0 d m=> ?_,fun k h0 d u o=> ?_⟩
 ·by_cases e:k=j
  ·subst e;rw [swp_j,←f,swp_i];exact O.asy s
  ·rw [swp_o g m e]
   by_cases p:(k - 1) / 2=j
   ·rw [p,swp_j];have:=h.b k h0 d p l;rw [←f] at this;exact this
   ·by_cases q:(k - 1) / 2=i
    ·rw [q,swp_i];have:=h.a k h0 d e;rw [q] at this;exact O.tr (O.asy s) this
    ·rw [swp_o g q p];exact h.a k h0 d e
 ·have c:¬lt (g i) (g ((i - 1) / 2)):=h.a i o (by omega) r
  rw [swp_o g (k:=(i - 1) / 2) (by omega) (by omega)]
  by_cases e:k=j
  ·subst e;rw [swp_j];exact c
  ·rw [swp_o g (by omega) e]
   have:=h.a k h0 d e
   rw [u] at this
   exact O.tr c this
theorem UpI.done {g:Nat→α} {n j:Nat} (h:UpI lt g n j) (c:j=0∨¬lt (g j) (g ((j - 1) / 2))):Heap lt g n:=fun k h0 b=> by
 by_cases e:k=j
 ·subst e
  rcases c with q | q
  ·omega
  ·exact q
 ·exact h.a k h0 b e
theorem UpI.start {g:Nat→α} {n:Nat} (h:Heap lt g n):UpI lt g (n+1) n:=⟨fun k h0 a b=> h k h0 (by omega),fun k h0 a c _=> by omega⟩
theorem DownI.step (O:Ord lt) {g:Nat→α} {n i j:Nat} (h:DownI lt g n i) (u:j < n) (h0:0 < j) (p:(j - 1) / 2=i) (f:∀k,0 < k→k < n→(k - 1) / 2=i→¬lt (g k) (g j)) (v:lt (g j) (g i)):DownI lt (swp g i j) n j:=by
 have s:i < j:=by omega
 refine ⟨fun k d l c=> ?_,fun k d l c _=> ?_⟩
 ·by_cases e:(k - 1) / 2=i
  ·rw [e,swp_i]
   by_cases q:k=j
   ·subst q;rw [swp_j];exact O.asy v
   ·rw [swp_o g (by omega) q];exact f k d l e
  ·rw [swp_o g (k:=(k - 1) / 2) e c]
   by_cases r:k=i
   ·subst r;rw [swp_i];exact h.b j h0 u p d
   ·rw [swp_o g r (fun t=> by subst t;exact e p)];exact h.a k d l e
 ·have m:k≠i:=by omega
  have o:k≠j:=by omega
  rw [p,swp_i,swp_o g m o]
  have:=h.a k d l (by omega)
  rw [c] at this;exact this
theorem DownI.done {g:Nat→α} {n i:Nat} (h:DownI lt g n i) (c:∀k,0 < k→k < n→(k - 1) / 2=i→¬lt (g k) (g i)):Heap lt g n:=fun k h0 b=> by
 by_cases e:(k - 1) / 2=i
 ·rw [e];exact c k h0 b e
 ·exact h.a k h0 b e
theorem DownI.start {g:Nat→α} {n:Nat} (h:Heap lt g (n+1)):DownI lt (swp g 0 n) n 0:=by
 refine ⟨fun k h0 b a=> ?_,fun k h0 b a q=> by omega⟩
 rw [swp_o g (by omega) (by omega),swp_o g a (by omega)]
 exact h k h0 (by omega)
theorem Heap.root (O:Ord lt) {g:Nat→α} {n:Nat} (h:Heap lt g n):∀k,k < n→¬lt (g k) (g 0):=by
 intro k
 induction k using Nat.strongRecOn with
 | ind k ih=>
  intro a
  by_cases e:k=0
  ·subst e;exact fun q=> O.asy q q
  ·exact O.tr (ih ((k - 1) / 2) (by omega) (by omega)) (h k (by omega) a)
theorem Heap.congr {g b:Nat→α} {n:Nat} (h:Heap lt g n) (c:∀k,k < n→b k=g k):Heap lt b n:=fun k h0 a=> by
 rw [c k a,c _ (by omega)];exact h k h0 a
def nth (d:α) (l:List α) (i:Nat):α:=(l[i]?).getD d
def swL (d:α) (l:List α) (i j:Nat):List α:=(l.set i (nth d l j)).set j (nth d l i)
theorem nth_get (d:α) (l:List α) {i:Nat} (h:i < l.length):nth d l i=l[i]'h:=by unfold nth;rw [List.getElem?_eq_getElem h];rfl
theorem swL_len (d:α) (l:List α) (i j:Nat):(swL d l i j).length=l.length:=by simp [swL]
theorem swL_nth (d:α) (l:List α) {i j:Nat} (hi:i < l.length) (c:j < l.length) (k:Nat):nth d (swL d l i j) k=swp (nth d l) i j k:=by
 unfold swL swp
 show (((l.set i (nth d l j)).set j (nth d l i))[k]?).getD d=_
 rw [List.getElem?_set]
 by_cases b:j=k
 ·subst b
  rw [if_pos rfl,List.length_set,if_pos c]
  by_cases a:j=i
  ·subst a;rw [if_pos rfl];rfl
  ·rw [if_neg a,if_pos rfl];rfl
 ·rw [if_neg b,List.getElem?_set]
  by_cases a:i=k
  ·subst a;rw [if_pos rfl,if_pos hi,if_pos rfl];rfl
  ·rw [if_neg a,if_neg (fun q=> a q.symm),if_neg (fun q=> b q.symm)];rfl
theorem swL_perm (d:α) (l:List α) {i j:Nat} (hi:i < l.length) (a:j < l.length):(swL d l i j).Perm l:=by
 unfold swL
 rw [nth_get d l hi,nth_get d l a]
 have:=Array.swap_perm (xs:=l.toArray) (i:=i) (j:=j) (by simpa using hi) (by simpa using a)
 rw [Array.perm_iff_toList_perm] at this
 simpa [Array.swap] using this
end Go.Proofs.YtolgpnaoaodepaaGreat.Hp
