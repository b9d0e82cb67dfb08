import Derived.Test.YtolgpnaoaodepaaGreatTreYm
namespace Go.Proofs.YtolgpnaoaodepaaGreat
open Go.RowKit
set_option maxHeartbeats 400000 in
set_option maxRecDepth 20000 in
theorem cutSmall_any (b:ByteArray) (a:Nat) (i j:Option Addr) (e f k l:Nat) (vc:Value) (w:World) (g:NodT w a (.slice i e k) (.slice j f l) vc) (x:e≤16) (y:f≤4):
  Calls Tryz.prog 64 #[.agg #[.string b,.pointer (some ⟨a,0,none⟩)]] w fun r w'=>∃v,r= .returned v∧OwnsP w.heap.size w' v [(b,a)]∧Below w.heap.size w w':=by
 have c:=(Below.refl w.heap.size w).alloc (Nat.le_refl _) (.cells #[.string b,.pointer (some ⟨a,0,none⟩)] 132)
 have h:Hid (Below w.heap.size w ((w.alloc (.cells #[.string b,.pointer (some ⟨a,0,none⟩)] 132)).alloc (.cells #[.string b,.pointer (some ⟨a,0,none⟩)] 132))):=c.alloc (by simp) _
 have d:NodT (w.alloc (.cells #[.string b,.pointer (some ⟨a,0,none⟩)] 132)) a (.slice i e k) (.slice j f l) vc:=(c.block a g.lt).trans g
 obtain ⟨s,t,u,-⟩:=d.cells
 have m:=g.lt
 have p:decide ((16:Int) < (e:Int))=false:=decide_eq_false (by omega)
 have q:decide ((4:Int) < (f:Int))=false:=decide_eq_false (by omega)
 have n:Hid (OwnsP w.heap.size ((w.alloc (.cells #[.string b,.pointer (some ⟨a,0,none⟩)] 132)).alloc (.cells #[.string b,.pointer (some ⟨a,0,none⟩)] 132)) (.slice (some ⟨w.heap.size+1,0,none⟩) 1 1) [(b,a)]):=by
  have o:(w.alloc (.cells #[.string b,.pointer (some ⟨a,0,none⟩)] 132)).heap.size=w.heap.size+1:=by simp
  refine ⟨rfl,.inr ⟨w.heap.size+1,1,#[.string b,.pointer (some ⟨a,0,none⟩)],rfl,by omega,?_,Nat.le_refl _,by unfold maxLen;omega,rfl,rfl⟩⟩
  rw [←o];exact heap_alloc_new _ _
 clear c d g
 go_enter Tryz.func64,Tryz.ntmps64
 go_wp2_with fail
 go_ret
 exact ⟨_,rfl,n.out,h.out⟩
set_option maxHeartbeats 400000 in
set_option maxRecDepth 20000 in
theorem cutL_any (d:ByteArray) (c:Nat) (i:Value) (il:List (ByteArray×ByteArray)) (w:World) (f:NodT w c i (.slice none 0 0) (.slice none 0 0)) (j:OwnsI 0 w i il) (t:16 < il.length) (k:il.length≤2000000):
  Calls Tryz.prog 64 #[.agg #[.string d,.pointer (some ⟨c,0,none⟩)]] w fun r w'=>∃v pl G,r= .returned v∧CtQ 0 w (Tr.leafParts d.data.toList (Tr.shares (plain il) 16)) v pl G w'∧(∀g∈G,w.heap.size≤g)∧Below w.heap.size w w':=by
 have a:=hid ((Below.refl w.heap.size w).alloc (Nat.le_refl _) (.cells #[.string d,.pointer (some ⟨c,0,none⟩)] 132))
 have b:NodT (w.alloc (.cells #[.string d,.pointer (some ⟨c,0,none⟩)] 132)) c i (.slice none 0 0) (.slice none 0 0):=(a.out.block c f.lt).trans f
 obtain ⟨x,vc,rfl⟩:=rowShape j
 obtain ⟨y,z,A,-⟩:=b.cells
 have p:=f.lt
 have l:=hid (cutLeaf_any d c _ il _ b (row_below j a.out (Nat.le_refl _)) t k)
 have u:decide ((16:Int) < (il.length:Int))=true:=decide_eq_true (by omega)
 clear b f j
 go_enter Tryz.func64,Tryz.ntmps64
 go_wp2_with fail
 refine l.out.mono ?_
 rintro r m ⟨v,pl,G,rfl,e,n,o⟩
 have q:Hid (CtQ 0 w (Tr.leafParts d.data.toList (Tr.shares (plain il) 16)) v pl G m∧(∀g∈G,w.heap.size≤g)∧Below w.heap.size w m):=by
  have h:=a.out.size
  exact ⟨⟨row_shrink e.row h,e.kids,e.nd⟩,fun g s=> Nat.le_trans h (n g s),a.out.trans (o.mono h)⟩
 clear e n o l
 go_wp2_with fail
 go_ret
 exact ⟨_,_,G,rfl,q.out⟩
set_option maxHeartbeats 400000 in
set_option maxRecDepth 20000 in
theorem cutB_any (k:ByteArray) (g:Nat) (vp vc:Value) (b:List (ByteArray×Nat)) (ml:List (Int×ByteArray×ByteArray)) (w:World) (l:NodT w g (.slice none 0 0) vp vc) (p:OwnsP 0 w vp b) (h:OwnsC 0 w vc ml) (A:4 < b.length) (q:b.length≤2000000) (s:ml.length≤2000000):
  Calls Tryz.prog 64 #[.agg #[.string k,.pointer (some ⟨g,0,none⟩)]] w fun r w'=>∃v pl vs f C,r= .returned v∧CbQ w pl vs (Tr.shares b 4) f ml v C w':=by
 have d:=hid ((Below.refl w.heap.size w).alloc (Nat.le_refl _) (.cells #[.string k,.pointer (some ⟨g,0,none⟩)] 132))
 have e:NodT (w.alloc (.cells #[.string k,.pointer (some ⟨g,0,none⟩)] 132)) g (.slice none 0 0) vp vc:=(d.out.block g l.lt).trans l
 obtain ⟨D,y,rfl⟩:=rowShape p
 obtain ⟨E,F,G,-⟩:=e.cells
 have u:=l.lt
 have t:=hid (cutBranch_any k g _ _ b ml _ e (row_below p d.out (Nat.le_refl _)) (row_below h d.out (Nat.le_refl _)) A q s)
 have B:decide ((4:Int) < (b.length:Int))=true:=decide_eq_true (by omega)
 clear e l p h
 go_enter Tryz.func64,Tryz.ntmps64
 go_wp2_with fail
 refine t.out.mono ?_
 rintro r z ⟨v,pl,vs,f,C,rfl,c⟩
 have x:Hid (CbQ w pl vs (Tr.shares b 4) f ml v C z):=by
  have j:=d.out.size
  exact ⟨c.len,row_shrink c.row j,⟨c.many.n,fun i hi m=> row_shrink (c.many.o i hi m) j,c.many.a⟩,c.brm,c.brc,c.old,c.pv,Nat.le_trans j c.hC,d.out.trans (c.bel.mono j)⟩
 clear c t
 go_wp2_with fail
 go_ret
 exact ⟨_,_,_,_,C,rfl,x.out⟩
end Go.Proofs.YtolgpnaoaodepaaGreat
namespace Go.Proofs.YtolgpnaoaodepaaGreat.Tr
def bkey {h:Nat} (s:List (Key×TreeT h)):Key:=(s.head?.map (·.1)).getD []
def bparts {h:Nat} (ss:List (List (Key×TreeT h))) (cs:List Ch):List (Key×TreeT (h+1)):=ss.mapIdx fun j s=> (bkey s,((s,cs.filter fun c=> decide (ix (ss.map bkey) c.2.1=j)):TreeT (h+1)))
end Go.Proofs.YtolgpnaoaodepaaGreat.Tr
namespace Go.Proofs.YtolgpnaoaodepaaGreat
open Go.RowKit
theorem Kids.cutAt {α:Type} {R:Nat→α→List Nat→Prop} {pl:List (ByteArray×Nat)} {a:List (Tr.Key×α)} {G:List Nat} (h:Kids R pl a G) (q:Nat):∃b c,Kids R (pl.take q) (a.take q) b∧Kids R (pl.drop q) (a.drop q) c∧G=b++c:=by
 have i:=h.len
 rw [←List.take_append_drop q a] at h
 obtain ⟨A,B,b,c,rfl,l,f,g,rfl⟩:=h.split
 have j:A.length=min q a.length:=by rw [l,List.length_take]
 rw [List.length_append] at i
 by_cases m:q≤a.length
 ·have d:(A++B).take q=A:=by rw [show q=A.length by omega,List.take_left]
  have e:(A++B).drop q=B:=by rw [show q=A.length by omega,List.drop_left]
  rw [d,e]
  exact ⟨b,c,f,g,rfl⟩
 ·have k:B=[]:=List.eq_nil_of_length_eq_zero (by omega)
  subst k
  have d:(A++[]).take q=A:=by rw [List.append_nil];exact List.take_of_length_le (by omega)
  have e:(A++[]).drop q=[]:=by rw [List.append_nil];exact List.drop_of_length_le (by omega)
  rw [d,e]
  exact ⟨b,c,f,g,rfl⟩
theorem kids_sh {α:Type} {R:Nat→α→List Nat→Prop}:∀(k:Nat) {pl:List (ByteArray×Nat)} {a:List (Tr.Key×α)} {G:List Nat},Kids R pl a G→(k=0→pl=[])→∃b:List (List Nat),b.length=k∧b.flatten=G∧∀j (c:j < (Tr.sh k pl).length) (g:j < (Tr.sh k a).length) (u:j < b.length),Kids R ((Tr.sh k pl)[j]'c) ((Tr.sh k a)[j]'g) (b[j]'u)
 | 0,pl,a,G,h,h0=> by
  have o:=h0 rfl
  subst o
  have d:=h.len
  have f:a=[]:=List.eq_nil_of_length_eq_zero (by simpa using d.symm)
  subst f
  have p:G=[]:=h
  exact ⟨[],rfl,by rw [p];rfl,fun j c=> by simp [Tr.sh] at c⟩
 | k+1,pl,a,G,h,_=> by
  have d:=h.len
  obtain ⟨n,v,c,g,rfl⟩:=h.cutAt ((pl.length+k) / (k+1))
  obtain ⟨b,q,r,s⟩:=kids_sh k g (fun t=> by subst t;rw [Nat.zero_add,Nat.add_zero,Nat.div_one,List.drop_length])
  refine ⟨n::b,by rw [List.length_cons,q],by rw [List.flatten_cons,r],fun j i l m=> ?_⟩
  match j,i,l,m with
  | 0,_,_,_=>
   show Kids R (pl.take ((pl.length+k) / (k+1))) (a.take ((a.length+k) / (k+1))) n
   rw [←d];exact c
  | j+1,i,l,m=>
   have:=s j (by simpa [Tr.sh] using i) (by rw [Tr.sh_len];rw [Tr.sh_len] at l;omega) (by simpa using m)
   simp only [Tr.sh,List.getElem_cons_succ]
   have e:a.drop ((a.length+k) / (k+1))=a.drop ((pl.length+k) / (k+1)):=by rw [d]
   simpa [e] using this
theorem kids_of {α:Type} {R:Nat→α→List Nat→Prop}:∀{pl:List (ByteArray×Nat)} {c:List (Tr.Key×α)} {d:List (List Nat)},pl.length=c.length→pl.length=d.length→(∀j (a:j < pl.length) (b:j < c.length) (i:j < d.length),(pl[j]'a).1.data.toList=(c[j]'b).1∧R (pl[j]'a).2 (c[j]'b).2 (d[j]'i))→Kids R pl c d.flatten
 | [],[],[],_,_,_=> rfl
 | x::pl,y::c,G::d,a,b,h=> ⟨(h 0 (by simp) (by simp) (by simp)).1,G,d.flatten,(h 0 (by simp) (by simp) (by simp)).2,kids_of (by simpa using a) (by simpa using b) (fun j e f g=> h (j+1) (by simpa using e) (by simpa using f) (by simpa using g)),by simp⟩
 | [],_::_,_,a,_,_=> by simp at a
 | _::_,[],_,a,_,_=> by simp at a
 | [],[],_::_,_,b,_=> by simp at b
 | _::_,_::_,[],_,b,_=> by simp at b
theorem Kids.head {α:Type} {R:Nat→α→List Nat→Prop} {pl:List (ByteArray×Nat)} {a:List (Tr.Key×α)} {G:List Nat} (h:Kids R pl a G):pkey0 pl=(a.head?.map (·.1)).getD []:=by
 have:=h.keys
 unfold pkeys at this
 unfold pkey0
 cases pl with
 | nil=> cases a with
  | nil=> rfl
  | cons y r=> simp at this
 | cons x r=> cases a with
  | nil=> simp at this
  | cons y s=> simp at this;simp [this.1]
theorem plainCh_filter (ml:List (Int×ByteArray×ByteArray)) (p:Tr.Ch→Bool):plainCh (ml.filter fun c=> p (c.1,c.2.1.data.toList,c.2.2.data.toList))=(plainCh ml).filter p:=by
 unfold plainCh
 rw [List.filter_map]
 rfl
end Go.Proofs.YtolgpnaoaodepaaGreat
namespace Go.Proofs.YtolgpnaoaodepaaGreat
open Go.RowKit
def cbF (pl:List (ByteArray×Nat)) (vs:List Value) (vcs:Nat→Value) (Gs:List (List Nat)) (j:Nat):List Nat:=(pl.getD j (⟨#[]⟩,0)).2::(blk (vs.getD j (.slice none 0 0))++(blk (vcs j)++Gs.getD j []))
theorem cb_kids {h:Nat} {w w':World} {d pl:List (ByteArray×Nat)} {U:List (Tr.Key×Tr.TreeT h)} {W:List Nat} {ml:List (Int×ByteArray×ByteArray)} {vs:List Value} {u:Nat→Value} {v:Value} {C:Nat} (hk:Kids (Rep h w) d U W) (b5:W.Nodup) (J:∀g∈W,g < w.heap.size) (h0:0 < d.length) (c:CbQ w pl vs (Tr.shares d 4) u ml v C w'):∃G,Kids (Rep (h+1) w') pl (Tr.bparts (Tr.shares U 4) (plainCh ml)) G∧(blk v++G).Nodup∧∀g∈G,g∈W∨w.heap.size≤g:=by
 have a6:=hk.len
 have a7:Kids (Rep h w') d U W:=hk.imp fun p t F hF hr=> hr.keep fun g hg=> c.bel.block g (J g (hF g hg))
 have X:=Tr.shares_num d 4 (by decide)
 obtain ⟨r,g1,g2,g3⟩:=kids_sh ((d.length+4 - 1) / 4) a7 (fun q=> by have:=X.2.2 h0;omega)
 have Y:Tr.shares U 4=Tr.sh ((d.length+4 - 1) / 4) U:=by unfold Tr.shares;rw [a6]
 have Z:Tr.shares d 4=Tr.sh ((d.length+4 - 1) / 4) d:=rfl
 rw [←Y,←Z] at g3
 have b7:(Tr.shares U 4).length=r.length:=by rw [Y,Tr.sh_len,g1]
 have a8:(Tr.shares d 4).length=r.length:=by rw [Z,Tr.sh_len,g1]
 have a9:vs.length=r.length:=by rw [c.many.n,a8]
 have b8:pl.length=r.length:=by rw [c.len,a9]
 have O:pkeys pl=(Tr.shares U 4).map Tr.bkey:=by
  refine List.ext_getElem (by simp [pkeys];omega) fun j A M=> ?_
  have j1:j < pl.length:=by simpa [pkeys] using A
  have H:j < r.length:=by omega
  have e:=c.brm.key j j1 (by omega)
  rw [(g3 j (by omega) (by omega) H).head] at e
  simp only [pkeys,List.getElem_map]
  rw [e];rfl
 have P:∀j (A:j < pl.length) (M:j < vs.length) (q3:j < r.length),cbF pl vs u r j=(pl[j]'A).2::(blk (vs[j]'M)++(blk (u j)++r[j]'q3)):=fun j A M q3=> by
  unfold cbF
  simp [List.getD_eq_getElem?_getD,List.getElem?_eq_getElem A,List.getElem?_eq_getElem M,List.getElem?_eq_getElem q3]
 have I:∀j (q:j < r.length),∀x∈r[j]'q,x∈W:=fun j q x s=> by rw [←g2];exact List.mem_flatten.2 ⟨_,List.getElem_mem q,s⟩
 have b0:r.flatten.Nodup:=by rw [g2];exact b5
 have a0:=List.pairwise_flatten.1 b0
 have B:∀j (q:j < r.length) x,x∈cbF pl vs u r j→(∃A:j < pl.length,x=(pl[j]'A).2∧C≤x)∨(∃M:j < vs.length,(vs[j]'M).ownBlock=some x∧w.heap.size≤x∧x < C)∨((u j).ownBlock=some x∧C≤x)∨(x∈r[j]'q∧x < w.heap.size):=fun j q x s=> by
  rw [P j (by omega) (by omega) q] at s
  rcases List.mem_cons.1 s with rfl | s
  ·exact .inl ⟨by omega,rfl,c.brm.low _ (List.getElem_mem _)⟩
  ·rcases List.mem_append.1 s with s | s
   ·have z:=mem_blk.1 s
    exact .inr (.inl ⟨by omega,z,(c.many.lt (List.getElem_mem _) x z).1,c.old _ (List.getElem_mem _) x z⟩)
   ·rcases List.mem_append.1 s with s | s
    ·have z:=mem_blk.1 s
     exact .inr (.inr (.inl ⟨z,(World.ownsRow.lt (c.brc.o j (by omega)) x z).1⟩))
    ·exact .inr (.inr (.inr ⟨s,J x (I j q x s)⟩))
 have Q:∀i j (A:i < pl.length) (_:j < pl.length) x,x=(pl[i]'A).2→(u j).ownBlock≠some x:=fun i j A M x e=> by
  rw [e]
  exact nod_row (c.brm.nod i A (by omega)) (c.brc.o j M) (by decide)
 have hC:=c.hC
 refine ⟨((List.range pl.length).map (cbF pl vs u r)).flatten,kids_of (by simp [Tr.bparts];omega) (by simp) (fun j A M q3=> ?_),?_,fun g hg=> ?_⟩
 ·have H:j < r.length:=by omega
  have a5:=g3 j (by omega) (by omega) H
  simp only [Tr.bparts,List.getElem_mapIdx,List.getElem_map,List.getElem_range]
  refine ⟨?_,vs[j]'(by omega),u j,(Tr.shares d 4)[j]'(by omega),ml.filter (atP pl j),r[j]'H,c.brm.nod j A (by omega),row_zero (c.many.o j (by omega) (by omega)),row_zero (c.brc.o j A),?_,a5,P j A (by omega) H⟩
  ·rw [c.brm.key j A (by omega),a5.head];rfl
  ·rw [←O,←plainCh_filter];rfl
 ·refine List.nodup_append.2 ⟨blk_nodup v,?_,fun a V b z e=> ?_⟩
  ·refine List.pairwise_flatten.2 ⟨fun l hl=> ?_,?_⟩
   ·obtain ⟨j,hj,rfl⟩:=List.mem_map.1 hl
    have k:j < pl.length:=List.mem_range.1 hj
    have H:j < r.length:=by omega
    rw [P j k (by omega) H]
    have b6:=c.brm.low _ (List.getElem_mem k)
    refine List.nodup_cons.2 ⟨fun q=> ?_,List.nodup_append.2 ⟨blk_nodup _,List.nodup_append.2 ⟨blk_nodup _,a0.1 _ (List.getElem_mem H),fun a V b z e=> ?_⟩,fun a V b z e=> ?_⟩⟩
    ·rcases List.mem_append.1 q with q | q
     ·have:=c.old _ (List.getElem_mem _) _ (mem_blk.1 q);omega
     ·rcases List.mem_append.1 q with q | q
      ·exact Q j j k k _ rfl (mem_blk.1 q)
      ·have:=J _ (I j H _ q);omega
    ·have h1:=(World.ownsRow.lt (c.brc.o j k) a (mem_blk.1 V)).1
     have h2:=J b (I j H b z)
     omega
    ·have h1:=c.old _ (List.getElem_mem _) a (mem_blk.1 V)
     have b9:=(c.many.lt (List.getElem_mem _) a (mem_blk.1 V)).1
     rcases List.mem_append.1 z with z | z
     ·have:=(World.ownsRow.lt (c.brc.o j k) b (mem_blk.1 z)).1;omega
     ·have:=J b (I j H b z);omega
   ·refine List.pairwise_iff_getElem.2 fun i j qi qj T x s y hy e=> ?_
    have K:i < pl.length:=by simpa using qi
    have L:j < pl.length:=by simpa using qj
    simp only [List.getElem_map,List.getElem_range] at s hy
    subst e
    rcases B i (by omega) x s with ⟨S,m,E⟩ | ⟨S,m,E,a4⟩ | ⟨m,E⟩ | ⟨m,E⟩
    ·rcases B j (by omega) x hy with ⟨N,f,D⟩ | ⟨N,f,D,b4⟩ | ⟨f,D⟩ | ⟨f,D⟩
     ·have:=List.pairwise_iff_getElem.1 c.brm.inc i j (by simpa using K) (by simpa using L) T
      simp only [List.getElem_map] at this
      omega
     ·omega
     ·exact Q i j K L x m f
     ·omega
    ·rcases B j (by omega) x hy with ⟨N,f,D⟩ | ⟨N,f,D,b4⟩ | ⟨f,D⟩ | ⟨f,D⟩
     ·omega
     ·exact (List.pairwise_iff_getElem.1 c.many.a i j S N T) x m f
     ·omega
     ·omega
    ·rcases B j (by omega) x hy with ⟨N,f,D⟩ | ⟨N,f,D,b4⟩ | ⟨f,D⟩ | ⟨f,D⟩
     ·exact Q j i L K x f m
     ·omega
     ·exact c.brc.a i j K L (by omega) x m f
     ·omega
    ·rcases B j (by omega) x hy with ⟨N,f,D⟩ | ⟨N,f,D,b4⟩ | ⟨f,D⟩ | ⟨f,D⟩
     ·omega
     ·omega
     ·omega
     ·exact (List.pairwise_iff_getElem.1 a0.2 i j (by omega) (by omega) T) x m x f rfl
  ·subst e
   have hv:=mem_blk.1 V
   have c0:=c.pv a hv
   obtain ⟨l,hl,R⟩:=List.mem_flatten.1 z
   obtain ⟨j,hj,rfl⟩:=List.mem_map.1 hl
   have k:j < pl.length:=List.mem_range.1 hj
   rcases B j (by omega) a R with ⟨S,m,E⟩ | ⟨S,m,E,a4⟩ | ⟨m,E⟩ | ⟨m,E⟩
   ·exact nod_row (c.brm.nod j S (by omega)) c.row (by decide) (by rw [←m];exact hv)
   ·omega
   ·exact rowsE_apart c.row (c.brc.o j k) (by decide) a hv m
   ·omega
 ·obtain ⟨l,hl,R⟩:=List.mem_flatten.1 hg
  obtain ⟨j,hj,rfl⟩:=List.mem_map.1 hl
  have k:j < pl.length:=List.mem_range.1 hj
  rcases B j (by omega) g R with ⟨S,m,E⟩ | ⟨S,m,E,a4⟩ | ⟨m,E⟩ | ⟨m,E⟩
  ·exact .inr (by omega)
  ·exact .inr E
  ·exact .inr (by omega)
  ·exact .inl (I j (by omega) g m)
end Go.Proofs.YtolgpnaoaodepaaGreat
namespace Go.Proofs.YtolgpnaoaodepaaGreat.Tr
theorem leafParts_lkey (l:List It) (r:List (List It)):leafParts (lkey l) (l::r)=lparts (l::r):=rfl
theorem mem_pair {l:List It} (h:l≠[]):∃x,x∈l∧x.1=lkey l:=by
 cases l with
 | nil=> exact absurd rfl h
 | cons x r=> exact ⟨x,List.mem_cons_self ..,rfl⟩
theorem lkey_le {l:List It} (b:Rising l) {x:It} (a:x∈l):¬x.1 < lkey l:=by
 cases l with
 | nil=> cases a
 | cons y r=>
  show ¬x.1 < y.1
  rcases List.mem_cons.1 a with rfl | a
  ·exact lt_ir _
  ·exact fun q=> lt_ir _ (lt_tr q ((List.pairwise_cons.1 b).1 x a))
theorem leaf_chain {hi:Option Key}:∀(ls:List (List It)) (lo:Key),ls≠[]→room lo hi→(∀l∈ls,l≠[]∧l.length≤16)→Rising ls.flatten→(∀x∈ls.flatten,inR lo hi x.1∧okIt x)→Chain (fun f m t=> WF 0 f m t∧Top 0 t) (some lo) hi (leafParts lo ls)
 | [],_,h,_,_,_,_=> absurd rfl h
 | [l],lo,_,hr,hl,hR,hI=> by
  have e:[l].flatten=l:=by simp
  rw [e] at hR hI
  exact ⟨rfl,hi,hr,⟨⟨hR,hI⟩,(hl l (List.mem_cons_self ..)).2⟩,rfl⟩
 | l::l2::r,lo,_,hr,hl,hR,hI=> by
  rw [List.flatten_cons] at hR hI
  have o:=List.pairwise_append.1 hR
  have u:=hl l2 (List.mem_cons_of_mem _ (List.mem_cons_self ..))
  obtain ⟨y,p,c⟩:=mem_pair u.1
  have g:y∈(l2::r).flatten:=by rw [List.flatten_cons];exact List.mem_append_left _ p
  have n:∀x∈l,x.1 < lkey l2:=fun x a=> by rw [←c];exact o.2.2 x a y g
  obtain ⟨z,s,v⟩:=mem_pair (hl l (List.mem_cons_self ..)).1
  have i:room lo (some (lkey l2)):=fun b k=> by
   rw [←Option.some.inj k]
   exact ⟨le_lt (hI z (List.mem_append_left _ s)).1.1 (n z s),by rw [←c];exact (hI y (List.mem_append_right _ g)).2.1⟩
  have d:=(hI y (List.mem_append_right _ g)).1
  rw [c] at d
  refine ⟨rfl,some (lkey l2),i,⟨⟨o.1,fun x a=> ⟨⟨(hI x (List.mem_append_left _ a)).1.1,fun b k=> by rw [←Option.some.inj k];exact n x a⟩,(hI x (List.mem_append_left _ a)).2⟩⟩,(hl l (List.mem_cons_self ..)).2⟩,?_⟩
  rw [←leafParts_lkey]
  refine leaf_chain (l2::r) (lkey l2) (by simp) (fun b k=> ⟨d.2 b k,(hr b k).2⟩) (fun q w=> hl q (List.mem_cons_of_mem _ w)) o.2.1 (fun x a=> ⟨⟨?_,(hI x (List.mem_append_right _ a)).1.2⟩,(hI x (List.mem_append_right _ a)).2⟩)
  have j:=o.2.1
  rw [List.flatten_cons] at a j
  rcases List.mem_append.1 a with a | a
  ·exact lkey_le (List.pairwise_append.1 j).1 a
  ·exact fun q=> lt_ir _ (lt_tr q (by rw [←c];exact (List.pairwise_append.1 j).2.2 y p x a))
def its (t:TreeT 0):List It:=t
def flat0:List (Key×TreeT 0)→List It
 | []=> []
 | p::r=> its p.2++flat0 r
theorem flat0_append:∀(A B:List (Key×TreeT 0)),flat0 (A++B)=flat0 A++flat0 B
 | [],_=> rfl
 | p::r,B=> by rw [List.cons_append,flat0,flat0,flat0_append r B,List.append_assoc]
theorem flat0_lparts:∀(ls:List (List It)),flat0 (lparts ls)=ls.flatten
 | []=> rfl
 | l::r=> by
  rw [List.flatten_cons,←flat0_lparts r];rfl
theorem flat0_leafParts (f:Key) (ls:List (List It)):flat0 (leafParts f ls)=ls.flatten:=by
 cases ls with
 | nil=> rfl
 | cons l r=> rw [List.flatten_cons,←flat0_lparts r];rfl
theorem flat0_in {lo hi:Option Key}:∀{l:List (Key×TreeT 0)},Chain (fun f m t=> WF 0 f m t∧Top 0 t) lo hi l→∀x∈flat0 l,(∀a,lo=some a→¬x.1 < a)∧(∀b,hi=some b→x.1 < b)∧lo≠none
 | [],_,x,d=> by cases d
 | (f,t)::r,⟨e,m,h1,h2,h3⟩,x,d=> by
  have h:x∈its t++flat0 r:=d
  rcases List.mem_append.1 h with d | d
  ·have g:=(h2.1.2 x d).1
   refine ⟨fun a c=> ?_,fun b n=> ?_,by rw [e];simp⟩
   ·rw [e] at c;rw [←Option.some.inj c];exact g.1
   ·obtain ⟨a,c,j⟩:=chain_lo h3 b n
    exact lt_le (g.2 a c) j
  ·have i:=flat0_in h3 x d
   refine ⟨fun a c=> ?_,i.2.1,by rw [e];simp⟩
   rw [e] at c
   rw [←Option.some.inj c]
   cases k:m with
   | none=> exact absurd k i.2.2
   | some b=> exact le_tr (fun q=> lt_ir _ (lt_tr q (h1 b k).1)) (i.1 b k)
theorem leaf_val {e:List (Key×TreeT 0)} {lo:Key} {hi:Option Key} (h:Chain (fun f m t=> WF 0 f m t∧Top 0 t) (some lo) hi e) {k:Key} (r:inR lo hi k):val 1 (e,[]) k=look (flat0 e) k:=by
 obtain ⟨A,f,t,B,m,rfl,n,s,u,i,o,p⟩:=chain_find h r
 rw [val_at n,afterAll_nil]
 have j:flat0 (A++(f,t)::B)=flat0 A++(its t++flat0 B):=by rw [flat0_append];rfl
 rw [j,look_append,look_append,look_none (l:=flat0 A),look_none (l:=flat0 B)]
 ·rw [Option.none_or,Option.or_none];rfl
 ·intro x c q
  have a:=flat0_in p x c
  cases d:m with
  | none=> exact a.2.2 d
  | some b=>
   have g:=a.1 b d
   rw [q] at g
   exact g (i.2 b d)
 ·intro x c q
  have a:=(flat0_in o x c).2.1 f rfl
  rw [q] at a
  exact i.1 a
end Go.Proofs.YtolgpnaoaodepaaGreat.Tr
