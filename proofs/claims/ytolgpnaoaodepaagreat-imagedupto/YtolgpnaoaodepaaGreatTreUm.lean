import Derived.Test.YtolgpnaoaodepaaGreatTreQm
namespace Go.Proofs.YtolgpnaoaodepaaGreat
open Go.RowKit
def PtB (w:World) (b:Nat) (f:ByteArray) (p:Nat):Prop:=w.heap[b]?=some (.cells #[.string f,.pointer (some ⟨p,0,none⟩)] 132 (0,0))
theorem PtB.cells {w:World} {b:Nat} {f:ByteArray} {p:Nat} (h:PtB w b f p):w.cell? ⟨b,0,none⟩=some (.string f)∧w.cell? ⟨b,1,none⟩=some (.pointer (some ⟨p,0,none⟩)):=by
 unfold PtB at h
 refine ⟨?_,?_⟩ <;> simp [World.cell?,h]
structure CtQ (h:Nat) (w:World) (ps:List (Tr.Key×Tr.TreeT h)) (v:Value) (pl:List (ByteArray×Nat)) (G:List Nat) (w':World):Prop where
 row:OwnsP w.heap.size w' v pl
 kids:Kids (Rep h w') pl ps G
 nd:(blk v++G).Nodup
set_option maxHeartbeats 1000000 in
set_option maxRecDepth 20000 in
theorem cutLeaf_any (d:ByteArray) (B:Nat) (vi:Value) (il:List (ByteArray×ByteArray)) (w:World) (hn:NodT w B vi (.slice none 0 0) (.slice none 0 0)) (hv:OwnsI 0 w vi il) (hl:16 < il.length) (d3:il.length≤2000000):
  Calls Tryz.prog 127 #[.agg #[.string d,.pointer (some ⟨B,0,none⟩)]] w fun r w'=>∃v pl G,r= .returned v∧CtQ 0 w (Tr.leafParts d.data.toList (Tr.shares (plain il) 16)) v pl G w'∧(∀g∈G,w.heap.size≤g)∧Below w.heap.size w w':=by
 obtain ⟨g,W,e,hc,-,M,-,-⟩:=hv.at 0 (by omega)
 subst e
 have R:=hid ((Below.refl w.heap.size w).alloc (Nat.le_refl _) (.cells #[.string d,.pointer (some ⟨B,0,none⟩)] 132))
 have b9:Hid (PtB (w.alloc (.cells #[.string d,.pointer (some ⟨B,0,none⟩)] 132)) w.heap.size d B):=heap_alloc_new _ _
 have a2:NodT (w.alloc (.cells #[.string d,.pointer (some ⟨B,0,none⟩)] 132)) B (.slice (some ⟨g,0,none⟩) il.length W) (.slice none 0 0) (.slice none 0 0):=(R.out.block B hn.lt).trans hn
 obtain ⟨n0,n1,n2,-⟩:=a2.cells
 have a3:OwnsI 0 (w.alloc (.cells #[.string d,.pointer (some ⟨B,0,none⟩)] 132)) (.slice (some ⟨g,0,none⟩) il.length W) il:=row_below hv R.out (Nat.le_refl _)
 have a4:=hid (sharesI_any g 0 il.length W il 16 (w.alloc (.cells #[.string d,.pointer (some ⟨B,0,none⟩)] 132)) rfl hc d3 (by decide) (by decide) (fun j u hj=> by
  have:=World.ownsRow.cells a3 (g:=g) rfl j u hj
  rw [add_at] at this
  simpa using this) (by simp;omega))
 have D:Hid (w.heap.size < (w.alloc (.cells #[.string d,.pointer (some ⟨B,0,none⟩)] 132)).heap.size):=by show _ < _;simp
 clear a2 a3 hn hv
 go_enter Tryz.func127,Tryz.ntmps127
 go_wp2_with fail
 refine a4.out.mono ?_
 clear a4 n0 n1 n2
 generalize w.alloc (.cells #[.string d,.pointer (some ⟨B,0,none⟩)] 132)=w0 at*
 rintro r w1 ⟨sv,vs,rfl,I,b8⟩
 have HQ:=hid I
 have S:=hid b8
 have E:=Tr.shares_num il 16 (by decide)
 have a5:=hid (Tr.sh_some _ il E.2.1)
 have a6:Hid ((Tr.shares il 16).length≤2000000∧0 < (Tr.shares il 16).length):=by
  unfold Tr.shares
  rw [Tr.sh_len]
  exact ⟨by omega,E.2.2 (by omega)⟩
 have c0:Hid (∀l∈Tr.shares il 16,l≠[]):=a5.out
 have c1:Hid (Tr.shares (plain il) 16=(Tr.shares il 16).map plain):=Tr.shares_map _ _ _
 clear E a5 I b8
 generalize Tr.shares il 16=ls at*
 obtain ⟨sa,sc,rfl⟩:=rowShape HQ.out.row
 have d5:vs.length≤2000000∧0 < vs.length:=by rw [HQ.out.many.n];exact a6.out
 have a7:w0.heap.size≤w1.heap.size:=S.out.size
 go_wp2_with fail
 go_loopw [3,13] (fun t3 i wr=>∃(j:Nat) (pl:List (ByteArray×Nat)),i= .int .i64 (j:Nat)∧pl.length=j∧j≤vs.length∧OwnsP w0.heap.size wr t3 pl∧ShQ w0.heap.size wr (.slice sa vs.length sc) vs ls∧LfM wr w1.heap.size pl vs ls∧Below w0.heap.size w0 wr∧w1.heap.size≤wr.heap.size) (fun _ i _=> vs.length - (intOf i).toNat)
 case atStart=> exact ⟨0,[],rfl,rfl,Nat.zero_le _,World.ownsRow_nil _ _ _ _,HQ.out,⟨by simp,HQ.out.many.n,fun i h=> by simp at h,fun i h=> by simp at h,by simp,fun x h=> by simp at h⟩,S.out,Nat.le_refl _⟩
 case round=>
  obtain ⟨j,pl,rfl,b3,hj,b4,I,b5,J,b6⟩:=hrel
  have z:=hid b4
  have s:=hid I
  have A:=hid b5
  have HB:=hid J
  have T:=J.size
  clear b4 I b5 J
  by_cases t:j < vs.length
  ·have c:j < ls.length:=by rw [←s.out.many.n];exact t
   have a8:=s.out.many.o j t c
   have N:0 < (ls[j]'c).length:=by
    have:=c0.out _ (List.getElem_mem c)
    exact List.length_pos_iff.2 this
   obtain ⟨X,Y,ej,d8,-,d9,d0,-⟩:=a8.at 0 N
   rw [Nat.zero_mul] at d0
   obtain ⟨Z,O,es,c7⟩:∃Z O,Value.slice sa vs.length sc= .slice (some ⟨Z,0,none⟩) vs.length O∧wr.cell? ⟨Z,j,none⟩=some (vs[j]'t):=by
    rcases s.out.row.2 with ⟨_,h0⟩ | ⟨Z,O,d1,es,_⟩
    ·omega
    ·have:=World.ownsRow.cells s.out.row (g:=Z) (by rw [es];rfl) j (vs[j]'t) (List.getElem?_eq_getElem t)
     rw [add_at] at this
     exact ⟨Z,O,es,by simpa using this⟩
   simp only [Value.slice.injEq,true_and] at es
   obtain ⟨rfl,rfl⟩:=es
   have c2:Hid (((ls[j]'c)[0]'N).1.data.toList=Tr.lkey (plain (ls[j]'c))):=by
    show _=_
    unfold Tr.lkey plain
    rw [List.head?_map,List.head?_eq_getElem?,List.getElem?_eq_getElem N];rfl
   have c3:=hid ej
   rw [ej] at c7
   generalize (ls[j]'c)[0]'N=it at*
   obtain ⟨K,vb⟩:=it
   generalize e4:(ls[j]'c).length=lj at*
   have a9:=(Below.refl wr.heap.size wr).alloc (Nat.le_refl _) (.cells #[.slice (some ⟨X,0,none⟩) lj Y,.slice none 0 0,.slice none 0 0] 123)
   have H:Hid (Below wr.heap.size wr ((wr.alloc (.cells #[.slice (some ⟨X,0,none⟩) lj Y,.slice none 0 0,.slice none 0 0] 123)).alloc (.cells #[.string K,.pointer (some ⟨wr.heap.size,0,none⟩)] 132))):=a9.alloc (by simp) _
   have c4:Hid (NodT ((wr.alloc (.cells #[.slice (some ⟨X,0,none⟩) lj Y,.slice none 0 0,.slice none 0 0] 123)).alloc (.cells #[.string K,.pointer (some ⟨wr.heap.size,0,none⟩)] 132)) wr.heap.size (vs[j]'t) (.slice none 0 0) (.slice none 0 0)):=by
    rw [c3.out]
    exact (Below.heap_alloc _ _ _ (by simp)).trans (heap_alloc_new _ _)
   have c5:Hid (((wr.alloc (.cells #[.slice (some ⟨X,0,none⟩) lj Y,.slice none 0 0,.slice none 0 0] 123)).alloc (.cells #[.string K,.pointer (some ⟨wr.heap.size,0,none⟩)] 132)).heap[wr.heap.size+1]?=some (.cells #[.string K,.pointer (some ⟨wr.heap.size,0,none⟩)] 132 (0,0))):=by
    have h:(wr.alloc (.cells #[.slice (some ⟨X,0,none⟩) lj Y,.slice none 0 0,.slice none 0 0] 123)).heap.size=wr.heap.size+1:=by simp
    show _=_
    rw [←h];exact heap_alloc_new _ _
   have d6:Hid (wr.heap.size+2≤((wr.alloc (.cells #[.slice (some ⟨X,0,none⟩) lj Y,.slice none 0 0,.slice none 0 0] 123)).alloc (.cells #[.string K,.pointer (some ⟨wr.heap.size,0,none⟩)] 132)).heap.size):=by show _≤_;simp
   clear a8 a9
   go_wp2_with (generalize (wr.alloc (.cells #[.slice (some ⟨X,0,none⟩) lj Y,.slice none 0 0,.slice none 0 0] 123)).alloc (.cells #[.string K,.pointer (some ⟨wr.heap.size,0,none⟩)] 132)=w2 at*;at_builtin;refine wpApAt w2 rfl (.tmp 17) (.tmp 26) 121 132 Tryz.underlying121 _ 2 24 info_part rfl (by decide) (by decide) rfl w0.heap.size u3 pl.length (pcells pl) rfl (row_below z.out H.out (Nat.le_refl _)) ⟨wr.heap.size+1,0,none⟩ 1 1 [.string K,.pointer (some ⟨wr.heap.size,0,none⟩)] rfl rfl (fun j u hj=> by rw [off_add];unfold World.cell?;simp only [c5.out,Nat.zero_add];simpa using hj) (by intro u V;simp at V;rcases V with rfl | rfl <;> rfl) (by omega) (Nat.le_trans T H.out.size) ?_;intro v2 w3 c9 a0 e3)
   have m3:Mod (fun k=> u3.ownBlock=some k) wr w3:=(Mod.of_below (F:=fun _=> False) H.out).trans (Mod.of_grown a0) (fun _ _ q=> q.elim) (fun _ _ q=> q)
   have HF:Hid (OwnsP w0.heap.size w3 v2 (pl++[(K,wr.heap.size)])∧ShQ w0.heap.size w3 (.slice (some ⟨Z,0,none⟩) vs.length sc) vs ls∧LfM w3 w1.heap.size (pl++[(K,wr.heap.size)]) vs ls∧Below w0.heap.size w0 w3∧w1.heap.size≤w3.heap.size):=by
    refine ⟨?_,⟨m3.row s.out.row (fun g M a1=> rowsE_apart s.out.row z.out (by decide) g M a1),s.out.many.keep m3 (fun u V k hk d2=> ?_)⟩,?_,?_,Nat.le_trans b6 m3.size⟩
    ·unfold OwnsP
     rw [List.length_append,pcells_append]
     exact c9
    ·obtain ⟨i,hi,rfl⟩:=List.getElem_of_mem V
     exact rowsE_apart (s.out.many.o i hi (by rw [←s.out.many.n];exact hi)) z.out (by decide) k hk d2
    ·have c6:=A.out.keep m3 (fun x hx q=> by
      obtain ⟨i,hi,rfl⟩:=List.getElem_of_mem hx
      exact nod_row (A.out.nod i hi (by have:=A.out.n;omega)) z.out (by decide) q)
     subst b3
     refine c6.snoc (K,wr.heap.size) t ((Mod.of_grown a0).nod c4.out (fun q=> ?_)) c2.out (fun y hy=> ?_) b6
     ·have:=(World.ownsRow.lt z.out _ q).2;omega
     ·obtain ⟨i,hi,rfl⟩:=List.getElem_of_mem hy
      exact (A.out.nod i hi (by have:=A.out.n;omega)).lt
    ·exact (HB.out.trans (H.out.mono T)).grown a0 (Nat.le_trans T H.out.size) (fun k hk=> (World.ownsRow.lt z.out k hk).1)
   exact ⟨⟨j+1,pl++[(K,wr.heap.size)],by go_num,by simp [b3],by omega,HF.out⟩,by simp [intOf];omega⟩
  ·have d7:j=vs.length:=by omega
   have b0:=s.out.many.n
   have h0:0 < pl.length:=by omega
   obtain ⟨L,pc,ep,e0,c8,e1,y0,-⟩:=z.out.at 0 h0
   rw [Nat.zero_mul] at y0
   have fr:wr.frozen? ⟨L,0,none⟩=false:=by
    rcases z.out.2 with ⟨q,_⟩ | ⟨g',d4,d1,e',_,a1,_⟩
    ·rw [ep] at q;simp at q
    ·rw [ep] at e'
     simp only [Value.slice.injEq,Option.some.injEq,Addr.mk.injEq,and_true,true_and] at e'
     obtain ⟨rfl,rfl⟩:=e'
     simp [World.frozen?,a1]
   obtain ⟨x,f,rfl⟩:∃x f,pl=x::f:=by cases pl with | nil=> simp at h0 | cons x r=> exact ⟨x,r,rfl⟩
   have b1:PtB wr w.heap.size d B:=(HB.out.block w.heap.size D.out).trans b9.out
   obtain ⟨e2,-⟩:=b1.cells
   clear b1
   subst ep
   have HF:Hid (∃G,CtQ 0 w (Tr.leafParts d.data.toList (Tr.shares (plain il) 16)) (.slice (some ⟨L,0,none⟩) (x::f).length pc) ((d,x.2)::f) G (wr.setCell ⟨L,0,none⟩ (.string d))∧(∀g∈G,w.heap.size≤g)∧Below w.heap.size w (wr.setCell ⟨L,0,none⟩ (.string d))):=by
    have m:=Mod.setCell wr L 0 (.string d)
    have U:∀i (h:i < (x::f).length) (P:i < vs.length),NodT (wr.setCell ⟨L,0,none⟩ (.string d)) ((x::f)[i]'h).2 (vs[i]'P) (.slice none 0 0) (.slice none 0 0):=fun i h P=> m.nod (A.out.nod i h P) (fun q=> nod_row (A.out.nod i h P) z.out (by decide) (by rw [q];rfl))
    have b2:∀i (h:i < vs.length) (P:i < ls.length),OwnsI 0 (wr.setCell ⟨L,0,none⟩ (.string d)) (vs[i]'h) (ls[i]'P):=fun i h P=> m.row (row_zero (s.out.many.o i h P)) (fun g M q=> rowsE_apart (s.out.many.o i h P) z.out (by decide) g M (by rw [q];rfl))
    have hk:=kids_leaf (w:=wr.setCell ⟨L,0,none⟩ (.string d)) (pl:=x::f) (vs:=vs) (ls:=ls) (by omega) b0 U b2 A.out.key
    have Q:∀g∈((x::f).zip vs).flatMap (fun y=> y.1.2::blk y.2),w0.heap.size≤g∧g≠L:=by
     intro g M
     obtain ⟨⟨y,u⟩,b7,hq⟩:=List.mem_flatMap.1 M
     have hy:=(List.of_mem_zip b7).1
     have V:=(List.of_mem_zip b7).2
     rcases List.mem_cons.1 hq with q | q
     ·have q':g=y.2:=q
      rw [q']
      refine ⟨Nat.le_trans a7 (A.out.low y hy),fun e=> ?_⟩
      obtain ⟨i,hi,rfl⟩:=List.getElem_of_mem hy
      exact nod_row (A.out.nod i hi (by have:=A.out.n;omega)) z.out (by decide) (by rw [e];rfl)
     ·have q':=mem_blk.1 q
      refine ⟨(s.out.many.lt V g q').1,fun e=> ?_⟩
      obtain ⟨i,hi,rfl⟩:=List.getElem_of_mem V
      exact rowsE_apart (s.out.many.o i hi (by omega)) z.out (by decide) g q' (by rw [e];rfl)
    refine ⟨_,⟨row_shrink (OwnsP.setKey z.out d) (Nat.le_of_lt D.out),?_,?_⟩,fun g M=> Nat.le_trans (Nat.le_of_lt D.out) (Q g M).1,?_⟩
    ·rw [c1.out]
     cases ls with
     | nil=> rw [List.length_nil] at b0;omega
     | cons l0 ls'=>
      obtain ⟨-,G1,G2,k1,k2,k3⟩:=hk
      exact ⟨rfl,G1,G2,k1,k2,k3⟩
    ·refine List.nodup_append.2 ⟨blk_nodup _,nodup_leaf (C:=w1.heap.size) A.out.inc s.out.many.a A.out.low (fun v hv g M=> (HQ.out.many.lt hv g M).2),fun a ha b hb e=> ?_⟩
     have h1:=mem_blk.1 ha
     have h2:L=a:=Option.some.inj h1
     exact (Q b hb).2 (by rw [←e,←h2])
    ·exact (R.out.trans (HB.out.mono (Nat.le_of_lt D.out))).setCell (p:=⟨L,0,none⟩) (Nat.le_trans (Nat.le_of_lt D.out) c8) _
   clear z s A HB HQ S
   go_wp2_with fail
   go_ret
   obtain ⟨G,q⟩:=HF.out
   exact ⟨_,_,G,rfl,q⟩
end Go.Proofs.YtolgpnaoaodepaaGreat
namespace Go.Proofs.YtolgpnaoaodepaaGreat
open Go.RowKit
def pkey0 (l:List (ByteArray×Nat)):List UInt8:=(l.head?.map (·.1.data.toList)).getD []
structure BrM (w:World) (B:Nat) (pl:List (ByteArray×Nat)) (vs:List Value) (ls:List (List (ByteArray×Nat))) (vc:Nat→Value):Prop where
 n:pl.length≤vs.length
 m:vs.length=ls.length
 nod:∀i (h:i < pl.length) (h':i < vs.length),NodT w (pl[i]'h).2 (.slice none 0 0) (vs[i]'(h')) (vc i)
 key:∀i (h:i < pl.length) (h':i < ls.length),(pl[i]'h).1.data.toList=pkey0 (ls[i]'(h'))
 inc:(pl.map (·.2)).Pairwise (·< ·)
 low:∀x∈pl,B≤x.2
theorem BrM.keep {w w':World} {B:Nat} {pl:List (ByteArray×Nat)} {vs:List Value} {ls:List (List (ByteArray×Nat))} {vc:Nat→Value} (h:BrM w B pl vs ls vc) {F:Nat→Prop} (m:Mod F w w') (b:∀x∈pl,¬F x.2):BrM w' B pl vs ls vc:=
 ⟨h.n,h.m,fun i hi a=> m.nod (h.nod i hi a) (b _ (List.getElem_mem hi)),h.key,h.inc,h.low⟩
theorem BrM.snoc {w:World} {B:Nat} {pl:List (ByteArray×Nat)} {vs:List Value} {ls:List (List (ByteArray×Nat))} {vc:Nat→Value} (h:BrM w B pl vs ls vc) (x:ByteArray×Nat) (g:pl.length < vs.length) (k:NodT w x.2 (.slice none 0 0) (vs[pl.length]'g) (vc pl.length)) (l:x.1.data.toList=pkey0 (ls[pl.length]'(by rw [←h.m];exact g))) (n:∀y∈pl,y.2 < x.2) (o:B≤x.2):BrM w B (pl++[x]) vs ls vc:=by
 refine ⟨by simp;omega,h.m,fun i hi c=> ?_,fun i hi c=> ?_,?_,fun y d=> ?_⟩
 ·by_cases q:i < pl.length
  ·rw [List.getElem_append_left q];exact h.nod i q c
  ·have e:i=pl.length:=by simp at hi;omega
   subst e
   simpa using k
 ·by_cases q:i < pl.length
  ·rw [List.getElem_append_left q];exact h.key i q c
  ·have e:i=pl.length:=by simp at hi;omega
   subst e
   simpa using l
 ·rw [List.map_append]
  refine List.pairwise_append.2 ⟨h.inc,by simp,fun a j b f=> ?_⟩
  obtain ⟨y,d,rfl⟩:=List.mem_map.1 j
  simp at f;subst f
  exact n y d
 ·rcases List.mem_append.1 d with q | q
  ·exact h.low y q
  ·simp at q;subst q;exact o
structure BrC (w:World) (B:Nat) (pl:List (ByteArray×Nat)) (vc:Nat→Value) (cs:List (Int×ByteArray×ByteArray)):Prop where
 o:∀i,i < pl.length→OwnsC B w (vc i) (cs.filter (atP pl i))
 a:∀i j,i < pl.length→j < pl.length→i≠j→∀g,(vc i).ownBlock=some g→(vc j).ownBlock≠some g
theorem BrC.next {w w':World} {B:Nat} {pl:List (ByteArray×Nat)} {vc:Nat→Value} {p:List (Int×ByteArray×ByteArray)} (h:BrC w B pl vc p) (n:Nat) (c:Int×ByteArray×ByteArray) (t:Tr.ix (pkeys pl) c.2.1.data.toList=n) (v:Value) (y:OwnsC B w' v (p.filter (atP pl n)++[c])) (u:v.ownBlock=(vc n).ownBlock∨∃k,w.heap.size≤k∧v.ownBlock=some k) (z:∀i,i < pl.length→i≠n→OwnsC B w' (vc i) (p.filter (atP pl i))) (A:n < pl.length):BrC w' B pl (fun i=> if i=n then v else vc i) (p++[c]):=by
 refine ⟨fun i hi=> ?_,fun i j hi m d g f b=> ?_⟩
 ·rw [List.filter_append]
  by_cases e:i=n
  ·subst e
   have:atP pl i c=true:=decide_eq_true t
   simp only [if_true,List.filter_cons,this,List.filter_nil]
   exact y
  ·have:atP pl i c=false:=decide_eq_false (by rw [t];exact fun q=> e q.symm)
   simp only [e,if_false,List.filter_cons,this,List.filter_nil,List.append_nil,Bool.false_eq_true]
   exact z i hi e
 ·by_cases s:i=n
  ·subst s
   have l:¬j=i:=fun q=> d q.symm
   simp only [if_true,l,if_false] at f b
   rcases u with q | ⟨k,r,q⟩
   ·exact h.a i j hi m d g (by rw [←q];exact f) b
   ·have x:=(World.ownsRow.lt (h.o j m) g b).2
    rw [q] at f
    have:=Option.some.inj f
    omega
  ·by_cases l:j=n
   ·subst l
    simp only [s,if_true,if_false] at f b
    rcases u with q | ⟨k,r,q⟩
    ·exact h.a i j hi m d g f (by rw [←q];exact b)
    ·have x:=(World.ownsRow.lt (h.o i hi) g f).2
     rw [q] at b
     have:=Option.some.inj b
     omega
   ·simp only [s,l,if_false] at f b
    exact h.a i j hi m d g f b
structure CbQ (w:World) (pl:List (ByteArray×Nat)) (vs:List Value) (ls:List (List (ByteArray×Nat))) (vc:Nat→Value) (ml:List (Int×ByteArray×ByteArray)) (v:Value) (C:Nat) (w':World):Prop where
 len:pl.length=vs.length
 row:OwnsP w.heap.size w' v pl
 many:ManyP w.heap.size w' vs ls
 brm:BrM w' C pl vs ls vc
 brc:BrC w' C pl vc ml
 old:∀u∈vs,∀g,u.ownBlock=some g→g < C
 pv:∀g,v.ownBlock=some g→C≤g
 hC:w.heap.size≤C
 bel:Below w.heap.size w w'
set_option maxHeartbeats 1000000 in
set_option maxRecDepth 20000 in
theorem cutBranch_any (fb:ByteArray) (N:Nat) (vp vc:Value) (f:List (ByteArray×Nat)) (ml:List (Int×ByteArray×ByteArray)) (w:World) (hn:NodT w N (.slice none 0 0) vp vc) (hv:OwnsP 0 w vp f) (a7:OwnsC 0 w vc ml) (hl:4 < f.length) (j7:f.length≤2000000) (l6:ml.length≤2000000):
  Calls Tryz.prog 128 #[.agg #[.string fb,.pointer (some ⟨N,0,none⟩)]] w fun r w'=>∃v pl vs t C,r= .returned v∧CbQ w pl vs (Tr.shares f 4) t ml v C w':=by
 obtain ⟨g,b2,e,hc,-,hg,-,-⟩:=hv.at 0 (by omega)
 subst e
 obtain ⟨ca,cc,rfl⟩:=rowShape a7
 have a9:=hid ((Below.refl w.heap.size w).alloc (Nat.le_refl _) (.cells #[.string fb,.pointer (some ⟨N,0,none⟩)] 132))
 have h3:Hid (PtB (w.alloc (.cells #[.string fb,.pointer (some ⟨N,0,none⟩)] 132)) w.heap.size fb N):=heap_alloc_new _ _
 have c6:NodT (w.alloc (.cells #[.string fb,.pointer (some ⟨N,0,none⟩)] 132)) N (.slice none 0 0) (.slice (some ⟨g,0,none⟩) f.length b2) (.slice ca ml.length cc):=(a9.out.block N hn.lt).trans hn
 obtain ⟨n0,n1,n2,-⟩:=c6.cells
 have d8:OwnsP 0 (w.alloc (.cells #[.string fb,.pointer (some ⟨N,0,none⟩)] 132)) (.slice (some ⟨g,0,none⟩) f.length b2) f:=row_below hv a9.out (Nat.le_refl _)
 have d9:=hid (sharesP_any g 0 f.length b2 f 4 (w.alloc (.cells #[.string fb,.pointer (some ⟨N,0,none⟩)] 132)) rfl hc j7 (by decide) (by decide) (fun j u hj=> by
  have:=World.ownsRow.cells d8 (g:=g) rfl j u hj
  rw [add_at] at this
  simpa using this) (by simp;omega))
 have a0:Hid (w.heap.size < (w.alloc (.cells #[.string fb,.pointer (some ⟨N,0,none⟩)] 132)).heap.size):=by show _ < _;simp
 have e0:=hid c6
 have h4:Hid (OwnsC 0 (w.alloc (.cells #[.string fb,.pointer (some ⟨N,0,none⟩)] 132)) (.slice ca ml.length cc) ml):=row_below a7 a9.out (Nat.le_refl _)
 clear c6 d8 hn hv a7
 go_enter Tryz.func128,Tryz.ntmps128
 go_wp2_with fail
 refine d9.out.mono ?_
 clear d9 n0 n1 n2
 generalize w.alloc (.cells #[.string fb,.pointer (some ⟨N,0,none⟩)] 132)=w0 at*
 rintro r E ⟨sv,vs,rfl,a5,g5⟩
 have HQ:=hid a5
 have e1:=hid g5
 have a1:=Tr.shares_num f 4 (by decide)
 have e2:=hid (Tr.sh_some _ f a1.2.1)
 have e3:Hid ((Tr.shares f 4).length≤2000000∧0 < (Tr.shares f 4).length):=by
  unfold Tr.shares
  rw [Tr.sh_len]
  exact ⟨by omega,a1.2.2 (by omega)⟩
 have h5:Hid (∀l∈Tr.shares f 4,l≠[]):=e2.out
 clear a1 e2 a5 g5
 generalize g7:Tr.shares f 4=ls at*
 have h6:=hid g7
 clear g7
 obtain ⟨sa,sc,rfl⟩:=rowShape HQ.out.row
 have k2:vs.length≤2000000∧0 < vs.length:=by rw [HQ.out.many.n];exact e3.out
 have K:w0.heap.size≤E.heap.size:=e1.out.size
 go_wp2_with fail
 go_loopw [3,17] (fun t3 i wr=>∃(j:Nat) (pl:List (ByteArray×Nat)),i= .int .i64 (j:Nat)∧pl.length=j∧j≤vs.length∧OwnsP E.heap.size wr t3 pl∧ShP w0.heap.size wr (.slice sa vs.length sc) vs ls∧BrM wr E.heap.size pl vs ls (fun _=> .slice none 0 0)∧Below w0.heap.size w0 wr∧E.heap.size≤wr.heap.size) (fun _ i _=> vs.length - (intOf i).toNat)
 case atStart=> exact ⟨0,[],rfl,rfl,Nat.zero_le _,World.ownsRow_nil _ _ _ _,HQ.out,⟨by simp,HQ.out.many.n,fun i h=> by simp at h,fun i h=> by simp at h,by simp,fun x h=> by simp at h⟩,e1.out,Nat.le_refl _⟩
 case round=>
  obtain ⟨j,pl,rfl,d5,hj,a4,a5,f9,D,a6⟩:=hrel
  have O:=hid a4
  have HS:=hid a5
  have HL:=hid f9
  have HB:=hid D
  have W:=D.size
  clear a4 a5 f9 D
  by_cases S:j < vs.length
  ·have A:j < ls.length:=by rw [←HS.out.many.n];exact S
   have e4:=HS.out.many.o j S A
   have L:0 < (ls[j]'A).length:=by
    have:=h5.out _ (List.getElem_mem A)
    exact List.length_pos_iff.2 this
   obtain ⟨gj,cj,ej,k4,-,k5,d0,-⟩:=e4.at 0 L
   rw [Nat.zero_mul] at d0
   obtain ⟨gs,b3,es,a7⟩:∃gs b3,Value.slice sa vs.length sc= .slice (some ⟨gs,0,none⟩) vs.length b3∧wr.cell? ⟨gs,j,none⟩=some (vs[j]'S):=by
    rcases HS.out.row.2 with ⟨_,h0⟩ | ⟨gs,b3,l5,es,_⟩
    ·omega
    ·have:=World.ownsRow.cells HS.out.row (g:=gs) (by rw [es];rfl) j (vs[j]'S) (List.getElem?_eq_getElem S)
     rw [add_at] at this
     exact ⟨gs,b3,es,by simpa using this⟩
   simp only [Value.slice.injEq,true_and] at es
   obtain ⟨rfl,rfl⟩:=es
   have h7:Hid (((ls[j]'A)[0]'L).1.data.toList=pkey0 (ls[j]'A)):=by
    show _=_
    unfold pkey0
    rw [List.head?_eq_getElem?,List.getElem?_eq_getElem L];rfl
   have h8:=hid ej
   rw [ej] at a7
   generalize (ls[j]'A)[0]'L=it at*
   obtain ⟨kb,vb⟩:=it
   generalize i8:(ls[j]'A).length=lj at*
   have e5:=(Below.refl wr.heap.size wr).alloc (Nat.le_refl _) (.cells #[.slice none 0 0,.slice (some ⟨gj,0,none⟩) lj cj,.slice none 0 0] 123)
   have H:Hid (Below wr.heap.size wr ((wr.alloc (.cells #[.slice none 0 0,.slice (some ⟨gj,0,none⟩) lj cj,.slice none 0 0] 123)).alloc (.cells #[.string kb,.pointer (some ⟨wr.heap.size,0,none⟩)] 132))):=e5.alloc (by simp) _
   have h9:Hid (NodT ((wr.alloc (.cells #[.slice none 0 0,.slice (some ⟨gj,0,none⟩) lj cj,.slice none 0 0] 123)).alloc (.cells #[.string kb,.pointer (some ⟨wr.heap.size,0,none⟩)] 132)) wr.heap.size (.slice none 0 0) (vs[j]'S) (.slice none 0 0)):=by
    rw [h8.out]
    exact (Below.heap_alloc _ _ _ (by simp)).trans (heap_alloc_new _ _)
   have i0:Hid (((wr.alloc (.cells #[.slice none 0 0,.slice (some ⟨gj,0,none⟩) lj cj,.slice none 0 0] 123)).alloc (.cells #[.string kb,.pointer (some ⟨wr.heap.size,0,none⟩)] 132)).heap[wr.heap.size+1]?=some (.cells #[.string kb,.pointer (some ⟨wr.heap.size,0,none⟩)] 132 (0,0))):=by
    have h:(wr.alloc (.cells #[.slice none 0 0,.slice (some ⟨gj,0,none⟩) lj cj,.slice none 0 0] 123)).heap.size=wr.heap.size+1:=by simp
    show _=_
    rw [←h];exact heap_alloc_new _ _
   clear e4 e5
   go_wp2_with (generalize (wr.alloc (.cells #[.slice none 0 0,.slice (some ⟨gj,0,none⟩) lj cj,.slice none 0 0] 123)).alloc (.cells #[.string kb,.pointer (some ⟨wr.heap.size,0,none⟩)] 132)=w2 at*;at_builtin;refine wpApAt w2 rfl (.tmp 21) (.tmp 30) 121 132 Tryz.underlying121 _ 2 24 info_part rfl (by decide) (by decide) rfl E.heap.size u3 pl.length (pcells pl) rfl (row_below O.out H.out (Nat.le_refl _)) ⟨wr.heap.size+1,0,none⟩ 1 1 [.string kb,.pointer (some ⟨wr.heap.size,0,none⟩)] rfl rfl (fun j u hj=> by rw [off_add];unfold World.cell?;simp only [i0.out,Nat.zero_add];simpa using hj) (by intro u hu;simp at hu;rcases hu with rfl | rfl <;> rfl) (by omega) (Nat.le_trans a6 H.out.size) ?_;intro v2 G j4 d7 d4)
   have m3:Mod (fun k=> u3.ownBlock=some k) wr G:=(Mod.of_below (F:=fun _=> False) H.out).trans (Mod.of_grown d7) (fun _ _ q=> q.elim) (fun _ _ q=> q)
   have HF:Hid (OwnsP E.heap.size G v2 (pl++[(kb,wr.heap.size)])∧ShP w0.heap.size G (.slice (some ⟨gs,0,none⟩) vs.length sc) vs ls∧BrM G E.heap.size (pl++[(kb,wr.heap.size)]) vs ls (fun _=> .slice none 0 0)∧Below w0.heap.size w0 G∧E.heap.size≤G.heap.size):=by
    refine ⟨?_,⟨m3.row HS.out.row (fun g hg j5=> rowsE_apart HS.out.row O.out (by decide) g hg j5),HS.out.many.keep m3 (fun u hu k hk j6=> ?_)⟩,?_,?_,Nat.le_trans a6 m3.size⟩
    ·unfold OwnsP
     rw [List.length_append,pcells_append]
     exact j4
    ·have h1:=(HQ.out.many.lt hu k hk).2
     have h2:=(World.ownsRow.lt O.out k j6).1
     omega
    ·have i1:=HL.out.keep m3 (fun x hx q=> by
      obtain ⟨i,hi,rfl⟩:=List.getElem_of_mem hx
      exact nod_row (HL.out.nod i hi (by have:=HL.out.n;omega)) O.out (by decide) q)
     subst d5
     refine i1.snoc (kb,wr.heap.size) S ((Mod.of_grown d7).nod h9.out (fun q=> ?_)) h7.out (fun y hy=> ?_) a6
     ·have:=(World.ownsRow.lt O.out _ q).2;omega
     ·obtain ⟨i,hi,rfl⟩:=List.getElem_of_mem hy
      exact (HL.out.nod i hi (by have:=HL.out.n;omega)).lt
    ·exact (HB.out.trans (H.out.mono W)).grown d7 (Nat.le_trans W H.out.size) (fun k hk=> Nat.le_trans K (World.ownsRow.lt O.out k hk).1)
   exact ⟨⟨j+1,pl++[(kb,wr.heap.size)],by go_num,by simp [d5],by omega,HF.out⟩,by simp [intOf];omega⟩
  ·have e6:j=vs.length:=by omega
   subst d5
   have e7:=hid e6
   have b6:pl.length≤2000000∧0 < pl.length:=by omega
   clear e6
   obtain ⟨M,J,j0⟩:=rowShape O.out
   subst j0
   have H:=hid ((Below.refl wr.heap.size wr).alloc (Nat.le_refl _) (.cells #[.slice none 0 0,.slice M pl.length J,.slice none 0 0] 123))
   have e8:Hid (NodT (wr.alloc (.cells #[.slice none 0 0,.slice M pl.length J,.slice none 0 0] 123)) wr.heap.size (.slice none 0 0) (.slice M pl.length J) (.slice none 0 0)):=heap_alloc_new _ _
   have c7:=hid (HB.out.trans (H.out.mono W))
   have c8:PtB (wr.alloc (.cells #[.slice none 0 0,.slice M pl.length J,.slice none 0 0] 123)) w.heap.size fb N:=(c7.out.block w.heap.size a0.out).trans h3.out
   obtain ⟨-,k6⟩:=c8.cells
   have e9:NodT (wr.alloc (.cells #[.slice none 0 0,.slice M pl.length J,.slice none 0 0] 123)) N (.slice none 0 0) (.slice (some ⟨g,0,none⟩) f.length b2) (.slice ca ml.length cc):=(c7.out.block N e0.out.lt).trans e0.out
   obtain ⟨-,-,k7,-⟩:=e9.cells
   clear c8 e9
   have c9:Hid (OwnsP E.heap.size (wr.alloc (.cells #[.slice none 0 0,.slice M pl.length J,.slice none 0 0] 123)) (.slice M pl.length J) pl∧ManyP w0.heap.size (wr.alloc (.cells #[.slice none 0 0,.slice M pl.length J,.slice none 0 0] 123)) vs ls∧BrM (wr.alloc (.cells #[.slice none 0 0,.slice M pl.length J,.slice none 0 0] 123)) E.heap.size pl vs ls (fun _=> .slice none 0 0)):=by
    have m:=Mod.of_below (F:=fun _=> False) H.out
    exact ⟨m.row O.out (fun _ _ q=> q),HS.out.many.keep m (fun _ _ _ _ q=> q),HL.out.keep m (fun _ _ q=> q)⟩
   have i2:wr.heap.size < (wr.alloc (.cells #[.slice none 0 0,.slice M pl.length J,.slice none 0 0] 123)).heap.size:=e8.out.lt
   have f0:Hid (∀x∈pl,x.2 < wr.heap.size):=fun x hx=> by
    obtain ⟨i,hi,rfl⟩:=List.getElem_of_mem hx
    exact (HL.out.nod i hi (by have:=HL.out.n;omega)).lt
   clear O HS HL HB H
   go_upto_region 9 with fail
   generalize wr.alloc (.cells #[.slice none 0 0,.slice M pl.length J,.slice none 0 0] 123)=w2 at*
   have j8:E.heap.size≤wr.heap.size:=a6
   generalize g8:wr.heap.size=ab at*
   have j9:=hid g8
   clear g8 W a6
   go_loopw [41] (fun i wx=>∃(k:Nat) (t:Nat→Value),i= .int .i64 (k:Nat)∧k≤ml.length∧OwnsP E.heap.size wx (.slice M pl.length J) pl∧ManyP w0.heap.size wx vs ls∧BrM wx E.heap.size pl vs ls t∧BrC wx E.heap.size pl t (ml.take k)∧NodT wx ab (.slice none 0 0) (.slice M pl.length J) (.slice none 0 0)∧Below w0.heap.size w0 wx∧ab < wx.heap.size) (fun i _=> ml.length - (intOf i).toNat)
   case atStart=> exact ⟨0,fun _=> .slice none 0 0,rfl,Nat.zero_le _,c9.out.1,c9.out.2.1,c9.out.2.2,⟨fun i _=> by rw [List.take_zero];exact World.ownsRow_nil _ _ _ _,fun i j _ _ _ g hg=> by simp [Value.ownBlock] at hg⟩,e8.out,c7.out,i2⟩
   case round=>
    obtain ⟨k,t,rfl,hk,a4,a8,b9,c0,c1,D,c2⟩:=hrel
    have O:=hid a4
    have HM:=hid a8
    have HR:=hid b9
    have HC:=hid c0
    have HA:=hid c1
    have HB:=hid D
    have W:=D.size
    clear a4 a8 b9 c0 c1 D
    by_cases V:k < ml.length
    ·obtain ⟨gc,k1,e,k8,-,j1,d0,d1,d2⟩:=h4.out.at k V
     simp only [Value.slice.injEq] at e
     obtain ⟨rfl,-,rfl⟩:=e
     have b0:=fun o=> HB.out.cell (p:=⟨gc,o,none⟩) j1
     have i3:=(b0 _).trans d0
     have i4:=(b0 _).trans d1
     have i5:=(b0 _).trans d2
     clear b0 d0 d1 d2
     have i6:Hid (ml.take (k+1)=ml.take k++[ml[k]'V]):=by show _=_;rw [List.take_add_one,List.getElem?_eq_getElem V];rfl
     generalize ml[k]'V=c at*
     obtain ⟨ck,d,cx⟩:=c
     have I:=hid ((Below.refl wr.heap.size wr).alloc (Nat.le_refl _) (.cells #[.int .i64 ck,.string d,.string cx] 34))
     have d3:Hid (ChB (wr.alloc (.cells #[.int .i64 ck,.string d,.string cx] 34)) wr.heap.size ck d cx):=heap_alloc_new _ _
     have a2:Hid (NodT (wr.alloc (.cells #[.int .i64 ck,.string d,.string cx] 34)) ab (.slice none 0 0) (.slice M pl.length J) (.slice none 0 0)):=(I.out.block ab c2).trans HA.out
     have Q:Hid (OwnsP E.heap.size (wr.alloc (.cells #[.int .i64 ck,.string d,.string cx] 34)) (.slice M pl.length J) pl):=row_below O.out I.out (Nat.le_refl _)
     have HF:=hid (tFind_any ab E.heap.size _ _ _ pl d _ a2.out Q.out (by omega))
     have b:Tr.ix (pkeys pl) d.data.toList < pl.length:=by
      have:=ix_lt (pkeys pl) d.data.toList (by intro q;unfold pkeys at q;rw [List.map_eq_nil_iff] at q;rw [q] at b6;simp at b6)
      simpa [pkeys] using this
     go_wp2_with fail
     refine HF.out.mono ?_
     rintro r G ⟨rfl,g6⟩
     have b7:=I.out.size
     rw [←g6] at I d3 a2 Q b7
     clear g6 HF i3 i4 i5
     have B:=hid (HR.out.keep (Mod.of_below (F:=fun _=> False) I.out) (fun _ _ q=> q))
     have X:=hid (HM.out.keep (Mod.of_below (F:=fun _=> False) I.out) (fun _ _ _ _ q=> q))
     have s:Hid (∀i,i < pl.length→OwnsC E.heap.size G (t i) ((ml.take k).filter (atP pl i))):=fun i hi=> row_below (HC.out.o i hi) I.out (Nat.le_refl _)
     generalize c5:Tr.ix (pkeys pl) d.data.toList=z at*
     have i7:=hid c5
     clear c5
     obtain ⟨gp,k9,ep,l0,-,l1,-,y1⟩:=Q.out.at z b
     simp only [Value.slice.injEq] at ep
     obtain ⟨rfl,-,rfl⟩:=ep
     have T:=B.out.nod z b (by have:=e7.out;omega)
     obtain ⟨-,-,m2,-,-,f2⟩:=T.cells
     have Y:=hid T
     have k3:=T.lt
     clear T
     have f1:Hid (∀i (h:i < pl.length),i≠z→(pl[i]'h).2≠(pl[z]'b).2):=fun i h L q=> by
      have hp:=List.pairwise_iff_getElem.1 B.out.inc
      rcases Nat.lt_or_gt_of_ne L with q' | q'
      ·have:=hp i z (by simpa using h) (by simpa using b) q'
       simp only [List.getElem_map] at this;omega
      ·have:=hp z i (by simpa using b) (by simpa using h) q'
       simp only [List.getElem_map] at this;omega
     have f3:=hid (B.out.low _ (List.getElem_mem b))
     generalize g9:(pl[z]'b).2=pi at*
     have f4:=hid g9
     clear g9
     obtain ⟨va,vn,l2,g0⟩:=shape3 (s.out z b)
     have i8:((ml.take k).filter (atP pl z)).length≤2000000:=by have:=List.length_filter_le (atP pl z) (ml.take k);rw [List.length_take] at this;omega
     have R:=hid ((Below.refl G.heap.size G).drew.alloc (Nat.le_refl _) (.cells #[.int .i64 ck,.string d,.string cx] 34))
     obtain ⟨j2,c3,g1,g2,g3⟩:=info_parts info_change
     obtain ⟨Z,w5,c4,b4,d6,-,g4⟩:=run_append_own_at (P:=Tryz.prog) (G.drew.alloc (.cells #[.int .i64 ck,.string d,.string cx] 34)) E.heap.size 77 77 34 j2 _ 3 40 Tryz.underlying77 c3 g1 g2 g3 rfl (by decide) (t z) _ _ (row_below (s.out z b) R.out (Nat.le_refl _)) ⟨G.heap.size,0,none⟩ 1 1 [.int .i64 ck,.string d,.string cx] rfl (fun j u hj=> by
      rw [off_add]
      have h:=heap_alloc_new G.drew (.cells #[.int .i64 ck,.string d,.string cx] 34)
      unfold World.cell?
      simp only [Nat.zero_add]
      rw [show (G.drew.alloc (.cells #[.int .i64 ck,.string d,.string cx] 34)).heap[G.heap.size]?=_ from h]
      simpa using hj) (by intro u hu;simp at hu;rcases hu with rfl | rfl | rfl <;> rfl) (by unfold maxLen;omega) (by omega) (by have:=R.out.size;have:=HB.out.size;omega)
     have b8:=hid c4
     have m5:Mod (fun q=> (t z).ownBlock=some q) G w5:=(Mod.of_below (F:=fun _=> False) R.out).trans (Mod.of_grown d6) (fun _ _ q=> q.elim) (fun _ _ q=> q)
     have f5:(t z).ownBlock≠some pi:=nod_row Y.out (s.out z b) (by decide)
     have b1:=m5.nod Y.out f5
     obtain ⟨-,-,l3,-,-,l4⟩:=b1.cells
     obtain ⟨x5,y5,z5,j3⟩:=shape3 b4
     have a3:Hid (∃U,OwnsP E.heap.size (w5.setCell ⟨pi,2,none⟩ Z) (.slice (some ⟨gp,0,none⟩) pl.length J) pl∧ManyP w0.heap.size (w5.setCell ⟨pi,2,none⟩ Z) vs ls∧BrM (w5.setCell ⟨pi,2,none⟩ Z) E.heap.size pl vs ls U∧BrC (w5.setCell ⟨pi,2,none⟩ Z) E.heap.size pl U (ml.take (k+1))∧NodT (w5.setCell ⟨pi,2,none⟩ Z) ab (.slice none 0 0) (.slice (some ⟨gp,0,none⟩) pl.length J) (.slice none 0 0)∧Below w0.heap.size w0 (w5.setCell ⟨pi,2,none⟩ Z)∧ab < (w5.setCell ⟨pi,2,none⟩ Z).heap.size):=by
      have ms:=Mod.setCell w5 pi 2 Z
      have m6:Mod (fun q=> q=pi∨(t z).ownBlock=some q) G (w5.setCell ⟨pi,2,none⟩ Z):=m5.trans ms (fun _ _ q=> .inr q) (fun _ _ q=> .inl q)
      have k0:pi < ab:=by have:=f0.out _ (List.getElem_mem b);rw [f4.out] at this;exact this
      have f6:ab < G.heap.size:=Nat.lt_of_lt_of_le c2 b7
      refine ⟨fun i=> if i=z then Z else t i,m6.row Q.out ?_,X.out.keep m6 ?_,⟨B.out.n,B.out.m,fun i hi b5=> ?_,B.out.key,B.out.inc,B.out.low⟩,?_,m6.nod a2.out ?_,?_,Nat.lt_of_lt_of_le f6 m6.size⟩
      ·rintro q hq (rfl | q')
       ·exact nod_row Y.out Q.out (by decide) hq
       ·exact rowsE_apart Q.out (s.out z b) (by decide) q hq q'
      ·rintro u hu q hq (rfl | q')
       ·obtain ⟨i,hi,rfl⟩:=List.getElem_of_mem hu
        exact nod_row Y.out (X.out.o i hi (by have:=X.out.n;omega)) (by decide) hq
       ·obtain ⟨i,hi,rfl⟩:=List.getElem_of_mem hu
        exact rowsE_apart (X.out.o i hi (by have:=X.out.n;omega)) (s.out z b) (by decide) q hq q'
      ·by_cases e:i=z
       ·subst e
        simp only [if_true]
        have:=b1.setc Z
        rw [f4.out];exact this
       ·simp only [e,if_false]
        refine m6.nod (B.out.nod i hi b5) ?_
        rintro (q | q)
        ·exact f1.out i hi e q
        ·exact nod_row (B.out.nod i hi b5) (s.out z b) (by decide) q
      ·rw [i6.out]
       refine BrC.next (w:=G) ⟨s.out,HC.out.a⟩ z (ck,d,cx) i7.out Z ?_ ?_ (fun i hi L=> m6.row (s.out i hi) ?_) b
       ·unfold OwnsC
        rw [List.length_append,ccells_one]
        exact ms.row b4 (fun q hq e=> nod_row b1 b4 (by decide) (by rw [←e];exact hq))
       ·rcases g4 with q | q
        ·exact .inl q
        ·exact .inr ⟨_,R.out.size,q⟩
       ·rintro q hq (rfl | q')
        ·exact nod_row Y.out (s.out i hi) (by decide) hq
        ·exact HC.out.a i z hi b L q hq q'
      ·rintro (q | q)
       ·omega
       ·have:=(World.ownsRow.lt (s.out z b) ab q)
        exact nod_row a2.out (s.out z b) (by decide) q
      ·have d4:=HB.out.trans (I.out.mono W)
       have f7:w0.heap.size≤G.heap.size:=d4.size
       have f8:Below w0.heap.size w0 w5:=(d4.trans (R.out.mono f7)).grown d6 (Nat.le_trans f7 R.out.size) (fun q hq=> Nat.le_trans K (World.ownsRow.lt (s.out z b) q hq).1)
       exact f8.setCell (p:=⟨pi,2,none⟩) (Nat.le_trans K f3.out) Z
     rw [g0] at m2 b8
     obtain ⟨x0,x1,x2⟩:=d3.out.cells
     have c8:wr.heap.size < G.heap.size:=d3.out.lt
     clear g0 b4 d6 g4 b1 m5 f5 O HM HR HC HA HB I a2 Q B X s Y f1 R c4 c3 g1 g2 g3
     subst j3
     go_upto_region 12 with fail
     go_region_law (refine stepAp _ (by rfl) (.tmp 56) (.tmp 58) _ _ (by rfl) _ _ (by simp [Act.eval]) (by simp [Act.eval]) _ _ b8.out ?_)
     all_goals
      go_wp2_with fail
      obtain ⟨U,hF⟩:=a3.out
      exact ⟨⟨k+1,U,by go_num,by omega,hF⟩,by simp [intOf];omega⟩
    ·have i9:k=ml.length:=by omega
     subst i9
     rw [List.take_length] at HC
     have a3:Hid (CbQ w pl vs ls t ml (.slice M pl.length J) E.heap.size wr):=⟨e7.out,row_shrink O.out (Nat.le_trans (Nat.le_of_lt a0.out) K),⟨HM.out.n,fun i hi b5=> row_shrink (HM.out.o i hi b5) (Nat.le_of_lt a0.out),HM.out.a⟩,HR.out,HC.out,fun u hu g hg=> (HQ.out.many.lt hu g hg).2,fun g hg=> (World.ownsRow.lt O.out g hg).1,Nat.le_trans (Nat.le_of_lt a0.out) K,a9.out.trans (HB.out.mono (Nat.le_of_lt a0.out))⟩
     clear O HM HR HC HA HB
     go_wp2_with fail
     go_ret
     exact ⟨_,pl,vs,t,E.heap.size,rfl,by rw [h6.out];exact a3.out⟩
end Go.Proofs.YtolgpnaoaodepaaGreat
namespace Go.Proofs.YtolgpnaoaodepaaGreat
open Go.RowKit
theorem parts_src {w:World} {g b:Nat} {il:List (ByteArray×Nat)} (h:OwnsP 0 w (.slice (some ⟨g,0,none⟩) il.length b) il) (i:Nat) (hi:i≤il.length):∀j u,(pcells (il.drop i))[j]?=some u→w.cell? ⟨g,i*2+j,none⟩=some u:=by
 intro j u c
 rw [pcells_drop _ _ hi,List.getElem?_drop] at c
 have:=World.ownsRow.cells h (g:=g) rfl _ _ c
 rwa [add_at] at this
theorem zeroP:∀w,(Go.zeroValue 132).run Tryz.prog w= .ok (.agg #[.string ⟨#[]⟩,.pointer none]) w:=by
 intro w
 obtain ⟨i,hi,a,b,c⟩:=info_parts info_part
 simp [Go.zeroValue,typeInfo,hi,a]
theorem zeroP_cells (n:Nat):(Builtin.zeroCells (Value.agg #[.string ⟨#[]⟩,.pointer none]).cells n).size=n*2∧∀v∈(Builtin.zeroCells (Value.agg #[.string ⟨#[]⟩,.pointer none]).cells n).toList,v.oneCell'=true:=by
 constructor
 ·rw [size_zeroCells];rfl
 ·intro v a
  simp only [Builtin.zeroCells,Array.toList_map,List.mem_map] at a
  obtain ⟨i,_,rfl⟩:=a
  show ((#[Value.string ⟨#[]⟩,Value.pointer none]:Array Value)[i % 2]!).oneCell'=true
  rcases (show i % 2=0∨i % 2=1 by omega) with q | q <;> rw [q] <;> rfl
set_option maxHeartbeats 1000000 in
set_option maxRecDepth 20000 in
theorem deleteP_any (v:Value) (il:List (ByteArray×Nat)) (i:Nat) (w:World) (hi:i < il.length) (h:OwnsP 0 w v il) (hl:il.length≤20000000):
  Calls Tryz.prog 225 #[v,.int .i64 (i:Nat),.int .i64 ((i:Nat)+1)] w fun r w'=>∃L,r= .returned L∧OwnsP 0 w' L (il.take i++il.drop (i+1))∧w.grownBy w' v.ownBlock∧L.ownBlock=v.ownBlock:=by
 rcases h.2 with ⟨_,hn⟩ | ⟨g,b,d,rfl,hb,K,hc,F,p,C⟩
 ·omega
 have N:b≤9223372036854775807:=by unfold maxLen at F;omega
 obtain ⟨A,B,a5,o,a6⟩:=info_parts info_part
 obtain ⟨E,a7,e⟩:∃E:Addr,(if b=i+1 then some ⟨g,0,none⟩ else some ⟨g,(i+1)*2,none⟩)=some E∧∀j u,(pcells (il.drop (i+1)))[j]?=some u→w.drew.cell? (E.add j)=some u:=by
  by_cases D:b=i+1
  ·refine ⟨⟨g,0,none⟩,if_pos D,fun j u G=> ?_⟩
   rw [List.drop_of_length_le (by omega)] at G
   simp [pcells] at G
  ·refine ⟨⟨g,(i+1)*2,none⟩,if_neg D,fun j u G=> ?_⟩
   rw [off_add]
   exact parts_src h (i+1) (by omega) j u G
 have s:(pcells (il.drop (i+1))).length=(il.length - (i+1))*A.size:=by rw [pcells_len,List.length_drop,o]
 have c:d.toList.length=b*2:=by simpa using p
 have H:=run_append_room (P:=Tryz.prog) w.drew 121 121 132 A Tryz.underlying121 B g i b d K E (il.length - (i+1)) (b - (i+1)) (pcells (il.drop (i+1))) s e (one_pcells _) (by omega) (by rw [o,pcells_len,List.length_drop,p];omega)
 rw [o] at H
 have O:i+(il.length - (i+1))=il.length - 1:=by omega
 have f:(pcells (il.drop (i+1))).length=(il.length - 1 - i)*2:=by rw [pcells_len,List.length_drop];omega
 have l:(d.toList.take (i*2)++pcells (il.drop (i+1))++d.toList.drop (i*2+(pcells (il.drop (i+1))).length)).length=b*2:=by
  simp only [List.length_append,List.length_take,List.length_drop,f,c];omega
 have m:(d.toList.take (i*2)++pcells (il.drop (i+1))++d.toList.drop (i*2+(pcells (il.drop (i+1))).length)).take ((il.length - 1)*2)=pcells (il.take i++il.drop (i+1)):=by
  rw [List.take_append_of_le_length (by simp only [List.length_append,List.length_take,f,c];omega),List.take_of_length_le (by simp only [List.length_append,List.length_take,f,c];omega),pcells_append,pcells_take _ _ (by omega)]
  rw [←C,List.take_take]
  congr 2
  omega
 generalize M:d.toList.take (i*2)++pcells (il.drop (i+1))++d.toList.drop (i*2+(pcells (il.drop (i+1))).length)=a at*
 have t:=hid (setRow_at (w:=w.drew) K a)
 have Q:=hid (setRow_grown w.drew g a.toArray)
 have HM:=hid F
 have I:=hid l
 have X:=hid m
 have J:=hid H
 have x:Hid (∀Z:List Value,Z.length=2→OwnsP 0 ((w.drew.setRow g a.toArray).setRow g (a.take ((il.length - 1)*2)++(Z++a.drop ((il.length - 1)*2+2))).toArray) (.slice (some ⟨g,0,none⟩) (il.length - 1) b) (il.take i++il.drop (i+1))∧w.grownBy ((w.drew.setRow g a.toArray).setRow g (a.take ((il.length - 1)*2)++(Z++a.drop ((il.length - 1)*2+2))).toArray) (some g)):=by
  intro Z hZ
  have y:(il.take i++il.drop (i+1)).length=il.length - 1:=by simp;omega
  constructor
  ·unfold OwnsP
   rw [y]
   refine row_of (setRow_at t.out _) (by omega) F ?_ ?_ (by rw [pcells_len,y])
   ·simp only [List.length_append,List.length_take,List.length_drop,l,hZ];omega
   ·rw [List.take_append_of_le_length (by rw [List.length_take,l];omega),List.take_take,Nat.min_self,m]
  ·have q:=setRow_grown w.drew g a.toArray
   have z:=setRow_grown (w.drew.setRow g a.toArray) g (a.take ((il.length - 1)*2)++(Z++a.drop ((il.length - 1)*2+2))).toArray
   exact ⟨z.os.trans q.os,z.tape.trans q.tape,z.output.trans q.output,Nat.le_trans q.size z.size,fun k W n=> (z.block k (Nat.lt_of_lt_of_le W q.size) n).trans (q.block k W n)⟩
 clear H M K p C h F hb l m e s c f
 have Y:i≤b:=by omega
 have R:(i:Int)≤(b:Int):=by omega
 have a0:i+1≤il.length:=by omega
 have S:(i:Int)+1≤(il.length:Int):=by omega
 have T:(0:Int)≤(i:Int)+1:=by omega
 have U:i+1≤b:=by omega
 have n:((i:Int)==(i:Int)+1)=false:=by simp;omega
 go_enter Tryz.func225,Tryz.ntmps225
 go_upto_region 5 with fail
 go_region_law (refine stepAp _ (by rfl) (.tmp 22) (.tmp 25) _ _ (by rfl) _ _ (by rfl) (by simp [Act.eval];rfl) _ _ J.out ?_)
 all_goals
  have a1:¬b=il.length - 1:=by omega
  have a2:il.length - (il.length - 1)=1:=by omega
  have a3:il.length - 1≤il.length:=by omega
  have a4:il.length≤b:=hc
  go_wp2_with (refine wpCl _ (by rfl) (.tmp 31) 121 (by rfl) _ (by rfl) _ _ (run_clear_at _ _ _ 132 (.agg #[.string ⟨#[]⟩,.pointer none]) 2 g ((il.length - 1)*2) 1 (b - (il.length - 1)) a.toArray 132 Tryz.underlying121 zeroP (zeroP_cells 1).1 (zeroP_cells 1).2 t.out (by have:=I.out;simp;omega)) ?_)
  go_ret
  have V:=x.out (Builtin.zeroCells #[Value.string ⟨#[]⟩,Value.pointer none] 1).toList (by rw [Array.length_toList,size_zeroCells];rfl)
  exact ⟨_,rfl,V.1,V.2,rfl⟩
end Go.Proofs.YtolgpnaoaodepaaGreat
namespace Go.Proofs.YtolgpnaoaodepaaGreat
open Go.RowKit
def repP (pl:List (ByteArray×Nat)) (i:Nat) (xl:List (ByteArray×Nat)):List (ByteArray×Nat):=pl.take i++xl++pl.drop (i+1)
theorem repP_len (pl:List (ByteArray×Nat)) (i:Nat) (a:List (ByteArray×Nat)) (hi:i < pl.length):(repP pl i a).length=pl.length - 1+a.length:=by simp [repP];omega
theorem repP_cells (pl:List (ByteArray×Nat)) (i:Nat) (a:List (ByteArray×Nat)):pcells (repP pl i a)=pcells (pl.take i)++pcells a++pcells (pl.drop (i+1)):=by
 unfold repP;rw [pcells_append,pcells_append]
structure RepQ (v:Value) (l:List (ByteArray×Nat)) (w:World) (v':Value) (w':World):Prop where
 o:OwnsP 0 w' v' l
 g:w.grownBy w' v.ownBlock
 b:v'.ownBlock=v.ownBlock∨∃k,w.heap.size≤k∧v'.ownBlock=some k
theorem row_prefix {w:World} {g a:Nat} {pl:List (ByteArray×Nat)} (h:OwnsP 0 w (.slice (some ⟨g,0,none⟩) pl.length a) pl) (i:Nat) (hi:i≤pl.length):w.ownsRow 0 132 2 (.slice (some ⟨g,0,none⟩) i a) i (pcells (pl.take i)):=by
 rcases h.2 with ⟨q,_⟩ | ⟨m,f,b,e,j,k,n,l,c,d⟩
 ·simp at q
 ·simp only [Value.slice.injEq,Option.some.injEq,Addr.mk.injEq,and_true,true_and] at e
  obtain ⟨rfl,rfl⟩:=e
  refine ⟨by rw [pcells_len,List.length_take];omega,.inr ⟨g,a,b,rfl,j,k,by omega,l,c,?_⟩⟩
  rw [pcells_take _ _ hi,←d,List.take_take]
  congr 1;omega
theorem parts_all {w:World} {g a:Nat} {pl:List (ByteArray×Nat)} (h:OwnsP 0 w (.slice (some ⟨g,0,none⟩) pl.length a) pl):∀j u,(pcells pl)[j]?=some u→w.cell? ⟨g,j,none⟩=some u:=by
 intro j u b
 have:=parts_src h 0 (Nat.zero_le _) j u (by simpa using b)
 simpa using this
set_option maxHeartbeats 600000 in
set_option maxRecDepth 20000 in
theorem replaceEnd_any (g b k t:Nat) (pl a:List (ByteArray×Nat)) (i:Nat) (w:World) (hi:i+1=pl.length) (h:OwnsP 0 w (.slice (some ⟨g,0,none⟩) pl.length b) pl) (y:OwnsP 0 w (.slice (some ⟨k,0,none⟩) a.length t) a) (E:0 < a.length) (P:pl.length≤20000000) (F:a.length≤20000000):
  Calls Tryz.prog 175 #[.slice (some ⟨g,0,none⟩) pl.length b,.int .i64 (i:Nat),.int .i64 ((i:Nat)+1),.slice (some ⟨k,0,none⟩) a.length t] w fun r w'=>∃x,r= .returned x∧RepQ (.slice (some ⟨g,0,none⟩) pl.length b) (repP pl i a) w x w':=by
 obtain ⟨N,v,e,O,-,-,-,-⟩:=h.at 0 (by omega)
 simp only [Value.slice.injEq,Option.some.injEq,Addr.mk.injEq,and_true,true_and] at e
 obtain ⟨rfl,rfl⟩:=e
 have l:=hid (row_prefix h i (by omega))
 have m:Hid (∀j u,(pcells a)[j]?=some u→w.cell? ((⟨k,0,none⟩:Addr).add j)=some u):=fun j u D=> by rw [off_add,Nat.zero_add];exact parts_all y j u D
 have n:Hid (repP pl i a=pl.take i++a):=by show _=_;unfold repP;rw [List.drop_of_length_le (by omega),List.append_nil]
 have o:Hid ((pcells a).length=a.length*2):=pcells_len a
 clear h y
 have G:i≤20000000:=by omega
 have H:i≤b:=by omega
 have I:(i:Int)+1≤(b:Int):=by omega
 have J:i+1≤b:=by omega
 have K:((i:Int)==(i:Int)+1)=false:=by simp;omega
 have L:((i:Int)+1==(pl.length:Int))=true:=by simp;omega
 have p:Hid (¬((i:Int)+(a.length:Int)) < (pl.length:Int)):=by show ¬_;omega
 have s:=hid hi
 clear hi
 go_enter Tryz.func175,Tryz.ntmps175
 go_upto_region 6 with (at_builtin;refine wpApAt w rfl (.tmp 32) (.tmp 33) 121 132 Tryz.underlying121 _ 2 24 info_part rfl (by decide) (by decide) rfl 0 (.slice (some ⟨g,0,none⟩) i b) i (pcells (pl.take i)) rfl l.out ⟨k,0,none⟩ a.length t (pcells a) rfl o.out m.out (one_pcells a) (by omega) (Nat.zero_le _) ?_;intro v1 C c d f)
 obtain ⟨A,B,rfl⟩:=rowShape c
 have z:Hid (RepQ (.slice (some ⟨g,0,none⟩) pl.length b) (repP pl i a) w (.slice A (i+a.length) B) C):=by
  refine ⟨?_,d,f.imp_right fun q=> ⟨_,Nat.le_refl _,q⟩⟩
  rw [n.out]
  unfold OwnsP
  rw [List.length_append,pcells_append,List.length_take,show min i pl.length=i by have:=s.out;omega]
  exact c
 have M:decide ((i:Int)+(a.length:Int) < (pl.length:Int))=false:=decide_eq_false p.out
 clear c d f
 go_wp2_with fail
 go_ret
 exact ⟨_,rfl,z.out⟩
end Go.Proofs.YtolgpnaoaodepaaGreat
