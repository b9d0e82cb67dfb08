import Derived.Test.YtolgpnaoaodepaaGreatTreMm
namespace Go.Proofs.YtolgpnaoaodepaaGreat
open Go.RowKit
theorem OwnsC.at {B:Nat} {w:World} {v:Value} {l:List (Int×ByteArray×ByteArray)} (h:OwnsC B w v l) (i:Nat) (hi:i < l.length):∃g a,v= .slice (some ⟨g,0,none⟩) l.length a∧l.length≤a∧B≤g∧g < w.heap.size∧w.cell? ⟨g,i*3,none⟩=some (.int .i64 (l[i]'hi).1)∧w.cell? ⟨g,i*3+1,none⟩=some (.string (l[i]'hi).2.1)∧w.cell? ⟨g,i*3+2,none⟩=some (.string (l[i]'hi).2.2):=by
 rcases h.2 with ⟨_,p⟩ | ⟨g,a,k,rfl,m,n,o,_⟩
 ·omega
 ·obtain ⟨e,f,j⟩:=ccells_at l i hi
  have b:=World.ownsRow.cells h (g:=g) rfl _ _ e
  have c:=World.ownsRow.cells h (g:=g) rfl _ _ f
  have d:=World.ownsRow.cells h (g:=g) rfl _ _ j
  rw [add_at] at b c d
  exact ⟨g,a,rfl,o,m,(Array.getElem?_eq_some_iff.1 n).1,by simpa using b,by simpa using c,by simpa using d⟩
theorem ccells_one (l:List (Int×ByteArray×ByteArray)) (c:Int×ByteArray×ByteArray):ccells (l++[c])=ccells l++[.int .i64 c.1,.string c.2.1,.string c.2.2]:=by
 unfold ccells;simp
theorem take_filter {α:Type} (l:List α) (P:α→Bool) (j:Nat) (a:j < l.length):(l.take (j+1)).filter P=(l.take j).filter P++(if P (l[j]'a) then [l[j]'a] else []):=by
 rw [List.take_add_one,List.getElem?_eq_getElem a,List.filter_append]
 congr 1
 simp [List.filter_cons]
structure Two (B:Nat) (w:World) (vo vk:Value) (lo lk:List (Int×ByteArray×ByteArray)):Prop where
 o:OwnsC B w vo lo
 k:OwnsC B w vk lk
 a:∀g,vo.ownBlock=some g→vk.ownBlock≠some g
def atP (pl:List (ByteArray×Nat)) (n:Nat) (c:Int×ByteArray×ByteArray):Bool:=decide (Tr.ix (pkeys pl) c.2.1.data.toList=n)
set_option maxHeartbeats 1000000 in
set_option maxRecDepth 20000 in
theorem handOut_any (p:Nat) (O vp vc:Value) (pl:List (ByteArray×Nat)) (ml:List (Int×ByteArray×ByteArray)) (n:Nat) (w:World) (hn:NodT w p O vp vc) (hp:OwnsP 0 w vp pl) (hc:OwnsC 0 w vc ml) (b3:pl.length≤20000000) (b4:ml.length≤20000000):
  Calls Tryz.prog 173 #[.pointer (some ⟨p,0,none⟩),.int .i64 (n:Nat)] w fun r w'=>∃Z vk,r= .returned Z∧NodT w' p O vp vk∧Two w.heap.size w' Z vk (ml.filter (atP pl n)) (ml.filter fun c=> !atP pl n c)∧Mod (fun g=> g=p) w w':=by
 obtain ⟨n0,n1,n2,-⟩:=hn.cells
 obtain ⟨ca,cc,rfl⟩:=rowShape hc
 have P:=hid hn
 have HP:=hid hp
 have HC:=hid hc
 clear hn hp hc
 go_enter Tryz.func173,Tryz.ntmps173
 go_wp2_with fail
 go_loopw [5,6,14] (fun Z vk i wr=>∃j:Nat,j≤ml.length∧i= .int .i64 (j:Nat)∧Two w.heap.size wr Z vk ((ml.take j).filter (atP pl n)) ((ml.take j).filter fun c=> !atP pl n c)∧Below w.heap.size w wr) (fun _ _ i _=> ml.length - (intOf i).toNat)
 case atStart=> exact ⟨0,Nat.zero_le _,rfl,⟨World.ownsRow_nil _ _ _ _,World.ownsRow_nil _ _ _ _,fun g l=> by simp [Value.ownBlock] at l⟩,Below.refl _ _⟩
 case round=>
  obtain ⟨j,hj,rfl,S,y⟩:=hrel
  have v:=hid S
  have X:=hid y
  have a0:=y.size
  clear S y
  by_cases J:j < ml.length
  ·obtain ⟨g,b1,e,b2,-,l,d0,d1,d2⟩:=HC.out.at j J
   simp only [Value.slice.injEq] at e
   obtain ⟨rfl,-,rfl⟩:=e
   have D:=fun o=> X.out.cell (p:=⟨g,o,none⟩) l
   have a1:=(D _).trans d0
   have a2:=(D _).trans d1
   have a3:=(D _).trans d2
   clear D d0 d1 d2
   have E:=hid (take_filter ml (atP pl n) j J)
   have G:=hid (take_filter ml (fun c=> !atP pl n c) j J)
   generalize ml[j]'J=c at*
   obtain ⟨B,b,C⟩:=c
   have H:=hid ((Below.refl wr.heap.size wr).alloc (Nat.le_refl _) (.cells #[.int .i64 B,.string b,.string C] 34))
   have x:Hid (ChB (wr.alloc (.cells #[.int .i64 B,.string b,.string C] 34)) wr.heap.size B b C):=heap_alloc_new _ _
   have s:=hid (X.out.trans (H.out.mono a0))
   have d:Hid (Two w.heap.size (wr.alloc (.cells #[.int .i64 B,.string b,.string C] 34)) u5 u6 ((ml.take j).filter (atP pl n)) ((ml.take j).filter fun c=> !atP pl n c)):=⟨row_below v.out.o H.out (Nat.le_refl _),row_below v.out.k H.out (Nat.le_refl _),v.out.a⟩
   have Q:Hid (NodT (wr.alloc (.cells #[.int .i64 B,.string b,.string C] 34)) p O vp (.slice (some ⟨g,0,none⟩) ml.length cc)):=(s.out.block p P.out.lt).trans P.out
   have R:Hid (OwnsP 0 (wr.alloc (.cells #[.int .i64 B,.string b,.string C] 34)) vp pl):=row_below HP.out s.out (Nat.le_refl _)
   have a7:((ml.take j).filter (atP pl n)).length≤20000000:=by have:=List.length_filter_le (atP pl n) (ml.take j);rw [List.length_take] at this;omega
   have a8:((ml.take j).filter fun c=> !atP pl n c).length≤20000000:=by have:=List.length_filter_le (fun c=> !atP pl n c) (ml.take j);rw [List.length_take] at this;omega
   go_wp2_with fail
   refine (tFind_any p 0 O vp _ pl b _ Q.out R.out (by omega)).mono ?_
   rintro r Y ⟨rfl,T⟩
   rw [←T] at x d s
   have a9:wr.heap.size < Y.heap.size:=x.out.lt
   clear T H Q R a1 a2 a3
   obtain ⟨x0,x1,x2⟩:=x.out.cells
   have I:w.heap.size≤Y.heap.size:=s.out.size
   by_cases hP:Tr.ix (pkeys pl) b.data.toList=n
   ·have a4:((Tr.ix (pkeys pl) b.data.toList:Int)==(n:Int))=true:=by rw [hP];exact beq_self_eq_true _
    have K:atP pl n (B,b,C)=true:=decide_eq_true hP
    rw [K] at E G
    generalize Tr.ix (pkeys pl) b.data.toList=a6 at*
    go_wp2_with (at_builtin;refine wpApG Y rfl (.tmp 24) (.tmp 26) 77 34 Tryz.underlying77 _ 3 40 info_change rfl (by decide) (by decide) rfl w.heap.size u5 _ _ rfl d.out.o [.int .i64 B,.string b,.string C] rfl (by intro u U;simp at U;rcases U with rfl | rfl | rfl <;> rfl) rfl (by omega) I ?_;intro v2 V z t A)
    have L:Hid (Two w.heap.size V v2 u6 ((ml.take (j+1)).filter (atP pl n)) ((ml.take (j+1)).filter fun c=> !atP pl n c)):=by
     refine ⟨?_,?_,?_⟩
     ·rw [E.out];unfold OwnsC;rw [if_pos trivial,ccells_one,List.length_append];exact z
     ·rw [G.out];simp only [Bool.not_true,Bool.false_eq_true,if_false,List.append_nil]
      exact (Mod.of_grown t).row d.out.k (fun g l f=> d.out.a g f l)
     ·intro g l f
      rcases A with h | ⟨k,W,h⟩
      ·exact d.out.a g (by rw [←h];exact l) f
      ·rw [h] at l
       have:=Option.some.inj l
       have:=(World.ownsRow.lt d.out.k g f).2
       omega
    have M:Hid (Below w.heap.size w V):=s.out.grown t I (fun k W=> (World.ownsRow.lt d.out.o k W).1)
    clear z t A d s x x0 x1 x2
    exact ⟨⟨j+1,by omega,by go_num,L.out,M.out⟩,by simp [intOf];omega⟩
   ·have a4:((Tr.ix (pkeys pl) b.data.toList:Int)==(n:Int))=false:=by simp;omega
    have K:atP pl n (B,b,C)=false:=decide_eq_false hP
    rw [K] at E G
    generalize Tr.ix (pkeys pl) b.data.toList=a6 at*
    go_wp2_with (at_builtin;refine wpApG Y rfl (.tmp 28) (.tmp 30) 77 34 Tryz.underlying77 _ 3 40 info_change rfl (by decide) (by decide) rfl w.heap.size u6 _ _ rfl d.out.k [.int .i64 B,.string b,.string C] rfl (by intro u U;simp at U;rcases U with rfl | rfl | rfl <;> rfl) rfl (by omega) I ?_;intro v2 V z t A)
    have L:Hid (Two w.heap.size V u5 v2 ((ml.take (j+1)).filter (atP pl n)) ((ml.take (j+1)).filter fun c=> !atP pl n c)):=by
     refine ⟨?_,?_,?_⟩
     ·rw [E.out];simp only [Bool.false_eq_true,if_false,List.append_nil]
      exact (Mod.of_grown t).row d.out.o (fun g l f=> d.out.a g l f)
     ·rw [G.out];unfold OwnsC;rw [Bool.not_false,if_pos rfl,ccells_one,List.length_append];exact z
     ·intro g l f
      rcases A with h | ⟨k,W,h⟩
      ·exact d.out.a g l (by rw [←h];exact f)
      ·rw [h] at f
       have:=Option.some.inj f
       have:=(World.ownsRow.lt d.out.o g l).2
       omega
    have M:Hid (Below w.heap.size w V):=s.out.grown t I (fun k W=> (World.ownsRow.lt d.out.k k W).1)
    clear z t A d s x x0 x1 x2
    exact ⟨⟨j+1,by omega,by go_num,L.out,M.out⟩,by simp [intOf];omega⟩
  ·have a5:j=ml.length:=by omega
   subst a5
   rw [List.take_length] at v
   have N:NodT wr p O vp (.slice ca ml.length cc):=(X.out.block p P.out.lt).trans P.out
   obtain ⟨m0,m1,m2,k0,k1,k2⟩:=N.cells
   have HF:Hid (NodT (wr.setCell ⟨p,2,none⟩ u6) p O vp u6∧Two w.heap.size (wr.setCell ⟨p,2,none⟩ u6) u5 u6 (ml.filter (atP pl n)) (ml.filter fun c=> !atP pl n c)∧Mod (fun g=> g=p) w (wr.setCell ⟨p,2,none⟩ u6)):=by
    have m:=Mod.setCell wr p 2 u6
    have b0:=P.out.lt
    refine ⟨N.setc u6,⟨m.row v.out.o (fun g l q=> ?_),m.row v.out.k (fun g l q=> ?_),v.out.a⟩,(Mod.of_below (F:=fun _=> False) X.out).trans m (fun _ _ q=> q.elim) (fun _ _ q=> q)⟩
    ·have:=(World.ownsRow.lt v.out.o g l).1;omega
    ·have:=(World.ownsRow.lt v.out.k g l).1;omega
   obtain ⟨y1,y2,y3,hy⟩:=shape3 v.out.k
   clear v N
   subst hy
   go_wp2_with fail
   go_ret
   exact ⟨_,_,rfl,HF.out⟩
end Go.Proofs.YtolgpnaoaodepaaGreat
namespace Go.Proofs.YtolgpnaoaodepaaGreat
open Go.RowKit
def OwnsZ (B:Nat) (w:World) (v:Value) (zs:List Int):Prop:=w.ownsRow B 3 1 v zs.length (zs.map (.int .i64))
theorem OwnsZ.at {B:Nat} {w:World} {v:Value} {b:List Int} (h:OwnsZ B w v b) (i:Nat) (hi:i < b.length):∃g a,v= .slice (some ⟨g,0,none⟩) b.length a∧b.length≤a∧B≤g∧g < w.heap.size∧w.cell? ⟨g,i,none⟩=some (.int .i64 (b[i]'hi))∧w.frozen? ⟨g,i,none⟩=false:=by
 rcases h.2 with ⟨_,k⟩ | ⟨g,a,e,rfl,f,d,j,_⟩
 ·omega
 ·have c:=World.ownsRow.cells h (g:=g) rfl i (.int .i64 (b[i]'hi)) (by simp [hi])
  rw [add_at] at c
  exact ⟨g,a,rfl,j,f,(Array.getElem?_eq_some_iff.1 d).1,by simpa using c,by simp [World.frozen?,d]⟩
theorem OwnsZ.set {B:Nat} {w:World} {g a:Nat} {b:List Int} (h:OwnsZ B w (.slice (some ⟨g,0,none⟩) b.length a) b) (i:Nat) (hi:i < b.length) (z:Int):OwnsZ B (w.setCell ⟨g,i,none⟩ (.int .i64 z)) (.slice (some ⟨g,0,none⟩) b.length a) (b.set i z):=by
 rcases h.2 with ⟨_,o⟩ | ⟨p,j,c,e,k,l,m,n,d,f⟩
 ·omega
 ·simp only [Value.slice.injEq,Option.some.injEq,Addr.mk.injEq,and_true,true_and] at e
  obtain ⟨rfl,rfl⟩:=e
  unfold OwnsZ
  rw [List.length_set]
  refine ⟨by simp,.inr ⟨g,a,c.setIfInBounds i (.int .i64 z),rfl,k,?_,m,n,by simpa using d,?_⟩⟩
  ·rw [heap_setCell_at (i:=i) l]
  ·rw [Array.toList_setIfInBounds,List.take_set,f,List.map_set]
set_option maxHeartbeats 1000000 in
set_option maxRecDepth 20000 in
theorem maxN_any (B:Nat) (v:Value) (b:List Int) (w:World) (h:OwnsZ B w v b) (h0:0 < b.length) (J:b.length≤20000000):
  Calls Tryz.prog 223 #[v] w fun r w'=>∃m,r= .returned (.int .i64 m)∧m∈b∧(∀z∈b,z≤m)∧w'=w:=by
 obtain ⟨a,c,rfl⟩:=rowShape h
 have t:=hid h
 obtain ⟨g,y,e,D,-,-,E,-⟩:=h.at 0 h0
 simp only [Value.slice.injEq] at e
 obtain ⟨rfl,-,rfl⟩:=e
 clear h
 have l:¬(b.length:Int) < 1:=by omega
 have p:decide ((b.length:Int) < 1)=false:=decide_eq_false l
 go_enter Tryz.func223,Tryz.ntmps223
 go_wp2_with fail
 go_loop [3,4] (fun A i=>∃(j:Nat) (m:Int),1≤j∧j≤b.length∧i= .int .i64 (j:Nat)∧A= .int .i64 m∧Hid (m∈b)∧Hid (∀z∈b.take j,z≤m)) (fun _ i=> b.length - (intOf i).toNat)
 case atStart=> exact ⟨1,b[0]'h0,Nat.le_refl _,h0,rfl,rfl,List.getElem_mem h0,fun z k=> by
  rw [List.take_add_one,List.take_zero,List.getElem?_eq_getElem h0] at k
  simp at k;rw [k];exact Int.le_refl _⟩
 case round=>
  obtain ⟨j,m,F,G,rfl,rfl,o,f⟩:=hrel
  by_cases d:j < b.length
  ·obtain ⟨H,s,e,-,-,-,I,-⟩:=t.out.at j d
   simp only [Value.slice.injEq,Option.some.injEq,Addr.mk.injEq,and_true,true_and] at e
   obtain ⟨rfl,rfl⟩:=e
   have u:Hid (max m (b[j]'d)∈b):=by
    show _∈_
    rcases Int.le_total m (b[j]'d) with q | q
    ·rw [Int.max_eq_right q];exact List.getElem_mem d
    ·rw [Int.max_eq_left q];exact o.out
   have x:Hid (∀z∈b.take (j+1),z≤max m (b[j]'d)):=fun z k=> by
    rw [List.take_add_one,List.getElem?_eq_getElem d] at k
    rcases List.mem_append.1 k with q | q
    ·exact Int.le_trans (f.out z q) (Int.le_max_left _ _)
    ·simp at q;rw [q];exact Int.le_max_right _ _
   clear o f
   generalize b[j]'d=C at*
   go_wp2_with fail
   go_round
   case rel=> exact ⟨j+1,max m C,by omega,by omega,by go_num,rfl,u.out,x.out⟩
   case measure=> simp [intOf];omega
  ·have n:j=b.length:=by omega
   subst n
   rw [List.take_length] at f
   go_wp2_with fail
   go_ret
   exact ⟨m,rfl,o.out,f.out,rfl⟩
def IdxQ (zs:List Int) (x:Int) (w:World) (r:Ending) (w':World):Prop:=∃i:Nat,r= .returned (.int .i64 (i:Nat))∧zs[i]?=some x∧w'=w
set_option maxHeartbeats 1000000 in
set_option maxRecDepth 20000 in
theorem indexN_any (B:Nat) (v:Value) (g:List Int) (x:Int) (w:World) (h:OwnsZ B w v g) (m:x∈g) (C:g.length≤20000000):
  Calls Tryz.prog 222 #[v,.int .i64 x] w (IdxQ g x w):=by
 obtain ⟨a,c,rfl⟩:=rowShape h
 have n:=hid h
 have o:=hid m
 clear h m
 go_enter Tryz.func222,Tryz.ntmps222
 go_wp2_with fail
 go_loop [8] (fun i=>∃j:Nat,j≤g.length∧i= .int .i64 (j:Nat)∧Hid (x∉g.take j)) (fun i=> g.length - (intOf i).toNat)
 case atStart=> exact ⟨0,Nat.zero_le _,rfl,by show _∉_;simp⟩
 case round=>
  obtain ⟨j,u,rfl,b⟩:=hrel
  by_cases d:j < g.length
  ·obtain ⟨y,l,e,z,-,-,t,-⟩:=n.out.at j d
   simp only [Value.slice.injEq] at e
   obtain ⟨rfl,-,rfl⟩:=e
   by_cases f:g[j]'d=x
   ·rw [f] at t
    have p:=hid f
    clear f b
    go_wp2_with fail
    go_ret
    exact ⟨j,rfl,by rw [List.getElem?_eq_getElem d,p.out],rfl⟩
   ·have r:(x==g[j]'d)=false:=by simp;exact fun q=> f q.symm
    have s:Hid (x∉g.take (j+1)):=by
     show _∉_
     rw [List.take_add_one,List.getElem?_eq_getElem d]
     intro q
     rcases List.mem_append.1 q with q | q
     ·exact b.out q
     ·simp at q;exact f q.symm
    clear f b
    generalize g[j]'d=A at*
    go_wp2_with fail
    go_round
    case rel=> exact ⟨j+1,by omega,by go_num,s.out⟩
    case measure=> simp [intOf];omega
  ·have k:j=g.length:=by omega
   subst k
   rw [List.take_length] at b
   exact absurd o.out b.out
theorem wpMkN (w:World) {d:Array Oper} {rest:List Oper} {o:Oper} {a:Act} {Q:Exit→Act→World→Prop} (p:o.guard=none) (l c:Operand) (q:o.op=Op.makeSlice 25 l c) (n:Nat) (u:a.eval l= .int .i64 (n:Int)) (v:a.eval c= .int .i64 (n:Int)) (m:n≤1000000000)
  (h:∀w',OwnsZ w.heap.size w' (.slice (some ⟨w.heap.size,0,none⟩) n n) (List.replicate n 0)→Below w.heap.size w w'→wpList Tryz.prog d Q rest (a.put o.dst (.slice (some ⟨w.heap.size,0,none⟩) n n)) w'):wpList Tryz.prog d Q (o::rest) a w:=by
 obtain ⟨i,hi,f,g,j⟩:=info_parts info_int
 refine wpList_make_full w p l c 25 q w.heap.size 3 i _ 1 Tryz.underlying25 hi f g .i64 .i64 (n:Int) (n:Int) n u v rfl rfl (by rw [j];omega) (by unfold maxLen;omega) (Nat.le_refl _) ?_
 intro w' r s
 refine h w' ?_ ((Below.refl _ w).grown s (Nat.le_refl _) (fun k t=> by cases t))
 have e:(madeCells (Value.int .i64 0).cells (n*1)).toList=(List.replicate n (0:Int)).map (.int .i64):=by
  rw [List.map_replicate,List.eq_replicate_iff]
  refine ⟨by rw [Array.length_toList,size_madeCells,Nat.mul_one],fun b m=> ?_⟩
  simp only [madeCells,Array.toList_map,List.mem_map] at m
  obtain ⟨i,_,rfl⟩:=m
  show (#[Value.int .i64 0]:Array Value)[i % 1]! =_
  rw [Nat.mod_one];rfl
 rw [e] at r
 unfold OwnsZ
 rw [List.length_replicate]
 exact r
theorem ix_lt:∀(l:List (List UInt8)) (k:List UInt8),l≠[]→Tr.ix l k < l.length
 | [],_,h=> absurd rfl h
 | [_],_,_=> by simp [Tr.ix]
 | _::f::r,k,_=> by
  rw [Tr.ix]
  split
  ·simp
  ·have:=ix_lt (f::r) k (by simp)
   simp only [List.length_cons] at*
   omega
end Go.Proofs.YtolgpnaoaodepaaGreat
namespace Go.Proofs.YtolgpnaoaodepaaGreat
open Go.RowKit
structure Cnt (pl:List (ByteArray×Nat)) (ml:List (Int×ByteArray×ByteArray)) (j:Nat) (zs:List Int):Prop where
 n:zs.length=pl.length
 b:∀z∈zs,0≤z∧z≤j
 c:∀(i:Nat) (z:Int),zs[i]?=some z→0 < z→∃c∈ml,Tr.ix (pkeys pl) c.2.1.data.toList=i
 s:0 < j→∃z∈zs,0 < z
theorem Cnt.next {pl:List (ByteArray×Nat)} {ml:List (Int×ByteArray×ByteArray)} {j:Nat} {a:List Int} (h:Cnt pl ml j a) (i:Nat) (hi:i < a.length) (c:Int×ByteArray×ByteArray) (f:c∈ml) (g:Tr.ix (pkeys pl) c.2.1.data.toList=i):Cnt pl ml (j+1) (a.set i (a[i]'hi+1)):=by
 have l:=h.b _ (List.getElem_mem hi)
 refine ⟨by rw [List.length_set];exact h.n,fun z q=> ?_,fun k z q d=> ?_,fun _=> ⟨a[i]'hi+1,List.mem_set hi _,by omega⟩⟩
 ·rcases List.mem_or_eq_of_mem_set q with q | rfl
  ·have:=h.b z q;omega
  ·omega
 ·rw [List.getElem?_set] at q
  split at q
  ·next e=> exact ⟨c,f,by rw [g];exact e⟩
  ·exact h.c k z q d
set_option maxHeartbeats 1000000 in
set_option maxRecDepth 20000 in
theorem busiest_any (p:Nat) (V vp vc:Value) (pl:List (ByteArray×Nat)) (ml:List (Int×ByteArray×ByteArray)) (w:World) (hn:NodT w p V vp vc) (hp:OwnsP 0 w vp pl) (hc:OwnsC 0 w vc ml) (c1:pl.length≤20000000) (c2:ml.length≤20000000) (T:0 < pl.length) (b2:0 < ml.length):
  Calls Tryz.prog 172 #[.pointer (some ⟨p,0,none⟩)] w fun r w'=> (∃n:Nat,r= .returned (.int .i64 (n:Nat))∧n < pl.length∧∃c∈ml,Tr.ix (pkeys pl) c.2.1.data.toList=n)∧Below w.heap.size w w':=by
 obtain ⟨n0,n1,n2,-⟩:=hn.cells
 obtain ⟨ca,cc,rfl⟩:=rowShape hc
 obtain ⟨pa,pc,rfl⟩:=rowShape hp
 have U:=hid hn
 have HP:=hid hp
 have HC:=hid hc
 clear hn hp hc
 go_enter Tryz.func172,Tryz.ntmps172
 go_upto_region 2 with (refine wpMkN _ rfl (.tmp 10) (.tmp 10) rfl pl.length rfl rfl (by omega) ?_;intro w1 J K)
 have l:=hid K
 have W:=hid J
 have b3:w.heap.size < w1.heap.size:=(World.ownsRow.lt J _ rfl).2
 have M:NodT w1 p V (.slice pa pl.length pc) (.slice ca ml.length cc):=(K.block p U.out.lt).trans U.out
 obtain ⟨m0,m1,m2,-⟩:=M.cells
 clear J K M
 go_wp2_with fail
 go_loopw [17] (fun i wr=>∃(j:Nat) (k:List Int),j≤ml.length∧i= .int .i64 (j:Nat)∧Cnt pl ml j k∧OwnsZ w.heap.size wr (.slice (some ⟨w.heap.size,0,none⟩) pl.length pl.length) k∧Below w.heap.size w wr) (fun i _=> ml.length - (intOf i).toNat)
 case atStart=> exact ⟨0,List.replicate pl.length 0,Nat.zero_le _,rfl,⟨List.length_replicate ..,fun z I=> by rw [List.eq_of_mem_replicate I];omega,fun i z I h0=> by rw [List.getElem?_replicate] at I;split at I <;> simp at I;omega,fun h=> by omega⟩,W.out,l.out⟩
 case round=>
  obtain ⟨j,k,hj,rfl,t,R,u⟩:=hrel
  have v:=hid t
  have X:=hid R
  have Y:=hid u
  have Z:=u.size
  have a0:=t.n
  clear t R u
  by_cases L:j < ml.length
  ·obtain ⟨g,b7,e,b8,-,hg,d0,d1,d2⟩:=HC.out.at j L
   simp only [Value.slice.injEq] at e
   obtain ⟨rfl,-,rfl⟩:=e
   have y:=fun o=> Y.out.cell (p:=⟨g,o,none⟩) hg
   have a1:=(y _).trans d0
   have a2:=(y _).trans d1
   have a3:=(y _).trans d2
   clear y d0 d1 d2
   have a4:=hid (List.getElem_mem L)
   generalize ml[j]'L=c at*
   obtain ⟨G,a,H⟩:=c
   have l:=hid ((Below.refl wr.heap.size wr).alloc (Nat.le_refl _) (.cells #[.int .i64 G,.string a,.string H] 34))
   have A:=hid (Y.out.trans (l.out.mono Z))
   have a5:Hid (ChB (wr.alloc (.cells #[.int .i64 G,.string a,.string H] 34)) wr.heap.size G a H):=heap_alloc_new _ _
   have F:Hid (OwnsZ w.heap.size (wr.alloc (.cells #[.int .i64 G,.string a,.string H] 34)) (.slice (some ⟨w.heap.size,0,none⟩) pl.length pl.length) k):=row_below X.out l.out (Nat.le_refl _)
   have N:Hid (NodT (wr.alloc (.cells #[.int .i64 G,.string a,.string H] 34)) p V (.slice pa pl.length pc) (.slice (some ⟨g,0,none⟩) ml.length cc)):=(A.out.block p U.out.lt).trans U.out
   have O:Hid (OwnsP 0 (wr.alloc (.cells #[.int .i64 G,.string a,.string H] 34)) (.slice pa pl.length pc) pl):=row_below HP.out A.out (Nat.le_refl _)
   have b5:Tr.ix (pkeys pl) a.data.toList < pl.length:=by
    have:=ix_lt (pkeys pl) a.data.toList (by intro q;unfold pkeys at q;rw [List.map_eq_nil_iff] at q;rw [q] at T;simp at T)
    simpa [pkeys] using this
   go_wp2_with fail
   refine (tFind_any p 0 V _ _ pl a _ N.out O.out (by omega)).mono ?_
   rintro r w2 ⟨rfl,C⟩
   rw [←C] at a5 F A
   clear C l N O a1 a2 a3
   have B:Hid (Tr.ix (pkeys pl) a.data.toList=Tr.ix (pkeys pl) a.data.toList):=rfl
   generalize E:Tr.ix (pkeys pl) a.data.toList=d at*
   have a6:=hid E
   clear E B
   obtain ⟨g',b4,e',b9,-,-,y0,y1⟩:=F.out.at d (by omega)
   simp only [Value.slice.injEq,Option.some.injEq,Addr.mk.injEq,and_true] at e'
   obtain ⟨rfl,-,rfl⟩:=e'
   have f:d < k.length:=by omega
   have b6:=v.out.b _ (List.getElem_mem f)
   have a7:=hid (v.out.next d f (G,a,H) a4.out a6.out)
   have a8:Hid (OwnsZ w.heap.size (w2.setCell ⟨w.heap.size,d,none⟩ (.int .i64 (k[d]'f+1))) (.slice (some ⟨w.heap.size,0,none⟩) pl.length pl.length) (k.set d (k[d]'f+1))):=by
    have:=F.out
    rw [←a0] at this ⊢
    exact OwnsZ.set this d f _
   generalize k[d]'f=zv at*
   have a9:Hid (Below w.heap.size w (w2.setCell ⟨w.heap.size,d,none⟩ (.int .i64 (zv+1)))):=A.out.setCell (p:=⟨w.heap.size,d,none⟩) (Nat.le_refl _) _
   go_wp2_with fail
   go_roundw
   case rel=> exact ⟨j+1,_,by omega,by go_num,a7.out,a8.out,a9.out⟩
   case measure=> simp [intOf];omega
  ·have b0:j=ml.length:=by omega
   subst b0
   have P:=hid (maxN_any w.heap.size _ k wr X.out (by omega) (by omega))
   have B:Hid (∀x∈k,Calls Tryz.prog 222 #[.slice (some ⟨w.heap.size,0,none⟩) pl.length pl.length,.int .i64 x] wr (IdxQ k x wr)):=fun x hx=> indexN_any w.heap.size _ k x wr X.out hx (by omega)
   go_wp2_with fail
   refine P.out.mono ?_
   rintro r w2 ⟨m,rfl,S,D,C⟩
   subst C
   have HI:=hid (B.out m S)
   have Q:Hid (∀i:Nat,k[i]?=some m→i < pl.length∧∃c∈ml,Tr.ix (pkeys pl) c.2.1.data.toList=i):=fun i hi=> by
    obtain ⟨z,I,c0⟩:=v.out.s b2
    have h1:=D z I
    have h2:i < k.length:=(List.getElem?_eq_some_iff.1 hi).1
    exact ⟨by omega,v.out.c i m hi (by omega)⟩
   clear P B S D
   go_wp2_with fail
   refine HI.out.mono ?_
   rintro r w3 ⟨i,rfl,hi,b1⟩
   subst b1
   have HF:=hid (Q.out i hi)
   clear HI Q hi
   go_wp2_with fail
   go_ret
   exact ⟨⟨i,rfl,HF.out⟩,Y.out⟩
end Go.Proofs.YtolgpnaoaodepaaGreat
namespace Go.Proofs.YtolgpnaoaodepaaGreat.Tr
theorem sh_map {α β:Type} (f:α→β):∀(k:Nat) (l:List α),sh k (l.map f)=(sh k l).map (List.map f)
 | 0,_=> rfl
 | k+1,l=> by rw [sh,sh,List.map_cons,List.length_map,←sh_map f k,List.map_take,List.map_drop]
theorem shares_map {α β:Type} (f:α→β) (l:List α) (m:Nat):shares (l.map f) m=(shares l m).map (List.map f):=by
 unfold shares;rw [List.length_map,sh_map]
def lkey (l:List It):Key:=(l.head?.map (·.1)).getD []
def lparts (ls:List (List It)):List (Key×TreeT 0):=ls.map fun l=> (lkey l,(l:TreeT 0))
def leafParts (f:Key):List (List It)→List (Key×TreeT 0)
 | []=> []
 | l::r=> (f,(l:TreeT 0))::lparts r
end Go.Proofs.YtolgpnaoaodepaaGreat.Tr
namespace Go.Proofs.YtolgpnaoaodepaaGreat
open Go.RowKit
structure LfM (w:World) (B:Nat) (pl:List (ByteArray×Nat)) (vs:List Value) (ls:List (List (ByteArray×ByteArray))):Prop where
 n:pl.length≤vs.length
 m:vs.length=ls.length
 nod:∀i (h:i < pl.length) (h':i < vs.length),NodT w (pl[i]'h).2 (vs[i]'(h')) (.slice none 0 0) (.slice none 0 0)
 key:∀i (h:i < pl.length) (h':i < ls.length),(pl[i]'h).1.data.toList=Tr.lkey (plain (ls[i]'(h')))
 inc:(pl.map (·.2)).Pairwise (·< ·)
 low:∀x∈pl,B≤x.2
theorem LfM.keep {w w':World} {B:Nat} {pl:List (ByteArray×Nat)} {vs:List Value} {ls:List (List (ByteArray×ByteArray))} (h:LfM w B pl vs ls) {F:Nat→Prop} (m:Mod F w w') (b:∀x∈pl,¬F x.2):LfM w' B pl vs ls:=
 ⟨h.n,h.m,fun i hi a=> m.nod (h.nod i hi a) (b _ (List.getElem_mem hi)),h.key,h.inc,h.low⟩
theorem LfM.snoc {w:World} {B:Nat} {pl:List (ByteArray×Nat)} {vs:List Value} {ls:List (List (ByteArray×ByteArray))} (h:LfM w B pl vs ls) (x:ByteArray×Nat) (g:pl.length < vs.length) (k:NodT w x.2 (vs[pl.length]'g) (.slice none 0 0) (.slice none 0 0)) (l:x.1.data.toList=Tr.lkey (plain (ls[pl.length]'(by rw [←h.m];exact g)))) (n:∀y∈pl,y.2 < x.2) (o:B≤x.2):LfM w B (pl++[x]) vs ls:=by
 refine ⟨by simp;omega,h.m,fun i hi c=> ?_,fun i hi c=> ?_,?_,fun y d=> ?_⟩
 ·by_cases q:i < pl.length
  ·rw [List.getElem_append_left q];exact h.nod i q c
  ·have e:i=pl.length:=by simp at hi;omega
   subst e
   simpa using k
 ·by_cases q:i < pl.length
  ·rw [List.getElem_append_left q];exact h.key i q c
  ·have e:i=pl.length:=by simp at hi;omega
   subst e
   simpa using l
 ·rw [List.map_append]
  refine List.pairwise_append.2 ⟨h.inc,by simp,fun a j b f=> ?_⟩
  obtain ⟨y,d,rfl⟩:=List.mem_map.1 j
  simp at f;subst f
  exact n y d
 ·rcases List.mem_append.1 d with q | q
  ·exact h.low y q
  ·simp at q;subst q;exact o
theorem kids_leaf {w:World}:∀{pl:List (ByteArray×Nat)} {vs:List Value} {ls:List (List (ByteArray×ByteArray))} (_:pl.length=vs.length) (_:vs.length=ls.length) (_:∀i (h:i < pl.length) (a:i < vs.length),NodT w (pl[i]'h).2 (vs[i]'a) (.slice none 0 0) (.slice none 0 0)) (_:∀i (h:i < vs.length) (a:i < ls.length),OwnsI 0 w (vs[i]'h) (ls[i]'a)) (_:∀i (h:i < pl.length) (a:i < ls.length),(pl[i]'h).1.data.toList=Tr.lkey (plain (ls[i]'a))),Kids (Rep 0 w) pl (Tr.lparts (ls.map plain)) ((pl.zip vs).flatMap fun x=> x.1.2::blk x.2)
 | [],[],[],_,_,_,_,_=> rfl
 | x::pl,v::vs,l::ls,h1,h2,hn,ho,hk=>
  ⟨hk 0 (by simp) (by simp),_,_,⟨v,l,hn 0 (by simp) (by simp),ho 0 (by simp) (by simp),rfl,rfl⟩,kids_leaf (by simpa using h1) (by simpa using h2) (fun i h a=> hn (i+1) (by simpa using h) (by simpa using a)) (fun i h a=> ho (i+1) (by simpa using h) (by simpa using a)) (fun i h a=> hk (i+1) (by simpa using h) (by simpa using a)),by simp⟩
 | [],_::_,_,h1,_,_,_,_=> by simp at h1
 | _::_,[],_,h1,_,_,_,_=> by simp at h1
 | [],[],_::_,_,h2,_,_,_=> by simp at h2
 | _::_,_::_,[],_,h2,_,_,_=> by simp at h2
theorem nodup_leaf {C:Nat}:∀{pl:List (ByteArray×Nat)} {vs:List Value},(pl.map (·.2)).Pairwise (·< ·)→(vs.Pairwise fun u v=>∀g,u.ownBlock=some g→v.ownBlock≠some g)→(∀x∈pl,C≤x.2)→(∀v∈vs,∀g,v.ownBlock=some g→g < C)→((pl.zip vs).flatMap fun x=> x.1.2::blk x.2).Nodup
 | [],_,_,_,_,_=> by simp
 | _::_,[],_,_,_,_=> by simp
 | x::pl,v::vs,h1,h2,h3,h4=> by
  rw [List.zip_cons_cons,List.flatMap_cons]
  have c:=List.pairwise_cons.1 h1
  have d:=List.pairwise_cons.1 h2
  have n:=nodup_leaf (C:=C) c.2 d.2 (fun y j=> h3 y (List.mem_cons_of_mem _ j)) (fun u k=> h4 u (List.mem_cons_of_mem _ k))
  have s:=h3 x (List.mem_cons_self ..)
  refine List.nodup_append.2 ⟨List.nodup_cons.2 ⟨fun q=> ?_,blk_nodup v⟩,n,fun a l b r e=> ?_⟩
  ·have h:x.2 < C:=h4 v (List.mem_cons_self ..) _ (mem_blk.1 q)
   omega
  ·subst e
   obtain ⟨⟨y,u⟩,i,m⟩:=List.mem_flatMap.1 r
   have j:=(List.of_mem_zip i).1
   have k:=(List.of_mem_zip i).2
   rcases List.mem_cons.1 l with rfl | l
   ·rcases List.mem_cons.1 m with q | q
    ·have h:x.2 < y.2:=c.1 y.2 (List.mem_map.2 ⟨y,j,rfl⟩)
     have o:x.2=y.2:=q
     omega
    ·have h:x.2 < C:=h4 u (List.mem_cons_of_mem _ k) _ (mem_blk.1 q)
     omega
   ·have f:=mem_blk.1 l
    have p:=h4 v (List.mem_cons_self ..) _ f
    rcases List.mem_cons.1 m with q | q
    ·have h:C≤y.2:=h3 y (List.mem_cons_of_mem _ j)
     have o:a=y.2:=q
     omega
    ·exact d.1 u k a f (mem_blk.1 q)
theorem OwnsP.setKey {B:Nat} {w:World} {g a:Nat} {x:ByteArray×Nat} {pl:List (ByteArray×Nat)} (h:OwnsP B w (.slice (some ⟨g,0,none⟩) (x::pl).length a) (x::pl)) (b:ByteArray):OwnsP B (w.setCell ⟨g,0,none⟩ (.string b)) (.slice (some ⟨g,0,none⟩) (x::pl).length a) ((b,x.2)::pl):=by
 rcases h.2 with ⟨_,k⟩ | ⟨p,j,c,e,l,m,n,o,d,f⟩
 ·simp at k
 ·simp only [Value.slice.injEq,Option.some.injEq,Addr.mk.injEq,and_true,true_and] at e
  obtain ⟨rfl,rfl⟩:=e
  refine ⟨by rw [pcells_len],.inr ⟨g,a,c.setIfInBounds 0 (.string b),rfl,l,?_,n,o,by simpa using d,?_⟩⟩
  ·rw [heap_setCell_at (i:=0) m]
  ·rw [Array.toList_setIfInBounds]
   show List.take ((x::pl).length*2) _=_
   rw [List.take_set,f];rfl
end Go.Proofs.YtolgpnaoaodepaaGreat
