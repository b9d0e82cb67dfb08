import Derived.Test.YtolgpnaoaodepaaGreatScaFm
import Derived.Deep.DeepCutAuto
import Derived.Lib.QuietBelow
import Derived.Test.YtolgpnaoaodepaaGreatAidBm
import Derived.Test.YtolgpnaoaodepaaGreatTreCm
import Derived.Test.YtolgpnaoaodepaaGreatScaMm
import Derived.BigQuiet
namespace Go.Proofs.YtolgpnaoaodepaaGreat
open Go.RowKit
set_option maxHeartbeats 2000000 in
set_option maxRecDepth 4000 in
theorem insSort_any (v:Value) (ml:List (Int×ByteArray×ByteArray)) (w:World) (h:OwnsC 0 w v ml) (hl:ml.length≤1000):
  Calls Tryz.prog 272 #[v,.int .i64 0,.int .i64 (ml.length:Nat),.func (.func 240) #[] #[]] w fun r w'=> r= .returned (.tuple #[])∧∃l,SrM w v ml l w'∧Tr.Rise (plainCh l):=by
 have H0:Hid (SrM w v ml ml w):=⟨h,Tr.Stb.refl _,Mod.of_below (Below.refl _ w)⟩
 obtain ⟨a,c,rfl⟩:=rowShape h
 clear h
 go_enter Tryz.func272,Tryz.ntmps272
 go_wp2_with fail
 go_loopw [8] (fun vi wr=>∃i l,vi= .int .i64 (i:Nat)∧1≤i∧i≤1001∧SrM w (.slice a ml.length c) ml l wr∧Tr.RiseTo (Hp.nth (0,[],[]) (plainCh l)) i) (fun vi _=> 1001 - (intOf vi).toNat)
 case atStart=> exact ⟨1,ml,rfl,Nat.le_refl _,by decide,H0.out,fun x y h1 h2=> by omega⟩
 case round=>
  obtain ⟨i,M,rfl,e3,e4,hS,hR⟩:=hrel
  have Q:=hS.len
  have HS:=hid hS
  have HR:=hid hR
  clear hS hR
  by_cases e7:i < ml.length
  ·have R:(i:Int) < (ml.length:Int):=by omega
   obtain ⟨g,e5,e,d5,-,hg,-,-,-⟩:=HS.out.row.at i (by omega)
   simp only [Value.slice.injEq] at e
   obtain ⟨rfl,-,rfl⟩:=e
   have a3:Hid (Tr.InsI (Hp.nth (0,[],[]) (plainCh M)) i i):=Tr.InsI.start HR.out
   go_wp2_with fail
   go_loopw [9] (fun vj wr=>∃j l,vj= .int .i64 (j:Nat)∧j≤i∧SrM w (.slice (some ⟨g,0,none⟩) ml.length c) ml l wr∧Tr.InsI (Hp.nth (0,[],[]) (plainCh l)) i j) (fun vj _=> (intOf vj).toNat)
   case atStart=> exact ⟨i,M,rfl,Nat.le_refl _,HS.out,a3.out⟩
   case round=>
    obtain ⟨j,b,rfl,b9,N,Y⟩:=hrel
    have a4:=N.len
    have s:=hid N
    have J:=hid Y
    clear N Y
    cases j with
    | zero=>
     have HD:Hid (Tr.RiseTo (Hp.nth (0,[],[]) (plainCh b)) (i+1)):=J.out.done (.inl rfl)
     go_upto_region 4 with fail
     go_quiet (fail)
     have f:Hid (SrM w (.slice (some ⟨g,0,none⟩) ml.length c) ml b (wr.drewN nq)):=s.out.below (below_drewN (Below.refl _ _) _)
     go_wp2_with fail
     exact ⟨⟨i+1,b,by go_num,by omega,by omega,f.out,HD.out⟩,by simp [intOf];omega⟩
    | succ j=>
     have o:j+1 < b.length:=by omega
     have p:j < b.length:=by omega
     obtain ⟨g1,n,e,c2,-,e6,d0,d1,d2⟩:=s.out.row.at (j+1) o
     simp only [Value.slice.injEq,Option.some.injEq,Addr.mk.injEq,and_true] at e
     obtain ⟨rfl,-,rfl⟩:=e
     obtain ⟨g1,n,e,-,-,-,e0,e1,e2⟩:=s.out.row.at j p
     simp only [Value.slice.injEq,Option.some.injEq,Addr.mk.injEq,and_true] at e
     obtain ⟨rfl,-,rfl⟩:=e
     obtain ⟨c1,B⟩:∃c1,b[j+1]'o=c1:=⟨_,rfl⟩
     obtain ⟨c0,C⟩:∃c0,b[j]'p=c0:=⟨_,rfl⟩
     rw [B] at d0 d1 d2
     rw [C] at e0 e1 e2
     have S:=hid B
     have T:=hid C
     have K:=hid (plainCh_nth b o)
     have L:=hid (plainCh_nth b p)
     rw [B] at K
     rw [C] at L
     clear B C
     obtain ⟨k1,P,x1⟩:=c1
     obtain ⟨G,t,H⟩:=c0
     have HO:=hid (fun W=> order_any k1 G P x1 t H W)
     have d6:IntKind.i64.wrap ((j:Int)+1 - 1)=(j:Int):=by rw [IntKind.wrap_i64];omega
     have d7:IntKind.i64.wrap (((j+1:Nat):Int) - 1)=(j:Int):=by rw [IntKind.wrap_i64];omega
     have CN:∀W,Calls Tryz.prog 240 #[.agg #[.int .i64 k1,.string P,.string x1],.agg #[.int .i64 G,.string t,.string H]] W fun r w'=> r= .returned (.int .i64 (Lib.compareBytes P.data.toList t.data.toList))∧Below W.heap.size W w':=fun W=> HO.out W
     have d8:IntKind.i64.wrap (j:Int)=(j:Int):=by rw [IntKind.wrap_i64];omega
     have b1:(j:Int)+1 < (ml.length:Int):=by omega
     have b2:(0:Int)≤(j:Int)+1:=by omega
     have b3:((j:Int)+1).toNat=j+1:=by omega
     have b4:j < ml.length:=by omega
     have b5:j+1 < ml.length:=by omega
     have a5:=fun (d:Nat) (A:Array Obj)=> cell_regrown d0 d A
     have a6:=fun (d:Nat) (A:Array Obj)=> cell_regrown d1 d A
     have a7:=fun (d:Nat) (A:Array Obj)=> cell_regrown d2 d A
     have a8:=fun (d:Nat) (A:Array Obj)=> cell_regrown e0 d A
     have a9:=fun (d:Nat) (A:Array Obj)=> cell_regrown e1 d A
     have b0:=fun (d:Nat) (A:Array Obj)=> cell_regrown e2 d A
     have U:=hid (cmp_neg P.data.toList t.data.toList)
     generalize Lib.compareBytes P.data.toList t.data.toList=q at*
     go_upto_region 4 with fail
     refine wp_region_quiet_below (by kernel_rfl) (by kernel_rfl) ?_
     repeat (quiet_step (exact Calls.regrown_of (CN _)))
     refine wpQuiet_nil ?_
     intro wx d3
     obtain ⟨⟨dq,c3⟩,I⟩:=d3
     have f:=hid (s.out.below (I▸below_regrown _ dq c3))
     clear I
     clear a5 a6 a7 a8 a9 b0
     by_cases hq:q < 0
     ·have b6:decide (q < 0)=true:=decide_eq_true hq
      have V:=U.out.1 hq
      obtain ⟨O,Z⟩:=f.out.swap j o p T.out S.out V
      have b7:Hid (Tr.InsI (Hp.nth (0,[],[]) (plainCh ((b.set (j+1) (G,t,H)).set j (k1,P,x1)))) i j):=by
       have h1:=J.out.step b9 (by rw [K.out,L.out];exact V)
       rw [Z,show Hp.nth (0,[],[]) (Hp.swL (0,[],[]) (plainCh b) j (j+1))=Hp.swp (Hp.nth (0,[],[]) (plainCh b)) j (j+1) from funext fun k=> Hp.swL_nth _ _ (by rw [plainCh_len];omega) (by rw [plainCh_len];omega) k]
       exact h1
      unfold sw6 at O
      have b8:=hid O
      obtain ⟨g1,n,e,-,-,-,c4,c5,c6⟩:=f.out.row.at (j+1) o
      simp only [Value.slice.injEq,Option.some.injEq,Addr.mk.injEq,and_true] at e
      obtain ⟨rfl,-,-⟩:=e
      obtain ⟨g1,n,e,-,-,-,c7,c8,c9⟩:=f.out.row.at j p
      simp only [Value.slice.injEq,Option.some.injEq,Addr.mk.injEq,and_true] at e
      obtain ⟨rfl,-,-⟩:=e
      rw [S.out] at c4 c5 c6
      rw [T.out] at c7 c8 c9
      have d9:=f.out.row.froz (by omega)
      have m:=OwnsC.set f.out.row (j+1) o (G,t,H)
      have d4:=m.froz (by rw [List.length_set];omega)
      have X:j < (b.set (j+1) (G,t,H)).length:=by rw [List.length_set];exact p
      obtain ⟨g1,n,e,-,-,-,a0,a1,a2⟩:=m.at j X
      simp only [Value.slice.injEq,Option.some.injEq,Addr.mk.injEq,and_true] at e
      obtain ⟨rfl,-,-⟩:=e
      have D:∃u,(((wx.setCell ⟨g,(j+1)*3,none⟩ (.int .i64 G)).setCell ⟨g,(j+1)*3+1,none⟩ (.string t)).setCell ⟨g,(j+1)*3+2,none⟩ (.string H)).cell? ⟨g,j*3,none⟩=some u:=⟨_,a0⟩
      have E:∃u,(((wx.setCell ⟨g,(j+1)*3,none⟩ (.int .i64 G)).setCell ⟨g,(j+1)*3+1,none⟩ (.string t)).setCell ⟨g,(j+1)*3+2,none⟩ (.string H)).cell? ⟨g,j*3+1,none⟩=some u:=⟨_,a1⟩
      have F:∃u,(((wx.setCell ⟨g,(j+1)*3,none⟩ (.int .i64 G)).setCell ⟨g,(j+1)*3+1,none⟩ (.string t)).setCell ⟨g,(j+1)*3+2,none⟩ (.string H)).cell? ⟨g,j*3+2,none⟩=some u:=⟨_,a2⟩
      obtain ⟨u0,D⟩:=D
      obtain ⟨u1,E⟩:=E
      obtain ⟨u2,F⟩:=F
      clear O Z m a0 a1 a2 X d0 d1 d2 e0 e1 e2 s f
      go_upto_region 6 with fail
      go_region_law (fail)
      all_goals
       go_wp2_with fail
       exact ⟨⟨j,_,rfl,by omega,b8.out,b7.out⟩,by simp [intOf]⟩
     ·have b6:decide (q < 0)=false:=decide_eq_false hq
      have HD:Hid (Tr.RiseTo (Hp.nth (0,[],[]) (plainCh b)) (i+1)):=J.out.done (.inr (by
       show ¬(Hp.nth (0,[],[]) (plainCh b) (j+1)).2.1 < (Hp.nth (0,[],[]) (plainCh b) j).2.1
       rw [K.out,L.out];exact fun z=> hq (U.out.2 z)))
      go_wp2_with fail
      exact ⟨⟨i+1,b,by go_num,by omega,by omega,f.out,HD.out⟩,by simp [intOf];omega⟩
  ·have R:¬((i:Int) < (ml.length:Int)):=by omega
   have HF:Hid (Tr.Rise (plainCh M)):=Tr.RiseTo.rise (d:=(0,[],[])) fun x y h1 h2=> HR.out x y h1 (by rw [plainCh_len,Q] at h2;omega)
   go_wp2_with fail
   go_end0
   exact ⟨rfl,_,HS.out,HF.out⟩
end Go.Proofs.YtolgpnaoaodepaaGreat
namespace Go.Proofs.YtolgpnaoaodepaaGreat
open Go.RowKit
set_option maxHeartbeats 400000 in
theorem stable_any (v:Value) (ml:List (Int×ByteArray×ByteArray)) (w:World) (h:OwnsC 0 w v ml) (m:ml.length≤19):
  Calls Tryz.prog 264 #[v,.int .i64 (ml.length:Nat),.func (.func 240) #[] #[]] w fun r w'=> r= .returned (.tuple #[])∧∃a,SrM w v ml a w'∧Tr.Rise (plainCh a):=by
 have b:=hid (insSort_any v ml w h (by omega))
 have i:¬((20:Int)≤(ml.length:Int)):=by omega
 have j:¬((20:Int) < (ml.length:Int)):=by omega
 have k:¬(20≤ml.length):=by omega
 have l:¬(20 < ml.length):=by omega
 clear h
 go_enter Tryz.func264,Tryz.ntmps264
 go_wp2_with fail
 go_loopw [7,8] (fun f g wr=> f= .int .i64 0∧g= .int .i64 20∧wr=w) (fun _ _ _=> 0)
 case atStart=> exact ⟨rfl,rfl,rfl⟩
 case round=>
  obtain ⟨rfl,rfl,rfl⟩:=hrel
  go_wp2_with fail
  refine b.out.mono ?_
  rintro r e ⟨rfl,c⟩
  have d:=hid c
  clear c b
  go_wp2_with fail
  go_loopw [6] (fun v6 wr=> v6= .int .i64 20∧wr=e) (fun _ _=> 0)
  case atStart=> exact ⟨rfl,rfl⟩
  case round=>
   obtain ⟨rfl,rfl⟩:=hrel
   go_wp2_with fail
   go_end0
   exact ⟨rfl,d.out⟩
set_option maxHeartbeats 400000 in
theorem sortStable_any (v:Value) (ml:List (Int×ByteArray×ByteArray)) (w:World) (h:OwnsC 0 w v ml) (g:ml.length≤19):
  Calls Tryz.prog 239 #[v,.func (.func 240) #[] #[]] w fun r w'=> r= .returned (.tuple #[])∧∃b,SrM w v ml b w'∧Tr.Rise (plainCh b):=by
 have d:=hid (stable_any v ml w h g)
 obtain ⟨a,c,rfl⟩:=rowShape h
 clear h
 go_enter Tryz.func239,Tryz.ntmps239
 go_wp2_with fail
 refine d.out.mono ?_
 rintro r i ⟨rfl,e⟩
 have f:=hid e
 clear e d
 go_wp2_with fail
 go_end0
 exact ⟨rfl,f.out⟩
end Go.Proofs.YtolgpnaoaodepaaGreat
namespace Go.Proofs.YtolgpnaoaodepaaGreat
open Go.RowKit
theorem row_lift {w:World} {B:Nat} {e:TypeId} {s n:Nat} {v:Value} {xs:List Value} (h:w.ownsRow 0 e s v n xs) (l:∀g,v.ownBlock=some g→B≤g):w.ownsRow B e s v n xs:=by
 rcases h.2 with ⟨rfl,f⟩ | ⟨g,a,b,rfl,_,i,j,k,c,d⟩
 ·exact ⟨h.1,.inl ⟨rfl,f⟩⟩
 ·exact ⟨h.1,.inr ⟨g,a,b,rfl,l g rfl,i,j,k,c,d⟩⟩
theorem Mod.below {F:Nat→Prop} {w w':World} {B:Nat} (h:Mod F w w') (c:B≤w.heap.size) (a:∀k,F k→B≤k):Below B w w':=⟨h.os,h.tape,h.output,h.size,fun k b=> h.block k (by omega) (fun q=> by have:=a k q;omega)⟩
theorem cell_blk {w:World} {b:Nat} {a:Array Value} {T:TypeId} (h:w.heap[b]?=some (.cells a T (0,0))) (i:Nat):w.cell? ⟨b,i,none⟩=a[i]?:=by unfold World.cell?;simp [h]
def putC (x:ByteArray×ByteArray):Int×ByteArray×ByteArray:=(1,x.1,x.2)
structure CfM (w:World) (fr:ByteArray) (v:Value) (ml:List (Int×ByteArray×ByteArray)) (wr:World):Prop where
 row:OwnsC 0 wr v ml
 new:∀g,v.ownBlock=some g→w.heap.size≤g
 box:wr.heap[w.heap.size]?=some (.cells #[.string fr] 9 (0,0))
 bel:Below w.heap.size w wr
theorem CfM.ne {w:World} {d:ByteArray} {v:Value} {ml:List (Int×ByteArray×ByteArray)} {wr:World} (h:CfM w d v ml wr):v.ownBlock≠some w.heap.size:=fun e=> by
 rcases h.row.2 with ⟨rfl,_⟩ | ⟨g,b,c,rfl,f,a,_⟩
 ·simp [Value.ownBlock] at e
 ·have:g=w.heap.size:=by simpa [Value.ownBlock] using e
  rw [this,h.box] at a
  simp at a
theorem CfM.grown {w:World} {f:ByteArray} {v c:Value} {ml a:List (Int×ByteArray×ByteArray)} {wr w':World} (h:CfM w f v ml wr) (j:OwnsC 0 w' c a) (i:Mod (fun k=> v.ownBlock=some k) wr w') (l:c.ownBlock=v.ownBlock∨∃k,wr.heap.size≤k∧c.ownBlock=some k):CfM w f c a w':=by
 refine ⟨j,fun g b=> ?_,?_,h.bel.trans (i.below h.bel.size h.new)⟩
 ·rcases l with e | ⟨k,m,e⟩
  ·rw [e] at b;exact h.new g b
  ·rw [e] at b;have:=Option.some.inj b;have:=h.bel.size;omega
 ·have d:w.heap.size < wr.heap.size:=(Array.getElem?_eq_some_iff.1 h.box).1
  exact (i.block _ d h.ne).trans h.box
theorem CfM.below {w:World} {c:ByteArray} {v:Value} {ml:List (Int×ByteArray×ByteArray)} {wr w':World} (h:CfM w c v ml wr) (b:Below wr.heap.size wr w'):CfM w c v ml w':=by
 have a:w.heap.size < wr.heap.size:=(Array.getElem?_eq_some_iff.1 h.box).1
 exact ⟨row_below h.row b (Nat.le_refl _),h.new,(b.block _ a).trans h.box,h.bel.trans (b.mono h.bel.size)⟩
set_option maxHeartbeats 1000000 in
set_option maxRecDepth 4000 in
theorem changesFrom_any (p:Nat) (z vp vc:Value) (il:List (ByteArray×ByteArray)) (ml:List (Int×ByteArray×ByteArray)) (a:ByteArray) (w:World) (W:NodT w p z vp vc) (hi:OwnsI 0 w z il) (hc:OwnsC 0 w vc ml) (hl:il.length+ml.length≤19):
  Calls Tryz.prog 187 #[.pointer (some ⟨p,0,none⟩),.string a] w fun r w'=>∃v R,r= .returned v∧OwnsC w.heap.size w' v R∧Tr.Scd a.data.toList (plainCh (il.map putC++ml)) (plainCh R)∧Below w.heap.size w w':=by
 obtain ⟨a0,c0,rfl⟩:=rowShape hi
 obtain ⟨T,U,rfl⟩:=rowShape hc
 have m:Below w.heap.size w (w.alloc (.cells #[.string a] 9)):=(Below.refl _ w).alloc (Nat.le_refl _) _
 have H0:Hid (CfM w a (.slice none 0 0) [] (w.alloc (.cells #[.string a] 9))):=⟨World.ownsRow_nil _ _ _ _,fun g hg=> by simp [Value.ownBlock] at hg,heap_alloc_new _ _,m⟩
 have HN:=hid W
 have HI:=hid hi
 have HC:=hid hc
 have A:NodT (w.alloc (.cells #[.string a] 9)) p (.slice a0 il.length c0) vp (.slice T ml.length U):=(m.block p W.lt).trans W
 obtain ⟨n0,n1,n2,-⟩:=A.cells
 clear W hi hc m A
 go_enter Tryz.func187,Tryz.ntmps187
 go_wp2_with fail
 go_loopw [5,13] (fun v5 z wr=>∃j:Nat,z= .int .i64 (j:Nat)∧j≤il.length∧CfM w a v5 ((il.take j).map putC) wr) (fun _ z _=> il.length - (intOf z).toNat)
 case atStart=> exact ⟨0,rfl,Nat.zero_le _,H0.out⟩
 case round=>
  obtain ⟨j,rfl,hj,d⟩:=hrel
  have S:=hid d
  have a6:=d.bel.size
  clear d n0 n1 n2
  by_cases h:j < il.length
  ·obtain ⟨g,b0,e,b1,-,hg,d0,d1⟩:=HI.out.at j h
   simp only [Value.slice.injEq] at e
   obtain ⟨rfl,-,rfl⟩:=e
   have n:=fun o=> S.out.bel.cell (p:=⟨g,o,none⟩) hg
   have a7:=(n _).trans d0
   have a8:=(n _).trans d1
   have X:Hid ((il.take (j+1)).map putC=(il.take j).map putC++[putC (il[j]'h)]):=by
    show _=_
    rw [List.take_add_one,List.getElem?_eq_getElem h,List.map_append];rfl
   clear n d0 d1
   generalize il[j]'h=it at*
   obtain ⟨k,l⟩:=it
   have B:Below wr.heap.size wr (wr.alloc (.cells #[.string k,.string l] 51)):=(Below.refl _ wr).alloc (Nat.le_refl _) _
   have s:=hid (S.out.below B)
   have Y:(wr.alloc (.cells #[.string k,.string l] 51)).heap[wr.heap.size]?=some (.cells #[.string k,.string l] 51 (0,0)):=heap_alloc_new _ _
   have y0:(wr.alloc (.cells #[.string k,.string l] 51)).cell? ⟨wr.heap.size,0,none⟩=some (.string k):=cell_blk Y 0
   have y1:(wr.alloc (.cells #[.string k,.string l] 51)).cell? ⟨wr.heap.size,1,none⟩=some (.string l):=cell_blk Y 1
   have a9:((il.take j).map putC).length≤19:=by rw [List.length_map,List.length_take];omega
   clear B Y
   go_wp2_with (at_builtin;refine wpApG (wr.alloc (.cells #[.string k,.string l] 51)) rfl (.tmp 17) (.tmp 23) 77 34 Tryz.underlying77 _ 3 40 info_change rfl (by decide) (by decide) rfl 0 u5 _ _ rfl s.out.row [.int .i64 1,.string k,.string l] rfl (by intro u hu;simp at hu;rcases hu with rfl | rfl | rfl <;> rfl) (by simp [Act.eval]) (by omega) (Nat.zero_le _) ?_;intro v2 w2 O P Q)
   have Z:Hid (CfM w a v2 ((il.take (j+1)).map putC) w2):=by
    refine s.out.grown ?_ (Mod.of_grown P) Q
    rw [X.out]
    unfold OwnsC
    rw [List.length_append,ccells_one]
    exact O
   clear O P Q s
   go_wp2_with fail
   exact ⟨⟨j+1,by go_num,by omega,Z.out⟩,by simp [intOf];omega⟩
  ·have a2:j=il.length:=by omega
   subst a2
   rw [List.take_length] at S
   have d:=S.out
   obtain ⟨a5,c5,rfl⟩:=rowShape d.row
   have C:NodT wr p (.slice a0 il.length c0) vp (.slice T ml.length U):=(d.bel.block p HN.out.lt).trans HN.out
   have D:OwnsC 0 wr (.slice T ml.length U) ml:=row_below HC.out d.bel (Nat.le_refl _)
   obtain ⟨v6,V,e6,o6,g6,k6⟩:=run_rows wr 77 77 34 Tryz.underlying77 _ 3 40 info_change rfl (by decide) (by decide) (.slice a5 (il.map putC).length c5) (.slice T ml.length U) (il.map putC).length ml.length (ccells (il.map putC)) (ccells ml) d.row D (one_ccells ml) (by simp;omega)
   have b:CfM w a v6 (il.map putC++ml) V:=by
    refine d.grown ?_ (Mod.of_grown g6) (k6.imp id fun q=> ⟨_,Nat.le_refl _,q⟩)
    unfold OwnsC
    rw [List.length_append,show ccells (il.map putC++ml)=ccells (il.map putC)++ccells ml by unfold ccells;simp]
    exact o6
   have E:=hid e6
   obtain ⟨n0,n1,n2,-⟩:=C.cells
   have i:w.heap.size < V.heap.size:=(Array.getElem?_eq_some_iff.1 b.box).1
   have F:V.cell? ⟨w.heap.size,0,none⟩=some (.string a):=by simp [World.cell?,b.box]
   have t:=hid (deleteFunc_any v6 (il.map putC++ml) a w.heap.size V b.row (by simp;omega) F i b.ne)
   have a3:Hid (aheadF w.heap.size= .func (.func 238) #[] #[.pointer (some ⟨w.heap.size,0,none⟩)]):=rfl
   rw [a3.out] at t
   have a4:=hid b
   clear d C D e6 o6 g6 k6 b F i
   rw [List.length_map] at E ⊢
   go_wp2_with (at_builtin;refine Lib.wpList_append_run wr rfl (.tmp 26) (.tmp 30) 77 77 rfl _ _ rfl rfl _ _ E.out ?_)
   refine t.out.mono ?_
   rintro r w7 ⟨v7,rfl,J,K,L⟩
   have x:=a4.out.grown J L (.inl K)
   have G:((il.map putC++ml).filter fun c=> !aheadB a c).length≤19:=Nat.le_trans (List.length_filter_le _ _) (by simp;omega)
   have H:=hid (sortStable_any v7 _ w7 x.row G)
   have I:=hid x
   clear J K L x t G
   go_wp2_with fail
   refine H.out.mono ?_
   rintro r w8 ⟨rfl,M,f,N⟩
   have HF:Hid (OwnsC w.heap.size w8 v7 M∧Tr.Scd a.data.toList (plainCh (il.map putC++ml)) (plainCh M)∧Below w.heap.size w w8):=by
    have y:=I.out.grown f.row f.mod (.inl rfl)
    refine ⟨row_lift y.row y.new,Tr.Stb.scd ?_ N,y.bel⟩
    have:=f.stb
    rw [show plainCh ((il.map putC++ml).filter fun c=> !aheadB a c)=(plainCh (il.map putC++ml)).filter fun c=> !decide (c.2.1 < a.data.toList) from plainCh_filter (il.map putC++ml) (fun c=> !decide (c.2.1 < a.data.toList))] at this
    exact this
   clear f N H I
   go_wp2_with fail
   go_ret
   exact ⟨_,_,rfl,HF.out⟩
end Go.Proofs.YtolgpnaoaodepaaGreat
namespace Go.Proofs.YtolgpnaoaodepaaGreat
open Go.RowKit
def PlB (w:World) (b:Nat) (key:ByteArray) (lv:Nat) (un:Option Addr) (ch:Value):Prop:=w.heap[b]?=some (.cells #[.string key,.int .i64 (lv:Nat),.pointer un,ch] 139 (0,0))
theorem PlB.lt {w:World} {b:Nat} {key:ByteArray} {a:Nat} {c:Option Addr} {d:Value} (h:PlB w b key a c d):b < w.heap.size:=(Array.getElem?_eq_some_iff.1 h).1
theorem PlB.cells {w:World} {b:Nat} {key:ByteArray} {a:Nat} {c:Option Addr} {d:Value} (h:PlB w b key a c d):w.cell? ⟨b,0,none⟩=some (.string key)∧w.cell? ⟨b,1,none⟩=some (.int .i64 (a:Nat))∧w.cell? ⟨b,2,none⟩=some (.pointer c)∧w.cell? ⟨b,3,none⟩=some d:=by
 unfold PlB at h
 refine ⟨?_,?_,?_,?_⟩ <;> simp [World.cell?,h]
def ptcells (bs:List Nat):List Value:=bs.map fun b=> Value.pointer (some ⟨b,0,none⟩)
def OwnsPt (B:Nat) (w:World) (v:Value) (bs:List Nat):Prop:=w.ownsRow B 137 1 v bs.length (ptcells bs)
theorem ptcells_len (bs:List Nat):(ptcells bs).length=bs.length:=by simp [ptcells]
theorem OwnsPt.at {B:Nat} {w:World} {v:Value} {bs:List Nat} (h:OwnsPt B w v bs) (i:Nat) (hi:i < bs.length):∃g a,v= .slice (some ⟨g,0,none⟩) bs.length a∧bs.length≤a∧B≤g∧g < w.heap.size∧w.cell? ⟨g,i,none⟩=some (.pointer (some ⟨bs[i]'hi,0,none⟩))∧w.frozen? ⟨g,i,none⟩=false:=by
 rcases h.2 with ⟨_,l⟩ | ⟨g,a,d,rfl,e,c,f,m,j,k⟩
 ·omega
 ·have b:=World.ownsRow.cells h (g:=g) rfl i _ (by show (ptcells bs)[i]?=_;simp [ptcells,hi];rfl)
  rw [add_at] at b
  exact ⟨g,a,rfl,f,e,(Array.getElem?_eq_some_iff.1 c).1,by simpa using b,by simp [World.frozen?,c]⟩
theorem OwnsPt.set {B:Nat} {w:World} {g a:Nat} {bs:List Nat} (h:OwnsPt B w (.slice (some ⟨g,0,none⟩) bs.length a) bs) (i:Nat) (hi:i < bs.length) (q:Nat):OwnsPt B (w.setCell ⟨g,i,none⟩ (.pointer (some ⟨q,0,none⟩))) (.slice (some ⟨g,0,none⟩) bs.length a) (bs.set i q):=by
 rcases h.2 with ⟨_,n⟩ | ⟨o,f,b,e,j,k,l,m,c,d⟩
 ·omega
 ·simp only [Value.slice.injEq,Option.some.injEq,Addr.mk.injEq,and_true,true_and] at e
  obtain ⟨rfl,rfl⟩:=e
  unfold OwnsPt
  rw [List.length_set]
  refine ⟨by rw [ptcells_len,List.length_set,Nat.mul_one],.inr ⟨g,a,b.setIfInBounds i (.pointer (some ⟨q,0,none⟩)),rfl,j,?_,l,m,by simpa using c,?_⟩⟩
  ·rw [heap_setCell_at (i:=i) k]
  ·rw [Array.toList_setIfInBounds,List.take_set,d]
   simp [ptcells]
set_option maxHeartbeats 400000 in
theorem pLen_any (a:Option Addr) (n c:Nat) (w:World):
  Calls Tryz.prog 292 #[.slice a n c] w fun r w'=> r= .returned (.int .i64 (n:Nat))∧w'=w:=by
 go_enter Tryz.func292,Tryz.ntmps292
 go_wp2_with fail
 go_ret
 exact ⟨rfl,rfl⟩
def lessB (k1:ByteArray) (l1:Nat) (k2:ByteArray) (l2:Nat):Bool:=if k1.data.toList=k2.data.toList then decide (l2 < l1) else decide (k1.data.toList < k2.data.toList)
set_option maxHeartbeats 400000 in
theorem pLess_any (v:Value) (bs:List Nat) (i j:Nat) (w:World) (h:OwnsPt 0 w v bs) (hi:i < bs.length) (c:j < bs.length) (a b:ByteArray) (f k:Nat) (u1 u2:Option Addr) (p s:Value) (l:PlB w (bs[i]'hi) a f u1 p) (m:PlB w (bs[j]'c) b k u2 s):
  Calls Tryz.prog 293 #[v,.int .i64 (i:Nat),.int .i64 (j:Nat)] w fun r w'=> r= .returned (.bool (lessB a f b k))∧Below w.heap.size w w':=by
 obtain ⟨g,o,rfl,u,-,x,y,-⟩:=h.at i hi
 obtain ⟨A,d,e,-,-,-,B,-⟩:=h.at j c
 simp only [Value.slice.injEq,Option.some.injEq,Addr.mk.injEq,and_true,true_and] at e
 obtain ⟨rfl,rfl⟩:=e
 obtain ⟨C,D,-,-⟩:=l.cells
 obtain ⟨E,F,-,-⟩:=m.cells
 clear h l m
 generalize bs[i]'hi=G at*
 generalize bs[j]'c=H at*
 generalize bs.length=n at*
 unfold lessB
 by_cases q:a.data.toList=b.data.toList
 ·rw [if_pos q]
  have e:a=b:=by cases a;cases b;simpa [Array.toList_inj] using q
  subst e
  go_enter Tryz.func293,Tryz.ntmps293
  go_upto_region 1 with fail
  go_quiet (fail)
  go_upto_region 2 with fail
  go_quiet (fail)
  go_upto_region 4 with fail
  go_quiet (fail)
  go_wp2_with fail
  go_ret
  exact ⟨by simp,below_drewN (Below.refl _ _) _⟩
 ·rw [if_neg q]
  have e:¬a=b:=fun z=> q (by rw [z])
  have t:(a.toList==b.toList)=false:=by rw [toList_is,toList_is];simpa using q
  go_enter Tryz.func293,Tryz.ntmps293
  go_upto_region 1 with fail
  go_quiet (fail)
  go_upto_region 2 with fail
  go_quiet (fail)
  go_upto_region 3 with fail
  go_quiet (fail)
  go_wp2_with fail
  go_ret
  refine ⟨?_,below_drewN (below_drewN (below_drewN (Below.refl _ _) _) _) _⟩
  show Ending.returned (.bool (Op.bytesLess a.toList b.toList))=_
  rw [toList_is,toList_is,less_is]
set_option maxHeartbeats 400000 in
theorem pSwap_any (v:Value) (bs:List Nat) (i j:Nat) (w:World) (h:OwnsPt 0 w v bs) (hi:i < bs.length) (a:j < bs.length):
  Calls Tryz.prog 294 #[v,.int .i64 (i:Nat),.int .i64 (j:Nat)] w fun r w'=> r= .returned (.tuple #[])∧OwnsPt 0 w' v (Hp.swL 0 bs i j)∧w.grownBy w' v.ownBlock∧w'.heap.size=w.heap.size:=by
 obtain ⟨g,l,rfl,B,-,C,D,E⟩:=h.at i hi
 obtain ⟨F,q,e,-,-,-,G,H⟩:=h.at j a
 simp only [Value.slice.injEq,Option.some.injEq,Addr.mk.injEq,and_true,true_and] at e
 obtain ⟨rfl,rfl⟩:=e
 have n:OwnsPt 0 (w.setCell ⟨g,i,none⟩ (.pointer (some ⟨bs[j]'a,0,none⟩))) (.slice (some ⟨g,0,none⟩) bs.length l) (bs.set i (bs[j]'a)):=OwnsPt.set h i hi _
 have b:(bs.set i (bs[j]'a)).length=bs.length:=by simp
 have p:OwnsPt 0 ((w.setCell ⟨g,i,none⟩ (.pointer (some ⟨bs[j]'a,0,none⟩))).setCell ⟨g,j,none⟩ (.pointer (some ⟨bs[i]'hi,0,none⟩))).drew (.slice (some ⟨g,0,none⟩) bs.length l) (Hp.swL 0 bs i j):=by
  unfold Hp.swL
  rw [Hp.nth_get 0 bs hi,Hp.nth_get 0 bs a]
  have:=n
  rw [←b] at this ⊢
  exact OwnsPt.set this j (by rw [b];exact a) _
 obtain ⟨I,s,o,-,-,-,t,J⟩:=n.at j (by rw [b];exact a)
 rw [b] at o
 simp only [Value.slice.injEq,Option.some.injEq,Addr.mk.injEq,and_true,true_and] at o
 obtain ⟨rfl,rfl⟩:=o
 have y:Hid (w.grownBy ((w.setCell ⟨g,i,none⟩ (.pointer (some ⟨bs[j]'a,0,none⟩))).setCell ⟨g,j,none⟩ (.pointer (some ⟨bs[i]'hi,0,none⟩))).drew (some g)):=by
  have c:=but_set g i w (.pointer (some ⟨bs[j]'a,0,none⟩))
  have d:=but_set g j (w.setCell ⟨g,i,none⟩ (.pointer (some ⟨bs[j]'a,0,none⟩))) (.pointer (some ⟨bs[i]'hi,0,none⟩))
  exact ⟨d.os.trans c.os,d.tape.trans c.tape,d.output.trans c.output,Nat.le_trans c.size d.size,fun k x m=> (d.block k (Nat.lt_of_lt_of_le x c.size) m).trans (c.block k x m)⟩
 have z:Hid ((((w.setCell ⟨g,i,none⟩ (.pointer (some ⟨bs[j]'a,0,none⟩))).setCell ⟨g,j,none⟩ (.pointer (some ⟨bs[i]'hi,0,none⟩))).drew).heap.size=w.heap.size):=by
  show _=_
  simp
 have A:=hid p
 have f:∃u,(w.setCell ⟨g,i,none⟩ (.pointer (some ⟨bs[j]'a,0,none⟩))).cell? ⟨g,j,none⟩=some (.pointer u):=⟨_,t⟩
 obtain ⟨u,f⟩:=f
 clear h n p t b
 generalize bs[i]'hi=K at*
 generalize bs[j]'a=L at*
 go_enter Tryz.func294,Tryz.ntmps294
 go_upto_region 0 with fail
 go_region_law (fail)
 all_goals
  go_wp2_with fail
  go_end0
  exact ⟨rfl,A.out,y.out,z.out⟩
end Go.Proofs.YtolgpnaoaodepaaGreat
