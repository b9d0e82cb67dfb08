import Derived.Test.YtolgpnaoaodepaaGreatScaUm
import Derived.Test.YtolgpnaoaodepaaGreatWalkVm
import Derived.Test.YtolgpnaoaodepaaGreatScaMm
import Derived.Test.YtolgpnaoaodepaaGreatSilBm
import Derived.Test.YtolgpnaoaodepaaGreatWalkRm
import Derived.RangeFuncNested
import Derived.RangeFuncBound
import Derived.RangeFuncCalls
import Derived.RangeFuncLeaves
import Derived.RangeFuncBox
import Derived.Shelf.Abstract
import Derived.Shelf.RegionOpen
import Derived.WalkKit
import Derived.OwnWalkIn
import Derived.TacticsInMore
import Derived.LoopNIn
import Derived.LoopIn
namespace Go.Proofs.YtolgpnaoaodepaaGreat
open Go.RowKit
theorem scan_start {V:Tr.Key→Option Tr.Key} {N h:Nat} {t:Tr.TreeT h} (a:Tr.Root V N h t) (c:Tr.Key):Tr.SInv c (h+1) [.nd [] 0 h none t]∧(∀k,V k=Tr.afterAll (Tr.left (h+1) [.nd [] 0 h none t] k) k none)∧Tr.wtP [.nd [] 0 h none t]≤2*N:=by
 refine ⟨⟨fun p b=> ?_,List.pairwise_singleton ..⟩,fun k=> ?_,?_⟩
 ·rw [List.mem_singleton.1 b]
  exact ⟨a.wf,a.top,Tr.room_all,by omega⟩
 ·rw [←a.val k,Tr.val_lev h a.wf (Tr.inR_all k)]
  congr 1
  refine Tr.down_congr fun d _=> ?_
  show _=(if d < 0 then [] else Tr.lev h t (d - 0) k)++[]
  rw [if_neg (by omega),List.append_nil];rfl
 ·show Tr.wt h t+0≤2*N
  exact a.wt
theorem sc_start {w W:World} {i c a h p:Nat} {j ub:ByteArray} {t:Tr.TreeT h} {F:List Nat} (o:ScB W i j ub (.slice (some ⟨a,0,none⟩) 1 1)) (q:W.heap[a]?=some (.cells #[.pointer (some ⟨c,0,none⟩)] 137 (0,0))) (r:W.heap[c]?=some (.cells #[.string ⟨#[]⟩,.int .i64 0,.pointer (some ⟨p,0,none⟩),.slice none 0 0] 139 (0,0))) (s:Rep h w p t F) (u:Below w.heap.size w W) (v:w.heap.size≤i) (y:w.heap.size≤a):ScM w [] i j ub [.nd [] 0 h none t] W:=by
 have d:OwnsPt 0 W (.slice (some ⟨a,0,none⟩) 1 1) [c]:=⟨rfl,.inr ⟨a,1,#[.pointer (some ⟨c,0,none⟩)],rfl,Nat.zero_le _,q,Nat.le_refl _,by unfold maxLen;omega,by simp,by simp [ptcells]⟩⟩
 have e:PlB W c ⟨#[]⟩ 0 (some ⟨p,0,none⟩) (.slice none 0 0):=r
 refine ⟨.slice (some ⟨a,0,none⟩) 1 1,fun _=> (⟨#[]⟩,0),[(c,.nd [] 0 h none t)],⟨o,d,fun b f=> by rw [List.mem_singleton.1 f];exact ⟨_,_,e⟩,fun k h0 l=> by simp at l;omega⟩,List.Perm.refl _,fun x m=> by rw [List.mem_singleton.1 m];exact ⟨rfl,rfl,p,F,e,s⟩,u,v,fun g n=> by have:a=g:=Option.some.inj n;omega⟩
theorem ScM.keepT {A:List Nat} {w0:World} {H:Nat} {I ub:ByteArray} {P:List Tr.Plc} {W W':World} (h:ScM w0 A H I ub P W) (i:∀(g:Nat) (G:Array Value) (T:TypeId),W.heap[g]?=some (.cells G T (0,0))→(T=143∨T=139∨T=137∨T=34)→W'.heap[g]?=W.heap[g]?) (S:Below w0.heap.size W W'):ScM w0 A H I ub P W':=by
 obtain ⟨v,K,L,d⟩:=h
 have k:∀g,v.ownBlock=some g→W'.heap[g]?=W.heap[g]?:=fun g s=> by
  rcases d.hp.row.2 with ⟨rfl,_⟩ | ⟨N,n,O,rfl,_,C,_⟩
  ·simp [Value.ownBlock] at s
  ·have e:N=g:=Option.some.inj s
   subst e
   exact i _ _ _ C (.inr (.inr (.inl rfl)))
 refine ⟨v,K,L,⟨(i _ _ _ d.hp.sc (.inl rfl)).trans d.hp.sc,row_same d.hp.row fun g s _=> k g s,fun b D=> ?_,d.hp.heap⟩,d.pm,fun x Q=> ?_,d.bel.trans S,d.sbn,d.vn⟩
 ·obtain ⟨u,c,q⟩:=d.hp.pl b D
  exact ⟨u,c,(i _ _ _ q (.inr (.inl rfl))).trans q⟩
 ·have:=d.pl x Q
  obtain ⟨b,p⟩:=x
  cases p using Tr.Plc.two with
  | nd f L h' m' t=>
   obtain ⟨y,z,p,F,m,B⟩:=this
   exact ⟨y,z,p,F,(i _ _ _ m (.inr (.inl rfl))).trans m,B⟩
  | ch L f m' c G=>
   obtain ⟨y,z,g,o,n,ml,r,m,B,E,J,M⟩:=this
   have l:=i _ _ _ E (.inr (.inr (.inr rfl)))
   exact ⟨y,z,g,o,n,ml,r,(i _ _ _ m (.inr (.inl rfl))).trans m,B,l.trans E,fun j u R=> (World.cell?_of_block (w:=W) (a:=⟨g,o+j,none⟩) l).trans (J j u R),M⟩
theorem ScM.mod {A:List Nat} {w0:World} {c:Nat} {d ub:ByteArray} {P:List Tr.Plc} {W W':World} (h:ScM w0 A c d ub P W) {G:Nat→Prop} (m:Mod G W W') (i:∀(g:Nat) (a:Array Value) (T:TypeId),W.heap[g]?=some (.cells a T (0,0))→G g→T=136∨T=51) (j:∀g,G g→w0.heap.size≤g):ScM w0 A c d ub P W':=by
 refine h.keepT (fun g a T b f=> m.block g (Array.getElem?_eq_some_iff.1 b).1 fun q=> ?_) (m.below h.bel.size j)
 rcases i g a T b q with e | e <;> subst e <;> revert f <;> decide
structure ScR (w:World) (v:Value) (il:List (ByteArray×ByteArray)) (s:Option (List UInt8)) (W:World):Prop where
 row:OwnsI w.heap.size W v il
 st:StB W w.heap.size (stV s) (stB s)
 bel:Below w.heap.size w W
theorem ScR.frm {w:World} {c:Nat} {v:Value} {il:List (ByteArray×ByteArray)} {s:Option (List UInt8)} {W W':World} (h:ScR w v il s W) (i:Frm c W W') (n:Below w.heap.size w W') (o:∀m:Array Value,W.heap[c]?≠some (.cells m 51 (0,0))) (d:c≠w.heap.size):ScR w v il s W':=by
 refine ⟨row_same h.row fun g f l=> ?_,i.2 _ _ _ h.st (by decide) (fun e=> d e.symm),n⟩
 rcases h.row.2 with ⟨rfl,_⟩ | ⟨j,k,b,rfl,_,a,_⟩
 ·simp [Value.ownBlock] at f
 ·have e:j=g:=Option.some.inj f
  subst e
  exact (i.2 _ _ _ a (by decide) (fun e=> o b (by rw [←e];exact a))).trans a.symm
theorem ScR.below {w:World} {v:Value} {il:List (ByteArray×ByteArray)} {s:Option (List UInt8)} {W W':World} (h:ScR w v il s W) (a:Below W.heap.size W W'):ScR w v il s W':=⟨row_below h.row a (Nat.le_refl _),(a.block _ h.st.lt).trans h.st,h.bel.trans (a.mono h.bel.size)⟩
structure ScB' (w:World) (sb:Nat) (fr ub:ByteArray) (P:List Tr.Plc) (cb:Nat) (k:Int) (key x:ByteArray) (v:Value) (il:List (ByteArray×ByteArray)) (s:Option (List UInt8)) (W:World):Prop where
 r:ScR w v il s W
 c:ChB W cb k key x
 m:ScM w [cb] sb fr ub P W
theorem ScB'.below {w:World} {b:Nat} {d ub:ByteArray} {P:List Tr.Plc} {e:Nat} {k:Int} {key x:ByteArray} {v:Value} {il:List (ByteArray×ByteArray)} {s:Option (List UInt8)} {W W':World} (h:ScB' w b d ub P e k key x v il s W) (a:Below W.heap.size W W'):ScB' w b d ub P e k key x v il s W':=⟨h.r.below a,(a.block _ h.c.lt).trans h.c,h.m.below a⟩
theorem ScB'.put {w:World} {i:Nat} {j ub:ByteArray} {P:List Tr.Plc} {f:Nat} {k:Int} {key x:ByteArray} {v:Value} {il:List (ByteArray×ByteArray)} {s:Option (List UInt8)} {W:World} (h:ScB' w i j ub P f k key x v il s W) (b:Option (List UInt8)):ScB' w i j ub P f k key x v il b ((W.setCell ⟨w.heap.size,0,none⟩ (.string (stV b))).setCell ⟨w.heap.size,1,none⟩ (.bool (stB b))):=by
 have l:=Mod.setCell W w.heap.size 0 (.string (stV b))
 have n:=Mod.setCell (W.setCell ⟨w.heap.size,0,none⟩ (.string (stV b))) w.heap.size 1 (.bool (stB b))
 have m:Mod (fun g=> g=w.heap.size) W ((W.setCell ⟨w.heap.size,0,none⟩ (.string (stV b))).setCell ⟨w.heap.size,1,none⟩ (.bool (stB b))):=l.trans n (fun _ _ q=> q) (fun _ _ q=> q)
 have a:=h.r.st
 refine ⟨⟨m.row h.r.row (fun g d e=> blk_type a h.r.row (by decide) (by rw [←e];exact d)),a.put _ _,h.r.bel.trans (m.below h.r.bel.size fun k e=> by omega)⟩,(m.block f h.c.lt (fun e=> ?_)).trans h.c,h.m.mod m (fun g o T d e=> ?_) (fun g e=> by omega)⟩
 ·have:=h.c
  unfold ChB at this
  unfold StB at a
  rw [e,a] at this
  simp at this
 ·unfold StB at a
  rw [e,a] at d
  simp at d
  exact .inl d.2.symm
theorem ScB'.app {w:World} {f:Nat} {i ub:ByteArray} {P:List Tr.Plc} {d:Nat} {k:Int} {key x:ByteArray} {v j:Value} {il a:List (ByteArray×ByteArray)} {s:Option (List UInt8)} {W W':World} (h:ScB' w f i ub P d k key x v il s W) (l:OwnsI w.heap.size W' j a) (n:Below w.heap.size W W') (o:W.grownBy W' v.ownBlock):ScB' w f i ub P d k key x j a s W':=by
 have m:=Mod.of_grown o
 refine ⟨⟨l,(m.block _ h.r.st.lt (blk_type h.r.st h.r.row (by decide))).trans h.r.st,h.r.bel.trans n⟩,(m.block d h.c.lt (blk_type h.c h.r.row (by decide))).trans h.c,h.m.mod m (fun g p T b e=> ?_) (fun g e=> (World.ownsRow.lt h.r.row g e).1)⟩
 by_cases q:T=51
 ·exact .inr q
 ·exact absurd e (blk_type b h.r.row (fun z=> q z.symm))
def SlI (w:World) (V:Tr.Key→Option Tr.Key) (fr ub:ByteArray) (D N sb C:Nat) (a:Value×Value×Value×Value×World) (P:List Tr.Plc):Prop:=
 ∃kb il s cb q k key x,a.2.1= .string kb∧a.2.2.1= .pointer (some ⟨cb,0,none⟩)∧a.2.2.2.1= .bool q∧ScR w a.1 il s a.2.2.2.2∧ChB a.2.2.2.2 cb k key x∧w.heap.size < cb∧Tr.ScI V fr.data.toList ub.data.toList D (plain il) kb.data.toList s P∧il.length+Tr.cnt P≤C∧
  (q=true→∃P',Tr.NextS fr.data.toList ub.data.toList D P (chP k key x) P'∧ScM w [cb] sb fr ub P' a.2.2.2.2∧Tr.wtP P'≤N)∧(q=false→Tr.NextN fr.data.toList ub.data.toList D P)
theorem plain_addIt (il:List (ByteArray×ByteArray)) (key:ByteArray) (s:Option (List UInt8)):plain (addB il key s)=Tr.addIt (plain il) key.data.toList s:=plain_addB il key s
theorem addB_len (il:List (ByteArray×ByteArray)) (key:ByteArray) (s:Option (List UInt8)):(addB il key s).length≤il.length+1:=by cases s <;> simp [addB]
theorem NxQ.uni {A:List Nat} {w0:World} {i:Nat} {c ub:ByteArray} {D:Nat} {P:List Tr.Plc} {W:World} {r:Ending} {W':World} (h:NxQ w0 A i c ub D P W r W'):∃k key x q,r= .returned (.tuple #[.agg #[.int .i64 k,.string key,.string x],.bool q])∧(q=true→∃a,Tr.NextS c.data.toList ub.data.toList D P (chP k key x) a∧ScM w0 A i c ub a W'∧Tr.wtP a≤Tr.wtP P)∧(q=false→Tr.NextN c.data.toList ub.data.toList D P)∧Below w0.heap.size w0 W'∧Frm i W W':=by
 rcases h with ⟨k,key,x,a,d,f,g,b,j⟩ | ⟨k,key,x,d,f,g,b⟩
 ·exact ⟨k,key,x,true,d,fun _=> ⟨a,f,b,g⟩,fun e=> absurd e (by simp),b.bel,j⟩
 ·exact ⟨k,key,x,false,d,fun e=> absurd e (by simp),fun _=> f,g,b⟩
theorem ScM.noItem {A:List Nat} {w0:World} {c:Nat} {d ub:ByteArray} {P:List Tr.Plc} {W:World} (h:ScM w0 A c d ub P W):∀b:Array Value,W.heap[c]?≠some (.cells b 51 (0,0)):=fun b e=> by
 obtain ⟨v,a⟩:=h.sc
 unfold ScB at a
 rw [a] at e
 simp at e
theorem scan_first {w:World} {h p:Nat} {t:Tr.TreeT h} {F:List Nat} (d ub:ByteArray) (u:Rep h w p t F):
  ScM w [] (w.heap.size+1+1+1) d ub [.nd [] 0 h none t] ((((w.alloc (.cells #[.string ⟨#[]⟩,.bool false] 136)).alloc (.cells #[.string ⟨#[]⟩,.int .i64 0,.pointer (some ⟨p,0,none⟩),.slice none 0 0] 139)).alloc (.cells #[.pointer (some ⟨w.heap.size+1,0,none⟩)] 137)).alloc (.cells #[.string d,.string ub,.slice (some ⟨w.heap.size+1+1,0,none⟩) 1 1] 143))∧ScR w (.slice none 0 0) [] none ((((w.alloc (.cells #[.string ⟨#[]⟩,.bool false] 136)).alloc (.cells #[.string ⟨#[]⟩,.int .i64 0,.pointer (some ⟨p,0,none⟩),.slice none 0 0] 139)).alloc (.cells #[.pointer (some ⟨w.heap.size+1,0,none⟩)] 137)).alloc (.cells #[.string d,.string ub,.slice (some ⟨w.heap.size+1+1,0,none⟩) 1 1] 143)):=by
 have o:=heap_alloc_new w (.cells #[.string ⟨#[]⟩,.bool false] 136)
 have q:Below w.heap.size w (w.alloc (.cells #[.string ⟨#[]⟩,.bool false] 136)):=(Below.refl _ w).alloc (Nat.le_refl _) _
 have g:(w.alloc (.cells #[.string ⟨#[]⟩,.bool false] 136)).heap.size=w.heap.size+1:=by simp
 generalize w.alloc (.cells #[.string ⟨#[]⟩,.bool false] 136)=a at*
 have j:=heap_alloc_new a (.cells #[.string ⟨#[]⟩,.int .i64 0,.pointer (some ⟨p,0,none⟩),.slice none 0 0] 139)
 have k:Below a.heap.size a (a.alloc (.cells #[.string ⟨#[]⟩,.int .i64 0,.pointer (some ⟨p,0,none⟩),.slice none 0 0] 139)):=(Below.refl _ a).alloc (Nat.le_refl _) _
 have l:(a.alloc (.cells #[.string ⟨#[]⟩,.int .i64 0,.pointer (some ⟨p,0,none⟩),.slice none 0 0] 139)).heap.size=a.heap.size+1:=by simp
 generalize a.alloc (.cells #[.string ⟨#[]⟩,.int .i64 0,.pointer (some ⟨p,0,none⟩),.slice none 0 0] 139)=b at*
 have m:=heap_alloc_new b (.cells #[.pointer (some ⟨w.heap.size+1,0,none⟩)] 137)
 have i:Below b.heap.size b (b.alloc (.cells #[.pointer (some ⟨w.heap.size+1,0,none⟩)] 137)):=(Below.refl _ b).alloc (Nat.le_refl _) _
 have r:(b.alloc (.cells #[.pointer (some ⟨w.heap.size+1,0,none⟩)] 137)).heap.size=b.heap.size+1:=by simp
 generalize b.alloc (.cells #[.pointer (some ⟨w.heap.size+1,0,none⟩)] 137)=c at*
 have n:=heap_alloc_new c (.cells #[.string d,.string ub,.slice (some ⟨w.heap.size+1+1,0,none⟩) 1 1] 143)
 have f:Below c.heap.size c (c.alloc (.cells #[.string d,.string ub,.slice (some ⟨w.heap.size+1+1,0,none⟩) 1 1] 143)):=(Below.refl _ c).alloc (Nat.le_refl _) _
 generalize c.alloc (.cells #[.string d,.string ub,.slice (some ⟨w.heap.size+1+1,0,none⟩) 1 1] 143)=s at*
 have e:Below w.heap.size w s:=((q.trans (k.mono (by omega))).trans (i.mono (by omega))).trans (f.mono (by omega))
 rw [r,l,g] at n
 rw [l,g] at m
 rw [g] at j
 refine ⟨sc_start n ((f.block _ (by omega)).trans m) ((f.block _ (by omega)).trans ((i.block _ (by omega)).trans j)) u e (by omega) (by omega),World.ownsRow_nil _ _ _ _,(f.block _ (by omega)).trans ((i.block _ (by omega)).trans ((k.block _ (by omega)).trans o)),e⟩
set_option maxHeartbeats 2000000 in
set_option maxRecDepth 4000 in
theorem tScan_any (V:Tr.Key→Option Tr.Key) (N b:Nat) (F:List Nat) (O ub:ByteArray) (w:World) (ht:TreM V N b F w) (hN:N≤900000):
  Calls Tryz.prog 39 #[.pointer (some ⟨b,0,none⟩),.string O,.string ub] w fun r w'=>∃v il,r= .returned v∧OwnsI w.heap.size w' v il∧Below w.heap.size w w'∧Tr.Rising (plain il)∧∀k,(¬k < O.data.toList∧Tr.inTo ub.data.toList k→Tr.look (plain il) k=V k)∧(¬(¬k < O.data.toList∧Tr.inTo ub.data.toList k)→Tr.look (plain il) k=none):=by
 obtain ⟨h,p,t,hh,hq⟩:=ht
 obtain ⟨t0,t1⟩:=hq.tb.cells
 have g5:=hq.tb.lt
 obtain ⟨a4,b8,g3⟩:=scan_start hq.root O.data.toList
 obtain ⟨c8,d6⟩:=scan_first O ub hq.rep
 have e5:Tr.cnt [.nd [] 0 h none t]≤28800000:=by
  have h1:=Tr.cntT_le h hq.root.wf hq.root.top
  have h2:=hq.root.wt
  show Tr.cntT h t+0≤_
  omega
 have e6:=hid (Tr.ScI.start (ub:=ub.data.toList) a4 fun k _=> b8 k)
 have T:=hid (sNext_any c8 a4 (by omega) (by omega) (fun a ha=> by cases ha))
 have e7:=hid d6
 have e9:=hid c8
 clear a4 b8 c8 d6 hq
 generalize g8:[Tr.Plc.nd [] 0 h none t]=P0 at*
 obtain ⟨μ,b9,c3⟩:=min_fun (SlI w V O ub (h+1) (2*N) (w.heap.size+1+1+1) 28800000) Tr.size
 have d2:=hid b9
 have f8:=hid c3
 clear b9 c3
 go_enter Tryz.func39,Tryz.ntmps39
 go_wp2_with fail
 refine T.out.mono ?_
 rintro r w1 L
 obtain ⟨k,key,x,q,rfl,J,K,d7,d8⟩:=L.uni
 have c4:=e7.out.frm d8 d7 e9.out.noItem (by omega)
 have u:Below w1.heap.size w1 (w1.alloc (.cells #[.int .i64 k,.string key,.string x] 34)):=(Below.refl _ w1).alloc (Nat.le_refl _) _
 have f9:Hid (SlI w V O ub (h+1) (2*N) (w.heap.size+1+1+1) 28800000 (.slice none 0 0,.string ⟨#[]⟩,.pointer (some ⟨w1.heap.size,0,none⟩),.bool q,w1.alloc (.cells #[.int .i64 k,.string key,.string x] 34)) P0):=
  ⟨⟨#[]⟩,[],none,w1.heap.size,q,k,key,x,rfl,rfl,rfl,c4.below u,heap_alloc_new _ _,c4.st.lt,e6.out,by simpa using e5,fun e=> by
    obtain ⟨S,h1,h2,h3⟩:=J e
    exact ⟨S,h1,(h2.more (Nat.le_refl _)).below u,Nat.le_trans h3 g3⟩,K⟩
 clear J K d7 d8 c4 u L T
 go_wp2_with fail
 go_loopw [7,8,11,12] (fun v7 v8 d0 d1 wr=>∃P,SlI w V O ub (h+1) (2*N) (w.heap.size+1+1+1) 28800000 (v7,v8,d0,d1,wr) P) (fun v7 v8 d0 d1 wr=> μ (v7,v8,d0,d1,wr))
 case atStart=> exact ⟨P0,f9.out⟩
 case round=>
  obtain ⟨P1,hI,d9⟩:=f8.out _ hrel
  clear hrel
  obtain ⟨C,il,s,cb,q1,D,d,B,e8,c5,c6,hR,hC,g6,e0,g7,hT,e1⟩:=hI
  have e8:u8= .string C:=e8
  have c5:u11= .pointer (some ⟨cb,0,none⟩):=c5
  have c6:u12= .bool q1:=c6
  subst e8 c5 c6
  have HR:=hid hR
  have HC:=hid hC
  have b1:=hid e0
  have HT:=hid hT
  have g0:=hid e1
  have d3:=hid d9
  obtain ⟨c0,c1,c2⟩:=HC.out.cells
  obtain ⟨s0,s1,s2,s3⟩:=HR.out.st.cells
  clear hR hC e0 hT e1 d9
  cases q1 with
  | false=>
   have b2:=hid (appendItem_any s w.heap.size u7 il C wr HR.out.row HR.out.bel.size (by omega))
   go_wp2_with fail
   refine b2.out.mono ?_
   rintro r w5 ⟨v5,rfl,a8,a9,-,-⟩
   have d4:=g0.out (by first | rfl | trivial)
   obtain ⟨a5,a6⟩:=b1.out.told d4
   have HF:Hid (OwnsI w.heap.size w5 v5 (addB il C s)∧Below w.heap.size w w5∧Tr.Rising (plain (addB il C s))∧∀k,(¬k < O.data.toList∧Tr.inTo ub.data.toList k→Tr.look (plain (addB il C s)) k=V k)∧(¬(¬k < O.data.toList∧Tr.inTo ub.data.toList k)→Tr.look (plain (addB il C s)) k=none)):=by
    rw [plain_addIt]
    exact ⟨a8,HR.out.bel.trans a9,a5,a6⟩
   clear a8 a9 d4 a5 a6
   go_wp2_with fail
   go_ret
   exact ⟨_,_,rfl,HF.out⟩
  | true=>
   obtain ⟨S,L,e2,e3⟩:=HT.out rfl
   have T:=hid L
   have b3:=hid e3
   have HB:=hid (ScB'.mk HR.out HC.out e2)
   have b6:=hid L.size
   have g4:il.length+1+Tr.cnt S≤28800000:=by have:=L.cn;omega
   have g1:∀s':Option (List UInt8),(∀v,s'=some v→v.length≤16)→(s'.getD []).length≤20000000:=fun s' h=> by
    cases s' with
    | none=> simp
    | some v=> have:=h v rfl;show v.length≤_;omega
   have b7:B.size≤20000000:=by
    have:=(Tr.okCh_key L.okc).2
    have h2:B.data.toList.length≤16:=this
    have h3:B.size≤16:=by simpa using h2
    omega
   clear L e2 e3
   by_cases he:d.data.toList=C.data.toList
   case pos=>
    have r1:(d.toList==C.toList)=true:=by rw [toList_is,toList_is];simpa using he
    have U:=hid (after_any s D d B wr (g1 s b1.out.len) b7)
    go_wp2_with fail
    refine U.out.mono ?_
    rintro r w7 ⟨rfl,b0⟩
    have Q:=HB.out.below b0
    obtain ⟨f0,f1,f2,f3⟩:=Q.r.st.cells
    have n:=hid (Q.put (Tr.after s (chP D d B)))
    have E:Hid (Tr.ScI V O.data.toList ub.data.toList (h+1) (plain il) C.data.toList (Tr.after s (chP D d B)) S):=b1.out.stay T.out he
    have W:Hid (il.length+Tr.cnt S≤28800000):=by show _≤_;omega
    generalize Tr.after s (chP D d B)=s8 at*
    obtain ⟨j,a7⟩:∃j,(w7.setCell ⟨w.heap.size,0,none⟩ (.string (stV s8))).setCell ⟨w.heap.size,1,none⟩ (.bool (stB s8))=j:=⟨_,rfl⟩
    rw [a7] at n
    obtain ⟨j0,j1,j2⟩:=n.out.c.cells
    clear b0 Q U c0 c1 c2 s0 s1 s2 s3
    go_upto_region 11 with fail
    clear a7 f0 f1 f2 f3
    have u:Below j.heap.size j (j.alloc (.cells #[.int .i64 D,.string d,.string B] 34)):=(Below.refl _ j).alloc (Nat.le_refl _) _
    have R:ScM w [j.heap.size] (w.heap.size+1+1+1) O ub S (j.alloc (.cells #[.int .i64 D,.string d,.string B] 34)):=(n.out.m.less.more (Nat.le_refl _)).below u
    have X:=n.out.r.below u
    have Y:ChB (j.alloc (.cells #[.int .i64 D,.string d,.string B] 34)) j.heap.size D d B:=heap_alloc_new _ _
    have Z:=hid (sNext_any R E.out.inv (Nat.le_trans b3.out (Nat.mul_le_mul_left 2 hN)) (by omega) (fun a ha=> by rw [List.mem_singleton.1 ha];simp))
    have a0:=hid R
    have a1:=hid X
    have a2:=hid Y
    have a3:=n.out.r.st.lt
    clear u R X Y
    go_wp2_with fail
    refine Z.out.mono ?_
    rintro r z A
    obtain ⟨k2,l,x2,q2,rfl,J,K,M,y⟩:=A.uni
    have f:=a1.out.frm y M a0.out.noItem (by omega)
    have i:ChB z j.heap.size D d B:=y.2 _ _ _ a2.out (by decide) (by obtain ⟨vq,c9⟩:=n.out.m.sc;have:=c9.lt;omega)
    have hm:=Mod.set3 z j.heap.size 0 (.int .i64 k2) (.string l) (.string x2)
    have G:=i.put k2 l x2
    have H:ScR w u7 il s8 (((z.setCell ⟨j.heap.size,0,none⟩ (.int .i64 k2)).setCell ⟨j.heap.size,1,none⟩ (.string l)).setCell ⟨j.heap.size,2,none⟩ (.string x2)):=⟨hm.row f.row (fun g hg e=> blk_type i f.row (by decide) (by rw [←e];exact hg)),(hm.block _ f.st.lt (by omega)).trans f.st,f.bel.trans (hm.below f.bel.size fun k e=> by omega)⟩
    have I:Hid (SlI w V O ub (h+1) (2*N) (w.heap.size+1+1+1) 28800000 (u7,.string C,.pointer (some ⟨j.heap.size,0,none⟩),.bool q2,((z.setCell ⟨j.heap.size,0,none⟩ (.int .i64 k2)).setCell ⟨j.heap.size,1,none⟩ (.string l)).setCell ⟨j.heap.size,2,none⟩ (.string x2)) S):=
     ⟨C,il,s8,j.heap.size,q2,k2,l,x2,rfl,rfl,rfl,H,G,a3,E.out,W.out,fun e=> by
      obtain ⟨P2,z1,z2,z3⟩:=J e
      exact ⟨P2,z1,z2.set i (List.mem_singleton.2 rfl) (by omega) hm,Nat.le_trans z3 b3.out⟩,K⟩
    have c7:=hid (Nat.lt_of_le_of_lt (d2.out _ _ I.out) b6.out)
    obtain ⟨i0,i1,i2⟩:=i.cells
    have g2:∀o,z.frozen? ⟨j.heap.size,o,none⟩=false:=fun o=> by
     unfold ChB at i
     simp [World.frozen?,i]
    clear J K M y f i hm G H A Z a0 a1 a2
    go_wp2_with fail
    exact ⟨⟨S,I.out⟩,by rw [←d3.out];exact c7.out⟩
   case neg=>
    have r1:(d.toList==C.toList)=false:=by rw [toList_is,toList_is];simpa using he
    have b2:=hid (appendItem_any s w.heap.size u7 il C wr HR.out.row HR.out.bel.size (by omega))
    go_wp2_with fail
    refine b2.out.mono ?_
    rintro r w5 ⟨v5,rfl,a8,a9,e4,-⟩
    have b4:=HB.out.app a8 a9 e4
    obtain ⟨f0,f1,f2,f3⟩:=b4.r.st.cells
    obtain ⟨m0,m1,m2⟩:=b4.c.cells
    have b5:=b4.put none
    have d5:=hid b5
    obtain ⟨o0,o1,o2,o3⟩:=b5.r.st.cells
    obtain ⟨l0,l1,l2⟩:=b5.c.cells
    have U:=hid (after_any none D d B ((w5.setCell ⟨w.heap.size,0,none⟩ (.string (stV none))).setCell ⟨w.heap.size,1,none⟩ (.bool (stB none))) (by simp) b7)
    have E:Hid (Tr.ScI V O.data.toList ub.data.toList (h+1) (plain (addB il C s)) d.data.toList (Tr.after none (chP D d B)) S):=by
     show Tr.ScI _ _ _ _ _ _ _ _
     rw [plain_addIt]
     exact b1.out.turn T.out he
    have W:Hid ((addB il C s).length+Tr.cnt S≤28800000):=by
     show _≤_
     have:=addB_len il C s
     omega
    clear a8 a9 e4 b4 b5 b2
    go_wp2_with fail
    refine U.out.mono ?_
    rintro r w7 ⟨rfl,b0⟩
    have Q:=d5.out.below b0
    obtain ⟨f4,f5,f6,f7⟩:=Q.r.st.cells
    have n:=hid (Q.put (Tr.after none (chP D d B)))
    generalize Tr.after none (chP D d B)=s8 at*
    obtain ⟨j,a7⟩:∃j,(w7.setCell ⟨w.heap.size,0,none⟩ (.string (stV s8))).setCell ⟨w.heap.size,1,none⟩ (.bool (stB s8))=j:=⟨_,rfl⟩
    rw [a7] at n
    obtain ⟨j0,j1,j2⟩:=n.out.c.cells
    clear b0 Q U d5 c0 c1 c2 s0 s1 s2 s3 f0 f1 f2 f3 m0 m1 m2 o0 o1 o2 o3 l0 l1 l2
    go_upto_region 11 with fail
    clear a7 f4 f5 f6 f7
    have u:Below j.heap.size j (j.alloc (.cells #[.int .i64 D,.string d,.string B] 34)):=(Below.refl _ j).alloc (Nat.le_refl _) _
    have R:ScM w [j.heap.size] (w.heap.size+1+1+1) O ub S (j.alloc (.cells #[.int .i64 D,.string d,.string B] 34)):=(n.out.m.less.more (Nat.le_refl _)).below u
    have X:=n.out.r.below u
    have Y:ChB (j.alloc (.cells #[.int .i64 D,.string d,.string B] 34)) j.heap.size D d B:=heap_alloc_new _ _
    have Z:=hid (sNext_any R E.out.inv (Nat.le_trans b3.out (Nat.mul_le_mul_left 2 hN)) (by omega) (fun a ha=> by rw [List.mem_singleton.1 ha];simp))
    have a0:=hid R
    have a1:=hid X
    have a2:=hid Y
    have a3:=n.out.r.st.lt
    clear u R X Y
    go_wp2_with fail
    refine Z.out.mono ?_
    rintro r z A
    obtain ⟨k2,l,x2,q2,rfl,J,K,M,y⟩:=A.uni
    have f:=a1.out.frm y M a0.out.noItem (by omega)
    have i:ChB z j.heap.size D d B:=y.2 _ _ _ a2.out (by decide) (by obtain ⟨vq,c9⟩:=n.out.m.sc;have:=c9.lt;omega)
    have hm:=Mod.set3 z j.heap.size 0 (.int .i64 k2) (.string l) (.string x2)
    have G:=i.put k2 l x2
    have H:ScR w v5 (addB il C s) s8 (((z.setCell ⟨j.heap.size,0,none⟩ (.int .i64 k2)).setCell ⟨j.heap.size,1,none⟩ (.string l)).setCell ⟨j.heap.size,2,none⟩ (.string x2)):=⟨hm.row f.row (fun g hg e=> blk_type i f.row (by decide) (by rw [←e];exact hg)),(hm.block _ f.st.lt (by omega)).trans f.st,f.bel.trans (hm.below f.bel.size fun k e=> by omega)⟩
    have I:Hid (SlI w V O ub (h+1) (2*N) (w.heap.size+1+1+1) 28800000 (v5,.string d,.pointer (some ⟨j.heap.size,0,none⟩),.bool q2,((z.setCell ⟨j.heap.size,0,none⟩ (.int .i64 k2)).setCell ⟨j.heap.size,1,none⟩ (.string l)).setCell ⟨j.heap.size,2,none⟩ (.string x2)) S):=
     ⟨d,(addB il C s),s8,j.heap.size,q2,k2,l,x2,rfl,rfl,rfl,H,G,a3,E.out,W.out,fun e=> by
      obtain ⟨P2,z1,z2,z3⟩:=J e
      exact ⟨P2,z1,z2.set i (List.mem_singleton.2 rfl) (by omega) hm,Nat.le_trans z3 b3.out⟩,K⟩
    have c7:=hid (Nat.lt_of_le_of_lt (d2.out _ _ I.out) b6.out)
    obtain ⟨i0,i1,i2⟩:=i.cells
    have g2:∀o,z.frozen? ⟨j.heap.size,o,none⟩=false:=fun o=> by
     unfold ChB at i
     simp [World.frozen?,i]
    clear J K M y f i hm G H A Z a0 a1 a2
    go_wp2_with fail
    exact ⟨⟨S,I.out⟩,by rw [←d3.out];exact c7.out⟩
end Go.Proofs.YtolgpnaoaodepaaGreat
namespace Go.Proofs.YtolgpnaoaodepaaGreat
open Go.RowKit Go.MuLone
theorem ST.below {w w':World} {x b:Nat} (h:ST w x b) (a:Below w.heap.size w w'):ST w' x b:=(a.block x h.lt).trans h
theorem Gone.of_mod {F F':List Nat} {w w0 a:World} (b:Below w.heap.size w w0) (d:Mod (fun g=> g∈F) w0 a) (e:∀g∈F',g∈F∨w0.heap.size≤g):Gone F F' w a:=
 ⟨(Mod.of_below (F:=fun g=> g∈F) b).trans d (fun _ _ q=> q) (fun _ _ q=> q),fun g c=> (e g c).imp id (Nat.le_trans b.size)⟩
set_option maxHeartbeats 400000 in
theorem sNew_any (w:World):
  Calls Tryz.prog 12 #[] w fun r w'=>∃x b F,r= .returned (.pointer (some ⟨x,0,none⟩))∧ST w' x b∧TreM (fun _=> none) 1 b F w'∧(∀g∈x::b::F,w.heap.size≤g)∧x∉b::F∧Below w.heap.size w w':=by
 go_enter Tryz.func12,Tryz.ntmps12
 go_wp2_with fail
 refine (tNew_any w).mono ?_
 rintro r a ⟨b,F,rfl,i,k,d⟩
 have h:=d.size
 have c:Below a.heap.size a (a.alloc (.cells #[.int .i32 0,.int .u32 0,.pointer (some ⟨b,0,none⟩)] 95)):=(Below.refl _ a).alloc (Nat.le_refl _) _
 have H:Hid (∃f F',ST (a.alloc (.cells #[.int .i32 0,.int .u32 0,.pointer (some ⟨b,0,none⟩)] 95)) a.heap.size f∧TreM (fun _=> none) 1 f F' (a.alloc (.cells #[.int .i32 0,.int .u32 0,.pointer (some ⟨b,0,none⟩)] 95))∧(∀g∈a.heap.size::f::F',w.heap.size≤g)∧a.heap.size∉f::F'∧Below w.heap.size w (a.alloc (.cells #[.int .i32 0,.int .u32 0,.pointer (some ⟨b,0,none⟩)] 95))):=
  ⟨b,F,heap_alloc_new _ _,i.keep fun g j=> c.block g (i.lt g j),fun g j=> (List.mem_cons.1 j).elim (fun e=> by omega) (k g),fun q=> by have:=i.lt _ q;omega,d.trans (c.mono h)⟩
 clear i k d h c
 go_wp2_with fail
 go_ret
 obtain ⟨f,F',l,m,n,o,p⟩:=H.out
 exact ⟨_,f,F',rfl,l,m,n,o,p⟩
def SmQ (V:Tr.Key→Option Tr.Key) (N x b:Nat) (F:List Nat) (k:Int) (key v:ByteArray) (w:World) (r:Ending) (w':World):Prop:=
 r= .returned (.int .i64 (if Pg.isChange k key.size v.size then 0 else 1))∧ST w' x b∧∃F',TreM (if Pg.isChange k key.size v.size then fun k'=> Tr.one k' (V k') (chP k key v) else V) (N+1) b F' w'∧Gone (b::F) (b::F') w w'
theorem TreM.up {V:Tr.Key→Option Tr.Key} {N b:Nat} {F:List Nat} {w:World} (h:TreM V N b F w):TreM V (N+1) b F w:=by
 obtain ⟨h,p,t,c,a⟩:=h
 exact ⟨h,p,t,Nat.le_trans c (Nat.mul_le_mul_right _ (Nat.le_succ N)),a.tb,a.rep,a.nd,a.nb,a.root.wf,a.root.top,a.root.val,Nat.le_trans a.root.wt (Nat.mul_le_mul_left 2 (Nat.le_succ _))⟩
theorem sm_end {V':Tr.Key→Option Tr.Key} {N x b:Nat} {F F':List Nat} {w w0 a:World} (d:Below w.heap.size w w0) (c:ST w0 x b) (l:Mod (fun g=> g∈b::F) (w0.setCell ⟨x,0,none⟩ (.int .i32 1)) a) (h:x∉b::F) (i:TreM V' N b F' a) (j:∀g∈b::F',g∈b::F∨w0.heap.size≤g):ST (a.setCell ⟨x,0,none⟩ (.int .i32 0)) x b∧TreM V' N b F' (a.setCell ⟨x,0,none⟩ (.int .i32 0))∧Gone (b::F) (b::F') w (a.setCell ⟨x,0,none⟩ (.int .i32 0)):=by
 obtain ⟨m,k⟩:=lock_mod c l h
 refine ⟨k,i.keep fun g f=> (Mod.setCell a x 0 (.int .i32 0)).block g (i.lt g f) fun e=> ?_,Gone.of_mod d m j⟩
 rcases j g f with q | q
 ·exact h (by rw [←e];exact q)
 ·have:=c.lt;omega
set_option maxHeartbeats 1000000 in
set_option maxRecDepth 20000 in
theorem sMake_any (V:Tr.Key→Option Tr.Key) (N x b:Nat) (F:List Nat) (k:Int) (key v:ByteArray) (w:World) (T:ST w x b) (U:TreM V N b F w) (hx:x∉b::F) (hN:N+1≤900000):
  Calls Tryz.prog 14 #[.pointer (some ⟨x,0,none⟩),.agg #[.int .i64 k,.string key,.string v]] w (SmQ V N x b F k key v w):=by
 have i:Below w.heap.size w (w.alloc (.cells #[.int .i64 k,.string key,.string v] 34)):=(Below.refl _ w).alloc (Nat.le_refl _) _
 have u:=hid i
 have J:=hid T.lt
 have I:=hid hx
 have j:=T.below i
 have l:TreM V N b F (w.alloc (.cells #[.int .i64 k,.string key,.string v] 34)):=U.keep fun g h=> i.block g (U.lt g h)
 have m:ChB (w.alloc (.cells #[.int .i64 k,.string key,.string v] 34)) w.heap.size k key v:=heap_alloc_new _ _
 clear T U hx i
 generalize H:w.alloc (.cells #[.int .i64 k,.string key,.string v] 34)=w0 at*
 have K:=hid H
 clear H
 have y:=hid j
 have z:=hid (Mod.setCell w0 x 0 (.int .i32 1))
 have A:=hid j.lock
 have B:Hid (TreM V N b F (w0.setCell ⟨x,0,none⟩ (.int .i32 1))):=l.keep fun g h=> z.out.block g (l.lt g h) fun e=> I.out (by rw [←e];exact h)
 have n:Hid (ChB (w0.setCell ⟨x,0,none⟩ (.int .i32 1)) w.heap.size k key v):=(z.out.block _ m.lt (by have:=J.out;omega)).trans m
 obtain ⟨W,s2,X⟩:=j.cells
 have C:=X 0
 obtain ⟨Y,Z,d2⟩:=n.out.cells
 clear j l m X
 go_enter_defers Tryz.func14,Tryz.ntmps14
 go_wp2_with (go_at_call 34;rw [K.out];refine (lock_free muLib ⟨x,0,none⟩ w0 W C).mono ?_;rintro e w' ⟨rfl,rfl⟩)
 have L:Hid ((w0.setCell ⟨x,0,none⟩ (.int .i32 1)).heap.size=w0.heap.size):=by show _=_;simp [World.setCell]
 refine (isChange_any k key v _).mono ?_
 rintro r t ⟨rfl,c⟩
 have o:=hid c
 have p:Hid (SL t x b):=(c.block x A.out.lt).trans A.out
 have M:Hid (ChB t w.heap.size k key v):=(c.block _ n.out.lt).trans n.out
 have D:Hid (TreM V N b F t):=B.out.keep fun g h=> c.block g (B.out.lt g h)
 clear c Y Z d2 W s2 C
 obtain ⟨Y,Z,d2⟩:=M.out.cells
 obtain ⟨l0,l2,lf⟩:=p.out.cells
 have O:=lf 0
 clear lf
 cases d:Pg.isChange k key.size v.size with
 | false=>
  have E:=hid (sm_end (V':=V) (N:=N+1) (F':=F) u.out y.out (Mod.of_below o.out) I.out D.out.up (fun g h=> .inl h))
  have s:=hid d
  clear d
  go_wp2_with fail
  refine leaves_cons (f:=35) (args:= #[.pointer (some ⟨x,0,none⟩)]) (by simp) (by simp [go_sem]) ?_
  refine (unlock_deferred muLib ⟨x,0,none⟩ .returning _ l0 O).mono ?_
  rintro e u' S ⟨rfl,rfl,rfl⟩
  refine ⟨_,results_tmp rfl _ _ _,?_⟩
  unfold SmQ
  rw [s.out]
  exact ⟨rfl,E.out.1,F,E.out.2⟩
 | true=>
  have P:=hid (tMake_any V N b F k key v t.drew (D.out.keep fun _ _=> rfl) hN (show Tr.okCh (chP k key v) by
   show Pg.isChange k key.data.toList.length v.data.toList.length=true
   rw [len_size,len_size];exact d))
  have s:=hid d
  clear d
  go_upto_region 5 with fail
  first | go_region_law (go_simp;go_at_call 37;refine P.out.mono ?_;rintro r w3 ⟨rfl,F',G,a⟩;have E:=hid (sm_end (V':=fun k'=> Tr.one k' (V k') (chP k key v)) (N:=N+1) (F':=F') u.out y.out (((Mod.of_below (F:=fun g=> g∈b::F) o.out).trans (show Mod (fun g=> g∈b::F) t w3 from ⟨a.1.os,a.1.tape,a.1.output,a.1.size,a.1.block⟩) (fun _ _ q=> q) (fun _ _ q=> q))) I.out G (fun g h=> (a.2 g h).imp id (fun q=> by have h1:t.heap.size≤g:=q;have h2:=o.out.size;rw [L.out] at h2;omega)));have Q:Hid (SL w3 x b):=(a.1.block x p.out.lt I.out).trans p.out;clear G a;obtain ⟨z0,z2,zf⟩:=Q.out.cells;have R:=zf 0;clear zf) | fail
  all_goals
   go_wp2_with fail
   refine leaves_cons (f:=35) (args:= #[.pointer (some ⟨x,0,none⟩)]) (by simp) (by simp [go_sem]) ?_
   refine (unlock_deferred muLib ⟨x,0,none⟩ .returning _ z0 R).mono ?_
   rintro e u' S ⟨rfl,rfl,rfl⟩
   refine ⟨_,results_tmp rfl _ _ _,?_⟩
   unfold SmQ
   rw [s.out]
   exact ⟨rfl,E.out.1,F',E.out.2⟩
set_option maxHeartbeats 1000000 in
set_option maxRecDepth 20000 in
theorem sScan_any (V:Tr.Key→Option Tr.Key) (N x b:Nat) (F:List Nat) (q ub:ByteArray) (w:World) (o:ST w x b) (H:TreM V N b F w) (O:x∉b::F) (T:N≤900000):
  Calls Tryz.prog 19 #[.pointer (some ⟨x,0,none⟩),.string q,.string ub] w fun r w'=>∃v il,r= .returned (.tuple #[v,.int .i64 0])∧OwnsI w.heap.size w' v il∧Below w.heap.size w w'∧Tr.Rising (plain il)∧∀k,(¬k < q.data.toList∧Tr.inTo ub.data.toList k→Tr.look (plain il) k=V k)∧(¬(¬k < q.data.toList∧Tr.inTo ub.data.toList k)→Tr.look (plain il) k=none):=by
 have s:=hid o
 have P:=hid O
 have t:=hid (Mod.setCell w x 0 (.int .i32 1))
 have d:=hid o.lock
 have u:Hid (TreM V N b F (w.setCell ⟨x,0,none⟩ (.int .i32 1))):=H.keep fun g p=> t.out.block g (H.lt g p) fun e=> P.out (by rw [←e];exact p)
 have y:Hid ((w.setCell ⟨x,0,none⟩ (.int .i32 1)).heap.size=w.heap.size):=by show _=_;simp [World.setCell]
 have z:=hid o.lt
 obtain ⟨J,-,K⟩:=o.cells
 have j:=K 0
 obtain ⟨E,L,-⟩:=d.out.cells
 have A:=hid (tScan_any V N b F q ub _ u.out T)
 clear o H O K
 go_enter_defers Tryz.func19,Tryz.ntmps19
 go_wp2_with (go_at_call 34;refine (lock_free muLib ⟨x,0,none⟩ w J j).mono ?_;rintro e w' ⟨rfl,rfl⟩)
 refine A.out.mono ?_
 rintro r G ⟨v,il,rfl,h,i,l,m⟩
 have Q:=hid (And.intro l m)
 have B:Hid (SL G x b):=(i.block x d.out.lt).trans d.out
 have C:=hid h
 have R:=hid (lock_below s.out i)
 clear i E L J j l m
 obtain ⟨E,L,M⟩:=B.out.cells
 have D:=M 0
 obtain ⟨a,n,c,rfl⟩:=shape3 h
 clear h M
 go_wp2_with fail
 refine leaves_cons (f:=35) (args:= #[.pointer (some ⟨x,0,none⟩)]) (by simp) (by simp [go_sem]) ?_
 refine (unlock_deferred muLib ⟨x,0,none⟩ .returning _ E D).mono ?_
 rintro e X S ⟨rfl,rfl,rfl⟩
 refine ⟨_,results_tmp2 rfl _ _ _,?_⟩
 have I:OwnsI w.heap.size G (.slice a n c) il:=by have:=C.out;rw [y.out] at this;exact this
 refine ⟨_,il,rfl,?_,R.out,Q.out⟩
 exact (Mod.setCell G x 0 (.int .i32 0)).row I fun g p e=> by have U:=(World.ownsRow.lt I g p).1;have W:=z.out;omega
end Go.Proofs.YtolgpnaoaodepaaGreat
namespace Go.Proofs.YtolgpnaoaodepaaGreat
open Go.RowKit
abbrev Wn:=Nat×List (Int×ByteArray×ByteArray)
def WnOk (w:World) (x:Wn):Prop:=∃vi vp vc,NodT w x.1 vi vp vc∧OwnsC 0 w vc x.2∧x.2.length≤8∧∀c∈x.2,c.2.2.size≤16
def wayV (key:Tr.Key) (s:Option Tr.Key) (wl:List Wn):Option Tr.Key:=wl.foldr (fun x s=> Tr.afterAll (plainCh x.2) key s) s
theorem wayV_snoc (key:Tr.Key) (s:Option Tr.Key) (a:List Wn) (x:Wn):wayV key s (a++[x])=wayV key (Tr.afterAll (plainCh x.2) key s) a:=by
 unfold wayV;rw [List.foldr_append];rfl
theorem chs_small {a:List Tr.Ch} {ml:List (Int×ByteArray×ByteArray)} (e:plainCh ml=a) (h:∀c∈a,Tr.okCh c):∀c∈ml,c.2.2.size≤16:=fun c f=> by
 have b:(c.1,c.2.1.data.toList,c.2.2.data.toList)∈a:=by rw [←e];exact List.mem_map.2 ⟨c,f,rfl⟩
 have d:=(Tr.okCh_key (h _ b)).2
 rw [←len_size];exact d
theorem treeDown {h:Nat} {w:World} {p:Nat} {s:List (Tr.Key×Tr.TreeT h)} {q:List Tr.Ch} {F:List Nat} {lo:Tr.Key} {hi:Option Tr.Key} {key:Tr.Key} (R:Rep (h+1) w p (s,q) F) (S:Tr.WF (h+1) lo hi (s,q)) (I:Tr.Top (h+1) (s,q)) (T:Tr.inR lo hi key):
  ∃vp vc pl ml,NodT w p (.slice none 0 0) vp vc∧OwnsP 0 w vp pl∧pl.length≤4∧OwnsC 0 w vc ml∧WnOk w (p,ml)∧∃(a:Tr.ix (pkeys pl) key < pl.length),∃r F' j k,Rep h w (pl[Tr.ix (pkeys pl) key]'a).2 r F'∧Tr.WF h j k r∧Tr.Top h r∧Tr.inR j k key∧Tr.room j k∧Tr.val (h+1) (s,q) key=Tr.afterAll (plainCh ml) key (Tr.val h r key):=by
 obtain ⟨vp,vc,pl,ml,G,D,v,o,e,g,rfl⟩:=R
 obtain ⟨y,z⟩:=S
 obtain ⟨A,f,t,B,m,K,E,H,L,M,V,W⟩:=Tr.chain_find y T
 have d:=g.keys
 have l:=g.len
 subst K
 obtain ⟨b,N,X,Y,rfl,O,P,C,rfl⟩:=Kids.split g
 match N,C with
 | x::B'',⟨ex,H1,H2,r1,hk3,_⟩=>
  have a:Tr.ix (pkeys (b++x::B'')) key=b.length:=by rw [d,E,O]
  have n:Tr.ix (pkeys (b++x::B'')) key < (b++x::B'').length:=by rw [a];simp
  have u:((b++x::B'')[Tr.ix (pkeys (b++x::B'')) key]'n)=x:=by
   have:∀i (hi:i < (b++x::B'').length),i=b.length→(b++x::B'')[i]'hi=x:=by
    rintro i hi rfl;simp
   exact this _ _ a
  refine ⟨vp,vc,_,ml,D,v,by rw [l];exact I.1,o,⟨_,_,_,D,o,?_,chs_small e fun c Q=> (z c Q).2⟩,n,t,H1,f,m,by rw [u];exact r1,H.1,H.2,M,L,?_⟩
  ·show ml.length≤8
   have J:=plainCh_len ml
   have U:q.length≤8:=I.2
   rw [e] at J;omega
  ·rw [e];exact Tr.val_at E
end Go.Proofs.YtolgpnaoaodepaaGreat
namespace Go.Proofs.YtolgpnaoaodepaaGreat
open Go.RowKit Go.Shelf
attribute [local go_sem] Oper.semAt_some
def BackK (n₀ Bs:Nat) (A B:World):Prop:=Below n₀ A B∧B.heap[Bs]?=A.heap[Bs]?
def back (n:Nat):List (Fin n):=(List.finRange n).reverse
theorem back_len (n:Nat):(back n).length=n:=by simp [back]
theorem back_at (n k:Nat) (h:k < n):(back n).take (k+1)=(back n).take k++[⟨n - 1 - k,by omega⟩]:=by
 unfold back
 have a:k < (List.finRange n).reverse.length:=by simpa using h
 rw [List.take_add_one,List.getElem?_eq_getElem a,List.getElem_reverse]
 simp
theorem back_fold {α β:Type} (a:List α) (g:α→β→β) (s:β):(back a.length).foldl (fun s i=> g (a[i.1]'i.2) s) s=a.foldr g s:=by
 unfold back
 rw [List.foldl_reverse]
 have e:a=(List.finRange a.length).map fun i=> a[i.1]'i.2:=by
  apply List.ext_getElem
  ·simp
  ·intro i b c;simp
 conv=> rhs;rw [e]
 rw [List.foldr_map]
theorem back_fold2 {α β:Type} (a:List α) (n:Nat) (b:n=a.length) (g:α→β→β) (s:β):(back n).foldl (fun s i=> g (a[i.1]'(by have:=i.2;omega)) s) s=a.foldr g s:=by
 subst b;exact back_fold a g s
set_option maxRecDepth 100000 in
set_option maxHeartbeats 2000000 in
theorem back1_in (F:Fence) (n:Nat) (K:F.fn 139) (L:F.round=none) (hn:1≤n) (l q c g C:Nat) (a:List Nat) (D:a.length≤4000000000000) (Z:g < c) (J P:List (Fin a.length)→World→Prop)
  (hY:∀b x W,J b W→b.length < a.length→YieldAt F (n - 1) Tryz.prog l #[.int .i64 (x.1:Int),.pointer (some ⟨a[x.1]'x.2,0,none⟩)] W fun e W'=>
   (e= .returned (.bool true)∧J (b++[x]) W'∧BackK c q W W')∨(e= .returned (.bool false)∧P (b++[x]) W'))
  (W:World) (M:W.heap[q]?=some (.cells #[.slice (some ⟨g,0,none⟩) a.length C] 133 (0,0))) (hc:∀j (h:j < a.length),W.cell? ⟨g,j,none⟩=some (.pointer (some ⟨a[j]'h,0,none⟩))) (h0:J [] W):
  CallsIn F n Tryz.prog 139 #[.func (.yield l) #[] #[],.pointer (some ⟨q,0,none⟩)] W fun e W'=> (∃v,e= .returned v)∧
   ((∃O,O=back a.length∧J O W')∨(∃b,True∧P b W')):=by
 have r:∀W':World,W'.heap[q]?=W.heap[q]?→W'.cell? ⟨q,0,none⟩=some (.slice (some ⟨g,0,none⟩) a.length C):=fun W' I=> by
  have:=I.trans M
  simp [World.cell?,this]
 have Q:=r W rfl
 refine callsIn_of_wp Tryz.func139 rfl K ?_ L
 simp only [Tryz.ntmps139,List.size_toArray,List.length_cons,List.length_nil,Nat.reduceAdd,Nat.reduceSub,Array.replicate_succ,Array.replicate_zero,List.push_toArray,List.append_toArray,List.nil_append,List.cons_append]
 have R:IntKind.i64.wrap ((a.length:Int) - 1)=(a.length:Int) - 1:=IntWalk.i64_in _ ⟨by omega,by omega⟩
 gi_wp2
 gi_loopw [3] (fun i wr=>∃k:Nat,k≤a.length∧i= .int .i64 ((a.length:Int) - 1 - k)∧J ((back a.length).take k) wr∧BackK c q W wr)
  (fun i _=> (intOf i+1).toNat)
 case atStart=> exact ⟨0,Nat.zero_le _,by simp,h0,Below.refl _ _,rfl⟩
 case round=>
  obtain ⟨k,V,rfl,t,u,w⟩:=hrel
  have S:=r wr w
  by_cases B:k < a.length
  ·have f:((back a.length).take k).length < a.length:=by rw [List.length_take,back_len];omega
   obtain ⟨m,y,d⟩:∃m,m=a.length - 1 - k∧m < a.length:=⟨_,rfl,by omega⟩
   have E:Hid ((back a.length).take (k+1)=(back a.length).take k++[⟨m,d⟩]):=by
    show _=_
    rw [back_at _ _ B]
    congr 2
    exact Fin.ext y.symm
   obtain ⟨fn,N,assign,body,X,Y⟩:=hY _ ⟨m,d⟩ wr t f
   dsimp only at X
   have T:wr.cell? ⟨g,m,none⟩=some (.pointer (some ⟨a[m]'d,0,none⟩)):=(u.cell (p:=⟨g,m,none⟩) Z).trans (hc m d)
   have o:((a.length:Int) - 1 - k)=(m:Int):=by omega
   rw [o]
   have U:IntKind.i64.wrap ((m:Int) - 1)=(m:Int) - 1:=IntWalk.i64_in _ ⟨by omega,by omega⟩
   have s:=hid o
   clear o y V B f
   gi_wp2
   refine Y.mono ?_
   rintro e W3 (⟨rfl,H,z⟩ | ⟨rfl,A⟩)
   ·gi_wp2
    go_roundw
    case rel=> exact ⟨k+1,by have:=s.out;omega,by have:=s.out;congr 1;omega,by rw [E.out];exact H,u.trans z.1,z.2.trans w⟩
    case measure=> simp [intOf]
   ·gi_wp2
    refine bodyPost_ret (results_none rfl _ _ _) rfl ?_
    exact ⟨⟨_,rfl⟩,.inr ⟨_,trivial,A⟩⟩
  ·obtain rfl:k=a.length:=by omega
   have G:Hid ((back a.length).take a.length=back a.length):=List.take_of_length_le (by rw [back_len];exact Nat.le_refl _)
   gi_wp2
   go_end0
   exact ⟨⟨_,rfl⟩,.inl ⟨_,rfl,by rw [←G.out];exact t⟩⟩
set_option maxRecDepth 100000 in
set_option maxHeartbeats 1000000 in
theorem back1_nil (F:Fence) (n:Nat) (b:F.fn 139) (c:F.round=none) (l d:Nat) (J:World→Prop) (W:World) (f:W.cell? ⟨d,0,none⟩=some (.slice none 0 0)) (h0:J W):
  CallsIn F n Tryz.prog 139 #[.func (.yield l) #[] #[],.pointer (some ⟨d,0,none⟩)] W fun e W'=> (∃v,e= .returned v)∧J W':=by
 refine callsIn_of_wp Tryz.func139 rfl b ?_ c
 simp only [Tryz.ntmps139,List.size_toArray,List.length_cons,List.length_nil,Nat.reduceAdd,Nat.reduceSub,Array.replicate_succ,Array.replicate_zero,List.push_toArray,List.append_toArray,List.nil_append,List.cons_append]
 gi_wp2
 gi_loopw [3] (fun i wr=> i= .int .i64 (-1)∧J wr) (fun _ _=> 0)
 case atStart=> exact ⟨rfl,h0⟩
 case round=>
  obtain ⟨rfl,a⟩:=hrel
  gi_wp2
  go_end0
  exact ⟨⟨_,rfl⟩,a⟩
theorem BackK.trans {a b:Nat} {A B C:World} (c:BackK a b A B) (d:BackK a b B C):BackK a b A C:=⟨c.1.trans d.1,d.2.trans c.2⟩
theorem row_ptr {w:World} {B:Nat} {e:TypeId} {a:List Nat} {g b:Nat} (h:w.ownsRow B e 1 (.slice (some ⟨g,0,none⟩) a.length b) a.length (a.map fun g=> .pointer (some ⟨g,0,none⟩))):∀j (h:j < a.length),w.cell? ⟨g,j,none⟩=some (.pointer (some ⟨a[j]'h,0,none⟩)):=fun j c=> by
 have:=h.cells rfl j (.pointer (some ⟨a[j]'c,0,none⟩)) (by simp [c])
 rw [off_add] at this
 simpa using this
theorem back_stops (F:Fence) (n:Nat) (i:F.fn 139) (j:F.round=none) (E:1≤n) (d a:Nat) (p:Value) (b:List Nat) (c:b.length≤4000000000000) (w:World) (s:w.heap[d]?=some (.cells #[p] 133 (0,0)))
  (hI:w.ownsRow 0 120 1 p b.length (b.map fun g=> .pointer (some ⟨g,0,none⟩))) (q:∀g,p.ownBlock=some g→g < a):
  SeqStopsK F n Tryz.prog 139 #[.pointer (some ⟨d,0,none⟩)] (fun x:Fin b.length=> #[Value.int .i64 (x.1:Int),.pointer (some ⟨b[x.1]'x.2,0,none⟩)]) (BackK a d) (fun B=> B=back b.length) (fun _=> True) b.length w:=fun l J C W r _ _ D h0=> by
 have k:d < w.heap.size:=(Array.getElem?_eq_some_iff.1 s).1
 have f:=(r.block d k).trans s
 have h:=row_below hI r (Nat.le_refl _)
 rcases h.2 with ⟨e,m⟩ | ⟨g,o,v,e,G,H,y,I,z,A⟩
 ·subst e
  obtain rfl:b=[]:=List.eq_nil_of_length_eq_zero m
  refine (back1_nil F n i j l d (J []) W (by simp [World.cell?,f]) h0).mono ?_
  rintro e W' ⟨t,u⟩
  exact ⟨t,.inl ⟨[],rfl,u⟩⟩
 ·subst e
  exact back1_in F n i j E l d a g o b c (q g rfl) J C D W f (row_ptr h) h0
set_option maxHeartbeats 1000000 in
theorem back_any (a:Option Addr) (b c:Nat) (w:World):
  Calls Tryz.prog 79 #[.slice a b c] w fun e w'=> e= .returned (.func (.func 139) #[] #[.pointer (some ⟨w.heap.size,0,none⟩)])∧w'=w.alloc (.cells #[.slice a b c] 133):=by
 go_enter Tryz.func79,Tryz.ntmps79
 go_wp2_with fail
 go_ret
 exact ⟨rfl,rfl⟩
end Go.Proofs.YtolgpnaoaodepaaGreat
