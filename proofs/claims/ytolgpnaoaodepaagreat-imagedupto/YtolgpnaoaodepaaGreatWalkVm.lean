import Derived.Test.YtolgpnaoaodepaaGreatWalkRm
import Derived.Lib.BufferWrite
import Derived.Lib.UnsafeStr
import Derived.Test.YtolgpnaoaodepaaGreatTreZWm
import Derived.Deep.DeepCutAuto
namespace Go.Proofs.YtolgpnaoaodepaaGreat
open Go.RowKit
theorem cells_u8:Tryz.prog.cellsOf 5=1:=by kernel_rfl
set_option maxHeartbeats 1000000 in
set_option maxRecDepth 20000 in
theorem sliteClone_any (s:ByteArray) (w:World) (z:s.size≤35184372088832):
  Calls Tryz.prog 124 #[.string s] w fun r w'=> r= .returned (.string s)∧Below w.heap.size w w':=by
 by_cases h0:s.size=0
 ·have m:s=⟨#[]⟩:=ByteArray.ext (Array.eq_empty_of_size_eq_zero h0)
  subst m
  go_enter Tryz.func124,Tryz.ntmps124
  go_wp2_with fail
  go_ret
  exact ⟨rfl,Below.refl _ _⟩
 ·obtain ⟨i,hi,c,b,d⟩:=info_parts info_u8
  obtain ⟨Z,f⟩:∃Z,Z=madeCells (Value.int .u8 0).cells (((s.size:Nat):Int).toNat*i.size):=⟨_,rfl⟩
  have n:Z.size=s.size:=by rw [f,size_madeCells,b];simp
  have mk:∀W:World,(Instr.makeSlice 108 (.int .i64 (s.size:Int)) (.int .i64 (s.size:Int))).run Tryz.prog W= .ok (.slice (some ⟨W.heap.size,0,none⟩) s.size s.size) (W.alloc (.cells Z 5)):=fun W=> by
   have h:=run_make (P:=Tryz.prog) W 108 5 i (.int .u8 0) Tryz.underlying108 hi c .i64 .i64 (s.size:Int) (s.size:Int) (by omega) (by omega) (by rw [d];omega) (by omega)
   rw [←f] at h
   simpa using h
  clear f
  have o:=Lib.run_copy_row_string (P:=Tryz.prog) (w.alloc (.cells Z 5)) 108 9 3 5 w.heap.size 0 s.size s.size s Z 5 Tryz.underlying108 (by rw [hi];simp [b]) (heap_alloc_new w _) (Nat.le_refl _) (by omega)
  obtain ⟨Y,g⟩:∃Y,Y=(Z.toList.take 0++Lib.byteCells s.data.toList++Z.toList.drop (0+s.size)).toArray:=⟨_,rfl⟩
  have a:Y.toList=Lib.byteCells s.data.toList:=by
   rw [g,List.toList_toArray,List.take_zero,List.nil_append,List.drop_of_length_le (by rw [Array.length_toList];omega),List.append_nil]
  have q:Y.size=s.size:=by rw [←Array.length_toList,a,Lib.byteCells_length,len_size]
  rw [←g] at o
  have l:((w.alloc (.cells Z 5)).setRow w.heap.size Y).heap[w.heap.size]?=some (.cells Y 5 (0,0)):=setRow_heap _ _ Z _ 5 (0,0) (heap_alloc_new w _)
  have t:=Lib.run_unsafeString_row (P:=Tryz.prog) ((w.alloc (.cells Z 5)).setRow w.heap.size Y) 223 3 9 5 Tryz.underlying223 cells_u8 w.heap.size Y.size (by unfold World.shape?;rw [l]) s.data.toList (fun e=> h0 (by rw [←len_size,e];rfl)) (by rw [len_size];omega) (by rw [len_size];omega)
   (fun j x v=> Lib.cells_of_row l Y.size j _ (by rw [List.take_of_length_le (by rw [Array.length_toList];exact Nat.le_refl _),a];simp [Lib.byteCells,v]))
  rw [len_size] at t
  have u:=hid (Lib.below_freeze (((Below.refl w.heap.size w).alloc (Nat.le_refl _) (.cells Z 5)).trans (⟨rfl,rfl,rfl,by simp,fun k y=> setRow_other _ _ _ _ (by omega)⟩:Below w.heap.size (w.alloc (.cells Z 5)) ((w.alloc (.cells Z 5)).setRow w.heap.size Y))) (p:=⟨w.heap.size,0,none⟩) (Nat.le_refl _) s.size)
  clear g
  go_enter Tryz.func124,Tryz.ntmps124
  go_wp2_with fail
  go_ret
  exact ⟨rfl,u.out⟩
set_option maxHeartbeats 1000000 in
theorem clone_any (s:ByteArray) (w:World) (b:s.size≤35184372088832):
  Calls Tryz.prog 62 #[.string s] w fun r w'=> r= .returned (.string s)∧Below w.heap.size w w':=by
 go_enter Tryz.func62,Tryz.ntmps62
 go_wp2_with fail
 refine (sliteClone_any s _ b).mono ?_
 rintro r c ⟨rfl,a⟩
 go_wp2_with fail
 go_ret
 exact ⟨rfl,a⟩
end Go.Proofs.YtolgpnaoaodepaaGreat
namespace Go.Proofs.YtolgpnaoaodepaaGreat
open Go.RowKit
def TB (w:World) (b p:Nat):Prop:=w.heap[b]?=some (.cells #[.pointer (some ⟨p,0,none⟩)] 125 (0,0))
theorem TB.lt {w:World} {b p:Nat} (h:TB w b p):b < w.heap.size:=(Array.getElem?_eq_some_iff.1 h).1
theorem TB.cells {w:World} {b p:Nat} (h:TB w b p):w.cell? ⟨b,0,none⟩=some (.pointer (some ⟨p,0,none⟩))∧w.frozen? ⟨b,0,none⟩=false:=by
 unfold TB at h
 refine ⟨?_,?_⟩ <;> simp [World.cell?,World.frozen?,h]
theorem TB.set {w:World} {b p:Nat} (h:TB w b p) (q:Nat):TB (w.setCell ⟨b,0,none⟩ (.pointer (some ⟨q,0,none⟩))) b q:=by
 unfold TB at*;rw [heap_setCell_at (i:=0) h];rfl
theorem TB.keep {w w':World} {b p:Nat} (h:TB w b p) (a:w'.heap[b]?=w.heap[b]?):TB w' b p:=a.trans h
structure TreQ (V:Tr.Key→Option Tr.Key) (N b h p:Nat) (t:Tr.TreeT h) (F:List Nat) (w:World):Prop where
 tb:TB w b p
 rep:Rep h w p t F
 nd:F.Nodup
 nb:b∉F
 root:Tr.Root V N h t
def TreM (V:Tr.Key→Option Tr.Key) (N b:Nat) (F:List Nat) (w:World):Prop:=∃h p t,h≤N*2000000∧TreQ V N b h p t F w
theorem TreM.lt {V:Tr.Key→Option Tr.Key} {N b:Nat} {F:List Nat} {w:World} (h:TreM V N b F w):∀g∈b::F,g < w.heap.size:=fun g c=> by
 obtain ⟨h,p,t,d,a⟩:=h
 rcases List.mem_cons.1 c with q | q
 ·rw [q];exact a.tb.lt
 ·exact a.rep.lt g q
theorem TreM.keep {V:Tr.Key→Option Tr.Key} {N b:Nat} {F:List Nat} {w w':World} (h:TreM V N b F w) (c:∀g∈b::F,w'.heap[g]?=w.heap[g]?):TreM V N b F w':=by
 obtain ⟨h,p,t,d,a⟩:=h
 exact ⟨h,p,t,d,a.tb.keep (c b (List.mem_cons_self ..)),a.rep.keep fun g e=> c g (List.mem_cons_of_mem _ e),a.nd,a.nb,a.root⟩
def hgt:Nat→World→Nat→Nat
 | 0,_,_=> 0
 | n+1,w,p=> match w.cell? ⟨p,1,none⟩ with
  | some (.slice (some ⟨g,o,_⟩) (_+1) _)=> match w.cell? ⟨g,o+1,none⟩ with
   | some (.pointer (some ⟨q,_,_⟩))=> 1+hgt n w q
   | _=> 0
  | _=> 0
theorem hgt_rep:∀(h n:Nat) {w:World} {p:Nat} {t:Tr.TreeT h} {F:List Nat} {lo:Tr.Key} {hi:Option Tr.Key},h≤n→Rep h w p t F→Tr.WF h lo hi t→Tr.room lo hi→hgt n w p=h
 | 0,0,_,_,_,_,_,_,_,_,_,_=> rfl
 | 0,n+1,w,p,t,F,lo,hi,_,hr,_,_=> by
  obtain ⟨o,il,c,s,rfl,rfl⟩:=hr
  unfold hgt
  rw [c.cells.2.1]
 | h+1,0,_,_,_,_,_,_,hh,_,_,_=> by omega
 | h+1,n+1,w,p,(ps,cs),F,lo,hi,hh,hr,hw,hm=> by
  obtain ⟨vp,vc,pl,ml,G,c,a,i,rfl,j,rfl⟩:=hr
  match ps,hw.1,pl,j,a with
  | [],hc,_,_,_=> exact absurd (hm lo (show some lo=hi from hc).symm).1 (Tr.lt_ir lo)
  | (f,t)::r,⟨e,m,h1,h2,h3⟩,x::pl,⟨ex,G1,G2,r1,hk2,eG⟩,a=>
   obtain ⟨g,k,rfl,d,-,u,v,l⟩:=a.at 0 (by simp)
   unfold hgt
   rw [c.cells.2.1]
   have b:w.cell? ⟨g,0+1,none⟩=some (.pointer (some ⟨x.2,0,none⟩)):=by simpa using l
   show (match w.cell? ⟨g,0+1,none⟩ with | some (.pointer (some ⟨q,_,_⟩))=> 1+hgt n w q | _=> 0)=h+1
   rw [b]
   show 1+hgt n w x.2=h+1
   rw [hgt_rep h n (by omega) r1 h2.1 h1];omega
def rootH (n b:Nat) (w:World):Nat:=match w.cell? ⟨b,0,none⟩ with
 | some (.pointer (some ⟨p,_,_⟩))=> hgt n w p
 | _=> 0
theorem rootH_at {V:Tr.Key→Option Tr.Key} {N b h p n:Nat} {t:Tr.TreeT h} {F:List Nat} {w:World} (a:TreQ V N b h p t F w) (c:h≤n):rootH n b w=h:=by
 unfold rootH;rw [a.tb.cells.1];exact hgt_rep h n c a.rep a.root.wf Tr.room_all
end Go.Proofs.YtolgpnaoaodepaaGreat
namespace Go.Proofs.YtolgpnaoaodepaaGreat
open Go.RowKit
structure CW (w:World) (k:Int) (key x:ByteArray) (W:World):Prop where
 ch:ChB W w.heap.size k key x
 bel:Below w.heap.size w W
theorem CW.below {w:World} {k:Int} {key x:ByteArray} {W W':World} (h:CW w k key x W) (a:Below W.heap.size W W'):CW w k key x W':=⟨(a.block _ h.ch.lt).trans h.ch,h.bel.trans (a.mono h.bel.size)⟩
theorem CW.drew {w:World} {k:Int} {key x:ByteArray} {W:World} (h:CW w k key x W):CW w k key x W.drew:=h.below (Below.refl _ W).drew
theorem ChB.set1 {w:World} {b:Nat} {k:Int} {key x:ByteArray} (h:ChB w b k key x):ChB (w.setCell ⟨b,1,none⟩ (.string key)) b k key x:=by unfold ChB at*;rw [heap_setCell_at (i:=1) h];rfl
theorem ChB.set2 {w:World} {b:Nat} {k:Int} {key x:ByteArray} (h:ChB w b k key x):ChB (w.setCell ⟨b,2,none⟩ (.string x)) b k key x:=by unfold ChB at*;rw [heap_setCell_at (i:=2) h];rfl
theorem ChB.froz {w:World} {b:Nat} {k:Int} {key x:ByteArray} (h:ChB w b k key x):w.frozen? ⟨b,0,none⟩=false∧w.frozen? ⟨b,1,none⟩=false∧w.frozen? ⟨b,2,none⟩=false:=by
 unfold ChB at h
 refine ⟨?_,?_,?_⟩ <;> simp [World.frozen?,h]
theorem CW.stores {w:World} {k:Int} {key x:ByteArray} {W:World} (h:CW w k key x W):CW w k key x ((W.setCell ⟨w.heap.size,1,none⟩ (.string key)).setCell ⟨w.heap.size,2,none⟩ (.string x)):=
 ⟨h.ch.set1.set2,(h.bel.setCell (p:=⟨w.heap.size,1,none⟩) (Nat.le_refl _) _).setCell (p:=⟨w.heap.size,2,none⟩) (Nat.le_refl _) _⟩
theorem row_change (W:World) (k:Int) (key x:ByteArray):OwnsC 0 (W.alloc (.cells #[.int .i64 k,.string key,.string x] 34)) (.slice (some ⟨W.heap.size,0,none⟩) 1 1) [(k,key,x)]:=
 ⟨rfl,.inr ⟨W.heap.size,1,#[.int .i64 k,.string key,.string x],rfl,Nat.zero_le _,heap_alloc_new _ _,Nat.le_refl _,by unfold maxLen;omega,by simp,by simp [ccells]⟩⟩
structure MkP (V:Tr.Key→Option Tr.Key) (N b:Nat) (F:List Nat) (w:World) (h:Nat) (v:Value) (pl:List (ByteArray×Nat)) (ps:List (Tr.Key×Tr.TreeT h)) (G:List Nat) (W:World):Prop where
 tb:∃p,TB W b p
 row:OwnsP 0 W v pl
 kids:Kids (Rep h W) pl ps G
 nd:(blk v++G).Nodup
 lvl:Tr.Lvl V N h ps
 gone:Gone (b::F) (blk v++G) w W
 nb:b∉blk v++G
theorem MkP.start {V:Tr.Key→Option Tr.Key} {N b:Nat} {F:List Nat} {w:World} {h p:Nat} {t:Tr.TreeT h} {e:List Nat} {W W':World} {v:Value} {pl:List (ByteArray×Nat)} {G:List Nat} (c:TB W b p) (n:Tr.WF h [] none t) (o:Tr.Small h t) (r:∀k,Tr.val h t k=V k) (s:Tr.wt h t≤2*N) (d:Gone (b::F) (b::e) w W) (l:b∉e) (f:CtQ h W (Tr.cutT h [] t) v pl G W') (u:∀g∈G,g∈e∨W.heap.size≤g) (m:Below W.heap.size W W'):MkP V N b F w h v pl (Tr.cutT h [] t) G W':=by
 have i:=blk_new f.row
 have a:∀g∈blk v++G,g∈e∨W.heap.size≤g:=fun g d=> (List.mem_append.1 d).elim (fun q=> .inr (i g q)) (u g)
 refine ⟨⟨p,c.keep (m.block b c.lt)⟩,row_zero f.row,f.kids,f.nd,Tr.Lvl.start n o r s,⟨(d.trans (Gone.below m)).1,fun g j=> ?_⟩,fun q=> ?_⟩
 ·rcases a g j with z | z
  ·exact d.2 g (List.mem_cons_of_mem _ z)
  ·exact .inr (Nat.le_trans d.1.size z)
 ·rcases a b q with z | z
  ·exact l z
  ·have:=c.lt;omega
theorem MkP.node {V:Tr.Key→Option Tr.Key} {N b:Nat} {F:List Nat} {w:World} {h:Nat} {v:Value} {pl:List (ByteArray×Nat)} {i:List (Tr.Key×Tr.TreeT h)} {G:List Nat} {W:World} (d:MkP V N b F w h v pl i G W):Rep (h+1) (W.alloc (.cells #[.slice none 0 0,v,.slice none 0 0] 123)) W.heap.size (Tr.brT i []) (W.heap.size::(blk v++G))∧(W.heap.size::(blk v++G)).Nodup∧(∀g∈blk v++G,g < W.heap.size):=by
 have c:∀g∈blk v++G,g < W.heap.size:=fun g e=> (List.mem_append.1 e).elim (fun q=> (World.ownsRow.lt d.row g (mem_blk.1 q)).2) (fun q=> d.kids.lt g q)
 have f:Below W.heap.size W (W.alloc (.cells #[.slice none 0 0,v,.slice none 0 0] 123)):=(Below.refl _ W).alloc (Nat.le_refl _) _
 refine ⟨⟨v,.slice none 0 0,pl,[],G,heap_alloc_new _ _,row_below d.row f (Nat.le_refl _),World.ownsRow_nil _ _ _ _,rfl,d.kids.keep fun g e=> f.block g (c g (List.mem_append_right _ e)),by simp [blk,Value.ownBlock]⟩,List.nodup_cons.2 ⟨fun q=> by have:=c _ q;omega,d.nd⟩,c⟩
theorem MkP.up {V:Tr.Key→Option Tr.Key} {N b:Nat} {F:List Nat} {w:World} {h:Nat} {v r:Value} {pl j:List (ByteArray×Nat)} {k:List (Tr.Key×Tr.TreeT h)} {G l:List Nat} {W W':World} (f:MkP V N b F w h v pl k G W) (u:1 < k.length) (m:CtQ (h+1) (W.alloc (.cells #[.slice none 0 0,v,.slice none 0 0] 123)) (Tr.cutT (h+1) [] (Tr.brT k [])) r j l W') (x:∀g∈l,g∈W.heap.size::(blk v++G)∨(W.alloc (.cells #[.slice none 0 0,v,.slice none 0 0] 123)).heap.size≤g) (y:Below (W.alloc (.cells #[.slice none 0 0,v,.slice none 0 0] 123)).heap.size (W.alloc (.cells #[.slice none 0 0,v,.slice none 0 0] 123)) W'):MkP V N b F w (h+1) r j (Tr.cutT (h+1) [] (Tr.brT k [])) l W':=by
 obtain ⟨p,d⟩:=f.tb
 have c:Below W.heap.size W (W.alloc (.cells #[.slice none 0 0,v,.slice none 0 0] 123)):=(Below.refl _ W).alloc (Nat.le_refl _) _
 have i:Below W.heap.size W W':=c.trans (y.mono c.size)
 have s:=c.size
 have n:=blk_new m.row
 have a:∀g∈blk r++l,g∈blk v++G∨W.heap.size≤g:=fun g t=> (List.mem_append.1 t).elim (fun q=> .inr (by have:=n g q;omega)) (fun q=> (x g q).elim (fun z=> (List.mem_cons.1 z).elim (fun e=> .inr (by omega)) .inl) (fun z=> .inr (by omega)))
 refine ⟨⟨p,d.keep (i.block b d.lt)⟩,row_zero m.row,m.kids,m.nd,f.lvl.up u,⟨(f.gone.trans (Gone.below i)).1,fun g o=> ?_⟩,fun q=> ?_⟩
 ·rcases a g o with z | z
  ·exact f.gone.2 g z
  ·exact .inr (Nat.le_trans f.gone.1.size z)
 ·rcases a b q with z | z
  ·exact f.nb z
  ·have:=d.lt;omega
theorem MkP.root {V:Tr.Key→Option Tr.Key} {N b:Nat} {F:List Nat} {w:World} {h:Nat} {v:Value} {x:ByteArray×Nat} {l:List (Tr.Key×Tr.TreeT h)} {G:List Nat} {W:World} (a:MkP V N b F w h v [x] l G W):∃t,TreQ V N b h x.2 t G (W.setCell ⟨b,0,none⟩ (.pointer (some ⟨x.2,0,none⟩)))∧Gone (b::F) (b::G) w (W.setCell ⟨b,0,none⟩ (.pointer (some ⟨x.2,0,none⟩))):=by
 obtain ⟨p,k⟩:=a.tb
 have n:=a.kids
 have d:=a.lvl
 match l,n,d with
 | [(f,t)],⟨e,G1,G2,r1,i,eG⟩,d=>
  have i:G2=[]:=i
  subst i
  rw [List.append_nil] at eG
  subst eG
  have m:=Mod.setCell W b 0 (.pointer (some ⟨x.2,0,none⟩))
  have j:∀g∈G,g≠b:=fun g c q=> a.nb (by rw [←q];exact List.mem_append_right _ c)
  refine ⟨t,⟨k.set _,r1.keep fun g c=> m.block g (r1.lt g c) (j g c),(List.nodup_append.1 a.nd).2.1,fun q=> a.nb (List.mem_append_right _ q),d.root⟩,a.gone.1.trans m (fun _ _ q=> q) (fun g _ q=> by simp [q]),fun g c=> ?_⟩
  rcases List.mem_cons.1 c with q | q
  ·exact .inl (by simp [q])
  ·exact a.gone.2 g (List.mem_append_right _ q)
theorem TreQ.idle {V:Tr.Key→Option Tr.Key} {N b h p:Nat} {z:List (Tr.Key×Tr.TreeT h)} {F:List Nat} {w:World} (o:TreQ V N b (h+1) p (Tr.brT z []) F w) (H:z.length=1):∃g i a c q,NodT w p (.slice none 0 0) (.slice (some ⟨g,0,none⟩) 1 i) (.slice a 0 c)∧w.cell? ⟨g,1,none⟩=some (.pointer (some ⟨q,0,none⟩))∧1≤i∧∃t F',TreQ V N b h q t F' (w.setCell ⟨b,0,none⟩ (.pointer (some ⟨q,0,none⟩)))∧Gone (b::F) (b::F') w (w.setCell ⟨b,0,none⟩ (.pointer (some ⟨q,0,none⟩))):=by
 have d:=o.root
 have r:=o.nd
 have s:=o.nb
 obtain ⟨vp,vc,pl,ml,G,C,j,y,e,D,rfl⟩:=o.rep
 have u:ml=[]:=List.eq_nil_of_length_eq_zero (by rw [←plainCh_len ml,e];rfl)
 subst u
 obtain ⟨a,c,rfl⟩:=rowShape y
 match z,H,pl,D,j,d with
 | [(f,t)],_,[x],⟨ex,G1,G2,r1,v,eG⟩,j,d=>
  have v:G2=[]:=v
  subst v
  rw [List.append_nil] at eG
  subst eG
  obtain ⟨g,i,rfl,n,-,k,I,E⟩:=j.at 0 (by simp)
  have m:=Mod.setCell w b 0 (.pointer (some ⟨x.2,0,none⟩))
  have l:∀g∈G,g≠b:=fun g k q=> s (by rw [←q];simp [k])
  refine ⟨g,i,a,c,x.2,C,by simpa using E,n,t,G,⟨o.tb.set _,r1.keep fun g k=> m.block g (r1.lt g k) (l g k),?_,fun q=> l b q rfl,d.idle⟩,m.mono (fun g _ q=> by simp [q]),fun g k=> .inl ?_⟩
  ·have B:=(List.nodup_cons.1 r).2
   exact (List.nodup_append.1 (List.nodup_append.1 B).2.1).2.1
  ·rcases List.mem_cons.1 k with q | q
   ·simp [q]
   ·simp [q]
def lenOf (v:Value):Nat:=match v with
 | .slice _ n _=> n
 | _=> 0
set_option maxHeartbeats 1000000 in
set_option maxRecDepth 20000 in
theorem tMake_any (V:Tr.Key→Option Tr.Key) (N b:Nat) (F:List Nat) (k:Int) (key x:ByteArray) (w:World) (ht:TreM V N b F w) (hN:N+1≤900000) (hc:Tr.okCh (chP k key x)):
  Calls Tryz.prog 37 #[.pointer (some ⟨b,0,none⟩),.agg #[.int .i64 k,.string key,.string x]] w fun r w'=> r= .returned (.tuple #[])∧∃F',TreM (fun M=> Tr.one M (V M) (chP k key x)) (N+1) b F' w'∧Gone (b::F) (b::F') w w':=by
 obtain ⟨h,p,t,hh,o⟩:=ht
 have d9:key.size≤12∧x.size≤16:=by
  obtain ⟨s,D⟩:=Tr.okCh_key hc
  unfold Pg.isKey at s
  simp only [Bool.and_eq_true,decide_eq_true_eq] at s
  have e4:key.data.toList.length≤12:=s.2
  have e5:x.data.toList.length≤16:=D
  exact ⟨by simpa using e4,by simpa using e5⟩
 obtain ⟨h4,h5⟩:=d9
 have a9:Below w.heap.size w (w.alloc (.cells #[.int .i64 k,.string key,.string x] 34)):=(Below.refl _ w).alloc (Nat.le_refl _) _
 have Z:Hid (CW w k key x (w.alloc (.cells #[.int .i64 k,.string key,.string x] 34))):=⟨heap_alloc_new _ _,a9⟩
 obtain ⟨c0,c1,c2⟩:=Z.out.ch.cells
 have b0:=hid (fun W=> clone_any key W (by omega))
 have b1:=hid (fun W=> clone_any x W (by omega))
 have g9:=hid o.tb.lt
 have b2:Hid (∀W,CW w k key x W→TB W b p):=fun W hW=> o.tb.keep (hW.bel.block b o.tb.lt)
 have b3:Hid (∀W,CW w k key x W→Calls Tryz.prog 63 #[.pointer (some ⟨p,0,none⟩),.slice (some ⟨W.heap.size,0,none⟩) 1 1] (W.alloc (.cells #[.int .i64 k,.string key,.string x] 34)) fun r K=> r= .returned (.tuple #[])∧TB K b p∧Calls Tryz.prog 64 #[.agg #[.string ⟨#[]⟩,.pointer (some ⟨p,0,none⟩)]] K fun r w4=>∃v pl L G,r= .returned v∧MkP (fun M=> Tr.one M (V M) (chP k key x)) (N+1) b F w h v pl L G w4):=by
  intro W hW
  have e6:Below W.heap.size W (W.alloc (.cells #[.int .i64 k,.string key,.string x] 34)):=(Below.refl _ W).alloc (Nat.le_refl _) _
  have E:Below w.heap.size w (W.alloc (.cells #[.int .i64 k,.string key,.string x] 34)):=hW.bel.trans (e6.mono hW.bel.size)
  have O:=o.rep.lt
  refine (takeT_any h p t F _ _ [(k,key,x)] [] none (o.rep.keep fun g hg=> E.block g (O g hg)) o.nd o.root.wf o.root.top Tr.room_all (row_change W k key x) (fun g hg q=> ?_) (fun c g8=> ?_) ?_).mono ?_
  ·have e:W.heap.size=g:=Option.some.inj hg
   have:=O g q
   have:=hW.bel.size
   omega
  ·have e:c=chP k key x:=List.mem_singleton.1 g8
   rw [e];exact ⟨Tr.inR_all _,hc⟩
  ·have:=o.root.wt
   show _+2*1≤_
   omega
  ·rintro r K ⟨rfl,t',F',d,g6,d7⟩
   have e7:b < (W.alloc (.cells #[.int .i64 k,.string key,.string x] 34)).heap.size:=Nat.lt_of_lt_of_le o.tb.lt E.size
   have m:TB K b p:=o.tb.keep ((d.mod.block b e7 o.nb).trans (E.block b o.tb.lt))
   have b4:Tr.wt h t'≤2*(N+1):=by have:=o.root.wt;have D:Tr.wt h t'≤Tr.wt h t+2*1:=g6;omega
   have e8:Gone (b::F) (b::F') w K:=by
    refine ⟨(Mod.of_below (F:=fun g=> g∈b::F) E).trans d.mod (fun _ _ q=> q) (fun g _ q=> List.mem_cons_of_mem _ q),fun g hg=> ?_⟩
    rcases List.mem_cons.1 hg with q | q
    ·exact .inl (by simp [q])
    ·exact (d.sub g q).imp (fun z=> List.mem_cons_of_mem _ z) (fun z=> Nat.le_trans E.size z)
   have u:b∉F':=fun q=> by
    rcases d.sub b q with z | z
    ·exact o.nb z
    ·omega
   refine ⟨rfl,m,?_⟩
   refine (cut_any h ⟨#[]⟩ p t' F' K d.rep d.nd [] none d.wf (by omega)).mono ?_
   rintro r w4 ⟨v,pl,G,rfl,R,hG,A⟩
   refine ⟨v,pl,_,G,rfl,MkP.start m d.wf d.small (fun M=> ?_) b4 e8 u R hG A⟩
   rw [d7 M (Tr.inR_all M),o.root.val];rfl
 clear a9 o hc
 generalize hV:(fun M=> Tr.one M (V M) (chP k key x))=V' at*
 go_enter Tryz.func37,Tryz.ntmps37
 go_upto_region 1 with fail
 go_cut [12] (fun _ wx=> CW w k key x wx)
 case first=>
  go_region_law (first
   | (go_simp;go_at_call 62;refine (b0.out (World.drew (w.alloc (.cells #[.int .i64 k,.string key,.string x] 34)))).mono ?_;rintro r K ⟨rfl,u⟩;have y:=hid (Z.out.drew.below u);obtain ⟨d0,d1,d2⟩:=y.out.ch.cells;obtain ⟨f0,f1,f2⟩:=y.out.ch.froz;clear u)
   | (go_simp;go_at_call 62;refine (b1.out (World.drew (w.alloc (.cells #[.int .i64 k,.string key,.string x] 34)))).mono ?_;rintro r K ⟨rfl,u⟩;have y:=hid (Z.out.drew.below u);obtain ⟨d0,d1,d2⟩:=y.out.ch.cells;obtain ⟨f0,f1,f2⟩:=y.out.ch.froz;clear u)
   | (go_simp;go_at_call 62;refine (b0.out K).mono ?_;rintro r w4 ⟨rfl,A⟩;have B:=hid (y.out.below A);obtain ⟨e0,e1,e2⟩:=B.out.ch.cells;obtain ⟨h0,s,D⟩:=B.out.ch.froz;clear A)
   | (go_simp;go_at_call 62;refine (b1.out K).mono ?_;rintro r w4 ⟨rfl,A⟩;have B:=hid (y.out.below A);obtain ⟨e0,e1,e2⟩:=B.out.ch.cells;obtain ⟨h0,s,D⟩:=B.out.ch.froz;clear A))
  all_goals
   go_wp2_with fail
   go_meet
   exact B.out.stores
 case rest=>
  have HC:=hid hcut
  obtain ⟨d0,d1,d2⟩:=hcut.ch.cells
  obtain ⟨t0,t1⟩:=(b2.out wc hcut).cells
  have H:Below wc.heap.size wc (wc.alloc (.cells #[.int .i64 k,.string key,.string x] 34)):=(Below.refl _ wc).alloc (Nat.le_refl _) _
  obtain ⟨t2,t3⟩:=(b2.out _ (hcut.below H)).cells
  have T:=hid (b3.out wc.drew hcut.drew)
  clear hcut H c0 c1 c2 b3
  go_upto_region 2 with fail
  go_cut [19] (fun _ wx=> TB wx b p∧Calls Tryz.prog 64 #[.agg #[.string ⟨#[]⟩,.pointer (some ⟨p,0,none⟩)]] wx fun r w4=>∃v pl L G,r= .returned v∧MkP V' (N+1) b F w h v pl L G w4)
  case first=>
   go_region_law (go_simp;go_at_call 63;refine T.out.mono ?_;rintro r K ⟨rfl,m,Y⟩;have P:=hid (And.intro m Y);clear m Y)
   all_goals
    go_wp2_with fail
    go_meet
    exact P.out
  case rest=>
   obtain ⟨c7,R⟩:=hcut
   have P:=hid R
   obtain ⟨t4,t5⟩:=c7.cells
   clear c7 R T HC t0 t1 t2 t3 d0 d1 d2
   go_wp2_with fail
   refine P.out.mono ?_
   rintro r w4 ⟨v,pl,L,G,rfl,hm⟩
   have a0:=hid hm
   clear hm P t4 t5
   go_wp2_with fail
   go_loopw [4] (fun v4 wr=>∃s pl L G,s+pl.length≤h+(N+1)∧MkP V' (N+1) b F w s v4 pl L G wr) (fun v4 _=> lenOf v4)
   case atStart=> exact ⟨_,_,_,_,by have s:=a0.out.kids.len;have D:=a0.out.lvl.len;omega,a0.out⟩
   case round=>
    obtain ⟨s,J,f9,G1,c8,C⟩:=hrel
    have a2:=hid c8
    clear c8
    have U:=hid C
    obtain ⟨a1,c1,rfl⟩:=rowShape C.row
    have l:=hid C.kids.len
    have h8:J.length≤1800000:=by rw [C.kids.len];have:=C.lvl.len;omega
    clear C
    by_cases f:1 < J.length
    ·obtain ⟨hr,c9,O⟩:=U.out.node
     have b5:=hid (cut_any (s+1) ⟨#[]⟩ wr.heap.size (Tr.brT f9 []) _ _ hr c9 [] none U.out.lvl.wf.1 (by have:=U.out.lvl.wtb (by rw [←l.out];exact f);omega))
     clear hr c9 O
     go_wp2_with fail
     refine b5.out.mono ?_
     rintro r w5 ⟨v5,g7,G5,rfl,S,d8,H⟩
     have e9:=hid (U.out.up (by rw [←l.out];exact f) S d8 H)
     have f3:g7.length < J.length:=by
      rw [S.kids.len,l.out]
      exact Tr.up_len (by rw [←l.out];exact f)
     obtain ⟨a5,c5,rfl⟩:=rowShape S.row
     clear S d8 H b5
     go_wp2_with fail
     exact ⟨⟨_,_,_,_,by have:=a2.out;omega,e9.out⟩,f3⟩
    ·have I:=U.out.lvl.pos
     obtain ⟨x1,rfl⟩:∃x1,J=[x1]:=by
      match J,f,l.out with
      | [x1],_,_=> exact ⟨x1,rfl⟩
      | [],_,hlen=> rw [←hlen] at I;simp at I
      | _::_::_,f,_=> simp at f
     have f4:Hid (s≤(N+1)*2000000):=by
      show _≤_
      have:=a2.out
      rw [List.length_singleton] at this
      omega
     clear a2
     obtain ⟨p1,X⟩:=U.out.tb
     obtain ⟨s0,s1⟩:=X.cells
     obtain ⟨g,h9,e,h6,-,hg,y0,y1⟩:=U.out.row.at 0 (by simp)
     simp only [Value.slice.injEq] at e
     obtain ⟨rfl,-,rfl⟩:=e
     obtain ⟨t1,d3,d4⟩:=U.out.root
     have f5:=hid d3
     have f6:=hid d4
     simp only [List.getElem_cons_zero,Nat.zero_mul,Nat.zero_add] at y0 y1
     clear X d3 d4 I f l
     rw [List.length_singleton]
     go_wp2_with fail
     go_loopw [45] (fun _ wr=>∃D p2 t2 F2,D≤s∧TreQ V' (N+1) b D p2 t2 F2 wr∧Gone (b::F) (b::F2) w wr) (fun _ wr=> rootH s b wr)
     case atStart=> exact ⟨_,_,_,_,Nat.le_refl _,f5.out,f6.out⟩
     case round=>
      obtain ⟨D,p2,t2,F2,g0,j,d5⟩:=hrel
      have a4:=hid j
      have b6:=hid d5
      obtain ⟨z0,z1⟩:=j.tb.cells
      clear j d5 s0 s1 y0 y1
      by_cases i:∃(h3:Nat) (e:D=h3+1) (L:List (Tr.Key×Tr.TreeT h3)),L.length=1∧TreQ V' (N+1) b (h3+1) p2 (Tr.brT L []) F2 wr
      ·obtain ⟨h3,e3,i0,g1,a6⟩:=i
       obtain ⟨g3,h7,a3,c3,q3,a7,i1,g2,t4,F4,a8,d6⟩:=a6.idle g1
       have Q:=hid (tIsIdle_any p2 _ _ _ _ _ _ _ wr a7)
       obtain ⟨m0,m1,m2,-⟩:=a7.cells
       have b7:=hid a8
       have b8:=hid (b6.out.trans d6)
       have b9:=hid (rootH_at a6 (n:=s) (by omega))
       have c4:=hid (rootH_at a8 (n:=s) (by omega))
       clear a7 a8 d6 a6 a4
       go_wp2_with fail
       refine Q.out.mono ?_
       rintro r wr ⟨rfl,rfl⟩
       go_wp2_with fail
       first
        | exact ⟨⟨_,_,_,_,by omega,b7.out,b8.out⟩,by rw [b9.out,c4.out];omega⟩
        | (go_roundw;case rel=> exact ⟨_,_,_,_,by omega,b7.out,b8.out⟩;case measure=> rw [b9.out,c4.out];omega)
        | (trace_state;fail)
      ·have c6:Hid (∃(vi:Value) (a a':Option Addr) (n c n' c':Nat),NodT wr p2 vi (.slice a n c) (.slice a' n' c')∧(decide (n=1)&&decide (n'=0))=false):=by
        have j:=a4.out
        match D,t2,j,i with
        | 0,t2,j,_=>
         obtain ⟨vi,il,hn,-⟩:=j.rep
         exact ⟨vi,none,none,0,0,0,0,hn,rfl⟩
        | h3+1,(L,cs),j,i=>
         obtain ⟨vp,vc,pl,ml,G,hn,g4,g5,e,hk,eF⟩:=j.rep
         obtain ⟨a,c,rfl⟩:=rowShape g4
         obtain ⟨a',c',rfl⟩:=rowShape g5
         refine ⟨_,a,a',_,c,_,c',hn,?_⟩
         refine Bool.eq_false_iff.2 fun q=> i ?_
         simp only [Bool.and_eq_true,decide_eq_true_eq] at q
         have f7:ml=[]:=List.eq_nil_of_length_eq_zero q.2
         subst f7
         have f8:cs=[]:=e.symm
         subst f8
         exact ⟨h3,rfl,L,by rw [←hk.len];exact q.1,j⟩
       obtain ⟨vi,a,a',n,c,n',c',hn,hb⟩:=c6.out
       have Q:=hid (tIsIdle_any p2 vi a a' n c n' c' wr hn)
       rw [hb] at Q
       clear hn hb c6 i
       go_wp2_with fail
       refine Q.out.mono ?_
       rintro r wr ⟨rfl,rfl⟩
       go_wp2_with fail
       go_end0
       exact ⟨rfl,F2,⟨D,p2,t2,Nat.le_trans g0 f4.out,a4.out⟩,b6.out⟩
end Go.Proofs.YtolgpnaoaodepaaGreat
namespace Go.Proofs.YtolgpnaoaodepaaGreat
open Go.RowKit
theorem root_new:Tr.Root (fun _=> none) 1 0 (Tr.lf []):=by
 refine ⟨⟨List.Pairwise.nil,fun x a=> by cases a⟩,Nat.zero_le _,fun _=> rfl,?_⟩
 show 1+2*(([]:List Tr.It).length - 16)≤2*1
 simp
set_option maxHeartbeats 400000 in
theorem tNew_any (w:World):
  Calls Tryz.prog 31 #[] w fun r w'=>∃b F,r= .returned (.pointer (some ⟨b,0,none⟩))∧TreM (fun _=> none) 1 b F w'∧(∀g∈b::F,w.heap.size≤g)∧Below w.heap.size w w':=by
 have c:=heap_alloc_new w (.cells #[.slice none 0 0,.slice none 0 0,.slice none 0 0] 123)
 have d:Below w.heap.size w (w.alloc (.cells #[.slice none 0 0,.slice none 0 0,.slice none 0 0] 123)):=(Below.refl _ w).alloc (Nat.le_refl _) _
 have f:(w.alloc (.cells #[.slice none 0 0,.slice none 0 0,.slice none 0 0] 123)).heap.size=w.heap.size+1:=by simp
 have h:Hid (TreM (fun _=> none) 1 (w.heap.size+1) [w.heap.size] ((w.alloc (.cells #[.slice none 0 0,.slice none 0 0,.slice none 0 0] 123)).alloc (.cells #[.pointer (some ⟨w.heap.size,0,none⟩)] 125))∧Below w.heap.size w ((w.alloc (.cells #[.slice none 0 0,.slice none 0 0,.slice none 0 0] 123)).alloc (.cells #[.pointer (some ⟨w.heap.size,0,none⟩)] 125))):=by
  generalize w.alloc (.cells #[.slice none 0 0,.slice none 0 0,.slice none 0 0] 123)=a at*
  have i:=heap_alloc_new a (.cells #[.pointer (some ⟨w.heap.size,0,none⟩)] 125)
  have j:Below a.heap.size a (a.alloc (.cells #[.pointer (some ⟨w.heap.size,0,none⟩)] 125)):=(Below.refl _ a).alloc (Nat.le_refl _) _
  rw [f] at i
  refine ⟨⟨0,w.heap.size,Tr.lf [],Nat.zero_le _,i,⟨.slice none 0 0,[],(j.block _ (by omega)).trans c,World.ownsRow_nil _ _ _ _,rfl,rfl⟩,by simp,by simp,root_new⟩,d.trans (j.mono (by omega))⟩
 clear c d f
 go_enter Tryz.func31,Tryz.ntmps31
 go_wp2_with fail
 go_ret
 exact ⟨_,_,rfl,h.out.1,fun g k=> (List.mem_cons.1 k).elim (fun e=> by omega) (fun e=> by rw [List.mem_singleton.1 e];exact Nat.le_refl _),h.out.2⟩
end Go.Proofs.YtolgpnaoaodepaaGreat
