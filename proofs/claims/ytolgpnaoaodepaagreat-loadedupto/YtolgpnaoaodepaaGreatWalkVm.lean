import Derived.Test.YtolgpnaoaodepaaGreatWalkRm
namespace Go.Proofs.YtolgpnaoaodepaaGreat
open Go.RowKit
theorem Amh:Tryz.prog.cellsOf 5=1:=by kernel_rfl
set_option maxHeartbeats 1000000 in
set_option maxRecDepth 20000 in
theorem Ya (s:ByteArray) (w:World) (A:s.size<=35184372088832):
  Calls Tryz.prog 124 #[.string s] w fun r w'=> r= .returned (.string s)/\Below w.heap.size w w':=by
 by_cases h0:s.size=0
 ·have m:s=⟨#[]⟩:=ByteArray.ext (Array.eq_empty_of_size_eq_zero h0);subst m;go_enter Tryz.func124,Tryz.ntmps124;go_wp2_with fail;go_ret;exact ⟨rfl,Below.refl _ _⟩
 ·obtain ⟨i,hi,c,b,d⟩:=info_parts Iz;obtain ⟨Z,f⟩:∃Z,Z=madeCells (Value.int .u8 0).cells (((s.size:Nat):Int).toNat*i.size):=⟨_,rfl⟩;have n:Z.size=s.size:=by rw [f,size_madeCells,b];simp
  have mk:∀W:World,(Instr.makeSlice 108 (.int .i64 (s.size:Int)) (.int .i64 (s.size:Int))).run Tryz.prog W= .ok (.slice (some ⟨W.heap.size,0,none⟩) s.size s.size) (W.alloc (.cells Z 5)):=fun W=> by
   have h:=run_make (P:=Tryz.prog) W 108 5 i (.int .u8 0) Tryz.underlying108 hi c .i64 .i64 (s.size:Int) (s.size:Int) (by omega) (by omega) (by rw [d];omega) (by omega);rw [<-f] at h;simpa using h
  clear f;have o:=Lib.run_copy_row_string (P:=Tryz.prog) (w.alloc (.cells Z 5)) 108 9 3 5 w.heap.size 0 s.size s.size s Z 5 Tryz.underlying108 (by rw [hi];simp [b]) (heap_alloc_new w _) (Nat.le_refl _) (by omega);obtain ⟨Y,g⟩:∃Y,Y=(Z.toList.take 0++Lib.byteCells s.data.toList++Z.toList.drop (0+s.size)).toArray:=⟨_,rfl⟩;have a:Y.toList=Lib.byteCells s.data.toList:=by
   rw [g,List.toList_toArray,List.take_zero,List.nil_append,List.drop_of_length_le (by rw [Array.length_toList];omega),List.append_nil]
  have q:Y.size=s.size:=by rw [<-Array.length_toList,a,Lib.byteCells_length,len_size]
  rw [<-g] at o;have l:((w.alloc (.cells Z 5)).setRow w.heap.size Y).heap[w.heap.size]?=some (.cells Y 5 (0,0)):=setRow_heap _ _ Z _ 5 (0,0) (heap_alloc_new w _);have t:=Lib.run_unsafeString_row (P:=Tryz.prog) ((w.alloc (.cells Z 5)).setRow w.heap.size Y) 223 3 9 5 Tryz.underlying223 Amh w.heap.size Y.size (by unfold World.shape?;rw [l]) s.data.toList (fun e=> h0 (by rw [<-len_size,e];rfl)) (by rw [len_size];omega) (by rw [len_size];omega)
   (fun j x y=> Lib.cells_of_row l Y.size j _ (by rw [List.take_of_length_le (by rw [Array.length_toList];exact Nat.le_refl _),a];simp [Lib.byteCells,y]))
  rw [len_size] at t;have u:=hid (Lib.below_freeze (((Below.refl w.heap.size w).alloc (Nat.le_refl _) (.cells Z 5)).trans (⟨rfl,rfl,rfl,by simp,fun k z=> setRow_other _ _ _ _ (by omega)⟩:Below w.heap.size (w.alloc (.cells Z 5)) ((w.alloc (.cells Z 5)).setRow w.heap.size Y))) (p:=⟨w.heap.size,0,none⟩) (Nat.le_refl _) s.size);clear g;go_enter Tryz.func124,Tryz.ntmps124;go_wp2_with fail;go_ret;exact ⟨rfl,u.out⟩
set_option maxHeartbeats 1000000 in
theorem Tc (s:ByteArray) (w:World) (b:s.size<=35184372088832):
  Calls Tryz.prog 62 #[.string s] w fun r w'=> r= .returned (.string s)/\Below w.heap.size w w':=by
 go_enter Tryz.func62,Tryz.ntmps62;go_wp2_with fail;refine (Ya s _ b).mono ?_;rintro r c ⟨rfl,a⟩;go_wp2_with fail;go_ret;exact ⟨rfl,a⟩
def TB (w:World) (b p:Nat):Prop:=w.heap[b]?=some (.cells #[.pointer (some ⟨p,0,none⟩)] 125 (0,0))
theorem TB.lt {w:World} {b p:Nat} (h:TB w b p):b < w.heap.size:=(Array.getElem?_eq_some_iff.1 h).1
theorem TB.cells {w:World} {b p:Nat} (h:TB w b p):w.cell? ⟨b,0,none⟩=some (.pointer (some ⟨p,0,none⟩))/\w.frozen? ⟨b,0,none⟩=false:=by
 unfold TB at h;refine ⟨?_,?_⟩ <;> simp [World.cell?,World.frozen?,h]
theorem TB.set {w:World} {b p:Nat} (h:TB w b p) (q:Nat):TB (w.setCell ⟨b,0,none⟩ (.pointer (some ⟨q,0,none⟩))) b q:=by
 unfold TB at*;rw [Ad (i:=0) h];rfl
theorem TB.keep {w w':World} {b p:Nat} (h:TB w b p) (a:w'.heap[b]?=w.heap[b]?):TB w' b p:=a.trans h
structure Aer (V:Tr.Key->Option Tr.Key) (N b h p:Nat) (t:Tr.Ac h) (F:List Nat) (w:World):Prop where
 tb:TB w b p
 rep:Rep h w p t F
 nd:F.Nodup
 nb:b∉F
 root:Tr.Acr V N h t
def Ek (V:Tr.Key->Option Tr.Key) (N b:Nat) (F:List Nat) (w:World):Prop:=∃h p t,h<=N*2000000/\Aer V N b h p t F w
theorem Ek.lt {V:Tr.Key->Option Tr.Key} {N b:Nat} {F:List Nat} {w:World} (h:Ek V N b F w):∀g∈b::F,g < w.heap.size:=fun g c=> by
 obtain ⟨h,p,t,d,a⟩:=h;rcases List.mem_cons.1 c with q | q
 ·rw [q];exact a.tb.lt
 ·exact a.rep.lt g q
theorem Ek.keep {V:Tr.Key->Option Tr.Key} {N b:Nat} {F:List Nat} {w w':World} (h:Ek V N b F w) (c:∀g∈b::F,w'.heap[g]?=w.heap[g]?):Ek V N b F w':=by
 obtain ⟨h,p,t,d,a⟩:=h;exact ⟨h,p,t,d,a.tb.keep (c b (List.mem_cons_self ..)),a.rep.keep fun g f=> c g (List.mem_cons_of_mem _ f),a.nd,a.nb,a.root⟩
def hgt:Nat->World->Nat->Nat
 | 0,_,_=> 0
 | n+1,w,p=> match w.cell? ⟨p,1,none⟩ with
  | some (.slice (some ⟨g,o,_⟩) (_+1) _)=> match w.cell? ⟨g,o+1,none⟩ with
   | some (.pointer (some ⟨q,_,_⟩))=> 1+hgt n w q
   | _=> 0
  | _=> 0
theorem Wb:∀(h n:Nat) {w:World} {p:Nat} {t:Tr.Ac h} {F:List Nat} {lo:Tr.Key} {hi:Option Tr.Key},h<=n->Rep h w p t F->Tr.WF h lo hi t->Tr.room lo hi->hgt n w p=h
 | 0,0,_,_,_,_,_,_,_,_,_,_=> rfl
 | 0,n+1,w,p,t,F,lo,hi,_,hr,_,_=> by
  obtain ⟨o,il,c,s,rfl,rfl⟩:=hr;unfold hgt;rw [c.cells.2.1]
 | h+1,0,_,_,_,_,_,_,hh,_,_,_=> by omega
 | h+1,n+1,w,p,(ps,cs),F,lo,hi,hh,hr,hw,hm=> by
  obtain ⟨vp,vc,pl,ml,G,c,a,i,rfl,j,rfl⟩:=hr
  match ps,hw.1,pl,j,a with
  | [],hc,_,_,_=> exact absurd (hm lo (show some lo=hi from hc).symm).1 (Tr.lt_ir lo)
  | (f,t)::r,⟨e,m,h1,h2,h3⟩,x::pl,⟨ex,G1,G2,r1,hk2,eG⟩,a=>
   obtain ⟨g,k,rfl,d,-,u,y,l⟩:=a.at 0 (by simp);unfold hgt;rw [c.cells.2.1];have b:w.cell? ⟨g,0+1,none⟩=some (.pointer (some ⟨x.2,0,none⟩)):=(by simpa using l);show (match w.cell? ⟨g,0+1,none⟩ with | some (.pointer (some ⟨q,_,_⟩))=> 1+hgt n w q | _=> 0)=h+1;rw [b];show 1+hgt n w x.2=h+1;rw [Wb h n (by omega) r1 h2.1 h1];omega
def Ami (n b:Nat) (w:World):Nat:=match w.cell? ⟨b,0,none⟩ with
 | some (.pointer (some ⟨p,_,_⟩))=> hgt n w p
 | _=> 0
theorem Aes {V:Tr.Key->Option Tr.Key} {N b h p n:Nat} {t:Tr.Ac h} {F:List Nat} {w:World} (a:Aer V N b h p t F w) (c:h<=n):Ami n b w=h:=by
 unfold Ami;rw [a.tb.cells.1];exact Wb h n c a.rep a.root.wf Tr.Hf
structure CW (w:World) (k:Int) (key x:ByteArray) (W:World):Prop where
 ch:ChB W w.heap.size k key x
 bel:Below w.heap.size w W
theorem CW.below {w:World} {k:Int} {key x:ByteArray} {W W':World} (h:CW w k key x W) (a:Below W.heap.size W W'):CW w k key x W':=⟨(a.block _ h.ch.lt).trans h.ch,h.bel.trans (a.mono h.bel.size)⟩
theorem CW.drew {w:World} {k:Int} {key x:ByteArray} {W:World} (h:CW w k key x W):CW w k key x W.drew:=h.below (Below.refl _ W).drew
theorem ChB.set1 {w:World} {b:Nat} {k:Int} {key x:ByteArray} (h:ChB w b k key x):ChB (w.setCell ⟨b,1,none⟩ (.string key)) b k key x:=by unfold ChB at*;rw [Ad (i:=1) h];rfl
theorem ChB.set2 {w:World} {b:Nat} {k:Int} {key x:ByteArray} (h:ChB w b k key x):ChB (w.setCell ⟨b,2,none⟩ (.string x)) b k key x:=by unfold ChB at*;rw [Ad (i:=2) h];rfl
theorem ChB.froz {w:World} {b:Nat} {k:Int} {key x:ByteArray} (h:ChB w b k key x):w.frozen? ⟨b,0,none⟩=false/\w.frozen? ⟨b,1,none⟩=false/\w.frozen? ⟨b,2,none⟩=false:=by
 unfold ChB at h;refine ⟨?_,?_,?_⟩ <;> simp [World.frozen?,h]
theorem CW.stores {w:World} {k:Int} {key x:ByteArray} {W:World} (h:CW w k key x W):CW w k key x ((W.setCell ⟨w.heap.size,1,none⟩ (.string key)).setCell ⟨w.heap.size,2,none⟩ (.string x)):=
 ⟨h.ch.set1.set2,(h.bel.setCell (p:=⟨w.heap.size,1,none⟩) (Nat.le_refl _) _).setCell (p:=⟨w.heap.size,2,none⟩) (Nat.le_refl _) _⟩
theorem Aha (W:World) (k:Int) (key x:ByteArray):Au 0 (W.alloc (.cells #[.int .i64 k,.string key,.string x] 34)) (.slice (some ⟨W.heap.size,0,none⟩) 1 1) [(k,key,x)]:=
 ⟨rfl,.inr ⟨W.heap.size,1,#[.int .i64 k,.string key,.string x],rfl,Nat.zero_le _,heap_alloc_new _ _,Nat.le_refl _,by unfold maxLen;omega,by simp,by simp [ccells]⟩⟩
structure MkP (V:Tr.Key->Option Tr.Key) (N b:Nat) (F:List Nat) (w:World) (h:Nat) (v:Value) (pl:List (ByteArray×Nat)) (ps:List (Tr.Key×Tr.Ac h)) (G:List Nat) (W:World):Prop where
 tb:∃p,TB W b p
 row:Ap 0 W v pl
 kids:Cc (Rep h W) pl ps G
 nd:(blk v++G).Nodup
 lvl:Tr.Lvl V N h ps
 gone:Fm (b::F) (blk v++G) w W
 nb:b∉blk v++G
theorem MkP.start {V:Tr.Key->Option Tr.Key} {N b:Nat} {F:List Nat} {w:World} {h p:Nat} {t:Tr.Ac h} {f:List Nat} {W W':World} {v:Value} {pl:List (ByteArray×Nat)} {G:List Nat} (c:TB W b p) (o:Tr.WF h [] none t) (r:Tr.Gw h t) (s:∀k,Tr.val h t k=V k) (u:Tr.wt h t<=2*N) (d:Fm (b::F) (b::f) w W) (m:b∉f) (i:CtQ h W (Tr.Gg h [] t) v pl G W') (y:∀g∈G,g∈f\/W.heap.size<=g) (n:Below W.heap.size W W'):MkP V N b F w h v pl (Tr.Gg h [] t) G W':=by
 have j:=Rl i.row;have a:∀g∈blk v++G,g∈f\/W.heap.size<=g:=fun g d=> (List.mem_append.1 d).elim (fun q=> .inr (j g q)) (y g)
 refine ⟨⟨p,c.keep (n.block b c.lt)⟩,Fx i.row,i.kids,i.nd,Tr.Lvl.start o r s u,⟨(d.trans (Fm.below n)).1,fun g l=> ?_⟩,fun q=> ?_⟩
 ·rcases a g l with z | z
  ·exact d.2 g (List.mem_cons_of_mem _ z)
  ·exact .inr (Nat.le_trans d.1.size z)
 ·rcases a b q with z | z
  ·exact m z
  ·have:=c.lt;omega
theorem MkP.node {V:Tr.Key->Option Tr.Key} {N b:Nat} {F:List Nat} {w:World} {h:Nat} {v:Value} {pl:List (ByteArray×Nat)} {j:List (Tr.Key×Tr.Ac h)} {G:List Nat} {W:World} (d:MkP V N b F w h v pl j G W):Rep (h+1) (W.alloc (.cells #[.slice none 0 0,v,.slice none 0 0] 123)) W.heap.size (Tr.brT j []) (W.heap.size::(blk v++G))/\(W.heap.size::(blk v++G)).Nodup/\(∀g∈blk v++G,g < W.heap.size):=by
 have c:∀g∈blk v++G,g < W.heap.size:=fun g f=> (List.mem_append.1 f).elim (fun q=> (World.ownsRow.lt d.row g (Af.1 q)).2) (fun q=> d.kids.lt g q)
 have i:Below W.heap.size W (W.alloc (.cells #[.slice none 0 0,v,.slice none 0 0] 123)):=(Below.refl _ W).alloc (Nat.le_refl _) _;refine ⟨⟨v,.slice none 0 0,pl,[],G,heap_alloc_new _ _,Aa d.row i (Nat.le_refl _),World.ownsRow_nil _ _ _ _,rfl,d.kids.keep fun g f=> i.block g (c g (List.mem_append_right _ f)),by simp [blk,Value.ownBlock]⟩,List.nodup_cons.2 ⟨fun q=> by have:=c _ q;omega,d.nd⟩,c⟩
theorem MkP.up {V:Tr.Key->Option Tr.Key} {N b:Nat} {F:List Nat} {w:World} {h:Nat} {v r:Value} {pl j:List (ByteArray×Nat)} {k:List (Tr.Key×Tr.Ac h)} {G l:List Nat} {W W':World} (f:MkP V N b F w h v pl k G W) (u:1 < k.length) (m:CtQ (h+1) (W.alloc (.cells #[.slice none 0 0,v,.slice none 0 0] 123)) (Tr.Gg (h+1) [] (Tr.brT k [])) r j l W') (y:∀g∈l,g∈W.heap.size::(blk v++G)\/(W.alloc (.cells #[.slice none 0 0,v,.slice none 0 0] 123)).heap.size<=g) (A:Below (W.alloc (.cells #[.slice none 0 0,v,.slice none 0 0] 123)).heap.size (W.alloc (.cells #[.slice none 0 0,v,.slice none 0 0] 123)) W'):MkP V N b F w (h+1) r j (Tr.Gg (h+1) [] (Tr.brT k [])) l W':=by
 obtain ⟨p,d⟩:=f.tb;have c:Below W.heap.size W (W.alloc (.cells #[.slice none 0 0,v,.slice none 0 0] 123)):=(Below.refl _ W).alloc (Nat.le_refl _) _;have i:Below W.heap.size W W':=c.trans (A.mono c.size);have s:=c.size;have n:=Rl m.row;have a:∀g∈blk r++l,g∈blk v++G\/W.heap.size<=g:=fun g t=> (List.mem_append.1 t).elim (fun q=> .inr (by have:=n g q;omega)) (fun q=> (y g q).elim (fun z=> (List.mem_cons.1 z).elim (fun e=> .inr (by omega)) .inl) (fun z=> .inr (by omega)))
 refine ⟨⟨p,d.keep (i.block b d.lt)⟩,Fx m.row,m.kids,m.nd,f.lvl.up u,⟨(f.gone.trans (Fm.below i)).1,fun g o=> ?_⟩,fun q=> ?_⟩
 ·rcases a g o with z | z
  ·exact f.gone.2 g z
  ·exact .inr (Nat.le_trans f.gone.1.size z)
 ·rcases a b q with z | z
  ·exact f.nb z
  ·have:=d.lt;omega
theorem MkP.root {V:Tr.Key->Option Tr.Key} {N b:Nat} {F:List Nat} {w:World} {h:Nat} {v:Value} {x:ByteArray×Nat} {l:List (Tr.Key×Tr.Ac h)} {G:List Nat} {W:World} (a:MkP V N b F w h v [x] l G W):∃t,Aer V N b h x.2 t G (W.setCell ⟨b,0,none⟩ (.pointer (some ⟨x.2,0,none⟩)))/\Fm (b::F) (b::G) w (W.setCell ⟨b,0,none⟩ (.pointer (some ⟨x.2,0,none⟩))):=by
 obtain ⟨p,k⟩:=a.tb;have n:=a.kids;have d:=a.lvl
 match l,n,d with
 | [(f,t)],⟨e,G1,G2,r1,i,eG⟩,d=>
  have i:G2=[]:=i;subst i;rw [List.append_nil] at eG;subst eG;have m:=Mod.setCell W b 0 (.pointer (some ⟨x.2,0,none⟩));have j:∀g∈G,g≠b:=fun g c q=> a.nb (by rw [<-q];exact List.mem_append_right _ c)
  refine ⟨t,⟨k.set _,r1.keep fun g c=> m.block g (r1.lt g c) (j g c),(List.nodup_append.1 a.nd).2.1,fun q=> a.nb (List.mem_append_right _ q),d.root⟩,a.gone.1.trans m (fun _ _ q=> q) (fun g _ q=> by simp [q]),fun g c=> ?_⟩;rcases List.mem_cons.1 c with q | q
  ·exact .inl (by simp [q])
  ·exact a.gone.2 g (List.mem_append_right _ q)
theorem Aer.idle {V:Tr.Key->Option Tr.Key} {N b h p:Nat} {B:List (Tr.Key×Tr.Ac h)} {F:List Nat} {w:World} (o:Aer V N b (h+1) p (Tr.brT B []) F w) (J:B.length=1):∃g i a c q,An w p (.slice none 0 0) (.slice (some ⟨g,0,none⟩) 1 i) (.slice a 0 c)/\w.cell? ⟨g,1,none⟩=some (.pointer (some ⟨q,0,none⟩))/\1<=i/\∃t F',Aer V N b h q t F' (w.setCell ⟨b,0,none⟩ (.pointer (some ⟨q,0,none⟩)))/\Fm (b::F) (b::F') w (w.setCell ⟨b,0,none⟩ (.pointer (some ⟨q,0,none⟩))):=by
 have d:=o.root;have r:=o.nd;have s:=o.nb;obtain ⟨vp,vc,pl,ml,G,D,j,z,e,H,rfl⟩:=o.rep;have u:ml=[]:=List.eq_nil_of_length_eq_zero (by rw [<-Ao ml,e];rfl);subst u;obtain ⟨a,c,rfl⟩:=Ab z
 match B,J,pl,H,j,d with
 | [(f,t)],_,[x],⟨ex,G1,G2,r1,y,eG⟩,j,d=>
  have y:G2=[]:=y;subst y;rw [List.append_nil] at eG;subst eG;obtain ⟨g,i,rfl,n,-,k,L,I⟩:=j.at 0 (by simp);have m:=Mod.setCell w b 0 (.pointer (some ⟨x.2,0,none⟩));have l:∀g∈G,g≠b:=fun g k q=> s (by rw [<-q];simp [k])
  refine ⟨g,i,a,c,x.2,D,by simpa using I,n,t,G,⟨o.tb.set _,r1.keep fun g k=> m.block g (r1.lt g k) (l g k),?_,fun q=> l b q rfl,d.idle⟩,m.mono (fun g _ q=> by simp [q]),fun g k=> .inl ?_⟩
  ·have C:=(List.nodup_cons.1 r).2;exact (List.nodup_append.1 (List.nodup_append.1 C).2.1).2.1
  ·rcases List.mem_cons.1 k with q | q
   ·simp [q]
   ·simp [q]
def lenOf (v:Value):Nat:=match v with
 | .slice _ n _=> n
 | _=> 0
set_option maxHeartbeats 1000000 in
set_option maxRecDepth 20000 in
theorem Abm (V:Tr.Key->Option Tr.Key) (N b:Nat) (F:List Nat) (k:Int) (key x:ByteArray) (w:World) (ht:Ek V N b F w) (hN:N+1<=900000) (hc:Tr.Ew (chP k key x)):
  Calls Tryz.prog 37 #[.pointer (some ⟨b,0,none⟩),.agg #[.int .i64 k,.string key,.string x]] w fun r w'=> r= .returned (.tuple #[])/\∃F',Ek (fun R=> Tr.one R (V R) (chP k key x)) (N+1) b F' w'/\Fm (b::F) (b::F') w w':=by
 obtain ⟨h,p,t,hh,o⟩:=ht;have e6:key.size<=12/\x.size<=16:=by
  obtain ⟨s,D⟩:=Tr.Jp hc;unfold Pg.Ei at s;simp only [Bool.and_eq_true,decide_eq_true_eq] at s;have e7:key.data.toList.length<=12:=s.2;have e8:x.data.toList.length<=16:=D;exact ⟨by simpa using e7,by simpa using e8⟩
 obtain ⟨h7,h8⟩:=e6;have b2:Below w.heap.size w (w.alloc (.cells #[.int .i64 k,.string key,.string x] 34)):=(Below.refl _ w).alloc (Nat.le_refl _) _;have a4:Hid (CW w k key x (w.alloc (.cells #[.int .i64 k,.string key,.string x] 34))):=⟨heap_alloc_new _ _,b2⟩;obtain ⟨c0,c1,c2⟩:=a4.out.ch.cells;have b3:=hid (fun W=> Tc key W (by omega));have b4:=hid (fun W=> Tc x W (by omega));have h6:=hid o.tb.lt;have b5:Hid (∀W,CW w k key x W->TB W b p):=fun W hW=> o.tb.keep (hW.bel.block b o.tb.lt)
 have b6:Hid (∀W,CW w k key x W->Calls Tryz.prog 63 #[.pointer (some ⟨p,0,none⟩),.slice (some ⟨W.heap.size,0,none⟩) 1 1] (W.alloc (.cells #[.int .i64 k,.string key,.string x] 34)) fun r M=> r= .returned (.tuple #[])/\TB M b p/\Calls Tryz.prog 64 #[.agg #[.string ⟨#[]⟩,.pointer (some ⟨p,0,none⟩)]] M fun r w4=>∃v pl O G,r= .returned v/\MkP (fun R=> Tr.one R (V R) (chP k key x)) (N+1) b F w h v pl O G w4):=by
  intro W hW;have e9:Below W.heap.size W (W.alloc (.cells #[.int .i64 k,.string key,.string x] 34)):=(Below.refl _ W).alloc (Nat.le_refl _) _;have H:Below w.heap.size w (W.alloc (.cells #[.int .i64 k,.string key,.string x] 34)):=hW.bel.trans (e9.mono hW.bel.size);have S:=o.rep.lt;refine (Abl h p t F _ _ [(k,key,x)] [] none (o.rep.keep fun g hg=> H.block g (S g hg)) o.nd o.root.wf o.root.top Tr.Hf (Aha W k key x) (fun g hg q=> ?_) (fun c h5=> ?_) ?_).mono ?_
  ·have e:W.heap.size=g:=Option.some.inj hg;have:=S g q;have:=hW.bel.size;omega
  ·have e:c=chP k key x:=List.mem_singleton.1 h5;rw [e];exact ⟨Tr.Jb _,hc⟩
  ·have:=o.root.wt;show _+2*1<=_;omega
  ·rintro r M ⟨rfl,t',F',d,g9,e4⟩;have f3:b < (W.alloc (.cells #[.int .i64 k,.string key,.string x] 34)).heap.size:=Nat.lt_of_lt_of_le o.tb.lt H.size;have m:TB M b p:=o.tb.keep ((d.mod.block b f3 o.nb).trans (H.block b o.tb.lt));have b7:Tr.wt h t'<=2*(N+1):=(by have:=o.root.wt;have D:Tr.wt h t'<=Tr.wt h t+2*1:=g9;omega);have f4:Fm (b::F) (b::F') w M:=by
    refine ⟨(Mod.of_below (F:=fun g=> g∈b::F) H).trans d.mod (fun _ _ q=> q) (fun g _ q=> List.mem_cons_of_mem _ q),fun g hg=> ?_⟩;rcases List.mem_cons.1 hg with q | q
    ·exact .inl (by simp [q])
    ·exact (d.sub g q).imp (fun z=> List.mem_cons_of_mem _ z) (fun z=> Nat.le_trans H.size z)
   have u:b∉F':=fun q=> by
    rcases d.sub b q with z | z
    ·exact o.nb z
    ·omega
   refine ⟨rfl,m,?_⟩;refine (Acq h ⟨#[]⟩ p t' F' M d.rep d.nd [] none d.wf (by omega)).mono ?_;rintro r w4 ⟨v,pl,G,rfl,X,hG,A⟩;refine ⟨v,pl,_,G,rfl,MkP.start m d.wf d.small (fun R=> ?_) b7 f4 u X hG A⟩;rw [e4 R (Tr.Jb R),o.root.val];rfl
 clear b2 o hc;generalize hV:(fun R=> Tr.one R (V R) (chP k key x))=V' at*;go_enter Tryz.func37,Tryz.ntmps37;go_upto_region 1 with fail
 go_cut [12] (fun _ wx=> CW w k key x wx)
 case first=>
  go_region_law (first
   | (go_simp;go_at_call 62;refine (b3.out (World.drew (w.alloc (.cells #[.int .i64 k,.string key,.string x] 34)))).mono ?_;rintro r M ⟨rfl,u⟩;have y:=hid (a4.out.drew.below u);obtain ⟨d0,d1,d2⟩:=y.out.ch.cells;obtain ⟨f0,f1,f2⟩:=y.out.ch.froz;clear u)
   | (go_simp;go_at_call 62;refine (b4.out (World.drew (w.alloc (.cells #[.int .i64 k,.string key,.string x] 34)))).mono ?_;rintro r M ⟨rfl,u⟩;have y:=hid (a4.out.drew.below u);obtain ⟨d0,d1,d2⟩:=y.out.ch.cells;obtain ⟨f0,f1,f2⟩:=y.out.ch.froz;clear u)
   | (go_simp;go_at_call 62;refine (b3.out M).mono ?_;rintro r w4 ⟨rfl,A⟩;have B:=hid (y.out.below A);obtain ⟨e0,e1,e2⟩:=B.out.ch.cells;obtain ⟨h0,s,D⟩:=B.out.ch.froz;clear A)
   | (go_simp;go_at_call 62;refine (b4.out M).mono ?_;rintro r w4 ⟨rfl,A⟩;have B:=hid (y.out.below A);obtain ⟨e0,e1,e2⟩:=B.out.ch.cells;obtain ⟨h0,s,D⟩:=B.out.ch.froz;clear A))
  all_goals
   go_wp2_with fail;go_meet;exact B.out.stores
 case rest=>
  have HC:=hid hcut;obtain ⟨d0,d1,d2⟩:=hcut.ch.cells;obtain ⟨t0,t1⟩:=(b5.out wc hcut).cells;have I:Below wc.heap.size wc (wc.alloc (.cells #[.int .i64 k,.string key,.string x] 34)):=(Below.refl _ wc).alloc (Nat.le_refl _) _;obtain ⟨t2,t3⟩:=(b5.out _ (hcut.below I)).cells;have Z:=hid (b6.out wc.drew hcut.drew);clear hcut I c0 c1 c2 b6;go_upto_region 2 with fail
  go_cut [19] (fun _ wx=> TB wx b p/\Calls Tryz.prog 64 #[.agg #[.string ⟨#[]⟩,.pointer (some ⟨p,0,none⟩)]] wx fun r w4=>∃v pl O G,r= .returned v/\MkP V' (N+1) b F w h v pl O G w4)
  case first=>
   go_region_law (go_simp;go_at_call 63;refine Z.out.mono ?_;rintro r M ⟨rfl,m,a2⟩;have T:=hid (And.intro m a2);clear m a2)
   all_goals
    go_wp2_with fail;go_meet;exact T.out
  case rest=>
   obtain ⟨d3,X⟩:=hcut;have T:=hid X;obtain ⟨t4,t5⟩:=d3.cells;clear d3 X Z HC t0 t1 t2 t3 d0 d1 d2;go_wp2_with fail;refine T.out.mono ?_;rintro r w4 ⟨v,pl,O,G,rfl,hm⟩;have a6:=hid hm;clear hm T t4 t5;go_wp2_with fail
   go_loopw [4] (fun v4 wr=>∃s pl O G,s+pl.length<=h+(N+1)/\MkP V' (N+1) b F w s v4 pl O G wr) (fun v4 _=> lenOf v4)
   case atStart=> exact ⟨_,_,_,_,by have s:=a6.out.kids.len;have D:=a6.out.lvl.len;omega,a6.out⟩
   case round=>
    obtain ⟨s,L,g2,G1,d4,C⟩:=hrel;have a7:=hid d4;clear d4;have HM:=hid C;obtain ⟨a1,c1,rfl⟩:=Ab C.row;have l:=hid C.kids.len;have i1:L.length<=1800000:=(by rw [C.kids.len];have:=C.lvl.len;omega);clear C;by_cases f:1 < L.length
    ·obtain ⟨hr,d5,S⟩:=HM.out.node;have b8:=hid (Acq (s+1) ⟨#[]⟩ wr.heap.size (Tr.brT g2 []) _ _ hr d5 [] none HM.out.lvl.wf.1 (by have:=HM.out.lvl.wtb (by rw [<-l.out];exact f);omega));clear hr d5 S;go_wp2_with fail;refine b8.out.mono ?_;rintro r w5 ⟨v5,h4,G5,rfl,Y,e5,I⟩;have f5:=hid (HM.out.up (by rw [<-l.out];exact f) Y e5 I);have f6:h4.length < L.length:=by
      rw [Y.kids.len,l.out];exact Tr.Agf (by rw [<-l.out];exact f)
     obtain ⟨a5,c5,rfl⟩:=Ab Y.row;clear Y e5 I b8;go_wp2_with fail;exact ⟨⟨_,_,_,_,by have:=a7.out;omega,f5.out⟩,f6⟩
    ·have J:=HM.out.lvl.pos;obtain ⟨x1,rfl⟩:∃x1,L=[x1]:=by
      match L,f,l.out with
      | [x1],_,_=> exact ⟨x1,rfl⟩
      | [],_,hlen=> rw [<-hlen] at J;simp at J
      | _::_::_,f,_=> simp at f
     have f7:Hid (s<=(N+1)*2000000):=by
      show _<=_;have:=a7.out;rw [List.length_singleton] at this;omega
     clear a7;obtain ⟨p1,a0⟩:=HM.out.tb;obtain ⟨s0,s1⟩:=a0.cells;obtain ⟨g,i2,e,h9,-,hg,y0,y1⟩:=HM.out.row.at 0 (by simp);simp only [Value.slice.injEq] at e;obtain ⟨rfl,-,rfl⟩:=e;obtain ⟨t1,d6,d7⟩:=HM.out.root;have f8:=hid d6;have f9:=hid d7;simp only [List.getElem_cons_zero,Nat.zero_mul,Nat.zero_add] at y0 y1;clear a0 d6 d7 J f l;rw [List.length_singleton];go_wp2_with fail
     go_loopw [45] (fun _ wr=>∃D p2 t2 F2,D<=s/\Aer V' (N+1) b D p2 t2 F2 wr/\Fm (b::F) (b::F2) w wr) (fun _ wr=> Ami s b wr)
     case atStart=> exact ⟨_,_,_,_,Nat.le_refl _,f8.out,f9.out⟩
     case round=>
      obtain ⟨D,p2,t2,F2,g4,j,d8⟩:=hrel;have a8:=hid j;have b9:=hid d8;obtain ⟨z0,z1⟩:=j.tb.cells;clear j d8 s0 s1 y0 y1;by_cases i:∃(h3:Nat) (e:D=h3+1) (O:List (Tr.Key×Tr.Ac h3)),O.length=1/\Aer V' (N+1) b (h3+1) p2 (Tr.brT O []) F2 wr
      ·obtain ⟨h3,e3,i3,g5,a9⟩:=i;obtain ⟨g3,i0,a3,c3,q3,b0,i4,g6,t4,F4,b1,d9⟩:=a9.idle g5;have U:=hid (Ul p2 _ _ _ _ _ _ _ wr b0);obtain ⟨m0,m1,m2,-⟩:=b0.cells;have c4:=hid b1;have c6:=hid (b9.out.trans d9);have c7:=hid (Aes a9 (n:=s) (by omega));have c8:=hid (Aes b1 (n:=s) (by omega));clear b0 b1 d9 a9 a8;go_wp2_with fail;refine U.out.mono ?_;rintro r wr ⟨rfl,rfl⟩;go_wp2_with fail
       first
        | exact ⟨⟨_,_,_,_,by omega,c4.out,c6.out⟩,by rw [c7.out,c8.out];omega⟩
        | (go_roundw;case rel=> exact ⟨_,_,_,_,by omega,c4.out,c6.out⟩;case measure=> rw [c7.out,c8.out];omega)
        | (trace_state;fail)
      ·have c9:Hid (∃(vi:Value) (a a':Option Addr) (n c n' c':Nat),An wr p2 vi (.slice a n c) (.slice a' n' c')/\(decide (n=1)&&decide (n'=0))=false):=by
        have j:=a8.out
        match D,t2,j,i with
        | 0,t2,j,_=>
         obtain ⟨vi,il,hn,-⟩:=j.rep;exact ⟨vi,none,none,0,0,0,0,hn,rfl⟩
        | h3+1,(O,cs),j,i=>
         obtain ⟨vp,vc,pl,ml,G,hn,g7,g8,e,hk,eF⟩:=j.rep;obtain ⟨a,c,rfl⟩:=Ab g7;obtain ⟨a',c',rfl⟩:=Ab g8;refine ⟨_,a,a',_,c,_,c',hn,?_⟩;refine Bool.eq_false_iff.2 fun q=> i ?_
         simp only [Bool.and_eq_true,decide_eq_true_eq] at q;have g0:ml=[]:=List.eq_nil_of_length_eq_zero q.2;subst g0;have g1:cs=[]:=e.symm;subst g1;exact ⟨h3,rfl,O,by rw [<-hk.len];exact q.1,j⟩
       obtain ⟨vi,a,a',n,c,n',c',hn,hb⟩:=c9.out;have U:=hid (Ul p2 vi a a' n c n' c' wr hn);rw [hb] at U;clear hn hb c9 i;go_wp2_with fail;refine U.out.mono ?_;rintro r wr ⟨rfl,rfl⟩;go_wp2_with fail;go_end0;exact ⟨rfl,F2,⟨D,p2,t2,Nat.le_trans g4 f7.out,a8.out⟩,b9.out⟩
theorem Amj:Tr.Acr (fun _=> none) 1 0 (Tr.lf []):=by
 refine ⟨⟨List.Pairwise.nil,fun x a=> by cases a⟩,Nat.zero_le _,fun _=> rfl,?_⟩;show 1+2*(([]:List Tr.It).length - 16)<=2*1;simp
set_option maxHeartbeats 400000 in
theorem Aet (w:World):
  Calls Tryz.prog 31 #[] w fun r w'=>∃b F,r= .returned (.pointer (some ⟨b,0,none⟩))/\Ek (fun _=> none) 1 b F w'/\(∀g∈b::F,w.heap.size<=g)/\Below w.heap.size w w':=by
 have c:=heap_alloc_new w (.cells #[.slice none 0 0,.slice none 0 0,.slice none 0 0] 123);have d:Below w.heap.size w (w.alloc (.cells #[.slice none 0 0,.slice none 0 0,.slice none 0 0] 123)):=(Below.refl _ w).alloc (Nat.le_refl _) _;have f:(w.alloc (.cells #[.slice none 0 0,.slice none 0 0,.slice none 0 0] 123)).heap.size=w.heap.size+1:=by simp
 have i:Hid (Ek (fun _=> none) 1 (w.heap.size+1) [w.heap.size] ((w.alloc (.cells #[.slice none 0 0,.slice none 0 0,.slice none 0 0] 123)).alloc (.cells #[.pointer (some ⟨w.heap.size,0,none⟩)] 125))/\Below w.heap.size w ((w.alloc (.cells #[.slice none 0 0,.slice none 0 0,.slice none 0 0] 123)).alloc (.cells #[.pointer (some ⟨w.heap.size,0,none⟩)] 125))):=by
  generalize w.alloc (.cells #[.slice none 0 0,.slice none 0 0,.slice none 0 0] 123)=a at*;have j:=heap_alloc_new a (.cells #[.pointer (some ⟨w.heap.size,0,none⟩)] 125);have k:Below a.heap.size a (a.alloc (.cells #[.pointer (some ⟨w.heap.size,0,none⟩)] 125)):=(Below.refl _ a).alloc (Nat.le_refl _) _;rw [f] at j;refine ⟨⟨0,w.heap.size,Tr.lf [],Nat.zero_le _,j,⟨.slice none 0 0,[],(k.block _ (by omega)).trans c,World.ownsRow_nil _ _ _ _,rfl,rfl⟩,by simp,by simp,Amj⟩,d.trans (k.mono (by omega))⟩
 clear c d f;go_enter Tryz.func31,Tryz.ntmps31;go_wp2_with fail;go_ret;exact ⟨_,_,rfl,i.out.1,fun g l=> (List.mem_cons.1 l).elim (fun e=> by omega) (fun e=> by rw [List.mem_singleton.1 e];exact Nat.le_refl _),i.out.2⟩
end Go.Proofs.YtolgpnaoaodepaaGreat
