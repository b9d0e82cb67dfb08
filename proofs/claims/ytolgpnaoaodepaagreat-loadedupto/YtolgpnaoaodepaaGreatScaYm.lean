import Derived.Test.YtolgpnaoaodepaaGreatScaUm
import Derived.Test.YtolgpnaoaodepaaGreatWalkVm
import Derived.RangeFuncNested
import Derived.RangeFuncBound
import Derived.RangeFuncCalls
import Derived.RangeFuncLeaves
import Derived.RangeFuncBox
import Derived.Shelf.Abstract
import Derived.Shelf.RegionOpen
import Derived.OwnWalkIn
import Derived.TacticsInMore
import Derived.LoopNIn
import Derived.LoopIn
namespace Go.Proofs.YtolgpnaoaodepaaGreat
open Go.RowKit
theorem Ahh {V:Tr.Key->Option Tr.Key} {N h:Nat} {t:Tr.Ac h} (a:Tr.Acr V N h t) (c:Tr.Key):Tr.Mt c (h+1) [.nd [] 0 h none t]/\(∀k,V k=Tr.Aj (Tr.left (h+1) [.nd [] 0 h none t] k) k none)/\Tr.wtP [.nd [] 0 h none t]<=2*N:=by
 refine ⟨⟨fun p b=> ?_,List.pairwise_singleton ..⟩,fun k=> ?_,?_⟩
 ·rw [List.mem_singleton.1 b];exact ⟨a.wf,a.top,Tr.Hf,by omega⟩
 ·rw [<-a.val k,Tr.Aip h a.wf (Tr.Jb k)];congr 1;refine Tr.Hz fun d _=> ?_
  show _=(if d < 0 then [] else Tr.lev h t (d - 0) k)++[];rw [if_neg (by omega),List.append_nil];rfl
 ·show Tr.wt h t+0<=2*N;exact a.wt
theorem Amv {w W:World} {j c a h p:Nat} {l ub:ByteArray} {t:Tr.Ac h} {F:List Nat} (q:ScB W j l ub (.slice (some ⟨a,0,none⟩) 1 1)) (r:W.heap[a]?=some (.cells #[.pointer (some ⟨c,0,none⟩)] 137 (0,0))) (s:W.heap[c]?=some (.cells #[.string ⟨#[]⟩,.int .i64 0,.pointer (some ⟨p,0,none⟩),.slice none 0 0] 139 (0,0))) (u:Rep h w p t F) (y:Below w.heap.size w W) (z:w.heap.size<=j) (B:w.heap.size<=a):ScM w [] j l ub [.nd [] 0 h none t] W:=by
 have d:Cs 0 W (.slice (some ⟨a,0,none⟩) 1 1) [c]:=⟨rfl,.inr ⟨a,1,#[.pointer (some ⟨c,0,none⟩)],rfl,Nat.zero_le _,r,Nat.le_refl _,by unfold maxLen;omega,by simp,by simp [ptcells]⟩⟩;have f:PlB W c ⟨#[]⟩ 0 (some ⟨p,0,none⟩) (.slice none 0 0):=s;refine ⟨.slice (some ⟨a,0,none⟩) 1 1,fun _=> (⟨#[]⟩,0),[(c,.nd [] 0 h none t)],⟨q,d,fun b i=> by rw [List.mem_singleton.1 i];exact ⟨_,_,f⟩,fun k h0 m=> by simp at m;omega⟩,List.Perm.refl _,fun x n=> by rw [List.mem_singleton.1 n];exact ⟨rfl,rfl,p,F,f,u⟩,y,z,fun g o=> by have:a=g:=Option.some.inj o;omega⟩
theorem ScM.keepT {A:List Nat} {w0:World} {I:Nat} {J ub:ByteArray} {P:List Tr.Plc} {W W':World} (h:ScM w0 A I J ub P W) (i:∀(g:Nat) (H:Array Value) (T:TypeId),W.heap[g]?=some (.cells H T (0,0))->(T=143\/T=139\/T=137\/T=34)->W'.heap[g]?=W.heap[g]?) (V:Below w0.heap.size W W'):ScM w0 A I J ub P W':=by
 obtain ⟨v,K,L,d⟩:=h;have k:∀g,v.ownBlock=some g->W'.heap[g]?=W.heap[g]?:=fun g s=> by
  rcases d.hp.row.2 with ⟨rfl,_⟩ | ⟨O,n,R,rfl,_,C,_⟩
  ·simp [Value.ownBlock] at s
  ·have e:O=g:=Option.some.inj s;subst e;exact i _ _ _ C (.inr (.inr (.inl rfl)))
 refine ⟨v,K,L,⟨(i _ _ _ d.hp.sc (.inl rfl)).trans d.hp.sc,Bz d.hp.row fun g s _=> k g s,fun b D=> ?_,d.hp.heap⟩,d.pm,fun x S=> ?_,d.bel.trans V,d.sbn,d.vn⟩
 ·obtain ⟨u,c,q⟩:=d.hp.pl b D;exact ⟨u,c,(i _ _ _ q (.inr (.inl rfl))).trans q⟩
 ·have:=d.pl x S;obtain ⟨b,p⟩:=x
  cases p using Tr.Plc.two with
  | nd f L h' m' t=>
   obtain ⟨y,z,p,F,m,B⟩:=this;exact ⟨y,z,p,F,(i _ _ _ m (.inr (.inl rfl))).trans m,B⟩
  | ch L f m' c H=>
   obtain ⟨y,z,g,o,n,ml,r,m,B,G,M,N⟩:=this;have l:=i _ _ _ G (.inr (.inr (.inr rfl)));exact ⟨y,z,g,o,n,ml,r,(i _ _ _ m (.inr (.inl rfl))).trans m,B,l.trans G,fun j u U=> (World.cell?_of_block (w:=W) (a:=⟨g,o+j,none⟩) l).trans (M j u U),N⟩
theorem ScM.mod {A:List Nat} {w0:World} {c:Nat} {d ub:ByteArray} {P:List Tr.Plc} {W W':World} (h:ScM w0 A c d ub P W) {G:Nat->Prop} (m:Mod G W W') (i:∀(g:Nat) (a:Array Value) (T:TypeId),W.heap[g]?=some (.cells a T (0,0))->G g->T=136\/T=51) (j:∀g,G g->w0.heap.size<=g):ScM w0 A c d ub P W':=by
 refine h.keepT (fun g a T b f=> m.block g (Array.getElem?_eq_some_iff.1 b).1 fun q=> ?_) (m.below h.bel.size j);rcases i g a T b q with e | e <;> subst e <;> revert f <;> decide
structure ScR (w:World) (v:Value) (il:List (ByteArray×ByteArray)) (s:Option (List UInt8)) (W:World):Prop where
 row:Ak w.heap.size W v il
 st:StB W w.heap.size (stV s) (stB s)
 bel:Below w.heap.size w W
theorem ScR.frm {w:World} {c:Nat} {v:Value} {il:List (ByteArray×ByteArray)} {s:Option (List UInt8)} {W W':World} (h:ScR w v il s W) (i:Frm c W W') (n:Below w.heap.size w W') (o:∀m:Array Value,W.heap[c]?≠some (.cells m 51 (0,0))) (d:c≠w.heap.size):ScR w v il s W':=by
 refine ⟨Bz h.row fun g f l=> ?_,i.2 _ _ _ h.st (by decide) (fun e=> d e.symm),n⟩;rcases h.row.2 with ⟨rfl,_⟩ | ⟨j,k,b,rfl,_,a,_⟩
 ·simp [Value.ownBlock] at f
 ·have e:j=g:=Option.some.inj f;subst e;exact (i.2 _ _ _ a (by decide) (fun e=> o b (by rw [<-e];exact a))).trans a.symm
theorem ScR.below {w:World} {v:Value} {il:List (ByteArray×ByteArray)} {s:Option (List UInt8)} {W W':World} (h:ScR w v il s W) (a:Below W.heap.size W W'):ScR w v il s W':=⟨Aa h.row a (Nat.le_refl _),(a.block _ h.st.lt).trans h.st,h.bel.trans (a.mono h.bel.size)⟩
structure Aag (w:World) (sb:Nat) (fr ub:ByteArray) (P:List Tr.Plc) (cb:Nat) (k:Int) (key x:ByteArray) (v:Value) (il:List (ByteArray×ByteArray)) (s:Option (List UInt8)) (W:World):Prop where
 r:ScR w v il s W
 c:ChB W cb k key x
 m:ScM w [cb] sb fr ub P W
theorem Aag.below {w:World} {b:Nat} {d ub:ByteArray} {P:List Tr.Plc} {f:Nat} {k:Int} {key x:ByteArray} {v:Value} {il:List (ByteArray×ByteArray)} {s:Option (List UInt8)} {W W':World} (h:Aag w b d ub P f k key x v il s W) (a:Below W.heap.size W W'):Aag w b d ub P f k key x v il s W':=⟨h.r.below a,(a.block _ h.c.lt).trans h.c,h.m.below a⟩
theorem Aag.put {w:World} {i:Nat} {j ub:ByteArray} {P:List Tr.Plc} {f:Nat} {k:Int} {key x:ByteArray} {v:Value} {il:List (ByteArray×ByteArray)} {s:Option (List UInt8)} {W:World} (h:Aag w i j ub P f k key x v il s W) (b:Option (List UInt8)):Aag w i j ub P f k key x v il b ((W.setCell ⟨w.heap.size,0,none⟩ (.string (stV b))).setCell ⟨w.heap.size,1,none⟩ (.bool (stB b))):=by
 have l:=Mod.setCell W w.heap.size 0 (.string (stV b));have n:=Mod.setCell (W.setCell ⟨w.heap.size,0,none⟩ (.string (stV b))) w.heap.size 1 (.bool (stB b));have m:Mod (fun g=> g=w.heap.size) W ((W.setCell ⟨w.heap.size,0,none⟩ (.string (stV b))).setCell ⟨w.heap.size,1,none⟩ (.bool (stB b))):=l.trans n (fun _ _ q=> q) (fun _ _ q=> q);have a:=h.r.st;refine ⟨⟨m.row h.r.row (fun g d e=> Dd a h.r.row (by decide) (by rw [<-e];exact d)),a.put _ _,h.r.bel.trans (m.below h.r.bel.size fun k e=> by omega)⟩,(m.block f h.c.lt (fun e=> ?_)).trans h.c,h.m.mod m (fun g o T d e=> ?_) (fun g e=> by omega)⟩
 ·have:=h.c;unfold ChB at this;unfold StB at a;rw [e,a] at this;simp at this
 ·unfold StB at a;rw [e,a] at d;simp at d;exact .inl d.2.symm
theorem Aag.app {w:World} {f:Nat} {i ub:ByteArray} {P:List Tr.Plc} {d:Nat} {k:Int} {key x:ByteArray} {v j:Value} {il a:List (ByteArray×ByteArray)} {s:Option (List UInt8)} {W W':World} (h:Aag w f i ub P d k key x v il s W) (l:Ak w.heap.size W' j a) (n:Below w.heap.size W W') (o:W.grownBy W' v.ownBlock):Aag w f i ub P d k key x j a s W':=by
 have m:=Mod.of_grown o;refine ⟨⟨l,(m.block _ h.r.st.lt (Dd h.r.st h.r.row (by decide))).trans h.r.st,h.r.bel.trans n⟩,(m.block d h.c.lt (Dd h.c h.r.row (by decide))).trans h.c,h.m.mod m (fun g p T b e=> ?_) (fun g e=> (World.ownsRow.lt h.r.row g e).1)⟩;by_cases q:T=51
 ·exact .inr q
 ·exact absurd e (Dd b h.r.row (fun z=> q z.symm))
def SlI (w:World) (V:Tr.Key->Option Tr.Key) (fr ub:ByteArray) (D N sb C:Nat) (a:Value×Value×Value×Value×World) (P:List Tr.Plc):Prop:=
 ∃kb il s cb q k key x,a.2.1= .string kb/\a.2.2.1= .pointer (some ⟨cb,0,none⟩)/\a.2.2.2.1= .bool q/\ScR w a.1 il s a.2.2.2.2/\ChB a.2.2.2.2 cb k key x/\w.heap.size < cb/\Tr.ScI V fr.data.toList ub.data.toList D (plain il) kb.data.toList s P/\il.length+Tr.cnt P<=C/\
  (q=true->∃P',Tr.Ym fr.data.toList ub.data.toList D P (chP k key x) P'/\ScM w [cb] sb fr ub P' a.2.2.2.2/\Tr.wtP P'<=N)/\(q=false->Tr.Yn fr.data.toList ub.data.toList D P)
theorem Vd (il:List (ByteArray×ByteArray)) (key:ByteArray) (s:Option (List UInt8)):plain (Pc il key s)=Tr.Pk (plain il) key.data.toList s:=Ahb il key s
theorem Amw (il:List (ByteArray×ByteArray)) (key:ByteArray) (s:Option (List UInt8)):(Pc il key s).length<=il.length+1:=by cases s <;> simp [Pc]
theorem NxQ.uni {A:List Nat} {w0:World} {i:Nat} {c ub:ByteArray} {D:Nat} {P:List Tr.Plc} {W:World} {r:Ending} {W':World} (h:NxQ w0 A i c ub D P W r W'):∃k key x q,r= .returned (.tuple #[.agg #[.int .i64 k,.string key,.string x],.bool q])/\(q=true->∃a,Tr.Ym c.data.toList ub.data.toList D P (chP k key x) a/\ScM w0 A i c ub a W'/\Tr.wtP a<=Tr.wtP P)/\(q=false->Tr.Yn c.data.toList ub.data.toList D P)/\Below w0.heap.size w0 W'/\Frm i W W':=by
 rcases h with ⟨k,key,x,a,d,f,g,b,j⟩ | ⟨k,key,x,d,f,g,b⟩
 ·exact ⟨k,key,x,true,d,fun _=> ⟨a,f,b,g⟩,fun e=> absurd e (by simp),b.bel,j⟩
 ·exact ⟨k,key,x,false,d,fun e=> absurd e (by simp),fun _=> f,g,b⟩
theorem ScM.noItem {A:List Nat} {w0:World} {c:Nat} {d ub:ByteArray} {P:List Tr.Plc} {W:World} (h:ScM w0 A c d ub P W):∀b:Array Value,W.heap[c]?≠some (.cells b 51 (0,0)):=fun b e=> by
 obtain ⟨v,a⟩:=h.sc;unfold ScB at a;rw [a] at e;simp at e
theorem Ahi {w:World} {h p:Nat} {t:Tr.Ac h} {F:List Nat} (d ub:ByteArray) (y:Rep h w p t F):
  ScM w [] (w.heap.size+1+1+1) d ub [.nd [] 0 h none t] ((((w.alloc (.cells #[.string ⟨#[]⟩,.bool false] 136)).alloc (.cells #[.string ⟨#[]⟩,.int .i64 0,.pointer (some ⟨p,0,none⟩),.slice none 0 0] 139)).alloc (.cells #[.pointer (some ⟨w.heap.size+1,0,none⟩)] 137)).alloc (.cells #[.string d,.string ub,.slice (some ⟨w.heap.size+1+1,0,none⟩) 1 1] 143))/\ScR w (.slice none 0 0) [] none ((((w.alloc (.cells #[.string ⟨#[]⟩,.bool false] 136)).alloc (.cells #[.string ⟨#[]⟩,.int .i64 0,.pointer (some ⟨p,0,none⟩),.slice none 0 0] 139)).alloc (.cells #[.pointer (some ⟨w.heap.size+1,0,none⟩)] 137)).alloc (.cells #[.string d,.string ub,.slice (some ⟨w.heap.size+1+1,0,none⟩) 1 1] 143)):=by
 have q:=heap_alloc_new w (.cells #[.string ⟨#[]⟩,.bool false] 136);have r:Below w.heap.size w (w.alloc (.cells #[.string ⟨#[]⟩,.bool false] 136)):=(Below.refl _ w).alloc (Nat.le_refl _) _;have i:(w.alloc (.cells #[.string ⟨#[]⟩,.bool false] 136)).heap.size=w.heap.size+1:=by simp
 generalize w.alloc (.cells #[.string ⟨#[]⟩,.bool false] 136)=a at*;have k:=heap_alloc_new a (.cells #[.string ⟨#[]⟩,.int .i64 0,.pointer (some ⟨p,0,none⟩),.slice none 0 0] 139);have l:Below a.heap.size a (a.alloc (.cells #[.string ⟨#[]⟩,.int .i64 0,.pointer (some ⟨p,0,none⟩),.slice none 0 0] 139)):=(Below.refl _ a).alloc (Nat.le_refl _) _;have m:(a.alloc (.cells #[.string ⟨#[]⟩,.int .i64 0,.pointer (some ⟨p,0,none⟩),.slice none 0 0] 139)).heap.size=a.heap.size+1:=by simp
 generalize a.alloc (.cells #[.string ⟨#[]⟩,.int .i64 0,.pointer (some ⟨p,0,none⟩),.slice none 0 0] 139)=b at*;have n:=heap_alloc_new b (.cells #[.pointer (some ⟨w.heap.size+1,0,none⟩)] 137);have j:Below b.heap.size b (b.alloc (.cells #[.pointer (some ⟨w.heap.size+1,0,none⟩)] 137)):=(Below.refl _ b).alloc (Nat.le_refl _) _;have s:(b.alloc (.cells #[.pointer (some ⟨w.heap.size+1,0,none⟩)] 137)).heap.size=b.heap.size+1:=by simp
 generalize b.alloc (.cells #[.pointer (some ⟨w.heap.size+1,0,none⟩)] 137)=c at*;have o:=heap_alloc_new c (.cells #[.string d,.string ub,.slice (some ⟨w.heap.size+1+1,0,none⟩) 1 1] 143);have g:Below c.heap.size c (c.alloc (.cells #[.string d,.string ub,.slice (some ⟨w.heap.size+1+1,0,none⟩) 1 1] 143)):=(Below.refl _ c).alloc (Nat.le_refl _) _;generalize c.alloc (.cells #[.string d,.string ub,.slice (some ⟨w.heap.size+1+1,0,none⟩) 1 1] 143)=u at*;have f:Below w.heap.size w u:=((r.trans (l.mono (by omega))).trans (j.mono (by omega))).trans (g.mono (by omega));rw [s,m,i] at o;rw [m,i] at n;rw [i] at k;refine ⟨Amv o ((g.block _ (by omega)).trans n) ((g.block _ (by omega)).trans ((j.block _ (by omega)).trans k)) y f (by omega) (by omega),World.ownsRow_nil _ _ _ _,(g.block _ (by omega)).trans ((j.block _ (by omega)).trans ((l.block _ (by omega)).trans q)),f⟩
set_option maxHeartbeats 2000000 in
set_option maxRecDepth 4000 in
theorem Abu (V:Tr.Key->Option Tr.Key) (N b:Nat) (F:List Nat) (S ub:ByteArray) (w:World) (ht:Ek V N b F w) (hN:N<=900000):
  Calls Tryz.prog 39 #[.pointer (some ⟨b,0,none⟩),.string S,.string ub] w fun r w'=>∃v il,r= .returned v/\Ak w.heap.size w' v il/\Below w.heap.size w w'/\Tr.Bi (plain il)/\∀k,(¬k < S.data.toList/\Tr.Ns ub.data.toList k->Tr.Bj (plain il) k=V k)/\(¬(¬k < S.data.toList/\Tr.Ns ub.data.toList k)->Tr.Bj (plain il) k=none):=by
 obtain ⟨h,p,t,hh,hq⟩:=ht;obtain ⟨t0,t1⟩:=hq.tb.cells;have g8:=hq.tb.lt;obtain ⟨a7,c4,g6⟩:=Ahh hq.root S.data.toList;obtain ⟨d1,d9⟩:=Ahi S ub hq.rep;have e9:Tr.cnt [.nd [] 0 h none t]<=28800000:=by
  have h1:=Tr.Air h hq.root.wf hq.root.top;have h2:=hq.root.wt;show Tr.Aaf h t+0<=_;omega
 have f8:=hid (Tr.ScI.start (ub:=ub.data.toList) a7 fun k _=> c4 k);have X:=hid (Tl d1 a7 (by omega) (by omega) (fun a ha=> by cases ha));have f9:=hid d9;have g0:=hid d1;clear a7 c4 d1 d9 hq;generalize h4:[Tr.Plc.nd [] 0 h none t]=P0 at*;obtain ⟨μ,c5,c6⟩:=Aiv (SlI w V S ub (h+1) (2*N) (w.heap.size+1+1+1) 28800000) Tr.size;have d5:=hid c5;have g1:=hid c6;clear c5 c6;go_enter Tryz.func39,Tryz.ntmps39;go_wp2_with fail;refine X.out.mono ?_;rintro r w1 O;obtain ⟨k,key,x,q,rfl,L,M,e0,e1⟩:=O.uni;have c7:=f9.out.frm e1 e0 g0.out.noItem (by omega);have u:Below w1.heap.size w1 (w1.alloc (.cells #[.int .i64 k,.string key,.string x] 34)):=(Below.refl _ w1).alloc (Nat.le_refl _) _;have g2:Hid (SlI w V S ub (h+1) (2*N) (w.heap.size+1+1+1) 28800000 (.slice none 0 0,.string ⟨#[]⟩,.pointer (some ⟨w1.heap.size,0,none⟩),.bool q,w1.alloc (.cells #[.int .i64 k,.string key,.string x] 34)) P0):=
  ⟨⟨#[]⟩,[],none,w1.heap.size,q,k,key,x,rfl,rfl,rfl,c7.below u,heap_alloc_new _ _,c7.st.lt,f8.out,by simpa using e9,fun e=> by
    obtain ⟨W,h1,h2,h3⟩:=L e;exact ⟨W,h1,(h2.more (Nat.le_refl _)).below u,Nat.le_trans h3 g6⟩,M⟩
 clear L M e0 e1 c7 u O X;go_wp2_with fail
 go_loopw [7,8,11,12] (fun v7 v8 d3 d4 wr=>∃P,SlI w V S ub (h+1) (2*N) (w.heap.size+1+1+1) 28800000 (v7,v8,d3,d4,wr) P) (fun v7 v8 d3 d4 wr=> μ (v7,v8,d3,d4,wr))
 case atStart=> exact ⟨P0,g2.out⟩
 case round=>
  obtain ⟨P1,hI,e2⟩:=g1.out _ hrel;clear hrel;obtain ⟨C,il,s,cb,q1,D,d,B,e8,c8,c9,hR,hC,g9,e3,h0,hT,e4⟩:=hI;have e8:u8= .string C:=e8;have c8:u11= .pointer (some ⟨cb,0,none⟩):=c8;have c9:u12= .bool q1:=c9;subst e8 c8 c9;have HR:=hid hR;have HC:=hid hC;have b4:=hid e3;have HT:=hid hT;have g3:=hid e4;have d6:=hid e2;obtain ⟨c0,c1,c2⟩:=HC.out.cells;obtain ⟨s0,s1,s2,s3⟩:=HR.out.st.cells;clear hR hC e3 hT e4 e2
  cases q1 with
  | false=>
   have b5:=hid (No s w.heap.size u7 il C wr HR.out.row HR.out.bel.size (by omega));go_wp2_with fail;refine b5.out.mono ?_;rintro r w5 ⟨v5,rfl,b1,b2,-,-⟩;have d7:=g3.out (by first | rfl | trivial);obtain ⟨a8,a9⟩:=b4.out.told d7;have HF:Hid (Ak w.heap.size w5 v5 (Pc il C s)/\Below w.heap.size w w5/\Tr.Bi (plain (Pc il C s))/\∀k,(¬k < S.data.toList/\Tr.Ns ub.data.toList k->Tr.Bj (plain (Pc il C s)) k=V k)/\(¬(¬k < S.data.toList/\Tr.Ns ub.data.toList k)->Tr.Bj (plain (Pc il C s)) k=none)):=by
    rw [Vd];exact ⟨b1,HR.out.bel.trans b2,a8,a9⟩
   clear b1 b2 d7 a8 a9;go_wp2_with fail;go_ret;exact ⟨_,_,rfl,HF.out⟩
  | true=>
   obtain ⟨W,O,e5,e6⟩:=HT.out rfl;have X:=hid O;have b6:=hid e6;have HB:=hid (Aag.mk HR.out HC.out e5);have b9:=hid O.size;have g7:il.length+1+Tr.cnt W<=28800000:=(by have:=O.cn;omega);have g4:∀s':Option (List UInt8),(∀v,s'=some v->v.length<=16)->(s'.getD []).length<=20000000:=fun s' h=> by
    cases s' with
    | none=> simp
    | some v=> have:=h v rfl;show v.length<=_;omega
   have c3:B.size<=20000000:=by
    have:=(Tr.Jp O.okc).2;have h2:B.data.toList.length<=16:=this;have h3:B.size<=16:=(by simpa using h2);omega
   clear O e5 e6;by_cases he:d.data.toList=C.data.toList
   case pos=>
    have r1:(d.toList==C.toList)=true:=(by rw [Ah,Ah];simpa using he);have Y:=hid (Om s D d B wr (g4 s b4.out.len) c3);go_wp2_with fail;refine Y.out.mono ?_;rintro r w7 ⟨rfl,b3⟩;have T:=HB.out.below b3;obtain ⟨f0,f1,f2,f3⟩:=T.r.st.cells;have n:=hid (T.put (Tr.Di s (chP D d B)));have G:Hid (Tr.ScI V S.data.toList ub.data.toList (h+1) (plain il) C.data.toList (Tr.Di s (chP D d B)) W):=b4.out.stay X.out he;have Z:Hid (il.length+Tr.cnt W<=28800000):=(by show _<=_;omega);generalize Tr.Di s (chP D d B)=s8 at*;obtain ⟨j,b0⟩:∃j,(w7.setCell ⟨w.heap.size,0,none⟩ (.string (stV s8))).setCell ⟨w.heap.size,1,none⟩ (.bool (stB s8))=j:=⟨_,rfl⟩;rw [b0] at n;obtain ⟨j0,j1,j2⟩:=n.out.c.cells;clear b3 T Y c0 c1 c2 s0 s1 s2 s3;go_upto_region 11 with fail;clear b0 f0 f1 f2 f3;have u:Below j.heap.size j (j.alloc (.cells #[.int .i64 D,.string d,.string B] 34)):=(Below.refl _ j).alloc (Nat.le_refl _) _;have U:ScM w [j.heap.size] (w.heap.size+1+1+1) S ub W (j.alloc (.cells #[.int .i64 D,.string d,.string B] 34)):=(n.out.m.less.more (Nat.le_refl _)).below u;have a0:=n.out.r.below u;have a1:ChB (j.alloc (.cells #[.int .i64 D,.string d,.string B] 34)) j.heap.size D d B:=heap_alloc_new _ _;have a2:=hid (Tl U G.out.inv (Nat.le_trans b6.out (Nat.mul_le_mul_left 2 hN)) (by omega) (fun a ha=> by rw [List.mem_singleton.1 ha];simp));have a3:=hid U;have a4:=hid a0;have a5:=hid a1;have a6:=n.out.r.st.lt;clear u U a0 a1;go_wp2_with fail;refine a2.out.mono ?_;rintro r z A;obtain ⟨k2,l,x2,q2,rfl,L,M,R,y⟩:=A.uni;have f:=a4.out.frm y R a3.out.noItem (by omega);have i:ChB z j.heap.size D d B:=y.2 _ _ _ a5.out (by decide) (by obtain ⟨vq,d2⟩:=n.out.m.sc;have:=d2.lt;omega);have hm:=Mod.set3 z j.heap.size 0 (.int .i64 k2) (.string l) (.string x2);have H:=i.put k2 l x2;have I:ScR w u7 il s8 (((z.setCell ⟨j.heap.size,0,none⟩ (.int .i64 k2)).setCell ⟨j.heap.size,1,none⟩ (.string l)).setCell ⟨j.heap.size,2,none⟩ (.string x2)):=⟨hm.row f.row (fun g hg e=> Dd i f.row (by decide) (by rw [<-e];exact hg)),(hm.block _ f.st.lt (by omega)).trans f.st,f.bel.trans (hm.below f.bel.size fun k e=> by omega)⟩;have J:Hid (SlI w V S ub (h+1) (2*N) (w.heap.size+1+1+1) 28800000 (u7,.string C,.pointer (some ⟨j.heap.size,0,none⟩),.bool q2,((z.setCell ⟨j.heap.size,0,none⟩ (.int .i64 k2)).setCell ⟨j.heap.size,1,none⟩ (.string l)).setCell ⟨j.heap.size,2,none⟩ (.string x2)) W):=
     ⟨C,il,s8,j.heap.size,q2,k2,l,x2,rfl,rfl,rfl,I,H,a6,G.out,Z.out,fun e=> by
      obtain ⟨P2,z1,z2,z3⟩:=L e;exact ⟨P2,z1,z2.set i (List.mem_singleton.2 rfl) (by omega) hm,Nat.le_trans z3 b6.out⟩,M⟩
    have d0:=hid (Nat.lt_of_le_of_lt (d5.out _ _ J.out) b9.out);obtain ⟨i0,i1,i2⟩:=i.cells;have g5:∀o,z.frozen? ⟨j.heap.size,o,none⟩=false:=fun o=> by
     unfold ChB at i;simp [World.frozen?,i]
    clear L M R y f i hm H I A a2 a3 a4 a5;go_wp2_with fail;exact ⟨⟨W,J.out⟩,by rw [<-d6.out];exact d0.out⟩
   case neg=>
    have r1:(d.toList==C.toList)=false:=(by rw [Ah,Ah];simpa using he);have b5:=hid (No s w.heap.size u7 il C wr HR.out.row HR.out.bel.size (by omega));go_wp2_with fail;refine b5.out.mono ?_;rintro r w5 ⟨v5,rfl,b1,b2,e7,-⟩;have b7:=HB.out.app b1 b2 e7;obtain ⟨f0,f1,f2,f3⟩:=b7.r.st.cells;obtain ⟨m0,m1,m2⟩:=b7.c.cells;have b8:=b7.put none;have d8:=hid b8;obtain ⟨o0,o1,o2,o3⟩:=b8.r.st.cells;obtain ⟨l0,l1,l2⟩:=b8.c.cells;have Y:=hid (Om none D d B ((w5.setCell ⟨w.heap.size,0,none⟩ (.string (stV none))).setCell ⟨w.heap.size,1,none⟩ (.bool (stB none))) (by simp) c3);have G:Hid (Tr.ScI V S.data.toList ub.data.toList (h+1) (plain (Pc il C s)) d.data.toList (Tr.Di none (chP D d B)) W):=by
     show Tr.ScI _ _ _ _ _ _ _ _;rw [Vd];exact b4.out.turn X.out he
    have Z:Hid ((Pc il C s).length+Tr.cnt W<=28800000):=by
     show _<=_;have:=Amw il C s;omega
    clear b1 b2 e7 b7 b8 b5;go_wp2_with fail;refine Y.out.mono ?_;rintro r w7 ⟨rfl,b3⟩;have T:=d8.out.below b3;obtain ⟨f4,f5,f6,f7⟩:=T.r.st.cells;have n:=hid (T.put (Tr.Di none (chP D d B)));generalize Tr.Di none (chP D d B)=s8 at*;obtain ⟨j,b0⟩:∃j,(w7.setCell ⟨w.heap.size,0,none⟩ (.string (stV s8))).setCell ⟨w.heap.size,1,none⟩ (.bool (stB s8))=j:=⟨_,rfl⟩;rw [b0] at n;obtain ⟨j0,j1,j2⟩:=n.out.c.cells;clear b3 T Y d8 c0 c1 c2 s0 s1 s2 s3 f0 f1 f2 f3 m0 m1 m2 o0 o1 o2 o3 l0 l1 l2;go_upto_region 11 with fail;clear b0 f4 f5 f6 f7;have u:Below j.heap.size j (j.alloc (.cells #[.int .i64 D,.string d,.string B] 34)):=(Below.refl _ j).alloc (Nat.le_refl _) _;have U:ScM w [j.heap.size] (w.heap.size+1+1+1) S ub W (j.alloc (.cells #[.int .i64 D,.string d,.string B] 34)):=(n.out.m.less.more (Nat.le_refl _)).below u;have a0:=n.out.r.below u;have a1:ChB (j.alloc (.cells #[.int .i64 D,.string d,.string B] 34)) j.heap.size D d B:=heap_alloc_new _ _;have a2:=hid (Tl U G.out.inv (Nat.le_trans b6.out (Nat.mul_le_mul_left 2 hN)) (by omega) (fun a ha=> by rw [List.mem_singleton.1 ha];simp));have a3:=hid U;have a4:=hid a0;have a5:=hid a1;have a6:=n.out.r.st.lt;clear u U a0 a1;go_wp2_with fail;refine a2.out.mono ?_;rintro r z A;obtain ⟨k2,l,x2,q2,rfl,L,M,R,y⟩:=A.uni;have f:=a4.out.frm y R a3.out.noItem (by omega);have i:ChB z j.heap.size D d B:=y.2 _ _ _ a5.out (by decide) (by obtain ⟨vq,d2⟩:=n.out.m.sc;have:=d2.lt;omega);have hm:=Mod.set3 z j.heap.size 0 (.int .i64 k2) (.string l) (.string x2);have H:=i.put k2 l x2;have I:ScR w v5 (Pc il C s) s8 (((z.setCell ⟨j.heap.size,0,none⟩ (.int .i64 k2)).setCell ⟨j.heap.size,1,none⟩ (.string l)).setCell ⟨j.heap.size,2,none⟩ (.string x2)):=⟨hm.row f.row (fun g hg e=> Dd i f.row (by decide) (by rw [<-e];exact hg)),(hm.block _ f.st.lt (by omega)).trans f.st,f.bel.trans (hm.below f.bel.size fun k e=> by omega)⟩;have J:Hid (SlI w V S ub (h+1) (2*N) (w.heap.size+1+1+1) 28800000 (v5,.string d,.pointer (some ⟨j.heap.size,0,none⟩),.bool q2,((z.setCell ⟨j.heap.size,0,none⟩ (.int .i64 k2)).setCell ⟨j.heap.size,1,none⟩ (.string l)).setCell ⟨j.heap.size,2,none⟩ (.string x2)) W):=
     ⟨d,(Pc il C s),s8,j.heap.size,q2,k2,l,x2,rfl,rfl,rfl,I,H,a6,G.out,Z.out,fun e=> by
      obtain ⟨P2,z1,z2,z3⟩:=L e;exact ⟨P2,z1,z2.set i (List.mem_singleton.2 rfl) (by omega) hm,Nat.le_trans z3 b6.out⟩,M⟩
    have d0:=hid (Nat.lt_of_le_of_lt (d5.out _ _ J.out) b9.out);obtain ⟨i0,i1,i2⟩:=i.cells;have g5:∀o,z.frozen? ⟨j.heap.size,o,none⟩=false:=fun o=> by
     unfold ChB at i;simp [World.frozen?,i]
    clear L M R y f i hm H I A a2 a3 a4 a5;go_wp2_with fail;exact ⟨⟨W,J.out⟩,by rw [<-d6.out];exact d0.out⟩
end Go.Proofs.YtolgpnaoaodepaaGreat
namespace Go.Proofs.YtolgpnaoaodepaaGreat
open Go.RowKit Go.MuLone
theorem ST.below {w w':World} {x b:Nat} (h:ST w x b) (a:Below w.heap.size w w'):ST w' x b:=(a.block x h.lt).trans h
theorem Fm.of_mod {F F':List Nat} {w w0 a:World} (b:Below w.heap.size w w0) (d:Mod (fun g=> g∈F) w0 a) (f:∀g∈F',g∈F\/w0.heap.size<=g):Fm F F' w a:=
 ⟨(Mod.of_below (F:=fun g=> g∈F) b).trans d (fun _ _ q=> q) (fun _ _ q=> q),fun g c=> (f g c).imp id (Nat.le_trans b.size)⟩
set_option maxHeartbeats 400000 in
theorem Amx (w:World):
  Calls Tryz.prog 12 #[] w fun r w'=>∃x b F,r= .returned (.pointer (some ⟨x,0,none⟩))/\ST w' x b/\Ek (fun _=> none) 1 b F w'/\(∀g∈x::b::F,w.heap.size<=g)/\x∉b::F/\Below w.heap.size w w':=by
 go_enter Tryz.func12,Tryz.ntmps12;go_wp2_with fail;refine (Aet w).mono ?_;rintro r a ⟨b,F,rfl,j,l,d⟩;have i:=d.size;have c:Below a.heap.size a (a.alloc (.cells #[.int .i32 0,.int .u32 0,.pointer (some ⟨b,0,none⟩)] 95)):=(Below.refl _ a).alloc (Nat.le_refl _) _;have H:Hid (∃f F',ST (a.alloc (.cells #[.int .i32 0,.int .u32 0,.pointer (some ⟨b,0,none⟩)] 95)) a.heap.size f/\Ek (fun _=> none) 1 f F' (a.alloc (.cells #[.int .i32 0,.int .u32 0,.pointer (some ⟨b,0,none⟩)] 95))/\(∀g∈a.heap.size::f::F',w.heap.size<=g)/\a.heap.size∉f::F'/\Below w.heap.size w (a.alloc (.cells #[.int .i32 0,.int .u32 0,.pointer (some ⟨b,0,none⟩)] 95))):=
  ⟨b,F,heap_alloc_new _ _,j.keep fun g k=> c.block g (j.lt g k),fun g k=> (List.mem_cons.1 k).elim (fun e=> by omega) (l g),fun q=> by have:=j.lt _ q;omega,d.trans (c.mono i)⟩
 clear j l d i c;go_wp2_with fail;go_ret;obtain ⟨f,F',m,n,o,p,s⟩:=H.out;exact ⟨_,f,F',rfl,m,n,o,p,s⟩
def SmQ (V:Tr.Key->Option Tr.Key) (N x b:Nat) (F:List Nat) (k:Int) (key v:ByteArray) (w:World) (r:Ending) (w':World):Prop:=
 r= .returned (.int .i64 (if Pg.Bt k key.size v.size then 0 else 1))/\ST w' x b/\∃F',Ek (if Pg.Bt k key.size v.size then fun k'=> Tr.one k' (V k') (chP k key v) else V) (N+1) b F' w'/\Fm (b::F) (b::F') w w'
theorem Ek.up {V:Tr.Key->Option Tr.Key} {N b:Nat} {F:List Nat} {w:World} (h:Ek V N b F w):Ek V (N+1) b F w:=by
 obtain ⟨h,p,t,c,a⟩:=h;exact ⟨h,p,t,Nat.le_trans c (Nat.mul_le_mul_right _ (Nat.le_succ N)),a.tb,a.rep,a.nd,a.nb,a.root.wf,a.root.top,a.root.val,Nat.le_trans a.root.wt (Nat.mul_le_mul_left 2 (Nat.le_succ _))⟩
theorem Amy {V':Tr.Key->Option Tr.Key} {N x b:Nat} {F F':List Nat} {w w0 a:World} (d:Below w.heap.size w w0) (c:ST w0 x b) (n:Mod (fun g=> g∈b::F) (w0.setCell ⟨x,0,none⟩ (.int .i32 1)) a) (i:x∉b::F) (j:Ek V' N b F' a) (k:∀g∈b::F',g∈b::F\/w0.heap.size<=g):ST (a.setCell ⟨x,0,none⟩ (.int .i32 0)) x b/\Ek V' N b F' (a.setCell ⟨x,0,none⟩ (.int .i32 0))/\Fm (b::F) (b::F') w (a.setCell ⟨x,0,none⟩ (.int .i32 0)):=by
 obtain ⟨m,l⟩:=Ae3 c n i;refine ⟨l,j.keep fun g f=> (Mod.setCell a x 0 (.int .i32 0)).block g (j.lt g f) fun e=> ?_,Fm.of_mod d m k⟩;rcases k g f with q | q
 ·exact i (by rw [<-e];exact q)
 ·have:=c.lt;omega
set_option maxHeartbeats 1000000 in
set_option maxRecDepth 20000 in
theorem Tm (V:Tr.Key->Option Tr.Key) (N x b:Nat) (F:List Nat) (k:Int) (key v:ByteArray) (w:World) (Z:ST w x b) (ht:Ek V N b F w) (hx:x∉b::F) (hN:N+1<=900000):
  Calls Tryz.prog 14 #[.pointer (some ⟨x,0,none⟩),.agg #[.int .i64 k,.string key,.string v]] w (SmQ V N x b F k key v w):=by
 have j:Below w.heap.size w (w.alloc (.cells #[.int .i64 k,.string key,.string v] 34)):=(Below.refl _ w).alloc (Nat.le_refl _) _;have y:=hid j;have M:=hid Z.lt;have L:=hid hx;have l:=Z.below j;have m:Ek V N b F (w.alloc (.cells #[.int .i64 k,.string key,.string v] 34)):=ht.keep fun g i=> j.block g (ht.lt g i)
 have n:ChB (w.alloc (.cells #[.int .i64 k,.string key,.string v] 34)) w.heap.size k key v:=heap_alloc_new _ _;clear Z ht hx j;generalize J:w.alloc (.cells #[.int .i64 k,.string key,.string v] 34)=w0 at*;have O:=hid J;clear J;have z:=hid l;have A:=hid (Mod.setCell w0 x 0 (.int .i32 1));have B:=hid l.lock;have C:Hid (Ek V N b F (w0.setCell ⟨x,0,none⟩ (.int .i32 1))):=m.keep fun g i=> A.out.block g (m.lt g i) fun e=> L.out (by rw [<-e];exact i)
 have o:Hid (ChB (w0.setCell ⟨x,0,none⟩ (.int .i32 1)) w.heap.size k key v):=(A.out.block _ n.lt (by have:=M.out;omega)).trans n;obtain ⟨s0,s2,sf⟩:=l.cells;have D:=sf 0;obtain ⟨d0,d1,d2⟩:=o.out.cells;clear l m n sf;go_enter_defers Tryz.func14,Tryz.ntmps14;go_wp2_with (go_at_call 34;rw [O.out];refine (lock_free Pf ⟨x,0,none⟩ w0 s0 D).mono ?_;rintro e w' ⟨rfl,rfl⟩);have R:Hid ((w0.setCell ⟨x,0,none⟩ (.int .i32 1)).heap.size=w0.heap.size):=by show _=_;simp [World.setCell]
 refine (Rn k key v _).mono ?_;rintro r u ⟨rfl,c⟩;have p:=hid c;have s:Hid (SL u x b):=(c.block x B.out.lt).trans B.out;have S:Hid (ChB u w.heap.size k key v):=(c.block _ o.out.lt).trans o.out;have G:Hid (Ek V N b F u):=C.out.keep fun g i=> c.block g (C.out.lt g i)
 clear c d0 d1 d2 s0 s2 D;obtain ⟨d0,d1,d2⟩:=S.out.cells;obtain ⟨l0,l2,lf⟩:=s.out.cells;have T:=lf 0;clear lf
 cases d:Pg.Bt k key.size v.size with
 | false=>
  have H:=hid (Amy (V':=V) (N:=N+1) (F':=F) y.out z.out (Mod.of_below p.out) L.out G.out.up (fun g i=> .inl i));have t:=hid d;clear d;go_wp2_with fail;refine leaves_cons (f:=35) (args:= #[.pointer (some ⟨x,0,none⟩)]) (by simp) (by simp [go_sem]) ?_;refine (unlock_deferred Pf ⟨x,0,none⟩ .returning _ l0 T).mono ?_;rintro e u' Y ⟨rfl,rfl,rfl⟩;refine ⟨_,results_tmp rfl _ _ _,?_⟩;unfold SmQ;rw [t.out];exact ⟨rfl,H.out.1,F,H.out.2⟩
 | true=>
  have U:=hid (Abm V N b F k key v u.drew (G.out.keep fun _ _=> rfl) hN (show Tr.Ew (chP k key v) by
   show Pg.Bt k key.data.toList.length v.data.toList.length=true;rw [len_size,len_size];exact d))
  have t:=hid d;clear d;go_upto_region 5 with fail
  first | go_region_law (go_simp;go_at_call 37;refine U.out.mono ?_;rintro r w3 ⟨rfl,F',I,a⟩;have H:=hid (Amy (V':=fun k'=> Tr.one k' (V k') (chP k key v)) (N:=N+1) (F':=F') y.out z.out (((Mod.of_below (F:=fun g=> g∈b::F) p.out).trans (show Mod (fun g=> g∈b::F) u w3 from ⟨a.1.os,a.1.tape,a.1.output,a.1.size,a.1.block⟩) (fun _ _ q=> q) (fun _ _ q=> q))) L.out I (fun g i=> (a.2 g i).imp id (fun q=> by have h1:u.heap.size<=g:=q;have h2:=p.out.size;rw [R.out] at h2;omega)));have W:Hid (SL w3 x b):=(a.1.block x s.out.lt L.out).trans s.out;clear I a;obtain ⟨z0,z2,zf⟩:=W.out.cells;have X:=zf 0;clear zf) | fail
  all_goals
   go_wp2_with fail;refine leaves_cons (f:=35) (args:= #[.pointer (some ⟨x,0,none⟩)]) (by simp) (by simp [go_sem]) ?_;refine (unlock_deferred Pf ⟨x,0,none⟩ .returning _ z0 X).mono ?_;rintro e u' Y ⟨rfl,rfl,rfl⟩;refine ⟨_,results_tmp rfl _ _ _,?_⟩;unfold SmQ;rw [t.out];exact ⟨rfl,H.out.1,F',H.out.2⟩
set_option maxHeartbeats 1000000 in
set_option maxRecDepth 20000 in
theorem Akc (V:Tr.Key->Option Tr.Key) (N x b:Nat) (F:List Nat) (s ub:ByteArray) (w:World) (p:ST w x b) (J:Ek V N b F w) (T:x∉b::F) (Z:N<=900000):
  Calls Tryz.prog 19 #[.pointer (some ⟨x,0,none⟩),.string s,.string ub] w fun r w'=>∃v il,r= .returned (.tuple #[v,.int .i64 0])/\Ak w.heap.size w' v il/\Below w.heap.size w w'/\Tr.Bi (plain il)/\∀k,(¬k < s.data.toList/\Tr.Ns ub.data.toList k->Tr.Bj (plain il) k=V k)/\(¬(¬k < s.data.toList/\Tr.Ns ub.data.toList k)->Tr.Bj (plain il) k=none):=by
 have t:=hid p;have U:=hid T;have u:=hid (Mod.setCell w x 0 (.int .i32 1));have d:=hid p.lock;have y:Hid (Ek V N b F (w.setCell ⟨x,0,none⟩ (.int .i32 1))):=J.keep fun g q=> u.out.block g (J.lt g q) fun e=> U.out (by rw [<-e];exact q)
 have z:Hid ((w.setCell ⟨x,0,none⟩ (.int .i32 1)).heap.size=w.heap.size):=by show _=_;simp [World.setCell]
 have A:=hid p.lt;obtain ⟨M,-,O⟩:=p.cells;have l:=O 0;obtain ⟨H,R,-⟩:=d.out.cells;have B:=hid (Abu V N b F s ub _ y.out Z);clear p J T O;go_enter_defers Tryz.func19,Tryz.ntmps19;go_wp2_with (go_at_call 34;refine (lock_free Pf ⟨x,0,none⟩ w M l).mono ?_;rintro e w' ⟨rfl,rfl⟩);refine B.out.mono ?_;rintro r I ⟨v,il,rfl,i,j,m,o⟩;have W:=hid (And.intro m o);have C:Hid (SL I x b):=(j.block x d.out.lt).trans d.out;have D:=hid i;have X:=hid (Pz t.out j);clear j H R M l m o;obtain ⟨H,R,S⟩:=C.out.cells;have G:=S 0;obtain ⟨a,n,c,rfl⟩:=Ey i;clear i S;go_wp2_with fail;refine leaves_cons (f:=35) (args:= #[.pointer (some ⟨x,0,none⟩)]) (by simp) (by simp [go_sem]) ?_;refine (unlock_deferred Pf ⟨x,0,none⟩ .returning _ H G).mono ?_;rintro e u' Y ⟨rfl,rfl,rfl⟩;refine ⟨_,results_tmp2 rfl _ _ _,?_⟩;have L:Ak w.heap.size I (.slice a n c) il:=by have:=D.out;rw [z.out] at this;exact this
 refine ⟨_,il,rfl,?_,X.out,W.out⟩;exact (Mod.setCell I x 0 (.int .i32 0)).row L fun g q e=> by have h1:=(World.ownsRow.lt L g q).1;have h2:=A.out;omega
abbrev Wn:=Nat×List (Int×ByteArray×ByteArray)
def Ar4 (w:World) (x:Wn):Prop:=∃vi vp vc,An w x.1 vi vp vc/\Au 0 w vc x.2/\x.2.length<=8/\∀c∈x.2,c.2.2.size<=16
def Amz (key:Tr.Key) (s:Option Tr.Key) (wl:List Wn):Option Tr.Key:=wl.foldr (fun x s=> Tr.Aj (plainCh x.2) key s) s
theorem Akd (key:Tr.Key) (s:Option Tr.Key) (a:List Wn) (x:Wn):Amz key s (a++[x])=Amz key (Tr.Aj (plainCh x.2) key s) a:=by
 unfold Amz;rw [List.foldr_append];rfl
theorem Ake {a:List Tr.Ch} {ml:List (Int×ByteArray×ByteArray)} (e:plainCh ml=a) (h:∀c∈a,Tr.Ew c):∀c∈ml,c.2.2.size<=16:=fun c f=> by
 have b:(c.1,c.2.1.data.toList,c.2.2.data.toList)∈a:=by rw [<-e];exact List.mem_map.2 ⟨c,f,rfl⟩
 have d:=(Tr.Jp (h _ b)).2;rw [<-len_size];exact d
theorem An0 {h:Nat} {w:World} {p:Nat} {s:List (Tr.Key×Tr.Ac h)} {q:List Tr.Ch} {F:List Nat} {lo:Tr.Key} {hi:Option Tr.Key} {key:Tr.Key} (W:Rep (h+1) w p (s,q) F) (X:Tr.WF (h+1) lo hi (s,q)) (L:Tr.Top (h+1) (s,q)) (Y:Tr.inR lo hi key):
  ∃vp vc pl ml,An w p (.slice none 0 0) vp vc/\Ap 0 w vp pl/\pl.length<=4/\Au 0 w vc ml/\Ar4 w (p,ml)/\∃(a:Tr.ix (pkeys pl) key < pl.length),∃r F' j k,Rep h w (pl[Tr.ix (pkeys pl) key]'a).2 r F'/\Tr.WF h j k r/\Tr.Top h r/\Tr.inR j k key/\Tr.room j k/\Tr.val (h+1) (s,q) key=Tr.Aj (plainCh ml) key (Tr.val h r key):=by
 obtain ⟨vp,vc,pl,ml,G,H,y,o,e,g,rfl⟩:=W;obtain ⟨z,C⟩:=X;obtain ⟨A,f,t,B,m,N,I,J,O,R,e6,e7⟩:=Tr.El z Y;have d:=g.keys;have l:=g.len;subst N;obtain ⟨b,S,G1,G2,rfl,T,U,D,rfl⟩:=Cc.split g
 match S,D with
 | x::B'',⟨ex,H1,H2,r1,hk3,_⟩=>
  have a:Tr.ix (pkeys (b++x::B'')) key=b.length:=by rw [d,I,T]
  have n:Tr.ix (pkeys (b++x::B'')) key < (b++x::B'').length:=by rw [a];simp
  have u:((b++x::B'')[Tr.ix (pkeys (b++x::B'')) key]'n)=x:=by
   have:∀i (hi:i < (b++x::B'').length),i=b.length->(b++x::B'')[i]'hi=x:=by
    rintro i hi rfl;simp
   exact this _ _ a
  refine ⟨vp,vc,_,ml,H,y,by rw [l];exact L.1,o,⟨_,_,_,H,o,?_,Ake e fun c V=> (C c V).2⟩,n,t,H1,f,m,by rw [u];exact r1,J.1,J.2,R,O,?_⟩
  ·show ml.length<=8;have M:=Ao ml;have Z:q.length<=8:=L.2;rw [e] at M;omega
  ·rw [e];exact Tr.Pv I
end Go.Proofs.YtolgpnaoaodepaaGreat
namespace Go.Proofs.YtolgpnaoaodepaaGreat
open Go.RowKit Go.Shelf
attribute [local go_sem] Oper.semAt_some
def Rv (n₀ Bs:Nat) (A B:World):Prop:=Below n₀ A B/\B.heap[Bs]?=A.heap[Bs]?
def Pd (n:Nat):List (Fin n):=(List.finRange n).reverse
theorem Af9 (n:Nat):(Pd n).length=n:=by simp [Pd]
theorem Ap7 (n k:Nat) (h:k < n):(Pd n).take (k+1)=(Pd n).take k++[⟨n - 1 - k,by omega⟩]:=by
 unfold Pd;have a:k < (List.finRange n).reverse.length:=by simpa using h
 rw [List.take_add_one,List.getElem?_eq_getElem a,List.getElem_reverse];simp
theorem Akf {α β:Type} (a:List α) (g:α->β->β) (s:β):(Pd a.length).foldl (fun s i=> g (a[i.1]'i.2) s) s=a.foldr g s:=by
 unfold Pd;rw [List.foldl_reverse];have e:a=(List.finRange a.length).map fun i=> a[i.1]'i.2:=by
  apply List.ext_getElem
  ·simp
  ·intro i b c;simp
 conv=> rhs;rw [e]
 rw [List.foldr_map]
theorem Ahj {α β:Type} (a:List α) (n:Nat) (b:n=a.length) (g:α->β->β) (s:β):(Pd n).foldl (fun s i=> g (a[i.1]'(by have:=i.2;omega)) s) s=a.foldr g s:=by
 subst b;exact Akf a g s
set_option maxRecDepth 100000 in
set_option maxHeartbeats 2000000 in
theorem An1 (F:Fence) (n:Nat) (M:F.fn 139) (N:F.round=none) (hn:1<=n) (l Bs c g C:Nat) (a:List Nat) (D:a.length<=4000000000000) (hb:g < c) (J Jx:List (Fin a.length)->World->Prop)
  (hY:∀b x W,J b W->b.length < a.length->YieldAt F (n - 1) Tryz.prog l #[.int .i64 (x.1:Int),.pointer (some ⟨a[x.1]'x.2,0,none⟩)] W fun e W'=>
   (e= .returned (.bool true)/\J (b++[x]) W'/\Rv c Bs W W')\/(e= .returned (.bool false)/\Jx (b++[x]) W'))
  (W:World) (O:W.heap[Bs]?=some (.cells #[.slice (some ⟨g,0,none⟩) a.length C] 133 (0,0))) (hc:∀j (h:j < a.length),W.cell? ⟨g,j,none⟩=some (.pointer (some ⟨a[j]'h,0,none⟩))) (h0:J [] W):
  CallsIn F n Tryz.prog 139 #[.func (.yield l) #[] #[],.pointer (some ⟨Bs,0,none⟩)] W fun e W'=> (∃v,e= .returned v)/\
   ((∃S,S=Pd a.length/\J S W')\/(∃b,True/\Jx b W')):=by
 have q:∀W':World,W'.heap[Bs]?=W.heap[Bs]?->W'.cell? ⟨Bs,0,none⟩=some (.slice (some ⟨g,0,none⟩) a.length C):=fun W' L=> by
  have:=L.trans O;simp [World.cell?,this]
 have T:=q W rfl;refine callsIn_of_wp Tryz.func139 rfl M ?_ N;simp only [Tryz.ntmps139,List.size_toArray,List.length_cons,List.length_nil,Nat.reduceAdd,Nat.reduceSub,Array.replicate_succ,Array.replicate_zero,List.push_toArray,List.append_toArray,List.nil_append,List.cons_append];have U:IntKind.i64.wrap ((a.length:Int) - 1)=(a.length:Int) - 1:=IntWalk.i64_in _ ⟨by omega,by omega⟩
 gi_wp2
 gi_loopw [3] (fun i wr=>∃k:Nat,k<=a.length/\i= .int .i64 ((a.length:Int) - 1 - k)/\J ((Pd a.length).take k) wr/\Rv c Bs W wr)
  (fun i _=> (intOf i+1).toNat)
 case atStart=> exact ⟨0,Nat.zero_le _,by simp,h0,Below.refl _ _,rfl⟩
 case round=>
  obtain ⟨k,Z,rfl,s,t,u⟩:=hrel;have V:=q wr u;by_cases B:k < a.length
  ·have f:((Pd a.length).take k).length < a.length:=(by rw [List.length_take,Af9];omega);obtain ⟨m,y,d⟩:∃m,m=a.length - 1 - k/\m < a.length:=⟨_,rfl,by omega⟩;have G:Hid ((Pd a.length).take (k+1)=(Pd a.length).take k++[⟨m,d⟩]):=by
    show _=_;rw [Ap7 _ _ B];congr 2;exact Fin.ext y.symm
   obtain ⟨fn,R,assign,body,hy,hR⟩:=hY _ ⟨m,d⟩ wr s f;dsimp only at hy;have X:wr.cell? ⟨g,m,none⟩=some (.pointer (some ⟨a[m]'d,0,none⟩)):=(t.cell (p:=⟨g,m,none⟩) hb).trans (hc m d);have o:((a.length:Int) - 1 - k)=(m:Int):=(by omega);rw [o];have Y:IntKind.i64.wrap ((m:Int) - 1)=(m:Int) - 1:=IntWalk.i64_in _ ⟨by omega,by omega⟩;have r:=hid o;clear o y Z B f
   gi_wp2
   refine hR.mono ?_;rintro e W3 (⟨rfl,I,z⟩ | ⟨rfl,A⟩)
   ·gi_wp2
    go_roundw
    case rel=> exact ⟨k+1,by have:=r.out;omega,by have:=r.out;congr 1;omega,by rw [G.out];exact I,t.trans z.1,z.2.trans u⟩
    case measure=> simp [intOf]
   ·gi_wp2
    refine bodyPost_ret (results_none rfl _ _ _) rfl ?_;exact ⟨⟨_,rfl⟩,.inr ⟨_,trivial,A⟩⟩
  ·obtain rfl:k=a.length:=(by omega);have H:Hid ((Pd a.length).take a.length=Pd a.length):=List.take_of_length_le (by rw [Af9];exact Nat.le_refl _)
   gi_wp2
   go_end0;exact ⟨⟨_,rfl⟩,.inl ⟨_,rfl,by rw [<-H.out];exact s⟩⟩
set_option maxRecDepth 100000 in
set_option maxHeartbeats 1000000 in
theorem Akg (F:Fence) (n:Nat) (b:F.fn 139) (c:F.round=none) (l Bs:Nat) (J:World->Prop) (W:World) (d:W.cell? ⟨Bs,0,none⟩=some (.slice none 0 0)) (h0:J W):
  CallsIn F n Tryz.prog 139 #[.func (.yield l) #[] #[],.pointer (some ⟨Bs,0,none⟩)] W fun e W'=> (∃v,e= .returned v)/\J W':=by
 refine callsIn_of_wp Tryz.func139 rfl b ?_ c;simp only [Tryz.ntmps139,List.size_toArray,List.length_cons,List.length_nil,Nat.reduceAdd,Nat.reduceSub,Array.replicate_succ,Array.replicate_zero,List.push_toArray,List.append_toArray,List.nil_append,List.cons_append]
 gi_wp2
 gi_loopw [3] (fun i wr=> i= .int .i64 (-1)/\J wr) (fun _ _=> 0)
 case atStart=> exact ⟨rfl,h0⟩
 case round=>
  obtain ⟨rfl,a⟩:=hrel
  gi_wp2
  go_end0;exact ⟨⟨_,rfl⟩,a⟩
theorem Rv.trans {a Bs:Nat} {A B C:World} (b:Rv a Bs A B) (c:Rv a Bs B C):Rv a Bs A C:=⟨b.1.trans c.1,c.2.trans b.2⟩
theorem Ap8 {w:World} {B:Nat} {e:TypeId} {a:List Nat} {g b:Nat} (h:w.ownsRow B e 1 (.slice (some ⟨g,0,none⟩) a.length b) a.length (a.map fun g=> .pointer (some ⟨g,0,none⟩))):∀j (h:j < a.length),w.cell? ⟨g,j,none⟩=some (.pointer (some ⟨a[j]'h,0,none⟩)):=fun j c=> by
 have:=h.cells rfl j (.pointer (some ⟨a[j]'c,0,none⟩)) (by simp [c]);rw [Cw] at this;simpa using this
theorem Ahk (F:Fence) (n:Nat) (i:F.fn 139) (j:F.round=none) (G:1<=n) (Bs a:Nat) (p:Value) (b:List Nat) (c:b.length<=4000000000000) (w:World) (s:w.heap[Bs]?=some (.cells #[p] 133 (0,0)))
  (hI:w.ownsRow 0 120 1 p b.length (b.map fun g=> .pointer (some ⟨g,0,none⟩))) (q:∀g,p.ownBlock=some g->g < a):
  SeqStopsK F n Tryz.prog 139 #[.pointer (some ⟨Bs,0,none⟩)] (fun x:Fin b.length=> #[Value.int .i64 (x.1:Int),.pointer (some ⟨b[x.1]'x.2,0,none⟩)]) (Rv a Bs) (fun C=> C=Pd b.length) (fun _=> True) b.length w:=fun l J Jx W r _ _ D h0=> by
 have k:Bs < w.heap.size:=(Array.getElem?_eq_some_iff.1 s).1;have d:=(r.block Bs k).trans s;have f:=Aa hI r (Nat.le_refl _);rcases f.2 with ⟨e,m⟩ | ⟨g,o,y,e,H,I,z,L,A,B⟩
 ·subst e;obtain rfl:b=[]:=List.eq_nil_of_length_eq_zero m;refine (Akg F n i j l Bs (J []) W (by simp [World.cell?,d]) h0).mono ?_;rintro e W' ⟨t,u⟩;exact ⟨t,.inl ⟨[],rfl,u⟩⟩
 ·subst e;exact An1 F n i j G l Bs a g o b c (q g rfl) J Jx D W d (Ap8 f) h0
set_option maxHeartbeats 1000000 in
theorem An2 (a:Option Addr) (b c:Nat) (w:World):
  Calls Tryz.prog 79 #[.slice a b c] w fun e w'=> e= .returned (.func (.func 139) #[] #[.pointer (some ⟨w.heap.size,0,none⟩)])/\w'=w.alloc (.cells #[.slice a b c] 133):=by
 go_enter Tryz.func79,Tryz.ntmps79;go_wp2_with fail;go_ret;exact ⟨rfl,rfl⟩
end Go.Proofs.YtolgpnaoaodepaaGreat
