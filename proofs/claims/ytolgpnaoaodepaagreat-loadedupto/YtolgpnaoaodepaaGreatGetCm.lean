import Derived.Test.YtolgpnaoaodepaaGreatScaYm
namespace Go.Proofs.YtolgpnaoaodepaaGreat
open Go.RowKit Go.Shelf
attribute [local go_sem] Oper.semAt_some
theorem Ap9:(Tryz.prog.info? 120).map (fun i=> (i.zero,i.size,i.bytes))=some (some (.pointer none),1,8):=by kernel_rfl
theorem Apx (w:World) {b:Array Oper} {rest:List Oper} {o:Oper} {a:Act} {Q:Exit->Act->World->Prop} (p:o.guard=none) (q x:Operand)
  (A:o.op=Op.call {callee:=Callee.builtin Builtin.append,args:= #[q,x],argTypes:= #[133,133]}) (B:Nat) (v:Value) (n:Nat) (xs:List Value) (C:a.eval q=v) (c:w.ownsRow B 120 1 v n xs)
  (u:Value) (d:u.oneCell'=true) (D:a.eval x= .slice (some ⟨w.heap.size,0,none⟩) 1 1) (F:n+1<=4000000000000) (G:B<=w.heap.size)
  (h:∀(f:Value) (w':World),w'.ownsRow B 120 1 f (n+1) (xs++[u])->w.grownBy w' v.ownBlock->wpList Tryz.prog b Q rest (a.put o.dst f) w'):wpList Tryz.prog b Q (o::rest) a (w.alloc (.cells #[u] 120)):=by
 obtain ⟨i,hi,g,k,l⟩:=info_parts Ap9;refine wpList_append_own_at (w.alloc (.cells #[u] 120)) p q x 133 A B 120 i (.pointer none) 1 8 Tryz.underlying133 hi g k l rfl (by decide) v n xs C (c.alloc _) ⟨w.heap.size,0,none⟩ 1 1 [u] D (by simp) ?_ (by intro y s;rw [List.mem_singleton.1 s];exact d) (by unfold maxLen;omega) (by omega) (by simp;omega) ?_
 ·intro j y t;have r:(w.alloc (.cells #[u] 120)).heap[w.heap.size]?=some (.cells #[u] 120 (0,0)):=heap_alloc_new _ _;rw [Cw];unfold World.cell?;rw [r];simpa using t
 intro f w' m z _ _;exact h f w' m (Fp z)
def Ar5:Value->Nat
 | .pointer (some ⟨g,_,_⟩)=> g
 | _=> 0
structure GeI (w:World) (h:Nat) (t:Tr.Ac h) (key:ByteArray) (v6 v7:Value) (wl:List Wn) (h' p':Nat) (t':Tr.Ac h') (F':List Nat) (lo:Tr.Key) (hi:Option Tr.Key) (wr:World):Prop where
 p:v7= .pointer (some ⟨p',0,none⟩)
 row:wr.ownsRow (w.heap.size+1) 120 1 v6 wl.length (wl.map fun x=> .pointer (some ⟨x.1,0,none⟩))
 rep:Rep h' w p' t' F'
 wf:Tr.WF h' lo hi t'
 top:Tr.Top h' t'
 inr:Tr.inR lo hi key.data.toList
 room:Tr.room lo hi
 val:Tr.val h t key.data.toList=Amz key.data.toList (Tr.val h' t' key.data.toList) wl
 ok:∀x∈wl,Ar4 w x
 len:wl.length+h'=h
 bel:Below w.heap.size w wr
 box:wr.heap[w.heap.size]?=some (.cells #[.string key] 9 (0,0))
structure RdF (n₀ Bs B0:Nat) (w W wr:World):Prop where
 keeps:KeepsFrom B0 W wr
 bk:Rv n₀ Bs W wr
 bel:Below w.heap.size w wr
 bs:Bs < wr.heap.size
 n0:n₀<=wr.heap.size
theorem RdF.below {a Bs B0:Nat} {w W wr b:World} (h:RdF a Bs B0 w W wr) (c:Below wr.heap.size wr b):RdF a Bs B0 w W b:=
 ⟨h.keeps.trans ((⟨c.size,fun k _ d _=> (c.block k (Array.getElem?_eq_some_iff.1 d).1).trans d⟩:KeepsOthers wr b).from B0),h.bk.trans ⟨c.mono h.n0,c.block Bs h.bs⟩,h.bel.trans (c.mono h.bel.size),Nat.lt_of_lt_of_le h.bs c.size,Nat.le_trans h.n0 c.size⟩
theorem RdF.set {a Bs B0 b i:Nat} {w W wr:World} (h:RdF a Bs B0 w W wr) (c:a<=b) (d:w.heap.size<=b) (f:Bs≠b) (v:Value):RdF a Bs B0 w W (wr.setCell ⟨b,i,none⟩ v):=by
 have m:=Mod.setCell wr b i v;exact ⟨h.keeps.trans ((KeepsOthers.setCell wr ⟨b,i,none⟩ v).from B0),h.bk.trans ⟨(Below.refl a wr).setCell (p:=⟨b,i,none⟩) c v,m.block Bs h.bs f⟩,h.bel.setCell (p:=⟨b,i,none⟩) d v,Nat.lt_of_lt_of_le h.bs m.size,Nat.le_trans h.n0 m.size⟩
theorem Apa {k:Tr.Key} {s:Option Tr.Key} {c:Tr.Ch} (a:(s.getD []).length<=16) (b:c.2.2.length<=16):((Tr.one k s c).getD []).length<=16:=by
 unfold Tr.one;split
 ·cases h:Tr.Di s c with
  | none=> simp
  | some v=> exact Tr.Lw b h
 ·exact a
theorem GeI.drewN {w:World} {h:Nat} {t:Tr.Ac h} {key:ByteArray} {v6 b:Value} {c:List Wn} {a d:Nat} {f:Tr.Ac a} {F':List Nat} {lo:Tr.Key} {hi:Option Tr.Key} {wr:World} (g:GeI w h t key v6 b c a d f F' lo hi wr) (n:Nat):GeI w h t key v6 b c a d f F' lo hi (wr.drewN n):=
 ⟨g.p,Aa g.row (Am (Below.refl _ wr) n) (Nat.le_refl _),g.rep,g.wf,g.top,g.inr,g.room,g.val,g.ok,g.len,Am g.bel n,((Am (Below.refl wr.heap.size wr) n).block _ (Array.getElem?_eq_some_iff.1 g.box).1).trans g.box⟩
structure RdI (n₀ Bs B0 sb kb:Nat) (w W:World) (key:ByteArray) (sl:Value) (s:Option Tr.Key) (wr:World):Prop where
 rd:RdF n₀ Bs B0 w W wr
 len:(s.getD []).length<=16
 c0:wr.cell? ⟨sb,0,none⟩=some (.string (stV s))
 c1:wr.cell? ⟨sb,1,none⟩=some (.bool (stB s))
 f0:wr.frozen? ⟨sb,0,none⟩=false
 f1:wr.frozen? ⟨sb,1,none⟩=false
 ck:wr.cell? ⟨kb,0,none⟩=some (.string key)
 cb:wr.cell? ⟨Bs,0,none⟩=some sl
theorem Yr {w:World} {b o:Nat} {v:Value} (h:w.cell? ⟨b,o,none⟩=some v):b < w.heap.size:=by
 rcases Nat.lt_or_ge b w.heap.size with a | a
 ·exact a
 ·simp [World.cell?,Array.getElem?_eq_none a] at h
theorem Ys {w w':World} (a:Below w.heap.size w w') {b o:Nat} (c:b < w.heap.size):w'.frozen? ⟨b,o,none⟩=w.frozen? ⟨b,o,none⟩:=by
 simp only [World.frozen?,a.block b c]
theorem RdI.below {a Bs B0 f g:Nat} {w W:World} {key:ByteArray} {i:Value} {s:Option Tr.Key} {wr c:World} (h:RdI a Bs B0 f g w W key i s wr) (b:Below wr.heap.size wr c):RdI a Bs B0 f g w W key i s c:=by
 have d:=Yr h.c0;exact ⟨h.rd.below b,h.len,(b.cell (p:=⟨f,0,none⟩) d).trans h.c0,(b.cell (p:=⟨f,1,none⟩) d).trans h.c1,(Ys b d).trans h.f0,(Ys b d).trans h.f1,(b.cell (p:=⟨g,0,none⟩) (Yr h.ck)).trans h.ck,(b.cell (p:=⟨Bs,0,none⟩) (Yr h.cb)).trans h.cb⟩
theorem RdI.put {a Bs B0 b f:Nat} {w W:World} {key:ByteArray} {g:Value} {s c:Option Tr.Key} {wr:World} (h:RdI a Bs B0 b f w W key g s wr) (i:a<=b) (j:w.heap.size<=b) (d:Bs≠b) (k:f≠b) (l:(c.getD []).length<=16):RdI a Bs B0 b f w W key g c ((wr.setCell ⟨b,0,none⟩ (.string (stV c))).setCell ⟨b,1,none⟩ (.bool (stB c))):=by
 refine ⟨(h.rd.set i j d _).set i j d _,l,?_,?_,?_,?_,?_,?_⟩
 ·rw [World.cell?_setCell_other _ _ _ _ (by simp)];exact World.cell?_setCell_same _ _ _ h.c0
 ·refine World.cell?_setCell_same _ _ _ (u:= .bool (stB s)) ?_;rw [World.cell?_setCell_other _ _ _ _ (by simp)];exact h.c1
 ·rw [World.frozen?_setCell,World.frozen?_setCell];exact h.f0
 ·rw [World.frozen?_setCell,World.frozen?_setCell];exact h.f1
 ·rw [World.cell?_setCell_other _ _ _ _ (by simp),World.cell?_setCell_other _ _ _ _ (by simp;first | exact fun e=> k e.symm | exact fun e=> d e.symm | skip)];exact h.ck
 ·rw [World.cell?_setCell_other _ _ _ _ (by simp),World.cell?_setCell_other _ _ _ _ (by simp;first | exact fun e=> k e.symm | exact fun e=> d e.symm | skip)];exact h.cb
theorem An3 {ml:List (Int×ByteArray×ByteArray)} {key:Tr.Key} {s:Option Tr.Key} (j:Nat) (a:j < ml.length):Tr.Aj (plainCh (ml.take (j+1))) key s=Tr.one key (Tr.Aj (plainCh (ml.take j)) key s) (chP (ml[j]'a).1 (ml[j]'a).2.1 (ml[j]'a).2.2):=by
 rw [List.take_add_one,List.getElem?_eq_getElem a];unfold plainCh;rw [List.map_append,Tr.Eg];rfl
theorem Acz {w wr:World} {p:Nat} {a vp vc:Value} (h:An w p a vp vc) (b:Below w.heap.size w wr):An wr p a vp vc:=(b.block p h.lt).trans h
set_option maxRecDepth 100000 in
set_option maxHeartbeats 1000000 in
theorem An4 (V:Tr.Key->Option Tr.Key) (N b:Nat) (F:List Nat) (key:ByteArray) (w:World) (ht:Ek V N b F w) (hN:N<=900000):
  Calls Tryz.prog 43 #[.pointer (some ⟨b,0,none⟩),.string key] w fun r w'=> r= .returned (.tuple #[.string (stV (V key.data.toList)),.bool (stB (V key.data.toList))])/\Below w.heap.size w w':=by
 obtain ⟨h,p,t,hh,hq⟩:=ht;have b6:Below w.heap.size w (w.alloc (.cells #[.string key] 9)):=(Below.refl _ w).alloc (Nat.le_refl _) _;have g3:Hid (GeI w h t key (.slice none 0 0) (.pointer (some ⟨p,0,none⟩)) [] h p t F [] none (w.alloc (.cells #[.string key] 9))):=
  ⟨rfl,World.ownsRow_nil _ _ _ _,hq.rep,hq.root.wf,hq.root.top,Tr.Jb _,Tr.Hf,rfl,(fun x hx=> by cases hx),by simp,b6,heap_alloc_new _ _⟩
 have d3:=hid (hq.root.val key.data.toList);obtain ⟨t0,t1⟩:=(hq.tb.keep (b6.block b hq.tb.lt)).cells;have j4:h<=3600000000000:=by omega
 clear hq b6 hh;refine (callsIn_wide (n:=6)).1 ?_;refine callsIn_of_wp_marks Tryz.func43 rfl trivial ?_ rfl;simp only [Tryz.ntmps43,List.size_toArray,List.length_cons,List.length_nil,Nat.reduceAdd,Nat.reduceSub,Array.replicate_succ,Array.replicate_zero,List.push_toArray,List.append_toArray,List.nil_append,List.cons_append];refine wpIn_wide.2 ?_;go_wp2_with fail
 go_loopw [6,7] (fun v6 v7 wr=>∃m h' O t' F' lo hi,GeI w h t key v6 v7 m h' O t' F' lo hi wr) (fun _ v7 _=> hgt h w (Ar5 v7))
 case atStart=> exact ⟨_,_,_,_,_,_,_,g3.out⟩
 case round=>
  obtain ⟨m,h',O,t',F',lo,hi,hI⟩:=hrel;obtain rfl:=hI.p;have d:=hid hI;have g4:wr.cell? ⟨w.heap.size,0,none⟩=some (.string key):=by simp [World.cell?,hI.box]
  clear hI
  match h',t',d with
  | 0,t',d=>
   obtain ⟨vi,il,hn,ho,rfl,-⟩:=d.out.rep;have G:=Acz hn d.out.bel;have J:=hid (Et O _ _ _ _ _ wr G);clear hn;go_wp2_with fail;refine J.out.mono ?_;rintro r wr ⟨rfl,rfl⟩;have d4:Ak 0 wr vi il:=Aa ho d.out.bel (Nat.le_refl _);have HR:Hid (Tr.Bi (plain il)):=d.out.wf.1;have j5:il.length<=16:=by
    have:List.length (α:=Tr.It) (plain il)<=16:=d.out.top;simpa [plain] using this
   have d5:Hid (((Tr.Bj (plain il) key.data.toList).getD []).length<=16):=by
    show _<=_
    cases hl:Tr.Bj (plain il) key.data.toList with
    | none=> simp
    | some v=>
     have h1:=(d.out.wf.2 _ (Tr.Alv hl)).2.2;exact h1
   have b7:=hid (Uo O 0 vi _ _ il key wr G d4 (by omega) HR.out);have g5:Hid (V key.data.toList=Amz key.data.toList (Tr.Bj (plain il) key.data.toList) m):=by
    show _=_;rw [<-d3.out];exact d.out.val
   clear ho d4 G J;obtain ⟨H,I,rfl⟩:=Ab d.out.row;go_wp2_with fail;refine b7.out.mono ?_;rintro r f ⟨rfl,f8⟩;have Z:=hid f8;clear f8 b7;go_wp2_with (go_at_call 79;refine (An2 _ _ _ _).mono ?_;rintro e w' ⟨rfl,rfl⟩);generalize j1:Tr.Bj (plain il) key.data.toList=z at*;clear j1;have g6:=Z.out.size;have a5:Below w.heap.size w f:=d.out.bel.trans (Z.out.mono d.out.bel.size);have g7:w.heap.size < wr.heap.size:=(Array.getElem?_eq_some_iff.1 d.out.box).1;have b1:Below f.heap.size f (f.alloc (.cells #[.string (stV z),.bool (stB z)] 136)):=(Below.refl _ f).alloc (Nat.le_refl _) _;have z1:(f.alloc (.cells #[.string (stV z),.bool (stB z)] 136)).heap.size=f.heap.size+1:=(by simp);have s1:(f.alloc (.cells #[.string (stV z),.bool (stB z)] 136)).heap[f.heap.size]?=some (.cells #[.string (stV z),.bool (stB z)] 136 (0,0)):=heap_alloc_new _ _;generalize f.alloc (.cells #[.string (stV z),.bool (stB z)] 136)=w3 at*;have b2:Below w3.heap.size w3 (w3.alloc (.cells #[.slice H m.length I] 133)):=(Below.refl _ w3).alloc (Nat.le_refl _) _;have z2:(w3.alloc (.cells #[.slice H m.length I] 133)).heap.size=w3.heap.size+1:=(by simp);have s2:(w3.alloc (.cells #[.slice H m.length I] 133)).heap[w3.heap.size]?=some (.cells #[.slice H m.length I] 133 (0,0)):=heap_alloc_new _ _;rw [z1] at s2;generalize w3.alloc (.cells #[.slice H m.length I] 133)=w4 at*;have b8:Below f.heap.size f w4:=b1.trans (b2.mono (by omega));have a0:w4.heap[f.heap.size]?=some (.cells #[.string (stV z),.bool (stB z)] 136 (0,0)):=(b2.block _ (by omega)).trans s1;have g9:w4.cell? ⟨w.heap.size,0,none⟩=some (.string key):=(by rw [b8.cell (p:=⟨w.heap.size,0,none⟩) (by simp;omega),Z.out.cell (p:=⟨w.heap.size,0,none⟩) g7];exact g4);have b9:w4.ownsRow 0 120 1 (.slice H m.length I) (m.map (·.1)).length ((m.map (·.1)).map fun g=> .pointer (some ⟨g,0,none⟩)):=by
    rw [List.length_map,List.map_map];exact Aa (Fx d.out.row) (Z.out.trans (b8.mono g6)) (Nat.le_refl _)
   have h3:=hid d.out.ok;have a7:=hid (a5.trans (b8.mono a5.size));have a8:=hid (Ahk Fence.wide 5 trivial rfl (by omega) (f.heap.size+1) f.heap.size (.slice H m.length I) (m.map (·.1)) (by rw [List.length_map];have:=d.out.len;omega) w4 s2 b9 (fun g hg=> by have:=(World.ownsRow.lt d.out.row g hg).2;omega));refine (wpIn_wide (n:=6)).1 ?_;refine wpIn_rangeFunc_ownG rfl (by decide) (gf:=139) (lb:= #[.pointer (some ⟨f.heap.size+1,0,none⟩)]) rfl trivial (enters_of Tryz.func139 (by kernel_rfl) rfl)
    a8.out Rv.trans (fun W l o o' hl ho h1 h2=> ⟨belowK_b (w:=w4) (by omega) W l o o' hl ho h1 h2,World.putObj_heap_other (by omega)⟩) (Below.refl _ _) (fun _=> rfl)
    (fun a3 W=> ((∃s,s=a3.foldl (fun s i=> Tr.Aj (plainCh (m[i.1]'(by have:=i.2;simpa using this)).2) key.data.toList s) z/\(s.getD []).length<=16/\W.cell? ⟨f.heap.size,0,none⟩=some (.string (stV s))/\W.cell? ⟨f.heap.size,1,none⟩=some (.bool (stB s)))/\W.frozen? ⟨f.heap.size,0,none⟩=false/\W.frozen? ⟨f.heap.size,1,none⟩=false/\W.cell? ⟨w.heap.size,0,none⟩=some (.string key)/\W.cell? ⟨f.heap.size+1,0,none⟩=some (.slice H m.length I))/\Below w.heap.size w W)
    (fun _ _ _=> False) ?hI (fun _ _ _ _ _ hs _ _=> hs) ?h0 ?a1 ?assign ?body ?done ?stop
   case hI=> exact OwnFrom.and (Own.from (fun s A B k7 hs hg hr=> by obtain ⟨⟨s',e1,e2,e3,e4⟩,e5,e6,e7,e8⟩:=hs;exact ⟨⟨s',e1,e2,cell_kept e3 hg hr,cell_kept e4 hg hr⟩,(frozen_kept e3 hg hr).trans e5,(frozen_kept e4 hg hr).trans e6,cell_kept e7 hg hr,cell_kept e8 hg hr⟩) _) (ownFrom_below (Nat.le_refl _) (by omega))
   case h0=> exact ⟨⟨⟨z,rfl,d5.out,by simp [World.cell?,a0],by simp [World.cell?,a0]⟩,by simp [World.frozen?,a0],by simp [World.frozen?,a0],g9,by simp [World.cell?,s2]⟩,a7.out⟩
   case assign=>
    intro l x W K hK
    gi_wp2
    exact hK
   case body=>
    rintro l a3 x W ⟨⟨⟨s,hs,X,e0,e1⟩,f0,f1,ek,eb⟩,hB⟩ -;have c2:x.1 < m.length:=(by have:=x.2;simpa using this);have h4:Hid ((a3++[x]).foldl (fun s i=> Tr.Aj (plainCh (m[i.1]'(by have:=i.2;simpa using this)).2) key.data.toList s) z=Tr.Aj (plainCh (m[x.1]'c2).2) key.data.toList s):=by
     show _=_;rw [List.foldl_append,hs];rfl
    have a9:=List.getElem_mem c2
    try simp only [List.getElem_map]
    generalize m[x.1]'c2=y at*;obtain ⟨g,ml⟩:=y;obtain ⟨j8,j9,i6,f3,R,i7,f4⟩:=h3.out (g,ml) a9;have d6:=Acz f3 hB;have b0:Au 0 W i6 ml:=Aa R hB (Nat.le_refl _);obtain ⟨n0,n1,n2,-⟩:=d6.cells;obtain ⟨ac,cc,rfl⟩:=Ab b0;have h5:Hid (RdI f.heap.size (f.heap.size+1) w4.heap.size f.heap.size w.heap.size w W key (.slice H m.length I) s W):=⟨⟨KeepsFrom.refl _ _,⟨Below.refl _ _,rfl⟩,hB,Yr eb,Nat.le_of_lt (Yr e0)⟩,X,e0,e1,f0,f1,ek,eb⟩;have h6:=hid R;have j6:w.heap.size < f.heap.size:=(by omega);have h7:=hid f4;clear f3 R d6 b0 f4 hs a8 a9
    try simp only at n0 n1 n2 i7
    gi_wp2
    gi_loopw [46] (fun i wr=>∃j:Nat,j<=ml.length/\i= .int .i64 (j:Nat)/\RdI f.heap.size (f.heap.size+1) w4.heap.size f.heap.size w.heap.size w W key (.slice H m.length I) (Tr.Aj (plainCh (ml.take j)) key.data.toList s) wr) (fun i _=> ml.length - (intOf i).toNat)
    case atStart=> exact ⟨0,Nat.zero_le _,rfl,h5.out⟩
    case round=>
     obtain ⟨j,hj,rfl,hI⟩:=hrel;have u:=hid hI;obtain ⟨-,f5,y0,y1,y2,y3,y4,y5⟩:=hI;by_cases a4:j < ml.length
     ·have ho:=Aa h6.out u.out.rd.bel (Nat.le_refl _);obtain ⟨g2,j2,e,k3,-,k4,d0,d1,d2⟩:=Au.at ho j a4;simp only [Value.slice.injEq] at e;obtain ⟨rfl,-,rfl⟩:=e;have d7:=hid (An3 (key:=key.data.toList) (s:=s) j a4);have b3:=h7.out _ (List.getElem_mem a4);generalize ml[j]'a4=c at*;obtain ⟨ck,a,Y⟩:=c;simp only at d0 d1 d2 b3;have d8:Below wr.heap.size wr (wr.alloc (.cells #[.int .i64 ck,.string a,.string Y] 34)):=(Below.refl _ wr).alloc (Nat.le_refl _) _;have H6:=hid (u.out.below d8);have h8:Hid (ChB (wr.alloc (.cells #[.int .i64 ck,.string a,.string Y] 34)) wr.heap.size ck a Y):=heap_alloc_new _ _;obtain ⟨k0,k1,k2⟩:=h8.out.cells;obtain ⟨-,-,q0,q1,q2,q3,q4,q5⟩:=H6.out;generalize g1:Tr.Aj (plainCh (ml.take j)) key.data.toList s=st at*;have b7:=hid g1;clear d8 g1 ho;by_cases hk:a.data.toList=key.data.toList
      ·have r1:(a.toList==key.toList)=true:=(by rw [Ah,Ah];simpa using hk);have c3:Hid (Tr.Aj (plainCh (ml.take (j+1))) key.data.toList s=Tr.Di st (chP ck a Y)):=by
        show _=_;rw [d7.out];exact if_pos hk
       have d9:Hid (((Tr.Di st (chP ck a Y)).getD []).length<=16):=by
        show _<=_;have h1:=Apa (k:=key.data.toList) (c:=chP ck a Y) f5 (by show Y.data.toList.length<=16;rw [len_size];exact b3);rw [show Tr.one key.data.toList st (chP ck a Y)=Tr.Di st (chP ck a Y) from if_pos hk] at h1;exact h1
       clear hk
       gi_wp2_with (refine ⟨trivial,?_⟩;gi_at_call 70;refine (CallsIn.inRound l (callsIn_wide.2 (Om st ck a Y _ (by omega) (by omega)))).mono ?_;rintro e w7 ⟨rfl,f9⟩;have H7:=hid (H6.out.below f9);obtain ⟨-,-,p0,p1,p2,p3,p4,p5⟩:=H7.out;clear f9)
       go_roundw
       case rel=> exact ⟨j+1,by omega,by go_num,by rw [c3.out];exact H7.out.put (Nat.le_refl _) (by omega) (by omega) (by omega) d9.out⟩
       case measure=> simp [intOf];omega
      ·have r1:(a.toList==key.toList)=false:=(by rw [Ah,Ah];simpa using hk);have c3:Hid (Tr.Aj (plainCh (ml.take (j+1))) key.data.toList s=st):=by
        show _=_;rw [d7.out];exact if_neg hk
       clear hk
       gi_wp2
       go_roundw
       case rel=> exact ⟨j+1,by omega,by go_num,by rw [c3.out];exact H6.out⟩
       case measure=> simp [intOf];omega
     ·obtain rfl:j=ml.length:=by omega
      gi_wp2
      exact ⟨u.out.rd.keeps,u.out.rd.bk,⟨⟨_,by rw [h4.out,List.take_length],u.out.len,u.out.c0,u.out.c1⟩,u.out.f0,u.out.f1,u.out.ck,u.out.cb⟩,u.out.rd.bel⟩
   case done=>
    rintro D ys W hD rfl ⟨⟨⟨s,hs,X,e0,e1⟩,f0,f1,ek,eb⟩,hB⟩ hK;have h9:Hid (s=V key.data.toList):=by
     show _=_;rw [hs,g5.out];exact Ahj m _ (List.length_map ..) (fun x s=> Tr.Aj (plainCh x.2) key.data.toList s) z
    clear hs X;go_upto_region 15 with fail;go_quiet (fail);go_wp2_with fail;have e9:(W.drewN nq).heap[D]?=some (.deferred (some [])):=((Am (Below.refl W.heap.size W) nq).block D (Array.getElem?_eq_some_iff.1 hK).1).trans hK;refine ⟨by simp,.inl ⟨_,_,rfl,run_takeDeferred e9,?_⟩⟩;exact ⟨_,results_tmp2 rfl _ _ _,by rw [<-h9.out];rfl,(Am hB nq).trans (belowK_b (w:=w) (Nat.le_refl _) _ D _ _ (by have:=a7.out.size;omega) e9 rfl rfl)⟩
   case stop=>
    rintro D c a3 W _ _ h _;exact h.elim
  | h'+1,(ps,cs),d=>
   obtain ⟨vp,vc,pl,ml,hn,c7,j3,i8,f6,S,t2,F2,i9,j0,c8,c9,f7,b5,T,U⟩:=An0 d.out.rep d.out.wf d.out.top d.out.inr;have G:=Acz hn d.out.bel;have b4:Ap 0 wr vp pl:=Aa c7 d.out.bel (Nat.le_refl _);obtain ⟨ap,cp,rfl⟩:=Ab b4;have J:=hid (Et O _ _ _ _ _ wr G);have i0:Hid (m.length+1<=4000000000000):=(by show _<=_;have:=d.out.len;omega);have f2:Hid (w.heap.size+1<=wr.heap.size):=(Array.getElem?_eq_some_iff.1 d.out.box).1;have i1:¬pl.length=0:=(by omega);have a2:=hid d.out.row;obtain ⟨H,I,rfl⟩:=Ab a2.out;go_wp2_with fail;refine J.out.mono ?_;rintro r wr ⟨rfl,rfl⟩;rw [show decide (pl.length=0)=false from decide_eq_false i1];go_upto_region 5 with (at_builtin;refine Apx wr rfl (.tmp 20) (.tmp 22) rfl (w.heap.size+1) (.slice H m.length I) m.length _ rfl a2.out (.pointer (some ⟨O,0,none⟩)) rfl rfl i0.out f2.out ?_;intro v8 w8 o8 g8);have c4:Below (w.heap.size+1) wr w8:=(Below.refl _ wr).grown g8 f2.out (fun k hk=> (World.ownsRow.lt a2.out k hk).1);have C:Below w.heap.size w w8:=d.out.bel.trans (c4.mono (Nat.le_succ _));have L:w8.heap[w.heap.size]?=some (.cells #[.string key] 9 (0,0)):=(c4.block _ (Nat.lt_succ_self _)).trans d.out.box;have j7:w8.cell? ⟨w.heap.size,0,none⟩=some (.string key):=(by simp [World.cell?,L]);have c5:=Acz hn C;obtain ⟨n0,n1,n2,-⟩:=c5.cells;have M:Ap 0 w8 (.slice ap pl.length cp) pl:=Aa c7 C (Nat.le_refl _);obtain ⟨g,k5,e,k6,-,hg,x0,x1⟩:=M.at _ S;simp only [Value.slice.injEq] at e;obtain ⟨rfl,-,rfl⟩:=e;have i2:Hid (∀W',W'.heap=w8.heap->Calls Tryz.prog 77 #[.pointer (some ⟨O,0,none⟩),.string key] W' fun r w'=> r= .returned (.int .i64 (Tr.ix (pkeys pl) key.data.toList:Nat))/\w'=W'):=fun W' g0=> Jd O 0 _ _ _ pl key W' (show An W' _ _ _ _ by unfold An;rw [g0];exact c5) (Bz M fun g _ _=> by rw [g0]) (by omega)
   have i3:Hid (GeI w h t key v8 (.pointer (some ⟨(pl[Tr.ix (pkeys pl) key.data.toList]'S).2,0,none⟩)) (m++[(O,ml)]) h' (pl[Tr.ix (pkeys pl) key.data.toList]'S).2 t2 F2 i9 j0 w8):=by
    refine ⟨rfl,?_,c8,c9,f7,b5,T,?_,fun x hx=> ?_,?_,C,L⟩
    ·rw [List.length_append,List.map_append];exact o8
    ·rw [d.out.val,Akd,U]
    ·rcases List.mem_append.1 hx with q | q
     ·exact d.out.ok x q
     ·rw [List.mem_singleton.1 q];exact f6
    ·have:=d.out.len;rw [List.length_append];simp;omega
   have i4:Hid (hgt h w O=h'+1):=Wb (h'+1) h (by have:=d.out.len;omega) d.out.rep d.out.wf d.out.room;have i5:Hid (hgt h w (pl[Tr.ix (pkeys pl) key.data.toList]'S).2=h'):=Wb h' h (by have:=d.out.len;omega) c8 c9 T;generalize (pl[Tr.ix (pkeys pl) key.data.toList]'S).2=q2 at*;generalize Tr.ix (pkeys pl) key.data.toList=ix at*;clear c7 M hn G b4 c5 i8 f6 U b5 T f7 c9 c8 o8 g8 c4 C L a2 J;go_quiet (exact Calls.quiet_of_same (i2.out _ rfl));go_wp2_with fail;refine ⟨⟨_,_,_,_,_,_,_,i3.out.drewN _⟩,?_⟩;show hgt h w q2 < hgt h w O;rw [i4.out,i5.out];omega
end Go.Proofs.YtolgpnaoaodepaaGreat
namespace Go.Proofs.YtolgpnaoaodepaaGreat
open Go.RowKit Go.MuLone
set_option maxHeartbeats 1000000 in
set_option maxRecDepth 20000 in
theorem An5 (V:Tr.Key->Option Tr.Key) (N x b:Nat) (F:List Nat) (key:ByteArray) (w:World) (l:ST w x b) (t:Ek V N b F w) (D:x∉b::F) (I:N<=900000):
  Calls Tryz.prog 22 #[.pointer (some ⟨x,0,none⟩),.string key] w fun r w'=> r= .returned (.tuple #[.string (stV (V key.data.toList)),.int .i64 (if stB (V key.data.toList) then 0 else 3)])/\Below w.heap.size w w':=by
 have m:=hid l;have n:=hid (Mod.setCell w x 0 (.int .i32 1));have a:=hid l.lock;have o:Hid (Ek V N b F (w.setCell ⟨x,0,none⟩ (.int .i32 1))):=t.keep fun g C=> n.out.block g (t.lt g C) fun e=> D (by rw [<-e];exact C)
 obtain ⟨y,-,z⟩:=l.cells;have d:=z 0;obtain ⟨k,A,-⟩:=a.out.cells;have p:=hid (An4 V N b F key _ o.out I);clear l t D z;go_enter_defers Tryz.func22,Tryz.ntmps22;go_wp2_with (go_at_call 34;refine (lock_free Pf ⟨x,0,none⟩ w y d).mono ?_;rintro e w' ⟨rfl,rfl⟩);refine p.out.mono ?_;rintro r G ⟨rfl,c⟩;have q:Hid (SL G x b):=(c.block x a.out.lt).trans a.out;have u:=hid (Pz m.out c);clear c k A y d;obtain ⟨k,A,B⟩:=q.out.cells;have i:=B 0;clear B
 cases J:V key.data.toList with
 | none=>
  have j:Hid (stV (none:Option (List UInt8))=⟨#[]⟩/\stB (none:Option (List UInt8))=false):=⟨rfl,rfl⟩;rw [j.out.1,j.out.2];go_wp2_with fail
  all_goals
   refine leaves_cons (f:=35) (args:= #[.pointer (some ⟨x,0,none⟩)]) (by simp) (by simp [go_sem]) ?_;refine (unlock_deferred Pf ⟨x,0,none⟩ .returning _ k i).mono ?_;rintro e H s ⟨rfl,rfl,rfl⟩;exact ⟨_,results_tmp2 rfl _ _ _,rfl,u.out⟩
 | some v=>
  have j:Hid (stB (some v)=true):=rfl;rw [j.out];go_wp2_with fail
  all_goals
   refine leaves_cons (f:=35) (args:= #[.pointer (some ⟨x,0,none⟩)]) (by simp) (by simp [go_sem]) ?_;refine (unlock_deferred Pf ⟨x,0,none⟩ .returning _ k i).mono ?_;rintro e H s ⟨rfl,rfl,rfl⟩;exact ⟨_,results_tmp2 rfl _ _ _,rfl,u.out⟩
end Go.Proofs.YtolgpnaoaodepaaGreat
namespace Go.Proofs.YtolgpnaoaodepaaGreat.Ld
open Go.Proofs.YtolgpnaoaodepaaGreat.Tr
abbrev Nd:=Int×List It×List Nat×List Key×List Ch
def its (n:Nd):List It:=n.2.1
def kds (n:Nd):List Nat:=n.2.2.1
def pvs (n:Nd):List Key:=n.2.2.2.1
def chs (n:Nd):List Ch:=n.2.2.2.2
def Im (lo hi k:Key):Prop:=¬k < lo/\(hi=[]\/k < hi)
def okP (n:Nd) (lo hi:Key):Prop:=(∀x∈its n,Im lo hi x.1)/\(∀c∈chs n,Im lo hi c.2.1)/\∀p∈pvs n,Im lo hi p
abbrev Tk:=Nat×Key×Key
def Ib:Key->Key->List Key->List (Key×Key)
 | lo,hi,[]=> [(lo,hi)]
 | lo,hi,p::r=> (lo,p)::Ib p hi r
theorem Yt:∀(lo hi:Key) (l:List Key),(Ib lo hi l).length=l.length+1
 | _,_,[]=> rfl
 | _,hi,p::r=> by rw [Ib,List.length_cons,Yt p hi r,List.length_cons]
def Hg (n:Nd) (lo hi:Key):List Tk:=List.zipWith (fun c b=> (c,b)) (kds n) (Ib lo hi (pvs n))
def okN (n:Nd):Prop:=(n.1=1/\kds n=[]/\pvs n=[]/\chs n=[]/\(its n).length<=16/\Bi (its n)/\∀x∈its n,Alj x)\/
 (n.1=2/\its n=[]/\1<=(kds n).length/\(kds n).length<=4/\(pvs n).length+1=(kds n).length/\(pvs n).Pairwise (·< ·)/\(∀p∈pvs n,okK p)/\(chs n).length<=8/\∀c∈chs n,Ew c)
theorem Ad0 {p:Key} (h:okK p):p≠[]:=fun e=> by rw [e] at h;simp [okK,Pg.Ei] at h
theorem Rw {n:Nd} (h:okN n) (lo hi:Key):(Hg n lo hi).length=(kds n).length:=by
 unfold Hg;rw [List.length_zipWith,Yt];rcases h with ⟨_,a,b,_⟩ | ⟨_,_,_,_,c,_⟩
 ·rw [a];simp
 ·omega
def PT:Nat->Type
 | 0=> Nat
 | h+1=> Nat×List (PT h)
def lfP (n:Nat):PT 0:=n
def brP {h:Nat} (n:Nat) (ks:List (PT h)):PT (h+1):=(n,ks)
def num:(h:Nat)->PT h->Nat
 | 0,n=> n
 | _+1,t=> t.1
def nums:(h:Nat)->PT h->List Nat
 | 0,n=> [n]
 | h+1,(n,ks)=> n::(ks.map (nums h)).flatten
def Bb (h:Nat) (fs:List (PT h)):List Nat:=(fs.map (nums h)).flatten
theorem Ez (h:Nat) (f:PT h) (a:List (PT h)):Bb h (f::a)=nums h f++Bb h a:=rfl
theorem Gh (h:Nat) (a b:List (PT h)):Bb h (a++b)=Bb h a++Bb h b:=by unfold Bb;rw [List.map_append,List.flatten_append]
def FF {α:Type} (R:Key->Key->α->Prop) (nm:α->Nat):List Tk->List α->Prop
 | [],[]=> True
 | t::ts,f::fs=> (nm f=t.1/\R t.2.1 t.2.2 f)/\FF R nm ts fs
 | _,_=> False
theorem FF.len {α:Type} {R:Key->Key->α->Prop} {b:α->Nat}:∀{ts:List Tk} {a:List α},FF R b ts a->ts.length=a.length
 | [],[],_=> rfl
 | _::_,_::_,h=> by rw [List.length_cons,List.length_cons,h.2.len]
 | [],_::_,h=> h.elim
 | _::_,[],h=> h.elim
theorem FF.append {α:Type} {R:Key->Key->α->Prop} {c:α->Nat} {a:List Tk} {b:List α} (f:FF R c a b):∀{ts:List Tk} {d:List α},FF R c ts d->FF R c (ts++a) (d++b)
 | [],[],_=> f
 | _::_,_::_,h=> ⟨h.1,FF.append f h.2⟩
 | [],_::_,h=> h.elim
 | _::_,[],h=> h.elim
theorem FF.split {α:Type} {R:Key->Key->α->Prop} {g:α->Nat} {d:List Tk}:∀{ts:List Tk} {c:List α},FF R g (ts++d) c->∃a b,c=a++b/\FF R g ts a/\FF R g d b
 | [],c,h=> ⟨[],c,rfl,trivial,h⟩
 | _::_,f::c,h=> by
  obtain ⟨a,b,rfl,i,j⟩:=FF.split h.2;exact ⟨f::a,b,rfl,⟨h.1,i⟩,j⟩
 | _::_,[],h=> h.elim
def Co (P:List (Option Nd)):(h:Nat)->Key->Key->PT h->Prop
 | 0,lo,hi,f=>∃nd,P[num 0 f]?=some (some nd)/\nd.1=1/\okP nd lo hi
 | h+1,lo,hi,(n,ks)=>∃nd,P[n]?=some (some nd)/\nd.1=2/\okP nd lo hi/\FF (Co P h) (num h) (Hg nd lo hi) ks
def Lev (P:List (Option Nd)):List Nat->List Tk->List Nd->Prop
 | _,[],[]=> True
 | rd,t::ts,nd::nds=> (t.1∉rd/\P[t.1]?=some (some nd)/\okP nd t.2.1 t.2.2)/\Lev P (rd++[t.1]) ts nds
 | _,_,_=> False
def below:List Tk->List Nd->List Tk
 | t::ts,nd::nds=> Hg nd t.2.1 t.2.2++below ts nds
 | _,_=> []
def Afa (nds:List Nd):Prop:=(∀n∈nds,n.1=1)\/∀n∈nds,n.1≠1
theorem Lev.len {P:List (Option Nd)}:∀{ts:List Tk} {rd:List Nat} {a:List Nd},Lev P rd ts a->ts.length=a.length
 | [],_,[],_=> rfl
 | _::_,_,_::_,h=> by rw [List.length_cons,List.length_cons,h.2.len]
 | [],_,_::_,h=> h.elim
 | _::_,_,[],h=> h.elim
theorem Lev.nd {P:List (Option Nd)}:∀{ts:List Tk} {rd:List Nat} {c:List Nd},Lev P rd ts c->rd.Nodup->(rd++ts.map (·.1)).Nodup
 | [],rd,[],_,hr=> by simpa using hr
 | t::ts,rd,nd::c,h,hr=> by
  have d:(rd++[t.1]).Nodup:=List.nodup_append.2 ⟨hr,by simp,fun a f b g e=> h.1.1 (by rw [List.mem_singleton.1 g] at e;rw [<-e];exact f)⟩;have:=h.2.nd d;rw [List.append_assoc] at this;exact this
 | [],_,_::_,h,_=> h.elim
 | _::_,_,[],h,_=> h.elim
theorem Lev.lt {P:List (Option Nd)}:∀{ts:List Tk} {rd:List Nat} {b:List Nd},Lev P rd ts b->∀t∈ts,t.1 < P.length
 | t::ts,rd,nd::b,h,x,a=> by
  rcases List.mem_cons.1 a with rfl | a
  ·exact (List.getElem?_eq_some_iff.1 h.1.2.1).1
  ·exact h.2.lt x a
 | [],_,_,_,_,a=> by cases a
 | _::_,_,[],h,_,_=> h.elim
theorem Ad1 {h:Nat} (f:PT h):num h f∈nums h f:=by
 cases h with
 | zero=> exact List.mem_singleton.2 rfl
 | succ h=> obtain ⟨n,a⟩:=f;exact List.mem_cons_self ..
theorem Rx {P:List (Option Nd)}:∀{ts:List Tk} {rd:List Nat} {j:List (PT 0)},FF (Co P 0) (num 0) ts j->(rd++Bb 0 j).Nodup->∃b,Lev P rd ts b/\(∀n∈b,n.1=1)/\Bb 0 j=ts.map (·.1)
 | [],_,[],_,_=> ⟨[],trivial,(fun n i=> by cases i),rfl⟩
 | t::ts,rd,f::j,hf,i=> by
  obtain ⟨⟨c,l,m,o,p⟩,r⟩:=hf;have d:nums 0 f=[t.1]:=by rw [<-c];rfl
  rw [Ez,d,<-List.append_assoc] at i;obtain ⟨b,s,u,y⟩:=Rx r i;have g:t.1∉rd:=fun q=> (List.nodup_append.1 (List.nodup_append.1 i).1).2.2 t.1 q t.1 (by simp) rfl
  refine ⟨l::b,⟨⟨g,by rw [<-c];exact m,p⟩,s⟩,fun n k=> ?_,?_⟩
  ·rcases List.mem_cons.1 k with rfl | q
   ·exact o
   ·exact u n q
  ·rw [Ez,d,y];rfl
 | [],_,_::_,h,_=> h.elim
 | _::_,_,[],h,_=> h.elim
theorem Ry {P:List (Option Nd)} {h:Nat}:∀{ts:List Tk} {rd:List Nat} {c:List (PT (h+1))},FF (Co P (h+1)) (num (h+1)) ts c->(rd++Bb (h+1) c).Nodup->∃b g,Lev P rd ts b/\(∀n∈b,n.1=2)/\FF (Co P h) (num h) (below ts b) g/\(Bb (h+1) c).Perm (ts.map (·.1)++Bb h g)
 | [],_,[],_,_=> ⟨[],[],trivial,(fun n d=> by cases d),trivial,List.Perm.nil⟩
 | t::ts,rd,(n,ks)::c,hf,d=> by
  obtain ⟨⟨a,l,o,p,r,j⟩,s⟩:=hf;have a:n=t.1:=a;subst a;have k:Bb (h+1) (brP t.1 ks::c)=t.1::(Bb h ks++Bb (h+1) c):=rfl;have d:(rd++Bb (h+1) (brP t.1 ks::c)).Nodup:=d;rw [k] at d;have f:t.1∉rd:=fun q=> (List.nodup_append.1 d).2.2 t.1 q t.1 (by simp) rfl
  have i:((rd++[t.1])++Bb (h+1) c).Nodup:=by
   refine d.sublist ?_;rw [List.append_assoc];exact List.Sublist.append_left (List.Sublist.cons_cons _ (List.sublist_append_right ..)) _
  obtain ⟨b,g,u,y,z,A⟩:=Ry s i;refine ⟨l::b,ks++g,⟨⟨f,o,r⟩,u⟩,fun m B=> ?_,FF.append z j,?_⟩
  ·rcases List.mem_cons.1 B with rfl | q
   ·exact p
   ·exact y m q
  ·rw [Gh];show (t.1::(Bb h ks++Bb (h+1) c)).Perm (t.1::(ts.map (·.1)++(Bb h ks++Bb h g)));refine List.Perm.cons _ ?_;refine (List.Perm.append_left (Bb h ks) A).trans ?_;rw [<-List.append_assoc,<-List.append_assoc];exact List.Perm.append_right _ List.perm_append_comm
 | [],_,_::_,h,_=> h.elim
 | _::_,_,[],h,_=> h.elim
def hiO (hi:Key):Option Key:=if hi=[] then none else some hi
theorem Nt {p:Key} (h:p≠[]):hiO p=some p:=if_neg h
theorem Nu {lo hi k:Key}:Im lo hi k↔inR lo (hiO hi) k:=by
 unfold Im inR hiO;by_cases h:hi=[]
 ·rw [if_pos h];simp [h]
 ·rw [if_neg h];constructor
  ·rintro ⟨a,c⟩;exact ⟨a,fun b d=> by rw [<-Option.some.inj d];exact c.resolve_left h⟩
  ·rintro ⟨a,c⟩;exact ⟨a,.inr (c hi rfl)⟩
def Br (lo hi:Key):Bool:=decide (hi=[]) || decide (lo < hi)
theorem Afb {lo hi:Key} (h:Br lo hi=true) (c:hi=[]\/okK hi):room lo (hiO hi):=by
 intro b a;unfold hiO at a;by_cases e:hi=[]
 ·rw [if_pos e] at a;cases a
 ·rw [if_neg e] at a;rw [<-Option.some.inj a];unfold Br at h;simp only [Bool.or_eq_true,decide_eq_true_eq,e,false_or] at h;exact ⟨h,c.resolve_left e⟩
def pg (P:List (Option Nd)) (n:Nat):Nd:=match P[n]? with
 | some (some nd)=> nd
 | _=> (0,[],[],[],[])
theorem Ht {P:List (Option Nd)} {n:Nat} {a:Nd} (h:P[n]?=some (some a)):pg P n=a:=by unfold pg;rw [h]
def prt {α β:Type} (g:Key->Key->α->β):List Tk->List α->List (Key×β)
 | t::ts,k::ks=> if Br t.2.1 t.2.2 then (t.2.1,g t.2.1 t.2.2 k)::prt g ts ks else prt g ts ks
 | _,_=> []
theorem Ad2 {α β:Type} (g:Key->Key->α->β):∀(ts:List Tk) (a:List α),(prt g ts a).length<=ts.length
 | [],_=> by simp [prt]
 | _::_,[]=> by simp [prt]
 | t::ts,k::a=> by
  rw [prt];have:=Ad2 g ts a;split
  ·rw [List.length_cons,List.length_cons];omega
  ·rw [List.length_cons];omega
def tr (P:List (Option Nd)):(h:Nat)->Key->Key->PT h->Ac h
 | 0,_,_,f=> its (pg P (num 0 f))
 | h+1,lo,hi,(n,ks)=> brT (prt (tr P h) (Hg (pg P n) lo hi) ks) (chs (pg P n))
def eff (P:List (Option Nd)):(h:Nat)->PT h->List Ch
 | 0,f=> (its (pg P (num 0 f))).map fun x=> ((1:Int),x.1,x.2)
 | h+1,(n,ks)=> (ks.map (eff P h)).flatten++chs (pg P n)
def Yu (P:List (Option Nd)):Prop:=∀(n:Nat) (nd:Nd),P[n]?=some (some nd)->okN nd
theorem An6 {lo hi p k:Key} (h:Im lo p k) (a:p≠[]) (b:hi=[]\/p < hi):Im lo hi k:=⟨h.1,b.imp id fun q=> by
 rcases h.2 with e | e
 ·exact absurd e a
 ·exact Cz e q⟩
theorem Apb {lo hi p k:Key} (h:Im p hi k) (a:¬p < lo):Im lo hi k:=⟨fun q=> h.1 (Hq q a),h.2⟩
theorem Tn {P:List (Option Nd)} {h:Nat} (m:∀lo hi (f:PT h),Co P h lo hi f->∀c∈eff P h f,Im lo hi c.2.1):∀(l:List Key) (g:List Nat) (lo hi:Key) (a:List (PT h)),(∀p∈l,Im lo hi p/\okK p)->l.Pairwise (·< ·)->FF (Co P h) (num h) (List.zipWith (fun c b=> (c,b)) g (Ib lo hi l)) a->∀c∈(a.map (eff P h)).flatten,Im lo hi c.2.1
 | [],[],_,_,a,_,_,hf,c,hc=> by
  cases a with
  | nil=> simp at hc
  | cons k a=> exact hf.elim
 | [],c0::g,lo,hi,a,_,_,hf,c,hc=> by
  have o:List.zipWith (fun c b=> (c,b)) (c0::g) (Ib lo hi [])=[(c0,lo,hi)]:=by simp [Ib]
  rw [o] at hf
  match a,hf with
  | [k],hf=>
   simp only [List.map_cons,List.map_nil,List.flatten_cons,List.flatten_nil,List.append_nil] at hc;exact m lo hi k hf.1.2 c hc
  | k::k2::a,hf=> exact hf.2.elim
 | p::r,[],lo,hi,a,_,_,hf,c,hc=> by
  cases a with
  | nil=> simp at hc
  | cons k a=> exact hf.elim
 | p::r,c0::g,lo,hi,a,hp,hs,hf,c,hc=> by
  match a,hf with
  | k::a,hf=>
   obtain ⟨n,i⟩:=hp p (List.mem_cons_self ..);have s:=Ad0 i;have d:=List.pairwise_cons.1 hs;simp only [List.map_cons,List.flatten_cons] at hc;rcases List.mem_append.1 hc with q | q
   ·exact An6 (m lo p k hf.1.2 c q) s n.2
   ·refine Apb (Tn m r g p hi a (fun x j=> ⟨⟨fun y=> lt_ir _ (Cz y (d.1 x j)),(hp x (List.mem_cons_of_mem _ j)).1.2⟩,(hp x (List.mem_cons_of_mem _ j)).2⟩) d.2 hf.2 c q) n.1
theorem Afc {P:List (Option Nd)} (b:Yu P):∀(h:Nat) (lo hi:Key) (f:PT h),Co P h lo hi f->∀c∈eff P h f,Im lo hi c.2.1
 | 0,lo,hi,f,⟨nd,h1,h2,h3⟩,c,hc=> by
  rw [eff,Ht h1] at hc;obtain ⟨x,d,rfl⟩:=List.mem_map.1 hc;exact h3.1 x d
 | h+1,lo,hi,(n,ks),⟨nd,h1,h2,h3,h4⟩,c,hc=> by
  rw [eff,Ht h1] at hc;rcases List.mem_append.1 hc with q | q
  ·rcases b n nd h1 with ⟨e,_⟩ | ⟨_,_,_,_,_,g,i,_⟩
   ·rw [h2] at e;exact absurd e (by decide)
   ·exact Tn (Afc b h) (pvs nd) (kds nd) lo hi ks (fun p a=> ⟨h3.2.2 p a,i p a⟩) g h4 c q
  ·exact h3.2.1 c q
theorem To {P:List (Option Nd)} {h:Nat} {R:Key->Option Key->Ac h->Prop} (t:∀lo hi (f:PT h),Co P h lo hi f->Br lo hi=true->(hi=[]\/okK hi)->R lo (hiO hi) (tr P h lo hi f)):∀(m:List Key) (j:List Nat) (lo hi:Key) (g:List (PT h)),j.length=m.length+1->(∀p∈m,Im lo hi p/\okK p)->m.Pairwise (·< ·)->Br lo hi=true->(hi=[]\/okK hi)->FF (Co P h) (num h) (List.zipWith (fun c b=> (c,b)) j (Ib lo hi m)) g->Ba R (some lo) (hiO hi) (prt (tr P h) (List.zipWith (fun c b=> (c,b)) j (Ib lo hi m)) g)
 | [],[c0],lo,hi,g,_,_,_,hro,hkh,hf=> by
  match g,hf with
  | [k],hf=>
   show Ba R (some lo) (hiO hi) (if Br lo hi=true then (lo,tr P h lo hi k)::[] else []);rw [if_pos hro];exact ⟨rfl,hiO hi,Afb hro hkh,t lo hi k hf.1.2 hro hkh,rfl⟩
  | k::k2::g,hf=> exact hf.2.elim
 | p::r,c0::j,lo,hi,g,hl,hp,hs,hro,hkh,hf=> by
  match g,hf with
  | k::g,hf=>
   obtain ⟨z,i⟩:=hp p (List.mem_cons_self ..);have u:=Ad0 i;have l:=List.pairwise_cons.1 hs;have o:Br p hi=true:=(by unfold Br;simpa using z.2);have d:=To t r j p hi g (by simpa using hl) (fun x s=> ⟨⟨fun y=> lt_ir _ (Cz y (l.1 x s)),(hp x (List.mem_cons_of_mem _ s)).1.2⟩,(hp x (List.mem_cons_of_mem _ s)).2⟩) l.2 o hkh hf.2;show Ba R (some lo) (hiO hi) (if Br lo p=true then (lo,tr P h lo p k)::prt (tr P h) (List.zipWith (fun c b=> (c,b)) j (Ib p hi r)) g else prt (tr P h) (List.zipWith (fun c b=> (c,b)) j (Ib p hi r)) g);by_cases n:Br lo p=true
   ·rw [if_pos n];refine ⟨rfl,some p,by rw [<-Nt u];exact Afb n (.inr i),?_,d⟩;have:=t lo p k hf.1.2 n (.inr i);rw [Nt u] at this;exact this
   ·rw [if_neg n];have:lo=p:=by
     refine tri _ _ (fun q=> n ?_) z.1;unfold Br;simp [q]
    rw [this];exact d
 | [],[],_,_,_,hl,_,_,_,_,_=> by simp at hl
 | [],_::_::_,_,_,_,hl,_,_,_,_,_=> by simp at hl
 | _::_,[],_,_,_,hl,_,_,_,_,_=> by simp at hl
theorem Aiw {P:List (Option Nd)} (i:Yu P):∀(h:Nat) (lo hi:Key) (f:PT h),Co P h lo hi f->Br lo hi=true->(hi=[]\/okK hi)->WF h lo (hiO hi) (tr P h lo hi f)/\Top h (tr P h lo hi f)
 | 0,lo,hi,f,⟨nd,h1,h2,h3⟩,_,_=> by
  rw [tr,Ht h1];rcases i _ nd h1 with ⟨_,_,_,_,d,l,g⟩ | ⟨e,_⟩
  ·exact ⟨⟨l,fun x j=> ⟨Nu.1 (h3.1 x j),g x j⟩⟩,d⟩
  ·rw [h2] at e;exact absurd e (by decide)
 | h+1,lo,hi,(n,ks),⟨nd,h1,h2,h3,h4⟩,hro,hkh=> by
  rw [tr,Ht h1];rcases i n nd h1 with ⟨e,_⟩ | ⟨_,_,_,o,a,q,g,r,s⟩
  ·rw [h2] at e;exact absurd e (by decide)
  ·refine ⟨⟨To (R:=fun f m t=> WF h f m t/\Top h t) (Aiw i h) (pvs nd) (kds nd) lo hi ks a.symm (fun p k=> ⟨h3.2.2 p k,g p k⟩) q hro hkh h4,fun c b=> ⟨Nu.1 (h3.2.1 c b),s c b⟩⟩,?_,r⟩;refine Nat.le_trans (Ad2 _ _ _) ?_;unfold Hg;rw [List.length_zipWith];omega
theorem Ad3 {k:Key}:∀{l:List It},Bi l->Aj (l.map fun x=> ((1:Int),x.1,x.2)) k none=Tr.Bj l k
 | [],_=> rfl
 | x::r,h=> by
  have b:=List.pairwise_cons.1 h;rw [List.map_cons,Dc,Tr.Bj];by_cases e:x.1=k
  ·rw [if_pos e];have a:one k none ((1:Int),x.1,x.2)=some x.2:=(by unfold one;rw [if_pos e];rfl);rw [a];refine Dv _ _ _ fun c g=> ?_
   obtain ⟨y,f,rfl⟩:=List.mem_map.1 g;intro q;have:=b.1 y f;rw [e] at this;have d:y.1=k:=q;rw [d] at this;exact lt_ir k this
  ·rw [if_neg e];have a:one k none ((1:Int),x.1,x.2)=none:=(by unfold one;rw [if_neg e]);rw [a];exact Ad3 b.2
def Akh {h:Nat} (ps:List (Key×Ac h)) (k:Key):Option Key:=match ps[ix (ps.map (·.1)) k]? with
 | some p=> val h p.2 k
 | none=> none
theorem Aki {h:Nat} {a:Key×Ac h} {b:Key×Ac h} {r:List (Key×Ac h)} {k:Key} (c:¬k < b.1):Akh (a::b::r) k=Akh (b::r) k:=by
 unfold Akh;have e:ix ((a::b::r).map (·.1)) k=ix ((b::r).map (·.1)) k+1:=by
  show ix (a.1::b.1::r.map (·.1)) k=_;rw [ix,if_neg c];rfl
 rw [e];rfl
theorem Yv {h:Nat} {a:Key×Ac h} {r:List (Key×Ac h)} {k:Key} (d:∀b c,r=b::c->k < b.1):Akh (a::r) k=val h a.2 k:=by
 unfold Akh;have e:ix ((a::r).map (·.1)) k=0:=by
  cases r with
  | nil=> rfl
  | cons b c=>
   show ix (a.1::b.1::c.map (·.1)) k=0;rw [ix,if_pos (d b c rfl)]
 rw [e];rfl
theorem Afd {P:List (Option Nd)} {h:Nat} {k:Key} (i:∀lo hi (f:PT h),Co P h lo hi f->∀c∈eff P h f,Im lo hi c.2.1) (I:∀lo hi (f:PT h),Co P h lo hi f->Im lo hi k->(hi=[]\/okK hi)->val h (tr P h lo hi f) k=Aj (eff P h f) k none):∀(B:List Key) (g:List Nat) (lo hi:Key) (a:List (PT h)),g.length=B.length+1->(∀p∈B,Im lo hi p/\okK p)->B.Pairwise (·< ·)->Br lo hi=true->Im lo hi k->(hi=[]\/okK hi)->FF (Co P h) (num h) (List.zipWith (fun c b=> (c,b)) g (Ib lo hi B)) a->∃t r,prt (tr P h) (List.zipWith (fun c b=> (c,b)) g (Ib lo hi B)) a=(lo,t)::r/\Akh ((lo,t)::r) k=Aj ((a.map (eff P h)).flatten) k none
 | [],[c0],lo,hi,a,_,_,_,hro,hk,hkh,hf=> by
  match a,hf with
  | [kid],hf=>
   refine ⟨tr P h lo hi kid,[],?_,?_⟩
   ·show (if Br lo hi=true then (lo,tr P h lo hi kid)::[] else [])=_;rw [if_pos hro]
   ·rw [Yv (by intro b A e;cases e)];simp only [List.map_cons,List.map_nil,List.flatten_cons,List.flatten_nil,List.append_nil];exact I lo hi kid hf.1.2 hk hkh
  | k::k2::a,hf=> exact hf.2.elim
 | p::r,c0::g,lo,hi,a,hl,hp,hs,hro,hk,hkh,hf=> by
  match a,hf with
  | kid::a,hf=>
   obtain ⟨J,z⟩:=hp p (List.mem_cons_self ..);have M:=Ad0 z;have j:=List.pairwise_cons.1 hs;have n:Br p hi=true:=(by unfold Br;simpa using J.2);have l:∀x∈r,Im p hi x/\okK x:=fun x G=> ⟨⟨fun y=> lt_ir _ (Cz y (j.1 x G)),(hp x (List.mem_cons_of_mem _ G)).1.2⟩,(hp x (List.mem_cons_of_mem _ G)).2⟩
   have C:prt (tr P h) (List.zipWith (fun c b=> (c,b)) (c0::g) (Ib lo hi (p::r))) (kid::a)=if Br lo p=true then (lo,tr P h lo p kid)::prt (tr P h) (List.zipWith (fun c b=> (c,b)) g (Ib p hi r)) a else prt (tr P h) (List.zipWith (fun c b=> (c,b)) g (Ib p hi r)) a:=rfl
   rw [C];simp only [List.map_cons,List.flatten_cons];rw [Eg];by_cases d:k < p
   ·have o:Br lo p=true:=by
     unfold Br;have:lo < p:=Wu hk.1 d;simp [this]
    rw [if_pos o];refine ⟨_,_,rfl,?_⟩;have D:Im lo p k:=⟨hk.1,.inr d⟩;have m:∀b A,prt (tr P h) (List.zipWith (fun c b=> (c,b)) g (Ib p hi r)) a=b::A->k < b.1:=by
     intro b A e;have s:=To (R:=fun _ _ _=> True) (fun _ _ _ _ _ _=> trivial) r g p hi a (by simpa using hl) l j.2 n hkh hf.2;rw [e] at s;have:=s.1;rw [<-Option.some.inj this];exact d
    rw [Yv m,I lo p kid hf.1.2 D (.inr z)]
    symm
    refine Dv _ _ _ fun c H e=> ?_
    have:=Tn i r g p hi a l j.2 hf.2 c H;exact this.1 (by rw [e];exact d)
   ·have F:Im p hi k:=⟨d,hk.2⟩;obtain ⟨t,A,O,L⟩:=Afd i I r g p hi a (by simpa using hl) l j.2 n F hkh hf.2;have N:Aj (eff P h kid) k none=none:=Dv _ _ _ fun c H e=> by
     have:=i lo p kid hf.1.2 c H;rcases this.2 with q | q
     ·exact M q
     ·exact d (by rw [<-e];exact q)
    rw [N,O];by_cases o:Br lo p=true
    ·rw [if_pos o];refine ⟨_,_,rfl,?_⟩;rw [Aki d];exact L
    ·rw [if_neg o];have u:lo=p:=by
      refine tri _ _ (fun q=> o ?_) J.1;unfold Br;simp [q]
     exact ⟨t,A,by rw [u],by rw [u];exact L⟩
 | [],[],_,_,_,hl,_,_,_,_,_,_=> by simp at hl
 | [],_::_::_,_,_,_,hl,_,_,_,_,_,_=> by simp at hl
 | _::_,[],_,_,_,hl,_,_,_,_,_,_=> by simp at hl
theorem Ahl {P:List (Option Nd)} (b:Yu P) (k:Key):∀(h:Nat) (lo hi:Key) (f:PT h),Co P h lo hi f->Im lo hi k->(hi=[]\/okK hi)->val h (tr P h lo hi f) k=Aj (eff P h f) k none
 | 0,lo,hi,f,⟨nd,h1,h2,h3⟩,_,_=> by
  rw [tr,eff,Ht h1];rcases b _ nd h1 with ⟨_,_,_,_,_,l,_⟩ | ⟨e,_⟩
  ·exact (Ad3 l).symm
  ·rw [h2] at e;exact absurd e (by decide)
 | h+1,lo,hi,(n,ks),⟨nd,h1,h2,h3,h4⟩,hk,hkh=> by
  rw [tr,eff,Ht h1,Eg];rcases b n nd h1 with ⟨e,_⟩ | ⟨_,_,_,_,a,m,d,_,_⟩
  ·rw [h2] at e;exact absurd e (by decide)
  ·have c:Br lo hi=true:=by
    unfold Br;rcases hk.2 with q | q
    ·simp [q]
    ·have:=Wu hk.1 q;simp [this]
   obtain ⟨t,r,i,j⟩:=Afd (k:=k) (Afc b h) (Ahl b k h) (pvs nd) (kds nd) lo hi ks a.symm (fun p g=> ⟨h3.2.2 p g,d p g⟩) m c hk hkh h4;rw [<-j,<-i];rfl
theorem An7 {P:List (Option Nd)} {h:Nat} (b:∀lo hi (f:PT h),Co P h lo hi f->wt h (tr P h lo hi f)<=19*(nums h f).length):∀(ts:List Tk) (a:List (PT h)),FF (Co P h) (num h) ts a->((prt (tr P h) ts a).map fun p=> wt h p.2).sum<=19*(Bb h a).length
 | [],[],_=> by simp [prt]
 | t::ts,k::a,hf=> by
  have c:=An7 b ts a hf.2;have d:=b _ _ k hf.1.2;rw [prt,Ez,List.length_append];split
  ·rw [List.map_cons,List.sum_cons];simp only;omega
  ·omega
 | [],_::_,h=> h.elim
 | _::_,[],h=> h.elim
theorem Apy {P:List (Option Nd)} (a:Yu P):∀(h:Nat) (lo hi:Key) (f:PT h),Co P h lo hi f->wt h (tr P h lo hi f)<=19*(nums h f).length
 | 0,lo,hi,f,⟨nd,h1,h2,h3⟩=> by
  rw [tr,Ht h1];rcases a _ nd h1 with ⟨_,_,_,_,c,_⟩ | ⟨e,_⟩
  ·show 1+2*((its nd).length - 16)<=19*1;omega
  ·rw [h2] at e;exact absurd e (by decide)
 | h+1,lo,hi,(n,ks),⟨nd,h1,h2,h3,h4⟩=> by
  rw [tr,Ht h1];rcases a n nd h1 with ⟨e,_⟩ | ⟨_,_,_,d,_,_,_,g,_⟩
  ·rw [h2] at e;exact absurd e (by decide)
  ·have:=An7 (Apy a h) _ ks h4;have b:(prt (tr P h) (Hg nd lo hi) ks).length<=4:=by
    refine Nat.le_trans (Ad2 _ _ _) ?_;unfold Hg;rw [List.length_zipWith];omega
   show 2*(chs nd).length+((prt (tr P h) (Hg nd lo hi) ks).map fun p=> wt h p.2).sum+(((prt (tr P h) (Hg nd lo hi) ks).length - 1)+(2 - (prt (tr P h) (Hg nd lo hi) ks).length))<=19*(n::Bb h ks).length;rw [List.length_cons];omega
end Go.Proofs.YtolgpnaoaodepaaGreat.Ld
