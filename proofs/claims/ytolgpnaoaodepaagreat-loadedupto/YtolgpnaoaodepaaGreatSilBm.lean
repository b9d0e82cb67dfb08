import Derived.Test.YtolgpnaoaodepaaGreatTreHm
namespace Go.Proofs.YtolgpnaoaodepaaGreat
open Go.RowKit
abbrev Aq6:Go.Conc.Locks.MuLink:={lock:=34,unlock:=35,ilock:=58,iunlock:=59,lockSlow:=120,unlockSlow:=123,disable:=116,enable:=118,acquire:=119,relMerge:=121,cas32:=117,add32:=122,tMutex:=93,tIMutex:=91,tPMutex:=126,tPIMutex:=184,tPI32:=186,tUP:=188,tNoCopy:=88,tU32:=89}
theorem Pf:Go.Conc.Locks.MuLib Tryz.prog Aq6:=
 ⟨Tryz.func34,Tryz.func35,Tryz.func58,Tryz.func59,Tryz.func116,Tryz.func118,Tryz.func119,Tryz.func121,Tryz.func117,Tryz.func122,
  Tryz.underlying91,Tryz.runUnderlying91,Tryz.sizeOf91,Tryz.isAgg91,Tryz.zeroValue91,
  Tryz.underlying93,Tryz.runUnderlying93,Tryz.sizeOf93,Tryz.isAgg93,Tryz.zeroValue93,
  Tryz.underlying126,Tryz.runUnderlying126,Tryz.sizeOf126,Tryz.isAgg126,Tryz.zeroValue126,
  Tryz.underlying184,Tryz.runUnderlying184,Tryz.sizeOf184,Tryz.isAgg184,Tryz.zeroValue184,
  Tryz.underlying186,Tryz.runUnderlying186,Tryz.sizeOf186,Tryz.isAgg186,Tryz.zeroValue186,
  Tryz.underlying188,Tryz.runUnderlying188,Tryz.sizeOf188,Tryz.isAgg188,Tryz.zeroValue188,
  Tryz.underlying88,Tryz.runUnderlying88,Tryz.sizeOf88,Tryz.isAgg88,Tryz.zeroValue88,
  Tryz.underlying21,Tryz.runUnderlying21,Tryz.sizeOf21,Tryz.isAgg21,Tryz.zeroValue21,(by kernel_rfl)⟩
end Go.Proofs.YtolgpnaoaodepaaGreat
namespace Go.Proofs.YtolgpnaoaodepaaGreat.Tr
def Ik (l:List It) (c:Ch):List It:=Lf l c.2.1 (Di (Bj l c.2.1) c)
def Bq (l:List It) (cs:List Ch):List It:=cs.foldl Ik l
theorem Lv (l:List It) (a:List Ch) (c:Ch):Bq l (a++[c])=Ik (Bq l a) c:=by simp [Bq]
theorem Agv {l:List It} (a:Bi l) (c:Ch) (k:Key):Bj (Ik l c) k=one k (Bj l k) c:=by
 unfold Ik one;rw [Ajn a];by_cases h:k=c.2.1
 ·subst h;simp
 ·rw [if_neg h,if_neg fun e=> h e.symm]
theorem Lw {s:Option Key} {c:Ch} {v:Key} (a:c.2.2.length<=16) (h:Di s c=some v):v.length<=16:=by
 unfold Di at h;split at h
 ·cases h
 ·split at h
  ·rw [<-Option.some.inj h];exact Wv _
  ·rw [<-Option.some.inj h];exact a
theorem Alv {l:List It} {k v:Key} (h:Bj l k=some v):(k,v)∈l:=by
 induction l with
 | nil=> cases h
 | cons x r ih=>
  rw [Bj] at h;split at h
  ·rename_i e;have:=Option.some.inj h;exact List.mem_cons.2 (.inl (Prod.ext e.symm this.symm))
  ·exact List.mem_cons_of_mem _ (ih h)
theorem Jp {c:Ch} (h:Ew c):Pg.Ei c.2.1.length=true/\c.2.2.length<=16:=by
 unfold Ew Pg.Ax Pg.Bt at h;simp only [Bool.and_eq_true] at h;exact ⟨h.1.1,of_decide_eq_true h.1.2⟩
theorem Re {l:List It} {lo:Key} {hi:Option Key} {c:Ch} (h:WF 0 lo hi l) (a:inR lo hi c.2.1/\Ew c):WF 0 lo hi (Ik l c):=by
 refine ⟨Ae1 h.1 _ _,fun x f=> ?_⟩;rcases Alt f with q | ⟨v,e,rfl⟩
 ·exact h.2 x q
 ·obtain ⟨b,d⟩:=Jp a.2;exact ⟨a.1,b,Lw d e⟩
theorem Xl {lo:Key} {hi:Option Key}:∀(a:List Ch) {l:List It},WF 0 lo hi l->(∀c∈a,inR lo hi c.2.1/\Ew c)->WF 0 lo hi (Bq l a)
 | [],_,h,_=> h
 | c::r,l,h,hc=> Xl r (l:=Ik l c) (Re h (hc c (List.mem_cons_self ..))) fun d b=> hc d (List.mem_cons_of_mem _ b)
theorem Ja {lo:Key} {hi:Option Key} (k:Key):∀(a:List Ch) {l:List It},WF 0 lo hi l->(∀c∈a,inR lo hi c.2.1/\Ew c)->Bj (Bq l a) k=Aj a k (Bj l k)
 | [],_,_,_=> rfl
 | c::r,l,h,hc=> by
  rw [Dc,<-Agv h.1];exact Ja k r (l:=Ik l c) (Re h (hc c (List.mem_cons_self ..))) fun d b=> hc d (List.mem_cons_of_mem _ b)
theorem Fy:∀(a:List Ch) (l:List It),(Bq l a).length<=l.length+a.length
 | [],_=> Nat.le_refl _
 | c::r,l=> by
  have b:=Fy r (Ik l c);have d:(Ik l c).length<=l.length+1:=Alu _ _ _;rw [List.length_cons];show (Bq (Ik l c) r).length<=_;omega
end Go.Proofs.YtolgpnaoaodepaaGreat.Tr
namespace Go.Proofs.YtolgpnaoaodepaaGreat
open Go.RowKit
theorem Xm (il:List (ByteArray×ByteArray)) (key:ByteArray):plain (Fw il key)=(plain il).takeWhile fun x=> decide (x.1 < key.data.toList):=by
 unfold Fw plain;rw [List.takeWhile_map];rfl
theorem Xn (il:List (ByteArray×ByteArray)) (key:ByteArray):plain (Cv il key)=(plain il).dropWhile fun x=> decide (x.1 < key.data.toList):=by
 unfold Cv plain;rw [List.dropWhile_map];rfl
theorem Aii {il A D:List (ByteArray×ByteArray)} {y:ByteArray×ByteArray} {key:ByteArray} (a:Fw il key=A) (b:Cv il key=y::D) (c:y.1.data.toList=key.data.toList) (o:Option (List UInt8)):Tr.Lf (plain il) key.data.toList o=plain A++((o.map fun v=> (key.data.toList,v)).toList++plain D):=by
 unfold Tr.Lf;rw [<-Xm,<-Xn,a,b];congr 2;show Tr.rest ((y.1.data.toList,y.2.data.toList)::plain D) _=_;unfold Tr.rest;simp only;rw [if_pos c]
theorem Alw {il A C:List (ByteArray×ByteArray)} {key:ByteArray} (a:Fw il key=A) (b:Cv il key=C) (c:Cx C key=false) (o:Option (List UInt8)):Tr.Lf (plain il) key.data.toList o=plain A++((o.map fun v=> (key.data.toList,v)).toList++plain C):=by
 unfold Tr.Lf;rw [<-Xm,<-Xn,a,b];congr 2
 cases C with
 | nil=> rfl
 | cons y D=>
  have:¬y.1.data.toList=key.data.toList:=of_decide_eq_false c;show Tr.rest ((y.1.data.toList,y.2.data.toList)::plain D) _=_;unfold Tr.rest;simp only;rw [if_neg this];rfl
theorem Aq {w:World} {p:Nat} {d vp vc v:Value} (h:An w p d vp vc) {B:Nat} {e:TypeId} {s n:Nat} {xs:List Value} (f:w.ownsRow B e s v n xs) (i:e≠123):v.ownBlock≠some p:=by
 intro q;rcases f.2 with ⟨rfl,_⟩ | ⟨g,b,c,rfl,_,a,_⟩
 ·simp [Value.ownBlock] at q
 ·obtain rfl:g=p:=Option.some.inj q;unfold An at h;rw [h] at a;simp only [Option.some.injEq,Obj.cells.injEq] at a;exact i a.2.1.symm
structure Ajo (p:Nat) (vi vp vc:Value) (w:World) (l:List Tr.It) (vi':Value) (il':List (ByteArray×ByteArray)) (w':World):Prop where
 nod:An w' p vi' vp vc
 its:Ak 0 w' vi' il'
 pl:plain il'=l
 mod:Mod (fun g=> g=p\/vi.ownBlock=some g) w w'
 blk:∀g,vi'.ownBlock=some g->vi.ownBlock=some g\/w.heap.size<=g
theorem Ae4 {il:List (ByteArray×ByteArray)} {key:ByteArray} (h:∀y∈il,y.2.size<=16):((Fr (Cv il key) key).getD []).length<=16:=by
 unfold Fr;have a:Cv il key <:+il:=List.dropWhile_suffix _
 cases b:Cv il key with
 | nil=> simp
 | cons y D=>
  simp only;split
  ·have:=h y (a.sublist.subset (by rw [b];exact List.mem_cons_self ..));rw [Option.getD_some,len_size];exact this
  ·simp
def ChB (w:World) (b:Nat) (k:Int) (key x:ByteArray):Prop:=w.heap[b]?=some (.cells #[.int .i64 k,.string key,.string x] 34 (0,0))
theorem ChB.lt {w:World} {b:Nat} {k:Int} {key x:ByteArray} (h:ChB w b k key x):b < w.heap.size:=(Array.getElem?_eq_some_iff.1 h).1
theorem ChB.cells {w:World} {b:Nat} {k:Int} {key x:ByteArray} (h:ChB w b k key x):w.cell? ⟨b,0,none⟩=some (.int .i64 k)/\w.cell? ⟨b,1,none⟩=some (.string key)/\w.cell? ⟨b,2,none⟩=some (.string x):=by
 unfold ChB at h;refine ⟨?_,?_,?_⟩ <;> simp [World.cell?,h]
theorem Ey {B:Nat} {w:World} {v:Value} {e:TypeId} {s n:Nat} {xs:List Value} (h:w.ownsRow B e s v n xs):∃a m c,v=Value.slice a m c:=by
 obtain ⟨a,c,e⟩:=Ab h;exact ⟨a,_,c,e⟩
theorem Ajp {w:World} {g c:Nat} {il:List (ByteArray×ByteArray)} (h:Ak 0 w (.slice (some ⟨g,0,none⟩) il.length c) il) (i:Nat) (hi:i < il.length) (b:ByteArray):Ak 0 (w.setCell ⟨g,i*2+1,none⟩ (.string b)) (.slice (some ⟨g,0,none⟩) il.length c) (il.set i ((il[i]'hi).1,b)):=by
 rcases h.2 with ⟨_,t⟩ | ⟨u,l,d,e,p,q,r,s,f,j⟩
 ·omega
 ·simp only [Value.slice.injEq,Option.some.injEq,Addr.mk.injEq,and_true,true_and] at e;obtain ⟨rfl,rfl⟩:=e;have m:i*2+1 < d.size:=by omega
  have a:icells (il.set i ((il[i]'hi).1,b))=(icells il).set (i*2+1) (.string b):=by
   rw [List.set_eq_take_append_cons_drop,if_pos hi,Cj];show icells (il.take i)++([Value.string (il[i]'hi).1,Value.string b]++icells (il.drop (i+1)))=_;have n:icells il=icells (il.take i)++([Value.string (il[i]'hi).1,Value.string (il[i]'hi).2]++icells (il.drop (i+1))):=by
    have o:icells il=icells (il.take i)++icells (il.drop i):=(by rw [<-Cj,List.take_append_drop]);rw [o,List.drop_eq_getElem_cons hi];rfl
   have k:(icells (il.take i)).length=i*2:=(by rw [Bf,List.length_take];omega);rw [n,List.set_append,if_neg (by rw [k];omega),k,show i*2+1 - i*2=1 by omega];rfl
  unfold Ak;rw [List.length_set];refine ⟨by rw [Bf,List.length_set],.inr ⟨g,c,d.setIfInBounds (i*2+1) (.string b),rfl,p,?_,r,s,by simpa using f,?_⟩⟩
  ·rw [Ad (i:=i*2+1) q]
  ·rw [Array.toList_setIfInBounds,List.take_set,j,a]
structure CM (w:World) (p:Nat) (vi vp vc:Value) (il:List (ByteArray×ByteArray)) (k:Int) (key x:ByteArray) (W:World):Prop where
 nod:An W p vi vp vc
 its:Ak 0 W vi il
 ch:ChB W w.heap.size k key x
 bel:Below w.heap.size w W
theorem CM.below {w:World} {p:Nat} {b vp vc:Value} {il:List (ByteArray×ByteArray)} {k:Int} {key x:ByteArray} {W W':World} (h:CM w p b vp vc il k key x W) (a:Below W.heap.size W W'):CM w p b vp vc il k key x W':=
 ⟨(a.block p h.nod.lt).trans h.nod,Aa h.its a (Nat.le_refl _),(a.block _ h.ch.lt).trans h.ch,h.bel.trans (a.mono h.bel.size)⟩
theorem CM.drew {w:World} {p:Nat} {a vp vc:Value} {il:List (ByteArray×ByteArray)} {k:Int} {key x:ByteArray} {W:World} (h:CM w p a vp vc il k key x W):CM w p a vp vc il k key x W.drew:=h.below (Below.refl _ W).drew
theorem CM.alloc {w:World} {p:Nat} {a vp vc:Value} {il:List (ByteArray×ByteArray)} {k:Int} {key x:ByteArray} {W:World} (h:CM w p a vp vc il k key x W) (o:Obj):CM w p a vp vc il k key x (W.alloc o):=h.below ((Below.refl _ W).alloc (Nat.le_refl _) o)
structure CS (w:World) (p:Nat) (vi vp vc:Value) (il:List (ByteArray×ByteArray)) (k:Int) (key x:ByteArray) (s:Option (List UInt8)) (sb:Nat) (W:World):Prop where
 cm:CM w p vi vp vc il k key x W
 st:StB W sb (stV s) (stB s)
 lt:w.heap.size < sb
theorem Alx {W W':World} (h:Below (W.alloc (.cells #[.string ⟨#[]⟩,.bool false] 136)).heap.size (W.alloc (.cells #[.string ⟨#[]⟩,.bool false] 136)) W'):StB W' W.heap.size ⟨#[]⟩ false:=
 (h.block W.heap.size (by simp)).trans (heap_alloc_new _ _)
theorem StB.keep {W W':World} {b:Nat} {v:ByteArray} {t:Bool} (h:StB W b v t) (a:Below W.heap.size W W'):StB W' b v t:=(a.block b h.lt).trans h
theorem Aor {w:World} {p:Nat} {a vp vc:Value} {il:List (ByteArray×ByteArray)} {k:Int} {key x:ByteArray} {s:Option (List UInt8)} {W:World} (h:CM w p a vp vc il k key x W):CS w p a vp vc il k key x s W.heap.size (W.alloc (.cells #[.string (stV s),.bool (stB s)] 136)):=
 ⟨h.alloc _,heap_alloc_new _ _,h.ch.lt⟩
theorem Ae5 {w:World} {p:Nat} {c vp vc:Value} {il:List (ByteArray×ByteArray)} {k:Int} {key x:ByteArray} {s:Option (List UInt8)} {W:World} {a:Nat} {j:ByteArray} {l:Bool} (h:CM w p c vp vc il k key x W) (n:StB W a j l) (b:w.heap.size < a) (r:p < w.heap.size) (o:∀g,c.ownBlock=some g->g < w.heap.size):CS w p c vp vc il k key x s a ((W.setCell ⟨a,0,none⟩ (.string (stV s))).setCell ⟨a,1,none⟩ (.bool (stB s))):=by
 have d:=Mod.setCell W a 0 (.string (stV s));have f:=Mod.setCell (W.setCell ⟨a,0,none⟩ (.string (stV s))) a 1 (.bool (stB s));have m:Mod (fun g=> g=a) W ((W.setCell ⟨a,0,none⟩ (.string (stV s))).setCell ⟨a,1,none⟩ (.bool (stB s))):=d.trans f (fun _ _ q=> q) (fun _ _ q=> q);refine ⟨⟨m.nod h.nod (by omega),m.row h.its (fun g i=> by have:=o g i;omega),(m.block _ h.ch.lt (by omega)).trans h.ch,?_⟩,n.put _ _,b⟩;exact (h.bel.setCell (p:=⟨a,0,none⟩) (Nat.le_of_lt b) _).setCell (p:=⟨a,1,none⟩) (Nat.le_of_lt b) _
set_option maxHeartbeats 1000000 in
set_option maxRecDepth 20000 in
theorem Ae6 (p:Nat) (l vp vc:Value) (il:List (ByteArray×ByteArray)) (k:Int) (key x:ByteArray) (w:World) (hn:An w p l vp vc) (hv:Ak 0 w l il) (hl:il.length<=2000000) (hr:Tr.Bi (plain il)) (c4:∀y∈il,y.2.size<=16) (hx:x.size<=16):
  Calls Tryz.prog 125 #[.pointer (some ⟨p,0,none⟩),.agg #[.int .i64 k,.string key,.string x]] w fun r w'=> r= .returned (.tuple #[])/\∃f M,Ajo p l vp vc w (Tr.Lf (plain il) key.data.toList (Tr.Di (Tr.Bj (plain il) key.data.toList) (chP k key x))) f M w':=by
 have Y:=hid (Lt il key hr);have c5:=hid (Xd Y.out hr);have c6:((Tr.Bj (plain il) key.data.toList).getD []).length<=16:=by rw [c5.out];exact Ae4 c4
 have N:=(Below.refl w.heap.size w).alloc (Nat.le_refl _) (.cells #[.int .i64 k,.string key,.string x] 34);have O:Hid (CM w p l vp vc il k key x (w.alloc (.cells #[.int .i64 k,.string key,.string x] 34))):=⟨(N.block p hn.lt).trans hn,Aa hv N (Nat.le_refl _),heap_alloc_new _ _,N⟩;have Z:=hid hn.lt;have a0:Hid (∀g,l.ownBlock=some g->g < w.heap.size):=fun g hg=> (World.ownsRow.lt hv g hg).2
 have I:=hid (Aq hn hv (by decide));have HF:=hid (Rb p 0 l vp vc il key _ O.out.nod O.out.its (by omega) hr);have HS:Hid (∀W,CM w p l vp vc il k key x W->Calls Tryz.prog 78 #[.pointer (some ⟨p,0,none⟩),.string key] W fun r w'=> r= .returned (.agg #[.string (stV (Tr.Bj (plain il) key.data.toList)),.bool (stB (Tr.Bj (plain il) key.data.toList))])/\Below W.heap.size W w'):=fun W hW=> Uo p 0 l vp vc il key W hW.nod hW.its (by omega) hr
 have HA:Hid (∀W,Calls Tryz.prog 70 #[.agg #[.string (stV (Tr.Bj (plain il) key.data.toList)),.bool (stB (Tr.Bj (plain il) key.data.toList))],.agg #[.int .i64 k,.string key,.string x]] W fun r w'=> r= .returned (.agg #[.string (stV (Tr.Di (Tr.Bj (plain il) key.data.toList) (chP k key x))),.bool (stB (Tr.Di (Tr.Bj (plain il) key.data.toList) (chP k key x)))])/\Below W.heap.size W w'):=fun W=> Om _ k key x W (by omega) (by omega)
 clear hn hv c4 hr c6 N;go_enter Tryz.func125,Tryz.ntmps125;go_wp2_with fail;refine HF.out.mono ?_;clear HF;generalize w.alloc (.cells #[.int .i64 k,.string key,.string x] 34)=w1 at*;rintro r w2 ⟨rfl,b8⟩;have u:=hid (O.out.below b8);clear b8 O;obtain ⟨c0,c1,c2⟩:=u.out.ch.cells;have a8:w.heap.size < w2.heap.size:=u.out.ch.lt;generalize c3:Tr.Di (Tr.Bj (plain il) key.data.toList) (chP k key x)=s' at*;have R:=hid c3;clear c3;go_upto_region 2 with fail
 go_cut [4,5,6] (fun v4 v5 v6 wx=> v4= .int .i64 ((Fw il key).length:Nat)/\v5= .bool (Cx (Cv il key) key)/\∃sb,v6= .pointer (some ⟨sb,0,none⟩)/\CS w p l vp vc il k key x s' sb wx)
 case first=>
  go_region_law (first
   | (go_simp;go_at_call 78;refine (HS.out _ (by first | exact u.out.drew | exact u.out.drew.alloc _)).mono ?_;rintro r w3 ⟨rfl,a6⟩;have J:Hid (CM w p l vp vc il k key x w3):=(by first | exact u.out.drew.below a6 | exact (u.out.drew.alloc _).below a6);obtain ⟨d0,d1,d2⟩:=J.out.ch.cells;have e4:w.heap.size < w3.heap.size:=J.out.ch.lt;first | (have c7:StB w3 w2.heap.size ⟨#[]⟩ false:=Alx (W:=w2.drew) a6) | skip)
   | (go_simp;go_at_call 70;refine (HA.out _).mono ?_;rintro r w4 ⟨rfl,U⟩;have a1:Hid (CM w p l vp vc il k key x w4):=(by first | exact J.out.below U | exact (J.out.alloc _).below U);first | (have m:StB w4 w3.heap.size ⟨#[]⟩ false:=Alx (W:=w3) U;have z0:=m.cells.1;have z1:=m.cells.2.1;have f0:=m.cells.2.2.1;have f1:=m.cells.2.2.2) | (have m:StB w4 w2.heap.size ⟨#[]⟩ false:=StB.keep c7 U;have z0:=m.cells.1;have z1:=m.cells.2.1;have f0:=m.cells.2.2.1;have f1:=m.cells.2.2.2) | skip))
  all_goals
   go_wp2_with fail;go_meet
   first
    | exact ⟨rfl,rfl,_,rfl,Aor a1.out⟩
    | exact ⟨rfl,rfl,_,rfl,Ae5 a1.out m J.out.ch.lt Z.out a0.out⟩
    | exact ⟨rfl,rfl,_,rfl,Ae5 a1.out m u.out.ch.lt Z.out a0.out⟩
 case rest=>
  obtain ⟨rfl,rfl,sb,rfl,z⟩:=hcut;clear HS HA c0 c1 c2 a8 u;have d:=hid z;obtain ⟨t0,t1,f0,f1⟩:=z.st.cells;obtain ⟨n0,n1,n2,q0,q1,q2⟩:=z.cm.nod.cells;obtain ⟨c0,c1,c2⟩:=z.cm.ch.cells;have j:=Y.out.e;have a9:Hid (Mod (fun g=> g=p\/l.ownBlock=some g) w wc.drew):=Mod.of_below z.cm.bel.drew;have b0:Hid (Mod (fun g=> g=p\/l.ownBlock=some g) w wc):=Mod.of_below z.cm.bel;have c8:=hid z.cm.bel.size;clear z Y;generalize hA:Fw il key=A at*;generalize hC:Cv il key=C at*;have b1:=hid (congrArg List.length j)
  cases hh:Cx C key with
  | true=>
   obtain ⟨y,D,rfl,hy⟩:∃y D,C=y::D/\y.1.data.toList=key.data.toList:=by
    cases C with
    | nil=> cases hh
    | cons y D=> exact ⟨y,D,rfl,of_decide_eq_true hh⟩
   have S:=hid (fun o=> Aii hA hC hy o);have B:A.length < il.length:=(by have:=b1.out;rw [List.length_append,List.length_cons] at this;omega);obtain ⟨g,L,e,hc,-,hg,d0,d1⟩:=d.out.cm.its.at A.length B;have a2:il[A.length]'B=y:=by
    have:il[A.length]?=some y:=(by rw [j];simp);rw [List.getElem?_eq_getElem B] at this;exact Option.some.inj this
   clear hA hC
   cases s' with
   | some v=>
    subst e;have fr:wc.frozen? ⟨g,A.length*2+1,none⟩=false:=by
     rcases d.out.cm.its.2 with ⟨h0,_⟩ | ⟨X,e5,f5,e',_,i,_⟩
     ·simp at h0
     ·simp only [Value.slice.injEq,Option.some.injEq,Addr.mk.injEq,and_true,true_and] at e';obtain ⟨rfl,rfl⟩:=e';simp [World.frozen?,i]
    have s:Hid (∃f M,Ajo p (.slice (some ⟨g,0,none⟩) il.length L) vp vc w (Tr.Lf (plain il) key.data.toList (some v)) f M (wc.drew.setCell ⟨g,A.length*2+1,none⟩ (.string (stV (some v))))):=by
     have b2:=Ajp (w:=wc.drew) d.out.cm.its A.length B (stV (some v));have m1:=Mod.setCell wc.drew g (A.length*2+1) (.string (stV (some v)));have c9:g≠p:=fun q=> I.out (by rw [<-q];rfl)
     refine ⟨_,_,⟨m1.nod d.out.cm.nod (fun q=> c9 q.symm),b2,?_,a9.out.trans m1 (fun _ _ q=> q) (fun k _ q=> .inr (by rw [q];rfl)),fun X i=> .inl i⟩⟩;rw [S.out,a2];have e2:il.set A.length (y.1,stV (some v))=A++(y.1,stV (some v))::D:=by
      rw [j,List.set_append,if_neg (Nat.lt_irrefl _),Nat.sub_self,List.set_cons_zero]
     rw [e2,Jg];show plain A++((y.1.data.toList,(stV (some v)).data.toList)::plain D)=_;rw [hy];rfl
    have hb:A.length<=L:=(by omega);clear a2 j S;go_upto_region 4 with fail
    go_region_law (fail)
    all_goals
     go_wp2_with fail;go_end0;exact ⟨rfl,by rw [R.out];exact s.out⟩
   | none=>
    subst e;have b3:=hid (Ae0 (.slice (some ⟨g,0,none⟩) il.length L) il A.length wc B d.out.cm.its (by omega));have d3:Hid (plain (il.take A.length++il.drop (A.length+1))=Tr.Lf (plain il) key.data.toList none):=by
     show _=_;rw [S.out,Jg];congr 1
     ·rw [j,List.take_left]
     ·rw [j,show A.length+1=(A++[y]).length by simp,show A++y::D=(A++[y])++D by simp,List.drop_left];rfl
    have e6:IntKind.i64.wrap ((A.length:Int)+1)=(A.length:Int)+1:=(by rw [IntKind.wrap_i64];omega);clear a2 j S;go_wp2_with fail;refine b3.out.mono ?_;rintro r V ⟨f,rfl,ho,b9,a7⟩;obtain ⟨va,vn,t,b7⟩:∃a n c,f=Value.slice a n c:=(by obtain ⟨a,c,e⟩:=Ab ho;exact ⟨a,_,c,e⟩);have m5:=Mod.of_grown b9;have a3:=m5.nod d.out.cm.nod I.out;obtain ⟨d8,d9,e0,e1,f3,f4⟩:=a3.cells;have s:Hid (∃vo lo,Ajo p (.slice (some ⟨g,0,none⟩) il.length L) vp vc w (Tr.Lf (plain il) key.data.toList none) vo lo (V.setCell ⟨p,0,none⟩ f)):=by
     have a4:f.ownBlock≠some p:=fun q=> I.out (by rw [<-a7];exact q)
     have m6:=Mod.setCell V p 0 f;refine ⟨f,_,⟨a3.seti f,m6.row ho (fun X i q=> a4 (by rw [<-q];exact i)),d3.out,(b0.out.trans m5 (H:=fun X=> X=p\/(Value.slice (some ⟨g,0,none⟩) il.length L).ownBlock=some X) (fun _ _ q=> q) (fun k _ q=> .inr q)).trans m6 (fun _ _ q=> q) (fun k _ q=> .inl q),fun X i=> .inl (by rw [<-a7];exact i)⟩⟩
    clear ho b9 a7 m5 a3 n0 n1 n2 q0 q1 q2 b3;subst b7;go_wp2_with fail;go_end0;exact ⟨rfl,by rw [R.out];exact s.out⟩
  | false=>
   have T:=hid (fun o=> Alw hA hC hh o);clear hA hC;have B:A.length<=il.length:=by have:=b1.out;rw [List.length_append] at this;omega
   cases s' with
   | some v=>
    have d4:Hid (∀V:World,V.heap[wc.heap.size]?=some (.cells #[.string key,.string (stV (some v))] 51 (0,0))->Ak 0 V l il->Calls Tryz.prog 171 #[l,.int .i64 (A.length:Nat),.slice (some ⟨wc.heap.size,0,none⟩) 1 1] V fun r w'=>∃v',r= .returned v'/\Agu l (Pb il A.length (key,stV (some v))) V v' w'):=fun V h5 e3=> Ae2 l il A.length (key,stV (some v)) wc.heap.size V B e3 (by omega) h5 (fun q=> by have:=a0.out _ q;have:=c8.out;omega)
    have a5:=hid ((Below.refl wc.drew.heap.size wc.drew).alloc (Nat.le_refl _) (.cells #[.string key,.string (stV (some v))] 51));have d5:Hid (Ak 0 (wc.drew.alloc (.cells #[.string key,.string (stV (some v))] 51)) l il):=Aa (w:=wc.drew) d.out.cm.its a5.out (Nat.le_refl _);have d6:Hid (An (wc.drew.alloc (.cells #[.string key,.string (stV (some v))] 51)) p l vp vc):=(a5.out.block p d.out.cm.nod.lt).trans d.out.cm.nod;have b4:Hid (Mod (fun g=> g=p\/l.ownBlock=some g) w (wc.drew.alloc (.cells #[.string key,.string (stV (some v))] 51))):=a9.out.trans (Mod.of_below (F:=fun _=> False) a5.out) (fun _ _ q=> q) (fun _ _ q=> q.elim);have d7:Hid (plain (Pb il A.length (key,stV (some v)))=Tr.Lf (plain il) key.data.toList (some v)):=by
     show _=_;rw [T.out];unfold Pb;rw [Jg];congr 1
     ·rw [j,List.take_left]
     ·have:il.drop A.length=C:=(by rw [j,List.drop_left]);rw [this];rfl
    clear j T;have e7:p < wc.heap.size:=d.out.cm.nod.lt;have e8:w.heap.size < wc.heap.size:=d.out.cm.ch.lt;have e9:sb < wc.heap.size:=d.out.st.lt;go_upto_region 8 with fail
    go_region_law (go_simp;go_at_call 171;refine (d4.out _ (heap_alloc_new wc.drew _) d5.out).mono ?_;rintro r w6 ⟨f,rfl,hq⟩;obtain ⟨va,vn,t,rfl⟩:=Ey hq.o;have m6:=Mod.of_grown hq.g;have G:=m6.nod d6.out I.out;have d8:=G.cells.1;have d9:=G.cells.2.1;have e0:=G.cells.2.2.1;have e1:=G.cells.2.2.2.1;have HQ:=hid hq;have b5:=hid G;have b6:=hid (b4.out.trans m6 (H:=fun g=> g=p\/l.ownBlock=some g) (fun _ _ q=> q) (fun k _ q=> .inr q));clear hq m6 G)
    all_goals
     have s:Hid (∃vo lo,Ajo p l vp vc w (Tr.Lf (plain il) key.data.toList (some v)) vo lo (w6.setCell ⟨p,0,none⟩ (Value.slice va vn t))):=by
      have f2:w.heap.size<=(wc.drew.alloc (.cells #[.string key,.string (stV (some v))] 51)).heap.size:=b4.out.size;have a4:(Value.slice va vn t).ownBlock≠some p:=fun q=> by
       rcases HQ.out.b with h | ⟨k,hk,h⟩
       ·exact I.out (by rw [<-h];exact q)
       ·rw [h] at q;have:=Option.some.inj q;have:=Z.out;omega
      have m7:=Mod.setCell w6 p 0 (Value.slice va vn t);refine ⟨(Value.slice va vn t),_,⟨b5.out.seti (Value.slice va vn t),m7.row HQ.out.o (fun X i q=> a4 (by rw [<-q];exact i)),d7.out,b6.out.trans m7 (fun _ _ q=> q) (fun k _ q=> .inl q),fun X i=> ?_⟩⟩;rcases HQ.out.b with h | ⟨k,hk,h⟩
      ·exact .inl (by rw [<-h];exact i)
      ·rw [h] at i;exact .inr (by have:=Option.some.inj i;omega)
     clear HQ b5 b6;go_wp2_with fail;go_end0;exact ⟨rfl,by rw [R.out];exact s.out⟩
   | none=>
    have s:Hid (∃f M,Ajo p l vp vc w (Tr.Lf (plain il) key.data.toList none) f M wc):=⟨l,il,d.out.cm.nod,d.out.cm.its,by rw [T.out];show plain il=plain A++plain C;rw [<-Jg,<-j],b0.out,fun _ q=> .inl q⟩;clear j T;go_wp2_with fail;go_end0;exact ⟨rfl,by rw [R.out];exact s.out⟩
theorem Nh (w:World) {l:Array Oper} {rest:List Oper} {o:Oper} {a:Act} {Q:Exit->Act->World->Prop} (y:o.guard=none) (A x:Operand) (t e:TypeId) (L:Tryz.prog.underlying t=some (.slice e))
  (z:Value) (size b:Nat) (f:(Tryz.prog.info? e).map (fun i=> (i.zero,i.size,i.bytes))=some (some z,size,b)) (C:z.cells.size=size) (D:0 < size) (F:b<=1000)
  (M:o.op=Op.call {callee:=Callee.builtin Builtin.append,args:= #[A,x],argTypes:= #[t,t]}) (B:Nat) (v:Value) (n:Nat) (xs:List Value) (N:a.eval A=v) (p:w.ownsRow B e size v n xs)
  (G:Addr) (m c:Nat) (d:List Value) (O:a.eval x= .slice (some G) m c) (R:d.length=m*size) (g:∀j u,d[j]?=some u->w.cell? (G.add j)=some u) (S:∀u∈d,u.oneCell'=true) (T:n+m<=1000000000) (U:B<=w.heap.size)
  (h:∀(k:Value) (w':World),w'.ownsRow B e size k (n+m) (xs++d)->w.grownBy w' v.ownBlock->(k.ownBlock=v.ownBlock\/k.ownBlock=some w.heap.size)->wpList Tryz.prog l Q rest (a.put o.dst k) w'):wpList Tryz.prog l Q (o::rest) a w:=by
 obtain ⟨i,hi,q,r,s⟩:=info_parts f;exact wpList_append_own_at w y A x t M B e i z size b L hi q r s C D v n xs N p G m c d O R g S (by unfold maxLen;omega) (by have:(n+m)*b<=1000000000*1000:=Nat.mul_le_mul T F;omega) U (fun k w' H I _ J=> h k w' H I J)
theorem Fi:(Tryz.prog.info? 132).map (fun i=> (i.zero,i.size,i.bytes))=some (some (.agg #[.string ⟨#[]⟩,.pointer none]),2,24):=by kernel_rfl
theorem Ea:∀(l:List (ByteArray×Nat)),∀v∈pcells l,v.oneCell'=true
 | [],v,h=> by cases h
 | x::r,v,h=> by
  have a:v∈[Value.string x.1,Value.pointer (some ⟨x.2,0,none⟩)]++pcells r:=h;rcases List.mem_append.1 a with h | h
  ·simp at h;rcases h with rfl | rfl <;> rfl
  ·exact Ea r v h
theorem Aba (w:World) (e:TypeId) (size:Nat):(w.alloc (.cells #[] e)).ownsRow w.heap.size e size (.slice (some ⟨w.heap.size,0,none⟩) 0 0) 0 []:=
 ⟨by simp,.inr ⟨w.heap.size,0,#[],rfl,Nat.le_refl _,heap_alloc_new _ _,Nat.le_refl _,Nat.zero_le _,by simp,by simp⟩⟩
set_option maxHeartbeats 400000 in
set_option maxRecDepth 20000 in
theorem Agw (b:Addr) (n c:Nat) (l:List (ByteArray×ByteArray)) (w:World) (D:l.length=n) (F:n<=20000000) (t:∀j u,(icells l)[j]?=some u->w.cell? (b.add j)=some u) (o:b.block < w.heap.size):
  Calls Tryz.prog 230 #[.slice (some b) n c] w fun r w'=>∃v,r= .returned v/\Ak w.heap.size w' v l/\Below w.heap.size w w':=by
 subst D;have q:∀W,(binOp BinOp.eql 30 (.slice (some b) l.length c) (.slice none 0 0)).run Tryz.prog W= .ok (.bool false) W:=fun W=> Lib.run_eql_slice_some_nil W _ _ _ Tryz.underlying30
 have a:=hid ((Below.refl w.heap.size w).alloc (Nat.le_refl _) (.cells #[] 51));have g:=hid (Aba w 51 2);have i:Hid (∀j u,(icells l)[j]?=some u->(w.alloc (.cells #[] 51)).cell? (b.add j)=some u):=fun j u B=> (a.out.cell (p:=b.add j) (by rw [show (b.add j).block=b.block by unfold Addr.add;split <;> rfl];exact o)).trans (t j u B)
 have y:Hid (w.heap.size<=(w.alloc (.cells #[] 51)).heap.size):=a.out.size;have z:Hid ((icells l).length=l.length*2):=Bf l;clear t;go_enter Tryz.func230,Tryz.ntmps230;go_wp2_with (at_builtin;refine Nh _ rfl (.tmp 5) (.tmp 6) 30 51 Tryz.underlying30 _ 2 32 Cm rfl (by decide) (by decide) rfl w.heap.size (.slice (some ⟨w.heap.size,0,none⟩) 0 0) 0 [] rfl g.out b l.length c (icells l) rfl z.out i.out (Ex l) (by omega) y.out ?_;intro v1 s d f m);have A:Hid (Ak w.heap.size s v1 l/\Below w.heap.size w s):=by
  refine ⟨?_,a.out.grown f a.out.size (fun k C=> by cases C;exact Nat.le_refl _)⟩;unfold Ak;simpa using d
 clear d f m;go_ret;exact ⟨v1,rfl,A.out⟩
end Go.Proofs.YtolgpnaoaodepaaGreat
