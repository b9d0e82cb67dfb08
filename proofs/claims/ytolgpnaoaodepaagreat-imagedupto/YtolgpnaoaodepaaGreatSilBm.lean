import Derived.Test.YtolgpnaoaodepaaGreatTreHm
namespace Go.Proofs.YtolgpnaoaodepaaGreat
open Go.RowKit
abbrev muLink:Go.Conc.Locks.MuLink:={lock:=34,unlock:=35,ilock:=58,iunlock:=59,lockSlow:=120,unlockSlow:=123,disable:=116,enable:=118,acquire:=119,relMerge:=121,cas32:=117,add32:=122,tMutex:=93,tIMutex:=91,tPMutex:=126,tPIMutex:=184,tPI32:=186,tUP:=188,tNoCopy:=88,tU32:=89}
theorem muLib:Go.Conc.Locks.MuLib Tryz.prog muLink:=
 ⟨Tryz.func34,Tryz.func35,Tryz.func58,Tryz.func59,Tryz.func116,Tryz.func118,Tryz.func119,Tryz.func121,Tryz.func117,Tryz.func122,
  Tryz.underlying91,Tryz.runUnderlying91,Tryz.sizeOf91,Tryz.isAgg91,Tryz.zeroValue91,
  Tryz.underlying93,Tryz.runUnderlying93,Tryz.sizeOf93,Tryz.isAgg93,Tryz.zeroValue93,
  Tryz.underlying126,Tryz.runUnderlying126,Tryz.sizeOf126,Tryz.isAgg126,Tryz.zeroValue126,
  Tryz.underlying184,Tryz.runUnderlying184,Tryz.sizeOf184,Tryz.isAgg184,Tryz.zeroValue184,
  Tryz.underlying186,Tryz.runUnderlying186,Tryz.sizeOf186,Tryz.isAgg186,Tryz.zeroValue186,
  Tryz.underlying188,Tryz.runUnderlying188,Tryz.sizeOf188,Tryz.isAgg188,Tryz.zeroValue188,
  Tryz.underlying88,Tryz.runUnderlying88,Tryz.sizeOf88,Tryz.isAgg88,Tryz.zeroValue88,
  Tryz.underlying21,Tryz.runUnderlying21,Tryz.sizeOf21,Tryz.isAgg21,Tryz.zeroValue21,(by kernel_rfl)⟩
end Go.Proofs.YtolgpnaoaodepaaGreat
namespace Go.Proofs.YtolgpnaoaodepaaGreat.Tr
def leaf1 (l:List It) (c:Ch):List It:=putK l c.2.1 (after (look l c.2.1) c)
def leafAll (l:List It) (cs:List Ch):List It:=cs.foldl leaf1 l
theorem leafAll_snoc (l:List It) (a:List Ch) (c:Ch):leafAll l (a++[c])=leaf1 (leafAll l a) c:=by simp [leafAll]
theorem leaf1_look {l:List It} (a:Rising l) (c:Ch) (k:Key):look (leaf1 l c) k=one k (look l k) c:=by
 unfold leaf1 one
 rw [putK_look a]
 by_cases h:k=c.2.1
 ·subst h;simp
 ·rw [if_neg h,if_neg fun e=> h e.symm]
theorem after_some {s:Option Key} {c:Ch} {v:Key} (a:c.2.2.length≤16) (h:after s c=some v):v.length≤16:=by
 unfold after at h
 split at h
 ·cases h
 ·split at h
  ·rw [←Option.some.inj h];exact last16_len _
  ·rw [←Option.some.inj h];exact a
theorem look_mem {l:List It} {k v:Key} (h:look l k=some v):(k,v)∈l:=by
 induction l with
 | nil=> cases h
 | cons x r ih=>
  rw [look] at h
  split at h
  ·rename_i e
   have:=Option.some.inj h
   exact List.mem_cons.2 (.inl (Prod.ext e.symm this.symm))
  ·exact List.mem_cons_of_mem _ (ih h)
theorem okCh_key {c:Ch} (h:okCh c):Pg.isKey c.2.1.length=true∧c.2.2.length≤16:=by
 unfold okCh Pg.okChange Pg.isChange at h
 simp only [Bool.and_eq_true] at h
 exact ⟨h.1.1,of_decide_eq_true h.1.2⟩
theorem leaf1_wf {l:List It} {lo:Key} {hi:Option Key} {c:Ch} (h:WF 0 lo hi l) (a:inR lo hi c.2.1∧okCh c):WF 0 lo hi (leaf1 l c):=by
 refine ⟨putK_rising h.1 _ _,fun x f=> ?_⟩
 rcases putK_mem f with q | ⟨v,e,rfl⟩
 ·exact h.2 x q
 ·obtain ⟨b,d⟩:=okCh_key a.2
  exact ⟨a.1,b,after_some d e⟩
theorem leafAll_wf {lo:Key} {hi:Option Key}:∀(a:List Ch) {l:List It},WF 0 lo hi l→(∀c∈a,inR lo hi c.2.1∧okCh c)→WF 0 lo hi (leafAll l a)
 | [],_,h,_=> h
 | c::r,l,h,hc=> leafAll_wf r (l:=leaf1 l c) (leaf1_wf h (hc c (List.mem_cons_self ..))) fun d b=> hc d (List.mem_cons_of_mem _ b)
theorem leafAll_look {lo:Key} {hi:Option Key} (k:Key):∀(a:List Ch) {l:List It},WF 0 lo hi l→(∀c∈a,inR lo hi c.2.1∧okCh c)→look (leafAll l a) k=afterAll a k (look l k)
 | [],_,_,_=> rfl
 | c::r,l,h,hc=> by
  rw [afterAll_cons,←leaf1_look h.1]
  exact leafAll_look k r (l:=leaf1 l c) (leaf1_wf h (hc c (List.mem_cons_self ..))) fun d b=> hc d (List.mem_cons_of_mem _ b)
theorem leafAll_len:∀(a:List Ch) (l:List It),(leafAll l a).length≤l.length+a.length
 | [],_=> Nat.le_refl _
 | c::r,l=> by
  have b:=leafAll_len r (leaf1 l c)
  have d:(leaf1 l c).length≤l.length+1:=putK_len _ _ _
  rw [List.length_cons]
  show (leafAll (leaf1 l c) r).length≤_
  omega
end Go.Proofs.YtolgpnaoaodepaaGreat.Tr
namespace Go.Proofs.YtolgpnaoaodepaaGreat
open Go.RowKit
theorem plain_cutA (il:List (ByteArray×ByteArray)) (key:ByteArray):plain (cutA il key)=(plain il).takeWhile fun x=> decide (x.1 < key.data.toList):=by
 unfold cutA plain;rw [List.takeWhile_map];rfl
theorem plain_cutC (il:List (ByteArray×ByteArray)) (key:ByteArray):plain (cutC il key)=(plain il).dropWhile fun x=> decide (x.1 < key.data.toList):=by
 unfold cutC plain;rw [List.dropWhile_map];rfl
theorem put_yes {il A D:List (ByteArray×ByteArray)} {y:ByteArray×ByteArray} {key:ByteArray} (a:cutA il key=A) (b:cutC il key=y::D) (c:y.1.data.toList=key.data.toList) (o:Option (List UInt8)):Tr.putK (plain il) key.data.toList o=plain A++((o.map fun v=> (key.data.toList,v)).toList++plain D):=by
 unfold Tr.putK
 rw [←plain_cutA,←plain_cutC,a,b]
 congr 2
 show Tr.rest ((y.1.data.toList,y.2.data.toList)::plain D) _=_
 unfold Tr.rest;simp only;rw [if_pos c]
theorem put_no {il A C:List (ByteArray×ByteArray)} {key:ByteArray} (a:cutA il key=A) (b:cutC il key=C) (c:headIs C key=false) (o:Option (List UInt8)):Tr.putK (plain il) key.data.toList o=plain A++((o.map fun v=> (key.data.toList,v)).toList++plain C):=by
 unfold Tr.putK
 rw [←plain_cutA,←plain_cutC,a,b]
 congr 2
 cases C with
 | nil=> rfl
 | cons y D=>
  have:¬y.1.data.toList=key.data.toList:=of_decide_eq_false c
  show Tr.rest ((y.1.data.toList,y.2.data.toList)::plain D) _=_
  unfold Tr.rest;simp only;rw [if_neg this];rfl
theorem nod_row {w:World} {p:Nat} {d vp vc v:Value} (h:NodT w p d vp vc) {B:Nat} {e:TypeId} {s n:Nat} {xs:List Value} (f:w.ownsRow B e s v n xs) (i:e≠123):v.ownBlock≠some p:=by
 intro q
 rcases f.2 with ⟨rfl,_⟩ | ⟨g,b,c,rfl,_,a,_⟩
 ·simp [Value.ownBlock] at q
 ·obtain rfl:g=p:=Option.some.inj q
  unfold NodT at h
  rw [h] at a
  simp only [Option.some.injEq,Obj.cells.injEq] at a
  exact i a.2.1.symm
structure ChgQ (p:Nat) (vi vp vc:Value) (w:World) (l:List Tr.It) (vi':Value) (il':List (ByteArray×ByteArray)) (w':World):Prop where
 nod:NodT w' p vi' vp vc
 its:OwnsI 0 w' vi' il'
 pl:plain il'=l
 mod:Mod (fun g=> g=p∨vi.ownBlock=some g) w w'
 blk:∀g,vi'.ownBlock=some g→vi.ownBlock=some g∨w.heap.size≤g
theorem headVal_len {il:List (ByteArray×ByteArray)} {key:ByteArray} (h:∀y∈il,y.2.size≤16):((headVal (cutC il key) key).getD []).length≤16:=by
 unfold headVal
 have a:cutC il key <:+il:=List.dropWhile_suffix _
 cases b:cutC il key with
 | nil=> simp
 | cons y D=>
  simp only
  split
  ·have:=h y (a.sublist.subset (by rw [b];exact List.mem_cons_self ..))
   rw [Option.getD_some,len_size];exact this
  ·simp
def ChB (w:World) (b:Nat) (k:Int) (key x:ByteArray):Prop:=w.heap[b]?=some (.cells #[.int .i64 k,.string key,.string x] 34 (0,0))
theorem ChB.lt {w:World} {b:Nat} {k:Int} {key x:ByteArray} (h:ChB w b k key x):b < w.heap.size:=(Array.getElem?_eq_some_iff.1 h).1
theorem ChB.cells {w:World} {b:Nat} {k:Int} {key x:ByteArray} (h:ChB w b k key x):w.cell? ⟨b,0,none⟩=some (.int .i64 k)∧w.cell? ⟨b,1,none⟩=some (.string key)∧w.cell? ⟨b,2,none⟩=some (.string x):=by
 unfold ChB at h
 refine ⟨?_,?_,?_⟩ <;> simp [World.cell?,h]
theorem shape3 {B:Nat} {w:World} {v:Value} {e:TypeId} {s n:Nat} {xs:List Value} (h:w.ownsRow B e s v n xs):∃a m c,v=Value.slice a m c:=by
 obtain ⟨a,c,e⟩:=rowShape h
 exact ⟨a,_,c,e⟩
theorem ownsI_set {w:World} {g c:Nat} {il:List (ByteArray×ByteArray)} (h:OwnsI 0 w (.slice (some ⟨g,0,none⟩) il.length c) il) (i:Nat) (hi:i < il.length) (b:ByteArray):OwnsI 0 (w.setCell ⟨g,i*2+1,none⟩ (.string b)) (.slice (some ⟨g,0,none⟩) il.length c) (il.set i ((il[i]'hi).1,b)):=by
 rcases h.2 with ⟨_,t⟩ | ⟨u,l,d,e,p,q,r,s,f,j⟩
 ·omega
 ·simp only [Value.slice.injEq,Option.some.injEq,Addr.mk.injEq,and_true,true_and] at e
  obtain ⟨rfl,rfl⟩:=e
  have m:i*2+1 < d.size:=by omega
  have a:icells (il.set i ((il[i]'hi).1,b))=(icells il).set (i*2+1) (.string b):=by
   rw [List.set_eq_take_append_cons_drop,if_pos hi,icells_append]
   show icells (il.take i)++([Value.string (il[i]'hi).1,Value.string b]++icells (il.drop (i+1)))=_
   have n:icells il=icells (il.take i)++([Value.string (il[i]'hi).1,Value.string (il[i]'hi).2]++icells (il.drop (i+1))):=by
    have o:icells il=icells (il.take i)++icells (il.drop i):=by rw [←icells_append,List.take_append_drop]
    rw [o,List.drop_eq_getElem_cons hi];rfl
   have k:(icells (il.take i)).length=i*2:=by rw [icells_len2,List.length_take];omega
   rw [n,List.set_append,if_neg (by rw [k];omega),k,show i*2+1 - i*2=1 by omega]
   rfl
  unfold OwnsI
  rw [List.length_set]
  refine ⟨by rw [icells_len2,List.length_set],.inr ⟨g,c,d.setIfInBounds (i*2+1) (.string b),rfl,p,?_,r,s,by simpa using f,?_⟩⟩
  ·rw [heap_setCell_at (i:=i*2+1) q]
  ·rw [Array.toList_setIfInBounds,List.take_set,j,a]
structure CM (w:World) (p:Nat) (vi vp vc:Value) (il:List (ByteArray×ByteArray)) (k:Int) (key x:ByteArray) (W:World):Prop where
 nod:NodT W p vi vp vc
 its:OwnsI 0 W vi il
 ch:ChB W w.heap.size k key x
 bel:Below w.heap.size w W
theorem CM.below {w:World} {p:Nat} {b vp vc:Value} {il:List (ByteArray×ByteArray)} {k:Int} {key x:ByteArray} {W W':World} (h:CM w p b vp vc il k key x W) (a:Below W.heap.size W W'):CM w p b vp vc il k key x W':=
 ⟨(a.block p h.nod.lt).trans h.nod,row_below h.its a (Nat.le_refl _),(a.block _ h.ch.lt).trans h.ch,h.bel.trans (a.mono h.bel.size)⟩
theorem CM.drew {w:World} {p:Nat} {a vp vc:Value} {il:List (ByteArray×ByteArray)} {k:Int} {key x:ByteArray} {W:World} (h:CM w p a vp vc il k key x W):CM w p a vp vc il k key x W.drew:=h.below (Below.refl _ W).drew
theorem CM.alloc {w:World} {p:Nat} {a vp vc:Value} {il:List (ByteArray×ByteArray)} {k:Int} {key x:ByteArray} {W:World} (h:CM w p a vp vc il k key x W) (o:Obj):CM w p a vp vc il k key x (W.alloc o):=h.below ((Below.refl _ W).alloc (Nat.le_refl _) o)
structure CS (w:World) (p:Nat) (vi vp vc:Value) (il:List (ByteArray×ByteArray)) (k:Int) (key x:ByteArray) (s:Option (List UInt8)) (sb:Nat) (W:World):Prop where
 cm:CM w p vi vp vc il k key x W
 st:StB W sb (stV s) (stB s)
 lt:w.heap.size < sb
theorem st_new {W W':World} (h:Below (W.alloc (.cells #[.string ⟨#[]⟩,.bool false] 136)).heap.size (W.alloc (.cells #[.string ⟨#[]⟩,.bool false] 136)) W'):StB W' W.heap.size ⟨#[]⟩ false:=
 (h.block W.heap.size (by simp)).trans (heap_alloc_new _ _)
theorem StB.keep {W W':World} {b:Nat} {v:ByteArray} {t:Bool} (h:StB W b v t) (a:Below W.heap.size W W'):StB W' b v t:=(a.block b h.lt).trans h
theorem cs_late {w:World} {p:Nat} {a vp vc:Value} {il:List (ByteArray×ByteArray)} {k:Int} {key x:ByteArray} {s:Option (List UInt8)} {W:World} (h:CM w p a vp vc il k key x W):CS w p a vp vc il k key x s W.heap.size (W.alloc (.cells #[.string (stV s),.bool (stB s)] 136)):=
 ⟨h.alloc _,heap_alloc_new _ _,h.ch.lt⟩
theorem cs_early {w:World} {p:Nat} {c vp vc:Value} {il:List (ByteArray×ByteArray)} {k:Int} {key x:ByteArray} {s:Option (List UInt8)} {W:World} {a:Nat} {i:ByteArray} {j:Bool} (h:CM w p c vp vc il k key x W) (l:StB W a i j) (b:w.heap.size < a) (o:p < w.heap.size) (n:∀g,c.ownBlock=some g→g < w.heap.size):CS w p c vp vc il k key x s a ((W.setCell ⟨a,0,none⟩ (.string (stV s))).setCell ⟨a,1,none⟩ (.bool (stB s))):=by
 have d:=Mod.setCell W a 0 (.string (stV s))
 have e:=Mod.setCell (W.setCell ⟨a,0,none⟩ (.string (stV s))) a 1 (.bool (stB s))
 have m:Mod (fun g=> g=a) W ((W.setCell ⟨a,0,none⟩ (.string (stV s))).setCell ⟨a,1,none⟩ (.bool (stB s))):=d.trans e (fun _ _ q=> q) (fun _ _ q=> q)
 refine ⟨⟨m.nod h.nod (by omega),m.row h.its (fun g f=> by have:=n g f;omega),(m.block _ h.ch.lt (by omega)).trans h.ch,?_⟩,l.put _ _,b⟩
 exact (h.bel.setCell (p:=⟨a,0,none⟩) (Nat.le_of_lt b) _).setCell (p:=⟨a,1,none⟩) (Nat.le_of_lt b) _
set_option maxHeartbeats 1000000 in
set_option maxRecDepth 20000 in
theorem tChange_any (p:Nat) (l vp vc:Value) (il:List (ByteArray×ByteArray)) (k:Int) (key x:ByteArray) (w:World) (hn:NodT w p l vp vc) (hv:OwnsI 0 w l il) (hl:il.length≤2000000) (hr:Tr.Rising (plain il)) (b7:∀y∈il,y.2.size≤16) (hx:x.size≤16):
  Calls Tryz.prog 125 #[.pointer (some ⟨p,0,none⟩),.agg #[.int .i64 k,.string key,.string x]] w fun r w'=> r= .returned (.tuple #[])∧∃f K,ChgQ p l vp vc w (Tr.putK (plain il) key.data.toList (Tr.after (Tr.look (plain il) key.data.toList) (chP k key x))) f K w':=by
 have T:=hid (cut_parted il key hr)
 have b8:=hid (look_cut T.out hr)
 have b9:((Tr.look (plain il) key.data.toList).getD []).length≤16:=by rw [b8.out];exact headVal_len b7
 have L:=(Below.refl w.heap.size w).alloc (Nat.le_refl _) (.cells #[.int .i64 k,.string key,.string x] 34)
 have M:Hid (CM w p l vp vc il k key x (w.alloc (.cells #[.int .i64 k,.string key,.string x] 34))):=⟨(L.block p hn.lt).trans hn,row_below hv L (Nat.le_refl _),heap_alloc_new _ _,L⟩
 have U:=hid hn.lt
 have V:Hid (∀g,l.ownBlock=some g→g < w.heap.size):=fun g hg=> (World.ownsRow.lt hv g hg).2
 have G:=hid (nod_row hn hv (by decide))
 have HF:=hid (findItem_any p 0 l vp vc il key _ M.out.nod M.out.its (by omega) hr)
 have HS:Hid (∀W,CM w p l vp vc il k key x W→Calls Tryz.prog 78 #[.pointer (some ⟨p,0,none⟩),.string key] W fun r w'=> r= .returned (.agg #[.string (stV (Tr.look (plain il) key.data.toList)),.bool (stB (Tr.look (plain il) key.data.toList))])∧Below W.heap.size W w'):=fun W hW=> stateOf_any p 0 l vp vc il key W hW.nod hW.its (by omega) hr
 have HA:Hid (∀W,Calls Tryz.prog 70 #[.agg #[.string (stV (Tr.look (plain il) key.data.toList)),.bool (stB (Tr.look (plain il) key.data.toList))],.agg #[.int .i64 k,.string key,.string x]] W fun r w'=> r= .returned (.agg #[.string (stV (Tr.after (Tr.look (plain il) key.data.toList) (chP k key x))),.bool (stB (Tr.after (Tr.look (plain il) key.data.toList) (chP k key x)))])∧Below W.heap.size W w'):=fun W=> after_any _ k key x W (by omega) (by omega)
 clear hn hv b7 hr b9 L
 go_enter Tryz.func125,Tryz.ntmps125
 go_wp2_with fail
 refine HF.out.mono ?_
 clear HF
 generalize w.alloc (.cells #[.int .i64 k,.string key,.string x] 34)=w1 at*
 rintro r w2 ⟨rfl,b4⟩
 have u:=hid (M.out.below b4)
 clear b4 M
 obtain ⟨c0,c1,c2⟩:=u.out.ch.cells
 have a4:w.heap.size < w2.heap.size:=u.out.ch.lt
 generalize b6:Tr.after (Tr.look (plain il) key.data.toList) (chP k key x)=s' at*
 have N:=hid b6
 clear b6
 go_upto_region 2 with fail
 go_cut [4,5,6] (fun v4 v5 v6 wx=> v4= .int .i64 ((cutA il key).length:Nat)∧v5= .bool (headIs (cutC il key) key)∧∃sb,v6= .pointer (some ⟨sb,0,none⟩)∧CS w p l vp vc il k key x s' sb wx)
 case first=>
  go_region_law (first
   | (go_simp;go_at_call 78;refine (HS.out _ (by first | exact u.out.drew | exact u.out.drew.alloc _)).mono ?_;rintro r w3 ⟨rfl,a2⟩;have I:Hid (CM w p l vp vc il k key x w3):=(by first | exact u.out.drew.below a2 | exact (u.out.drew.alloc _).below a2);obtain ⟨d0,d1,d2⟩:=I.out.ch.cells;have d9:w.heap.size < w3.heap.size:=I.out.ch.lt;first | (have c3:StB w3 w2.heap.size ⟨#[]⟩ false:=st_new (W:=w2.drew) a2) | skip)
   | (go_simp;go_at_call 70;refine (HA.out _).mono ?_;rintro r w4 ⟨rfl,Q⟩;have X:Hid (CM w p l vp vc il k key x w4):=(by first | exact I.out.below Q | exact (I.out.alloc _).below Q);first | (have m:StB w4 w3.heap.size ⟨#[]⟩ false:=st_new (W:=w3) Q;have z0:=m.cells.1;have z1:=m.cells.2.1;have f0:=m.cells.2.2.1;have f1:=m.cells.2.2.2) | (have m:StB w4 w2.heap.size ⟨#[]⟩ false:=StB.keep c3 Q;have z0:=m.cells.1;have z1:=m.cells.2.1;have f0:=m.cells.2.2.1;have f1:=m.cells.2.2.2) | skip))
  all_goals
   go_wp2_with fail
   go_meet
   first
    | exact ⟨rfl,rfl,_,rfl,cs_late X.out⟩
    | exact ⟨rfl,rfl,_,rfl,cs_early X.out m I.out.ch.lt U.out V.out⟩
    | exact ⟨rfl,rfl,_,rfl,cs_early X.out m u.out.ch.lt U.out V.out⟩
 case rest=>
  obtain ⟨rfl,rfl,sb,rfl,z⟩:=hcut
  clear HS HA c0 c1 c2 a4 u
  have d:=hid z
  obtain ⟨t0,t1,f0,f1⟩:=z.st.cells
  obtain ⟨n0,n1,n2,q0,q1,q2⟩:=z.cm.nod.cells
  obtain ⟨c0,c1,c2⟩:=z.cm.ch.cells
  have j:=T.out.e
  have a5:Hid (Mod (fun g=> g=p∨l.ownBlock=some g) w wc.drew):=Mod.of_below z.cm.bel.drew
  have a6:Hid (Mod (fun g=> g=p∨l.ownBlock=some g) w wc):=Mod.of_below z.cm.bel
  have c4:=hid z.cm.bel.size
  clear z T
  generalize hA:cutA il key=A at*
  generalize hC:cutC il key=C at*
  have a7:=hid (congrArg List.length j)
  cases hh:headIs C key with
  | true=>
   obtain ⟨y,D,rfl,hy⟩:∃y D,C=y::D∧y.1.data.toList=key.data.toList:=by
    cases C with
    | nil=> cases hh
    | cons y D=> exact ⟨y,D,rfl,of_decide_eq_true hh⟩
   have O:=hid (fun o=> put_yes hA hC hy o)
   have B:A.length < il.length:=by have:=a7.out;rw [List.length_append,List.length_cons] at this;omega
   obtain ⟨g,J,e,hc,-,hg,d0,d1⟩:=d.out.cm.its.at A.length B
   have Y:il[A.length]'B=y:=by
    have:il[A.length]?=some y:=by rw [j];simp
    rw [List.getElem?_eq_getElem B] at this
    exact Option.some.inj this
   clear hA hC
   cases s' with
   | some v=>
    subst e
    have fr:wc.frozen? ⟨g,A.length*2+1,none⟩=false:=by
     rcases d.out.cm.its.2 with ⟨h0,_⟩ | ⟨S,e0,e9,e',_,i,_⟩
     ·simp at h0
     ·simp only [Value.slice.injEq,Option.some.injEq,Addr.mk.injEq,and_true,true_and] at e'
      obtain ⟨rfl,rfl⟩:=e'
      simp [World.frozen?,i]
    have s:Hid (∃f K,ChgQ p (.slice (some ⟨g,0,none⟩) il.length J) vp vc w (Tr.putK (plain il) key.data.toList (some v)) f K (wc.drew.setCell ⟨g,A.length*2+1,none⟩ (.string (stV (some v))))):=by
     have a8:=ownsI_set (w:=wc.drew) d.out.cm.its A.length B (stV (some v))
     have m1:=Mod.setCell wc.drew g (A.length*2+1) (.string (stV (some v)))
     have c5:g≠p:=fun q=> G.out (by rw [←q];rfl)
     refine ⟨_,_,⟨m1.nod d.out.cm.nod (fun q=> c5 q.symm),a8,?_,a5.out.trans m1 (fun _ _ q=> q) (fun k _ q=> .inr (by rw [q];rfl)),fun S i=> .inl i⟩⟩
     rw [O.out,Y]
     have e2:il.set A.length (y.1,stV (some v))=A++(y.1,stV (some v))::D:=by
      rw [j,List.set_append,if_neg (Nat.lt_irrefl _),Nat.sub_self,List.set_cons_zero]
     rw [e2,plain_app]
     show plain A++((y.1.data.toList,(stV (some v)).data.toList)::plain D)=_
     rw [hy];rfl
    have hb:A.length≤J:=by omega
    clear Y j O
    go_upto_region 4 with fail
    go_region_law (fail)
    all_goals
     go_wp2_with fail
     go_end0
     exact ⟨rfl,by rw [N.out];exact s.out⟩
   | none=>
    subst e
    have a9:=hid (deleteI_any (.slice (some ⟨g,0,none⟩) il.length J) il A.length wc B d.out.cm.its (by omega))
    have c6:Hid (plain (il.take A.length++il.drop (A.length+1))=Tr.putK (plain il) key.data.toList none):=by
     show _=_
     rw [O.out,plain_app]
     congr 1
     ·rw [j,List.take_left]
     ·rw [j,show A.length+1=(A++[y]).length by simp,show A++y::D=(A++[y])++D by simp,List.drop_left];rfl
    have e1:IntKind.i64.wrap ((A.length:Int)+1)=(A.length:Int)+1:=by rw [IntKind.wrap_i64];omega
    clear Y j O
    go_wp2_with fail
    refine a9.out.mono ?_
    rintro r R ⟨f,rfl,ho,b5,a3⟩
    obtain ⟨va,vn,t,b3⟩:∃a n c,f=Value.slice a n c:=by obtain ⟨a,c,e⟩:=rowShape ho;exact ⟨a,_,c,e⟩
    have m5:=Mod.of_grown b5
    have Z:=m5.nod d.out.cm.nod G.out
    obtain ⟨d4,d5,d6,d7,e7,e8⟩:=Z.cells
    have s:Hid (∃vo lo,ChgQ p (.slice (some ⟨g,0,none⟩) il.length J) vp vc w (Tr.putK (plain il) key.data.toList none) vo lo (R.setCell ⟨p,0,none⟩ f)):=by
     have a0:f.ownBlock≠some p:=fun q=> G.out (by rw [←a3];exact q)
     have m6:=Mod.setCell R p 0 f
     refine ⟨f,_,⟨Z.seti f,m6.row ho (fun S i q=> a0 (by rw [←q];exact i)),c6.out,(a6.out.trans m5 (H:=fun S=> S=p∨(Value.slice (some ⟨g,0,none⟩) il.length J).ownBlock=some S) (fun _ _ q=> q) (fun k _ q=> .inr q)).trans m6 (fun _ _ q=> q) (fun k _ q=> .inl q),fun S i=> .inl (by rw [←a3];exact i)⟩⟩
    clear ho b5 a3 m5 Z n0 n1 n2 q0 q1 q2 a9
    subst b3
    go_wp2_with fail
    go_end0
    exact ⟨rfl,by rw [N.out];exact s.out⟩
  | false=>
   have P:=hid (fun o=> put_no hA hC hh o)
   clear hA hC
   have B:A.length≤il.length:=by have:=a7.out;rw [List.length_append] at this;omega
   cases s' with
   | some v=>
    have c7:Hid (∀R:World,R.heap[wc.heap.size]?=some (.cells #[.string key,.string (stV (some v))] 51 (0,0))→OwnsI 0 R l il→Calls Tryz.prog 171 #[l,.int .i64 (A.length:Nat),.slice (some ⟨wc.heap.size,0,none⟩) 1 1] R fun r w'=>∃v',r= .returned v'∧InsQ l (insI il A.length (key,stV (some v))) R v' w'):=fun R h5 d8=> insertI_any l il A.length (key,stV (some v)) wc.heap.size R B d8 (by omega) h5 (fun q=> by have:=V.out _ q;have:=c4.out;omega)
    have a1:=hid ((Below.refl wc.drew.heap.size wc.drew).alloc (Nat.le_refl _) (.cells #[.string key,.string (stV (some v))] 51))
    have c8:Hid (OwnsI 0 (wc.drew.alloc (.cells #[.string key,.string (stV (some v))] 51)) l il):=row_below (w:=wc.drew) d.out.cm.its a1.out (Nat.le_refl _)
    have c9:Hid (NodT (wc.drew.alloc (.cells #[.string key,.string (stV (some v))] 51)) p l vp vc):=(a1.out.block p d.out.cm.nod.lt).trans d.out.cm.nod
    have b0:Hid (Mod (fun g=> g=p∨l.ownBlock=some g) w (wc.drew.alloc (.cells #[.string key,.string (stV (some v))] 51))):=a5.out.trans (Mod.of_below (F:=fun _=> False) a1.out) (fun _ _ q=> q) (fun _ _ q=> q.elim)
    have d3:Hid (plain (insI il A.length (key,stV (some v)))=Tr.putK (plain il) key.data.toList (some v)):=by
     show _=_
     rw [P.out]
     unfold insI
     rw [plain_app]
     congr 1
     ·rw [j,List.take_left]
     ·have:il.drop A.length=C:=by rw [j,List.drop_left]
      rw [this];rfl
    clear j P
    have e3:p < wc.heap.size:=d.out.cm.nod.lt
    have e4:w.heap.size < wc.heap.size:=d.out.cm.ch.lt
    have e5:sb < wc.heap.size:=d.out.st.lt
    go_upto_region 8 with fail
    go_region_law (go_simp;go_at_call 171;refine (c7.out _ (heap_alloc_new wc.drew _) c8.out).mono ?_;rintro r w6 ⟨f,rfl,hq⟩;obtain ⟨va,vn,t,rfl⟩:=shape3 hq.o;have m6:=Mod.of_grown hq.g;have E:=m6.nod c9.out G.out;have d4:=E.cells.1;have d5:=E.cells.2.1;have d6:=E.cells.2.2.1;have d7:=E.cells.2.2.2.1;have HQ:=hid hq;have b1:=hid E;have b2:=hid (b0.out.trans m6 (H:=fun g=> g=p∨l.ownBlock=some g) (fun _ _ q=> q) (fun k _ q=> .inr q));clear hq m6 E)
    all_goals
     have s:Hid (∃vo lo,ChgQ p l vp vc w (Tr.putK (plain il) key.data.toList (some v)) vo lo (w6.setCell ⟨p,0,none⟩ (Value.slice va vn t))):=by
      have e6:w.heap.size≤(wc.drew.alloc (.cells #[.string key,.string (stV (some v))] 51)).heap.size:=b0.out.size
      have a0:(Value.slice va vn t).ownBlock≠some p:=fun q=> by
       rcases HQ.out.b with h | ⟨k,hk,h⟩
       ·exact G.out (by rw [←h];exact q)
       ·rw [h] at q;have:=Option.some.inj q;have:=U.out;omega
      have m7:=Mod.setCell w6 p 0 (Value.slice va vn t)
      refine ⟨(Value.slice va vn t),_,⟨b1.out.seti (Value.slice va vn t),m7.row HQ.out.o (fun S i q=> a0 (by rw [←q];exact i)),d3.out,b2.out.trans m7 (fun _ _ q=> q) (fun k _ q=> .inl q),fun S i=> ?_⟩⟩
      rcases HQ.out.b with h | ⟨k,hk,h⟩
      ·exact .inl (by rw [←h];exact i)
      ·rw [h] at i;exact .inr (by have:=Option.some.inj i;omega)
     clear HQ b1 b2
     go_wp2_with fail
     go_end0
     exact ⟨rfl,by rw [N.out];exact s.out⟩
   | none=>
    have s:Hid (∃f K,ChgQ p l vp vc w (Tr.putK (plain il) key.data.toList none) f K wc):=⟨l,il,d.out.cm.nod,d.out.cm.its,by rw [P.out];show plain il=plain A++plain C;rw [←plain_app,←j],a6.out,fun _ q=> .inl q⟩
    clear j P
    go_wp2_with fail
    go_end0
    exact ⟨rfl,by rw [N.out];exact s.out⟩
end Go.Proofs.YtolgpnaoaodepaaGreat
namespace Go.Proofs.YtolgpnaoaodepaaGreat
open Go.RowKit
theorem wpApAt (w:World) {l:Array Oper} {rest:List Oper} {o:Oper} {a:Act} {Q:Exit→Act→World→Prop} (y:o.guard=none) (A x:Operand) (t e:TypeId) (J:Tryz.prog.underlying t=some (.slice e))
  (z:Value) (size b:Nat) (f:(Tryz.prog.info? e).map (fun i=> (i.zero,i.size,i.bytes))=some (some z,size,b)) (C:z.cells.size=size) (D:0 < size) (E:b≤1000)
  (K:o.op=Op.call {callee:=Callee.builtin Builtin.append,args:= #[A,x],argTypes:= #[t,t]}) (B:Nat) (v:Value) (n:Nat) (xs:List Value) (L:a.eval A=v) (p:w.ownsRow B e size v n xs)
  (F:Addr) (m c:Nat) (d:List Value) (M:a.eval x= .slice (some F) m c) (N:d.length=m*size) (g:∀j u,d[j]?=some u→w.cell? (F.add j)=some u) (O:∀u∈d,u.oneCell'=true) (P:n+m≤1000000000) (R:B≤w.heap.size)
  (h:∀(k:Value) (w':World),w'.ownsRow B e size k (n+m) (xs++d)→w.grownBy w' v.ownBlock→(k.ownBlock=v.ownBlock∨k.ownBlock=some w.heap.size)→wpList Tryz.prog l Q rest (a.put o.dst k) w'):wpList Tryz.prog l Q (o::rest) a w:=by
 obtain ⟨i,hi,q,r,s⟩:=info_parts f
 exact wpList_append_own_at w y A x t K B e i z size b J hi q r s C D v n xs L p F m c d M N g O (by unfold maxLen;omega) (by have:(n+m)*b≤1000000000*1000:=Nat.mul_le_mul P E;omega) R (fun k w' G H _ I=> h k w' G H I)
theorem info_part:(Tryz.prog.info? 132).map (fun i=> (i.zero,i.size,i.bytes))=some (some (.agg #[.string ⟨#[]⟩,.pointer none]),2,24):=by kernel_rfl
theorem one_pcells:∀(l:List (ByteArray×Nat)),∀v∈pcells l,v.oneCell'=true
 | [],v,h=> by cases h
 | x::r,v,h=> by
  have a:v∈[Value.string x.1,Value.pointer (some ⟨x.2,0,none⟩)]++pcells r:=h
  rcases List.mem_append.1 a with h | h
  ·simp at h;rcases h with rfl | rfl <;> rfl
  ·exact one_pcells r v h
theorem row_empty (w:World) (e:TypeId) (size:Nat):(w.alloc (.cells #[] e)).ownsRow w.heap.size e size (.slice (some ⟨w.heap.size,0,none⟩) 0 0) 0 []:=
 ⟨by simp,.inr ⟨w.heap.size,0,#[],rfl,Nat.le_refl _,heap_alloc_new _ _,Nat.le_refl _,Nat.zero_le _,by simp,by simp⟩⟩
set_option maxHeartbeats 400000 in
set_option maxRecDepth 20000 in
theorem cloneI_any (b:Addr) (n c:Nat) (l:List (ByteArray×ByteArray)) (w:World) (A:l.length=n) (B:n≤20000000) (q:∀j u,(icells l)[j]?=some u→w.cell? (b.add j)=some u) (i:b.block < w.heap.size):
  Calls Tryz.prog 230 #[.slice (some b) n c] w fun r w'=>∃v,r= .returned v∧OwnsI w.heap.size w' v l∧Below w.heap.size w w':=by
 subst A
 have m:∀W,(binOp BinOp.eql 30 (.slice (some b) l.length c) (.slice none 0 0)).run Tryz.prog W= .ok (.bool false) W:=fun W=> Lib.run_eql_slice_some_nil W _ _ _ Tryz.underlying30
 have a:=hid ((Below.refl w.heap.size w).alloc (Nat.le_refl _) (.cells #[] 51))
 have f:=hid (row_empty w 51 2)
 have g:Hid (∀j u,(icells l)[j]?=some u→(w.alloc (.cells #[] 51)).cell? (b.add j)=some u):=fun j u y=> (a.out.cell (p:=b.add j) (by rw [show (b.add j).block=b.block by unfold Addr.add;split <;> rfl];exact i)).trans (q j u y)
 have s:Hid (w.heap.size≤(w.alloc (.cells #[] 51)).heap.size):=a.out.size
 have t:Hid ((icells l).length=l.length*2):=icells_len2 l
 clear q
 go_enter Tryz.func230,Tryz.ntmps230
 go_wp2_with (at_builtin;refine wpApAt _ rfl (.tmp 5) (.tmp 6) 30 51 Tryz.underlying30 _ 2 32 info_item rfl (by decide) (by decide) rfl w.heap.size (.slice (some ⟨w.heap.size,0,none⟩) 0 0) 0 [] rfl f.out b l.length c (icells l) rfl t.out g.out (one_icells l) (by omega) s.out ?_;intro v1 o d e h)
 have x:Hid (OwnsI w.heap.size o v1 l∧Below w.heap.size w o):=by
  refine ⟨?_,a.out.grown e a.out.size (fun k z=> by cases z;exact Nat.le_refl _)⟩
  unfold OwnsI
  simpa using d
 clear d e h
 go_ret
 exact ⟨v1,rfl,x.out⟩
end Go.Proofs.YtolgpnaoaodepaaGreat
