import Derived.Test.YtolgpnaoaodepaaGreatKimFm
import Derived.Test.YtolgpnaoaodepaaGreatSilEm
import Derived.Lib.QuietBelow
import Derived.Deep.DeepCutAuto
import Derived.Deep.RegionHeld3
namespace Go.Proofs.YtolgpnaoaodepaaGreat
open Go.RowKit
def IsInts (w:World) (v:Value) (l:List Int):Prop:=∃a cap,v= .slice a l.length cap∧l.length≤1000000000000000000∧(∀x∈l,-9223372036854775808≤x∧x≤9223372036854775807)∧(l.length=0∨∃b off,a=some ⟨b,off,none⟩∧b < w.heap.size∧∀i (h:i < l.length),w.cell? ⟨b,off+i,none⟩=some (.int .i64 (l[i]'h)))
theorem IsInts.at {w:World} {a:Option Addr} {f:Nat} {l:List Int} (h:IsInts w (.slice a l.length f) l) (i:Nat) (hi:i < l.length):∃b c,a=some ⟨b,c,none⟩∧b < w.heap.size∧w.cell? ⟨b,c+i,none⟩=some (.int .i64 (l[i]'hi))∧-9223372036854775808≤l[i]'hi∧l[i]'hi≤9223372036854775807:=by
 obtain ⟨o,g,k,p,m,j⟩:=h
 injection k with e1 e2 e3
 subst e1 e3
 rcases j with j | ⟨b,c,e,d,n⟩
 ·omega
 ·exact ⟨b,c,e,d,n i hi,m _ (List.getElem_mem hi)⟩
theorem plain_inj {a b:List (ByteArray×ByteArray)} (h:plain a=plain b):a=b:=by
 unfold plain at h
 refine List.map_inj_right ?_ |>.1 h
 rintro ⟨c,d⟩ ⟨f,g⟩ e
 simp only [Prod.mk.injEq] at e
 rw [←mk_data c,←mk_data d,←mk_data f,←mk_data g,e.1,e.2]
end Go.Proofs.YtolgpnaoaodepaaGreat
namespace Go.Proofs.YtolgpnaoaodepaaGreat
open Go.RowKit
theorem rb_zero (L:Nat):(Ld.rbOf L []).map rnV=(List.replicate L (0:Int)).map (.int .i64):=by
 refine List.ext_getElem (by simp [Ld.rbOf_len]) fun i a b=> ?_
 simp [Ld.rbOf,rnV]
theorem eff_look {iml:List ByteArray} {H:Nat} {f:Ld.PT H} (d:Ld.Fits (pagesOf iml) H [] [] f) (k:Tr.Key):Tr.look (Tr.leafAll [] (Ld.eff (pagesOf iml) H f)) k=Tr.afterAll (Ld.eff (pagesOf iml) H f) k none:=
 Tr.leafAll_look (lo:=[]) (hi:=none) k _ ⟨List.Pairwise.nil,fun x a=> by cases a⟩ fun c b=> ⟨Tr.inR_all _,Ld.eff_ok (okPs_pages iml) H [] [] f d c b⟩
set_option maxHeartbeats 1000000 in
set_option maxRecDepth 20000 in
theorem kRight_any (J:Value) (iml:List ByteArray) (V:Tr.Key→Option Tr.Key) (N bh z:Nat) (v:Value) (il:List (ByteArray×ByteArray)) (w:World) (hv:OwnsS 0 w J iml) (l:ImgOf V N iml) (hN:N≤600000) (a5:bh < w.heap.size) (hc:w.cell? ⟨bh,z,none⟩=some v) (ho:OwnsI 0 w v il) (hr:Tr.Rising (plain il)) (a6:∀k,Tr.look (plain il) k=V k) (hl:il.length≤20000000):
  Calls Tryz.prog 18 #[J,.pointer (some ⟨bh,z,none⟩)] w fun r w'=> r= .returned (.bool true)∧Below w.heap.size w w':=by
 have L:iml.length≤1200000:=Nat.le_trans l.len (by omega)
 obtain ⟨H,f,U,t,X,B⟩:=l.right
 have m:(pagesOf iml).length=iml.length:=by unfold pagesOf;simp
 have h0:0 < iml.length:=by
  have:=fits_lt H [] [] f U 0 (by rw [←t];exact Ld.nums_ne f)
  rwa [m] at this
 have c:∀s∈iml,∃n,Pr.readR s.data.toList=some n:=fun s hs=> by
  obtain ⟨i,hi,rfl⟩:=List.getElem_of_mem hs
  obtain ⟨nd,C⟩:=l.right.all i (by rw [m];exact hi)
  rw [pagesOf_at hi] at C
  exact ⟨nd,Option.some.inj C⟩
 have M:Hid (∀a,Tr.Rising (plain a)→plain a=Tr.leafAll [] (Ld.eff (pagesOf iml) H f)→a=il):=fun a b3 e=> plain_inj (Tr.look_ext b3 hr fun k=> by rw [e,eff_look U,(l.all H f U t).2 k,a6])
 have O:Hid (∀n,n < iml.length→n∈Ld.nums H f):=fun n hn=> B n (by rw [m];exact hn)
 have R:=hid (kReads_any J iml w hv (by omega) c)
 have HO:=hid ho
 have HC:=hid hc
 have a7:=hid a5
 clear hv c B hr a6 l ho hc a5 m
 go_enter Tryz.func18,Tryz.ntmps18
 go_wp2_with fail
 refine R.out.mono ?_
 rintro r F ⟨vp,ps,rfl,I,hk⟩
 obtain ⟨Y,Z,e⟩:=rowShape hk.pg.row
 rw [I] at e
 subst e
 have a8:=hid I
 have HK:=hid hk
 clear I hk R
 go_wp2_with (at_make;refine wpMkN F rfl (.tmp 16) (.tmp 16) rfl iml.length (by simp [Act.eval]) (by simp [Act.eval]) (by omega) ?_;intro G y j)
 have o:Hid (KwI iml.length F G.heap.size (.slice Y iml.length Z) (.slice (some ⟨F.heap.size,0,none⟩) iml.length iml.length) [] (-1) (.slice none 0 0) [] (G.alloc (.cells #[.slice Y iml.length Z,.slice (some ⟨F.heap.size,0,none⟩) iml.length iml.length,.int .i64 (-1),.slice none 0 0] 62))):=by
  have S:Below G.heap.size G (G.alloc (.cells #[.slice Y iml.length Z,.slice (some ⟨F.heap.size,0,none⟩) iml.length iml.length,.int .i64 (-1),.slice none 0 0] 62)):=(Below.refl _ G).alloc (Nat.le_refl _) _
  refine ⟨j.trans (S.mono j.size),heap_alloc_new _ _,?_,⟨rfl,.inl ⟨rfl,rfl⟩⟩,⟨List.Pairwise.nil,fun x hx=> by cases hx⟩,j.size,⟨List.nodup_nil,fun n hn=> by cases hn⟩⟩
  rw [rb_zero]
  unfold OwnsZ at y
  rw [List.length_replicate] at y
  exact row_below y S (Nat.le_refl _)
 have b4:=hid j.size
 clear y j
 generalize G.alloc (.cells #[.slice Y iml.length Z,.slice (some ⟨F.heap.size,0,none⟩) iml.length iml.length,.int .i64 (-1),.slice none 0 0] 62)=w3 at*
 generalize G.heap.size=b at*
 have hp:=kPage_any iml L F b (.slice Y iml.length Z) (.slice (some ⟨F.heap.size,0,none⟩) iml.length iml.length) ps a8.out HK.out.pg H [] (-1) (.slice none 0 0) [] f 0 ⟨#[]⟩ ⟨#[]⟩ w3 o.out U (by simpa using X) (.inl (by decide)) (by simp) (Nat.zero_le _)
 rw [t] at hp
 have HP:=hid hp
 have b5:¬(iml.length:Int)=0:=by omega
 clear hp X t U
 go_wp2_with fail
 refine HP.out.mono ?_
 rintro r w4 ⟨rfl,a0,v',a,u,a3⟩
 have q:Hid (Below w.heap.size w w4):=below_mod2 (HK.out.bel.trans (o.out.bel.mono HK.out.bel.size)) a0 fun g hg=> Nat.le_trans HK.out.bel.size (o.out.kept hg)
 obtain rfl:=M.out a (plain_wf16 u.wf).1 a3
 have A:=hid u
 obtain ⟨l0,l1,l2,l3,f2,f3⟩:=u.wk.cells
 clear a0 a3 u HP M o
 go_wp2_with fail
 go_loopw [8,6] (fun vi v6 wr=>∃i:Nat,vi= .int .i64 (i:Nat)∧i≤iml.length∧v6= .bool true∧wr=w4) (fun vi _ _=> iml.length - (intOf vi).toNat)
 case atStart=> exact ⟨0,rfl,Nat.zero_le _,rfl,rfl⟩
 case round=>
  obtain ⟨i,rfl,hi,rfl,rfl⟩:=hrel
  by_cases a4:i < iml.length
  ·have b6:(0:Int)≤(i:Int):=by omega
   have a9:(i:Int) < (iml.length:Int):=by omega
   obtain ⟨gr,cr,er,b7,b8,r0,r1⟩:=reach_at A.out.re i a4
   simp only [Value.slice.injEq,Option.some.injEq,Addr.mk.injEq,true_and,and_true] at er
   obtain ⟨rfl,rfl⟩:=er
   rw [if_pos (by simpa using O.out i a4)] at r0
   go_wp2_with fail
   exact ⟨⟨i+1,by go_num,by omega,rfl,by trivial⟩,by simp [intOf];omega⟩
  ·have a9:¬(i:Int) < (iml.length:Int):=by omega
   have o1:OwnsI 0 wr v' a:=row_shrink A.out.it (Nat.zero_le _)
   have o2:OwnsI 0 wr v a:=row_below HO.out q.out (Nat.le_refl _)
   have c2:wr.cell? ⟨bh,z,none⟩=some v:=(q.out.cell (p:=⟨bh,z,none⟩) a7.out).trans HC.out
   have T:=fun (W:World) (hb:Below wr.heap.size wr W)=> kAlike_any v' v a W (row_below o1 hb (Nat.le_refl _)) (row_below o2 hb (Nat.le_refl _)) hl
   obtain ⟨a1,k1,rfl⟩:=rowShape o1
   obtain ⟨a2,k2,rfl⟩:=rowShape o2
   have g3:=fun (d:Nat) (os:Array Obj)=> cell_regrown l3 d os
   have g2:=fun (d:Nat) (os:Array Obj)=> cell_regrown c2 d os
   clear o1 o2
   go_upto_region 10 with fail
   refine wp_region_quiet_below (by kernel_rfl) (by kernel_rfl) ?_
   repeat (quiet_step (exact Calls.regrown_of (T _ (below_regrown _ _ _))))
   refine wpQuiet_nil ?_
   intro wx b2
   obtain ⟨⟨dq,b1⟩,D⟩:=b2
   have b0:Hid (Below wr.heap.size wr wx):=D▸below_regrown _ dq b1
   clear D g3 g2 T
   go_wp2_with fail
   go_ret
   exact ⟨rfl,q.out.trans (b0.out.mono q.out.size)⟩
end Go.Proofs.YtolgpnaoaodepaaGreat
namespace Go.Proofs.YtolgpnaoaodepaaGreat
open Go.RowKit
def HB (w:World) (b:Nat) (v:Value):Prop:=w.heap[b]?=some (.cells #[v] 32 (0,0))
theorem HB.lt {w:World} {b:Nat} {v:Value} (h:HB w b v):b < w.heap.size:=(Array.getElem?_eq_some_iff.1 h).1
theorem HB.cells {w:World} {b:Nat} {v:Value} (h:HB w b v):w.cell? ⟨b,0,none⟩=some v∧w.frozen? ⟨b,0,none⟩=false:=by
 unfold HB at h
 refine ⟨?_,?_⟩ <;> simp [World.cell?,World.frozen?,h]
structure ImS (w0:World) (V:Tr.Key→Option Tr.Key) (N x b:Nat) (F:List Nat) (bh:Nat) (v:Value) (il:List (ByteArray×ByteArray)) (W:World):Prop where
 kt:KT V N x b F w0 W
 hd:HB W bh v
 it:OwnsI w0.heap.size W v il
 lob:w0.heap.size≤bh
 wf:Tr.WF 0 [] none (plain il)
 lk:∀k,Tr.look (plain il) k=V k
 len:il.length < N
 dis:bh∉x::b::F∧∀g,v.ownBlock=some g→g∉x::b::F
theorem ImS.below {w0:World} {V:Tr.Key→Option Tr.Key} {N x b:Nat} {F:List Nat} {a:Nat} {v:Value} {il:List (ByteArray×ByteArray)} {W W':World} (h:ImS w0 V N x b F a v il W) (c:Below W.heap.size W W'):ImS w0 V N x b F a v il W':=
 ⟨h.kt.below c,(c.block a h.hd.lt).trans h.hd,row_below h.it c (Nat.le_refl _),h.lob,h.wf,h.lk,h.len,h.dis⟩
theorem ok_isChange {k:Int} {key x:ByteArray} (a:Tr.okCh (chP k key x)):Pg.isChange k key.size x.size=true:=by
 unfold Tr.okCh Pg.okChange chP at a
 rw [←len_size key,←len_size x];exact a
theorem ImS.made {w0:World} {V:Tr.Key→Option Tr.Key} {N x b:Nat} {F:List Nat} {c:Nat} {v:Value} {il:List (ByteArray×ByteArray)} {W i:World} (h:ImS w0 V N x b F c v il W) {k:Int} {key o:ByteArray} (t:Tr.okCh (chP k key o)) {r:Ending} (p:SmQ V N x b F k key o W r i):r= .returned (.int .i64 0)∧∃l,KT (fun s=> Tr.one s (V s) (chP k key o)) (N+1) x b l w0 i∧HB i c v∧OwnsI w0.heap.size i v il∧Mod (fun g=> g∈b::F) W i∧c∉x::b::l:=by
 have d:=p.2.2
 obtain ⟨A,-,u⟩:=d
 obtain ⟨e,l,y,m⟩:=h.kt.make (ok_isChange t) p
 obtain ⟨B,n,F',f,d⟩:=p
 refine ⟨e,?_⟩
 rw [ok_isChange t] at f
 have j:c∉x::b::F':=fun q=> by
  rcases List.mem_cons.1 q with q | q
  ·exact h.dis.1 (by rw [q];exact List.mem_cons_self ..)
  ·rcases d.2 c q with z | z
   ·exact h.dis.1 (List.mem_cons_of_mem _ z)
   ·have:=h.hd.lt;omega
 refine ⟨F',⟨n,f,fun g a=> ?_,fun q=> ?_,y.bel⟩,(m.block c h.hd.lt fun q=> h.dis.1 (List.mem_cons_of_mem _ q)).trans h.hd,m.row h.it fun g a q=> h.dis.2 g a (List.mem_cons_of_mem _ q),m,j⟩
 ·rcases List.mem_cons.1 a with q | a
  ·rw [q];exact h.kt.new x (by simp)
  ·rcases d.2 g a with q | q
   ·exact h.kt.new g (List.mem_cons_of_mem _ q)
   ·exact Nat.le_trans h.kt.bel.size q
 ·rcases d.2 x q with z | z
  ·exact h.kt.nx z
  ·have:=h.kt.st.lt;omega
theorem look_leaf1 {il:List (ByteArray×ByteArray)} {c:Tr.Ch} (b:Tr.WF 0 [] none (plain il)) (f:Tr.okCh c) (k:Tr.Key):Tr.look (Tr.leaf1 (plain il) c) k=Tr.one k (Tr.look (plain il) k) c:=
 Tr.leafAll_look (lo:=[]) (hi:=none) k [c] b fun d a=> by rw [List.mem_singleton.1 a];exact ⟨Tr.inR_all _,f⟩
theorem len_leaf1 {il a:List (ByteArray×ByteArray)} {c:Tr.Ch} (e:plain a=Tr.leaf1 (plain il) c):a.length≤il.length+1:=by
 have b:=Tr.leafAll_len [c] (plain il)
 have d:=congrArg List.length e
 rw [plain_len] at d b
 rw [d]
 exact b
theorem ImS.makes {w0:World} {V V':Tr.Key→Option Tr.Key} {N x b:Nat} {y:List Nat} {a:Nat} {v:Value} {il:List (ByteArray×ByteArray)} {s H:World} {k:Int} {key I:ByteArray} (U:∀A,V' A=Tr.one A (V A) (chP k key I)) (c:KT V' (N+1) x b y w0 s) (o:HB s a v) (j:w0.heap.size≤a) (z:Tr.WF 0 [] none (plain il)) (J:∀k,Tr.look (plain il) k=V k) (R:il.length < N) (l:a∉x::b::y) (S:Tr.okCh (chP k key I)) {r:Ending} (W:KmQ s a 0 il k key I r H):r= .returned (.tuple #[])∧Mod (fun g=> g=a) s H∧∃v2 n,ImS w0 V' (N+1) x b y a v2 n H:=by
 obtain ⟨e,M,v2,n,rfl,D,O,G⟩:=W
 have m:=Mod.setCell M a 0 v2
 have f:=c.below D
 have B:HB M a v:=(D.block a o.lt).trans o
 have t:∀g,v2.ownBlock=some g→s.heap.size≤g:=fun g d=> (World.ownsRow.lt O g d).1
 have u:∀g∈x::b::y,g≠a:=fun g d q=> l (by rw [←q];exact d)
 have C:∀g∈x::b::y,g < s.heap.size:=fun g d=> by
  rcases List.mem_cons.1 d with q | q
  ·rw [q];exact c.st.lt
  ·exact c.tr.lt g q
 refine ⟨e,(Mod.of_below (F:=fun g=> g=a) D).trans m (fun _ _ q=> q) (fun _ _ q=> q),v2,n,⟨(m.block x f.st.lt (u x (by simp))).trans f.st,f.tr.keep fun g d=> m.block g (f.tr.lt g d) (u g (List.mem_cons_of_mem _ d)),c.new,c.nx,f.bel.setCell (p:=⟨a,0,none⟩) j _⟩,?_,?_,j,?_,fun A=> ?_,?_,l,fun g d q=> ?_⟩
 ·unfold HB at*
  rw [heap_setCell_at (i:=0) B];rfl
 ·exact row_shrink (m.row O fun g d q=> by
   have L:=t g d
   have T:=o.lt
   rw [show g=a from q] at L
   omega) c.bel.size
 ·rw [G];exact Tr.leaf1_wf z ⟨Tr.inR_all _,S⟩
 ·rw [G,look_leaf1 z S,J,U]
 ·have:=len_leaf1 G;omega
 ·have L:=t g d
  have T:=C g q
  omega
theorem ImS.turn {w0:World} {V V':Tr.Key→Option Tr.Key} {N x b c a:Nat} {F F':List Nat} {i:Nat} {v:Value} {il:List (ByteArray×ByteArray)} {W W':World} (h:ImS w0 V N x b F i v il W) (n:Below W.heap.size W W') (o:ST W' c a) (p:TreM V' N a F' W') (j:∀g∈c::a::F',W.heap.size≤g) (r:c∉a::F') (s:∀k,V' k=V k):ImS w0 V' N c a F' i v il W':=by
 have d:=h.below n
 refine ⟨⟨o,p,fun g f=> Nat.le_trans h.kt.bel.size (j g f),r,d.kt.bel⟩,d.hd,d.it,h.lob,h.wf,fun k=> by rw [h.lk,s],h.len,fun q=> ?_,fun g f q=> ?_⟩
 ·have l:=j i q
  have m:=h.hd.lt
  omega
 ·have l:=j g q
  have m:=(World.ownsRow.lt h.it g f).2
  omega
theorem look_snoc {k:Tr.Key} {x:Tr.It}:∀{l:List Tr.It},Tr.Rising (l++[x])→Tr.look (l++[x]) k=if x.1=k then some x.2 else Tr.look l k
 | [],_=> rfl
 | y::l,h=> by
  have b:=List.pairwise_cons.1 h
  show (if y.1=k then some y.2 else Tr.look (l++[x]) k)=_
  rw [look_snoc (l:=l) b.2]
  have a:y.1 < x.1:=b.1 x (by simp)
  by_cases e:y.1=k
  ·have c:¬x.1=k:=fun q=> by rw [e,q] at a;exact Tr.lt_ir _ a
   rw [if_pos e,if_neg c]
   show _=if y.1=k then some y.2 else Tr.look l k
   rw [if_pos e]
  ·rw [if_neg e]
   show _=if x.1=k then some x.2 else (if y.1=k then some y.2 else Tr.look l k)
   rw [if_neg e]
end Go.Proofs.YtolgpnaoaodepaaGreat
namespace Go.Proofs.YtolgpnaoaodepaaGreat
open Go.RowKit
theorem wrap_in (z:Int): -9223372036854775808≤IntKind.i64.wrap z∧IntKind.i64.wrap z≤9223372036854775807:=by rw [IntKind.wrap_i64];omega
theorem tdiv_in {c:Int} (b: -9223372036854775808≤c) (d:c≤9223372036854775807): -9223372036854775808≤c.tdiv 3∧c.tdiv 3≤9223372036854775807:=by
 by_cases a:0≤c
 ·rw [Int.tdiv_eq_ediv_of_nonneg a];omega
 ·have e:c.tdiv 3= -((-c).tdiv 3):=by rw [Int.neg_tdiv];omega
  rw [e,Int.tdiv_eq_ediv_of_nonneg (by omega)];omega
theorem IsInts.at3 {w:World} {a:Option Addr} {d:Nat} {l:List Int} (h:IsInts w (.slice a l.length d) l) (i:Nat) (hi:i+2 < l.length):∃b c x y z,a=some ⟨b,c,none⟩∧b < w.heap.size∧w.cell? ⟨b,c+i,none⟩=some (.int .i64 x)∧w.cell? ⟨b,c+(i+1),none⟩=some (.int .i64 y)∧w.cell? ⟨b,c+(i+2),none⟩=some (.int .i64 z)∧(-9223372036854775808≤x∧x≤9223372036854775807)∧(-9223372036854775808≤y∧y≤9223372036854775807)∧(-9223372036854775808≤z∧z≤9223372036854775807):=by
 obtain ⟨b,c,rfl,m,n,o⟩:=h.at i (by omega)
 obtain ⟨t,f,g,-,p,q⟩:=h.at (i+1) (by omega)
 obtain ⟨u,j,k,-,r,s⟩:=h.at (i+2) hi
 simp only [Option.some.injEq,Addr.mk.injEq,and_true] at g k
 obtain ⟨rfl,rfl⟩:=g
 obtain ⟨rfl,rfl⟩:=k
 exact ⟨b,c,_,_,_,rfl,m,n,p,r,o,q,s⟩
theorem chg_kept {w w':World} {o:Obj} (h:Below (w.alloc o).heap.size (w.alloc o) w'):w'.heap[w.heap.size]?=(w.alloc o).heap[w.heap.size]?:=h.block _ (by simp)
set_option maxHeartbeats 1000000 in
set_option maxRecDepth 20000 in
theorem imaged_any (vl:Value) (l:List Int) (wh:Int) (w:World) (hv:IsInts w vl l) (hl:l.length≤1048576):
  Calls Tryz.prog 7 #[vl,.int .i64 wh] w fun r w'=> r= .returned (.bool true)∧Below w.heap.size w w':=by
 have HV:=hid hv
 obtain ⟨va,vc,rfl,-⟩:=hv
 go_enter Tryz.func7,Tryz.ntmps7
 go_wp2_with fail
 refine (first_any w).mono ?_
 rintro r w1 ⟨rfl,j8⟩
 have c6:=hid j8
 clear j8
 go_wp2_with fail
 refine (sNew_any w1).mono ?_
 rintro r w2 ⟨x,b,F,rfl,f7,f8,e0,hx,j9⟩
 have H0:Hid (ImS w (fun _=> none) 1 x b F w2.heap.size (.slice none 0 0) [] (w2.alloc (.cells #[.slice none 0 0] 32))):=by
  have k5:Below w2.heap.size w2 (w2.alloc (.cells #[.slice none 0 0] 32)):=(Below.refl _ w2).alloc (Nat.le_refl _) _
  have hk:KT (fun _=> none) 1 x b F w w2:=⟨f7,f8,fun g hg=> Nat.le_trans c6.out.size (e0 g hg),hx,c6.out.trans (j9.mono c6.out.size)⟩
  refine ⟨hk.below k5,heap_alloc_new _ _,⟨rfl,.inl ⟨rfl,rfl⟩⟩,hk.bel.size,⟨List.Pairwise.nil,fun x hx=> by cases hx⟩,fun _=> rfl,Nat.zero_lt_one,fun q=> ?_,fun g hg=> by cases hg⟩
  rcases List.mem_cons.1 q with q | q
  ·have:=f7.lt;omega
  ·have:=f8.lt _ q;omega
 clear f7 f8 e0 hx j9 c6
 go_wp2_with fail
 generalize w2.alloc (.cells #[.slice none 0 0] 32)=w3 at*
 generalize w2.heap.size=bh at*
 go_loopw [8,6,5] (fun vi v6 _ wr=>∃(i:Nat) (V:Tr.Key→Option Tr.Key) (N x b:Nat) (F:List Nat) (v:Value) (il:List (ByteArray×ByteArray)),vi= .int .i64 (i:Nat)∧v6= .pointer (some ⟨x,0,none⟩)∧i≤l.length+2∧3*N≤i+3∧ImS w V N x b F bh v il wr) (fun vi _ _ _=> l.length+3 - (intOf vi).toNat)
 case atStart=> exact ⟨0,_,1,x,b,F,_,[],rfl,rfl,Nat.zero_le _,Nat.le_refl _,H0.out⟩
 case round=>
  obtain ⟨i,V,N,x,b,F,v,il,rfl,rfl,hi,hN,hS⟩:=hrel
  have HS:=hid hS
  clear H0
  by_cases n5:i+2 < l.length
  case neg=>
   have n8:IntKind.i64.wrap ((i:Int)+2)=((i+2:Nat):Int):=by rw [IntKind.wrap_i64];omega
   have hc:¬((i+2:Nat):Int) < (l.length:Int):=by omega
   clear hS
   go_wp2_with fail
   go_ret
   exact ⟨rfl,HS.out.kt.bel⟩
  case pos=>
   obtain ⟨n,c,x0,y0,z0,rfl,b9,c0,c1,c2,i9,j0,j1⟩:=HV.out.at3 i n5
   have g3:=hid c0
   have c0:=(hS.kt.bel.cell (p:=⟨n,c+i,none⟩) b9).trans c0
   have c1:=(hS.kt.bel.cell (p:=⟨n,c+(i+1),none⟩) b9).trans c1
   have c2:=(hS.kt.bel.cell (p:=⟨n,c+(i+2),none⟩) b9).trans c2
   obtain ⟨i1,f3⟩:∃i1,i+1=i1:=⟨_,rfl⟩
   obtain ⟨i2,f4⟩:∃i2,i+2=i2:=⟨_,rfl⟩
   obtain ⟨i5,j2⟩:∃i5,i+5=i5:=⟨_,rfl⟩
   rw [f3] at c1
   rw [f4] at c2
   have e1:IntKind.i64.wrap ((i:Int)+1)=(i1:Int):=by rw [IntKind.wrap_i64];omega
   have e2:IntKind.i64.wrap ((i:Int)+2)=(i2:Int):=by rw [IntKind.wrap_i64];omega
   have e5:IntKind.i64.wrap ((i:Int)+5)=(i5:Int):=by rw [IntKind.wrap_i64];omega
   have b0:(0:Int)≤(i:Int):=by omega
   have b1:(0:Int)≤(i1:Int):=by omega
   have b2:(0:Int)≤(i2:Int):=by omega
   have d0:(i:Int) < (l.length:Int):=by omega
   have d1:(i1:Int) < (l.length:Int):=by omega
   have d2:(i2:Int) < (l.length:Int):=by omega
   have o5:=hid f3
   have o6:=hid f4
   have e6:=hid j2
   have k6:=hid hS.kt.bel.size
   have R:n < wr.heap.size:=Nat.lt_of_lt_of_le b9 hS.kt.bel.size
   have a1:=hid i9
   have g4:=hid j0
   have g5:=hid j1
   have g6:=hid b9
   have B0:Below wr.heap.size wr wr.drew:=(Below.refl wr.heap.size wr).drew
   have k7:∀o,(wr.drew.alloc o).cell? ⟨n,c+i,none⟩=some (.int .i64 x0):=fun o=> (World.cell?_alloc_past _ _ _ R).trans c0
   have k8:∀o,(wr.drew.alloc o).cell? ⟨n,c+i1,none⟩=some (.int .i64 y0):=fun o=> (World.cell?_alloc_past _ _ _ R).trans c1
   have l0:∀o,(wr.drew.alloc o).cell? ⟨n,c+i2,none⟩=some (.int .i64 z0):=fun o=> (World.cell?_alloc_past _ _ _ R).trans c2
   clear hS f3 f4 j2 i9 j0 j1
   have n9:=World.new_ne wr ⟨n,c+i,none⟩ c0
   have o0:=World.new_ne wr ⟨n,c+i1,none⟩ c1
   have o1:=World.new_ne wr ⟨n,c+i2,none⟩ c2
   go_upto_region 9 with fail
   go_cut [9] (fun v9 wx=>∃(d:Nat) (u:Int) (s t:ByteArray),v9= .pointer (some ⟨d,0,none⟩)∧wr.heap.size≤d∧ChB wx d u s t∧Below wr.heap.size wr wx∧Pg.okChange (u,s.data.toList,t.data.toList)=true)
   case first=>
    go_region_held3 (fun w'=> w'.cell? ⟨n,c+i,none⟩=some (.int .i64 x0)∧w'.cell? ⟨n,c+i1,none⟩=some (.int .i64 y0)∧w'.cell? ⟨n,c+i2,none⟩=some (.int .i64 z0)) (go_keep)
     ((go_at_call 13
       refine (k_change_any x0 y0 z0 _ a1.out.1 a1.out.2 g4.out.1 g4.out.2 g5.out.1 g5.out.2).mono ?_
       rintro r wk ⟨⟨u,s,t,rfl,C⟩,c9⟩
       have a7:=hid C
       have a3:Hid (Below wr.heap.size wr wk):=by
        first
        | exact B0.trans (c9.mono (Nat.le_refl _))
        | exact (B0.alloc (Nat.le_refl _) _).trans (c9.mono (by simp))
       have l1:=(a3.out.cell (p:=⟨n,c+i,none⟩) R).trans c0
       have l2:=(a3.out.cell (p:=⟨n,c+i1,none⟩) R).trans c1
       have l3:=(a3.out.cell (p:=⟨n,c+i2,none⟩) R).trans c2
       try have S:wk.heap[wr.heap.size]?=some (.cells #[.int .i64 0,.string ⟨#[]⟩,.string ⟨#[]⟩] 34 (0,0)):=(chg_kept (w:=wr.drew) c9).trans (heap_alloc_new _ _)
       try have m0:=(chg_cells S).1
       try have m1:=(chg_cells S).2.1
       try have m2:=(chg_cells S).2.2.1
       try have f0:=(chg_cells S).2.2.2.1
       try have f1:=(chg_cells S).2.2.2.2.1
       try have f2:=(chg_cells S).2.2.2.2.2
       have g7:=a3.out.size
       have o2:=World.new_ne wk ⟨n,c+i,none⟩ l1
       have o3:=World.new_ne wk ⟨n,c+i1,none⟩ l2
       have o4:=World.new_ne wk ⟨n,c+i2,none⟩ l3
       clear c9 C))
    all_goals
     go_wp2_with fail
     go_meet
     first
      | exact ⟨_,u,s,t,rfl,g7,heap_alloc_new _ _,a3.out.alloc g7 _,a7.out⟩
      | exact ⟨_,u,s,t,rfl,Nat.le_refl _,heap_setCell_at (i:=2) (heap_setCell_at (i:=1) (heap_setCell_at (i:=0) S (.int .i64 u)) (.string s)) (.string t),((a3.out.setCell (p:=⟨_,0,none⟩) (Nat.le_refl _) _).setCell (p:=⟨_,1,none⟩) (Nat.le_refl _) _).setCell (p:=⟨_,2,none⟩) (Nat.le_refl _) _,a7.out⟩
   case rest=>
    obtain ⟨d,u,s,t,rfl,m5,f5,j3,C⟩:=hcut
    have C:Tr.okCh (chP u s t):=C
    have a7:=hid C
    have m:=hid (HS.out.below j3)
    have e7:=hid f5
    have g8:d∉b::F:=fun q=> by have:=HS.out.kt.tr.lt d q;omega
    have g9:d≠bh:=fun q=> by have:=HS.out.hd.lt;omega
    have l4:=hid g8
    have l5:=hid g9
    obtain ⟨m0,m1,m2⟩:=f5.cells
    have h0:=okCh_kx C
    have e8:=hid h0
    clear f5 j3 C g8 g9 m5 HS c0 c1 c2 k7 k8 l0 B0 R k6 h0
    go_wp2_with fail
    refine (sMake_any V N x b F u s t wc m.out.kt.st m.out.kt.tr m.out.kt.nx (by omega)).mono ?_
    rintro r w5 k0
    obtain ⟨rfl,F1,d6,d7,d8,j4,j5⟩:=m.out.made a7.out k0
    have d4:=hid d6
    have W:=hid d7
    have d5:=hid d8
    have h9:=hid j5
    have X:Hid (ChB w5 d u s t):=(j4.block d e7.out.lt l4.out).trans e7.out
    have o7:=m.out.len
    have a8:=hid (plain_wf16 m.out.wf)
    clear k0 d6 d7 d8 j4 j5 m0 m1 m2
    obtain ⟨m0,m1,m2⟩:=X.out.cells
    go_wp2_with fail
    refine (kMakes_any bh 0 v il u s t w5 W.out.lt W.out.cells (row_shrink d5.out (Nat.zero_le _)) (by omega) a8.out.1 a8.out.2 e8.out.1 e8.out.2).mono ?_
    rintro r w6 k1
    obtain ⟨rfl,j6,v2,a,c3⟩:=ImS.makes (fun _=> rfl) d4.out W.out m.out.lob m.out.wf m.out.lk m.out.len h9.out a7.out k1
    have a4:=hid c3
    have Y:Hid (ChB w6 d u s t):=(j6.block d X.out.lt l5.out).trans X.out
    obtain ⟨a2,k2,rfl⟩:=rowShape c3.it
    have c0:=(c3.kt.bel.cell (p:=⟨n,c+i,none⟩) g6.out).trans g3.out
    have l6:=c3.len
    obtain ⟨t1,t2⟩:=tdiv_in a1.out.1 a1.out.2
    have CP:=hid (k_pick_any (x0.tdiv 3) 40 w6 t1 t2 (by decide) (by decide))
    rw [show ((40:Nat):Int)=40 from rfl] at CP
    generalize pk (x0.tdiv 3) 40=B at*
    generalize (fun k'=> Tr.one k' (V k') (chP u s t))=V2 at*
    clear k1 j6 c3 m0 m1 m2 d4 W d5 h9 X m e7 a8 e8
    go_upto_region 14 with fail
    go_cut [73] (fun n2 wx=> n2= .bool (decide (B=0∨l.length≤i+5))∧wx=w6)
    case first=>
     go_wp2_with fail
     refine CP.out.mono ?_
     rintro r w6 ⟨rfl,rfl⟩
     by_cases hq:B=0
     ·have q1:(B:Int)=0:=by omega
      have Q4:Hid (decide (B=0∨l.length≤i+5)=true):=decide_eq_true (.inl hq)
      clear hq
      go_wp2_with fail
      go_meet
      exact ⟨by rw [Q4.out],rfl⟩
     ·have q1:¬(B:Int)=0:=by omega
      by_cases M:l.length≤i+5
      ·have q2:(l.length:Int)≤(i5:Int):=by have:=e6.out;omega
       have Q4:Hid (decide (B=0∨l.length≤i+5)=true):=decide_eq_true (.inr M)
       clear hq M
       go_wp2_with fail
       go_meet
       exact ⟨by rw [Q4.out],rfl⟩
      ·have q2:¬(l.length:Int)≤(i5:Int):=by have:=e6.out;omega
       have Q4:Hid (decide (B=0∨l.length≤i+5)=false):=decide_eq_false (fun z=> z.elim hq M)
       have Q5:Hid (((B:Int)==0 || decide (l.length≤i5))=false):=by
        show _=_
        rw [beq_eq_false_iff_ne.2 q1,Bool.false_or]
        exact decide_eq_false (by have:=e6.out;omega)
       clear hq M
       go_wp2_with fail
       go_meet
       exact ⟨by rw [Q4.out,Q5.out],rfl⟩
    case rest=>
     obtain ⟨m6,m7⟩:=hcut
     subst m6 m7
     generalize wc=w6 at*
     clear CP t1 t2 c0
     generalize decide (B=0∨l.length≤i+5)=n7 at*
     go_upto_if 73 with fail
     go_cut [6,5] (fun v6 _ wx=>∃(V3:Tr.Key→Option Tr.Key) (x3 b3:Nat) (F3:List Nat),v6= .pointer (some ⟨x3,0,none⟩)∧ImS w V3 (N+1) x3 b3 F3 bh (.slice a2 a.length k2) a wx∧ChB wx d u s t)
     case first=>
      cases n7
      case false=>
       go_wp2_with fail
       go_meet
       exact ⟨V2,x,b,F1,rfl,a4.out,Y.out⟩
      case true=>
       go_wp2_with fail
       refine (sImage_any V2 (N+1) x b F1 w6 a4.out.kt.st a4.out.kt.tr a4.out.kt.nx (by omega)).mono ?_
       rintro r w7 ⟨vi,ss,rfl,f9,g0,e4⟩
       have T:=hid (a4.out.below g0)
       have b4:Hid (ChB w7 d u s t):=(g0.block d Y.out.lt).trans Y.out
       have OS:=hid (show OwnsS 0 w7 vi ss from row_shrink f9 (Nat.zero_le _))
       obtain ⟨ai,ci,rfl⟩:=rowShape f9
       have D:=hid e4
       have HR:=hid (plain_wf16 T.out.wf)
       clear f9 g0 e4
       go_wp2_with fail
       refine (kRight_any _ ss V2 (N+1) bh 0 _ a w7 OS.out D.out (by omega) T.out.hd.lt T.out.hd.cells.1 (row_shrink T.out.it (Nat.zero_le _)) HR.out.1 T.out.lk (by omega)).mono ?_
       rintro r w8 ⟨rfl,O⟩
       have G:=hid (T.out.below O)
       have A:Hid (ChB w8 d u s t):=(O.block d b4.out.lt).trans b4.out
       have i0:=hid (show OwnsS 0 w8 _ ss from row_below OS.out O (Nat.le_refl _))
       clear O T b4 OS
       go_wp2_with fail
       refine (sScan_any V2 (N+1) x b F1 ⟨#[]⟩ ⟨#[]⟩ w8 G.out.kt.st G.out.kt.tr G.out.kt.nx (by omega)).mono ?_
       rintro r w9 ⟨vs,g1,rfl,g2,d3,k3,k4⟩
       obtain rfl:g1=a:=plain_inj (Tr.look_ext k3 HR.out.1 fun k=> by rw [(k4 k).1 ⟨List.not_lt_nil k,.inl rfl⟩,G.out.lk])
       have I:=hid (G.out.below d3)
       have J:Hid (ChB w9 d u s t):=(d3.block d A.out.lt).trans A.out
       have i3:=hid (show OwnsS 0 w9 _ ss from row_below i0.out d3 (Nat.le_refl _))
       have i4:=hid (show OwnsI 0 w9 vs g1 from row_shrink g2 (Nat.zero_le _))
       obtain ⟨a9,k9,rfl⟩:=rowShape g2
       obtain ⟨n0,n1⟩:=I.out.hd.cells
       clear d3 G A i0 g2 k3 k4
       go_wp2_with fail
       refine (kAlike_any _ _ g1 w9 i4.out (row_shrink I.out.it (Nat.zero_le _)) (by omega)).mono ?_
       rintro r c4 ⟨rfl,a0⟩
       have b5:=hid (I.out.below a0)
       have U:Hid (ChB c4 d u s t):=(a0.block d J.out.lt).trans J.out
       have i6:=hid (show OwnsS 0 c4 _ ss from row_below i3.out a0 (Nat.le_refl _))
       clear a0 I J i3 i4 n0 n1
       obtain ⟨z,hz⟩:∃z,IntKind.i64.wrap (wh+(i:Int))=z:=⟨_,rfl⟩
       have c7:=wrap_in (wh+(i:Int))
       rw [hz] at c7
       have CP:=hid (k_pick_any z 3 c4 c7.1 c7.2 (by decide) (by decide))
       rw [show ((3:Nat):Int)=3 from rfl] at CP
       generalize pk z 3=p3 at*
       clear c7
       go_wp2_with fail
       refine CP.out.mono ?_
       rintro r c4 ⟨rfl,rfl⟩
       clear CP
       by_cases n6:p3=0
       ·have q3:(p3:Int)=0:=by omega
        have l7:=D.out.len
        have l8:=hid (sLoad_any (N+1) _ ss c4 i6.out (by omega) (D.out.ldn HR.out.1 b5.out.lk l6) (by omega))
        clear l7
        go_wp2_with fail
        refine l8.out.mono ?_
        rintro r m8 ⟨c5,⟨rfl,m9⟩ | ⟨H,f,x',b',F',rfl,h1,h2,h3,h4,h5,h6,h7,h8⟩⟩
        ·exact absurd D.out.right m9
        ·have HT:=hid (b5.out.turn c5 h5 h6 h7 h8 fun k=> (D.out.all H f h1 h2).2 k)
         have e9:Hid (ChB m8 d u s t):=(c5.block d U.out.lt).trans U.out
         clear c5 h1 h2 h3 h4 h5 h6 h7 h8
         go_wp2_with fail
         go_meet
         exact ⟨_,x',b',F',rfl,HT.out,e9.out⟩
       ·have q3:¬(p3:Int)=0:=by omega
        go_wp2_with fail
        go_meet
        exact ⟨V2,x,b,F1,rfl,b5.out,U.out⟩
     case rest=>
      obtain ⟨V3,x3,b3,F3,rfl,f6,d9⟩:=hcut
      have L:=hid f6
      have Z:=hid d9
      have c0:=(f6.kt.bel.cell (p:=⟨n,c+i,none⟩) g6.out).trans g3.out
      obtain ⟨t1,t2⟩:=tdiv_in a1.out.1 a1.out.2
      have CP:=hid (k_pick_any (x0.tdiv 3) 3 wc t1 t2 (by decide) (by decide))
      rw [show ((3:Nat):Int)=3 from rfl] at CP
      generalize pk (x0.tdiv 3) 3=p3 at*
      have e3:IntKind.i64.wrap ((i:Int)+3)=((i+3:Nat):Int):=by rw [IntKind.wrap_i64];omega
      clear f6 d9 a4 Y
      generalize wc=w7 at*
      go_wp2_with fail
      refine CP.out.mono ?_
      rintro r w7 ⟨rfl,rfl⟩
      clear CP t1 t2
      by_cases n6:p3=0
      case neg=>
       have q3:¬(p3:Int)=0:=by omega
       go_wp2_with fail
       exact ⟨⟨i+3,V3,N+1,x3,b3,F3,_,a,by go_num,rfl,by omega,by omega,L.out⟩,by simp [intOf];omega⟩
      case pos=>
       have q3:(p3:Int)=0:=by omega
       obtain ⟨m0,m1,m2⟩:=Z.out.cells
       clear c0
       go_wp2_with fail
       refine (sGet_any V3 (N+1) x3 b3 F3 s w7 L.out.kt.st L.out.kt.tr L.out.kt.nx (by omega)).mono ?_
       rintro r w8 ⟨rfl,O⟩
       have G:=hid (L.out.below O)
       have A:Hid (ChB w8 d u s t):=(O.block d Z.out.lt).trans Z.out
       have HQ:Hid (Tr.look (plain a) s.data.toList=V3 s.data.toList):=L.out.lk _
       have l9:Hid (Tr.Rising (plain a)):=(plain_wf16 L.out.wf).1
       generalize V3 s.data.toList=q at*
       have M:(stB q=true∧(if stB q=true then (0:Int) else 3)=0)∨(stB q=false∧(if stB q=true then (0:Int) else 3)=3):=by cases stB q <;> simp
       obtain ⟨ec,j7⟩:∃ec,(if stB q=true then (0:Int) else 3)=ec:=⟨_,rfl⟩
       rw [j7] at M ⊢
       have i7:=hid M
       clear O m0 m1 m2 L Z j7 M
       go_wp2_with fail
       go_loopw [19,17,18] (fun vj n3 n4 wq=>∃j:Nat,vj= .int .i64 (j:Nat)∧j≤a.length∧n3= .string (stV (Tr.look (plain (a.take j)) s.data.toList))∧n4= .bool (stB (Tr.look (plain (a.take j)) s.data.toList))∧Below w8.heap.size w8 wq) (fun vj _ _ _=> a.length - (intOf vj).toNat)
       case atStart=> exact ⟨0,rfl,Nat.zero_le _,rfl,rfl,Below.refl _ _⟩
       case round=>
        obtain ⟨j,rfl,hj,rfl,rfl,c8⟩:=hrel
        have I:=hid (G.out.below c8)
        have J:Hid (ChB wr d u s t):=(c8.block d A.out.lt).trans A.out
        have i8:=hid c8
        obtain ⟨n0,n1⟩:=I.out.hd.cells
        obtain ⟨m0,m1,m2⟩:=J.out.cells
        clear c8
        by_cases a5:j < a.length
        ·obtain ⟨g,o9,e,p0,-,hg,y0,y1⟩:=OwnsI.at I.out.it j a5
         simp only [Value.slice.injEq] at e
         obtain ⟨rfl,-,rfl⟩:=e
         have o8:(0:Int)≤(j:Int):=by omega
         have m3:(j:Int) < (a.length:Int):=by omega
         have b6:a.take (j+1)=a.take j++[a[j]'a5]:=by rw [List.take_add_one,List.getElem?_eq_getElem a5];rfl
         have b7:Hid (Tr.look (plain (a.take (j+1))) s.data.toList=if (a[j]'a5).1.data.toList=s.data.toList then some (a[j]'a5).2.data.toList else Tr.look (plain (a.take j)) s.data.toList):=by
          have hr:Tr.Rising (plain (a.take (j+1))):=by
           have:=l9.out
           unfold Tr.Rising plain at this ⊢
           rw [List.map_take]
           exact this.sublist (List.take_sublist _ _)
          rw [b6] at hr ⊢
          unfold plain at hr ⊢
          rw [List.map_append] at hr ⊢
          exact look_snoc hr
         clear b6
         generalize a[j]'a5=y at*
         obtain ⟨yk,yv⟩:=y
         simp only at y0 y1 b7
         by_cases a6:yk.data.toList=s.data.toList
         ·have r2:(yk.toList==s.toList)=true:=by rw [toList_is,toList_is,a6];simp
          have b8:Hid (stV (Tr.look (plain (a.take (j+1))) s.data.toList)=yv∧stB (Tr.look (plain (a.take (j+1))) s.data.toList)=true):=by
           have:=b7.out
           rw [if_pos a6] at this
           rw [this]
           exact ⟨mk_data yv,rfl⟩
          clear a6 b7
          go_upto_region 32 with fail
          go_quiet (fail)
          go_wp2_with fail
          exact ⟨⟨j+1,by go_num,by omega,by rw [b8.out.1],by rw [b8.out.2],below_drewN i8.out _⟩,by simp [intOf];omega⟩
         ·have r2:(yk.toList==s.toList)=false:=by rw [toList_is,toList_is];exact beq_eq_false_iff_ne.2 a6
          have b8:Hid (Tr.look (plain (a.take (j+1))) s.data.toList=Tr.look (plain (a.take j)) s.data.toList):=by
           have:=b7.out
           rw [if_neg a6] at this
           exact this
          clear a6 b7
          go_upto_region 32 with fail
          go_quiet (fail)
          go_wp2_with fail
          exact ⟨⟨j+1,by go_num,by omega,by rw [b8.out],by rw [b8.out],below_drewN i8.out _⟩,by simp [intOf];omega⟩
        ·have m3:¬(j:Int) < (a.length:Int):=by omega
         have b6:a.take j=a:=List.take_of_length_le (by omega)
         rw [b6,HQ.out]
         clear b6
         have m4:=i7.out
         generalize stV q=qs at*
         rcases m4 with ⟨e1,e2⟩ | ⟨e1,e2⟩
         all_goals
          rw [e1]
          subst e2
          clear i7 e1
          go_wp2_with fail
          exact ⟨⟨i+3,V3,N+1,x3,b3,F3,_,a,by go_num,rfl,by omega,by omega,I.out⟩,by simp [intOf];omega⟩
end Go.Proofs.YtolgpnaoaodepaaGreat
