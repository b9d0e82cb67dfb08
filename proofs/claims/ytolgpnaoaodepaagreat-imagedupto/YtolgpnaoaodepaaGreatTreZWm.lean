import Derived.Test.YtolgpnaoaodepaaGreatTreZRm
import Derived.Test.YtolgpnaoaodepaaGreatMathHm
namespace Go.Proofs.YtolgpnaoaodepaaGreat.Tr
theorem inR_all (k:Key):inR [] none k:=⟨by simp,fun b a=> by cases a⟩
theorem room_all:room [] none:=fun b a=> by cases a
structure Lvl (V:Key→Option Key) (N:Nat) (h:Nat) (ps:List (Key×TreeT h)):Prop where
 chain:Chain (fun f m t=> WF h f m t∧Top h t) (some []) none ps
 val:∀k,val (h+1) (brT ps []) k=V k
 wt:wts ps+(ps.length - 1)≤2*N
theorem Lvl.start {h:Nat} {t:TreeT h} (a:WF h [] none t) (b:Small h t) {V:Key→Option Key} (c:∀k,Tr.val h t k=V k) {N:Nat} (d:Tr.wt h t≤2*N):Lvl V N h (cutT h [] t):=
 ⟨cutT_chain h room_all a b,fun k=> (cutT_val h room_all a b k (inR_all k)).trans (c k),Nat.le_trans (cutT_wt h [] t) d⟩
theorem Lvl.wf {V:Key→Option Key} {N h:Nat} {a:List (Key×TreeT h)} (d:Lvl V N h a):WF (h+1) [] none (brT a [])∧Small (h+1) (brT a []):=⟨⟨d.chain,fun c b=> by cases b⟩,Nat.zero_le _⟩
theorem Lvl.wtb {V:Key→Option Key} {N h:Nat} {a:List (Key×TreeT h)} (b:Lvl V N h a) (c:1 < a.length):Tr.wt (h+1) (brT a [])≤2*N:=by
 rw [wt_br];have:=b.wt;show 2*0+_+_≤_;omega
theorem Lvl.up {V:Key→Option Key} {N h:Nat} {b:List (Key×TreeT h)} (a:Lvl V N h b) (c:1 < b.length):Lvl V N (h+1) (cutT (h+1) [] (brT b [])):=Lvl.start a.wf.1 a.wf.2 a.val (a.wtb c)
theorem shares_len {α:Type} (l:List α):(shares l 4).length=(l.length+3) / 4:=by unfold shares;rw [sh_len];omega
theorem bparts_len {h:Nat} (a:List (List (Key×TreeT h))) (b:List Ch):(bparts a b).length=a.length:=by simp [bparts]
theorem up_len {h:Nat} {a:List (Key×TreeT h)} (c:1 < a.length):(cutT (h+1) [] (brT a [])).length < a.length:=by
 by_cases b:4 < a.length
 ·rw [cutS_big b,bparts_len,shares_len];omega
 ·rw [cutS_small b];exact c
theorem Lvl.pos {V:Key→Option Key} {N h:Nat} {a:List (Key×TreeT h)} (b:Lvl V N h a):0 < a.length:=by
 cases a with
 | nil=> exact absurd (show some []=none from b.chain) (by simp)
 | cons x r=> simp
theorem Lvl.len {V:Key→Option Key} {N h:Nat} {a:List (Key×TreeT h)} (b:Lvl V N h a):a.length≤N:=by
 have c:a.length≤wts a:=wt_parts b.chain
 have:=b.wt
 omega
structure Root (V:Key→Option Key) (N:Nat) (h:Nat) (t:TreeT h):Prop where
 wf:WF h [] none t
 top:Top h t
 val:∀k,Tr.val h t k=V k
 wt:Tr.wt h t≤2*N
theorem Lvl.root {V:Key→Option Key} {N h:Nat} {f:Key} {t:TreeT h} (a:Lvl V N h [(f,t)]):Root V N h t:=by
 obtain ⟨e,m,d,b,c⟩:=a.chain
 obtain rfl:[]=f:=Option.some.inj e
 obtain rfl:m=none:=c
 refine ⟨b.1,b.2,fun k=> a.val k,?_⟩
 have:=a.wt
 rw [wts_cons,wts_nil] at this
 exact this
theorem Root.idle {V:Key→Option Key} {N h:Nat} {f:Key} {t:TreeT h} (a:Root V N (h+1) (brT [(f,t)] [])):Root V N h t:=by
 obtain ⟨e,m,d,b,c⟩:=a.wf.1
 obtain rfl:[]=f:=Option.some.inj e
 obtain rfl:m=none:=c
 refine ⟨b.1,b.2,fun k=> a.val k,?_⟩
 have:=a.wt
 rw [wt_br,wts_cons,wts_nil] at this
 have this:2*0+(Tr.wt h t+0)+(1 - 1+(2 - 1))≤2*N:=this
 omega
end Go.Proofs.YtolgpnaoaodepaaGreat.Tr
namespace Go.Proofs.YtolgpnaoaodepaaGreat
open Go.RowKit
namespace Pg
theorem heads_snoc:∀(c:List Nat) (d:List (List UInt8)) (s:Nat) (k:List UInt8),c.length=d.length→heads (c++[s]) (d++[k])=heads c d++ent1 s k
 | [],[],s,k,_=> by simp [heads]
 | a::c,b::d,s,k,h=> by
  rw [List.cons_append,List.cons_append,heads,heads_snoc c d s k (by simpa using h),heads,List.append_assoc]
 | [],b::d,_,_,h=> by simp at h
 | a::c,[],_,_,h=> by simp at h
theorem many_step {n:Nat} (h:0 < n):many n=many (n - 4)+1:=by unfold many;omega
theorem entry_is (k v:List UInt8) (r:List (List UInt8×List UInt8)):entry ((k,v)::r)=ent1 (base ((k,v)::r)).length k:=rfl
end Pg
theorem leaf_step (r:List (ByteArray×ByteArray)) (d:ByteArray) (l:List UInt8) (q:List (List UInt8×List UInt8)) (h:plain r=(d.data.toList,l)::q) (n:Nat) (m:n=min r.length 4) (a:List UInt8) (f:Pg.base (plain r)=a):
  Pg.entries (Pg.many r.length) (plain r)=Pg.ent1 a.length d.data.toList++Pg.entries (Pg.many (r.drop n).length) (plain (r.drop n))∧Pg.bases (Pg.many r.length) (plain r)=a++Pg.bases (Pg.many (r.drop n).length) (plain (r.drop n))∧Pg.many r.length=Pg.many (r.drop n).length+1:=by
 have c:(plain r).length=r.length:=by simp [plain]
 have g:0 < r.length:=by rw [←c,h];simp
 have b:plain r≠[]:=by rw [h];simp
 have e:r.drop n=r.drop 4:=by
  by_cases k:r.length≤4
  ·rw [List.drop_eq_nil_of_le (show r.length≤n by omega),List.drop_eq_nil_of_le k]
  ·rw [show n=4 by omega]
 have i:Pg.many r.length=Pg.many (r.drop n).length+1:=by rw [e,List.length_drop];exact Pg.many_step g
 have j:Pg.entry (plain r)=Pg.ent1 a.length d.data.toList:=by rw [←f,h,Pg.entry_is]
 rw [i,entries_next _ _ b,bases_next _ _ b,←plain_drop,←e,j,f]
 exact ⟨rfl,rfl,rfl⟩
theorem items_drop {w:World} {b c a:Nat} {r:List (ByteArray×ByteArray)} (d:ItemsAt w b c r) (e:b < w.heap.size) (f:r.length≤a) (g:a≤9223372036854775807) (n:Nat):IsItems w (.slice (some ⟨b,c+n*2,none⟩) (r.length - n) (a - n)) (r.drop n):=by
 refine .inr ⟨b,c+n*2,a - n,by rw [List.length_drop],by rw [List.length_drop];omega,by omega,e,?_⟩
 have:=d.part n r.length
 rw [List.take_of_length_le (by rw [List.length_drop];omega)] at this
 exact this
theorem items_drop2 {w:World} {b c a:Nat} {r:List (ByteArray×ByteArray)} (d:ItemsAt w b c r) (g:b < w.heap.size) (e:r.length≤a) (f:a≤9223372036854775807) (n:Nat):IsItems w (.slice (if a=n then some ⟨b,c,none⟩ else some ⟨b,c+n*2,none⟩) (r.length - n) (a - n)) (r.drop n):=by
 by_cases h:a=n
 ·rw [if_pos h,show r.length - n=0 by omega]
  exact .inl ⟨_,_,rfl,List.drop_eq_nil_of_le (by omega)⟩
 ·rw [if_neg h];exact items_drop d g e f n
theorem lists_snoc2 (a:List ByteArray) (f:ByteArray):lists (a++[f])=lists a++[f.data.toList]:=by simp [lists]
set_option maxHeartbeats 4000000 in
set_option maxRecDepth 20000 in
theorem writeLeaf_any (v:Value) (l:List (ByteArray×ByteArray)) (w:World) (hv:IsItems w v l) (hl:l.length≤16) (c0:∀x∈l,x.1.size≤12∧x.2.size≤16):
  Calls Tryz.prog 129 #[v] w fun r w'=> r= .returned (.string ⟨(Pg.leaf (plain l)).toArray⟩)∧Below w.heap.size w w':=by
 have HV:=hid hv
 have c1:=hid c0
 clear hv c0
 have Y:=hid (lhd_start w.heap.size w w (Below.refl _ w) (Nat.le_refl _))
 go_enter Tryz.func129,Tryz.ntmps129
 go_wp2_with fail
 go_loopw [0,4] (fun x s wr=>∃(r:List (ByteArray×ByteArray)) (body:ByteArray) (c:List Nat) (d:List ByteArray) (vs vf:Value),IsItems w x r∧s= .string body∧LHd w.heap.size w.heap.size w wr c d vs vf∧r.length≤16∧(∀y∈r,y.1.size≤12∧y.2.size≤16)∧c.length=d.length∧(∀f∈d,f.size≤12)∧c.length+Pg.many r.length=Pg.many l.length∧body.size≤c.length*1000∧Pg.heads c (lists d)++Pg.entries (Pg.many r.length) (plain r)=Pg.entries (Pg.many l.length) (plain l)∧body.data.toList++Pg.bases (Pg.many r.length) (plain r)=Pg.bases (Pg.many l.length) (plain l)) (fun x _ _=> match x with | .slice _ n _=> n | _=> 0)
 case atStart=> exact ⟨l,⟨#[]⟩,[],[],_,_,HV.out,rfl,Y.out,hl,c1.out,rfl,by simp,by simp,by decide,by simp [Pg.heads],by simp⟩
 case round=>
  clear Y
  obtain ⟨r,body,c,d,vs,vf,U,rfl,e,f2,a8,a9,b0,F,e5,j,m⟩:=hrel
  have Z:=hid e
  have I:=hid a8
  have o:=hid a9
  have Q:=hid b0
  have D:=hid F
  have a0:=hid j
  have a1:=hid m
  have i:=hid e.bel
  have e8:=e.lt
  have f3:Pg.many l.length≤4:=by unfold Pg.many;omega
  have e9:c.length≤4:=by omega
  obtain ⟨d0,d1,z0,z1⟩:=e.cells
  obtain ⟨sa,sc,rfl⟩:=rowShape e.szs
  obtain ⟨fa,fc,rfl⟩:=e.fst.shape
  clear e a8 a9 b0 F j m
  obtain ⟨xa,xc,rfl⟩:=U.shape
  by_cases g:0 < r.length
  ·obtain ⟨b,A,g4,e6,V,G,H,J⟩:=U.resolve_left (by rintro ⟨_,_,_,rfl⟩;simp at g)
   injection e6 with hve1 hve2 hve3
   subst hve1 hve3
   have c2:=hid J
   obtain ⟨n,hn⟩:∃n:Nat,n=min r.length 4:=⟨_,rfl⟩
   have f4:min (r.length:Int) 4=(n:Int):=by omega
   have c5:n≤r.length∧n≤4∧0 < n:=by omega
   have HN:=hid hn
   have R:Hid (Pg.section_ [98] (Pg.basement (plain (r.take n)))=Pg.base (plain r)):=by
    show _=_;unfold Pg.base;rw [plain_take,hn]
    by_cases h4:r.length≤4
    ·rw [List.take_of_length_le (show (plain r).length≤min r.length 4 by simp [plain];omega),List.take_of_length_le (show (plain r).length≤4 by simp [plain];omega)]
    ·rw [show min r.length 4=4 by omega]
   have f5:=Pg.basement_len (plain (r.take n)) (plain_sz (fun x hx=> I.out x (List.mem_of_mem_take hx)))
   have f0:(plain (r.take n)).length≤4:=by simp [plain];omega
   have c7:Hid (IsItems wr (.slice (some ⟨b,A,none⟩) n xc) (r.take n)):=by
    refine .inr ⟨b,A,xc,by rw [List.length_take,Nat.min_eq_left c5.1],by rw [List.length_take];omega,G,by omega,?_⟩
    have:=(J.below i.out H).part 0 n
    simpa using this
   have t:=(J.below i.out H) 0 g
   have c8:Hid (∃q,plain r=((r[0]'g).1.data.toList,(r[0]'g).2.data.toList)::q):=by
    cases r with
    | nil=> simp at g
    | cons y ys=> exact ⟨plain ys,rfl⟩
   have K:=(I.out _ (List.getElem_mem g)).1
   generalize r[0]'g=y at*
   obtain ⟨M,vb⟩:=y
   simp only [Nat.zero_mul,Nat.add_zero] at t K
   obtain ⟨t,-⟩:=t
   have c9:Hid (w.cell? ⟨b,A,none⟩=some (.string M)):=((i.out.cell (p:=⟨b,A,none⟩) H).symm.trans t)
   clear hn J U
   have f6:(0:Int)≤(n:Int):=by omega
   have f7:(n:Int)≤(xc:Int):=by omega
   go_wp2_with fail
   refine (base_any _ (r.take n) _ c7.out (by rw [List.length_take];omega) (fun x hx=> by have:=I.out x (List.mem_of_mem_take hx);omega)).mono ?_
   rintro r2 w2 ⟨v2,rfl,b5,B⟩
   have d2:=hid b5
   have S:=hid B
   have d3:=B.size
   clear b5 B
   go_wp2_with fail
   refine (writeSec_any wr.heap.size 98 v2 _ _ d2.out (by omega)).mono ?_
   rintro r2 w3 ⟨rfl,b6⟩
   have a2:=hid (S.out.trans (b6.mono d3))
   have a3:=Pg.section_len [98] (Pg.basement (plain (r.take n))) (by omega)
   rw [R.out] at a3 ⊢
   have a:=hid (Z.out.below a2.out)
   have L:=hid (a2.out.cell (p:=⟨b,A,none⟩) (show b < _ by omega))
   have c3:=L.out.trans t
   obtain ⟨b1,b2,b3,b4⟩:=a.out.cells
   have d4:=a.out.lt
   clear b6 d0 d1 z0 z1 t L
   have f1:(Pg.base (plain r)).length≤300:=by simp at a3;omega
   generalize P:Pg.base (plain r)=C at*
   have a5:=hid P
   clear P
   have d5:=size_mk C
   go_wp2_with (first
    | (at_builtin;refine wpApG w3 rfl (.tmp 19) (.tmp 22) 25 3 Tryz.underlying25 _ 1 8 info_int rfl (by decide) (by decide) rfl (w.heap.size+1) (.slice sa c.length sc) c.length (ncells c) rfl a.out.szs [.int .i64 (C.length:Int)] rfl (by intro u hu;simp at hu;subst hu;rfl) rfl (by omega) d4 ?_))
   intro v4 w4 W b7 N
   obtain ⟨a4,c4,rfl⟩:=rowShape W
   have HA:=hid (a.out.apN W b7 N)
   obtain ⟨e0,e1,y0,y1⟩:=a.out.mid HA.out.1
   clear W b7 N b1 b2 b3 b4 c3
   generalize b9:c.length+1=l4 at*
   have f8:=hid b9
   clear b9
   go_wp2_with fail
   have T:=hid HA.out.2
   clear HA e0 e1 y0 y1 a
   generalize w4.setCell ⟨w.heap.size,0,none⟩ (.slice a4 l4 c4)=w5 at*
   obtain ⟨d0,d1,z0,z1⟩:=T.out.cells
   have k5:=(T.out.bel.cell (p:=⟨b,A,none⟩) H).trans c9.out
   have E:=hid (T.out.below (((Below.refl _ w5).alloc (Nat.le_refl _) (.cells #[.string M] 9)).drew))
   have d6:Hid (((w5.alloc (.cells #[.string M] 9)).drew).cell? ⟨w5.heap.size,0,none⟩=some (.string M)):=cell_new w5 _ _
   obtain ⟨-,g5,-,g6⟩:=E.out.cells
   have a7:d.length≤4:=by rw [←o.out];omega
   have f9:(0:Int) < (r.length:Int):=by omega
   go_region_law (refine stepApT _ (by rfl) (.tmp 26) (.tmp 31) (by rfl) (w.heap.size+1) (.slice fa d.length fc) d (by simp [Act.eval]) E.out.fst M w5.heap.size (by simp [Act.eval]) d6.out (by omega) E.out.lt ?_;intro v6 w6 X b8 O;obtain ⟨a6,c6,rfl⟩:=X.shape;generalize e7:(d++[M]).length=l6 at*;clear e7;have HB:=hid (E.out.apF X b8 O);obtain ⟨b1,b2,b3,b4⟩:=E.out.mid HB.out.1;clear X b8 O)
   all_goals
    have g0:(0:Int)≤(n:Int):=by omega
    have g1:(n:Int)≤(r.length:Int):=by omega
    have e1:∀w,(Op.stringOp .add body ⟨C.toArray⟩).run Tryz.prog w= .ok (.string (body++⟨C.toArray⟩)) w:=fun w=> run_string_add_sum w _ _ (by omega)
    go_wp2_with fail
    go_roundw
    case rel=>
     obtain ⟨q,hq⟩:=c8.out
     obtain ⟨s1,s2,s3⟩:=leaf_step r M _ q hq n HN.out C a5.out
     refine ⟨r.drop n,_,c++[C.length],d++[M],_,_,items_drop2 c2.out H V G n,rfl,HB.out.2,by rw [List.length_drop];omega,fun z hz=> I.out z (List.mem_of_mem_drop hz),by rw [List.length_append,List.length_append,o.out];rfl,?_,?_,?_,?_,?_⟩
     ·intro f hf
      rcases List.mem_append.1 hf with h | h
      ·exact Q.out f h
      ·rw [List.mem_singleton.1 h];exact K
     ·have:=D.out
      rw [List.length_append,←this,s3];simp;omega
     ·rw [ByteArray.size_append',d5,List.length_append];simp;omega
     ·rw [lists_snoc2,Pg.heads_snoc _ _ _ _ (by rw [o.out];simp [lists]),←a0.out,s1,List.append_assoc]
     ·rw [←a1.out,s2];simp
    case measure=> simp;omega
  ·have d7:r=[]:=List.length_eq_zero_iff.1 (by omega)
   subst d7
   have d8:Hid (Pg.heads c (lists d)=Pg.entries (Pg.many l.length) (plain l)):=by
    show _=_;rw [←a0.out];simp [Pg.many,Pg.entries]
   have d9:Hid (body.data.toList=Pg.bases (Pg.many l.length) (plain l)):=by
    show _=_;rw [←a1.out];simp [Pg.many,Pg.bases]
   have e2:Hid (c.length=Pg.many l.length):=by
    show _=_;rw [←D.out];simp [Pg.many]
   have a7:d.length≤4:=by rw [←o.out];omega
   have e3:=hid (Z.out.isLH (by omega) (by omega))
   go_wp2_with fail
   refine (headWrite_any _ c d _ e3.out o.out a7 Q.out).mono ?_
   rintro r2 w2 ⟨rfl,B⟩
   have S:=hid (i.out.trans (B.mono (by omega)))
   have g2:(Pg.headW c (lists d)).length≤200:=by
    have hh:=Pg.heads_len c (lists d) (by rw [o.out];simp [lists]) (by intro k hk;simp only [lists,List.mem_map] at hk;obtain ⟨f,hf,rfl⟩:=hk;rw [len_size];exact Q.out f hf)
    unfold Pg.headW;rw [Pg.seal_len];simp only [List.length_append,Pg.low_len,List.length_replicate,hh];simp;omega
   have e4:Hid (Pg.headW c (lists d)++body.data.toList=Pg.leaf (plain l)):=by
    show _=_;unfold Pg.headW Pg.leaf
    rw [show (plain l).length=l.length by simp [plain],d8.out,d9.out,e2.out]
   generalize Pg.headW c (lists d)=hw at*
   have g3:=size_mk hw
   have e1:∀w,(Op.stringOp .add ⟨hw.toArray⟩ body).run Tryz.prog w= .ok (.string (⟨hw.toArray⟩++body)) w:=fun w=> run_string_add_sum w _ _ (by omega)
   clear B
   go_wp2_with fail
   go_ret
   exact ⟨ret_str (by rw [←e4.out];simp),S.out⟩
end Go.Proofs.YtolgpnaoaodepaaGreat
namespace Go.Proofs.YtolgpnaoaodepaaGreat
open Go.RowKit
theorem ret_bool {a b:Bool} (h:a=b):Ending.returned (.bool a)= .returned (.bool b):=by rw [h]
set_option maxHeartbeats 400000 in
theorem isKey_any (s:ByteArray) (w:World):Calls Tryz.prog 60 #[.string s] w fun r w'=> r= .returned (.bool (Pg.isKey s.size))∧w'=w:=by
 go_enter Tryz.func60,Tryz.ntmps60
 by_cases a:1≤s.size
 ·have b:decide ((1:Int)≤(s.size:Int))=true:=by simp;omega
  go_wp2_with fail
  go_ret
  exact ⟨ret_bool (by unfold Pg.isKey;rw [decide_eq_true a];simp;omega),rfl⟩
 ·have b:decide ((1:Int)≤(s.size:Int))=false:=by simp;omega
  go_wp2_with fail
  go_ret
  exact ⟨ret_bool (by unfold Pg.isKey;rw [decide_eq_false a];rfl),rfl⟩
set_option maxHeartbeats 400000 in
theorem isValue_any (s:ByteArray) (w:World):Calls Tryz.prog 61 #[.string s] w fun r w'=> r= .returned (.bool (decide (s.size≤16)))∧w'=w:=by
 go_enter Tryz.func61,Tryz.ntmps61
 go_wp2_with fail
 go_ret
 exact ⟨ret_bool (by simp;omega),rfl⟩
theorem quiet_of {f:FuncId} {args:Array Value} {w:World} {n:Nat} {v:Value} (h:Calls Tryz.prog f args (w.drewN n) fun e w'=> e= .returned v∧w'=w.drewN n):Calls Tryz.prog f args (w.drewN n) fun e a=> e= .returned v∧∃m,a=w.drewN m:=
 h.mono fun _ _ ⟨b,c⟩=> ⟨b,n,c⟩
set_option maxHeartbeats 1000000 in
set_option maxRecDepth 100000 in
theorem areItems_any (v:Value) (l:List (ByteArray×ByteArray)) (w:World) (N:IsItems w v l) (hl:l.length≤1000000000):
  Calls Tryz.prog 195 #[v] w fun r w'=> r= .returned (.bool (Pg.okFrom none (plain l)))∧Below w.heap.size w w':=by
 obtain ⟨va,vc,rfl⟩:=N.shape
 have R:=hid N
 clear N
 go_enter Tryz.func195,Tryz.ntmps195
 go_wp2_with fail
 go_loopw [7] (fun i wr=>∃k:Nat,k≤l.length∧i= .int .i64 k∧Pg.okFrom (prevKey (plain l) k) (plain (l.drop k))=Pg.okFrom none (plain l)∧Below w.heap.size w wr) (fun i _=> l.length - (intOf i).toNat)
 case atStart=> exact ⟨0,Nat.zero_le _,rfl,rfl,Below.refl _ _⟩
 case round=>
  obtain ⟨k,hk,rfl,B,g⟩:=hrel
  have a:=hid B
  have m:=hid g
  have o:=g.size
  clear B g
  by_cases h:k < l.length
  ·obtain ⟨b,a0,a1,H,I,J,C,D⟩:=R.out.resolve_left (by rintro ⟨_,_,_,rfl⟩;simp at h)
   injection H with hve1 hve2 hve3
   subst hve1 hve3
   have p:=hid D
   clear D
   obtain ⟨O,P⟩:=p.out.below m.out C k h
   generalize L:l[k]'h=x at*
   obtain ⟨c,j⟩:=x
   simp only at O P
   have E:Hid (plain (l.drop k)=(c.data.toList,j.data.toList)::plain (l.drop (k+1))):=by
    show _=_;rw [List.drop_eq_getElem_cons h,L];rfl
   have q:Hid (prevKey (plain l) (k+1)=some c.data.toList):=by
    show _=_;unfold prevKey plain;rw [if_neg (by omega),Nat.add_sub_cancel,List.getElem?_map,List.getElem?_eq_getElem h,L];rfl
   clear L
   rw [E.out,Pg.ok_cons,len_size,len_size] at a
   have S:(0:Int)≤(k:Int):=by omega
   have T:(k:Int) < (l.length:Int):=by omega
   have s:∀W,Calls Tryz.prog 60 #[.string c] W fun r w'=> r= .returned (.bool (Pg.isKey c.size))∧w'=W:=fun W=> isKey_any c W
   have t:∀W,Calls Tryz.prog 61 #[.string j] W fun r w'=> r= .returned (.bool (decide (j.size≤16)))∧w'=W:=fun W=> isValue_any j W
   have U:=hid (show (wr.alloc (.cells #[.string c,.string j] 51)).cell? ⟨wr.heap.size,0,none⟩=some (.string c) by simp)
   have V:=hid (show (wr.alloc (.cells #[.string c,.string j] 51)).cell? ⟨wr.heap.size,1,none⟩=some (.string j) by simp)
   have d:=hid (m.out.alloc o (.cells #[.string c,.string j] 51))
   generalize a2:Pg.isKey c.size=kk at*
   generalize a3:decide (j.size≤16)=vv at*
   go_wp2_with fail
   generalize (wr.alloc (.cells #[.string c,.string j] 51))=w2 at*
   generalize wr.heap.size=xb at*
   have k0:=U.out
   have k1:=V.out
   clear O P
   cases kk
   ·have u:Hid (Pg.okFrom none (plain l)=false):=by
     show _=_;rw [←a.out];rfl
    go_quiet (first | exact quiet_of (s _) | exact quiet_of (t _))
    go_wp2_with fail
    go_ret
    exact ⟨by rw [u.out];rfl,below_drewN d.out _⟩
   ·cases vv
    ·have u:Hid (Pg.okFrom none (plain l)=false):=by
      show _=_;rw [←a.out];rfl
     go_quiet (first | exact quiet_of (s _) | exact quiet_of (t _))
     go_wp2_with fail
     go_ret
     exact ⟨by rw [u.out];rfl,below_drewN d.out _⟩
    ·by_cases n:k=0
     ·have F:Hid (Pg.okFrom (prevKey (plain l) (k+1)) (plain (l.drop (k+1)))=Pg.okFrom none (plain l)):=by
       show _=_;rw [←a.out,q.out,n];rfl
      have G:decide (0 < k)=false:=by simp;omega
      clear n
      go_quiet (first | exact quiet_of (s _) | exact quiet_of (t _))
      go_wp2_with fail
      go_roundw
      case rel=> exact ⟨k+1,by omega,by go_num,F.out,below_drewN d.out _⟩
      case measure=> simp [intOf];omega
     ·have G:decide (0 < k)=true:=by simp;omega
      have e:k - 1 < l.length:=by omega
      obtain ⟨e0,Q⟩:=p.out.below d.out C (k - 1) e
      have z:Hid (prevKey (plain l) k=some (l[k - 1]'e).1.data.toList):=by
       show _=_;unfold prevKey plain;rw [if_neg n,List.getElem?_map,List.getElem?_eq_getElem e];rfl
      generalize l[k - 1]'e=y at*
      obtain ⟨K,yv⟩:=y
      simp only at e0 Q
      have X:IntKind.i64.wrap ((k:Int) - 1)=((k - 1:Nat):Int):=by rw [IntWalk.i64_in _ ⟨by omega,by omega⟩];omega
      have Y:((k - 1:Nat):Int) < (l.length:Int):=by omega
      have Z:Hid (k - 1 < l.length):=e
      generalize M:k - 1=jp at*
      clear M e Q
      by_cases f:K.data.toList < c.data.toList
      ·have F:Hid (Pg.okFrom (prevKey (plain l) (k+1)) (plain (l.drop (k+1)))=Pg.okFrom none (plain l)):=by
        show _=_;rw [←a.out,q.out,z.out];simp [Pg.rises,f]
       have A:Op.bytesLess K.toList c.toList=true:=by rw [toList_is,toList_is,less_is];exact decide_eq_true f
       clear f
       go_quiet (first | exact quiet_of (s _) | exact quiet_of (t _))
       go_wp2_with fail
       go_roundw
       case rel=> exact ⟨k+1,by omega,by go_num,F.out,below_drewN d.out _⟩
       case measure=> simp [intOf];omega
      ·have u:Hid (Pg.okFrom none (plain l)=false):=by
        show _=_;rw [←a.out,z.out];simp [Pg.rises,f]
       have A:Op.bytesLess K.toList c.toList=false:=by rw [toList_is,toList_is,less_is];exact decide_eq_false f
       clear f
       go_quiet (first | exact quiet_of (s _) | exact quiet_of (t _))
       go_wp2_with fail
       go_ret
       exact ⟨by rw [u.out];rfl,below_drewN d.out _⟩
  ·have HT:Hid (Pg.okFrom none (plain l)=true):=by
    show _=_;rw [←a.out,List.drop_eq_nil_of_le (by omega)];rfl
   go_wp2_with fail
   go_ret
   exact ⟨by rw [HT.out];rfl,m.out⟩
end Go.Proofs.YtolgpnaoaodepaaGreat
namespace Go.Proofs.YtolgpnaoaodepaaGreat
open Go.RowKit
namespace Pg
theorem okPivots_cons (p:Option (List UInt8)) (k:List UInt8) (r:List (List UInt8)):okPivots (k::r) p=(isKey k.length&&rises p k&&okPivots r (some k)):=rfl
end Pg
set_option maxHeartbeats 1000000 in
set_option maxRecDepth 100000 in
theorem areKeys_any (v:Value) (l:List ByteArray) (w:World) (X:IsRow w v l.length (l.map .string)):
  Calls Tryz.prog 197 #[v] w fun r w'=> r= .returned (.bool (Pg.okPivots (lists l) none))∧Below w.heap.size w w':=by
 obtain ⟨va,vc,rfl,hl,m⟩:=X
 have K:=hid m
 clear m
 go_enter Tryz.func197,Tryz.ntmps197
 go_wp2_with fail
 go_loopw [7] (fun i wr=>∃k:Nat,k≤l.length∧i= .int .i64 k∧Pg.okPivots (lists (l.drop k)) (prevOf (lists l) k)=Pg.okPivots (lists l) none∧Below w.heap.size w wr) (fun i _=> l.length - (intOf i).toNat)
 case atStart=> exact ⟨0,Nat.zero_le _,rfl,rfl,Below.refl _ _⟩
 case round=>
  obtain ⟨k,hk,rfl,t,f⟩:=hrel
  have c:=hid t
  have a:=hid f
  have J:=f.size
  clear t f
  by_cases g:k < l.length
  ·obtain ⟨b,S,E,u,n⟩:=K.out.resolve_left (by omega)
   subst E
   have Y:=rowAt (pl:=l) n a.out u k g
   have y:=hid (fun j T=> rowAt (pl:=l) n a.out u j T)
   clear n
   generalize G:l[k]'g=h at*
   have z:Hid (lists (l.drop k)=h.data.toList::lists (l.drop (k+1))):=by
    show _=_;rw [List.drop_eq_getElem_cons g,G];rfl
   have p:Hid (prevOf (lists l) (k+1)=some h.data.toList):=by
    show _=_;unfold prevOf lists;rw [if_neg (by omega),Nat.add_sub_cancel,List.getElem?_map,List.getElem?_eq_getElem g,G];rfl
   clear G
   rw [z.out,Pg.okPivots_cons,len_size] at c
   have L:(0:Int)≤(k:Int):=by omega
   have M:(k:Int) < (l.length:Int):=by omega
   have x:∀W,Calls Tryz.prog 60 #[.string h] W fun r w'=> r= .returned (.bool (Pg.isKey h.size))∧w'=W:=fun W=> isKey_any h W
   generalize U:Pg.isKey h.size=V at*
   cases V
   ·have A:Hid (Pg.okPivots (lists l) none=false):=by
     show _=_;rw [←c.out];rfl
    go_wp2_with fail
    refine (x _).mono ?_
    rintro r F ⟨rfl,rfl⟩
    go_wp2_with fail
    go_ret
    exact ⟨by rw [A.out];rfl,a.out⟩
   ·by_cases o:k=0
    ·have B:Hid (Pg.okPivots (lists (l.drop (k+1))) (prevOf (lists l) (k+1))=Pg.okPivots (lists l) none):=by
      show _=_;rw [←c.out,p.out,o];rfl
     have C:decide (0 < k)=false:=by simp;omega
     have D:¬0 < k:=by omega
     clear o
     go_wp2_with fail
     refine (x _).mono ?_
     rintro r F ⟨rfl,rfl⟩
     go_wp2_with fail
     go_roundw
     case rel=> exact ⟨k+1,by omega,by go_num,B.out,a.out⟩
     case measure=> simp [intOf];omega
    ·have C:decide (0 < k)=true:=by simp;omega
     have D:0 < k:=by omega
     have d:k - 1 < l.length:=by omega
     have Z:=y.out (k - 1) d
     have q:Hid (prevOf (lists l) k=some (l[k - 1]'d).data.toList):=by
      show _=_;unfold prevOf lists;rw [if_neg o,List.getElem?_map,List.getElem?_eq_getElem d];rfl
     generalize l[k - 1]'d=I at*
     have N:IntKind.i64.wrap ((k:Int) - 1)=((k - 1:Nat):Int):=by rw [IntWalk.i64_in _ ⟨by omega,by omega⟩];omega
     have O:(k:Int) - 1=((k - 1:Nat):Int):=by omega
     have P:((k - 1:Nat):Int) < (l.length:Int):=by omega
     have Q:Hid (k - 1 < l.length):=d
     generalize H:k - 1=jp at*
     clear H d
     by_cases e:I.data.toList < h.data.toList
     ·have B:Hid (Pg.okPivots (lists (l.drop (k+1))) (prevOf (lists l) (k+1))=Pg.okPivots (lists l) none):=by
       show _=_;rw [←c.out,p.out,q.out];simp [Pg.rises,e]
      have s:Op.bytesLess I.toList h.toList=true:=by rw [toList_is,toList_is,less_is];exact decide_eq_true e
      clear e
      go_wp2_with fail
      refine (x _).mono ?_
      rintro r F ⟨rfl,rfl⟩
      go_wp2_with fail
      go_roundw
      case rel=> exact ⟨k+1,by omega,by go_num,B.out,a.out⟩
      case measure=> simp [intOf];omega
     ·have A:Hid (Pg.okPivots (lists l) none=false):=by
       show _=_;rw [←c.out,q.out];simp [Pg.rises,e]
      have s:Op.bytesLess I.toList h.toList=false:=by rw [toList_is,toList_is,less_is];exact decide_eq_false e
      clear e
      go_wp2_with fail
      refine (x _).mono ?_
      rintro r F ⟨rfl,rfl⟩
      go_wp2_with fail
      go_ret
      exact ⟨by rw [A.out];rfl,a.out⟩
  ·have R:Hid (Pg.okPivots (lists l) none=true):=by
    show _=_;rw [←c.out,List.drop_eq_nil_of_le (by omega)];rfl
   go_wp2_with fail
   go_ret
   exact ⟨by rw [R.out];rfl,a.out⟩
set_option maxHeartbeats 1000000 in
set_option maxRecDepth 100000 in
theorem areChildren_any (v:Value) (l:List Int) (w:World) (z:IsRow w v l.length (l.map (.int .i64))):
  Calls Tryz.prog 196 #[v] w fun r w'=> r= .returned (.bool (decide (1≤l.length)&&decide (l.length≤4)&&l.all Pg.okChild))∧Below w.heap.size w w':=by
 obtain ⟨B,vc,rfl,C,e⟩:=z
 have q:=hid e
 clear e
 go_enter Tryz.func196,Tryz.ntmps196
 by_cases E:l.length < 1
 ·go_wp2_with fail
  go_ret
  exact ⟨ret_bool (by rw [decide_eq_false (show ¬1≤l.length by omega)];rfl),Below.refl _ _⟩
 ·by_cases F:4 < l.length
  ·go_wp2_with fail
   go_ret
   exact ⟨ret_bool (by rw [decide_eq_false (show ¬l.length≤4 by omega)];simp),Below.refl _ _⟩
  ·have m:Hid ((decide (1≤l.length)&&decide (l.length≤4)&&l.all Pg.okChild)=l.all Pg.okChild):=by
    show _=_;rw [decide_eq_true (show 1≤l.length by omega),decide_eq_true (show l.length≤4 by omega)];rfl
   go_wp2_with fail
   go_loopw [15] (fun i wr=>∃k:Nat,k≤l.length∧i= .int .i64 k∧(l.drop k).all Pg.okChild=l.all Pg.okChild∧Below w.heap.size w wr) (fun i _=> l.length - (intOf i).toNat)
   case atStart=> exact ⟨0,Nat.zero_le _,rfl,rfl,Below.refl _ _⟩
   case round=>
    obtain ⟨k,D,rfl,h,f⟩:=hrel
    have a:=hid h
    have d:=hid f
    clear h f
    by_cases g:k < l.length
    ·obtain ⟨b,u,o,p,j⟩:=q.out.resolve_left (by omega)
     subst o
     have A:=rowAtI (pl:=l) j d.out p k g
     clear j
     rw [List.drop_eq_getElem_cons g,List.all_cons] at a
     generalize l[k]'g=c at*
     by_cases x:c < 0
     ·have n:Hid (l.all Pg.okChild=false):=by
       show _=_;rw [←a.out];unfold Pg.okChild;rw [decide_eq_false (show ¬0≤c by omega)];rfl
      go_wp2_with fail
      go_ret
      exact ⟨by rw [m.out,n.out];rfl,d.out⟩
     ·by_cases y:2147483647 < c
      ·have n:Hid (l.all Pg.okChild=false):=by
        show _=_;rw [←a.out];unfold Pg.okChild;rw [decide_eq_false (show ¬c≤2147483647 by omega)];simp
       go_wp2_with fail
       go_ret
       exact ⟨by rw [m.out,n.out];rfl,d.out⟩
      ·have s:Hid ((l.drop (k+1)).all Pg.okChild=l.all Pg.okChild):=by
        show _=_;rw [←a.out];unfold Pg.okChild;rw [decide_eq_true (show 0≤c by omega),decide_eq_true (show c≤2147483647 by omega)];simp
       go_wp2_with fail
       go_roundw
       case rel=> exact ⟨k+1,by omega,by go_num,s.out,d.out⟩
       case measure=> simp [intOf];omega
    ·have t:Hid (l.all Pg.okChild=true):=by
      show _=_;rw [←a.out,List.drop_eq_nil_of_le (by omega)];rfl
     go_wp2_with fail
     go_ret
     exact ⟨by rw [m.out,t.out];rfl,d.out⟩
end Go.Proofs.YtolgpnaoaodepaaGreat
