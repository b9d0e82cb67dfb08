import Derived.Test.YtolgpnaoaodepaaGreatScaOm
import Derived.Test.YtolgpnaoaodepaaGreatMathHm
import Derived.Test.YtolgpnaoaodepaaGreatTreEm
import Derived.Test.YtolgpnaoaodepaaGreatAidBm
namespace Go.Proofs.YtolgpnaoaodepaaGreat
open Go.RowKit
def ScB (w:World) (sb:Nat) (fr ub:ByteArray) (v:Value):Prop:=w.heap[sb]?=some (.cells #[.string fr,.string ub,v] 143 (0,0))
theorem ScB.lt {w:World} {a:Nat} {b ub:ByteArray} {v:Value} (h:ScB w a b ub v):a < w.heap.size:=(Array.getElem?_eq_some_iff.1 h).1
theorem ScB.cells {w:World} {a:Nat} {b ub:ByteArray} {v:Value} (h:ScB w a b ub v):w.cell? ⟨a,0,none⟩=some (.string b)∧w.cell? ⟨a,1,none⟩=some (.string ub)∧w.cell? ⟨a,2,none⟩=some v∧w.frozen? ⟨a,2,none⟩=false:=by
 unfold ScB at h
 refine ⟨?_,?_,?_,?_⟩ <;> simp [World.cell?,World.frozen?,h]
theorem ScB.set {w:World} {a:Nat} {b ub:ByteArray} {v:Value} (h:ScB w a b ub v) (u:Value):ScB (w.setCell ⟨a,2,none⟩ u) a b ub u:=by unfold ScB at*;rw [heap_setCell_at (i:=2) h];rfl
theorem OwnsPt.prefix {B:Nat} {w:World} {g a n:Nat} {bs m:List Nat} (h:OwnsPt B w (.slice (some ⟨g,0,none⟩) n a) (bs++m)):OwnsPt B w (.slice (some ⟨g,0,none⟩) bs.length a) bs:=by
 rcases h.2 with ⟨e,o⟩ | ⟨p,f,b,e,i,j,k,l,c,d⟩
 ·simp at e
 ·simp only [Value.slice.injEq,Option.some.injEq,Addr.mk.injEq,and_true] at e
  obtain ⟨rfl,-,rfl⟩:=e
  refine ⟨by rw [ptcells_len,Nat.mul_one],.inr ⟨g,a,b,rfl,i,j,?_,l,c,?_⟩⟩
  ·rw [List.length_append] at k;omega
  ·have:=congrArg (List.take (bs.length*1)) d
   rw [List.take_take,List.length_append,Nat.min_eq_left (by omega)] at this
   rw [this]
   unfold ptcells
   rw [List.map_append,Nat.mul_one,List.take_left' (by simp)]
set_option maxHeartbeats 400000 in
theorem pPop_any (d:Nat) (n ub:ByteArray) (v:Value) (bs:List Nat) (b:Nat) (w:World) (j:ScB w d n ub v) (h:OwnsPt 0 w v (bs++[b])) (u:bs.length≤1000000000):
  Calls Tryz.prog 295 #[.pointer (some ⟨d,2,none⟩)] w fun r w'=> r= .returned (.iface 137 (.pointer (some ⟨b,0,none⟩)))∧∃c,w'=w.setCell ⟨d,2,none⟩ c∧OwnsPt 0 w c bs∧c.ownBlock=v.ownBlock:=by
 have a:bs.length < (bs++[b]).length:=by simp
 obtain ⟨g,l,rfl,f,-,p,m,-⟩:=h.at bs.length a
 have e:(bs++[b])[bs.length]'a=b:=by simp
 rw [e] at m
 have k:=hid h.prefix
 obtain ⟨q,s,i,t⟩:=j.cells
 rw [List.length_append] at i f ⊢
 simp only [List.length_singleton] at i f ⊢
 have o:IntKind.i64.wrap (((bs.length+1:Nat):Int) - 1)=(bs.length:Int):=by rw [IntKind.wrap_i64];omega
 clear h j e a
 go_enter Tryz.func295,Tryz.ntmps295
 go_wp2_with fail
 go_ret
 exact ⟨rfl,_,rfl,k.out,rfl⟩
end Go.Proofs.YtolgpnaoaodepaaGreat
namespace Go.Proofs.YtolgpnaoaodepaaGreat
open Go.RowKit
theorem load_cell (a:Addr) (w:World) (v:Value) (h:w.cell? a=some v):(load a).run Tryz.prog w= .ok v w:=by
 go_simp
theorem mLen0 (a:Addr) (w:World):(method 417 193 (.pointer (some a)) "Len").run Tryz.prog w=((load a) >>=fun x=> pure (292,x):Sem _).run Tryz.prog w:=by kernel_rfl
theorem mLess0 (a:Addr) (w:World):(method 417 193 (.pointer (some a)) "Less").run Tryz.prog w=((load a) >>=fun x=> pure (293,x):Sem _).run Tryz.prog w:=by kernel_rfl
theorem mSwap0 (a:Addr) (w:World):(method 417 193 (.pointer (some a)) "Swap").run Tryz.prog w=((load a) >>=fun x=> pure (294,x):Sem _).run Tryz.prog w:=by kernel_rfl
theorem mPop (a:Addr) (w:World):(method 417 193 (.pointer (some a)) "Pop").run Tryz.prog w= .ok (295,.pointer (some a)) w:=by kernel_rfl
theorem mPush (a:Addr) (w:World):(method 417 193 (.pointer (some a)) "Push").run Tryz.prog w= .ok (296,.pointer (some a)) w:=by kernel_rfl
theorem mLen (a:Addr) (w:World) (v:Value) (h:w.cell? a=some v):(method 417 193 (.pointer (some a)) "Len").run Tryz.prog w= .ok (292,v) w:=by
 rw [mLen0]
 have:=load_cell a w v h
 go_simp
theorem mLess (a:Addr) (w:World) (v:Value) (h:w.cell? a=some v):(method 417 193 (.pointer (some a)) "Less").run Tryz.prog w= .ok (293,v) w:=by
 rw [mLess0]
 have:=load_cell a w v h
 go_simp
theorem mSwap (a:Addr) (w:World) (v:Value) (h:w.cell? a=some v):(method 417 193 (.pointer (some a)) "Swap").run Tryz.prog w= .ok (294,v) w:=by
 rw [mSwap0]
 have:=load_cell a w v h
 go_simp
theorem blk_type {w:World} {b:Nat} {f:Array Value} {T:TypeId} (h:w.heap[b]?=some (.cells f T (0,0))) {B:Nat} {e:TypeId} {s n:Nat} {v:Value} {xs:List Value} (i:w.ownsRow B e s v n xs) (j:e≠T):v.ownBlock≠some b:=by
 intro q
 rcases i.2 with ⟨rfl,_⟩ | ⟨g,c,d,rfl,k,a,_⟩
 ·simp [Value.ownBlock] at q
 ·have:g=b:=by simpa [Value.ownBlock] using q
  subst this
  rw [h] at a
  simp at a
  exact j a.2.symm
theorem gr_trans {w e f:World} {r:Option Nat} (a:w.grownBy e r) (c:e.grownBy f r):w.grownBy f r:=
 ⟨c.os.trans a.os,c.tape.trans a.tape,c.output.trans a.output,Nat.le_trans a.size c.size,fun k d b=> (c.block k (Nat.lt_of_lt_of_le d a.size) b).trans (a.block k d b)⟩
theorem grown_below {w a:World} (r:Option Nat) (h:Below w.heap.size w a):w.grownBy a r:=⟨h.os,h.tape,h.output,h.size,fun k b _=> h.block k b⟩
def IsBool (r:Ending):Prop:=∃q,r= .returned (.bool q)
def PlK (w:World) (K:Nat→ByteArray×Nat) (bs:List Nat):Prop:=∀b∈bs,∃un ch,PlB w b (K b).1 (K b).2 un ch
def ltK (K:Nat→ByteArray×Nat) (a b:Nat):Prop:=lessB (K a).1 (K a).2 (K b).1 (K b).2=true
structure HpS (w:World) (sb:Nat) (fr ub:ByteArray) (v:Value) (K:Nat→ByteArray×Nat) (bs0 bs:List Nat) (wr:World):Prop where
 sc:ScB wr sb fr ub v
 row:OwnsPt 0 wr v bs
 pl:PlK wr K bs
 perm:bs.Perm bs0
 gr:w.grownBy wr v.ownBlock
theorem HpS.below {w:World} {f:Nat} {g ub:ByteArray} {v:Value} {K:Nat→ByteArray×Nat} {a bs:List Nat} {wr w':World} (h:HpS w f g ub v K a bs wr) (d:Below wr.heap.size wr w'):HpS w f g ub v K a bs w':=
 ⟨(d.block f h.sc.lt).trans h.sc,row_below h.row d (Nat.le_refl _),fun b e=> by obtain ⟨u,c,q⟩:=h.pl b e;exact ⟨u,c,(d.block b q.lt).trans q⟩,h.perm,gr_trans h.gr (grown_below _ d)⟩
theorem HpS.swap {w:World} {k:Nat} {n ub:ByteArray} {v:Value} {K:Nat→ByteArray×Nat} {d bs:List Nat} {wr w':World} (h:HpS w k n ub v K d bs wr) {i j:Nat} (hi:i < bs.length) (o:j < bs.length) (p:OwnsPt 0 w' v (Hp.swL 0 bs i j)) (l:wr.grownBy w' v.ownBlock):HpS w k n ub v K d (Hp.swL 0 bs i j) w':=by
 have m:=Hp.swL_perm 0 bs hi o
 have f:∀b∈bs,v.ownBlock≠some b:=fun b g=> by obtain ⟨u,c,q⟩:=h.pl b g;exact blk_type q h.row (by decide)
 refine ⟨(l.block k h.sc.lt (fun e=> blk_type h.sc h.row (by decide) e.symm)).trans h.sc,p,fun b g=> ?_,m.trans h.perm,gr_trans h.gr l⟩
 have a:=m.mem_iff.1 g
 obtain ⟨u,c,q⟩:=h.pl b a
 exact ⟨u,c,(l.block b q.lt (fun e=> f b a e.symm)).trans q⟩
set_option maxHeartbeats 2000000 in
set_option maxRecDepth 4000 in
theorem hDown_any (A:Nat) (Z ub:ByteArray) (v:Value) (K:Nat→ByteArray×Nat) (bs:List Nat) (n:Nat) (w:World) (hs:ScB w A Z ub v) (h:OwnsPt 0 w v bs) (y:PlK w K bs) (hn:n≤bs.length) (hl:bs.length≤1000000000) (hd:Hp.DownI (ltK K) (Hp.nth 0 bs) n 0) (O:Hp.Ord (ltK K)):
  Calls Tryz.prog 185 #[.iface 193 (.pointer (some ⟨A,2,none⟩)),.int .i64 0,.int .i64 (n:Nat)] w fun r w'=> IsBool r∧∃a,HpS w A Z ub v K bs a w'∧Hp.Heap (ltK K) (Hp.nth 0 a) n∧∀k,n≤k→Hp.nth 0 a k=Hp.nth 0 bs k:=by
 have H0:Hid (HpS w A Z ub v K bs bs w):=⟨hs,h,y,List.Perm.refl _,World.grownBy.refl _ _⟩
 have HD:=hid hd
 have J:=hid O
 clear hs h y hd O
 go_enter Tryz.func185,Tryz.ntmps185
 go_wp2_with fail
 go_loopw [7] (fun vi wr=>∃i a,vi= .int .i64 (i:Nat)∧i < 2000000000∧HpS w A Z ub v K bs a wr∧Hp.DownI (ltK K) (Hp.nth 0 a) n i∧∀k,n≤k→Hp.nth 0 a k=Hp.nth 0 bs k) (fun vi _=> n - (intOf vi).toNat)
 case atStart=> exact ⟨0,bs,rfl,by decide,H0.out,HD.out,fun _ _=> rfl⟩
 case round=>
  obtain ⟨i,a,rfl,hi,hS,hD,hK⟩:=hrel
  have p:=hid hS
  have B:=hid hD
  have HK:=hid hK
  have a7:a.length=bs.length:=hS.perm.length_eq
  clear hS hD hK
  have C:IntKind.i64.wrap (2*(i:Int))=((2*i:Nat):Int):=by rw [IntKind.wrap_i64];omega
  have D:IntKind.i64.wrap (((2*i:Nat):Int)+1)=((2*i+1:Nat):Int):=by rw [IntKind.wrap_i64];omega
  have E:IntKind.i64.wrap (((2*i+1:Nat):Int)+1)=((2*i+2:Nat):Int):=by rw [IntKind.wrap_i64];omega
  by_cases hj:2*i+1 < n
  ·have T:¬((n:Int)≤((2*i+1:Nat):Int)):=by omega
   have c2:¬(((2*i+1:Nat):Int) < 0):=by omega
   have b:2*i+1 < a.length:=by omega
   have d:i < a.length:=by omega
   have U:Hid ((∃f:2*i+2 < a.length,2*i+2 < n∧lessB (K (a[2*i+2]'f)).1 (K (a[2*i+2]'f)).2 (K (a[2*i+1]'b)).1 (K (a[2*i+1]'b)).2=true)∨(∃f:2*i+2 < a.length,2*i+2 < n∧lessB (K (a[2*i+2]'f)).1 (K (a[2*i+2]'f)).2 (K (a[2*i+1]'b)).1 (K (a[2*i+1]'b)).2=false)∨¬2*i+2 < n):=by
    by_cases q:2*i+2 < n
    ·have V:2*i+2 < a.length:=by omega
     cases l:lessB (K (a[2*i+2]'V)).1 (K (a[2*i+2]'V)).2 (K (a[2*i+1]'b)).1 (K (a[2*i+1]'b)).2 with
     | true=> exact .inl ⟨V,q,l⟩
     | false=> exact .inr (.inl ⟨V,q,l⟩)
    ·exact .inr (.inr q)
   have L:Hid (∀f:2*i+2 < a.length,Calls Tryz.prog 293 #[v,.int .i64 (2*(i:Int)+1+1),.int .i64 (2*(i:Int)+1)] wr fun r w'=> r= .returned (.bool (lessB (K (a[2*i+2]'f)).1 (K (a[2*i+2]'f)).2 (K (a[2*i+1]'b)).1 (K (a[2*i+1]'b)).2))∧Below wr.heap.size wr w'):=by
    intro f
    obtain ⟨u1,a4,P⟩:=p.out.pl _ (List.getElem_mem b)
    obtain ⟨u2,a5,Q⟩:=p.out.pl _ (List.getElem_mem f)
    have:=pLess_any v a (2*i+2) (2*i+1) wr p.out.row f b _ _ _ _ _ _ _ _ Q P
    rw [show ((2*i+2:Nat):Int)=2*(i:Int)+1+1 by omega,show ((2*i+1:Nat):Int)=2*(i:Int)+1 by omega] at this
    exact this
   have F:=Hp.nth_get 0 a b
   have W:=mLess ⟨A,2,none⟩ wr v p.out.sc.cells.2.2.1
   have M:=hid F
   clear F
   rcases U.out with ⟨f,o,l⟩ | ⟨f,o,l⟩ | o
   case' inl=>
    have t:=Hp.nth_get 0 a f
    have X:Hid (∀k,0 < k→k < n→(k - 1) / 2=i→¬ltK K (Hp.nth 0 a k) (Hp.nth 0 a (2*i+2))):=fun k h0 I y=> by
     rcases (show k=2*i+1∨k=2*i+2 by omega) with rfl | rfl
     ·refine J.out.asy ?_
      rw [M.out,t];exact l
     ·exact fun z=> J.out.asy z z
    have m:=hid (L.out f)
    rw [l] at m
    have N:(2*(i:Int)+1+1) < (n:Int):=by omega
    clear l t U L
    go_wp2_with fail
    refine m.out.mono ?_
    rintro r Y ⟨rfl,c⟩
    have g:=hid (p.out.below c)
    clear c m p W
    go_upto_region 8 with fail
    have x:2*(i:Int)+1+1=((2*i+2:Nat):Int):=by omega
    rw [x]
    have G:2*i+2 < a.length∧i < 2*i+2∧(2*i+2 - 1) / 2=i:=⟨f,by omega,by omega⟩
    clear x C D E T c2 N
    generalize 2*i+2=j at*
   case' inr.inl=>
    have t:=Hp.nth_get 0 a f
    have X:Hid (∀k,0 < k→k < n→(k - 1) / 2=i→¬ltK K (Hp.nth 0 a k) (Hp.nth 0 a (2*i+1))):=fun k h0 I y=> by
     rcases (show k=2*i+1∨k=2*i+2 by omega) with rfl | rfl
     ·exact fun z=> J.out.asy z z
     ·rw [M.out,t];unfold ltK;rw [l];simp
    have m:=hid (L.out f)
    rw [l] at m
    have N:(2*(i:Int)+1+1) < (n:Int):=by omega
    clear l t U L
    go_wp2_with fail
    refine m.out.mono ?_
    rintro r Y ⟨rfl,c⟩
    have g:=hid (p.out.below c)
    clear c m p W
    go_upto_region 8 with fail
    have x:2*(i:Int)+1=((2*i+1:Nat):Int):=by omega
    rw [x]
    clear o
    have o:2*i+1 < n:=hj
    have G:2*i+1 < a.length∧i < 2*i+1∧(2*i+1 - 1) / 2=i:=⟨b,by omega,by omega⟩
    clear x C D E T c2 N
    generalize 2*i+1=j at*
   case' inr.inr=>
    have X:Hid (∀k,0 < k→k < n→(k - 1) / 2=i→¬ltK K (Hp.nth 0 a k) (Hp.nth 0 a (2*i+1))):=fun k h0 I y=> by
     rcases (show k=2*i+1∨k=2*i+2 by omega) with rfl | rfl
     ·exact fun z=> J.out.asy z z
     ·omega
    have N:¬((2*(i:Int)+1+1) < (n:Int)):=by omega
    clear U L W
    have g:=hid p.out
    clear p
    go_upto_region 8 with fail
    have x:2*(i:Int)+1=((2*i+1:Nat):Int):=by omega
    rw [x]
    clear o
    have o:2*i+1 < n:=hj
    have G:2*i+1 < a.length∧i < 2*i+1∧(2*i+1 - 1) / 2=i:=⟨b,by omega,by omega⟩
    clear x C D E T c2 N
    generalize 2*i+1=j at*
    generalize wr=Y at*
   all_goals
    obtain ⟨e,a9,a6⟩:=G
    obtain ⟨u1,a4,P⟩:=g.out.pl _ (List.getElem_mem e)
    obtain ⟨u2,a5,Q⟩:=g.out.pl _ (List.getElem_mem d)
    have u:=hid (pLess_any v a j i Y g.out.row e d _ _ _ _ _ _ _ _ P Q)
    have W:=mLess ⟨A,2,none⟩ Y v g.out.sc.cells.2.2.1
    have F:=Hp.nth_get 0 a e
    have t:=Hp.nth_get 0 a d
    cases l:lessB (K (a[j]'e)).1 (K (a[j]'e)).2 (K (a[i]'d)).1 (K (a[i]'d)).2 with
    | true=>
     rw [l] at u
     have H:Hid (ltK K (Hp.nth 0 a j) (Hp.nth 0 a i)):=by show ltK K _ _;rw [F,t];exact l
     clear P Q F t l
     go_wp2_with fail
     refine u.out.mono ?_
     rintro r w5 ⟨rfl,c⟩
     have s:=hid (g.out.below c)
     have a8:=mSwap ⟨A,2,none⟩ w5 v s.out.sc.cells.2.2.1
     have a0:=hid (pSwap_any v a i j w5 s.out.row d e)
     go_wp2_with fail
     refine a0.out.mono ?_
     rintro r w6 ⟨rfl,R,S,-⟩
     have a1:=hid (s.out.swap d e R S)
     have a2:Hid (Hp.DownI (ltK K) (Hp.nth 0 (Hp.swL 0 a i j)) n j):=by
      have:=B.out.step J.out o (by omega) a6 X.out H.out
      rw [show Hp.nth 0 (Hp.swL 0 a i j)=Hp.swp (Hp.nth 0 a) i j from funext fun k=> Hp.swL_nth 0 a d e k]
      exact this
     have a3:Hid (∀k,n≤k→Hp.nth 0 (Hp.swL 0 a i j) k=Hp.nth 0 bs k):=fun k I=> by
      rw [Hp.swL_nth 0 a d e k,Hp.swp_o _ (by omega) (by omega)]
      exact HK.out k I
     clear R S c
     go_wp2_with fail
     exact ⟨⟨j,_,rfl,by omega,a1.out,a2.out,a3.out⟩,by simp [intOf];omega⟩
    | false=>
     rw [l] at u
     have H:Hid (¬ltK K (Hp.nth 0 a j) (Hp.nth 0 a i)):=by show ¬ltK K _ _;rw [F,t];unfold ltK;rw [l];simp
     have HF:Hid (Hp.Heap (ltK K) (Hp.nth 0 a) n):=B.out.done fun k h0 I y=> J.out.tr H.out (X.out k h0 I y)
     clear P Q F t l
     go_wp2_with fail
     refine u.out.mono ?_
     rintro r w5 ⟨rfl,c⟩
     have s:=hid (g.out.below c)
     go_wp2_with fail
     go_ret
     exact ⟨⟨_,rfl⟩,a,s.out,HF.out,HK.out⟩
  ·have T:(n:Int)≤((2*i+1:Nat):Int):=by omega
   have HF:Hid (Hp.Heap (ltK K) (Hp.nth 0 a) n):=B.out.done fun k h0 I y=> by omega
   go_wp2_with fail
   go_ret
   exact ⟨⟨_,rfl⟩,a,p.out,HF.out,HK.out⟩
end Go.Proofs.YtolgpnaoaodepaaGreat
namespace Go.Proofs.YtolgpnaoaodepaaGreat
open Go.RowKit
set_option maxHeartbeats 2000000 in
set_option maxRecDepth 4000 in
theorem hUp_any (m:Nat) (u ub:ByteArray) (v:Value) (K:Nat→ByteArray×Nat) (bs:List Nat) (n:Nat) (w:World) (M:ScB w m u ub v) (h:OwnsPt 0 w v bs) (N:PlK w K bs) (hn:bs.length=n+1) (hl:bs.length≤1000000000) (P:Hp.Heap (ltK K) (Hp.nth 0 bs) n) (O:Hp.Ord (ltK K)):
  Calls Tryz.prog 236 #[.iface 193 (.pointer (some ⟨m,2,none⟩)),.int .i64 (n:Nat)] w fun r w'=> r= .returned (.tuple #[])∧∃a,HpS w m u ub v K bs a w'∧Hp.Heap (ltK K) (Hp.nth 0 a) (n+1):=by
 have Q:Hid (HpS w m u ub v K bs bs w):=⟨M,h,N,List.Perm.refl _,World.grownBy.refl _ _⟩
 have R:Hid (Hp.UpI (ltK K) (Hp.nth 0 bs) (n+1) n):=Hp.UpI.start P
 have S:=hid O
 clear M h N P O
 go_enter Tryz.func236,Tryz.ntmps236
 go_wp2_with fail
 go_loopw [1] (fun G wr=>∃j a,G= .int .i64 (j:Nat)∧j≤n∧HpS w m u ub v K bs a wr∧Hp.UpI (ltK K) (Hp.nth 0 a) (n+1) j) (fun G _=> (intOf G).toNat)
 case atStart=> exact ⟨n,bs,rfl,Nat.le_refl _,Q.out,R.out⟩
 case round=>
  obtain ⟨j,a,rfl,Z,C,L⟩:=hrel
  have g:=hid C
  have l:=hid L
  have I:a.length=bs.length:=C.perm.length_eq
  clear C L
  have T:IntKind.i64.wrap ((j:Int) - 1)=(j:Int) - 1:=by rw [IntKind.wrap_i64];omega
  by_cases H:j=0
  ·subst H
   have x:Hid (Hp.Heap (ltK K) (Hp.nth 0 a) (n+1)):=l.out.done (.inl rfl)
   go_wp2_with fail
   go_end0
   exact ⟨rfl,a,g.out,x.out⟩
  ·obtain ⟨i,hi⟩:∃i,i=(j - 1) / 2:=⟨_,rfl⟩
   have U:i < j:=by omega
   have V:IntKind.i64.wrap (((j:Int) - 1).tdiv 2)=(i:Int):=by
    rw [show ((j:Int) - 1)=((j - 1:Nat):Int) by omega,Int.tdiv_eq_ediv_of_nonneg (by omega),IntKind.wrap_i64];omega
   have W:((j:Int) - 1).tdiv 2=(i:Int):=by
    rw [show ((j:Int) - 1)=((j - 1:Nat):Int) by omega,Int.tdiv_eq_ediv_of_nonneg (by omega)];omega
   have J:=hid hi
   clear hi
   have X:((i:Int)==(j:Int))=false:=by simp;omega
   have b:j < a.length:=by omega
   have c:i < a.length:=by omega
   obtain ⟨u1,a0,D⟩:=g.out.pl _ (List.getElem_mem b)
   obtain ⟨u2,a1,E⟩:=g.out.pl _ (List.getElem_mem c)
   have e:=hid (pLess_any v a j i wr g.out.row b c _ _ _ _ _ _ _ _ D E)
   have hm:=mLess ⟨m,2,none⟩ wr v g.out.sc.cells.2.2.1
   have s:=Hp.nth_get 0 a b
   have t:=Hp.nth_get 0 a c
   cases o:lessB (K (a[j]'b)).1 (K (a[j]'b)).2 (K (a[i]'c)).1 (K (a[i]'c)).2 with
   | true=>
    rw [o] at e
    have y:Hid (ltK K (Hp.nth 0 a j) (Hp.nth 0 a i)):=by show ltK K _ _;rw [s,t];exact o
    clear D E s t o
    go_wp2_with fail
    refine e.out.mono ?_
    rintro r F ⟨rfl,f⟩
    have d:=hid (g.out.below f)
    have Y:=mSwap ⟨m,2,none⟩ F v d.out.sc.cells.2.2.1
    have z:=hid (pSwap_any v a i j F d.out.row c b)
    go_wp2_with fail
    refine z.out.mono ?_
    rintro r w6 ⟨rfl,p,q,-⟩
    have A:=hid (d.out.swap c b p q)
    have B:Hid (Hp.UpI (ltK K) (Hp.nth 0 (Hp.swL 0 a i j)) (n+1) i):=by
     have:=l.out.step S.out J.out (by omega) (by omega) y.out
     rw [show Hp.nth 0 (Hp.swL 0 a i j)=Hp.swp (Hp.nth 0 a) i j from funext fun k=> Hp.swL_nth 0 a c b k]
     exact this
    clear p q f
    go_wp2_with fail
    exact ⟨⟨i,_,rfl,by omega,A.out,B.out⟩,by simp [intOf];omega⟩
   | false=>
    rw [o] at e
    have x:Hid (Hp.Heap (ltK K) (Hp.nth 0 a) (n+1)):=l.out.done (.inr (by rw [←J.out,s,t];unfold ltK;rw [o];simp))
    clear D E s t o
    go_wp2_with fail
    refine e.out.mono ?_
    rintro r F ⟨rfl,f⟩
    have d:=hid (g.out.below f)
    go_wp2_with fail
    go_end0
    exact ⟨rfl,a,d.out,x.out⟩
theorem HpS.trans {w:World} {e:Nat} {f ub:ByteArray} {v:Value} {K:Nat→ByteArray×Nat} {a b c:List Nat} {g h:World} (i:HpS w e f ub v K a b g) (d:HpS g e f ub v K b c h):HpS w e f ub v K a c h:=⟨d.sc,d.row,d.pl,d.perm.trans i.perm,gr_trans i.gr d.gr⟩
structure HpQ (sb:Nat) (fr ub:ByteArray) (v:Value) (K:Nat→ByteArray×Nat) (bs:List Nat) (w:World):Prop where
 sc:ScB w sb fr ub v
 row:OwnsPt 0 w v bs
 pl:PlK w K bs
 heap:Hp.Heap (ltK K) (Hp.nth 0 bs) bs.length
theorem getLast_nth (bs:List Nat) {n:Nat} (h:bs.length=n+1):bs=bs.take n++[Hp.nth 0 bs n]:=by
 rw [Hp.nth_get 0 bs (by omega),List.take_append_getElem (by omega),List.take_of_length_le (by omega)]
set_option maxHeartbeats 400000 in
set_option maxRecDepth 4000 in
theorem hPop_any (l:Nat) (E ub:ByteArray) (v:Value) (K:Nat→ByteArray×Nat) (bs:List Nat) (w:World) (h:HpQ l E ub v K bs w) (a4:0 < bs.length) (hl:bs.length≤1000000000) (O:Hp.Ord (ltK K)):
  Calls Tryz.prog 131 #[.iface 193 (.pointer (some ⟨l,2,none⟩))] w fun r w'=>∃b D p,r= .returned (.iface 137 (.pointer (some ⟨b,0,none⟩)))∧bs.Perm (b::D)∧(∀c∈D,¬ltK K c b)∧HpQ l E ub p K D w'∧p.ownBlock=v.ownBlock∧(∀g,g < w.heap.size→g≠l→v.ownBlock≠some g→w'.heap[g]?=w.heap[g]?)∧w.heap.size≤w'.heap.size∧w'.os=w.os∧w'.tape=w.tape∧w'.output=w.output:=by
 obtain ⟨n,hn⟩:∃n,bs.length=n+1:=⟨bs.length - 1,by omega⟩
 obtain ⟨a,c,hv⟩:=rowShape h.row
 have H0:Hid (HpS w l E ub v K bs bs w):=⟨h.sc,h.row,h.pl,List.Perm.refl _,World.grownBy.refl _ _⟩
 have T:=hid h.heap
 have HO:=hid O
 have a5:=mLen ⟨l,2,none⟩ w v h.sc.cells.2.2.1
 have a6:=mSwap ⟨l,2,none⟩ w v h.sc.cells.2.2.1
 have F:=hid (pSwap_any v bs 0 n w h.row (by omega) (by omega))
 have xw:IntKind.i64.wrap (((n+1:Nat):Int) - 1)=(n:Int):=by rw [IntKind.wrap_i64];omega
 have a7:IntKind.i64.wrap ((n:Int)+1 - 1)=(n:Int):=by rw [IntKind.wrap_i64];omega
 have U:=hid (pLen_any a bs.length c w)
 rw [←hv,hn] at U
 clear hv
 have a8:=fun w'=> mPop ⟨l,2,none⟩ w'
 clear h O
 go_enter Tryz.func131,Tryz.ntmps131
 go_wp2_with fail
 refine U.out.mono ?_
 rintro r w ⟨rfl,rfl⟩
 go_wp2_with fail
 refine F.out.mono ?_
 rintro r w1 ⟨rfl,L,M,-⟩
 have s:=H0.out.swap (i:=0) (j:=n) (by omega) (by omega) L M
 have z:Hp.nth 0 (Hp.swL 0 bs 0 n)=Hp.swp (Hp.nth 0 bs) 0 n:=funext fun k=> Hp.swL_nth 0 bs (by omega) (by omega) k
 have G:Hp.DownI (ltK K) (Hp.nth 0 (Hp.swL 0 bs 0 n)) n 0:=by
  rw [z]
  have:=T.out
  rw [hn] at this
  exact Hp.DownI.start this
 have V:(Hp.swL 0 bs 0 n).length=n+1:=by rw [Hp.swL_len,hn]
 have W:=hid (hDown_any l E ub v K (Hp.swL 0 bs 0 n) n w1 s.sc s.row s.pl (by omega) (by omega) G HO.out)
 have X:=hid s
 clear s G L M F U
 go_wp2_with fail
 refine W.out.mono ?_
 rintro r A ⟨⟨q,rfl⟩,f,C,N,P⟩
 have Y:f.length=n+1:=by rw [C.perm.length_eq,V]
 have t:Hp.nth 0 f n=Hp.nth 0 bs 0:=by rw [P n (Nat.le_refl _),z,Hp.swp_j]
 have m:=getLast_nth f Y
 rw [t] at m
 have d:=X.out.trans C
 have o:=d.row
 rw [m] at o
 have HP:=hid (pPop_any l E ub v (f.take n) (Hp.nth 0 bs 0) A d.sc o (by simp;omega))
 have H:=hid d
 have I:=hid m
 have J:=hid N
 clear C N P d o t
 go_wp2_with fail
 refine HP.out.mono ?_
 rintro r w3 ⟨rfl,p,rfl,y,Q⟩
 have HF:Hid (bs.Perm (Hp.nth 0 bs 0::f.take n)∧(∀c∈f.take n,¬ltK K c (Hp.nth 0 bs 0))∧HpQ l E ub p K (f.take n) (A.setCell ⟨l,2,none⟩ p)∧p.ownBlock=v.ownBlock∧(∀g,g < w.heap.size→g≠l→v.ownBlock≠some g→(A.setCell ⟨l,2,none⟩ p).heap[g]?=w.heap[g]?)∧w.heap.size≤(A.setCell ⟨l,2,none⟩ p).heap.size∧(A.setCell ⟨l,2,none⟩ p).os=w.os∧(A.setCell ⟨l,2,none⟩ p).tape=w.tape∧(A.setCell ⟨l,2,none⟩ p).output=w.output):=by
  have d:=H.out
  have B:=but_set l 2 A p
  have x:bs.Perm (Hp.nth 0 bs 0::f.take n):=by
   have Z:=d.perm.symm
   have h2:f.Perm (Hp.nth 0 bs 0::f.take n):=by
    conv=> lhs;rw [I.out]
    exact List.perm_append_comm
   exact Z.trans h2
  refine ⟨x,fun c hc=> ?_,⟨d.sc.set p,?_,fun b a3=> ?_,?_⟩,Q,fun g R Z h2=> ?_,?_,?_,?_,?_⟩
  ·have a0:c∈bs:=x.mem_iff.2 (List.mem_cons_of_mem _ hc)
   obtain ⟨k,S,rfl⟩:=List.getElem_of_mem a0
   have:=T.out.root HO.out k S
   rw [Hp.nth_get 0 bs S] at this
   exact this
  ·refine row_same y fun g R _=> B.block g ?_ (fun e=> ?_)
   ·exact (World.ownsRow.lt y g R).2
   ·have:g=l:=by simpa using e
    rw [this] at R
    exact blk_type d.sc y (by decide) R
  ·have a1:b∈f:=List.mem_of_mem_take a3
   obtain ⟨u,c,q⟩:=d.pl b a1
   refine ⟨u,c,(B.block b q.lt (fun e=> ?_)).trans q⟩
   have e:b=l:=by simpa using e
   rw [e] at q
   have q1:=d.sc
   unfold PlB at q
   unfold ScB at q1
   rw [q] at q1
   simp at q1
  ·have a2:(f.take n).length=n:=by rw [List.length_take];omega
   rw [a2]
   refine J.out.congr fun k S=> ?_
   unfold Hp.nth
   rw [List.getElem?_take_of_lt S]
  ·exact (B.block g (by have:=d.gr.size;omega) (fun e=> Z (by simpa using e))).trans (d.gr.block g R (fun e=> h2 e.symm))
  ·have:=d.gr.size;have:=B.size;omega
  ·exact B.os.trans d.gr.os
  ·exact B.tape.trans d.gr.tape
  ·exact B.output.trans d.gr.output
 clear H I J HP T y Q
 go_wp2_with fail
 go_ret
 exact ⟨_,_,_,rfl,HF.out⟩
end Go.Proofs.YtolgpnaoaodepaaGreat
namespace Go.Proofs.YtolgpnaoaodepaaGreat
open Go.RowKit
theorem info_pt:(Tryz.prog.info? 137).map (fun i=> (i.zero,i.size,i.bytes))=some (some (.pointer none),1,8):=by kernel_rfl
theorem assertPt (a:Option Addr) (w:World):(Instr.typeAssert (.iface 137 (.pointer a)) 20 137 false).run Tryz.prog w= .ok (.pointer a) w:=by kernel_rfl
theorem one_ptcells (l:List Nat):∀v∈ptcells l,v.oneCell'=true:=fun v a=> by
 obtain ⟨b,_,rfl⟩:=List.mem_map.1 a;rfl
theorem row_one (w:World) (b:Nat):(w.alloc (.cells #[.pointer (some ⟨b,0,none⟩)] 137)).ownsRow 0 137 1 (.slice (some ⟨w.heap.size,0,none⟩) 1 1) 1 (ptcells [b]):=
 ⟨rfl,.inr ⟨w.heap.size,1,#[.pointer (some ⟨b,0,none⟩)],rfl,Nat.zero_le _,heap_alloc_new _ _,Nat.le_refl _,by unfold maxLen;omega,by simp,by simp [ptcells]⟩⟩
set_option maxHeartbeats 400000 in
set_option maxRecDepth 4000 in
theorem pPush_any (a:Nat) (z ub:ByteArray) (v:Value) (bs:List Nat) (b:Nat) (w:World) (n:ScB w a z ub v) (h:OwnsPt 0 w v bs) (V:bs.length≤100000000):
  Calls Tryz.prog 296 #[.pointer (some ⟨a,2,none⟩),.iface 137 (.pointer (some ⟨b,0,none⟩))] w fun r w'=> r= .returned (.tuple #[])∧∃y,ScB w' a z ub y∧OwnsPt 0 w' y (bs++[b])∧(y.ownBlock=v.ownBlock∨∃k,w.heap.size≤k∧y.ownBlock=some k)∧Mod (fun g=> g=a∨v.ownBlock=some g) w w':=by
 have c:Below w.heap.size w (w.alloc (.cells #[.pointer (some ⟨b,0,none⟩)] 137)):=(Below.refl _ w).alloc (Nat.le_refl _) _
 have E:OwnsPt 0 (w.alloc (.cells #[.pointer (some ⟨b,0,none⟩)] 137)) v bs:=row_below h c (Nat.le_refl _)
 obtain ⟨e,f,rfl⟩:=rowShape h
 obtain ⟨v2,m,F,x,G,H⟩:=run_rows (w.alloc (.cells #[.pointer (some ⟨b,0,none⟩)] 137)).drew 141 141 137 Tryz.underlying141 _ 1 8 info_pt rfl (by decide) (by decide) (.slice e bs.length f) (.slice (some ⟨w.heap.size,0,none⟩) 1 1) bs.length 1 (ptcells bs) (ptcells [b]) E (row_one w b) (one_ptcells _) (by omega)
 have o:(Value.slice e bs.length f).ownBlock≠some a:=blk_type n h (by decide)
 have s:Mod (fun _=> False) w (w.alloc (.cells #[.pointer (some ⟨b,0,none⟩)] 137)).drew:=⟨c.os,c.tape,c.output,c.size,fun k L _=> c.block k L⟩
 have A:Mod (fun k=> (Value.slice e bs.length f).ownBlock=some k) (w.alloc (.cells #[.pointer (some ⟨b,0,none⟩)] 137)).drew m:=Mod.of_grown G
 have t:Mod (fun g=> g=a∨(Value.slice e bs.length f).ownBlock=some g) w m:=s.trans A (fun _ _ q=> q.elim) (fun _ _ q=> .inr q)
 have d:ScB m a z ub (.slice e bs.length f):=(A.block a (Nat.lt_of_lt_of_le n.lt s.size) o).trans ((s.block a n.lt id).trans n)
 have B:=Mod.setCell m a 2 v2
 obtain ⟨i,j,l,rfl⟩:=shape3 x
 have u:(Value.slice i j l).ownBlock≠some a:=blk_type d x (by decide)
 have I:Hid (ScB (m.setCell ⟨a,2,none⟩ (.slice i j l)) a z ub (.slice i j l)∧OwnsPt 0 (m.setCell ⟨a,2,none⟩ (.slice i j l)) (.slice i j l) (bs++[b])∧((Value.slice i j l).ownBlock=(Value.slice e bs.length f).ownBlock∨∃k,w.heap.size≤k∧(Value.slice i j l).ownBlock=some k)∧Mod (fun g=> g=a∨(Value.slice e bs.length f).ownBlock=some g) w (m.setCell ⟨a,2,none⟩ (.slice i j l))):=by
  refine ⟨d.set _,B.row ?_ (fun g M q=> u (by rw [←q];exact M)),H.imp id (fun q=> ⟨_,s.size,q⟩),t.trans B (fun _ _ q=> q) (fun _ _ q=> .inl q)⟩
  rw [List.length_append,show ptcells (bs++[b])=ptcells bs++ptcells [b] by simp [ptcells]]
  exact x
 have C:=hid F
 obtain ⟨O,P,K,Q⟩:=n.cells
 obtain ⟨R,S,T,U⟩:=d.cells
 have D:=n.lt
 have N:(w.alloc (.cells #[.pointer (some ⟨b,0,none⟩)] 137)).cell? ⟨a,2,none⟩=some (.slice e bs.length f):=(c.cell (p:=⟨a,2,none⟩) D).trans K
 clear n h c E F x G H o s A t d B u
 have J:=fun W=> assertPt (some ⟨b,0,none⟩) W
 go_enter Tryz.func296,Tryz.ntmps296
 go_upto_region 0 with fail
 go_region_law (refine stepAp _ (by rfl) (.tmp 7) (.tmp 10) _ _ (by rfl) _ _ (by rfl) (by simp [Act.eval]) _ _ C.out ?_)
 all_goals
  go_wp2_with fail
  go_end0
  exact ⟨rfl,_,I.out⟩
end Go.Proofs.YtolgpnaoaodepaaGreat
