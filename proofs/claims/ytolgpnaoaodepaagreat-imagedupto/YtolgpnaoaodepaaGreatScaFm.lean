import Derived.Test.YtolgpnaoaodepaaGreatScaMm
import Derived.Test.YtolgpnaoaodepaaGreatTreZGm
import Derived.Deep.DeepCutAuto
namespace Go.Proofs.YtolgpnaoaodepaaGreat.Tr
open Hp
structure InsI (g:Nat→Ch) (i j:Nat):Prop where
 a:∀x y,x < y→y≤i→x≠j→y≠j→¬(g y).2.1 < (g x).2.1
 b:∀y,j < y→y≤i→¬(g y).2.1 < (g j).2.1
def RiseTo (g:Nat→Ch) (i:Nat):Prop:=∀x y,x < y→y < i→¬(g y).2.1 < (g x).2.1
theorem InsI.start {g:Nat→Ch} {i:Nat} (h:RiseTo g i):InsI g i i:=⟨fun x y a b c d=> h x y a (by omega),fun y a b=> by omega⟩
theorem InsI.step {g:Nat→Ch} {i j:Nat} (h:InsI g i (j+1)) (o:j+1≤i) (n:(g (j+1)).2.1 < (g j).2.1):InsI (swp g j (j+1)) i j:=by
 have d:¬(g j).2.1 < (g (j+1)).2.1:=fun q=> lt_ir _ (lt_tr q n)
 refine ⟨fun x y k c l m=> ?_,fun y k c=> ?_⟩
 ·by_cases e:y=j+1
  ·subst e
   rw [swp_j,swp_o g l (by omega)]
   exact h.a x j (by omega) (by omega) (by omega) (by omega)
  ·rw [swp_o g m e]
   by_cases f:x=j+1
   ·subst f;rw [swp_j]
    exact h.a j y (by omega) c (by omega) e
   ·rw [swp_o g l f];exact h.a x y k c f e
 ·rw [swp_i]
  by_cases e:y=j+1
  ·subst e;rw [swp_j];exact d
  ·rw [swp_o g (by omega) e];exact h.b y (by omega) c
theorem InsI.done {g:Nat→Ch} {i j:Nat} (h:InsI g i j) (k:j=0∨¬(g j).2.1 < (g (j - 1)).2.1):RiseTo g (i+1):=by
 intro x y c l
 by_cases d:x=j
 ·rw [d] at c ⊢;exact h.b y c (by omega)
 ·by_cases f:y=j
  ·rcases k with q | q
   ·omega
   ·rw [f]
    by_cases e:x=j - 1
    ·rw [e];exact q
    ·exact le_tr (h.a x (j - 1) (by omega) (by omega) d (by omega)) q
  ·exact h.a x y c (by omega) d f
theorem swL_two (d:Ch) (l:List Ch) {j:Nat} (h:j+1 < l.length):swL d l j (j+1)=l.take j++nth d l (j+1)::nth d l j::l.drop (j+2):=by
 apply List.ext_getElem?
 intro k
 unfold swL
 rw [List.getElem?_set,List.length_set,List.getElem?_set]
 rcases Nat.lt_trichotomy k j with q | q | q
 ·rw [if_neg (by omega),if_neg (by omega),List.getElem?_append_left (by simp;omega),List.getElem?_take_of_lt q]
 ·subst q
  rw [if_neg (by omega),if_pos rfl,if_pos (by omega),List.getElem?_append_right (by simp;omega)]
  simp [Nat.min_eq_left (show k≤l.length by omega)]
 ·rw [List.getElem?_append_right (by simp;omega),List.length_take,Nat.min_eq_left (by omega)]
  by_cases e:j+1=k
  ·subst e
   rw [if_pos rfl,if_pos h,show j+1 - j=1 by omega];rfl
  ·rw [if_neg e,if_neg (by omega)]
   obtain ⟨n,a⟩:∃n,k - j=n+2:=⟨k - j - 2,by omega⟩
   rw [a,List.getElem?_cons_succ,List.getElem?_cons_succ,List.getElem?_drop,show j+2+n=k by omega]
theorem swL_filter (d:Ch) (l:List Ch) {j:Nat} (h:j+1 < l.length) (f:(nth d l (j+1)).2.1 < (nth d l j).2.1) (k:Key):(swL d l j (j+1)).filter (hasKey k)=l.filter (hasKey k):=by
 have e:l=l.take j++nth d l j::nth d l (j+1)::l.drop (j+2):=by
  rw [nth_get d l (by omega),nth_get d l h,List.getElem_cons_drop,List.getElem_cons_drop,List.take_append_drop]
 rw [swL_two d l h]
 conv=> rhs;rw [e]
 rw [List.filter_append,List.filter_append]
 congr 1
 by_cases c:(nth d l j).2.1=k
 ·have b:¬(nth d l (j+1)).2.1=k:=fun q=> by rw [q,c] at f;exact lt_ir _ f
  rw [List.filter_cons_of_neg (by simpa [hasKey] using b),List.filter_cons_of_pos (p:=hasKey k) (decide_eq_true c),List.filter_cons_of_pos (p:=hasKey k) (decide_eq_true c),List.filter_cons_of_neg (by simpa [hasKey] using b)]
 ·rw [List.filter_cons_of_neg (a:=nth d l j) (p:=hasKey k) (by simpa [hasKey] using c)]
  by_cases b:(nth d l (j+1)).2.1=k
  ·rw [List.filter_cons_of_pos (p:=hasKey k) (decide_eq_true b),List.filter_cons_of_pos (p:=hasKey k) (decide_eq_true b),List.filter_cons_of_neg (by simpa [hasKey] using c)]
  ·rw [List.filter_cons_of_neg (by simpa [hasKey] using b),List.filter_cons_of_neg (by simpa [hasKey] using c),List.filter_cons_of_neg (by simpa [hasKey] using b)]
structure Stb (l l':List Ch):Prop where
 perm:l'.Perm l
 fil:∀k,l'.filter (hasKey k)=l.filter (hasKey k)
theorem Stb.refl (l:List Ch):Stb l l:=⟨List.Perm.refl _,fun _=> rfl⟩
theorem Stb.swap {l a:List Ch} (h:Stb l a) (d:Ch) {j:Nat} (b:j+1 < a.length) (c:(nth d a (j+1)).2.1 < (nth d a j).2.1):Stb l (swL d a j (j+1)):=
 ⟨(swL_perm d a (by omega) b).trans h.perm,fun k=> (swL_filter d a b c k).trans (h.fil k)⟩
theorem RiseTo.rise {d:Ch} {l:List Ch} (h:RiseTo (nth d l) l.length):Rise l:=by
 unfold Rise
 rw [List.pairwise_iff_getElem]
 intro x y c b a
 have:=h x y a b
 rw [nth_get d l c,nth_get d l b] at this
 exact this
theorem Stb.scd {d:Key} {l b:List Ch} (h:Stb (l.filter fun c=> !decide (c.2.1 < d)) b) (m:Rise b):Scd d l b:=by
 refine ⟨m,fun c i=> ?_,fun k j=> ?_,?_⟩
 ·have:=h.perm.mem_iff.1 i
  obtain ⟨f,g⟩:=List.mem_filter.1 this
  exact ⟨f,by simpa using g⟩
 ·rw [h.fil k,List.filter_filter]
  congr 1
  funext c
  by_cases e:c.2.1=k
  ·simp [hasKey,e];exact j
  ·simp [hasKey,e]
 ·rw [h.perm.length_eq];exact List.length_filter_le _ _
end Go.Proofs.YtolgpnaoaodepaaGreat.Tr
namespace Go.Proofs.YtolgpnaoaodepaaGreat
open Go.RowKit
theorem wgC:∀(ml:List (Int×ByteArray×ByteArray)) (i:Nat),i < ml.length→∀(c:Int×ByteArray×ByteArray),ccells (ml.set i c)=(((ccells ml).set (i*3) (.int .i64 c.1)).set (i*3+1) (.string c.2.1)).set (i*3+2) (.string c.2.2)
 | [],_,hi,_=> by simp at hi
 | d::r,0,_,c=> rfl
 | d::r,i+1,hi,c=> by
  have ih:=wgC r i (by simpa using hi) c
  have e:∀l,ccells (d::l)=Value.int .i64 d.1::Value.string d.2.1::Value.string d.2.2::ccells l:=fun l=> rfl
  rw [List.set_cons_succ,e,e,ih,show (i+1)*3=i*3+3 by omega]
  rfl
theorem OwnsC.set {w:World} {g b n:Nat} {ml:List (Int×ByteArray×ByteArray)} (h:OwnsC 0 w (.slice (some ⟨g,0,none⟩) n b) ml) (i:Nat) (hi:i < ml.length) (c:Int×ByteArray×ByteArray):OwnsC 0 (((w.setCell ⟨g,i*3,none⟩ (.int .i64 c.1)).setCell ⟨g,i*3+1,none⟩ (.string c.2.1)).setCell ⟨g,i*3+2,none⟩ (.string c.2.2)) (.slice (some ⟨g,0,none⟩) n b) (ml.set i c):=by
 obtain ⟨a,j,d⟩:=rowShape h
 simp only [Value.slice.injEq] at d
 obtain ⟨-,rfl,-⟩:=d
 have f:=row_store (row_store (row_store h (i*3) (.int .i64 c.1)) (i*3+1) (.string c.2.1)) (i*3+2) (.string c.2.2)
 unfold OwnsC
 rw [List.length_set]
 have e:ccells (ml.set i c)=(((ccells ml).set (i*3) (.int .i64 c.1)).set (i*3+1) (.string c.2.1)).set (i*3+2) (.string c.2.2):=wgC ml i hi c
 rw [e]
 exact f
theorem OwnsC.froz {w:World} {g a n:Nat} {ml:List (Int×ByteArray×ByteArray)} (h:OwnsC 0 w (.slice (some ⟨g,0,none⟩) n a) ml) (r:0 < ml.length) (o:Nat):w.frozen? ⟨g,o,none⟩=false:=by
 rcases h.2 with ⟨q,c⟩ | ⟨k,b,d,e,l,f,m,p,i,j⟩
 ·omega
 ·simp only [Value.slice.injEq,Option.some.injEq,Addr.mk.injEq,and_true] at e
  obtain ⟨rfl,-,rfl⟩:=e
  simp [World.frozen?,f]
theorem plainCh_set (ml:List (Int×ByteArray×ByteArray)) (i:Nat) (c:Int×ByteArray×ByteArray):plainCh (ml.set i c)=(plainCh ml).set i (c.1,c.2.1.data.toList,c.2.2.data.toList):=by
 unfold plainCh;rw [List.map_set]
theorem plainCh_nth (ml:List (Int×ByteArray×ByteArray)) {i:Nat} (hi:i < ml.length):Hp.nth (0,[],[]) (plainCh ml) i=((ml[i]'hi).1,(ml[i]'hi).2.1.data.toList,(ml[i]'hi).2.2.data.toList):=by
 rw [Hp.nth_get _ _ (by rw [plainCh_len];exact hi)]
 simp [plainCh]
structure SrM (w:World) (v:Value) (ml ml':List (Int×ByteArray×ByteArray)) (wr:World):Prop where
 row:OwnsC 0 wr v ml'
 stb:Tr.Stb (plainCh ml) (plainCh ml')
 mod:Mod (fun g=> v.ownBlock=some g) w wr
theorem SrM.len {w:World} {v:Value} {ml a:List (Int×ByteArray×ByteArray)} {wr:World} (h:SrM w v ml a wr):a.length=ml.length:=by
 rw [←plainCh_len a,←plainCh_len ml];exact h.stb.perm.length_eq
theorem SrM.below {w:World} {v:Value} {ml a:List (Int×ByteArray×ByteArray)} {wr w':World} (h:SrM w v ml a wr) (b:Below wr.heap.size wr w'):SrM w v ml a w':=
 ⟨row_below h.row b (Nat.le_refl _),h.stb,h.mod.trans (Mod.of_below (F:=fun _=> False) b) (fun _ _ q=> q) (fun _ _ q=> q.elim)⟩
def sw6 (w:World) (g j:Nat) (c0 c1:Int×ByteArray×ByteArray):World:=(((((w.setCell ⟨g,(j+1)*3,none⟩ (.int .i64 c0.1)).setCell ⟨g,(j+1)*3+1,none⟩ (.string c0.2.1)).setCell ⟨g,(j+1)*3+2,none⟩ (.string c0.2.2)).setCell ⟨g,j*3,none⟩ (.int .i64 c1.1)).setCell ⟨g,j*3+1,none⟩ (.string c1.2.1)).setCell ⟨g,j*3+2,none⟩ (.string c1.2.2)
theorem Mod.set3 (w:World) (g i:Nat) (a b c:Value):Mod (fun k=> k=g) w (((w.setCell ⟨g,i,none⟩ a).setCell ⟨g,i+1,none⟩ b).setCell ⟨g,i+2,none⟩ c):=
 ((Mod.setCell w g i a).trans (Mod.setCell _ g (i+1) b) (fun _ _ q=> q) (fun _ _ q=> q)).trans (Mod.setCell _ g (i+2) c) (fun _ _ q=> q) (fun _ _ q=> q)
theorem SrM.swap {w:World} {g d n:Nat} {ml a:List (Int×ByteArray×ByteArray)} {wr:World} (h:SrM w (.slice (some ⟨g,0,none⟩) n d) ml a wr) (j:Nat) (l:j+1 < a.length) (f:j < a.length) {b c:Int×ByteArray×ByteArray} (r:a[j]'f=b) (s:a[j+1]'l=c) (p:c.2.1.data.toList < b.2.1.data.toList):
  SrM w (.slice (some ⟨g,0,none⟩) n d) ml ((a.set (j+1) b).set j c) (sw6 wr g j b c).drew∧plainCh ((a.set (j+1) b).set j c)=Hp.swL (0,[],[]) (plainCh a) j (j+1):=by
 have e:plainCh ((a.set (j+1) b).set j c)=Hp.swL (0,[],[]) (plainCh a) j (j+1):=by
  unfold Hp.swL
  rw [plainCh_set,plainCh_set,plainCh_nth a l,plainCh_nth a f,r,s,List.set_comm _ _ (show j+1≠j by omega)]
 have i:OwnsC 0 (sw6 wr g j b c) (.slice (some ⟨g,0,none⟩) n d) ((a.set (j+1) b).set j c):=by
  have t:=OwnsC.set h.row (j+1) l b
  have u:=OwnsC.set t j (by rw [List.length_set];exact f) c
  unfold sw6
  exact u
 refine ⟨⟨(show OwnsC 0 (World.drew (sw6 wr g j b c)) _ _ by generalize sw6 wr g j b c=W at*;exact i),?_,?_⟩,e⟩
 ·rw [e]
  refine h.stb.swap _ (by rw [plainCh_len];exact l) ?_
  rw [plainCh_nth a l,plainCh_nth a f,r,s]
  exact p
 ·have v:=Mod.set3 wr g ((j+1)*3) (.int .i64 b.1) (.string b.2.1) (.string b.2.2)
  have x:=Mod.set3 (((wr.setCell ⟨g,(j+1)*3,none⟩ (.int .i64 b.1)).setCell ⟨g,(j+1)*3+1,none⟩ (.string b.2.1)).setCell ⟨g,(j+1)*3+2,none⟩ (.string b.2.2)) g (j*3) (.int .i64 c.1) (.string c.2.1) (.string c.2.2)
  have o:Mod (fun k=> k=g) wr (sw6 wr g j b c):=v.trans x (fun _ _ q=> q) (fun _ _ q=> q)
  have m:Mod (fun k=> (Value.slice (some ⟨g,0,none⟩) n d).ownBlock=some k) w (sw6 wr g j b c):=h.mod.trans o (fun _ _ q=> q) (fun k _ q=> by rw [q];rfl)
  generalize sw6 wr g j b c=W at*
  exact ⟨m.os,m.tape,m.output,m.size,m.block⟩
end Go.Proofs.YtolgpnaoaodepaaGreat
namespace Go.Proofs.YtolgpnaoaodepaaGreat
open Go.RowKit
theorem zeroC:∀w,(Go.zeroValue 34).run Tryz.prog w= .ok (.agg #[.int .i64 0,.string ⟨#[]⟩,.string ⟨#[]⟩]) w:=by
 intro w
 obtain ⟨i,hi,a,b,c⟩:=info_parts info_change
 simp [Go.zeroValue,typeInfo,hi,a]
theorem zeroC_cells (n:Nat):(Builtin.zeroCells (Value.agg #[.int .i64 0,.string ⟨#[]⟩,.string ⟨#[]⟩]).cells n).size=n*3∧∀v∈(Builtin.zeroCells (Value.agg #[.int .i64 0,.string ⟨#[]⟩,.string ⟨#[]⟩]).cells n).toList,v.oneCell'=true:=by
 constructor
 ·rw [size_zeroCells];rfl
 ·intro v a
  simp only [Builtin.zeroCells,Array.toList_map,List.mem_map] at a
  obtain ⟨i,_,rfl⟩:=a
  show ((#[Value.int .i64 0,Value.string ⟨#[]⟩,Value.string ⟨#[]⟩]:Array Value)[i % 3]!).oneCell'=true
  rcases (show i % 3=0∨i % 3=1∨i % 3=2 by omega) with q | q | q <;> rw [q] <;> rfl
def aheadB (fr:ByteArray) (c:Int×ByteArray×ByteArray):Bool:=decide (c.2.1.data.toList < fr.data.toList)
def aheadF (fb:Nat):Value:= .func (.func 238) #[] #[.pointer (some ⟨fb,0,none⟩)]
theorem ahead_call (c:Int×ByteArray×ByteArray) (b:ByteArray) (a:Nat) (w:World) (e:w.cell? ⟨a,0,none⟩=some (.string b)) (d:a < w.heap.size):
  Calls Tryz.prog 238 #[.agg #[.int .i64 c.1,.string c.2.1,.string c.2.2],.pointer (some ⟨a,0,none⟩)] w fun r w'=> r= .returned (.bool (aheadB b c))∧Below w.heap.size w w':=ahead_any c.1 c.2.1 c.2.2 b a w e d
set_option maxHeartbeats 400000 in
theorem indexFunc_any (v:Value) (ml:List (Int×ByteArray×ByteArray)) (k:ByteArray) (t:Nat) (w:World) (h:OwnsC 0 w v ml) (T:ml.length≤20000000) (K:w.cell? ⟨t,0,none⟩=some (.string k)) (E:t < w.heap.size):
  Calls Tryz.prog 263 #[v,aheadF t] w fun r w'=> Below w.heap.size w w'∧((r= .returned (.int .i64 (-1))∧∀c∈ml,aheadB k c=false)∨∃(i:Nat) (hi:i < ml.length),r= .returned (.int .i64 (i:Nat))∧(∀c∈ml.take i,aheadB k c=false)∧aheadB k (ml[i]'hi)=true):=by
 have H:=hid h
 have L:=hid K
 obtain ⟨a,c,rfl⟩:=rowShape h
 clear h K
 unfold aheadF
 go_enter Tryz.func263,Tryz.ntmps263
 go_wp2_with fail
 go_loopw [8] (fun D wr=>∃i:Nat,D= .int .i64 (i:Nat)∧i≤ml.length∧(∀c∈ml.take i,aheadB k c=false)∧Below w.heap.size w wr) (fun D _=> ml.length - (intOf D).toNat)
 case atStart=> exact ⟨0,rfl,Nat.zero_le _,fun c x=> by simp at x,Below.refl _ _⟩
 case round=>
  obtain ⟨i,rfl,hi,F,C⟩:=hrel
  have y:=hid F
  have n:=hid C
  have s:=C.size
  clear F C
  by_cases b:i < ml.length
  ·obtain ⟨g,P,e,Q,-,R,G,I,J⟩:=H.out.at i b
   simp only [Value.slice.injEq] at e
   obtain ⟨rfl,-,rfl⟩:=e
   have j:=fun o=> n.out.cell (p:=⟨g,o,none⟩) R
   have M:=(j _).trans G
   have N:=(j _).trans I
   have O:=(j _).trans J
   have u:=hid (ahead_call (ml[i]'b) k t wr ((n.out.cell (p:=⟨t,0,none⟩) E).trans L.out) (by omega))
   have z:Hid (ml.take (i+1)=ml.take i++[ml[i]'b]):=by
    show _=_
    rw [List.take_add_one,List.getElem?_eq_getElem b];rfl
   clear j G I J
   cases d:aheadB k (ml[i]'b) with
   | true=>
    rw [d] at u
    have A:=hid d
    clear d
    go_wp2_with fail
    refine u.out.mono ?_
    rintro r S ⟨rfl,f⟩
    have l:=hid (n.out.trans (f.mono s))
    clear f
    go_wp2_with fail
    go_ret
    exact ⟨l.out,.inr ⟨i,b,rfl,y.out,A.out⟩⟩
   | false=>
    rw [d] at u
    have m:Hid (∀c∈ml.take (i+1),aheadB k c=false):=fun c x=> by
     rw [z.out] at x
     rcases List.mem_append.1 x with q | q
     ·exact y.out c q
     ·rw [List.mem_singleton.1 q];exact d
    clear d
    go_wp2_with fail
    refine u.out.mono ?_
    rintro r S ⟨rfl,f⟩
    have l:=hid (n.out.trans (f.mono s))
    clear f
    go_wp2_with fail
    exact ⟨⟨i+1,by go_num,by omega,m.out,l.out⟩,by simp [intOf];omega⟩
  ·have B:i=ml.length:=by omega
   subst B
   have m:Hid (∀c∈ml,aheadB k c=false):=by
    have:=y.out;rw [List.take_length] at this;exact this
   go_wp2_with fail
   go_ret
   exact ⟨n.out,.inl ⟨rfl,m.out⟩⟩
structure DelM (w:World) (v:Value) (ml:List (Int×ByteArray×ByteArray)) (fr:ByteArray) (i j:Nat) (ml':List (Int×ByteArray×ByteArray)) (wr:World):Prop where
 row:OwnsC 0 wr v ml'
 len:ml'.length=ml.length
 hd:ml'.take i=(ml.take j).filter fun c=> !aheadB fr c
 tl:ml'.drop j=ml.drop j
 lt:i < j
 le:j≤ml.length
 mod:Mod (fun g=> v.ownBlock=some g) w wr
theorem filter_all {α:Type} {P:α→Bool} {l:List α} (h:∀c∈l,P c=false):l.filter (fun c=> !P c)=l:=List.filter_eq_self.2 fun c a=> by rw [h c a];rfl
theorem DelM.start {w wr:World} {v:Value} {ml:List (Int×ByteArray×ByteArray)} {a:ByteArray} {i:Nat} (h:OwnsC 0 w v ml) (hi:i < ml.length) (d:∀c∈ml.take i,aheadB a c=false) (e:aheadB a (ml[i]'hi)=true) (b:Below w.heap.size w wr):DelM w v ml a i (i+1) ml wr:=by
 refine ⟨row_below h b (Nat.le_refl _),rfl,?_,rfl,by omega,by omega,Mod.of_below b⟩
 rw [take_filter ml _ i hi,e,filter_all d];simp
theorem DelM.elem {w wr:World} {v:Value} {ml a:List (Int×ByteArray×ByteArray)} {d:ByteArray} {i j:Nat} (h:DelM w v ml d i j a wr) (b:j < ml.length):a[j]'(by rw [h.len];exact b)=ml[j]'b:=by
 have c:=congrArg (fun l=> l[0]?) h.tl
 simp only [List.getElem?_drop,Nat.add_zero] at c
 rw [List.getElem?_eq_getElem b,List.getElem?_eq_getElem (by rw [h.len];exact b)] at c
 exact Option.some.inj c
theorem DelM.skip {w wr w':World} {v:Value} {ml a:List (Int×ByteArray×ByteArray)} {b:ByteArray} {i j:Nat} (h:DelM w v ml b i j a wr) (c:j < ml.length) (e:aheadB b (ml[j]'c)=true) (d:Below wr.heap.size wr w'):DelM w v ml b i (j+1) a w':=by
 refine ⟨row_below h.row d (Nat.le_refl _),h.len,?_,?_,by have:=h.lt;omega,by omega,h.mod.trans (Mod.of_below (F:=fun _=> False) d) (fun _ _ q=> q) (fun _ _ q=> q.elim)⟩
 ·rw [take_filter ml _ j c,e,h.hd];simp
 ·have:=congrArg (List.drop 1) h.tl
  rw [List.drop_drop,List.drop_drop] at this
  exact this
theorem DelM.keep {w wr w':World} {g n a:Nat} {ml e:List (Int×ByteArray×ByteArray)} {f:ByteArray} {i j:Nat} (h:DelM w (.slice (some ⟨g,0,none⟩) n a) ml f i j e wr) (l:j < ml.length) (r:aheadB f (ml[j]'l)=false) (o:Below wr.heap.size wr w') {c:Int×ByteArray×ByteArray} (s:ml[j]'l=c):DelM w (.slice (some ⟨g,0,none⟩) n a) ml f (i+1) (j+1) (e.set i c) (((w'.setCell ⟨g,i*3,none⟩ (.int .i64 c.1)).setCell ⟨g,i*3+1,none⟩ (.string c.2.1)).setCell ⟨g,i*3+2,none⟩ (.string c.2.2)):=by
 have p:=h.lt
 have b:=h.len
 have d:=OwnsC.set (row_below h.row o (Nat.le_refl _)) i (by omega) c
 have m:=Mod.set3 w' g (i*3) (.int .i64 c.1) (.string c.2.1) (.string c.2.2)
 refine ⟨d,by rw [List.length_set];exact b,?_,?_,by omega,by omega,(h.mod.trans (Mod.of_below (F:=fun _=> False) o) (H:=fun k=> (Value.slice (some ⟨g,0,none⟩) n a).ownBlock=some k) (fun _ _ q=> q) (fun _ _ q=> q.elim)).trans m (fun _ _ q=> q) (fun k _ q=> by rw [q];rfl)⟩
 ·rw [take_filter ml _ j l,r,s,←h.hd,List.take_add_one,List.take_set_of_le (Nat.le_refl _),List.getElem?_set_self (by omega)]
  rfl
 ·rw [List.drop_set_of_lt (by omega)]
  have:=congrArg (List.drop 1) h.tl
  rw [List.drop_drop,List.drop_drop] at this
  exact this
end Go.Proofs.YtolgpnaoaodepaaGreat
namespace Go.Proofs.YtolgpnaoaodepaaGreat
open Go.RowKit
theorem ccells_len3 (l:List (Int×ByteArray×ByteArray)):(ccells l).length=l.length*3:=by
 induction l with
 | nil=> rfl
 | cons c r ih=> show (ccells r).length+3=_;rw [ih,List.length_cons];omega
theorem ccells_take:∀(l:List (Int×ByteArray×ByteArray)) (i:Nat),ccells (l.take i)=(ccells l).take (i*3)
 | [],i=> by simp [ccells]
 | c::r,0=> by simp [ccells]
 | c::r,i+1=> by
  have e:∀l,ccells (c::l)=Value.int .i64 c.1::Value.string c.2.1::Value.string c.2.2::ccells l:=fun l=> rfl
  rw [List.take_succ_cons,e,e,ccells_take r i,show (i+1)*3=i*3+3 by omega];rfl
theorem DelM.clear {w wr:World} {g n a:Nat} {ml r:List (Int×ByteArray×ByteArray)} {s:ByteArray} {i:Nat} (h:DelM w (.slice (some ⟨g,0,none⟩) n a) ml s i ml.length r wr):n=ml.length∧ml.length≤a∧∃w',(∀p,(Builtin.clear_ #[77] p #[.slice (some ⟨g,i*3,none⟩) (ml.length - i) (a - i)]).run Tryz.prog wr= .ok (.tuple #[]) w')∧OwnsC 0 w' (.slice (some ⟨g,0,none⟩) i a) (ml.filter fun c=> !aheadB s c)∧Mod (fun k=> k=g) w w':=by
 have x:=h.lt
 have t:=h.len
 have f:=h.hd
 rw [List.take_length] at f
 rcases h.row.2 with ⟨_,B⟩ | ⟨C,u,d,e,D,v,E,z,m,o⟩
 ·omega
 simp only [Value.slice.injEq,Option.some.injEq,Addr.mk.injEq,and_true] at e
 obtain ⟨rfl,A,rfl⟩:=e
 have b:d.toList.length=a*3:=by simpa using m
 have j:i*3+(ml.length - i)*3≤d.size:=by rw [m];omega
 refine ⟨by omega,by omega,_,fun p=> run_clear_at wr 77 p 34 (.agg #[.int .i64 0,.string ⟨#[]⟩,.string ⟨#[]⟩]) 3 g (i*3) (ml.length - i) (a - i) d 34 Tryz.underlying77 zeroC (zeroC_cells _).1 (zeroC_cells _).2 v j,?_,?_⟩
 ·have l:(ml.filter fun c=> !aheadB s c).length=i:=by rw [←f,List.length_take];omega
  unfold OwnsC
  rw [l]
  refine row_of (setRow_at v _) (by omega) z ?_ ?_ (by rw [ccells_len3,l])
  ·simp only [List.length_append,List.length_take,List.length_drop,Array.length_toList,(zeroC_cells _).1,b]
   omega
  ·rw [List.append_assoc,List.take_append_of_le_length (by rw [List.length_take,b];omega),List.take_take,Nat.min_self,←f,ccells_take,←o,List.take_take,Nat.min_eq_left (by omega)]
 ·have y:=setRow_grown wr g (d.toList.take (i*3)++(Builtin.zeroCells (Value.agg #[.int .i64 0,.string ⟨#[]⟩,.string ⟨#[]⟩]).cells (ml.length - i)).toList++d.toList.drop (i*3+(ml.length - i)*3)).toArray
  exact h.mod.trans (Mod.of_grown y) (fun k _ q=> (Option.some.inj q).symm) (fun k _ q=> (Option.some.inj q).symm)
set_option maxHeartbeats 1000000 in
set_option maxRecDepth 4000 in
theorem deleteFunc_any (v:Value) (ml:List (Int×ByteArray×ByteArray)) (x:ByteArray) (n:Nat) (w:World) (h:OwnsC 0 w v ml) (hl:ml.length≤20000000) (hf:w.cell? ⟨n,0,none⟩=some (.string x)) (Q:n < w.heap.size) (R:v.ownBlock≠some n):
  Calls Tryz.prog 237 #[v,aheadF n] w fun r w'=>∃v',r= .returned v'∧OwnsC 0 w' v' (ml.filter fun c=> !aheadB x c)∧v'.ownBlock=v.ownBlock∧Mod (fun g=> v.ownBlock=some g) w w':=by
 have T:=hid (indexFunc_any v ml x n w h hl hf Q)
 have H:=hid h
 have HF:=hid hf
 have U:=hid R
 obtain ⟨a,c,rfl⟩:=rowShape h
 clear h hf R
 have V:Hid (aheadF n= .func (.func 238) #[] #[.pointer (some ⟨n,0,none⟩)]):=rfl
 rw [V.out] at T ⊢
 go_enter Tryz.func237,Tryz.ntmps237
 go_wp2_with fail
 refine T.out.mono ?_
 rintro r w1 ⟨b,⟨rfl,u⟩ | ⟨D,N,rfl,O,P⟩⟩
 ·have HR:Hid (OwnsC 0 w1 (.slice a ml.length c) (ml.filter fun c=> !aheadB x c)):=by
   show OwnsC _ _ _ _
   rw [filter_all u];exact row_below H.out b (Nat.le_refl _)
  have HM:Hid (Mod (fun g=> (Value.slice a ml.length c).ownBlock=some g) w w1):=Mod.of_below b
  clear b u
  go_wp2_with fail
  go_ret
  exact ⟨_,rfl,HR.out,rfl,HM.out⟩
 ·have W:=hid (DelM.start H.out N O P b)
  obtain ⟨g,a8,e,a3,-,hg,-,-,-⟩:=H.out.at D N
  simp only [Value.slice.injEq] at e
  obtain ⟨rfl,-,rfl⟩:=e
  clear b O P
  have xw:IntKind.i64.wrap ((D:Int)+1)=(D:Int)+1:=by rw [IntKind.wrap_i64];omega
  have a2:((D:Int)== -1)=false:=by simp
  go_wp2_with fail
  go_loopw [5,6] (fun vi vj wr=>∃i j a1,vi= .int .i64 (i:Nat)∧vj= .int .i64 (j:Nat)∧DelM w (.slice (some ⟨g,0,none⟩) ml.length c) ml x i j a1 wr) (fun _ vj _=> ml.length - (intOf vj).toNat)
  case atStart=> exact ⟨D,D+1,ml,rfl,by go_num,W.out⟩
  case round=>
   obtain ⟨i,j,I,rfl,rfl,J⟩:=hrel
   have o:=hid J
   have a4:=J.lt
   have a5:=J.le
   have a6:=J.len
   clear J
   by_cases t:j < ml.length
   ·obtain ⟨g1,K,e,-,-,a9,d0,d1,d2⟩:=o.out.row.at j (by omega)
    simp only [Value.slice.injEq,Option.some.injEq,Addr.mk.injEq,and_true] at e
    obtain ⟨rfl,-,-⟩:=e
    rw [o.out.elem t] at d0 d1 d2
    obtain ⟨d,C⟩:∃d,ml[j]'t=d:=⟨_,rfl⟩
    rw [C] at d0 d1 d2
    have y:=hid C
    have b:Below wr.heap.size wr (wr.alloc (.cells #[.int .i64 d.1,.string d.2.1,.string d.2.2] 34)):=(Below.refl _ wr).alloc (Nat.le_refl _) _
    have E:(wr.alloc (.cells #[.int .i64 d.1,.string d.2.1,.string d.2.2] 34)).cell? ⟨n,0,none⟩=some (.string x):=(b.cell (p:=⟨n,0,none⟩) (by have:=o.out.mod.size;show n < _;omega)).trans ((World.cell?_of_block (w:=w) (a:=⟨n,0,none⟩) (o.out.mod.block n Q U.out)).trans HF.out)
    have S:=hid (ahead_call d x n _ E (by have:=o.out.mod.size;have:=b.size;omega))
    have s:=hid b
    have F:Hid (ChB (wr.alloc (.cells #[.int .i64 d.1,.string d.2.1,.string d.2.2] 34)) wr.heap.size d.1 d.2.1 d.2.2):=heap_alloc_new _ _
    clear b E C T
    have xj:IntKind.i64.wrap ((j:Int)+1)=(j:Int)+1:=by rw [IntKind.wrap_i64];omega
    have xi:IntKind.i64.wrap ((i:Int)+1)=(i:Int)+1:=by rw [IntKind.wrap_i64];omega
    obtain ⟨kj,yj,zj⟩:=d
    cases m:aheadB x (kj,yj,zj) with
    | true=>
     rw [m] at S
     have z:=hid m
     clear m
     go_wp2_with fail
     refine S.out.mono ?_
     rintro r w3 ⟨rfl,l⟩
     have A:=hid (o.out.skip t (by rw [y.out];exact z.out) (s.out.trans (l.mono s.out.size)))
     clear l
     go_wp2_with fail
     exact ⟨⟨i,j+1,I,rfl,by go_num,A.out⟩,by simp [intOf];omega⟩
    | false=>
     rw [m] at S
     have z:=hid m
     clear m
     go_wp2_with fail
     refine S.out.mono ?_
     rintro r w3 ⟨rfl,l⟩
     have B:=s.out.trans (l.mono s.out.size)
     have A:=hid (o.out.keep t (by rw [y.out];exact z.out) B y.out)
     have f:OwnsC 0 w3 (.slice (some ⟨g,0,none⟩) ml.length c) I:=row_below o.out.row B (Nat.le_refl _)
     obtain ⟨g1,K,e,-,-,-,q0,q1,q2⟩:=f.at i (by omega)
     simp only [Value.slice.injEq,Option.some.injEq,Addr.mk.injEq,and_true] at e
     obtain ⟨rfl,-,-⟩:=e
     have a7:=f.froz (by omega)
     have G:ChB w3 wr.heap.size kj yj zj:=(l.block _ F.out.lt).trans F.out
     obtain ⟨p0,p1,p2⟩:=G.cells
     have b1:i < ml.length:=by omega
     clear l B f G d0 d1 d2
     go_wp2_with fail
     exact ⟨⟨i+1,j+1,_,by go_num,by go_num,A.out⟩,by simp [intOf];omega⟩
   ·have X:j=ml.length:=by omega
    subst X
    obtain ⟨-,b0,w5,e5,L,M⟩:=o.out.clear
    have Y:=hid e5
    have Z:=hid L
    have a0:Hid (Mod (fun k=> (Value.slice (some ⟨g,0,none⟩) ml.length c).ownBlock=some k) w w5):=M.mono fun k _ q=> by rw [q];rfl
    have b1:i≤ml.length:=by omega
    have b2:¬c=i:=by omega
    have b3:i≤c:=by omega
    clear e5 L M
    go_wp2_with (refine wpCl wr (by rfl) (.tmp 38) 77 (by rfl) _ (by rfl) _ _ (Y.out _) ?_)
    go_ret
    exact ⟨_,rfl,Z.out,rfl,a0.out⟩
end Go.Proofs.YtolgpnaoaodepaaGreat
