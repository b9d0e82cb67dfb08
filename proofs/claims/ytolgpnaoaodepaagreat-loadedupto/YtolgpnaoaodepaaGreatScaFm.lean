import Derived.Test.YtolgpnaoaodepaaGreatScaMm
namespace Go.Proofs.YtolgpnaoaodepaaGreat.Tr
open Hp
structure Ye (g:Nat->Ch) (i j:Nat):Prop where
 a:∀x y,x < y->y<=i->x≠j->y≠j->¬(g y).2.1 < (g x).2.1
 b:∀y,j < y->y<=i->¬(g y).2.1 < (g j).2.1
def Np (g:Nat->Ch) (i:Nat):Prop:=∀x y,x < y->y < i->¬(g y).2.1 < (g x).2.1
theorem Ye.start {g:Nat->Ch} {i:Nat} (h:Np g i):Ye g i i:=⟨fun x y a b c d=> h x y a (by omega),fun y a b=> by omega⟩
theorem Ye.step {g:Nat->Ch} {i j:Nat} (h:Ye g i (j+1)) (o:j+1<=i) (n:(g (j+1)).2.1 < (g j).2.1):Ye (swp g j (j+1)) i j:=by
 have d:¬(g j).2.1 < (g (j+1)).2.1:=fun q=> lt_ir _ (Cz q n)
 refine ⟨fun x y k c l m=> ?_,fun y k c=> ?_⟩
 ·by_cases e:y=j+1
  ·subst e;rw [Uz,Jy g l (by omega)];exact h.a x j (by omega) (by omega) (by omega) (by omega)
  ·rw [Jy g m e];by_cases f:x=j+1
   ·subst f;rw [Uz];exact h.a j y (by omega) c (by omega) e
   ·rw [Jy g l f];exact h.a x y k c f e
 ·rw [Abp];by_cases e:y=j+1
  ·subst e;rw [Uz];exact d
  ·rw [Jy g (by omega) e];exact h.b y (by omega) c
theorem Ye.done {g:Nat->Ch} {i j:Nat} (h:Ye g i j) (k:j=0\/¬(g j).2.1 < (g (j - 1)).2.1):Np g (i+1):=by
 intro x y c l;by_cases d:x=j
 ·rw [d] at c ⊢;exact h.b y c (by omega)
 ·by_cases f:y=j
  ·rcases k with q | q
   ·omega
   ·rw [f];by_cases e:x=j - 1
    ·rw [e];exact q
    ·exact Aie (h.a x (j - 1) (by omega) (by omega) d (by omega)) q
  ·exact h.a x y c (by omega) d f
theorem Ap0 (d:Ch) (l:List Ch) {j:Nat} (h:j+1 < l.length):swL d l j (j+1)=l.take j++nth d l (j+1)::nth d l j::l.drop (j+2):=by
 apply List.ext_getElem?;intro k;unfold swL;rw [List.getElem?_set,List.length_set,List.getElem?_set];rcases Nat.lt_trichotomy k j with q | q | q
 ·rw [if_neg (by omega),if_neg (by omega),List.getElem?_append_left (by simp;omega),List.getElem?_take_of_lt q]
 ·subst q;rw [if_neg (by omega),if_pos rfl,if_pos (by omega),List.getElem?_append_right (by simp;omega)];simp [Nat.min_eq_left (show k<=l.length by omega)]
 ·rw [List.getElem?_append_right (by simp;omega),List.length_take,Nat.min_eq_left (by omega)];by_cases e:j+1=k
  ·subst e;rw [if_pos rfl,if_pos h,show j+1 - j=1 by omega];rfl
  ·rw [if_neg e,if_neg (by omega)];obtain ⟨n,a⟩:∃n,k - j=n+2:=⟨k - j - 2,by omega⟩;rw [a,List.getElem?_cons_succ,List.getElem?_cons_succ,List.getElem?_drop,show j+2+n=k by omega]
theorem Ahd (d:Ch) (l:List Ch) {j:Nat} (h:j+1 < l.length) (f:(nth d l (j+1)).2.1 < (nth d l j).2.1) (k:Key):(swL d l j (j+1)).filter (Bu k)=l.filter (Bu k):=by
 have e:l=l.take j++nth d l j::nth d l (j+1)::l.drop (j+2):=by
  rw [Dj d l (by omega),Dj d l h,List.getElem_cons_drop,List.getElem_cons_drop,List.take_append_drop]
 rw [Ap0 d l h]
 conv=> rhs;rw [e]
 rw [List.filter_append,List.filter_append];congr 1;by_cases c:(nth d l j).2.1=k
 ·have b:¬(nth d l (j+1)).2.1=k:=fun q=> by rw [q,c] at f;exact lt_ir _ f
  rw [List.filter_cons_of_neg (by simpa [Bu] using b),List.filter_cons_of_pos (p:=Bu k) (decide_eq_true c),List.filter_cons_of_pos (p:=Bu k) (decide_eq_true c),List.filter_cons_of_neg (by simpa [Bu] using b)]
 ·rw [List.filter_cons_of_neg (a:=nth d l j) (p:=Bu k) (by simpa [Bu] using c)];by_cases b:(nth d l (j+1)).2.1=k
  ·rw [List.filter_cons_of_pos (p:=Bu k) (decide_eq_true b),List.filter_cons_of_pos (p:=Bu k) (decide_eq_true b),List.filter_cons_of_neg (by simpa [Bu] using c)]
  ·rw [List.filter_cons_of_neg (by simpa [Bu] using b),List.filter_cons_of_neg (by simpa [Bu] using c),List.filter_cons_of_neg (by simpa [Bu] using b)]
structure Stb (l l':List Ch):Prop where
 perm:l'.Perm l
 fil:∀k,l'.filter (Bu k)=l.filter (Bu k)
theorem Stb.refl (l:List Ch):Stb l l:=⟨List.Perm.refl _,fun _=> rfl⟩
theorem Stb.swap {l a:List Ch} (h:Stb l a) (d:Ch) {j:Nat} (b:j+1 < a.length) (c:(nth d a (j+1)).2.1 < (nth d a j).2.1):Stb l (swL d a j (j+1)):=
 ⟨(Aew d a (by omega) b).trans h.perm,fun k=> (Ahd d a b c k).trans (h.fil k)⟩
theorem Np.rise {d:Ch} {l:List Ch} (h:Np (nth d l) l.length):Acw l:=by
 unfold Acw;rw [List.pairwise_iff_getElem];intro x y c b a;have:=h x y a b;rw [Dj d l c,Dj d l b] at this;exact this
theorem Stb.scd {d:Key} {l b:List Ch} (h:Stb (l.filter fun c=> !decide (c.2.1 < d)) b) (m:Acw b):Scd d l b:=by
 refine ⟨m,fun c i=> ?_,fun k j=> ?_,?_⟩
 ·have:=h.perm.mem_iff.1 i;obtain ⟨f,g⟩:=List.mem_filter.1 this;exact ⟨f,by simpa using g⟩
 ·rw [h.fil k,List.filter_filter];congr 1;funext c;by_cases e:c.2.1=k
  ·simp [Bu,e];exact j
  ·simp [Bu,e]
 ·rw [h.perm.length_eq];exact List.length_filter_le _ _
end Go.Proofs.YtolgpnaoaodepaaGreat.Tr
namespace Go.Proofs.YtolgpnaoaodepaaGreat
open Go.RowKit
theorem wgC:∀(ml:List (Int×ByteArray×ByteArray)) (i:Nat),i < ml.length->∀(c:Int×ByteArray×ByteArray),ccells (ml.set i c)=(((ccells ml).set (i*3) (.int .i64 c.1)).set (i*3+1) (.string c.2.1)).set (i*3+2) (.string c.2.2)
 | [],_,hi,_=> by simp at hi
 | d::r,0,_,c=> rfl
 | d::r,i+1,hi,c=> by
  have ih:=wgC r i (by simpa using hi) c;have e:∀l,ccells (d::l)=Value.int .i64 d.1::Value.string d.2.1::Value.string d.2.2::ccells l:=fun l=> rfl
  rw [List.set_cons_succ,e,e,ih,show (i+1)*3=i*3+3 by omega];rfl
theorem Au.set {w:World} {g b n:Nat} {ml:List (Int×ByteArray×ByteArray)} (h:Au 0 w (.slice (some ⟨g,0,none⟩) n b) ml) (i:Nat) (hi:i < ml.length) (c:Int×ByteArray×ByteArray):Au 0 (((w.setCell ⟨g,i*3,none⟩ (.int .i64 c.1)).setCell ⟨g,i*3+1,none⟩ (.string c.2.1)).setCell ⟨g,i*3+2,none⟩ (.string c.2.2)) (.slice (some ⟨g,0,none⟩) n b) (ml.set i c):=by
 obtain ⟨a,j,d⟩:=Ab h;simp only [Value.slice.injEq] at d;obtain ⟨-,rfl,-⟩:=d;have f:=Jf (Jf (Jf h (i*3) (.int .i64 c.1)) (i*3+1) (.string c.2.1)) (i*3+2) (.string c.2.2);unfold Au;rw [List.length_set];have e:ccells (ml.set i c)=(((ccells ml).set (i*3) (.int .i64 c.1)).set (i*3+1) (.string c.2.1)).set (i*3+2) (.string c.2.2):=wgC ml i hi c;rw [e];exact f
theorem Au.froz {w:World} {g a n:Nat} {ml:List (Int×ByteArray×ByteArray)} (h:Au 0 w (.slice (some ⟨g,0,none⟩) n a) ml) (r:0 < ml.length) (o:Nat):w.frozen? ⟨g,o,none⟩=false:=by
 rcases h.2 with ⟨q,c⟩ | ⟨k,b,d,e,l,f,m,p,i,j⟩
 ·omega
 ·simp only [Value.slice.injEq,Option.some.injEq,Addr.mk.injEq,and_true] at e;obtain ⟨rfl,-,rfl⟩:=e;simp [World.frozen?,f]
theorem Va (ml:List (Int×ByteArray×ByteArray)) (i:Nat) (c:Int×ByteArray×ByteArray):plainCh (ml.set i c)=(plainCh ml).set i (c.1,c.2.1.data.toList,c.2.2.data.toList):=by
 unfold plainCh;rw [List.map_set]
theorem Gz (ml:List (Int×ByteArray×ByteArray)) {i:Nat} (hi:i < ml.length):Hp.nth (0,[],[]) (plainCh ml) i=((ml[i]'hi).1,(ml[i]'hi).2.1.data.toList,(ml[i]'hi).2.2.data.toList):=by
 rw [Hp.Dj _ _ (by rw [Ao];exact hi)];simp [plainCh]
structure SrM (w:World) (v:Value) (ml ml':List (Int×ByteArray×ByteArray)) (wr:World):Prop where
 row:Au 0 wr v ml'
 stb:Tr.Stb (plainCh ml) (plainCh ml')
 mod:Mod (fun g=> v.ownBlock=some g) w wr
theorem SrM.len {w:World} {v:Value} {ml a:List (Int×ByteArray×ByteArray)} {wr:World} (h:SrM w v ml a wr):a.length=ml.length:=by
 rw [<-Ao a,<-Ao ml];exact h.stb.perm.length_eq
theorem SrM.below {w:World} {v:Value} {ml a:List (Int×ByteArray×ByteArray)} {wr w':World} (h:SrM w v ml a wr) (b:Below wr.heap.size wr w'):SrM w v ml a w':=
 ⟨Aa h.row b (Nat.le_refl _),h.stb,h.mod.trans (Mod.of_below (F:=fun _=> False) b) (fun _ _ q=> q) (fun _ _ q=> q.elim)⟩
def sw6 (w:World) (g j:Nat) (c0 c1:Int×ByteArray×ByteArray):World:=(((((w.setCell ⟨g,(j+1)*3,none⟩ (.int .i64 c0.1)).setCell ⟨g,(j+1)*3+1,none⟩ (.string c0.2.1)).setCell ⟨g,(j+1)*3+2,none⟩ (.string c0.2.2)).setCell ⟨g,j*3,none⟩ (.int .i64 c1.1)).setCell ⟨g,j*3+1,none⟩ (.string c1.2.1)).setCell ⟨g,j*3+2,none⟩ (.string c1.2.2)
theorem Mod.set3 (w:World) (g i:Nat) (a b c:Value):Mod (fun k=> k=g) w (((w.setCell ⟨g,i,none⟩ a).setCell ⟨g,i+1,none⟩ b).setCell ⟨g,i+2,none⟩ c):=
 ((Mod.setCell w g i a).trans (Mod.setCell _ g (i+1) b) (fun _ _ q=> q) (fun _ _ q=> q)).trans (Mod.setCell _ g (i+2) c) (fun _ _ q=> q) (fun _ _ q=> q)
theorem SrM.swap {w:World} {g d n:Nat} {ml a:List (Int×ByteArray×ByteArray)} {wr:World} (h:SrM w (.slice (some ⟨g,0,none⟩) n d) ml a wr) (j:Nat) (l:j+1 < a.length) (f:j < a.length) {b c:Int×ByteArray×ByteArray} (r:a[j]'f=b) (s:a[j+1]'l=c) (p:c.2.1.data.toList < b.2.1.data.toList):
  SrM w (.slice (some ⟨g,0,none⟩) n d) ml ((a.set (j+1) b).set j c) (sw6 wr g j b c).drew/\plainCh ((a.set (j+1) b).set j c)=Hp.swL (0,[],[]) (plainCh a) j (j+1):=by
 have e:plainCh ((a.set (j+1) b).set j c)=Hp.swL (0,[],[]) (plainCh a) j (j+1):=by
  unfold Hp.swL;rw [Va,Va,Gz a l,Gz a f,r,s,List.set_comm _ _ (show j+1≠j by omega)]
 have i:Au 0 (sw6 wr g j b c) (.slice (some ⟨g,0,none⟩) n d) ((a.set (j+1) b).set j c):=by
  have t:=Au.set h.row (j+1) l b;have u:=Au.set t j (by rw [List.length_set];exact f) c;unfold sw6;exact u
 refine ⟨⟨(show Au 0 (World.drew (sw6 wr g j b c)) _ _ by generalize sw6 wr g j b c=W at*;exact i),?_,?_⟩,e⟩
 ·rw [e];refine h.stb.swap _ (by rw [Ao];exact l) ?_;rw [Gz a l,Gz a f,r,s];exact p
 ·have y:=Mod.set3 wr g ((j+1)*3) (.int .i64 b.1) (.string b.2.1) (.string b.2.2);have z:=Mod.set3 (((wr.setCell ⟨g,(j+1)*3,none⟩ (.int .i64 b.1)).setCell ⟨g,(j+1)*3+1,none⟩ (.string b.2.1)).setCell ⟨g,(j+1)*3+2,none⟩ (.string b.2.2)) g (j*3) (.int .i64 c.1) (.string c.2.1) (.string c.2.2);have o:Mod (fun k=> k=g) wr (sw6 wr g j b c):=y.trans z (fun _ _ q=> q) (fun _ _ q=> q);have m:Mod (fun k=> (Value.slice (some ⟨g,0,none⟩) n d).ownBlock=some k) w (sw6 wr g j b c):=h.mod.trans o (fun _ _ q=> q) (fun k _ q=> by rw [q];rfl);generalize sw6 wr g j b c=W at*;exact ⟨m.os,m.tape,m.output,m.size,m.block⟩
theorem Ar0:∀w,(Go.zeroValue 34).run Tryz.prog w= .ok (.agg #[.int .i64 0,.string ⟨#[]⟩,.string ⟨#[]⟩]) w:=by
 intro w;obtain ⟨i,hi,a,b,c⟩:=info_parts Du;simp [Go.zeroValue,typeInfo,hi,a]
theorem Nq (n:Nat):(Builtin.zeroCells (Value.agg #[.int .i64 0,.string ⟨#[]⟩,.string ⟨#[]⟩]).cells n).size=n*3/\∀v∈(Builtin.zeroCells (Value.agg #[.int .i64 0,.string ⟨#[]⟩,.string ⟨#[]⟩]).cells n).toList,v.oneCell'=true:=by
 constructor
 ·rw [size_zeroCells];rfl
 ·intro v a;simp only [Builtin.zeroCells,Array.toList_map,List.mem_map] at a;obtain ⟨i,_,rfl⟩:=a;show ((#[Value.int .i64 0,Value.string ⟨#[]⟩,Value.string ⟨#[]⟩]:Array Value)[i % 3]!).oneCell'=true;rcases (show i % 3=0\/i % 3=1\/i % 3=2 by omega) with q | q | q <;> rw [q] <;> rfl
def Er (fr:ByteArray) (c:Int×ByteArray×ByteArray):Bool:=decide (c.2.1.data.toList < fr.data.toList)
def Yf (fb:Nat):Value:= .func (.func 238) #[] #[.pointer (some ⟨fb,0,none⟩)]
theorem Yg (c:Int×ByteArray×ByteArray) (b:ByteArray) (a:Nat) (w:World) (f:w.cell? ⟨a,0,none⟩=some (.string b)) (d:a < w.heap.size):
  Calls Tryz.prog 238 #[.agg #[.int .i64 c.1,.string c.2.1,.string c.2.2],.pointer (some ⟨a,0,none⟩)] w fun r w'=> r= .returned (.bool (Er b c))/\Below w.heap.size w w':=Ak4 c.1 c.2.1 c.2.2 b a w f d
set_option maxHeartbeats 400000 in
theorem Aae (v:Value) (ml:List (Int×ByteArray×ByteArray)) (k:ByteArray) (t:Nat) (w:World) (h:Au 0 w v ml) (Y:ml.length<=20000000) (N:w.cell? ⟨t,0,none⟩=some (.string k)) (G:t < w.heap.size):
  Calls Tryz.prog 263 #[v,Yf t] w fun r w'=> Below w.heap.size w w'/\((r= .returned (.int .i64 (-1))/\∀c∈ml,Er k c=false)\/∃(i:Nat) (hi:i < ml.length),r= .returned (.int .i64 (i:Nat))/\(∀c∈ml.take i,Er k c=false)/\Er k (ml[i]'hi)=true):=by
 have H:=hid h;have O:=hid N;obtain ⟨a,c,rfl⟩:=Ab h;clear h N;unfold Yf;go_enter Tryz.func263,Tryz.ntmps263;go_wp2_with fail
 go_loopw [8] (fun F wr=>∃i:Nat,F= .int .i64 (i:Nat)/\i<=ml.length/\(∀c∈ml.take i,Er k c=false)/\Below w.heap.size w wr) (fun F _=> ml.length - (intOf F).toNat)
 case atStart=> exact ⟨0,rfl,Nat.zero_le _,fun c y=> by simp at y,Below.refl _ _⟩
 case round=>
  obtain ⟨i,rfl,hi,I,D⟩:=hrel;have z:=hid I;have n:=hid D;have s:=D.size;clear I D;by_cases b:i < ml.length
  ·obtain ⟨g,U,e,V,-,W,J,L,M⟩:=H.out.at i b;simp only [Value.slice.injEq] at e;obtain ⟨rfl,-,rfl⟩:=e;have j:=fun o=> n.out.cell (p:=⟨g,o,none⟩) W
   have R:=(j _).trans J;have S:=(j _).trans L;have T:=(j _).trans M;have u:=hid (Yg (ml[i]'b) k t wr ((n.out.cell (p:=⟨t,0,none⟩) G).trans O.out) (by omega));have A:Hid (ml.take (i+1)=ml.take i++[ml[i]'b]):=by
    show _=_;rw [List.take_add_one,List.getElem?_eq_getElem b];rfl
   clear j J L M
   cases d:Er k (ml[i]'b) with
   | true=>
    rw [d] at u;have B:=hid d;clear d;go_wp2_with fail;refine u.out.mono ?_;rintro r X ⟨rfl,f⟩;have l:=hid (n.out.trans (f.mono s));clear f;go_wp2_with fail;go_ret;exact ⟨l.out,.inr ⟨i,b,rfl,z.out,B.out⟩⟩
   | false=>
    rw [d] at u;have m:Hid (∀c∈ml.take (i+1),Er k c=false):=fun c y=> by
     rw [A.out] at y;rcases List.mem_append.1 y with q | q
     ·exact z.out c q
     ·rw [List.mem_singleton.1 q];exact d
    clear d;go_wp2_with fail;refine u.out.mono ?_;rintro r X ⟨rfl,f⟩;have l:=hid (n.out.trans (f.mono s));clear f;go_wp2_with fail;exact ⟨⟨i+1,by go_num,by omega,m.out,l.out⟩,by simp [intOf];omega⟩
  ·have C:i=ml.length:=(by omega);subst C;have m:Hid (∀c∈ml,Er k c=false):=by
    have:=z.out;rw [List.take_length] at this;exact this
   go_wp2_with fail;go_ret;exact ⟨n.out,.inl ⟨rfl,m.out⟩⟩
structure Rs (w:World) (v:Value) (ml:List (Int×ByteArray×ByteArray)) (fr:ByteArray) (i j:Nat) (ml':List (Int×ByteArray×ByteArray)) (wr:World):Prop where
 row:Au 0 wr v ml'
 len:ml'.length=ml.length
 hd:ml'.take i=(ml.take j).filter fun c=> !Er fr c
 tl:ml'.drop j=ml.drop j
 lt:i < j
 le:j<=ml.length
 mod:Mod (fun g=> v.ownBlock=some g) w wr
theorem Yh {α:Type} {P:α->Bool} {l:List α} (h:∀c∈l,P c=false):l.filter (fun c=> !P c)=l:=List.filter_eq_self.2 fun c a=> by rw [h c a];rfl
theorem Rs.start {w wr:World} {v:Value} {ml:List (Int×ByteArray×ByteArray)} {a:ByteArray} {i:Nat} (h:Au 0 w v ml) (hi:i < ml.length) (d:∀c∈ml.take i,Er a c=false) (f:Er a (ml[i]'hi)=true) (b:Below w.heap.size w wr):Rs w v ml a i (i+1) ml wr:=by
 refine ⟨Aa h b (Nat.le_refl _),rfl,?_,rfl,by omega,by omega,Mod.of_below b⟩;rw [Il ml _ i hi,f,Yh d];simp
theorem Rs.elem {w wr:World} {v:Value} {ml a:List (Int×ByteArray×ByteArray)} {d:ByteArray} {i j:Nat} (h:Rs w v ml d i j a wr) (b:j < ml.length):a[j]'(by rw [h.len];exact b)=ml[j]'b:=by
 have c:=congrArg (fun l=> l[0]?) h.tl;simp only [List.getElem?_drop,Nat.add_zero] at c;rw [List.getElem?_eq_getElem b,List.getElem?_eq_getElem (by rw [h.len];exact b)] at c;exact Option.some.inj c
theorem Rs.skip {w wr w':World} {v:Value} {ml a:List (Int×ByteArray×ByteArray)} {b:ByteArray} {i j:Nat} (h:Rs w v ml b i j a wr) (c:j < ml.length) (f:Er b (ml[j]'c)=true) (d:Below wr.heap.size wr w'):Rs w v ml b i (j+1) a w':=by
 refine ⟨Aa h.row d (Nat.le_refl _),h.len,?_,?_,by have:=h.lt;omega,by omega,h.mod.trans (Mod.of_below (F:=fun _=> False) d) (fun _ _ q=> q) (fun _ _ q=> q.elim)⟩
 ·rw [Il ml _ j c,f,h.hd];simp
 ·have:=congrArg (List.drop 1) h.tl;rw [List.drop_drop,List.drop_drop] at this;exact this
theorem Rs.keep {w wr w':World} {g n a:Nat} {ml f:List (Int×ByteArray×ByteArray)} {l:ByteArray} {i j:Nat} (h:Rs w (.slice (some ⟨g,0,none⟩) n a) ml l i j f wr) (o:j < ml.length) (s:Er l (ml[j]'o)=false) (p:Below wr.heap.size wr w') {c:Int×ByteArray×ByteArray} (t:ml[j]'o=c):Rs w (.slice (some ⟨g,0,none⟩) n a) ml l (i+1) (j+1) (f.set i c) (((w'.setCell ⟨g,i*3,none⟩ (.int .i64 c.1)).setCell ⟨g,i*3+1,none⟩ (.string c.2.1)).setCell ⟨g,i*3+2,none⟩ (.string c.2.2)):=by
 have r:=h.lt;have b:=h.len;have d:=Au.set (Aa h.row p (Nat.le_refl _)) i (by omega) c;have m:=Mod.set3 w' g (i*3) (.int .i64 c.1) (.string c.2.1) (.string c.2.2);refine ⟨d,by rw [List.length_set];exact b,?_,?_,by omega,by omega,(h.mod.trans (Mod.of_below (F:=fun _=> False) p) (H:=fun k=> (Value.slice (some ⟨g,0,none⟩) n a).ownBlock=some k) (fun _ _ q=> q) (fun _ _ q=> q.elim)).trans m (fun _ _ q=> q) (fun k _ q=> by rw [q];rfl)⟩
 ·rw [Il ml _ j o,s,t,<-h.hd,List.take_add_one,List.take_set_of_le (Nat.le_refl _),List.getElem?_set_self (by omega)];rfl
 ·rw [List.drop_set_of_lt (by omega)];have:=congrArg (List.drop 1) h.tl;rw [List.drop_drop,List.drop_drop] at this;exact this
theorem Aex (l:List (Int×ByteArray×ByteArray)):(ccells l).length=l.length*3:=by
 induction l with
 | nil=> rfl
 | cons c r ih=> show (ccells r).length+3=_;rw [ih,List.length_cons];omega
theorem Vb:∀(l:List (Int×ByteArray×ByteArray)) (i:Nat),ccells (l.take i)=(ccells l).take (i*3)
 | [],i=> by simp [ccells]
 | c::r,0=> by simp [ccells]
 | c::r,i+1=> by
  have e:∀l,ccells (c::l)=Value.int .i64 c.1::Value.string c.2.1::Value.string c.2.2::ccells l:=fun l=> rfl
  rw [List.take_succ_cons,e,e,Vb r i,show (i+1)*3=i*3+3 by omega];rfl
theorem Rs.clear {w wr:World} {g n a:Nat} {ml r:List (Int×ByteArray×ByteArray)} {s:ByteArray} {i:Nat} (h:Rs w (.slice (some ⟨g,0,none⟩) n a) ml s i ml.length r wr):n=ml.length/\ml.length<=a/\∃w',(∀p,(Builtin.clear_ #[77] p #[.slice (some ⟨g,i*3,none⟩) (ml.length - i) (a - i)]).run Tryz.prog wr= .ok (.tuple #[]) w')/\Au 0 w' (.slice (some ⟨g,0,none⟩) i a) (ml.filter fun c=> !Er s c)/\Mod (fun k=> k=g) w w':=by
 have z:=h.lt;have t:=h.len;have f:=h.hd;rw [List.take_length] at f;rcases h.row.2 with ⟨_,D⟩ | ⟨F,u,d,e,G,y,H,B,m,o⟩
 ·omega
 simp only [Value.slice.injEq,Option.some.injEq,Addr.mk.injEq,and_true] at e;obtain ⟨rfl,C,rfl⟩:=e;have b:d.toList.length=a*3:=by simpa using m
 have j:i*3+(ml.length - i)*3<=d.size:=by rw [m];omega
 refine ⟨by omega,by omega,_,fun p=> Lu wr 77 p 34 (.agg #[.int .i64 0,.string ⟨#[]⟩,.string ⟨#[]⟩]) 3 g (i*3) (ml.length - i) (a - i) d 34 Tryz.underlying77 Ar0 (Nq _).1 (Nq _).2 y j,?_,?_⟩
 ·have l:(ml.filter fun c=> !Er s c).length=i:=by rw [<-f,List.length_take];omega
  unfold Au;rw [l];refine Ng (Cy y _) (by omega) B ?_ ?_ (by rw [Aex,l])
  ·simp only [List.length_append,List.length_take,List.length_drop,Array.length_toList,(Nq _).1,b];omega
  ·rw [List.append_assoc,List.take_append_of_le_length (by rw [List.length_take,b];omega),List.take_take,Nat.min_self,<-f,Vb,<-o,List.take_take,Nat.min_eq_left (by omega)]
 ·have A:=Bl wr g (d.toList.take (i*3)++(Builtin.zeroCells (Value.agg #[.int .i64 0,.string ⟨#[]⟩,.string ⟨#[]⟩]).cells (ml.length - i)).toList++d.toList.drop (i*3+(ml.length - i)*3)).toArray;exact h.mod.trans (Mod.of_grown A) (fun k _ q=> (Option.some.inj q).symm) (fun k _ q=> (Option.some.inj q).symm)
set_option maxHeartbeats 1000000 in
set_option maxRecDepth 4000 in
theorem Yi (v:Value) (ml:List (Int×ByteArray×ByteArray)) (y:ByteArray) (n:Nat) (w:World) (h:Au 0 w v ml) (hl:ml.length<=20000000) (hf:w.cell? ⟨n,0,none⟩=some (.string y)) (V:n < w.heap.size) (W:v.ownBlock≠some n):
  Calls Tryz.prog 237 #[v,Yf n] w fun r w'=>∃v',r= .returned v'/\Au 0 w' v' (ml.filter fun c=> !Er y c)/\v'.ownBlock=v.ownBlock/\Mod (fun g=> v.ownBlock=some g) w w':=by
 have Y:=hid (Aae v ml y n w h hl hf V);have H:=hid h;have HF:=hid hf;have Z:=hid W;obtain ⟨a,c,rfl⟩:=Ab h;clear h hf W;have a0:Hid (Yf n= .func (.func 238) #[] #[.pointer (some ⟨n,0,none⟩)]):=rfl;rw [a0.out] at Y ⊢;go_enter Tryz.func237,Tryz.ntmps237;go_wp2_with fail;refine Y.out.mono ?_;rintro r w1 ⟨b,⟨rfl,u⟩ | ⟨F,S,rfl,T,U⟩⟩
 ·have HR:Hid (Au 0 w1 (.slice a ml.length c) (ml.filter fun c=> !Er y c)):=by
   show Au _ _ _ _;rw [Yh u];exact Aa H.out b (Nat.le_refl _)
  have HM:Hid (Mod (fun g=> (Value.slice a ml.length c).ownBlock=some g) w w1):=Mod.of_below b;clear b u;go_wp2_with fail;go_ret;exact ⟨_,rfl,HR.out,rfl,HM.out⟩
 ·have a1:=hid (Rs.start H.out S T U b);obtain ⟨g,b6,e,a8,-,hg,-,-,-⟩:=H.out.at F S;simp only [Value.slice.injEq] at e;obtain ⟨rfl,-,rfl⟩:=e;clear b T U;have xw:IntKind.i64.wrap ((F:Int)+1)=(F:Int)+1:=by rw [IntKind.wrap_i64];omega
  have a7:((F:Int)== -1)=false:=by simp
  go_wp2_with fail
  go_loopw [5,6] (fun vi vj wr=>∃i j a6,vi= .int .i64 (i:Nat)/\vj= .int .i64 (j:Nat)/\Rs w (.slice (some ⟨g,0,none⟩) ml.length c) ml y i j a6 wr) (fun _ vj _=> ml.length - (intOf vj).toNat)
  case atStart=> exact ⟨F,F+1,ml,rfl,by go_num,a1.out⟩
  case round=>
   obtain ⟨i,j,L,rfl,rfl,M⟩:=hrel;have o:=hid M;have a9:=M.lt;have b0:=M.le;have b4:=M.len;clear M;by_cases t:j < ml.length
   ·obtain ⟨g1,N,e,-,-,b7,d0,d1,d2⟩:=o.out.row.at j (by omega);simp only [Value.slice.injEq,Option.some.injEq,Addr.mk.injEq,and_true] at e;obtain ⟨rfl,-,-⟩:=e;rw [o.out.elem t] at d0 d1 d2;obtain ⟨d,D⟩:∃d,ml[j]'t=d:=⟨_,rfl⟩;rw [D] at d0 d1 d2;have z:=hid D;have b:Below wr.heap.size wr (wr.alloc (.cells #[.int .i64 d.1,.string d.2.1,.string d.2.2] 34)):=(Below.refl _ wr).alloc (Nat.le_refl _) _;have G:(wr.alloc (.cells #[.int .i64 d.1,.string d.2.1,.string d.2.2] 34)).cell? ⟨n,0,none⟩=some (.string y):=(b.cell (p:=⟨n,0,none⟩) (by have:=o.out.mod.size;show n < _;omega)).trans ((World.cell?_of_block (w:=w) (a:=⟨n,0,none⟩) (o.out.mod.block n V Z.out)).trans HF.out);have X:=hid (Yg d y n _ G (by have:=o.out.mod.size;have:=b.size;omega));have s:=hid b;have I:Hid (ChB (wr.alloc (.cells #[.int .i64 d.1,.string d.2.1,.string d.2.2] 34)) wr.heap.size d.1 d.2.1 d.2.2):=heap_alloc_new _ _;clear b G D Y;have xj:IntKind.i64.wrap ((j:Int)+1)=(j:Int)+1:=(by rw [IntKind.wrap_i64];omega);have xi:IntKind.i64.wrap ((i:Int)+1)=(i:Int)+1:=(by rw [IntKind.wrap_i64];omega);obtain ⟨kj,yj,zj⟩:=d
    cases m:Er y (kj,yj,zj) with
    | true=>
     rw [m] at X;have A:=hid m;clear m;go_wp2_with fail;refine X.out.mono ?_;rintro r w3 ⟨rfl,l⟩;have B:=hid (o.out.skip t (by rw [z.out];exact A.out) (s.out.trans (l.mono s.out.size)));clear l;go_wp2_with fail;exact ⟨⟨i,j+1,L,rfl,by go_num,B.out⟩,by simp [intOf];omega⟩
    | false=>
     rw [m] at X;have A:=hid m;clear m;go_wp2_with fail;refine X.out.mono ?_;rintro r w3 ⟨rfl,l⟩;have C:=s.out.trans (l.mono s.out.size);have B:=hid (o.out.keep t (by rw [z.out];exact A.out) C z.out);have f:Au 0 w3 (.slice (some ⟨g,0,none⟩) ml.length c) L:=Aa o.out.row C (Nat.le_refl _);obtain ⟨g1,N,e,-,-,-,q0,q1,q2⟩:=f.at i (by omega);simp only [Value.slice.injEq,Option.some.injEq,Addr.mk.injEq,and_true] at e;obtain ⟨rfl,-,-⟩:=e;have b5:=f.froz (by omega);have J:ChB w3 wr.heap.size kj yj zj:=(l.block _ I.out.lt).trans I.out;obtain ⟨p0,p1,p2⟩:=J.cells;have b1:i < ml.length:=(by omega);clear l C f J d0 d1 d2;go_wp2_with fail;exact ⟨⟨i+1,j+1,_,by go_num,by go_num,B.out⟩,by simp [intOf];omega⟩
   ·have a2:j=ml.length:=(by omega);subst a2;obtain ⟨-,b8,w5,e5,O,R⟩:=o.out.clear;have a3:=hid e5;have a4:=hid O;have a5:Hid (Mod (fun k=> (Value.slice (some ⟨g,0,none⟩) ml.length c).ownBlock=some k) w w5):=R.mono fun k _ q=> by rw [q];rfl
    have b1:i<=ml.length:=(by omega);have b2:¬c=i:=(by omega);have b3:i<=c:=(by omega);clear e5 O R;go_wp2_with (refine Aoq wr (by rfl) (.tmp 38) 77 (by rfl) _ (by rfl) _ _ (a3.out _) ?_);go_ret;exact ⟨_,rfl,a4.out,rfl,a5.out⟩
end Go.Proofs.YtolgpnaoaodepaaGreat
