import Derived.Test.YtolgpnaoaodepaaGreatRefFm
import Derived.Test.YtolgpnaoaodepaaGreatRlCm
namespace Go.Proofs.YtolgpnaoaodepaaGreat
open Go.RowKit
abbrev NdM:=Int×Value×Value×Value×Value
def Gj (l:List NdM):List Value:=l.flatMap fun x=> [.int .i64 x.1,x.2.1,x.2.2.1,x.2.2.2.1,x.2.2.2.2]
def Zr (B:Nat) (w:World) (v:Value) (l:List NdM):Prop:=w.ownsRow B 79 5 v l.length (Gj l)
theorem Oe:∀l:List NdM,(Gj l).length=l.length*5
 | []=> rfl
 | x::r=> by
  have:Gj (x::r)=[.int .i64 x.1,x.2.1,x.2.2.1,x.2.2.2.1,x.2.2.2.2]++Gj r:=rfl;rw [this,List.length_append,Oe r,List.length_cons];simp;omega
theorem Of (a b:List NdM):Gj (a++b)=Gj a++Gj b:=by unfold Gj;rw [List.flatMap_append]
theorem Akv:(Tryz.prog.info? 79).map (fun i=> (i.zero,i.size,i.bytes))=some (some (.agg #[.int .i64 0,.slice none 0 0,.slice none 0 0,.slice none 0 0,.slice none 0 0]),5,104):=by kernel_rfl
theorem Zr.at {B:Nat} {w:World} {v:Value} {l:List NdM} (h:Zr B w v l) (i:Nat) (hi:i < l.length):∃g b,v= .slice (some ⟨g,0,none⟩) l.length b/\l.length<=b/\B<=g/\g < w.heap.size/\w.cell? ⟨g,i*5,none⟩=some (.int .i64 (l[i]'hi).1)/\w.cell? ⟨g,i*5+1,none⟩=some (l[i]'hi).2.1/\w.cell? ⟨g,i*5+2,none⟩=some (l[i]'hi).2.2.1/\w.cell? ⟨g,i*5+3,none⟩=some (l[i]'hi).2.2.2.1/\w.cell? ⟨g,i*5+4,none⟩=some (l[i]'hi).2.2.2.2:=by
 rcases h.2 with ⟨_,h0⟩ | ⟨g,b,m,e,n,o,p,-⟩
 ·omega
 ·have c:∀j u,(Gj l)[j]?=some u->w.cell? ⟨g,j,none⟩=some u:=fun j u d=> by
   have:=World.ownsRow.cells h (g:=g) (by rw [e];rfl) j u d;rw [Cw] at this;simpa using this
  have a:∀j u,[Value.int .i64 (l[i]'hi).1,(l[i]'hi).2.1,(l[i]'hi).2.2.1,(l[i]'hi).2.2.2.1,(l[i]'hi).2.2.2.2][j]?=some u->(Gj l)[i*5+j]?=some u:=fun j u d=> by
   have k:Gj l=Gj (l.take i)++([.int .i64 (l[i]'hi).1,(l[i]'hi).2.1,(l[i]'hi).2.2.1,(l[i]'hi).2.2.2.1,(l[i]'hi).2.2.2.2]++Gj (l.drop (i+1))):=by
    have:l=l.take i++(l[i]'hi::l.drop (i+1)):=by rw [<-List.drop_eq_getElem_cons hi,List.take_append_drop]
    conv=> lhs;rw [this]
    rw [Of];rfl
   have f:j < 5:=(by have:=(List.getElem?_eq_some_iff.1 d).1;simpa using this);rw [k,List.getElem?_append_right (by rw [Oe,List.length_take];omega),Oe,List.length_take,Nat.min_eq_left (Nat.le_of_lt hi),show i*5+j - i*5=j by omega,List.getElem?_append_left (by simpa using f)];exact d
  exact ⟨g,b,e,p,n,(Array.getElem?_eq_some_iff.1 o).1,by simpa using c _ _ (a 0 _ rfl),c _ _ (a 1 _ rfl),c _ _ (a 2 _ rfl),c _ _ (a 3 _ rfl),c _ _ (a 4 _ rfl)⟩
theorem Gd {B:Nat} {e:TypeId} {s n:Nat} {v:Value} {xs:List Value} {w:World} (h:w.ownsRow B e s v n xs) {g:Nat} (a:v.ownBlock=some g):∃i q,w.heap[g]?=some (.cells i e q):=by
 rcases h.2 with ⟨rfl,_⟩ | ⟨b,c,d,rfl,_,f,_⟩
 ·simp [Value.ownBlock] at a
 ·obtain rfl:b=g:=Option.some.inj a;exact ⟨_,_,f⟩
def Mq (w:World) (F:Nat->Prop) (es:List TypeId):Prop:=∀g,F g->∃cs ty q,w.heap[g]?=some (.cells cs ty q)/\ty∉es
theorem Fb {F:Nat->Prop} {w w':World} (m:Mod F w w') {b:List TypeId} (k:Mq w F b) {B:Nat} {e:TypeId} {s n:Nat} {v:Value} {xs:List Value} (l:e∈b) (h:w.ownsRow B e s v n xs):w'.ownsRow B e s v n xs:=m.row h fun g i j=> by
 obtain ⟨o,p,q,c,d⟩:=k g j;obtain ⟨f,r,a⟩:=Gd h i;rw [c] at a;simp only [Option.some.injEq,Obj.cells.injEq] at a;exact d (by rw [a.2.1];exact l)
def Apz:List TypeId:=[79,51,3,9,34]
def Anw:List TypeId:=[51,3,9,34]
theorem Mq.nd {w:World} {F:Nat->Prop} (h:Mq w F Apz):Mq w F Anw:=fun g f=> by
 obtain ⟨a,b,q,c,d⟩:=h g f;exact ⟨a,b,q,c,fun z=> d (List.mem_cons_of_mem _ z)⟩
theorem Eb.mod {F:Nat->Prop} {w w':World} (m:Mod F w w') (a:Mq w F Anw) {B:Nat} {v:Value} {kd:Int} {il:List (ByteArray×ByteArray)} {cl:List Nat} {pl:List ByteArray} {ml:List (Int×ByteArray×ByteArray)} (h:Eb B w v kd il cl pl ml):Eb B w' v kd il cl pl ml:=by
 obtain ⟨v1,v2,v3,v4,e,b,c,d,f,g⟩:=h;exact ⟨v1,v2,v3,v4,e,Fb m a (by decide) b,Fb m a (by decide) c,Fb m a (by decide) d,Fb m a (by decide) f,g⟩
structure Akw (iml:List ByteArray) (vp:Value) (ps:List NdM) (w:World):Prop where
 row:Zr 0 w vp ps
 pgs:∀(i:Nat) (hi:i < ps.length),∃il cl pl ml,(Ag iml)[i]?=some (some ((ps[i]'hi).1,plain il,cl,lists pl,plainCh ml))/\Eb 0 w (.agg #[.int .i64 (ps[i]'hi).1,(ps[i]'hi).2.1,(ps[i]'hi).2.2.1,(ps[i]'hi).2.2.2.1,(ps[i]'hi).2.2.2.2]) (ps[i]'hi).1 il cl pl ml
theorem Akw.mod {F:Nat->Prop} {w w':World} (m:Mod F w w') (a:Mq w F Apz) {iml:List ByteArray} {vp:Value} {b:List NdM} (h:Akw iml vp b w):Akw iml vp b w':=
 ⟨Fb m a (by decide) h.row,fun i hi=> by
  obtain ⟨il,cl,pl,ml,c,d⟩:=h.pgs i hi;exact ⟨il,cl,pl,ml,c,d.mod m a.nd⟩⟩
set_option maxHeartbeats 400000 in
theorem Aao (p:Nat) (a:Option Addr) (n c:Nat) (first:Int) (w:World) (l:An w p (.slice a n c) (.slice none 0 0) (.slice none 0 0)):
  Calls Tryz.prog 67 #[.pointer (some ⟨p,0,none⟩),.int .i64 first] w fun r w'=> r= .returned (.agg #[.int .i64 1,.slice a n c,.slice none 0 0,.slice none 0 0,.slice none 0 0])/\Below w.heap.size w w':=by
 have b:Below w.heap.size w (w.alloc (.cells #[.int .i64 0,.slice none 0 0,.slice none 0 0,.slice none 0 0,.slice none 0 0] 79)):=(Below.refl _ w).alloc (Nat.le_refl _) _;have g:=hid b;have d:An _ p (.slice a n c) (.slice none 0 0) (.slice none 0 0):=(b.block p l.lt).trans l;have f:=hid (Bw w (.int .i64 0) (.slice none 0 0) (.slice none 0 0) (.slice none 0 0) (.slice none 0 0));have i:=hid (Et p _ _ _ _ _ _ d);obtain ⟨u,y,z,-⟩:=d.cells;clear b d l;go_enter Tryz.func67,Tryz.ntmps67;go_wp2_with fail;generalize w.alloc (.cells #[.int .i64 0,.slice none 0 0,.slice none 0 0,.slice none 0 0,.slice none 0 0] 79)=N at*;refine i.out.mono ?_;rintro r M ⟨rfl,rfl⟩;obtain ⟨A,B,C,D,F,G,H,I,J,L⟩:=f.out.cells;have j:=hid (f.out.put (.int .i64 1) (.slice a n c) (.slice none 0 0) (.slice none 0 0) (.slice none 0 0));have k:=hid (Gi g.out (Nat.le_refl _) (.int .i64 1) (.slice a n c) (.slice none 0 0) (.slice none 0 0) (.slice none 0 0));go_wp2_with fail;refine bodyPost_ret (v:= .agg #[.int .i64 1,.slice a n c,.slice none 0 0,.slice none 0 0,.slice none 0 0]) ?_ rfl ⟨rfl,k.out⟩;obtain ⟨m,o,q,s,t⟩:=Cb j.out;unfold Hm at m o q s t;simp [results,Tryz.results67,go_sem,m,o,q,s,t]
structure Zs (w:World) (nb:Nat) (vm:Value) (cl:List Nat) (pv:List ByteArray) (v2 v3:Value) (W:World):Prop where
 nd:Bd W nb (.int .i64 2) (.slice none 0 0) v2 v3 vm
 kids:W.ownsRow w.heap.size 3 1 v2 cl.length (Bk cl)
 pivs:Av w.heap.size W v3 pv
 bel:Below w.heap.size w W
 low:w.heap.size < nb
 rs:Bd W w.heap.size (.int .i64 0) (.slice none 0 0) (.slice none 0 0) (.slice none 0 0) (.slice none 0 0)
theorem Zs.below {w:World} {b:Nat} {c:Value} {cl:List Nat} {d:List ByteArray} {v2 v3:Value} {W W':World} (h:Zs w b c cl d v2 v3 W) (a:Below W.heap.size W W'):Zs w b c cl d v2 v3 W':=
 ⟨h.nd.keep a,Aa h.kids a (Nat.le_refl _),Aa h.pivs a (Nat.le_refl _),h.bel.trans (a.mono h.bel.size),h.low,h.rs.keep a⟩
theorem Dp {F:Nat->Prop} {w W W':World} (h:Below w.heap.size w W) (m:Mod F W W') (b:∀g,F g->w.heap.size<=g):Below w.heap.size w W':=
 h.trans ⟨m.os,m.tape,m.output,m.size,fun k a=> m.block k (Nat.lt_of_lt_of_le a h.size) (fun q=> Nat.lt_irrefl _ (Nat.lt_of_lt_of_le a (b k q)))⟩
theorem Bd.alien {w:World} {b:Nat} {c v1 v2 v3 v4:Value} (h:Bd w b c v1 v2 v3 v4):Mq w (fun g=> g=b) [3,9]:=fun g a=> by
 rw [show g=b from a];exact ⟨_,_,_,h,by decide⟩
theorem Bd.not_row {w:World} {b:Nat} {c v1 v2 v3 v4:Value} (h:Bd w b c v1 v2 v3 v4) {B:Nat} {e:TypeId} {s n:Nat} {v:Value} {xs:List Value} (d:w.ownsRow B e s v n xs) (f:e≠79):v.ownBlock≠some b:=fun q=> by
 obtain ⟨g,i,a⟩:=Gd d q;unfold Bd at h;rw [h] at a;simp only [Option.some.injEq,Obj.cells.injEq] at a;exact f a.2.1.symm
theorem Zs.kid {w:World} {b:Nat} {j:Value} {cl:List Nat} {l:List ByteArray} {v2 v3 f:Value} {W W':World} {n:Nat} (h:Zs w b j cl l v2 v3 W) (r:W'.ownsRow w.heap.size 3 1 f (cl.length+1) (Bk cl++[.int .i64 (n:Nat)])) (c:W.grownBy W' v2.ownBlock):Bd W' b (.int .i64 2) (.slice none 0 0) v2 v3 j/\Zs w b j (cl++[n]) l f v3 (W'.setCell ⟨b,2,none⟩ f):=by
 have m:=Mod.of_grown c;have o:Mq W (fun k=> v2.ownBlock=some k) [9]:=fun g c=> by
  obtain ⟨p,q,e⟩:=Gd h.kids c;exact ⟨p,_,q,e,by decide⟩
 have a:Bd W' b (.int .i64 2) (.slice none 0 0) v2 v3 j:=(m.block b h.nd.lt (h.nd.not_row h.kids (by decide))).trans h.nd;have d:Bd W' w.heap.size (.int .i64 0) (.slice none 0 0) (.slice none 0 0) (.slice none 0 0) (.slice none 0 0):=(m.block _ h.rs.lt (h.rs.not_row h.kids (by decide))).trans h.rs;have i:=Mod.setCell W' b 2 f;refine ⟨a,a.set2 f,?_,Fb i a.alien (by decide) (Fb m o (by decide) h.pivs),Dp (Dp h.bel m (fun g c=> (World.ownsRow.lt h.kids g c).1)) i (fun g c=> by rw [show g=b from c];exact Nat.le_of_lt h.low),h.low,(i.block _ d.lt (Nat.ne_of_lt h.low)).trans d⟩;have e:Bk (cl++[n])=Bk cl++[.int .i64 (n:Nat)]:=by simp [Bk]
 rw [e,List.length_append];exact Fb i a.alien (by decide) r
theorem Zs.piv {w:World} {b:Nat} {j:Value} {cl:List Nat} {l:List ByteArray} {v2 v3 f:Value} {W W':World} {s:ByteArray} (h:Zs w b j cl l v2 v3 W) (p:Av w.heap.size W' f (l++[s])) (c:W.grownBy W' v3.ownBlock):Bd W' b (.int .i64 2) (.slice none 0 0) v2 v3 j/\Zs w b j cl (l++[s]) v2 f (W'.setCell ⟨b,3,none⟩ f):=by
 have m:=Mod.of_grown c;have n:Mq W (fun k=> v3.ownBlock=some k) [3]:=fun g c=> by
  obtain ⟨o,q,e⟩:=Gd h.pivs c;exact ⟨o,_,q,e,by decide⟩
 have a:Bd W' b (.int .i64 2) (.slice none 0 0) v2 v3 j:=(m.block b h.nd.lt (h.nd.not_row h.pivs (by decide))).trans h.nd;have d:Bd W' w.heap.size (.int .i64 0) (.slice none 0 0) (.slice none 0 0) (.slice none 0 0) (.slice none 0 0):=(m.block _ h.rs.lt (h.rs.not_row h.pivs (by decide))).trans h.rs;have i:=Mod.setCell W' b 3 f;exact ⟨a,a.set3 f,Fb i a.alien (by decide) (Fb m n (by decide) h.kids),Fb i a.alien (by decide) p,Dp (Dp h.bel m (fun g c=> (World.ownsRow.lt h.pivs g c).1)) i (fun g c=> by rw [show g=b from c];exact Nat.le_of_lt h.low),h.low,(i.block _ d.lt (Nat.ne_of_lt h.low)).trans d⟩
theorem Akx {pl:List (ByteArray×Nat)} {i:Nat} (hi:i < pl.length) (h0:0 < i):((pl.take (i+1)).map (·.1)).tail=((pl.take i).map (·.1)).tail++[(pl[i]'hi).1]:=by
 have e:pl.take (i+1)=pl.take i++[pl[i]'hi]:=by rw [List.take_add_one,List.getElem?_eq_getElem hi];rfl
 have a:(pl.take i).map (·.1)≠[]:=fun q=> by
  have:=congrArg List.length q;rw [List.length_map,List.length_take,List.length_nil] at this;omega
 rw [e,List.map_append,List.tail_append_of_ne_nil a];rfl
theorem Ai4 (pl:List (ByteArray×Nat)):((pl.take 0).map (·.1)).tail=((pl.take (0+1)).map (·.1)).tail:=by cases pl <;> rfl
theorem Api (w:World) (b:Nat) (u0 u1 u2 u3 u4:Value):Mod (fun g=> g=b) w (Hm w b u0 u1 u2 u3 u4):=by
 have d:∀{a f c:World},Mod (fun g=> g=b) a f->Mod (fun g=> g=b) f c->Mod (fun g=> g=b) a c:=fun i j=> i.trans j (fun _ _ q=> q) (fun _ _ q=> q)
 exact d (d (d (d (Mod.setCell _ _ _ _) (Mod.setCell _ _ _ _)) (Mod.setCell _ _ _ _)) (Mod.setCell _ _ _ _)) (Mod.setCell _ _ _ _)
set_option maxHeartbeats 1000000 in
set_option maxRecDepth 20000 in
theorem Vw (p:Nat) (vp:Value) (pl:List (ByteArray×Nat)) (b:Option Addr) (c d first:Nat) (w:World) (hn:An w p (.slice none 0 0) vp (.slice b c d)) (hp:Ap 0 w vp pl) (h0:0 < pl.length) (h4:pl.length<=4) (hf:first<=1000000000):
  Calls Tryz.prog 67 #[.pointer (some ⟨p,0,none⟩),.int .i64 (first:Nat)] w fun r w'=>∃v2 v3,r= .returned (.agg #[.int .i64 2,.slice none 0 0,v2,v3,.slice b c d])/\w'.ownsRow 0 3 1 v2 pl.length (Bk (List.range' first pl.length))/\Av 0 w' v3 (pl.map (·.1)).tail/\Below w.heap.size w w':=by
 obtain ⟨ap,cp,rfl⟩:=Ab hp;have HN:=hid hn;have HP:=hid hp;have l:Below w.heap.size w (w.alloc (.cells #[.int .i64 0,.slice none 0 0,.slice none 0 0,.slice none 0 0,.slice none 0 0] 79)):=(Below.refl _ w).alloc (Nat.le_refl _) _;have Y:(w.alloc (.cells #[.int .i64 0,.slice none 0 0,.slice none 0 0,.slice none 0 0,.slice none 0 0] 79)).heap.size=w.heap.size+1:=by simp
 have B:An _ p (.slice none 0 0) (.slice ap pl.length cp) (.slice b c d):=(l.block p hn.lt).trans hn;have Z:=Bw w (.int .i64 0) (.slice none 0 0) (.slice none 0 0) (.slice none 0 0) (.slice none 0 0);have a0:=hid (Et p _ _ _ _ _ _ B);obtain ⟨x0,x1,x2,-⟩:=B.cells;have a1:decide (pl.length=0)=false:=decide_eq_false (by omega);have a2:Hid (Zs w (w.heap.size+1) (.slice b c d) [] [] (.slice none 0 0) (.slice none 0 0) ((w.alloc (.cells #[.int .i64 0,.slice none 0 0,.slice none 0 0,.slice none 0 0,.slice none 0 0] 79)).alloc (.cells #[.int .i64 2,.slice none 0 0,.slice none 0 0,.slice none 0 0,.slice b c d] 79))):=by
  generalize w.alloc (.cells #[.int .i64 0,.slice none 0 0,.slice none 0 0,.slice none 0 0,.slice none 0 0] 79)=w1 at*;have a3:Below w1.heap.size w1 (w1.alloc (.cells #[.int .i64 2,.slice none 0 0,.slice none 0 0,.slice none 0 0,.slice b c d] 79)):=(Below.refl _ w1).alloc (Nat.le_refl _) _;have h2:=Bw w1 (.int .i64 2) (.slice none 0 0) (.slice none 0 0) (.slice none 0 0) (.slice b c d);rw [Y] at h2;exact ⟨h2,⟨rfl,.inl ⟨rfl,rfl⟩⟩,⟨rfl,.inl ⟨rfl,rfl⟩⟩,l.trans (a3.mono l.size),Nat.lt_succ_self _,Z.keep a3⟩
 clear l B Z hn hp;go_enter Tryz.func67,Tryz.ntmps67;go_wp2_with fail;refine a0.out.mono ?_;rintro r w2 ⟨rfl,rfl⟩;rw [a1];have a4:=a2.out.bel.block p HN.out.lt;have a6:An _ p (.slice none 0 0) (.slice ap pl.length cp) (.slice b c d):=a4.trans HN.out;obtain ⟨u0,u1,u2,-⟩:=a6.cells;clear a6 a4;go_wp2_with fail;generalize (w.alloc (.cells #[.int .i64 0,.slice none 0 0,.slice none 0 0,.slice none 0 0,.slice none 0 0] 79)).alloc (.cells #[.int .i64 2,.slice none 0 0,.slice none 0 0,.slice none 0 0,.slice b c d] 79)=w3 at*;clear u0 u1 u2 x0 x1 x2 a0 a1 Y
 go_loopw [25] (fun vi wr=>∃(i:Nat) (cl:List Nat) (k:List ByteArray) (v2 v3:Value),vi= .int .i64 (i:Nat)/\i<=pl.length/\(cl=List.range' first i/\k=((pl.take i).map (·.1)).tail)/\Zs w (w.heap.size+1) (.slice b c d) cl k v2 v3 wr) (fun vi _=> pl.length - (intOf vi).toNat)
 case atStart=> exact ⟨0,[],[],_,_,rfl,Nat.zero_le _,⟨rfl,rfl⟩,a2.out⟩
 case round=>
  obtain ⟨i,cl,k,v2,v3,rfl,hi,a,j⟩:=hrel;have b6:=hid a;obtain ⟨o,s,rfl⟩:=Ab j.kids;obtain ⟨y,A,rfl⟩:=Ab j.pivs;have c9:cl.length<=4:=by rw [a.1,List.length_range'];omega
  have d0:k.length<=4:=by rw [a.2,List.length_tail,List.length_map,List.length_take];omega
  have HM:=hid j;by_cases t:i < pl.length
  ·obtain ⟨g,d5,e,hc,-,hg,y0,y1⟩:=Ap.at (Aa HP.out j.bel (Nat.le_refl _)) i t;simp only [Value.slice.injEq,true_and] at e;obtain ⟨rfl,rfl⟩:=e;have b7:(i:Int) < (pl.length:Int):=(by omega);have d1:(0:Int)<=(i:Int):=(by omega);have a8:Hid (cl++[first+i]=List.range' first (i+1)):=(by show _=_;rw [a.1,List.range'_concat];simp);have a9:Hid (0 < i->k++[(pl[i]'t).1]=((pl.take (i+1)).map (·.1)).tail):=fun h=> by rw [a.2,Akx t h]
   have b8:Hid (i=0->k=((pl.take (i+1)).map (·.1)).tail):=fun h=> by rw [a.2,h];exact Ai4 pl
   clear a;generalize pl[i]'t=x at*;obtain ⟨f,q⟩:=x;simp only at y0 y1 a9;have C:Hid ((wr.alloc (.cells #[.string f,.pointer (some ⟨q,0,none⟩)] 132)).heap[wr.heap.size]?=some (.cells #[.string f,.pointer (some ⟨q,0,none⟩)] 132 (0,0))):=heap_alloc_new _ _;have D:Below wr.heap.size wr (wr.alloc (.cells #[.string f,.pointer (some ⟨q,0,none⟩)] 132)):=(Below.refl _ wr).alloc (Nat.le_refl _) _;have b0:(wr.alloc (.cells #[.string f,.pointer (some ⟨q,0,none⟩)] 132)).heap.size=wr.heap.size+1:=(by simp);have b1:=hid b0;have H3:=hid (j.below D);obtain ⟨I,J,L,M,N,T,U,V,W,X⟩:=(j.below D).nd.cells;have d4:IntKind.i64.wrap ((first:Int)+(i:Int))=((first+i:Nat):Int):=(by rw [IntKind.wrap_i64];omega);have b9:=hid H3.out.bel.size;have c0:=hid (j.nd.lt);clear j D b0;go_upto_if 39 with (at_builtin;refine Iw (wr.alloc (.cells #[.string f,.pointer (some ⟨q,0,none⟩)] 132)) rfl (.tmp 31) (.tmp 35) 25 3 Tryz.underlying25 _ 1 8 My rfl (by decide) (by decide) rfl w.heap.size (.slice o cl.length s) cl.length _ rfl H3.out.kids [.int .i64 ((first+i:Nat):Int)] rfl (by intro u hu;simp at hu;rw [hu];rfl) (by simp [Act.eval]) (by omega) b9.out ?_;intro v5 w5 O R _;have F:=hid (H3.out.kid (n:=first+i) O R);have G:Hid (w5.heap[wr.heap.size]?=some (.cells #[.string f,.pointer (some ⟨q,0,none⟩)] 132 (0,0))):=((Mod.of_grown R).block _ (by rw [b1.out];omega) (fun z=> by obtain ⟨cs,q',e9⟩:=Gd H3.out.kids z;rw [C.out] at e9;simp at e9)).trans C.out;obtain ⟨a5,c5,rfl⟩:=Ab O;clear O R;clear I J L M N T U V W X;obtain ⟨I,J,L,M,N,T,U,V,W,X⟩:=F.out.1.cells);have H6:=hid F.out.2;have c1:Hid ((w5.setCell ⟨w.heap.size+1,2,none⟩ (.slice a5 (cl.length+1) c5)).heap[wr.heap.size]?=some (.cells #[.string f,.pointer (some ⟨q,0,none⟩)] 132 (0,0))):=by
    have c2:wr.heap.size < w5.heap.size:=(Array.getElem?_eq_some_iff.1 G.out).1;exact ((Mod.setCell w5 (w.heap.size+1) 2 _).block _ c2 (fun z=> by have:=c0.out;omega)).trans G.out
   clear I J L M N T U V W X F G H3 C b1;generalize w5.setCell ⟨w.heap.size+1,2,none⟩ (.slice a5 (cl.length+1) c5)=w6 at*;by_cases c8:0 < i
   ·have c3:(0:Int) < (i:Int):=(by omega);have z0:w6.cell? ⟨wr.heap.size,0,none⟩=some (.string f):=(by simp [World.cell?,c1.out]);obtain ⟨I,J,L,M,N,T,U,V,W,X⟩:=H6.out.nd.cells;have b2:=hid H6.out.bel.size;go_wp2_with (at_builtin;refine Aaz w6 rfl (.tmp 41) (.tmp 44) rfl w.heap.size (.slice y k.length A) k rfl H6.out.pivs f (by simp [Act.eval]) (by omega) b2.out ?_;intro v7 w7 S b5 _;have b3:=hid (H6.out.piv S b5);obtain ⟨a7,c7,rfl⟩:=Ab S;clear S b5 I J L M N T U V W X;obtain ⟨I,J,L,M,N,T,U,V,W,X⟩:=b3.out.1.cells);have hy:=b3.out.2;rw [List.length_append,List.length_singleton] at hy;exact ⟨⟨i+1,_,_,_,_,by go_num,by omega,⟨a8.out,a9.out c8⟩,hy⟩,by simp [intOf];omega⟩
   ·have c3:¬(0:Int) < (i:Int):=(by omega);go_wp2_with fail;exact ⟨⟨i+1,_,_,_,_,by go_num,by omega,⟨a8.out,b8.out (by omega)⟩,H6.out⟩,by simp [intOf];omega⟩
  ·have H:i=pl.length:=(by omega);obtain ⟨I,J,L,M,N,-⟩:=j.nd.cells;obtain ⟨r0,r1,r2,r3,r4,y0,y1,y2,y3,y4⟩:=j.rs.cells;have b7:¬(i:Int) < (pl.length:Int):=(by omega);have c4:=hid (j.rs.put (.int .i64 2) (.slice none 0 0) (.slice o cl.length s) (.slice y k.length A) (.slice b c d));have m:=Api wr w.heap.size (.int .i64 2) (.slice none 0 0) (.slice o cl.length s) (.slice y k.length A) (.slice b c d);have b4:Hid (∃v2 v3,(Ending.returned (.agg #[.int .i64 2,.slice none 0 0,.slice o cl.length s,.slice y k.length A,.slice b c d]))= .returned (.agg #[.int .i64 2,.slice none 0 0,v2,v3,.slice b c d])/\(Hm wr w.heap.size (.int .i64 2) (.slice none 0 0) (.slice o cl.length s) (.slice y k.length A) (.slice b c d)).ownsRow 0 3 1 v2 pl.length (Bk (List.range' first pl.length))/\Av 0 (Hm wr w.heap.size (.int .i64 2) (.slice none 0 0) (.slice o cl.length s) (.slice y k.length A) (.slice b c d)) v3 (pl.map (·.1)).tail/\Below w.heap.size w (Hm wr w.heap.size (.int .i64 2) (.slice none 0 0) (.slice o cl.length s) (.slice y k.length A) (.slice b c d))):=by
    have h1:=Fx (Fb m j.rs.alien (by decide) j.kids);have h2:Av 0 _ _ _:=Fx (Fb m j.rs.alien (by decide) j.pivs);have h3:=Dp j.bel m (fun g hg=> by rw [show g=w.heap.size from hg];exact Nat.le_refl _);have e1:cl=List.range' first pl.length:=(by rw [a.1,H]);have c6:k=(pl.map (·.1)).tail:=(by rw [a.2,H,List.take_length]);have el:cl.length=pl.length:=(by rw [e1,List.length_range']);refine ⟨.slice o cl.length s,_,rfl,?_,?_,h3⟩
    ·rw [<-e1,<-el];exact h1
    ·rw [<-c6];exact h2
   clear j a b6 H m;go_wp2_with fail;refine bodyPost_ret (v:= .agg #[.int .i64 2,.slice none 0 0,.slice o cl.length s,.slice y k.length A,.slice b c d]) ?_ rfl b4.out;obtain ⟨q0,q1,q2,q3,q4⟩:=Cb c4.out;unfold Hm at q0 q1 q2 q3 q4;simp [results,Tryz.results67,go_sem,q0,q1,q2,q3,q4]
end Go.Proofs.YtolgpnaoaodepaaGreat
