import Derived.Test.YtolgpnaoaodepaaGreatScaFm
import Derived.Test.YtolgpnaoaodepaaGreatAidBm
namespace Go.Proofs.YtolgpnaoaodepaaGreat
open Go.RowKit
set_option maxHeartbeats 2000000 in
set_option maxRecDepth 4000 in
theorem Aey (v:Value) (ml:List (Int×ByteArray×ByteArray)) (w:World) (h:Au 0 w v ml) (hl:ml.length<=1000):
  Calls Tryz.prog 272 #[v,.int .i64 0,.int .i64 (ml.length:Nat),.func (.func 240) #[] #[]] w fun r w'=> r= .returned (.tuple #[])/\∃l,SrM w v ml l w'/\Tr.Acw (plainCh l):=by
 have H0:Hid (SrM w v ml ml w):=⟨h,Tr.Stb.refl _,Mod.of_below (Below.refl _ w)⟩;obtain ⟨a,c,rfl⟩:=Ab h;clear h;go_enter Tryz.func272,Tryz.ntmps272;go_wp2_with fail
 go_loopw [8] (fun vi wr=>∃i l,vi= .int .i64 (i:Nat)/\1<=i/\i<=1001/\SrM w (.slice a ml.length c) ml l wr/\Tr.Np (Hp.nth (0,[],[]) (plainCh l)) i) (fun vi _=> 1001 - (intOf vi).toNat)
 case atStart=> exact ⟨1,ml,rfl,Nat.le_refl _,by decide,H0.out,fun x y h1 h2=> by omega⟩
 case round=>
  obtain ⟨i,O,rfl,e7,e8,hS,hR⟩:=hrel;have U:=hS.len;have HS:=hid hS;have HR:=hid hR;clear hS hR;by_cases f1:i < ml.length
  ·have V:(i:Int) < (ml.length:Int):=(by omega);obtain ⟨g,e9,e,d9,-,hg,-,-,-⟩:=HS.out.row.at i (by omega);simp only [Value.slice.injEq] at e;obtain ⟨rfl,-,rfl⟩:=e;have a7:Hid (Tr.Ye (Hp.nth (0,[],[]) (plainCh O)) i i):=Tr.Ye.start HR.out;go_wp2_with fail
   go_loopw [9] (fun vj wr=>∃j l,vj= .int .i64 (j:Nat)/\j<=i/\SrM w (.slice (some ⟨g,0,none⟩) ml.length c) ml l wr/\Tr.Ye (Hp.nth (0,[],[]) (plainCh l)) i j) (fun vj _=> (intOf vj).toNat)
   case atStart=> exact ⟨i,O,rfl,Nat.le_refl _,HS.out,a7.out⟩
   case round=>
    obtain ⟨j,b,rfl,c5,R,a2⟩:=hrel;have a8:=R.len;have s:=hid R;have L:=hid a2;clear R a2
    cases j with
    | zero=>
     have HD:Hid (Tr.Np (Hp.nth (0,[],[]) (plainCh b)) (i+1)):=L.out.done (.inl rfl);go_upto_region 4 with fail;go_quiet (fail);have f:Hid (SrM w (.slice (some ⟨g,0,none⟩) ml.length c) ml b (wr.drewN nq)):=s.out.below (Am (Below.refl _ _) _);go_wp2_with fail;exact ⟨⟨i+1,b,by go_num,by omega,by omega,f.out,HD.out⟩,by simp [intOf];omega⟩
    | succ j=>
     have o:j+1 < b.length:=(by omega);have p:j < b.length:=(by omega);obtain ⟨g1,n,e,c6,-,f0,d0,d1,d2⟩:=s.out.row.at (j+1) o;simp only [Value.slice.injEq,Option.some.injEq,Addr.mk.injEq,and_true] at e;obtain ⟨rfl,-,rfl⟩:=e;obtain ⟨g1,n,e,-,-,-,e0,e1,e2⟩:=s.out.row.at j p;simp only [Value.slice.injEq,Option.some.injEq,Addr.mk.injEq,and_true] at e;obtain ⟨rfl,-,rfl⟩:=e;obtain ⟨c1,B⟩:∃c1,b[j+1]'o=c1:=⟨_,rfl⟩;obtain ⟨c0,C⟩:∃c0,b[j]'p=c0:=⟨_,rfl⟩;rw [B] at d0 d1 d2;rw [C] at e0 e1 e2;have X:=hid B;have Y:=hid C;have M:=hid (Gz b o);have N:=hid (Gz b p);rw [B] at M;rw [C] at N;clear B C;obtain ⟨k1,T,x1⟩:=c1;obtain ⟨H,t,I⟩:=c0;have HO:=hid (fun W=> Ak5 k1 H T x1 t I W);have e3:IntKind.i64.wrap ((j:Int)+1 - 1)=(j:Int):=(by rw [IntKind.wrap_i64];omega);have e4:IntKind.i64.wrap (((j+1:Nat):Int) - 1)=(j:Int):=(by rw [IntKind.wrap_i64];omega);have CN:∀W,Calls Tryz.prog 240 #[.agg #[.int .i64 k1,.string T,.string x1],.agg #[.int .i64 H,.string t,.string I]] W fun r w'=> r= .returned (.int .i64 (Lib.compareBytes T.data.toList t.data.toList))/\Below W.heap.size W w':=fun W=> HO.out W
     have e5:IntKind.i64.wrap (j:Int)=(j:Int):=(by rw [IntKind.wrap_i64];omega);have b1:(j:Int)+1 < (ml.length:Int):=(by omega);have b2:(0:Int)<=(j:Int)+1:=(by omega);have b3:((j:Int)+1).toNat=j+1:=(by omega);have b4:j < ml.length:=(by omega);have b5:j+1 < ml.length:=(by omega);have a9:=fun (d:Nat) (A:Array Obj)=> cell_regrown d0 d A
     have b0:=fun (d:Nat) (A:Array Obj)=> cell_regrown d1 d A
     have b6:=fun (d:Nat) (A:Array Obj)=> cell_regrown d2 d A
     have b7:=fun (d:Nat) (A:Array Obj)=> cell_regrown e0 d A
     have b8:=fun (d:Nat) (A:Array Obj)=> cell_regrown e1 d A
     have b9:=fun (d:Nat) (A:Array Obj)=> cell_regrown e2 d A
     have Z:=hid (Vz T.data.toList t.data.toList);generalize Lib.compareBytes T.data.toList t.data.toList=q at*;go_upto_region 4 with fail;refine wp_region_quiet_below (by kernel_rfl) (by kernel_rfl) ?_
     repeat (quiet_step (exact Calls.regrown_of (CN _)))
     refine wpQuiet_nil ?_;intro wx d7;obtain ⟨⟨dq,c7⟩,J⟩:=d7;have f:=hid (s.out.below (J▸below_regrown _ dq c7));clear J;clear a9 b0 b6 b7 b8 b9;by_cases hq:q < 0
     ·have c2:decide (q < 0)=true:=decide_eq_true hq;have a0:=Z.out.1 hq;obtain ⟨S,a3⟩:=f.out.swap j o p Y.out X.out a0;have c3:Hid (Tr.Ye (Hp.nth (0,[],[]) (plainCh ((b.set (j+1) (H,t,I)).set j (k1,T,x1)))) i j):=by
       have h1:=L.out.step c5 (by rw [M.out,N.out];exact a0);rw [a3,show Hp.nth (0,[],[]) (Hp.swL (0,[],[]) (plainCh b) j (j+1))=Hp.swp (Hp.nth (0,[],[]) (plainCh b)) j (j+1) from funext fun k=> Hp.Rr _ _ (by rw [Ao];omega) (by rw [Ao];omega) k];exact h1
      unfold sw6 at S;have c4:=hid S;obtain ⟨g1,n,e,-,-,-,c8,c9,d3⟩:=f.out.row.at (j+1) o;simp only [Value.slice.injEq,Option.some.injEq,Addr.mk.injEq,and_true] at e;obtain ⟨rfl,-,-⟩:=e;obtain ⟨g1,n,e,-,-,-,d4,d5,d6⟩:=f.out.row.at j p;simp only [Value.slice.injEq,Option.some.injEq,Addr.mk.injEq,and_true] at e;obtain ⟨rfl,-,-⟩:=e;rw [X.out] at c8 c9 d3;rw [Y.out] at d4 d5 d6;have e6:=f.out.row.froz (by omega);have m:=Au.set f.out.row (j+1) o (H,t,I);have d8:=m.froz (by rw [List.length_set];omega);have a1:j < (b.set (j+1) (H,t,I)).length:=(by rw [List.length_set];exact p);obtain ⟨g1,n,e,-,-,-,a4,a5,a6⟩:=m.at j a1;simp only [Value.slice.injEq,Option.some.injEq,Addr.mk.injEq,and_true] at e;obtain ⟨rfl,-,-⟩:=e;have D:∃u,(((wx.setCell ⟨g,(j+1)*3,none⟩ (.int .i64 H)).setCell ⟨g,(j+1)*3+1,none⟩ (.string t)).setCell ⟨g,(j+1)*3+2,none⟩ (.string I)).cell? ⟨g,j*3,none⟩=some u:=⟨_,a4⟩;have F:∃u,(((wx.setCell ⟨g,(j+1)*3,none⟩ (.int .i64 H)).setCell ⟨g,(j+1)*3+1,none⟩ (.string t)).setCell ⟨g,(j+1)*3+2,none⟩ (.string I)).cell? ⟨g,j*3+1,none⟩=some u:=⟨_,a5⟩;have G:∃u,(((wx.setCell ⟨g,(j+1)*3,none⟩ (.int .i64 H)).setCell ⟨g,(j+1)*3+1,none⟩ (.string t)).setCell ⟨g,(j+1)*3+2,none⟩ (.string I)).cell? ⟨g,j*3+2,none⟩=some u:=⟨_,a6⟩;obtain ⟨u0,D⟩:=D;obtain ⟨u1,F⟩:=F;obtain ⟨u2,G⟩:=G;clear S a3 m a4 a5 a6 a1 d0 d1 d2 e0 e1 e2 s f;go_upto_region 6 with fail
      go_region_law (fail)
      all_goals
       go_wp2_with fail;exact ⟨⟨j,_,rfl,by omega,c4.out,c3.out⟩,by simp [intOf]⟩
     ·have c2:decide (q < 0)=false:=decide_eq_false hq;have HD:Hid (Tr.Np (Hp.nth (0,[],[]) (plainCh b)) (i+1)):=L.out.done (.inr (by
       show ¬(Hp.nth (0,[],[]) (plainCh b) (j+1)).2.1 < (Hp.nth (0,[],[]) (plainCh b) j).2.1;rw [M.out,N.out];exact fun z=> hq (Z.out.2 z)))
      go_wp2_with fail;exact ⟨⟨i+1,b,by go_num,by omega,by omega,f.out,HD.out⟩,by simp [intOf];omega⟩
  ·have V:¬((i:Int) < (ml.length:Int)):=(by omega);have HF:Hid (Tr.Acw (plainCh O)):=Tr.Np.rise (d:=(0,[],[])) fun x y h1 h2=> HR.out x y h1 (by rw [Ao,U] at h2;omega)
   go_wp2_with fail;go_end0;exact ⟨rfl,_,HS.out,HF.out⟩
set_option maxHeartbeats 400000 in
theorem Ahe (v:Value) (ml:List (Int×ByteArray×ByteArray)) (w:World) (h:Au 0 w v ml) (n:ml.length<=19):
  Calls Tryz.prog 264 #[v,.int .i64 (ml.length:Nat),.func (.func 240) #[] #[]] w fun r w'=> r= .returned (.tuple #[])/\∃a,SrM w v ml a w'/\Tr.Acw (plainCh a):=by
 have b:=hid (Aey v ml w h (by omega));have j:¬((20:Int)<=(ml.length:Int)):=by omega
 have k:¬((20:Int) < (ml.length:Int)):=by omega
 have l:¬(20<=ml.length):=by omega
 have m:¬(20 < ml.length):=by omega
 clear h;go_enter Tryz.func264,Tryz.ntmps264;go_wp2_with fail
 go_loopw [7,8] (fun g i wr=> g= .int .i64 0/\i= .int .i64 20/\wr=w) (fun _ _ _=> 0)
 case atStart=> exact ⟨rfl,rfl,rfl⟩
 case round=>
  obtain ⟨rfl,rfl,rfl⟩:=hrel;go_wp2_with fail;refine b.out.mono ?_;rintro r f ⟨rfl,c⟩;have d:=hid c;clear c b;go_wp2_with fail
  go_loopw [6] (fun v6 wr=> v6= .int .i64 20/\wr=f) (fun _ _=> 0)
  case atStart=> exact ⟨rfl,rfl⟩
  case round=>
   obtain ⟨rfl,rfl⟩:=hrel;go_wp2_with fail;go_end0;exact ⟨rfl,d.out⟩
set_option maxHeartbeats 400000 in
theorem Yj (v:Value) (ml:List (Int×ByteArray×ByteArray)) (w:World) (h:Au 0 w v ml) (i:ml.length<=19):
  Calls Tryz.prog 239 #[v,.func (.func 240) #[] #[]] w fun r w'=> r= .returned (.tuple #[])/\∃b,SrM w v ml b w'/\Tr.Acw (plainCh b):=by
 have d:=hid (Ahe v ml w h i);obtain ⟨a,c,rfl⟩:=Ab h;clear h;go_enter Tryz.func239,Tryz.ntmps239;go_wp2_with fail;refine d.out.mono ?_;rintro r j ⟨rfl,f⟩;have g:=hid f;clear f d;go_wp2_with fail;go_end0;exact ⟨rfl,g.out⟩
theorem Amm {w:World} {B:Nat} {e:TypeId} {s n:Nat} {v:Value} {xs:List Value} (h:w.ownsRow 0 e s v n xs) (l:∀g,v.ownBlock=some g->B<=g):w.ownsRow B e s v n xs:=by
 rcases h.2 with ⟨rfl,f⟩ | ⟨g,a,b,rfl,_,i,j,k,c,d⟩
 ·exact ⟨h.1,.inl ⟨rfl,f⟩⟩
 ·exact ⟨h.1,.inr ⟨g,a,b,rfl,l g rfl,i,j,k,c,d⟩⟩
theorem Mod.below {F:Nat->Prop} {w w':World} {B:Nat} (h:Mod F w w') (c:B<=w.heap.size) (a:∀k,F k->B<=k):Below B w w':=⟨h.os,h.tape,h.output,h.size,fun k b=> h.block k (by omega) (fun q=> by have:=a k q;omega)⟩
theorem Rt {w:World} {b:Nat} {a:Array Value} {T:TypeId} (h:w.heap[b]?=some (.cells a T (0,0))) (i:Nat):w.cell? ⟨b,i,none⟩=a[i]?:=by unfold World.cell?;simp [h]
def Jz (x:ByteArray×ByteArray):Int×ByteArray×ByteArray:=(1,x.1,x.2)
structure CfM (w:World) (fr:ByteArray) (v:Value) (ml:List (Int×ByteArray×ByteArray)) (wr:World):Prop where
 row:Au 0 wr v ml
 new:∀g,v.ownBlock=some g->w.heap.size<=g
 box:wr.heap[w.heap.size]?=some (.cells #[.string fr] 9 (0,0))
 bel:Below w.heap.size w wr
theorem CfM.ne {w:World} {d:ByteArray} {v:Value} {ml:List (Int×ByteArray×ByteArray)} {wr:World} (h:CfM w d v ml wr):v.ownBlock≠some w.heap.size:=fun e=> by
 rcases h.row.2 with ⟨rfl,_⟩ | ⟨g,b,c,rfl,f,a,_⟩
 ·simp [Value.ownBlock] at e
 ·have:g=w.heap.size:=by simpa [Value.ownBlock] using e
  rw [this,h.box] at a;simp at a
theorem CfM.grown {w:World} {f:ByteArray} {v c:Value} {ml a:List (Int×ByteArray×ByteArray)} {wr w':World} (h:CfM w f v ml wr) (j:Au 0 w' c a) (i:Mod (fun k=> v.ownBlock=some k) wr w') (l:c.ownBlock=v.ownBlock\/∃k,wr.heap.size<=k/\c.ownBlock=some k):CfM w f c a w':=by
 refine ⟨j,fun g b=> ?_,?_,h.bel.trans (i.below h.bel.size h.new)⟩
 ·rcases l with e | ⟨k,m,e⟩
  ·rw [e] at b;exact h.new g b
  ·rw [e] at b;have:=Option.some.inj b;have:=h.bel.size;omega
 ·have d:w.heap.size < wr.heap.size:=(Array.getElem?_eq_some_iff.1 h.box).1;exact (i.block _ d h.ne).trans h.box
theorem CfM.below {w:World} {c:ByteArray} {v:Value} {ml:List (Int×ByteArray×ByteArray)} {wr w':World} (h:CfM w c v ml wr) (b:Below wr.heap.size wr w'):CfM w c v ml w':=by
 have a:w.heap.size < wr.heap.size:=(Array.getElem?_eq_some_iff.1 h.box).1;exact ⟨Aa h.row b (Nat.le_refl _),h.new,(b.block _ a).trans h.box,h.bel.trans (b.mono h.bel.size)⟩
set_option maxHeartbeats 1000000 in
set_option maxRecDepth 4000 in
theorem Vu (p:Nat) (B vp vc:Value) (il:List (ByteArray×ByteArray)) (ml:List (Int×ByteArray×ByteArray)) (a:ByteArray) (w:World) (hn:An w p B vp vc) (hi:Ak 0 w B il) (hc:Au 0 w vc ml) (hl:il.length+ml.length<=19):
  Calls Tryz.prog 187 #[.pointer (some ⟨p,0,none⟩),.string a] w fun r w'=>∃v X,r= .returned v/\Au w.heap.size w' v X/\Tr.Scd a.data.toList (plainCh (il.map Jz++ml)) (plainCh X)/\Below w.heap.size w w':=by
 obtain ⟨a0,c0,rfl⟩:=Ab hi;obtain ⟨Z,c1,rfl⟩:=Ab hc;have n:Below w.heap.size w (w.alloc (.cells #[.string a] 9)):=(Below.refl _ w).alloc (Nat.le_refl _) _;have H0:Hid (CfM w a (.slice none 0 0) [] (w.alloc (.cells #[.string a] 9))):=⟨World.ownsRow_nil _ _ _ _,fun g hg=> by simp [Value.ownBlock] at hg,heap_alloc_new _ _,n⟩;have HN:=hid hn;have HI:=hid hi;have HC:=hid hc;have C:An (w.alloc (.cells #[.string a] 9)) p (.slice a0 il.length c0) vp (.slice Z ml.length c1):=(n.block p hn.lt).trans hn;obtain ⟨n0,n1,n2,-⟩:=C.cells;clear hn hi hc n C;go_enter Tryz.func187,Tryz.ntmps187;go_wp2_with fail
 go_loopw [5,13] (fun v5 B wr=>∃j:Nat,B= .int .i64 (j:Nat)/\j<=il.length/\CfM w a v5 ((il.take j).map Jz) wr) (fun _ B _=> il.length - (intOf B).toNat)
 case atStart=> exact ⟨0,rfl,Nat.zero_le _,H0.out⟩
 case round=>
  obtain ⟨j,rfl,hj,d⟩:=hrel;have Y:=hid d;have a8:=d.bel.size;clear d n0 n1 n2;by_cases i:j < il.length
  ·obtain ⟨g,b2,e,b3,-,hg,d0,d1⟩:=HI.out.at j i;simp only [Value.slice.injEq] at e;obtain ⟨rfl,-,rfl⟩:=e;have s:=fun o=> Y.out.bel.cell (p:=⟨g,o,none⟩) hg
   have a9:=(s _).trans d0;have b0:=(s _).trans d1;have a2:Hid ((il.take (j+1)).map Jz=(il.take j).map Jz++[Jz (il[j]'i)]):=by
    show _=_;rw [List.take_add_one,List.getElem?_eq_getElem i,List.map_append];rfl
   clear s d0 d1;generalize il[j]'i=it at*;obtain ⟨l,m⟩:=it;have D:Below wr.heap.size wr (wr.alloc (.cells #[.string l,.string m] 51)):=(Below.refl _ wr).alloc (Nat.le_refl _) _;have t:=hid (Y.out.below D);have hx:(wr.alloc (.cells #[.string l,.string m] 51)).heap[wr.heap.size]?=some (.cells #[.string l,.string m] 51 (0,0)):=heap_alloc_new _ _;have y0:(wr.alloc (.cells #[.string l,.string m] 51)).cell? ⟨wr.heap.size,0,none⟩=some (.string l):=Rt hx 0;have y1:(wr.alloc (.cells #[.string l,.string m] 51)).cell? ⟨wr.heap.size,1,none⟩=some (.string m):=Rt hx 1;have b1:((il.take j).map Jz).length<=19:=(by rw [List.length_map,List.length_take];omega);clear D hx;go_wp2_with (at_builtin;refine Iw (wr.alloc (.cells #[.string l,.string m] 51)) rfl (.tmp 17) (.tmp 23) 77 34 Tryz.underlying77 _ 3 40 Du rfl (by decide) (by decide) rfl 0 u5 _ _ rfl t.out.row [.int .i64 1,.string l,.string m] rfl (by intro u hu;simp at hu;rcases hu with rfl | rfl | rfl <;> rfl) (by simp [Act.eval]) (by omega) (Nat.zero_le _) ?_;intro v2 w2 U V W)
   have a3:Hid (CfM w a v2 ((il.take (j+1)).map Jz) w2):=by
    refine t.out.grown ?_ (Mod.of_grown V) W;rw [a2.out];unfold Au;rw [List.length_append,Lx];exact U
   clear U V W t;go_wp2_with fail;exact ⟨⟨j+1,by go_num,by omega,a3.out⟩,by simp [intOf];omega⟩
  ·have a4:j=il.length:=(by omega);subst a4;rw [List.take_length] at Y;have d:=Y.out;obtain ⟨a5,c5,rfl⟩:=Ab d.row;have F:An wr p (.slice a0 il.length c0) vp (.slice Z ml.length c1):=(d.bel.block p HN.out.lt).trans HN.out;have G:Au 0 wr (.slice Z ml.length c1) ml:=Aa HC.out d.bel (Nat.le_refl _);obtain ⟨v6,w6,e6,o6,g6,k6⟩:=Nm wr 77 77 34 Tryz.underlying77 _ 3 40 Du rfl (by decide) (by decide) (.slice a5 (il.map Jz).length c5) (.slice Z ml.length c1) (il.map Jz).length ml.length (ccells (il.map Jz)) (ccells ml) d.row G (Py ml) (by simp;omega);have b:CfM w a v6 (il.map Jz++ml) w6:=by
    refine d.grown ?_ (Mod.of_grown g6) (k6.imp id fun q=> ⟨_,Nat.le_refl _,q⟩);unfold Au;rw [List.length_append,show ccells (il.map Jz++ml)=ccells (il.map Jz)++ccells ml by unfold ccells;simp];exact o6
   have H:=hid e6;obtain ⟨n0,n1,n2,-⟩:=F.cells;have k:w.heap.size < w6.heap.size:=(Array.getElem?_eq_some_iff.1 b.box).1;have I:w6.cell? ⟨w.heap.size,0,none⟩=some (.string a):=(by simp [World.cell?,b.box]);have y:=hid (Yi v6 (il.map Jz++ml) a w.heap.size w6 b.row (by simp;omega) I k b.ne);have a6:Hid (Yf w.heap.size= .func (.func 238) #[] #[.pointer (some ⟨w.heap.size,0,none⟩)]):=rfl;rw [a6.out] at y;have a7:=hid b;clear d F G e6 o6 g6 k6 b I k;rw [List.length_map] at H ⊢;go_wp2_with (at_builtin;refine Lib.wpList_append_run wr rfl (.tmp 26) (.tmp 30) 77 77 rfl _ _ rfl rfl _ _ H.out ?_);refine y.out.mono ?_;rintro r w7 ⟨v7,rfl,N,O,R⟩;have z:=a7.out.grown N R (.inl O);have J:((il.map Jz++ml).filter fun c=> !Er a c).length<=19:=Nat.le_trans (List.length_filter_le _ _) (by simp;omega);have L:=hid (Yj v7 _ w7 z.row J);have M:=hid z;clear N O R z y J;go_wp2_with fail;refine L.out.mono ?_;rintro r w8 ⟨rfl,S,f,T⟩;have HF:Hid (Au w.heap.size w8 v7 S/\Tr.Scd a.data.toList (plainCh (il.map Jz++ml)) (plainCh S)/\Below w.heap.size w w8):=by
    have A:=M.out.grown f.row f.mod (.inl rfl);refine ⟨Amm A.row A.new,Tr.Stb.scd ?_ T,A.bel⟩;have:=f.stb;rw [show plainCh ((il.map Jz++ml).filter fun c=> !Er a c)=(plainCh (il.map Jz++ml)).filter fun c=> !decide (c.2.1 < a.data.toList) from He (il.map Jz++ml) (fun c=> !decide (c.2.1 < a.data.toList))] at this;exact this
   clear f T L M;go_wp2_with fail;go_ret;exact ⟨_,_,rfl,HF.out⟩
def PlB (w:World) (b:Nat) (key:ByteArray) (lv:Nat) (un:Option Addr) (ch:Value):Prop:=w.heap[b]?=some (.cells #[.string key,.int .i64 (lv:Nat),.pointer un,ch] 139 (0,0))
theorem PlB.lt {w:World} {b:Nat} {key:ByteArray} {a:Nat} {c:Option Addr} {d:Value} (h:PlB w b key a c d):b < w.heap.size:=(Array.getElem?_eq_some_iff.1 h).1
theorem PlB.cells {w:World} {b:Nat} {key:ByteArray} {a:Nat} {c:Option Addr} {d:Value} (h:PlB w b key a c d):w.cell? ⟨b,0,none⟩=some (.string key)/\w.cell? ⟨b,1,none⟩=some (.int .i64 (a:Nat))/\w.cell? ⟨b,2,none⟩=some (.pointer c)/\w.cell? ⟨b,3,none⟩=some d:=by
 unfold PlB at h;refine ⟨?_,?_,?_,?_⟩ <;> simp [World.cell?,h]
def ptcells (bs:List Nat):List Value:=bs.map fun b=> Value.pointer (some ⟨b,0,none⟩)
def Cs (B:Nat) (w:World) (v:Value) (bs:List Nat):Prop:=w.ownsRow B 137 1 v bs.length (ptcells bs)
theorem Vc (bs:List Nat):(ptcells bs).length=bs.length:=by simp [ptcells]
theorem Cs.at {B:Nat} {w:World} {v:Value} {bs:List Nat} (h:Cs B w v bs) (i:Nat) (hi:i < bs.length):∃g a,v= .slice (some ⟨g,0,none⟩) bs.length a/\bs.length<=a/\B<=g/\g < w.heap.size/\w.cell? ⟨g,i,none⟩=some (.pointer (some ⟨bs[i]'hi,0,none⟩))/\w.frozen? ⟨g,i,none⟩=false:=by
 rcases h.2 with ⟨_,m⟩ | ⟨g,a,d,rfl,f,c,j,n,k,l⟩
 ·omega
 ·have b:=World.ownsRow.cells h (g:=g) rfl i _ (by show (ptcells bs)[i]?=_;simp [ptcells,hi];rfl);rw [Dm] at b;exact ⟨g,a,rfl,j,f,(Array.getElem?_eq_some_iff.1 c).1,by simpa using b,by simp [World.frozen?,c]⟩
theorem Cs.set {B:Nat} {w:World} {g a:Nat} {bs:List Nat} (h:Cs B w (.slice (some ⟨g,0,none⟩) bs.length a) bs) (i:Nat) (hi:i < bs.length) (q:Nat):Cs B (w.setCell ⟨g,i,none⟩ (.pointer (some ⟨q,0,none⟩))) (.slice (some ⟨g,0,none⟩) bs.length a) (bs.set i q):=by
 rcases h.2 with ⟨_,n⟩ | ⟨o,f,b,e,j,k,l,m,c,d⟩
 ·omega
 ·simp only [Value.slice.injEq,Option.some.injEq,Addr.mk.injEq,and_true,true_and] at e;obtain ⟨rfl,rfl⟩:=e;unfold Cs;rw [List.length_set];refine ⟨by rw [Vc,List.length_set,Nat.mul_one],.inr ⟨g,a,b.setIfInBounds i (.pointer (some ⟨q,0,none⟩)),rfl,j,?_,l,m,by simpa using c,?_⟩⟩
  ·rw [Ad (i:=i) k]
  ·rw [Array.toList_setIfInBounds,List.take_set,d];simp [ptcells]
set_option maxHeartbeats 400000 in
theorem Aez (a:Option Addr) (n c:Nat) (w:World):
  Calls Tryz.prog 292 #[.slice a n c] w fun r w'=> r= .returned (.int .i64 (n:Nat))/\w'=w:=by
 go_enter Tryz.func292,Tryz.ntmps292;go_wp2_with fail;go_ret;exact ⟨rfl,rfl⟩
def Nr (k1:ByteArray) (l1:Nat) (k2:ByteArray) (l2:Nat):Bool:=if k1.data.toList=k2.data.toList then decide (l2 < l1) else decide (k1.data.toList < k2.data.toList)
set_option maxHeartbeats 400000 in
theorem Tg (v:Value) (bs:List Nat) (i j:Nat) (w:World) (h:Cs 0 w v bs) (hi:i < bs.length) (c:j < bs.length) (a b:ByteArray) (f k:Nat) (u1 u2:Option Addr) (p s:Value) (l:PlB w (bs[i]'hi) a f u1 p) (m:PlB w (bs[j]'c) b k u2 s):
  Calls Tryz.prog 293 #[v,.int .i64 (i:Nat),.int .i64 (j:Nat)] w fun r w'=> r= .returned (.bool (Nr a f b k))/\Below w.heap.size w w':=by
 obtain ⟨g,o,rfl,u,-,y,A,-⟩:=h.at i hi;obtain ⟨B,d,e,-,-,-,C,-⟩:=h.at j c;simp only [Value.slice.injEq,Option.some.injEq,Addr.mk.injEq,and_true,true_and] at e;obtain ⟨rfl,rfl⟩:=e;obtain ⟨D,F,-,-⟩:=l.cells;obtain ⟨G,H,-,-⟩:=m.cells;clear h l m;generalize bs[i]'hi=I at*;generalize bs[j]'c=J at*;generalize bs.length=n at*;unfold Nr;by_cases q:a.data.toList=b.data.toList
 ·rw [if_pos q];have e:a=b:=by cases a;cases b;simpa [Array.toList_inj] using q
  subst e;go_enter Tryz.func293,Tryz.ntmps293;go_upto_region 1 with fail;go_quiet (fail);go_upto_region 2 with fail;go_quiet (fail);go_upto_region 4 with fail;go_quiet (fail);go_wp2_with fail;go_ret;exact ⟨by simp,Am (Below.refl _ _) _⟩
 ·rw [if_neg q];have e:¬a=b:=fun z=> q (by rw [z])
  have t:(a.toList==b.toList)=false:=by rw [Ah,Ah];simpa using q
  go_enter Tryz.func293,Tryz.ntmps293;go_upto_region 1 with fail;go_quiet (fail);go_upto_region 2 with fail;go_quiet (fail);go_upto_region 3 with fail;go_quiet (fail);go_wp2_with fail;go_ret;refine ⟨?_,Am (Am (Am (Below.refl _ _) _) _) _⟩;show Ending.returned (.bool (Op.bytesLess a.toList b.toList))=_;rw [Ah,Ah,Db]
set_option maxHeartbeats 400000 in
theorem Th (v:Value) (bs:List Nat) (i j:Nat) (w:World) (h:Cs 0 w v bs) (hi:i < bs.length) (a:j < bs.length):
  Calls Tryz.prog 294 #[v,.int .i64 (i:Nat),.int .i64 (j:Nat)] w fun r w'=> r= .returned (.tuple #[])/\Cs 0 w' v (Hp.swL 0 bs i j)/\w.grownBy w' v.ownBlock/\w'.heap.size=w.heap.size:=by
 obtain ⟨g,l,rfl,C,-,D,F,G⟩:=h.at i hi;obtain ⟨H,q,e,-,-,-,I,J⟩:=h.at j a;simp only [Value.slice.injEq,Option.some.injEq,Addr.mk.injEq,and_true,true_and] at e;obtain ⟨rfl,rfl⟩:=e;have n:Cs 0 (w.setCell ⟨g,i,none⟩ (.pointer (some ⟨bs[j]'a,0,none⟩))) (.slice (some ⟨g,0,none⟩) bs.length l) (bs.set i (bs[j]'a)):=Cs.set h i hi _;have b:(bs.set i (bs[j]'a)).length=bs.length:=by simp
 have p:Cs 0 ((w.setCell ⟨g,i,none⟩ (.pointer (some ⟨bs[j]'a,0,none⟩))).setCell ⟨g,j,none⟩ (.pointer (some ⟨bs[i]'hi,0,none⟩))).drew (.slice (some ⟨g,0,none⟩) bs.length l) (Hp.swL 0 bs i j):=by
  unfold Hp.swL;rw [Hp.Dj 0 bs hi,Hp.Dj 0 bs a];have:=n;rw [<-b] at this ⊢;exact Cs.set this j (by rw [b];exact a) _
 obtain ⟨L,s,o,-,-,-,t,M⟩:=n.at j (by rw [b];exact a);rw [b] at o;simp only [Value.slice.injEq,Option.some.injEq,Addr.mk.injEq,and_true,true_and] at o;obtain ⟨rfl,rfl⟩:=o;have z:Hid (w.grownBy ((w.setCell ⟨g,i,none⟩ (.pointer (some ⟨bs[j]'a,0,none⟩))).setCell ⟨g,j,none⟩ (.pointer (some ⟨bs[i]'hi,0,none⟩))).drew (some g)):=by
  have c:=Gn g i w (.pointer (some ⟨bs[j]'a,0,none⟩));have d:=Gn g j (w.setCell ⟨g,i,none⟩ (.pointer (some ⟨bs[j]'a,0,none⟩))) (.pointer (some ⟨bs[i]'hi,0,none⟩));exact ⟨d.os.trans c.os,d.tape.trans c.tape,d.output.trans c.output,Nat.le_trans c.size d.size,fun k y m=> (d.block k (Nat.lt_of_lt_of_le y c.size) m).trans (c.block k y m)⟩
 have A:Hid ((((w.setCell ⟨g,i,none⟩ (.pointer (some ⟨bs[j]'a,0,none⟩))).setCell ⟨g,j,none⟩ (.pointer (some ⟨bs[i]'hi,0,none⟩))).drew).heap.size=w.heap.size):=by
  show _=_;simp
 have B:=hid p;have f:∃u,(w.setCell ⟨g,i,none⟩ (.pointer (some ⟨bs[j]'a,0,none⟩))).cell? ⟨g,j,none⟩=some (.pointer u):=⟨_,t⟩;obtain ⟨u,f⟩:=f;clear h n p t b;generalize bs[i]'hi=N at*;generalize bs[j]'a=O at*;go_enter Tryz.func294,Tryz.ntmps294;go_upto_region 0 with fail
 go_region_law (fail)
 all_goals
  go_wp2_with fail;go_end0;exact ⟨rfl,B.out,z.out,A.out⟩
end Go.Proofs.YtolgpnaoaodepaaGreat
