import Derived.Test.YtolgpnaoaodepaaGreatTreUm
namespace Go.Proofs.YtolgpnaoaodepaaGreat
open Go.RowKit
set_option maxHeartbeats 1500000 in
set_option maxRecDepth 20000 in
theorem Aab (g a n R:Nat) (pl b:List (ByteArray×Nat)) (i:Nat) (w:World) (hi:i+1 < pl.length) (a2:pl.length - 1+b.length<=a) (h:Ap 0 w (.slice (some ⟨g,0,none⟩) pl.length a) pl) (S:Ap 0 w (.slice (some ⟨n,0,none⟩) b.length R) b) (c5:2<=b.length) (hl:pl.length<=20000000) (c6:b.length<=20000000) (L:g≠n):
  Calls Tryz.prog 175 #[.slice (some ⟨g,0,none⟩) pl.length a,.int .i64 (i:Nat),.int .i64 ((i:Nat)+1),.slice (some ⟨n,0,none⟩) b.length R] w fun r w'=>∃v',r= .returned v'/\Aaa (.slice (some ⟨g,0,none⟩) pl.length a) (Ms pl i b) w v' w':=by
 rcases h.2 with ⟨_,hn⟩ | ⟨g',I,c,e,hb,O,hc,hm,p,J⟩
 ·omega
 simp only [Value.slice.injEq,Option.some.injEq,Addr.mk.injEq,and_true,true_and] at e;obtain ⟨rfl,rfl⟩:=e;have a3:a<=9223372036854775807:=by unfold maxLen at hm;omega
 obtain ⟨T,N⟩:∃T,T=pl.length - 1+b.length:=⟨_,rfl⟩;have a4:(i:Int)+(b.length:Int)+((pl.length - (i+1):Nat):Int)=(T:Int):=by omega
 have b0:i<=20000000:=by omega
 have b1:i<=a:=by omega
 have b2:(i:Int)+1<=(a:Int):=by omega
 have b3:i+1<=a:=by omega
 have b4:((i:Int)==(i:Int)+1)=false:=by simp;omega
 have b5:((i:Int)+1==(pl.length:Int))=false:=by simp;omega
 have b6:(i:Int)+1<=(pl.length:Int):=by omega
 have b7:i+1<=pl.length:=by omega
 have b8:¬a=i+1:=by omega
 have b9:(0:Int)<=(i:Int)+1:=by omega
 have bT:T<=a:=by omega
 have a5:decide ((a:Int) < (T:Int))=false:=by simp;omega
 have a6:decide ((i:Int)+(b.length:Int)<=(i:Int)+1)=false:=by simp;omega
 have a7:i+b.length<=T:=by omega
 have w1:IntKind.i64.wrap ((i:Int)+(b.length:Int))=(i:Int)+(b.length:Int):=by rw [IntKind.wrap_i64];omega
 have w4:((i:Int)+(b.length:Int)).toNat=i+b.length:=by omega
 have w5:(0:Int)<=(i:Int)+(b.length:Int):=by omega
 have w6:(i:Int)+(b.length:Int)<=(T:Int):=by omega
 have w7:¬a=i+b.length:=by omega
 have w2:IntKind.i64.wrap (T:Int)=(T:Int):=by rw [IntKind.wrap_i64];omega
 have d:c.toList.length=a*2:=by simpa using p
 have s:(pcells (pl.drop (i+1))).length=(pl.length - (i+1))*2:=by rw [Ar,List.length_drop]
 have m:(pcells b).length=b.length*2:=Ar b;have hA:c.toList.take (i*2)=pcells (pl.take i):=by
  rw [Gx _ _ (by omega),<-J,List.take_take];congr 1;omega
 obtain ⟨c0,c1,ev,-,-,D,-,-⟩:=S.at 0 (by omega);simp only [Value.slice.injEq,Option.some.injEq,Addr.mk.injEq,and_true,true_and] at ev;obtain ⟨rfl,rfl⟩:=ev;obtain ⟨k,F,G⟩:∃k:Array Value,w.heap[n]?=some (.cells k 132 (0,0))/\0 < k.size:=by
  rcases S.2 with ⟨_,q⟩ | ⟨g',I,k,e,_,a0,q1,_,q3,_⟩
  ·omega
  ·simp only [Value.slice.injEq,Option.some.injEq,Addr.mk.injEq,and_true,true_and] at e;obtain ⟨rfl,rfl⟩:=e;exact ⟨k,a0,by omega⟩
 have U:=Ej (P:=Tryz.prog) w.drew.drew 121 121 3 132 2 g ((i+b.length)*2) (T - (i+b.length)) (a - (i+b.length)) g ((i+1)*2) (pl.length - (i+1)) (a - (i+1)) (pl.length - (i+1)) c 132 (pcells (pl.drop (i+1))) Tryz.underlying121 (by kernel_rfl) O (by rw [show T - (i+b.length)=pl.length - (i+1) by omega];exact Nat.min_self _) s (fun j u hj=> Oo h (i+1) (by omega) j u hj) (by rw [s,p];omega) (Ea _);rw [s,show (i+b.length)*2+(pl.length - (i+1))*2=T*2 by omega] at U;have V:(c.toList.take ((i+b.length)*2)++pcells (pl.drop (i+1))++c.toList.drop (T*2)).length=a*2:=by
  simp only [List.length_append,List.length_take,List.length_drop,s,d];omega
 have B:(c.toList.take ((i+b.length)*2)++pcells (pl.drop (i+1))++c.toList.drop (T*2)).take (i*2)=pcells (pl.take i):=by
  rw [List.append_assoc,List.take_append_of_le_length (by rw [List.length_take,d];omega),List.take_take,<-hA];congr 1;omega
 have C:(c.toList.take ((i+b.length)*2)++pcells (pl.drop (i+1))++c.toList.drop (T*2)).drop (i*2+b.length*2)=pcells (pl.drop (i+1))++c.toList.drop (T*2):=by
  rw [List.append_assoc,show i*2+b.length*2=(c.toList.take ((i+b.length)*2)).length by rw [List.length_take,d];omega,List.drop_left]
 generalize a1:c.toList.take ((i+b.length)*2)++pcells (pl.drop (i+1))++c.toList.drop (T*2)=l at*;have z:=Cy (w:=w.drew.drew) O l;have f:=Bl w.drew.drew g l.toArray;have t:∀j u,(pcells b)[j]?=some u->(w.drew.drew.setRow g l.toArray).cell? ⟨n,0+j,none⟩=some u:=fun j u hj=> by
  rw [Nat.zero_add];exact (World.cell?_of_block (f.block n D (fun e=> L (Option.some.inj e).symm))).trans (Oq S j u hj)
 have M:=Ej (P:=Tryz.prog) (w.drew.drew.setRow g l.toArray) 121 121 3 132 2 g (i*2) (T - i) (a - i) n 0 b.length R b.length l.toArray 132 (pcells b) Tryz.underlying121 (by kernel_rfl) z (Nat.min_eq_left (by omega)) m t (by rw [m];simp;omega) (Ea _);rw [m] at M;simp only [B,C] at M;have HQ:Hid (Aaa (.slice (some ⟨g,0,none⟩) pl.length a) (Ms pl i b) w (.slice (some ⟨g,0,none⟩) T a) ((w.drew.drew.setRow g l.toArray).setRow g (pcells (pl.take i)++pcells b++(pcells (pl.drop (i+1))++c.toList.drop (T*2))).toArray)):=by
  have A:(pcells (pl.take i)).length=i*2:=by rw [Ar,List.length_take];omega
  refine ⟨?_,?_,.inl rfl⟩
  ·unfold Ap;rw [Lg _ _ _ (by omega),<-N];refine Ng (Cy z _) (by omega) hm ?_ ?_ (by rw [Ar,Lg _ _ _ (by omega),<-N])
   ·simp only [List.length_append,List.length_drop,A,m,s,d];omega
   ·rw [Qa,<-List.append_assoc,List.take_append_of_le_length (by simp only [List.length_append,A,m,s];omega),List.take_of_length_le (by simp only [List.length_append,A,m,s];omega)]
  ·have h2:=Bl (w.drew.drew.setRow g l.toArray) g (pcells (pl.take i)++pcells b++(pcells (pl.drop (i+1))++c.toList.drop (T*2))).toArray;exact Agt (⟨f.os,f.tape,f.output,f.size,f.block⟩:w.grownBy _ (some g)) h2
 have o:w.drew.heap[g]?=some (.cells c 132 (0,0)):=O;have y:w.drew.heap[n]?=some (.cells k 132 (0,0)):=F;have eo:(callFunc 227 #[.slice (some ⟨g,(i+b.length)*2,none⟩) (T - (i+b.length)) (a - (i+b.length)),.slice (some ⟨n,0,none⟩) b.length R]).run Tryz.prog w.drew= .ok (.value (.bool false)) w.drew:=by
  rw [run_callFunc_extern Tryz.func227 (by kernel_rfl) (by kernel_rfl) (by kernel_rfl) (e:=Extern.SlicesOverlaps.overlaps #[121,121] #[4]) (by kernel_rfl),Lib.run_overlaps_apart w.drew 121 4 132 Tryz.underlying121 2 (by
   intro w;obtain ⟨c2,H,c3,Z,c4⟩:=info_parts Fi;simp [Go.sizeOf,typeInfo,H,Z]) ⟨g,(i+b.length)*2,none⟩ ⟨n,0,none⟩ _ _ _ _ L 132 132 (a*2) k.size (by simp [World.shape?,o,p]) (by simp [World.shape?,y]) (by omega) (by simp [World.frozen?,o]) (by simp [World.frozen?,o])]
  rfl
 have W:=hid eo;have X:=hid U;have Y:=hid M;have HT:=hid N;clear eo o y U M z f t B C V a1 hA s m d F G N h S O p J hm hb;go_enter Tryz.func175,Tryz.ntmps175;go_upto_region 9 with fail
 go_region_law (fail)
 all_goals
  go_wp2_with fail;rw [W.out];rw [Oper.upon_value];go_upto_region 22 with fail
  go_region_law (refine Xh _ rfl (.tmp 126) (.tmp 129) 121 121 rfl _ _ (by simp [Act.eval,Act.put]) (by simp [Act.eval,Act.put]) _ _ X.out ?_)
  all_goals
   have a8:¬a=i:=(by omega);have a9:i<=T:=(by omega);go_wp2_with (refine Als _ rfl (.tmp 133) (.tmp 134) 121 121 rfl _ _ rfl rfl _ _ Y.out ?_);go_ret;have hF:=HQ.out;simp only [List.append_assoc] at hF;exact ⟨_,rfl,hF⟩
theorem Xq {P:Program} (w:World) (t b e:TypeId) (a:Option Addr) (c:Nat) (d:P.underlying t=some (.slice e)):(Builtin.clear_ #[t] b #[.slice a 0 c]).run P w= .ok (.tuple #[]) w:=by
 cases a <;> simp [Builtin.clear_,run_underlying d]
set_option maxHeartbeats 1200000 in
set_option maxRecDepth 20000 in
theorem Xr (g b F N:Nat) (pl:List (ByteArray×Nat)) (x:ByteArray×Nat) (i:Nat) (w:World) (hi:i+1 < pl.length) (h:Ap 0 w (.slice (some ⟨g,0,none⟩) pl.length b) pl) (O:Ap 0 w (.slice (some ⟨F,0,none⟩) 1 N) [x]) (hl:pl.length<=20000000):
  Calls Tryz.prog 175 #[.slice (some ⟨g,0,none⟩) pl.length b,.int .i64 (i:Nat),.int .i64 ((i:Nat)+1),.slice (some ⟨F,0,none⟩) 1 N] w fun r w'=>∃V,r= .returned V/\Aaa (.slice (some ⟨g,0,none⟩) pl.length b) (Ms pl i [x]) w V w':=by
 rcases h.2 with ⟨_,hn⟩ | ⟨g',U,f,e,hb,I,hc,J,n,o⟩
 ·omega
 simp only [Value.slice.injEq,Option.some.injEq,Addr.mk.injEq,and_true,true_and] at e;obtain ⟨rfl,rfl⟩:=e;have R:b<=9223372036854775807:=by unfold maxLen at J;omega
 have W:(i:Int)+1+((pl.length - (i+1):Nat):Int)=(pl.length:Int):=by omega
 have b0:i<=20000000:=by omega
 have b1:i<=b:=by omega
 have b2:(i:Int)+1<=(b:Int):=by omega
 have b3:i+1<=b:=by omega
 have b4:((i:Int)==(i:Int)+1)=false:=by simp;omega
 have b5:((i:Int)+1==(pl.length:Int))=false:=by simp;omega
 have b6:(i:Int)+1<=(pl.length:Int):=by omega
 have b7:i+1<=pl.length:=by omega
 have b8:¬b=i+1:=by omega
 have X:¬b=i:=by omega
 have b9:(0:Int)<=(i:Int)+1:=by omega
 have Y:i<=pl.length:=by omega
 have Z:decide ((b:Int) < (pl.length:Int))=false:=by simp;omega
 have w1:IntKind.i64.wrap ((i:Int)+1)=(i:Int)+1:=by rw [IntKind.wrap_i64];omega
 have w2:IntKind.i64.wrap (pl.length:Int)=(pl.length:Int):=by rw [IntKind.wrap_i64];omega
 have w4:((i:Int)+1).toNat=i+1:=by omega
 have l:f.toList.length=b*2:=by simpa using n
 have q:(pcells (pl.drop (i+1))).length=(pl.length - (i+1))*2:=by rw [Ar,List.length_drop]
 have S:f.toList.take (i*2)=pcells (pl.take i):=by
  rw [Gx _ _ (by omega),<-o,List.take_take];congr 1;omega
 have s:=(World.ownsRow.lt O F rfl).2;have t:=Ej (P:=Tryz.prog) w.drew 121 121 3 132 2 g (i*2) (pl.length - i) (b - i) F 0 1 N 1 f 132 (pcells [x]) Tryz.underlying121 (by kernel_rfl) I (Nat.min_eq_left (by omega)) (Ar [x]) (fun j u p=> by rw [Nat.zero_add];exact Oq O j u p) (by rw [Ar,n];simp;omega) (Ea _);rw [Ar,S] at t;simp only [List.length_cons,List.length_nil] at t;rw [show i*2+(0+1)*2=(i+1)*2 by omega] at t;have c:(pcells (pl.take i)).length=i*2:=by rw [Ar,List.length_take];omega
 have y:(pcells (pl.take i)++pcells [x]++f.toList.drop ((i+1)*2)).length=b*2:=by
  simp only [List.length_append,List.length_drop,c,Ar,l,List.length_cons,List.length_nil];omega
 have z:(pcells (pl.take i)++pcells [x]++f.toList.drop ((i+1)*2)).take ((i+1)*2)=pcells (pl.take i)++pcells [x]:=by
  rw [show (i+1)*2=(pcells (pl.take i)++pcells [x]).length by simp only [List.length_append,c,Ar,List.length_cons,List.length_nil];omega,List.take_left]
 have A:(pcells (pl.take i)++pcells [x]++f.toList.drop ((i+1)*2)).drop ((i+1)*2)=f.toList.drop ((i+1)*2):=by
  conv=> lhs;rw [show (i+1)*2=(pcells (pl.take i)++pcells [x]).length by simp only [List.length_append,c,Ar,List.length_cons,List.length_nil];omega]
  rw [show (pcells (pl.take i)++pcells [x]).length=(i+1)*2 by simp only [List.length_append,c,Ar,List.length_cons,List.length_nil];omega];rw [List.drop_append,List.drop_of_length_le (by simp only [List.length_append,c,Ar,List.length_cons,List.length_nil];omega),show (i+1)*2 - (pcells (pl.take i)++pcells [x]).length=0 by simp only [List.length_append,c,Ar,List.length_cons,List.length_nil];omega];rfl
 generalize M:pcells (pl.take i)++pcells [x]++f.toList.drop ((i+1)*2)=a at*;have m:=Cy (w:=w.drew) I a;have d:=Bl w.drew g a.toArray;have k:∀j u,(pcells (pl.drop (i+1)))[j]?=some u->(w.drew.setRow g a.toArray).drew.cell? ⟨g,(i+1)*2+j,none⟩=some u:=fun j u p=> by
  have a0:j < (pl.length - (i+1))*2:=by rw [<-q];exact (List.getElem?_eq_some_iff.1 p).1
  have G:a[(i+1)*2+j]?=some u:=by
   rw [<-List.getElem?_drop,A,List.getElem?_drop];rw [Ni _ _ (by omega),List.getElem?_drop,<-o,List.getElem?_take] at p;split at p
   ·exact p
   ·cases p
  unfold World.cell?;rw [show (w.drew.setRow g a.toArray).drew.heap[g]?=some (.cells a.toArray 132 (0,0)) from m];simpa using G
 have D:=Ej (P:=Tryz.prog) (w.drew.setRow g a.toArray).drew 121 121 3 132 2 g ((i+1)*2) (pl.length - (i+1)) (b - (i+1)) g ((i+1)*2) (pl.length - (i+1)) (b - (i+1)) (pl.length - (i+1)) a.toArray 132 (pcells (pl.drop (i+1))) Tryz.underlying121 (by kernel_rfl) m (Nat.min_self _) q k (by rw [q];simp;omega) (Ea _);rw [q,show (i+1)*2+(pl.length - (i+1))*2=pl.length*2 by omega] at D;simp only [z] at D;have T:Hid (Aaa (.slice (some ⟨g,0,none⟩) pl.length b) (Ms pl i [x]) w (.slice (some ⟨g,0,none⟩) pl.length b) ((w.drew.setRow g a.toArray).drew.setRow g (pcells (pl.take i)++pcells [x]++pcells (pl.drop (i+1))++a.drop (pl.length*2)).toArray)):=by
  refine ⟨?_,?_,.inl rfl⟩
  ·unfold Ap;rw [Lg _ _ _ (by omega),show pl.length - 1+[x].length=pl.length by simp;omega];refine Ng (Cy (w:=(w.drew.setRow g a.toArray).drew) m _) (by omega) J ?_ ?_ (by rw [Ar,Lg _ _ _ (by omega)];simp;omega)
   ·simp only [List.length_append,List.length_drop,c,Ar,y,List.length_cons,List.length_nil];omega
   ·rw [Qa,List.take_append_of_le_length (by simp only [List.length_append,c,Ar,List.length_drop,List.length_cons,List.length_nil];omega),List.take_of_length_le (by simp only [List.length_append,c,Ar,List.length_drop,List.length_cons,List.length_nil];omega)]
  ·have h2:=Bl (w.drew.setRow g a.toArray).drew g (pcells (pl.take i)++pcells [x]++pcells (pl.drop (i+1))++a.drop (pl.length*2)).toArray;exact Agt (⟨d.os,d.tape,d.output,d.size,d.block⟩:w.grownBy (w.drew.setRow g a.toArray).drew (some g)) h2
 have B:=hid t;have C:=hid D;clear t D m d k z A y M S c q l s h O I n o J hb;go_enter Tryz.func175,Tryz.ntmps175;go_upto_region 9 with fail
 go_region_law (fail)
 all_goals
  go_upto_region 17 with fail;go_upto_region 18 with (refine Als _ rfl (.tmp 95) (.tmp 96) 121 121 rfl _ _ rfl rfl _ _ B.out ?_)
  go_region_law (refine Xh _ rfl (.tmp 103) (.tmp 106) 121 121 rfl _ _ (by simp [Act.eval,Act.put]) (by simp [Act.eval,Act.put]) _ _ C.out ?_)
  all_goals
   have H:=T.out;simp only [List.append_assoc] at H;have HF:=hid H;clear H T B C;by_cases L:b=pl.length
   case' pos=> subst L
   all_goals
    go_wp2_with (refine Aoq _ rfl (.tmp 110) 121 rfl _ rfl _ _ (Xq _ _ _ 132 _ _ Tryz.underlying121) ?_);go_ret;exact ⟨_,rfl,HF.out⟩
theorem Abd (n:Nat):(Builtin.zeroCells (Value.agg #[.string ⟨#[]⟩,.pointer none]).cells n).size=n*2:=(Nk n).1
set_option maxHeartbeats 1500000 in
set_option maxRecDepth 20000 in
theorem Vq (g a X cv:Nat) (pl b:List (ByteArray×Nat)) (i:Nat) (w:World) (hi:i+1 < pl.length) (a7:a < pl.length - 1+b.length) (h:Ap 0 w (.slice (some ⟨g,0,none⟩) pl.length a) pl) (hx:Ap 0 w (.slice (some ⟨X,0,none⟩) b.length cv) b) (c8:0 < b.length) (hl:pl.length<=20000000) (c9:b.length<=20000000):
  Calls Tryz.prog 175 #[.slice (some ⟨g,0,none⟩) pl.length a,.int .i64 (i:Nat),.int .i64 ((i:Nat)+1),.slice (some ⟨X,0,none⟩) b.length cv] w fun r w'=>∃v',r= .returned v'/\Aaa (.slice (some ⟨g,0,none⟩) pl.length a) (Ms pl i b) w v' w':=by
 rcases h.2 with ⟨_,hn⟩ | ⟨g',a9,c7,e,hb,hg,hc,hm,a5,a6⟩
 ·omega
 simp only [Value.slice.injEq,Option.some.injEq,Addr.mk.injEq,and_true,true_and] at e;obtain ⟨rfl,rfl⟩:=e;have a8:a<=9223372036854775807:=by unfold maxLen at hm;omega
 have z:=(Array.getElem?_eq_some_iff.1 hg).1;have L:=(World.ownsRow.lt hx X rfl).2;obtain ⟨T,Z⟩:∃T,T=pl.length - 1+b.length:=⟨_,rfl⟩;obtain ⟨H,B,W,I,J⟩:=info_parts Fi;have C:(pcells (pl.drop (i+1))).length=(pl.length - (i+1))*2:=by rw [Ar,List.length_drop]
 have l:(pcells b).length=b.length*2:=Ar b;have m:(pcells (pl.take i)).length=i*2:=by rw [Ar,List.length_take];omega
 have A:(Builtin.firstCells H.size i (.slice (some ⟨g,0,none⟩) i a)).run Tryz.prog w.drew.drew= .ok (pcells (pl.take i)).toArray w.drew.drew:=by
  have:=run_loadCells_list (P:=Tryz.prog) w.drew.drew ⟨g,0,none⟩ (pcells (pl.take i)) (fun j u y=> by
   rw [Gx _ _ (by omega)] at y;have a0:(pcells pl)[j]?=some u:=by
    rw [List.getElem?_take] at y;split at y
    ·exact y
    ·cases y
   exact World.ownsRow.cells h (g:=g) rfl _ _ a0)
  rw [m] at this;simpa [Builtin.firstCells,I] using this
 have M:Builtin.nextslicecap (i+(T - i)) a*H.bytes<=281474976710656:=growslice_fits (by omega) (by rw [J];omega);have e0:=Lib.run_append_grow_zeros (P:=Tryz.prog) w.drew 121 3 121 132 H (.agg #[.string ⟨#[]⟩,.pointer none]) .i64 .i64 Tryz.underlying121 Tryz.underlying3 B W (some ⟨g,0,none⟩) i a (pcells (pl.take i)) A (T - i) (by omega) (by rw [I];omega) (by omega) (by omega) (by rw [J];omega) M;rw [show i+(T - i)=T by omega] at e0;have a1:=grownCap_ge w.drew T a 132;have N:grownCap w.drew T a 132<=maxLen:=grownCap_le_maxLen w.drew T a 132 (by unfold maxLen;omega);generalize grownCap w.drew T a 132=s at*;have O:=Abd (T - i);have R:=Abd (s - T);have D:((pcells (pl.take i)).toArray++Builtin.zeroCells (Value.agg #[.string ⟨#[]⟩,.pointer none]).cells (T - i)++Builtin.zeroCells (Value.agg #[.string ⟨#[]⟩,.pointer none]).cells (s - T)).toList.length=s*2:=by
  simp only [Array.length_toList,Array.size_append,List.size_toArray,m,O,R];omega
 have S:((pcells (pl.take i)).toArray++Builtin.zeroCells (Value.agg #[.string ⟨#[]⟩,.pointer none]).cells (T - i)++Builtin.zeroCells (Value.agg #[.string ⟨#[]⟩,.pointer none]).cells (s - T)).toList.take (i*2)=pcells (pl.take i):=by
  rw [Array.append_assoc,Array.toList_append,<-m,List.take_left]
 generalize (pcells (pl.take i)).toArray++Builtin.zeroCells (Value.agg #[.string ⟨#[]⟩,.pointer none]).cells (T - i)++Builtin.zeroCells (Value.agg #[.string ⟨#[]⟩,.pointer none]).cells (s - T)=d at*;have n:Below w.heap.size w (w.drew.drew.alloc (.cells d 132)):=(Below.refl w.heap.size w).drew.drew.alloc (Nat.le_refl _) _;have F:(w.drew.drew.alloc (.cells d 132)).heap[w.heap.size]?=some (.cells d 132 (0,0)):=heap_alloc_new w.drew.drew _;generalize w.drew.drew.alloc (.cells d 132)=t at*;have e1:=Ej (P:=Tryz.prog) t 121 121 3 132 2 w.heap.size (i*2) (T - i) (s - i) X 0 b.length cv b.length d 132 (pcells b) Tryz.underlying121 (by kernel_rfl) F (Nat.min_eq_left (by omega)) l (fun j u y=> by rw [Nat.zero_add];exact (n.cell (p:=⟨X,j,none⟩) L).trans (Oq hx j u y)) (by rw [l];rw [Array.length_toList] at D;omega) (Ea _);rw [l,S] at e1;have U:(pcells (pl.take i)++pcells b++d.toList.drop (i*2+b.length*2)).length=s*2:=by
  simp only [List.length_append,m,l,List.length_drop,D];omega
 have V:(pcells (pl.take i)++pcells b++d.toList.drop (i*2+b.length*2)).take ((i+b.length)*2)=pcells (pl.take i)++pcells b:=by
  rw [show (i+b.length)*2=(pcells (pl.take i)++pcells b).length by simp only [List.length_append,m,l];omega,List.take_left]
 generalize pcells (pl.take i)++pcells b++d.toList.drop (i*2+b.length*2)=c at*;have G:=Cy F c;have f:=Bl t w.heap.size c.toArray;have o:∀(j:Nat) (u:Value),(pcells (pl.drop (i+1)))[j]?=some u->(t.setRow w.heap.size c.toArray).drew.cell? ⟨g,(i+1)*2+j,none⟩=some u:=fun j u y=> by
  have q:=Oo h (i+1) (by omega) j u y;rw [<-q];exact World.cell?_of_block ((f.block g (Nat.lt_of_lt_of_le z n.size) (fun e=> by have:=Option.some.inj e;omega)).trans (n.block g z))
 have Y:=Ej (P:=Tryz.prog) (t.setRow w.heap.size c.toArray).drew 121 121 3 132 2 w.heap.size ((i+b.length)*2) (T - (i+b.length)) (s - (i+b.length)) g ((i+1)*2) (pl.length - (i+1)) (a - (i+1)) (pl.length - (i+1)) c.toArray 132 (pcells (pl.drop (i+1))) Tryz.underlying121 (by kernel_rfl) G (by rw [show T - (i+b.length)=pl.length - (i+1) by omega];exact Nat.min_self _) C o (by rw [C];simp;omega) (Ea _);rw [C,show (i+b.length)*2+(pl.length - (i+1))*2=T*2 by omega] at Y;simp only [V] at Y;have HQ:Hid (Aaa (.slice (some ⟨g,0,none⟩) pl.length a) (Ms pl i b) w (.slice (some ⟨w.heap.size,0,none⟩) T s) ((t.setRow w.heap.size c.toArray).drew.setRow w.heap.size (pcells (pl.take i)++pcells b++pcells (pl.drop (i+1))++c.drop (T*2)).toArray)):=by
  refine ⟨?_,?_,.inr ⟨w.heap.size,Nat.le_refl _,rfl⟩⟩
  ·unfold Ap;rw [Lg _ _ _ (by omega),<-Z];refine Ng (Cy (w:=(t.setRow w.heap.size c.toArray).drew) G _) a1 N ?_ ?_ (by rw [Ar,Lg _ _ _ (by omega),<-Z])
   ·simp only [List.length_append,List.length_drop,m,l,C,U];omega
   ·rw [Qa,List.take_append_of_le_length (by simp only [List.length_append,m,l,C];omega),List.take_of_length_le (by simp only [List.length_append,m,l,C];omega)]
  ·have h2:=Bl (t.setRow w.heap.size c.toArray).drew w.heap.size (pcells (pl.take i)++pcells b++pcells (pl.drop (i+1))++c.drop (T*2)).toArray;have h0:w.grownBy t (some g):=⟨n.os,n.tape,n.output,n.size,fun k hk _=> n.block k hk⟩;have h1:w.grownBy (t.setRow w.heap.size c.toArray).drew (some g):=Ack h0 ⟨f.os,f.tape,f.output,f.size,f.block⟩ (Nat.le_refl _);exact Ack h1 h2 (Nat.le_refl _)
 have c0:(i:Int)+(b.length:Int)+((pl.length - (i+1):Nat):Int)=(T:Int):=by omega
 have b0:i<=20000000:=by omega
 have b1:i<=a:=by omega
 have b2:(i:Int)+1<=(a:Int):=by omega
 have b3:i+1<=a:=by omega
 have b4:((i:Int)==(i:Int)+1)=false:=by simp;omega
 have b5:((i:Int)+1==(pl.length:Int))=false:=by simp;omega
 have b6:(i:Int)+1<=(pl.length:Int):=by omega
 have b7:i+1<=pl.length:=by omega
 have b8:¬a=i+1:=by omega
 have b9:(0:Int)<=(i:Int)+1:=by omega
 have c3:decide ((a:Int) < (T:Int))=true:=by simp;omega
 have c4:T<=60000000:=by omega
 have c5:i+b.length<=T:=by omega
 have c6:i<=T:=by omega
 have c1:¬s=i:=by omega
 have c2:¬s=i+b.length:=by omega
 have w1:IntKind.i64.wrap ((i:Int)+(b.length:Int))=(i:Int)+(b.length:Int):=by rw [IntKind.wrap_i64];omega
 have w2:IntKind.i64.wrap (T:Int)=(T:Int):=by rw [IntKind.wrap_i64];omega
 have w3:(T:Int) - (i:Int)=((T - i:Nat):Int):=by omega
 have w4:((i:Int)+(b.length:Int)).toNat=i+b.length:=by omega
 have w5:(0:Int)<=(i:Int)+(b.length:Int):=by omega
 have w6:(i:Int)+(b.length:Int)<=(T:Int):=by omega
 have a2:=hid e0;have a3:=hid e1;have a4:=hid Y;have HT:=hid Z;clear e0 e1 Y F G f o D U S V O R A M n C l m Z a6 a5 hg hm hb h hx N B W I J;go_enter Tryz.func175,Tryz.ntmps175;go_upto_region 9 with fail
 go_region_law (fail)
 all_goals
  go_upto_region 11 with fail;go_upto_region 12 with (at_builtin;refine Lib.wpList_append_run w.drew rfl (.tmp 63) (.tmp 66) 121 3 rfl (.slice (some ⟨g,0,none⟩) i a) (.int .i64 ((T - i:Nat):Int)) rfl rfl _ _ a2.out ?_);go_upto_region 13 with (refine Als t rfl (.tmp 70) (.tmp 71) 121 121 rfl _ _ rfl rfl _ _ a3.out ?_)
  go_region_law (refine Xh _ rfl (.tmp 78) (.tmp 81) 121 121 rfl _ _ (by simp [Act.eval,Act.put]) (by simp [Act.eval,Act.put]) _ _ a4.out ?_)
  all_goals
   go_wp2_with fail;go_ret;have hF:=HQ.out;simp only [List.append_assoc] at hF;exact ⟨_,rfl,hF⟩
theorem Acn (v o:Value) (pl b:List (ByteArray×Nat)) (i:Nat) (w:World) (hi:i < pl.length) (h:Ap 0 w v pl) (k:Ap 0 w o b) (d:0 < b.length) (m:pl.length<=20000000) (f:b.length<=20000000) (p:∀g,v.ownBlock=some g->o.ownBlock≠some g):
  Calls Tryz.prog 175 #[v,.int .i64 (i:Nat),.int .i64 ((i:Nat)+1),o] w fun r w'=>∃q,r= .returned q/\Aaa v (Ms pl i b) w q w':=by
 obtain ⟨g,a,rfl,y,-,-,-,-⟩:=h.at i hi;obtain ⟨j,l,rfl,s,-,-,-,-⟩:=k.at 0 d;have n:g≠j:=fun e=> p g rfl (by rw [e];rfl)
 by_cases t:i+1=pl.length
 ·exact Xp g a j l pl b i w t h k d m f
 ·by_cases c:pl.length - 1+b.length<=a
  ·by_cases u:b.length=1
   ·obtain ⟨x,rfl⟩:∃x,b=[x]:=by
     match b,u with
     | [x],_=> exact ⟨x,rfl⟩
    exact Xr g a j l pl x i w (by omega) h k m
   ·exact Aab g a j l pl b i w (by omega) c h k (by omega) m f n
  ·exact Vq g a j l pl b i w (by omega) (by omega) h k d m f
set_option maxHeartbeats 400000 in
theorem Ly (a b:Nat) (i j p k l s:Value) (t u y A:Option Addr) (c f d g B C D F:Nat) (w:World) (G:An w a i j p) (H:An w b k l s) (I:i= .slice t c B) (J:j= .slice u f C) (L:k= .slice y d D) (M:l= .slice A g F) (V:c<=20000000) (W:f<=20000000) (X:d<=20000000) (Y:g<=20000000):
  Calls Tryz.prog 224 #[.pointer (some ⟨a,0,none⟩),.pointer (some ⟨b,0,none⟩)] w fun r w'=> r= .returned (.bool (decide (c+d<=12)&&decide (f+g<=3)))/\Below w.heap.size w w':=by
 subst I J L M;obtain ⟨N,O,R,-⟩:=G.cells;obtain ⟨S,T,U,-⟩:=H.cells;by_cases q:c+d<=12
 ·have m:decide ((c:Int)+(d:Int)<=12)=true:=decide_eq_true (by omega);have n:(c:Int)+(d:Int)<=12:=by omega
  have o:decide ((f:Int)+(g:Int)<=3)=decide (f+g<=3):=by by_cases z:f+g<=3 <;> simp [z] <;> omega
  go_enter Tryz.func224,Tryz.ntmps224;go_upto_region 1 with fail;go_quiet (fail);go_wp2_with fail;go_ret;exact ⟨by simp [q],Am (Below.refl _ _) _⟩
 ·have m:decide ((c:Int)+(d:Int)<=12)=false:=decide_eq_false (by omega);go_enter Tryz.func224,Tryz.ntmps224;go_upto_region 1 with fail;go_quiet (fail);go_wp2_with fail;go_ret;exact ⟨by simp [q],Am (Below.refl _ _) _⟩
end Go.Proofs.YtolgpnaoaodepaaGreat
