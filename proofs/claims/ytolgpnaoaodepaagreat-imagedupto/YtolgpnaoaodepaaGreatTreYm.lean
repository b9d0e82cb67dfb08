import Derived.Test.YtolgpnaoaodepaaGreatTreUm
import Derived.BigQuiet
namespace Go.Proofs.YtolgpnaoaodepaaGreat
open Go.RowKit
set_option maxHeartbeats 1500000 in
set_option maxRecDepth 20000 in
theorem replaceIn_any (g a n L:Nat) (pl b:List (ByteArray×Nat)) (i:Nat) (w:World) (hi:i+1 < pl.length) (Z:pl.length - 1+b.length≤a) (h:OwnsP 0 w (.slice (some ⟨g,0,none⟩) pl.length a) pl) (M:OwnsP 0 w (.slice (some ⟨n,0,none⟩) b.length L) b) (c2:2≤b.length) (hl:pl.length≤20000000) (c3:b.length≤20000000) (H:g≠n):
  Calls Tryz.prog 175 #[.slice (some ⟨g,0,none⟩) pl.length a,.int .i64 (i:Nat),.int .i64 ((i:Nat)+1),.slice (some ⟨n,0,none⟩) b.length L] w fun r w'=>∃v',r= .returned v'∧RepQ (.slice (some ⟨g,0,none⟩) pl.length a) (repP pl i b) w v' w':=by
 rcases h.2 with ⟨_,hn⟩ | ⟨g',F,c,e,hb,K,hc,V,p,G⟩
 ·omega
 simp only [Value.slice.injEq,Option.some.injEq,Addr.mk.injEq,and_true,true_and] at e
 obtain ⟨rfl,rfl⟩:=e
 have a0:a≤9223372036854775807:=by unfold maxLen at V;omega
 obtain ⟨T,J⟩:∃T,T=pl.length - 1+b.length:=⟨_,rfl⟩
 have a1:(i:Int)+(b.length:Int)+((pl.length - (i+1):Nat):Int)=(T:Int):=by omega
 have b0:i≤20000000:=by omega
 have b1:i≤a:=by omega
 have b2:(i:Int)+1≤(a:Int):=by omega
 have b3:i+1≤a:=by omega
 have b4:((i:Int)==(i:Int)+1)=false:=by simp;omega
 have b5:((i:Int)+1==(pl.length:Int))=false:=by simp;omega
 have b6:(i:Int)+1≤(pl.length:Int):=by omega
 have b7:i+1≤pl.length:=by omega
 have b8:¬a=i+1:=by omega
 have b9:(0:Int)≤(i:Int)+1:=by omega
 have bT:T≤a:=by omega
 have a2:decide ((a:Int) < (T:Int))=false:=by simp;omega
 have a3:decide ((i:Int)+(b.length:Int)≤(i:Int)+1)=false:=by simp;omega
 have a4:i+b.length≤T:=by omega
 have w1:IntKind.i64.wrap ((i:Int)+(b.length:Int))=(i:Int)+(b.length:Int):=by rw [IntKind.wrap_i64];omega
 have w4:((i:Int)+(b.length:Int)).toNat=i+b.length:=by omega
 have w5:(0:Int)≤(i:Int)+(b.length:Int):=by omega
 have w6:(i:Int)+(b.length:Int)≤(T:Int):=by omega
 have w7:¬a=i+b.length:=by omega
 have w2:IntKind.i64.wrap (T:Int)=(T:Int):=by rw [IntKind.wrap_i64];omega
 have d:c.toList.length=a*2:=by simpa using p
 have s:(pcells (pl.drop (i+1))).length=(pl.length - (i+1))*2:=by rw [pcells_len,List.length_drop]
 have m:(pcells b).length=b.length*2:=pcells_len b
 have hA:c.toList.take (i*2)=pcells (pl.take i):=by
  rw [pcells_take _ _ (by omega),←G,List.take_take];congr 1;omega
 obtain ⟨a7,a8,ev,-,-,B,-,-⟩:=M.at 0 (by omega)
 simp only [Value.slice.injEq,Option.some.injEq,Addr.mk.injEq,and_true,true_and] at ev
 obtain ⟨rfl,rfl⟩:=ev
 obtain ⟨k,C,D⟩:∃k:Array Value,w.heap[n]?=some (.cells k 132 (0,0))∧0 < k.size:=by
  rcases M.2 with ⟨_,q⟩ | ⟨g',F,k,e,_,W,q1,_,q3,_⟩
  ·omega
  ·simp only [Value.slice.injEq,Option.some.injEq,Addr.mk.injEq,and_true,true_and] at e
   obtain ⟨rfl,rfl⟩:=e
   exact ⟨k,W,by omega⟩
 have N:=run_copy_min (P:=Tryz.prog) w.drew.drew 121 121 3 132 2 g ((i+b.length)*2) (T - (i+b.length)) (a - (i+b.length)) g ((i+1)*2) (pl.length - (i+1)) (a - (i+1)) (pl.length - (i+1)) c 132 (pcells (pl.drop (i+1))) Tryz.underlying121 (by kernel_rfl) K (by rw [show T - (i+b.length)=pl.length - (i+1) by omega];exact Nat.min_self _) s (fun j u X=> parts_src h (i+1) (by omega) j u X) (by rw [s,p];omega) (one_pcells _)
 rw [s,show (i+b.length)*2+(pl.length - (i+1))*2=T*2 by omega] at N
 have O:(c.toList.take ((i+b.length)*2)++pcells (pl.drop (i+1))++c.toList.drop (T*2)).length=a*2:=by
  simp only [List.length_append,List.length_take,List.length_drop,s,d];omega
 have z:(c.toList.take ((i+b.length)*2)++pcells (pl.drop (i+1))++c.toList.drop (T*2)).take (i*2)=pcells (pl.take i):=by
  rw [List.append_assoc,List.take_append_of_le_length (by rw [List.length_take,d];omega),List.take_take,←hA];congr 1;omega
 have A:(c.toList.take ((i+b.length)*2)++pcells (pl.drop (i+1))++c.toList.drop (T*2)).drop (i*2+b.length*2)=pcells (pl.drop (i+1))++c.toList.drop (T*2):=by
  rw [List.append_assoc,show i*2+b.length*2=(c.toList.take ((i+b.length)*2)).length by rw [List.length_take,d];omega,List.drop_left]
 generalize Y:c.toList.take ((i+b.length)*2)++pcells (pl.drop (i+1))++c.toList.drop (T*2)=l at*
 have x:=setRow_at (w:=w.drew.drew) K l
 have f:=setRow_grown w.drew.drew g l.toArray
 have t:∀j u,(pcells b)[j]?=some u→(w.drew.drew.setRow g l.toArray).cell? ⟨n,0+j,none⟩=some u:=fun j u X=> by
  rw [Nat.zero_add]
  exact (World.cell?_of_block (f.block n B (fun e=> H (Option.some.inj e).symm))).trans (parts_all M j u X)
 have I:=run_copy_min (P:=Tryz.prog) (w.drew.drew.setRow g l.toArray) 121 121 3 132 2 g (i*2) (T - i) (a - i) n 0 b.length L b.length l.toArray 132 (pcells b) Tryz.underlying121 (by kernel_rfl) x (Nat.min_eq_left (by omega)) m t (by rw [m];simp;omega) (one_pcells _)
 rw [m] at I
 simp only [z,A] at I
 have HQ:Hid (RepQ (.slice (some ⟨g,0,none⟩) pl.length a) (repP pl i b) w (.slice (some ⟨g,0,none⟩) T a) ((w.drew.drew.setRow g l.toArray).setRow g (pcells (pl.take i)++pcells b++(pcells (pl.drop (i+1))++c.toList.drop (T*2))).toArray)):=by
  have y:(pcells (pl.take i)).length=i*2:=by rw [pcells_len,List.length_take];omega
  refine ⟨?_,?_,.inl rfl⟩
  ·unfold OwnsP
   rw [repP_len _ _ _ (by omega),←J]
   refine row_of (setRow_at x _) (by omega) V ?_ ?_ (by rw [pcells_len,repP_len _ _ _ (by omega),←J])
   ·simp only [List.length_append,List.length_drop,y,m,s,d];omega
   ·rw [repP_cells,←List.append_assoc,List.take_append_of_le_length (by simp only [List.length_append,y,m,s];omega),List.take_of_length_le (by simp only [List.length_append,y,m,s];omega)]
  ·have h2:=setRow_grown (w.drew.drew.setRow g l.toArray) g (pcells (pl.take i)++pcells b++(pcells (pl.drop (i+1))++c.toList.drop (T*2))).toArray
   exact grownT (⟨f.os,f.tape,f.output,f.size,f.block⟩:w.grownBy _ (some g)) h2
 have o:w.drew.heap[g]?=some (.cells c 132 (0,0)):=K
 have v:w.drew.heap[n]?=some (.cells k 132 (0,0)):=C
 have eo:(callFunc 227 #[.slice (some ⟨g,(i+b.length)*2,none⟩) (T - (i+b.length)) (a - (i+b.length)),.slice (some ⟨n,0,none⟩) b.length L]).run Tryz.prog w.drew= .ok (.value (.bool false)) w.drew:=by
  rw [run_callFunc_extern Tryz.func227 (by kernel_rfl) (by kernel_rfl) (by kernel_rfl) (e:=Extern.SlicesOverlaps.overlaps #[121,121] #[4]) (by kernel_rfl),Lib.run_overlaps_apart w.drew 121 4 132 Tryz.underlying121 2 (by
   intro w
   obtain ⟨a9,E,c0,U,c1⟩:=info_parts info_part
   simp [Go.sizeOf,typeInfo,E,U]) ⟨g,(i+b.length)*2,none⟩ ⟨n,0,none⟩ _ _ _ _ H 132 132 (a*2) k.size (by simp [World.shape?,o,p]) (by simp [World.shape?,v]) (by omega) (by simp [World.frozen?,o]) (by simp [World.frozen?,o])]
  rfl
 have Q:=hid eo
 have R:=hid N
 have S:=hid I
 have HT:=hid J
 clear eo o v N I x f t z A O Y hA s m d C D J h M K p G V hb
 go_enter Tryz.func175,Tryz.ntmps175
 go_upto_region 9 with fail
 go_region_law (fail)
 all_goals
  go_wp2_with fail
  rw [Q.out]
  rw [Oper.upon_value]
  go_upto_region 22 with fail
  go_region_law (refine stepCp _ rfl (.tmp 126) (.tmp 129) 121 121 rfl _ _ (by simp [Act.eval,Act.put]) (by simp [Act.eval,Act.put]) _ _ R.out ?_)
  all_goals
   have a5:¬a=i:=by omega
   have a6:i≤T:=by omega
   go_wp2_with (refine wpCp _ rfl (.tmp 133) (.tmp 134) 121 121 rfl _ _ rfl rfl _ _ S.out ?_)
   go_ret
   have hF:=HQ.out
   simp only [List.append_assoc] at hF
   exact ⟨_,rfl,hF⟩
end Go.Proofs.YtolgpnaoaodepaaGreat
namespace Go.Proofs.YtolgpnaoaodepaaGreat
open Go.RowKit
theorem run_clear_none {P:Program} (w:World) (t b e:TypeId) (a:Option Addr) (c:Nat) (d:P.underlying t=some (.slice e)):(Builtin.clear_ #[t] b #[.slice a 0 c]).run P w= .ok (.tuple #[]) w:=by
 cases a <;> simp [Builtin.clear_,run_underlying d]
set_option maxHeartbeats 1200000 in
set_option maxRecDepth 20000 in
theorem replaceOne_any (g b D K:Nat) (pl:List (ByteArray×Nat)) (x:ByteArray×Nat) (i:Nat) (w:World) (hi:i+1 < pl.length) (h:OwnsP 0 w (.slice (some ⟨g,0,none⟩) pl.length b) pl) (L:OwnsP 0 w (.slice (some ⟨D,0,none⟩) 1 K) [x]) (hl:pl.length≤20000000):
  Calls Tryz.prog 175 #[.slice (some ⟨g,0,none⟩) pl.length b,.int .i64 (i:Nat),.int .i64 ((i:Nat)+1),.slice (some ⟨D,0,none⟩) 1 K] w fun r w'=>∃R,r= .returned R∧RepQ (.slice (some ⟨g,0,none⟩) pl.length b) (repP pl i [x]) w R w':=by
 rcases h.2 with ⟨_,hn⟩ | ⟨g',Q,f,e,Z,G,hc,H,n,o⟩
 ·omega
 simp only [Value.slice.injEq,Option.some.injEq,Addr.mk.injEq,and_true,true_and] at e
 obtain ⟨rfl,rfl⟩:=e
 have M:b≤9223372036854775807:=by unfold maxLen at H;omega
 have S:(i:Int)+1+((pl.length - (i+1):Nat):Int)=(pl.length:Int):=by omega
 have b0:i≤20000000:=by omega
 have b1:i≤b:=by omega
 have b2:(i:Int)+1≤(b:Int):=by omega
 have b3:i+1≤b:=by omega
 have b4:((i:Int)==(i:Int)+1)=false:=by simp;omega
 have b5:((i:Int)+1==(pl.length:Int))=false:=by simp;omega
 have b6:(i:Int)+1≤(pl.length:Int):=by omega
 have b7:i+1≤pl.length:=by omega
 have b8:¬b=i+1:=by omega
 have T:¬b=i:=by omega
 have b9:(0:Int)≤(i:Int)+1:=by omega
 have U:i≤pl.length:=by omega
 have V:decide ((b:Int) < (pl.length:Int))=false:=by simp;omega
 have w1:IntKind.i64.wrap ((i:Int)+1)=(i:Int)+1:=by rw [IntKind.wrap_i64];omega
 have w2:IntKind.i64.wrap (pl.length:Int)=(pl.length:Int):=by rw [IntKind.wrap_i64];omega
 have w4:((i:Int)+1).toNat=i+1:=by omega
 have l:f.toList.length=b*2:=by simpa using n
 have q:(pcells (pl.drop (i+1))).length=(pl.length - (i+1))*2:=by rw [pcells_len,List.length_drop]
 have N:f.toList.take (i*2)=pcells (pl.take i):=by
  rw [pcells_take _ _ (by omega),←o,List.take_take];congr 1;omega
 have s:=(World.ownsRow.lt L D rfl).2
 have t:=run_copy_min (P:=Tryz.prog) w.drew 121 121 3 132 2 g (i*2) (pl.length - i) (b - i) D 0 1 K 1 f 132 (pcells [x]) Tryz.underlying121 (by kernel_rfl) G (Nat.min_eq_left (by omega)) (pcells_len [x]) (fun j u p=> by rw [Nat.zero_add];exact parts_all L j u p) (by rw [pcells_len,n];simp;omega) (one_pcells _)
 rw [pcells_len,N] at t
 simp only [List.length_cons,List.length_nil] at t
 rw [show i*2+(0+1)*2=(i+1)*2 by omega] at t
 have c:(pcells (pl.take i)).length=i*2:=by rw [pcells_len,List.length_take];omega
 have v:(pcells (pl.take i)++pcells [x]++f.toList.drop ((i+1)*2)).length=b*2:=by
  simp only [List.length_append,List.length_drop,c,pcells_len,l,List.length_cons,List.length_nil];omega
 have y:(pcells (pl.take i)++pcells [x]++f.toList.drop ((i+1)*2)).take ((i+1)*2)=pcells (pl.take i)++pcells [x]:=by
  rw [show (i+1)*2=(pcells (pl.take i)++pcells [x]).length by simp only [List.length_append,c,pcells_len,List.length_cons,List.length_nil];omega,List.take_left]
 have z:(pcells (pl.take i)++pcells [x]++f.toList.drop ((i+1)*2)).drop ((i+1)*2)=f.toList.drop ((i+1)*2):=by
  conv=> lhs;rw [show (i+1)*2=(pcells (pl.take i)++pcells [x]).length by simp only [List.length_append,c,pcells_len,List.length_cons,List.length_nil];omega]
  rw [show (pcells (pl.take i)++pcells [x]).length=(i+1)*2 by simp only [List.length_append,c,pcells_len,List.length_cons,List.length_nil];omega]
  rw [List.drop_append,List.drop_of_length_le (by simp only [List.length_append,c,pcells_len,List.length_cons,List.length_nil];omega),show (i+1)*2 - (pcells (pl.take i)++pcells [x]).length=0 by simp only [List.length_append,c,pcells_len,List.length_cons,List.length_nil];omega]
  rfl
 generalize J:pcells (pl.take i)++pcells [x]++f.toList.drop ((i+1)*2)=a at*
 have m:=setRow_at (w:=w.drew) G a
 have d:=setRow_grown w.drew g a.toArray
 have k:∀j u,(pcells (pl.drop (i+1)))[j]?=some u→(w.drew.setRow g a.toArray).drew.cell? ⟨g,(i+1)*2+j,none⟩=some u:=fun j u p=> by
  have W:j < (pl.length - (i+1))*2:=by rw [←q];exact (List.getElem?_eq_some_iff.1 p).1
  have E:a[(i+1)*2+j]?=some u:=by
   rw [←List.getElem?_drop,z,List.getElem?_drop]
   rw [pcells_drop _ _ (by omega),List.getElem?_drop,←o,List.getElem?_take] at p
   split at p
   ·exact p
   ·cases p
  unfold World.cell?
  rw [show (w.drew.setRow g a.toArray).drew.heap[g]?=some (.cells a.toArray 132 (0,0)) from m]
  simpa using E
 have C:=run_copy_min (P:=Tryz.prog) (w.drew.setRow g a.toArray).drew 121 121 3 132 2 g ((i+1)*2) (pl.length - (i+1)) (b - (i+1)) g ((i+1)*2) (pl.length - (i+1)) (b - (i+1)) (pl.length - (i+1)) a.toArray 132 (pcells (pl.drop (i+1))) Tryz.underlying121 (by kernel_rfl) m (Nat.min_self _) q k (by rw [q];simp;omega) (one_pcells _)
 rw [q,show (i+1)*2+(pl.length - (i+1))*2=pl.length*2 by omega] at C
 simp only [y] at C
 have O:Hid (RepQ (.slice (some ⟨g,0,none⟩) pl.length b) (repP pl i [x]) w (.slice (some ⟨g,0,none⟩) pl.length b) ((w.drew.setRow g a.toArray).drew.setRow g (pcells (pl.take i)++pcells [x]++pcells (pl.drop (i+1))++a.drop (pl.length*2)).toArray)):=by
  refine ⟨?_,?_,.inl rfl⟩
  ·unfold OwnsP
   rw [repP_len _ _ _ (by omega),show pl.length - 1+[x].length=pl.length by simp;omega]
   refine row_of (setRow_at (w:=(w.drew.setRow g a.toArray).drew) m _) (by omega) H ?_ ?_ (by rw [pcells_len,repP_len _ _ _ (by omega)];simp;omega)
   ·simp only [List.length_append,List.length_drop,c,pcells_len,v,List.length_cons,List.length_nil];omega
   ·rw [repP_cells,List.take_append_of_le_length (by simp only [List.length_append,c,pcells_len,List.length_drop,List.length_cons,List.length_nil];omega),List.take_of_length_le (by simp only [List.length_append,c,pcells_len,List.length_drop,List.length_cons,List.length_nil];omega)]
  ·have X:=setRow_grown (w.drew.setRow g a.toArray).drew g (pcells (pl.take i)++pcells [x]++pcells (pl.drop (i+1))++a.drop (pl.length*2)).toArray
   exact grownT (⟨d.os,d.tape,d.output,d.size,d.block⟩:w.grownBy (w.drew.setRow g a.toArray).drew (some g)) X
 have A:=hid t
 have B:=hid C
 clear t C m d k y z v J N c q l s h L G n o H Z
 go_enter Tryz.func175,Tryz.ntmps175
 go_upto_region 9 with fail
 go_region_law (fail)
 all_goals
  go_upto_region 17 with fail
  go_upto_region 18 with (refine wpCp _ rfl (.tmp 95) (.tmp 96) 121 121 rfl _ _ rfl rfl _ _ A.out ?_)
  go_region_law (refine stepCp _ rfl (.tmp 103) (.tmp 106) 121 121 rfl _ _ (by simp [Act.eval,Act.put]) (by simp [Act.eval,Act.put]) _ _ B.out ?_)
  all_goals
   have F:=O.out
   simp only [List.append_assoc] at F
   have Y:=hid F
   clear F O A B
   by_cases I:b=pl.length
   case' pos=> subst I
   all_goals
    go_wp2_with (refine wpCl _ rfl (.tmp 110) 121 rfl _ rfl _ _ (run_clear_none _ _ _ 132 _ _ Tryz.underlying121) ?_)
    go_ret
    exact ⟨_,rfl,Y.out⟩
end Go.Proofs.YtolgpnaoaodepaaGreat
namespace Go.Proofs.YtolgpnaoaodepaaGreat
open Go.RowKit
theorem zeroP_one (n:Nat):(Builtin.zeroCells (Value.agg #[.string ⟨#[]⟩,.pointer none]).cells n).size=n*2:=(zeroP_cells n).1
set_option maxHeartbeats 1500000 in
set_option maxRecDepth 20000 in
theorem replaceGrow_any (g a R cv:Nat) (pl b:List (ByteArray×Nat)) (i:Nat) (w:World) (hi:i+1 < pl.length) (a4:a < pl.length - 1+b.length) (h:OwnsP 0 w (.slice (some ⟨g,0,none⟩) pl.length a) pl) (hx:OwnsP 0 w (.slice (some ⟨R,0,none⟩) b.length cv) b) (c5:0 < b.length) (hl:pl.length≤20000000) (c6:b.length≤20000000):
  Calls Tryz.prog 175 #[.slice (some ⟨g,0,none⟩) pl.length a,.int .i64 (i:Nat),.int .i64 ((i:Nat)+1),.slice (some ⟨R,0,none⟩) b.length cv] w fun r w'=>∃v',r= .returned v'∧RepQ (.slice (some ⟨g,0,none⟩) pl.length a) (repP pl i b) w v' w':=by
 rcases h.2 with ⟨_,hn⟩ | ⟨g',a6,c4,e,hb,hg,hc,hm,a2,a3⟩
 ·omega
 simp only [Value.slice.injEq,Option.some.injEq,Addr.mk.injEq,and_true,true_and] at e
 obtain ⟨rfl,rfl⟩:=e
 have a5:a≤9223372036854775807:=by unfold maxLen at hm;omega
 have x:=(Array.getElem?_eq_some_iff.1 hg).1
 have H:=(World.ownsRow.lt hx R rfl).2
 obtain ⟨T,U⟩:∃T,T=pl.length - 1+b.length:=⟨_,rfl⟩
 obtain ⟨E,z,Q,F,G⟩:=info_parts info_part
 have A:(pcells (pl.drop (i+1))).length=(pl.length - (i+1))*2:=by rw [pcells_len,List.length_drop]
 have l:(pcells b).length=b.length*2:=pcells_len b
 have m:(pcells (pl.take i)).length=i*2:=by rw [pcells_len,List.length_take];omega
 have y:(Builtin.firstCells E.size i (.slice (some ⟨g,0,none⟩) i a)).run Tryz.prog w.drew.drew= .ok (pcells (pl.take i)).toArray w.drew.drew:=by
  have:=run_loadCells_list (P:=Tryz.prog) w.drew.drew ⟨g,0,none⟩ (pcells (pl.take i)) (fun j u v=> by
   rw [pcells_take _ _ (by omega)] at v
   have V:(pcells pl)[j]?=some u:=by
    rw [List.getElem?_take] at v
    split at v
    ·exact v
    ·cases v
   exact World.ownsRow.cells h (g:=g) rfl _ _ V)
  rw [m] at this
  simpa [Builtin.firstCells,F] using this
 have I:Builtin.nextslicecap (i+(T - i)) a*E.bytes≤281474976710656:=growslice_fits (by omega) (by rw [G];omega)
 have W:=Lib.run_append_grow_zeros (P:=Tryz.prog) w.drew 121 3 121 132 E (.agg #[.string ⟨#[]⟩,.pointer none]) .i64 .i64 Tryz.underlying121 Tryz.underlying3 z Q (some ⟨g,0,none⟩) i a (pcells (pl.take i)) y (T - i) (by omega) (by rw [F];omega) (by omega) (by omega) (by rw [G];omega) I
 rw [show i+(T - i)=T by omega] at W
 have X:=grownCap_ge w.drew T a 132
 have J:grownCap w.drew T a 132≤maxLen:=grownCap_le_maxLen w.drew T a 132 (by unfold maxLen;omega)
 generalize grownCap w.drew T a 132=s at*
 have K:=zeroP_one (T - i)
 have L:=zeroP_one (s - T)
 have B:((pcells (pl.take i)).toArray++Builtin.zeroCells (Value.agg #[.string ⟨#[]⟩,.pointer none]).cells (T - i)++Builtin.zeroCells (Value.agg #[.string ⟨#[]⟩,.pointer none]).cells (s - T)).toList.length=s*2:=by
  simp only [Array.length_toList,Array.size_append,List.size_toArray,m,K,L];omega
 have M:((pcells (pl.take i)).toArray++Builtin.zeroCells (Value.agg #[.string ⟨#[]⟩,.pointer none]).cells (T - i)++Builtin.zeroCells (Value.agg #[.string ⟨#[]⟩,.pointer none]).cells (s - T)).toList.take (i*2)=pcells (pl.take i):=by
  rw [Array.append_assoc,Array.toList_append,←m,List.take_left]
 generalize (pcells (pl.take i)).toArray++Builtin.zeroCells (Value.agg #[.string ⟨#[]⟩,.pointer none]).cells (T - i)++Builtin.zeroCells (Value.agg #[.string ⟨#[]⟩,.pointer none]).cells (s - T)=d at*
 have n:Below w.heap.size w (w.drew.drew.alloc (.cells d 132)):=(Below.refl w.heap.size w).drew.drew.alloc (Nat.le_refl _) _
 have C:(w.drew.drew.alloc (.cells d 132)).heap[w.heap.size]?=some (.cells d 132 (0,0)):=heap_alloc_new w.drew.drew _
 generalize w.drew.drew.alloc (.cells d 132)=t at*
 have Y:=run_copy_min (P:=Tryz.prog) t 121 121 3 132 2 w.heap.size (i*2) (T - i) (s - i) R 0 b.length cv b.length d 132 (pcells b) Tryz.underlying121 (by kernel_rfl) C (Nat.min_eq_left (by omega)) l (fun j u v=> by rw [Nat.zero_add];exact (n.cell (p:=⟨R,j,none⟩) H).trans (parts_all hx j u v)) (by rw [l];rw [Array.length_toList] at B;omega) (one_pcells _)
 rw [l,M] at Y
 have N:(pcells (pl.take i)++pcells b++d.toList.drop (i*2+b.length*2)).length=s*2:=by
  simp only [List.length_append,m,l,List.length_drop,B];omega
 have O:(pcells (pl.take i)++pcells b++d.toList.drop (i*2+b.length*2)).take ((i+b.length)*2)=pcells (pl.take i)++pcells b:=by
  rw [show (i+b.length)*2=(pcells (pl.take i)++pcells b).length by simp only [List.length_append,m,l];omega,List.take_left]
 generalize pcells (pl.take i)++pcells b++d.toList.drop (i*2+b.length*2)=c at*
 have D:=setRow_at C c
 have f:=setRow_grown t w.heap.size c.toArray
 have o:∀(j:Nat) (u:Value),(pcells (pl.drop (i+1)))[j]?=some u→(t.setRow w.heap.size c.toArray).drew.cell? ⟨g,(i+1)*2+j,none⟩=some u:=fun j u v=> by
  have q:=parts_src h (i+1) (by omega) j u v
  rw [←q]
  exact World.cell?_of_block ((f.block g (Nat.lt_of_lt_of_le x n.size) (fun e=> by have:=Option.some.inj e;omega)).trans (n.block g x))
 have S:=run_copy_min (P:=Tryz.prog) (t.setRow w.heap.size c.toArray).drew 121 121 3 132 2 w.heap.size ((i+b.length)*2) (T - (i+b.length)) (s - (i+b.length)) g ((i+1)*2) (pl.length - (i+1)) (a - (i+1)) (pl.length - (i+1)) c.toArray 132 (pcells (pl.drop (i+1))) Tryz.underlying121 (by kernel_rfl) D (by rw [show T - (i+b.length)=pl.length - (i+1) by omega];exact Nat.min_self _) A o (by rw [A];simp;omega) (one_pcells _)
 rw [A,show (i+b.length)*2+(pl.length - (i+1))*2=T*2 by omega] at S
 simp only [O] at S
 have HQ:Hid (RepQ (.slice (some ⟨g,0,none⟩) pl.length a) (repP pl i b) w (.slice (some ⟨w.heap.size,0,none⟩) T s) ((t.setRow w.heap.size c.toArray).drew.setRow w.heap.size (pcells (pl.take i)++pcells b++pcells (pl.drop (i+1))++c.drop (T*2)).toArray)):=by
  refine ⟨?_,?_,.inr ⟨w.heap.size,Nat.le_refl _,rfl⟩⟩
  ·unfold OwnsP
   rw [repP_len _ _ _ (by omega),←U]
   refine row_of (setRow_at (w:=(t.setRow w.heap.size c.toArray).drew) D _) X J ?_ ?_ (by rw [pcells_len,repP_len _ _ _ (by omega),←U])
   ·simp only [List.length_append,List.length_drop,m,l,A,N];omega
   ·rw [repP_cells,List.take_append_of_le_length (by simp only [List.length_append,m,l,A];omega),List.take_of_length_le (by simp only [List.length_append,m,l,A];omega)]
  ·have h2:=setRow_grown (t.setRow w.heap.size c.toArray).drew w.heap.size (pcells (pl.take i)++pcells b++pcells (pl.drop (i+1))++c.drop (T*2)).toArray
   have h0:w.grownBy t (some g):=⟨n.os,n.tape,n.output,n.size,fun k hk _=> n.block k hk⟩
   have h1:w.grownBy (t.setRow w.heap.size c.toArray).drew (some g):=grownN h0 ⟨f.os,f.tape,f.output,f.size,f.block⟩ (Nat.le_refl _)
   exact grownN h1 h2 (Nat.le_refl _)
 have a7:(i:Int)+(b.length:Int)+((pl.length - (i+1):Nat):Int)=(T:Int):=by omega
 have b0:i≤20000000:=by omega
 have b1:i≤a:=by omega
 have b2:(i:Int)+1≤(a:Int):=by omega
 have b3:i+1≤a:=by omega
 have b4:((i:Int)==(i:Int)+1)=false:=by simp;omega
 have b5:((i:Int)+1==(pl.length:Int))=false:=by simp;omega
 have b6:(i:Int)+1≤(pl.length:Int):=by omega
 have b7:i+1≤pl.length:=by omega
 have b8:¬a=i+1:=by omega
 have b9:(0:Int)≤(i:Int)+1:=by omega
 have a8:decide ((a:Int) < (T:Int))=true:=by simp;omega
 have a9:T≤60000000:=by omega
 have c0:i+b.length≤T:=by omega
 have c3:i≤T:=by omega
 have c1:¬s=i:=by omega
 have c2:¬s=i+b.length:=by omega
 have w1:IntKind.i64.wrap ((i:Int)+(b.length:Int))=(i:Int)+(b.length:Int):=by rw [IntKind.wrap_i64];omega
 have w2:IntKind.i64.wrap (T:Int)=(T:Int):=by rw [IntKind.wrap_i64];omega
 have w3:(T:Int) - (i:Int)=((T - i:Nat):Int):=by omega
 have w4:((i:Int)+(b.length:Int)).toNat=i+b.length:=by omega
 have w5:(0:Int)≤(i:Int)+(b.length:Int):=by omega
 have w6:(i:Int)+(b.length:Int)≤(T:Int):=by omega
 have Z:=hid W
 have a0:=hid Y
 have a1:=hid S
 have HT:=hid U
 clear W Y S C D f o B N M O K L y I n A l m U a3 a2 hg hm hb h hx J z Q F G
 go_enter Tryz.func175,Tryz.ntmps175
 go_upto_region 9 with fail
 go_region_law (fail)
 all_goals
  go_upto_region 11 with fail
  go_upto_region 12 with (at_builtin;refine Lib.wpList_append_run w.drew rfl (.tmp 63) (.tmp 66) 121 3 rfl (.slice (some ⟨g,0,none⟩) i a) (.int .i64 ((T - i:Nat):Int)) rfl rfl _ _ Z.out ?_)
  go_upto_region 13 with (refine wpCp t rfl (.tmp 70) (.tmp 71) 121 121 rfl _ _ rfl rfl _ _ a0.out ?_)
  go_region_law (refine stepCp _ rfl (.tmp 78) (.tmp 81) 121 121 rfl _ _ (by simp [Act.eval,Act.put]) (by simp [Act.eval,Act.put]) _ _ a1.out ?_)
  all_goals
   go_wp2_with fail
   go_ret
   have hF:=HQ.out
   simp only [List.append_assoc] at hF
   exact ⟨_,rfl,hF⟩
end Go.Proofs.YtolgpnaoaodepaaGreat
namespace Go.Proofs.YtolgpnaoaodepaaGreat
open Go.RowKit
theorem replaceP_any (v o:Value) (pl b:List (ByteArray×Nat)) (i:Nat) (w:World) (hi:i < pl.length) (h:OwnsP 0 w v pl) (k:OwnsP 0 w o b) (d:0 < b.length) (m:pl.length≤20000000) (f:b.length≤20000000) (p:∀g,v.ownBlock=some g→o.ownBlock≠some g):
  Calls Tryz.prog 175 #[v,.int .i64 (i:Nat),.int .i64 ((i:Nat)+1),o] w fun r w'=>∃q,r= .returned q∧RepQ v (repP pl i b) w q w':=by
 obtain ⟨g,a,rfl,y,-,-,-,-⟩:=h.at i hi
 obtain ⟨j,l,rfl,s,-,-,-,-⟩:=k.at 0 d
 have n:g≠j:=fun e=> p g rfl (by rw [e];rfl)
 by_cases t:i+1=pl.length
 ·exact replaceEnd_any g a j l pl b i w t h k d m f
 ·by_cases c:pl.length - 1+b.length≤a
  ·by_cases u:b.length=1
   ·obtain ⟨x,rfl⟩:∃x,b=[x]:=by
     match b,u with
     | [x],_=> exact ⟨x,rfl⟩
    exact replaceOne_any g a j l pl x i w (by omega) h k m
   ·exact replaceIn_any g a j l pl b i w (by omega) c h k (by omega) m f n
  ·exact replaceGrow_any g a j l pl b i w (by omega) (by omega) h k d m f
set_option maxHeartbeats 400000 in
theorem areSmall_any (a b:Nat) (g h n i j o:Value) (p s t u:Option Addr) (c e d f v x y A:Nat) (w:World) (B:NodT w a g h n) (C:NodT w b i j o) (D:g= .slice p c v) (E:h= .slice s e x) (F:i= .slice t d y) (G:j= .slice u f A) (N:c≤20000000) (O:e≤20000000) (P:d≤20000000) (Q:f≤20000000):
  Calls Tryz.prog 224 #[.pointer (some ⟨a,0,none⟩),.pointer (some ⟨b,0,none⟩)] w fun r w'=> r= .returned (.bool (decide (c+d≤12)&&decide (e+f≤3)))∧Below w.heap.size w w':=by
 subst D E F G
 obtain ⟨H,I,J,-⟩:=B.cells
 obtain ⟨K,L,M,-⟩:=C.cells
 by_cases q:c+d≤12
 ·have k:decide ((c:Int)+(d:Int)≤12)=true:=decide_eq_true (by omega)
  have l:(c:Int)+(d:Int)≤12:=by omega
  have m:decide ((e:Int)+(f:Int)≤3)=decide (e+f≤3):=by by_cases z:e+f≤3 <;> simp [z] <;> omega
  go_enter Tryz.func224,Tryz.ntmps224
  go_upto_region 1 with fail
  go_quiet (fail)
  go_wp2_with fail
  go_ret
  exact ⟨by simp [q],below_drewN (Below.refl _ _) _⟩
 ·have k:decide ((c:Int)+(d:Int)≤12)=false:=decide_eq_false (by omega)
  go_enter Tryz.func224,Tryz.ntmps224
  go_upto_region 1 with fail
  go_quiet (fail)
  go_wp2_with fail
  go_ret
  exact ⟨by simp [q],below_drewN (Below.refl _ _) _⟩
end Go.Proofs.YtolgpnaoaodepaaGreat
