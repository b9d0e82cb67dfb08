import Derived.Test.YtolgpnaoaodepaaGreatTreEm
import Derived.Conc.MuLone
namespace Go.Proofs.YtolgpnaoaodepaaGreat
open Go.RowKit
theorem grownT {a b c:World} {r:Option Nat} (d:a.grownBy b r) (f:b.grownBy c r):a.grownBy c r:=
 ⟨f.os.trans d.os,f.tape.trans d.tape,f.output.trans d.output,Nat.le_trans d.size f.size,fun k g e=> (f.block k (Nat.lt_of_lt_of_le g d.size) e).trans (d.block k g e)⟩
theorem grownN {a b c:World} {r:Option Nat} {g:Nat} (d:a.grownBy b r) (f:b.grownBy c (some g)) (j:a.heap.size≤g):a.grownBy c r:=
 ⟨f.os.trans d.os,f.tape.trans d.tape,f.output.trans d.output,Nat.le_trans d.size f.size,fun k i h=> (f.block k (Nat.lt_of_lt_of_le i d.size) (fun e=> by have:=Option.some.inj e;omega)).trans (d.block k i h)⟩
def insI (il:List (ByteArray×ByteArray)) (i:Nat) (x:ByteArray×ByteArray):List (ByteArray×ByteArray):=il.take i++x::il.drop i
theorem insI_len (il:List (ByteArray×ByteArray)) (i:Nat) (x:ByteArray×ByteArray) (hi:i≤il.length):(insI il i x).length=il.length+1:=by simp [insI];omega
theorem insI_cells (il:List (ByteArray×ByteArray)) (i:Nat) (x:ByteArray×ByteArray):icells (insI il i x)=icells (il.take i)++[.string x.1,.string x.2]++icells (il.drop i):=by
 unfold insI
 rw [icells_append,List.append_assoc];rfl
structure InsQ (v:Value) (l:List (ByteArray×ByteArray)) (w:World) (v':Value) (w':World):Prop where
 o:OwnsI 0 w' v' l
 g:w.grownBy w' v.ownBlock
 b:v'.ownBlock=v.ownBlock∨∃k,w.heap.size≤k∧v'.ownBlock=some k
set_option maxHeartbeats 1000000 in
set_option maxRecDepth 20000 in
theorem insertEnd_any (v:Value) (il:List (ByteArray×ByteArray)) (x:ByteArray×ByteArray) (e:Nat) (w:World) (h:OwnsI 0 w v il) (E:il.length≤20000000) (m:w.heap[e]?=some (.cells #[.string x.1,.string x.2] 51 (0,0))):
  Calls Tryz.prog 171 #[v,.int .i64 (il.length:Nat),.slice (some ⟨e,0,none⟩) 1 1] w fun r w'=>∃s,r= .returned s∧InsQ v (insI il il.length x) w s w':=by
 have n:=hid m
 have o:=hid h
 have t:Hid (insI il il.length x=il++[x]):=by show _=_;unfold insI;simp
 rcases h.2 with ⟨rfl,z⟩ | ⟨g,d,A,rfl,B,C,D,q,i,k⟩
 ·have f:il=[]:=List.eq_nil_of_length_eq_zero z
  subst f
  clear h m
  go_enter Tryz.func171,Tryz.ntmps171
  go_wp2_with (refine wpApI2 _ (by rfl) (.tmp 23) (.tmp 24) (by rfl) 0 (.slice none 0 0) [] (by rfl) o.out (.slice (some ⟨e,0,none⟩) 1 1) [x] (by rfl) (.inr ⟨_,_,rfl,fun j u l=> by rw [off_add];unfold World.cell?;rw [n.out];simpa [icells] using l⟩) (by simp) (Nat.zero_le _) ?_;intro v1 y a b c)
  go_ret
  exact ⟨v1,rfl,by simpa [insI] using a,b,c⟩
 ·have p:d≤9223372036854775807:=by unfold maxLen at q;omega
  clear h m C i k q B
  go_enter Tryz.func171,Tryz.ntmps171
  go_wp2_with (refine wpApI2 _ (by rfl) (.tmp 23) (.tmp 24) (by rfl) 0 (.slice (some ⟨g,0,none⟩) il.length d) il (by rfl) o.out (.slice (some ⟨e,0,none⟩) 1 1) [x] (by rfl) (.inr ⟨_,_,rfl,fun j u l=> by rw [off_add];unfold World.cell?;rw [n.out];simpa [icells] using l⟩) (by simp;omega) (Nat.zero_le _) ?_;intro v1 y a b c)
  all_goals
   go_ret
   exact ⟨v1,rfl,by rw [t.out];exact a,b,c⟩
set_option maxHeartbeats 400000 in
set_option maxRecDepth 20000 in
theorem insertIn_any (g a:Nat) (il:List (ByteArray×ByteArray)) (i:Nat) (x:ByteArray×ByteArray) (l:Nat) (w:World) (hi:i < il.length) (q:il.length+1≤a) (h:OwnsI 0 w (.slice (some ⟨g,0,none⟩) il.length a) il) (hl:il.length≤20000000) (s:w.heap[l]?=some (.cells #[.string x.1,.string x.2] 51 (0,0))) (A:l≠g):
  Calls Tryz.prog 171 #[.slice (some ⟨g,0,none⟩) il.length a,.int .i64 (i:Nat),.slice (some ⟨l,0,none⟩) 1 1] w fun r w'=>∃R,r= .returned R∧InsQ (.slice (some ⟨g,0,none⟩) il.length a) (insI il i x) w R w':=by
 rcases h.2 with ⟨_,hn⟩ | ⟨g',Q,b,e,Z,C,hc,I,k,z⟩
 ·omega
 simp only [Value.slice.injEq,Option.some.injEq,Addr.mk.injEq,and_true,true_and] at e
 obtain ⟨rfl,rfl⟩:=e
 have L:a≤9223372036854775807:=by unfold maxLen at I;omega
 have c:b.toList.length=a*2:=by simpa using k
 have m:(icells (il.drop i)).length=(il.length - i)*2:=by rw [icells_len2,List.length_drop]
 have M:b.toList.take (i*2)=icells (il.take i):=by
  rw [icells_take _ _ (by omega),←z,List.take_take];congr 1;omega
 have D:=run_copy_min (P:=Tryz.prog) w.drew 30 30 3 51 2 g ((i+1)*2) (il.length - i) (a - (i+1)) g (i*2) (il.length+1 - i) (a - i) (il.length - i) b 51 (icells (il.drop i)) Tryz.underlying30 (by kernel_rfl) C (Nat.min_eq_right (by omega)) m (fun j u J=> items_src h i (by omega) j u J) (by rw [m,k];omega) (one_icells _)
 rw [m,show (i+1)*2+(il.length - i)*2=(il.length+1)*2 by omega] at D
 have E:(b.toList.take ((i+1)*2)++icells (il.drop i)++b.toList.drop ((il.length+1)*2)).length=a*2:=by
  simp only [List.length_append,List.length_take,List.length_drop,m,c];omega
 have t:(b.toList.take ((i+1)*2)++icells (il.drop i)++b.toList.drop ((il.length+1)*2)).take (i*2)=icells (il.take i):=by
  rw [List.append_assoc,List.take_append_of_le_length (by rw [List.length_take,c];omega),List.take_take,←M];congr 1;omega
 have v:(b.toList.take ((i+1)*2)++icells (il.drop i)++b.toList.drop ((il.length+1)*2)).drop (i*2+2)=icells (il.drop i)++b.toList.drop ((il.length+1)*2):=by
  rw [List.append_assoc,show i*2+2=(b.toList.take ((i+1)*2)).length by rw [List.length_take,c];omega,List.drop_left]
 generalize K:b.toList.take ((i+1)*2)++icells (il.drop i)++b.toList.drop ((il.length+1)*2)=f at*
 have n:=setRow_at (w:=w.drew) C f
 have d:=setRow_grown w.drew g f.toArray
 have o:(w.drew.setRow g f.toArray).heap[l]?=some (.cells #[Value.string x.1,Value.string x.2] 51 (0,0)):=(d.block l (Array.getElem?_eq_some_iff.1 s).1 (fun e=> A (Option.some.inj e))).trans s
 have B:=run_copy_at (P:=Tryz.prog) (w.drew.setRow g f.toArray) 30 30 3 51 2 g (i*2) (il.length+1 - i) (a - i) (.slice (some ⟨l,0,none⟩) 1 1) 1 f.toArray 51 [Value.string x.1,Value.string x.2] Tryz.underlying30 (by kernel_rfl) n (by omega) ⟨_,_,rfl,rfl,.inr ⟨l,0,rfl,(Array.getElem?_eq_some_iff.1 o).1,fun j u J=> by unfold World.cell?;simp only [o,Nat.zero_add];simpa using J⟩⟩ (by simp;omega) (by intro u O;simp at O;rcases O with rfl | rfl <;> rfl)
 simp only [List.length_cons,List.length_nil] at B
 rw [show i*2+(0+1+1)=i*2+2 by omega,t,v] at B
 have S:Hid (InsQ (.slice (some ⟨g,0,none⟩) il.length a) (insI il i x) w (.slice (some ⟨g,0,none⟩) (il.length+1) a) ((w.drew.setRow g f.toArray).setRow g (icells (il.take i)++[Value.string x.1,Value.string x.2]++(icells (il.drop i)++b.toList.drop ((il.length+1)*2))).toArray)):=by
  have p:(icells (il.take i)).length=i*2:=by rw [icells_len2,List.length_take];omega
  refine ⟨?_,?_,.inl rfl⟩
  ·unfold OwnsI
   rw [insI_len _ _ _ (by omega)]
   refine row_of (setRow_at n _) q I ?_ ?_ (by rw [icells_len2,insI_len _ _ _ (by omega)])
   ·simp only [List.length_append,List.length_drop,p,m,c,List.length_cons,List.length_nil];omega
   ·rw [insI_cells,←List.append_assoc,List.take_append_of_le_length (by simp only [List.length_append,p,m,List.length_cons,List.length_nil];omega),List.take_of_length_le (by simp only [List.length_append,p,m,List.length_cons,List.length_nil];omega)]
  ·have T:=setRow_grown (w.drew.setRow g f.toArray) g (icells (il.take i)++[Value.string x.1,Value.string x.2]++(icells (il.drop i)++b.toList.drop ((il.length+1)*2))).toArray
   exact grownT (⟨d.os,d.tape,d.output,d.size,d.block⟩:w.grownBy _ (some g)) T
 have eo:(callFunc 220 #[.slice (some ⟨l,0,none⟩) 1 1,.slice (some ⟨g,(i+1)*2,none⟩) (il.length - i) (a - (i+1))]).run Tryz.prog w= .ok (.value (.bool false)) w:=by
  rw [run_callFunc_extern Tryz.func220 (by kernel_rfl) (by kernel_rfl) (by kernel_rfl) (e:=Extern.SlicesOverlaps.overlaps #[30,30] #[4]) (by kernel_rfl),Lib.run_overlaps_apart w 30 4 51 Tryz.underlying30 2 (by
   intro w
   obtain ⟨W,y,X,H,Y⟩:=info_parts info_item
   simp [Go.sizeOf,typeInfo,y,H]) ⟨l,0,none⟩ ⟨g,(i+1)*2,none⟩ 1 1 _ _ A 51 51 2 (a*2) (by simp [World.shape?,s]) (by simp [World.shape?,C,k]) (by omega) (by simp [World.frozen?,s]) (by simp [World.frozen?,s])]
  rfl
 have F:=hid D
 have G:=hid B
 clear D B n d o t v E K M m c z k C I Z h s
 have b1:i≤a:=by omega
 have b2:i≤il.length:=by omega
 have b3:i+1≤il.length+1:=by omega
 have b4:(il.length:Int)+1≤(a:Int):=by omega
 have b5:¬a=i:=by omega
 have b6:¬a=i+1:=by omega
 have b7:i≤il.length+1:=by omega
 have b8:((i:Int)==(il.length:Int))=false:=by simp;omega
 have U:i≤il.length+1:=by omega
 have V:(i:Int)≤(il.length:Int)+1:=by omega
 have w1:IntKind.i64.wrap ((i:Int)+1)=(i:Int)+1:=by rw [IntKind.wrap_i64];omega
 have w2:((i:Int)+1).toNat=i+1:=by omega
 have w3:(0:Int)≤(i:Int)+1:=by omega
 have w4:(i:Int)+1≤(il.length:Int)+1:=by omega
 have b9:decide ((a:Int) < (il.length:Int)+1)=false:=by simp;omega
 go_enter Tryz.func171,Tryz.ntmps171
 go_upto_region 15 with fail
 go_region_law (refine stepCp _ (by rfl) (.tmp 73) (.tmp 76) _ _ (by rfl) _ _ (by simp [Act.eval,Act.put]) (by simp [Act.eval,Act.put]) _ _ F.out ?_)
 all_goals
  go_wp2_with (refine wpCp _ (by rfl) (.tmp 80) (.tmp 81) _ _ (by rfl) _ _ (by rfl) (by rfl) _ _ G.out ?_)
  go_ret
  have N:=S.out
  simp only [List.append_assoc,List.cons_append,List.nil_append] at N
  exact ⟨_,rfl,N⟩
end Go.Proofs.YtolgpnaoaodepaaGreat
namespace Go.Proofs.YtolgpnaoaodepaaGreat
open Go.RowKit
set_option maxHeartbeats 400000 in
set_option maxRecDepth 20000 in
theorem insertGrow_any (g a:Nat) (il:List (ByteArray×ByteArray)) (i:Nat) (x:ByteArray×ByteArray) (Q:Nat) (w:World) (hi:i < il.length) (a1:a < il.length+1) (h:OwnsI 0 w (.slice (some ⟨g,0,none⟩) il.length a) il) (hl:il.length≤20000000) (hx:w.heap[Q]?=some (.cells #[.string x.1,.string x.2] 51 (0,0))):
  Calls Tryz.prog 171 #[.slice (some ⟨g,0,none⟩) il.length a,.int .i64 (i:Nat),.slice (some ⟨Q,0,none⟩) 1 1] w fun r w'=>∃v',r= .returned v'∧InsQ (.slice (some ⟨g,0,none⟩) il.length a) (insI il i x) w v' w':=by
 rcases h.2 with ⟨_,hn⟩ | ⟨g',a3,a6,e,hb,hg,hc,hm,Z,a0⟩
 ·omega
 simp only [Value.slice.injEq,Option.some.injEq,Addr.mk.injEq,and_true,true_and] at e
 obtain ⟨rfl,rfl⟩:=e
 have a2:a≤9223372036854775807:=by unfold maxLen at hm;omega
 have s:=(Array.getElem?_eq_some_iff.1 hg).1
 have G:=(Array.getElem?_eq_some_iff.1 hx).1
 obtain ⟨D,v,O,E,F⟩:=info_parts info_item
 have y:(icells (il.drop i)).length=(il.length - i)*2:=by rw [icells_len2,List.length_drop]
 have f:(icells (il.take i)).length=i*2:=by rw [icells_len2,List.length_take];omega
 have t:(Builtin.firstCells D.size i (.slice (some ⟨g,0,none⟩) i a)).run Tryz.prog w.drew= .ok (icells (il.take i)).toArray w.drew:=by
  have:=run_loadCells_list (P:=Tryz.prog) w.drew ⟨g,0,none⟩ (icells (il.take i)) (fun j u p=> by
   rw [icells_take _ _ (by omega)] at p
   have T:(icells il)[j]?=some u:=by
    rw [List.getElem?_take] at p
    split at p
    ·exact p
    ·cases p
   exact World.ownsRow.cells h (g:=g) rfl _ _ T)
  rw [f] at this
  simpa [Builtin.firstCells,E] using this
 have H:Builtin.nextslicecap (i+(il.length+1 - i)) a*D.bytes≤281474976710656:=growslice_fits (by omega) (by rw [F];omega)
 have U:=Lib.run_append_grow_zeros (P:=Tryz.prog) w 30 3 30 51 D (.agg #[.string ⟨#[]⟩,.string ⟨#[]⟩]) .i64 .i64 Tryz.underlying30 Tryz.underlying3 v O (some ⟨g,0,none⟩) i a (icells (il.take i)) t (il.length+1 - i) (by omega) (by rw [E];omega) (by omega) (by omega) (by rw [F];omega) H
 rw [show i+(il.length+1 - i)=il.length+1 by omega] at U
 have V:=grownCap_ge w (il.length+1) a 51
 have I:grownCap w (il.length+1) a 51≤maxLen:=grownCap_le_maxLen w (il.length+1) a 51 (by unfold maxLen;omega)
 generalize grownCap w (il.length+1) a 51=n at*
 have J:=(zeroI_cells (il.length+1 - i)).1
 have K:=(zeroI_cells (n - (il.length+1))).1
 have z:((icells (il.take i)).toArray++Builtin.zeroCells (Value.agg #[.string ⟨#[]⟩,.string ⟨#[]⟩]).cells (il.length+1 - i)++Builtin.zeroCells (Value.agg #[.string ⟨#[]⟩,.string ⟨#[]⟩]).cells (n - (il.length+1))).toList.length=n*2:=by
  simp only [Array.length_toList,Array.size_append,List.size_toArray,f,J,K];omega
 have L:((icells (il.take i)).toArray++Builtin.zeroCells (Value.agg #[.string ⟨#[]⟩,.string ⟨#[]⟩]).cells (il.length+1 - i)++Builtin.zeroCells (Value.agg #[.string ⟨#[]⟩,.string ⟨#[]⟩]).cells (n - (il.length+1))).toList.take (i*2)=icells (il.take i):=by
  rw [Array.append_assoc,Array.toList_append,←f,List.take_left]
 generalize (icells (il.take i)).toArray++Builtin.zeroCells (Value.agg #[.string ⟨#[]⟩,.string ⟨#[]⟩]).cells (il.length+1 - i)++Builtin.zeroCells (Value.agg #[.string ⟨#[]⟩,.string ⟨#[]⟩]).cells (n - (il.length+1))=c at*
 have l:Below w.heap.size w (w.drew.alloc (.cells c 51)):=(Below.refl w.heap.size w).drew.alloc (Nat.le_refl _) _
 have A:(w.drew.alloc (.cells c 51)).heap[w.heap.size]?=some (.cells c 51 (0,0)):=heap_alloc_new w.drew _
 generalize w.drew.alloc (.cells c 51)=o at*
 have B:=(l.block Q G).trans hx
 have R:=run_copy_at (P:=Tryz.prog) o 30 30 3 51 2 w.heap.size (i*2) (il.length+1 - i) (n - i) (.slice (some ⟨Q,0,none⟩) 1 1) 1 c 51 [Value.string x.1,Value.string x.2] Tryz.underlying30 (by kernel_rfl) A (by omega) ⟨_,_,rfl,rfl,.inr ⟨Q,0,rfl,(Array.getElem?_eq_some_iff.1 B).1,fun j u p=> by unfold World.cell?;simp only [B,Nat.zero_add];simpa using p⟩⟩ (by simp at z ⊢;omega) (by intro u hu;simp at hu;rcases hu with rfl | rfl <;> rfl)
 simp only [List.length_cons,List.length_nil] at R
 rw [show i*2+(0+1+1)=i*2+2 by omega,L] at R
 have M:(icells (il.take i)++[Value.string x.1,Value.string x.2]++c.toList.drop (i*2+2)).length=n*2:=by
  simp only [List.length_append,f,List.length_drop,z,List.length_cons,List.length_nil];omega
 have N:(icells (il.take i)++[Value.string x.1,Value.string x.2]++c.toList.drop (i*2+2)).take ((i+1)*2)=icells (il.take i)++[Value.string x.1,Value.string x.2]:=by
  rw [show (i+1)*2=(icells (il.take i)++[Value.string x.1,Value.string x.2]).length by simp [f];omega,List.take_left]
 generalize icells (il.take i)++[Value.string x.1,Value.string x.2]++c.toList.drop (i*2+2)=b at*
 have C:=setRow_at A b
 have d:=setRow_grown o w.heap.size b.toArray
 have m:∀(j:Nat) (u:Value),(icells (il.drop i))[j]?=some u→(o.setRow w.heap.size b.toArray).drew.cell? ⟨g,i*2+j,none⟩=some u:=fun j u p=> by
  have q:=items_src h i (by omega) j u p
  rw [←q]
  exact World.cell?_of_block ((d.block g (Nat.lt_of_lt_of_le s l.size) (fun e=> by have:=Option.some.inj e;omega)).trans (l.block g s))
 have S:=run_copy_min (P:=Tryz.prog) (o.setRow w.heap.size b.toArray).drew 30 30 3 51 2 w.heap.size ((i+1)*2) (il.length - i) (n - (i+1)) g (i*2) (il.length - i) (a - i) (il.length - i) b.toArray 51 (icells (il.drop i)) Tryz.underlying30 (by kernel_rfl) C (Nat.min_self _) y m (by rw [y];simp;omega) (one_icells _)
 rw [y,show (i+1)*2+(il.length - i)*2=(il.length+1)*2 by omega] at S
 simp only [N] at S
 have HQ:Hid (InsQ (.slice (some ⟨g,0,none⟩) il.length a) (insI il i x) w (.slice (some ⟨w.heap.size,0,none⟩) (il.length+1) n) ((o.setRow w.heap.size b.toArray).drew.setRow w.heap.size (icells (il.take i)++[Value.string x.1,Value.string x.2]++icells (il.drop i)++b.drop ((il.length+1)*2)).toArray)):=by
  refine ⟨?_,?_,.inr ⟨w.heap.size,Nat.le_refl _,rfl⟩⟩
  ·unfold OwnsI
   rw [insI_len _ _ _ (by omega)]
   refine row_of (setRow_at (w:=(o.setRow w.heap.size b.toArray).drew) C _) V I ?_ ?_ (by rw [icells_len2,insI_len _ _ _ (by omega)])
   ·simp only [List.length_append,List.length_drop,f,y,M,List.length_cons,List.length_nil];omega
   ·rw [insI_cells,List.take_append_of_le_length (by simp only [List.length_append,f,y,List.length_cons,List.length_nil];omega),List.take_of_length_le (by simp only [List.length_append,f,y,List.length_cons,List.length_nil];omega)]
  ·have h2:=setRow_grown (o.setRow w.heap.size b.toArray).drew w.heap.size (icells (il.take i)++[Value.string x.1,Value.string x.2]++icells (il.drop i)++b.drop ((il.length+1)*2)).toArray
   have h0:w.grownBy o (some g):=⟨l.os,l.tape,l.output,l.size,fun k hk _=> l.block k hk⟩
   have h1:w.grownBy (o.setRow w.heap.size b.toArray).drew (some g):=grownN h0 ⟨d.os,d.tape,d.output,d.size,d.block⟩ (Nat.le_refl _)
   exact grownN h1 h2 (Nat.le_refl _)
 have W:=hid U
 have X:=hid R
 have Y:=hid S
 clear U R S A C d m z M L N J K t H l B y f a0 Z hg hm hb h hx I v O E F
 have b1:i≤a:=by omega
 have b2:i≤il.length:=by omega
 have b5:¬a=i:=by omega
 have b6:¬n=i:=by omega
 have a4:¬n=i+1:=by omega
 have b7:i≤il.length+1:=by omega
 have b8:((i:Int)==(il.length:Int))=false:=by simp;omega
 have b9:decide ((a:Int) < (il.length:Int)+1)=true:=by simp;omega
 have a5:(i:Int)≤(il.length:Int)+1:=by omega
 have w1:IntKind.i64.wrap ((i:Int)+1)=(i:Int)+1:=by rw [IntKind.wrap_i64];omega
 have w2:((i:Int)+1).toNat=i+1:=by omega
 have w3:(0:Int)≤(i:Int)+1:=by omega
 have w4:(i:Int)+1≤(il.length:Int)+1:=by omega
 have w5:((il.length:Int)+1 - (i:Int))=((il.length+1 - i:Nat):Int):=by omega
 go_enter Tryz.func171,Tryz.ntmps171
 go_upto_region 10 with (at_builtin;refine Lib.wpList_append_run w rfl (.tmp 34) (.tmp 39) 30 3 rfl (.slice (some ⟨g,0,none⟩) i a) (.int .i64 ((il.length+1 - i:Nat):Int)) rfl rfl _ _ W.out ?_)
 go_upto_region 11 with (refine wpCp o rfl (.tmp 43) (.tmp 44) 30 30 rfl _ _ rfl rfl _ _ X.out ?_)
 go_region_law (refine stepCp _ (by rfl) (.tmp 50) (.tmp 53) _ _ (by rfl) _ _ (by simp [Act.eval,Act.put]) (by simp [Act.eval,Act.put]) _ _ Y.out ?_)
 all_goals
  go_wp2_with fail
  go_ret
  have hF:=HQ.out
  simp only [List.append_assoc,List.cons_append,List.nil_append] at hF
  exact ⟨_,rfl,hF⟩
end Go.Proofs.YtolgpnaoaodepaaGreat
namespace Go.Proofs.YtolgpnaoaodepaaGreat.Tr
def rest (l:List It) (k:Key):List It:=match l with
 | []=> []
 | x::r=> if x.1=k then r else x::r
def putK (l:List It) (k:Key) (o:Option Key):List It:=l.takeWhile (fun x=> decide (x.1 < k))++((o.map fun v=> (k,v)).toList++rest (l.dropWhile fun x=> decide (x.1 < k)) k)
theorem rest_sub (l:List It) (k:Key):(rest l k).Sublist l:=by
 cases l with
 | nil=> exact List.Sublist.refl _
 | cons x r=>
  unfold rest;simp only
  split
  ·exact List.sublist_cons_self _ _
  ·exact List.Sublist.refl _
theorem tw_lt {l:List It} {k:Key} {x:It} (h:x∈l.takeWhile fun x=> decide (x.1 < k)):x.1 < k:=by
 have:=List.all_takeWhile (p:=fun x:It=> decide (x.1 < k)) (l:=l)
 exact of_decide_eq_true (List.all_eq_true.1 this x h)
theorem dw_ge {l:List It} (e:Rising l) {k:Key} {x:It} (h:x∈l.dropWhile fun x=> decide (x.1 < k)):¬x.1 < k:=by
 have b:=List.head?_dropWhile_not (fun x:It=> decide (x.1 < k)) l
 have d:(l.dropWhile fun x=> decide (x.1 < k)) <:+l:=List.dropWhile_suffix _
 have a:Rising (l.dropWhile fun x=> decide (x.1 < k)):=List.Pairwise.sublist d.sublist e
 generalize (l.dropWhile fun x=> decide (x.1 < k))=D at*
 match D,h,b,a with
 | y::D,c,b,a=>
  simp at b
  rcases List.mem_cons.1 c with rfl | c
  ·exact List.not_lt.2 b
  ·have:=(List.pairwise_cons.1 a).1 x c
   exact fun q=> (List.not_lt.2 b) (lt_tr this q)
theorem rest_gt {l:List It} (f:Rising l) {k:Key} {x:It} (h:x∈rest (l.dropWhile fun x=> decide (x.1 < k)) k):k < x.1:=by
 have a:=fun y i=> dw_ge f (k:=k) (x:=y) i
 have g:(l.dropWhile fun x=> decide (x.1 < k)) <:+l:=List.dropWhile_suffix _
 have b:Rising (l.dropWhile fun x=> decide (x.1 < k)):=List.Pairwise.sublist g.sublist f
 generalize (l.dropWhile fun x=> decide (x.1 < k))=D at*
 match D,h,a,b with
 | y::D,c,a,b=>
  unfold rest at c
  simp only at c
  split at c
  ·next e=> have:=(List.pairwise_cons.1 b).1 x c;rw [e] at this;exact this
  ·next e=>
   have d:¬x.1=k:=by
    rintro rfl
    rcases List.mem_cons.1 c with rfl | c
    ·exact e rfl
    ·have:=(List.pairwise_cons.1 b).1 x c
     exact a y (List.mem_cons_self ..) this
   by_cases q:k < x.1
   ·exact q
   ·exact absurd (tri _ _ (a x c) q) d
theorem putK_mem {l:List It} {k:Key} {o:Option Key} {x:It} (h:x∈putK l k o):x∈l∨∃v,o=some v∧x=(k,v):=by
 unfold putK at h
 rcases List.mem_append.1 h with h | h
 ·exact .inl ((List.takeWhile_prefix _).sublist.subset h)
 ·rcases List.mem_append.1 h with h | h
  ·cases o with
   | none=> simp at h
   | some v=> simp at h;exact .inr ⟨v,rfl,h⟩
  ·exact .inl ((List.dropWhile_suffix _).sublist.subset ((rest_sub _ _).subset h))
theorem putK_rising {l:List It} (f:Rising l) (k:Key) (o:Option Key):Rising (putK l k o):=by
 have g:Rising (l.takeWhile fun x=> decide (x.1 < k)):=List.Pairwise.sublist (List.takeWhile_prefix _).sublist f
 have h:Rising (rest (l.dropWhile fun x=> decide (x.1 < k)) k):=List.Pairwise.sublist ((rest_sub _ _).trans (List.dropWhile_suffix _).sublist) f
 refine List.pairwise_append.2 ⟨g,List.pairwise_append.2 ⟨?_,h,?_⟩,?_⟩
 ·cases o <;> simp
 ·intro a e b c
  cases o with
  | none=> simp at e
  | some v=> simp at e;subst e;exact rest_gt f c
 ·intro a e b c
  have d:=tw_lt e
  rcases List.mem_append.1 c with c | c
  ·cases o with
   | none=> simp at c
   | some v=> simp at c;subst c;exact d
  ·exact lt_tr d (rest_gt f c)
theorem look_rest {l:List It} {k a:Key} (h:a≠k):look (rest l k) a=look l a:=by
 cases l with
 | nil=> rfl
 | cons x r=>
  unfold rest;simp only
  split
  ·next e=> rw [look,if_neg (by rw [e];exact fun q=> h q.symm)]
  ·rfl
theorem putK_look {l:List It} (d:Rising l) (k:Key) (o:Option Key) (b:Key):look (putK l k o) b=if b=k then o else look l b:=by
 unfold putK
 rw [look_append,look_append]
 by_cases e:b=k
 ·subst e
  rw [if_pos rfl,look_none (fun x a q=> by have:=tw_lt a;rw [q] at this;exact lt_ir _ this)]
  cases o with
  | none=> simp only [Option.map_none,Option.toList_none,look,Option.none_or];exact look_none fun x a q=> by have:=rest_gt d a;rw [q] at this;exact lt_ir _ this
  | some v=> simp [look]
 ·rw [if_neg e,look_rest e]
  have c:look ((o.map fun v=> (k,v)).toList) b=none:=by
   refine look_none fun x a q=> ?_
   cases o with
   | none=> simp at a
   | some v=> simp at a;subst a;exact e q.symm
  rw [c,Option.none_or,←look_append,List.takeWhile_append_dropWhile]
theorem putK_len (l:List It) (k:Key) (o:Option Key):(putK l k o).length≤l.length+1:=by
 unfold putK
 have a:(l.takeWhile fun x=> decide (x.1 < k)).length+(l.dropWhile fun x=> decide (x.1 < k)).length=l.length:=by
  rw [←List.length_append,List.takeWhile_append_dropWhile]
 have b:=(rest_sub (l.dropWhile fun x=> decide (x.1 < k)) k).length_le
 simp only [List.length_append]
 have c:((o.map fun v=> (k,v)).toList).length≤1:=by cases o <;> simp
 omega
end Go.Proofs.YtolgpnaoaodepaaGreat.Tr
namespace Go.Proofs.YtolgpnaoaodepaaGreat
open Go.RowKit
structure Mod (F:Nat→Prop) (w w':World):Prop where
 os:w'.os=w.os
 tape:w'.tape=w.tape
 output:w'.output=w.output
 size:w.heap.size≤w'.heap.size
 block:∀k,k < w.heap.size→¬F k→w'.heap[k]?=w.heap[k]?
theorem Mod.of_below {w w':World} {F:Nat→Prop} (h:Below w.heap.size w w'):Mod F w w':=⟨h.os,h.tape,h.output,h.size,fun k a _=> h.block k a⟩
theorem Mod.of_grown {w w':World} {r:Option Nat} (h:w.grownBy w' r):Mod (fun k=> r=some k) w w':=⟨h.os,h.tape,h.output,h.size,fun k b a=> h.block k b (fun e=> a e.symm)⟩
theorem Mod.trans {F G H:Nat→Prop} {a b c:World} (d:Mod F a b) (e:Mod G b c) (h:∀k,k < a.heap.size→F k→H k) (i:∀k,k < a.heap.size→G k→H k):Mod H a c:=
 ⟨e.os.trans d.os,e.tape.trans d.tape,e.output.trans d.output,Nat.le_trans d.size e.size,fun k f g=> (e.block k (Nat.lt_of_lt_of_le f d.size) (fun q=> g (i k f q))).trans (d.block k f (fun q=> g (h k f q)))⟩
theorem Mod.mono {F H:Nat→Prop} {a b:World} (h:Mod F a b) (e:∀k,k < a.heap.size→F k→H k):Mod H a b:=⟨h.os,h.tape,h.output,h.size,fun k c d=> h.block k c (fun q=> d (e k c q))⟩
theorem Mod.setCell (w:World) (p:Nat) (i:Nat) (v:Value):Mod (fun k=> k=p) w (w.setCell ⟨p,i,none⟩ v):=by
 have h:=but_set p i w v
 exact ⟨h.os,h.tape,h.output,h.size,fun k b a=> h.block k b (fun e=> a (Option.some.inj e))⟩
theorem Mod.row {F:Nat→Prop} {w w':World} (h:Mod F w w') {B:Nat} {e:TypeId} {s n:Nat} {v:Value} {xs:List Value} (f:w.ownsRow B e s v n xs) (j:∀g,v.ownBlock=some g→¬F g):w'.ownsRow B e s v n xs:=
 ⟨f.1,f.2.imp_right fun ⟨g,a,b,c,i,d,q⟩=> ⟨g,a,b,c,i,(h.block g (Array.getElem?_eq_some_iff.1 d).1 (j g (by rw [c];rfl))).trans d,q⟩⟩
theorem Mod.nod {F:Nat→Prop} {w w':World} (h:Mod F w w') {p:Nat} {a vp vc:Value} (b:NodT w p a vp vc) (c:¬F p):NodT w' p a vp vc:=(h.block p b.lt c).trans b
theorem NodT.seti {w:World} {p:Nat} {a vp vc:Value} (h:NodT w p a vp vc) (u:Value):NodT (w.setCell ⟨p,0,none⟩ u) p u vp vc:=by unfold NodT at*;rw [heap_setCell_at (i:=0) h];rfl
theorem NodT.setp {w:World} {p:Nat} {a vp vc:Value} (h:NodT w p a vp vc) (u:Value):NodT (w.setCell ⟨p,1,none⟩ u) p a u vc:=by unfold NodT at*;rw [heap_setCell_at (i:=1) h];rfl
theorem NodT.setc {w:World} {p:Nat} {a vp vc:Value} (h:NodT w p a vp vc) (u:Value):NodT (w.setCell ⟨p,2,none⟩ u) p a vp u:=by unfold NodT at*;rw [heap_setCell_at (i:=2) h];rfl
theorem insertI_any (v:Value) (il:List (ByteArray×ByteArray)) (i:Nat) (x:ByteArray×ByteArray) (c:Nat) (w:World) (hi:i≤il.length) (h:OwnsI 0 w v il) (d:il.length≤20000000) (f:w.heap[c]?=some (.cells #[.string x.1,.string x.2] 51 (0,0))) (j:v.ownBlock≠some c):
  Calls Tryz.prog 171 #[v,.int .i64 (i:Nat),.slice (some ⟨c,0,none⟩) 1 1] w fun r w'=>∃k,r= .returned k∧InsQ v (insI il i x) w k w':=by
 by_cases m:i=il.length
 ·subst m
  exact insertEnd_any v il x c w h d f
 ·have h0:=h
  rcases h.2 with ⟨_,n⟩ | ⟨g,a,l,rfl,_⟩
  ·omega
  ·by_cases b:il.length+1≤a
   ·exact insertIn_any g a il i x c w (by omega) b h0 d f (fun e=> j (by rw [e];rfl))
   ·exact insertGrow_any g a il i x c w (by omega) (by omega) h0 d f
end Go.Proofs.YtolgpnaoaodepaaGreat
namespace Go.Proofs.YtolgpnaoaodepaaGreat
open Go.RowKit
def ST (w:World) (x b:Nat):Prop:=w.heap[x]?=some (.cells #[.int .i32 0,.int .u32 0,.pointer (some ⟨b,0,none⟩)] 95 (0,0))
def SL (w:World) (x b:Nat):Prop:=w.heap[x]?=some (.cells #[.int .i32 1,.int .u32 0,.pointer (some ⟨b,0,none⟩)] 95 (0,0))
theorem ST.lt {w:World} {x b:Nat} (h:ST w x b):x < w.heap.size:=(Array.getElem?_eq_some_iff.1 h).1
theorem SL.lt {w:World} {x b:Nat} (h:SL w x b):x < w.heap.size:=(Array.getElem?_eq_some_iff.1 h).1
theorem ST.cells {w:World} {x b:Nat} (h:ST w x b):w.cell? ⟨x,0,none⟩=some (.int .i32 0)∧w.cell? ⟨x,2,none⟩=some (.pointer (some ⟨b,0,none⟩))∧∀i,w.frozen? ⟨x,i,none⟩=false:=by
 unfold ST at h
 refine ⟨?_,?_,fun i=> ?_⟩ <;> simp [World.cell?,World.frozen?,h]
theorem SL.cells {w:World} {x b:Nat} (h:SL w x b):w.cell? ⟨x,0,none⟩=some (.int .i32 1)∧w.cell? ⟨x,2,none⟩=some (.pointer (some ⟨b,0,none⟩))∧∀i,w.frozen? ⟨x,i,none⟩=false:=by
 unfold SL at h
 refine ⟨?_,?_,fun i=> ?_⟩ <;> simp [World.cell?,World.frozen?,h]
theorem ST.lock {w:World} {x b:Nat} (h:ST w x b):SL (w.setCell ⟨x,0,none⟩ (.int .i32 1)) x b:=by unfold SL;rw [heap_setCell_at (i:=0) h];rfl
theorem SL.unlock {w:World} {x b:Nat} (h:SL w x b):ST (w.setCell ⟨x,0,none⟩ (.int .i32 0)) x b:=by unfold ST;rw [heap_setCell_at (i:=0) h];rfl
theorem SL.keep {w w':World} {F:Nat→Prop} {x b:Nat} (h:SL w x b) (a:Mod F w w') (c:¬F x):SL w' x b:=(a.block x h.lt c).trans h
theorem lock_mod {F:Nat→Prop} {w f:World} {x b:Nat} (h:ST w x b) (a:Mod F (w.setCell ⟨x,0,none⟩ (.int .i32 1)) f) (o:¬F x):Mod F w (f.setCell ⟨x,0,none⟩ (.int .i32 0))∧ST (f.setCell ⟨x,0,none⟩ (.int .i32 0)) x b:=by
 have c:=Mod.setCell w x 0 (.int .i32 1)
 have d:=Mod.setCell f x 0 (.int .i32 0)
 have j:SL f x b:=h.lock.keep a o
 have i:=j.unlock
 have k:=c.size
 have l:=a.size
 refine ⟨⟨d.os.trans (a.os.trans c.os),d.tape.trans (a.tape.trans c.tape),d.output.trans (a.output.trans c.output),Nat.le_trans (Nat.le_trans k l) d.size,fun g m n=> ?_⟩,i⟩
 by_cases e:g=x
 ·rw [e];exact i.trans h.symm
 ·exact (d.block g (by omega) e).trans ((a.block g (by omega) n).trans (c.block g m e))
theorem lock_below {w a:World} {x b:Nat} (h:ST w x b) (d:Below (w.setCell ⟨x,0,none⟩ (.int .i32 1)).heap.size (w.setCell ⟨x,0,none⟩ (.int .i32 1)) a):Below w.heap.size w (a.setCell ⟨x,0,none⟩ (.int .i32 0)):=by
 obtain ⟨m,-⟩:=lock_mod (F:=fun _=> False) h (Mod.of_below d) (fun q=> q)
 exact ⟨m.os,m.tape,m.output,m.size,fun g c=> m.block g c (fun q=> q)⟩
end Go.Proofs.YtolgpnaoaodepaaGreat
