import Derived.Test.YtolgpnaoaodepaaGreatTreEm
import Derived.Conc.MuLone
namespace Go.Proofs.YtolgpnaoaodepaaGreat
open Go.RowKit
theorem Agt {a b c:World} {r:Option Nat} (d:a.grownBy b r) (g:b.grownBy c r):a.grownBy c r:=
 ⟨g.os.trans d.os,g.tape.trans d.tape,g.output.trans d.output,Nat.le_trans d.size g.size,fun k i f=> (g.block k (Nat.lt_of_lt_of_le i d.size) f).trans (d.block k i f)⟩
theorem Ack {a b c:World} {r:Option Nat} {g:Nat} (d:a.grownBy b r) (f:b.grownBy c (some g)) (l:a.heap.size<=g):a.grownBy c r:=
 ⟨f.os.trans d.os,f.tape.trans d.tape,f.output.trans d.output,Nat.le_trans d.size f.size,fun k j i=> (f.block k (Nat.lt_of_lt_of_le j d.size) (fun e=> by have:=Option.some.inj e;omega)).trans (d.block k j i)⟩
def Pb (il:List (ByteArray×ByteArray)) (i:Nat) (x:ByteArray×ByteArray):List (ByteArray×ByteArray):=il.take i++x::il.drop i
theorem Rc (il:List (ByteArray×ByteArray)) (i:Nat) (x:ByteArray×ByteArray) (hi:i<=il.length):(Pb il i x).length=il.length+1:=by simp [Pb];omega
theorem Xi (il:List (ByteArray×ByteArray)) (i:Nat) (x:ByteArray×ByteArray):icells (Pb il i x)=icells (il.take i)++[.string x.1,.string x.2]++icells (il.drop i):=by
 unfold Pb;rw [Cj,List.append_assoc];rfl
structure Agu (v:Value) (l:List (ByteArray×ByteArray)) (w:World) (v':Value) (w':World):Prop where
 o:Ak 0 w' v' l
 g:w.grownBy w' v.ownBlock
 b:v'.ownBlock=v.ownBlock\/∃k,w.heap.size<=k/\v'.ownBlock=some k
set_option maxHeartbeats 1000000 in
set_option maxRecDepth 20000 in
theorem Aa8 (v:Value) (il:List (ByteArray×ByteArray)) (x:ByteArray×ByteArray) (f:Nat) (w:World) (h:Ak 0 w v il) (G:il.length<=20000000) (n:w.heap[f]?=some (.cells #[.string x.1,.string x.2] 51 (0,0))):
  Calls Tryz.prog 171 #[v,.int .i64 (il.length:Nat),.slice (some ⟨f,0,none⟩) 1 1] w fun r w'=>∃t,r= .returned t/\Agu v (Pb il il.length x) w t w':=by
 have o:=hid n;have p:=hid h;have y:Hid (Pb il il.length x=il++[x]):=by show _=_;unfold Pb;simp
 rcases h.2 with ⟨rfl,A⟩ | ⟨g,d,B,rfl,C,D,F,s,k,l⟩
 ·have i:il=[]:=List.eq_nil_of_length_eq_zero A;subst i;clear h n;go_enter Tryz.func171,Tryz.ntmps171;go_wp2_with (refine Alr _ (by rfl) (.tmp 23) (.tmp 24) (by rfl) 0 (.slice none 0 0) [] (by rfl) p.out (.slice (some ⟨f,0,none⟩) 1 1) [x] (by rfl) (.inr ⟨_,_,rfl,fun j u m=> by rw [Cw];unfold World.cell?;rw [o.out];simpa [icells] using m⟩) (by simp) (Nat.zero_le _) ?_;intro v1 z a b c);go_ret;exact ⟨v1,rfl,by simpa [Pb] using a,b,c⟩
 ·have q:d<=9223372036854775807:=by unfold maxLen at s;omega
  clear h n D k l s C;go_enter Tryz.func171,Tryz.ntmps171;go_wp2_with (refine Alr _ (by rfl) (.tmp 23) (.tmp 24) (by rfl) 0 (.slice (some ⟨g,0,none⟩) il.length d) il (by rfl) p.out (.slice (some ⟨f,0,none⟩) 1 1) [x] (by rfl) (.inr ⟨_,_,rfl,fun j u m=> by rw [Cw];unfold World.cell?;rw [o.out];simpa [icells] using m⟩) (by simp;omega) (Nat.zero_le _) ?_;intro v1 z a b c)
  all_goals
   go_ret;exact ⟨v1,rfl,by rw [y.out];exact a,b,c⟩
set_option maxHeartbeats 400000 in
set_option maxRecDepth 20000 in
theorem Acl (g a:Nat) (il:List (ByteArray×ByteArray)) (i:Nat) (x:ByteArray×ByteArray) (l:Nat) (w:World) (hi:i < il.length) (q:il.length+1<=a) (h:Ak 0 w (.slice (some ⟨g,0,none⟩) il.length a) il) (hl:il.length<=20000000) (s:w.heap[l]?=some (.cells #[.string x.1,.string x.2] 51 (0,0))) (B:l≠g):
  Calls Tryz.prog 171 #[.slice (some ⟨g,0,none⟩) il.length a,.int .i64 (i:Nat),.slice (some ⟨l,0,none⟩) 1 1] w fun r w'=>∃V,r= .returned V/\Agu (.slice (some ⟨g,0,none⟩) il.length a) (Pb il i x) w V w':=by
 rcases h.2 with ⟨_,hn⟩ | ⟨g',U,b,e,hb,D,hc,L,k,A⟩
 ·omega
 simp only [Value.slice.injEq,Option.some.injEq,Addr.mk.injEq,and_true,true_and] at e;obtain ⟨rfl,rfl⟩:=e;have O:a<=9223372036854775807:=by unfold maxLen at L;omega
 have c:b.toList.length=a*2:=by simpa using k
 have m:(icells (il.drop i)).length=(il.length - i)*2:=by rw [Bf,List.length_drop]
 have R:b.toList.take (i*2)=icells (il.take i):=by
  rw [Kn _ _ (by omega),<-A,List.take_take];congr 1;omega
 have F:=Ej (P:=Tryz.prog) w.drew 30 30 3 51 2 g ((i+1)*2) (il.length - i) (a - (i+1)) g (i*2) (il.length+1 - i) (a - i) (il.length - i) b 51 (icells (il.drop i)) Tryz.underlying30 (by kernel_rfl) D (Nat.min_eq_right (by omega)) m (fun j u M=> Sz h i (by omega) j u M) (by rw [m,k];omega) (Ex _);rw [m,show (i+1)*2+(il.length - i)*2=(il.length+1)*2 by omega] at F;have G:(b.toList.take ((i+1)*2)++icells (il.drop i)++b.toList.drop ((il.length+1)*2)).length=a*2:=by
  simp only [List.length_append,List.length_take,List.length_drop,m,c];omega
 have t:(b.toList.take ((i+1)*2)++icells (il.drop i)++b.toList.drop ((il.length+1)*2)).take (i*2)=icells (il.take i):=by
  rw [List.append_assoc,List.take_append_of_le_length (by rw [List.length_take,c];omega),List.take_take,<-R];congr 1;omega
 have y:(b.toList.take ((i+1)*2)++icells (il.drop i)++b.toList.drop ((il.length+1)*2)).drop (i*2+2)=icells (il.drop i)++b.toList.drop ((il.length+1)*2):=by
  rw [List.append_assoc,show i*2+2=(b.toList.take ((i+1)*2)).length by rw [List.length_take,c];omega,List.drop_left]
 generalize N:b.toList.take ((i+1)*2)++icells (il.drop i)++b.toList.drop ((il.length+1)*2)=f at*;have n:=Cy (w:=w.drew) D f;have d:=Bl w.drew g f.toArray;have o:(w.drew.setRow g f.toArray).heap[l]?=some (.cells #[Value.string x.1,Value.string x.2] 51 (0,0)):=(d.block l (Array.getElem?_eq_some_iff.1 s).1 (fun e=> B (Option.some.inj e))).trans s;have C:=Up (P:=Tryz.prog) (w.drew.setRow g f.toArray) 30 30 3 51 2 g (i*2) (il.length+1 - i) (a - i) (.slice (some ⟨l,0,none⟩) 1 1) 1 f.toArray 51 [Value.string x.1,Value.string x.2] Tryz.underlying30 (by kernel_rfl) n (by omega) ⟨_,_,rfl,rfl,.inr ⟨l,0,rfl,(Array.getElem?_eq_some_iff.1 o).1,fun j u M=> by unfold World.cell?;simp only [o,Nat.zero_add];simpa using M⟩⟩ (by simp;omega) (by intro u T;simp at T;rcases T with rfl | rfl <;> rfl)
 simp only [List.length_cons,List.length_nil] at C;rw [show i*2+(0+1+1)=i*2+2 by omega,t,y] at C;have W:Hid (Agu (.slice (some ⟨g,0,none⟩) il.length a) (Pb il i x) w (.slice (some ⟨g,0,none⟩) (il.length+1) a) ((w.drew.setRow g f.toArray).setRow g (icells (il.take i)++[Value.string x.1,Value.string x.2]++(icells (il.drop i)++b.toList.drop ((il.length+1)*2))).toArray)):=by
  have p:(icells (il.take i)).length=i*2:=by rw [Bf,List.length_take];omega
  refine ⟨?_,?_,.inl rfl⟩
  ·unfold Ak;rw [Rc _ _ _ (by omega)];refine Ng (Cy n _) q L ?_ ?_ (by rw [Bf,Rc _ _ _ (by omega)])
   ·simp only [List.length_append,List.length_drop,p,m,c,List.length_cons,List.length_nil];omega
   ·rw [Xi,<-List.append_assoc,List.take_append_of_le_length (by simp only [List.length_append,p,m,List.length_cons,List.length_nil];omega),List.take_of_length_le (by simp only [List.length_append,p,m,List.length_cons,List.length_nil];omega)]
  ·have X:=Bl (w.drew.setRow g f.toArray) g (icells (il.take i)++[Value.string x.1,Value.string x.2]++(icells (il.drop i)++b.toList.drop ((il.length+1)*2))).toArray;exact Agt (⟨d.os,d.tape,d.output,d.size,d.block⟩:w.grownBy _ (some g)) X
 have eo:(callFunc 220 #[.slice (some ⟨l,0,none⟩) 1 1,.slice (some ⟨g,(i+1)*2,none⟩) (il.length - i) (a - (i+1))]).run Tryz.prog w= .ok (.value (.bool false)) w:=by
  rw [run_callFunc_extern Tryz.func220 (by kernel_rfl) (by kernel_rfl) (by kernel_rfl) (e:=Extern.SlicesOverlaps.overlaps #[30,30] #[4]) (by kernel_rfl),Lib.run_overlaps_apart w 30 4 51 Tryz.underlying30 2 (by
   intro w;obtain ⟨a0,z,a1,J,a2⟩:=info_parts Cm;simp [Go.sizeOf,typeInfo,z,J]) ⟨l,0,none⟩ ⟨g,(i+1)*2,none⟩ 1 1 _ _ B 51 51 2 (a*2) (by simp [World.shape?,s]) (by simp [World.shape?,D,k]) (by omega) (by simp [World.frozen?,s]) (by simp [World.frozen?,s])]
  rfl
 have H:=hid F;have I:=hid C;clear F C n d o t y G N R m c A k D L hb h s;have b1:i<=a:=by omega
 have b2:i<=il.length:=by omega
 have b3:i+1<=il.length+1:=by omega
 have b4:(il.length:Int)+1<=(a:Int):=by omega
 have b5:¬a=i:=by omega
 have b6:¬a=i+1:=by omega
 have b7:i<=il.length+1:=by omega
 have b8:((i:Int)==(il.length:Int))=false:=by simp;omega
 have Y:i<=il.length+1:=by omega
 have Z:(i:Int)<=(il.length:Int)+1:=by omega
 have w1:IntKind.i64.wrap ((i:Int)+1)=(i:Int)+1:=by rw [IntKind.wrap_i64];omega
 have w2:((i:Int)+1).toNat=i+1:=by omega
 have w3:(0:Int)<=(i:Int)+1:=by omega
 have w4:(i:Int)+1<=(il.length:Int)+1:=by omega
 have b9:decide ((a:Int) < (il.length:Int)+1)=false:=by simp;omega
 go_enter Tryz.func171,Tryz.ntmps171;go_upto_region 15 with fail
 go_region_law (refine Xh _ (by rfl) (.tmp 73) (.tmp 76) _ _ (by rfl) _ _ (by simp [Act.eval,Act.put]) (by simp [Act.eval,Act.put]) _ _ H.out ?_)
 all_goals
  go_wp2_with (refine Als _ (by rfl) (.tmp 80) (.tmp 81) _ _ (by rfl) _ _ (by rfl) (by rfl) _ _ I.out ?_);go_ret;have S:=W.out;simp only [List.append_assoc,List.cons_append,List.nil_append] at S;exact ⟨_,rfl,S⟩
set_option maxHeartbeats 400000 in
set_option maxRecDepth 20000 in
theorem Xj (g a:Nat) (il:List (ByteArray×ByteArray)) (i:Nat) (x:ByteArray×ByteArray) (U:Nat) (w:World) (hi:i < il.length) (a5:a < il.length+1) (h:Ak 0 w (.slice (some ⟨g,0,none⟩) il.length a) il) (hl:il.length<=20000000) (hx:w.heap[U]?=some (.cells #[.string x.1,.string x.2] 51 (0,0))):
  Calls Tryz.prog 171 #[.slice (some ⟨g,0,none⟩) il.length a,.int .i64 (i:Nat),.slice (some ⟨U,0,none⟩) 1 1] w fun r w'=>∃v',r= .returned v'/\Agu (.slice (some ⟨g,0,none⟩) il.length a) (Pb il i x) w v' w':=by
 rcases h.2 with ⟨_,hn⟩ | ⟨g',a7,b0,e,hb,hg,hc,hm,a3,a4⟩
 ·omega
 simp only [Value.slice.injEq,Option.some.injEq,Addr.mk.injEq,and_true,true_and] at e;obtain ⟨rfl,rfl⟩:=e;have a6:a<=9223372036854775807:=by unfold maxLen at hm;omega
 have s:=(Array.getElem?_eq_some_iff.1 hg).1;have I:=(Array.getElem?_eq_some_iff.1 hx).1;obtain ⟨F,y,T,G,H⟩:=info_parts Cm;have z:(icells (il.drop i)).length=(il.length - i)*2:=by rw [Bf,List.length_drop]
 have f:(icells (il.take i)).length=i*2:=by rw [Bf,List.length_take];omega
 have t:(Builtin.firstCells F.size i (.slice (some ⟨g,0,none⟩) i a)).run Tryz.prog w.drew= .ok (icells (il.take i)).toArray w.drew:=by
  have:=run_loadCells_list (P:=Tryz.prog) w.drew ⟨g,0,none⟩ (icells (il.take i)) (fun j u p=> by
   rw [Kn _ _ (by omega)] at p;have X:(icells il)[j]?=some u:=by
    rw [List.getElem?_take] at p;split at p
    ·exact p
    ·cases p
   exact World.ownsRow.cells h (g:=g) rfl _ _ X)
  rw [f] at this;simpa [Builtin.firstCells,G] using this
 have J:Builtin.nextslicecap (i+(il.length+1 - i)) a*F.bytes<=281474976710656:=growslice_fits (by omega) (by rw [H];omega);have Y:=Lib.run_append_grow_zeros (P:=Tryz.prog) w 30 3 30 51 F (.agg #[.string ⟨#[]⟩,.string ⟨#[]⟩]) .i64 .i64 Tryz.underlying30 Tryz.underlying3 y T (some ⟨g,0,none⟩) i a (icells (il.take i)) t (il.length+1 - i) (by omega) (by rw [G];omega) (by omega) (by omega) (by rw [H];omega) J;rw [show i+(il.length+1 - i)=il.length+1 by omega] at Y;have Z:=grownCap_ge w (il.length+1) a 51;have L:grownCap w (il.length+1) a 51<=maxLen:=grownCap_le_maxLen w (il.length+1) a 51 (by unfold maxLen;omega);generalize grownCap w (il.length+1) a 51=n at*;have M:=(Ko (il.length+1 - i)).1;have N:=(Ko (n - (il.length+1))).1;have A:((icells (il.take i)).toArray++Builtin.zeroCells (Value.agg #[.string ⟨#[]⟩,.string ⟨#[]⟩]).cells (il.length+1 - i)++Builtin.zeroCells (Value.agg #[.string ⟨#[]⟩,.string ⟨#[]⟩]).cells (n - (il.length+1))).toList.length=n*2:=by
  simp only [Array.length_toList,Array.size_append,List.size_toArray,f,M,N];omega
 have O:((icells (il.take i)).toArray++Builtin.zeroCells (Value.agg #[.string ⟨#[]⟩,.string ⟨#[]⟩]).cells (il.length+1 - i)++Builtin.zeroCells (Value.agg #[.string ⟨#[]⟩,.string ⟨#[]⟩]).cells (n - (il.length+1))).toList.take (i*2)=icells (il.take i):=by
  rw [Array.append_assoc,Array.toList_append,<-f,List.take_left]
 generalize (icells (il.take i)).toArray++Builtin.zeroCells (Value.agg #[.string ⟨#[]⟩,.string ⟨#[]⟩]).cells (il.length+1 - i)++Builtin.zeroCells (Value.agg #[.string ⟨#[]⟩,.string ⟨#[]⟩]).cells (n - (il.length+1))=c at*;have l:Below w.heap.size w (w.drew.alloc (.cells c 51)):=(Below.refl w.heap.size w).drew.alloc (Nat.le_refl _) _;have B:(w.drew.alloc (.cells c 51)).heap[w.heap.size]?=some (.cells c 51 (0,0)):=heap_alloc_new w.drew _;generalize w.drew.alloc (.cells c 51)=o at*;have C:=(l.block U I).trans hx;have V:=Up (P:=Tryz.prog) o 30 30 3 51 2 w.heap.size (i*2) (il.length+1 - i) (n - i) (.slice (some ⟨U,0,none⟩) 1 1) 1 c 51 [Value.string x.1,Value.string x.2] Tryz.underlying30 (by kernel_rfl) B (by omega) ⟨_,_,rfl,rfl,.inr ⟨U,0,rfl,(Array.getElem?_eq_some_iff.1 C).1,fun j u p=> by unfold World.cell?;simp only [C,Nat.zero_add];simpa using p⟩⟩ (by simp at A ⊢;omega) (by intro u hu;simp at hu;rcases hu with rfl | rfl <;> rfl)
 simp only [List.length_cons,List.length_nil] at V;rw [show i*2+(0+1+1)=i*2+2 by omega,O] at V;have R:(icells (il.take i)++[Value.string x.1,Value.string x.2]++c.toList.drop (i*2+2)).length=n*2:=by
  simp only [List.length_append,f,List.length_drop,A,List.length_cons,List.length_nil];omega
 have S:(icells (il.take i)++[Value.string x.1,Value.string x.2]++c.toList.drop (i*2+2)).take ((i+1)*2)=icells (il.take i)++[Value.string x.1,Value.string x.2]:=by
  rw [show (i+1)*2=(icells (il.take i)++[Value.string x.1,Value.string x.2]).length by simp [f];omega,List.take_left]
 generalize icells (il.take i)++[Value.string x.1,Value.string x.2]++c.toList.drop (i*2+2)=b at*;have D:=Cy B b;have d:=Bl o w.heap.size b.toArray;have m:∀(j:Nat) (u:Value),(icells (il.drop i))[j]?=some u->(o.setRow w.heap.size b.toArray).drew.cell? ⟨g,i*2+j,none⟩=some u:=fun j u p=> by
  have q:=Sz h i (by omega) j u p;rw [<-q];exact World.cell?_of_block ((d.block g (Nat.lt_of_lt_of_le s l.size) (fun e=> by have:=Option.some.inj e;omega)).trans (l.block g s))
 have W:=Ej (P:=Tryz.prog) (o.setRow w.heap.size b.toArray).drew 30 30 3 51 2 w.heap.size ((i+1)*2) (il.length - i) (n - (i+1)) g (i*2) (il.length - i) (a - i) (il.length - i) b.toArray 51 (icells (il.drop i)) Tryz.underlying30 (by kernel_rfl) D (Nat.min_self _) z m (by rw [z];simp;omega) (Ex _);rw [z,show (i+1)*2+(il.length - i)*2=(il.length+1)*2 by omega] at W;simp only [S] at W;have HQ:Hid (Agu (.slice (some ⟨g,0,none⟩) il.length a) (Pb il i x) w (.slice (some ⟨w.heap.size,0,none⟩) (il.length+1) n) ((o.setRow w.heap.size b.toArray).drew.setRow w.heap.size (icells (il.take i)++[Value.string x.1,Value.string x.2]++icells (il.drop i)++b.drop ((il.length+1)*2)).toArray)):=by
  refine ⟨?_,?_,.inr ⟨w.heap.size,Nat.le_refl _,rfl⟩⟩
  ·unfold Ak;rw [Rc _ _ _ (by omega)];refine Ng (Cy (w:=(o.setRow w.heap.size b.toArray).drew) D _) Z L ?_ ?_ (by rw [Bf,Rc _ _ _ (by omega)])
   ·simp only [List.length_append,List.length_drop,f,z,R,List.length_cons,List.length_nil];omega
   ·rw [Xi,List.take_append_of_le_length (by simp only [List.length_append,f,z,List.length_cons,List.length_nil];omega),List.take_of_length_le (by simp only [List.length_append,f,z,List.length_cons,List.length_nil];omega)]
  ·have h2:=Bl (o.setRow w.heap.size b.toArray).drew w.heap.size (icells (il.take i)++[Value.string x.1,Value.string x.2]++icells (il.drop i)++b.drop ((il.length+1)*2)).toArray;have h0:w.grownBy o (some g):=⟨l.os,l.tape,l.output,l.size,fun k hk _=> l.block k hk⟩;have h1:w.grownBy (o.setRow w.heap.size b.toArray).drew (some g):=Ack h0 ⟨d.os,d.tape,d.output,d.size,d.block⟩ (Nat.le_refl _);exact Ack h1 h2 (Nat.le_refl _)
 have a0:=hid Y;have a1:=hid V;have a2:=hid W;clear Y V W B D d m A R O S M N t J l C z f a4 a3 hg hm hb h hx L y T G H;have b1:i<=a:=by omega
 have b2:i<=il.length:=by omega
 have b5:¬a=i:=by omega
 have b6:¬n=i:=by omega
 have a8:¬n=i+1:=by omega
 have b7:i<=il.length+1:=by omega
 have b8:((i:Int)==(il.length:Int))=false:=by simp;omega
 have b9:decide ((a:Int) < (il.length:Int)+1)=true:=by simp;omega
 have a9:(i:Int)<=(il.length:Int)+1:=by omega
 have w1:IntKind.i64.wrap ((i:Int)+1)=(i:Int)+1:=by rw [IntKind.wrap_i64];omega
 have w2:((i:Int)+1).toNat=i+1:=by omega
 have w3:(0:Int)<=(i:Int)+1:=by omega
 have w4:(i:Int)+1<=(il.length:Int)+1:=by omega
 have w5:((il.length:Int)+1 - (i:Int))=((il.length+1 - i:Nat):Int):=by omega
 go_enter Tryz.func171,Tryz.ntmps171;go_upto_region 10 with (at_builtin;refine Lib.wpList_append_run w rfl (.tmp 34) (.tmp 39) 30 3 rfl (.slice (some ⟨g,0,none⟩) i a) (.int .i64 ((il.length+1 - i:Nat):Int)) rfl rfl _ _ a0.out ?_);go_upto_region 11 with (refine Als o rfl (.tmp 43) (.tmp 44) 30 30 rfl _ _ rfl rfl _ _ a1.out ?_)
 go_region_law (refine Xh _ (by rfl) (.tmp 50) (.tmp 53) _ _ (by rfl) _ _ (by simp [Act.eval,Act.put]) (by simp [Act.eval,Act.put]) _ _ a2.out ?_)
 all_goals
  go_wp2_with fail;go_ret;have hF:=HQ.out;simp only [List.append_assoc,List.cons_append,List.nil_append] at hF;exact ⟨_,rfl,hF⟩
end Go.Proofs.YtolgpnaoaodepaaGreat
namespace Go.Proofs.YtolgpnaoaodepaaGreat.Tr
def rest (l:List It) (k:Key):List It:=match l with
 | []=> []
 | x::r=> if x.1=k then r else x::r
def Lf (l:List It) (k:Key) (o:Option Key):List It:=l.takeWhile (fun x=> decide (x.1 < k))++((o.map fun v=> (k,v)).toList++rest (l.dropWhile fun x=> decide (x.1 < k)) k)
theorem Xk (l:List It) (k:Key):(rest l k).Sublist l:=by
 cases l with
 | nil=> exact List.Sublist.refl _
 | cons x r=>
  unfold rest;simp only;split
  ·exact List.sublist_cons_self _ _
  ·exact List.Sublist.refl _
theorem Apv {l:List It} {k:Key} {x:It} (h:x∈l.takeWhile fun x=> decide (x.1 < k)):x.1 < k:=by
 have:=List.all_takeWhile (p:=fun x:It=> decide (x.1 < k)) (l:=l);exact of_decide_eq_true (List.all_eq_true.1 this x h)
theorem Aqv {l:List It} (f:Bi l) {k:Key} {x:It} (h:x∈l.dropWhile fun x=> decide (x.1 < k)):¬x.1 < k:=by
 have b:=List.head?_dropWhile_not (fun x:It=> decide (x.1 < k)) l;have d:(l.dropWhile fun x=> decide (x.1 < k)) <:+l:=List.dropWhile_suffix _;have a:Bi (l.dropWhile fun x=> decide (x.1 < k)):=List.Pairwise.sublist d.sublist f;generalize (l.dropWhile fun x=> decide (x.1 < k))=D at*
 match D,h,b,a with
 | y::D,c,b,a=>
  simp at b;rcases List.mem_cons.1 c with rfl | c
  ·exact List.not_lt.2 b
  ·have:=(List.pairwise_cons.1 a).1 x c;exact fun q=> (List.not_lt.2 b) (Cz this q)
theorem Acm {l:List It} (f:Bi l) {k:Key} {x:It} (h:x∈rest (l.dropWhile fun x=> decide (x.1 < k)) k):k < x.1:=by
 have a:=fun y i=> Aqv f (k:=k) (x:=y) i
 have g:(l.dropWhile fun x=> decide (x.1 < k)) <:+l:=List.dropWhile_suffix _;have b:Bi (l.dropWhile fun x=> decide (x.1 < k)):=List.Pairwise.sublist g.sublist f;generalize (l.dropWhile fun x=> decide (x.1 < k))=D at*
 match D,h,a,b with
 | y::D,c,a,b=>
  unfold rest at c;simp only at c;split at c
  ·next e=> have:=(List.pairwise_cons.1 b).1 x c;rw [e] at this;exact this
  ·next e=>
   have d:¬x.1=k:=by
    rintro rfl;rcases List.mem_cons.1 c with rfl | c
    ·exact e rfl
    ·have:=(List.pairwise_cons.1 b).1 x c;exact a y (List.mem_cons_self ..) this
   by_cases q:k < x.1
   ·exact q
   ·exact absurd (tri _ _ (a x c) q) d
theorem Alt {l:List It} {k:Key} {o:Option Key} {x:It} (h:x∈Lf l k o):x∈l\/∃v,o=some v/\x=(k,v):=by
 unfold Lf at h;rcases List.mem_append.1 h with h | h
 ·exact .inl ((List.takeWhile_prefix _).sublist.subset h)
 ·rcases List.mem_append.1 h with h | h
  ·cases o with
   | none=> simp at h
   | some v=> simp at h;exact .inr ⟨v,rfl,h⟩
  ·exact .inl ((List.dropWhile_suffix _).sublist.subset ((Xk _ _).subset h))
theorem Ae1 {l:List It} (g:Bi l) (k:Key) (o:Option Key):Bi (Lf l k o):=by
 have i:Bi (l.takeWhile fun x=> decide (x.1 < k)):=List.Pairwise.sublist (List.takeWhile_prefix _).sublist g;have j:Bi (rest (l.dropWhile fun x=> decide (x.1 < k)) k):=List.Pairwise.sublist ((Xk _ _).trans (List.dropWhile_suffix _).sublist) g;refine List.pairwise_append.2 ⟨i,List.pairwise_append.2 ⟨?_,j,?_⟩,?_⟩
 ·cases o <;> simp
 ·intro a f b c
  cases o with
  | none=> simp at f
  | some v=> simp at f;subst f;exact Acm g c
 ·intro a f b c;have d:=Apv f;rcases List.mem_append.1 c with c | c
  ·cases o with
   | none=> simp at c
   | some v=> simp at c;subst c;exact d
  ·exact Cz d (Acm g c)
theorem Ajm {l:List It} {k a:Key} (h:a≠k):Bj (rest l k) a=Bj l a:=by
 cases l with
 | nil=> rfl
 | cons x r=>
  unfold rest;simp only;split
  ·next e=> rw [Bj,if_neg (by rw [e];exact fun q=> h q.symm)]
  ·rfl
theorem Ajn {l:List It} (d:Bi l) (k:Key) (o:Option Key) (b:Key):Bj (Lf l k o) b=if b=k then o else Bj l b:=by
 unfold Lf;rw [Es,Es];by_cases e:b=k
 ·subst e;rw [if_pos rfl,Ce (fun x a q=> by have:=Apv a;rw [q] at this;exact lt_ir _ this)]
  cases o with
  | none=> simp only [Option.map_none,Option.toList_none,Bj,Option.none_or];exact Ce fun x a q=> by have:=Acm d a;rw [q] at this;exact lt_ir _ this
  | some v=> simp [Bj]
 ·rw [if_neg e,Ajm e];have c:Bj ((o.map fun v=> (k,v)).toList) b=none:=by
   refine Ce fun x a q=> ?_
   cases o with
   | none=> simp at a
   | some v=> simp at a;subst a;exact e q.symm
  rw [c,Option.none_or,<-Es,List.takeWhile_append_dropWhile]
theorem Alu (l:List It) (k:Key) (o:Option Key):(Lf l k o).length<=l.length+1:=by
 unfold Lf;have a:(l.takeWhile fun x=> decide (x.1 < k)).length+(l.dropWhile fun x=> decide (x.1 < k)).length=l.length:=by
  rw [<-List.length_append,List.takeWhile_append_dropWhile]
 have b:=(Xk (l.dropWhile fun x=> decide (x.1 < k)) k).length_le;simp only [List.length_append];have c:((o.map fun v=> (k,v)).toList).length<=1:=by cases o <;> simp
 omega
end Go.Proofs.YtolgpnaoaodepaaGreat.Tr
namespace Go.Proofs.YtolgpnaoaodepaaGreat
open Go.RowKit
structure Mod (F:Nat->Prop) (w w':World):Prop where
 os:w'.os=w.os
 tape:w'.tape=w.tape
 output:w'.output=w.output
 size:w.heap.size<=w'.heap.size
 block:∀k,k < w.heap.size->¬F k->w'.heap[k]?=w.heap[k]?
theorem Mod.of_below {w w':World} {F:Nat->Prop} (h:Below w.heap.size w w'):Mod F w w':=⟨h.os,h.tape,h.output,h.size,fun k a _=> h.block k a⟩
theorem Mod.of_grown {w w':World} {r:Option Nat} (h:w.grownBy w' r):Mod (fun k=> r=some k) w w':=⟨h.os,h.tape,h.output,h.size,fun k b a=> h.block k b (fun e=> a e.symm)⟩
theorem Mod.trans {F G H:Nat->Prop} {a b c:World} (d:Mod F a b) (f:Mod G b c) (j:∀k,k < a.heap.size->F k->H k) (l:∀k,k < a.heap.size->G k->H k):Mod H a c:=
 ⟨f.os.trans d.os,f.tape.trans d.tape,f.output.trans d.output,Nat.le_trans d.size f.size,fun k g i=> (f.block k (Nat.lt_of_lt_of_le g d.size) (fun q=> i (l k g q))).trans (d.block k g (fun q=> i (j k g q)))⟩
theorem Mod.mono {F H:Nat->Prop} {a b:World} (h:Mod F a b) (f:∀k,k < a.heap.size->F k->H k):Mod H a b:=⟨h.os,h.tape,h.output,h.size,fun k c d=> h.block k c (fun q=> d (f k c q))⟩
theorem Mod.setCell (w:World) (p:Nat) (i:Nat) (v:Value):Mod (fun k=> k=p) w (w.setCell ⟨p,i,none⟩ v):=by
 have h:=Gn p i w v;exact ⟨h.os,h.tape,h.output,h.size,fun k b a=> h.block k b (fun e=> a (Option.some.inj e))⟩
theorem Mod.row {F:Nat->Prop} {w w':World} (h:Mod F w w') {B:Nat} {e:TypeId} {s n:Nat} {v:Value} {xs:List Value} (f:w.ownsRow B e s v n xs) (j:∀g,v.ownBlock=some g->¬F g):w'.ownsRow B e s v n xs:=
 ⟨f.1,f.2.imp_right fun ⟨g,a,b,c,i,d,q⟩=> ⟨g,a,b,c,i,(h.block g (Array.getElem?_eq_some_iff.1 d).1 (j g (by rw [c];rfl))).trans d,q⟩⟩
theorem Mod.nod {F:Nat->Prop} {w w':World} (h:Mod F w w') {p:Nat} {a vp vc:Value} (b:An w p a vp vc) (c:¬F p):An w' p a vp vc:=(h.block p b.lt c).trans b
theorem An.seti {w:World} {p:Nat} {a vp vc:Value} (h:An w p a vp vc) (u:Value):An (w.setCell ⟨p,0,none⟩ u) p u vp vc:=by unfold An at*;rw [Ad (i:=0) h];rfl
theorem An.setp {w:World} {p:Nat} {a vp vc:Value} (h:An w p a vp vc) (u:Value):An (w.setCell ⟨p,1,none⟩ u) p a u vc:=by unfold An at*;rw [Ad (i:=1) h];rfl
theorem An.setc {w:World} {p:Nat} {a vp vc:Value} (h:An w p a vp vc) (u:Value):An (w.setCell ⟨p,2,none⟩ u) p a vp u:=by unfold An at*;rw [Ad (i:=2) h];rfl
theorem Ae2 (v:Value) (il:List (ByteArray×ByteArray)) (i:Nat) (x:ByteArray×ByteArray) (c:Nat) (w:World) (hi:i<=il.length) (h:Ak 0 w v il) (d:il.length<=20000000) (f:w.heap[c]?=some (.cells #[.string x.1,.string x.2] 51 (0,0))) (j:v.ownBlock≠some c):
  Calls Tryz.prog 171 #[v,.int .i64 (i:Nat),.slice (some ⟨c,0,none⟩) 1 1] w fun r w'=>∃k,r= .returned k/\Agu v (Pb il i x) w k w':=by
 by_cases m:i=il.length
 ·subst m;exact Aa8 v il x c w h d f
 ·have h0:=h;rcases h.2 with ⟨_,n⟩ | ⟨g,a,l,rfl,_⟩
  ·omega
  ·by_cases b:il.length+1<=a
   ·exact Acl g a il i x c w (by omega) b h0 d f (fun e=> j (by rw [e];rfl))
   ·exact Xj g a il i x c w (by omega) (by omega) h0 d f
def ST (w:World) (x b:Nat):Prop:=w.heap[x]?=some (.cells #[.int .i32 0,.int .u32 0,.pointer (some ⟨b,0,none⟩)] 95 (0,0))
def SL (w:World) (x b:Nat):Prop:=w.heap[x]?=some (.cells #[.int .i32 1,.int .u32 0,.pointer (some ⟨b,0,none⟩)] 95 (0,0))
theorem ST.lt {w:World} {x b:Nat} (h:ST w x b):x < w.heap.size:=(Array.getElem?_eq_some_iff.1 h).1
theorem SL.lt {w:World} {x b:Nat} (h:SL w x b):x < w.heap.size:=(Array.getElem?_eq_some_iff.1 h).1
theorem ST.cells {w:World} {x b:Nat} (h:ST w x b):w.cell? ⟨x,0,none⟩=some (.int .i32 0)/\w.cell? ⟨x,2,none⟩=some (.pointer (some ⟨b,0,none⟩))/\∀i,w.frozen? ⟨x,i,none⟩=false:=by
 unfold ST at h;refine ⟨?_,?_,fun i=> ?_⟩ <;> simp [World.cell?,World.frozen?,h]
theorem SL.cells {w:World} {x b:Nat} (h:SL w x b):w.cell? ⟨x,0,none⟩=some (.int .i32 1)/\w.cell? ⟨x,2,none⟩=some (.pointer (some ⟨b,0,none⟩))/\∀i,w.frozen? ⟨x,i,none⟩=false:=by
 unfold SL at h;refine ⟨?_,?_,fun i=> ?_⟩ <;> simp [World.cell?,World.frozen?,h]
theorem ST.lock {w:World} {x b:Nat} (h:ST w x b):SL (w.setCell ⟨x,0,none⟩ (.int .i32 1)) x b:=by unfold SL;rw [Ad (i:=0) h];rfl
theorem SL.unlock {w:World} {x b:Nat} (h:SL w x b):ST (w.setCell ⟨x,0,none⟩ (.int .i32 0)) x b:=by unfold ST;rw [Ad (i:=0) h];rfl
theorem SL.keep {w w':World} {F:Nat->Prop} {x b:Nat} (h:SL w x b) (a:Mod F w w') (c:¬F x):SL w' x b:=(a.block x h.lt c).trans h
theorem Ae3 {F:Nat->Prop} {w f:World} {x b:Nat} (h:ST w x b) (a:Mod F (w.setCell ⟨x,0,none⟩ (.int .i32 1)) f) (o:¬F x):Mod F w (f.setCell ⟨x,0,none⟩ (.int .i32 0))/\ST (f.setCell ⟨x,0,none⟩ (.int .i32 0)) x b:=by
 have c:=Mod.setCell w x 0 (.int .i32 1);have d:=Mod.setCell f x 0 (.int .i32 0);have j:SL f x b:=h.lock.keep a o;have i:=j.unlock;have k:=c.size;have l:=a.size;refine ⟨⟨d.os.trans (a.os.trans c.os),d.tape.trans (a.tape.trans c.tape),d.output.trans (a.output.trans c.output),Nat.le_trans (Nat.le_trans k l) d.size,fun g m n=> ?_⟩,i⟩;by_cases e:g=x
 ·rw [e];exact i.trans h.symm
 ·exact (d.block g (by omega) e).trans ((a.block g (by omega) n).trans (c.block g m e))
theorem Pz {w a:World} {x b:Nat} (h:ST w x b) (d:Below (w.setCell ⟨x,0,none⟩ (.int .i32 1)).heap.size (w.setCell ⟨x,0,none⟩ (.int .i32 1)) a):Below w.heap.size w (a.setCell ⟨x,0,none⟩ (.int .i32 0)):=by
 obtain ⟨m,-⟩:=Ae3 (F:=fun _=> False) h (Mod.of_below d) (fun q=> q);exact ⟨m.os,m.tape,m.output,m.size,fun g c=> m.block g c (fun q=> q)⟩
end Go.Proofs.YtolgpnaoaodepaaGreat
