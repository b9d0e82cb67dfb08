import Derived.Test.YtolgpnaoaodepaaGreatMathHm
import Derived.Test.YtolgpnaoaodepaaGreatGenm
import Derived.Laws.AppendOwnNone
import Derived.Deep.DeepCutAuto
import Derived.Laws.CopyOwn
import Derived.Lib.AppendZeros
import Derived.Lib.BufferMore
import Derived.Lib.BufferWrite
import Derived.Lib.ConvBytes
import Derived.Lib.Overlaps
import Derived.Lib.UnsafeStr
import Derived.RegionDies
import Derived.Lib.AppendZerosOnto
namespace Go.Proofs.YtolgpnaoaodepaaGreat
open Go.RowKit
def cutA (il:List (ByteArray×ByteArray)) (key:ByteArray):List (ByteArray×ByteArray):=il.takeWhile fun x=> decide (x.1.data.toList < key.data.toList)
def cutC (il:List (ByteArray×ByteArray)) (key:ByteArray):List (ByteArray×ByteArray):=il.dropWhile fun x=> decide (x.1.data.toList < key.data.toList)
theorem Parted.cut {il A C:List (ByteArray×ByteArray)} {key:ByteArray} (h:Parted il A C key):A=cutA il key∧C=cutC il key:=by
 obtain ⟨rfl,c,a⟩:=h
 unfold cutA cutC
 have b:∀x∈A,decide (x.1.data.toList < key.data.toList)=true:=fun x d=> decide_eq_true (c x d)
 rw [List.takeWhile_append_of_pos b,List.dropWhile_append_of_pos b]
 match C,a with
 | [],_=> simp
 | x::r,a=>
  have:decide (x.1.data.toList < key.data.toList)=false:=decide_eq_false (a x (List.mem_cons_self ..))
  rw [List.takeWhile_cons,List.dropWhile_cons,this]
  simp
theorem cut_parted (il:List (ByteArray×ByteArray)) (key:ByteArray) (e:Tr.Rising (plain il)):Parted il (cutA il key) (cutC il key) key:=by
 refine ⟨(List.takeWhile_append_dropWhile).symm,fun x a=> ?_,fun x a=> ?_⟩
 ·have:=List.all_takeWhile (p:=fun x:ByteArray×ByteArray=> decide (x.1.data.toList < key.data.toList)) (l:=il)
  exact of_decide_eq_true (List.all_eq_true.1 this x a)
 ·have c:=List.head?_dropWhile_not (fun x:ByteArray×ByteArray=> decide (x.1.data.toList < key.data.toList)) il
  unfold cutC at a
  have d:(il.dropWhile fun x:ByteArray×ByteArray=> decide (x.1.data.toList < key.data.toList)) <:+il:=List.dropWhile_suffix _
  have b:Tr.Rising (plain (il.dropWhile fun x:ByteArray×ByteArray=> decide (x.1.data.toList < key.data.toList))):=by
   unfold Tr.Rising plain at*
   exact List.Pairwise.sublist (d.sublist.map _) e
  generalize (il.dropWhile fun x:ByteArray×ByteArray=> decide (x.1.data.toList < key.data.toList))=D at*
  match D,a,c,b with
  | y::D,a,c,b=>
   simp at c
   rcases List.mem_cons.1 a with rfl | a
   ·exact List.not_lt.2 c
   ·have:=(List.pairwise_cons.1 b).1 (x.1.data.toList,x.2.data.toList) (List.mem_map.2 ⟨x,a,rfl⟩)
    exact fun q=> (List.not_lt.2 c) (Tr.lt_tr this q)
def headVal (C:List (ByteArray×ByteArray)) (key:ByteArray):Option (List UInt8):=match C with
 | []=> none
 | x::_=> if x.1.data.toList=key.data.toList then some x.2.data.toList else none
theorem look_cut {il A C:List (ByteArray×ByteArray)} {key:ByteArray} (h:Parted il A C key) (b:Tr.Rising (plain il)):Tr.look (plain il) key.data.toList=headVal C key:=by
 obtain ⟨rfl,l,d⟩:=h
 have f:plain (A++C)=plain A++plain C:=by simp [plain]
 rw [f,Tr.look_append,Tr.look_none]
 ·match C,d,b with
  | [],_,_=> rfl
  | x::r,d,b=>
   show (Tr.look ((x.1.data.toList,x.2.data.toList)::plain r) key.data.toList)=_
   unfold headVal
   by_cases q:x.1.data.toList=key.data.toList
   ·simp only
    rw [Tr.look,if_pos q,if_pos q]
   ·simp only
    rw [Tr.look,if_neg q,if_neg q,Tr.look_none]
    intro y a e
    obtain ⟨z,i,rfl⟩:=List.mem_map.1 a
    rw [f] at b
    have j:=(List.pairwise_append.1 b).2.1
    have g:=(List.pairwise_cons.1 j).1 _ a
    have k:¬x.1.data.toList < key.data.toList:=d x (List.mem_cons_self ..)
    have c:z.1.data.toList=key.data.toList:=e
    simp only [c] at g
    exact k g
 ·intro y a e
  obtain ⟨z,i,rfl⟩:=List.mem_map.1 a
  have:=l z i
  have c:z.1.data.toList=key.data.toList:=e
  rw [c] at this
  exact Tr.lt_ir _ this
set_option maxHeartbeats 1000000 in
theorem findItem_any (p B:Nat) (a vp vc:Value) (il:List (ByteArray×ByteArray)) (key:ByteArray) (w:World) (h:NodT w p a vp vc) (f:OwnsI B w a il) (m:il.length≤1000000000) (g:Tr.Rising (plain il)):
  Calls Tryz.prog 138 #[.pointer (some ⟨p,0,none⟩),.string key] w fun r w'=> r= .returned (.tuple #[.int .i64 ((cutA il key).length:Nat),.bool (headIs (cutC il key) key)])∧Below w.heap.size w w':=by
 obtain ⟨j,k,l,-⟩:=h.cells
 have b:=hid (search_any B a il key w f m g)
 clear f g h
 go_enter Tryz.func138,Tryz.ntmps138
 go_wp2_with fail
 refine b.out.mono ?_
 rintro r n ⟨⟨A,C,d,rfl⟩,e⟩
 have i:=hid e
 have c:=hid d.cut
 clear d e b j k l
 go_wp2_with fail
 go_ret2
 exact ⟨by rw [←c.out.1,←c.out.2];rfl,i.out⟩
def StB (w:World) (b:Nat) (v:ByteArray) (t:Bool):Prop:=w.heap[b]?=some (.cells #[.string v,.bool t] 136 (0,0))
theorem StB.lt {w:World} {b:Nat} {v:ByteArray} {t:Bool} (h:StB w b v t):b < w.heap.size:=(Array.getElem?_eq_some_iff.1 h).1
theorem StB.cells {w:World} {b:Nat} {v:ByteArray} {t:Bool} (h:StB w b v t):w.cell? ⟨b,0,none⟩=some (.string v)∧w.cell? ⟨b,1,none⟩=some (.bool t)∧w.frozen? ⟨b,0,none⟩=false∧w.frozen? ⟨b,1,none⟩=false:=by
 unfold StB at h
 refine ⟨?_,?_,?_,?_⟩ <;> simp [World.cell?,World.frozen?,h]
theorem StB.put {w:World} {b:Nat} {v:ByteArray} {t:Bool} (h:StB w b v t) (a:ByteArray) (c:Bool):StB ((w.setCell ⟨b,0,none⟩ (.string a)).setCell ⟨b,1,none⟩ (.bool c)) b a c:=by
 have d:(w.setCell ⟨b,0,none⟩ (.string a)).heap[b]?=some (.cells #[.string a,.bool t] 136 (0,0)):=by unfold StB at h;rw [heap_setCell_at (i:=0) h];rfl
 unfold StB;rw [heap_setCell_at (i:=1) d];rfl
set_option maxHeartbeats 1000000 in
set_option maxRecDepth 20000 in
theorem stateOf_any (p B:Nat) (u vp vc:Value) (il:List (ByteArray×ByteArray)) (key:ByteArray) (w:World) (h:NodT w p u vp vc) (L:OwnsI B w u il) (T:il.length≤1000000000) (y:Tr.Rising (plain il)):
  Calls Tryz.prog 78 #[.pointer (some ⟨p,0,none⟩),.string key] w fun r w'=> r= .returned (.agg #[.string (stV (Tr.look (plain il) key.data.toList)),.bool (stB (Tr.look (plain il) key.data.toList))])∧Below w.heap.size w w':=by
 have z:=hid (cut_parted il key y)
 rw [look_cut z.out y]
 have a:=hid ((Below.refl w.heap.size w).alloc (Nat.le_refl _) (.cells #[.string ⟨#[]⟩,.bool false] 136))
 have M:=hid (findItem_any p B u vp vc il key (w.alloc (.cells #[.string ⟨#[]⟩,.bool false] 136)) ((a.out.block p h.lt).trans h) (row_below L a.out (Nat.le_refl _)) T y)
 have C:=hid ((a.out.block p h.lt).trans h)
 have N:=hid (row_below L a.out (Nat.le_refl _))
 have E:Hid (StB (w.alloc (.cells #[.string ⟨#[]⟩,.bool false] 136)) w.heap.size ⟨#[]⟩ false):=heap_alloc_new _ _
 clear h L y
 go_enter Tryz.func78,Tryz.ntmps78
 go_wp2_with fail
 refine M.out.mono ?_
 generalize w.alloc (.cells #[.string ⟨#[]⟩,.bool false] 136)=w0 at*
 rintro r n ⟨rfl,b⟩
 have F:Hid (NodT n p u vp vc):=(b.block p (Array.getElem?_eq_some_iff.1 C.out).1).trans C.out
 have G:Hid (OwnsI B n u il):=row_below N.out b (Nat.le_refl _)
 have c:Hid (StB n w.heap.size ⟨#[]⟩ false):=(b.block _ E.out.lt).trans E.out
 have i:=hid (a.out.trans (b.mono a.out.size))
 clear b C N E a M
 have d:=z.out.e
 clear z
 have f:headIs (cutC il key) key=false∧headVal (cutC il key) key=none∨headIs (cutC il key) key=true∧∃x D,cutC il key=x::D∧headVal (cutC il key) key=some x.2.data.toList:=by
  cases K:cutC il key with
  | nil=> exact .inl ⟨rfl,rfl⟩
  | cons x D=>
   by_cases q:x.1.data.toList=key.data.toList
   ·exact .inr ⟨decide_eq_true q,x,D,rfl,by unfold headVal;simp only;rw [if_pos q]⟩
   ·exact .inl ⟨decide_eq_false q,by unfold headVal;simp only;rw [if_neg q]⟩
 generalize cutA il key=A at*
 obtain ⟨U,V,W,-⟩:=F.out.cells
 obtain ⟨X,Y,Z,s1⟩:=c.out.cells
 have j:∀(v:ByteArray) (t:Bool),Below w.heap.size w ((n.setCell ⟨w.heap.size,0,none⟩ (.string v)).setCell ⟨w.heap.size,1,none⟩ (.bool t)):=fun v t=> (i.out.setCell (p:=⟨w.heap.size,0,none⟩) (Nat.le_refl _) (.string v)).setCell (p:=⟨w.heap.size,1,none⟩) (Nat.le_refl _) (.bool t)
 have k:=hid j
 clear j
 have l:Hid (∀(v:ByteArray) (t:Bool),StB ((n.setCell ⟨w.heap.size,0,none⟩ (.string v)).setCell ⟨w.heap.size,1,none⟩ (.bool t)) w.heap.size v t):=fun v t=> c.out.put v t
 clear c i
 rcases f with ⟨o,s⟩ | ⟨o,x,D,K,s⟩
 ·rw [o]
  have H:=hid s
  clear o s
  obtain ⟨I,J,-⟩:=(l.out ⟨#[]⟩ false).cells
  go_wp2_with fail
  refine bodyPost_ret (v:= .agg #[.string ⟨#[]⟩,.bool false]) ?_ rfl ⟨by rw [H.out];rfl,k.out _ _⟩
  simp [results,Tryz.results78,go_sem,I,J]
 ·rw [o]
  have H:=hid s
  clear o s
  rw [K] at d
  clear K
  have m:A.length < il.length:=by rw [d];simp
  obtain ⟨g,P,e,hc,Q,hg,R,S⟩:=G.out.at A.length m
  have O:il[A.length]'m=x:=by simp [d]
  rw [O] at R S
  subst e
  clear O
  obtain ⟨I,J,-⟩:=(l.out x.2 true).cells
  go_wp2_with fail
  refine bodyPost_ret (v:= .agg #[.string x.2,.bool true]) ?_ rfl ⟨by rw [H.out];rfl,k.out _ _⟩
  simp [results,Tryz.results78,go_sem,I,J]
end Go.Proofs.YtolgpnaoaodepaaGreat
namespace Go.Proofs.YtolgpnaoaodepaaGreat
open Go.RowKit
def Src (size:Nat) (w:World) (v:Value) (n:Nat) (cs:List Value):Prop:=∃a cap,v= .slice a n cap∧cs.length=n*size∧(n=0∨∃b off,a=some ⟨b,off,none⟩∧b < w.heap.size∧∀(j:Nat) (u:Value),cs[j]?=some u→w.cell? ⟨b,off+j,none⟩=some u)
theorem off_add (g o j:Nat):(⟨g,o,none⟩:Addr).add j=⟨g,o+j,none⟩:=by unfold Addr.add;split <;> simp_all
theorem icells_len2:∀l:List (ByteArray×ByteArray),(icells l).length=l.length*2
 | []=> rfl
 | x::r=> by
  show ([Value.string x.1,Value.string x.2]++icells r).length=_
  rw [List.length_append,icells_len2 r];simp;omega
theorem one_icells:∀(l:List (ByteArray×ByteArray)),∀v∈icells l,v.oneCell'=true
 | [],v,h=> by cases h
 | x::r,v,h=> by
  have a:v∈[Value.string x.1,Value.string x.2]++icells r:=h
  rcases List.mem_append.1 a with h | h
  ·simp at h;rcases h with rfl | rfl <;> rfl
  ·exact one_icells r v h
theorem one_ccells:∀(l:List (Int×ByteArray×ByteArray)),∀v∈ccells l,v.oneCell'=true
 | [],v,h=> by cases h
 | x::r,v,h=> by
  have a:v∈[Value.int .i64 x.1,Value.string x.2.1,Value.string x.2.2]++ccells r:=h
  rcases List.mem_append.1 a with h | h
  ·simp at h;rcases h with rfl | rfl | rfl <;> rfl
  ·exact one_ccells r v h
theorem row_shrink {B C:Nat} {w:World} {v:Value} {T:TypeId} {s n:Nat} {xs:List Value} (h:w.ownsRow B T s v n xs) (f:C≤B):w.ownsRow C T s v n xs:=by
 refine ⟨h.1,?_⟩
 rcases h.2 with d | ⟨g,a,b,e,c,r⟩
 ·exact .inl d
 ·exact .inr ⟨g,a,b,e,Nat.le_trans f c,r⟩
theorem row_zero {B:Nat} {w:World} {v:Value} {T:TypeId} {s n:Nat} {xs:List Value} (h:w.ownsRow B T s v n xs):w.ownsRow 0 T s v n xs:=by
 refine ⟨h.1,?_⟩
 rcases h.2 with q | ⟨g,a,b,e,_,q⟩
 ·exact .inl q
 ·exact .inr ⟨g,a,b,e,Nat.zero_le _,q⟩
theorem row_same {B:Nat} {e:TypeId} {d n:Nat} {v:Value} {xs:List Value} {w w':World} (h:w.ownsRow B e d v n xs) (i:∀g,v.ownBlock=some g→g < w.heap.size→w'.heap[g]?=w.heap[g]?):w'.ownsRow B e d v n xs:=by
 refine ⟨h.1,?_⟩
 rcases h.2 with q | ⟨g,a,b,rfl,f,c,q⟩
 ·exact .inl q
 ·exact .inr ⟨g,a,b,rfl,f,(i g rfl (Array.getElem?_eq_some_iff.1 c).1).trans c,q⟩
theorem row_store {B:Nat} {e:TypeId} {d g a n:Nat} {xs:List Value} {w:World} (h:w.ownsRow B e d (.slice (some ⟨g,0,none⟩) n a) n xs) (i:Nat) (u:Value):(w.setCell ⟨g,i,none⟩ u).ownsRow B e d (.slice (some ⟨g,0,none⟩) n a) n (xs.set i u):=by
 rcases h.2 with ⟨h0,_⟩ | ⟨q,b,f,c,j,k,l,m,o,p⟩
 ·simp at h0
 ·simp only [Value.slice.injEq,Option.some.injEq,Addr.mk.injEq,and_true,true_and] at c
  obtain ⟨rfl,rfl⟩:=c
  refine ⟨by simpa using h.1,.inr ⟨g,a,_,rfl,j,heap_setCell_at k u,l,m,by simpa using o,?_⟩⟩
  rw [Array.toList_setIfInBounds,List.take_set,p]
theorem rowsE_apart {B t:Nat} {e i:TypeId} {s u n x:Nat} {v j:Value} {xs b:List Value} {w:World} (h:w.ownsRow B e s v n xs) (y:w.ownsRow t i u j x b) (c:e≠i) (g:Nat) (q:v.ownBlock=some g) (l:j.ownBlock=some g):False:=by
 rcases h.2 with ⟨rfl,-⟩ | ⟨k,m,o,rfl,-,p,-⟩
 ·simp [Value.ownBlock] at q
 ·rcases y.2 with ⟨rfl,-⟩ | ⟨r,d,f,rfl,-,a,-⟩
  ·simp [Value.ownBlock] at l
  ·obtain rfl:k=g:=Option.some.inj q
   obtain rfl:r=k:=Option.some.inj l
   rw [p] at a
   simp only [Option.some.injEq,Obj.cells.injEq] at a
   exact c a.2.1
theorem info_rowI:(Tryz.prog.info? 30).map (fun i=> (i.zero,i.size,i.bytes))=some (some (.slice none 0 0),1,24):=by kernel_rfl
theorem plain_app (l r:List (ByteArray×ByteArray)):plain (l++r)=plain l++plain r:=by simp [plain]
theorem icells_len (l:List (ByteArray×ByteArray)):(icells l).length=l.length*2:=by
 induction l with
 | nil=> rfl
 | cons x r ih=> rw [show icells (x::r)= .string x.1:: .string x.2::icells r from rfl,List.length_cons,List.length_cons,List.length_cons,ih];omega
theorem icells_one (l:List (ByteArray×ByteArray)):∀u∈icells l,u.oneCell'=true:=by
 intro u b
 unfold icells at b
 obtain ⟨x,_,a⟩:=List.mem_flatMap.1 b
 simp at a
 rcases a with rfl | rfl <;> rfl
theorem icells_app (l r:List (ByteArray×ByteArray)):icells (l++r)=icells l++icells r:=by simp [icells]
theorem wpApI2 (w:World) {g:Array Oper} {rest:List Oper} {o:Oper} {a:Act} {Q:Exit→Act→World→Prop} (m:o.guard=none) (q x:Operand)
  (C:o.op=Op.call {callee:=Callee.builtin Builtin.append,args:= #[q,x],argTypes:= #[30,30]}) (B:Nat) (v:Value) (l:List (ByteArray×ByteArray)) (D:a.eval q=v) (b:OwnsI B w v l)
  (A:Value) (c:List (ByteArray×ByteArray)) (E:a.eval x=A) (n:(A= .slice none 0 0∧c=[])∨∃p d,A= .slice (some p) c.length d∧∀j u,(icells c)[j]?=some u→w.cell? (p.add j)=some u) (I:l.length+c.length≤1000000000) (H:B≤w.heap.size)
  (h:∀(f:Value) (w':World),OwnsI B w' f (l++c)→w.grownBy w' v.ownBlock→(f.ownBlock=v.ownBlock∨∃k,w.heap.size≤k∧f.ownBlock=some k)→wpList Tryz.prog g Q rest (a.put o.dst f) w'):wpList Tryz.prog g Q (o::rest) a w:=by
 obtain ⟨i,hi,r,s,t⟩:=info_parts info_item
 rcases n with ⟨rfl,rfl⟩ | ⟨p,d,rfl,G⟩
 ·refine wpList_append_own_none m q x 30 C B 51 i 2 Tryz.underlying30 hi v l.length (icells l) D b E ?_
  exact h v w (by rw [List.append_nil];exact b) ⟨rfl,rfl,rfl,Nat.le_refl _,fun _ _ _=> rfl⟩ (.inl rfl)
 ·refine wpList_append_own_at w m q x 30 C B 51 i (.agg #[.string ⟨#[]⟩,.string ⟨#[]⟩]) 2 32 Tryz.underlying30 hi r s t rfl (by decide) v l.length (icells l) D b p c.length d (icells c) E (icells_len c) G (icells_one c) (by unfold maxLen;omega) (by omega) H ?_
  intro f w' y F _ z
  refine h f w' ?_ F (z.imp_right fun e=> ⟨w.heap.size,Nat.le_refl _,e⟩)
  unfold OwnsI
  rw [List.length_append,icells_app]
  exact y
end Go.Proofs.YtolgpnaoaodepaaGreat
namespace Go.Proofs.YtolgpnaoaodepaaGreat
open Go.RowKit
section
variable {P:Program}
theorem run_copy_at (w:World) (A I J f:TypeId) (size:Nat) (g o h p:Nat) (v:Value) (n:Nat) (c:Array Value) (t:TypeId) (k:List Value)
  (z:P.underlying A=some (.slice f)) (B:(P.info? f).map (·.size)=some size)
  (C:w.heap[g]?=some (.cells c t (0,0))) (K:n≤h) (q:Src size w v n k) (r:o+k.length≤c.size) (L:∀v∈k,v.oneCell'=true):
  (Builtin.copy_ #[A,I] J #[.slice (some ⟨g,o,none⟩) h p,v]).run P w= .ok (goInt n) (w.setRow g (c.toList.take o++k++c.toList.drop (o+k.length)).toArray):=by
 obtain ⟨a,D,rfl,E,F⟩:=q
 have l:Nat.min n h=n:=Nat.min_eq_left K
 have s:=run_storeCells_at P g o t k 0 c w C (by simpa using r) L
 cases m:P.info? f with
 | none=> simp [m] at B
 | some i=>
  have hi:i.size=size:=by simpa [m] using B
  rcases F with rfl | ⟨b,x,rfl,G,H⟩
  ·obtain rfl:k=[]:=List.eq_nil_of_length_eq_zero (by omega)
   have e:=setRow_self w g c t (0,0) C
   cases a with
   | none=> simp [Builtin.copy_,run_underlying z,Builtin.lenOf,Builtin.firstCells,sizeOf,typeInfo,m,storeCells,e]
   | some ad=>
    have d:=run_loadCells_list (P:=P) w ad [] (fun j u y=> by simp at y)
    simp at d
    simp [Builtin.copy_,run_underlying z,Builtin.lenOf,Builtin.firstCells,sizeOf,typeInfo,m,d,storeCells,e]
  ·have d:=run_loadCells_list (P:=P) w ⟨b,x,none⟩ k (fun j u y=> by rw [off_add];exact H j u y)
   rw [E] at d
   simp [Builtin.copy_,run_underlying z,Builtin.lenOf,Builtin.firstCells,sizeOf,typeInfo,m,hi,l,d,s]
theorem run_copy_min (w:World) (x A B a:TypeId) (size:Nat) (g o d l:Nat) (b h e m:Nat) (n:Nat) (c:Array Value) (t:TypeId) (f:List Value)
  (C:P.underlying x=some (.slice a)) (y:(P.info? a).map (·.size)=some size)
  (D:w.heap[g]?=some (.cells c t (0,0))) (p:Nat.min e d=n) (E:f.length=n*size) (F:∀(j:Nat) (u:Value),f[j]?=some u→w.cell? ⟨b,h+j,none⟩=some u) (q:o+f.length≤c.size) (G:∀v∈f,v.oneCell'=true):
  (Builtin.copy_ #[x,A] B #[.slice (some ⟨g,o,none⟩) d l,.slice (some ⟨b,h,none⟩) e m]).run P w= .ok (goInt n) (w.setRow g (c.toList.take o++f++c.toList.drop (o+f.length)).toArray):=by
 have r:=run_storeCells_at P g o t f 0 c w D (by simpa using q) G
 cases s:P.info? a with
 | none=> simp [s] at y
 | some i=>
  have hi:i.size=size:=by simpa [s] using y
  have k:=run_loadCells_list (P:=P) w ⟨b,h,none⟩ f (fun j u z=> by rw [off_add];exact F j u z)
  rw [E] at k
  simp [Builtin.copy_,run_underlying C,Builtin.lenOf,Builtin.firstCells,sizeOf,typeInfo,s,hi,p,k,r]
theorem run_clear_at (w:World) (t l d:TypeId) (z:Value) (size:Nat) (g o n c:Nat) (a:Array Value) (i:TypeId)
  (j:P.underlying t=some (.slice d)) (m:∀w,(Go.zeroValue d).run P w= .ok z w) (e:(Builtin.zeroCells z.cells n).size=n*size) (p:∀v∈(Builtin.zeroCells z.cells n).toList,v.oneCell'=true)
  (k:w.heap[g]?=some (.cells a i (0,0))) (f:o+n*size≤a.size):
  (Builtin.clear_ #[t] l #[.slice (some ⟨g,o,none⟩) n c]).run P w= .ok (.tuple #[]) (w.setRow g (a.toList.take o++(Builtin.zeroCells z.cells n).toList++a.toList.drop (o+n*size)).toArray):=by
 have b:=run_storeCells_at P g o i (Builtin.zeroCells z.cells n).toList 0 a w k (by rw [Array.length_toList,e];simpa using f) p
 rw [Array.length_toList,e,Nat.add_zero] at b
 match n,b with
 | 0,b=>
  have h:(Builtin.zeroCells z.cells 0).toList=[]:=by
   have:=e
   simp at this
   exact List.eq_nil_of_length_eq_zero (by rw [Array.length_toList];simp [Builtin.zeroCells])
  rw [h]
  simp [Builtin.clear_,run_underlying j,setRow_self w g a i (0,0) k]
 | n+1,b=> simp [Builtin.clear_,run_underlying j,m,b]
end
theorem setRow_at {w:World} {g:Nat} {b:Array Value} {e:TypeId} (h:w.heap[g]?=some (.cells b e (0,0))) (l:List Value):(w.setRow g l.toArray).heap[g]?=some (.cells l.toArray e (0,0)):=setRow_heap w g b _ e (0,0) h
theorem setRow_grown (w:World) (g:Nat) (b:Array Value):w.grownBy (w.setRow g b) (some g):=by
 refine ⟨rfl,rfl,rfl,by simp [World.setRow],fun k c a=> ?_⟩
 have:g≠k:=fun e=> a (by rw [e])
 simp [World.setRow,Array.getElem?_modify,this]
end Go.Proofs.YtolgpnaoaodepaaGreat
namespace Go.Proofs.YtolgpnaoaodepaaGreat
open Go.RowKit
section
variable {P:Program}
theorem stepAp (w:World) {b:Array Oper} {o:Oper} {a:Act} {K:Act→World→Prop} {Q:Exit→Act→World→Prop} {E:Prop} (c:o.guard=none) (s x:Operand) (t d:TypeId)
  (g:o.op=Op.call {callee:=Callee.builtin Builtin.append,args:= #[s,x],argTypes:= #[t,d]}) (v u:Value) (i:a.eval s=v) (j:a.eval x=u) (e:Value) (w':World)
  (k:(Builtin.append_ #[t,d] o.type #[v,u]).run P w= .ok e w') (h:K (a.put o.dst e) w'):if Region.wanted o (yielded b a.tmps)=true then Oper.wp P o a w K Q else E:=by
 have f:Region.wanted o (yielded b a.tmps)=true:=by simp [Region.wanted,c]
 rw [if_pos f]
 unfold Oper.wp
 simp [execOp,g,resolve,invoke,builtin,i,j,k,Result.andThen]
 exact h
theorem stepCp (w:World) {b:Array Oper} {o:Oper} {a:Act} {K:Act→World→Prop} {Q:Exit→Act→World→Prop} {E:Prop} (c:o.guard=none) (s x:Operand) (t d:TypeId)
  (g:o.op=Op.call {callee:=Callee.builtin Builtin.copy,args:= #[s,x],argTypes:= #[t,d]}) (v u:Value) (i:a.eval s=v) (j:a.eval x=u) (e:Value) (w':World)
  (k:(Builtin.copy_ #[t,d] o.type #[v,u]).run P w= .ok e w') (h:K (a.put o.dst e) w'):if Region.wanted o (yielded b a.tmps)=true then Oper.wp P o a w K Q else E:=by
 have f:Region.wanted o (yielded b a.tmps)=true:=by simp [Region.wanted,c]
 rw [if_pos f]
 unfold Oper.wp
 simp [execOp,g,resolve,invoke,builtin,i,j,k,Result.andThen]
 exact h
theorem wpCp (w:World) {b:Array Oper} {rest:List Oper} {o:Oper} {a:Act} {Q:Exit→Act→World→Prop} (c:o.guard=none) (s x:Operand) (t d:TypeId)
  (g:o.op=Op.call {callee:=Callee.builtin Builtin.copy,args:= #[s,x],argTypes:= #[t,d]}) (v u:Value) (i:a.eval s=v) (j:a.eval x=u) (e:Value) (w':World)
  (k:(Builtin.copy_ #[t,d] o.type #[v,u]).run P w= .ok e w') (h:wpList P b Q rest (a.put o.dst e) w'):wpList P b Q (o::rest) a w:=by
 refine wpList_plain c fun K f=> ?_
 unfold Oper.wp
 simp [execOp,g,resolve,invoke,builtin,i,j,k,Result.andThen]
 exact f _ _ h
theorem wpCl (w:World) {b:Array Oper} {rest:List Oper} {o:Oper} {a:Act} {Q:Exit→Act→World→Prop} (c:o.guard=none) (s:Operand) (t:TypeId)
  (f:o.op=Op.call {callee:=Callee.builtin Builtin.clear,args:= #[s],argTypes:= #[t]}) (v:Value) (g:a.eval s=v) (d:Value) (w':World)
  (i:(Builtin.clear_ #[t] o.type #[v]).run P w= .ok d w') (h:wpList P b Q rest (a.put o.dst d) w'):wpList P b Q (o::rest) a w:=by
 refine wpList_plain c fun K e=> ?_
 unfold Oper.wp
 simp [execOp,f,resolve,invoke,builtin,g,i,Result.andThen]
 exact e _ _ h
end
theorem row_of {w:World} {g a n size:Nat} {e:TypeId} {b xs:List Value} (c:w.heap[g]?=some (.cells b.toArray e (0,0))) (d:n≤a) (f:a≤maxLen) (h:b.length=a*size) (i:b.take (n*size)=xs) (j:xs.length=n*size):w.ownsRow 0 e size (.slice (some ⟨g,0,none⟩) n a) n xs:=
 ⟨j,.inr ⟨g,a,b.toArray,rfl,Nat.zero_le _,c,d,f,by simpa using h,by simpa using i⟩⟩
theorem icells_append:∀a b:List (ByteArray×ByteArray),icells (a++b)=icells a++icells b
 | [],_=> rfl
 | x::r,b=> by
  show [Value.string x.1,Value.string x.2]++icells (r++b)=([Value.string x.1,Value.string x.2]++icells r)++icells b
  rw [icells_append r b,List.append_assoc]
theorem icells_drop (l:List (ByteArray×ByteArray)) (i:Nat) (hi:i≤l.length):icells (l.drop i)=(icells l).drop (i*2):=by
 have h:icells l=icells (l.take i)++icells (l.drop i):=by rw [←icells_append,List.take_append_drop]
 have a:(icells (l.take i)).length=i*2:=by rw [icells_len2,List.length_take];omega
 rw [h,←a,List.drop_left]
theorem icells_take (l:List (ByteArray×ByteArray)) (i:Nat) (hi:i≤l.length):icells (l.take i)=(icells l).take (i*2):=by
 have h:icells l=icells (l.take i)++icells (l.drop i):=by rw [←icells_append,List.take_append_drop]
 have a:(icells (l.take i)).length=i*2:=by rw [icells_len2,List.length_take];omega
 rw [h,←a,List.take_left]
theorem items_src {w:World} {g b:Nat} {il:List (ByteArray×ByteArray)} (h:OwnsI 0 w (.slice (some ⟨g,0,none⟩) il.length b) il) (i:Nat) (hi:i≤il.length):∀j u,(icells (il.drop i))[j]?=some u→w.cell? ⟨g,i*2+j,none⟩=some u:=by
 intro j u c
 rw [icells_drop _ _ hi,List.getElem?_drop] at c
 have:=World.ownsRow.cells h (g:=g) rfl _ _ c
 rwa [add_at] at this
theorem zeroI:∀w,(Go.zeroValue 51).run Tryz.prog w= .ok (.agg #[.string ⟨#[]⟩,.string ⟨#[]⟩]) w:=by
 intro w
 obtain ⟨i,hi,a,b,c⟩:=info_parts info_item
 simp [Go.zeroValue,typeInfo,hi,a]
theorem zeroI_cells (n:Nat):(Builtin.zeroCells (Value.agg #[.string ⟨#[]⟩,.string ⟨#[]⟩]).cells n).size=n*2∧∀v∈(Builtin.zeroCells (Value.agg #[.string ⟨#[]⟩,.string ⟨#[]⟩]).cells n).toList,v.oneCell'=true:=by
 constructor
 ·rw [size_zeroCells];rfl
 ·intro v a
  simp only [Builtin.zeroCells,Array.toList_map,List.mem_map] at a
  obtain ⟨i,_,rfl⟩:=a
  show ((#[Value.string ⟨#[]⟩,Value.string ⟨#[]⟩]:Array Value)[i % 2]!).oneCell'=true
  rcases (show i % 2=0∨i % 2=1 by omega) with q | q <;> rw [q] <;> rfl
set_option maxHeartbeats 1000000 in
set_option maxRecDepth 20000 in
theorem deleteI_any (v:Value) (il:List (ByteArray×ByteArray)) (i:Nat) (w:World) (hi:i < il.length) (h:OwnsI 0 w v il) (hl:il.length≤20000000):
  Calls Tryz.prog 170 #[v,.int .i64 (i:Nat),.int .i64 ((i:Nat)+1)] w fun r w'=>∃L,r= .returned L∧OwnsI 0 w' L (il.take i++il.drop (i+1))∧w.grownBy w' v.ownBlock∧L.ownBlock=v.ownBlock:=by
 rcases h.2 with ⟨_,hn⟩ | ⟨g,b,d,rfl,hb,K,hc,F,p,C⟩
 ·omega
 have N:b≤9223372036854775807:=by unfold maxLen at F;omega
 obtain ⟨A,B,a5,o,a6⟩:=info_parts info_item
 obtain ⟨E,a7,e⟩:∃E:Addr,(if b=i+1 then some ⟨g,0,none⟩ else some ⟨g,(i+1)*2,none⟩)=some E∧∀j u,(icells (il.drop (i+1)))[j]?=some u→w.drew.cell? (E.add j)=some u:=by
  by_cases D:b=i+1
  ·refine ⟨⟨g,0,none⟩,if_pos D,fun j u G=> ?_⟩
   rw [List.drop_of_length_le (by omega)] at G
   simp [icells] at G
  ·refine ⟨⟨g,(i+1)*2,none⟩,if_neg D,fun j u G=> ?_⟩
   rw [off_add]
   exact items_src h (i+1) (by omega) j u G
 have s:(icells (il.drop (i+1))).length=(il.length - (i+1))*A.size:=by rw [icells_len2,List.length_drop,o]
 have c:d.toList.length=b*2:=by simpa using p
 have H:=run_append_room (P:=Tryz.prog) w.drew 30 30 51 A Tryz.underlying30 B g i b d K E (il.length - (i+1)) (b - (i+1)) (icells (il.drop (i+1))) s e (one_icells _) (by omega) (by rw [o,icells_len2,List.length_drop,p];omega)
 rw [o] at H
 have O:i+(il.length - (i+1))=il.length - 1:=by omega
 have f:(icells (il.drop (i+1))).length=(il.length - 1 - i)*2:=by rw [icells_len2,List.length_drop];omega
 have l:(d.toList.take (i*2)++icells (il.drop (i+1))++d.toList.drop (i*2+(icells (il.drop (i+1))).length)).length=b*2:=by
  simp only [List.length_append,List.length_take,List.length_drop,f,c];omega
 have m:(d.toList.take (i*2)++icells (il.drop (i+1))++d.toList.drop (i*2+(icells (il.drop (i+1))).length)).take ((il.length - 1)*2)=icells (il.take i++il.drop (i+1)):=by
  rw [List.take_append_of_le_length (by simp only [List.length_append,List.length_take,f,c];omega),List.take_of_length_le (by simp only [List.length_append,List.length_take,f,c];omega),icells_append,icells_take _ _ (by omega)]
  rw [←C,List.take_take]
  congr 2
  omega
 generalize M:d.toList.take (i*2)++icells (il.drop (i+1))++d.toList.drop (i*2+(icells (il.drop (i+1))).length)=a at*
 have t:=hid (setRow_at (w:=w.drew) K a)
 have Q:=hid (setRow_grown w.drew g a.toArray)
 have HM:=hid F
 have I:=hid l
 have X:=hid m
 have J:=hid H
 have x:Hid (∀Z:List Value,Z.length=2→OwnsI 0 ((w.drew.setRow g a.toArray).setRow g (a.take ((il.length - 1)*2)++(Z++a.drop ((il.length - 1)*2+2))).toArray) (.slice (some ⟨g,0,none⟩) (il.length - 1) b) (il.take i++il.drop (i+1))∧w.grownBy ((w.drew.setRow g a.toArray).setRow g (a.take ((il.length - 1)*2)++(Z++a.drop ((il.length - 1)*2+2))).toArray) (some g)):=by
  intro Z hZ
  have y:(il.take i++il.drop (i+1)).length=il.length - 1:=by simp;omega
  constructor
  ·unfold OwnsI
   rw [y]
   refine row_of (setRow_at t.out _) (by omega) F ?_ ?_ (by rw [icells_len2,y])
   ·simp only [List.length_append,List.length_take,List.length_drop,l,hZ];omega
   ·rw [List.take_append_of_le_length (by rw [List.length_take,l];omega),List.take_take,Nat.min_self,m]
  ·have q:=setRow_grown w.drew g a.toArray
   have z:=setRow_grown (w.drew.setRow g a.toArray) g (a.take ((il.length - 1)*2)++(Z++a.drop ((il.length - 1)*2+2))).toArray
   exact ⟨z.os.trans q.os,z.tape.trans q.tape,z.output.trans q.output,Nat.le_trans q.size z.size,fun k W n=> (z.block k (Nat.lt_of_lt_of_le W q.size) n).trans (q.block k W n)⟩
 clear H M K p C h F hb l m e s c f
 have Y:i≤b:=by omega
 have R:(i:Int)≤(b:Int):=by omega
 have a0:i+1≤il.length:=by omega
 have S:(i:Int)+1≤(il.length:Int):=by omega
 have T:(0:Int)≤(i:Int)+1:=by omega
 have U:i+1≤b:=by omega
 have n:((i:Int)==(i:Int)+1)=false:=by simp;omega
 go_enter Tryz.func170,Tryz.ntmps170
 go_upto_region 5 with fail
 go_region_law (refine stepAp _ (by rfl) (.tmp 22) (.tmp 25) _ _ (by rfl) _ _ (by rfl) (by simp [Act.eval];rfl) _ _ J.out ?_)
 all_goals
  have a1:¬b=il.length - 1:=by omega
  have a2:il.length - (il.length - 1)=1:=by omega
  have a3:il.length - 1≤il.length:=by omega
  have a4:il.length≤b:=hc
  go_wp2_with (refine wpCl _ (by rfl) (.tmp 31) 30 (by rfl) _ (by rfl) _ _ (run_clear_at _ _ _ 51 (.agg #[.string ⟨#[]⟩,.string ⟨#[]⟩]) 2 g ((il.length - 1)*2) 1 (b - (il.length - 1)) a.toArray 51 Tryz.underlying30 zeroI (zeroI_cells 1).1 (zeroI_cells 1).2 t.out (by have:=I.out;simp;omega)) ?_)
  go_ret
  have V:=x.out (Builtin.zeroCells #[Value.string ⟨#[]⟩,Value.string ⟨#[]⟩] 1).toList (by rw [Array.length_toList,size_zeroCells];rfl)
  exact ⟨_,rfl,V.1,V.2,rfl⟩
end Go.Proofs.YtolgpnaoaodepaaGreat
