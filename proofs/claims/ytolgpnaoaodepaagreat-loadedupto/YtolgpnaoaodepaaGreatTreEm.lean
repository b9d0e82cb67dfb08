import Derived.Test.YtolgpnaoaodepaaGreatMathHm
import Derived.Laws.AppendOwnNone
import Derived.Deep.DeepCutAuto
import Derived.Laws.CopyOwn
import Derived.Lib.AppendZeros
import Derived.Lib.BufferMore
import Derived.Lib.BufferWrite
import Derived.Lib.ConvBytes
import Derived.Lib.Overlaps
import Derived.Lib.UnsafeStr
import Derived.RegionDies
namespace Go.Proofs.YtolgpnaoaodepaaGreat
open Go.RowKit
def Fw (il:List (ByteArray×ByteArray)) (key:ByteArray):List (ByteArray×ByteArray):=il.takeWhile fun x=> decide (x.1.data.toList < key.data.toList)
def Cv (il:List (ByteArray×ByteArray)) (key:ByteArray):List (ByteArray×ByteArray):=il.dropWhile fun x=> decide (x.1.data.toList < key.data.toList)
theorem Sy.cut {il A C:List (ByteArray×ByteArray)} {key:ByteArray} (h:Sy il A C key):A=Fw il key/\C=Cv il key:=by
 obtain ⟨rfl,c,a⟩:=h;unfold Fw Cv;have b:∀x∈A,decide (x.1.data.toList < key.data.toList)=true:=fun x d=> decide_eq_true (c x d)
 rw [List.takeWhile_append_of_pos b,List.dropWhile_append_of_pos b]
 match C,a with
 | [],_=> simp
 | x::r,a=>
  have:decide (x.1.data.toList < key.data.toList)=false:=decide_eq_false (a x (List.mem_cons_self ..));rw [List.takeWhile_cons,List.dropWhile_cons,this];simp
theorem Lt (il:List (ByteArray×ByteArray)) (key:ByteArray) (f:Tr.Bi (plain il)):Sy il (Fw il key) (Cv il key) key:=by
 refine ⟨(List.takeWhile_append_dropWhile).symm,fun x a=> ?_,fun x a=> ?_⟩
 ·have:=List.all_takeWhile (p:=fun x:ByteArray×ByteArray=> decide (x.1.data.toList < key.data.toList)) (l:=il);exact of_decide_eq_true (List.all_eq_true.1 this x a)
 ·have c:=List.head?_dropWhile_not (fun x:ByteArray×ByteArray=> decide (x.1.data.toList < key.data.toList)) il;unfold Cv at a;have d:(il.dropWhile fun x:ByteArray×ByteArray=> decide (x.1.data.toList < key.data.toList)) <:+il:=List.dropWhile_suffix _;have b:Tr.Bi (plain (il.dropWhile fun x:ByteArray×ByteArray=> decide (x.1.data.toList < key.data.toList))):=by
   unfold Tr.Bi plain at*;exact List.Pairwise.sublist (d.sublist.map _) f
  generalize (il.dropWhile fun x:ByteArray×ByteArray=> decide (x.1.data.toList < key.data.toList))=D at*
  match D,a,c,b with
  | y::D,a,c,b=>
   simp at c;rcases List.mem_cons.1 a with rfl | a
   ·exact List.not_lt.2 c
   ·have:=(List.pairwise_cons.1 b).1 (x.1.data.toList,x.2.data.toList) (List.mem_map.2 ⟨x,a,rfl⟩);exact fun q=> (List.not_lt.2 c) (Tr.Cz this q)
def Fr (C:List (ByteArray×ByteArray)) (key:ByteArray):Option (List UInt8):=match C with
 | []=> none
 | x::_=> if x.1.data.toList=key.data.toList then some x.2.data.toList else none
theorem Xd {il A C:List (ByteArray×ByteArray)} {key:ByteArray} (h:Sy il A C key) (b:Tr.Bi (plain il)):Tr.Bj (plain il) key.data.toList=Fr C key:=by
 obtain ⟨rfl,l,d⟩:=h;have f:plain (A++C)=plain A++plain C:=by simp [plain]
 rw [f,Tr.Es,Tr.Ce]
 ·match C,d,b with
  | [],_,_=> rfl
  | x::r,d,b=>
   show (Tr.Bj ((x.1.data.toList,x.2.data.toList)::plain r) key.data.toList)=_;unfold Fr;by_cases q:x.1.data.toList=key.data.toList
   ·simp only;rw [Tr.Bj,if_pos q,if_pos q]
   ·simp only;rw [Tr.Bj,if_neg q,if_neg q,Tr.Ce];intro y a e;obtain ⟨z,i,rfl⟩:=List.mem_map.1 a;rw [f] at b;have j:=(List.pairwise_append.1 b).2.1;have g:=(List.pairwise_cons.1 j).1 _ a;have k:¬x.1.data.toList < key.data.toList:=d x (List.mem_cons_self ..);have c:z.1.data.toList=key.data.toList:=e;simp only [c] at g;exact k g
 ·intro y a e;obtain ⟨z,i,rfl⟩:=List.mem_map.1 a;have:=l z i;have c:z.1.data.toList=key.data.toList:=e;rw [c] at this;exact Tr.lt_ir _ this
set_option maxHeartbeats 1000000 in
theorem Rb (p B:Nat) (a vp vc:Value) (il:List (ByteArray×ByteArray)) (key:ByteArray) (w:World) (h:An w p a vp vc) (g:Ak B w a il) (n:il.length<=1000000000) (i:Tr.Bi (plain il)):
  Calls Tryz.prog 138 #[.pointer (some ⟨p,0,none⟩),.string key] w fun r w'=> r= .returned (.tuple #[.int .i64 ((Fw il key).length:Nat),.bool (Cx (Cv il key) key)])/\Below w.heap.size w w':=by
 obtain ⟨k,l,m,-⟩:=h.cells;have b:=hid (Ags B a il key w g n i);clear g i h;go_enter Tryz.func138,Tryz.ntmps138;go_wp2_with fail;refine b.out.mono ?_;rintro r o ⟨⟨A,C,d,rfl⟩,f⟩;have j:=hid f;have c:=hid d.cut;clear d f b k l m;go_wp2_with fail;go_ret2;exact ⟨by rw [<-c.out.1,<-c.out.2];rfl,j.out⟩
def StB (w:World) (b:Nat) (v:ByteArray) (t:Bool):Prop:=w.heap[b]?=some (.cells #[.string v,.bool t] 136 (0,0))
theorem StB.lt {w:World} {b:Nat} {v:ByteArray} {t:Bool} (h:StB w b v t):b < w.heap.size:=(Array.getElem?_eq_some_iff.1 h).1
theorem StB.cells {w:World} {b:Nat} {v:ByteArray} {t:Bool} (h:StB w b v t):w.cell? ⟨b,0,none⟩=some (.string v)/\w.cell? ⟨b,1,none⟩=some (.bool t)/\w.frozen? ⟨b,0,none⟩=false/\w.frozen? ⟨b,1,none⟩=false:=by
 unfold StB at h;refine ⟨?_,?_,?_,?_⟩ <;> simp [World.cell?,World.frozen?,h]
theorem StB.put {w:World} {b:Nat} {v:ByteArray} {t:Bool} (h:StB w b v t) (a:ByteArray) (c:Bool):StB ((w.setCell ⟨b,0,none⟩ (.string a)).setCell ⟨b,1,none⟩ (.bool c)) b a c:=by
 have d:(w.setCell ⟨b,0,none⟩ (.string a)).heap[b]?=some (.cells #[.string a,.bool t] 136 (0,0)):=by unfold StB at h;rw [Ad (i:=0) h];rfl
 unfold StB;rw [Ad (i:=1) d];rfl
set_option maxHeartbeats 1000000 in
set_option maxRecDepth 20000 in
theorem Uo (p B:Nat) (u vp vc:Value) (il:List (ByteArray×ByteArray)) (key:ByteArray) (w:World) (h:An w p u vp vc) (N:Ak B w u il) (X:il.length<=1000000000) (y:Tr.Bi (plain il)):
  Calls Tryz.prog 78 #[.pointer (some ⟨p,0,none⟩),.string key] w fun r w'=> r= .returned (.agg #[.string (stV (Tr.Bj (plain il) key.data.toList)),.bool (stB (Tr.Bj (plain il) key.data.toList))])/\Below w.heap.size w w':=by
 have z:=hid (Lt il key y);rw [Xd z.out y];have a:=hid ((Below.refl w.heap.size w).alloc (Nat.le_refl _) (.cells #[.string ⟨#[]⟩,.bool false] 136));have O:=hid (Rb p B u vp vc il key (w.alloc (.cells #[.string ⟨#[]⟩,.bool false] 136)) ((a.out.block p h.lt).trans h) (Aa N a.out (Nat.le_refl _)) X y);have C:=hid ((a.out.block p h.lt).trans h);have R:=hid (Aa N a.out (Nat.le_refl _));have F:Hid (StB (w.alloc (.cells #[.string ⟨#[]⟩,.bool false] 136)) w.heap.size ⟨#[]⟩ false):=heap_alloc_new _ _;clear h N y;go_enter Tryz.func78,Tryz.ntmps78;go_wp2_with fail;refine O.out.mono ?_;generalize w.alloc (.cells #[.string ⟨#[]⟩,.bool false] 136)=w0 at*;rintro r n ⟨rfl,b⟩;have G:Hid (An n p u vp vc):=(b.block p (Array.getElem?_eq_some_iff.1 C.out).1).trans C.out;have H:Hid (Ak B n u il):=Aa R.out b (Nat.le_refl _);have c:Hid (StB n w.heap.size ⟨#[]⟩ false):=(b.block _ F.out.lt).trans F.out;have i:=hid (a.out.trans (b.mono a.out.size));clear b C R F a O;have d:=z.out.e;clear z;have f:Cx (Cv il key) key=false/\Fr (Cv il key) key=none\/Cx (Cv il key) key=true/\∃x D,Cv il key=x::D/\Fr (Cv il key) key=some x.2.data.toList:=by
  cases M:Cv il key with
  | nil=> exact .inl ⟨rfl,rfl⟩
  | cons x D=>
   by_cases q:x.1.data.toList=key.data.toList
   ·exact .inr ⟨decide_eq_true q,x,D,rfl,by unfold Fr;simp only;rw [if_pos q]⟩
   ·exact .inl ⟨decide_eq_false q,by unfold Fr;simp only;rw [if_neg q]⟩
 generalize Fw il key=A at*;obtain ⟨Y,Z,c2,-⟩:=G.out.cells;obtain ⟨z0,z1,s0,s1⟩:=c.out.cells;have j:∀(v:ByteArray) (t:Bool),Below w.heap.size w ((n.setCell ⟨w.heap.size,0,none⟩ (.string v)).setCell ⟨w.heap.size,1,none⟩ (.bool t)):=fun v t=> (i.out.setCell (p:=⟨w.heap.size,0,none⟩) (Nat.le_refl _) (.string v)).setCell (p:=⟨w.heap.size,1,none⟩) (Nat.le_refl _) (.bool t)
 have k:=hid j;clear j;have l:Hid (∀(v:ByteArray) (t:Bool),StB ((n.setCell ⟨w.heap.size,0,none⟩ (.string v)).setCell ⟨w.heap.size,1,none⟩ (.bool t)) w.heap.size v t):=fun v t=> c.out.put v t
 clear c i;rcases f with ⟨o,s⟩ | ⟨o,x,D,M,s⟩
 ·rw [o];have I:=hid s;clear o s;obtain ⟨J,L,-⟩:=(l.out ⟨#[]⟩ false).cells;go_wp2_with fail;refine bodyPost_ret (v:= .agg #[.string ⟨#[]⟩,.bool false]) ?_ rfl ⟨by rw [I.out];rfl,k.out _ _⟩;simp [results,Tryz.results78,go_sem,J,L]
 ·rw [o];have I:=hid s;clear o s;rw [M] at d;clear M;have m:A.length < il.length:=by rw [d];simp
  obtain ⟨g,T,e,hc,U,hg,V,W⟩:=H.out.at A.length m;have S:il[A.length]'m=x:=by simp [d]
  rw [S] at V W;subst e;clear S;obtain ⟨J,L,-⟩:=(l.out x.2 true).cells;go_wp2_with fail;refine bodyPost_ret (v:= .agg #[.string x.2,.bool true]) ?_ rfl ⟨by rw [I.out];rfl,k.out _ _⟩;simp [results,Tryz.results78,go_sem,J,L]
def Src (size:Nat) (w:World) (v:Value) (n:Nat) (cs:List Value):Prop:=∃a cap,v= .slice a n cap/\cs.length=n*size/\(n=0\/∃b off,a=some ⟨b,off,none⟩/\b < w.heap.size/\∀(j:Nat) (u:Value),cs[j]?=some u->w.cell? ⟨b,off+j,none⟩=some u)
theorem Cw (g o j:Nat):(⟨g,o,none⟩:Addr).add j=⟨g,o+j,none⟩:=by unfold Addr.add;split <;> simp_all
theorem Bf:∀l:List (ByteArray×ByteArray),(icells l).length=l.length*2
 | []=> rfl
 | x::r=> by
  show ([Value.string x.1,Value.string x.2]++icells r).length=_;rw [List.length_append,Bf r];simp;omega
theorem Ex:∀(l:List (ByteArray×ByteArray)),∀v∈icells l,v.oneCell'=true
 | [],v,h=> by cases h
 | x::r,v,h=> by
  have a:v∈[Value.string x.1,Value.string x.2]++icells r:=h;rcases List.mem_append.1 a with h | h
  ·simp at h;rcases h with rfl | rfl <;> rfl
  ·exact Ex r v h
theorem Py:∀(l:List (Int×ByteArray×ByteArray)),∀v∈ccells l,v.oneCell'=true
 | [],v,h=> by cases h
 | x::r,v,h=> by
  have a:v∈[Value.int .i64 x.1,Value.string x.2.1,Value.string x.2.2]++ccells r:=h;rcases List.mem_append.1 a with h | h
  ·simp at h;rcases h with rfl | rfl | rfl <;> rfl
  ·exact Py r v h
theorem Al {B C:Nat} {w:World} {v:Value} {T:TypeId} {s n:Nat} {xs:List Value} (h:w.ownsRow B T s v n xs) (i:C<=B):w.ownsRow C T s v n xs:=by
 refine ⟨h.1,?_⟩;rcases h.2 with d | ⟨g,a,b,f,c,r⟩
 ·exact .inl d
 ·exact .inr ⟨g,a,b,f,Nat.le_trans i c,r⟩
theorem Fx {B:Nat} {w:World} {v:Value} {T:TypeId} {s n:Nat} {xs:List Value} (h:w.ownsRow B T s v n xs):w.ownsRow 0 T s v n xs:=by
 refine ⟨h.1,?_⟩;rcases h.2 with q | ⟨g,a,b,e,_,q⟩
 ·exact .inl q
 ·exact .inr ⟨g,a,b,e,Nat.zero_le _,q⟩
theorem Bz {B:Nat} {e:TypeId} {d n:Nat} {v:Value} {xs:List Value} {w w':World} (h:w.ownsRow B e d v n xs) (i:∀g,v.ownBlock=some g->g < w.heap.size->w'.heap[g]?=w.heap[g]?):w'.ownsRow B e d v n xs:=by
 refine ⟨h.1,?_⟩;rcases h.2 with q | ⟨g,a,b,rfl,f,c,q⟩
 ·exact .inl q
 ·exact .inr ⟨g,a,b,rfl,f,(i g rfl (Array.getElem?_eq_some_iff.1 c).1).trans c,q⟩
theorem Jf {B:Nat} {e:TypeId} {d g a n:Nat} {xs:List Value} {w:World} (h:w.ownsRow B e d (.slice (some ⟨g,0,none⟩) n a) n xs) (i:Nat) (u:Value):(w.setCell ⟨g,i,none⟩ u).ownsRow B e d (.slice (some ⟨g,0,none⟩) n a) n (xs.set i u):=by
 rcases h.2 with ⟨h0,_⟩ | ⟨q,b,f,c,j,k,l,m,o,p⟩
 ·simp at h0
 ·simp only [Value.slice.injEq,Option.some.injEq,Addr.mk.injEq,and_true,true_and] at c;obtain ⟨rfl,rfl⟩:=c;refine ⟨by simpa using h.1,.inr ⟨g,a,_,rfl,j,Ad k u,l,m,by simpa using o,?_⟩⟩;rw [Array.toList_setIfInBounds,List.take_set,p]
theorem Cn {B t:Nat} {e i:TypeId} {s u n y:Nat} {v j:Value} {xs b:List Value} {w:World} (h:w.ownsRow B e s v n xs) (z:w.ownsRow t i u j y b) (c:e≠i) (g:Nat) (q:v.ownBlock=some g) (l:j.ownBlock=some g):False:=by
 rcases h.2 with ⟨rfl,-⟩ | ⟨k,m,o,rfl,-,p,-⟩
 ·simp [Value.ownBlock] at q
 ·rcases z.2 with ⟨rfl,-⟩ | ⟨r,d,f,rfl,-,a,-⟩
  ·simp [Value.ownBlock] at l
  ·obtain rfl:k=g:=Option.some.inj q;obtain rfl:r=k:=Option.some.inj l;rw [p] at a;simp only [Option.some.injEq,Obj.cells.injEq] at a;exact c a.2.1
theorem Ajl:(Tryz.prog.info? 30).map (fun i=> (i.zero,i.size,i.bytes))=some (some (.slice none 0 0),1,24):=by kernel_rfl
theorem Jg (l r:List (ByteArray×ByteArray)):plain (l++r)=plain l++plain r:=by simp [plain]
theorem Xe (l:List (ByteArray×ByteArray)):(icells l).length=l.length*2:=by
 induction l with
 | nil=> rfl
 | cons x r ih=> rw [show icells (x::r)= .string x.1:: .string x.2::icells r from rfl,List.length_cons,List.length_cons,List.length_cons,ih];omega
theorem Xf (l:List (ByteArray×ByteArray)):∀u∈icells l,u.oneCell'=true:=by
 intro u b;unfold icells at b;obtain ⟨x,_,a⟩:=List.mem_flatMap.1 b;simp at a;rcases a with rfl | rfl <;> rfl
theorem Xg (l r:List (ByteArray×ByteArray)):icells (l++r)=icells l++icells r:=by simp [icells]
theorem Alr (w:World) {g:Array Oper} {rest:List Oper} {o:Oper} {a:Act} {Q:Exit->Act->World->Prop} (m:o.guard=none) (q x:Operand)
  (C:o.op=Op.call {callee:=Callee.builtin Builtin.append,args:= #[q,x],argTypes:= #[30,30]}) (B:Nat) (v:Value) (l:List (ByteArray×ByteArray)) (D:a.eval q=v) (b:Ak B w v l)
  (A:Value) (c:List (ByteArray×ByteArray)) (F:a.eval x=A) (n:(A= .slice none 0 0/\c=[])\/∃p d,A= .slice (some p) c.length d/\∀j u,(icells c)[j]?=some u->w.cell? (p.add j)=some u) (J:l.length+c.length<=1000000000) (I:B<=w.heap.size)
  (h:∀(f:Value) (w':World),Ak B w' f (l++c)->w.grownBy w' v.ownBlock->(f.ownBlock=v.ownBlock\/∃k,w.heap.size<=k/\f.ownBlock=some k)->wpList Tryz.prog g Q rest (a.put o.dst f) w'):wpList Tryz.prog g Q (o::rest) a w:=by
 obtain ⟨i,hi,r,s,t⟩:=info_parts Cm;rcases n with ⟨rfl,rfl⟩ | ⟨p,d,rfl,H⟩
 ·refine wpList_append_own_none m q x 30 C B 51 i 2 Tryz.underlying30 hi v l.length (icells l) D b F ?_;exact h v w (by rw [List.append_nil];exact b) ⟨rfl,rfl,rfl,Nat.le_refl _,fun _ _ _=> rfl⟩ (.inl rfl)
 ·refine wpList_append_own_at w m q x 30 C B 51 i (.agg #[.string ⟨#[]⟩,.string ⟨#[]⟩]) 2 32 Tryz.underlying30 hi r s t rfl (by decide) v l.length (icells l) D b p c.length d (icells c) F (Xe c) H (Xf c) (by unfold maxLen;omega) (by omega) I ?_;intro f w' y G _ z;refine h f w' ?_ G (z.imp_right fun e=> ⟨w.heap.size,Nat.le_refl _,e⟩);unfold Ak;rw [List.length_append,Xg];exact y
section
variable {P:Program}
theorem Up (w:World) (C M N f:TypeId) (size:Nat) (g o k q:Nat) (v:Value) (n:Nat) (c:Array Value) (t:TypeId) (l:List Value)
  (B:P.underlying C=some (.slice f)) (D:(P.info? f).map (·.size)=some size)
  (F:w.heap[g]?=some (.cells c t (0,0))) (O:n<=k) (r:Src size w v n l) (s:o+l.length<=c.size) (R:∀v∈l,v.oneCell'=true):
  (Builtin.copy_ #[C,M] N #[.slice (some ⟨g,o,none⟩) k q,v]).run P w= .ok (goInt n) (w.setRow g (c.toList.take o++l++c.toList.drop (o+l.length)).toArray):=by
 obtain ⟨a,G,rfl,H,I⟩:=r;have m:Nat.min n k=n:=Nat.min_eq_left O;have y:=run_storeCells_at P g o t l 0 c w F (by simpa using s) R
 cases p:P.info? f with
 | none=> simp [p] at D
 | some i=>
  have hi:i.size=size:=by simpa [p] using D
  rcases I with rfl | ⟨b,z,rfl,J,L⟩
  ·obtain rfl:l=[]:=List.eq_nil_of_length_eq_zero (by omega);have e:=setRow_self w g c t (0,0) F
   cases a with
   | none=> simp [Builtin.copy_,run_underlying B,Builtin.lenOf,Builtin.firstCells,sizeOf,typeInfo,p,storeCells,e]
   | some ad=>
    have d:=run_loadCells_list (P:=P) w ad [] (fun j u A=> by simp at A);simp at d;simp [Builtin.copy_,run_underlying B,Builtin.lenOf,Builtin.firstCells,sizeOf,typeInfo,p,d,storeCells,e]
  ·have d:=run_loadCells_list (P:=P) w ⟨b,z,none⟩ l (fun j u A=> by rw [Cw];exact L j u A);rw [H] at d;simp [Builtin.copy_,run_underlying B,Builtin.lenOf,Builtin.firstCells,sizeOf,typeInfo,p,hi,m,d,y]
theorem Ej (w:World) (A D F a:TypeId) (size:Nat) (g o d p:Nat) (b l f q:Nat) (n:Nat) (c:Array Value) (t:TypeId) (k:List Value)
  (G:P.underlying A=some (.slice a)) (B:(P.info? a).map (·.size)=some size)
  (H:w.heap[g]?=some (.cells c t (0,0))) (r:Nat.min f d=n) (I:k.length=n*size) (J:∀(j:Nat) (u:Value),k[j]?=some u->w.cell? ⟨b,l+j,none⟩=some u) (s:o+k.length<=c.size) (L:∀v∈k,v.oneCell'=true):
  (Builtin.copy_ #[A,D] F #[.slice (some ⟨g,o,none⟩) d p,.slice (some ⟨b,l,none⟩) f q]).run P w= .ok (goInt n) (w.setRow g (c.toList.take o++k++c.toList.drop (o+k.length)).toArray):=by
 have y:=run_storeCells_at P g o t k 0 c w H (by simpa using s) L
 cases z:P.info? a with
 | none=> simp [z] at B
 | some i=>
  have hi:i.size=size:=by simpa [z] using B
  have m:=run_loadCells_list (P:=P) w ⟨b,l,none⟩ k (fun j u C=> by rw [Cw];exact J j u C);rw [I] at m;simp [Builtin.copy_,run_underlying G,Builtin.lenOf,Builtin.firstCells,sizeOf,typeInfo,z,hi,r,m,y]
theorem Lu (w:World) (t p d:TypeId) (z:Value) (size:Nat) (g o n c:Nat) (a:Array Value) (k:TypeId)
  (l:P.underlying t=some (.slice d)) (q:∀w,(Go.zeroValue d).run P w= .ok z w) (f:(Builtin.zeroCells z.cells n).size=n*size) (r:∀v∈(Builtin.zeroCells z.cells n).toList,v.oneCell'=true)
  (m:w.heap[g]?=some (.cells a k (0,0))) (i:o+n*size<=a.size):
  (Builtin.clear_ #[t] p #[.slice (some ⟨g,o,none⟩) n c]).run P w= .ok (.tuple #[]) (w.setRow g (a.toList.take o++(Builtin.zeroCells z.cells n).toList++a.toList.drop (o+n*size)).toArray):=by
 have b:=run_storeCells_at P g o k (Builtin.zeroCells z.cells n).toList 0 a w m (by rw [Array.length_toList,f];simpa using i) r;rw [Array.length_toList,f,Nat.add_zero] at b
 match n,b with
 | 0,b=>
  have j:(Builtin.zeroCells z.cells 0).toList=[]:=by
   have:=f;simp at this;exact List.eq_nil_of_length_eq_zero (by rw [Array.length_toList];simp [Builtin.zeroCells])
  rw [j];simp [Builtin.clear_,run_underlying l,setRow_self w g a k (0,0) m]
 | n+1,b=> simp [Builtin.clear_,run_underlying l,q,b]
end
theorem Cy {w:World} {g:Nat} {b:Array Value} {e:TypeId} (h:w.heap[g]?=some (.cells b e (0,0))) (l:List Value):(w.setRow g l.toArray).heap[g]?=some (.cells l.toArray e (0,0)):=setRow_heap w g b _ e (0,0) h
theorem Bl (w:World) (g:Nat) (b:Array Value):w.grownBy (w.setRow g b) (some g):=by
 refine ⟨rfl,rfl,rfl,by simp [World.setRow],fun k c a=> ?_⟩;have:g≠k:=fun e=> a (by rw [e])
 simp [World.setRow,Array.getElem?_modify,this]
section
variable {P:Program}
theorem Nf (w:World) {b:Array Oper} {o:Oper} {a:Act} {K:Act->World->Prop} {Q:Exit->Act->World->Prop} {E:Prop} (c:o.guard=none) (s x:Operand) (t d:TypeId)
  (i:o.op=Op.call {callee:=Callee.builtin Builtin.append,args:= #[s,x],argTypes:= #[t,d]}) (v u:Value) (j:a.eval s=v) (k:a.eval x=u) (f:Value) (w':World)
  (l:(Builtin.append_ #[t,d] o.type #[v,u]).run P w= .ok f w') (h:K (a.put o.dst f) w'):if Region.wanted o (yielded b a.tmps)=true then Oper.wp P o a w K Q else E:=by
 have g:Region.wanted o (yielded b a.tmps)=true:=by simp [Region.wanted,c]
 rw [if_pos g];unfold Oper.wp;simp [execOp,i,resolve,invoke,builtin,j,k,l,Result.andThen];exact h
theorem Xh (w:World) {b:Array Oper} {o:Oper} {a:Act} {K:Act->World->Prop} {Q:Exit->Act->World->Prop} {E:Prop} (c:o.guard=none) (s x:Operand) (t d:TypeId)
  (i:o.op=Op.call {callee:=Callee.builtin Builtin.copy,args:= #[s,x],argTypes:= #[t,d]}) (v u:Value) (j:a.eval s=v) (k:a.eval x=u) (f:Value) (w':World)
  (l:(Builtin.copy_ #[t,d] o.type #[v,u]).run P w= .ok f w') (h:K (a.put o.dst f) w'):if Region.wanted o (yielded b a.tmps)=true then Oper.wp P o a w K Q else E:=by
 have g:Region.wanted o (yielded b a.tmps)=true:=by simp [Region.wanted,c]
 rw [if_pos g];unfold Oper.wp;simp [execOp,i,resolve,invoke,builtin,j,k,l,Result.andThen];exact h
theorem Als (w:World) {b:Array Oper} {rest:List Oper} {o:Oper} {a:Act} {Q:Exit->Act->World->Prop} (c:o.guard=none) (s x:Operand) (t d:TypeId)
  (i:o.op=Op.call {callee:=Callee.builtin Builtin.copy,args:= #[s,x],argTypes:= #[t,d]}) (v u:Value) (j:a.eval s=v) (k:a.eval x=u) (f:Value) (w':World)
  (l:(Builtin.copy_ #[t,d] o.type #[v,u]).run P w= .ok f w') (h:wpList P b Q rest (a.put o.dst f) w'):wpList P b Q (o::rest) a w:=by
 refine wpList_plain c fun K g=> ?_
 unfold Oper.wp;simp [execOp,i,resolve,invoke,builtin,j,k,l,Result.andThen];exact g _ _ h
theorem Aoq (w:World) {b:Array Oper} {rest:List Oper} {o:Oper} {a:Act} {Q:Exit->Act->World->Prop} (c:o.guard=none) (s:Operand) (t:TypeId)
  (g:o.op=Op.call {callee:=Callee.builtin Builtin.clear,args:= #[s],argTypes:= #[t]}) (v:Value) (i:a.eval s=v) (d:Value) (w':World)
  (j:(Builtin.clear_ #[t] o.type #[v]).run P w= .ok d w') (h:wpList P b Q rest (a.put o.dst d) w'):wpList P b Q (o::rest) a w:=by
 refine wpList_plain c fun K f=> ?_
 unfold Oper.wp;simp [execOp,g,resolve,invoke,builtin,i,j,Result.andThen];exact f _ _ h
end
theorem Ng {w:World} {g a n size:Nat} {e:TypeId} {b xs:List Value} (c:w.heap[g]?=some (.cells b.toArray e (0,0))) (d:n<=a) (f:a<=maxLen) (i:b.length=a*size) (j:b.take (n*size)=xs) (k:xs.length=n*size):w.ownsRow 0 e size (.slice (some ⟨g,0,none⟩) n a) n xs:=
 ⟨k,.inr ⟨g,a,b.toArray,rfl,Nat.zero_le _,c,d,f,by simpa using i,by simpa using j⟩⟩
theorem Cj:∀a b:List (ByteArray×ByteArray),icells (a++b)=icells a++icells b
 | [],_=> rfl
 | x::r,b=> by
  show [Value.string x.1,Value.string x.2]++icells (r++b)=([Value.string x.1,Value.string x.2]++icells r)++icells b;rw [Cj r b,List.append_assoc]
theorem Uq (l:List (ByteArray×ByteArray)) (i:Nat) (hi:i<=l.length):icells (l.drop i)=(icells l).drop (i*2):=by
 have h:icells l=icells (l.take i)++icells (l.drop i):=by rw [<-Cj,List.take_append_drop]
 have a:(icells (l.take i)).length=i*2:=by rw [Bf,List.length_take];omega
 rw [h,<-a,List.drop_left]
theorem Kn (l:List (ByteArray×ByteArray)) (i:Nat) (hi:i<=l.length):icells (l.take i)=(icells l).take (i*2):=by
 have h:icells l=icells (l.take i)++icells (l.drop i):=by rw [<-Cj,List.take_append_drop]
 have a:(icells (l.take i)).length=i*2:=by rw [Bf,List.length_take];omega
 rw [h,<-a,List.take_left]
theorem Sz {w:World} {g b:Nat} {il:List (ByteArray×ByteArray)} (h:Ak 0 w (.slice (some ⟨g,0,none⟩) il.length b) il) (i:Nat) (hi:i<=il.length):∀j u,(icells (il.drop i))[j]?=some u->w.cell? ⟨g,i*2+j,none⟩=some u:=by
 intro j u c;rw [Uq _ _ hi,List.getElem?_drop] at c;have:=World.ownsRow.cells h (g:=g) rfl _ _ c
 rwa [Dm] at this
theorem Aqu:∀w,(Go.zeroValue 51).run Tryz.prog w= .ok (.agg #[.string ⟨#[]⟩,.string ⟨#[]⟩]) w:=by
 intro w;obtain ⟨i,hi,a,b,c⟩:=info_parts Cm;simp [Go.zeroValue,typeInfo,hi,a]
theorem Ko (n:Nat):(Builtin.zeroCells (Value.agg #[.string ⟨#[]⟩,.string ⟨#[]⟩]).cells n).size=n*2/\∀v∈(Builtin.zeroCells (Value.agg #[.string ⟨#[]⟩,.string ⟨#[]⟩]).cells n).toList,v.oneCell'=true:=by
 constructor
 ·rw [size_zeroCells];rfl
 ·intro v a;simp only [Builtin.zeroCells,Array.toList_map,List.mem_map] at a;obtain ⟨i,_,rfl⟩:=a;show ((#[Value.string ⟨#[]⟩,Value.string ⟨#[]⟩]:Array Value)[i % 2]!).oneCell'=true;rcases (show i % 2=0\/i % 2=1 by omega) with q | q <;> rw [q] <;> rfl
set_option maxHeartbeats 1000000 in
set_option maxRecDepth 20000 in
theorem Ae0 (v:Value) (il:List (ByteArray×ByteArray)) (i:Nat) (w:World) (hi:i < il.length) (h:Ak 0 w v il) (hl:il.length<=20000000):
  Calls Tryz.prog 170 #[v,.int .i64 (i:Nat),.int .i64 ((i:Nat)+1)] w fun r w'=>∃R,r= .returned R/\Ak 0 w' R (il.take i++il.drop (i+1))/\w.grownBy w' v.ownBlock/\R.ownBlock=v.ownBlock:=by
 rcases h.2 with ⟨_,hn⟩ | ⟨g,b,d,rfl,hb,O,hc,I,q,F⟩
 ·omega
 have T:b<=9223372036854775807:=by unfold maxLen at I;omega
 obtain ⟨C,D,a8,p,a9⟩:=info_parts Cm;obtain ⟨H,b0,f⟩:∃H:Addr,(if b=i+1 then some ⟨g,0,none⟩ else some ⟨g,(i+1)*2,none⟩)=some H/\∀j u,(icells (il.drop (i+1)))[j]?=some u->w.drew.cell? (H.add j)=some u:=by
  by_cases G:b=i+1
  ·refine ⟨⟨g,0,none⟩,if_pos G,fun j u J=> ?_⟩;rw [List.drop_of_length_le (by omega)] at J;simp [icells] at J
  ·refine ⟨⟨g,(i+1)*2,none⟩,if_neg G,fun j u J=> ?_⟩;rw [Cw];exact Sz h (i+1) (by omega) j u J
 have t:(icells (il.drop (i+1))).length=(il.length - (i+1))*C.size:=by rw [Bf,List.length_drop,p]
 have c:d.toList.length=b*2:=by simpa using q
 have L:=run_append_room (P:=Tryz.prog) w.drew 30 30 51 C Tryz.underlying30 D g i b d O H (il.length - (i+1)) (b - (i+1)) (icells (il.drop (i+1))) t f (Ex _) (by omega) (by rw [p,Bf,List.length_drop,q];omega);rw [p] at L;have U:i+(il.length - (i+1))=il.length - 1:=by omega
 have l:(icells (il.drop (i+1))).length=(il.length - 1 - i)*2:=by rw [Bf,List.length_drop];omega
 have m:(d.toList.take (i*2)++icells (il.drop (i+1))++d.toList.drop (i*2+(icells (il.drop (i+1))).length)).length=b*2:=by
  simp only [List.length_append,List.length_take,List.length_drop,l,c];omega
 have n:(d.toList.take (i*2)++icells (il.drop (i+1))++d.toList.drop (i*2+(icells (il.drop (i+1))).length)).take ((il.length - 1)*2)=icells (il.take i++il.drop (i+1)):=by
  rw [List.take_append_of_le_length (by simp only [List.length_append,List.length_take,l,c];omega),List.take_of_length_le (by simp only [List.length_append,List.length_take,l,c];omega),Cj,Kn _ _ (by omega)];rw [<-F,List.take_take];congr 2;omega
 generalize S:d.toList.take (i*2)++icells (il.drop (i+1))++d.toList.drop (i*2+(icells (il.drop (i+1))).length)=a at*;have y:=hid (Cy (w:=w.drew) O a);have V:=hid (Bl w.drew g a.toArray);have HM:=hid I;have M:=hid m;have a1:=hid n;have N:=hid L;have z:Hid (∀Z:List Value,Z.length=2->Ak 0 ((w.drew.setRow g a.toArray).setRow g (a.take ((il.length - 1)*2)++(Z++a.drop ((il.length - 1)*2+2))).toArray) (.slice (some ⟨g,0,none⟩) (il.length - 1) b) (il.take i++il.drop (i+1))/\w.grownBy ((w.drew.setRow g a.toArray).setRow g (a.take ((il.length - 1)*2)++(Z++a.drop ((il.length - 1)*2+2))).toArray) (some g)):=by
  intro Z hZ;have A:(il.take i++il.drop (i+1)).length=il.length - 1:=by simp;omega
  constructor
  ·unfold Ak;rw [A];refine Ng (Cy y.out _) (by omega) I ?_ ?_ (by rw [Bf,A])
   ·simp only [List.length_append,List.length_take,List.length_drop,m,hZ];omega
   ·rw [List.take_append_of_le_length (by rw [List.length_take,m];omega),List.take_take,Nat.min_self,n]
  ·have s:=Bl w.drew g a.toArray;have B:=Bl (w.drew.setRow g a.toArray) g (a.take ((il.length - 1)*2)++(Z++a.drop ((il.length - 1)*2+2))).toArray;exact ⟨B.os.trans s.os,B.tape.trans s.tape,B.output.trans s.output,Nat.le_trans s.size B.size,fun k hk o=> (B.block k (Nat.lt_of_lt_of_le hk s.size) o).trans (s.block k hk o)⟩
 clear L S O q F h I hb m n f t c l;have a2:i<=b:=by omega
 have W:(i:Int)<=(b:Int):=by omega
 have a3:i+1<=il.length:=by omega
 have X:(i:Int)+1<=(il.length:Int):=by omega
 have Y:(0:Int)<=(i:Int)+1:=by omega
 have a0:i+1<=b:=by omega
 have o:((i:Int)==(i:Int)+1)=false:=by simp;omega
 go_enter Tryz.func170,Tryz.ntmps170;go_upto_region 5 with fail
 go_region_law (refine Nf _ (by rfl) (.tmp 22) (.tmp 25) _ _ (by rfl) _ _ (by rfl) (by simp [Act.eval];rfl) _ _ N.out ?_)
 all_goals
  have a4:¬b=il.length - 1:=by omega
  have a5:il.length - (il.length - 1)=1:=by omega
  have a6:il.length - 1<=il.length:=by omega
  have a7:il.length<=b:=hc;go_wp2_with (refine Aoq _ (by rfl) (.tmp 31) 30 (by rfl) _ (by rfl) _ _ (Lu _ _ _ 51 (.agg #[.string ⟨#[]⟩,.string ⟨#[]⟩]) 2 g ((il.length - 1)*2) 1 (b - (il.length - 1)) a.toArray 51 Tryz.underlying30 Aqu (Ko 1).1 (Ko 1).2 y.out (by have:=M.out;simp;omega)) ?_);go_ret;have hF:=z.out (Builtin.zeroCells #[Value.string ⟨#[]⟩,Value.string ⟨#[]⟩] 1).toList (by rw [Array.length_toList,size_zeroCells];rfl);exact ⟨_,rfl,hF.1,hF.2,rfl⟩
end Go.Proofs.YtolgpnaoaodepaaGreat
