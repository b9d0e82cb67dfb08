import Derived.Test.YtolgpnaoaodepaaGreatSilBm
namespace Go.Proofs.YtolgpnaoaodepaaGreat.Tr
def sh {α:Type}:Nat->List α->List (List α)
 | 0,_=> []
 | k+1,l=> l.take ((l.length+k) / (k+1))::sh k (l.drop ((l.length+k) / (k+1)))
theorem Agx (n k:Nat):(n+k) / (k+1)<=n:=by
 rcases Nat.eq_zero_or_pos n with h | h
 ·subst h;rw [Nat.zero_add,Nat.div_eq_of_lt (by omega)];exact Nat.le_refl _
 ·rw [Nat.div_le_iff_le_mul_add_pred (by omega)];have:n*1<=(k+1)*n:=by rw [Nat.mul_one,Nat.mul_comm];exact Nat.le_mul_of_pos_right n (by omega)
  have a:(k+1)*n=k*n+n:=by rw [Nat.add_mul,Nat.one_mul]
  have b:k<=k*n:=Nat.le_mul_of_pos_right k h;omega
theorem Aij {α:Type}:∀(k:Nat) (l:List α),(k=0->l=[])->(sh k l).flatten=l
 | 0,l,h=> by rw [h rfl];rfl
 | k+1,l,_=> by
  rw [sh,List.flatten_cons,Aij k,List.take_append_drop];intro a;subst a;rw [Nat.zero_add,Nat.add_zero,Nat.div_one,List.drop_length]
theorem Jq {α:Type}:∀(k:Nat) (l:List α),(sh k l).length=k
 | 0,_=> rfl
 | k+1,l=> by rw [sh,List.length_cons,Jq k]
theorem Aik {α:Type} {a:Nat}:∀(k:Nat) (l:List α),l.length<=k*a->∀x∈sh k l,x.length<=a
 | 0,_,_,x,b=> by cases b
 | k+1,l,h,x,b=> by
  have c:(l.length+k) / (k+1)<=a:=by
   rw [Nat.div_le_iff_le_mul_add_pred (by omega)];rw [Nat.mul_comm] at h;have:(k+1)*a=a*(k+1):=Nat.mul_comm _ _;omega
  have d:l.length<=(l.length+k) / (k+1)+k*a:=by
   have f:=Nat.div_add_mod (l.length+k) (k+1);have g:=Nat.mod_lt (l.length+k) (show 0 < k+1 by omega);have i:(k+1)*((l.length+k) / (k+1))=k*((l.length+k) / (k+1))+(l.length+k) / (k+1):=(by rw [Nat.add_mul,Nat.one_mul]);have j:k*((l.length+k) / (k+1))<=k*a:=Nat.mul_le_mul_left k c;omega
  rw [sh] at b;rcases List.mem_cons.1 b with rfl | b
  ·rw [List.length_take];omega
  ·exact Aik k _ (by rw [List.length_drop];omega) x b
theorem Wa {α:Type}:∀(k:Nat) (l:List α),k<=l.length->∀x∈sh k l,x≠[]
 | 0,_,_,x,a=> by cases a
 | k+1,l,h,x,a=> by
  have c:1<=(l.length+k) / (k+1):=by rw [Nat.le_div_iff_mul_le (by omega)];omega
  rw [sh] at a;rcases List.mem_cons.1 a with rfl | a
  ·intro e;have:=congrArg List.length e;rw [List.length_take,List.length_nil] at this;omega
  ·refine Wa k _ ?_ x a;rw [List.length_drop];have d:(l.length+k) / (k+1)*(k+1)<=l.length+k:=Nat.div_mul_le_self _ _;generalize (l.length+k) / (k+1)=q at*;have f:q*(k+1)=q*k+q:=(by rw [Nat.mul_add,Nat.mul_one]);rcases (show q=1\/2<=q by omega) with rfl | b
   ·omega
   ·have g:2*k<=q*k:=Nat.mul_le_mul_right k b;omega
def shares {α:Type} (l:List α) (most:Nat):List (List α):=sh ((l.length+most - 1) / most) l
theorem Hx {α:Type} (l:List α) (a:Nat) (b:0 < a):l.length<=(l.length+a - 1) / a*a/\(l.length+a - 1) / a<=l.length/\(0 < l.length->0 < (l.length+a - 1) / a):=by
 have c:=Nat.div_add_mod (l.length+a - 1) a;have d:=Nat.mod_lt (l.length+a - 1) b;have f:a*((l.length+a - 1) / a)=(l.length+a - 1) / a*a:=Nat.mul_comm _ _;refine ⟨by omega,?_,fun g=> ?_⟩
 ·rcases Nat.eq_zero_or_pos l.length with h | h
  ·rw [h,Nat.div_eq_of_lt (by omega)];exact Nat.le_refl _
  ·have:=Agx l.length (a - 1);rw [show a - 1+1=a by omega,show l.length+(a - 1)=l.length+a - 1 by omega] at this;exact this
 ·rw [Nat.div_pos_iff];omega
end Go.Proofs.YtolgpnaoaodepaaGreat.Tr
namespace Go.Proofs.YtolgpnaoaodepaaGreat
open Go.RowKit
structure Ph (B:Nat) (w:World) (vs:List Value) (ls:List (List (ByteArray×ByteArray))):Prop where
 n:vs.length=ls.length
 o:∀i (h:i < vs.length) (h':i < ls.length),Ak B w (vs[i]'h) (ls[i]'(h'))
 a:vs.Pairwise fun u v=>∀g,u.ownBlock=some g->v.ownBlock≠some g
theorem Ph.keep {B:Nat} {w w':World} {vs:List Value} {ls:List (List (ByteArray×ByteArray))} (h:Ph B w vs ls) {F:Nat->Prop} (m:Mod F w w') (c:∀v∈vs,∀g,v.ownBlock=some g->¬F g):Ph B w' vs ls:=
 ⟨h.n,fun i hi b=> m.row (h.o i hi b) (c _ (List.getElem_mem hi)),h.a⟩
theorem Ph.lt {B:Nat} {w:World} {vs:List Value} {ls:List (List (ByteArray×ByteArray))} (h:Ph B w vs ls) {v:Value} (a:v∈vs) (g:Nat) (b:v.ownBlock=some g):B<=g/\g < w.heap.size:=by
 obtain ⟨i,hi,rfl⟩:=List.getElem_of_mem a;exact World.ownsRow.lt (h.o i hi (by have:=h.n;omega)) g b
theorem Ph.snoc {B:Nat} {w:World} {vs:List Value} {ls:List (List (ByteArray×ByteArray))} (h:Ph B w vs ls) {v:Value} {l:List (ByteArray×ByteArray)} (k:Ak B w v l) (m:∀u∈vs,∀g,u.ownBlock=some g->v.ownBlock≠some g):Ph B w (vs++[v]) (ls++[l]):=by
 refine ⟨by simp [h.n],fun i hi f=> ?_,List.pairwise_append.2 ⟨h.a,by simp,fun u j x c=> by simp at c;subst c;exact m u j⟩⟩;by_cases d:i < vs.length
 ·rw [List.getElem_append_left d,List.getElem_append_left (by have:=h.n;omega)];exact h.o i d _
 ·have b:i=vs.length:=by simp at hi;omega
  subst b;rw [List.getElem_append_right (Nat.le_refl _),List.getElem_append_right (by have:=h.n;omega)];simpa [h.n] using k
theorem Aly (B:Nat) (w:World):Ph B w [] []:=⟨rfl,fun i hi=> by simp at hi,List.Pairwise.nil⟩
structure ShQ (B:Nat) (w:World) (v:Value) (vs:List Value) (ls:List (List (ByteArray×ByteArray))):Prop where
 row:w.ownsRow B 30 1 v vs.length vs
 many:Ph B w vs ls
set_option maxHeartbeats 1000000 in
set_option maxRecDepth 20000 in
theorem Ae7 (g o n c:Nat) (il:List (ByteArray×ByteArray)) (d:Nat) (w:World) (hn:il.length=n) (hc:n<=c) (hb:n<=2000000) (hm:0 < d) (c1:d<=100) (hs:∀j u,(icells il)[j]?=some u->w.cell? ⟨g,o+j,none⟩=some u) (V:g < w.heap.size):
  Calls Tryz.prog 176 #[.slice (some ⟨g,o,none⟩) n c,.int .i64 (d:Nat)] w fun r w'=>∃v vs,r= .returned v/\ShQ w.heap.size w' v vs (Tr.shares il d)/\Below w.heap.size w w':=by
 subst hn;obtain ⟨O,a5,-⟩:=Tr.Hx il d hm;obtain ⟨K,X⟩:∃K,K=(il.length+d - 1) / d:=⟨_,rfl⟩;have Z:Hid (Tr.shares il d=Tr.sh K il):=by show _=_;unfold Tr.shares;rw [X]
 have b1:((il.length:Int)+(d:Int) - 1).tdiv (d:Int)=(K:Int):=by
  rw [show (il.length:Int)+(d:Int) - 1=((il.length+d - 1:Nat):Int) by omega,X];exact Int.ofNat_tdiv _ _
 rw [<-X] at O a5;clear X O;have HS:=hid hs;clear hs;have b2:¬(d:Int)=0:=by omega
 go_enter Tryz.func176,Tryz.ntmps176;go_wp2_with fail
 go_loopw [0,5,6] (fun t0 t5 t6 wr=>∃(m b:Nat) (a:Addr) (vs:List Value) (ls:List (List (ByteArray×ByteArray))),t6= .int .i64 (m:Nat)/\b+m<=il.length/\t0= .slice (some a) (il.length - b) (c - b)/\(il.length - b=0\/a=⟨g,o+b*2,none⟩)/\ShQ w.heap.size wr t5 vs ls/\Hid (ls++Tr.sh m (il.drop b)=Tr.shares il d)/\ls.length<=K/\ls.length+m=K/\Below w.heap.size w wr) (fun _ _ i _=> (intOf i).toNat)
 case atStart=> exact ⟨K,0,⟨g,o,none⟩,[],[],rfl,by omega,rfl,.inr (by simp),⟨World.ownsRow_nil _ _ _ _,Aly _ _⟩,by show _=_;rw [Z.out];rfl,by simp,by simp,Below.refl _ _⟩
 case round=>
  obtain ⟨m,b,a,vs,ls,rfl,b8,rfl,ha,R,y,b9,c0,l⟩:=hrel;have L:=hid R;have W:=hid l;have B:=l.size;clear R l;by_cases a7:m=0
  ·subst a7;have HF:Hid (ls=Tr.shares il d):=by
    show _=_;rw [<-y.out];simp [Tr.sh]
   clear y;go_wp2_with fail;go_ret;exact ⟨_,vs,rfl,by rw [<-HF.out];exact L.out,W.out⟩
  ·have a0:a=⟨g,o+b*2,none⟩:=ha.resolve_left (by omega);subst a0;clear ha;obtain ⟨q,S⟩:∃q,q=(il.length - b+(m - 1)) / (m - 1+1):=⟨_,rfl⟩;have b3:(((il.length - b:Nat):Int)+(m:Int) - 1).tdiv (m:Int)=(q:Int):=by
    rw [show ((il.length - b:Nat):Int)+(m:Int) - 1=((il.length - b+(m - 1):Nat):Int) by omega,show (m:Int)=((m - 1+1:Nat):Int) by omega,S];exact Int.ofNat_tdiv _ _
   have a8:q<=il.length - b:=(by rw [S];exact Tr.Agx _ _);have C:(il.drop b).length=il.length - b:=List.length_drop;have HN:Hid ((ls++[(il.drop b).take q])++Tr.sh (m - 1) (il.drop (b+q))=Tr.shares il d):=by
    show _=_;rw [<-y.out,List.append_assoc];congr 1
    conv=> rhs;rw [show m=m - 1+1 by omega,Tr.sh]
    rw [C,<-S,List.drop_drop];rfl
   have a1:b+q+(m - 1)<=il.length:=by
    have h1:q*(m - 1+1)<=il.length - b+(m - 1):=(by rw [S];exact Nat.div_mul_le_self _ _);have h2:q*(m - 1+1)=q*(m - 1)+q:=(by rw [Nat.mul_add,Nat.mul_one]);rcases (show q=0\/q=1\/2<=q by omega) with h | h | h
    ·omega
    ·omega
    ·have h3:2*(m - 1)<=q*(m - 1):=Nat.mul_le_mul_right _ h;omega
   have a9:¬(m:Int)=0:=(by omega);have b4:(0:Int) < (m:Int):=(by omega);have b5:0 < m:=(by omega);have M:=hid (Agw ⟨g,o+b*2,none⟩ q (c - b) ((il.drop b).take q) wr (by rw [List.length_take,C];omega) (by omega) (fun j u U=> by
    rw [Cw,Nat.add_assoc];have a2:(icells il)[b*2+j]?=some u:=by
     rw [Kn _ _ (by omega),List.getElem?_take] at U;split at U
     ·rw [Uq _ _ (by omega),List.getElem?_drop] at U;exact U
     ·cases U
    exact (W.out.cell (p:=⟨g,o+(b*2+j),none⟩) V).trans (HS.out _ _ a2)) (Nat.lt_of_lt_of_le V B))
   clear S y C;have b6:q<=c - b:=(by omega);go_wp2_with fail;refine M.out.mono ?_;rintro r Y ⟨v1,rfl,G,s⟩;have b0:=s.size;have f:Hid (ShQ w.heap.size Y u5 vs ls):=⟨Aa L.out.row s (Nat.le_refl _),L.out.many.keep (Mod.of_below (F:=fun _=> False) s) (fun _ _ _ _ q=> q)⟩;have t:Hid (Ak w.heap.size Y v1 ((il.drop b).take q)):=Al G B;have N:Hid (∀u∈vs,∀g,u.ownBlock=some g->v1.ownBlock≠some g):=fun u I k J z=> by
    have h1:=(L.out.many.lt I k J).2;have h2:=(World.ownsRow.lt G k z).1;omega
   have D:=hid (W.out.trans (s.mono B));clear M s G;obtain ⟨x1,y1,z1,rfl⟩:=Ey t.out;have A:w.heap.size<=Y.heap.size:=D.out.size;have b7:vs.length<=2000000:=(by have:=f.out.many.n;omega);go_wp2_with (at_builtin;refine Iw Y rfl (.tmp 26) (.tmp 31) 68 30 Tryz.underlying68 _ 1 24 Ajl rfl (by decide) (by decide) rfl w.heap.size u5 vs.length vs rfl f.out.row [.slice x1 y1 z1] rfl (by intro u I;simp at I;subst I;rfl) rfl (by omega) A ?_;intro v2 w2 T H a6);have a3:Hid (ShQ w.heap.size w2 v2 (vs++[.slice x1 y1 z1]) (ls++[(il.drop b).take q])):=by
    have m2:=Mod.of_grown H;refine ⟨by rw [List.length_append];exact T,?_⟩;refine (f.out.many.snoc t.out N.out).keep m2 fun u I k J z=> ?_
    rcases List.mem_append.1 I with h | h
    ·obtain ⟨i,hi,rfl⟩:=List.getElem_of_mem h;exact Cn (f.out.many.o i hi (by have:=f.out.many.n;omega)) f.out.row (by decide) k J z
    ·simp at h;subst h;exact Cn t.out f.out.row (by decide) k J z
   have a4:Hid (Below w.heap.size w w2):=D.out.grown H A (fun k J=> (World.ownsRow.lt f.out.row k J).1);clear T H a6 f t N D L W;refine ⟨⟨m - 1,b+q,(if c - b=q then ⟨g,o+b*2,none⟩ else ⟨g,o+b*2+q*2,none⟩),_,_,?_,a1,?_,?_,a3.out,HN.out,by simp;omega,by simp;omega,a4.out⟩,by simp [intOf];omega⟩
   ·congr 1;omega
   ·rw [show il.length - (b+q)=il.length - b - q by omega,show c - (b+q)=c - b - q by omega];split <;> rfl
   ·by_cases h0:il.length - (b+q)=0
    ·exact .inl h0
    ·right;rw [if_neg (by omega)];congr 1;omega
theorem Ajq:(Tryz.prog.info? 121).map (fun i=> (i.zero,i.size,i.bytes))=some (some (.slice none 0 0),1,24):=by kernel_rfl
theorem Ni (l:List (ByteArray×Nat)) (i:Nat) (hi:i<=l.length):pcells (l.drop i)=(pcells l).drop (i*2):=by
 have h:pcells l=pcells (l.take i)++pcells (l.drop i):=by rw [<-Cg,List.take_append_drop]
 have a:(pcells (l.take i)).length=i*2:=by rw [Ar,List.length_take];omega
 rw [h,<-a,List.drop_left]
theorem Gx (l:List (ByteArray×Nat)) (i:Nat) (hi:i<=l.length):pcells (l.take i)=(pcells l).take (i*2):=by
 have h:pcells l=pcells (l.take i)++pcells (l.drop i):=by rw [<-Cg,List.take_append_drop]
 have a:(pcells (l.take i)).length=i*2:=by rw [Ar,List.length_take];omega
 rw [h,<-a,List.take_left]
set_option maxHeartbeats 400000 in
set_option maxRecDepth 20000 in
theorem Agy (b:Addr) (n c:Nat) (l:List (ByteArray×Nat)) (w:World) (D:l.length=n) (F:n<=20000000) (t:∀j u,(pcells l)[j]?=some u->w.cell? (b.add j)=some u) (o:b.block < w.heap.size):
  Calls Tryz.prog 231 #[.slice (some b) n c] w fun r w'=>∃v,r= .returned v/\Ap w.heap.size w' v l/\Below w.heap.size w w':=by
 subst D;have q:∀W,(binOp BinOp.eql 121 (.slice (some b) l.length c) (.slice none 0 0)).run Tryz.prog W= .ok (.bool false) W:=fun W=> Lib.run_eql_slice_some_nil W _ _ _ Tryz.underlying121
 have a:=hid ((Below.refl w.heap.size w).alloc (Nat.le_refl _) (.cells #[] 132));have g:=hid (Aba w 132 2);have i:Hid (∀j u,(pcells l)[j]?=some u->(w.alloc (.cells #[] 132)).cell? (b.add j)=some u):=fun j u B=> (a.out.cell (p:=b.add j) (by rw [show (b.add j).block=b.block by unfold Addr.add;split <;> rfl];exact o)).trans (t j u B)
 have y:Hid (w.heap.size<=(w.alloc (.cells #[] 132)).heap.size):=a.out.size;have z:Hid ((pcells l).length=l.length*2):=Ar l;clear t;go_enter Tryz.func231,Tryz.ntmps231;go_wp2_with (at_builtin;refine Nh _ rfl (.tmp 5) (.tmp 6) 121 132 Tryz.underlying121 _ 2 24 Fi rfl (by decide) (by decide) rfl w.heap.size (.slice (some ⟨w.heap.size,0,none⟩) 0 0) 0 [] rfl g.out b l.length c (pcells l) rfl z.out i.out (Ea l) (by omega) y.out ?_;intro v1 s d f m);have A:Hid (Ap w.heap.size s v1 l/\Below w.heap.size w s):=by
  refine ⟨?_,a.out.grown f a.out.size (fun k C=> by cases C;exact Nat.le_refl _)⟩;unfold Ap;simpa using d
 clear d f m;go_ret;exact ⟨v1,rfl,A.out⟩
structure Kp (B:Nat) (w:World) (vs:List Value) (ls:List (List (ByteArray×Nat))):Prop where
 n:vs.length=ls.length
 o:∀i (h:i < vs.length) (h':i < ls.length),Ap B w (vs[i]'h) (ls[i]'(h'))
 a:vs.Pairwise fun u v=>∀g,u.ownBlock=some g->v.ownBlock≠some g
theorem Kp.keep {B:Nat} {w w':World} {vs:List Value} {ls:List (List (ByteArray×Nat))} (h:Kp B w vs ls) {F:Nat->Prop} (m:Mod F w w') (c:∀v∈vs,∀g,v.ownBlock=some g->¬F g):Kp B w' vs ls:=
 ⟨h.n,fun i hi b=> m.row (h.o i hi b) (c _ (List.getElem_mem hi)),h.a⟩
theorem Kp.lt {B:Nat} {w:World} {vs:List Value} {ls:List (List (ByteArray×Nat))} (h:Kp B w vs ls) {v:Value} (a:v∈vs) (g:Nat) (b:v.ownBlock=some g):B<=g/\g < w.heap.size:=by
 obtain ⟨i,hi,rfl⟩:=List.getElem_of_mem a;exact World.ownsRow.lt (h.o i hi (by have:=h.n;omega)) g b
theorem Kp.snoc {B:Nat} {w:World} {vs:List Value} {ls:List (List (ByteArray×Nat))} (h:Kp B w vs ls) {v:Value} {l:List (ByteArray×Nat)} (k:Ap B w v l) (m:∀u∈vs,∀g,u.ownBlock=some g->v.ownBlock≠some g):Kp B w (vs++[v]) (ls++[l]):=by
 refine ⟨by simp [h.n],fun i hi f=> ?_,List.pairwise_append.2 ⟨h.a,by simp,fun u j x c=> by simp at c;subst c;exact m u j⟩⟩;by_cases d:i < vs.length
 ·rw [List.getElem_append_left d,List.getElem_append_left (by have:=h.n;omega)];exact h.o i d _
 ·have b:i=vs.length:=by simp at hi;omega
  subst b;rw [List.getElem_append_right (Nat.le_refl _),List.getElem_append_right (by have:=h.n;omega)];simpa [h.n] using k
theorem Ajr (B:Nat) (w:World):Kp B w [] []:=⟨rfl,fun i hi=> by simp at hi,List.Pairwise.nil⟩
structure ShP (B:Nat) (w:World) (v:Value) (vs:List Value) (ls:List (List (ByteArray×Nat))):Prop where
 row:w.ownsRow B 121 1 v vs.length vs
 many:Kp B w vs ls
set_option maxHeartbeats 1000000 in
set_option maxRecDepth 20000 in
theorem Ae8 (g o n c:Nat) (il:List (ByteArray×Nat)) (d:Nat) (w:World) (hn:il.length=n) (hc:n<=c) (hb:n<=2000000) (hm:0 < d) (c1:d<=100) (hs:∀j u,(pcells il)[j]?=some u->w.cell? ⟨g,o+j,none⟩=some u) (V:g < w.heap.size):
  Calls Tryz.prog 177 #[.slice (some ⟨g,o,none⟩) n c,.int .i64 (d:Nat)] w fun r w'=>∃v vs,r= .returned v/\ShP w.heap.size w' v vs (Tr.shares il d)/\Below w.heap.size w w':=by
 subst hn;obtain ⟨O,a5,-⟩:=Tr.Hx il d hm;obtain ⟨K,X⟩:∃K,K=(il.length+d - 1) / d:=⟨_,rfl⟩;have Z:Hid (Tr.shares il d=Tr.sh K il):=by show _=_;unfold Tr.shares;rw [X]
 have b1:((il.length:Int)+(d:Int) - 1).tdiv (d:Int)=(K:Int):=by
  rw [show (il.length:Int)+(d:Int) - 1=((il.length+d - 1:Nat):Int) by omega,X];exact Int.ofNat_tdiv _ _
 rw [<-X] at O a5;clear X O;have HS:=hid hs;clear hs;have b2:¬(d:Int)=0:=by omega
 go_enter Tryz.func177,Tryz.ntmps177;go_wp2_with fail
 go_loopw [0,5,6] (fun t0 t5 t6 wr=>∃(m b:Nat) (a:Addr) (vs:List Value) (ls:List (List (ByteArray×Nat))),t6= .int .i64 (m:Nat)/\b+m<=il.length/\t0= .slice (some a) (il.length - b) (c - b)/\(il.length - b=0\/a=⟨g,o+b*2,none⟩)/\ShP w.heap.size wr t5 vs ls/\Hid (ls++Tr.sh m (il.drop b)=Tr.shares il d)/\ls.length<=K/\ls.length+m=K/\Below w.heap.size w wr) (fun _ _ i _=> (intOf i).toNat)
 case atStart=> exact ⟨K,0,⟨g,o,none⟩,[],[],rfl,by omega,rfl,.inr (by simp),⟨World.ownsRow_nil _ _ _ _,Ajr _ _⟩,by show _=_;rw [Z.out];rfl,by simp,by simp,Below.refl _ _⟩
 case round=>
  obtain ⟨m,b,a,vs,ls,rfl,b8,rfl,ha,R,y,b9,c0,l⟩:=hrel;have L:=hid R;have W:=hid l;have B:=l.size;clear R l;by_cases a7:m=0
  ·subst a7;have HF:Hid (ls=Tr.shares il d):=by
    show _=_;rw [<-y.out];simp [Tr.sh]
   clear y;go_wp2_with fail;go_ret;exact ⟨_,vs,rfl,by rw [<-HF.out];exact L.out,W.out⟩
  ·have a0:a=⟨g,o+b*2,none⟩:=ha.resolve_left (by omega);subst a0;clear ha;obtain ⟨q,S⟩:∃q,q=(il.length - b+(m - 1)) / (m - 1+1):=⟨_,rfl⟩;have b3:(((il.length - b:Nat):Int)+(m:Int) - 1).tdiv (m:Int)=(q:Int):=by
    rw [show ((il.length - b:Nat):Int)+(m:Int) - 1=((il.length - b+(m - 1):Nat):Int) by omega,show (m:Int)=((m - 1+1:Nat):Int) by omega,S];exact Int.ofNat_tdiv _ _
   have a8:q<=il.length - b:=(by rw [S];exact Tr.Agx _ _);have C:(il.drop b).length=il.length - b:=List.length_drop;have HN:Hid ((ls++[(il.drop b).take q])++Tr.sh (m - 1) (il.drop (b+q))=Tr.shares il d):=by
    show _=_;rw [<-y.out,List.append_assoc];congr 1
    conv=> rhs;rw [show m=m - 1+1 by omega,Tr.sh]
    rw [C,<-S,List.drop_drop];rfl
   have a1:b+q+(m - 1)<=il.length:=by
    have h1:q*(m - 1+1)<=il.length - b+(m - 1):=(by rw [S];exact Nat.div_mul_le_self _ _);have h2:q*(m - 1+1)=q*(m - 1)+q:=(by rw [Nat.mul_add,Nat.mul_one]);rcases (show q=0\/q=1\/2<=q by omega) with h | h | h
    ·omega
    ·omega
    ·have h3:2*(m - 1)<=q*(m - 1):=Nat.mul_le_mul_right _ h;omega
   have a9:¬(m:Int)=0:=(by omega);have b4:(0:Int) < (m:Int):=(by omega);have b5:0 < m:=(by omega);have M:=hid (Agy ⟨g,o+b*2,none⟩ q (c - b) ((il.drop b).take q) wr (by rw [List.length_take,C];omega) (by omega) (fun j u U=> by
    rw [Cw,Nat.add_assoc];have a2:(pcells il)[b*2+j]?=some u:=by
     rw [Gx _ _ (by omega),List.getElem?_take] at U;split at U
     ·rw [Ni _ _ (by omega),List.getElem?_drop] at U;exact U
     ·cases U
    exact (W.out.cell (p:=⟨g,o+(b*2+j),none⟩) V).trans (HS.out _ _ a2)) (Nat.lt_of_lt_of_le V B))
   clear S y C;have b6:q<=c - b:=(by omega);go_wp2_with fail;refine M.out.mono ?_;rintro r Y ⟨v1,rfl,G,s⟩;have b0:=s.size;have f:Hid (ShP w.heap.size Y u5 vs ls):=⟨Aa L.out.row s (Nat.le_refl _),L.out.many.keep (Mod.of_below (F:=fun _=> False) s) (fun _ _ _ _ q=> q)⟩;have t:Hid (Ap w.heap.size Y v1 ((il.drop b).take q)):=Al G B;have N:Hid (∀u∈vs,∀g,u.ownBlock=some g->v1.ownBlock≠some g):=fun u I k J z=> by
    have h1:=(L.out.many.lt I k J).2;have h2:=(World.ownsRow.lt G k z).1;omega
   have D:=hid (W.out.trans (s.mono B));clear M s G;obtain ⟨x1,y1,z1,rfl⟩:=Ey t.out;have A:w.heap.size<=Y.heap.size:=D.out.size;have b7:vs.length<=2000000:=(by have:=f.out.many.n;omega);go_wp2_with (at_builtin;refine Iw Y rfl (.tmp 26) (.tmp 31) 230 121 Tryz.underlying230 _ 1 24 Ajq rfl (by decide) (by decide) rfl w.heap.size u5 vs.length vs rfl f.out.row [.slice x1 y1 z1] rfl (by intro u I;simp at I;subst I;rfl) rfl (by omega) A ?_;intro v2 w2 T H a6);have a3:Hid (ShP w.heap.size w2 v2 (vs++[.slice x1 y1 z1]) (ls++[(il.drop b).take q])):=by
    have m2:=Mod.of_grown H;refine ⟨by rw [List.length_append];exact T,?_⟩;refine (f.out.many.snoc t.out N.out).keep m2 fun u I k J z=> ?_
    rcases List.mem_append.1 I with h | h
    ·obtain ⟨i,hi,rfl⟩:=List.getElem_of_mem h;exact Cn (f.out.many.o i hi (by have:=f.out.many.n;omega)) f.out.row (by decide) k J z
    ·simp at h;subst h;exact Cn t.out f.out.row (by decide) k J z
   have a4:Hid (Below w.heap.size w w2):=D.out.grown H A (fun k J=> (World.ownsRow.lt f.out.row k J).1);clear T H a6 f t N D L W;refine ⟨⟨m - 1,b+q,(if c - b=q then ⟨g,o+b*2,none⟩ else ⟨g,o+b*2+q*2,none⟩),_,_,?_,a1,?_,?_,a3.out,HN.out,by simp;omega,by simp;omega,a4.out⟩,by simp [intOf];omega⟩
   ·congr 1;omega
   ·rw [show il.length - (b+q)=il.length - b - q by omega,show c - (b+q)=c - b - q by omega];split <;> rfl
   ·by_cases h0:il.length - (b+q)=0
    ·exact .inl h0
    ·right;rw [if_neg (by omega)];congr 1;omega
def blk (v:Value):List Nat:=match v.ownBlock with
 | some g=> [g]
 | none=> []
theorem Af {v:Value} {g:Nat}:g∈blk v↔v.ownBlock=some g:=by
 unfold blk
 cases v.ownBlock with
 | none=> simp
 | some k=> simp [eq_comm]
theorem Dy (v:Value):(blk v).Nodup:=by
 unfold blk
 cases v.ownBlock <;> simp
def Cc {α:Type} (R:Nat->α->List Nat->Prop):List (ByteArray×Nat)->List (Tr.Key×α)->List Nat->Prop
 | [],[],G=> G=[]
 | x::pl,y::ps,G=> x.1.data.toList=y.1/\∃G1 G2,R x.2 y.2 G1/\Cc R pl ps G2/\G=G1++G2
 | _,_,_=> False
theorem Cc.len {α:Type} {R:Nat->α->List Nat->Prop}:∀{pl:List (ByteArray×Nat)} {a:List (Tr.Key×α)} {G:List Nat},Cc R pl a G->pl.length=a.length
 | [],[],_,_=> rfl
 | _::_,_::_,_,⟨_,_,_,_,h,_⟩=> by rw [List.length_cons,List.length_cons,h.len]
 | [],_::_,_,h=> h.elim
 | _::_,[],_,h=> h.elim
theorem Cc.keys {α:Type} {R:Nat->α->List Nat->Prop}:∀{pl:List (ByteArray×Nat)} {a:List (Tr.Key×α)} {G:List Nat},Cc R pl a G->pkeys pl=a.map (·.1)
 | [],[],_,_=> rfl
 | x::pl,y::a,_,⟨e,_,_,_,h,_⟩=> by
  have:=h.keys;unfold pkeys at*;rw [List.map_cons,List.map_cons,this,e]
 | [],_::_,_,h=> h.elim
 | _::_,[],_,h=> h.elim
theorem Cc.imp {α:Type} {R c:Nat->α->List Nat->Prop}:∀{pl:List (ByteArray×Nat)} {b:List (Tr.Key×α)} {G:List Nat},Cc R pl b G->(∀p t F,(∀g∈F,g∈G)->R p t F->c p t F)->Cc c pl b G
 | [],[],_,h,_=> h
 | _::_,_::_,_,⟨e,G1,G2,h1,h2,rfl⟩,hR=> ⟨e,G1,G2,hR _ _ _ (fun _ a=> List.mem_append_left _ a) h1,h2.imp fun p t F d=> hR p t F fun g a=> List.mem_append_right _ (d g a),rfl⟩
 | [],_::_,_,h,_=> h.elim
 | _::_,[],_,h,_=> h.elim
theorem Cc.append {α:Type} {R:Nat->α->List Nat->Prop} {B:List (ByteArray×Nat)} {Bs:List (Tr.Key×α)} {a:List Nat} (c:Cc R B Bs a):∀{A:List (ByteArray×Nat)} {As:List (Tr.Key×α)} {b:List Nat},Cc R A As b->Cc R (A++B) (As++Bs) (b++a)
 | [],[],_,h=> by rw [show _=[] from h];exact c
 | _::_,_::_,_,⟨e,F1,F2,h1,h2,rfl⟩=> ⟨e,F1,F2++a,h1,Cc.append c h2,by rw [List.append_assoc]⟩
 | [],_::_,_,h=> h.elim
 | _::_,[],_,h=> h.elim
theorem Cc.split {α:Type} {R:Nat->α->List Nat->Prop} {Bs:List (Tr.Key×α)}:∀{As:List (Tr.Key×α)} {pl:List (ByteArray×Nat)} {G:List Nat},Cc R pl (As++Bs) G->∃A B a b,pl=A++B/\A.length=As.length/\Cc R A As a/\Cc R B Bs b/\G=a++b
 | [],pl,G,h=> ⟨[],pl,[],G,rfl,rfl,rfl,h,rfl⟩
 | y::As,x::pl,G,⟨e,F1,F2,h1,h2,hG⟩=> by
  obtain ⟨A,B,a,b,rfl,c,d,f,rfl⟩:=Cc.split h2;exact ⟨x::A,B,F1++a,b,rfl,by rw [List.length_cons,List.length_cons,c],⟨e,F1,a,h1,d,rfl⟩,f,by rw [hG,List.append_assoc]⟩
 | _::_,[],_,h=> h.elim
def Rep:(h:Nat)->World->Nat->Tr.Ac h->List Nat->Prop
 | 0,w,p,l,F=>∃vi il,An w p vi (.slice none 0 0) (.slice none 0 0)/\Ak 0 w vi il/\plain il=l/\F=p::blk vi
 | h+1,w,p,(ps,cs),F=>∃vp vc pl ml G,An w p (.slice none 0 0) vp vc/\Ap 0 w vp pl/\Au 0 w vc ml/\plainCh ml=cs/\Cc (Rep h w) pl ps G/\F=p::(blk vp++(blk vc++G))
theorem wgA {h:Nat} {w:World} (H:∀ {p:Nat} {t:Tr.Ac h} {F:List Nat},Rep h w p t F->∀g∈F,g < w.heap.size):∀(pl:List (ByteArray×Nat)) (ps:List (Tr.Key×Tr.Ac h)) (G:List Nat),Cc (Rep h w) pl ps G->∀g∈G,g < w.heap.size
 | [],[],_,hk,g,hg=> by rw [show _=[] from hk] at hg;cases hg
 | _::pl,_::ps,_,⟨_,G1,G2,h1,h2,rfl⟩,g,hg=> by
  rcases List.mem_append.1 hg with hg | hg
  ·exact H h1 g hg
  ·exact wgA H pl ps G2 h2 g hg
 | [],_::_,_,h,_,_=> h.elim
 | _::_,[],_,h,_,_=> h.elim
theorem Rep.lt:∀{h:Nat} {w:World} {p:Nat} {t:Tr.Ac h} {F:List Nat},Rep h w p t F->∀g∈F,g < w.heap.size
 | 0,_,_,_,_,⟨vi,il,h1,h2,_,rfl⟩,g,a=> by
  rcases List.mem_cons.1 a with rfl | a
  ·exact h1.lt
  ·exact (World.ownsRow.lt h2 g (Af.1 a)).2
 | h+1,_,_,(ps,cs),_,⟨vp,vc,pl,ml,G,h1,h2,h3,_,h4,rfl⟩,g,a=> by
  rcases List.mem_cons.1 a with rfl | a
  ·exact h1.lt
  ·rcases List.mem_append.1 a with a | a
   ·exact (World.ownsRow.lt h2 g (Af.1 a)).2
   ·rcases List.mem_append.1 a with a | a
    ·exact (World.ownsRow.lt h3 g (Af.1 a)).2
    ·exact wgA (fun q=>Rep.lt (h:=h) q) pl ps G h4 g a
theorem Rep.keep:∀{h:Nat} {w w':World} {p:Nat} {t:Tr.Ac h} {F:List Nat},Rep h w p t F->(∀g∈F,w'.heap[g]?=w.heap[g]?)->Rep h w' p t F
 | 0,_,_,p,_,_,⟨vi,il,h1,h2,e,rfl⟩,hs=> ⟨vi,il,(hs p (List.mem_cons_self ..)).trans h1,Bz h2 fun g a _=> hs g (List.mem_cons_of_mem _ (Af.2 a)),e,rfl⟩
 | _+1,_,_,p,(_,_),_,⟨vp,vc,pl,ml,G,h1,h2,h3,e,h4,rfl⟩,hs=>
  ⟨vp,vc,pl,ml,G,(hs p (List.mem_cons_self ..)).trans h1,Bz h2 fun g a _=> hs g (List.mem_cons_of_mem _ (List.mem_append_left _ (Af.2 a))),Bz h3 fun g a _=> hs g (List.mem_cons_of_mem _ (List.mem_append_right _ (List.mem_append_left _ (Af.2 a)))),e,
   h4.imp fun _ _ _ b c=> Rep.keep c fun g a=> hs g (List.mem_cons_of_mem _ (List.mem_append_right _ (List.mem_append_right _ (b g a)))),rfl⟩
end Go.Proofs.YtolgpnaoaodepaaGreat
