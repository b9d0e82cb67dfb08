import Derived.Test.YtolgpnaoaodepaaGreatLawMm
set_option maxHeartbeats 2000000
set_option maxRecDepth 20000
namespace Go.Proofs.YtolgpnaoaodepaaGreat
open Go.RowKit Tr
variable {b j k:gY}{g:hJ}{a l r:Nat}{w m n p:World}{e:TypeId}{c:Array Oper}{d:Oper}{f:Act}{K:Act->World->Prop}{Q:Exit->Act->World->Prop}{E:Prop}{q:Option Nat}
structure Yk(il A B:gY)(key:hJ):Prop where
 e:il=A++B
 a:∀x∈A,x.1.data.toList<key.data.toList
 b:∀x∈B,¬x.1.data.toList<key.data.toList
def Dt(B:gY)(key:hJ):Bool:=match B with
 | []=>false
 | x::_=>decide (x.1.data.toList=key.data.toList)
theorem YD(i:∀x (h:x<b.length),x<a->(b[x]'h).1.data.toList<g.data.toList)(j:∀x (h:x<b.length),a<=x->¬(b[x]'h).1.data.toList<g.data.toList):Yk b (b.take a) (b.drop a) g:=by
 refine⟨(zK a b).symm,fun x f=> ?_,fun x f=> ?_⟩
 ·obtain⟨c,d,rfl⟩:=jK f;rw[List.getElem_take];simp at d;exact i c O_ O_
 ·obtain⟨c,d,rfl⟩:=jK f;rw[List.getElem_drop];simp at d;exact j (a+c) O_ O_
theorem IV(h:Tr.Cb (Ab b)){x:Nat}(c:a<b.length)(d:x<a):(b[x]'O_).1.data.toList<(b[a]'c).1.data.toList:=by have:=(wK.1 h) x a (by simp[Ab];omega) (by simpa[Ab]using c) d;simpa[Ab]using this
theorem SU(N:Nat)(v:Value)(b:gY)(d:hJ)(w:World)(D:Ap N w v b)(b7:b.length<=1000000000)(O:Tr.Cb (Ab b)):
  Calls Tryz.prog 192 #[v,B_ d,.func (.func 193) #[] #[]] w fun A a7=>(∃L M,Yk b L M d/\A=R_ (.tuple #[J_ (L.length:Nat),.bool (Dt M d)]))/\Below w.heap.size w a7:=by
 obtain⟨Y,Z,rfl⟩:=Ad D;have R:=Aa D;have F:=Aa O;clear D O;go_in;go_wp2_with fail
 go_loopw [9,10] (fun a8 a9 wr=>∃c a:Nat,c<=a/\a<=b.length/\a8=J_ c/\a9=J_ a/\Hid (∀x (h:x<b.length),x<c->(b[x]'h).1.data.toList<d.data.toList)/\Hid (∀x (h:x<b.length),a<=x->¬(b[x]'h).1.data.toList<d.data.toList)/\Below w.heap.size w wr) (fun c a _=>(intOf a).toNat-(intOf c).toNat)
 case atStart=>exact⟨0,b.length,Y_,X_,rfl,rfl,fun x _ h=>O_,fun x h q=>O_,xA _ _⟩
 case round=>
  obtain⟨c,a,b5,a0,rfl,rfl,z,q,r⟩:=hrel;have l:=Aa r;have G:=r.size;have o:Hid (Ap N wr (L_ Y b.length Z) b):=Ae R.o r X_;clear r;by_cases b6:c<a
  ·have b2:(c+a) / 2<a:=O_;have S:c<=(c+a) / 2:=O_;have j:(c+a) / 2<b.length:=O_;obtain⟨a1,a2,e,a3,a4,a5,s,t⟩:=o.o.at ((c+a) / 2) j;simp only[xJ]at e;obtain⟨rfl,-,rfl⟩:=e;have T:=Aa (show(b[(c+a) / 2]'j).1=(b[(c+a) / 2]'j).1 from rfl);generalize k:(b[(c+a) / 2]'j).1=g at s;generalize(b[(c+a) / 2]'j).2=C at t;go_wp2_with fail;refine(Zt g C d _).mono ?_;rintro A a6 ⟨rfl,m⟩;have p:=Aa (l.o.trans (m.mono G));clear m s t T o l;by_cases i:g.data.toList<d.data.toList
   ·have H:Lib.compareBytes g.data.toList d.data.toList<0:=(BL _ _).2 i;have U:Hid (∀x (h:x<b.length),x<(c+a) / 2+1->(b[x]'h).1.data.toList<d.data.toList):=fun x J b0=>by
     rcases jX x ((c+a) / 2)with f|f
     ·have:=IV F.o j f;rw[k]at this;exact Tr.Ei this i
     ·have:x=(c+a) / 2:=O_;subst this;rw[k];exact i
    clear i k;generalize Lib.compareBytes g.data.toList d.data.toList=b1 at*;go_wp2_with fail
    go_roundw
    case rel=>exact⟨(c+a) / 2+1,a,O_,a0,W_,rfl,U.o,q,p.o⟩
    case measure=>simp[intOf];omega
   ·have H:¬Lib.compareBytes g.data.toList d.data.toList<0:=fun f=>i ((BL _ _).1 f)
    have b3:decide (Lib.compareBytes g.data.toList d.data.toList<0)=false:=xN H;have V:Hid (∀x (h:x<b.length),(c+a) / 2<=x->¬(b[x]'h).1.data.toList<d.data.toList):=fun x J b0=>by
     rcases jX ((c+a) / 2) x with f|f
     ·have:=IV F.o J f;rw[k]at this;exact fun B=>i (Tr.Ei this B)
     ·have:x=(c+a) / 2:=O_;subst this;rw[k];exact i
    clear i k;generalize Lib.compareBytes g.data.toList d.data.toList=b1 at*;go_wp2_with fail
    go_roundw
    case rel=>exact⟨c,(c+a) / 2,S,O_,rfl,W_,z,V.o,p.o⟩
    case measure=>simp[intOf];omega
  ·have W:a=c:=O_;subst W;have I:=Aa (YD z.o q.o);clear z q;by_cases n:a<b.length
   ·obtain⟨a1,a2,e,a3,a4,a5,s,t⟩:=o.o.at a n;simp only[xJ]at e;obtain⟨rfl,-,rfl⟩:=e;have u:Hid (Dt (b.drop a) d=decide ((b[a]'n).1.data.toList=d.data.toList)):=by
     show _=_;rw[yM n];rfl
    generalize(b[a]'n).1=g at*;generalize(b[a]'n).2=C at*;go_wp2_with fail;refine(Zt g C d _).mono ?_;rintro A a6 ⟨rfl,m⟩;have p:=Aa (l.o.trans (m.mono G));clear m s t o l;have X:Hid ((Lib.compareBytes g.data.toList d.data.toList==0)=decide (g.data.toList=d.data.toList)):=by
     show _=_;by_cases f:g.data.toList=d.data.toList
     ·rw[xQ f,(DI _ _).2 f];rfl
     ·rw[xN f];exact beq_false_of_ne fun B=>f ((DI _ _).1 B)
    have y:Hid ((b.take a).length=a):=(by show _=_;simp;omega);go_wp2_with fail;go_ret2;exact⟨⟨_,_,I.o,by rw[u.o,<-X.o,y.o];rfl⟩,p.o⟩
   ·have b4:a=b.length:=O_;have u:Hid (Dt (b.drop a) d=false):=by
     show _=_;rw[kB O_];rfl
    have y:Hid ((b.take a).length=a):=(by show _=_;simp;omega);go_wp2_with fail;go_ret2;exact⟨⟨_,_,I.o,by rw[u.o,y.o];rfl⟩,l.o⟩
def Fc(il:gY)(key:hJ):gY:=il.takeWhile fun x=>decide (x.1.data.toList<key.data.toList)
def Dr(il:gY)(key:hJ):gY:=il.dropWhile fun x=>decide (x.1.data.toList<key.data.toList)
theorem Yk.cut(h:Yk b j k g):j=Fc b g/\k=Dr b g:=by
 obtain⟨rfl,d,a⟩:=h;unfold Fc Dr;have c:∀x∈j,decide (x.1.data.toList<g.data.toList)=true:=fun x f=>xQ (d x f)
 rw[gP c,gH c]
 match k,a with
 | [],_=>simp
 | x::r,a=>
  have:decide (x.1.data.toList<g.data.toList)=false:=xN (a x (xU ..));rw[List.takeWhile_cons,List.dropWhile_cons,this];simp
theorem Nf(a:gY)(c:hJ)(k:Tr.Cb (Ab a)):Yk a (Fc a c) (Dr a c) c:=by
 refine⟨(bN).symm,fun x b=> ?_,fun x b=> ?_⟩
 ·have:=List.all_takeWhile (p:=fun x:hJ×hJ=>decide (x.1.data.toList<c.data.toList)) (l:=a);exact jZ (zV.1 this x b)
 ·have d:=gK (fun x:hJ×hJ=>decide (x.1.data.toList<c.data.toList)) a;unfold Dr at b;have i:(a.dropWhile fun x:hJ×hJ=>decide (x.1.data.toList<c.data.toList)) <:+a:=wX _;have f:Tr.Cb (Ab (a.dropWhile fun x:hJ×hJ=>decide (x.1.data.toList<c.data.toList))):=by
   unfold Tr.Cb Ab at*;exact qP (i.sublist.map _) k
  generalize(a.dropWhile fun x:hJ×hJ=>decide (x.1.data.toList<c.data.toList))=g at*
  match g,b,d,f with
  | y::g,b,d,f=>
   simp at d;rcases xG.1 b with rfl|b
   ·exact qC.2 d
   ·have:=(zJ.1 f).1 (x.1.data.toList,x.2.data.toList) (xL.2 ⟨x,b,rfl⟩);exact fun j=>(qC.2 d) (Tr.Ei this j)
def Et(C:gY)(key:hJ):Option hE:=match C with
 | []=>none
 | x::_=>if x.1.data.toList=key.data.toList then some x.2.data.toList else none
theorem Wl(h:Yk b j k g)(f:Tr.Cb (Ab b)):Ce (Ab b) g.data.toList=Et k g:=by
 obtain⟨rfl,s,l⟩:=h;have m:Ab (j++k)=Ab j++Ab k:=by simp[Ab]
 rw[m,Hg,Df]
 ·match k,l,f with
  | [],_,_=>rfl
  | x::r,l,f=>
   show(Ce ((x.1.data.toList,x.2.data.toList)::Ab r) g.data.toList)=_;unfold Et;by_cases d:x.1.data.toList=g.data.toList
   ·simp only;rw[Ce,xD d,xD d]
   ·simp only;rw[Ce,xB d,xB d,Df];intro t c e;obtain⟨a,o,rfl⟩:=xL.1 c;rw[m]at f;have p:=(jN.1 f).2.1;have n:=(zJ.1 p).1 _ c;have q:¬x.1.data.toList<g.data.toList:=l x (xU ..);have i:a.1.data.toList=g.data.toList:=e;simp only[i]at n;exact q n
 ·intro t c e;obtain⟨a,o,rfl⟩:=xL.1 c;have:=s a o;have i:a.1.data.toList=g.data.toList:=e;rw[i]at this;exact Tr.lt_ir _ this
theorem Wm(k l:Nat)(c q r:Value)(a:gY)(b:hJ)(w:World)(h:Ax w k c q r)(f:Ap l w c a)(s:a.length<=1000000000)(i:Tr.Cb (Ab a)):
  Calls Tryz.prog 138 #[A_ k,B_ b] w fun g d=>g=R_ (.tuple #[J_ ((Fc a b).length:Nat),.bool (Dt (Dr a b) b)])/\Below w.heap.size w d:=by
 obtain⟨n,o,p,-⟩:=h.cells;have d:=Aa (SU l c a b w f s i);clear f i h;go_in;go_wp2_with fail;refine d.o.mono ?_;rintro g t ⟨⟨u,y,i,rfl⟩,j⟩;have m:=Aa j;have f:=Aa i.cut;clear i j d n o p;go_wp2_with fail;go_ret2;exact⟨by rw[<-f.o.1,<-f.o.2];rfl,m.o⟩
def StB(w:World)(b:Nat)(v:hJ)(t:Bool):Prop:=w.heap[b]?=some (C_ #[B_ v,.bool t] 136 (0,0))
theorem StB.lt{w:World}{a:Nat}{v:hJ}{i:Bool}(h:StB w a v i):a<w.heap.size:=(xS.1 h).1
theorem StB.cells{w:World}{a:Nat}{v:hJ}{i:Bool}(h:StB w a v i):w.cell? (Q_ a 0)=some (B_ v)/\w.cell? (Q_ a 1)=some (.bool i)/\w.frozen? (Q_ a 0)=false/\w.frozen? (Q_ a 1)=false:=by unfold StB at h;refine⟨?_,?_,?_,?_⟩<;>simp[World.cell?,World.frozen?,h]
theorem StB.put{v:hJ}{i:Bool}(h:StB w a v i)(b:hJ)(c:Bool):StB ((w.setCell (Q_ a 0) (B_ b)).setCell (Q_ a 1) (.bool c)) a b c:=by
 have d:(w.setCell (Q_ a 0) (B_ b)).heap[a]?=some (C_ #[B_ b,.bool i] 136 (0,0)):=by unfold StB at h;rw[Ak (i:=0) h];rfl
 unfold StB;rw[Ak (i:=1) d];rfl
theorem Zv(d r:Nat)(i s t:Value)(a:gY)(b:hJ)(w:World)(h:Ax w d i s t)(g:Ap r w i a)(I:a.length<=1000000000)(f:Tr.Cb (Ab a)):
  Calls Tryz.prog 78 #[A_ d,B_ b] w fun B c=>B=R_ (.agg #[B_ (stV (Ce (Ab a) b.data.toList)),.bool (stB (Ce (Ab a) b.data.toList))])/\Below w.heap.size w c:=by
 have j:=Aa (Nf a b f);rw[Wl j.o f];have c:=Aa ((xA w.heap.size w).alloc X_ (C_ #[B_ ⟨#[]⟩,.bool false] 136));have n:=Aa (Wm d r i s t a b (w.alloc (C_ #[B_ ⟨#[]⟩,.bool false] 136)) ((c.o.block d h.lt).trans h) (Ae g c.o X_) I f);have k:=Aa ((c.o.block d h.lt).trans h);have o:=Aa (Ae g c.o X_);have l:Hid (StB (w.alloc (C_ #[B_ ⟨#[]⟩,.bool false] 136)) w.heap.size ⟨#[]⟩ false):=xK _ _;clear h g f;go_in;go_wp2_with fail;refine n.o.mono ?_;generalize w.alloc (C_ #[B_ ⟨#[]⟩,.bool false] 136)=Y at*;rintro B f ⟨rfl,g⟩;have C:Hid (Ax f d i s t):=(g.block d (xS.1 k.o).1).trans k.o;have D:Hid (Ap r f i a):=Ae o.o g X_;have m:Hid (StB f w.heap.size ⟨#[]⟩ false):=(g.block _ l.o.lt).trans l.o;have u:=Aa (c.o.trans (g.mono c.o.size));clear g k o l c n;have l:=j.o.e;clear j;have F:Dt (Dr a b) b=false/\Et (Dr a b) b=none\/Dt (Dr a b) b=true/\∃x j,Dr a b=x::j/\Et (Dr a b) b=some x.2.data.toList:=by
  cases p:Dr a b with
  | nil=>exact .inl ⟨rfl,rfl⟩
  | cons x j=>
   by_cases k:x.1.data.toList=b.data.toList
   ·exact .inr ⟨xQ k,x,j,rfl,by unfold Et;simp only;rw[xD k]⟩
   ·exact .inl ⟨xN k,by unfold Et;simp only;rw[xB k]⟩
 generalize Fc a b=q at*;obtain⟨J,L,M,-⟩:=C.o.cells;obtain⟨N,O,R,S⟩:=m.o.cells;have g:∀(v:hJ) (c:Bool),Below w.heap.size w ((f.setCell (Q_ w.heap.size 0) (B_ v)).setCell (Q_ w.heap.size 1) (.bool c)):=fun v c=>(u.o.setCell (p:=(Q_ w.heap.size 0)) X_ (B_ v)).setCell (p:=(Q_ w.heap.size 1)) X_ (.bool c)
 have y:=Aa g;clear g;have z:Hid (∀(v:hJ) (c:Bool),StB ((f.setCell (Q_ w.heap.size 0) (B_ v)).setCell (Q_ w.heap.size 1) (.bool c)) w.heap.size v c):=fun v c=>m.o.put v c
 clear m u;rcases F with⟨c,g⟩|⟨c,x,j,p,g⟩
 ·rw[c];have m:=Aa g;clear c g;obtain⟨n,o,-⟩:=(z.o ⟨#[]⟩ false).cells;go_wp2_with fail;refine yS (v:=.agg #[B_ ⟨#[]⟩,.bool false]) ?_ rfl ⟨by rw[m.o];rfl,y.o _ _⟩;simp[results,Tryz.results78,go_sem,n,o]
 ·rw[c];have m:=Aa g;clear c g;rw[p]at l;clear p;have u:q.length<a.length:=by rw[l];simp
  obtain⟨T,U,e,V,W,X,G,H⟩:=D.o.at q.length u;have A:a[q.length]'u=x:=by simp[l]
  rw[A]at G H;subst e;clear A;obtain⟨n,o,-⟩:=(z.o x.2 true).cells;go_wp2_with fail;refine yS (v:=.agg #[B_ x.2,.bool true]) ?_ rfl ⟨by rw[m.o];rfl,y.o _ _⟩;simp[results,Tryz.results78,go_sem,n,o]
section
variable {P:Program}
theorem Zw(w:World)(s I J l:TypeId)(m f g n L:Nat)(v:Value)(j:Nat)(b:Array Value)(o:TypeId)(a:hH)(p:P.underlying s=some (.slice l))(t:(P.info? l).map (·.size)=some m)(u:w.heap[f]?=some (.cells b o (0,0)))(M:j<=n)(N:Src m w v j a)(O:g+a.length<=b.size)(R:∀v∈a,v.oneCell'=true):
  (Builtin.copy_ #[s,I] J #[.slice (some ⟨f,g,none⟩) n L,v]).run P w=.ok (goInt j) (w.setRow f (b.toList.take g++a++b.toList.drop (g+a.length)).toArray):=by
 obtain⟨B,S,rfl,C,D⟩:=N;have y:Nat.min j n=j:=jL M;have z:=aP P f g o a 0 b w u (by simpa using O) R
 cases d:P.info? l with
 | none=>simp[d]at t
 | some i=>
  have A:i.size=m:=by simpa[d]using t
  rcases D with rfl|⟨F,G,rfl,T,H⟩
  ·obtain rfl:a=[]:=zT O_;have e:=setRow_self w f b o (0,0) u
   cases B with
   | none=>simp[Builtin.copy_,kG p,Builtin.lenOf,Builtin.firstCells,sizeOf,typeInfo,d,storeCells,e]
   | some ad=>
    have c:=wR (P:=P) w ad [] (fun q r k=>by simp at k);simp at c;simp[Builtin.copy_,kG p,Builtin.lenOf,Builtin.firstCells,sizeOf,typeInfo,d,c,storeCells,e]
  ·have c:=wR (P:=P) w ⟨F,G,none⟩ a (fun q r k=>by rw[Dy];exact H q r k);rw[C]at c;simp[Builtin.copy_,kG p,Builtin.lenOf,Builtin.firstCells,sizeOf,typeInfo,d,A,y,c,z]
theorem Gf(w:World)(q B C k:TypeId)(l g b r D m n s F o:Nat)(c:Array Value)(t:TypeId)(a:hH)(G:P.underlying q=some (.slice k))(u:(P.info? k).map (·.size)=some l)(H:w.heap[g]?=some (.cells c t (0,0)))(I:Nat.min s r=o)(J:a.length=o*l)(L:∀(d:Nat) (f:Value),a[d]?=some f->w.cell? ⟨m,n+d,none⟩=some f)(M:b+a.length<=c.size)(N:∀v∈a,v.oneCell'=true):
  (Builtin.copy_ #[q,B] C #[.slice (some ⟨g,b,none⟩) r D,.slice (some ⟨m,n,none⟩) s F]).run P w=.ok (goInt o) (w.setRow g (c.toList.take b++a++c.toList.drop (b+a.length)).toArray):=by
 have y:=aP P g b t a 0 c w H (by simpa using M) N
 cases j:P.info? k with
 | none=>simp[j]at u
 | some i=>
  have z:i.size=l:=by simpa[j]using u
  have p:=wR (P:=P) w ⟨m,n,none⟩ a (fun d f A=>by rw[Dy];exact L d f A);rw[J]at p;simp[Builtin.copy_,kG G,Builtin.lenOf,Builtin.firstCells,sizeOf,typeInfo,j,z,I,p,y]
theorem Qb(w:World)(k q l:TypeId)(a:Value)(g d f n r:Nat)(b:Array Value)(i:TypeId)(m:P.underlying k=some (.slice l))(s:∀w,(Go.zeroValue l).run P w=.ok a w)(j:(Builtin.zeroCells a.cells n).size=n*g)(t:∀v∈(Builtin.zeroCells a.cells n).toList,v.oneCell'=true)(o:w.heap[d]?=some (.cells b i (0,0)))(u:f+n*g<=b.size):
  (Builtin.clear_ #[k] q #[.slice (some ⟨d,f,none⟩) n r]).run P w=.ok (.tuple #[]) (w.setRow d (b.toList.take f++(Builtin.zeroCells a.cells n).toList++b.toList.drop (f+n*g)).toArray):=by
 have c:=aP P d f i (Builtin.zeroCells a.cells n).toList 0 b w o (by rw[jT,j];simpa using u) t;rw[jT,j,jW]at c
 match n,c with
 | 0,c=>
  have p:(Builtin.zeroCells a.cells 0).toList=[]:=by have:=j;simp at this;exact zT (by rw[jT];simp[Builtin.zeroCells])
  rw[p];simp[Builtin.clear_,kG m,setRow_self w d b i (0,0) o]
 | n+1,c=>simp[Builtin.clear_,kG m,s,c]
end
theorem Eg{t:Array Value}(h:w.heap[l]?=some (.cells t e (0,0)))(b:hH):(w.setRow l b.toArray).heap[l]?=some (.cells b.toArray e (0,0)):=aQ w l t _ e (0,0) h
theorem Cn(w:World)(a:Nat)(d:Array Value):w.grownBy (w.setRow a d) (some a):=by
 refine⟨rfl,rfl,rfl,by simp[World.setRow],fun b c c=> ?_⟩;have:a≠b:=fun e=>c (by rw[e])
 simp[World.setRow,fX,this]
section
variable {P:Program}
theorem Qc(w:World)(m:d.guard=none)(a x:Operand)(b g:TypeId)(n:d.op=Op.call {callee:=Callee.builtin Builtin.append,args:= #[a,x],argTypes:= #[b,g]})(v i:Value)(o:f.eval a=v)(p:f.eval x=i)(j:Value)(k:World)(q:(Builtin.append_ #[b,g] d.type #[v,i]).run P w=.ok j k)(h:K (f.put d.dst j) k):if Region.wanted d (yielded c f.tmps)=true then Oper.wp P d f w K Q else E:=by
 have l:Region.wanted d (yielded c f.tmps)=true:=by simp[Region.wanted,m]
 rw[xD l];unfold Oper.wp;simp[execOp,n,resolve,invoke,builtin,o,p,q,Result.andThen];exact h
theorem DK(w:World)(m:d.guard=none)(a x:Operand)(b g:TypeId)(n:d.op=Op.call {callee:=Callee.builtin Builtin.copy,args:= #[a,x],argTypes:= #[b,g]})(v i:Value)(o:f.eval a=v)(p:f.eval x=i)(j:Value)(k:World)(q:(Builtin.copy_ #[b,g] d.type #[v,i]).run P w=.ok j k)(h:K (f.put d.dst j) k):if Region.wanted d (yielded c f.tmps)=true then Oper.wp P d f w K Q else E:=by
 have l:Region.wanted d (yielded c f.tmps)=true:=by simp[Region.wanted,m]
 rw[xD l];unfold Oper.wp;simp[execOp,n,resolve,invoke,builtin,o,p,q,Result.andThen];exact h
theorem Ab6(w:World){rest:List Oper}(m:d.guard=none)(a x:Operand)(b g:TypeId)(n:d.op=Op.call {callee:=Callee.builtin Builtin.copy,args:= #[a,x],argTypes:= #[b,g]})(v i:Value)(o:f.eval a=v)(p:f.eval x=i)(j:Value)(k:World)(q:(Builtin.copy_ #[b,g] d.type #[v,i]).run P w=.ok j k)(h:wpList P c Q rest (f.put d.dst j) k):wpList P c Q (d::rest) f w:=by
 refine cW m fun K l=> ?_
 unfold Oper.wp;simp[execOp,n,resolve,invoke,builtin,o,p,q,Result.andThen];exact l _ _ h
theorem Ae9(w:World){rest:List Oper}(k:d.guard=none)(a:Operand)(b:TypeId)(l:d.op=Op.call {callee:=Callee.builtin Builtin.clear,args:= #[a],argTypes:= #[b]})(v:Value)(m:f.eval a=v)(g:Value)(i:World)(n:(Builtin.clear_ #[b] d.type #[v]).run P w=.ok g i)(h:wpList P c Q rest (f.put d.dst g) i):wpList P c Q (d::rest) f w:=by
 refine cW k fun K j=> ?_
 unfold Oper.wp;simp[execOp,l,resolve,invoke,builtin,m,n,Result.andThen];exact j _ _ h
end
theorem Rt{s:Nat}{u y:hH}(b:w.heap[a]?=some (.cells u.toArray e (0,0)))(c:r<=l)(d:l<=maxLen)(f:u.length=l*s)(g:u.take (r*s)=y)(i:y.length=r*s):w.ownsRow 0 e s (L_ (P_ a) r l) r y:=
 ⟨i,.inr ⟨a,l,u.toArray,rfl,Y_,b,c,d,by simpa using f,by simpa using g⟩⟩
theorem Dk:∀b a:gY,Al (b++a)=Al b++Al a
 | [],_=>rfl
 | x::r,a=>by show[Value.string x.1,Value.string x.2]++Al (r++a)=([Value.string x.1,Value.string x.2]++Al r)++Al a;rw[Dk r a,xT]
theorem Zx(a:gY)(b:Nat)(d:b<=a.length):Al (a.drop b)=(Al a).drop (b*2):=by
 have h:Al a=Al (a.take b)++Al (a.drop b):=by rw[<-Dk,zK]
 have c:(Al (a.take b)).length=b*2:=by rw[Bw,xR];omega
 rw[h,<-c,jQ]
theorem Ob(a:gY)(b:Nat)(d:b<=a.length):Al (a.take b)=(Al a).take (b*2):=by
 have h:Al a=Al (a.take b)++Al (a.drop b):=by rw[<-Dk,zK]
 have c:(Al (a.take b)).length=b*2:=by rw[Bw,xR];omega
 rw[h,<-c,jB]
theorem Yl(h:Ap 0 w (L_ (P_ l) b.length r) b)(f:Nat)(i:f<=b.length):∀c d,(Al (b.drop f))[c]?=some d->w.cell? (Q_ l (f*2+c))=some d:=by
 intro c d g;rw[Zx _ _ i,kZ]at g;have:=zD h (g:=l) rfl _ _ g
 rwa [Gv]at this
theorem Agy:∀w,(Go.zeroValue 51).run Tryz.prog w=.ok (.agg #[B_ ⟨#[]⟩,B_ ⟨#[]⟩]) w:=by intro w;obtain⟨c,a,b,d,f⟩:=zB Cg;simp[Go.zeroValue,typeInfo,a,b]
theorem Oc(b:Nat):(Builtin.zeroCells (Value.agg #[B_ ⟨#[]⟩,B_ ⟨#[]⟩]).cells b).size=b*2/\∀v∈(Builtin.zeroCells (Value.agg #[B_ ⟨#[]⟩,B_ ⟨#[]⟩]).cells b).toList,v.oneCell'=true:=by
 constructor
 ·rw[wS];rfl
 ·intro v c;simp only[Builtin.zeroCells,aX,xL]at c;obtain⟨a,_,rfl⟩:=c;show((#[Value.string ⟨#[]⟩,Value.string ⟨#[]⟩]:Array Value)[a % 2]!).oneCell'=true;rcases(show a % 2=0\/a % 2=1 by omega)with d|d<;>rw[d]<;>rfl
theorem OF(v:Value)(b:gY)(a:Nat)(w:World)(a3:a<b.length)(h:Ap 0 w v b)(a4:b.length<=20000000):
  Calls Tryz.prog 170 #[v,.int .i64 (a:Nat),.int .i64 ((a:Nat)+1)] w fun f d=>∃c,f=.returned c/\Ap 0 d c (b.take a++b.drop (a+1))/\w.grownBy d v.ownBlock/\c.ownBlock=v.ownBlock:=by
 rcases h.2 with⟨_,a2⟩|⟨c,d,g,rfl,R,u,S,p,y,F⟩
 ·omega
 have U:d<=9223372036854775807:=by unfold maxLen at p;omega
 obtain⟨C,N,Z,t,a0⟩:=zB Cg;obtain⟨o,a1,D⟩:∃o:Addr,(if d=a+1 then some ⟨c,0,none⟩else some ⟨c,(a+1)*2,none⟩)=some o/\∀f i,(Al (b.drop (a+1)))[f]?=some i->w.drew.cell? (o.add f)=some i:=by
  by_cases I:d=a+1
  ·refine⟨⟨c,0,none⟩,xD I,fun f i j=> ?_⟩;rw[kB O_]at j;simp[Al]at j
  ·refine⟨⟨c,(a+1)*2,none⟩,xB I,fun f i j=> ?_⟩;rw[Dy];exact Yl h (a+1) O_ f i j
 have z:(Al (b.drop (a+1))).length=(b.length-(a+1))*C.size:=by rw[Bw,xY,t]
 have l:g.toList.length=d*2:=by simpa using y
 have q:=fU (P:=Tryz.prog) w.drew 30 30 51 C zC N c a d g u o (b.length-(a+1)) (d-(a+1)) (Al (b.drop (a+1))) z D (Ew _) O_ (by rw[t,Bw,xY,y];omega);rw[t]at q;have V:a+(b.length-(a+1))=b.length-1:=O_;have m:(Al (b.drop (a+1))).length=(b.length-1-a)*2:=by rw[Bw,xY];omega
 have n:(g.toList.take (a*2)++Al (b.drop (a+1))++g.toList.drop (a*2+(Al (b.drop (a+1))).length)).length=d*2:=by simp only[xC,xR,xY,m,l];omega
 have r:(g.toList.take (a*2)++Al (b.drop (a+1))++g.toList.drop (a*2+(Al (b.drop (a+1))).length)).take ((b.length-1)*2)=Al (b.take a++b.drop (a+1)):=by rw[kE (by simp only[xC,xR,m,l];omega),yY (by simp only[xC,xR,m,l];omega),Dk,Ob _ _ O_];rw[<-F,jO];congr 2;omega
 generalize T:g.toList.take (a*2)++Al (b.drop (a+1))++g.toList.drop (a*2+(Al (b.drop (a+1))).length)=f at*;have A:=Aa (Eg (w:=w.drew) u f);have W:=Aa (Cn w.drew c f.toArray);have X:=Aa p;have J:=Aa n;have Y:=Aa r;have L:=Aa q;have M:Hid (∀k:hH,k.length=2->Ap 0 ((w.drew.setRow c f.toArray).setRow c (f.take ((b.length-1)*2)++(k++f.drop ((b.length-1)*2+2))).toArray) (.slice (some ⟨c,0,none⟩) (b.length-1) d) (b.take a++b.drop (a+1))/\w.grownBy ((w.drew.setRow c f.toArray).setRow c (f.take ((b.length-1)*2)++(k++f.drop ((b.length-1)*2+2))).toArray) (some c)):=by
  intro k O;have B:(b.take a++b.drop (a+1)).length=b.length-1:=K_;constructor
  ·unfold Ap;rw[B];refine Rt (Eg A.o _) O_ p ?_ ?_ (by rw[Bw,B])
   ·simp only[xC,xR,xY,n,O];omega
   ·rw[kE (by rw[xR,n];omega),jO,wN,r]
  ·have i:=Cn w.drew c f.toArray;have j:=Cn (w.drew.setRow c f.toArray) c (f.take ((b.length-1)*2)++(k++f.drop ((b.length-1)*2+2))).toArray;exact⟨j.os.trans i.os,j.tape.trans i.tape,j.output.trans i.output,xI i.size j.size,fun G H s=>(j.block G (yF H i.size) s).trans (i.block G H s)⟩
 clear q T u y F h p R n r D z l m;have m:a<=d:=O_;have n:(a:Int)<=(d:Int):=O_;have p:a+1<=b.length:=O_;have q:(a:Int)+1<=(b.length:Int):=O_;have r:(0:Int)<=(a:Int)+1:=O_;have u:a+1<=d:=O_;have s:((a:Int)==(a:Int)+1)=false:=K_
 go_in;go_upto_region 5 with fail
 go_region_law (refine Qc _ (by rfl) (.tmp 22) (.tmp 25) _ _ (by rfl) _ _ (by rfl) (by simp[Act.eval];rfl) _ _ L.o ?_)
 all_goals
  have y:¬d=b.length-1:=O_;have z:b.length-(b.length-1)=1:=O_;have D:b.length-1<=b.length:=O_;have F:b.length<=d:=S;go_wp2_with (refine Ae9 _ (by rfl) (.tmp 31) 30 (by rfl) _ (by rfl) _ _ (Qb _ _ _ 51 (.agg #[.string ⟨#[]⟩,.string ⟨#[]⟩]) 2 c ((b.length-1)*2) 1 (d-(b.length-1)) f.toArray 51 zC Agy (Oc 1).1 (Oc 1).2 A.o (by have:=J.o;simp;omega)) ?_);go_ret;have l:=M.o (Builtin.zeroCells #[Value.string ⟨#[]⟩,Value.string ⟨#[]⟩] 1).toList (by rw[jT,wS];rfl);exact⟨_,rfl,l.1,l.2,rfl⟩
theorem SV(a:m.grownBy n q)(b:n.grownBy p q):m.grownBy p q:=
 ⟨b.os.trans a.os,b.tape.trans a.tape,b.output.trans a.output,xI a.size b.size,fun c d f=>(b.block c (yF d a.size) f).trans (a.block c d f)⟩
theorem LK(b:m.grownBy n q)(c:n.grownBy p (some a))(i:m.heap.size<=a):m.grownBy p q:=
 ⟨c.os.trans b.os,c.tape.trans b.tape,c.output.trans b.output,xI b.size c.size,fun d f g=>(c.block d (yF f b.size) (fun e=>by have:=xM e;omega)).trans (b.block d f g)⟩
def Tp(il:gY)(i:Nat)(x:hJ×hJ):gY:=il.take i++x::il.drop i
theorem Wo(a:gY)(b:Nat)(x:hJ×hJ)(c:b<=a.length):(Tp a b x).length=a.length+1:=by simp[Tp];omega
theorem DL(a:gY)(b:Nat)(x:hJ×hJ):Al (Tp a b x)=Al (a.take b)++[B_ x.1,B_ x.2]++Al (a.drop b):=by unfold Tp;rw[Dk,xT];rfl
structure SW(v:Value)(l:gY)(w:World)(v':Value)(w':World):Prop where
 o:Ap 0 w' v' l
 g:w.grownBy w' v.ownBlock
 b:v'.ownBlock=v.ownBlock\/∃k,w.heap.size<=k/\v'.ownBlock=some k
theorem HD(v:Value)(a:gY)(x:hJ×hJ)(b:Nat)(w:World)(h:Ap 0 w v a)(G:a.length<=20000000)(j:w.heap[b]?=some (C_ #[B_ x.1,B_ x.2] 51 (0,0))):
  Calls Tryz.prog 171 #[v,J_ (a.length:Nat),L_ (P_ b) 1 1] w fun d f=>∃c,d=R_ c/\SW v (Tp a a.length x) w c f:=by
 have k:=Aa j;have l:=Aa h;have o:Hid (Tp a a.length x=a++[x]):=by show _=_;unfold Tp;simp
 rcases h.2 with⟨rfl,r⟩|⟨s,m,D,rfl,t,u,F,n,y,z⟩
 ·have p:a=[]:=zT r;subst p;clear h j;go_enter bX,cD;go_wp2_with (refine SK _ (by rfl) (.tmp 23) (.tmp 24) (by rfl) 0 Z_ [] (by rfl) l.o (L_ (P_ b) 1 1) [x] (by rfl) (.inr ⟨_,_,rfl,fun A B i=>by rw[Dy];unfold World.cell?;rw[k.o];simpa[Al]using i⟩) D_ Y_ ?_;intro c q d f g);go_ret;exact⟨c,rfl,by simpa[Tp]using d,f,g⟩
 ·have C:m<=9223372036854775807:=by unfold maxLen at n;omega
  clear h j u y z n t;go_enter bX,cD;go_wp2_with (refine SK _ (by rfl) (.tmp 23) (.tmp 24) (by rfl) 0 (L_ (P_ s) a.length m) a (by rfl) l.o (L_ (P_ b) 1 1) [x] (by rfl) (.inr ⟨_,_,rfl,fun A B i=>by rw[Dy];unfold World.cell?;rw[k.o];simpa[Al]using i⟩) K_ Y_ ?_;intro c q d f g)
  all_goals
   go_ret;exact⟨c,rfl,by rw[o.o];exact d,f,g⟩
theorem LL(c d:Nat)(b:gY)(a:Nat)(x:hJ×hJ)(g:Nat)(w:World)(a2:a<b.length)(S:b.length+1<=d)(h:Ap 0 w (.slice (some ⟨c,0,none⟩) b.length d) b)(a3:b.length<=20000000)(l:w.heap[g]?=some (.cells #[.string x.1,.string x.2] 51 (0,0)))(F:g≠c):
  Calls Tryz.prog 171 #[.slice (some ⟨c,0,none⟩) b.length d,.int .i64 (a:Nat),.slice (some ⟨g,0,none⟩) 1 1] w fun i j=>∃f,i=.returned f/\SW (.slice (some ⟨c,0,none⟩) b.length d) (Tp b a x) w f j:=by
 rcases h.2 with⟨_,Y⟩|⟨Z,a0,f,e,O,o,a1,y,p,D⟩
 ·omega
 simp only[xJ,xX,yT,yG,yB]at e;obtain⟨rfl,rfl⟩:=e;have T:d<=9223372036854775807:=by unfold maxLen at y;omega
 have m:f.toList.length=d*2:=by simpa using p
 have i:(Al (b.drop a)).length=(b.length-a)*2:=by rw[Bw,xY]
 have z:f.toList.take (a*2)=Al (b.take a):=by rw[Ob _ _ O_,<-D,jO];congr 1;omega
 have q:=Gf (P:=Tryz.prog) w.drew 30 30 3 51 2 c ((a+1)*2) (b.length-a) (d-(a+1)) c (a*2) (b.length+1-a) (d-a) (b.length-a) f 51 (Al (b.drop a)) zC S_ o (Nat.min_eq_right O_) i (fun C u t=>Yl h a O_ C u t) (by rw[i,p];omega) (Ew _);rw[i,show(a+1)*2+(b.length-a)*2=(b.length+1)*2 by omega]at q;have G:(f.toList.take ((a+1)*2)++Al (b.drop a)++f.toList.drop ((b.length+1)*2)).length=d*2:=by simp only[xC,xR,xY,i,m];omega
 have A:(f.toList.take ((a+1)*2)++Al (b.drop a)++f.toList.drop ((b.length+1)*2)).take (a*2)=Al (b.take a):=by rw[xT,kE (by rw[xR,m];omega),jO,<-z];congr 1;omega
 have B:(f.toList.take ((a+1)*2)++Al (b.drop a)++f.toList.drop ((b.length+1)*2)).drop (a*2+2)=Al (b.drop a)++f.toList.drop ((b.length+1)*2):=by rw[xT,show a*2+2=(f.toList.take ((a+1)*2)).length by rw[xR,m];omega,jQ]
 generalize R:f.toList.take ((a+1)*2)++Al (b.drop a)++f.toList.drop ((b.length+1)*2)=k at*;have r:=Eg (w:=w.drew) o k;have j:=Cn w.drew c k.toArray;have s:(w.drew.setRow c k.toArray).heap[g]?=some (.cells #[Value.string x.1,Value.string x.2] 51 (0,0)):=(j.block g (xS.1 l).1 (fun e=>F (xM e))).trans l;have n:=Zw (P:=Tryz.prog) (w.drew.setRow c k.toArray) 30 30 3 51 2 c (a*2) (b.length+1-a) (d-a) (.slice (some ⟨g,0,none⟩) 1 1) 1 k.toArray 51 [Value.string x.1,Value.string x.2] zC S_ r O_ ⟨_,_,rfl,rfl,.inr ⟨g,0,rfl,(xS.1 s).1,fun C u t=>by unfold World.cell?;simp only[s,zR];simpa using t⟩⟩ K_ (by intro u C;simp at C;rcases C with rfl|rfl<;>rfl)
 simp only[xH,yU]at n;rw[show a*2+(0+1+1)=a*2+2 by omega,A,B]at n;have H:Hid (SW (.slice (some ⟨c,0,none⟩) b.length d) (Tp b a x) w (.slice (some ⟨c,0,none⟩) (b.length+1) d) ((w.drew.setRow c k.toArray).setRow c (Al (b.take a)++[Value.string x.1,Value.string x.2]++(Al (b.drop a)++f.toList.drop ((b.length+1)*2))).toArray)):=by
  have t:(Al (b.take a)).length=a*2:=by rw[Bw,xR];omega
  refine⟨?_,?_,.inl rfl⟩
  ·unfold Ap;rw[Wo _ _ _ O_];refine Rt (Eg r _) S y ?_ ?_ (by rw[Bw,Wo _ _ _ O_])
   ·simp only[xC,xY,t,i,m,xH,yU];omega
   ·rw[DL,<-xT,kE (by simp only[xC,t,i,xH,yU];omega),yY (by simp only[xC,t,i,xH,yU];omega)]
  ·have I:=Cn (w.drew.setRow c k.toArray) c (Al (b.take a)++[Value.string x.1,Value.string x.2]++(Al (b.drop a)++f.toList.drop ((b.length+1)*2))).toArray;exact SV (⟨j.os,j.tape,j.output,j.size,j.block⟩:w.grownBy _ (some c)) I
 have U:(callFunc 220 #[.slice (some ⟨g,0,none⟩) 1 1,.slice (some ⟨c,(a+1)*2,none⟩) (b.length-a) (d-(a+1))]).run Tryz.prog w=.ok (.value (.bool false)) w:=by
  rw[fV Tryz.func220 S_ S_ S_ (e:=Extern.SlicesOverlaps.overlaps #[30,30] #[4]) S_,gE w 30 4 51 zC 2 (by intro w;obtain⟨V,M,W,N,X⟩:=zB Cg;simp[Go.sizeOf,typeInfo,M,N]) ⟨g,0,none⟩ ⟨c,(a+1)*2,none⟩ 1 1 _ _ F 51 51 2 (d*2) (by simp[World.shape?,l]) (by simp[World.shape?,o,p]) O_ (by simp[World.frozen?,l]) (by simp[World.frozen?,l])];rfl
 have J:=Aa q;have L:=Aa n;clear q n r j s A B G R z i m D p o y O h l;have j:a<=d:=O_;have l:a<=b.length:=O_;have m:a+1<=b.length+1:=O_;have n:(b.length:Int)+1<=(d:Int):=O_;have o:¬d=a:=O_;have p:¬d=a+1:=O_;have q:a<=b.length+1:=O_;have r:((a:Int)==(b.length:Int))=false:=K_;have s:a<=b.length+1:=O_;have y:(a:Int)<=(b.length:Int)+1:=O_;have z:IntKind.i64.wrap ((a:Int)+1)=(a:Int)+1:=by rw[yZ];omega
 have A:((a:Int)+1).toNat=a+1:=O_;have B:(0:Int)<=(a:Int)+1:=O_;have D:(a:Int)+1<=(b.length:Int)+1:=O_;have G:decide ((d:Int)<(b.length:Int)+1)=false:=K_;go_enter bX,cD;go_upto_region 15 with fail
 go_region_law (refine DK _ (by rfl) (.tmp 73) (.tmp 76) _ _ (by rfl) _ _ (by simp[Act.eval,Act.put]) (by simp[Act.eval,Act.put]) _ _ J.o ?_)
 all_goals
  go_wp2_with (refine Ab6 _ (by rfl) (.tmp 80) (.tmp 81) _ _ (by rfl) _ _ (by rfl) (by rfl) _ _ L.o ?_);go_ret;have i:=H.o;simp only[xT,jF,zI]at i;exact⟨_,rfl,i⟩
