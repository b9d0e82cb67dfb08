import Derived.Test.YtolgpnaoaodepaaGreatScaBm
set_option maxHeartbeats 2000000
set_option maxRecDepth 20000
namespace Go.Proofs.YtolgpnaoaodepaaGreat
open Go.RowKit Tr
variable {w wr:World}{v:Value}{a d:gZ}{b:hJ}{c f g i:Nat}
theorem Ah6:∀w,(Go.zeroValue 34).run Tryz.prog w=.ok (.agg #[J_ 0,B_ ⟨#[]⟩,B_ ⟨#[]⟩]) w:=by intro w;obtain⟨c,a,b,d,f⟩:=zB Em;simp[Go.zeroValue,typeInfo,a,b]
theorem Sh(c:Nat):(Builtin.zeroCells (Value.agg #[J_ 0,B_ ⟨#[]⟩,B_ ⟨#[]⟩]).cells c).size=c*3/\∀v∈(Builtin.zeroCells (Value.agg #[J_ 0,B_ ⟨#[]⟩,B_ ⟨#[]⟩]).cells c).toList,v.oneCell'=true:=by
 constructor
 ·rw[wS];rfl
 ·intro v d;simp only[Builtin.zeroCells,aX,xL]at d;obtain⟨a,_,rfl⟩:=d;show((#[J_ 0,Value.string ⟨#[]⟩,Value.string ⟨#[]⟩]:Array Value)[a % 3]!).oneCell'=true;rcases(show a % 3=0\/a % 3=1\/a % 3=2 by omega)with b|b|b<;>rw[b]<;>rfl
def Hd(fr:hJ)(c:Int×ByteArray×ByteArray):Bool:=decide (c.2.1.data.toList<fr.data.toList)
def FI(fb:Nat):Value:=.func (.func 238) #[] #[A_ fb]
theorem FJ(a:Int×ByteArray×ByteArray)(c:hJ)(b:Nat)(w:World)(g:w.cell? (Q_ b 0)=some (B_ c))(i:b<w.heap.size):
  Calls Tryz.prog 238 #[.agg #[J_ a.1,B_ a.2.1,B_ a.2.2],A_ b] w fun d f=>d=R_ (.bool (Hd c a))/\Below w.heap.size w f:=YX a.1 a.2.1 a.2.2 c b w g i
theorem HO(v:Value)(b:gZ)(d:hJ)(k:Nat)(w:World)(h:Bb 0 w v b)(a0:b.length<=20000000)(F:w.cell? (Q_ k 0)=some (B_ d))(T:k<w.heap.size):
  Calls Tryz.prog 263 #[v,FI k] w fun n R=>Below w.heap.size w R/\((n=R_ (J_ (-1))/\∀c∈b,Hd d c=false)\/∃(a:Nat) (z:a<b.length),n=R_ (J_ (a:Nat))/\(∀c∈b.take a,Hd d c=false)/\Hd d (b[a]'z)=true):=by
 have G:=Aa h;have H:=Aa F;obtain⟨X,c,rfl⟩:=Ad h;clear h F;unfold FI;go_in;go_wp2_with fail
 go_loopw [8] (fun u wr=>∃a:Nat,u=J_ (a:Nat)/\a<=b.length/\(∀c∈b.take a,Hd d c=false)/\Below w.heap.size w wr) (fun u _=>b.length-(intOf u).toNat)
 case atStart=>exact⟨0,rfl,Y_,fun c o=>by simp at o,xA _ _⟩
 case round=>
  obtain⟨a,rfl,z,A,s⟩:=hrel;have p:=Aa A;have i:=Aa s;have y:=s.size;clear A s;by_cases f:a<b.length
  ·obtain⟨M,Y,e,Z,-,N,B,C,D⟩:=G.o.at a f;simp only[xJ]at e;obtain⟨rfl,-,rfl⟩:=e;have l:=fun S=>i.o.cell (p:=(Q_ M S)) N
   have U:=(l _).trans B;have V:=(l _).trans C;have W:=(l _).trans D;have m:=Aa (FJ (b[a]'f) d k wr ((i.o.cell (p:=(Q_ k 0)) T).trans H.o) O_);have I:Hid (b.take (a+1)=b.take a++[b[a]'f]):=(by show _=_;rw[zN,xW f];rfl);clear l B C D
   cases g:Hd d (b[a]'f)with
   | true=>
    rw[g]at m;have J:=Aa g;clear g;go_wp2_with fail;refine m.o.mono ?_;rintro n O ⟨rfl,j⟩;have q:=Aa (i.o.trans (j.mono y));clear j;go_wp2_with fail;go_ret;exact⟨q.o,.inr ⟨a,f,rfl,p.o,J.o⟩⟩
   | false=>
    rw[g]at m;have r:Hid (∀c∈b.take (a+1),Hd d c=false):=fun c o=>by
     rw[I.o]at o;rcases xE.1 o with t|t
     ·exact p.o c t
     ·rw[yR.1 t];exact g
    clear g;go_wp2_with fail;refine m.o.mono ?_;rintro n O ⟨rfl,j⟩;have q:=Aa (i.o.trans (j.mono y));clear j;go_wp2_with fail;exact⟨⟨a+1,W_,O_,r.o,q.o⟩,by simp[intOf];omega⟩
  ·have L:a=b.length:=O_;subst L;have r:Hid (∀c∈b,Hd d c=false):=by
    have:=p.o;rw[zQ]at this;exact this
   go_wp2_with fail;go_ret;exact⟨i.o,.inl ⟨rfl,r.o⟩⟩
structure Xh(w:World)(v:Value)(ml:gZ)(fr:hJ)(i j:Nat)(ml':gZ)(wr:World):Prop where
 row:Bb 0 wr v ml'
 len:ml'.length=ml.length
 hd:ml'.take i=(ml.take j).filter fun c=> !Hd fr c
 tl:ml'.drop j=ml.drop j
 lt:i<j
 le:j<=ml.length
 mod:Mod (fun g=>v.ownBlock=some g) w wr
theorem FK{α:Type}{P:α->Bool}{j:List α}(h:∀a∈j,P a=false):j.filter (fun a=> !P a)=j:=List.filter_eq_self.2 fun a b=>by rw[h a b];rfl
theorem Xh.start(h:Bb 0 w v a)(d:c<a.length)(g:∀f∈a.take c,Hd b f=false)(i:Hd b (a[c]'d)=true)(f:Below w.heap.size w wr):Xh w v a b c (c+1) a wr:=by refine⟨Ae h f X_,rfl,?_,rfl,O_,O_,Mod.of_below f⟩;rw[Lu a _ c d,i,FK g];simp
theorem Xh.elem(h:Xh w v a b c f d wr)(g:f<a.length):d[f]'(by rw[h.len];exact g)=a[f]'g:=by have i:=yW (fun j=>j[0]?) h.tl;simp only[kZ,jW]at i;rw[xW g,xW (by rw[h.len];exact g)]at i;exact xM i
theorem Xh.skip{l:World}(h:Xh w v a b c f d wr)(i:f<a.length)(k:Hd b (a[f]'i)=true)(j:Below wr.heap.size wr l):Xh w v a b c (f+1) d l:=by
 refine⟨Ae h.row j X_,h.len,?_,?_,by have:=h.lt;omega,O_,h.mod.trans (Mod.of_below (F:=fun _=>False) j) (fun _ _ g=>g) (fun _ _ g=>g.elim)⟩
 ·rw[Lu a _ f i,k,h.hd];simp
 ·have:=yW (List.drop 1) h.tl;rw[jG,jG]at this;exact this
theorem Xh.keep{w':World}{k:Nat}(h:Xh w (L_ (P_ c) f g) a b i k d wr)(l:k<a.length)(s:Hd b (a[k]'l)=false)(o:Below wr.heap.size wr w'){m:Int×ByteArray×ByteArray}(t:a[k]'l=m):Xh w (L_ (P_ c) f g) a b (i+1) (k+1) (d.set i m) (((w'.setCell (Q_ c (i*3)) (J_ m.1)).setCell (Q_ c (i*3+1)) (B_ m.2.1)).setCell (Q_ c (i*3+2)) (B_ m.2.2)):=by
 have u:=h.lt;have p:=h.len;have q:=Bb.set (Ae h.row o X_) i O_ m;have r:=Mod.set3 w' c (i*3) (J_ m.1) (B_ m.2.1) (B_ m.2.2);refine⟨q,by rw[jV];exact p,?_,?_,O_,O_,(h.mod.trans (Mod.of_below (F:=fun _=>False) o) (H:=fun n=>(Value.slice (P_ c) f g).ownBlock=some n) (fun _ _ j=>j) (fun _ _ j=>j.elim)).trans r (fun _ _ j=>j) (fun n _ j=>by rw[j];rfl)⟩
 ·rw[Lu a _ k l,s,t,<-h.hd,zN,List.take_set_of_le X_,List.getElem?_set_self O_];rfl
 ·rw[List.drop_set_of_lt O_];have:=yW (List.drop 1) h.tl;rw[jG,jG]at this;exact this
theorem PR(a:gZ):(Cd a).length=a.length*3:=by
 induction a with
 | nil=>rfl
 | cons c r ih=>show(Cd r).length+3=_;rw[ih,xH];omega
theorem AJ:∀(b:gZ) (a:Nat),Cd (b.take a)=(Cd b).take (a*3)
 | [],a=>by simp[Cd]
 | c::r,0=>by simp[Cd]
 | c::r,a+1=>by
  have e:∀b,Cd (c::b)=J_ c.1::Value.string c.2.1::Value.string c.2.2::Cd b:=fun b=>rfl
  rw[aB,e,e,AJ r a,show(a+1)*3=a*3+3 by omega];rfl
theorem Xh.clear(h:Xh w (L_ (P_ c) f g) a b i a.length d wr):f=a.length/\a.length<=g/\∃j,(∀n,(Builtin.clear_ #[77] n #[L_ (some (Q_ c (i*3))) (a.length-i) (g-i)]).run Tryz.prog wr=.ok (.tuple #[]) j)/\Bb 0 j (L_ (P_ c) i g) (a.filter fun l=> !Hd b l)/\Mod (fun m=>m=c) w j:=by
 have y:=h.lt;have z:=h.len;have k:=h.hd;rw[zQ]at k;rcases h.row.2 with⟨_,B⟩|⟨C,D,j,e,F,p,G,t,q,u⟩
 ·omega
 simp only[xJ,xX,yT,yG]at e;obtain⟨rfl,A,rfl⟩:=e;have o:j.toList.length=g*3:=by simpa using q
 have r:i*3+(a.length-i)*3<=j.size:=by rw[q];omega
 refine⟨O_,O_,_,fun n=>Qb wr 77 n 34 (.agg #[J_ 0,B_ ⟨#[]⟩,B_ ⟨#[]⟩]) 3 c (i*3) (a.length-i) (g-i) j 34 kX Ah6 (Sh _).1 (Sh _).2 p r,?_,?_⟩
 ·have n:(a.filter fun l=> !Hd b l).length=i:=by rw[<-k,xR];omega
  unfold Bb;rw[n];refine Rt (Eg p _) O_ t ?_ ?_ (by rw[PR,n])
  ·simp only[xC,xR,xY,jT,(Sh _).1,o];omega
  ·rw[xT,kE (by rw[xR,o];omega),jO,wN,<-k,AJ,<-u,jO,jL O_]
 ·have s:=Cn wr c (j.toList.take (i*3)++(Builtin.zeroCells (Value.agg #[J_ 0,B_ ⟨#[]⟩,B_ ⟨#[]⟩]).cells (a.length-i)).toList++j.toList.drop (i*3+(a.length-i)*3)).toArray;exact h.mod.trans (Mod.of_grown s) (fun m _ l=>(xM l).symm) (fun m _ l=>(xM l).symm)
theorem FL(v:Value)(a:gZ)(k:hJ)(c:Nat)(w:World)(h:Bb 0 w v a)(c7:a.length<=20000000)(N:w.cell? (Q_ c 0)=some (B_ k))(a8:c<w.heap.size)(a9:v.ownBlock≠some c):
  Calls Tryz.prog 237 #[v,FI c] w fun s a6=>∃M,s=R_ M/\Bb 0 a6 M (a.filter fun f=> !Hd k f)/\M.ownBlock=v.ownBlock/\Mod (fun l=>v.ownBlock=some l) w a6:=by
 have u:=Aa (HO v a k c w h c7 N a8);have y:=Aa h;have b0:=Aa N;have b1:=Aa a9;obtain⟨T,f,rfl⟩:=Ad h;clear h N a9;have b2:Hid (FI c=.func (.func 238) #[] #[A_ c]):=rfl;rw[b2.o]at u⊢;go_in;go_wp2_with fail;refine u.o.mono ?_;rintro s a1 ⟨i,⟨rfl,a2⟩|⟨m,a3,rfl,a4,a5⟩⟩
 ·have b3:Hid (Bb 0 a1 (L_ T a.length f) (a.filter fun f=> !Hd k f)):=by
   show Bb _ _ _ _;rw[FK a2];exact Ae y.o i X_
  have b4:Hid (Mod (fun l=>(Value.slice T a.length f).ownBlock=some l) w a1):=Mod.of_below i;clear i a2;go_wp2_with fail;go_ret;exact⟨_,rfl,b3.o,rfl,b4.o⟩
 ·have b5:=Aa (Xh.start y.o a3 a4 a5 i);obtain⟨l,d8,e,d9,-,e0,-,-,-⟩:=y.o.at m a3;simp only[xJ]at e;obtain⟨rfl,-,rfl⟩:=e;clear i a4 a5;have c8:IntKind.i64.wrap ((m:Int)+1)=(m:Int)+1:=by rw[yZ];omega
  have c9:((m:Int)== -1)=false:=D_;go_wp2_with fail
  go_loopw [5,6] (fun c4 L wr=>∃d g c6,c4=J_ (d:Nat)/\L=J_ (g:Nat)/\Xh w (L_ (P_ l) a.length f) a k d g c6 wr) (fun _ L _=>a.length-(intOf L).toNat)
  case atStart=>exact⟨m,m+1,a,rfl,W_,b5.o⟩
  case round=>
   obtain⟨d,g,U,rfl,rfl,p⟩:=hrel;have j:=Aa p;have d0:=p.lt;have d1:=p.le;have d2:=p.len;clear p;by_cases t:g<a.length
   ·obtain⟨c1,c2,e,-,-,e1,F,G,H⟩:=j.o.row.at g O_;simp only[xJ,xX,yT,yG]at e;obtain⟨rfl,-,-⟩:=e;rw[j.o.elem t]at F G H;obtain⟨b,I⟩:∃b,a[g]'t=b:=⟨_,rfl⟩;rw[I]at F G H;have z:=Aa I;have i:Below wr.heap.size wr (wr.alloc (C_ #[J_ b.1,B_ b.2.1,B_ b.2.2] 34)):=(xA _ wr).alloc X_ _;have O:(wr.alloc (C_ #[J_ b.1,B_ b.2.1,B_ b.2.2] 34)).cell? (Q_ c 0)=some (B_ k):=(i.cell (p:=(Q_ c 0)) (by have:=j.o.mod.size;show c<_;omega)).trans ((kK (w:=w) (a:=(Q_ c 0)) (j.o.mod.block c a8 b1.o)).trans b0.o);have q:=Aa (FJ b k c _ O (by have:=j.o.mod.size;have:=i.size;omega));have r:=Aa i;have R:Hid (ChB (wr.alloc (C_ #[J_ b.1,B_ b.2.1,B_ b.2.2] 34)) wr.heap.size b.1 b.2.1 b.2.2):=xK _ _;clear i O I u;have d3:IntKind.i64.wrap ((g:Int)+1)=(g:Int)+1:=(by rw[yZ];omega);have d4:IntKind.i64.wrap ((d:Int)+1)=(d:Int)+1:=(by rw[yZ];omega);obtain⟨V,W,X⟩:=b
    cases o:Hd k (V,W,X)with
    | true=>
     rw[o]at q;have A:=Aa o;clear o;go_wp2_with fail;refine q.o.mono ?_;rintro s J ⟨rfl,n⟩;have B:=Aa (j.o.skip t (by rw[z.o];exact A.o) (r.o.trans (n.mono r.o.size)));clear n;go_wp2_with fail;exact⟨⟨d,g+1,U,rfl,W_,B.o⟩,by simp[intOf];omega⟩
    | false=>
     rw[o]at q;have A:=Aa o;clear o;go_wp2_with fail;refine q.o.mono ?_;rintro s J ⟨rfl,n⟩;have C:=r.o.trans (n.mono r.o.size);have B:=Aa (j.o.keep t (by rw[z.o];exact A.o) C z.o);have D:Bb 0 J (L_ (P_ l) a.length f) U:=Ae j.o.row C X_;obtain⟨c1,c2,e,-,-,-,e2,e3,e4⟩:=D.at d O_;simp only[xJ,xX,yT,yG]at e;obtain⟨rfl,-,-⟩:=e;have d5:=D.froz O_;have S:ChB J wr.heap.size V W X:=(n.block _ R.o.lt).trans R.o;obtain⟨e5,e6,e7⟩:=S.cells;have b6:d<a.length:=O_;clear n C D S F G H;go_wp2_with fail;exact⟨⟨d+1,g+1,_,W_,W_,B.o⟩,by simp[intOf];omega⟩
   ·have b7:g=a.length:=O_;subst b7;obtain⟨-,e8,c3,Y,Z,a0⟩:=j.o.clear;have b8:=Aa Y;have b9:=Aa Z;have c0:Hid (Mod (fun a7=>(Value.slice (P_ l) a.length f).ownBlock=some a7) w c3):=a0.mono fun a7 _ c5=>by rw[c5];rfl
    have b6:d<=a.length:=O_;have d6:¬f=d:=O_;have d7:d<=f:=O_;clear Y Z a0;go_wp2_with (refine Ae9 wr (by rfl) (.tmp 38) 77 (by rfl) _ (by rfl) _ _ (b8.o _) ?_);go_ret;exact⟨_,rfl,b9.o,rfl,c0.o⟩
theorem PS(v:Value)(c:gZ)(w:World)(h:Bb 0 w v c)(h5:c.length<=1000):
  Calls Tryz.prog 272 #[v,J_ 0,J_ (c.length:Nat),.func (.func 240) #[] #[]] w fun a3 a4=>a3=R_ (.tuple #[])/\∃n,SrM w v c n a4/\MI (Ac n):=by
 have c6:Hid (SrM w v c c w):=⟨h,Stb.refl _,Mod.of_below (xA _ w)⟩;obtain⟨e2,L,rfl⟩:=Ad h;clear h;go_in;go_wp2_with fail
 go_loopw [8] (fun a5 wr=>∃b n,a5=J_ (b:Nat)/\1<=b/\b<=1001/\SrM w (L_ e2 c.length L) c n wr/\Sg (Hp.nth (0,[],[]) (Ac n)) b) (fun a5 _=>1001-(intOf a5).toNat)
 case atStart=>exact⟨1,c,rfl,X_,Do,c6.o,fun x c4 u c5=>O_⟩
 case round=>
  obtain⟨b,M,rfl,g6,g7,N,b7⟩:=hrel;have c7:=N.len;have D:=Aa N;have a8:=Aa b7;clear N b7;by_cases h4:b<c.length
  ·have c8:(b:Int)<(c.length:Int):=O_;obtain⟨f,g8,e,g9,-,h1,-,-,-⟩:=D.o.row.at b O_;simp only[xJ]at e;obtain⟨rfl,-,rfl⟩:=e;have c9:Hid (FH (Hp.nth (0,[],[]) (Ac M)) b b):=FH.start a8.o;go_wp2_with fail
   go_loopw [9] (fun a6 wr=>∃a n,a6=J_ (a:Nat)/\a<=b/\SrM w (L_ (P_ f) c.length L) c n wr/\FH (Hp.nth (0,[],[]) (Ac n)) b a) (fun a6 _=>(intOf a6).toNat)
   case atStart=>exact⟨b,M,rfl,X_,D.o,c9.o⟩
   case round=>
    obtain⟨a,d,rfl,e3,O,b8⟩:=hrel;have f5:=O.len;have s:=Aa O;have F:=Aa b8;clear O b8
    cases a with
    | zero=>
     have G:Hid (Sg (Hp.nth (0,[],[]) (Ac d)) (b+1)):=F.o.done (.inl rfl);go_upto_region 4 with fail;go_quiet (fail);have k:Hid (SrM w (L_ (P_ f) c.length L) c d (wr.drewN nq)):=s.o.below (Ao (xA _ _) _);go_wp2_with fail;exact⟨⟨b+1,d,W_,O_,O_,k.o,G.o⟩,by simp[intOf];omega⟩
    | succ a=>
     have p:a+1<d.length:=O_;have q:a<d.length:=O_;obtain⟨y,z,e,h2,-,h3,R,S,T⟩:=s.o.row.at (a+1) p;simp only[xJ,xX,yT,yG]at e;obtain⟨rfl,-,rfl⟩:=e;obtain⟨y,z,e,-,-,-,U,V,W⟩:=s.o.row.at a q;simp only[xJ,xX,yT,yG]at e;obtain⟨rfl,-,rfl⟩:=e;obtain⟨X,A⟩:∃X,d[a+1]'p=X:=⟨_,rfl⟩;obtain⟨Y,B⟩:∃Y,d[a]'q=Y:=⟨_,rfl⟩;rw[A]at R S T;rw[B]at U V W;have a9:=Aa A;have b0:=Aa B;have H:=Aa (Jy d p);have I:=Aa (Jy d q);rw[A]at H;rw[B]at I;clear A B;obtain⟨Z,r,a0⟩:=X;obtain⟨l,g,m⟩:=Y;have d0:=Aa (fun o=>YY Z l r a0 g m o);have f6:IntKind.i64.wrap ((a:Int)+1-1)=(a:Int):=(by rw[yZ];omega);have f7:IntKind.i64.wrap (((a+1:Nat):Int)-1)=(a:Int):=(by rw[yZ];omega);have d1:∀o,Calls Tryz.prog 240 #[.agg #[J_ Z,B_ r,B_ a0],.agg #[J_ l,B_ g,B_ m]] o fun a3 a4=>a3=R_ (J_ (Lib.compareBytes r.data.toList g.data.toList))/\Below o.heap.size o a4:=fun o=>d0.o o
     have f8:IntKind.i64.wrap (a:Int)=(a:Int):=(by rw[yZ];omega);have f9:(a:Int)+1<(c.length:Int):=O_;have g0:(0:Int)<=(a:Int)+1:=O_;have g1:((a:Int)+1).toNat=a+1:=O_;have g2:a<c.length:=O_;have g3:a+1<c.length:=O_;have d2:=fun(i:Nat) (j:Array Obj)=>wB R i j
     have d3:=fun(i:Nat) (j:Array Obj)=>wB S i j
     have d4:=fun(i:Nat) (j:Array Obj)=>wB T i j
     have d5:=fun(i:Nat) (j:Array Obj)=>wB U i j
     have d6:=fun(i:Nat) (j:Array Obj)=>wB V i j
     have d7:=fun(i:Nat) (j:Array Obj)=>wB W i j
     have b1:=Aa (BL r.data.toList g.data.toList);generalize Lib.compareBytes r.data.toList g.data.toList=a7 at*;go_upto_region 4 with fail;refine aU S_ S_ ?_
     repeat(quiet_step (exact wV (d1 _)))
     refine aT ?_;intro a2 f2;obtain⟨⟨e4,e5⟩,b9⟩:=f2;have k:=Aa (s.o.below (b9▸aM _ e4 e5));clear b9;clear d2 d3 d4 d5 d6 d7;by_cases C:a7<0
     ·have d8:decide (a7<0)=true:=xQ C;have b2:=b1.o.1 C;obtain⟨a1,c0⟩:=k.o.swap a p q b0.o a9.o b2;have d9:Hid (FH (Hp.nth (0,[],[]) (Ac ((d.set (a+1) (l,g,m)).set a (Z,r,a0)))) b a):=by
       have u:=F.o.step e3 (by rw[H.o,I.o];exact b2);rw[c0,show Hp.nth (0,[],[]) (Hp.swL (0,[],[]) (Ac d) a (a+1))=Hp.swp (Hp.nth (0,[],[]) (Ac d)) a (a+1)from jI fun f3=>Hp.Xf _ _ (by rw[Bd];omega) (by rw[Bd];omega) f3];exact u
      unfold sw6 at a1;have e0:=Aa a1;obtain⟨y,z,e,-,-,-,e6,e7,e8⟩:=k.o.row.at (a+1) p;simp only[xJ,xX,yT,yG]at e;obtain⟨rfl,-,-⟩:=e;obtain⟨y,z,e,-,-,-,e9,f0,f1⟩:=k.o.row.at a q;simp only[xJ,xX,yT,yG]at e;obtain⟨rfl,-,-⟩:=e;rw[a9.o]at e6 e7 e8;rw[b0.o]at e9 f0 f1;have g4:=k.o.row.froz O_;have J:=Bb.set k.o.row (a+1) p (l,g,m);have g5:=J.froz (by rw[jV];omega);have b3:a<(d.set (a+1) (l,g,m)).length:=(by rw[jV];exact q);obtain⟨y,z,e,-,-,-,c1,c2,c3⟩:=J.at a b3;simp only[xJ,xX,yT,yG]at e;obtain⟨rfl,-,-⟩:=e;have b4:∃t,(((a2.setCell (Q_ f ((a+1)*3)) (J_ l)).setCell (Q_ f ((a+1)*3+1)) (B_ g)).setCell (Q_ f ((a+1)*3+2)) (B_ m)).cell? (Q_ f (a*3))=some t:=⟨_,c1⟩;have b5:∃t,(((a2.setCell (Q_ f ((a+1)*3)) (J_ l)).setCell (Q_ f ((a+1)*3+1)) (B_ g)).setCell (Q_ f ((a+1)*3+2)) (B_ m)).cell? (Q_ f (a*3+1))=some t:=⟨_,c2⟩;have b6:∃t,(((a2.setCell (Q_ f ((a+1)*3)) (J_ l)).setCell (Q_ f ((a+1)*3+1)) (B_ g)).setCell (Q_ f ((a+1)*3+2)) (B_ m)).cell? (Q_ f (a*3+2))=some t:=⟨_,c3⟩;obtain⟨u0,b4⟩:=b4;obtain⟨u1,b5⟩:=b5;obtain⟨u2,b6⟩:=b6;clear a1 c0 J c1 c2 c3 b3 R S T U V W s k;go_upto_region 6 with fail
      go_region_law (fail)
      all_goals
       go_wp2_with fail;exact⟨⟨a,_,rfl,O_,e0.o,d9.o⟩,by simp[intOf]⟩
     ·have d8:decide (a7<0)=false:=xN C;have G:Hid (Sg (Hp.nth (0,[],[]) (Ac d)) (b+1)):=F.o.done (.inr (by
       show ¬(Hp.nth (0,[],[]) (Ac d) (a+1)).2.1<(Hp.nth (0,[],[]) (Ac d) a).2.1;rw[H.o,I.o];exact fun f4=>C (b1.o.2 f4)))
      go_wp2_with fail;exact⟨⟨b+1,d,W_,O_,O_,k.o,G.o⟩,by simp[intOf];omega⟩
  ·have c8:¬((b:Int)<(c.length:Int)):=O_;have e1:Hid (MI (Ac M)):=Sg.rise (d:=(0,[],[])) fun x c4 u c5=>a8.o x c4 u (by rw[Bd,c7]at c5;omega)
   go_wp2_with fail;go_end0;exact⟨rfl,_,D.o,e1.o⟩
theorem UB(v:Value)(a:gZ)(w:World)(h:Bb 0 w v a)(r:a.length<=19):
  Calls Tryz.prog 264 #[v,J_ (a.length:Nat),.func (.func 240) #[] #[]] w fun c j=>c=R_ (.tuple #[])/\∃f,SrM w v a f j/\MI (Ac f):=by
 have b:=Aa (PS v a w h O_);have n:¬((20:Int)<=(a.length:Int)):=O_;have o:¬((20:Int)<(a.length:Int)):=O_;have p:¬(20<=a.length):=O_;have q:¬(20<a.length):=O_;clear h;go_in;go_wp2_with fail
 go_loopw [7,8] (fun k l wr=>k=J_ 0/\l=J_ 20/\wr=w) (fun _ _ _=>0)
 case atStart=>exact⟨rfl,rfl,rfl⟩
 case round=>
  obtain⟨rfl,rfl,rfl⟩:=hrel;go_wp2_with fail;refine b.o.mono ?_;rintro c i ⟨rfl,d⟩;have g:=Aa d;clear d b;go_wp2_with fail
  go_loopw [6] (fun m wr=>m=J_ 20/\wr=i) (fun _ _=>0)
  case atStart=>exact⟨rfl,rfl⟩
  case round=>
   obtain⟨rfl,rfl⟩:=hrel;go_wp2_with fail;go_end0;exact⟨rfl,g.o⟩
theorem FM(v:Value)(a:gZ)(w:World)(h:Bb 0 w v a)(g:a.length<=19):
  Calls Tryz.prog 239 #[v,.func (.func 240) #[] #[]] w fun c d=>c=R_ (.tuple #[])/\∃b,SrM w v a b d/\MI (Ac b):=by
 have b:=Aa (UB v a w h g);obtain⟨i,j,rfl⟩:=Ad h;clear h;go_in;go_wp2_with fail;refine b.o.mono ?_;rintro c k ⟨rfl,d⟩;have f:=Aa d;clear d b;go_wp2_with fail;go_end0;exact⟨rfl,f.o⟩
theorem PU(c:Nat)(w:World):
  Calls Tryz.prog 174 #[A_ c,J_ (-1)] w fun a b=>a=R_ (.bool false)/\Below w.heap.size w b:=by
 go_enter aG,aI;go_wp2_with fail;go_ret;exact⟨rfl,xA _ _⟩
theorem PV(c:Nat)(i j:Value)(k:Option Addr)(b l a:Nat)(w:World)(d:Ax w c i (L_ k b l) j)(p:b<=a+1)(q:a<=20000000):
  Calls Tryz.prog 174 #[A_ c,J_ (a:Nat)] w fun f g=>f=R_ (.bool false)/\Below w.heap.size w g:=by
 obtain⟨m,n,o,-⟩:=d.cells;have f:decide ((a:Int)<0)=false:=xN O_;have g:decide ((b:Int)<=(a:Int)+1)=true:=xQ O_;clear d;go_enter aG,aI;go_wp2_with fail;go_ret;exact⟨rfl,xA _ _⟩
theorem AK(t:Nat)(Y u Z:Value)(b:hA)(a:Nat)(j k n l m o:Value)(y z A B:Option Addr)(c d f g C D F G:Nat)(w:World)(H:Ax w t Y u Z)(p:Bf 0 w u b)(q:a+1<b.length)(b9:b.length<=20000000)(I:Ax w (b[a]'O_).2 j k n)(J:Ax w (b[a+1]'q).2 l m o)(L:j=L_ y c C)(M:k=L_ z d D)(N:l=L_ A f F)(O:m=L_ B g G)(R:c<=20000000)(S:d<=20000000)(T:f<=20000000)(U:g<=20000000)(V:¬(c+f<=12/\d+g<=3)):
  Calls Tryz.prog 174 #[A_ t,J_ (a:Nat)] w fun r i=>r=R_ (.bool false)/\Below w.heap.size w i:=by
 obtain⟨a4,a5,a6,-⟩:=H.cells;obtain⟨a7,a8,rfl,a9,-,b0,b1,b2⟩:=p.at a O_;obtain⟨b3,b4,e,-,-,-,b5,b6⟩:=p.at (a+1) q;simp only[xJ,xX,yT,yG,yB]at e;obtain⟨rfl,rfl⟩:=e;have W:=Aa (fun i (s:i.heap=w.heap)=>Qg _ _ j k n l m o y z A B c d f g C D F G i (show Ax i _ j k n by unfold Ax;rw[s];exact I) (show Ax i _ l m o by unfold Ax;rw[s];exact J) L M N O R S T U);have s:Hid ((decide (c+f<=12)&&decide (d+g<=3))=false):=by
  show _=_;by_cases i:c+f<=12
  ·have:¬d+g<=3:=fun X=>V ⟨i,X⟩
   simp[this]
  ·simp[i]
 generalize(b[a]'O_).2=b7 at*;generalize(b[a+1]'q).2=b8 at*;have X:decide ((a:Int)<0)=false:=xN O_;have a0:decide ((b.length:Int)<=(a:Int)+1)=false:=xN O_;have a1:¬((b.length:Int)<=(a:Int)+1):=O_;have a2:a<b.length:=O_;have a3:(a:Int)+1<(b.length:Int):=O_;clear H p I J L M N O R S T U V;go_enter aG,aI;go_upto_region 3 with fail;go_quiet (fail);go_wp2_with fail;refine(W.o (w.drewN nq) rfl).mono ?_;rintro r H ⟨rfl,p⟩;rw[s.o];go_wp2_with fail;go_ret;exact⟨rfl,(Ao (xA _ w) nq).trans p⟩
theorem ZA(i:Nat)(D R F:Value)(b:hA)(f:Nat)(S b8:Value)(g o:gY)(w:World)(m:Ax w i D R F)(l:Bf 0 w R b)(T:f+1<b.length)(g1:b.length<=20000000)(n:Ax w (b[f]'O_).2 S Z_ Z_)(s:Ax w (b[f+1]'T).2 b8 Z_ Z_)(t:Ap 0 w S g)(z:Ap 0 w b8 o)(c8:g.length+o.length<=12)(B:(b[f]'O_).2≠i):
  Calls Tryz.prog 174 #[A_ i,J_ (f:Nat)] w fun O a=>O=R_ (.bool true)/\∃j p,Ax a i D p F/\Bf 0 a p (b.take (f+1)++b.drop (f+2))/\p.ownBlock=R.ownBlock/\Ax a (b[f]'O_).2 j Z_ Z_/\Ap 0 a j (g++o)/\Mod (fun c=>c=i\/R.ownBlock=some c\/c=(b[f]'O_).2\/S.ownBlock=some c) w a/\(j.ownBlock=S.ownBlock\/∃d,w.heap.size<=d/\j.ownBlock=some d):=by
 obtain⟨C,H,V,-⟩:=m.cells;obtain⟨c,u,rfl,d8,-,d9,W,X⟩:=l.at f O_;obtain⟨y,e0,e,-,-,-,Y,Z⟩:=l.at (f+1) T;simp only[xJ,xX,yT,yG,yB]at e;obtain⟨rfl,rfl⟩:=e;obtain⟨q,r,rfl⟩:=Ad t;obtain⟨M,N,rfl⟩:=Ad z;have A:=Aa (fun a (j:a.heap=w.heap)=>Qg _ _ _ _ _ _ _ _ q none M none g.length 0 o.length 0 r 0 N 0 a (show Ax a _ _ _ _ by unfold Ax;rw[j];exact n) (show Ax a _ _ _ _ by unfold Ax;rw[j];exact s) rfl rfl rfl rfl O_ O_ O_ O_);have b9:Hid ((decide (g.length+o.length<=12)&&decide (0+0<=3))=true):=by show _=_;simp[c8]
 have a1:=Aa m;have a2:=Aa l;have I:=Aa n;have U:=Aa s;have a3:=Aa t;have a4:=Aa z;have a5:=Aa B;generalize(b[f]'O_).2=k at*;generalize(b[f+1]'T).2=a0 at*;have c9:decide ((f:Int)<0)=false:=xN O_;have d0:decide ((b.length:Int)<=(f:Int)+1)=false:=xN O_;have d1:¬((b.length:Int)<=(f:Int)+1):=O_;have d2:f<b.length:=O_;have d3:(f:Int)+1<(b.length:Int):=O_;clear m l n s t z B;go_enter aG,aI;go_upto_region 3 with fail;go_quiet (fail);go_wp2_with fail;refine(A.o (w.drewN nq) rfl).mono ?_;rintro O j ⟨rfl,m⟩;rw[b9.o];have s:Hid (Below w.heap.size w j):=(Ao (xA _ w) nq).trans m;have a:Ax j a0 (L_ M o.length N) Z_ Z_:=(s.o.block a0 U.o.lt).trans U.o;have l:Ax j k (L_ q g.length r) Z_ Z_:=(s.o.block k I.o.lt).trans I.o;have J:Hid (Ax j i D (L_ (P_ c) b.length u) F):=(s.o.block i a1.o.lt).trans a1.o;have G:Hid (Bf 0 j (L_ (P_ c) b.length u) b):=Ae a2.o s.o X_;obtain⟨e1,b3,e2,e3,e4,e5⟩:=l.cells;obtain⟨e6,e7,e8,-⟩:=a.cells;have c0:=Aa (Hh a0 _ _ _ _ _ j a);have L:=Aa l;clear m A l a C H V W X Y Z;have B:Ap 0 j (L_ q g.length r) g:=Ae a3.o s.o X_;have a6:Ap 0 j (L_ M o.length N) o:=Ae a4.o s.o X_;obtain⟨e9,z,b6,Z,b7,A⟩:=Sd j.drew 30 30 51 zC _ 2 32 Cg rfl Do Do (L_ q g.length r) (L_ M o.length N) g.length o.length (Al g) (Al o) B a6 (Ew o) O_;have c1:=Aa b6;have a7:Hid ((Value.slice q g.length r).ownBlock≠some i):=Bg J.o B Do;have a8:Hid ((Value.slice q g.length r).ownBlock≠some k):=Bg L.o B Do;have C:Mod (fun d=>(Value.slice q g.length r).ownBlock=some d) j.drew z:=Mod.of_grown b7;have V:Ax z k (L_ q g.length r) Z_ Z_:=C.nod (w:=j.drew) L.o a8.o;have a9:Ax z i D (L_ (P_ c) b.length u) F:=C.nod (w:=j.drew) J.o a7.o;have W:(Value.slice q g.length r).ownBlock≠some c:=fun a=>Dq B G.o Do c a rfl
 have b0:Bf 0 z (L_ (P_ c) b.length u) b:=C.row (w:=j.drew) G.o (fun y t a=>by
  have:c=y:=by simpa[Value.ownBlock]using t
  exact W (by rw[this];exact a))
 obtain⟨l,m,n,rfl⟩:=Fo Z;obtain⟨f0,f1,f2,f3,-⟩:=V.cells;have H:=Mod.setCell z k 0 (L_ l m n);have X:c≠k:=fun a=>Bg L.o G.o Do (by rw[<-a];rfl)
 have b1:c≠i:=fun a=>Bg J.o G.o Do (by rw[<-a];rfl)
 have b2:Hid (Ax (z.setCell (Q_ k 0) (L_ l m n)) i D (L_ (P_ c) b.length u) F):=H.nod a9 (fun a=>a5.o a.symm);have c2:Hid (Bf 0 (z.setCell (Q_ k 0) (L_ l m n)) (L_ (P_ c) b.length u) b):=H.row b0 (fun y t a=>by
  have:c=y:=by simpa[Value.ownBlock]using t
  exact X (by rw[this];exact a))
 have c3:Hid (Ax (z.setCell (Q_ k 0) (L_ l m n)) k (L_ l m n) Z_ Z_):=V.seti _;have Y:(Value.slice l m n).ownBlock≠some k/\(Value.slice l m n).ownBlock≠some i/\(Value.slice l m n).ownBlock≠some c:=by
  have d4:j.drew.heap.size=j.heap.size:=rfl;have d5:=L.o.lt;have d6:=J.o.lt;have d7:c<j.heap.size:=(xF G.o c rfl).2;rcases A with A|A
  ·rw[A];exact⟨a8.o,a7.o,W⟩
  ·rw[A];refine⟨fun a=> ?_,fun a=> ?_,fun a=> ?_⟩<;>(have:=xM a;omega)
 have c4:Hid (Ap 0 (z.setCell (Q_ k 0) (L_ l m n)) (L_ l m n) (g++o)):=by refine H.row ?_ (fun y t a=>Y.1 (by rw[<-a];exact t));rw[xC,Dk];exact Z
 have c5:Hid (Mod (fun d=>d=i\/(Value.slice (P_ c) b.length u).ownBlock=some d\/d=k\/(Value.slice q g.length r).ownBlock=some d) w (z.setCell (Q_ k 0) (L_ l m n))):=by have b3:Mod (fun _=>False) w j.drew:=⟨s.o.os,s.o.tape,s.o.output,s.o.size,fun d b4 _=>s.o.block d b4⟩;exact(b3.trans C (H:=fun d=>d=i\/(Value.slice (P_ c) b.length u).ownBlock=some d\/d=k\/(Value.slice q g.length r).ownBlock=some d) (fun _ _ a=>a.elim) (fun _ _ a=> .inr (.inr (.inr a)))).trans H (fun _ _ a=>a) (fun _ _ a=> .inr (.inr (.inl a)))
 have c6:Hid ((Value.slice l m n).ownBlock=(Value.slice q g.length r).ownBlock\/∃d,w.heap.size<=d/\(Value.slice l m n).ownBlock=some d):=by
  refine A.imp id fun a=>⟨_,?_,a⟩
  exact s.o.size
 have b4:=Aa Y;obtain⟨f4,f5,f6,f7,f8,f9⟩:=b2.o.cells;have b5:=Aa b1;have c7:=Aa X;clear b6 Z b7 A C V a9 W b0 H X Y B a6 a4 a2 I U a3 b1;have a2:=Aa (Zz _ b (f+1) _ T c2.o O_);have a3:IntKind.i64.wrap ((f:Int)+1)=(f:Int)+1:=by rw[yZ];omega
 have a4:IntKind.i64.wrap ((f:Int)+2)=(f:Int)+2:=by rw[yZ];omega
 go_wp2_with fail;refine c0.o.mono ?_;rintro O j ⟨rfl,rfl⟩;go_upto_region 7 with fail
 go_region_law (refine Qc _ (by rfl) (.tmp 46) (.tmp 50) _ _ (by rfl) _ _ (by rfl) U_ _ _ c1.o ?_)
 all_goals
  go_wp2_with fail;refine a2.o.mono ?_;rintro O B ⟨p,rfl,V,Z,W⟩;have H:=Mod.of_grown Z;have U:=H.nod b2.o (fun a=>b5.o (xM a));have X:=H.nod c3.o (fun a=>c7.o (xM a));have Y:Ap 0 B (L_ l m n) (g++o):=H.row c4.o (fun y t a=>b4.o.2.2 (by rw[show c=y from xM a];exact t));have I:=Mod.setCell B i 1 p;have C:Hid (Ax (B.setCell (Q_ i 1) p) i D p F/\Bf 0 (B.setCell (Q_ i 1) p) p (b.take (f+1)++b.drop (f+2))/\p.ownBlock=(Value.slice (P_ c) b.length u).ownBlock/\Ax (B.setCell (Q_ i 1) p) k (L_ l m n) Z_ Z_/\Ap 0 (B.setCell (Q_ i 1) p) (L_ l m n) (g++o)/\Mod (fun d=>d=i\/(Value.slice (P_ c) b.length u).ownBlock=some d\/d=k\/(Value.slice q g.length r).ownBlock=some d) w (B.setCell (Q_ i 1) p)):=by refine⟨U.setp p,I.row V (fun y t a=> ?_),W,I.nod X a5.o,I.row Y (fun y t a=>b4.o.2.1 (by rw[<-a];exact t)),(c5.o.trans H (fun _ _ a=>a) (fun d _ a=> .inr (.inl a))).trans I (fun _ _ a=>a) (fun d _ a=> .inl a)⟩;rw[W]at t;exact b5.o ((show c=y from xM t).trans a)
  obtain⟨d,t,a6,a9,b0,b1⟩:=U.cells;obtain⟨b6,b7,g0,a⟩:=Fo V;clear H U X Y I V Z W;subst a;go_wp2_with fail;go_ret;exact⟨rfl,_,_,C.o.1,C.o.2.1,C.o.2.2.1,C.o.2.2.2.1,C.o.2.2.2.2.1,C.o.2.2.2.2.2,c6.o⟩
