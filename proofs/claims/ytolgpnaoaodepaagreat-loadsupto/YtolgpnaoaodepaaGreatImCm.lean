import Derived.Test.YtolgpnaoaodepaaGreatLdVm
set_option maxHeartbeats 2000000
set_option maxRecDepth 100000
namespace Go.Proofs.YtolgpnaoaodepaaGreat
open Tr
namespace Ld
open Go.Proofs.YtolgpnaoaodepaaGreat.Tr
abbrev Fw:=(h:Nat)×Ai h
def cn:(h:Nat)->Ai h->Nat
 | 0,_=>1
 | h+1,t=>1+((Qo t).map fun p=>cn h p.2).sum
def cnA(x:Fw):Nat:=cn x.1 x.2
def cns(q:List Fw):Nat:=(q.map cnA).sum
def Xo:Fw->List Fw
 | ⟨0,_⟩=>[]
 | ⟨h+1,t⟩=>(Qo t).map fun p=>⟨h,p.2⟩
def pgA(x:Fw)(n:Nat):Nd:=pgN x.1 x.2 n
theorem QM(x:Fw):(Xo x).length=nk x.1 x.2:=by
 obtain⟨h,a⟩:=x
 cases h with
 | zero=>rfl
 | succ h=>simp[Xo,nk]
theorem Qp(x:Fw):cnA x=1+cns (Xo x):=by
 obtain⟨h,a⟩:=x
 cases h with
 | zero=>rfl
 | succ h=>
  show 1+_=1+((((Qo a).map fun b=>(⟨h,b.2⟩:Fw))).map cnA).sum;rw[zW];rfl
theorem Qq(a b:List Fw):cns (a++b)=cns a+cns b:=by simp[cns]
theorem Nu(x:Fw)(a:List Fw):cns (x::a)=cnA x+cns a:=by simp[cns]
theorem Xp:∀a:List Fw,a.length<=cns a
 | []=>Y_
 | x::a=>by have:=Xp a;rw[Nu,Qp,xH];omega
theorem Aco:∀(h:Nat) (a:Ai h),cn h a<=wt h a
 | 0,a=>by show 1<=1+2*_;omega
 | h+1,(ps,cs)=>by
  have b:(ps.map fun a=>cn h a.2).sum<=(ps.map fun a=>wt h a.2).sum:=by
   induction ps with
   | nil=>exact Nat.le_refl _
   | cons a r ih=>
    have:=Aco h a.2;simp only[yD,qZ];omega
  show 1+(ps.map fun a=>cn h a.2).sum<=2*cs.length+(ps.map fun a=>wt h a.2).sum+((ps.length-1)+(2-ps.length));omega
def rem:Nat->List Fw->Nat->List Nd
 | 0,_,_=>[]
 | _+1,[],_=>[]
 | k+1,x::q,nx=>pgA x nx::rem k (q++Xo x) (nx+nk x.1 x.2)
theorem Sy:∀(k:Nat) (a:List Fw) (b:Nat),cns a=k->(rem k a b).length=k
 | 0,_,_,_=>rfl
 | k+1,[],_,h=>by simp[cns]at h
 | k+1,x::a,b,h=>by rw[Nu,Qp]at h;rw[rem,xH,Sy k _ _ (by rw[Qq];omega)]
theorem JV{h:Nat}:∀(a:List (Ai (h+1))) (K:List (Ai h)) (b c:Nat),cns ((a.map fun t=>(⟨h+1,t⟩:Fw))++K.map fun t=>⟨h,t⟩)=b->rem b ((a.map fun t=>(⟨h+1,t⟩:Fw))++K.map fun t=>⟨h,t⟩) c=lvN (h+1) a c++rem (b-a.length) ((K++Qy h a).map fun t=>(⟨h,t⟩:Fw)) (c+(Qy h a).length)
 | [],K,b,c,_=>by simp[lvN,Qy]
 | t::a,K,b,c,hk=>by
  rw[yD,jF]at hk⊢;rw[Nu,Qp]at hk;obtain⟨c,rfl⟩:∃c,b=c+1:=⟨b-1,O_⟩;have e:(a.map fun t=>(⟨h+1,t⟩:Fw))++(K.map fun t=>(⟨h,t⟩:Fw))++Xo ⟨h+1,t⟩=(a.map fun t=>(⟨h+1,t⟩:Fw))++(K++(Qo t).map (·.2)).map fun t=>(⟨h,t⟩:Fw):=by rw[xT,yX,zW];rfl
  rw[rem,e,JV a (K++(Qo t).map (·.2)) c _ (by rw[<-e,Qq];omega),lvN,jF];have b:Qy h (t::a)=(Qo t).map (·.2)++Qy h a:=rfl;rw[b,xC,xP,xH,Nat.add_sub_add_right,xT,aC];rfl
theorem FU:∀(b:List (Ai 0)) (a c:Nat),cns (b.map fun t=>(⟨0,t⟩:Fw))=a->rem a (b.map fun t=>(⟨0,t⟩:Fw)) c=lvN 0 b c
 | [],a,c,hk=>by
  cases a with
  | zero=>rfl
  | succ a=>rfl
 | t::b,a,c,hk=>by
  rw[yD]at hk⊢;rw[Nu,Qp]at hk;obtain⟨c,rfl⟩:∃c,a=c+1:=⟨a-1,O_⟩;have e:(b.map fun t=>(⟨0,t⟩:Fw))++Xo ⟨0,t⟩=b.map fun t=>(⟨0,t⟩:Fw):=yC _
  rw[rem,e,FU b c _ (by have h0:cns (Xo ⟨0,t⟩)=0:=rfl;omega)];rfl
theorem WM:∀(h:Nat) (a:List (Ai h)) (c d:Nat),cns (a.map fun b=>(⟨h,b⟩:Fw))=c->rem c (a.map fun b=>(⟨h,b⟩:Fw)) (d+a.length)=Sl h a d
 | 0,a,c,d,hk=>FU a c _ hk
 | h+1,a,c,d,hk=>by
  have g:cns ((a.map fun b=>(⟨h+1,b⟩:Fw))++([]:List (Ai h)).map fun b=>⟨h,b⟩)=c:=by simpa using hk
  have f:=JV a [] c (d+a.length) g;simp only[vH,yC,zI]at f;rw[f,Sl,WM h (Qy h a) (c-a.length) (d+a.length)];clear f g
  induction a generalizing c with
  | nil=>simpa[Qy,cns]using hk
  | cons b a ih=>
   rw[yD,Nu,Qp]at hk;have d:Qy h (b::a)=(Qo b).map (·.2)++Qy h a:=rfl;have f:(((Qo b).map (·.2)).map fun b=>(⟨h,b⟩:Fw))=Xo ⟨h+1,b⟩:=(by rw[zW];rfl);rw[d,yX,f,Qq,xH];have:=ih (c-(1+cns (Xo ⟨h+1,b⟩))) O_;have c:=Xp (a.map fun b=>(⟨h+1,b⟩:Fw));rw[xP]at c;omega
theorem Aet:∀(h:Nat) (b:Ai h) (a:Key) (d:Option Key) (c:Nat),WF h a d b->Top h b->room a d->c+nk h b<=2147483648->Pr.Mc (pgN h b c)=true
 | 0,l,a,d,c,hw,b,_,_=>by have g:Pr.Kw l:=⟨fun x f=>(hw.2 x f).2,hw.1⟩;have b:List.length (α:=It) l<=16:=b;show Pg.Kh 1 l [] [] []=true;unfold Pg.Kh;rw[xD rfl,(Pr.Oj l).2 g];simpa using b
 | h+1,(ps,cs),a,d,c,hw,b,hr,f=>by
  obtain⟨i,j⟩:=JS hw.1;have f:c+ps.length<=2147483648:=f;have m:0<ps.length:=by
   cases ps with
   | nil=>exact absurd (hr a (show some a=d from hw.1).symm).1 (lt_ir a)
   | cons p r=>simp
  have d:Pg.Az (ps.map (·.1)).tail none=true:=(Pr.Ml _ none).2 ⟨⟨i,j.tail⟩,fun x _=>rfl⟩;show Pg.Kh 2 [] ((List.range' c ps.length).map Int.ofNat) (ps.map (·.1)).tail cs=true;unfold Pg.Kh;rw[xB Do];simp only[yK,yL];refine⟨⟨⟨⟨⟨⟨⟨⟨d,?_⟩,?_⟩,by trivial⟩,by rfl⟩,?_⟩,?_⟩,?_⟩,b.2⟩
  ·refine zV.2 fun c a=> ?_
   obtain⟨n,k,rfl⟩:=xL.1 a;have:=List.mem_range'_1.1 k;unfold Pg.Bz;simp only[yK,yL,bA];omega
  ·exact zV.2 fun c a=>(hw.2 c a).2
  ·rw[xP,qB];omega
  ·rw[xP,qB];exact b.1
  ·rw[xP,qB,dS,xP];omega
end Ld
open Go.RowKit
variable {m:List Tr.Ch}{n:gZ}{h a Bs b d i:Nat}{w c W wr:World}{k:hF}{p:Tr.Key}{f:Option Tr.Key}{α β:Type}{l:hJ}{g q:Value}
abbrev Wn:=Nat×gZ
def Ah8(w:World)(x:Wn):Prop:=∃vi vp vc,Ax w x.1 vi vp vc/\Bb 0 w vc x.2/\x.2.length<=8/\∀c∈x.2,c.2.2.size<=16
def Acp(key:Tr.Key)(s:Option Tr.Key)(wl:List Wn):Option Tr.Key:=wl.foldr (fun x s=>Tr.Av (Ac x.2) key s) s
theorem ZN(a:Tr.Key)(b:Option Tr.Key)(c:List Wn)(x:Wn):Acp a b (c++[x])=Acp a (Tr.Av (Ac x.2) a b) c:=by unfold Acp;rw[List.foldr_append];rfl
theorem ZO(e:Ac n=m)(h:∀a∈m,Tr.Kv a):∀a∈n,a.2.2.size<=16:=fun a c=>by
 have b:(a.1,a.2.1.data.toList,a.2.2.data.toList)∈m:=by rw[<-e];exact xL.2 ⟨a,c,rfl⟩
 have a:=(Nh (h _ b)).2;rw[<-Ah];exact a
theorem Acq{r:List (Tr.Key×Tr.Ai h)}{s:Tr.Key}(V:Rep (h+1) w a (r,m) k)(W:Tr.WF (h+1) p f (r,m))(z:Tr.Top (h+1) (r,m))(X:Tr.inR p f s):
  ∃i j c d,Ax w a Z_ i j/\Bf 0 w i c/\c.length<=4/\Bb 0 w j d/\Ah8 w (a,d)/\∃(g:Tr.ix (Cp c) s<c.length),∃b o l n,Rep h w (c[Tr.ix (Cp c) s]'g).2 b o/\Tr.WF h l n b/\Tr.Top h b/\Tr.inR l n s/\Tr.room l n/\Tr.val (h+1) (r,m) s=Tr.Av (Ac d) s (Tr.val h b s):=by
 obtain⟨i,j,c,d,Y,q,F,t,e,n,rfl⟩:=V;obtain⟨G,H⟩:=W;obtain⟨Z,I,J,a0,L,M,u,y,N,O,a1,a2⟩:=Gl G X;have A:=n.keys;have B:=n.len;subst M;obtain⟨b,R,a3,a4,rfl,S,a5,T,rfl⟩:=Db.split n
 match R,T with
 | x::B'',⟨ex,H1,H2,r1,hk3,_⟩=>
  have g:Tr.ix (Cp (b++x::B'')) s=b.length:=by rw[A,u,S]
  have o:Tr.ix (Cp (b++x::B'')) s<(b++x::B'').length:=by rw[g];simp
  have C:((b++x::B'')[Tr.ix (Cp (b++x::B'')) s]'o)=x:=by
   have:∀l (f:l<(b++x::B'').length),l=b.length->(b++x::B'')[l]'f=x:=(by rintro l f rfl;simp);exact this _ _ g
  refine⟨i,j,_,d,q,F,by rw[B];exact z.1,t,⟨_,_,_,q,t,?_,ZO e fun D U=>(H D U).2⟩,o,J,H1,I,L,by rw[C];exact r1,y.1,y.2,O,N,?_⟩
  ·show d.length<=8;have D:=Bd d;have U:m.length<=8:=z.2;rw[e]at D;omega
  ·rw[e];exact Uu u
open Go.Shelf
attribute [local go_sem] Oper.semAt_some
def Xq(n₀ Bs:Nat)(A B:World):Prop:=Below n₀ A B/\B.heap[Bs]?=A.heap[Bs]?
def Ts(n:Nat):List (Fin n):=(List.finRange n).reverse
theorem QN(a:Nat):(Ts a).length=a:=by simp[Ts]
theorem Aeu(a b:Nat)(h:b<a):(Ts a).take (b+1)=(Ts a).take b++[⟨a-1-b,O_⟩]:=by
 unfold Ts;have c:b<(List.finRange a).reverse.length:=by simpa using h
 rw[zN,xW c,List.getElem_reverse];simp
theorem ZP(b:List α)(d:α->β->β)(c:β):(Ts b.length).foldl (fun c a=>d (b[a.1]'a.2) c) c=b.foldr d c:=by
 unfold Ts;rw[List.foldl_reverse];have e:b=(List.finRange b.length).map fun a=>b[a.1]'a.2:=by
  apply wY
  ·simp
  ·intro a f g;simp
 conv=>rhs;rw[e]
 rw[List.foldr_map]
theorem UL(b:List α)(f:Nat)(g:f=b.length)(c:α->β->β)(a:β):(Ts f).foldl (fun a d=>c (b[d.1]'(by have:=d.2;omega)) a) a=b.foldr c a:=by subst g;exact ZP b c a
theorem Acr(l:Fence)(p:Nat)(S:l.fn 139)(T:l.round=none)(a6:1<=p)(F Bs q i G:Nat)(a:hF)(a7:a.length<=4000000000000)(U:i<q)(j Jx:List (Fin a.length)->World->Prop)(V:∀g x d,j g d->g.length<a.length->YieldAt l (p-1) Tryz.prog F #[J_ (x.1:Int),A_ (a[x.1]'x.2)] d fun e f=>
   (e=R_ (.bool true)/\j (g++[x]) f/\Xq q Bs d f)\/(e=R_ (.bool false)/\Jx (g++[x]) f))(d:World)(W:d.heap[Bs]?=some (C_ #[L_ (P_ i) a.length G] 133 (0,0)))(X:∀o (h:o<a.length),d.cell? (Q_ i o)=some (A_ (a[o]'h)))(h0:j [] d):
  CallsIn l p Tryz.prog 139 #[.func (.yield F) #[] #[],A_ Bs] d fun e f=>(∃v,e=R_ v)/\
   ((∃C,C=Ts a.length/\j C f)\/(∃g,True/\Jx g f)):=by
 have r:∀f:World,f.heap[Bs]?=d.heap[Bs]?->f.cell? (Q_ Bs 0)=some (L_ (P_ i) a.length G):=fun f R=>by have:=R.trans W;simp[World.cell?,this]
 have Y:=r d rfl;refine callsIn_of_wp fC rfl S ?_ T;simp only[Tryz.ntmps139,vI,xH,yU,Nat.reduceAdd,Nat.reduceSub,cX,cY,dX,dL,zI,jF];have Z:IntKind.i64.wrap ((a.length:Int)-1)=(a.length:Int)-1:=zY _ ⟨O_,O_⟩
 gi_wp2
 gi_loopw [3] (fun n wr=>∃b:Nat,b<=a.length/\n=J_ ((a.length:Int)-1-b)/\j ((Ts a.length).take b) wr/\Xq q Bs d wr)
  (fun n _=>(intOf n+1).toNat)
 case atStart=>exact⟨0,Y_,D_,h0,xA _ _,rfl⟩
 case round=>
  obtain⟨b,J,rfl,u,y,z⟩:=hrel;have a0:=r wr z;by_cases D:b<a.length
  ·have s:((Ts a.length).take b).length<a.length:=(by rw[xR,QN];omega);obtain⟨c,A,k⟩:∃c,c=a.length-1-b/\c<a.length:=⟨_,rfl,O_⟩;have H:Hid ((Ts a.length).take (b+1)=(Ts a.length).take b++[⟨c,k⟩]):=by
    show _=_;rw[Aeu _ _ D];congr 2;exact Fin.ext A.symm
   obtain⟨a3,a4,assign,body,L,M⟩:=V _ ⟨c,k⟩ wr u s;dsimp only at L;have a1:wr.cell? (Q_ i c)=some (A_ (a[c]'k)):=(y.cell (p:=(Q_ i c)) U).trans (X c k);have m:((a.length:Int)-1-b)=(c:Int):=O_;rw[m];have a2:IntKind.i64.wrap ((c:Int)-1)=(c:Int)-1:=zY _ ⟨O_,O_⟩;have t:=Aa m;clear m A J D s
   gi_wp2
   refine M.mono ?_;rintro e a5 (⟨rfl,N,B⟩|⟨rfl,O⟩)
   ·gi_wp2
    go_roundw
    case rel=>exact⟨b+1,by have:=t.o;omega,by have:=t.o;congr 1;omega,by rw[H.o];exact N,y.trans B.1,B.2.trans z⟩
    case measure=>simp[intOf]
   ·gi_wp2
    refine yS (results_none rfl _ _ _) rfl ?_;exact⟨⟨_,rfl⟩,.inr ⟨_,trivial,O⟩⟩
  ·obtain rfl:b=a.length:=O_;have I:Hid ((Ts a.length).take a.length=Ts a.length):=yY (by rw[QN];exact Nat.le_refl _)
   gi_wp2
   go_end0;exact⟨⟨_,rfl⟩,.inl ⟨_,rfl,by rw[<-I.o];exact u⟩⟩
theorem ZQ(a:Fence)(i:Nat)(j:a.fn 139)(k:a.round=none)(l Bs:Nat)(b:World->Prop)(c:World)(m:c.cell? (Q_ Bs 0)=some Z_)(h0:b c):
  CallsIn a i Tryz.prog 139 #[.func (.yield l) #[] #[],A_ Bs] c fun e f=>(∃v,e=R_ v)/\b f:=by
 refine callsIn_of_wp fC rfl j ?_ k;simp only[Tryz.ntmps139,vI,xH,yU,Nat.reduceAdd,Nat.reduceSub,cX,cY,dX,dL,zI,jF]
 gi_wp2
 gi_loopw [3] (fun g wr=>g=J_ (-1)/\b wr) (fun _ _=>0)
 case atStart=>exact⟨rfl,h0⟩
 case round=>
  obtain⟨rfl,d⟩:=hrel
  gi_wp2
  go_end0;exact⟨⟨_,rfl⟩,d⟩
theorem Xq.trans{u y:World}(b:Xq a Bs c u)(d:Xq a Bs u y):Xq a Bs c y:=⟨b.1.trans d.1,d.2.trans b.2⟩
theorem Aev{e:TypeId}(h:w.ownsRow a e 1 (L_ (P_ b) k.length d) k.length (k.map fun b=> A_ b)):∀c (h:c<k.length),w.cell? (Q_ b c)=some (A_ (k[c]'h)):=fun c f=>by have:=h.cells rfl c (A_ (k[c]'f)) (by simp[f]);rw[Dy]at this;simpa using this
theorem UM(c:Fence)(d:Nat)(o:c.fn 139)(p:c.round=none)(z:1<=d)(Bs f:Nat)(g:Value)(a:hF)(A:a.length<=4000000000000)(w:World)(q:w.heap[Bs]?=some (C_ #[g] 133 (0,0)))(hI:w.ownsRow 0 120 1 g a.length (a.map fun b=> A_ b))(B:∀b,g.ownBlock=some b->b<f):
  SeqStopsK c d Tryz.prog 139 #[A_ Bs] (fun x:Fin a.length=> #[J_ (x.1:Int),A_ (a[x.1]'x.2)]) (Xq f Bs) (fun i=>i=Ts a.length) (fun _=>True) a.length w:=fun k l Jx m n _ _ y h0=>by
 have r:Bs<w.heap.size:=(xS.1 q).1;have i:=(n.block Bs r).trans q;have j:=Ae hI n X_;rcases j.2 with⟨e,t⟩|⟨b,u,D,e,F,G,H,I,J,L⟩
 ·subst e;obtain rfl:a=[]:=zT t;refine(ZQ c d o p k Bs (l []) m (by simp[World.cell?,i]) h0).mono ?_;rintro e C ⟨n,s⟩;exact⟨n,.inl ⟨[],rfl,s⟩⟩
 ·subst e;exact Acr c d o p z k Bs f b u a A (B b rfl) l Jx y m i (Aev j) h0
theorem Acs(a:Option Addr)(b c:Nat)(w:World):
  Calls Tryz.prog 79 #[L_ a b c] w fun e d=>e=R_ (.func (.func 139) #[] #[A_ w.heap.size])/\d=w.alloc (C_ #[L_ a b c] 133):=by
 go_in;go_wp2_with fail;go_ret;exact⟨rfl,rfl⟩
attribute [local go_sem] Oper.semAt_some
theorem Aew:(Tryz.prog.info? 120).map (fun a=>(a.zero,a.size,a.bytes))=some (some (.pointer none),1,8):=S_
theorem Afp(w:World){z:Array Oper}{rest:List Oper}{A:Oper}{B:Act}{Q:Exit->Act->World->Prop}(u:A.guard=none)(g x:Operand)(y:A.op=Op.call {callee:=Callee.builtin Builtin.append,args:= #[g,x],argTypes:= #[133,133]})(d:Nat)(v:Value)(f:Nat)(i:hH)(C:B.eval g=v)(D:w.ownsRow d 120 1 v f i)(a:Value)(F:a.oneCell'=true)(G:B.eval x=L_ (P_ w.heap.size) 1 1)(I:f+1<=4000000000000)(J:d<=w.heap.size)(h:∀(c:Value) (b:World),b.ownsRow d 120 1 c (f+1) (i++[a])->w.grownBy b v.ownBlock->wpList Tryz.prog z Q rest (B.put A.dst c) b):wpList Tryz.prog z Q (A::rest) B (w.alloc (C_ #[a] 120)):=by
 obtain⟨k,l,m,n,o⟩:=zB Aew;refine wT (w.alloc (C_ #[a] 120)) u g x 133 y d 120 k (.pointer none) 1 8 Tryz.underlying133 l m n o rfl Do v f i C (D.alloc _) (Q_ w.heap.size 0) 1 1 [a] G D_ ?_ (by intro p q;rw[yR.1 q];exact F) (by unfold maxLen;omega) O_ K_ ?_
 ·intro H p r;have j:(w.alloc (C_ #[a] 120)).heap[w.heap.size]?=some (C_ #[a] 120 (0,0)):=xK _ _;rw[Dy];unfold World.cell?;rw[j];simpa using r
 intro c b s t _ _;exact h c b s (Cm t)
def Ah9:Value->Nat
 | .pointer (some ⟨g,_,_⟩)=>g
 | _=>0
structure GeI(w:World)(h:Nat)(t:Tr.Ai h)(key:hJ)(v6 v7:Value)(wl:List Wn)(h' p':Nat)(t':Tr.Ai h')(F':hF)(lo:Tr.Key)(hi:Option Tr.Key)(wr:World):Prop where
 p:v7=A_ p'
 row:wr.ownsRow (w.heap.size+1) 120 1 v6 wl.length (wl.map fun x=> A_ x.1)
 rep:Rep h' w p' t' F'
 wf:Tr.WF h' lo hi t'
 top:Tr.Top h' t'
 inr:Tr.inR lo hi key.data.toList
 room:Tr.room lo hi
 val:Tr.val h t key.data.toList=Acp key.data.toList (Tr.val h' t' key.data.toList) wl
 ok:∀x∈wl,Ah8 w x
 len:wl.length+h'=h
 bel:Below w.heap.size w wr
 box:wr.heap[w.heap.size]?=some (C_ #[B_ key] 9 (0,0))
structure RdF(n₀ Bs B0:Nat)(w W wr:World):Prop where
 keeps:KeepsFrom B0 W wr
 bk:Xq n₀ Bs W wr
 bel:Below w.heap.size w wr
 bs:Bs<wr.heap.size
 n0:n₀<=wr.heap.size
theorem RdF.below(h:RdF a Bs b w W wr)(d:Below wr.heap.size wr c):RdF a Bs b w W c:=
 ⟨h.keeps.trans ((⟨d.size,fun g _ f _=>(d.block g (xS.1 f).1).trans f⟩:KeepsOthers wr c).from b),h.bk.trans ⟨d.mono h.n0,d.block Bs h.bs⟩,h.bel.trans (d.mono h.bel.size),yF h.bs d.size,xI h.n0 d.size⟩
theorem RdF.set(h:RdF a Bs b w c wr)(g:a<=d)(j:w.heap.size<=d)(k:Bs≠d)(v:Value):RdF a Bs b w c (wr.setCell (Q_ d i) v):=by have f:=Mod.setCell wr d i v;exact⟨h.keeps.trans ((KeepsOthers.setCell wr (Q_ d i) v).from b),h.bk.trans ⟨(xA a wr).setCell (p:=(Q_ d i)) g v,f.block Bs h.bs k⟩,h.bel.setCell (p:=(Q_ d i)) j v,yF h.bs f.size,xI h.n0 f.size⟩
theorem Aex{k:Tr.Key}{c:Tr.Ch}(a:(f.getD []).length<=16)(b:c.2.2.length<=16):((Tr.one k f c).getD []).length<=16:=by
 unfold Tr.one;split
 ·cases h:Tr.Es f c with
  | none=>simp
  | some v=>exact Ng b h
 ·exact a
theorem GeI.drewN{C:Tr.Ai h}{F:List Wn}{i:Tr.Ai a}(c:GeI w h C l g q F a b i k p f wr)(d:Nat):GeI w h C l g q F a b i k p f (wr.drewN d):=
 ⟨c.p,Ae c.row (Ao (xA _ wr) d) X_,c.rep,c.wf,c.top,c.inr,c.room,c.val,c.ok,c.len,Ao c.bel d,((Ao (xA wr.heap.size wr) d).block _ (xS.1 c.box).1).trans c.box⟩
structure RdI(n₀ Bs B0 sb kb:Nat)(w W:World)(key:hJ)(sl:Value)(s:Option Tr.Key)(wr:World):Prop where
 rd:RdF n₀ Bs B0 w W wr
 len:(s.getD []).length<=16
 c0:wr.cell? (Q_ sb 0)=some (B_ (stV s))
 c1:wr.cell? (Q_ sb 1)=some (.bool (stB s))
 f0:wr.frozen? (Q_ sb 0)=false
 f1:wr.frozen? (Q_ sb 1)=false
 ck:wr.cell? (Q_ kb 0)=some (B_ key)
 cb:wr.cell? (Q_ Bs 0)=some sl
theorem FV{v:Value}(h:w.cell? (Q_ a b)=some v):a<w.heap.size:=by
 rcases jX a w.heap.size with c|c
 ·exact c
 ·simp[World.cell?,aV c]at h
theorem FW(d:Below w.heap.size w c)(f:a<w.heap.size):c.frozen? (Q_ a b)=w.frozen? (Q_ a b):=by simp only[World.frozen?,d.block a f]
theorem RdI.below(h:RdI a Bs b d i w W l g f wr)(j:Below wr.heap.size wr c):RdI a Bs b d i w W l g f c:=by have k:=FV h.c0;exact⟨h.rd.below j,h.len,(j.cell (p:=(Q_ d 0)) k).trans h.c0,(j.cell (p:=(Q_ d 1)) k).trans h.c1,(FW j k).trans h.f0,(FW j k).trans h.f1,(j.cell (p:=(Q_ i 0)) (FV h.ck)).trans h.ck,(j.cell (p:=(Q_ Bs 0)) (FV h.cb)).trans h.cb⟩
theorem RdI.put{t:Option Tr.Key}(h:RdI a Bs b d i w c l g f wr)(k:a<=d)(m:w.heap.size<=d)(j:Bs≠d)(n:i≠d)(o:(t.getD []).length<=16):RdI a Bs b d i w c l g t ((wr.setCell (Q_ d 0) (B_ (stV t))).setCell (Q_ d 1) (.bool (stB t))):=by
 refine⟨(h.rd.set k m j _).set k m j _,o,?_,?_,?_,?_,?_,?_⟩
 ·rw[qI _ _ _ _ D_];exact cK _ _ _ h.c0
 ·refine cK _ _ _ (u:=.bool (stB f)) ?_;rw[qI _ _ _ _ D_];exact h.c1
 ·rw[cM,cM];exact h.f0
 ·rw[cM,cM];exact h.f1
 ·rw[qI _ _ _ _ D_,qI _ _ _ _ (by simp;first|exact fun e=>n e.symm|exact fun e=>j e.symm|skip)];exact h.ck
 ·rw[qI _ _ _ _ D_,qI _ _ _ _ (by simp;first|exact fun e=>n e.symm|exact fun e=>j e.symm|skip)];exact h.cb
theorem Acu{key:Tr.Key}{s:Option Tr.Key}(a:Nat)(b:a<n.length):Tr.Av (Ac (n.take (a+1))) key s=Tr.one key (Tr.Av (Ac (n.take a)) key s) (chP (n[a]'b).1 (n[a]'b).2.1 (n[a]'b).2.2):=by rw[zN,xW b];unfold Ac;rw[yX,Tr.Fz];rfl
theorem MQ{D:Value}(h:Ax w a g q D)(b:Below w.heap.size w wr):Ax wr a g q D:=(b.block a h.lt).trans h
theorem Acv(W:Tr.Key->Option Tr.Key)(h8 d4:Nat)(h9:hF)(a:hJ)(w:World)(n7:Eh W h8 d4 h9 w)(s7:h8<=900000):
  Calls Tryz.prog 43 #[A_ d4,B_ a] w fun N a5=>N=R_ (.tuple #[B_ (stV (W a.data.toList)),.bool (stB (W a.data.toList))])/\Below w.heap.size w a5:=by
 obtain⟨h,f0,a2,k8,G⟩:=n7;have b1:Below w.heap.size w (w.alloc (C_ #[B_ a] 9)):=(xA _ w).alloc X_ _;have i0:Hid (GeI w h a2 a Z_ (A_ f0) [] h f0 a2 h9 [] none (w.alloc (C_ #[B_ a] 9))):=
  ⟨rfl,yP _ _ _ _,G.rep,G.root.wf,G.root.top,Qn _,Kr,rfl,(fun x d1=>by cases d1),D_,b1,xK _ _⟩
 have i1:=Aa (G.root.val a.data.toList);obtain⟨o3,o4⟩:=(G.tb.keep (b1.block d4 G.tb.lt)).cells;have n8:h<=3600000000000:=O_;clear G b1 k8;refine(callsIn_wide (n:=6)).1 ?_;refine callsIn_of_wp_marks Tryz.func43 rfl trivial ?_ rfl;simp only[Tryz.ntmps43,vI,xH,yU,Nat.reduceAdd,Nat.reduceSub,cX,cY,dX,dL,zI,jF];refine wpIn_wide.2 ?_;go_wp2_with fail
 go_loopw [6,7] (fun n0 d2 wr=>∃d s q a3 f1 f2 f3,GeI w h a2 a n0 d2 d s q a3 f1 f2 f3 wr) (fun _ d2 _=>hgt h w (Ah9 d2))
 case atStart=>exact⟨_,_,_,_,_,_,_,i0.o⟩
 case round=>
  obtain⟨d,s,q,a3,f1,f2,f3,hI⟩:=hrel;obtain rfl:=hI.p;have b:=Aa hI;have i2:wr.cell? (Q_ w.heap.size 0)=some (B_ a):=by simp[World.cell?,hI.box]
  clear hI
  match s,a3,b with
  | 0,a3,b=>
   obtain⟨f4,t,M,F,rfl,-⟩:=b.o.rep;have J:=MQ M b.o.bel;have T:=Aa (Hh q _ _ _ _ _ wr J);clear M;go_wp2_with fail;refine T.o.mono ?_;rintro N wr ⟨rfl,rfl⟩;have d5:Ap 0 wr f4 t:=Ae F b.o.bel X_;have i3:Hid (Tr.Cb (Ab t)):=b.o.wf.1;have n9:t.length<=16:=(by have:List.length (α:=Tr.It) (Ab t)<=16:=b.o.top;simpa[Ab]using this);have i4:Hid (((Ce (Ab t) a.data.toList).getD []).length<=16):=by
    show _<=_
    cases d3:Ce (Ab t) a.data.toList with
    | none=>simp
    | some v=>
     have L:=(b.o.wf.2 _ (Ab7 d3)).2.2;exact L
   have b2:=Aa (Zv q 0 f4 _ _ t a wr J d5 O_ i3.o);have i5:Hid (W a.data.toList=Acp a.data.toList (Ce (Ab t) a.data.toList) d):=(by show _=_;rw[<-i1.o];exact b.o.val);clear F d5 J T;obtain⟨n,o,rfl⟩:=Ad b.o.row;go_wp2_with fail;refine b2.o.mono ?_;rintro N c ⟨rfl,g7⟩;have X:=Aa g7;clear g7 b2;go_wp2_with (go_at_call 79;refine(Acs _ _ _ _).mono ?_;rintro e a5 ⟨rfl,rfl⟩);generalize n5:Ce (Ab t) a.data.toList=j at*;clear n5;have i6:=X.o.size;have d6:Below w.heap.size w c:=b.o.bel.trans (X.o.mono b.o.bel.size);have i7:w.heap.size<wr.heap.size:=(xS.1 b.o.box).1;have i8:Below c.heap.size c (c.alloc (C_ #[B_ (stV j),.bool (stB j)] 136)):=(xA _ c).alloc X_ _;have i9:(c.alloc (C_ #[B_ (stV j),.bool (stB j)] 136)).heap.size=c.heap.size+1:=D_;have j0:(c.alloc (C_ #[B_ (stV j),.bool (stB j)] 136)).heap[c.heap.size]?=some (C_ #[B_ (stV j),.bool (stB j)] 136 (0,0)):=xK _ _;generalize c.alloc (C_ #[B_ (stV j),.bool (stB j)] 136)=C at*;have d7:Below C.heap.size C (C.alloc (C_ #[L_ n d.length o] 133)):=(xA _ C).alloc X_ _;have o0:(C.alloc (C_ #[L_ n d.length o] 133)).heap.size=C.heap.size+1:=D_;have b3:(C.alloc (C_ #[L_ n d.length o] 133)).heap[C.heap.size]?=some (C_ #[L_ n d.length o] 133 (0,0)):=xK _ _;rw[i9]at b3;generalize C.alloc (C_ #[L_ n d.length o] 133)=D at*;have b4:Below c.heap.size c D:=i8.trans (d7.mono O_);have Y:D.heap[c.heap.size]?=some (C_ #[B_ (stV j),.bool (stB j)] 136 (0,0)):=(d7.block _ O_).trans j0;have j1:D.cell? (Q_ w.heap.size 0)=some (B_ a):=(by rw[b4.cell (p:=(Q_ w.heap.size 0)) K_,X.o.cell (p:=(Q_ w.heap.size 0)) i7];exact i2);have j2:D.ownsRow 0 120 1 (L_ n d.length o) (d.map (·.1)).length ((d.map (·.1)).map fun H=> A_ H):=(by rw[xP,zW];exact Ae (Dp b.o.row) (X.o.trans (b4.mono i6)) X_);have j3:=Aa b.o.ok;have d8:=Aa (d6.trans (b4.mono d6.size));have d9:=Aa (UM Fence.wide 5 trivial rfl O_ (c.heap.size+1) c.heap.size (L_ n d.length o) (d.map (·.1)) (by rw[xP];have:=b.o.len;omega) D b3 j2 (fun H y=>by have:=(xF b.o.row H y).2;omega));refine(wpIn_wide (n:=6)).1 ?_
   refine wpIn_rangeFunc_ownG rfl Do (gf:=139) (lb:= #[A_ (c.heap.size+1)]) rfl trivial (enters_of fC S_ rfl)
    d9.o Xq.trans (fun g a6 n1 n2 d3 F L n3=>⟨belowK_b (w:=D) O_ g a6 n1 n2 d3 F L n3,World.putObj_heap_other O_⟩) (xA _ _) (fun _=>rfl)
    (fun a7 g=>((∃f,f=a7.foldl (fun f A=>Tr.Av (Ac (d[A.1]'(by have:=A.2;simpa using this)).2) a.data.toList f) j/\(f.getD []).length<=16/\g.cell? (Q_ c.heap.size 0)=some (B_ (stV f))/\g.cell? (Q_ c.heap.size 1)=some (.bool (stB f)))/\g.frozen? (Q_ c.heap.size 0)=false/\g.frozen? (Q_ c.heap.size 1)=false/\g.cell? (Q_ w.heap.size 0)=some (B_ a)/\g.cell? (Q_ (c.heap.size+1) 0)=some (L_ n d.length o))/\Below w.heap.size w g)
    (fun _ _ _=>False) ?hI (fun _ _ _ _ _ z _ _=>z) ?h0 ?a1 ?assign ?body ?done ?stop
   case hI=>exact OwnFrom.and (Own.from (fun f s3 s4 s5 z y O=>by obtain⟨⟨k9,a4,l0,f5,f6⟩,l1,l2,l3,l4⟩:=z;exact⟨⟨k9,a4,l0,cO f5 y O,cO f6 y O⟩,(frozen_kept f5 y O).trans l1,(frozen_kept f6 y O).trans l2,cO l3 y O,cO l4 y O⟩) _) (ownFrom_below X_ O_)
   case h0=>exact⟨⟨⟨j,rfl,i4.o,by simp[World.cell?,Y],by simp[World.cell?,Y]⟩,by simp[World.frozen?,Y],by simp[World.frozen?,Y],j1,by simp[World.cell?,b3]⟩,d8.o⟩
   case assign=>
    intro a6 x g K a9
    gi_wp2
    exact a9
   case body=>
    rintro a6 a7 x g ⟨⟨⟨f,z,c7,c8,a4⟩,g8,g9,h1,c9⟩,V⟩ -;have b5:x.1<d.length:=(by have:=x.2;simpa using this);have j4:Hid ((a7++[x]).foldl (fun f A=>Tr.Av (Ac (d[A.1]'(by have:=A.2;simpa using this)).2) a.data.toList f) j=Tr.Av (Ac (d[x.1]'b5).2) a.data.toList f):=(by show _=_;rw[List.foldl_append,z];rfl);have e0:=yA b5
    try simp only[vR]
    generalize d[x.1]'b5=n6 at*;obtain⟨H,l⟩:=n6;obtain⟨o5,o6,l5,f7,c2,l6,f8⟩:=j3.o (H,l) e0;have e1:=MQ f7 V;have e2:Bb 0 g l5 l:=Ae c2 V X_;obtain⟨f9,g0,g1,-⟩:=e1.cells;obtain⟨o7,o8,rfl⟩:=Ad e2;have j5:Hid (RdI c.heap.size (c.heap.size+1) D.heap.size c.heap.size w.heap.size w g a (L_ n d.length o) f g):=⟨⟨KeepsFrom.refl _ _,⟨xA _ _,rfl⟩,V,FV c9,zX (FV c8)⟩,c7,c8,a4,g8,g9,h1,c9⟩;have j6:=Aa c2;have o1:w.heap.size<c.heap.size:=O_;have j7:=Aa f8;clear f7 c2 e1 e2 f8 z d9 e0
    try simp only at f9 g0 g1 l6
    gi_wp2
    gi_loopw [46] (fun A wr=>∃k:Nat,k<=l.length/\A=J_ (k:Nat)/\RdI c.heap.size (c.heap.size+1) D.heap.size c.heap.size w.heap.size w g a (L_ n d.length o) (Tr.Av (Ac (l.take k)) a.data.toList f) wr) (fun A _=>l.length-(intOf A).toNat)
    case atStart=>exact⟨0,Y_,rfl,j5.o⟩
    case round=>
     obtain⟨k,o9,rfl,hI⟩:=hrel;have m:=Aa hI;obtain⟨-,l7,p0,p1,p2,p3,p4,p5⟩:=hI;by_cases b0:k<l.length
     ·have F:=Ae j6.o m.o.rd.bel X_;obtain⟨p6,p7,e,p8,-,p9,l8,l9,m0⟩:=Bb.at F k b0;simp only[xJ]at e;obtain⟨rfl,-,rfl⟩:=e;have e3:=Aa (Acu (key:=a.data.toList) (s:=f) k b0);have e4:=j7.o _ (yA b0);generalize l[k]'b0=h3 at*;obtain⟨u,p,r⟩:=h3;simp only at l8 l9 m0 e4;have e5:Below wr.heap.size wr (wr.alloc (C_ #[J_ u,B_ p,B_ r] 34)):=(xA _ wr).alloc X_ _;have b6:=Aa (m.o.below e5);have j8:Hid (ChB (wr.alloc (C_ #[J_ u,B_ p,B_ r] 34)) wr.heap.size u p r):=xK _ _;obtain⟨q0,q1,q2⟩:=j8.o.cells;obtain⟨-,-,q3,q4,g2,q5,q6,q7⟩:=b6.o;generalize h7:Tr.Av (Ac (l.take k)) a.data.toList f=S at*;have b2:=Aa h7;clear e5 h7 F;by_cases B:p.data.toList=a.data.toList
      ·have j9:(p.toList==a.toList)=true:=(by rw[Af,Af];simpa using B);have b7:Hid (Tr.Av (Ac (l.take (k+1))) a.data.toList f=Tr.Es S (chP u p r)):=by
        show _=_;rw[e3.o];exact xD B
       have k0:Hid (((Tr.Es S (chP u p r)).getD []).length<=16):=(by show _<=_;have L:=Aex (k:=a.data.toList) (c:=chP u p r) l7 (by show r.data.toList.length<=16;rw[Ah];exact e4);rw[show Tr.one a.data.toList S (chP u p r)=Tr.Es S (chP u p r)from xD B]at L;exact L);clear B
       gi_wp2_with (refine⟨trivial,?_⟩;gi_at_call 70;refine(CallsIn.inRound a6 (callsIn_wide.2 (Tb S u p r _ O_ O_))).mono ?_;rintro e s0 ⟨rfl,h2⟩;have e6:=Aa (b6.o.below h2);obtain⟨-,-,q8,q9,r0,r1,r2,r3⟩:=e6.o;clear h2)
       go_roundw
       case rel=>exact⟨k+1,O_,W_,by rw[b7.o];exact e6.o.put X_ O_ O_ O_ k0.o⟩
       case measure=>simp[intOf];omega
      ·have j9:(p.toList==a.toList)=false:=(by rw[Af,Af];simpa using B);have b7:Hid (Tr.Av (Ac (l.take (k+1))) a.data.toList f=S):=by
        show _=_;rw[e3.o];exact xB B
       clear B
       gi_wp2
       go_roundw
       case rel=>exact⟨k+1,O_,W_,by rw[b7.o];exact b6.o⟩
       case measure=>simp[intOf];omega
     ·obtain rfl:k=l.length:=O_
      gi_wp2
      exact⟨m.o.rd.keeps,m.o.rd.bk,⟨⟨_,by rw[j4.o,zQ],m.o.len,m.o.c0,m.o.c1⟩,m.o.f0,m.o.f1,m.o.ck,m.o.cb⟩,m.o.rd.bel⟩
   case done=>
    rintro a8 s1 g s2 rfl ⟨⟨⟨f,z,c7,c8,a4⟩,g8,g9,h1,c9⟩,V⟩ a9;have k1:Hid (f=W a.data.toList):=(by show _=_;rw[z,i5.o];exact UL d _ (xP ..) (fun x f=>Tr.Av (Ac x.2) a.data.toList f) j);clear z c7;go_upto_region 15 with fail;go_quiet (fail);go_wp2_with fail;have e7:(g.drewN nq).heap[a8]?=some (.deferred (some [])):=((Ao (xA g.heap.size g) nq).block a8 (xS.1 a9).1).trans a9;refine⟨D_,.inl ⟨_,_,rfl,run_takeDeferred e7,?_⟩⟩;exact⟨_,cS rfl _ _ _,by rw[<-k1.o];rfl,(Ao V nq).trans (belowK_b (w:=w) X_ _ a8 _ _ (by have:=d8.o.size;omega) e7 rfl rfl)⟩
   case stop=>
    rintro a8 h3 a7 g _ _ h _;exact h.elim
  | s+1,(ps,cs),b=>
   obtain⟨m1,r4,i,l,M,c3,r5,m2,g3,U,m3,m4,m5,m6,c4,c5,g4,g5,c6,g6⟩:=Acq b.o.rep b.o.wf b.o.top b.o.inr;have J:=MQ M b.o.bel;have e8:Bf 0 wr m1 i:=Ae c3 b.o.bel X_;obtain⟨m7,m8,rfl⟩:=Ad e8;have T:=Aa (Hh q _ _ _ _ _ wr J);have k2:Hid (d.length+1<=4000000000000):=(by show _<=_;have:=b.o.len;omega);have e9:Hid (w.heap.size+1<=wr.heap.size):=(xS.1 b.o.box).1;have k3:¬i.length=0:=O_;have Z:=Aa b.o.row;obtain⟨n,o,rfl⟩:=Ad Z.o;go_wp2_with fail;refine T.o.mono ?_;rintro N wr ⟨rfl,rfl⟩;rw[show decide (i.length=0)=false from xN k3];go_upto_region 5 with(at_builtin;refine Afp wr rfl (.tmp 20) (.tmp 22) rfl (w.heap.size+1) (L_ n d.length o) d.length _ rfl Z.o (A_ q) rfl rfl k2.o e9.o ?_;intro m9 I h4 h5);have b8:Below (w.heap.size+1) wr I:=(xA _ wr).grown h5 e9.o (fun n4 B=>(xF Z.o n4 B).1);have a0:Below w.heap.size w I:=b.o.bel.trans (b8.mono (kF _));have b9:I.heap[w.heap.size]?=some (C_ #[B_ a] 9 (0,0)):=(b8.block _ (Nat.lt_succ_self _)).trans b.o.box;have o2:I.cell? (Q_ w.heap.size 0)=some (B_ a):=(by simp[World.cell?,b9]);have c0:=MQ M a0;obtain⟨f9,g0,g1,-⟩:=c0.cells;have c1:Bf 0 I (L_ m7 i.length m8) i:=Ae c3 a0 X_;obtain⟨H,r6,e,r7,-,y,r8,r9⟩:=c1.at _ U;simp only[xJ]at e;obtain⟨rfl,-,rfl⟩:=e;have k4:Hid (∀R,R.heap=I.heap->Calls Tryz.prog 77 #[A_ q,B_ a] R fun N a5=>N=R_ (J_ (Tr.ix (Cp i) a.data.toList:Nat))/\a5=R):=fun R h6=>Mq q 0 _ _ _ i a R (show Ax R _ _ _ _ by unfold Ax;rw[h6];exact c0) (Bx c1 fun H _ _=>by rw[h6]) O_
   have k5:Hid (GeI w h a2 a m9 (A_ ((i[Tr.ix (Cp i) a.data.toList]'U).2)) (d++[(q,l)]) s (i[Tr.ix (Cp i) a.data.toList]'U).2 m3 m4 m5 m6 I):=by
    refine⟨rfl,?_,c4,c5,g4,g5,c6,?_,fun x d1=> ?_,?_,a0,b9⟩
    ·rw[xC,yX];exact h4
    ·rw[b.o.val,ZN,g6]
    ·rcases xE.1 d1 with d0|d0
     ·exact b.o.ok x d0
     ·rw[yR.1 d0];exact g3
    ·have:=b.o.len;rw[xC];simp;omega
   have k6:Hid (hgt h w q=s+1):=BS (s+1) h (by have:=b.o.len;omega) b.o.rep b.o.wf b.o.room;have k7:Hid (hgt h w (i[Tr.ix (Cp i) a.data.toList]'U).2=s):=BS s h (by have:=b.o.len;omega) c4 c5 c6;generalize(i[Tr.ix (Cp i) a.data.toList]'U).2=g2 at*;generalize Tr.ix (Cp i) a.data.toList=s6 at*;clear c3 c1 M J e8 c0 m2 g3 g6 g5 c6 g4 c5 c4 h4 h5 b8 a0 b9 Z T;go_quiet (exact dD (k4.o _ rfl));go_wp2_with fail;refine⟨⟨_,_,_,_,_,_,_,k5.o.drewN _⟩,?_⟩;show hgt h w g2<hgt h w q;rw[k6.o,k7.o];omega
namespace Pr
open Pg
theorem Vc(a:hE)(h:a.length<128):(text a).length=a.length+1:=by
 unfold text;rw[xC];have:(num a.length).length=1:=by rw[Lc _ h,Bo]
 omega
theorem QO{G:Int×hE×hE}(h:Bh G=true):(Ct G).length<=31:=by
 simp only[Bh,Bv,yK,kT,yL]at h;have a:=Ed h.1.1;have b:=Vc G.2.1 O_;have c:=Vc G.2.2 O_;unfold Ct;rw[xC,xC,Bo];split
 ·simp;omega
 ·omega
theorem Uc(a:List (Int×hE×hE))(h:∀b∈a,Bh b=true):(Cc a).length<=1+31*a.length:=by
 unfold Cc;rw[xC,Bo];have:(a.flatMap Ct).length<=31*a.length:=by
  induction a with
  | nil=>simp
  | cons x r ih=>
   rw[jJ,xC,xH];have d:=QO (h x D_);have f:=ih fun b c=>h b (by simp[c])
   omega
 omega
theorem Ud(a:hF)(b:List hE)(j:∀c∈a,c<=2147483647)(f:∀c∈b,c.length<=12):(Dw a b).length<=5*a.length+13*b.length:=by
 unfold Dw;rw[xC];have g:(a.flatMap num).length<=5*a.length:=by
  induction a with
  | nil=>simp
  | cons x r ih=>
   rw[jJ,xC,xH];have g:=KS x (by have:=j x D_;omega);have i:=ih fun c d=>j c (by simp[d])
   omega
 have i:(b.flatMap text).length<=13*b.length:=by
  induction b with
  | nil=>simp
  | cons x r ih=>
   rw[jJ,xC,xH];have g:=Vc x (by have:=f x D_;omega);have i:=ih fun c d=>f c (by simp[d])
   have:=f x D_;omega
 omega
theorem FX(a:Nat)(b:hE)(h:a<65536):Gw (low a 2++b)=some (a,b):=by unfold Gw;have:=Dx (low a 2) b;rw[Bo]at this;rw[this];simp only[vY];rw[Mw 2 a (by simpa using h)]
theorem FY(a:hF)(b:List hE)(c:List (Int×hE×hE))(j:∀d∈a,d<=2147483647)(k:∀f∈b,f.length<=12)(l:∀d∈c,Bh d=true)(H:a.length<=4)(y:b.length+1=a.length)(I:c.length<=8):Dl (Fb a b c)=some (a,b,c):=by
 have z:=Ud a b j k;have A:=Uc c l;have B:=Ek [112] (Dw a b) O_;have C:=Ek [109] (Cc c) O_;have D:([112]:hE).length=1:=rfl;have F:([109]:hE).length=1:=rfl;have m:=Mj 112 (Dw a b) O_;have n:=Mj 109 (Cc c) O_;have o:=ME a b j k y;have f:=HK c [] O_ (fun d g=>by
  have:=l d g;simp only[Bh,Bv,yK,kT,yL]at this;have p:=Ed this.1.1;refine⟨?_,p,this.1.2⟩;rcases this.2 with(h|h)|h
  ·exact .inl h
  ·exact .inr (.inl h)
  ·exact .inr (.inr ⟨h.1,zA.1 h.2⟩))
 rw[yC]at f;have g:Ck a b=Ar [112] (Dw a b):=rfl;have i:Cf c=Ar [109] (Cc c):=rfl;have e:Fb a b c=sealed ([83,50,73]++low a.length 1++low (Ck a b).length 2++low (Cf c).length 2++List.replicate 56 0)++[Ck a b,Cf c].flatten:=by unfold Fb;simp
 have q:(sealed ([83,50,73]++low a.length 1++low (Ck a b).length 2++low (Cf c).length 2++List.replicate 56 0)).length=68:=by rw[Jb];simp[Bo]
 have hcut:=Ye _ [Ck a b,Cf c] q;rw[<-e]at hcut;obtain⟨rest,u⟩:∃rest,Fb a b c=[83,50,73]++(UInt8.ofNat (a.length % 256)::(low (Ck a b).length 2++(low (Cf c).length 2++rest))):=by refine⟨List.replicate 56 0++(low (crc ([83,50,73]++low a.length 1++low (Ck a b).length 2++low (Cf c).length 2++List.replicate 56 0)) 4++(Ck a b++Cf c)),?_⟩;unfold Fb sealed;generalize crc ([83,50,73]++low a.length 1++low (Ck a b).length 2++low (Cf c).length 2++List.replicate 56 0)=d;generalize Ck a b=P;generalize Cf c=G;simp[low]
 unfold Dl;have r:Di 3 (Fb a b c)=some ([83,50,73],UInt8.ofNat (a.length % 256)::(low (Ck a b).length 2++(low (Cf c).length 2++rest))):=by rw[u];exact Dx [83,50,73] _
 have s:(UInt8.ofNat (a.length % 256)).toNat=a.length:=by rw[jY];omega
 rw[r];simp only[xV,Ee];rw[FX _ _ (by rw[g];omega)];simp only[xV];rw[FX _ _ (by rw[i];omega)];simp only[xV];have t:Py (Fb a b c) [(Ck a b).length,(Cf c).length]=some [Ck a b,Cf c]:=hcut;rw[t];simp only[xV,wZ,bG];rw[g,m];simp only[xV,s];rw[o];simp only[xV];rw[i,n];simp only[xV];rw[f];simp
theorem FZ{H:Lb}(h:Mc H=true):En (Kq H)=some H:=by
 have s:Kp (Kq H)=some H:=by
  obtain⟨A,i,b,f,g⟩:=H;unfold Mc Kh at h;simp only at h;by_cases r:A=1
  ·rw[xD r]at h;simp only[yK,yL,xP]at h;obtain⟨⟨⟨⟨m,n⟩,o⟩,p⟩,q⟩:=h;have t:=zA.1 o;have u:=zA.1 p;have j:=zA.1 q;subst r t u j;have k:Kq (1,i,[],[],[])=Lx i:=rfl;have y:=(Oj i).1 m;have l:(Lx i).take 3=[83,50,76]:=(by unfold Lx sealed;simp);unfold Kp;rw[k,l,xB Do,TW y n];rfl
  ·rw[xB r]at h;simp only[yK,yL,xP]at h;obtain⟨⟨⟨⟨⟨⟨⟨⟨m,n⟩,o⟩,p⟩,q⟩,F⟩,B⟩,C⟩,D⟩:=h;have j:=zA.1 q;subst p j;have z:(b.map Int.ofNat).map Int.toNat=b:=(by rw[zW];exact List.map_id' _ |>.trans rfl);have k:Kq (2,[],b,f,g)=Fb b f g:=by
    show page 2 [] (b.map Int.ofNat) f g=_;unfold page;rw[xD rfl,z]
   have l:(Fb b f g).take 3=[83,50,73]:=(by unfold Fb sealed;simp);have d:∀c∈b,c<=2147483647:=fun c d=>by have:=zV.1 n (Int.ofNat c) (xL.2 ⟨c,d,rfl⟩);simp only[Bz,yK,yL]at this;have:=this.2;simp only[bA]at this;omega
   unfold Kp;rw[k,xD l,FY b f g d (Fe _ _ m) (fun c d=>zV.1 o c d) B C D];rfl
 unfold En;rw[s];simp only[xV,h,wD]
end Pr
