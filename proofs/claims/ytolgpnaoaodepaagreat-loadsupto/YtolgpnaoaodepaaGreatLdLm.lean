import Derived.Test.YtolgpnaoaodepaaGreatLdHm
set_option maxHeartbeats 1000000
set_option maxRecDepth 20000
namespace Go.Proofs.YtolgpnaoaodepaaGreat
open Go.RowKit Ld
variable {g:Nd}{c:hD}{a:Nat}{w b:World}{i j v:Value}{k:hF}{d:List TkM}
theorem Abz{m:hE}(h:Pr.En m=some g):okN g/\∀b∈kds g,b<=2147483647:=by
 obtain⟨a,-⟩:=Pr.Ph h;obtain⟨q,r,F,s,G⟩:=g;unfold Pr.Mc Pg.Kh at a;simp only at a;by_cases l:q=1
 ·rw[xD l]at a;simp only[yK,yL,xP]at a;obtain⟨⟨⟨⟨a,f⟩,i⟩,j⟩,k⟩:=a;have n:=(Pr.Oj r).1 a;have o:=zA.1 i;have p:=zA.1 j;have d:=zA.1 k;subst o p d;exact⟨.inl ⟨l,rfl,rfl,rfl,f,n.2,n.1⟩,fun b c=>by cases c⟩
 ·rw[xB l]at a;simp only[yK,yL,xP]at a;obtain⟨⟨⟨⟨⟨⟨⟨⟨a,f⟩,i⟩,j⟩,k⟩,t⟩,u⟩,y⟩,z⟩:=a;obtain⟨⟨A,B⟩,-⟩:=(Pr.Ml s none).1 a;have d:=zA.1 k;subst d;refine⟨.inr ⟨j,rfl,t,u,y,B,fun C D=>A C D,z,fun b c=>zV.1 i b c⟩,fun b c=> ?_⟩
  ·have:=zV.1 f (Int.ofNat b) (xL.2 ⟨b,c,rfl⟩);simp only[Pg.Bz,yK,yL]at this;have:=this.2;simp only[bA]at this;omega
theorem Qm(h:(Au c)[a]?=some (some g)):okN g/\∀b∈kds g,b<=2147483647:=by unfold Au at h;rw[zU,gX]at h;obtain⟨b,-,h⟩:=h;exact Abz h
theorem Dd(a:hD):BB (Au a):=fun _ _ h=>(Qm h).1
theorem Ah5(w:World){n:Array Oper}{rest:List Oper}{p:Oper}{q:Act}{Q:Exit->Act->World->Prop}(S:p.guard=none)(y x:Operand)(d e:TypeId)(z:Tryz.prog.underlying d=some (.slice e))(s:Value)(c m:Nat)(T:(Tryz.prog.info? e).map (fun g=>(g.zero,g.size,g.bytes))=some (some s,c,m))(U:s.cells.size=c)(V:0<c)(W:m<=1000)(X:p.op=Op.call {callee:=Callee.builtin Builtin.append,args:= #[y,x],argTypes:= #[d,d]})(i:Nat)(v o:Value)(f j:Nat)(l k:hH)(Y:q.eval y=v)(Z:q.eval x=o)(t:w.ownsRow i e c v f l)(a0:Nat)(r:w.ownsRow a0 e c o j k)(a1:∀x∈k,x.oneCell'=true)(a2:f+j<=1000000000)(a3:i<=w.heap.size)(h:∀(b:Value) (a:World),a.ownsRow i e c b (f+j) (l++k)->w.grownBy a v.ownBlock->wpList Tryz.prog n Q rest (q.put p.dst b) a):wpList Tryz.prog n Q (p::rest) q w:=by
 obtain⟨g,u,C,D,F⟩:=zB T;have A:∃b a,(Builtin.append_ #[d,d] p.type #[v,o]).run Tryz.prog w=.ok b a/\a.ownsRow i e c b (f+j) (l++k)/\w.grownBy a v.ownBlock:=by
  rcases r.2 with⟨rfl,rfl⟩|⟨N,O,a5,rfl,a6,a7,a8,a9,b0,b1⟩
  ·have B:k=[]:=zT (by rw[r.1,vK]);subst B;refine⟨v,w,fT w i d _ e g c z u v f l t,?_,⟨rfl,rfl,rfl,X_,fun _ _ _=>rfl⟩⟩;rw[jW,yC];exact t
  ·obtain⟨b,a,G,H,I,_,a4⟩:=kY w i d p.type e g s c m z u C D F U V v f l t (Q_ N 0) j O k r.1 (r.cells rfl) a1 (by unfold maxLen;omega) (by have:(f+j)*m<=1000000000*1000:=wO a2 W;omega) a3;exact⟨b,a,G,H,I⟩
 obtain⟨b,a,J,L,M⟩:=A;refine cW S fun K R=> ?_
 unfold Oper.wp;simp[execOp,X,resolve,invoke,builtin,Y,Z,J,Result.andThen];exact R _ _ (h b a L M)
def RlQ(w:World)(vim vre:Value)(iml:hD)(rd:hF)(v:Value)(tl:List TkM)(r:Ending)(w':World):Prop:=
 Mod (fun g=>vre.ownBlock=some g\/g∈tl.map (·.2.1)) w w'/\((r=Am/\∀nds,Lev (Au iml) rd (tl.map tkP) nds->¬OJ nds)\/∃w1 nds kss Fs v5,r=R_ v5/\Below w.heap.size w w1/\OJ nds/\RlM w1 vim vre iml rd (rd++tl.map (·.1)) v tl tl.length nds kss Fs v5 w')
theorem RlM.toMod{t:hF}{u:List Nd}{y:List (List TkM)}{Fs:List hF}{s:Value}{r:World}(m:Below w.heap.size w b)(h:RlM b i j c k t v d a u y Fs s r):Mod (fun f=>j.ownBlock=some f\/f∈d.map (·.2.1)) w r:=
 (Mod.of_below (F:=fun _=>False) m).trans h.mod (fun _ _ f=>f.elim) (fun _ _ f=>f.imp id fun f=>by obtain⟨g,l,e⟩:=xL.1 f;exact xL.2 ⟨g,vU l,e⟩)
theorem WI(p:Mod (fun f=>j.ownBlock=some f\/f∈d.map (·.2.1)) w b)(f:a<d.length)(q:∀g,(d[a]'f).1∉k++(d.take a).map (·.1)->(Au c)[(d[a]'f).1]?=some (some g)->okP g (d[a]'f).2.2.1.data.toList (d[a]'f).2.2.2.data.toList->False):RlQ w i j c k v d Am b:=by
 refine⟨p,.inl ⟨rfl,fun l m _=> ?_⟩⟩;have e:d.map tkP=(d.take a).map tkP++tkP (d[a]'f)::(d.drop (a+1)).map tkP:=by
  have:d=d.take a++(d[a]'f::d.drop (a+1)):=by rw[<-yM f,zK]
  conv=>lhs;rw[this]
  rw[yX,yD]
 rw[e]at m;obtain⟨g,l,n,o⟩:=Lev.mid m;rw[zW]at l;exact q g l n o
theorem Aem(b:a<d.length)(c:hF):c++(d.take a).map (·.1)++[(d[a]'b).1]=c++(d.take (a+1)).map (·.1):=by rw[List.take_succ_eq_append_getElem' (xW b),yX,xT];rfl
theorem HN(f2 f3 v:Value)(a:hD)(r:hF)(b:List TkM)(w:World)(Z:LdM f2 f3 a (Iy a.length r) w)(c8:No 0 w v b)(c1:∀x∈b,Ax w x.2.1 Z_ Z_ Z_)(i5:(b.map (·.2.1)).Nodup)(G:∀x∈b,x.1<=2147483647)(p9:b.length<=200000000):
  Calls Tryz.prog 72 #[.agg #[f2,f3],v] w (RlQ w f2 f3 a r v b):=by
 obtain⟨p,q,rfl⟩:=Ad Z.im;obtain⟨k,l,rfl⟩:=Ad Z.re;obtain⟨d6,N,rfl⟩:=Ad c8;rw[Gi]at*;have H:Below w.heap.size w (w.alloc (C_ #[L_ p a.length q,L_ k a.length l] 152)):=(xA _ w).alloc X_ _;have f4:(w.alloc (C_ #[L_ p a.length q,L_ k a.length l] 152)).heap[w.heap.size]?=some (C_ #[L_ p a.length q,L_ k a.length l] 152 (0,0)):=xK _ _;have m8:(w.alloc (C_ #[L_ p a.length q,L_ k a.length l] 152)).heap.size=w.heap.size+1:=D_;have i6:Hid (RlM (w.alloc (C_ #[L_ p a.length q,L_ k a.length l] 152)) (L_ p a.length q) (L_ k a.length l) a r (r++(b.take 0).map (·.1)) (L_ d6 b.length N) b 0 [] [] [] Z_ (w.alloc (C_ #[L_ p a.length q,L_ k a.length l] 152))):=
  ⟨by rw[qE,vH,yC];exact Z.mod H,trivial,trivial,wJ,⟨rfl,.inl ⟨rfl,rfl⟩⟩,(fun x G=>by cases G),wJ,Ae c8 H X_,⟨fun f d=>yF (xF c8 f d).2 H.size,fun f d=>yF (xF Z.re f d).2 H.size,fun x G=>yF (c1 x G).lt H.size⟩,fun x G=>(H.block _ (c1 x G).lt).trans (c1 x G),i5,⟨rfl,rfl,rfl,X_,fun _ _ _=>rfl⟩⟩
 have i7:Hid (∀f,(Value.slice k a.length l).ownBlock=some f\/f∈b.map (·.2.1)->f<w.heap.size):=fun f d=>by
  rcases d with d|d
  ·exact(xF Z.re f d).2
  ·obtain⟨d7,d8,rfl⟩:=xL.1 d;exact(c1 d7 d8).lt
 have i8:=Aa G;have a0:=Aa H;have i9:=Aa f4;clear Z c8 c1 i5 G H f4;go_in;go_wp2_with fail;generalize w.alloc (C_ #[L_ p a.length q,L_ k a.length l] 152)=M at*
 go_loopw [12,5,6] (fun f1 m1 W wr=>∃(j:Nat) (c:List Nd) (t:List (List TkM)) (Fs:List hF),f1=J_ j/\j<=b.length/\W=J_ (lvs c:Nat)/\t.flatten.length<=4*j/\RlM M (L_ p a.length q) (L_ k a.length l) a r (r++(b.take j).map (·.1)) (L_ d6 b.length N) b j c t Fs m1 wr) (fun f1 _ _ _=>b.length-(intOf f1).toNat)
 case atStart=>exact⟨0,[],[],[],rfl,Y_,rfl,D_,i6.o⟩
 case round=>
  obtain⟨j,c,t,Fs,rfl,o1,rfl,o2,a4⟩:=hrel;have I:=Aa a4;have f5:c.length=j:=by have:=a4.lev.len;rw[xP,xR]at this;omega
  have j0:=Ag2 c;have j1:Hid (wr.heap[w.heap.size]?=some (C_ #[L_ p a.length q,L_ k a.length l] 152 (0,0))):=by refine(a4.mod.block _ O_ (fun d=> ?_)).trans i9.o;have:=i7.o w.heap.size (d.imp id fun d=>xL.2 (by obtain⟨d7,d8,e⟩:=xL.1 d;exact⟨d7,vU d8,e⟩));omega
  have j2:=a4.mod.size;clear a4;by_cases u:j<b.length
  ·obtain⟨d9,o3,g8,o4,-,o5,g9,h1,h2,h3⟩:=I.o.lvl.at j u;simp only[xJ,yB]at g8;obtain⟨rfl,rfl⟩:=g8;have f6:=i8.o _ (yA u);have f7:=I.o.low.2.2 _ (yA u);have B:Hid (∃x,b[j]'u=x):=⟨_,rfl⟩;generalize i4:b[j]'u=x at g9 h1 h2 h3 f6 f7;obtain⟨D,F,y,z⟩:=x;have B:=Aa i4;clear i4;simp only at g9 h1 h2 h3 f6 f7;have c2:Below wr.heap.size wr (wr.alloc (C_ #[J_ (D:Nat),A_ F,B_ y,B_ z] 154)):=(xA _ wr).alloc X_ _;have m9:=Aa c2;have c9:=Aa (I.o.below c2);have d0:Hid (TkB (wr.alloc (C_ #[J_ (D:Nat),A_ F,B_ y,B_ z] 154)) wr.heap.size (D:Nat) F y z):=xK _ _;have f8:=Aa ((c2.block w.heap.size O_).trans j1.o);have n0:(wr.alloc (C_ #[J_ (D:Nat),A_ F,B_ y,B_ z] 154)).heap.size=wr.heap.size+1:=D_;clear c2;have d1:(0:Int)<=(j:Int):=O_;have n1:(j:Int)<(b.length:Int):=O_;go_upto_region 6 with fail;generalize wr.alloc (C_ #[J_ (D:Nat),A_ F,B_ y,B_ z] 154)=Y at*;have j3:Y.cell? (Q_ w.heap.size 0)=some (L_ p a.length q):=(by simp[World.cell?,f8.o]);have j4:Y.cell? (Q_ w.heap.size 1)=some (L_ k a.length l):=(by simp[World.cell?,f8.o]);obtain⟨a5,a6,a7,a8,-⟩:=d0.o.cells;go_wp2_with fail;refine(TQ _ _ a _ D Y c9.o.ld O_).mono ?_;rintro L A ⟨S,⟨rfl,h7⟩|⟨m,n,g,i,o,p6,h8,e7,rfl,e8,h9,i0⟩⟩
   ·have C:Hid (RlQ w (L_ p a.length q) (L_ k a.length l) a r (L_ (P_ d9) b.length N) b Am A):=by
     refine WI ((RlM.toMod a0.o c9.o).trans S (fun _ _ d=>d) (fun _ _ d=> .inl d)) u (fun e5 X s _=> ?_);rw[B.o]at X s;refine h7 e5 ⟨(BQ _ _ _).2 ⟨?_,X⟩,s⟩;have:=(jM.1 s).1;unfold Au at this
     rwa [xP]at this
    clear S h7;unfold Am at*;go_wp2_with fail;exact⟨rfl,C.o⟩
   ·have f9:RlM M (L_ p a.length q) (L_ k a.length l) a r (r++(b.take (j+1)).map (·.1)) (L_ (P_ d9) b.length N) b j c t Fs u5 A:=c9.o.read S (by rw[<-Aem u r,B.o,<-PH];exact i0);obtain⟨l3,h4⟩:=(BQ _ _ _).1 h8;obtain⟨h5,h6⟩:=Qm e7;have g0:=Aa e7;have j5:=Aa h9;have j6:=Aa h4;have n2:=Aa h6;have c3:Hid ((m=1->g=[])/\(g=[]/\i=[]\/i.length+1=g.length)/\g.length<=4):=by
     have e:(Ag i).length=i.length:=(by unfold Ag;rw[xP]);rcases h5 with⟨X,s,b9,-⟩|⟨X,s,b9,l9,m0,-⟩
     ·have j7:i=[]:=zT (by rw[<-e];exact zA.2 b9);exact⟨fun _=>s,.inl ⟨s,j7⟩,by show g.length<=4;rw[show g=[]from s];simp⟩
     ·refine⟨fun i2=> ?_,.inr ?_,l9⟩
      ·rw[show m=2 from X]at i2;exact absurd i2 Do
      ·rw[<-e];exact m0
    obtain⟨a9,b0,O,R,b1,b2,b3,b4,rfl⟩:=e8.shape;have g1:∀f,(Value.slice k a.length l).ownBlock=some f->f<wr.heap.size:=fun f d=>yF (I.o.low.2.1 f d) j2
    have j8:Hid (TkB A wr.heap.size (D:Nat) F y z):=(S.block _ d0.o.lt (fun d=>bS _ (g1 _ d))).trans d0.o;have a1:Below A.heap.size A (A.alloc (C_ #[J_ m,L_ a9 n.length b0,L_ O g.length R,L_ b1 i.length b2,L_ b3 o.length b4] 79)):=(xA _ A).alloc X_ _;have g2:=Aa (Cz A (J_ m) (L_ a9 n.length b0) (L_ O g.length R) (L_ b1 i.length b2) (L_ b3 o.length b4));have j9:=Aa (f9.below a1);have g3:=Aa (j8.o.keep a1);have g4:=Aa (e8.below a1);have n3:Y.heap.size<=A.heap.size:=S.size;have n4:=a1.size;clear S h8 e7 e8 h9 i0 f9 l3 h4 h5 h6 g1 a1 j3 j4 a5 a6 a7 a8;go_upto_region 7 with fail;generalize A.alloc (C_ #[J_ m,L_ a9 n.length b0,L_ O g.length R,L_ b1 i.length b2,L_ b3 o.length b4] 79)=m5 at*;obtain⟨a5,a6,a7,a8,-⟩:=g3.o.cells;obtain⟨e0,e1,e2,e3,e4,-⟩:=g2.o.cells;obtain⟨u1,u2,u3,u4,b5,b6,c5,b7,b8,o6,o7,o8,o9⟩:=g4.o;simp only[vB,kN,jA,yB,yG]at b5;obtain⟨rfl,rfl,rfl,rfl⟩:=b5;have g5:=Aa (PI m y.data.toList z.data.toList n g i o);have g6:=Aa (YV (D:Nat) F y z m _ (L_ O g.length R) _ _ n i o m5 (Bi b6 Y_) (Bi b7 Y_) (Bi b8 Y_) O_ O_ O_);clear b6 c5 b7 b8;generalize Wy y.data.toList z.data.toList n o i=m6 at*;go_wp2_with fail;refine g6.o.mono ?_;rintro L e9 ⟨rfl,T⟩;have a2:=Aa (j9.o.below T);have k0:=Aa (g3.o.keep T);have k1:=Aa (g2.o.keep T);have k2:=Aa (g4.o.below T);have n5:=T.size;clear T g6 a5 a6 a7 a8 e0 e1 e2 e3 e4
    cases m6 with
    | false=>
     have C:Hid (RlQ w (L_ p a.length q) (L_ k a.length l) a r (L_ (P_ d9) b.length N) b Am e9):=(by refine WI (RlM.toMod a0.o a2.o) u (fun e5 X s b9=> ?_);rw[B.o]at s b9;rw[g0.o]at s;simp only[xX]at s;subst s;exact absurd (g5.o.2 b9) Do);go_wp2_with fail;refine(Bt _).mono ?_;rintro L U ⟨rfl,rfl⟩;unfold Am at*;go_wp2_with fail;exact⟨rfl,C.o⟩
    | true=>
     obtain⟨a5,a6,a7,a8,-⟩:=k0.o.cells;obtain⟨e0,e1,e2,e3,e4,-⟩:=k1.o.cells;go_wp2_with fail;refine(Bm _).mono ?_;rintro L e9 ⟨rfl,rfl⟩;go_upto_if 26 with fail
     go_cut [6] (fun W m2=>W=J_ (lvs (c++[(m,Ab n,g,Ag i,Ac o)]):Nat)/\m2=e9)
     case first=>
      have c4:=Aa (Abv c (m,Ab n,g,Ag i,Ac o));by_cases d1:m=1
      ·have d2:Hid (lvs (c++[(m,Ab n,g,Ag i,Ac o)])=lvs c+1):=(by show _=_;rw[c4.o,xD d1]);clear c4;generalize lvs (c++[(m,Ab n,g,Ag i,Ac o)])=m7 at*;go_wp2_with fail;go_meet;have:=d2.o;exact⟨by subst this;go_num,rfl⟩
      ·have d2:Hid (lvs (c++[(m,Ab n,g,Ag i,Ac o)])=lvs c):=(by show _=_;rw[c4.o,xB d1];rfl);clear c4;generalize lvs (c++[(m,Ab n,g,Ag i,Ac o)])=m7 at*;go_wp2_with fail;go_meet;exact⟨by rw[d2.o],rfl⟩
     case rest=>
      obtain⟨rfl,rfl⟩:=hcut;obtain⟨p0,p1,p2,p3,b5,b6,c5,b7,b8,-⟩:=k2.o;simp only[vB,kN,jA,yB,yG]at b5;obtain⟨rfl,rfl,rfl,rfl⟩:=b5;have d3:Ax wc F Z_ Z_ Z_:=(by have:=a2.o.todo (b[j]'u) (by rw[yM u];exact xU ..);rw[B.o]at this;exact this);have k3:=Aa (Abu (D:Nat) F y z m (L_ a9 n.length b0) (L_ O g.length R) (L_ b1 i.length b2) (L_ b3 o.length b4) g i wc d3 (Bi c5 Y_) (Bi b7 Y_) ⟨_,_,_,rfl⟩ ⟨_,_,_,rfl⟩ c3.o.2.1 (by have:=c3.o.2.2;omega));have k4:=Aa b6;have k5:=Aa b8;have k6:=Aa d3;clear b6 c5 b7 b8 d3;go_wp2_with fail;refine k3.o.mono ?_;rintro L U ⟨V,W,l6,rfl,i1,f0⟩;have d4:=f0.mod;have k7:Hid (No M.heap.size U u5 t.flatten):=d4.row a2.o.row (fun f d m3=>Bg k6.o a2.o.row Do (by rw[<-m3];exact d));have g7:=Aa f0;have n6:=d4.size;have n7:V.length<=4:=(by have:=c3.o.2.2;omega);have k8:=Aa i1;clear d4 f0 i1 a5 a6 a7 a8 e0 e1 e2 e3 e4;go_wp2_with (at_builtin;refine Ah5 U rfl (.tmp 29) (.tmp 32) 155 154 Tryz.underlying155 _ 4 48 JF rfl Do Do rfl M.heap.size u5 W t.flatten.length V.length (Fy t.flatten) (Fy V) rfl rfl k7.o _ g7.o.row (TR _) O_ O_ ?_;intro p7 p8 l7 l8);have k9:∀f∈Fs.flatten,f<Y.heap.size:=fun f e6=>by obtain⟨x,_,e5,p4,p5,l4,e6⟩:=I.o.fld.all f e6;have:=(l4.lt f e6).1;omega
      obtain⟨Fs',l5⟩:=a2.o.fill u (kd:=m) (v1:=L_ a9 n.length b0) (v2:=L_ O g.length R) (v3:=L_ b1 i.length b2) (v4:=L_ b3 o.length b4) (il:=n) (cl:=g) (pl:=i) (ml:=o) (kids:=V) (v6:=W) (vp:=l6) (B0:=Y.heap.size) (by rw[B.o];exact g7.o) k8.o k9 O_ k4.o k5.o j5.o c3.o.1 (by rw[B.o];exact g0.o) (by rw[B.o];exact g5.o.1 trivial) (by rw[B.o];exact j6.o) l8 l7;have l0:(t++[V]).flatten.length<=4*(j+1):=(by rw[kI,xC,yO,vG,yC];omega);exact⟨⟨j+1,c++[(m,Ab n,g,Ag i,Ac o)],t++[V],Fs',W_,O_,rfl,l0,l5⟩,by simp[intOf];omega⟩
  ·have d5:j=b.length:=O_;have C:Hid (∀c6,Below wr.heap.size wr c6->Mod (fun f=>(Value.slice k a.length l).ownBlock=some f\/f∈b.map (·.2.1)) w c6/\RlM M (L_ p a.length q) (L_ k a.length l) a r (r++b.map (·.1)) (L_ d6 b.length N) b b.length c t Fs u5 c6):=fun c6 m4=>by
    have h:=I.o.below m4;have l1:=RlM.toMod a0.o h;subst d5;rw[zQ]at h;exact⟨l1,h⟩
   have l2:Hid (∀c0,Lev (Au a) r (b.map tkP) c0->c0=c):=fun c0 h=>by have:=I.o.lev;rw[d5,zQ]at this;exact Lev.uniq h this
   have J:=Aa (Abw c);rw[f5,d5]at J;have n8:lvs c<=b.length:=O_;clear f5 j0;generalize lvs c=c7 at*;by_cases h0:c7=0
   ·have a3:Hid (OJ c):=J.o.2 (.inl h0);subst h0;clear J;go_wp2_with fail;refine(Bm _).mono ?_;rintro L U ⟨rfl,rfl⟩;go_wp2_with fail;go_ret;exact⟨(C.o _ (xA _ _)).1,.inr ⟨M,c,t,Fs,u5,rfl,a0.o,a3.o,(C.o _ (xA _ _)).2⟩⟩
   ·have n9:((c7:Int)==0)=false:=K_;by_cases i3:c7=b.length
    ·have a3:Hid (OJ c):=J.o.2 (.inr i3);clear J;go_wp2_with fail
     all_goals
      refine(Bm _).mono ?_;rintro L U ⟨rfl,rfl⟩;go_wp2_with fail;go_ret;exact⟨(C.o _ (xA _ _)).1,.inr ⟨M,c,t,Fs,u5,rfl,a0.o,a3.o,(C.o _ (xA _ _)).2⟩⟩
    ·have a3:Hid (¬OJ c):=fun d=>(J.o.1 d).elim h0 i3
     clear J;have o0:((c7:Int)==(b.length:Int))=false:=K_;go_wp2_with fail
     all_goals
      refine(Bt _).mono ?_;rintro L U ⟨rfl,rfl⟩;unfold Am at*;go_wp2_with fail;exact⟨rfl,(C.o _ (xA _ _)).1,.inl ⟨rfl,fun c0 h=>by rw[l2.o c0 h];exact a3.o⟩⟩
def Xb(P:List (Option Nd))(h:Nat)(W:World):List TkM->List (PT h)->List hF->Prop
 | [],[],[]=>True
 | x::tl,f::fs,G::Gs=>((Cu x.2.2.1.data.toList x.2.2.2.data.toList=true->Rep h W x.2.1 (Ld.tr P h x.2.2.1.data.toList x.2.2.2.data.toList f) G)/\(Cu x.2.2.1.data.toList x.2.2.2.data.toList=false->G=[]))/\Xb P h W tl fs Gs
 | _,_,_=>False
theorem Xb.split{P:List (Option Nd)}{h:Nat}{b:World}:∀{a c:List TkM} {d g:List (PT h)} {Gs:List hF},a.length=d.length->Xb P h b (a++c) (d++g) Gs->∃Ga Gb,Gs=Ga++Gb/\Xb P h b a d Ga/\Xb P h b c g Gb
 | [],c,[],g,Gs,_,hr=>⟨[],Gs,rfl,trivial,hr⟩
 | x::a,c,f::d,g,G::Gs,hl,hr=>by obtain⟨Ga,Gb,rfl,c,d⟩:=Xb.split (a:=a) (by simpa using hl) hr.2;exact⟨G::Ga,Gb,rfl,⟨hr.1,c⟩,d⟩
 | [],_,_::_,_,_,hl,_=>by simp at hl
 | _::_,_,[],_,_,hl,_=>by simp at hl
 | _::_,_,_::_,_,[],_,hr=>hr.elim
theorem TX(x:TkM)(a:List TkM):Gq (x::a)=if Cu x.2.2.1.data.toList x.2.2.2.data.toList=true then(x.2.2.1,x.2.1)::Gq a else Gq a:=by unfold Gq;rw[qS];by_cases h:Cu x.2.2.1.data.toList x.2.2.2.data.toList=true<;>simp[h]
theorem Xb.kids{P:List (Option Nd)}{h:Nat}{b:World}:∀{a:List TkM} {c:List (PT h)} {Gs:List hF},Xb P h b a c Gs->Db (Rep h b) (Gq a) (prt (Ld.tr P h) (a.map tkP) c) Gs.flatten
 | [],[],[],_=>rfl
 | x::a,f::c,G::Gs,hr=>by
  have d:=Xb.kids hr.2;rw[TX,yD,prt,yO];show Db (Rep h b) _ (if Cu x.2.2.1.data.toList x.2.2.2.data.toList=true then(x.2.2.1.data.toList,Ld.tr P h x.2.2.1.data.toList x.2.2.2.data.toList f)::prt (Ld.tr P h) (a.map tkP) c else prt (Ld.tr P h) (a.map tkP) c) _;by_cases a:Cu x.2.2.1.data.toList x.2.2.2.data.toList=true
  ·rw[xD a,xD a];exact⟨rfl,G,Gs.flatten,hr.1.1 a,d,rfl⟩
  ·rw[xB a,xB a,hr.1.2 (by simpa using a),zI];exact d
 | [],[],_::_,hr=>hr.elim
 | [],_::_,_,hr=>hr.elim
 | _::_,[],_,hr=>hr.elim
 | _::_,_::_,[],hr=>hr.elim
theorem WJ:blk Z_=[]:=rfl
theorem FC{P:List (Option Nd)}{a:Nat}{b:World}:∀{c:List TkM} {i:List Nd} {k:List (List TkM)} {Fs:List hF} {l:hF},Lev P l (c.map tkP) i->(∀j∈i,j.1=1)->Fld a b c i k Fs->Fs.flatten.Nodup->∃(f:List (PT 0)) (Hs:List hF),FF (Dz P 0) (Ld.num 0) (c.map tkP) f/\Co 0 f=(c.map tkP).map (·.1)/\Xb P 0 b c f Hs/\Hs.flatten.Nodup/\∀g∈Hs.flatten,g∈Fs.flatten
 | [],[],[],[],_,_,_,_,_=>⟨[],[],trivial,rfl,trivial,wJ,fun _ d=>d⟩
 | x::c,nd::i,ks::k,F::Fs,l,hl,hk,hf,hn=>by
  rw[yO,xO]at hn;obtain⟨f,Hs,n,o,p,l,i⟩:=FC hl.2 (fun j c=>hk j (xZ _ c)) hf.2 hn.2.1;have k:=hk nd (xU ..);obtain⟨q,G,H,r,I,s,t,J,L,u,M,y,N,O,z⟩:=hf.1;obtain⟨rfl,rfl⟩:=y k;have m:Rep 0 b x.2.1 (Ld.tr P 0 x.2.2.1.data.toList x.2.2.2.data.toList (lfP x.1)) F:=by refine⟨q,r,s,Bi t Y_,?_,by rw[z,WJ,yC,yC]⟩;rw[Ld.tr];show _=Ld.its (Ld.pg P x.1);rw[show Ld.pg P x.1=nd from La hl.1.2.1,u]
  refine⟨lfP x.1::f,(if Cu x.2.2.1.data.toList x.2.2.2.data.toList=true then F else[])::Hs,⟨⟨rfl,nd,hl.1.2.1,k,hl.1.2.2⟩,n⟩,?_,⟨⟨fun c=>by rw[xD c];exact m,fun c=>by rw[xB (by rw[c];decide)]⟩,p⟩,?_,?_⟩
  ·rw[Gm,o];rfl
  ·rw[yO];by_cases c:Cu x.2.2.1.data.toList x.2.2.2.data.toList=true
   ·rw[xD c,xO];exact⟨hn.1,l,fun B C j D=>hn.2.2 B C j (i j D)⟩
   ·rw[xB c,zI];exact l
  ·intro g d;rw[yO]at d⊢;by_cases c:Cu x.2.2.1.data.toList x.2.2.2.data.toList=true
   ·rw[xD c]at d;exact(xE.1 d).elim (fun j=>yN _ j) (fun j=>yE _ (i g j))
   ·rw[xB c,zI]at d;exact yE _ (i g d)
 | [],[],[],_::_,_,_,_,h,_=>h.elim
 | [],[],_::_,_,_,_,_,h,_=>h.elim
 | [],_::_,_,_,_,_,_,h,_=>h.elim
 | _::_,[],_,_,_,_,_,h,_=>h.elim
 | _::_,_::_,[],_,_,_,_,h,_=>h.elim
 | _::_,_::_,_::_,[],_,_,_,h,_=>h.elim
theorem Ac0{P:List (Option Nd)}{h a:Nat}{b:World}:∀{d:List TkM} {j:List Nd} {n:List (List TkM)} {Fs:List hF} {o:hF} {g:List (PT h)} {Gs:List hF},Lev P o (d.map tkP) j->(∀m∈j,m.1=2)->Fld a b d j n Fs->FF (Dz P h) (Ld.num h) (below (d.map tkP) j) g->Xb P h b n.flatten g Gs->(Fs.flatten++Gs.flatten).Nodup->
  ∃(k:List (PT (h+1))) (Hs:List hF),FF (Dz P (h+1)) (Ld.num (h+1)) (d.map tkP) k/\(Co (h+1) k).Perm ((d.map tkP).map (·.1)++Co h g)/\Xb P (h+1) b d k Hs/\Hs.flatten.Nodup/\∀l∈Hs.flatten,l∈Fs.flatten\/l∈Gs.flatten
 | [],[],[],[],_,g,Gs,_,_,_,hff,hr,_=>by
  cases g with
  | nil=>exact⟨[],[],trivial,List.Perm.nil,trivial,wJ,fun l i=>by cases i⟩
  | cons f g=>exact hff.elim
 | x::d,nd::j,ks::n,F::Fs,o,g,Gs,hl,hk,hf,hff,hr,hn=>by
  obtain⟨c,j,rfl,r,z⟩:=FF.split hff;have q:=hk nd (xU ..);obtain⟨a0,B,C,a1,D,G,a2,H,I,a3,J,a4,L,s,M⟩:=hf.1;obtain rfl:=L q;have u:ks.length=c.length:=by have:=r.len;rw[<-this,<-xP (f:=tkP),s];rfl
  rw[yO]at hr;obtain⟨Ga,Gb,rfl,N,O⟩:=Xb.split u hr;rw[yO,kI,xO,xO,xO]at hn;obtain⟨⟨R,S,T⟩,⟨U,V,W⟩,o⟩:=hn;obtain⟨k,Hs,X,Y,Z,t,p⟩:=Ac0 hl.2 (fun m g=>hk m (xZ _ g)) hf.2 z O (xO.2 ⟨S,V,fun c m j n=>o c (yE _ m) j (yE _ n)⟩);have y:Rep (h+1) b x.2.1 (Ld.tr P (h+1) x.2.2.1.data.toList x.2.2.2.data.toList (Ld.brP x.1 c)) (F++Ga.flatten):=by
   have e:Ld.tr P (h+1) x.2.2.1.data.toList x.2.2.2.data.toList (Ld.brP x.1 c)=Tr.brT (prt (Ld.tr P h) (Fv (Ld.pg P x.1) x.2.2.1.data.toList x.2.2.2.data.toList) c) (Ld.chs (Ld.pg P x.1)):=rfl;rw[e,show Ld.pg P x.1=nd from La hl.1.2.1];refine⟨B,C,Gq ks,D,Ga.flatten,G,Bi H Y_,Bi I Y_,J,?_,?_⟩
   ·show Db (Rep h b) (Gq ks) (prt (Ld.tr P h) (Fv nd x.2.2.1.data.toList x.2.2.2.data.toList) c) Ga.flatten;rw[<-s];exact N.kids
   ·rw[M,WJ,zI,jF,xT]
  refine⟨Ld.brP x.1 c::k,(if Cu x.2.2.1.data.toList x.2.2.2.data.toList=true then F++Ga.flatten else[])::Hs,⟨⟨rfl,nd,hl.1.2.1,q,hl.1.2.2,r⟩,X⟩,?_,⟨⟨fun g=>by rw[xD g];exact y,fun g=>by rw[xB (by rw[g];decide)]⟩,Z⟩,?_,?_⟩
  ·rw[Gm,Km];show(x.1::(Co h c++Co (h+1) k)).Perm (x.1::((d.map tkP).map (·.1)++(Co h c++Co h j)));refine List.Perm.cons _ ?_;refine(wW (Co h c) Y).trans ?_;rw[<-xT,<-xT];exact dJ _ qD
  ·rw[yO];by_cases g:Cu x.2.2.1.data.toList x.2.2.2.data.toList=true
   ·rw[xD g,xO,xO];refine⟨⟨R,U,fun c m j n=>o c (yN _ m) j (yN _ n)⟩,t,fun c m j n e=> ?_⟩;subst e;rcases xE.1 m with d|d<;>rcases p c n with m|m
    ·exact T c d c m rfl
    ·exact o c (yN _ d) c (yE _ m) rfl
    ·exact o c (yE _ m) c (yN _ d) rfl
    ·exact W c d c m rfl
   ·rw[xB g,zI];exact t
  ·intro l i;rw[yO]at i⊢;rw[kI];by_cases g:Cu x.2.2.1.data.toList x.2.2.2.data.toList=true
   ·rw[xD g]at i;rcases xE.1 i with d|d
    ·rcases xE.1 d with d|d
     ·exact .inl (yN _ d)
     ·exact .inr (yN _ d)
    ·exact(p l d).imp (fun d=>yE _ d) (fun d=>yE _ d)
   ·rw[xB g,zI]at i;exact(p l i).imp (fun d=>yE _ d) (fun d=>yE _ d)
 | [],[],[],_::_,_,_,_,_,_,h,_,_,_=>h.elim
 | [],[],_::_,_,_,_,_,_,_,h,_,_,_=>h.elim
 | [],_::_,_,_,_,_,_,_,_,h,_,_,_=>h.elim
 | _::_,[],_,_,_,_,_,_,_,h,_,_,_=>h.elim
 | _::_,_::_,[],_,_,_,_,_,_,h,_,_,_=>h.elim
 | _::_,_::_,_::_,[],_,_,_,_,_,h,_,_,_=>h.elim
def Tq(il:gY)(key:hJ):Option hE->gY
 | none=>il
 | some x=>il++[(key,⟨x.toArray⟩)]
theorem Sf(b:Option hE)(d:Nat)(v:Value)(f:gY)(j:hJ)(w:World)(h:Ap d w v f)(t:d<=w.heap.size)(D:f.length<=400000000):
  Calls Tryz.prog 69 #[.agg #[B_ (stV b),.bool (stB b)],v,B_ j] w fun g a=>∃c,g=R_ c/\Ap d a c (Tq f j b)/\Below d w a/\w.grownBy a v.ownBlock/\(c.ownBlock=v.ownBlock\/∃a,w.heap.size<=a/\c.ownBlock=some a):=by
 have g:Below w.heap.size w (w.alloc (C_ #[B_ (stV b),.bool (stB b)] 136)):=(xA _ w).alloc X_ _;have l:StB (w.alloc (C_ #[B_ (stV b),.bool (stB b)] 136)) w.heap.size (stV b) (stB b):=xK _ _;have k:Hid (Ap d (w.alloc (C_ #[B_ (stV b),.bool (stB b)] 136)) v f):=h.alloc _;obtain⟨A,o,-,-⟩:=l.cells;have c:=Aa g;have u:(w.alloc (C_ #[B_ (stV b),.bool (stB b)] 136)).heap.size=w.heap.size+1:=D_
 cases b with
 | none=>
  have n:stB none=false:=rfl;rw[n]at o;clear l h g;go_in;go_wp2_with fail;go_ret;exact⟨_,rfl,k.o,c.o.mono t,⟨c.o.os,c.o.tape,c.o.output,c.o.size,fun a i _=>c.o.block a i⟩,.inl rfl⟩
 | some x=>
  have n:stB (some x)=true:=rfl;rw[n]at o A k c u⊢;have y:Hid (stV (some x)=⟨x.toArray⟩):=rfl;clear l h g;generalize stV (some x)=s at*;go_in;go_wp2_with (at_builtin;refine Ix (w.alloc (C_ #[B_ s,.bool true] 136)) rfl (.tmp 11) (.tmp 16) 30 51 zC _ 2 32 Cg rfl Do Do rfl d v f.length (Al f) rfl k.o [B_ j,B_ s] rfl (by intro C p;simp at p;rcases p with rfl|rfl<;>rfl) U_ O_ O_ ?_;intro l m q g r)
  have z:Hid (Ap d m l (Tq f j (some x))/\Below d w m/\w.grownBy m v.ownBlock/\(l.ownBlock=v.ownBlock\/∃a,w.heap.size<=a/\l.ownBlock=some a)):=by
   refine⟨?_,((c.o.mono t).grown g O_ fun a i=>(xF k.o a i).1),?_,r.imp id (fun⟨a,i,e⟩=>⟨a,O_,e⟩)⟩
   ·show Ap d m l (f++[(j,⟨x.toArray⟩)]);unfold Ap;rw[xC,Jo,<-y.o];exact q
   ·exact⟨g.os.trans c.o.os,g.tape.trans c.o.tape,g.output.trans c.o.output,xI c.o.size g.size,fun a i B=>(g.block a O_ B).trans (c.o.block a i)⟩
  clear q g r;go_wp2_with fail;go_ret;exact⟨_,rfl,z.o⟩
theorem TY(b:gY)(c:hJ)(a:Option hE):Ab (Tq b c a)=Ab b++(a.map fun v=>(c.data.toList,v)).toList:=by
 cases a with
 | none=>simp[Tq]
 | some x=>simp[Tq,Ab]
theorem YX(c:Int)(b x g:hJ)(d:Nat)(w:World)(k:w.cell? (Q_ d 0)=some (B_ g))(l:d<w.heap.size):
  Calls Tryz.prog 238 #[.agg #[J_ c,B_ b,B_ x],A_ d] w fun f i=>f=R_ (.bool (decide (b.data.toList<g.data.toList)))/\Below w.heap.size w i:=by
 have f:Below w.heap.size w (w.alloc (C_ #[J_ c,B_ b,B_ x] 34)):=(xA _ w).alloc X_ _;have i:ChB (w.alloc (C_ #[J_ c,B_ b,B_ x] 34)) w.heap.size c b x:=xK _ _;obtain⟨n,o,p⟩:=i.cells;have m:=(f.cell (p:=(Q_ d 0)) l).trans k;have j:=Aa f;clear f i;go_in;go_wp2_with fail;go_ret;refine⟨?_,j.o⟩;show Ending.returned (.bool (Op.bytesLess b.toList g.toList))=_;rw[Af,Af,Cj]
theorem YY(b f:Int)(a c d g:hJ)(w:World):
  Calls Tryz.prog 240 #[.agg #[J_ b,B_ a,B_ c],.agg #[J_ f,B_ d,B_ g]] w fun n i=>n=R_ (J_ (Lib.compareBytes a.data.toList d.data.toList))/\Below w.heap.size w i:=by
 have j:ChB (w.alloc (C_ #[J_ b,B_ a,B_ c] 34)) w.heap.size b a c:=xK _ _;have i:Below w.heap.size w (w.alloc (C_ #[J_ b,B_ a,B_ c] 34)):=(xA _ w).alloc X_ _;have k:Below w.heap.size w ((w.alloc (C_ #[J_ b,B_ a,B_ c] 34)).alloc (C_ #[J_ f,B_ d,B_ g] 34)):=i.alloc i.size _;have l:ChB ((w.alloc (C_ #[J_ b,B_ a,B_ c] 34)).alloc (C_ #[J_ f,B_ d,B_ g] 34)) (w.heap.size+1) f d g:=by have:=xK (w.alloc (C_ #[J_ b,B_ a,B_ c] 34)) (C_ #[J_ f,B_ d,B_ g] 34);rw[show(w.alloc (C_ #[J_ b,B_ a,B_ c] 34)).heap.size=w.heap.size+1 by simp]at this;exact this
 have m:ChB ((w.alloc (C_ #[J_ b,B_ a,B_ c] 34)).alloc (C_ #[J_ f,B_ d,B_ g] 34)) w.heap.size b a c:=by have o:=(xA (w.heap.size+1) (w.alloc (C_ #[J_ b,B_ a,B_ c] 34))).alloc D_ (C_ #[J_ f,B_ d,B_ g] 34);exact(o.block _ O_).trans j
 obtain⟨q,r,s⟩:=m.cells;obtain⟨t,u,y⟩:=l.cells;have p:=Aa k;clear j i k l m;go_in;go_wp2_with fail;refine(Zs a d _).mono ?_;rintro n i ⟨rfl,rfl⟩;go_wp2_with fail;go_ret;exact⟨rfl,p.o⟩
namespace Tr
def Cy(k:Key)(c:Ch):Bool:=decide (c.2.1=k)
def lev:(h:Nat)->Ai h->Nat->Key->List Ch
 | 0,l,0,k=>((Ce l k).map fun v=>((1:Int),k,v)).toList
 | 0,_,_+1,_=>[]
 | _+1,(_,cs),0,k=>cs.filter (Cy k)
 | h+1,(ps,_),d+1,k=>(ps.map fun p=>lev h p.2 d k).flatten
def Fh(f:Nat->List Ch):Nat->List Ch
 | 0=>[]
 | n+1=>f n++Fh f n
theorem FD(a:Nat->List Ch):∀n,Fh a (n+1)=Fh (fun b=>a (b+1)) n++a 0
 | 0=>by simp[Fh]
 | n+1=>by have:=FD a n;rw[Fh,this,Fh,xT]
theorem Lk{f l:Nat->List Ch}:∀{n:Nat},(∀a,a<n->f a=l a)->Fh f n=Fh l n
 | 0,_=>rfl
 | n+1,h=>by rw[Fh,Fh,h n O_,Lk fun a b=>h a O_]
theorem Xc{f:Nat->List Ch}:∀{n:Nat},(∀a,a<n->f a=[])->Fh f n=[]
 | 0,_=>rfl
 | n+1,h=>by rw[Fh,h n O_,Xc fun a b=>h a O_];rfl
theorem JH{f l:Nat->List Ch}{A:Ch}{L:Nat}:∀{n:Nat},L<n->(∀a,L<a->a<n->f a=[])->(∀a,L<a->a<n->l a=[])->f L=A::l L->(∀a,a<L->f a=l a)->Fh f n=A::Fh l n
 | 0,h,_,_,_,_=>O_
 | n+1,h,h1,h2,h3,h4=>by
  by_cases e:L=n
  ·subst e;rw[Fh,Fh,h3,Lk h4];rfl
  ·rw[Fh,Fh,h1 n O_ O_,h2 n O_ O_];exact JH O_ (fun a b c=>h1 a b O_) (fun a b c=>h2 a b O_) h3 h4
theorem Mt{h:Nat}{B:Key->Option Key->Ai h->Prop}:∀{a:List (Key×Ai h)} {g:Key} {i:Option Key},Bu B (some g) i a->∀b∈a,∃c,B b.1 c b.2/\room b.1 c/\¬b.1<g/\∀d,i=some d->∃a,c=some a/\¬d<a
 | [],_,_,_,_,a=>by cases a
 | (f,t)::r,g,i,⟨e,c,h1,h2,h3⟩,b,a=>by
  obtain rfl:g=f:=xM e;rcases xG.1 a with rfl|a
  ·exact⟨c,h2,h1,lt_ir _,fun d g=>Nc h3 d g⟩
  ·match r,h3,a with
   | (f2,t2)::r2,h3,a=>
    have d:c=some f2:=h3.1;rw[d]at h3;obtain⟨c,g,i,j,k⟩:=Mt h3 b a;have:=(h1 f2 d).1;exact⟨c,g,i,fun b=>j (Ei b this),k⟩
theorem lt_of_not_le' {a b c:Key} (h:¬b<a) (h2:b<c):a<c:=DF h h2
theorem Tj:∀(h:Nat) {b:Key} {c:Option Key} {d:Ai h},WF h b c d->∀{a:Key},¬inR b c a->∀f,lev h d f a=[]
 | 0,b,c,d,hw,a,hk,0=>by
  have e:Ce d a=none:=Df (l:=d) fun x g e=>hk (by rw[<-e];exact(hw.2 x g).1)
  exact yW (fun g=>(Option.map (fun v=>((1:Int),a,v)) g).toList) e
 | 0,_,_,_,_,_,_,_+1=>rfl
 | h+1,b,c,(ps,cs),hw,a,hk,0=>by
  simp only[lev];refine dN.2 fun g i e=>hk ?_
  rw[<-jZ e];exact(hw.2 g i).1
 | h+1,b,c,(ps,cs),hw,a,hk,f+1=>by
  simp only[lev];refine wH.2 fun d a=> ?_
  obtain⟨b,c,rfl⟩:=xL.1 a;obtain⟨n,d,o,g,i⟩:=Mt hw.1 b c;refine Tj h d.1 (fun a=>hk ⟨fun j=>g (lt_of_not_le' a.1 j),fun l m=> ?_⟩) f;obtain⟨f,j,k⟩:=i l m;have:=a.2 f j;exact Kz this k
theorem YZ{h:Nat}{C:Key}{G:Option Key}{I J:List (Key×Ai h)}{D:Key}{L:Ai h}{H:Option Key}{F:Key}(z:Bu (fun D H L=>WF h D H L/\Top h L) (some C) (some D) I)(f:Bu (fun D H L=>WF h D H L/\Top h L) H G J)(n:inR D H F)(c:Nat):((I++(D,L)::J).map fun a=>lev h a.2 c F).flatten=lev h L c F:=by
 have o:(I.map fun a=>lev h a.2 c F).flatten=[]:=by
  refine wH.2 fun y i=> ?_
  obtain⟨a,d,rfl⟩:=xL.1 i;obtain⟨q,g,s,k,l⟩:=Mt z a d;refine Tj h g.1 (fun j=>n.1 ?_) c;obtain⟨m,t,u⟩:=l D rfl;exact Kz (j.2 m t) u
 have p:(J.map fun a=>lev h a.2 c F).flatten=[]:=by
  refine wH.2 fun y i=> ?_
  obtain⟨a,d,rfl⟩:=xL.1 i
  cases i:H with
  | none=>
   rw[i]at f
   cases J with
   | nil=>cases d
   | cons x r=>exact absurd f.1 D_
  | some b=>
   rw[i]at f;obtain⟨q,g,s,k,l⟩:=Mt f a d;exact Tj h g.1 (fun j=>j.1 (Kz (n.2 b i) k)) c
 rw[yX,yD,kI,yO,o,p];simp
theorem WK:∀(h:Nat) {d:Key} {f:Option Key} {c:Ai h},WF h d f c->∀{a:Key},inR d f a->val h c a=Av (Fh (fun b=>lev h c b a) (h+1)) a none
 | 0,d,f,l,hw,a,hk=>by
  simp only[Fh,lev,val,yC]
  cases r:Ce l a with
  | none=>rfl
  | some v=>
   show some v=one a none (1,a,v);simp[one,Es]
 | h+1,d,f,(ps,cs),hw,a,hk=>by
  rw[FD,Fz];obtain⟨m,n,c,o,p,d,g,i,q,f,j,k⟩:=Gl hw.1 hk;have h0:(fun b=>lev (h+1) (ps,cs) (b+1) a)=fun b=>lev h c b a:=by
   funext b
   simp only[lev];rw[d];exact YZ j k f b
  rw[h0,<-WK h i.1 f];show _=Av (cs.filter (Cy a)) a _;rw[Hm (Cy a) cs a _ (fun a _ e=>xQ e)];subst d;exact Uu g
end Tr
