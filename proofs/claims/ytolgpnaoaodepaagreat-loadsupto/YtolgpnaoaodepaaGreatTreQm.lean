import Derived.Test.YtolgpnaoaodepaaGreatTreLm
set_option maxHeartbeats 1000000
set_option maxRecDepth 20000
namespace Go.Proofs.YtolgpnaoaodepaaGreat
open Go.RowKit Tr
variable {a:Nat}{w:World}{v:Value}{g:gZ}{d:List Int}
theorem Bb.at(h:Bb a w v g)(c:Nat)(f:c<g.length):∃b d,v=L_ (P_ b) g.length d/\g.length<=d/\a<=b/\b<w.heap.size/\w.cell? (Q_ b (c*3))=some (J_ (g[c]'f).1)/\w.cell? (Q_ b (c*3+1))=some (B_ (g[c]'f).2.1)/\w.cell? (Q_ b (c*3+2))=some (B_ (g[c]'f).2.2):=by
 rcases h.2 with⟨_,r⟩|⟨b,d,s,rfl,o,p,q,_⟩
 ·omega
 ·obtain⟨l,m,n⟩:=Yb g c f;have i:=zD h (g:=b) rfl _ _ l;have j:=zD h (g:=b) rfl _ _ m;have k:=zD h (g:=b) rfl _ _ n;rw[Gv]at i j k;exact⟨b,d,rfl,q,o,(xS.1 p).1,by simpa using i,by simpa using j,by simpa using k⟩
theorem Qf(b:gZ)(a:Int×ByteArray×ByteArray):Cd (b++[a])=Cd b++[J_ a.1,B_ a.2.1,B_ a.2.2]:=by unfold Cd;simp
theorem Lu{α:Type}(a:List α)(P:α->Bool)(b:Nat)(c:b<a.length):(a.take (b+1)).filter P=(a.take b).filter P++(if P (a[b]'c)then[a[b]'c]else[]):=by rw[zN,xW c,wG];congr 1;simp[qS]
structure Two(B:Nat)(w:World)(vo vk:Value)(lo lk:gZ):Prop where
 o:Bb B w vo lo
 k:Bb B w vk lk
 a:∀g,vo.ownBlock=some g->vk.ownBlock≠some g
def atP(pl:hA)(n:Nat)(c:Int×ByteArray×ByteArray):Bool:=decide (Tr.ix (Cp pl) c.2.1.data.toList=n)
theorem OP(l:Nat)(t r b8:Value)(a:hA)(b:gZ)(c:Nat)(w:World)(a4:Ax w l t r b8)(b9:Bf 0 w r a)(a5:Bb 0 w b8 b)(f3:a.length<=20000000)(f4:b.length<=20000000):
  Calls Tryz.prog 173 #[.pointer (some ⟨l,0,none⟩),.int .i64 (c:Nat)] w fun b6 a1=>∃R S,b6=.returned R/\Ax a1 l t r S/\Two w.heap.size a1 R S (b.filter (atP a c)) (b.filter fun g=> !atP a c g)/\Mod (fun f=>f=l) w a1:=by
 obtain⟨d8,d9,e0,-⟩:=a4.cells;obtain⟨c9,a8,rfl⟩:=Ad a5;have u:=Aa a4;have c0:=Aa b9;have c1:=Aa a5;clear a4 b9 a5;go_in;go_wp2_with fail
 go_loopw [5,6,14] (fun R S a2 wr=>∃d:Nat,d<=b.length/\a2=.int .i64 (d:Nat)/\Two w.heap.size wr R S ((b.take d).filter (atP a c)) ((b.take d).filter fun g=> !atP a c g)/\Below w.heap.size w wr) (fun _ _ a2 _=>b.length-(intOf a2).toNat)
 case atStart=>exact⟨0,Y_,rfl,⟨yP _ _ _ _,yP _ _ _ _,fun f i=>by simp[Value.ownBlock]at i⟩,xA _ _⟩
 case round=>
  obtain⟨d,e1,rfl,a9,Z⟩:=hrel;have m:=Aa a9;have H:=Aa Z;have c2:=Z.size;clear a9 Z;by_cases T:d<b.length
  ·obtain⟨f,e2,e,e3,-,i,b0,b1,b2⟩:=c1.o.at d T;simp only[xJ]at e;obtain⟨rfl,-,rfl⟩:=e;have I:=fun d2=>H.o.cell (p:=⟨f,d2,none⟩) i
   have c3:=(I _).trans b0;have c4:=(I _).trans b1;have c5:=(I _).trans b2;clear I b0 b1 b2;have J:=Aa (Lu b (atP a c) d T);have L:=Aa (Lu b (fun g=> !atP a c g) d T);generalize b[d]'T=g at*;obtain⟨n,j,o⟩:=g;have M:=Aa ((xA wr.heap.size wr).alloc X_ (.cells #[.int .i64 n,.string j,.string o] 34));have y:Hid (ChB (wr.alloc (.cells #[.int .i64 n,.string j,.string o] 34)) wr.heap.size n j o):=xK _ _;have q:=Aa (H.o.trans (M.o.mono c2));have k:Hid (Two w.heap.size (wr.alloc (.cells #[.int .i64 n,.string j,.string o] 34)) u5 u6 ((b.take d).filter (atP a c)) ((b.take d).filter fun g=> !atP a c g)):=⟨Ae m.o.o M.o X_,Ae m.o.k M.o X_,m.o.a⟩;have a6:Hid (Ax (wr.alloc (.cells #[.int .i64 n,.string j,.string o] 34)) l t r (.slice (some ⟨f,0,none⟩) b.length a8)):=(q.o.block l u.o.lt).trans u.o;have a7:Hid (Bf 0 (wr.alloc (.cells #[.int .i64 n,.string j,.string o] 34)) r a):=Ae c0.o q.o X_;have d4:((b.take d).filter (atP a c)).length<=20000000:=(by have:=kU (atP a c) (b.take d);rw[xR]at this;omega);have d5:((b.take d).filter fun g=> !atP a c g).length<=20000000:=(by have:=kU (fun g=> !atP a c g) (b.take d);rw[xR]at this;omega);go_wp2_with fail;refine(Mq l 0 t r _ a j _ a6.o a7.o (by omega)).mono ?_;rintro b6 O ⟨rfl,b7⟩;rw[<-b7]at y k q;have d6:wr.heap.size<O.heap.size:=y.o.lt;clear b7 M a6 a7 c3 c4 c5;obtain⟨b3,b4,b5⟩:=y.o.cells;have N:w.heap.size<=O.heap.size:=q.o.size;by_cases a3:Tr.ix (Cp a) j.data.toList=c
   ·have c6:((Tr.ix (Cp a) j.data.toList:Int)==(c:Int))=true:=(by rw[a3];exact beq_self_eq_true _);have U:atP a c (n,j,o)=true:=xQ a3;rw[U]at J L;generalize Tr.ix (Cp a) j.data.toList=d3 at*;go_wp2_with (at_builtin;refine Ix O rfl (.tmp 24) (.tmp 26) 77 34 kX _ 3 40 Em rfl (by decide) (by decide) rfl w.heap.size u5 _ _ rfl k.o.o [.int .i64 n,.string j,.string o] rfl (by intro d1 z;simp at z;rcases z with rfl|rfl|rfl<;>rfl) rfl (by omega) N ?_;intro a0 A B s C)
    have V:Hid (Two w.heap.size A a0 u6 ((b.take (d+1)).filter (atP a c)) ((b.take (d+1)).filter fun g=> !atP a c g)):=by
     refine⟨?_,?_,?_⟩
     ·rw[J.o];unfold Bb;rw[xD yQ,Qf,xC];exact B
     ·rw[L.o];simp only[Bool.not_true,cZ,wQ,yC];exact(Mod.of_grown s).row k.o.k (fun f i p=>k.o.a f p i)
     ·intro f i p;rcases C with h|⟨D,F,h⟩
      ·exact k.o.a f (by rw[<-h];exact i) p
      ·rw[h]at i;have:=xM i;have:=(xF k.o.k f p).2;omega
    have W:Hid (Below w.heap.size w A):=q.o.grown s N (fun D F=>(xF k.o.o D F).1);clear B s C k q y b3 b4 b5;exact⟨⟨d+1,(by omega),(by go_num),V.o,W.o⟩,by simp[intOf];omega⟩
   ·have c6:((Tr.ix (Cp a) j.data.toList:Int)==(c:Int))=false:=(by simp;omega);have U:atP a c (n,j,o)=false:=xN a3;rw[U]at J L;generalize Tr.ix (Cp a) j.data.toList=d3 at*;go_wp2_with (at_builtin;refine Ix O rfl (.tmp 28) (.tmp 30) 77 34 kX _ 3 40 Em rfl (by decide) (by decide) rfl w.heap.size u6 _ _ rfl k.o.k [.int .i64 n,.string j,.string o] rfl (by intro d1 z;simp at z;rcases z with rfl|rfl|rfl<;>rfl) rfl (by omega) N ?_;intro a0 A B s C)
    have V:Hid (Two w.heap.size A u5 a0 ((b.take (d+1)).filter (atP a c)) ((b.take (d+1)).filter fun g=> !atP a c g)):=by
     refine⟨?_,?_,?_⟩
     ·rw[J.o];simp only[cZ,wQ,yC];exact(Mod.of_grown s).row k.o.o (fun f i p=>k.o.a f i p)
     ·rw[L.o];unfold Bb;rw[Bool.not_false,xD rfl,Qf,xC];exact B
     ·intro f i p;rcases C with h|⟨D,F,h⟩
      ·exact k.o.a f i (by rw[<-h];exact p)
      ·rw[h]at p;have:=xM p;have:=(xF k.o.o f i).2;omega
    have W:Hid (Below w.heap.size w A):=q.o.grown s N (fun D F=>(xF k.o.k D F).1);clear B s C k q y b3 b4 b5;exact⟨⟨d+1,(by omega),(by go_num),V.o,W.o⟩,by simp[intOf];omega⟩
  ·have c7:d=b.length:=(by omega);subst c7;rw[zQ]at m;have X:Ax wr l t r (.slice c9 b.length a8):=(H.o.block l u.o.lt).trans u.o;obtain⟨e4,e5,e6,e7,e8,e9⟩:=X.cells;have c8:Hid (Ax (wr.setCell ⟨l,2,none⟩ u6) l t r u6/\Two w.heap.size (wr.setCell ⟨l,2,none⟩ u6) u5 u6 (b.filter (atP a c)) (b.filter fun g=> !atP a c g)/\Mod (fun f=>f=l) w (wr.setCell ⟨l,2,none⟩ u6)):=by
    have Y:=Mod.setCell wr l 2 u6;have d7:=u.o.lt;refine⟨X.setc u6,⟨Y.row m.o.o (fun f i G=> ?_),Y.row m.o.k (fun f i G=> ?_),m.o.a⟩,(Mod.of_below (F:=fun _=>False) H.o).trans Y (fun _ _ G=>G.elim) (fun _ _ G=>G)⟩
    ·have:=(xF m.o.o f i).1;omega
    ·have:=(xF m.o.k f i).1;omega
   obtain⟨f0,f1,f2,d0⟩:=Fo m.o.k;clear m X;subst d0;go_wp2_with fail;go_ret;exact⟨_,_,rfl,c8.o⟩
def Oe(B:Nat)(w:World)(v:Value)(zs:List Int):Prop:=w.ownsRow B 3 1 v zs.length (zs.map (.int .i64))
theorem Oe.at(h:Oe a w v d)(c:Nat)(g:c<d.length):∃b f,v=L_ (P_ b) d.length f/\d.length<=f/\a<=b/\b<w.heap.size/\w.cell? (Q_ b c)=some (J_ (d[c]'g))/\w.frozen? (Q_ b c)=false:=by
 rcases h.2 with⟨_,m⟩|⟨b,f,n,rfl,k,j,l,_⟩
 ·omega
 ·have i:=zD h (g:=b) rfl c (J_ (d[c]'g)) (by simp[g]);rw[Gv]at i;exact⟨b,f,rfl,l,k,(xS.1 j).1,by simpa using i,by simp[World.frozen?,j]⟩
theorem Oe.set{c f:Nat}(h:Oe a w (L_ (P_ c) d.length f) d)(b:Nat)(s:b<d.length)(g:Int):Oe a (w.setCell (Q_ c b) (J_ g)) (L_ (P_ c) d.length f) (d.set b g):=by
 rcases h.2 with⟨_,p⟩|⟨q,r,i,e,j,k,l,m,n,o⟩
 ·omega
 ·simp only[xJ,xX,yT,yG,yB]at e;obtain⟨rfl,rfl⟩:=e;unfold Oe;rw[jV];refine⟨D_,.inr ⟨c,f,i.setIfInBounds b (J_ g),rfl,j,?_,l,m,by simpa using n,?_⟩⟩
  ·rw[Ak (i:=b) k]
  ·rw[qM,aA,o,qX]
theorem Abb(y:Nat)(v:Value)(a:List Int)(w:World)(h:Oe y w v a)(h0:0<a.length)(N:a.length<=20000000):
  Calls Tryz.prog 223 #[v] w fun r s=>∃c,r=R_ (J_ c)/\c∈a/\(∀f∈a,f<=c)/\s=w:=by
 obtain⟨A,B,rfl⟩:=Ad h;have m:=Aa h;obtain⟨C,D,e,F,-,-,G,-⟩:=h.at 0 h0;simp only[xJ]at e;obtain⟨rfl,-,rfl⟩:=e;clear h;have n:¬(a.length:Int)<1:=O_;have z:decide ((a.length:Int)<1)=false:=xN n;go_in;go_wp2_with fail
 go_loop [3,4] (fun t l=>∃(b:Nat) (c:Int),1<=b/\b<=a.length/\l=J_ (b:Nat)/\t=J_ c/\Hid (c∈a)/\Hid (∀f∈a.take b,f<=c)) (fun _ l=>a.length-(intOf l).toNat)
 case atStart=>exact⟨1,a[0]'h0,X_,h0,rfl,rfl,yA h0,fun f i=>by rw[zN,qE,xW h0]at i;simp at i;rw[i];exact Int.le_refl _⟩
 case round=>
  obtain⟨b,c,H,I,rfl,rfl,k,j⟩:=hrel;by_cases g:b<a.length
  ·obtain⟨J,L,e,-,-,-,M,-⟩:=m.o.at b g;simp only[xJ,xX,yT,yG,yB]at e;obtain⟨rfl,rfl⟩:=e;have o:Hid (max c (a[b]'g)∈a):=by
    show _∈_;rcases Int.le_total c (a[b]'g)with d|d
    ·rw[Int.max_eq_right d];exact yA g
    ·rw[Int.max_eq_left d];exact k.o
   have p:Hid (∀f∈a.take (b+1),f<=max c (a[b]'g)):=fun f i=>by
    rw[zN,xW g]at i;rcases xE.1 i with d|d
    ·exact Int.le_trans (j.o f d) (Int.le_max_left _ _)
    ·simp at d;rw[d];exact Int.le_max_right _ _
   clear k j;generalize a[b]'g=u at*;go_wp2_with fail
   go_round
   case rel=>exact⟨b+1,max c u,O_,O_,W_,rfl,o.o,p.o⟩
   case measure=>simp[intOf];omega
  ·have q:b=a.length:=O_;subst q;rw[zQ]at j;go_wp2_with fail;go_ret;exact⟨c,rfl,k.o,j.o,rfl⟩
def Ah0(zs:List Int)(x:Int)(w:World)(r:Ending)(w':World):Prop:=∃i:Nat,r=R_ (J_ (i:Nat))/\zs[i]?=some x/\w'=w
theorem TA(q:Nat)(v:Value)(b:List Int)(x:Int)(w:World)(h:Oe q w v b)(j:x∈b)(C:b.length<=20000000):
  Calls Tryz.prog 222 #[v,J_ x] w (Ah0 b x w):=by
 obtain⟨s,t,rfl⟩:=Ad h;have k:=Aa h;have l:=Aa j;clear h j;go_in;go_wp2_with fail
 go_loop [8] (fun i=>∃a:Nat,a<=b.length/\i=J_ (a:Nat)/\Hid (x∉b.take a)) (fun i=>b.length-(intOf i).toNat)
 case atStart=>exact⟨0,Y_,rfl,by show _∉_;simp⟩
 case round=>
  obtain⟨a,u,rfl,g⟩:=hrel;by_cases d:a<b.length
  ·obtain⟨y,z,e,A,-,-,p,-⟩:=k.o.at a d;simp only[xJ]at e;obtain⟨rfl,-,rfl⟩:=e;by_cases f:b[a]'d=x
   ·rw[f]at p;have m:=Aa f;clear f g;go_wp2_with fail;go_ret;exact⟨a,rfl,by rw[xW d,m.o],rfl⟩
   ·have r:(x==b[a]'d)=false:=by simp;exact fun c=>f c.symm
    have n:Hid (x∉b.take (a+1)):=by
     show _∉_;rw[zN,xW d];intro c;rcases xE.1 c with c|c
     ·exact g.o c
     ·simp at c;exact f c.symm
    clear f g;generalize b[a]'d=B at*;go_wp2_with fail
    go_round
    case rel=>exact⟨a+1,O_,W_,n.o⟩
    case measure=>simp[intOf];omega
  ·have o:a=b.length:=O_;subst o;rw[zQ]at g;exact absurd l.o g.o
theorem Ah1(w:World){k:Array Oper}{rest:List Oper}{l:Oper}{m:Act}{Q:Exit->Act->World->Prop}(s:l.guard=none)(f g:Operand)(t:l.op=Op.makeSlice 25 f g)(a:Nat)(u:m.eval f=J_ (a:Int))(y:m.eval g=J_ (a:Int))(d:a<=1000000000)(h:∀b,Oe w.heap.size b (L_ (P_ w.heap.size) a a) (List.replicate a 0)->Below w.heap.size w b->wpList Tryz.prog k Q rest (m.put l.dst (L_ (P_ w.heap.size) a a)) b):wpList Tryz.prog k Q (l::rest) m w:=by
 obtain⟨c,j,n,o,p⟩:=zB Rl;refine cV w s f g 25 t w.heap.size 3 c _ 1 aK j n o .i64 .i64 (a:Int) (a:Int) a u y rfl rfl (by rw[p];omega) (by unfold maxLen;omega) X_ ?_;intro b i q;refine h b ?_ ((xA _ w).grown q X_ (fun r r=>by cases r));have e:(madeCells (J_ 0).cells (a*1)).toList=(List.replicate a (0:Int)).map (.int .i64):=by rw[List.map_replicate,List.eq_replicate_iff];refine⟨by rw[jT,size_madeCells,kJ],fun r d=> ?_⟩;simp only[madeCells,aX,xL]at d;obtain⟨c,_,rfl⟩:=d;show(#[J_ 0]:Array Value)[c % 1]! =_;rw[Nat.mod_one];rfl
 rw[e]at i;unfold Oe;rw[kD];exact i
theorem WB:∀(a:List hE) (b:hE),a≠[]->Tr.ix a b<a.length
 | [],_,h=>absurd rfl h
 | [_],_,_=>by simp[Tr.ix]
 | _::f::r,b,_=>by
  rw[Tr.ix];split
  ·simp
  ·have:=WB (f::r) b D_;simp only[xH]at*;omega
structure Cnt(pl:hA)(ml:gZ)(j:Nat)(zs:List Int):Prop where
 n:zs.length=pl.length
 b:∀z∈zs,0<=z/\z<=j
 c:∀(i:Nat) (z:Int),zs[i]?=some z->0<z->∃c∈ml,Tr.ix (Cp pl) c.2.1.data.toList=i
 s:0<j->∃z∈zs,0<z
theorem Cnt.next{b:hA}(h:Cnt b g a d)(f:Nat)(i:f<d.length)(k:Int×ByteArray×ByteArray)(n:k∈g)(o:Tr.ix (Cp b) k.2.1.data.toList=f):Cnt b g (a+1) (d.set f (d[f]'i+1)):=by
 have p:=h.b _ (yA i);refine⟨by rw[jV];exact h.n,fun j c=> ?_,fun l j c m=> ?_,fun _=>⟨d[f]'i+1,List.mem_set i _,O_⟩⟩
 ·rcases List.mem_or_eq_of_mem_set c with c|rfl
  ·have:=h.b j c;omega
  ·omega
 ·rw[qA]at c;split at c
  ·next e=>exact⟨k,n,by rw[o];exact e⟩
  ·exact h.c l j c m
theorem OQ(m:Nat)(B b5 b6:Value)(a:hA)(f:gZ)(w:World)(V:Ax w m B b5 b6)(W:Bf 0 w b5 a)(X:Bb 0 w b6 f)(g3:a.length<=20000000)(g4:f.length<=20000000)(b7:0<a.length)(e1:0<f.length):
  Calls Tryz.prog 172 #[A_ m] w fun z d7=>(∃T:Nat,z=R_ (J_ (T:Nat))/\T<a.length/\∃q∈f,Tr.ix (Cp a) q.2.1.data.toList=T)/\Below w.heap.size w d7:=by
 obtain⟨e7,e8,e9,-⟩:=V.cells;obtain⟨d4,a4,rfl⟩:=Ad X;obtain⟨G,H,rfl⟩:=Ad W;have r:=Aa V;have b8:=Aa W;have b9:=Aa X;clear V W X;go_in;go_upto_region 2 with(refine Ah1 _ rfl (.tmp 10) (.tmp 10) rfl a.length rfl rfl O_ ?_;intro b3 O R);have o:=Aa R;have c0:=Aa O;have e2:w.heap.size<b3.heap.size:=(xF O _ rfl).2;have Y:Ax b3 m B (L_ G a.length H) (L_ d4 f.length a4):=(R.block m r.o.lt).trans r.o;obtain⟨f0,f1,f2,-⟩:=Y.cells;clear O R Y;go_wp2_with fail
 go_loopw [17] (fun c wr=>∃(i:Nat) (b:List Int),i<=f.length/\c=J_ (i:Nat)/\Cnt a f i b/\Oe w.heap.size wr (L_ (P_ w.heap.size) a.length a.length) b/\Below w.heap.size w wr) (fun c _=>f.length-(intOf c).toNat)
 case atStart=>exact⟨0,List.replicate a.length 0,Y_,rfl,⟨kD ..,fun L l=>by rw[List.eq_of_mem_replicate l];omega,fun c L l h0=>by rw[List.getElem?_replicate]at l;split at l<;>simp at l;omega,fun h=>O_⟩,c0.o,o.o⟩
 case round=>
  obtain⟨i,b,f3,rfl,I,a5,J⟩:=hrel;have s:=Aa I;have C:=Aa a5;have D:=Aa J;have c1:=J.size;have c2:=I.n;clear I a5 J;by_cases U:i<f.length
  ·obtain⟨a6,f4,e,f5,-,d5,a7,a8,a9⟩:=b9.o.at i U;simp only[xJ]at e;obtain⟨rfl,-,rfl⟩:=e;have t:=fun d8=>D.o.cell (p:=(Q_ a6 d8)) d5
   have c3:=(t _).trans a7;have c4:=(t _).trans a8;have c5:=(t _).trans a9;clear t a7 a8 a9;have c6:=Aa (yA U);generalize f[i]'U=q at*;obtain⟨j,d,k⟩:=q;have o:=Aa ((xA wr.heap.size wr).alloc X_ (C_ #[J_ j,B_ d,B_ k] 34));have u:=Aa (D.o.trans (o.o.mono c1));have c7:Hid (ChB (wr.alloc (C_ #[J_ j,B_ d,B_ k] 34)) wr.heap.size j d k):=xK _ _;have F:Hid (Oe w.heap.size (wr.alloc (C_ #[J_ j,B_ d,B_ k] 34)) (L_ (P_ w.heap.size) a.length a.length) b):=Ae C.o o.o X_;have Z:Hid (Ax (wr.alloc (C_ #[J_ j,B_ d,B_ k] 34)) m B (L_ G a.length H) (L_ (P_ a6) f.length a4)):=(u.o.block m r.o.lt).trans r.o;have a0:Hid (Bf 0 (wr.alloc (C_ #[J_ j,B_ d,B_ k] 34)) (L_ G a.length H) a):=Ae b8.o u.o X_;have e3:Tr.ix (Cp a) d.data.toList<a.length:=(by have:=WB (Cp a) d.data.toList (by intro S;unfold Cp at S;rw[bI]at S;rw[S]at b7;simp at b7);simpa[Cp]using this);go_wp2_with fail;refine(Mq m 0 B _ _ a d _ Z.o a0.o O_).mono ?_;rintro z M ⟨rfl,A⟩;rw[<-A]at c7 F u;clear A o Z a0 c3 c4 c5;have y:Hid (Tr.ix (Cp a) d.data.toList=Tr.ix (Cp a) d.data.toList):=rfl;generalize b4:Tr.ix (Cp a) d.data.toList=g at*;have c8:=Aa b4;clear b4 y;obtain⟨f6,f7,b0,f8,-,-,f9,g0⟩:=F.o.at g O_;simp only[xJ,xX,yT,yG]at b0;obtain⟨rfl,-,rfl⟩:=b0;have n:g<b.length:=O_;have e4:=s.o.b _ (yA n);have c9:=Aa (s.o.next g n (j,d,k) c6.o c8.o);have d0:Hid (Oe w.heap.size (M.setCell (Q_ w.heap.size g) (J_ (b[g]'n+1))) (L_ (P_ w.heap.size) a.length a.length) (b.set g (b[g]'n+1))):=(by have:=F.o;rw[<-c2]at this⊢;exact Oe.set this g n _);generalize b[g]'n=e0 at*;have d1:Hid (Below w.heap.size w (M.setCell (Q_ w.heap.size g) (J_ (e0+1)))):=u.o.setCell (p:=(Q_ w.heap.size g)) X_ _;go_wp2_with fail
   go_roundw
   case rel=>exact⟨i+1,_,O_,W_,c9.o,d0.o,d1.o⟩
   case measure=>simp[intOf];omega
  ·have d2:i=f.length:=O_;subst d2;have a1:=Aa (Abb w.heap.size _ b wr C.o O_ O_);have y:Hid (∀x∈b,Calls Tryz.prog 222 #[L_ (P_ w.heap.size) a.length a.length,J_ x] wr (Ah0 b x wr)):=fun x d9=>TA w.heap.size _ b x wr C.o d9 O_
   go_wp2_with fail;refine a1.o.mono ?_;rintro z M ⟨N,rfl,b1,b2,A⟩;subst A;have a2:=Aa (y.o N b1);have a3:Hid (∀c:Nat,b[c]?=some N->c<a.length/\∃q∈f,Tr.ix (Cp a) q.2.1.data.toList=c):=fun c p=>by obtain⟨L,l,g1⟩:=s.o.s e1;have e5:=b2 L l;have e6:c<b.length:=(jM.1 p).1;exact⟨O_,s.o.c c N p O_⟩
   clear a1 y b1 b2;go_wp2_with fail;refine a2.o.mono ?_;rintro z g2 ⟨c,rfl,p,d6⟩;subst d6;have d3:=Aa (a3.o c p);clear a2 a3 p;go_wp2_with fail;go_ret;exact⟨⟨c,rfl,d3.o⟩,D.o⟩
namespace Tr
theorem Abc{α β:Type}(b:α->β):∀(k:Nat) (a:List α),sh k (a.map b)=(sh k a).map (List.map b)
 | 0,_=>rfl
 | k+1,a=>by rw[sh,sh,yD,xP,<-Abc b k,List.map_take,dU]
theorem TC{α β:Type}(a:α->β)(b:List α)(c:Nat):shares (b.map a) c=(shares b c).map (List.map a):=by unfold shares;rw[xP,Abc]
def Ws(l:List It):Key:=(l.head?.map (·.1)).getD []
def Rv(ls:List (List It)):List (Key×Ai 0):=ls.map fun l=>(Ws l,(l:Ai 0))
def Fk(f:Key):List (List It)->List (Key×Ai 0)
 | []=>[]
 | l::r=>(f,(l:Ai 0))::Rv r
end Tr
variable {w:World}{a:Nat}{b:hA}{i:hH}{j:List (gY)}
structure LfM(w:World)(B:Nat)(pl:hA)(vs:hH)(ls:List (gY)):Prop where
 n:pl.length<=vs.length
 m:vs.length=ls.length
 nod:∀i (h:i<pl.length) (h':i<vs.length),Ax w (pl[i]'h).2 (vs[i]'(h')) Z_ Z_
 key:∀i (h:i<pl.length) (h':i<ls.length),(pl[i]'h).1.data.toList=Ws (Ab (ls[i]'(h')))
 inc:(pl.map (·.2)).Pairwise (·< ·)
 low:∀x∈pl,B<=x.2
theorem LfM.keep{w':World}(h:LfM w a b i j){n:Nat->Prop}(g:Mod n w w')(k:∀x∈b,¬n x.2):LfM w' a b i j:=
 ⟨h.n,h.m,fun d c f=>g.nod (h.nod d c f) (k _ (yA c)),h.key,h.inc,h.low⟩
theorem LfM.snoc(h:LfM w a b i j)(x:ByteArray×Nat)(m:b.length<i.length)(n:Ax w x.2 (i[b.length]'m) Z_ Z_)(o:x.1.data.toList=Ws (Ab (j[b.length]'(by rw[<-h.m];exact m))))(p:∀f∈b,f.2<x.2)(q:a<=x.2):LfM w a (b++[x]) i j:=by
 refine⟨K_,h.m,fun d k l=> ?_,fun d k l=> ?_,?_,fun f g=> ?_⟩
 ·by_cases c:d<b.length
  ·rw[vA c];exact h.nod d c l
  ·have e:d=b.length:=(by simp at k;omega);subst e;simpa using n
 ·by_cases c:d<b.length
  ·rw[vA c];exact h.key d c l
  ·have e:d=b.length:=(by simp at k;omega);subst e;simpa using o
 ·rw[yX];refine jN.2 ⟨h.inc,D_,fun d k d d=> ?_⟩;obtain⟨f,g,rfl⟩:=xL.1 k;simp at d;subst d;exact p f g
 ·rcases xE.1 g with c|c
  ·exact h.low f c
  ·simp at c;subst c;exact q
theorem IX{w:World}:∀{pl:hA} {vs:hH} {ls:List (gY)} (_:pl.length=vs.length) (_:vs.length=ls.length) (_:∀a (h:a<pl.length) (b:a<vs.length),Ax w (pl[a]'h).2 (vs[a]'b) Z_ Z_) (_:∀a (h:a<vs.length) (b:a<ls.length),Ap 0 w (vs[a]'h) (ls[a]'b)) (_:∀a (h:a<pl.length) (b:a<ls.length),(pl[a]'h).1.data.toList=Ws (Ab (ls[a]'b))),Db (Rep 0 w) pl (Rv (ls.map Ab)) ((pl.zip vs).flatMap fun x=>x.1.2::blk x.2)
 | [],[],[],_,_,_,_,_=>rfl
 | x::pl,v::vs,l::ls,h1,h2,hn,ho,hk=>
  ⟨hk 0 D_ D_,_,_,⟨v,l,hn 0 D_ D_,ho 0 D_ D_,rfl,rfl⟩,IX (by simpa using h1) (by simpa using h2) (fun a h b=>hn (a+1) (by simpa using h) (by simpa using b)) (fun a h b=>ho (a+1) (by simpa using h) (by simpa using b)) (fun a h b=>hk (a+1) (by simpa using h) (by simpa using b)),D_⟩
 | [],_::_,_,h1,_,_,_,_=>by simp at h1
 | _::_,[],_,h1,_,_,_,_=>by simp at h1
 | [],[],_::_,_,h2,_,_,_=>by simp at h2
 | _::_,_::_,[],_,h2,_,_,_=>by simp at h2
theorem DU{C:Nat}:∀{b:hA} {d:hH},(b.map (·.2)).Pairwise (·< ·)->(d.Pairwise fun c v=>∀a,c.ownBlock=some a->v.ownBlock≠some a)->(∀x∈b,C<=x.2)->(∀v∈d,∀a,v.ownBlock=some a->a<C)->((b.zip d).flatMap fun x=>x.1.2::blk x.2).Nodup
 | [],_,_,_,_,_=>D_
 | _::_,[],_,_,_,_=>D_
 | x::b,v::d,h1,h2,h3,h4=>by
  rw[List.zip_cons_cons,jJ];have i:=zJ.1 h1;have j:=zJ.1 h2;have o:=DU (C:=C) i.2 j.2 (fun a d=>h3 a (xZ _ d)) (fun c f=>h4 c (xZ _ f));have q:=h3 x (xU ..);refine xO.2 ⟨yV.2 ⟨fun b=> ?_,Dg v⟩,o,fun n g k k e=> ?_⟩
  ·have h:x.2<C:=h4 v (xU ..) _ (Aj.1 b);omega
  ·subst e;obtain⟨⟨a,c⟩,l,m⟩:=wI.1 k;have d:=(bK l).1;have f:=(bK l).2;rcases xG.1 g with rfl|g
   ·rcases xG.1 m with b|b
    ·have h:x.2<a.2:=i.1 a.2 (xL.2 ⟨a,d,rfl⟩);have p:x.2=a.2:=b;omega
    ·have h:x.2<C:=h4 c (xZ _ f) _ (Aj.1 b);omega
   ·have k:=Aj.1 g;have r:=h4 v (xU ..) _ k;rcases xG.1 m with b|b
    ·have h:C<=a.2:=h3 a (xZ _ d);have p:n=a.2:=b;omega
    ·exact j.1 c f n k (Aj.1 b)
theorem Bf.setKey{c f:Nat}{x:ByteArray×Nat}(h:Bf a w (L_ (P_ c) (x::b).length f) (x::b))(d:hJ):Bf a (w.setCell (Q_ c 0) (B_ d)) (L_ (P_ c) (x::b).length f) ((d,x.2)::b):=by
 rcases h.2 with⟨_,g⟩|⟨p,q,i,e,j,k,l,m,n,o⟩
 ·simp at g
 ·simp only[xJ,xX,yT,yG,yB]at e;obtain⟨rfl,rfl⟩:=e;refine⟨by rw[Bj],.inr ⟨c,f,i.setIfInBounds 0 (B_ d),rfl,j,?_,l,m,by simpa using n,?_⟩⟩
  ·rw[Ak (i:=0) k]
  ·rw[qM];show List.take ((x::b).length*2) _=_;rw[aA,o];rfl
def PtB(w:World)(b:Nat)(f:hJ)(p:Nat):Prop:=w.heap[b]?=some (C_ #[B_ f,A_ p] 132 (0,0))
theorem PtB.cells{w:World}{a:Nat}{p:hJ}{c:Nat}(h:PtB w a p c):w.cell? (Q_ a 0)=some (B_ p)/\w.cell? (Q_ a 1)=some (A_ c):=by unfold PtB at h;refine⟨?_,?_⟩<;>simp[World.cell?,h]
structure CtQ(h:Nat)(w:World)(ps:List (Tr.Key×Tr.Ai h))(v:Value)(pl:hA)(G:hF)(w':World):Prop where
 row:Bf w.heap.size w' v pl
 kids:Db (Rep h w') pl ps G
 nd:(blk v++G).Nodup
theorem OR(g:hJ)(o:Nat)(d7:Value)(i:gY)(w:World)(b7:Ax w o d7 Z_ Z_)(W:Ap 0 w d7 i)(j7:16<i.length)(i1:i.length<=2000000):
  Calls Tryz.prog 127 #[.agg #[B_ g,A_ o]] w fun a4 d6=>∃v m F,a4=R_ v/\CtQ 0 w (Fk g.data.toList (shares (Ab i) 16)) v m F d6/\(∀b∈F,w.heap.size<=b)/\Below w.heap.size w d6:=by
 obtain⟨b,b0,e,f2,-,s,-,-⟩:=W.at 0 O_;subst e;have a5:=Aa ((xA w.heap.size w).alloc X_ (C_ #[B_ g,A_ o] 132));have d8:Hid (PtB (w.alloc (C_ #[B_ g,A_ o] 132)) w.heap.size g o):=xK _ _;have b8:Ax (w.alloc (C_ #[B_ g,A_ o] 132)) o (L_ (P_ b) i.length b0) Z_ Z_:=(a5.o.block o b7.lt).trans b7;obtain⟨f3,f4,f5,-⟩:=b8.cells;have b9:Ap 0 (w.alloc (C_ #[B_ g,A_ o] 132)) (L_ (P_ b) i.length b0) i:=Ae W a5.o X_;have c0:=Aa (ON b 0 i.length b0 i 16 (w.alloc (C_ #[B_ g,A_ o] 132)) rfl f2 i1 Do Do (fun d U a2=>by have:=zD b9 (g:=b) rfl d U a2;rw[Gv]at this;simpa using this) K_);have N:Hid (w.heap.size<(w.alloc (C_ #[B_ g,A_ o] 132)).heap.size):=by show _<_;simp
 clear b8 b9 b7 W;go_in;go_wp2_with fail;refine c0.o.mono ?_;clear c0 f3 f4 f5;generalize w.alloc (C_ #[B_ g,A_ o] 132)=r at*;rintro a4 L ⟨j2,c,rfl,S,d5⟩;have I:=Aa S;have a6:=Aa d5;have a7:=Li i 16 Do;have c1:=Aa (BM _ i a7.2.1);have d9:Hid ((shares i 16).length<=2000000/\0<(shares i 16).length):=by unfold shares;rw[Nj];exact⟨O_,a7.2.2 O_⟩
 have e0:Hid (∀h8∈shares i 16,h8≠[]):=c1.o;have e1:Hid (shares (Ab i) 16=(shares i 16).map Ab):=TC _ _ _;clear a7 c1 S d5;generalize shares i 16=n at*;obtain⟨c8,b1,rfl⟩:=Ad I.o.row;have i2:c.length<=2000000/\0<c.length:=by rw[I.o.many.n];exact d9.o
 have e2:r.heap.size<=L.heap.size:=a6.o.size;go_wp2_with fail
 go_loopw [3,13] (fun h1 a wr=>∃(d:Nat) (m:hA),a=J_ (d:Nat)/\m.length=d/\d<=c.length/\Bf r.heap.size wr h1 m/\ShQ r.heap.size wr (L_ c8 c.length b1) c n/\LfM wr L.heap.size m c n/\Below r.heap.size r wr/\L.heap.size<=wr.heap.size) (fun _ a _=>c.length-(intOf a).toNat)
 case atStart=>exact⟨0,[],rfl,rfl,Y_,yP _ _ _ _,I.o,⟨D_,I.o.many.n,fun a h=>by simp at h,fun a h=>by simp at h,D_,fun x h=>by simp at h⟩,a6.o,X_⟩
 case round=>
  obtain⟨d,m,rfl,c9,a2,d0,S,d1,b2,d2⟩:=hrel;have k:=Aa d0;have j:=Aa S;have l:=Aa d1;have X:=Aa b2;have a8:=b2.size;clear d0 S d1 b2;by_cases G:d<c.length
  ·have z:d<n.length:=(by rw[<-j.o.many.n];exact G);have c2:=j.o.many.o d G z;have Y:0<(n[d]'z).length:=by
    have:=e0.o _ (yA z);exact kP.2 this
   obtain⟨B,C,d3,i6,-,i7,f6,-⟩:=c2.at 0 Y;rw[vK]at f6;obtain⟨D,a3,T,f7⟩:∃D a3,Value.slice c8 c.length b1=L_ (P_ D) c.length a3/\wr.cell? (Q_ D d)=some (c[d]'G):=by
    rcases j.o.row.2 with⟨_,h0⟩|⟨D,a3,g9,T,_⟩
    ·omega
    ·have:=zD j.o.row (g:=D) (by rw[T];rfl) d (c[d]'G) (xW G);rw[Gv]at this;exact⟨D,a3,T,by simpa using this⟩
   simp only[xJ,yB]at T;obtain⟨rfl,rfl⟩:=T;have e3:Hid (((n[d]'z)[0]'Y).1.data.toList=Ws (Ab (n[d]'z))):=(by show _=_;unfold Ws Ab;rw[List.head?_map,gL,xW Y];rfl);have e4:=Aa d3;rw[d3]at f7;generalize(n[d]'z)[0]'Y=h9 at*;obtain⟨p,i8⟩:=h9;generalize j6:(n[d]'z).length=H at*;have c3:=(xA wr.heap.size wr).alloc X_ (C_ #[L_ (P_ B) H C,Z_,Z_] 123);have O:Hid (Below wr.heap.size wr ((wr.alloc (C_ #[L_ (P_ B) H C,Z_,Z_] 123)).alloc (C_ #[B_ p,A_ wr.heap.size] 132))):=c3.alloc D_ _;have e5:Hid (Ax ((wr.alloc (C_ #[L_ (P_ B) H C,Z_,Z_] 123)).alloc (C_ #[B_ p,A_ wr.heap.size] 132)) wr.heap.size (c[d]'G) Z_ Z_):=(by rw[e4.o];exact(kR _ _ _ D_).trans (xK _ _));have e6:Hid (((wr.alloc (C_ #[L_ (P_ B) H C,Z_,Z_] 123)).alloc (C_ #[B_ p,A_ wr.heap.size] 132)).heap[wr.heap.size+1]?=some (C_ #[B_ p,A_ wr.heap.size] 132 (0,0))):=(by have h:(wr.alloc (C_ #[L_ (P_ B) H C,Z_,Z_] 123)).heap.size=wr.heap.size+1:=D_;show _=_;rw[<-h];exact xK _ _);have i3:Hid (wr.heap.size+2<=((wr.alloc (C_ #[L_ (P_ B) H C,Z_,Z_] 123)).alloc (C_ #[B_ p,A_ wr.heap.size] 132)).heap.size):=(by show _<=_;simp);clear c2 c3;go_wp2_with (generalize(wr.alloc (C_ #[L_ (P_ B) H C,Z_,Z_] 123)).alloc (C_ #[B_ p,A_ wr.heap.size] 132)=i0 at*;at_builtin;refine Ni i0 rfl (.tmp 17) (.tmp 26) 121 132 jP _ 2 24 Hu rfl Do Do rfl r.heap.size u3 m.length (An m) rfl (Ae k.o O.o X_) (Q_ (wr.heap.size+1) 0) 1 1 [B_ p,A_ wr.heap.size] rfl rfl (fun d U a2=>by rw[Dy];unfold World.cell?;simp only[e6.o,zR];simpa using a2) (by intro U A;simp at A;rcases A with rfl|rfl<;>rfl) O_ (xI a8 O.o.size) ?_;intro g7 M g8 b4 j3)
   have Z:Mod (fun V=>u3.ownBlock=some V) wr M:=(Mod.of_below (F:=fun _=>False) O.o).trans (Mod.of_grown b4) (fun _ _ f=>f.elim) (fun _ _ f=>f);have a9:Hid (Bf r.heap.size M g7 (m++[(p,wr.heap.size)])/\ShQ r.heap.size M (L_ (P_ D) c.length b1) c n/\LfM M L.heap.size (m++[(p,wr.heap.size)]) c n/\Below r.heap.size r M/\L.heap.size<=M.heap.size):=by
    refine⟨?_,⟨Z.row j.o.row (fun b s b6=>Dq j.o.row k.o Do b s b6),j.o.many.keep Z (fun U A V R h2=> ?_)⟩,?_,?_,xI d2 Z.size⟩
    ·unfold Bf;rw[xC,Dj];exact g8
    ·obtain⟨a,t,rfl⟩:=jK A;exact Dq (j.o.many.o a t (by rw[<-j.o.many.n];exact t)) k.o Do V R h2
    ·have e7:=l.o.keep Z (fun x h3 f=>by
      obtain⟨a,t,rfl⟩:=jK h3;exact Bg (l.o.nod a t (by have:=l.o.n;omega)) k.o Do f)
     subst c9;refine e7.snoc (p,wr.heap.size) G ((Mod.of_grown b4).nod e5.o (fun f=> ?_)) e3.o (fun J a0=> ?_) d2
     ·have:=(xF k.o _ f).2;omega
     ·obtain⟨a,t,rfl⟩:=jK a0;exact(l.o.nod a t (by have:=l.o.n;omega)).lt
    ·exact(X.o.trans (O.o.mono a8)).grown b4 (xI a8 O.o.size) (fun V R=>(xF k.o V R).1)
   exact⟨⟨d+1,m++[(p,wr.heap.size)],W_,by simp[c9],O_,a9.o⟩,by simp[intOf];omega⟩
  ·have i4:d=c.length:=O_;have c4:=j.o.many.n;have h0:0<m.length:=O_;obtain⟨q,f8,b3,i9,f9,j0,g0,-⟩:=k.o.at 0 h0;rw[vK]at g0;have i5:wr.frozen? (Q_ q 0)=false:=by
    rcases k.o.2 with⟨f,_⟩|⟨j4,j5,g9,b5,_,b6,_⟩
    ·rw[b3]at f;simp at f
    ·rw[b3]at b5;simp only[xJ,xX,yT,yG,yB]at b5;obtain⟨rfl,rfl⟩:=b5;simp[World.frozen?,b6]
   obtain⟨x,y,rfl⟩:∃x y,m=x::y:=(by cases m with|nil=>simp at h0|cons x a4=>exact⟨x,a4,rfl⟩);have c5:PtB wr w.heap.size g o:=(X.o.block w.heap.size N.o).trans d8.o;obtain⟨j1,-⟩:=c5.cells;clear c5;subst b3;have a9:Hid (∃F,CtQ 0 w (Fk g.data.toList (shares (Ab i) 16)) (L_ (P_ q) (x::y).length f8) ((g,x.2)::y) F (wr.setCell (Q_ q 0) (B_ g))/\(∀b∈F,w.heap.size<=b)/\Below w.heap.size w (wr.setCell (Q_ q 0) (B_ g))):=by
    have c6:=Mod.setCell wr q 0 (B_ g);have e8:∀a (h:a<(x::y).length) (u:a<c.length),Ax (wr.setCell (Q_ q 0) (B_ g)) ((x::y)[a]'h).2 (c[a]'u) Z_ Z_:=fun a h u=>c6.nod (l.o.nod a h u) (fun f=>Bg (l.o.nod a h u) k.o Do (by rw[f];rfl))
    have e9:∀a (h:a<c.length) (u:a<n.length),Ap 0 (wr.setCell (Q_ q 0) (B_ g)) (c[a]'h) (n[a]'u):=fun a h u=>c6.row (Dp (j.o.many.o a h u)) (fun b s f=>Dq (j.o.many.o a h u) k.o Do b s (by rw[f];rfl))
    have R:=IX (w:=wr.setCell (Q_ q 0) (B_ g)) (pl:=x::y) (vs:=c) (ls:=n) O_ c4 e8 e9 l.o.key;have c7:∀b∈((x::y).zip c).flatMap (fun J=>J.1.2::blk J.2),r.heap.size<=b/\b≠q:=by
     intro b s;obtain⟨⟨J,U⟩,d4,g1⟩:=wI.1 s;have a0:=(bK d4).1;have A:=(bK d4).2;rcases xG.1 g1 with f|f
     ·have a1:b=J.2:=f;rw[a1];refine⟨xI e2 (l.o.low J a0),fun e=> ?_⟩;obtain⟨a,t,rfl⟩:=jK a0;exact Bg (l.o.nod a t (by have:=l.o.n;omega)) k.o Do (by rw[e];rfl)
     ·have a1:=Aj.1 f;refine⟨(j.o.many.lt A b a1).1,fun e=> ?_⟩;obtain⟨a,t,rfl⟩:=jK A;exact Dq (j.o.many.o a t O_) k.o Do b a1 (by rw[e];rfl)
    refine⟨_,⟨Bi (Bf.setKey k.o g) (zX N.o),?_,?_⟩,fun b s=>xI (zX N.o) (c7 b s).1,?_⟩
    ·rw[e1.o]
     cases n with
     | nil=>rw[yU]at c4;omega
     | cons l0 ls'=>
      obtain⟨-,g2,g3,g4,g5,g6⟩:=R;exact⟨rfl,g2,g3,g4,g5,g6⟩
    ·refine xO.2 ⟨Dg _,DU (C:=L.heap.size) l.o.inc j.o.many.a l.o.low (fun v W b s=>(I.o.many.lt W b s).2),fun h4 h5 h6 h7 e=> ?_⟩;have f0:=Aj.1 h5;have f1:q=h4:=xM f0;exact(c7 h6 h7).2 (by rw[<-e,<-f1])
    ·exact(a5.o.trans (X.o.mono (zX N.o))).setCell (p:=(Q_ q 0)) (xI (zX N.o) f9) _
   clear k j l X I a6;go_wp2_with fail;go_ret;obtain⟨F,f⟩:=a9.o;exact⟨_,_,F,rfl,f⟩
