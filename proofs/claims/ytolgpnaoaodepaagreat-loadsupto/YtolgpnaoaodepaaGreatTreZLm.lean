import Derived.Test.YtolgpnaoaodepaaGreatScaQm
set_option maxHeartbeats 1000000
set_option maxRecDepth 20000
namespace Go.Proofs.YtolgpnaoaodepaaGreat
open Go.RowKit Tr
structure JnM(w:World)(pa:Nat)(ap ac:Value)(l:hA)(ap':Value)(w3:World):Prop where
 nod:Ax w3 pa Z_ ap' ac
 row:Bf 0 w3 ap' l
 mod:Mod (fun k=>k=pa\/ap.ownBlock=some k) w w3
 blk:ap'.ownBlock=ap.ownBlock\/∃k,w.heap.size<=k/\ap'.ownBlock=some k
theorem ZC(i:Nat)(J L M:Value)(a:hA)(c:Nat)(N O d0 a7:Value)(f j:hA)(w:World)(q:Ax w i J L M)(m:Bf 0 w L a)(S:c+1<a.length)(h4:a.length<=20000000)(r:Ax w (a[c]'O_).2 Z_ N O)(y:Ax w (a[c+1]'S).2 Z_ d0 a7)(z:Bf 0 w N f)(A:Bf 0 w d0 j)(e1:f.length+j.length<=3)(h5:0<j.length)(e2:∃x b d,a7=L_ x b d)(D:(a[c]'O_).2≠i)(F:(a[c+1]'S).2≠(a[c]'O_).2)(R:∀d,L.ownBlock=some d->N.ownBlock≠some d)(d1:Value->World->World->Prop)(U:Value->Nat->Prop)(T:∀b,(b.ownBlock=N.ownBlock\/∃d,w.heap.size<=d/\b.ownBlock=some d)->¬U b i/\∀d,L.ownBlock=some d->¬U b d)(X:∀g b,JnM w (a[c]'O_).2 N O (f++j) g b->Calls Tryz.prog 63 #[A_ ((a[c]'O_).2),a7] b fun C u=>C=R_ (.tuple #[])/\d1 g b u/\Mod (U g) b u):
  Calls Tryz.prog 174 #[A_ i,J_ (c:Nat)] w fun C k=>C=R_ (.bool true)/\∃g b u p,JnM w (a[c]'O_).2 N O (f++j) g b/\d1 g b u/\Mod (U g) b u/\Ax k i J p M/\Bf 0 k p (a.take (c+1)++a.drop (c+2))/\p.ownBlock=L.ownBlock/\Mod (fun d=>d=i\/L.ownBlock=some d) u k:=by
 obtain⟨Z,a0,a1,-⟩:=q.cells;obtain⟨k,s,rfl,f0,-,f1,a2,a6⟩:=m.at c O_;obtain⟨t,f2,e,-,-,-,b5,b6⟩:=m.at (c+1) S;simp only[xJ,xX,yT,yG,yB]at e;obtain⟨rfl,rfl⟩:=e;obtain⟨n,o,rfl⟩:=Ad z;obtain⟨G,H,rfl⟩:=Ad A;obtain⟨a3,a4,a5,rfl⟩:=e2;have B:=Aa (fun b (g:b.heap=w.heap)=>Qg _ _ _ _ _ _ _ _ none n none G 0 f.length 0 j.length 0 o 0 H b (show Ax b _ _ _ _ by unfold Ax;rw[g];exact r) (show Ax b _ _ _ _ by unfold Ax;rw[g];exact y) rfl rfl rfl rfl O_ O_ O_ O_);have d2:Hid ((decide (0+0<=12)&&decide (f.length+j.length<=3))=true):=by show _=_;simp[e1]
 have a8:=Aa q;have a9:=Aa m;have V:=Aa r;have W:=Aa y;have b0:=Aa z;have b1:=Aa A;have d3:=Aa D;have d4:=Aa F;have b2:=Aa X;have b3:=Aa T;generalize(a[c]'O_).2=l at*;generalize(a[c+1]'S).2=I at*;have e3:decide ((c:Int)<0)=false:=xN O_;have e4:decide ((a.length:Int)<=(c:Int)+1)=false:=xN O_;have e5:¬((a.length:Int)<=(c:Int)+1):=O_;have e6:c<a.length:=O_;have e7:(c:Int)+1<(a.length:Int):=O_;have d5:decide (j.length=0)=false:=xN O_;have d6:Hid ((Value.slice n f.length o).ownBlock≠some k):=R k rfl;clear q m r y z A D F R X T;go_enter aG,aI;go_upto_region 3 with fail;go_quiet (fail);go_wp2_with fail;refine(B.o (w.drewN nq) rfl).mono ?_;rintro C g ⟨rfl,r⟩;rw[d2.o];have m:Hid (Below w.heap.size w g):=(Ao (xA _ w) nq).trans r;have b:Ax g I Z_ (L_ G j.length H) (L_ a3 a4 a5):=(m.o.block I W.o.lt).trans W.o;have q:Ax g l Z_ (L_ n f.length o) O:=(m.o.block l V.o.lt).trans V.o;have X:Hid (Ax g i J (L_ (P_ k) a.length s) M):=(m.o.block i a8.o.lt).trans a8.o;have Y:Hid (Bf 0 g (L_ (P_ k) a.length s) a):=Ae a9.o m.o X_;obtain⟨f3,c5,f4,f5,f6,f7⟩:=q.cells;obtain⟨f8,f9,g0,-⟩:=b.cells;have d7:=Aa (Hh I _ _ _ _ _ g b);have T:=Aa q;have b4:=Aa b;clear r B q b Z a0 a1 a2 a6 b5 b6;have R:Bf 0 g (L_ n f.length o) f:=Ae b0.o m.o X_;have b5:Bf 0 g (L_ G j.length H) j:=Ae b1.o m.o X_;obtain⟨g1,q,c8,a6,c9,y⟩:=Sd g.drew 121 121 132 jP _ 2 24 Hu rfl Do Do (L_ n f.length o) (L_ G j.length H) f.length j.length (An f) (An j) R b5 (Fp j) O_;have d8:=Aa c8;have d9:Hid ((Value.slice n f.length o).ownBlock≠some i):=Bg X.o R Do;have b6:Hid ((Value.slice n f.length o).ownBlock≠some l):=Bg T.o R Do;have e0:Hid ((Value.slice n f.length o).ownBlock≠some I):=Bg b4.o R Do;have D:Mod (fun d=>(Value.slice n f.length o).ownBlock=some d) g.drew q:=Mod.of_grown c9;have Z:Ax q l Z_ (L_ n f.length o) O:=D.nod (w:=g.drew) T.o b6.o;have b7:Ax q I Z_ (L_ G j.length H) (L_ a3 a4 a5):=D.nod (w:=g.drew) b4.o e0.o;have b8:Ax q i J (L_ (P_ k) a.length s) M:=D.nod (w:=g.drew) X.o d9.o;have b9:Bf 0 q (L_ (P_ k) a.length s) a:=D.row (w:=g.drew) Y.o (fun t r b=>by
  have:k=t:=by simpa[Value.ownBlock]using r
  exact d6.o (by rw[this];exact b))
 obtain⟨z,A,B,rfl⟩:=Fo a6;obtain⟨g2,g3,g4,g5,g6,-⟩:=Z.cells;have F:=Mod.setCell q l 1 (L_ z A B);have c0:k≠l:=fun b=>Bg T.o Y.o Do (by rw[<-b];rfl)
 have c1:k≠i:=fun b=>Bg X.o Y.o Do (by rw[<-b];rfl)
 have a0:Hid (Ax (q.setCell (Q_ l 1) (L_ z A B)) i J (L_ (P_ k) a.length s) M):=F.nod b8 (fun b=>d3.o b.symm);have c2:Hid (Ax (q.setCell (Q_ l 1) (L_ z A B)) I Z_ (L_ G j.length H) (L_ a3 a4 a5)):=F.nod b7 d4.o;have c3:Hid (Bf 0 (q.setCell (Q_ l 1) (L_ z A B)) (L_ (P_ k) a.length s) a):=F.row b9 (fun t r b=>by
  have:k=t:=by simpa[Value.ownBlock]using r
  exact c0 (by rw[this];exact b))
 have c4:(Value.slice z A B).ownBlock≠some l:=by
  have e8:g.drew.heap.size=g.heap.size:=rfl;have e9:=T.o.lt;rcases y with y|y
  ·rw[y];exact b6.o
  ·rw[y];intro b;have:=xM b;omega
 have a1:Hid (JnM w l (L_ n f.length o) O (f++j) (L_ z A B) (q.setCell (Q_ l 1) (L_ z A B))):=by
  refine⟨Z.setp _,F.row ?_ (fun t r b=>c4 (by rw[<-b];exact r)),?_,y.imp id fun b=>⟨_,m.o.size,b⟩⟩
  ·rw[xC,Dj];exact a6
  ·have c5:Mod (fun _=>False) w g.drew:=⟨m.o.os,m.o.tape,m.o.output,m.o.size,fun d a2 _=>m.o.block d a2⟩;exact(c5.trans D (H:=fun d=>d=l\/(Value.slice n f.length o).ownBlock=some d) (fun _ _ b=>b.elim) (fun _ _ b=> .inr b)).trans F (fun _ _ b=>b) (fun _ _ b=> .inl b)
 have c6:=Aa (b2.o _ _ a1.o);have a2:=Aa (b3.o _ a1.o.blk);have c7:=Aa c1;obtain⟨g7,g8,g9,h1,h2,h3⟩:=a0.o.cells;obtain⟨u0,u1,u2,-⟩:=c2.o.cells;clear c8 a6 c9 y D Z b7 b8 b9 F c0 c4 R b5 b1 a9 V W b0 c1 b2 b3;have b3:IntKind.i64.wrap ((c:Int)+1)=(c:Int)+1:=by rw[yZ];omega
 have b5:IntKind.i64.wrap ((c:Int)+2)=(c:Int)+2:=by rw[yZ];omega
 go_wp2_with fail;refine d7.o.mono ?_;rintro C g ⟨rfl,rfl⟩;rw[d5];go_upto_region 8 with fail
 go_region_law (refine Qc _ (by rfl) (.tmp 58) (.tmp 62) _ _ (by rfl) _ _ (by rfl) U_ _ _ d8.o ?_)
 all_goals
  go_wp2_with fail;refine c6.o.mono ?_;rintro C u ⟨rfl,R,D⟩;have a6:=Aa R;have a9:=Aa D;have F:=D.nod a0.o a2.o.1;have b0:Hid (Bf 0 u (L_ (P_ k) a.length s) a):=D.row c3.o (fun t r=>a2.o.2 t r);have b1:=Aa F;obtain⟨b7,b8,b9,-⟩:=F.cells;have b2:=Aa (Zz _ a (c+1) _ S b0.o O_);clear R D F c6 a0 c3 c2 a2;go_wp2_with fail;refine b2.o.mono ?_;rintro C D ⟨p,rfl,W,a0,Z⟩;have F:=Mod.of_grown a0;have R:=F.nod b1.o (fun b=>c7.o (xM b));have V:=Mod.setCell D i 1 p;have a2:Hid (Ax (D.setCell (Q_ i 1) p) i J p M/\Bf 0 (D.setCell (Q_ i 1) p) p (a.take (c+1)++a.drop (c+2))/\p.ownBlock=(Value.slice (P_ k) a.length s).ownBlock/\Mod (fun d=>d=i\/(Value.slice (P_ k) a.length s).ownBlock=some d) u (D.setCell (Q_ i 1) p)):=by refine⟨R.setp p,V.row W (fun t r b=> ?_),Z,F.trans V (fun d _ b=> .inr b) (fun d _ b=> .inl b)⟩;rw[Z]at r;exact c7.o ((show k=t from xM r).trans b)
  obtain⟨r,c0,c1,c2,c3,c4⟩:=R.cells;obtain⟨c6,c8,c9,d⟩:=Fo W;clear F R V W a0 Z;subst d;go_wp2_with fail;go_ret;exact⟨rfl,_,_,_,_,a1.o,a6.o,a9.o,a2.o⟩
namespace Tr
variable {c d q:Key}{f:Option Key}{h:Nat}{t u:Ai 0}{A B:List Ch}
theorem PW(g:room d f)(h:inR c (some d) q):inR c f q:=⟨h.1,fun a b=>Ei (h.2 d rfl) (g a b).1⟩
theorem JM(b:room c (some d))(h:inR d f q):inR c f q:=⟨fun a=>h.1 (Ei a (b d rfl).1),h.2⟩
theorem WL(c b:Key)(f g:Ai h)(a:Key):val (h+1) ([(c,f),(b,g)],[]) a=if a<b then val h f a else val h g a:=by
 by_cases d:a<b
 ·rw[xD d];have:ix ([(c,f),(b,g)].map (·.1)) a=0:=by show ix [c,b] a=0;rw[ix,xD d]
  rw[val,this];rfl
 ·rw[xB d];have:ix ([(c,f),(b,g)].map (·.1)) a=1:=by show ix [c,b] a=1;rw[ix,xB d];rfl
  rw[val,this];rfl
theorem Ac4(k:room c (some d))(l:room d f)(b:WF 0 c (some d) t)(g:WF 0 d f u):WF 0 c f (its t++its u):=by
 refine⟨jN.2 ⟨b.1,g.1,fun x a i j=> ?_⟩,fun x a=> ?_⟩
 ·exact Kz ((b.2 x a).1.2 d rfl) (g.2 i j).1.1
 ·rcases xE.1 a with a|a
  ·exact⟨PW l (b.2 x a).1,(b.2 x a).2⟩
  ·exact⟨JM k (g.2 x a).1,(g.2 x a).2⟩
theorem join0_val(i:WF 0 c (some d) t)(j:WF 0 d f u)(b:Key):val 0 (its t++its u) b=val 1 ([(c,t),(d,u)],[]) b:=by
 rw[WL];show Ce (its t++its u) b=_;rw[Hg];by_cases a:b<d
 ·rw[xD a,Df (l:=its u),Option.or_none];rfl;intro x g e;have:=(j.2 x g).1.1;rw[e]at this;exact this a
 ·rw[xB a,Df (l:=its t),bV];rfl;intro x g e;have:=(i.2 x g).1.2 d rfl;rw[e]at this;exact a this
theorem Ac5{y z:List (Key×Ai h)}(i:room d f)(a:WF (h+1) c (some d) (brT y A))(j:WF (h+1) d f (brT z B)):WF (h+1) c f (brT (y++z) A):=
 ⟨Ca.2 ⟨some d,a.1,j.1⟩,fun b g=>⟨PW i (a.2 b g).1,(a.2 b g).2⟩⟩
theorem ZD{y z:List (Key×Ai h)}(l:WF (h+1) c (some d) (brT y A))(m:WF (h+1) d f (brT z B))(o:inR c f q):Av B q (val (h+1) (brT (y++z) A) q)=val (h+2) ([(c,brT y A),(d,brT z B)],[]) q:=by
 rw[WL];have n:∀(a:List (Key×Ai h)) (b:List Ch),val (h+1) (brT a b) q=Av b q (val (h+1) (brT a []) q):=fun _ _=>rfl
 by_cases a:q<d
 ·have b:=Ig (R:=fun k f g=>WF h k f g/\Top h g) (lo:=some c) (A:=[]) (X:=y) (B:=z) (f:=c) rfl l.1 m.1 A (k:=q) ⟨o.1,fun i i=>by rw[<-xM i];exact a⟩;rw[xD a,n y A,Ff B]
  ·exact b
  ·intro i j e;have:=(m.2 i j).1.1;rw[e]at this;exact this a
 ·have b:=Ig (R:=fun k f g=>WF h k f g/\Top h g) (lo:=some c) (A:=y) (X:=z) (B:=[]) (f:=d) l.1 m.1 rfl A (k:=q) ⟨a,o.2⟩;rw[yC]at b;have k:∀g,Av A q g=g:=fun g=>Ff A q g fun i j e=>by
   have:=(l.2 i j).1.2 d rfl;rw[e]at this;exact a this
  rw[k]at b;rw[xB a,n z B];exact yW (Av B q) b
end Tr
variable {a C D:hF}{h m:Nat}{w s:World}{r:hA}{g k:Tr.Key}{j l:Option Tr.Key}{n:List Tr.Ch}
def Tr.lf(l:List Tr.It):Tr.Ai 0:=l
structure Ah7(h:Nat)(lo:Tr.Key)(hi:Option Tr.Key)(p:Nat)(F:hF)(w w':World)(t':Tr.Ai h)(F':hF):Prop where
 rep:Rep h w' p t' F'
 nd:F'.Nodup
 wf:Tr.WF h lo hi t'
 small:Js h t'
 mod:Mod (fun g=>g∈F) w w'
 sub:∀g∈F',g∈F\/w.heap.size<=g
def Ub(h:Nat):Prop:=∀(p:Nat) (t:Tr.Ai h) (F:hF) (w:World) (vc:Value) (ml:gZ) (lo:Tr.Key) (hi:Option Tr.Key),Rep h w p t F->F.Nodup->Tr.WF h lo hi t->Tr.Top h t->Tr.room lo hi->Bb 0 w vc ml->(∀g,vc.ownBlock=some g->g∉F)->(∀c∈Ac ml,Tr.inR lo hi c.2.1/\Tr.Kv c)->Tr.wt h t+2*ml.length<=1800000->
 Calls Tryz.prog 63 #[A_ p,vc] w fun r w'=>r=R_ (.tuple #[])/\∃t' F',Ah7 h lo hi p F w w' t' F'/\Tr.wt h t'<=Tr.wt h t+2*ml.length/\∀k,Tr.inR lo hi k->Tr.val h t' k=Tr.Av (Ac ml) k (Tr.val h t k)
theorem Ji{M':hF}{N:Nat}(h:(a++(D++C)).Nodup)(n:M'.Nodup)(i:∀b∈M',b∈D\/N<=b)(o:∀b∈a,b<N)(p:∀b∈C,b<N):(a++(M'++C)).Nodup:=by
 obtain⟨j,k,g⟩:=xO.1 h;obtain⟨q,l,m⟩:=xO.1 k;refine xO.2 ⟨j,xO.2 ⟨n,l,fun b f d c e=> ?_⟩,fun b f d c e=> ?_⟩
 ·subst e;rcases i b f with d|d
  ·exact m b d b c rfl
  ·have:=p b c;omega
 ·subst e;rcases xE.1 c with c|c
  ·rcases i b c with d|d
   ·exact g b f b (yN _ d) rfl
   ·have:=o b f;omega
  ·exact g b f b (yE _ c) rfl
theorem Db.keep{w':World}{b:List (Tr.Key×Tr.Ai h)}(g:Db (Rep h w) r b a)(i:∀c∈a,w'.heap[c]?=w.heap[c]?):Db (Rep h w') r b a:=
 g.imp fun _ _ _ d f=>f.keep fun c f=>i c (d c f)
theorem Db.lt{h:Nat}{w:World}{r:hA}{b:List (Tr.Key×Tr.Ai h)}{a:hF}(f:Db (Rep h w) r b a):∀c∈a,c<w.heap.size:=fun c d=>wgA (fun q=>Rep.lt q) r b a f c d
theorem Oo{F v:Value}(h:F.ownBlock=v.ownBlock):blk F=blk v:=by unfold blk;rw[h]
structure Ac6(h:Nat)(f1:Tr.Key)(m:Option Tr.Key)(A B:List (Tr.Key×Tr.Ai h))(cs:List Tr.Ch)(t1:Tr.Ai h)(f2:Tr.Key)(t2:Tr.Ai h)(p:Nat)(F:hF)(w w':World)(t':Tr.Ai h)(F':hF):Prop where
 rep:Rep (h+1) w' p (Tr.brT (A++(f1,t')::B) cs) F'
 nd:F'.Nodup
 wf:Tr.WF h f1 m t'
 small:Js h t'
 wt:Tr.wt h t'<=Tr.wt h t1+Tr.wt h t2
 val:∀k,Tr.inR f1 m k->Tr.val h t' k=Tr.val (h+1) ([(f1,t1),(f2,t2)],[]) k
 mod:Mod (fun g=>g∈F) w w'
 sub:∀g∈F',g∈F\/w.heap.size<=g
theorem PX{b p:List (Tr.Key×Tr.Ai h)}{i G:Tr.Ai h}(u:Db (Rep h w) r (b++(g,i)::(k,G)::p) C):∃c x1 f j d l m n,r=c++x1::f::j/\c.length=b.length/\Db (Rep h w) c b d/\x1.1.data.toList=g/\Rep h w x1.2 i l/\Rep h w f.2 G m/\Db (Rep h w) j p n/\C=d++((l++m)++n):=by
 obtain⟨c,o,d,y,rfl,q,s,t,rfl⟩:=u.split
 match o,t with
 | x1::f::j,⟨e1,l,GC,r1,⟨e2,m,n,r2,hB,hG2⟩,hG1⟩=>exact⟨c,x1,f,j,d,l,m,n,rfl,q,s,e1,r1,r2,hB,by rw[hG1,hG2];simp⟩
theorem ZE(k:Nat)(G H:List (Tr.Key×Tr.Ai 0))(B s:Tr.Key)(R:Option Tr.Key)(I J:Tr.Ai 0)(b2:List Tr.Ch)(S:hF)(w:World)(b3:Rep 1 w k (Tr.brT (G++(B,I)::(s,J)::H) b2) S)(L:S.Nodup)(b4:Tr.WF 0 B (some s) I)(b5:Tr.WF 0 s R J)(d9:Tr.room B (some s))(e0:Tr.room s R)(e1:Tr.wt 0 I+Tr.wt 0 J<=1800000)(e9:G.length+H.length<=1800000):
  Calls Tryz.prog 174 #[A_ k,J_ (G.length:Nat)] w fun F l=>(F=R_ (.bool false)/\Below w.heap.size w l)\/(F=R_ (.bool true)/\∃a b,Ac6 0 B R G H b2 I s J k S w l a b):=by
 have t:=b3.lt;obtain⟨z,m,e4,c4,e5,Z,a0,c5,rfl,c6,rfl⟩:=b3;obtain⟨d,c,i,j,A,e6,e7,r,rfl,c7,c8,c9,d0,d1,a1,rfl⟩:=PX c6;obtain⟨D,f,a2,a3,rfl,rfl⟩:=d0;obtain⟨N,g,a4,a5,rfl,rfl⟩:=d1;have e2:=a1.len;have T:d.length+1<(d++c::i::j).length:=D_;have U:(d++c::i::j).length<=20000000:=K_;have u:∀q,(d++c::i::j)[d.length]'q=c:=fun q=>D_
 have V:∀q,(d++c::i::j)[d.length+1]'q=i:=fun q=>D_
 have e3:1+2*(f.length-16)+(1+2*(g.length-16))<=1800000:=by rw[<-Cv f,<-Cv g];exact e1
 rw[<-c7];by_cases b1:f.length+g.length<=12
 ·have M:((k::(blk z++(blk m++A)))++((c.2::blk D++i.2::blk N)++r)).Nodup:=by simpa using L
  have b6:c.2≠k:=by rintro q;have:=(yV.1 L).1;rw[<-q]at this;simp at this
  have o:=(xO.1 M).2.2;have W:=(xO.1 (xO.1 M).2.1).2.2;refine(ZA k _ z m (d++c::i::j) d.length D N f g w Z a0 T U (by rw[u];exact a2) (by rw[V];exact a4) a3 a5 b1 (by rw[u];exact b6)).mono ?_;rintro F l ⟨rfl,n,a6,d6,a7,a8,O,a9,d7,d8⟩;rw[u]at O;have C:Mod (fun a=>a=k\/z.ownBlock=some a\/a=c.2\/D.ownBlock=some a) w l:=by have:=d7;rw[u]at this;exact this
  have b7:(d++c::i::j).take (d.length+1)++(d++c::i::j).drop (d.length+2)=d++c::j:=by rw[List.take_append,bF];simp;rw[yY O_,kB O_];rfl
  rw[b7]at a7;have b8:∀a,m.ownBlock=some a->l.heap[a]?=w.heap[a]?:=fun a b=>by
   have p:=Aj.2 b;refine C.block a (t a (by simp[p])) ?_;have y:=yV.1 L;rintro(q|q|q|q)
   ·rw[q]at p;exact y.1 (by simp[p])
   ·exact(xO.1 y.2).2.2 a (Aj.2 q) a (by simp[p]) rfl
   ·exact o a (by simp[p]) a (by simp[q]) rfl
   ·exact o a (by simp[p]) a (by simp[Aj.2 q]) rfl
  have b9:∀a∈A,l.heap[a]?=w.heap[a]?:=fun a b=>by
   refine C.block a (t a (by simp[b])) ?_;have y:=yV.1 L;rintro(q|q|q|q)
   ·rw[q]at b;exact y.1 (by simp[b])
   ·exact(xO.1 y.2).2.2 a (Aj.2 q) a (by simp[b]) rfl
   ·exact o a (by simp[b]) a (by simp[q]) rfl
   ·exact o a (by simp[b]) a (by simp[Aj.2 q]) rfl
  have c0:∀a∈r,l.heap[a]?=w.heap[a]?:=fun a b=>by
   refine C.block a (t a (by simp[b])) ?_;rintro(q|q|q|q)
   ·exact o k D_ a (by simp[b]) q.symm
   ·exact o a (by simp[Aj.2 q]) a (by simp[b]) rfl
   ·exact W a (by simp[q]) a b rfl
   ·exact W a (by simp[Aj.2 q]) a b rfl
  have X:∀a∈c.2::blk n,a∈c.2::blk D++i.2::blk N\/w.heap.size<=a:=fun a b=>by
   rcases xG.1 b with q|q
   ·exact .inl (by simp[q])
   ·rcases d8 with e|⟨b0,e8,e⟩
    ·rw[Oo e]at q;exact .inl (by simp[q])
    ·have:=Aj.1 q;rw[e]at this;exact .inr (by have:=xM this;omega)
  have c1:(c.2::blk n).Nodup:=yV.2 ⟨fun q=>Bg O a9 Do (Aj.1 q),Dg _⟩;have c2:=Ji (N:=w.heap.size) M c1 X (fun a b=>t a (by have:a∈k::(blk z++(blk m++A)):=b;simp at this⊢;rcases this with q|q|q|q<;>simp[q])) (fun a b=>t a (by simp[b]))
  refine .inr ⟨rfl,Tr.lf (Ab (f++g)),k::(blk a6++(blk m++(A++((c.2::blk n)++r)))),?_⟩;have Y:Tr.lf (Ab (f++g))=Tr.its (Ab f)++Tr.its (Ab g):=Lg f g;refine⟨⟨a6,m,d++c::j,c4,A++((c.2::blk n)++r),d6,a7,Bx c5 (fun a b _=>b8 a b),rfl,?_,rfl⟩,?_,?_,yQ,?_,?_,C.mono ?_,?_⟩
  ·have c3:Db (Rep 0 l) (c::j) ((B,Tr.lf (Ab (f++g)))::H) ((c.2::blk n)++r):=⟨c9,c.2::blk n,r,⟨n,f++g,O,a9,rfl,rfl⟩,a1.keep c0,rfl⟩;exact c3.append (c8.keep b9)
  ·rw[Oo a8];simpa using c2
  ·rw[Y];exact Ac4 d9 e0 b4 b5
  ·show 1+2*((Ab (f++g)).length-16)<=1+2*((Ab f).length-16)+(1+2*((Ab g).length-16));rw[Cv,xC];omega
  ·intro b0 _;rw[Y];exact join0_val b4 b5 b0
  ·rintro a _ (q|q|q|q)
   ·simp[q]
   ·simp[Aj.2 q]
   ·simp[q]
   ·simp[Aj.2 q]
  ·intro a b;rw[Oo a8]at b;rcases xG.1 b with q|q
   ·exact .inl (by simp[q])
   ·rcases xE.1 q with q|q
    ·exact .inl (by simp[q])
    ·rcases xE.1 q with q|q
     ·exact .inl (by simp[q])
     ·rcases xE.1 q with q|q
      ·exact .inl (by simp[q])
      ·rcases xE.1 q with q|q
       ·exact(X a q).imp (fun q=>by simp at q⊢;rcases q with q|q|q|q<;>simp[q]) id
       ·exact .inl (by simp[q])
 ·obtain⟨d2,d3,rfl⟩:=Ad a3;obtain⟨d4,d5,rfl⟩:=Ad a5;refine(AK k _ z m (d++c::i::j) d.length _ _ _ _ _ _ d2 none d4 none f.length 0 g.length 0 d3 0 d5 0 w Z a0 T U (by rw[u];exact a2) (by rw[V];exact a4) rfl rfl rfl rfl O_ O_ O_ O_ (fun q=>b1 q.1)).mono fun F l h=> .inl h
theorem PY(h:Nat)(j5:Ub (h+1))(i:Nat)(b8 b9:List (Tr.Key×Tr.Ai (h+1)))(I B:Tr.Key)(O:Option Tr.Key)(a0 a8:Tr.Ai (h+1))(f4:List Tr.Ch)(d1:hF)(w:World)(f5:Rep (h+2) w i (Tr.brT (b8++(I,a0)::(B,a8)::b9) f4) d1)(d2:d1.Nodup)(d3:Tr.WF (h+1) I (some B) a0)(a1:Tr.WF (h+1) B O a8)(j6:Js (h+1) a0)(f6:Tr.room I (some B))(c0:Tr.room B O)(j7:Tr.wt (h+1) a0+Tr.wt (h+1) a8<=1800000)(k7:b8.length+b9.length<=1800000):
  Calls Tryz.prog 174 #[A_ i,J_ (b8.length:Nat)] w fun N A=>(N=R_ (.bool false)/\Below w.heap.size w A)\/(N=R_ (.bool true)/\∃z a6,Ac6 (h+1) I O b8 b9 f4 a0 B a8 i d1 w A z a6):=by
 have R:=f5.lt;obtain⟨G,J,k3,h9,k4,c7,c8,i0,rfl,i1,rfl⟩:=f5;obtain⟨g,c,l,p,a2,k,m,L,rfl,i2,i3,i4,i5,i6,e1,rfl⟩:=PX i1;obtain⟨r,k5⟩:=a0;obtain⟨n,k6⟩:=a8;obtain⟨C,j,a3,M,Ga,e2,e3,i7,rfl,e4,X⟩:=i5;obtain⟨i8,b7,Y,Z,Gb,e5,e6,e7,rfl,e8,a4⟩:=i6;have j8:=e1.len;have j9:=e4.len;have f7:=e8.len;have d4:g.length+1<(g++c::l::p).length:=D_;have d5:(g++c::l::p).length<=20000000:=K_;have S:∀q,(g++c::l::p)[g.length]'q=c:=fun q=>D_
 have c1:∀q,(g++c::l::p)[g.length+1]'q=l:=fun q=>D_
 have f8:(2*(Ac M).length+wts r+((r.length-1)+(2-r.length)))+(2*(Ac Z).length+wts n+((n.length-1)+(2-n.length)))<=1800000:=j7;rw[Bd,Bd]at f8;have k0:r.length<=wts r:=Kk d3.1;have k1:n.length<=wts n:=Kk a1.1;have f9:0<Y.length:=by
  rw[f7]
  match n,a1.1 with
  | [],b5=>exact absurd (c0 B (show some B=O from b5).symm).1 (Tr.lt_ir B)
  | _::_,_=>simp
 rw[<-i2];by_cases f3:a3.length+Y.length<=3
 ·have a9:((i::(blk G++(blk J++a2)))++((k++m)++L)).Nodup:=by simpa using d2
  have T:=(xO.1 a9).2.2;have g0:=(xO.1 (xO.1 a9).2.1).2.2;have b0:=(xO.1 (xO.1 a9).2.1).1;have U:=(xO.1 b0).2.2;have b1:=(xO.1 b0).1;have y:=(xO.1 b0).2.1;have V:c.2∈k:=by rw[X];exact xU ..
  have g1:l.2∈m:=by rw[a4];exact xU ..
  have b2:∀a,C.ownBlock=some a->a∈k:=fun a b=>by rw[X];simp[Aj.2 b]
  have c2:∀a,j.ownBlock=some a->a∈k:=fun a b=>by rw[X];simp[Aj.2 b]
  have c3:∀a,b7.ownBlock=some a->a∈m:=fun a b=>by rw[a4];simp[Aj.2 b]
  have c4:∀a∈Ga,a∈k:=fun a b=>by rw[X];simp[b]
  have b3:∀a∈Gb,a∈m:=fun a b=>by rw[a4];simp[b]
  have F:∀a,a∈k\/a∈m->a<w.heap.size:=fun a b=>R a (by rcases b with q|q<;>simp[q])
  have W:∀a,a∈k\/a∈m->a≠i/\G.ownBlock≠some a:=fun a b=>by
   have d6:a∈(k++m)++L:=by rcases b with q|q<;>simp[q]
   exact⟨fun q=>T i D_ a d6 q.symm,fun q=>T a (by simp[Aj.2 q]) a d6 rfl⟩
  have g2:c.2≠i:=(W c.2 (.inl V)).1;have g3:l.2≠c.2:=fun q=>U c.2 V l.2 g1 q.symm
  have k2:i<w.heap.size:=c7.lt;have d7:∀d,G.ownBlock=some d->d<w.heap.size:=fun d u=>(xF c8 d u).2
  have d8:∀f:Value,(f.ownBlock=C.ownBlock\/∃d,w.heap.size<=d/\f.ownBlock=some d)->∀a∈c.2::(blk f++(blk j++(Ga++Gb))),(a∈k\/a∈Gb)\/w.heap.size<=a:=fun f H a b=>by
   rcases xG.1 b with q|q
   ·exact .inl (.inl (by rw[q];exact V))
   ·rcases xE.1 q with q|q
    ·rcases H with e|⟨d,u,e⟩
     ·exact .inl (.inl (b2 a (by rw[<-e];exact Aj.1 q)))
     ·have:=Aj.1 q;rw[e]at this;exact .inr (by have:=xM this;omega)
    ·rcases xE.1 q with q|q
     ·exact .inl (.inl (c2 a (Aj.1 q)))
     ·rcases xE.1 q with q|q
      ·exact .inl (.inl (c4 a q))
      ·exact .inl (.inr q)
  have b4:∀f:Value,(f.ownBlock=C.ownBlock\/∃d,w.heap.size<=d/\f.ownBlock=some d)->∀a∈c.2::(blk f++(blk j++(Ga++Gb))),(a∈k\/a∈m)\/w.heap.size<=a:=fun f H a b=>(d8 f H a b).imp (fun q=>q.imp id (b3 a)) id
  have g4:∀f:Value,(f.ownBlock=C.ownBlock\/∃d,w.heap.size<=d/\f.ownBlock=some d)->(c.2::(blk f++(blk j++(Ga++Gb)))).Nodup:=fun f H=>by
   have g5:([c.2]++(blk C++(blk j++(Ga++Gb)))).Nodup:=by
    have g6:(([c.2]++(blk C++(blk j++Ga)))++Gb).Nodup:=(by rw[X]at b0 b1 U;refine xO.2 ⟨b1,?_,fun o s D a7=>U o s D (b3 D a7)⟩;rw[a4]at y;exact(xO.1 (xO.1 (yV.1 y).2).2.1).2.1);simpa using g6
   have:=Ji (N:=w.heap.size) (M':=blk f) g5 (Dg f) (fun a b=>by
    rcases H with e|⟨d,u,e⟩
    ·exact .inl (by rw[<-Oo e];exact b)
    ·have:=Aj.1 b;rw[e]at this;exact .inr (by have:=xM this;omega)) (fun a b=>F a (.inl (by simp at b;rw[b];exact V))) (fun a b=>by
    rcases xE.1 b with q|q
    ·exact F a (.inl (c2 a (Aj.1 q)))
    ·rcases xE.1 q with q|q
     ·exact F a (.inl (c4 a q))
     ·exact F a (.inr (b3 a q)))
   simpa using this
  have g7:∀s o,JnM w c.2 C j (a3++Y) s o->Calls Tryz.prog 63 #[A_ c.2,b7] o fun N a5=>N=R_ (.tuple #[])/\(∃z a6,Ah7 (h+1) I O c.2 (c.2::(blk s++(blk j++(Ga++Gb)))) o a5 z a6/\Tr.wt (h+1) z<=Tr.wt (h+1) (Tr.brT (r++n) (Ac M))+2*Z.length/\∀d,Tr.inR I O d->Tr.val (h+1) z d=Tr.Av (Ac Z) d (Tr.val (h+1) (Tr.brT (r++n) (Ac M)) d))/\Mod (fun a=>a∈c.2::(blk s++(blk j++(Ga++Gb)))) o a5:=by
   intro s o t;have c5:∀a,a<w.heap.size->a≠c.2->C.ownBlock≠some a->o.heap[a]?=w.heap[a]?:=fun a b b6 c6=>t.mod.block a b (fun q=>q.elim b6 c6)
   rw[X]at b1;have c6:=yV.1 b1;have d9:=xO.1 c6.2;have g8:∀a,j.ownBlock=some a->o.heap[a]?=w.heap[a]?:=fun a b=>c5 a (F a (.inl (c2 a b))) (fun q=>c6.1 (by rw[<-q];simp[Aj.2 b])) (fun q=>d9.2.2 a (Aj.2 q) a (by simp[Aj.2 b]) rfl)
   have g9:∀a∈Ga,o.heap[a]?=w.heap[a]?:=fun a b=>c5 a (F a (.inl (c4 a b))) (fun q=>c6.1 (by rw[<-q];simp[b])) (fun q=>d9.2.2 a (Aj.2 q) a (by simp[b]) rfl)
   have e0:∀a∈m,o.heap[a]?=w.heap[a]?:=fun a b=>c5 a (F a (.inr b)) (fun q=>U c.2 V a b q.symm) (fun q=>U a (b2 a q) a b rfl)
   have h1:Rep (h+1) o c.2 (Tr.brT (r++n) (Ac M)) (c.2::(blk s++(blk j++(Ga++Gb)))):=
    ⟨s,j,a3++Y,M,Ga++Gb,t.nod,t.row,Bx i7 (fun a b _=>g8 a b),rfl,(e8.keep fun a b=>e0 a (b3 a b)).append (e4.keep g9),rfl⟩
   refine(j5 c.2 _ _ o b7 Z I O h1 (g4 s t.blk) (Ac5 c0 d3 a1) ⟨by rw[xC];omega,by have:(Ac M).length<=8:=j6;exact this⟩ (fun D a7=>⟨Tr.Ei (f6 B rfl).1 (c0 D a7).1,(c0 D a7).2⟩) (Bx e7 fun a b _=>e0 a (c3 a b)) (fun a b q=> ?_) (fun D b5=>⟨JM f6 (a1.2 D b5).1,(a1.2 D b5).2⟩) ?_).mono ?_
   ·rcases d8 s t.blk a q with(q|q)|q
    ·exact U a q a (c3 a b) rfl
    ·rw[a4]at y;exact(xO.1 (xO.1 (yV.1 y).2).2.1).2.2 a (Aj.2 b) a q rfl
    ·have:=F a (.inr (c3 a b));omega
   ·rw[Nm,Ex,Bd,xC];omega
   ·rintro N a5 ⟨rfl,z,a6,D,c9,d0⟩;exact⟨rfl,⟨z,a6,D,c9,d0⟩,D.mod⟩
  refine(ZC i _ G J (g++c::l::p) g.length C j i8 b7 a3 Y w c7 c8 d4 d5 (by rw[S];exact e2) (by rw[c1];exact e5) e3 e6 f3 f9 (Fo e7) (by rw[S];exact g2) (by rw[S,c1];exact g3) (fun d u q=>(W d (.inl (b2 d q))).2 u) _ (fun f a=>a∈c.2::(blk f++(blk j++(Ga++Gb)))) (fun f H=>⟨fun q=> ?_,fun d u q=> ?_⟩) (by rw[S];exact g7)).mono ?_
  ·rcases b4 f H i q with q|q
   ·exact(W i q).1 rfl
   ·omega
  ·rcases b4 f H d q with q|q
   ·exact(W d q).2 u
   ·have:=d7 d u;omega
  rintro N A ⟨rfl,s,o,a5,e9,t,⟨z,f,D,c9,d0⟩,j3,j4,f0,f1,f2⟩;rw[S]at t;have h2:(g++c::l::p).take (g.length+1)++(g++c::l::p).drop (g.length+2)=g++c::p:=by rw[List.take_append,bF];simp;rw[yY O_,kB O_];rfl
  rw[h2]at f0;have b5:Mod (fun a=>(a=i\/G.ownBlock=some a)\/a∈k\/a∈m) w A:=by
   refine(t.mod.trans j3 (H:=fun a=>(a=i\/G.ownBlock=some a)\/a∈k\/a∈m) (fun a _ q=> ?_) (fun a b q=> ?_)).trans f2 (fun _ _ q=>q) (fun _ _ q=> .inl q)
   ·exact .inr (.inl (q.elim (fun e=>by rw[e];exact V) (b2 a)))
   ·rcases b4 s t.blk a q with q|q
    ·exact .inr q
    ·omega
  have b6:∀a∈f,a∈k++m\/w.heap.size<=a:=fun a b=>by
   rcases D.sub a b with q|q
   ·exact(b4 s t.blk a q).imp (fun q=>xE.2 q) id
   ·exact .inr (xI t.mod.size q)
  have h3:∀a,J.ownBlock=some a->A.heap[a]?=w.heap[a]?:=fun a b=>by
   have H:=Aj.2 b;refine b5.block a (R a (by simp[H])) ?_;have y:=yV.1 d2;rintro((q|q)|q)
   ·rw[q]at H;exact y.1 (by simp[H])
   ·exact(xO.1 y.2).2.2 a (Aj.2 q) a (by simp[H]) rfl
   ·exact T a (by simp[H]) a (by rcases q with q|q<;>simp[q]) rfl
  have h4:∀a∈a2,A.heap[a]?=w.heap[a]?:=fun a b=>by
   refine b5.block a (R a (by simp[b])) ?_;have y:=yV.1 d2;rintro((q|q)|q)
   ·rw[q]at b;exact y.1 (by simp[b])
   ·exact(xO.1 y.2).2.2 a (Aj.2 q) a (by simp[b]) rfl
   ·exact T a (by simp[b]) a (by rcases q with q|q<;>simp[q]) rfl
  have h5:∀a∈L,A.heap[a]?=w.heap[a]?:=fun a b=>by
   refine b5.block a (R a (by simp[b])) ?_;rintro((q|q)|q)
   ·exact T i D_ a (by simp[b]) q.symm
   ·exact T a (by simp[Aj.2 q]) a (by simp[b]) rfl
   ·exact g0 a (xE.2 q) a b rfl
  have h6:∀a∈f,A.heap[a]?=a5.heap[a]?:=fun a b=>by
   refine f2.block a (D.rep.lt a b) ?_;rintro(q|q)
   ·rcases b6 a b with a7|a7
    ·exact(W a (xE.1 a7)).1 q
    ·omega
   ·rcases b6 a b with a7|a7
    ·exact(W a (xE.1 a7)).2 q
    ·have:=d7 a q;omega
  have h7:=Ji (N:=w.heap.size) a9 D.nd b6 (fun a b=>R a (by have:a∈i::(blk G++(blk J++a2)):=b;simp at this⊢;rcases this with q|q|q|q<;>simp[q])) (fun a b=>R a (by simp[b]))
  refine .inr ⟨rfl,z,i::(blk e9++(blk J++(a2++(f++L)))),⟨e9,J,g++c::p,h9,a2++(f++L),j4,f0,Bx i0 (fun a b _=>h3 a b),rfl,?_,rfl⟩,?_,D.wf,D.small,?_,?_,b5.mono ?_,?_⟩
  ·have h8:Db (Rep (h+1) A) (c::p) ((I,z)::b9) (f++L):=⟨i4,f,L,D.rep.keep h6,e1.keep h5,rfl⟩;exact h8.append (i3.keep h4)
  ·rw[Oo f1];simpa using h7
  ·rw[Nm,Ex,xC]at c9;show _<=(2*(Ac M).length+wts r+((r.length-1)+(2-r.length)))+(2*(Ac Z).length+wts n+((n.length-1)+(2-n.length)));rw[Bd Z];omega
  ·intro d u;rw[d0 d u];exact ZD d3 a1 u
  ·rintro a _ ((q|q)|q|q)
   ·simp[q]
   ·simp[Aj.2 q]
   ·simp[q]
   ·simp[q]
  ·intro a b;rw[Oo f1]at b;rcases xG.1 b with q|q
   ·exact .inl (by simp[q])
   ·rcases xE.1 q with q|q
    ·exact .inl (by simp[q])
    ·rcases xE.1 q with q|q
     ·exact .inl (by simp[q])
     ·rcases xE.1 q with q|q
      ·exact .inl (by simp[q])
      ·rcases xE.1 q with q|q
       ·exact(b6 a q).imp (fun q=>by rcases xE.1 q with q|q<;>simp[q]) id
       ·exact .inl (by simp[q])
 ·obtain⟨i9,j0,rfl⟩:=Ad e3;obtain⟨j1,j2,rfl⟩:=Ad e6;exact(AK i _ G J (g++c::l::p) g.length _ _ _ _ _ _ none i9 none j1 0 a3.length 0 Y.length 0 j0 0 j2 w c7 c8 d4 d5 (by rw[S];exact e2) (by rw[c1];exact e5) rfl rfl rfl rfl O_ O_ O_ O_ (fun q=>f3 q.2)).mono fun N A h=> .inl h
theorem PZ:∀(h:Nat) (_:Ub h) (g:Nat) (c i:List (Tr.Key×Tr.Ai h)) (d a:Tr.Key) (j:Option Tr.Key) (b f:Tr.Ai h) (l:List Tr.Ch) (k:hF) (w:World) (_:Rep (h+1) w g (Tr.brT (c++(d,b)::(a,f)::i) l) k) (_:k.Nodup) (_:Tr.WF h d (some a) b) (_:Tr.WF h a j f) (_:Js h b) (_:Tr.room d (some a)) (_:Tr.room a j) (_:Tr.wt h b+Tr.wt h f<=1800000) (_:c.length+i.length<=1800000),
  Calls Tryz.prog 174 #[A_ g,J_ (c.length:Nat)] w fun m n=>(m=R_ (.bool false)/\Below w.heap.size w n)\/(m=R_ (.bool true)/\∃m o,Ac6 h d j c i l b a f g k w n m o)
 | 0,_,g,c,i,d,a,j,b,f,l,k,w,hr,hnd,h1,h2,_,hr1,hr2,hw,hlen=>ZE g c i d a j b f l k w hr hnd h1 h2 hr1 hr2 hw hlen
 | h+1,HT,g,c,i,d,a,j,b,f,l,k,w,hr,hnd,h1,h2,s1,hr1,hr2,hw,hlen=>PY h HT g c i d a j b f l k w hr hnd h1 h2 s1 hr1 hr2 hw hlen
def Ia(F F':hF)(w w':World):Prop:=Mod (fun g=>g∈F) w w'/\∀g∈F',g∈F\/w.heap.size<=g
theorem Ia.trans{H:World}(d:Ia a C w s)(g:Ia C D s H):Ia a D w H:=
 ⟨d.1.trans g.1 (fun _ _ b=>b) (fun c f b=>(d.2 c b).elim id (fun i=>O_)),fun c f=>(g.2 c f).elim (d.2 c) (fun b=> .inr (xI d.1.size b))⟩
theorem Ia.below(h:Below w.heap.size w s):Ia a a w s:=⟨Mod.of_below h,fun _ b=> .inl b⟩
structure Foc(h:Nat)(lo:Tr.Key)(hi:Option Tr.Key)(p:Nat)(w:World)(A:List (Tr.Key×Tr.Ai h))(f:Tr.Key)(m:Option Tr.Key)(t:Tr.Ai h)(B:List (Tr.Key×Tr.Ai h))(cs:List Tr.Ch)(F:hF):Prop where
 rep:Rep (h+1) w p (Tr.brT (A++(f,t)::B) cs) F
 nd:F.Nodup
 cA:Tr.Bu (fun f m t=>Tr.WF h f m t/\Tr.Top h t) (some lo) (some f) A
 rm:Tr.room f m
 wf:Tr.WF h f m t
 small:Js h t
 cB:Tr.Bu (fun f m t=>Tr.WF h f m t/\Tr.Top h t) m hi B
 cc:∀c∈cs,Tr.inR lo hi c.2.1/\Tr.Kv c
 wt:cs.length+(wts A+(Tr.wt h t+wts B))<=1800000
theorem Foc.len{b p:List (Tr.Key×Tr.Ai h)}{i:Tr.Ai h}(c:Foc h g j m w b k l i p n a):b.length+p.length<=1800000:=by have d:b.length<=wts b:=Kk c.cA;have f:p.length<=wts p:=Kk c.cB;have:=c.wt;omega
theorem Foc.below{b B:List (Tr.Key×Tr.Ai h)}{i:Tr.Ai h}(c:Foc h g j m w b k l i B n a)(o:Below w.heap.size w s):Foc h g j m s b k l i B n a:=
 ⟨c.rep.keep fun d f=>o.block d (c.rep.lt d f),c.nd,c.cA,c.rm,c.wf,c.small,c.cB,c.cc,c.wt⟩
theorem Rep.nod{b:List (Tr.Key×Tr.Ai h)}(k:Rep (h+1) w m (Tr.brT b n) a):∃c f d,Ax w m Z_ (L_ c b.length f) d:=by obtain⟨l,d,o,p,q,g,i,r,rfl,j,rfl⟩:=k;obtain⟨c,f,rfl⟩:=Ad i;rw[j.len]at g;exact⟨c,f,d,g⟩
theorem Cs{b:List (Tr.Key×Tr.Ai h)}(f:Tr.Bu (fun c d a=>Tr.WF h c d a/\Tr.Top h a) j l b):Tr.Bu (fun c d a=>Tr.WF h c d a/\Js h a) j l b:=IR (fun _ _ _ a=>⟨a.1,a.2.small⟩) f
theorem Yw{I:Tr.Key->Option Tr.Key->Tr.Ai h->Prop}{i:Tr.Ai h}(a:Tr.room g j)(b:I g j i):Tr.Bu I (some g) j [(g,i)]:=⟨rfl,j,a,b,rfl⟩
theorem Ac7(S:Ub h){b p:List (Tr.Key×Tr.Ai h)}{i:Tr.Ai h}(c:Foc h g j m w b k l i p n a):
  Calls Tryz.prog 174 #[A_ m,J_ (b.length:Nat)] w fun C y=>∃A f o d z,C=R_ (.bool A)/\Foc h g j m y b k f o d n z/\Ia a z w y/\(Tr.wt h o+wts d<=Tr.wt h i+wts p/\(d.length=p.length\/d.length+1=p.length))/\∀q,Tr.inR g j q->Tr.val (h+1) (Tr.brT (b++(k,o)::d) n) q=Tr.val (h+1) (Tr.brT (b++(k,i)::p) n) q:=by
 have t:=c.len;have r:=c.wt
 match p,c,t,r with
 | [],c,t,_=>
  obtain⟨H,I,J,L⟩:=c.rep.nod;refine(PV m _ J H _ I b.length w L D_ O_).mono ?_;rintro C y ⟨rfl,f⟩;exact⟨false,l,i,[],a,rfl,c.below f,Ia.below f,⟨X_,.inl rfl⟩,fun _ _=>rfl⟩
 | (f2,t2)::B2,c,t,r=>
  obtain⟨M,s,u,⟨F,N⟩,B⟩:=c.cB;subst M;rw[Ey]at r;rw[xH]at t;have r:n.length+(wts b+(Tr.wt h i+(Tr.wt h t2+wts B2)))<=1800000:=r;refine(PZ h S m b B2 k f2 s i t2 n a w c.rep c.nd c.wf F c.small c.rm u O_ O_).mono ?_;rintro C y (⟨rfl,f⟩|⟨rfl,o,z,d⟩)
  ·exact⟨false,_,i,_,a,rfl,c.below f,Ia.below f,⟨X_,.inl rfl⟩,fun _ _=>rfl⟩
  ·have D:Tr.room k s:=fun A f=>⟨Tr.Ei (c.rm f2 rfl).1 (u A f).1,(u A f).2⟩
   have T:=d.wt;have A:Tr.wt h o+wts B2<=Tr.wt h i+wts ((f2,t2)::B2):=(by rw[Ey];show _<=_+(Tr.wt h t2+_);omega);refine⟨true,s,o,B2,z,rfl,⟨d.rep,d.nd,c.cA,D,d.wf,d.small,B,c.cc,?_⟩,⟨d.mod,d.sub⟩,⟨A,.inr rfl⟩,fun q O=> ?_⟩
   ·have:=c.wt;omega
   ·have G:Tr.Bu (fun k l i=>Tr.WF h k l i/\Js h i) (some k) s [(k,i),(f2,t2)]:=⟨rfl,some f2,c.rm,⟨c.wf,c.small⟩,rfl,s,u,⟨F,N.small⟩,rfl⟩;have:=Uw (X:=[(k,i),(f2,t2)]) (Y:=[(k,o)]) (Cs c.cA) G (Cs B) (Cs c.cA) (Yw D ⟨d.wf,d.small⟩) (Cs B) n (fun q R=>by rw[Wx];exact d.val q R) O;simpa[Tr.brT]using this
theorem ZF(V:Ub h){b p:List (Tr.Key×Tr.Ai h)}{i:Tr.Ai h}(c:Foc h g j m w b k l i p n a):
  Calls Tryz.prog 174 #[A_ m,J_ ((b.length:Int)-1)] w fun y t=>(y=R_ (.bool false)/\Foc h g j m t b k l i p n a/\Ia a a w t)\/∃d f s z,y=R_ (.bool true)/\b.length=d.length+1/\Foc h g j m t d f l s p n z/\Ia a z w t/\wts d+Tr.wt h s<=wts b+Tr.wt h i/\∀u,Tr.inR g j u->Tr.val (h+1) (Tr.brT (d++(f,s)::p) n) u=Tr.val (h+1) (Tr.brT (b++(k,i)::p) n) u:=by
 have I:=c.len;have C:=c.wt;rcases List.eq_nil_or_concat b with rfl|⟨q,⟨f,r⟩,rfl⟩
 ·have e:(([]:List (Tr.Key×Tr.Ai h)).length:Int)-1= -1:=rfl;rw[e];refine(PU m w).mono ?_;rintro y t ⟨rfl,o⟩;exact .inl ⟨rfl,c.below o,Ia.below o⟩
 ·rw[List.concat_eq_append]at*;have J:((q++[(f,r)]).length:Int)-1=(q.length:Int):=D_;rw[J];obtain⟨Y,A,O,R,B,⟨F,G⟩,S⟩:=Ca.1 c.cA;subst O;have L:R=some k:=S;subst L;rw[Ex,Ey,Te]at C;rw[xC]at I;have M:Rep (h+1) w m (Tr.brT (q++(f,r)::(k,i)::p) n) a:=by have:=c.rep;rw[xT]at this;exact this
  have W:n.length+(wts q+(Tr.wt h r+0)+(Tr.wt h i+wts p))<=1800000:=C;refine(PZ h V m q p f k l r i n a w M c.nd F c.wf G.small B c.rm O_ O_).mono ?_;rintro y t (⟨rfl,o⟩|⟨rfl,s,z,d⟩)
  ·exact .inl ⟨rfl,c.below o,Ia.below o⟩
  ·have D:Tr.room f l:=fun H o=>⟨Tr.Ei (B k rfl).1 (c.rm H o).1,(c.rm H o).2⟩
   have X:=d.wt;have H:wts q+Tr.wt h s<=wts (q++[(f,r)])+Tr.wt h i:=(by rw[Ex,Ey,Te];show _<=_+(Tr.wt h r+0)+_;omega);refine .inr ⟨q,f,s,z,rfl,D_,⟨d.rep,d.nd,A,D,d.wf,d.small,c.cB,c.cc,?_⟩,⟨d.mod,d.sub⟩,H,fun u T=> ?_⟩
   ·omega
   ·have N:Tr.Bu (fun k l i=>Tr.WF h k l i/\Js h i) (some f) l [(f,r),(k,i)]:=⟨rfl,some k,B,⟨F,G.small⟩,rfl,l,c.rm,⟨c.wf,c.small⟩,rfl⟩;have:=Uw (X:=[(f,r),(k,i)]) (Y:=[(f,s)]) (Cs A) N (Cs c.cB) (Cs A) (Yw D ⟨d.wf,d.small⟩) (Cs c.cB) n (fun u U=>by rw[Wx];exact d.val u U) T;simpa[Tr.brT]using this
