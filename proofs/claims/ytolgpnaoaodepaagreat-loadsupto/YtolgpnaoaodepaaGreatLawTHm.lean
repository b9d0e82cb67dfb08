import Derived.Test.YtolgpnaoaodepaaGreatLawTDm
set_option maxHeartbeats 1000000
set_option maxRecDepth 20000
namespace Go.Proofs.YtolgpnaoaodepaaGreat
open Go.RowKit Ld Tr
variable {a:Nat}{b:Value}{i:List (Nat×hF)}{w:World}
theorem RV{c g:Nat}{j:Nat->Prop}(h:LW a c g j b i w)(a1:1<=g)(a4:g<=900000)(B:Int)(C D:hJ)(F G H I J:Value)(L:Int)(M N:hJ)(O:Value):
  Calls Tryz.prog 28 #[A_ a,.agg #[J_ 7,J_ B,B_ C,B_ D,F,G,H,I,J,J_ L,B_ M,B_ N,O]] w (StQ a c g j w):=by
 have d:Below w.heap.size w (w.alloc (C_ #[J_ 7,J_ B,B_ C,B_ D,F,G,H,I,J,J_ L,B_ M,B_ N,O] 81)):=(xA _ w).alloc X_ _;have T:=Aa h;have U:=Aa d;have r:=Aa (h.below d);clear h d;go_enter bZ,cF;go_wp2_with fail;refine(Ad9 _).mono ?_;rintro Z k ⟨x,y,z,rfl,p,n,A,S,q⟩;generalize w.alloc (C_ #[J_ 7,J_ B,B_ C,B_ D,F,G,H,I,J,J_ L,B_ M,B_ N,O] 81)=a0 at*;have m:Below k.heap.size k (k.alloc (C_ #[Z_] 113)):=(xA _ k).alloc X_ _;have R:(k.alloc (C_ #[Z_] 113)).heap.size=k.heap.size+1:=D_;have s:=q.size;have o:∀d∈x::y::z,d<k.heap.size:=fun d f=>(xG.1 f).elim (fun e=>by rw[e];exact p.lt) (n.lt d)
 have t:∀d∈x::k.heap.size::y::(z++blk Z_),a0.heap.size<=d/\d<k.heap.size+1:=fun d f=>by
  have u:blk Z_=[]:=rfl;rw[u,yC]at f;rcases xG.1 f with e|f
  ·rw[e];exact⟨A x D_,by have:=o x D_;omega⟩
  ·rcases xG.1 f with e|f
   ·omega
   ·exact⟨A d (xZ _ f),by have:=o d (xZ _ f);omega⟩
 have V:Hid (Calls Tryz.prog 52 #[A_ a,A_ x,A_ k.heap.size] (k.alloc (C_ #[Z_] 113)) (AdQ a c g j i (k.alloc (C_ #[Z_] 113)))):=by
  refine KI (vl:=b) (x:=x) (y:=k.heap.size) (b':=y) (F:=z) (v:=Z_) (il:=[]) (V:=fun _=>none) ?_ (p.below m) ((n.keep fun d f=>m.block d (n.lt d f)).mono a1) (xK _ _) (yP _ _ _ _) List.Pairwise.nil (fun _=>rfl) Y_ (fun l l=>by cases l) ?_ (fun d f W=> ?_) O_
  ·refine r.o.aside (q.trans (m.mono s)) fun d f=>f.imp id fun l=> ?_
   rw[R];exact t d l
  ·obtain⟨X,Y⟩:=n.nds;have u:blk Z_=[]:=rfl;rw[u,yC];refine yV.2 ⟨fun l=> ?_,yV.2 ⟨fun l=> ?_,yV.2 ⟨Y,X⟩⟩⟩
   ·rcases xG.1 l with e|l
    ·have:=p.lt;omega
    ·exact S l
   ·have:=o _ (xZ _ l);omega
  ·have a2:=(t d f).1;have a3:=(r.o.xs d W).2;omega
 have W:=Aa (q.trans (m.mono s));clear p n A S q m R s o t;go_wp2_with fail;refine V.o.mono ?_;rintro Z p d;have m:Hid (StQ a c g j w (R_ (.bool true)) p):=by refine StQ.box T.o U.o (StQ.box r.o W.o ?_);obtain⟨n,q,o⟩:=d.lw;exact⟨rfl,⟨n,_,o.mono O_ X_⟩,d.bel,d.same⟩
 obtain rfl:=d.ret;clear d;go_wp2_with fail;go_ret;exact m.o
theorem Vm(h:Trs a b i w)(d:Nat)(g:d<i.length):∃c f,b=L_ (P_ c) i.length f/\i.length<=f/\w.cell? (Q_ c d)=some (A_ ((i[d]'g).1)):=by
 rcases h.row.2 with⟨_,h0⟩|⟨c,f,k,e,l,m,j,-⟩
 ·omega
 ·refine⟨c,f,e,j,?_⟩;have:=h.row.cells (g:=c) (by rw[e];rfl) d (A_ ((i[d]'g).1)) (by simp[g]);rw[Dy]at this;simpa using this
namespace Pg
end Pg
namespace Pr
open Pg
theorem VB(a:Its)(h:Kw a)(d:a.length<=16):(Fl ((secs (parts a)).map List.length) (Fq (parts a))).length=68:=by
 have b:=Np h;have c:(parts a).length<=4:=by have:=Th (many a.length) a;unfold parts;unfold many at*;omega
 exact Yf _ _ (by simp[secs,Fq]) (by simpa[secs]using c) (Fe _ _ (Se _ b))
theorem RW{k:Lb}(h:Mc k=true):∃a b,Kq k=sealed a++b/\(sealed a).length=68:=by
 obtain⟨g,a,b,c,d⟩:=k;unfold Mc Kh at h;simp only at h;by_cases f:g=1
 ·rw[xD f]at h;simp only[yK,yL,xP]at h;obtain⟨⟨⟨⟨l,m⟩,_⟩,_⟩,_⟩:=h;have i:Kq (g,a,b,c,d)=Lx a:=by subst f;rfl
  have j:=(Oj a).1 l;have:=VB a j m;rw[i,MH];exact⟨_,_,rfl,this⟩
 ·rw[xB f]at h;simp only[yK,yL,xP]at h;obtain⟨⟨⟨⟨⟨⟨⟨⟨_,_⟩,_⟩,n⟩,_⟩,_⟩,_⟩,_⟩,_⟩:=h;subst n;refine⟨[83,50,73]++low ((b.map Int.ofNat).map Int.toNat).length 1++low (Ck ((b.map Int.ofNat).map Int.toNat) c).length 2++low (Cf d).length 2++List.replicate 56 0,Ck ((b.map Int.ofNat).map Int.toNat) c++Cf d,?_,?_⟩
  ·show page 2 a (b.map Int.ofNat) c d=_;unfold page Fb;rw[xD rfl,xT]
  ·rw[Jb];simp[Bo]
end Pr
variable {d:hD}{a c g:Nat}{f w:World}{v b:Value}
def Hr(L:hD):Nat:=(L.map fun s=>s.size+1).sum
def rds:hD->Nat->hF
 | [],_=>[]
 | s::r,i=>if 68<=s.size then i::rds r (i+1)else rds r (i+1)
theorem XE:∀(b:hD) (a:Nat),(rds b a).length*69<=Hr b
 | [],_=>by simp[rds]
 | s::r,a=>by
  have b:=XE r (a+1);have e:Hr (s::r)=s.size+1+Hr r:=by simp[Hr]
  rw[rds,e];by_cases h:68<=s.size
  ·rw[xD h,xH];omega
  ·rw[xB h];omega
theorem XF:∀(d:hD) (a b:Nat) (c:hJ),d[b]?=some c->68<=c.size->a+b∈rds d a
 | [],_,_,_,h,_=>by simp at h
 | x::r,a,0,c,h,h2=>by
  have e:x=c:=by simpa using h
  rw[rds,e,xD h2];exact xU ..
 | x::r,a,b+1,c,h,h2=>by
  have:=XF r (a+1) b c (by simpa using h) h2;rw[rds,show a+(b+1)=a+1+b by omega];split
  ·exact xZ _ this
  ·exact this
theorem Aae{l:hJ}{m:Pr.Lb}(h:Pr.En l.data.toList=some m):68<=l.size:=by obtain⟨a,b⟩:=Pr.Ph h;obtain⟨c,d,e,f⟩:=Pr.RW a;rw[<-Ah,<-b,e,xC];omega
theorem Aaf{L:hD}:L.length<=Hr L:=by
 induction L with
 | nil=>simp[Hr]
 | cons s r ih=>
  have e:Hr (s::r)=s.size+1+Hr r:=by simp[Hr]
  rw[e,xH];omega
theorem GQ:∀{a:hD},∀b∈a,b.size<=Hr a
 | x::r,b,a=>by
  have e:Hr (x::r)=x.size+1+Hr r:=by simp[Hr]
  rcases xG.1 a with rfl|a
  ·omega
  ·have:=GQ b a;omega
 | [],_,a=>by cases a
theorem LdN.bulk(r:Hr d<=1048576)(s:262145<=a):LdN d a:=fun b c i _ f=>by
 have m:(Ld.nums b c).length<=(rds d 0).length:=MS f fun j g=>by
  obtain⟨q,f⟩:=Yx b [] [] c i j g;unfold Au at f;rw[zU,gX]at f;obtain⟨k,l,g⟩:=f;have:=XF d 0 j k l (Aae g)
  rwa [zR]at this
 have n:=XE d 0;have o:=Afn (Dd d) b [] [] c i;refine⟨O_,fun j g j=> ?_⟩;have p:=Ad8 g j;have j:=MM (Dd d) b [] [] c i;omega
theorem DD.owns(q:Src 1 f v d.length (strs d))(h:DD a w v b d.length (strs d)):Bc 0 w b d/\∀c,b.ownBlock=some c->a<=c/\c<w.heap.size:=by
 rcases h with⟨l,rfl,rfl⟩|⟨c,_,rfl,j⟩
 ·have h0:d.length=0:=by
   obtain⟨r,s,e,_,g⟩:=q;simp only[xJ,yB]at e;obtain⟨rfl,rfl⟩:=e;rcases g with g|⟨t,u,e,_⟩
   ·exact g
   ·cases e
  have:d=[]:=zT h0;subst this;exact⟨⟨rfl,.inl ⟨rfl,rfl⟩⟩,fun c i=>by cases i⟩
 ·have k:=xF j;refine⟨?_,fun m m=>by rw[<-xM m];exact k c rfl⟩;rcases j.2 with⟨e,_⟩|⟨y,l,m,e,_,i,z,n,o,p⟩
  ·cases e
  ·simp only[xJ,xX,yT,yG,yB]at e;obtain⟨rfl,rfl⟩:=e;refine⟨by simp[strs],.inr ⟨c,d.length+2,m,rfl,Y_,i,O_,n,o,?_⟩⟩;have:=yW (List.take d.length) p;rw[jO,kE (by simp[strs]),jL O_]at this;rw[kJ,this];exact yY (by simp[strs])
theorem MZ(c:Nat)(w:World):
  Calls Tryz.prog 52 #[A_ c,.pointer none,.pointer none] w fun a b=>a=R_ (.bool true)/\b=w:=by
 go_in;go_wp2_with fail;go_ret;exact⟨rfl,rfl⟩
theorem DD.stay{q:hH}(h:DD a w v b c q)(k:Below w.heap.size w f):DD a f v b c q:=by
 rcases h with h|⟨d,g,i,j⟩
 ·exact .inl h
 ·exact .inr ⟨d,g,i,Ae j k X_⟩
structure LdP(N:Nat)(w0:World)(x y b:Nat)(F:hF)(v:Value)(il:gY)(V:Tr.Key->Option Tr.Key)(w:World):Prop where
 st:ST w x b
 tr:Eh V N b F w
 rt:RT w y v
 row:Ap 0 w v il
 ris:Tr.Cb (Ab il)
 val:∀k,Ce (Ab il) k=V k
 len:il.length<=N
 v16:∀z∈il,z.2.size<=16
 nd:(x::y::b::(F++blk v)).Nodup
 new:∀g∈x::y::b::(F++blk v),w0.heap.size<=g/\g<w.heap.size
theorem Agf{n p:World}{r s:Ending}(b2:LdN d a)(z:SLQ a d f r n)(t:RLQ d n s p):(r=R_ (.tuple #[.pointer none,J_ 2])/\s=R_ (.tuple #[.pointer none,J_ 2]))\/∃x m j A v o b,r=R_ (.tuple #[A_ x,J_ 0])/\s=R_ (.tuple #[A_ m,J_ 0])/\LdP a f x m j A v o b p:=by
 obtain⟨a1,z⟩:=z;obtain⟨I,t⟩:=t;have b3:=a1.size;have b4:=I.size;have b5:(Au d).length=d.length:=by unfold Au;simp
 rcases z with⟨J,a4⟩|⟨V,W,x,j,A,J,X,Y,a5,a6,L,B,M,C⟩
 ·rcases t with⟨N,_⟩|⟨k,l,m,v,o,_,u,D,O,Z,_⟩
  ·exact .inl ⟨J,N⟩
  ·exact absurd ⟨k,l,u,D,O,fun b c=>Z b O_⟩ a4
 ·rcases t with⟨_,a7⟩|⟨k,l,m,v,o,N,u,D,O,Z,F,R,a8,a9,b9,b0⟩
  ·exact absurd ⟨V,W,X,Y,a5,fun b c=>a6 b O_⟩ a7
  ·obtain⟨rfl,G⟩:=Ln (Dd d) k V [] [] [] [] l W u X (by rw[D,Y]);have G:=aN G;subst G;have U:∀q,Ce (Ab o) q=Tr.Av (eff (Au d) k l) q none:=fun q=>by
    rw[a8];exact Qe (lo:=[]) (hi:=none) q _ (l:=[]) ⟨List.Pairwise.nil,fun x C=>by cases C⟩ fun S T=>⟨Qn _,UH (Dd d) k [] [] l u S T⟩
   have H:=Vh a9;have b6:=(b2 k l u D O).2 o H.1 U;have i:∀g∈x::j::A,g<n.heap.size:=fun g c=>(xG.1 c).elim (fun e=>by rw[e];exact L.lt) (B.lt g)
   have y:∀g∈blk v,n.heap.size<=g/\g<p.heap.size:=fun g c=>⟨b0 g (Aj.1 c),(xF R g (Aj.1 c)).2⟩
   have a0:m∉blk v:=fun b=>by obtain⟨b7,b8,e⟩:=Iz R (Aj.1 b);unfold RT at F;rw[F]at e;simp at e
   obtain⟨a2,a3⟩:=B.nds;refine .inr ⟨x,m,j,A,v,o,fun q=>Tr.Av (eff (Au d) k l) q none,J,N,(I.block x L.lt).trans L,B.keep fun g c=>I.block g (B.lt g c),F,R,H.1,U,O_,H.2,?_,fun g c=> ?_⟩
   ·refine yV.2 ⟨fun b=> ?_,yV.2 ⟨fun b=> ?_,yV.2 ⟨fun b=> ?_,xO.2 ⟨a2,Dg v,fun q b1 S T e=> ?_⟩⟩⟩⟩
    ·rcases xG.1 b with e|b
     ·have:=i x D_;omega
     ·rcases xG.1 b with e|b
      ·exact C (by rw[e];simp)
      ·rcases xE.1 b with b|b
       ·exact C (by simp[b])
       ·have:=i x D_;have:=(y x b).1;omega
    ·rcases xG.1 b with e|b
     ·have:=i j D_;omega
     ·rcases xE.1 b with b|b
      ·have:=i m (by simp[b]);omega
      ·exact a0 b
    ·rcases xE.1 b with b|b
     ·exact a3 b
     ·have:=i j D_;have:=(y j b).1;omega
    ·have z:=i q (by simp[b1]);have t:=(y S T).1;omega
   ·rcases xG.1 c with e|c
    ·rw[e];exact⟨M x D_,by have:=i x D_;omega⟩
    ·rcases xG.1 c with e|c
     ·rw[e];exact⟨O_,F.lt⟩
     ·rcases xG.1 c with e|c
      ·rw[e];exact⟨M j D_,by have:=i j D_;omega⟩
      ·rcases xE.1 c with c|c
       ·exact⟨M g (by simp[c]),by have:=i g (by simp[c]);omega⟩
       ·have:=y g c;omega
theorem LdP.keep{x:Nat}{t:hF}{u:gY}{y:Tr.Key->Option Tr.Key}{w':World}(h:LdP a f x c g t v u y w)(j:w.heap.size<=w'.heap.size)(i:∀b∈x::c::g::(t++blk v),w'.heap[b]?=w.heap[b]?):LdP a f x c g t v u y w':=
 ⟨(i x D_).trans h.st,h.tr.keep fun b d=>i b (by rcases xG.1 d with e|e<;>simp[e]),(i c D_).trans h.rt,Bx h.row fun b d _=>i b (by simp[Aj.2 d]),h.ris,h.val,h.len,h.v16,h.nd,fun b d=>⟨(h.new b d).1,yF (h.new b d).2 j⟩⟩
theorem Src.isRow(h:Src 1 w v d.length (strs d))(m:d.length<=1000000000):Ik w v d.length (d.map .string):=by obtain⟨a,b,rfl,_,c⟩:=h;refine⟨a,b,rfl,m,c.imp id ?_⟩;rintro⟨f,g,e,i,j⟩;exact⟨f,g,e,i,fun k l=>j k _ (by simp[strs]at l⊢)⟩
theorem VC{j:Nat->Prop}{i:List (Nat×hF)}(h:LW a c g j b i w)(a4:262145<=g)(a5:g<=900000)(F:Value)(k:hD)(r:Src 1 w F k.length (strs k))(l:Hr k<=1048576):
  Calls Tryz.prog 53 #[A_ a,F] w (StQ a c g j w):=by
 have q:=Aaf (L:=k);have n:=Aa h;have d:=Aa r;have m:=Aa (LdN.bulk l a4);have p:Hid (∀t∈k,t.size<=10000000):=fun t r=>by have:=GQ t r;omega
 have o:=Aa (HC F k.length (strs k) w r O_ (fun v f=>by simp[strs]at f;obtain⟨t,_,rfl⟩:=f;rfl));have a6:k.length<=1048576:=O_;obtain⟨a9,b0,rfl,-⟩:=r;clear h l q;go_in;go_wp2_with fail;refine o.o.mono ?_;rintro u C ⟨A,W,rfl,l⟩;have q:=Aa l;have s:=Aa A;obtain⟨f,z⟩:=l.owns d.o;have R:=Aa z;have y:=Aa (KC g W k C f O_ m.o a5);obtain⟨b1,b2,rfl⟩:=Ad f;clear A l f z o;go_wp2_with fail;refine y.o.mono ?_;rintro X L l;have f:=Aa l;have z:Hid (Below w.heap.size w L):=s.o.trans (l.1.mono s.o.size);have B:=Aa (RP _ k L ((d.o.below z.o).isRow O_) O_ p.o);have S:(∃I J,X=R_ (.tuple #[I,J_ J])):=by rcases l.2 with⟨e,_⟩|⟨_,_,_,_,_,e,_⟩<;>exact⟨_,_,e⟩
 obtain⟨I,J,rfl⟩:=S;clear l y;go_wp2_with fail;refine B.o.mono ?_;rintro b4 D l;have A:Hid (Below w.heap.size w D):=z.o.trans (l.1.mono z.o.size);have o:Below C.heap.size C D:=f.o.1.trans (l.1.mono f.o.1.size);have G:=Aa (DE _ _ k.length k w D A.o d.o (q.o.stay o) O_);have T:=Agf m.o f.o l;have a7:=Aa o.size;clear l B o f q d p m;rcases T with⟨q,rfl⟩|⟨x,Z,a0,a1,v,a2,a3,q,rfl,d⟩
 ·simp only[fZ,Value.tuple.injEq,kN,jA,Value.int.injEq,yG,yB]at q;obtain⟨rfl,rfl⟩:=q;go_wp2_with fail;refine G.o.mono ?_;rintro u M ⟨rfl,m,-⟩;have o:=Aa (A.o.trans m);clear m;go_wp2_with fail;refine(MZ a M).mono ?_;rintro u N ⟨rfl,rfl⟩;have B:=Aa (StQ.of_below n.o o.o);go_wp2_with (go_at_call 96;refine(BJ _ _).mono ?_;rintro e Y ⟨rfl,rfl⟩);go_ret;exact B.o
 ·simp only[fZ,Value.tuple.injEq,kN,jA,Value.int.injEq,yG,yB]at q;obtain⟨rfl,rfl⟩:=q;have p:=Aa d;clear d;go_wp2_with fail;refine G.o.mono ?_;rintro u M ⟨rfl,m,O⟩;have o:=Aa (A.o.trans m);have f:=Aa (p.o.keep m.size fun d l=>O d (p.o.new d l).2 fun y=>by
   have U:=(p.o.new d l).1;have V:=(R.o d y).2;omega)
  have H:=Aa (KI (x:=x) (y:=Z) (b':=a0) (F:=a1) (v:=v) (il:=a2) (V:=a3) (X:=j) (n.o.aside o.o fun d l=>l.imp id fun y=>⟨xI s.o.size (f.o.new d y).1,(f.o.new d y).2⟩) f.o.st f.o.tr f.o.rt f.o.row f.o.ris f.o.val f.o.len f.o.v16 f.o.nd (fun d l y=>by have U:=(f.o.new d l).1;have V:=(n.o.xs d y).2;have a8:=s.o.size;omega) O_);clear m O p;go_wp2_with fail;refine H.o.mono ?_;rintro u N p;have B:Hid (StQ a c g j w (R_ (.bool true)) N):=by obtain⟨y,b3,O⟩:=p.lw;exact⟨rfl,⟨y,_,O.mono O_ X_⟩,(o.o.mono (zX n.o.lt)).trans p.bel,fun d l=>(p.same d l).trans (o.o.block d (n.o.xs d l).2)⟩
  obtain rfl:=p.ret;clear p H;go_wp2_with (go_at_call 96;refine(BJ _ _).mono ?_;rintro e Y ⟨rfl,rfl⟩);go_ret;exact B.o
