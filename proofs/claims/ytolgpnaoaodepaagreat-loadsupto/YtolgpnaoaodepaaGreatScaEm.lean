import Derived.Test.YtolgpnaoaodepaaGreatScaIm
set_option maxHeartbeats 1000000
set_option maxRecDepth 4000
namespace Go.Proofs.YtolgpnaoaodepaaGreat
open Tr
namespace Tr
variable {i k:Key}{a g h:Nat}{P Q l u:List Plc}{p:Option Key}{s:List Ch}
structure Io(fr:Key)(D:Nat)(P P1:List Plc):Prop where
 inv:Rb fr D P1
 fits:size P1<=size P
 cn:cnt P1<=cnt P
 same:∀k,¬k<fr->left D P k=left D P1 k
theorem Io.start(h:Rb i a P):Io i a P P:=⟨h,X_,X_,fun _ _=>rfl⟩
theorem Ze(h:P.Perm Q):size P=size Q:=(h.map Plc.size).sum_nat
theorem Io.perm(h:Io i a P l)(b:l.Perm u):Io i a P u:=
 ⟨h.inv.perm b,by rw[<-Ze b];exact h.fits,by rw[<-QU b];exact h.cn,fun c d=>(h.same c d).trans (Yt b h.inv c)⟩
theorem Io.open'{y:Ai h}(b:Io i a P (.nd k g h p y::l))(f:Scd i (nodeCh h y) s):Io i a P (kidsFrom i g p h y++(lay g k p s++l))/\size (kidsFrom i g p h y++(lay g k p s++l))<size (.nd k g h p y::l):=by obtain⟨j,m,n⟩:=Aep b.inv f;exact⟨⟨j,by have:=b.fits;omega,xI (Ad1 f) b.cn,fun c d=>(b.same c d).trans (m c d)⟩,n⟩
theorem Io.take{G:Key}{H:Ch}(b:Io i a P (.ch g G p H s::l))(y:∀c∈l,¬c.less (.ch g G p H s))(z:Oq k H.2.1)(d:u.Perm (lay g G p s++l)):GD i k a P H u:=by
 obtain⟨j,q,r,t⟩:=Aeo b.inv y;have o:=b.inv.ok _ (xU ..);have f:=o.2.2 H (xU ..);have A:size (lay g G p s++l)<size (.ch g G p H s::l):=by rw[size_append,PO,Yv];show _<s.length+1+_;omega
 have B:cnt (lay g G p s++l)<cnt (.ch g G p H s::l):=by rw[Vd,WN,GB];show _<s.length+1+_;omega
 refine⟨j.perm d.symm,by rw[Ze d];have:=b.fits;omega,by rw[QU d];have:=b.cn;omega,f.2.2,f.1,z,?_,fun c m n=> ?_,fun c m n=> ?_⟩
 ·rw[b.same _ f.1,q,Yt d.symm j]
 ·rw[b.same c n,r c m,Yt d.symm j]
 ·rw[b.same c n,t c m]
theorem Io.stop{I:Plc}(c:Io i a P (I::l))(m:∀b∈l,¬b.less I)(d:¬Oq k I.key):GE i k a P:=fun f g j=>by
 rw[c.same f g];refine TZ c.inv m ?_;rcases j with b|b
 ·exact absurd (.inl b) d
 ·exact Kz b (fun f=>d (.inr f))
theorem Io.none(d:Io i a P []):GE i k a P:=fun b c _=>by rw[d.same b c];exact Xc fun _ _=>rfl
def Plc.wt:Plc->Nat
 | .inl ⟨_,_,h,_,t⟩=>Tr.wt h t
 | .inr ⟨_,_,_,_,_⟩=>1
def wtP(P:List Plc):Nat:=(P.map Plc.wt).sum
theorem Xr(a:Plc)(P:List Plc):wtP (a::P)=a.wt+wtP P:=by simp[wtP]
theorem Vf(P Q:List Plc):wtP (P++Q)=wtP P+wtP Q:=by simp[wtP]
theorem Ad2(h:P.Perm Q):wtP P=wtP Q:=(h.map Plc.wt).sum_nat
theorem WP(b:Nat)(c:Key)(d:Option Key)(a:List Ch):wtP (lay b c d a)<=a.length/\wtP (lay b c d a)<=1:=by cases a<;>simp[lay,wtP,Plc.wt]
theorem JY{a h:Nat}{p:Option Key}:∀(b:List (Key×Ai h)),wtP (Jw a b p)=wts b
 | []=>rfl
 | (f,t)::r=>by rw[Jw,Xr,JY r,Ey];rfl
theorem MR{i:Key}{a:Nat}:∀{P:List Plc},(∀p∈P,p.ok i a)->P.length<=wtP P
 | [],_=>Y_
 | p::P,h=>by
  have g:=MR fun b d=>h b (xZ _ d)
  have b:1<=p.wt:=by
   have:=h p (xU ..)
   cases p using Tr.Plc.two with
   | nd f L h' m t=>exact Yj this.2.2.1 this.1
   | ch L f m c cs=>exact Nat.le_refl _
  rw[Xr,xH];omega
theorem Ad3{y:Ai h}(f:(Plc.nd k g h p y).ok i a)(j:Scd i (nodeCh h y) s):wtP (kidsFrom i g p h y++(lay g k p s++l))<=wtP (.nd k g h p y::l):=by
 rw[Vf,Vf,Xr];have m:=WP g k p s;have n:=j.len;show _<=Tr.wt h y+_
 cases h with
 | zero=>
  have:=Yj f.2.2.1 f.1;show 0+_<=_;omega
 | succ h=>
  obtain⟨b,c⟩:=y;rw[kidsFrom,JY];have o:wts (b.drop (ix (b.map (·.1)) i))<=wts b:=by have:=zK (ix (b.map (·.1)) i) b;have d:=yW wts this;rw[Ex]at d;omega
  have d:(nodeCh (h+1) (b,c)).length=c.length:=rfl;show _<=2*c.length+wts b+((b.length-1)+(2-b.length))+_;omega
theorem QW{α β:Type}(j:α->β){k l:List β}(h:k.Perm l):∀d:List α,d.map j=k->∃f,d.Perm f/\f.map j=l:=by
 induction h with
 | nil=>intro d c;exact⟨d,vP _,c⟩
 | cons x _ ih=>
  intro d c
  cases d with
  | nil=>cases c
  | cons y r=>
   simp only[yD,jA]at c;obtain⟨f,g,i⟩:=ih r c.2;exact⟨y::f,g.cons y,by rw[yD,i,c.1]⟩
 | swap x y r=>
  intro d c
  match d,c with
  | a::b::r',c=>
   simp only[yD,jA]at c;exact⟨b::a::r',List.Perm.swap _ _ _,by rw[yD,yD,c.1,c.2.1,c.2.2]⟩
 | trans _ _ ih1 ih2=>
  intro d c;obtain⟨m,g,i⟩:=ih1 d c;obtain⟨n,o,p⟩:=ih2 m i;exact⟨n,g.trans o,p⟩
end Tr
open Go.RowKit
variable {a g t h:Nat}{d f:hJ}{v:Value}{K:Nat->ByteArray×Nat}{z:hF}{b k c W:World}{j:ByteArray×Nat}{q:Plc}{P C:List Plc}{m:List (Nat×Plc)}{r:Tr.Key}{n:Option Tr.Key}{B:Tr.Ai 0}{F:List Tr.Ch}
theorem WQ(K:Nat->ByteArray×Nat):Hp.Ord (ltK K):=by
 have g:∀d c,ltK K d c↔((K d).1.data.toList<(K c).1.data.toList\/(K d).1.data.toList=(K c).1.data.toList/\(K c).2<(K d).2):=fun d c=>by
  unfold ltK Sr;by_cases e:(K d).1.data.toList=(K c).1.data.toList
  ·rw[xD e,yL];exact⟨fun a=> .inr ⟨e,a⟩,fun a=>a.elim (fun f=>by rw[e]at f;exact absurd f (Tr.lt_ir _)) (·.2)⟩
  ·rw[xB e,yL];exact⟨.inl,fun a=>a.elim id (fun f=>absurd f.1 e)⟩
 constructor
 ·intro d c h b;rw[g]at h b;rcases h with h|⟨h,l⟩<;>rcases b with b|⟨b,m⟩
  ·exact Tr.lt_ir _ (Tr.Ei h b)
  ·rw[b]at h;exact Tr.lt_ir _ h
  ·rw[h]at b;exact Tr.lt_ir _ b
  ·omega
 ·intro d c k h b a;rw[g]at h b a;have i:¬(K c).1.data.toList<(K d).1.data.toList:=fun f=>h (.inl f)
  have j:¬(K k).1.data.toList<(K c).1.data.toList:=fun f=>b (.inl f)
  rcases a with a|⟨a,n⟩
  ·exact VX i j a
  ·have e:(K c).1.data.toList=(K d).1.data.toList:=Tr.tri _ _ i (by rw[<-a];exact j);exact h (.inr ⟨e,kH fun f=>b (.inr ⟨by rw[a,e],O_⟩)⟩)
theorem HpQ.congr{J:Nat->ByteArray×Nat}{w:World}(h:HpQ a d f v K z w)(g:∀b∈z,J b=K b):HpQ a d f v J z w:=by
 refine⟨h.sc,h.row,fun b c=>by rw[g b c];exact h.pl b c,fun b h0 c=> ?_⟩;have j:Hp.nth 0 z b∈z:=by rw[Hp.Eu 0 z c];exact yA c
 have i:(b-1) / 2<z.length:=O_;have k:Hp.nth 0 z ((b-1) / 2)∈z:=by rw[Hp.Eu 0 z i];exact yA i
 unfold ltK;rw[g _ j,g _ k];exact h.heap b h0 c
variable {A:hF}
def PlM(w0:World)(A:hF)(W:World)(b:Nat)(kv:ByteArray×Nat):Plc->Prop
 | .inl ⟨f,L,h,_,t⟩=>kv.1.data.toList=f/\kv.2=L/\∃p F,PlB W b kv.1 L (P_ p) Z_/\Rep h w0 p t F
 | .inr ⟨L,_,_,c,cs⟩=>kv.1.data.toList=c.2.1/\kv.2=L/\∃g o cap ml cur,PlB W b kv.1 L none (L_ (some (Q_ g o)) ml.length cap)/\Ac ml=c::cs/\W.heap[g]?=some (.cells cur 34 (0,0))/\(∀j u,(Cd ml)[j]?=some u->W.cell? (Q_ g (o+j))=some u)/\ml.length<=cap/\g∉A/\ml.length<=1000
theorem PlM.plb(h:PlM b A k a j q):(∃d ch,PlB k a j.1 j.2 d ch)/\j.1.data.toList=q.key/\j.2=q.lv:=by
 cases q using Tr.Plc.two with
 | nd f L h' m t=>obtain⟨g,d,q,n,i,l⟩:=h;exact⟨⟨_,_,by rw[d];exact i⟩,g,d⟩
 | ch L f m c cs=>obtain⟨g,d,o,p,r,s,u,i,l⟩:=h;exact⟨⟨_,_,by rw[d];exact i⟩,g,d⟩
theorem PlM.keep{W':World}{S:hJ}(h:PlM b A k a j q)(l:ScB k g d S v)(D:Ea 0 k v z)(F:∀i,i<k.heap.size->i≠g->v.ownBlock≠some i->W'.heap[i]?=k.heap[i]?):PlM b A W' a j q:=by
 have u:∀o n,k.heap[a]?=some (.cells o n (0,0))->n=139->W'.heap[a]?=k.heap[a]?:=fun o n n p=>by subst p;refine F a (xS.1 n).1 (fun e=> ?_) (Eo n D Do);subst e;unfold ScB at l;rw[n]at l;simp at l
 cases q using Tr.Plc.two with
 | nd f L h' m t=>
  obtain⟨p,r,q,G,n,s⟩:=h;exact⟨p,r,q,G,(u _ _ n rfl).trans n,s⟩
 | ch L f m c o=>
  obtain⟨p,r,i,B,H,I,J,n,s,o,M,N⟩:=h;have y:W'.heap[i]?=k.heap[i]?:=by refine F i (xS.1 o).1 (fun e=> ?_) (Eo o D Do);subst e;unfold ScB at l;rw[o]at l;simp at l
  exact⟨p,r,i,B,H,I,J,(u _ _ n rfl).trans n,s,y.trans o,fun C O R=>(kK (w:=k) (a:=(Q_ i (B+C))) y).trans (M C O R),N⟩
theorem Af2{L:Plc}(l:PlM b A c a (K a) q)(m:PlM b A c g (K g) L):q.less L↔ltK K a g:=by
 obtain⟨-,f,i⟩:=l.plb;obtain⟨-,j,k⟩:=m.plb;unfold Plc.less ltK Sr;rw[<-f,<-j,<-i,<-k];by_cases e:(K a).1.data.toList=(K g).1.data.toList
 ·rw[xD e,yL];exact⟨fun L=>L.elim (fun d=>by rw[e]at d;exact absurd d (Tr.lt_ir _)) (·.2),fun L=> .inr ⟨e,L⟩⟩
 ·rw[xB e,yL];exact⟨fun L=>L.elim id (fun d=>absurd d.1 e),.inl⟩
structure ScW(w0:World)(A:hF)(sb:Nat)(fr ub:hJ)(P:List Plc)(v:Value)(K:Nat->ByteArray×Nat)(L:List (Nat×Plc))(W:World):Prop where
 hp:HpQ sb fr ub v K (L.map (·.1)) W
 pm:(L.map (·.2)).Perm P
 pl:∀x∈L,PlM w0 A W x.1 (K x.1) x.2
 bel:Below w0.heap.size w0 W
 sbn:w0.heap.size<=sb
 vn:∀g,v.ownBlock=some g->w0.heap.size<=g
def ScM(w0:World)(A:hF)(sb:Nat)(fr ub:hJ)(P:List Plc)(W:World):Prop:=∃v K L,ScW w0 A sb fr ub P v K L W
theorem ScW.below(h:ScW b A a d f P v K m W)(g:Below W.heap.size W c):ScW b A a d f P v K m c:=by refine⟨⟨(g.block a h.hp.sc.lt).trans h.hp.sc,Ae h.hp.row g X_,fun j n=>by obtain⟨k,l,i⟩:=h.hp.pl j n;exact⟨k,l,(g.block j i.lt).trans i⟩,h.hp.heap⟩,h.pm,fun x j=>(h.pl x j).keep h.hp.sc h.hp.row fun j n _ _=>g.block j n,h.bel.trans (g.mono h.bel.size),h.sbn,h.vn⟩
variable {A:hF}
def Frm(sb:Nat)(W W':World):Prop:=W.heap.size<=W'.heap.size/\∀g cs T,W.heap[g]?=some (.cells cs T (0,0))->T≠137->g≠sb->W'.heap[g]?=some (.cells cs T (0,0))
theorem Frm.trans{A:World}(k:Frm a b c)(l:Frm a c A):Frm a b A:=⟨xI k.1 l.1,fun d f g m i j=>l.2 d f g (k.2 d f g m i j) i j⟩
theorem Frm.below(h:Below W.heap.size W b):Frm a W b:=⟨h.size,fun d _ _ c _ _=>(h.block d (xS.1 c).1).trans c⟩
theorem PlM.frm{i o:World}{R:hJ}(h:PlM b A i a j q)(k:ScB i g d R v)(F:Frm g i o):PlM b A o a j q:=by
 have y:∀l n,i.heap[a]?=some (.cells l n (0,0))->n=139->o.heap[a]?=some (.cells l n (0,0)):=fun l n n p=>by subst p;refine F.2 a l _ n Do (fun e=> ?_);subst e;unfold ScB at k;rw[n]at k;simp at k
 cases q using Tr.Plc.two with
 | nd f L h' m t=>
  obtain⟨p,r,q,G,s,u⟩:=h;exact⟨p,r,q,G,y _ _ s rfl,u⟩
 | ch L f m c l=>
  obtain⟨p,r,l,B,H,I,C,s,u,n,J,M⟩:=h;have z:o.heap[l]?=i.heap[l]?:=(F.2 l C _ n Do (fun e=>by subst e;unfold ScB at k;rw[n]at k;simp at k)).trans n.symm;exact⟨p,r,l,B,H,I,C,y _ _ s rfl,u,z.trans n,fun D N O=>(kK (w:=i) (a:=(Q_ l (B+D))) z).trans (J D N O),M⟩
theorem WR(h:ScW c A a d f P v K m k){b:Nat}{kv:ByteArray×Nat}{p:Plc}(N:b∉m.map (·.1))(B:PlM c A k b kv p)(O:m.length<=20000000):
  Calls Tryz.prog 186 #[.iface 193 (.pointer (some (Q_ a 2))),.iface 137 (A_ b)] k fun y n=>y=R_ (.tuple #[])/\ScM c A a d f (p::P) n/\Frm a k n:=by
 have r:∀x∈m.map (·.1),(fun g=>if g=b then kv else K g) x=K x:=fun x o=>xB fun e=>N (by rw[<-e];exact o)
 have C:=h.hp.congr r;obtain⟨⟨s,t,F⟩,-,-⟩:=B.plb;refine(ZU a d f v _ (m.map (·.1)) b k C ⟨s,t,by show PlB k b (if b=b then kv else K b).1 (if b=b then kv else K b).2 s t;rw[xD rfl];exact F⟩ (by rw[xP];exact O) (WQ _)).mono ?_;rintro y n ⟨rfl,R,I,J,L,M,l⟩;obtain⟨G,u,H⟩:=QW (·.1) J.symm ((b,p)::m) rfl;subst H;refine⟨rfl,⟨I,_,G,L,(u.symm.map _).trans ?_,fun x o=> ?_,h.bel.trans (l.below h.bel.size fun z i=>i.elim (fun e=>by rw[e];exact h.sbn) (h.vn z)),h.sbn,fun j g=> ?_⟩,⟨l.size,fun j q q g q D=>(l.block j (xS.1 g).1 (fun i=>i.elim D (Eo g h.hp.row (fun e=>q e.symm)))).trans g⟩⟩
 ·exact(List.Perm.cons p h.pm)
 ·have D:=u.mem_iff.2 o;rcases xG.1 D with e|e
  ·subst e;show PlM c A n b (if b=b then kv else K b) p;rw[xD rfl];exact B.keep h.hp.sc h.hp.row fun j g o q=>l.block j g (fun i=>i.elim o q)
  ·have this:(if x.1=b then kv else K x.1)=K x.1:=r x.1 (xL.2 ⟨x,e,rfl⟩);rw[this];exact(h.pl x e).keep h.hp.sc h.hp.row fun j g o q=>l.block j g (fun i=>i.elim o q)
 ·rcases M with e|⟨z,i,e⟩
  ·rw[e]at g;exact h.vn j g
  ·rw[e]at g;have:=xM g;have:=h.bel.size;omega
theorem Ag6(h:ScW b A a d f P v K m c)(R:0<m.length)(T:m.length<=20000000):
  Calls Tryz.prog 131 #[.iface 193 (.pointer (some (Q_ a 2)))] c fun B j=>∃k g i s l,B=R_ (.iface 137 (A_ k))/\P.Perm (g::i)/\(∀C∈i,¬C.less g)/\ScW b A a d f i s K l j/\PlM b A j k (K k) g/\Frm a c j:=by
 refine(Ad0 a d f v K (m.map (·.1)) c h.hp (by rw[xP];exact R) (by rw[xP];omega) (WQ K)).mono ?_;rintro B j ⟨k,S,s,rfl,G,H,I,J,t,o,L,M,N⟩;obtain⟨F,z,q⟩:=QW (·.1) G m rfl
 cases F with
 | nil=>cases q
 | cons y l=>
  simp only[yD,jA]at q;obtain⟨p,rfl⟩:=q;obtain⟨r,g⟩:=y;have p:r=k:=p;subst p;have n:∀x∈(r,g)::l,PlM b A j x.1 (K x.1) x.2:=fun x i=>(h.pl x (z.mem_iff.2 i)).keep h.hp.sc h.hp.row t
  have D:Below b.heap.size c j:=⟨L,M,N,o,fun u O=>t u (yF O h.bel.size) (fun e=>by have:=h.sbn;omega) (fun e=>by have:=h.vn u e;omega)⟩;refine⟨r,g,l.map (·.2),s,l,rfl,h.pm.symm.trans (z.map _),fun C C=> ?_,⟨I,vP _,fun x i=>n x (xZ _ i),h.bel.trans D,h.sbn,fun u l=>h.vn u (by rw[<-J];exact l)⟩,n _ (xU ..),⟨o,fun u O O l O o=>(t u (xS.1 l).1 o (Eo l h.hp.row (fun e=>O e.symm))).trans l⟩⟩;obtain⟨x,i,rfl⟩:=xL.1 C;rw[Af2 (n x (xZ _ i)) (n _ (xU ..))];exact H x.1 (xL.2 ⟨x,i,rfl⟩)
theorem ScW.len(h:ScW b A a d f P v K m c):m.length=P.length:=by have:=h.pm.length_eq;rw[xP]at this;exact this
theorem ScW.lt{b:World}{a:Nat}{d f:hJ}{P:List Plc}{v:Value}{K:Nat->ByteArray×Nat}{m:List (Nat×Plc)}{c:World}(h:ScW b A a d f P v K m c):∀g∈m.map (·.1),g<c.heap.size:=fun g j=>by obtain⟨k,l,i⟩:=h.hp.pl g j;exact i.lt
def Ag7(A:hF)(W:World)(v:Value)(ml:gZ):Prop:=(ml=[]/\∃a c,v=L_ a 0 c)\/(ml≠[]/\∃g o cap cur,v=L_ (some (Q_ g o)) ml.length cap/\ml.length<=cap/\W.heap[g]?=some (.cells cur 34 (0,0))/\g∉A/\∀j u,(Cd ml)[j]?=some u->W.cell? (Q_ g (o+j))=some u)
theorem QX(h:ScM b A a d f P c)(k:Nat)(F:Tr.Key)(G:Option Tr.Key)(v:Value)(p:gZ)(R:Ag7 A c v p)(X:P.length<=18000000)(S:p.length<=1000):
  Calls Tryz.prog 132 #[A_ a,J_ (k:Nat),v] c fun C g=>C=R_ (.tuple #[])/\ScM b A a d f (lay k F G (Ac p)++P) g/\Frm a c g:=by
 rcases R with⟨rfl,W,m,rfl⟩|⟨J,j,l,n,L,rfl,M,o,N,t⟩
 ·have H:=Aa h;go_in;go_wp2_with fail;go_end0;exact⟨rfl,H.o,X_,fun _ _ _ o _ _=>o⟩
 ·obtain⟨m,g,rfl⟩:∃m g,p=m::g:=by cases p with
   | nil=>exact absurd rfl J
   | cons m g=>exact⟨m,g,rfl⟩
  obtain⟨z,i,B⟩:=m;obtain⟨U,K,V,r⟩:=h;have T:c.cell? (Q_ j (l+1))=some (B_ i):=t 1 _ rfl;have u:Below c.heap.size c (c.alloc (C_ #[B_ i,J_ (k:Nat),.pointer none,L_ (some (Q_ j l)) (g.length+1) n] 139)):=(xA _ c).alloc X_ _;have q:Below c.heap.size c (c.alloc (C_ #[B_ i,J_ (k:Nat),.pointer none,L_ (some (Q_ j l)) (g.length+1) n] 139)).drew:=u.drew;have s:=q.block j (xS.1 o).1;have y:PlM b A (c.alloc (C_ #[B_ i,J_ (k:Nat),.pointer none,L_ (some (Q_ j l)) (g.length+1) n] 139)).drew c.heap.size (i,k) (.ch k F G (z,i.data.toList,B.data.toList) (Ac g)):=
   ⟨rfl,rfl,j,l,n,(z,i,B)::g,L,xK _ _,rfl,s.trans o,fun D I O=>(kK (w:=c) (a:=(Q_ j (l+D))) s).trans (t D I O),M,N,S⟩
  have D:=Aa (WR (r.below q) (b:=c.heap.size) (fun I=>by have:=r.lt _ I;omega) y (by rw[r.len];omega));have O:(0:Int)<(g.length:Int)+1:=O_;have I:Hid (Frm a c (c.alloc (C_ #[B_ i,J_ (k:Nat),.pointer none,L_ (some (Q_ j l)) (g.length+1) n] 139)).drew):=Frm.below q;clear r y u q s t o;go_in;go_upto_region 1 with fail
  go_region_law (go_simp;go_at_call 186;refine D.o.mono ?_;rintro C u ⟨rfl,q,r⟩;have s:=Aa q;have t:=Aa (I.o.trans r);clear q r)
  all_goals
   go_wp2_with fail;go_end0;exact⟨rfl,s.o,t.o⟩
variable {A:hF}
theorem ScM.perm(h:ScM b A a d f P c)(j:P.Perm C):ScM b A a d f C c:=by obtain⟨v,K,i,g⟩:=h;exact⟨v,K,i,g.hp,g.pm.trans j,g.pl,g.bel,g.sbn,g.vn⟩
theorem ScM.below(h:ScM b A a d f P W)(j:Below W.heap.size W c):ScM b A a d f P c:=by obtain⟨v,K,g,i⟩:=h;exact⟨v,K,g,i.below j⟩
theorem ScM.bel(h:ScM b A a d f P c):Below b.heap.size b c:=by obtain⟨v,K,i,g⟩:=h;exact g.bel
theorem ScM.sc(h:ScM b A a d f P c):∃v,ScB c a d f v:=by obtain⟨v,K,i,g⟩:=h;exact⟨v,g.hp.sc⟩
theorem Ag8{M:gZ}(h:Bb a b v M)(p:∀c∈A,c<a):Ag7 A b v M:=by
 cases M with
 | nil=>obtain⟨c,f,e⟩:=Ad h;exact .inl ⟨rfl,c,f,e⟩
 | cons f r=>
  rcases h.2 with⟨_,g⟩|⟨d,i,j,e,q,k,l,s,t,u⟩
  ·simp at g
  ·refine .inr ⟨D_,d,0,i,j,e,l,k,fun m=>by have:=p d m;omega,fun m n o=> ?_⟩;have:=zD h (g:=d) (by rw[e];rfl) m n o;rw[Gv]at this;simpa using this
theorem JZ(h:ScM b A a d f P c){N O S:Value}{il:gY}{ml:gZ}(p:Ax b g N O S)(B:Ap 0 b N il)(C:Bb 0 b S ml)(D:il.length+ml.length<=19)(n:Nat)(q:Tr.Key)(r:Option Tr.Key)(F:P.length<=18000000)(G:∀i∈A,i<c.heap.size):
  Calls Tryz.prog 187 #[A_ g,B_ d] c fun i k=>∃v,i=R_ v/\Below c.heap.size c k/\Calls Tryz.prog 132 #[A_ a,J_ (n:Nat),v] k fun i m=>i=R_ (.tuple #[])/\∃j,Scd d.data.toList (Ac (il.map Nr++ml)) j/\ScM b A a d f (lay n q r j++P) m/\Frm a c m:=by
 have j:=h.bel;refine(BF g N O S il ml d c ((j.block g p.lt).trans p) (Ae B j X_) (Ae C j X_) D).mono ?_;rintro i k ⟨v,t,rfl,u,o,l⟩;refine⟨v,rfl,l,?_⟩;have s:=o.len;rw[Bd,Bd,xC,xP]at s;refine(QX (h.below l) n q r v t (Ag8 u G) F O_).mono ?_;rintro i m ⟨rfl,y,z⟩;exact⟨rfl,_,o,y,(Frm.below l).trans z⟩
theorem Af3(h:PlM b A c g j (.nd r t 0 n B))(p:Tr.Top 0 B):∃f i d,PlB c g j.1 t (P_ f) Z_/\Ax b f i Z_ Z_/\Ap 0 b i d/\Ac (d.map Nr++[])=nodeCh 0 B/\d.length<=16:=by obtain⟨q,s,f,u,k,l⟩:=h;obtain⟨i,d,m,o,rfl,rfl⟩:=l;refine⟨f,i,d,k,m,o,?_,by rw[<-Cv d];exact p⟩;rw[yC];show(d.map Nr).map _=(Ab d).map _;unfold Ab;rw[zW,zW];rfl
theorem UP(h:ScM b A a d f C c)(N:PlM b A c g j (.nd r t 0 n B))(O:Tr.Top 0 B)(c8:C.length<=16000000)(b0:∀G∈A,G<c.heap.size):
  Calls Tryz.prog 133 #[A_ a,A_ g] c fun k i=>k=R_ (.tuple #[])/\∃l,Scd d.data.toList (nodeCh 0 B) l/\ScM b A a d f (kidsFrom d.data.toList t n 0 B++(lay t r n l++C)) i/\Frm a c i:=by
 obtain⟨m,q,b3,s,o,I,J,b4⟩:=Af3 N O;have H:=h.bel;have p:Ax c m q Z_ Z_:=(H.block m o.lt).trans o;obtain⟨b5,b6,b7,-⟩:=p.cells;obtain⟨b8,Z,b9,c0⟩:=s.cells;obtain⟨c1,u⟩:=h.sc;obtain⟨a0,c2,c3,c4⟩:=u.cells;have R:Hid (∀i,Ax i m q Z_ Z_->Calls Tryz.prog 77 #[A_ m,B_ d] i fun k a6=>k=R_ (J_ 0)/\a6=i):=fun i a7=>Mq m 0 q Z_ Z_ [] d i a7 (yP _ _ _ _) D_
 have S:=Aa p;have T:Hid (∀i,Below c.heap.size c i->Calls Tryz.prog 187 #[A_ m,B_ d] i fun k y=>∃v,k=R_ v/\Below i.heap.size i y/\Calls Tryz.prog 132 #[A_ a,J_ (t:Nat),v] y fun k z=>k=R_ (.tuple #[])/\∃l,Scd d.data.toList (nodeCh 0 B) l/\ScM b A a d f (lay t r n l++C) z/\Frm a c z):=fun i F=>by refine(JZ (ml:=[]) (h.below F) o I (yP _ _ _ _) K_ t r n O_ (fun G a8=>yF (b0 G a8) F.size)).mono ?_;rintro k y ⟨v,rfl,a1,a2⟩;refine⟨v,rfl,a1,a2.mono ?_⟩;rintro k z ⟨rfl,l,a3,a4,a5⟩;exact⟨rfl,l,by rw[<-J];exact a3,a4,(Frm.below F).trans a5⟩
 have U:=s.lt;have V:=u.lt;clear h N O o I p u s J H;go_in;go_upto_region 1 with fail;go_quiet (exact dD (R.o _ S.o));go_wp2_with fail
 go_loopw [23] (fun a9 wr=>a9=J_ 0/\wr=c.drewN nq) (fun _ _=>0)
 case atStart=>exact⟨rfl,rfl⟩
 case round=>
  obtain⟨rfl,rfl⟩:=hrel;go_upto_region 6 with fail;have W:=Aa (T.o (c.drewN nq).drew ((Ao (xA _ c) nq).drew))
  go_region_law (first
   | (go_simp;go_at_call 187;refine W.o.mono ?_;rintro k c5 ⟨c6,rfl,D,L⟩;have X:=Aa L;have b1:=(D.cell (p:=(Q_ g 1)) U).trans Z;have b2:=(D.cell (p:=(Q_ a 0)) V).trans a0;clear D L)
   | (go_simp;go_at_call 132;refine X.o.mono ?_;rintro k c7 ⟨rfl,M⟩;have Y:=Aa M;clear M))
  all_goals
   go_wp2_with fail;go_end0;exact⟨rfl,Y.o⟩
variable {A:hF}
theorem ZV{D:List (Tr.Key×Tr.Ai h)}(y:PlM b A c a j (.nd r g (h+1) n (Tr.brT D F))):∃d f i k l m,PlB c a j.1 g (P_ d) Z_/\Ax b d Z_ f i/\Bf 0 b f k/\Bb 0 b i l/\Ac l=F/\Db (Rep h b) k D m:=by obtain⟨z,B,d,C,o,p⟩:=y;obtain⟨f,i,k,l,m,q,s,t,e,u,-⟩:=p;exact⟨d,f,i,k,l,m,o,q,s,t,e,u⟩
theorem Db.drop{α:Type}{T:Nat->α->hF->Prop}:∀(n:Nat) {a:hA} {b:List (Tr.Key×α)} {c:hF},Db T a b c->∃c,Db T (a.drop n) (b.drop n) c
 | 0,_,_,_,h=>⟨_,h⟩
 | _+1,[],[],_,_=>⟨[],rfl⟩
 | n+1,_::_,_::_,_,⟨_,_,_,_,h,_⟩=>Db.drop n h
 | _+1,[],_::_,_,h=>h.elim
 | _+1,_::_,[],_,h=>h.elim
theorem QY{b:World}{h L:Nat}{hi:Option Tr.Key}:∀{a:hA} {i:List (Tr.Key×Tr.Ai h)} {c:hF},Db (Rep h b) a i c->∀(c:Nat) (d:c<a.length),∃f j g k,(Jw L i hi)[c]?=some (.nd f L h j g)/\(a[c]'d).1.data.toList=f/\Rep h b (a[c]'d).2 g k
 | x::a,(f,g)::i,_,⟨e,G1,G2,h1,h2,_⟩,0,_=>⟨f,_,g,G1,rfl,e,h1⟩
 | x::a,(f,g)::i,_,⟨e,G1,G2,h1,h2,_⟩,c+1,d=>QY h2 c (by simpa using d)
 | [],_,_,_,_,d=>by simp at d
theorem KA{h a:Nat}{n:Option Tr.Key}:∀(b:List (Tr.Key×Tr.Ai h)),(Jw a b n).length=b.length
 | []=>rfl
 | (f,t)::r=>by rw[Jw,xH,xH,KA r]
theorem Ad4{α:Type}(Q b:List α){U:α}(h:Q[a]?=some U):(Q.take (a+1)).reverse++b=U::((Q.take a).reverse++b):=by rw[zN,h];simp
theorem UQ(X:ScM b A a d f C c){D:List (Tr.Key×Tr.Ai h)}(b6:PlM b A c g j (.nd r t (h+1) n (Tr.brT D F)))(i7:D.length<=4/\F.length<=8)(i8:0<D.length)(m5:C.length<=16000000)(m6:t<=20000000000000)(u:∀b4∈A,b4<c.heap.size):
  Calls Tryz.prog 133 #[A_ a,A_ g] c fun p q=>p=R_ (.tuple #[])/\∃H,Scd d.data.toList F H/\ScM b A a d f (Jw (t+1) (D.drop (Tr.ix (D.map (·.1)) d.data.toList)) n++(lay t r n H++C)) q/\Frm a c q:=by
 obtain⟨y,c5,c6,l,c7,k0,c8,M,N,c9,a3,O⟩:=ZV b6;have Y:=X.bel;have b7:=O.keys;have I:=O.len;have Z:Ax c y Z_ c5 c6:=(Y.block y M.lt).trans M;have b8:Bf 0 c c5 l:=Ae N Y X_;obtain⟨i,R⟩:∃i,i=Tr.ix (Cp l) d.data.toList:=⟨_,rfl⟩;have e4:i<l.length:=by rw[R];have:=WB (Cp l) d.data.toList (by intro G;unfold Cp at G;rw[bI]at G;rw[G]at I;simp at I;omega);simpa[Cp]using this
 rw[<-b7,<-R];obtain⟨k1,d0⟩:=O.drop i;obtain⟨S,d1,rfl,k2,-,a4,-,-⟩:=N.at i e4;have e5:Hid (∀k (s:i+k<l.length),b.cell? (Q_ S (i*2+k*2))=some (B_ (l[i+k]'s).1)/\b.cell? (Q_ S (i*2+k*2+1))=some (A_ ((l[i+k]'s).2))):=fun k s=>by obtain⟨k3,k4,e,-,-,-,z,B⟩:=N.at (i+k) s;simp only[xJ,xX,yT,yG,yB]at e;obtain⟨rfl,-⟩:=e;rw[show(i+k)*2=i*2+k*2 by omega]at z B;exact⟨z,B⟩
 have e6:Hid (∀k (s:i+k<l.length),∃T b0 U b1,(Jw (t+1) (D.drop i) n)[k]?=some (.nd T (t+1) h b0 U)/\(l[i+k]'s).1.data.toList=T/\Rep h b (l[i+k]'s).2 U b1):=fun k s=>by have:=QY (L:=t+1) (hi:=n) d0 k (by rw[xY];omega);simpa only[List.getElem_drop]using this
 have b9:Hid ((Jw (t+1) (D.drop i) n).length=l.length-i):=by show _=_;rw[KA,xY,I]
 obtain⟨g8,g9,h1,-⟩:=Z.cells;obtain⟨h2,h3,h4,h5⟩:=c8.cells;obtain⟨k5,a5⟩:=X.sc;obtain⟨h6,h7,h8,h9⟩:=a5.cells;have e7:Hid (∀W,Calls Tryz.prog 77 #[A_ y,B_ d] (c.drewN W) fun p i3=>p=R_ (J_ (i:Nat))/\i3=c.drewN W):=fun W=>by have:=Mq y 0 _ _ c6 l d (c.drewN W) Z b8 O_;rw[<-R]at this;exact this
 have e8:Hid (∀P q,ScM b A a d f P q->c.heap.size<=q.heap.size->P.length<=18000000->Calls Tryz.prog 187 #[A_ y,B_ d] q fun p e2=>∃v,p=R_ v/\Below q.heap.size q e2/\Calls Tryz.prog 132 #[A_ a,J_ (t:Nat),v] e2 fun p e3=>p=R_ (.tuple #[])/\∃H,Scd d.data.toList F H/\ScM b A a d f (lay t r n H++P) e3/\Frm a q e3):=fun P q i4 i5 c1=>by have:=JZ (il:=[]) i4 M (yP _ _ _ _) c9 (by rw[<-Bd c7,a3];simp;omega) t r n c1 (fun b4 i6=>yF (u b4 i6) i5);rw[show Ac (([]:gY).map Nr++c7)=F from a3]at this;exact this
 have e9:=Aa X;have f0:=Aa b6;have f1:=Aa a5;have i9:=Aa a4;have j0:i<=l.length:=O_;have j1:¬d1=i:=O_;have j2:i<=d1:=O_;have j3:l.length<=4:=O_;have j4:IntKind.i64.wrap ((t:Int)+1)=(t:Int)+1:=by rw[yZ];omega
 clear X b6 c8 M N c9 a3 O Z b8 d0 a5 Y R b7 I i8 i7;generalize m4:Jw (t+1) (D.drop i) n=Q at*;go_in;go_upto_region 1 with fail;go_quiet (exact dD (e7.o _));go_wp2_with fail
 go_loopw [23] (fun b5 wr=>∃k:Nat,b5=J_ (k:Nat)/\k<=l.length-i/\ScM b A a d f ((Q.take k).reverse++C) wr/\Frm a c wr) (fun b5 _=>l.length-i-(intOf b5).toNat)
 case atStart=>exact⟨0,rfl,Y_,e9.o.below (Ao (xA _ c) nq),Frm.below (Ao (xA _ c) nq)⟩
 case round=>
  obtain⟨k,rfl,s,a6,a7⟩:=hrel;have J:=Aa a6;have a0:=Aa a7;have f2:=f0.o.frm f1.o a7;obtain⟨k6,k7,k8,k9,a8,i0⟩:=f2;obtain⟨l0,d2,l1,l2⟩:=a8.cells;obtain⟨l3,a9⟩:=a6.sc;obtain⟨i1,l4,l5,l6⟩:=a9.cells;have c0:=a8.lt;have f3:=a9.lt;have c1:((Q.take k).reverse++C).length<=18000000:=by rw[xC,List.length_reverse,xR];omega
  clear a6 a7 a8 i0 a9 h2 h3 h4 h5 h6 h7 h8 h9 g8 g9 h1;by_cases m3:k<l.length-i
  ·have a1:i+k<l.length:=O_;obtain⟨z,B⟩:=e5.o k a1;have j5:=(J.o.bel.cell (p:=(Q_ S (i*2+k*2))) a4).trans z;have j6:=(J.o.bel.cell (p:=(Q_ S (i*2+k*2+1))) a4).trans B;obtain⟨T,b0,U,b1,d3,d4,d5⟩:=e6.o k a1;have f4:=Aa d3;have c2:=Aa d4;have c3:=Aa d5;clear z B d3 d4 d5;generalize l[i+k]'a1=x at*;obtain⟨m,o⟩:=x;have L:Below wr.heap.size wr (wr.alloc (C_ #[B_ m,A_ o] 132)):=(xA _ wr).alloc X_ _;have u:(wr.alloc (C_ #[B_ m,A_ o] 132)).heap[wr.heap.size]?=some (C_ #[B_ m,A_ o] 132 (0,0)):=xK _ _;have j7:(wr.alloc (C_ #[B_ m,A_ o] 132)).cell? (Q_ wr.heap.size 0)=some (B_ m):=Xi u 0;have j8:(wr.alloc (C_ #[B_ m,A_ o] 132)).cell? (Q_ wr.heap.size 1)=some (A_ o):=Xi u 1;have j9:=(L.cell (p:=(Q_ g 1)) c0).trans d2;have f5:(wr.alloc (C_ #[B_ m,A_ o] 132)).heap.size=wr.heap.size+1:=D_;have a2:Below wr.heap.size wr ((wr.alloc (C_ #[B_ m,A_ o] 132)).alloc (C_ #[B_ m,J_ ((t:Int)+1),A_ o,Z_] 139)).drew:=(L.alloc L.size _).drew;have c4:PlB ((wr.alloc (C_ #[B_ m,A_ o] 132)).alloc (C_ #[B_ m,J_ ((t:Int)+1),A_ o,Z_] 139)).drew (wr.heap.size+1) m (t+1) (P_ o) Z_:=by
    have:=xK (wr.alloc (C_ #[B_ m,A_ o] 132)) (C_ #[B_ m,J_ ((t:Int)+1),A_ o,Z_] 139);rw[f5]at this;exact this
   obtain⟨l7,l8,l9,V⟩:=J.o;have f6:=Aa (WR (V.below a2) (b:=wr.heap.size+1) (kv:=(m,t+1)) (p:=.nd T (t+1) h b0 U) (fun G=>by have:=V.lt _ G;omega) ⟨c2.o,rfl,o,b1,c4,c3.o⟩ (by rw[V.len];omega));have f7:Hid (Frm a wr ((wr.alloc (C_ #[B_ m,A_ o] 132)).alloc (C_ #[B_ m,J_ ((t:Int)+1),A_ o,Z_] 139)).drew):=Frm.below a2;clear u L a2 c4 V c3 c2;go_upto_region 4 with fail
   go_region_law (go_simp;go_at_call 186;refine f6.o.mono ?_;rintro p m0 ⟨rfl,d6,d7⟩;have f8:=Aa d6;have f9:=Aa (a0.o.trans (f7.o.trans d7));clear d6 d7)
   all_goals
    go_wp2_with fail;exact⟨⟨k+1,W_,O_,by rw[Ad4 Q C f4.o];exact f8.o,f9.o⟩,by simp[intOf];omega⟩
  ·have g0:k=l.length-i:=O_;subst g0;have g1:Hid (ScM b A a d f (Q.reverse++C) wr):=by
    have:=J.o;rw[yY (by rw[b9.o];exact Nat.le_refl _)]at this;exact this
   have g2:=Aa (e8.o _ wr.drew (g1.o.below ((xA _ wr).drew)) a0.o.1 (by rw[xC,List.length_reverse,b9.o];omega));go_upto_region 6 with fail
   go_region_law (first
    | (go_simp;go_at_call 187;refine g2.o.mono ?_;rintro p m1 ⟨m2,rfl,b2,d8⟩;have g3:=Aa d8;have u1:=(b2.cell (p:=(Q_ g 1)) c0).trans d2;have u0:=(b2.cell (p:=(Q_ a 0)) f3).trans i1;clear b2 d8)
    | (go_simp;go_at_call 132;refine g3.o.mono ?_;rintro p i2 ⟨rfl,b3,d9,e0,e1⟩;have g4:=Aa d9;have g5:=Aa e0;have g6:Hid (Frm a c i2):=a0.o.trans (Frm.trans (Frm.below (W:=wr) ((xA _ wr).drew)) e1);clear d9 e0 e1))
   all_goals
    go_wp2_with fail;go_end0;refine⟨rfl,b3,g4.o,g5.o.perm ?_,g6.o⟩;have g7:(lay t r n b3++(Q.reverse++C)).Perm (Q.reverse++(lay t r n b3++C)):=(by rw[<-xT,<-xT];exact(qD).append_right C);exact g7.trans ((List.reverse_perm Q).append_right _)
