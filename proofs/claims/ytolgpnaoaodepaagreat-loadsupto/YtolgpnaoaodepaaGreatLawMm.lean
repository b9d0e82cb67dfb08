import Derived.Test.YtolgpnaoaodepaaGreatLawHm
set_option maxHeartbeats 1000000
set_option maxRecDepth 100000
namespace Go.Proofs.YtolgpnaoaodepaaGreat
open Go.RowKit
variable {j:Array Oper}{k:Oper}{l:Act}{Q:Exit->Act->World->Prop}
theorem Src.below{b:Nat}{w s:World}{v:Value}{r:Nat}{t:hH}(h:Src b w v r t)(g:Below w.heap.size w s):Src b s v r t:=by obtain⟨i,j,rfl,k,l⟩:=h;refine⟨i,j,rfl,k,l.imp_right fun⟨a,c,e,d,m⟩=>⟨a,c,e,yF d g.size,fun f n o=> ?_⟩⟩;exact(g.cell (p:=(Q_ a (c+f))) d).trans (m f n o)
section
variable {P:Program}
theorem HB(w:World)(r H I k:TypeId)(l d m J:Nat)(v:Value)(f:Nat)(g:Array Value)(n:TypeId)(a:hH)(o:P.underlying r=some (.slice k))(s:(P.info? k).map (·.size)=some l)(t:w.heap[d]?=some (.cells g n (0,0)))(L:f<=m)(M:Src l w v f a)(N:a.length<=g.size)(O:∀v∈a,v.oneCell'=true):
  (Builtin.copy_ #[r,H] I #[.slice (some ⟨d,0,none⟩) m J,v]).run P w=.ok (goInt f) (w.setRow d (a++g.toList.drop a.length).toArray):=by
 obtain⟨A,R,rfl,B,C⟩:=M;have u:Nat.min f m=f:=jL L;have y:=aP P d 0 n a 0 g w t (by simpa using N) O
 cases c:P.info? k with
 | none=>simp[c]at s
 | some i=>
  have z:i.size=l:=by simpa[c]using s
  rcases C with rfl|⟨D,F,rfl,S,G⟩
  ·obtain rfl:a=[]:=zT O_;have e:=setRow_self w d g n (0,0) t
   cases A with
   | none=>simp[Builtin.copy_,kG o,Builtin.lenOf,Builtin.firstCells,sizeOf,typeInfo,c,storeCells,e]
   | some ad=>
    have b:=wR (P:=P) w ad [] (fun p q j=>by simp at j);simp at b;simp[Builtin.copy_,kG o,Builtin.lenOf,Builtin.firstCells,sizeOf,typeInfo,c,b,storeCells,e]
  ·have b:=wR (P:=P) w ⟨D,F,none⟩ a (fun p q j=>by rw[Dy];exact G p q j);rw[B]at b;simp[Builtin.copy_,kG o,Builtin.lenOf,Builtin.firstCells,sizeOf,typeInfo,c,z,u,b,y]
end
theorem Agu(w:World){rest:List Oper}(y:k.guard=none)(d f:Operand)(g e:TypeId)(z:Tryz.prog.underlying g=some (.slice e))(o:Value)(i m:Nat)(A:(Tryz.prog.info? e).map (fun c=>(c.zero,c.size,c.bytes))=some (some o,i,m))(B:m<=1000)(C:k.op=Op.makeSlice g d f)(a:Nat)(D:l.eval d=.int .i64 (a:Int))(F:l.eval f=.int .i64 (a:Int))(G:a<=1000000000)(h:∀b n,b.ownsRow w.heap.size e i (.slice (some ⟨w.heap.size,0,none⟩) a a) a n->Below w.heap.size w b->w.heap.size<b.heap.size->wpList Tryz.prog j Q rest (l.put k.dst (.slice (some ⟨w.heap.size,0,none⟩) a a)) b):wpList Tryz.prog j Q (k::rest) l w:=by obtain⟨c,p,q,r,s⟩:=zB A;refine cV w y d f g C w.heap.size e c o i z p q r .i64 .i64 (a:Int) (a:Int) a D F rfl rfl (by rw[s];have:m*a<=1000*1000000000:=wO B G;omega) (by unfold maxLen;omega) X_ ?_;intro b n t;exact h b _ n ((xA _ w).grown t X_ (fun u u=>by cases u)) (xF n w.heap.size rfl).2
theorem Agv(w:World){rest:List Oper}(J:k.guard=none)(r s:Operand)(f e:TypeId)(L:Tryz.prog.underlying f=some (.slice e))(c:Nat)(M:(Tryz.prog.info? e).map (·.size)=some c)(N:k.op=.call {callee:=.builtin .copy,args:= #[r,s],argTypes:= #[f,f]})(t b a:Nat)(O:l.eval r=.slice (some ⟨b,0,none⟩) a a)(m:hH)(u:w.ownsRow t e c (.slice (some ⟨b,0,none⟩) a a) a m)(v:Value)(R:l.eval s=v)(g:Nat)(d:hH)(y:Src c w v g d)(z:g<=a)(S:∀v∈d,v.oneCell'=true)(h:∀i,i.ownsRow t e c (.slice (some ⟨b,0,none⟩) a a) a (d++m.drop d.length)->w.grownBy i (some b)->wpList Tryz.prog j Q rest (l.put k.dst (goInt g)) i):wpList Tryz.prog j Q (k::rest) l w:=by
 have T:d.length<=a*c:=by obtain⟨_,_,_,C,_⟩:=y;rw[C];exact kW _ z
 have n:=u.1;rcases u.2 with⟨h0,_⟩|⟨U,V,i,o,D,p,W,F,q,G⟩
 ·simp at h0
 ·simp only[xJ,xX,yT,yG,yB]at o;obtain⟨rfl,rfl⟩:=o;have A:i.toList=m:=by
   rw[<-G,yY (by simp[q])]
  refine cW J fun K H=> ?_
  have B:=HB (P:=Tryz.prog) w f f k.type e c b a a v g i e d L M p z y O_ S;unfold Oper.wp;simp[execOp,N,resolve,invoke,builtin,O,R,B,Result.andThen];refine H _ _ (h _ ?_ ?_)
  ·refine⟨by simp[n];omega,.inr ⟨b,a,_,rfl,D,aQ w b i _ e _ p,X_,F,?_,?_⟩⟩
   ·simp[q];omega
   ·rw[A];exact yY (by simp[n];omega)
  ·exact⟨rfl,rfl,rfl,by simp[World.setRow],fun H I I=>cT w b H _ (fun e=>I (by rw[e]))⟩
theorem YB(a c:hH)(f:Nat)(g:a.length=f)(k:c.length=f+2)(x i:Value):((a++c.drop a.length).set f x).set (f+1) i=a++[x,i]:=by
 obtain⟨d,b,e⟩:∃d b,c.drop a.length=[d,b]:=by
  have j:(c.drop a.length).length=2:=K_
  match c.drop a.length,j with
  | [d,b],_=>exact⟨d,b,rfl⟩
 rw[e,Wh _ _ _ _ _ g.symm];have:a++x::[b]=(a++[x])++b::[]:=D_;rw[this,Wh _ _ _ _ _ (by simp[g])];simp
abbrev YC:Value:=B_ ⟨#[109,105,110,101]⟩
abbrev yours:Value:=B_ ⟨#[121,111,117,114,115]⟩
def DD(B:Nat)(w':World)(v v':Value)(n:Nat)(cs:hH):Prop:=(∃cap,v=L_ none n cap/\v'=Z_)\/∃g,(∃a cap,v=L_ (some a) n cap)/\v'=L_ (P_ g) n (n+2)/\w'.ownsRow B 9 1 (L_ (P_ g) (n+2) (n+2)) (n+2) (cs++[YC,yours])
theorem VW(a:Addr)(b c:Nat)(w:World):(binOp BinOp.eql 40 (L_ (some a) b c) Z_).run Tryz.prog w=.ok (.bool false) w:=dI w _ _ _ kM
theorem OE(a b:Nat)(w:World):(binOp BinOp.eql 40 (L_ none a b) Z_).run Tryz.prog w=.ok (.bool true) w:=Lib.run_eql_slice_nil_nil w _ _ kM
theorem HC(v:Value)(a:Nat)(d:hH)(w:World)(B:Src 1 w v a d)(N:a<=100000000)(g:∀v∈d,v.oneCell'=true):
  Calls Tryz.prog 109 #[v] w fun f b=>Below w.heap.size w b/\∃c,f=.returned c/\DD w.heap.size b v c a d:=by
 obtain⟨i,b,rfl,c,f⟩:=B;have l:Hid (Src 1 w (.slice i a b) a d):=⟨i,b,rfl,c,f⟩;have u:=Aa c;have y:=Aa g;clear c f g;go_in
 cases i with
 | none=>
  have m:∀c,(binOp BinOp.eql 40 (.slice none a b) (.slice none 0 0)).run Tryz.prog c=.ok (.bool true) c:=fun c=>OE a b c
  go_wp2_with fail;go_ret;exact⟨xA _ _,_,rfl,.inl ⟨b,rfl,rfl⟩⟩
 | some ad=>
  have m:∀c,(binOp BinOp.eql 40 (.slice (some ad) a b) (.slice none 0 0)).run Tryz.prog c=.ok (.bool false) c:=fun c=>VW ad a b c
  have g:IntKind.i64.wrap ((a:Int)+2)=(a:Int)+2:=zY _ ⟨O_,O_⟩;have C:IntKind.i64.wrap ((a:Int)+1)=(a:Int)+1:=zY _ ⟨O_,O_⟩
  go_wp2_with (first
   | (at_make;refine Agu w rfl (.tmp 10) (.tmp 10) 40 9 kM _ 1 16 Jr O_ rfl (a+2) U_ U_ O_ ?_))
  intro A j c f L;have z:Hid (j.length=a+2):=by have:=c.1;simpa[Hid]using this
  have n:=Aa c;have o:=Aa f;have p:=Aa (l.o.below f);clear c f g m;generalize f:w.heap.size=c at*;have q:=Aa f;clear f
  go_wp2_with (first
   | (refine Agv A rfl (.tmp 12) (.tmp 13) 40 9 kM 1 S_ rfl c c (a+2) rfl j n.o (.slice (some ad) a b) rfl a d p.o O_ y.o ?_))
  intro M k t;have r:=o.o.grown t O_ (fun f f=>by cases f;exact Nat.le_refl _);have f:=Gx k a YC;have g:=Gx f (a+1) yours;rw[YB d j a (by rw[u.o];omega) z.o]at g;obtain⟨⟨D,F⟩,G⟩:=Yi k a O_;obtain⟨⟨H,I⟩,J⟩:=Yi f (a+1) O_;have s:=Aa (And.intro ((r.setCell (p:=⟨c,a,none⟩) X_ YC).setCell (p:=⟨c,a+1,none⟩) X_ yours) g);clear k t r f g n o p l;have f:(0:Int)<=(a:Int):=O_;have g:(a:Int)<((a+2:Nat):Int):=O_;have k:(a:Int)+1<((a+2:Nat):Int):=O_;go_wp2_with fail;go_ret;exact⟨by rw[q.o];exact s.o.1,_,rfl,.inr ⟨c,⟨ad,b,rfl⟩,rfl,by rw[q.o];exact s.o.2⟩⟩
abbrev LJ:Value:=B_ ⟨#[111,117,114,115]⟩
theorem DE(v F:Value)(a:Nat)(i:hD)(g w:World)(G:Below g.heap.size g w)(y:Src 1 g v a (strs i))(b7:DD g.heap.size w v F a (strs i))(d7:a<=100000000):
  Calls Tryz.prog 111 #[F,v] w fun b4 N=>b4=R_ (.bool true)/\Below g.heap.size w N/\∀c,c<w.heap.size->F.ownBlock≠some c->N.heap[c]?=w.heap[c]?:=by
 rcases b7 with⟨n,rfl,rfl⟩|⟨f,⟨C,n,rfl⟩,rfl,o⟩
 ·have O:∀j,(binOp BinOp.eql 40 (L_ none a n) Z_).run Tryz.prog j=.ok (.bool true) j:=fun j=>OE a n j
  clear y G;go_in;go_wp2_with fail;go_ret;exact⟨rfl,xA _ _,fun _ _ _=>rfl⟩
 ·have O:∀j,(binOp BinOp.eql 40 (L_ (some C) a n) Z_).run Tryz.prog j=.ok (.bool false) j:=fun j=>VW C a n j
  have b8:IntKind.i64.wrap ((a:Int)+2)=(a:Int)+2:=zY _ ⟨O_,O_⟩;have b9:IntKind.i64.wrap ((a:Int)+1)=(a:Int)+1:=zY _ ⟨O_,O_⟩;have k:i.length=a:=by obtain⟨_,_,_,d,_⟩:=y;simpa[strs]using d
  have R:g.heap.size<=f:=(xF o f rfl).1;obtain⟨c5,c6,a5,I,-,-,A,a6⟩:=Wi (Dp o) a O_;obtain⟨c7,c8,a7,J,-,-,B,a8⟩:=Wi (Dp o) (a+1) O_;simp only[xJ,xX,yT,yG,yB]at I J;obtain⟨rfl,rfl⟩:=I;obtain⟨rfl,-⟩:=J;have S:a5=YC:=by rw[kC (by simp[strs,k])]at A;simpa[strs,k]using A.symm
  have T:a7=yours:=by rw[kC (by simp[strs,k])]at B;simpa[strs,k]using B.symm
  subst S T;have U:=Aa o;have V:=Aa y;have W:=Aa G;have X:=Aa k;clear o y G A B k;have c0:(0:Int)<=(a:Int):=O_;have c1:(a:Int)<((a+2:Nat):Int):=O_;have c2:(a:Int)+1<((a+2:Nat):Int):=O_
  go_in;go_wp2_with fail
  go_loopw [6,7] (fun b5 D wr=>∃b:Nat,b<=a/\b5=.bool true/\D=J_ b/\wr.ownsRow g.heap.size 9 1 (L_ (P_ f) (a+2) (a+2)) (a+2) (Ci [LJ] b++(strs i++[YC,yours]).drop b)/\Below g.heap.size w wr/\∀c,c<w.heap.size->c≠f->wr.heap[c]?=w.heap[c]?) (fun _ D _=>a-(intOf D).toNat)
  case atStart=>exact⟨0,Y_,rfl,rfl,by simpa[Ci]using U.o,xA _ _,fun _ _ _=>rfl⟩
  case round=>
   obtain⟨b,c9,rfl,rfl,m,l,q⟩:=hrel;clear a6 a8;by_cases b6:b<a
   ·obtain⟨d0,d1,a9,L,-,-,r,d2⟩:=Wi (Dp m) b O_;simp only[xJ,xX,yT,yG,yB]at L;obtain⟨rfl,-⟩:=L;have z:b<i.length:=(by rw[X.o];exact b6);have Y:a9=B_ i[b]:=by
     rw[kC (by rw[Iv];simp)]at r;rw[Iv,show b-b*[LJ].length=0 by simp,kZ,jW,vQ (by simp[strs];exact z),show(strs i)[b]?=some (B_ i[b])by simp[strs,z]]at r;exact(xM r).symm
    subst Y;obtain⟨b0,so,rfl,b1,M⟩:∃p s,C=(Q_ p s)/\p<g.heap.size/\g.cell? (Q_ p (s+b))=some (B_ i[b]):=by
     obtain⟨d3,d4,e,-,d⟩:=V.o;simp only[xJ,yB]at e;obtain⟨rfl,rfl⟩:=e;rcases d with d|⟨p,s,e,b2,b3⟩
     ·omega
     ·exact⟨p,s,xM e,b2,b3 b _ (by simp[strs,z])⟩
    have c3:=((W.o.trans l).cell (p:=(Q_ b0 (so+b))) b1).trans M;obtain⟨-,d5⟩:=Yi m b O_;have H:∀d,((wr.drewN d).setCell (Q_ f b) LJ).ownsRow g.heap.size 9 1 (L_ (P_ f) (a+2) (a+2)) (a+2) (Ci [LJ] (b+1)++(strs i++[YC,yours]).drop (b+1)):=fun d=>by have:=Gx (w:=wr.drewN d) m b LJ;rw[DB _ _ _ (by simp[strs];omega)]at this;exact this
    have Z:=Aa H;have a0:Hid (∀d,Below g.heap.size w ((wr.drewN d).setCell (Q_ f b) LJ)):=fun d=>(Ao l d).setCell (p:=(Q_ f b)) R LJ
    have a1:Hid (∀d,∀c,c<w.heap.size->c≠f->((wr.drewN d).setCell (Q_ f b) LJ).heap[c]?=w.heap[c]?):=fun d c t u=>((Be f b (wr.drewN d) LJ).block c (yF t l.size) (fun e=>u (xM e))).trans (q c t u)
    generalize i[b]=d6 at*;have c4:(0:Int)<=(b:Int):=O_;have a2:(b:Int)<(a:Int):=O_;clear m l q H M r;go_wp2_with fail;go_quiet (fail);go_wp2_with fail
    go_roundw
    case rel=>exact⟨b+1,O_,rfl,W_,Z.o _,a0.o _,a1.o _⟩
    case measure=>simp[intOf];omega
   ·have a2:¬(b:Int)<(a:Int):=O_;have a3:=Aa l;have a4:Hid (∀c,c<w.heap.size->(Value.slice (P_ f) a (a+2)).ownBlock≠some c->wr.heap[c]?=w.heap[c]?):=fun c t u=>q c t (fun e=>u (by rw[e];rfl))
    clear m l q;go_wp2_with fail;go_ret;exact⟨rfl,a3.o,a4.o⟩
namespace Tr
abbrev Key:=hE
variable {a c f:Key}
abbrev It:=hE×hE
abbrev Ch:=Int×hE×hE
theorem tri(a b:Key)(h:¬a<b)(d:¬b<a):a=b:=by
 rcases List.le_total a b with c|c
 ·exact Std.le_antisymm c (qC.1 h)
 ·exact Std.le_antisymm (qC.1 d) c
theorem Ei(h:a<c)(b:c<f):a<f:=List.lt_trans h b
theorem lt_ir(a:Key):¬a<a:=List.lt_irrefl a
theorem DF(h:¬c<a)(d:c<f):a<f:=by
 by_cases b:a<c
 ·exact Ei b d
 ·rw[tri a c b h];exact d
theorem Kz(h:a<c)(d:¬f<c):a<f:=by
 by_cases b:c<f
 ·exact Ei h b
 ·rw[<-tri c f b d];exact h
theorem VX(h:¬c<a)(d:¬f<c):¬f<a:=fun b=>d (Kz b h)
def Lh(v:Key):Key:=v.drop (v.length-16)
theorem DG(v:Key):(Lh v).length<=16:=by unfold Lh;simp;omega
theorem Wj{v:Key}(h:v.length<=16):Lh v=v:=by unfold Lh;rw[show v.length-16=0 by omega];rfl
def Es(s:Option Key)(c:Ch):Option Key:=if c.1=2 then none else if c.1=3 then some (Lh (s.getD []++c.2.2))else some c.2.2
def one(k:Key)(s:Option Key)(c:Ch):Option Key:=if c.2.1=k then Es s c else s
def Av(cs:List Ch)(k:Key)(s:Option Key):Option Key:=cs.foldl (one k) s
theorem Fz(b c:List Ch)(a:Key)(d:Option Key):Av (b++c) a d=Av c a (Av b a d):=List.foldl_append
theorem Ej(b:Ch)(c:List Ch)(a:Key)(d:Option Key):Av (b::c) a d=Av c a (one a d b):=rfl
theorem Qa(b:Key)(a:Option Key):Av [] b a=a:=rfl
theorem Ff:∀(d:List Ch) (a:Key) (b:Option Key),(∀c∈d,c.2.1≠a)->Av d a b=b
 | [],_,_,_=>rfl
 | c::r,a,b,h=>by rw[Ej,one,xB (h c (xU ..))];exact Ff r a b fun c a=>h c (xZ _ a)
theorem Hm(d:Ch->Bool):∀(f:List Ch) (a:Key) (b:Option Key),(∀c∈f,c.2.1=a->d c=true)->Av (f.filter d) a b=Av f a b
 | [],_,_,_=>rfl
 | c::r,a,b,h=>by
  have f:=fun b=>Hm d r a b fun c b=>h c (xZ _ b)
  by_cases b:d c=true
  ·rw[kO b,Ej,Ej,f]
  ·rw[jU b,Ej,f];have:¬c.2.1=a:=fun e=>b (h c (xU ..) e)
   rw[one,xB this]
def Ce:List It->Key->Option Key
 | [],_=>none
 | x::r,k=>if x.1=k then some x.2 else Ce r k
theorem Hg(a c:List It)(b:Key):Ce (a++c) b=(Ce a b).or (Ce c b):=by
 induction a with
 | nil=>simp[Ce]
 | cons x r ih=>simp only[jF,Ce];split<;>simp[ih]
theorem Df{l:List It}(h:∀x∈l,x.1≠a):Ce l a=none:=by
 induction l with
 | nil=>rfl
 | cons x r ih=>rw[Ce,xB (h x (xU ..))];exact ih fun b c=>h b (xZ _ c)
def Cb(l:List It):Prop:=l.Pairwise fun x y=>x.1<y.1
def Ai:Nat->Type
 | 0=>List It
 | h+1=>List (Key×Ai h)×List Ch
def ix:List Key->Key->Nat
 | [],_=>0
 | [_],_=>0
 | _::f::r,k=>if k<f then 0 else ix (f::r) k+1
def val:(h:Nat)->Ai h->Key->Option Key
 | 0,l,k=>Ce l k
 | h+1,(ps,cs),k=>Av cs k (match ps[ix (ps.map (·.1)) k]? with|some p=>val h p.2 k|none=>none)
def okK(k:Key):Prop:=Pg.Dm k.length=true
def room(f:Key)(m:Option Key):Prop:=∀b,m=some b->f<b/\okK b
def inR(lo:Key)(hi:Option Key)(k:Key):Prop:=¬k<lo/\∀b,hi=some b->k<b
def Bu{α:Type}(R:Key->Option Key->α->Prop):Option Key->Option Key->List (Key×α)->Prop
 | lo,hi,[]=>lo=hi
 | lo,hi,(f,t)::r=>lo=some f/\∃m,room f m/\R f m t/\Bu R m hi r
theorem Ca{α:Type}{d:Key->Option Key->α->Prop}{m:Option Key}{y:List (Key×α)}:∀{c:List (Key×α)} {b:Option Key},Bu d b m (c++y)↔∃a,Bu d b a c/\Bu d a m y
 | [],b=>⟨fun h=>⟨b,rfl,h⟩,fun⟨a,c,g⟩=>by rw[show b=a from c];exact g⟩
 | (f,t)::r,b=>by
  constructor
  ·rintro⟨e,a,c,g,k⟩;obtain⟨b,i,j⟩:=Ca.1 k;exact⟨b,⟨e,a,c,g,i⟩,j⟩
  ·rintro⟨b,⟨e,a,c,g,i⟩,j⟩;exact⟨e,a,c,g,Ca.2 ⟨b,i,j⟩⟩
theorem IR{α:Type}{d u:Key->Option Key->α->Prop}(i:∀b a c,d b a c->u b a c){m:Option Key}:∀{f:List (Key×α)} {g:Option Key},Bu d g m f->Bu u g m f
 | [],_,h=>h
 | (b,c)::_,_,⟨e,a,h1,h2,h3⟩=>⟨e,a,h1,i b a c h2,IR i h3⟩
theorem Nc{α:Type}{d:Key->Option Key->α->Prop}:∀{a:List (Key×α)} {b c:Option Key},Bu d b c a->∀a,c=some a->∃g,b=some g/\¬a<g
 | [],b,c,h,a,hb=>by have:b=c:=h;exact⟨a,by rw[this,hb],lt_ir a⟩
 | (f,t)::r,b,c,⟨e,m,h1,h2,h3⟩,a,hb=>by obtain⟨g,b,c⟩:=Nc h3 a hb;refine⟨f,e,?_⟩;have:=(h1 g b).1;exact fun a=>c (Ei a this)
theorem IS{α:Type}{d:Key->Option Key->α->Prop}:∀{b:List (Key×α)} {g c:Option Key},Bu d g c b->b≠[]->∀b,c=some b->okK b
 | [],_,_,_,h,_,_=>absurd rfl h
 | [(f,t)],g,c,⟨e,m,h1,h2,h3⟩,_,b,hb=>(h1 b (by rw[show m=c from h3];exact hb)).2
 | (f,t)::p::r,g,c,⟨e,m,h1,h2,h3⟩,_,b,hb=>IS h3 D_ b hb
theorem Gl{α:Type}{d:Key->Option Key->α->Prop}{a:Key}:∀{l:List (Key×α)} {b:Key} {g:Option Key},Bu d (some b) g l->inR b g a->∃i f j k c,l=i++(f,j)::k/\ix (l.map (·.1)) a=i.length/\d f c j/\room f c/\inR f c a/\Bu d (some b) (some f) i/\Bu d c g k
 | [],b,g,h,hk=>by have:some b=g:=h;exact absurd (hk.2 b this.symm) hk.1
 | [(f,j)],b,g,⟨e,c,h1,h2,h3⟩,hk=>by obtain rfl:b=f:=xM e;exact⟨[],b,j,[],c,rfl,rfl,h2,h1,⟨hk.1,fun m l=>hk.2 m (by rw[<-l];exact(show c=g from h3).symm)⟩,rfl,h3⟩
 | (f,j)::(f2,t2)::r,b,g,⟨e,c,h1,h2,h3⟩,hk=>by
  obtain rfl:b=f:=xM e;have g:c=some f2:=h3.1;by_cases f:a<f2
  ·refine⟨[],b,j,(f2,t2)::r,c,rfl,?_,h2,h1,⟨hk.1,fun m l=> ?_⟩,rfl,h3⟩
   ·show ix (b::f2::r.map (·.1)) a=0;rw[ix,xD f]
   ·rw[g]at l;rw[<-xM l];exact f
  ·rw[g]at h3;obtain⟨i,l,m,k,n,o,p,q,s,t,u,y⟩:=Gl h3 ⟨f,hk.2⟩;refine⟨(b,j)::i,l,m,k,n,by rw[o];rfl,?_,q,s,t,⟨rfl,c,h1,h2,by rw[g];exact u⟩,y⟩;show ix (b::f2::r.map (·.1)) a=i.length+1;rw[ix,xB f];have:ix (f2::r.map (·.1)) a=i.length:=p;rw[this]
theorem Uu{h:Nat}{z A:List (Key×Ai h)}{B:Ai h}{C:List Ch}(b:ix ((z++(a,B)::A).map (·.1)) c=z.length):val (h+1) (z++(a,B)::A,C) c=Av C c (val h B c):=by rw[val,b];simp
def Ae4(x:It):Prop:=Pg.Dm x.1.length=true/\x.2.length<=16
def Kv(c:Ch):Prop:=Pg.Bh c=true
def Top:(h:Nat)->Ai h->Prop
 | 0,l=>List.length (α:=It) l<=16
 | _+1,(ps,cs)=>ps.length<=4/\cs.length<=8
def Js:(h:Nat)->Ai h->Prop
 | 0,_=>True
 | _+1,(_,cs)=>cs.length<=8
theorem Top.small:∀{h:Nat} {a:Ai h},Top h a->Js h a
 | 0,_,_=>yQ
 | _+1,(_,_),h=>h.2
def Agw(P:It->Prop)(l:List It):Prop:=∀x∈l,P x
def WF:(h:Nat)->Key->Option Key->Ai h->Prop
 | 0,lo,hi,l=>Cb l/\Agw (fun x=>inR lo hi x.1/\Ae4 x) l
 | h+1,lo,hi,(ps,cs)=>Bu (fun f m t=>WF h f m t/\Top h t) (some lo) hi ps/\∀c∈cs,inR lo hi c.2.1/\Kv c
def wt:(h:Nat)->Ai h->Nat
 | 0,l=>1+2*(List.length (α:=It) l-16)
 | h+1,(ps,cs)=>2*cs.length+(ps.map fun p=>wt h p.2).sum+((ps.length-1)+(2-ps.length))
theorem Yj:∀{h:Nat} {a:Key} {b:Option Key} {d:Ai h},room a b->WF h a b d->1<=wt h d
 | 0,_,_,l,_,_=>by rw[wt];omega
 | h+1,a,b,(ps,cs),hr,hw=>by
  obtain⟨c,-⟩:=hw
  match ps,c with
  | [],c=>exact absurd (hr a (show some a=b from c).symm).1 (lt_ir a)
  | (f,d)::r,⟨_,m,h1,h2,_⟩=>
   have:=Yj h1 h2.1;simp only[wt,yD,qZ];omega
theorem Kk{h:Nat}:∀{b:List (Key×Ai h)} {f g:Option Key},Bu (fun c d a=>WF h c d a/\Top h a) f g b->b.length<=(b.map fun b=>wt h b.2).sum
 | [],_,_,_=>D_
 | (c,a)::r,f,g,⟨_,d,h1,h2,h3⟩=>by have:=Yj h1 h2.1;have:=Kk h3;simp only[yD,qZ,xH];omega
theorem IT{x:It}{D:List It}(h:Cb (x::D))(c:a<x.1):Ce (x::D) a=none:=by
 refine Df fun d b e=> ?_
 rcases xG.1 b with rfl|b
 ·rw[e]at c;exact lt_ir _ c
 ·have:=(zJ.1 h).1 d b;rw[e]at this;exact lt_ir _ (Ei c this)
theorem DH:∀{c d:List It},Cb c->Cb d->(∀b,Ce c b=Ce d b)->c=d
 | [],[],_,_,_=>rfl
 | [],a::r,_,_,h=>by have:=h a.1;simp[Ce]at this
 | x::r,[],_,_,h=>by have:=h x.1;simp[Ce]at this
 | x::c,a::d,ha,hb,h=>by
  have d:x.1=a.1:=by
   refine tri _ _ (fun c=> ?_) (fun c=> ?_)
   ·have:=h x.1;rw[IT hb c]at this;simp[Ce]at this
   ·have:=h a.1;rw[IT ha c]at this;simp[Ce]at this
  have j:x.2=a.2:=by have:=h x.1;simpa[Ce,d]using this
  have k:x=a:=Prod.ext d j;subst k;have f:=zJ.1 ha;have g:=zJ.1 hb;congr 1;refine DH f.2 g.2 fun b=> ?_
  by_cases i:x.1=b
  ·subst i;rw[Df,Df]
   ·intro a c e;have:=g.1 a c;rw[e]at this;exact lt_ir _ this
   ·intro a c e;have:=f.1 a c;rw[e]at this;exact lt_ir _ this
  ·have:=h b;simpa[Ce,i]using this
end Tr
variable {b:Nat}{w:World}{v:Value}{g i:hJ}
theorem BL:∀(a b:hE),Lib.compareBytes a b<0↔a<b
 | [],[]=>by simp[Lib.compareBytes]
 | [],_::_=>by simp[Lib.compareBytes]
 | _::_,[]=>by simp[Lib.compareBytes]
 | a::x,b::y=>by
  rw[Lib.compareBytes,gG];by_cases c:a<b
  ·simp[c]
  ·rw[xB c];by_cases d:b<a
   ·rw[xD d];have:a≠b:=(by rintro rfl;exact c d);simp[c,this]
   ·rw[xB d,BL x y];have:a=b:=UInt8.le_antisymm (cJ.1 d) (cJ.1 c);simp[this]
theorem DI:∀(a b:hE),Lib.compareBytes a b=0↔a=b
 | [],[]=>by simp[Lib.compareBytes]
 | [],_::_=>by simp[Lib.compareBytes]
 | _::_,[]=>by simp[Lib.compareBytes]
 | a::x,b::y=>by
  rw[Lib.compareBytes];by_cases c:a<b
  ·rw[xD c];have:a≠b:=(by rintro rfl;exact UInt8.lt_irrefl _ c);simp[this]
  ·rw[xB c];by_cases d:b<a
   ·rw[xD d];have:a≠b:=(by rintro rfl;exact c d);simp[this]
   ·rw[xB d,DI x y];have:a=b:=UInt8.le_antisymm (cJ.1 d) (cJ.1 c);simp[this]
theorem Wk(a b:hJ)(w:World):
  Calls Tryz.prog 242 #[B_ a,B_ b] w fun c d=>c=R_ (J_ (Lib.compareBytes a.data.toList b.data.toList))/\d=w:=by
 go_in
 go_wp2
 rw[fV Tryz.func265 S_ S_ S_ (e:=Extern.BytealgCompare.compare) S_,Lib.run_compareString];simp only[Result.andThen];rw[Oper.upon_value]
 go_wp2
 go_ret;exact⟨rfl,rfl⟩
theorem Zs(b c:hJ)(w:World):
  Calls Tryz.prog 194 #[B_ b,B_ c] w fun d a=>d=R_ (J_ (Lib.compareBytes b.data.toList c.data.toList))/\a=w:=by
 go_in;go_wp2_with (go_at_call 242;refine(Wk _ _ _).mono ?_;rintro e a ⟨rfl,rfl⟩);go_ret;exact⟨rfl,rfl⟩
theorem Zt(a c d:hJ)(w:World):
  Calls Tryz.prog 193 #[.agg #[B_ a,B_ c],B_ d] w fun f b=>f=R_ (J_ (Lib.compareBytes a.data.toList d.data.toList))/\Below w.heap.size w b:=by
 have f:=Aa ((xA w.heap.size w).alloc X_ (C_ #[B_ a,B_ c] 51));go_in;go_wp2_with (go_at_call 194;refine(Zs _ _ _).mono ?_;rintro e b ⟨rfl,rfl⟩);go_ret;exact⟨rfl,f.o⟩
def stV:Option hE->hJ
 | none=>⟨#[]⟩
 | some l=>⟨l.toArray⟩
def stB:Option hE->Bool
 | none=>false
 | some _=>true
theorem DJ(a:Option hE):(stV a).data.toList=a.getD []:=by cases a<;>rfl
def chP(k:Int)(key x:hJ):Tr.Ch:=(k,key.data.toList,x.data.toList)
open Tr
theorem Tb(a:Option hE)(d:Int)(f x:hJ)(w:World)(l:(a.getD []).length<=20000000)(q:x.size<=20000000):
  Calls Tryz.prog 70 #[.agg #[B_ (stV a),.bool (stB a)],.agg #[J_ d,B_ f,B_ x]] w fun b c=>b=R_ (.agg #[B_ (stV (Tr.Es a (chP d f x))),.bool (stB (Tr.Es a (chP d f x)))])/\Below w.heap.size w c:=by
 have m:(stV a).size<=20000000:=by rw[<-Ah,DJ];exact l
 have k:=DJ a;have g:Hid (∀b c i:Obj,Below w.heap.size w (((w.alloc b).alloc c).alloc i)):=fun b c i=>(((xA _ w).alloc X_ b).alloc D_ c).alloc K_ i
 by_cases i:d=2
 ·subst i;have c:Tr.Es a (chP 2 f x)=none:=by unfold Tr.Es chP;rw[xD rfl]
  rw[c];clear c;go_enter Tryz.func70,fM;go_wp2_with fail;refine yS (v:=.agg #[B_ ⟨#[]⟩,.bool false]) ?_ rfl ⟨rfl,g.o _ _ _⟩;simp[results,go_sem]
 ·have n:(d==2)=false:=by simpa using i
  by_cases j:d=3
  ·subst j;have c:Tr.Es a (chP 3 f x)=some (Lh ((stV a++x).data.toList)):=by
    unfold Tr.Es chP;rw[xB D_,xD rfl,<-k,qN,vD]
   rw[c];have o:(stV a++x).size<=40000000:=(by rw[zO];omega);have p:∀w,(Op.stringOp .add (stV a) x).run Tryz.prog w=.ok (B_ (stV a++x)) w:=fun w=>kA w _ _ O_
   clear c k m l;generalize stV a++x=b at*;have k:stV (some (Lh b.data.toList))=b.extract (max (0:Int) ((b.size:Int)-16)).toNat b.size:=(by refine Fi ?_;rw[DJ,zZ,show(max (0:Int) ((b.size:Int)-16)).toNat=b.size-16 by omega];show Lh _=_;unfold Lh;rw[Ah,yY (by rw[xY,Ah];omega)]);rw[k];clear k;go_enter Tryz.func70,fM;go_wp2_with fail;refine yS (v:=.agg #[B_ (b.extract (max (0:Int) ((b.size:Int)-16)).toNat b.size),.bool true]) ?_ rfl ⟨rfl,g.o _ _ _⟩;simp[results,go_sem]
  ·have k:(d==3)=false:=(by simpa using j);have c:Tr.Es a (chP d f x)=some x.data.toList:=by
    unfold Tr.Es chP;rw[xB i,xB j]
   rw[c];clear c;go_enter Tryz.func70,fM;go_wp2_with fail;refine yS (v:=.agg #[B_ x,.bool true]) ?_ rfl ⟨rfl,g.o _ _ _⟩;simp[results,go_sem]
def Ax(w:World)(p:Nat)(vi vp vc:Value):Prop:=w.heap[p]?=some (C_ #[vi,vp,vc] 123 (0,0))
theorem Ax.cells{w:World}{b:Nat}{n p q:Value}(h:Ax w b n p q):w.cell? (Q_ b 0)=some n/\w.cell? (Q_ b 1)=some p/\w.cell? (Q_ b 2)=some q/\w.frozen? (Q_ b 0)=false/\w.frozen? (Q_ b 1)=false/\w.frozen? (Q_ b 2)=false:=by unfold Ax at h;refine⟨?_,?_,?_,?_,?_,?_⟩<;>simp[World.cell?,World.frozen?,h]
theorem Ax.lt{w:World}{b:Nat}{n p q:Value}(h:Ax w b n p q):b<w.heap.size:=(xS.1 h).1
def An:hA->hH
 | []=>[]
 | x::r=>[B_ x.1,A_ x.2]++An r
theorem Bj:∀a:hA,(An a).length=a.length*2
 | []=>rfl
 | x::r=>by rw[An,xC,Bj r];simp;omega
theorem Dj:∀b a:hA,An (b++a)=An b++An a
 | [],_=>rfl
 | x::r,a=>by rw[jF,An,An,Dj r a];simp
theorem IU:∀(b:hA) (a:Nat) (h:a<b.length),(An b)[a*2]?=some (B_ (b[a]'h).1)/\(An b)[a*2+1]?=some (A_ ((b[a]'h).2))
 | x::r,0,_=>⟨rfl,rfl⟩
 | x::r,a+1,h=>by obtain⟨b,c⟩:=IU r a (by simpa using h);rw[An,show(a+1)*2=a*2+2 by omega];exact⟨by simpa using b,by simpa using c⟩
def Bf(B:Nat)(w:World)(v:Value)(l:hA):Prop:=w.ownsRow B 132 2 v l.length (An l)
theorem Bf.at{F:hA}(h:Bf b w v F)(c:Nat)(f:c<F.length):∃a d,v=L_ (P_ a) F.length d/\F.length<=d/\b<=a/\a<w.heap.size/\w.cell? (Q_ a (c*2))=some (B_ (F[c]'f).1)/\w.cell? (Q_ a (c*2+1))=some (A_ ((F[c]'f).2)):=by
 rcases h.2 with⟨_,o⟩|⟨a,d,p,rfl,l,m,n,_⟩
 ·omega
 ·obtain⟨j,k⟩:=IU F c f;have g:=zD h (g:=a) rfl _ _ j;have i:=zD h (g:=a) rfl _ _ k;rw[Gv]at g i;exact⟨a,d,rfl,n,l,(xS.1 m).1,by simpa using g,by simpa using i⟩
theorem Ap.at{G:gY}(h:Ap b w v G)(c:Nat)(f:c<G.length):∃a d,v=L_ (P_ a) G.length d/\G.length<=d/\b<=a/\a<w.heap.size/\w.cell? (Q_ a (c*2))=some (B_ (G[c]'f).1)/\w.cell? (Q_ a (c*2+1))=some (B_ (G[c]'f).2):=by
 rcases h.2 with⟨_,o⟩|⟨a,d,p,rfl,l,m,n,_⟩
 ·omega
 ·obtain⟨j,k⟩:=Ya G c f;have g:=zD h (g:=a) rfl _ _ j;have i:=zD h (g:=a) rfl _ _ k;rw[Gv]at g i;exact⟨a,d,rfl,n,l,(xS.1 m).1,by simpa using g,by simpa using i⟩
theorem Hh(b:Nat)(f g:Value)(i:Option Addr)(a j:Nat)(w:World)(h:Ax w b f (L_ i a j) g):
  Calls Tryz.prog 76 #[A_ b] w fun c d=>c=R_ (.bool (decide (a=0)))/\d=w:=by
 obtain⟨d,k,l,-⟩:=h.cells;have e:((a:Int)==0)=decide (a=0):=by by_cases c:a=0<;>simp[c]
 go_in
 go_wp2
 go_ret;exact⟨D_,rfl⟩
theorem Zu(d:Nat)(g:Value)(i j:Option Addr)(b k a l:Nat)(w:World)(h:Ax w d g (L_ i b k) (L_ j a l)):
  Calls Tryz.prog 65 #[A_ d] w fun c f=>c=R_ (.bool (decide (b=1)&&decide (a=0)))/\f=w:=by
 obtain⟨n,o,p,-⟩:=h.cells;by_cases c:b=1
 ·subst c;have e:((a:Int)==0)=decide (a=0):=by by_cases f:a=0<;>simp[f]
  go_in
  go_wp2
  go_ret;exact⟨D_,rfl⟩
 ·have m:((b:Int)==1)=false:=K_
  go_in
  go_wp2
  go_ret;exact⟨by simp[c],rfl⟩
theorem Ab5(h:g.data.toList<i.data.toList):Op.bytesLess g.toList i.toList=true:=by rw[Af,Af,Cj];exact xQ h
theorem Ae5(h:¬g.data.toList<i.data.toList):Op.bytesLess g.toList i.toList=false:=by rw[Af,Af,Cj];exact xN h
theorem Agx(h:¬g=i):(g.toList==i.toList)=false:=by rw[Af,Af];exact beq_false_of_ne fun a=>h (Fi a)
theorem ne_of_lt(h:g.data.toList<i.data.toList):¬i=g:=by rintro rfl;exact Tr.lt_ir _ h
theorem Ae6(a:List hE)(c:hE)(b:Nat)(d:b+1<a.length)(f:¬c<a[b+1]):Tr.ix (a.drop b) c=Tr.ix (a.drop (b+1)) c+1:=by rw[yM (by omega:b<a.length),yM d,Tr.ix,xB f]
theorem Ae7(a:List hE)(c:hE)(b:Nat)(d:b+1<a.length)(f:c<a[b+1]):Tr.ix (a.drop b) c=0:=by rw[yM (by omega:b<a.length),yM d,Tr.ix,xD f]
theorem Ae8(a:List hE)(c:hE)(b:Nat)(d:a.length<=b+1):Tr.ix (a.drop b) c=0:=by
 by_cases h:b<a.length
 ·rw[yM h,kB d,Tr.ix]
 ·rw[kB O_,Tr.ix]
def Cp(l:hA):List hE:=l.map fun x=>x.1.data.toList
theorem Mq(q B:Nat)(C r D:Value)(a:hA)(c:hJ)(w:World)(h:Ax w q C r D)(p:Bf B w r a)(W:a.length<=1000000000):
  Calls Tryz.prog 77 #[A_ q,B_ c] w fun y z=>y=R_ (J_ (Tr.ix (Cp a) c.data.toList:Nat))/\z=w:=by
 obtain⟨G,H,I,-⟩:=h.cells;obtain⟨J,L,rfl⟩:=Ad p;have s:=Aa p;clear p h;go_in;go_wp2_with fail
 go_loop [5] (fun n=>∃b:Nat,n=J_ b/\b<=a.length/\Hid (Tr.ix (Cp a) c.data.toList=b+Tr.ix ((Cp a).drop b) c.data.toList)) (fun n=>a.length-(intOf n).toNat)
 case atStart=>exact⟨0,rfl,Y_,by show _=_;simp⟩
 case round=>
  obtain⟨b,rfl,M,g⟩:=hrel;have k:(Cp a).length=a.length:=by simp[Cp]
  by_cases i:b+1<a.length
  ·obtain⟨N,O,e,R,S,T,U,V⟩:=s.o.at (b+1) i;simp only[xJ]at e;obtain⟨rfl,-,rfl⟩:=e;generalize o:(a[b+1]'i).1=j at*;have l:(Cp a)[b+1]'(by rw[k];exact i)=j.data.toList:=(by simp[Cp,o]);by_cases d:c.data.toList<j.data.toList
   ·have t:=Ae5 (fun A=>Tr.lt_ir _ (Tr.Ei d A));have u:¬j=c:=ne_of_lt d;have F:=Agx u;have f:Hid (Tr.ix (Cp a) c.data.toList=b):=by
     show _=_;rw[g.o,Ae7 _ _ _ (by rw[k];exact i) (by rw[l];exact d)];omega
    clear g l o d;go_wp2_with fail;go_ret;exact⟨by rw[f.o];rfl,rfl⟩
   ·have f:Hid (Tr.ix (Cp a) c.data.toList=(b+1:Nat)+Tr.ix ((Cp a).drop (b+1)) c.data.toList):=by
     show _=_;rw[g.o,Ae6 _ _ _ (by rw[k];exact i) (by rw[l];exact d)];omega
    clear g l o;by_cases m:j.data.toList<c.data.toList
    ·have t:=Ab5 m;clear d m;go_wp2_with fail
     go_round
     case rel=>exact⟨b+1,W_,O_,f.o⟩
     case measure=>simp[intOf];omega
    ·obtain rfl:j=c:=Fi (Tr.tri _ _ m d);clear d m;go_wp2_with fail
     go_round
     case rel=>exact⟨b+1,W_,O_,f.o⟩
     case measure=>simp[intOf];omega
  ·have f:Hid (Tr.ix (Cp a) c.data.toList=b):=by
    show _=_;rw[g.o,Ae8 _ _ _ (by rw[k];omega)];omega
   clear g;go_wp2_with fail;go_ret;exact⟨by rw[f.o];rfl,rfl⟩
