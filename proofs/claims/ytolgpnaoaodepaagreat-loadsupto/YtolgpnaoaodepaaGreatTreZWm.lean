import Derived.Test.YtolgpnaoaodepaaGreatTreZQm
import Derived.Test.YtolgpnaoaodepaaGreatScaSm
set_option maxHeartbeats 1000000
set_option maxRecDepth 20000
namespace Go.Proofs.YtolgpnaoaodepaaGreat
open Ld Tr
namespace Tr
variable {h a:Nat}{b:Key->Option Key}{j:Key}
theorem Qn(b:Key):inR [] none b:=⟨D_,fun a a=>by cases a⟩
theorem Kr:room [] none:=fun a a=>by cases a
structure Lvl(V:Key->Option Key)(N:Nat)(h:Nat)(ps:List (Key×Ai h)):Prop where
 chain:Bu (fun f m t=>WF h f m t/\Top h t) (some []) none ps
 val:∀k,val (h+1) (brT ps []) k=V k
 wt:wts ps+(ps.length-1)<=2*N
theorem Lvl.start{g:Ai h}(d:WF h [] none g)(f:Js h g)(i:∀c,Tr.val h g c=b c)(j:Tr.wt h g<=2*a):Lvl b a h (Iw h [] g):=
 ⟨Nl h Kr d f,fun c=>(OV h Kr d f c (Qn c)).trans (i c),xI (LQ h [] g) j⟩
theorem Lvl.wf{d:List (Key×Ai h)}(f:Lvl b a h d):WF (h+1) [] none (brT d [])/\Js (h+1) (brT d []):=⟨⟨f.chain,fun c c=>by cases c⟩,Y_⟩
theorem Lvl.wtb{d:List (Key×Ai h)}(c:Lvl b a h d)(f:1<d.length):Tr.wt (h+1) (brT d [])<=2*a:=by rw[Nm];have:=c.wt;show 2*0+_+_<=_;omega
theorem Lvl.up{d:List (Key×Ai h)}(c:Lvl b a h d)(f:1<d.length):Lvl b a (h+1) (Iw (h+1) [] (brT d [])):=Lvl.start c.wf.1 c.wf.2 c.val (c.wtb f)
theorem UF{α:Type}(a:List α):(shares a 4).length=(a.length+3) / 4:=by unfold shares;rw[Nj];omega
theorem UG(a:List (List (Key×Ai h)))(b:List Ch):(Hb a b).length=a.length:=by simp[Hb]
theorem SD{d:List (Key×Ai h)}(b:1<d.length):(Iw (h+1) [] (brT d [])).length<d.length:=by
 by_cases a:4<d.length
 ·rw[Rx a,UG,UF];omega
 ·rw[Nk a];exact b
theorem Lvl.pos{d:List (Key×Ai h)}(c:Lvl b a h d):0<d.length:=by
 cases d with
 | nil=>exact absurd (show some []=none from c.chain) D_
 | cons x r=>simp
theorem Lvl.len{d:List (Key×Ai h)}(c:Lvl b a h d):d.length<=a:=by have f:d.length<=wts d:=Kk c.chain;have:=c.wt;omega
structure ML(V:Key->Option Key)(N:Nat)(h:Nat)(t:Ai h):Prop where
 wf:WF h [] none t
 top:Top h t
 val:∀k,Tr.val h t k=V k
 wt:Tr.wt h t<=2*N
theorem Lvl.root{g:Ai h}(c:Lvl b a h [(j,g)]):ML b a h g:=by obtain⟨e,f,l,d,i⟩:=c.chain;obtain rfl:[]=j:=xM e;obtain rfl:f=none:=i;refine⟨d.1,d.2,fun k=>c.val k,?_⟩;have:=c.wt;rw[Ey,Te]at this;exact this
theorem ML.idle{g:Ai h}(c:ML b a (h+1) (brT [(j,g)] [])):ML b a h g:=by obtain⟨e,f,l,d,i⟩:=c.wf.1;obtain rfl:[]=j:=xM e;obtain rfl:f=none:=i;refine⟨d.1,d.2,fun k=>c.val k,?_⟩;have:=c.wt;rw[Nm,Ey,Te]at this;have this:2*0+(Tr.wt h g+0)+(1-1+(2-1))<=2*a:=this;omega
end Tr
open Go.RowKit
variable {w w' k l:World}{a c:Nat}{i:Tr.Key->Option Tr.Key}{f:hF}{n m v:Value}{K:List (Nat×Obj)}
def TB(w:World)(b p:Nat):Prop:=w.heap[b]?=some (C_ #[A_ p] 125 (0,0))
theorem TB.lt{w:World}{a c:Nat}(h:TB w a c):a<w.heap.size:=(xS.1 h).1
theorem TB.cells{w:World}{a c:Nat}(h:TB w a c):w.cell? (Q_ a 0)=some (A_ c)/\w.frozen? (Q_ a 0)=false:=by unfold TB at h;refine⟨?_,?_⟩<;>simp[World.cell?,World.frozen?,h]
theorem TB.set(h:TB w a c)(b:Nat):TB (w.setCell (Q_ a 0) (A_ b)) a b:=by unfold TB at*;rw[Ak (i:=0) h];rfl
theorem TB.keep(h:TB w a c)(b:w'.heap[a]?=w.heap[a]?):TB w' a c:=b.trans h
structure QD(V:Tr.Key->Option Tr.Key)(N b h p:Nat)(t:Tr.Ai h)(F:hF)(w:World):Prop where
 tb:TB w b p
 rep:Rep h w p t F
 nd:F.Nodup
 nb:b∉F
 root:ML V N h t
def Eh(V:Tr.Key->Option Tr.Key)(N b:Nat)(F:hF)(w:World):Prop:=∃h p t,h<=N*2000000/\QD V N b h p t F w
theorem Eh.lt{i:Tr.Key->Option Tr.Key}{a c:Nat}{f:hF}{w:World}(h:Eh i a c f w):∀d∈c::f,d<w.heap.size:=fun d b=>by
 obtain⟨h,j,k,l,g⟩:=h;rcases xG.1 b with b|b
 ·rw[b];exact g.tb.lt
 ·exact g.rep.lt d b
theorem Eh.keep(h:Eh i a c f w)(g:∀d∈c::f,w'.heap[d]?=w.heap[d]?):Eh i a c f w':=by obtain⟨h,j,k,l,b⟩:=h;exact⟨h,j,k,l,b.tb.keep (g c (xU ..)),b.rep.keep fun d m=>g d (xZ _ m),b.nd,b.nb,b.root⟩
def hgt:Nat->World->Nat->Nat
 | 0,_,_=>0
 | n+1,w,p=>match w.cell? (Q_ p 1)with
  | some (.slice (some ⟨g,o,_⟩) (_+1) _)=>match w.cell? (Q_ g (o+1))with
   | some (.pointer (some ⟨q,_,_⟩))=>1+hgt n w q
   | _=>0
  | _=>0
theorem BS:∀(h a:Nat) {w:World} {d:Nat} {g:Tr.Ai h} {j:hF} {b:Tr.Key} {c:Option Tr.Key},h<=a->Rep h w d g j->Tr.WF h b c g->Tr.room b c->hgt a w d=h
 | 0,0,_,_,_,_,_,_,_,_,_,_=>rfl
 | 0,a+1,w,d,g,j,b,c,_,hr,_,_=>by obtain⟨l,n,i,o,rfl,rfl⟩:=hr;unfold hgt;rw[i.cells.2.1]
 | h+1,0,_,_,_,_,_,_,hh,_,_,_=>O_
 | h+1,a+1,w,d,(ps,cs),j,b,c,hh,hr,hw,hm=>by
  obtain⟨p,s,j,t,u,i,d,y,rfl,k,rfl⟩:=hr
  match ps,hw.1,j,k,d with
  | [],hc,_,_,_=>exact absurd (hm b (show some b=c from hc).symm).1 (Tr.lt_ir b)
  | (f,g)::r,⟨e,m,h1,h2,h3⟩,x::j,⟨ex,G1,G2,r1,hk2,eG⟩,d=>
   obtain⟨b,z,rfl,A,-,B,C,g⟩:=d.at 0 D_;unfold hgt;rw[i.cells.2.1];have c:w.cell? (Q_ b (0+1))=some (A_ x.2):=(by simpa using g);show(match w.cell? (Q_ b (0+1))with|some (.pointer (some ⟨q,_,_⟩))=>1+hgt a w q|_=>0)=h+1;rw[c];show 1+hgt a w x.2=h+1;rw[BS h a O_ r1 h2.1 h1];omega
def Ace(n b:Nat)(w:World):Nat:=match w.cell? (Q_ b 0)with
 | some (.pointer (some ⟨p,_,_⟩))=>hgt n w p
 | _=>0
theorem QE{h q n:Nat}{r:Tr.Ai h}(b:QD i a c h q r f w)(d:h<=n):Ace n c w=h:=by unfold Ace;rw[b.tb.cells.1];exact BS h n d b.rep b.root.wf Kr
theorem Acf:ML (fun _=>none) 1 0 (Tr.lf []):=by refine⟨⟨List.Pairwise.nil,fun x a=>by cases a⟩,Y_,fun _=>rfl,?_⟩;show 1+2*(([]:List Tr.It).length-16)<=2*1;simp
theorem QF(w:World):
  Calls Tryz.prog 31 #[] w fun d b=>∃a c,d=R_ (A_ a)/\Eh (fun _=>none) 1 a c b/\(∀j∈a::c,w.heap.size<=j)/\Below w.heap.size w b:=by
 have b:=xK w (C_ #[Z_,Z_,Z_] 123);have c:Below w.heap.size w (w.alloc (C_ #[Z_,Z_,Z_] 123)):=(xA _ w).alloc X_ _;have d:(w.alloc (C_ #[Z_,Z_,Z_] 123)).heap.size=w.heap.size+1:=D_;have f:Hid (Eh (fun _=>none) 1 (w.heap.size+1) [w.heap.size] ((w.alloc (C_ #[Z_,Z_,Z_] 123)).alloc (C_ #[A_ w.heap.size] 125))/\Below w.heap.size w ((w.alloc (C_ #[Z_,Z_,Z_] 123)).alloc (C_ #[A_ w.heap.size] 125))):=by generalize w.alloc (C_ #[Z_,Z_,Z_] 123)=a at*;have g:=xK a (C_ #[A_ w.heap.size] 125);have i:Below a.heap.size a (a.alloc (C_ #[A_ w.heap.size] 125)):=(xA _ a).alloc X_ _;rw[d]at g;refine⟨⟨0,w.heap.size,Tr.lf [],Y_,g,⟨Z_,[],(i.block _ O_).trans b,yP _ _ _ _,rfl,rfl⟩,D_,D_,Acf⟩,c.trans (i.mono O_)⟩
 clear b c d;go_in;go_wp2_with fail;go_ret;exact⟨_,_,rfl,f.o.1,fun j b=>(xG.1 b).elim (fun e=>O_) (fun e=>by rw[yR.1 e];exact Nat.le_refl _),f.o.2⟩
theorem ZI:(Tryz.prog.info? 4).map (fun a=>(a.zero,a.size,a.bytes))=some (some (.bool false),1,1):=S_
theorem Afo(w:World){s:Array Oper}{rest:List Oper}{t:Oper}{u:Act}{Q:Exit->Act->World->Prop}(p:t.guard=none)(c d:Operand)(q:t.op=Op.makeSlice 150 c d)(a:Nat)(r:u.eval c=J_ (a:Int))(y:u.eval d=J_ (a:Int))(A:a<=1000000000)(h:∀b,b.ownsRow w.heap.size 4 1 (L_ (P_ w.heap.size) a a) a ((Iy a []).map .bool)->Below w.heap.size w b->wpList Tryz.prog s Q rest (u.put t.dst (L_ (P_ w.heap.size) a a)) b):wpList Tryz.prog s Q (t::rest) u w:=by
 obtain⟨i,j,k,l,m⟩:=zB ZI;refine cV w p c d 150 q w.heap.size 4 i (.bool false) 1 Tryz.underlying150 j k l .i64 .i64 (a:Int) (a:Int) a r y rfl rfl (by rw[m];omega) (by unfold maxLen;omega) X_ ?_;intro b n o;refine h b ?_ ((xA _ w).grown o X_ (fun f f=>by cases f));have e:∀f g:hH,f=g->b.ownsRow w.heap.size 4 1 (L_ (P_ w.heap.size) a a) a f->b.ownsRow w.heap.size 4 1 (L_ (P_ w.heap.size) a a) a g:=fun _ _ e h=>e▸h
 refine e _ _ ?_ n;rw[kJ];apply wY
 ·simp[madeCells,Iy]
 ·intro f g z;simp[madeCells,Iy,Value.cells,Nat.mod_one]
theorem ZJ(w:World):
  Calls Tryz.prog 31 #[] w fun c b=>c=R_ (A_ (w.heap.size+1))/\TB b (w.heap.size+1) w.heap.size/\Ax b w.heap.size Z_ Z_ Z_/\Below w.heap.size w b:=by
 have c:=xK w (C_ #[Z_,Z_,Z_] 123);have d:Below w.heap.size w (w.alloc (C_ #[Z_,Z_,Z_] 123)):=(xA _ w).alloc X_ _;have f:(w.alloc (C_ #[Z_,Z_,Z_] 123)).heap.size=w.heap.size+1:=D_;have j:Hid (TB ((w.alloc (C_ #[Z_,Z_,Z_] 123)).alloc (C_ #[A_ w.heap.size] 125)) (w.heap.size+1) w.heap.size/\Ax ((w.alloc (C_ #[Z_,Z_,Z_] 123)).alloc (C_ #[A_ w.heap.size] 125)) w.heap.size Z_ Z_ Z_/\Below w.heap.size w ((w.alloc (C_ #[Z_,Z_,Z_] 123)).alloc (C_ #[A_ w.heap.size] 125))):=by generalize w.alloc (C_ #[Z_,Z_,Z_] 123)=b at*;have g:=xK b (C_ #[A_ w.heap.size] 125);have i:Below b.heap.size b (b.alloc (C_ #[A_ w.heap.size] 125)):=(xA _ b).alloc X_ _;rw[f]at g;exact⟨g,(i.block _ O_).trans c,d.trans (i.mono O_)⟩
 clear c d f;go_in;go_wp2_with fail;go_ret;exact⟨rfl,j.o⟩
theorem LoM.start{p:hD}(C:LdM m n p (Iy p.length []) l)(D:No 0 l v [(0,a,⟨#[]⟩,⟨#[]⟩)])(i:Ax l a Z_ Z_ Z_)(r:(∀g,n.ownBlock=some g->k.heap.size<=g)/\k.heap.size<=a)(G:∀x∈K,x.1<l.heap.size/\n.ownBlock≠some x.1/\x.1≠a/\l.heap[x.1]?=some x.2)(H:Below k.heap.size k l):LoM k K m n p [] v [(0,a,⟨#[]⟩,⟨#[]⟩)] 0 a l:=by
 refine⟨C,D,fun x c=> ?_,D_,⟨r.1,fun x c=> ?_⟩,fun x c=> ?_,⟨wJ,fun b i=>(by cases i)⟩,D_,D_,fun x c=> ?_,fun j d z A b=> ?_,⟨[],wJ,fun g o=>(by cases o),fun h b B Gs b f q _=> ?_⟩,H⟩
 ·rw[yR.1 c];exact i
 ·rw[yR.1 c];exact r.2
 ·rw[yR.1 c];exact Nat.zero_le _
 ·obtain⟨s,t,u,y⟩:=G x c;exact⟨s,t,by simpa using u,y⟩
 ·refine⟨j,[d],rfl,⟨⟨A,z⟩,yQ⟩,?_⟩;rw[Gm];show(Ld.nums j d).Perm ([]++(Ld.nums j d++[]));rw[yC,zI]
 ·match B,Gs,b,f,q with
  | [d],[F],b,f,q=>
   refine⟨h,d,F,rfl,b.1.2,b.1.1,?_,f.1.1 rfl,by simpa using q,fun g o=> .inr (by simpa using o)⟩;rw[Gm];show(Ld.nums h d).Perm ([]++(Ld.nums h d++[]));rw[yC,zI]
  | [],_,b,_,_=>exact b.elim
  | _::_::_,_,b,_,_=>exact b.2.elim
  | [_],[],_,f,_=>exact f.elim
  | [_],_::_::_,_,f,_=>exact f.2.elim
def loK(b p lb:Nat)(vim vre:Value):List (Nat×Obj):=[(b,C_ #[A_ p] 125 (0,0)),(lb,C_ #[vim,vre] 152 (0,0))]
def LoQ(A:(H:Nat)->PT H->World->Nat->World->Prop)(iml:hD)(w:World)(r:Ending)(w':World):Prop:=
 Below w.heap.size w w'/\((r=Am/\¬Xj (Au iml))\/∃(H:Nat) (f:PT H) (W:World) (b b' p:Nat) (F:hF),r=R_ (A_ b')/\Dz (Au iml) H [] [] f/\Ld.num H f=0/\(Ld.nums H f).Nodup/\(∀n,n<iml.length->n∈Ld.nums H f)/\TB W b p/\Rep H W p (Ld.tr (Au iml) H [] [] f) F/\F.Nodup/\b∉F/\(∀g∈b::F,w.heap.size<=g)/\Below w.heap.size w W/\((b'=b/\H<64/\W=w')\/(64<=H/\A H f W b' w')))
theorem LoM.o{i:hD}{y:List TkM}{p:Nat}(h:LoM w K m n i f v y a p k)(j:Mod (fun g=>n.ownBlock=some g\/g∈y.map (·.2.1)) k l):Below w.heap.size w l:=
 h.bel.trans (j.below h.bel.size fun g b=>by
  rcases b with b|b
  ·exact h.low.1 g b
  ·obtain⟨c,d,rfl⟩:=xL.1 b;exact h.low.2 c d)
theorem Acg(V:(j:Nat)->PT j->World->Nat->World->Prop)(e7:Value)(a:hD)(w:World)(c1:Bc 0 w e7 a)(c9:a.length<=40000000)(e8:∀(j:Nat) (q:PT j) (L:World) (c b:Nat) (t:hF),TB L c b->Rep j L b (Ld.tr (Au a) j [] [] q) t->t.Nodup->c∉t->Dz (Au a) j [] [] q->(Ld.nums j q).Nodup->Ld.num j q=0->Calls Tryz.prog 75 #[A_ c] L fun D e5=>∃U,D=R_ (A_ U)/\V j q L U e5/\Below L.heap.size L e5):
  Calls Tryz.prog 42 #[e7] w (LoQ V a w):=by
 obtain⟨d,f,rfl⟩:=Ad c1;have e9:=Aa c1;have f0:=Aa e8;clear c1 e8;go_in;go_wp2_with (at_make;refine Afo w rfl (.tmp 9) (.tmp 9) rfl a.length U_ U_ O_ ?_;intro o b7 a1);have f1:w.heap.size<o.heap.size:=(xF b7 _ rfl).2;have W:Below o.heap.size o (o.alloc (C_ #[L_ d a.length f,L_ (P_ w.heap.size) a.length a.length] 152)):=(xA _ o).alloc X_ _;have c2:(o.alloc (C_ #[L_ d a.length f,L_ (P_ w.heap.size) a.length a.length] 152)).heap[o.heap.size]?=some (C_ #[L_ d a.length f,L_ (P_ w.heap.size) a.length a.length] 152 (0,0)):=xK _ _;have f2:o.heap.size<(o.alloc (C_ #[L_ d a.length f,L_ (P_ w.heap.size) a.length a.length] 152)).heap.size:=D_;generalize o.alloc (C_ #[L_ d a.length f,L_ (P_ w.heap.size) a.length a.length] 152)=M at*;refine(ZJ M).mono ?_;rintro D m ⟨rfl,s,e1,a0⟩;have a2:=Aa ((a1.trans (W.mono a1.size)).trans (a0.mono (xI a1.size W.size)));have f3:Hid (LdM (L_ d a.length f) (L_ (P_ w.heap.size) a.length a.length) a (Iy a.length []) m):=⟨Ae e9.o a2.o X_,by rw[Gi];exact Bi (Ae (Ae b7 W X_) a0 X_) Y_,Gi _ _⟩;have c3:=Aa ((a0.block o.heap.size O_).trans c2);have c4:=Aa s;have a3:=Aa e1;have a4:M.heap.size+1<m.heap.size:=(xS.1 s).1;have c5:m.cell? (Q_ (M.heap.size+1) 0)=some (A_ M.heap.size):=by unfold TB at s;simp[World.cell?,s]
 obtain⟨c,Z⟩:∃c,c=M.heap.size+1:=⟨_,rfl⟩;obtain⟨b,b3⟩:∃b,b=M.heap.size:=⟨_,rfl⟩;obtain⟨g,b4⟩:∃g,g=o.heap.size:=⟨_,rfl⟩;rw[<-Z,<-b3]at c4 c5;rw[<-b3]at a3;rw[<-b4]at c3;rw[<-Z]at a4;have h8:b<c:=O_;have h9:g<b:=O_;have i0:w.heap.size<g:=O_;clear s e1 a1 W a0 b7 c2 f1 f2;rw[<-Z,<-b4];clear Z b3 b4;have C:Below m.heap.size m (m.alloc (C_ #[J_ 0,A_ b,B_ ⟨#[]⟩,B_ ⟨#[]⟩] 154)):=(xA _ m).alloc X_ _;have f4:Hid (LoM w (loK c b g (L_ d a.length f) (L_ (P_ w.heap.size) a.length a.length)) (L_ d a.length f) (L_ (P_ w.heap.size) a.length a.length) a [] (L_ (P_ m.heap.size) 1 1) [(0,b,⟨#[]⟩,⟨#[]⟩)] 0 b (m.alloc (C_ #[J_ 0,A_ b,B_ ⟨#[]⟩,B_ ⟨#[]⟩] 154))):=by
  refine LoM.start (f3.o.mod C) ⟨rfl,.inr ⟨m.heap.size,1,#[J_ 0,A_ b,B_ ⟨#[]⟩,B_ ⟨#[]⟩],rfl,Y_,xK _ _,X_,by unfold maxLen;omega,rfl,rfl⟩⟩ ((C.block _ a3.o.lt).trans a3.o) ⟨fun F u=>wM (xM u),O_⟩ (fun x b8=> ?_) (a2.o.trans (C.mono a2.o.size));have c6:=C.size;rcases xG.1 b8 with rfl|b8
  ·exact⟨yF a4 c6,fun u=>by have:w.heap.size=c:=xM u;omega,by show c≠b;omega,(C.block c a4).trans c4.o⟩
  ·obtain rfl:=yR.1 b8;have c7:g<m.heap.size:=O_;exact⟨yF c7 c6,fun u=>by have:w.heap.size=g:=xM u;omega,by show g≠b;omega,(C.block g c7).trans c3.o⟩
 clear C;go_wp2_with fail;generalize m.alloc (C_ #[J_ 0,A_ b,B_ ⟨#[]⟩,B_ ⟨#[]⟩] 154)=i7 at*;have f5:Hid ((Au a).length=a.length):=by show _=_;unfold Au;rw[xP]
 clear c5
 go_loopw [5,6] (fun e6 b9 wr=>∃(p:hF) (l:Nat),b9=J_ (l:Nat)/\l<=p.length/\((∃r,LoM w (loK c b g (L_ d a.length f) (L_ (P_ w.heap.size) a.length a.length)) (L_ d a.length f) (L_ (P_ w.heap.size) a.length a.length) a p e6 r l b wr)\/(No 0 wr e6 []/\LoD w (loK c b g (L_ d a.length f) (L_ (P_ w.heap.size) a.length a.length)) (L_ d a.length f) (L_ (P_ w.heap.size) a.length a.length) a p l b wr))) (fun _ b9 _=>a.length+1-(intOf b9).toNat)
 case atStart=>exact⟨[],0,rfl,Y_,.inl ⟨_,f4.o⟩⟩
 case round=>
  obtain⟨p,l,rfl,i2,⟨r,k⟩|⟨d4,z⟩⟩:=hrel
  ·obtain⟨g6,g7,rfl⟩:=Ad k.row;have f6:=Lm k.rdn.1 k.rdn.2;have i1:0<r.length:=kP.2 k.ne;have f7:r.length<=200000000:=(by have:=k.len;omega);obtain⟨-,-,-,A⟩:=k.kept (g,C_ #[L_ d a.length f,L_ (P_ w.heap.size) a.length a.length] 152 (0,0)) (by simp[loK]);simp only at A;have f8:wr.cell? (Q_ g 0)=some (L_ d a.length f):=(by simp[World.cell?,A]);have c8:wr.cell? (Q_ g 1)=some (L_ (P_ w.heap.size) a.length a.length):=(by simp[World.cell?,A]);have X:=Aa k;have f9:=Aa (HN _ _ _ a p r wr k.ld k.row k.nods k.dist k.nums f7);clear k A;go_wp2_with fail;refine f9.o.mono ?_;rintro D n ⟨b5,⟨rfl,e2⟩|⟨b6,i4,i5,Fs,e3,rfl,H,I,S⟩⟩
   ·have g0:Hid (LoQ V a w Am n):=⟨X.o.o b5,.inl ⟨rfl,X.o.give e2⟩⟩;clear b5 e2;unfold Am at*;go_wp2_with fail;exact⟨rfl,g0.o⟩
   ·have g1:l+1<=(p++r.map (·.1)).length:=(by rw[xC,xP];omega);have g2:Hid ((∃h7,LoM w (loK c b g (L_ d a.length f) (L_ (P_ w.heap.size) a.length a.length)) (L_ d a.length f) (L_ (P_ w.heap.size) a.length a.length) a (p++r.map (·.1)) e3 h7 (l+1) b n)\/(No 0 n e3 []/\LoD w (loK c b g (L_ d a.length f) (L_ (P_ w.heap.size) a.length a.length)) (L_ d a.length f) (L_ (P_ w.heap.size) a.length a.length) a (p++r.map (·.1)) (l+1) b n)):=by
     rcases I with I|I
     ·obtain⟨O,R⟩:=X.o.last H S I;refine .inr ⟨?_,O⟩;have:=S.row;rw[R]at this;exact Bi this Y_
     ·refine .inl ⟨_,X.o.step H S fun i G=> ?_⟩;have c9:=S.lev;obtain⟨g8,e⟩:=c9.pages i G;rcases Dd a g8 i e with B|B
      ·exact absurd B.1 (I i G)
      ·exact B.1
    clear b5 H I S f8 c8;go_wp2_with fail;exact⟨⟨p++r.map (·.1),l+1,W_,g1,g2.o⟩,by simp[intOf];omega⟩
  ·obtain⟨g6,g7,rfl⟩:=Ad d4;have f6:=Lm z.rdn.1 z.rdn.2;obtain⟨g9,-,A⟩:=z.kept (g,C_ #[L_ d a.length f,L_ (P_ w.heap.size) a.length a.length] 152 (0,0)) (by simp[loK]);obtain⟨-,-,s⟩:=z.kept (c,C_ #[A_ b] 125 (0,0)) (by simp[loK]);simp only at A s g9;have c8:wr.cell? (Q_ g 1)=some (L_ (P_ w.heap.size) a.length a.length):=(by simp[World.cell?,A]);have d0:Hid (TB wr c b):=s;have g3:=Aa (HP _ _ wr z.ld.re (by rw[Gi];omega));obtain⟨j,q,t,i3,d5,d6,d7,d8,d9,e0⟩:=z.fin;have y:=Aa z;have a5:=Aa d5;have a6:=Aa d6;have Y:=Aa d7;have g4:=Aa d8;have a7:=Aa d9;have a8:=Aa e0;have d1:Hid (false∈Iy a.length p↔∃i,i<a.length/\i∉p):=by
    constructor
    ·intro u;obtain⟨i,G,e⟩:=jK u;exact⟨i,(BQ _ _ _).1 (by rw[xW G,e])⟩
    ·rintro⟨i,O,R⟩;exact dV ((BQ _ _ _).2 ⟨O,R⟩)
   clear z A s d5 d6 d7 d8 d9 e0 d4;go_wp2_with fail;refine g3.o.mono ?_;rintro D n ⟨J,⟨rfl,T⟩|⟨rfl,T⟩⟩
   ·have N:=Aa (y.o.bel.trans (J.mono y.o.bel.size));have d2:Hid (∀i,i<a.length->i∈Ld.nums j q):=fun i G=>by
     refine Y.o.mem_iff.2 (kH fun B=>T (d1.o.2 ⟨i,G,B⟩))
    have a9:Hid (TB n c b):=(J.block c (xS.1 d0.o).1).trans d0.o;have b0:=Aa (g4.o.keep (w':=n) fun F c0=>J.block F (a8.o F c0).1);have b1:Hid (c∉t):=fun u=>(a8.o c u).2.2.2 (by simp[loK])
    have d3:Hid (∀F∈c::t,w.heap.size<=F):=fun F c0=>by
     rcases xG.1 c0 with B|B
     ·omega
     ·exact(a8.o F B).2.2.1
    clear J T;go_wp2_with fail;refine(Bm _).mono ?_;rintro D n ⟨rfl,rfl⟩;by_cases i6:64<l
    ·have g5:(64:Int)<(l:Int):=O_;go_wp2_with fail;refine(f0.o j q n c b t a9.o b0.o a7.o b1.o a5.o (Y.o.nodup_iff.2 y.o.rdn.1) a6.o).mono ?_;rintro D b6 ⟨U,rfl,e4,H⟩;have b2:Hid (LoQ V a w (R_ (A_ U)) b6):=⟨N.o.trans (H.mono N.o.size),.inr ⟨j,q,n,c,U,b,t,rfl,a5.o,a6.o,Y.o.nodup_iff.2 y.o.rdn.1,d2.o,a9.o,b0.o,a7.o,b1.o,d3.o,N.o,.inr ⟨O_,e4⟩⟩⟩;clear e4 H;go_wp2_with fail;go_ret;exact b2.o
    ·have g5:¬(64:Int)<(l:Int):=O_;go_wp2_with fail;go_ret;exact⟨N.o,.inr ⟨j,q,n,c,c,b,t,rfl,a5.o,a6.o,Y.o.nodup_iff.2 y.o.rdn.1,d2.o,a9.o,b0.o,a7.o,b1.o,d3.o,N.o,.inl ⟨rfl,O_,rfl⟩⟩⟩
   ·have b2:Hid (LoQ V a w Am n):=by
     refine⟨y.o.bel.trans (J.mono y.o.bel.size),.inl ⟨rfl,?_⟩⟩;rintro⟨h1,h2,h3,h4,h5,h6⟩;obtain⟨i,O,R⟩:=d1.o.1 T;exact R ((y.o.compl h1 h2 h3 h4 h5).mem_iff.1 (h6 i (by rw[f5.o];exact O)))
    clear J T;go_wp2_with fail;refine(Bt _).mono ?_;rintro D b6 ⟨rfl,rfl⟩;unfold Am at*;go_wp2_with fail;exact⟨rfl,b2.o⟩
