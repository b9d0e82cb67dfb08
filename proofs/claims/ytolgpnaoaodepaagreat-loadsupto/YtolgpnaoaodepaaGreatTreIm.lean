import Derived.Test.YtolgpnaoaodepaaGreatTreDm
set_option maxHeartbeats 1000000
set_option maxRecDepth 20000
namespace Go.Proofs.YtolgpnaoaodepaaGreat
open Go.RowKit Tr
theorem DM(d c:Nat)(b:gY)(a:Nat)(x:hJ×hJ)(r:Nat)(w:World)(b6:a<b.length)(b7:c<b.length+1)(h:Ap 0 w (L_ (P_ d) b.length c) b)(b8:b.length<=20000000)(F:w.heap[r]?=some (C_ #[B_ x.1,B_ x.2] 51 (0,0))):
  Calls Tryz.prog 171 #[L_ (P_ d) b.length c,J_ (a:Nat),L_ (P_ r) 1 1] w fun g i=>∃f,g=R_ f/\SW (L_ (P_ d) b.length c) (Tp b a x) w f i:=by
 rcases h.2 with⟨_,b1⟩|⟨b2,b3,b4,e,a7,W,b5,X,a8,a9⟩
 ·omega
 simp only[xJ,xX,yT,yG,yB]at e;obtain⟨rfl,rfl⟩:=e;have b0:c<=9223372036854775807:=by unfold maxLen at X;omega
 have G:=(xS.1 W).1;have Y:=(xS.1 F).1;obtain⟨B,T,U,C,D⟩:=zB Cg;have o:(Al (b.drop a)).length=(b.length-a)*2:=by rw[Bw,xY]
 have j:(Al (b.take a)).length=a*2:=by rw[Bw,xR];omega
 have H:(Builtin.firstCells B.size a (L_ (P_ d) a c)).run Tryz.prog w.drew=.ok (Al (b.take a)).toArray w.drew:=by
  have:=wR (P:=Tryz.prog) w.drew (Q_ d 0) (Al (b.take a)) (fun q m l=>by
   rw[Ob _ _ O_]at l;have Z:(Al b)[q]?=some m:=by
    rw[qT]at l;split at l
    ·exact l
    ·cases l
   exact zD h (g:=d) rfl _ _ Z)
  rw[j]at this;simpa[Builtin.firstCells,C]using this
 have I:Builtin.nextslicecap (a+(b.length+1-a)) c*B.bytes<=281474976710656:=qL O_ (by rw[D];omega);have t:=dH (P:=Tryz.prog) w 30 3 30 51 B (.agg #[B_ ⟨#[]⟩,B_ ⟨#[]⟩]) .i64 .i64 zC vZ T U (P_ d) a c (Al (b.take a)) H (b.length+1-a) O_ (by rw[C];omega) O_ O_ (by rw[D];omega) I;rw[show a+(b.length+1-a)=b.length+1 by omega]at t;have a0:=cP w (b.length+1) c 51;have J:grownCap w (b.length+1) c 51<=maxLen:=cQ w (b.length+1) c 51 (by unfold maxLen;omega);generalize grownCap w (b.length+1) c 51=f at*;have L:=(Oc (b.length+1-a)).1;have M:=(Oc (f-(b.length+1))).1;have u:((Al (b.take a)).toArray++Builtin.zeroCells (Value.agg #[B_ ⟨#[]⟩,B_ ⟨#[]⟩]).cells (b.length+1-a)++Builtin.zeroCells (Value.agg #[B_ ⟨#[]⟩,B_ ⟨#[]⟩]).cells (f-(b.length+1))).toList.length=f*2:=by simp only[jT,aW,vI,j,L,M];omega
 have N:((Al (b.take a)).toArray++Builtin.zeroCells (Value.agg #[B_ ⟨#[]⟩,B_ ⟨#[]⟩]).cells (b.length+1-a)++Builtin.zeroCells (Value.agg #[B_ ⟨#[]⟩,B_ ⟨#[]⟩]).cells (f-(b.length+1))).toList.take (a*2)=Al (b.take a):=by rw[Array.append_assoc,vD,<-j,jB]
 generalize(Al (b.take a)).toArray++Builtin.zeroCells (Value.agg #[B_ ⟨#[]⟩,B_ ⟨#[]⟩]).cells (b.length+1-a)++Builtin.zeroCells (Value.agg #[B_ ⟨#[]⟩,B_ ⟨#[]⟩]).cells (f-(b.length+1))=n at*;have k:Below w.heap.size w (w.drew.alloc (.cells n 51)):=(xA w.heap.size w).drew.alloc X_ _;have y:(w.drew.alloc (.cells n 51)).heap[w.heap.size]?=some (.cells n 51 (0,0)):=xK w.drew _;generalize w.drew.alloc (.cells n 51)=i at*;have z:=(k.block r Y).trans F;have s:=Zw (P:=Tryz.prog) i 30 30 3 51 2 w.heap.size (a*2) (b.length+1-a) (f-a) (L_ (P_ r) 1 1) 1 n 51 [Value.string x.1,Value.string x.2] zC S_ y O_ ⟨_,_,rfl,rfl,.inr ⟨r,0,rfl,(xS.1 z).1,fun q m l=>by unfold World.cell?;simp only[z,zR];simpa using l⟩⟩ (by simp at u⊢;omega) (by intro m V;simp at V;rcases V with rfl|rfl<;>rfl)
 simp only[xH,yU]at s;rw[show a*2+(0+1+1)=a*2+2 by omega,N]at s;have O:(Al (b.take a)++[Value.string x.1,Value.string x.2]++n.toList.drop (a*2+2)).length=f*2:=by simp only[xC,j,xY,u,xH,yU];omega
 have R:(Al (b.take a)++[Value.string x.1,Value.string x.2]++n.toList.drop (a*2+2)).take ((a+1)*2)=Al (b.take a)++[Value.string x.1,Value.string x.2]:=by rw[show(a+1)*2=(Al (b.take a)++[Value.string x.1,Value.string x.2]).length by simp[j];omega,jB]
 generalize Al (b.take a)++[Value.string x.1,Value.string x.2]++n.toList.drop (a*2+2)=g at*;have A:=Eg y g;have p:=Cn i w.heap.size g.toArray;have S:∀(q:Nat) (m:Value),(Al (b.drop a))[q]?=some m->(i.setRow w.heap.size g.toArray).drew.cell? (Q_ d (a*2+q))=some m:=fun q m l=>by have a1:=Yl h a O_ q m l;rw[<-a1];exact kK ((p.block d (yF G k.size) (fun e=>by have:=xM e;omega)).trans (k.block d G))
 have l:=Gf (P:=Tryz.prog) (i.setRow w.heap.size g.toArray).drew 30 30 3 51 2 w.heap.size ((a+1)*2) (b.length-a) (f-(a+1)) d (a*2) (b.length-a) (c-a) (b.length-a) g.toArray 51 (Al (b.drop a)) zC S_ A (wN _) o S (by rw[o];simp;omega) (Ew _);rw[o,show(a+1)*2+(b.length-a)*2=(b.length+1)*2 by omega]at l;simp only[R]at l;have q:Hid (SW (L_ (P_ d) b.length c) (Tp b a x) w (L_ (P_ w.heap.size) (b.length+1) f) ((i.setRow w.heap.size g.toArray).drew.setRow w.heap.size (Al (b.take a)++[Value.string x.1,Value.string x.2]++Al (b.drop a)++g.drop ((b.length+1)*2)).toArray)):=by
  refine⟨?_,?_,.inr ⟨w.heap.size,X_,rfl⟩⟩
  ·unfold Ap;rw[Wo _ _ _ O_];refine Rt (Eg (w:=(i.setRow w.heap.size g.toArray).drew) A _) a0 J ?_ ?_ (by rw[Bw,Wo _ _ _ O_])
   ·simp only[xC,xY,j,o,O,xH,yU];omega
   ·rw[DL,kE (by simp only[xC,j,o,xH,yU];omega),yY (by simp only[xC,j,o,xH,yU];omega)]
  ·have a2:=Cn (i.setRow w.heap.size g.toArray).drew w.heap.size (Al (b.take a)++[Value.string x.1,Value.string x.2]++Al (b.drop a)++g.drop ((b.length+1)*2)).toArray;have h0:w.grownBy i (some d):=⟨k.os,k.tape,k.output,k.size,fun a3 a4 _=>k.block a3 a4⟩;have a3:w.grownBy (i.setRow w.heap.size g.toArray).drew (some d):=LK h0 ⟨p.os,p.tape,p.output,p.size,p.block⟩ X_;exact LK a3 a2 X_
 have a4:=Aa t;have a5:=Aa s;have a6:=Aa l;clear t s l y A p S u O N R L M H I k z o j a9 a8 W X a7 h F J T U C D;have k:a<=c:=O_;have l:a<=b.length:=O_;have o:¬c=a:=O_;have p:¬f=a:=O_;have s:¬f=a+1:=O_;have t:a<=b.length+1:=O_;have u:((a:Int)==(b.length:Int))=false:=K_;have y:decide ((c:Int)<(b.length:Int)+1)=true:=K_;have z:(a:Int)<=(b.length:Int)+1:=O_;have A:IntKind.i64.wrap ((a:Int)+1)=(a:Int)+1:=by rw[yZ];omega
 have C:((a:Int)+1).toNat=a+1:=O_;have D:(0:Int)<=(a:Int)+1:=O_;have F:(a:Int)+1<=(b.length:Int)+1:=O_;have H:((b.length:Int)+1-(a:Int))=((b.length+1-a:Nat):Int):=O_;go_enter bX,cD;go_upto_region 10 with(at_builtin;refine vO w rfl (.tmp 34) (.tmp 39) 30 3 rfl (L_ (P_ d) a c) (J_ ((b.length+1-a:Nat):Int)) rfl rfl _ _ a4.o ?_);go_upto_region 11 with(refine Ab6 i rfl (.tmp 43) (.tmp 44) 30 30 rfl _ _ rfl rfl _ _ a5.o ?_)
 go_region_law (refine DK _ (by rfl) (.tmp 50) (.tmp 53) _ _ (by rfl) _ _ (by simp[Act.eval,Act.put]) (by simp[Act.eval,Act.put]) _ _ a6.o ?_)
 all_goals
  go_wp2_with fail;go_ret;have j:=q.o;simp only[xT,jF,zI]at j;exact⟨_,rfl,j⟩
namespace Tr
variable {c:List It}{k:Key}{x:It}
def rest(l:List It)(k:Key):List It:=match l with
 | []=>[]
 | x::r=>if x.1=k then r else x::r
def Pc(l:List It)(k:Key)(o:Option Key):List It:=l.takeWhile (fun x=>decide (x.1<k))++((o.map fun v=>(k,v)).toList++rest (l.dropWhile fun x=>decide (x.1<k)) k)
theorem DN(a:List It)(b:Key):(rest a b).Sublist a:=by
 cases a with
 | nil=>exact List.Sublist.refl _
 | cons x r=>
  unfold rest;simp only;split
  ·exact List.sublist_cons_self _ _
  ·exact List.Sublist.refl _
theorem Afl(h:x∈c.takeWhile fun x=>decide (x.1<k)):x.1<k:=by have:=List.all_takeWhile (p:=fun x:It=>decide (x.1<k)) (l:=c);exact jZ (zV.1 this x h)
theorem Agz(j:Cb c)(h:x∈c.dropWhile fun x=>decide (x.1<k)):¬x.1<k:=by
 have a:=gK (fun x:It=>decide (x.1<k)) c;have g:(c.dropWhile fun x=>decide (x.1<k)) <:+c:=wX _;have b:Cb (c.dropWhile fun x=>decide (x.1<k)):=qP g.sublist j;generalize(c.dropWhile fun x=>decide (x.1<k))=f at*
 match f,h,a,b with
 | y::f,d,a,b=>
  simp at a;rcases xG.1 d with rfl|d
  ·exact qC.2 a
  ·have:=(zJ.1 b).1 x d;exact fun i=>(qC.2 a) (Ei this i)
theorem LM(i:Cb c)(h:x∈rest (c.dropWhile fun x=>decide (x.1<k)) k):k<x.1:=by
 have b:=fun y m=>Agz i (k:=k) (x:=y) m
 have j:(c.dropWhile fun x=>decide (x.1<k)) <:+c:=wX _;have d:Cb (c.dropWhile fun x=>decide (x.1<k)):=qP j.sublist i;generalize(c.dropWhile fun x=>decide (x.1<k))=g at*
 match g,h,b,d with
 | y::g,a,b,d=>
  unfold rest at a;simp only at a;split at a
  ·next e=>have:=(zJ.1 d).1 x a;rw[e]at this;exact this
  ·next e=>
   have l:¬x.1=k:=by
    rintro rfl;rcases xG.1 a with rfl|a
    ·exact e rfl
    ·have:=(zJ.1 d).1 x a;exact b y (xU ..) this
   by_cases f:k<x.1
   ·exact f
   ·exact absurd (tri _ _ (b x a) f) l
theorem OG{n:Option Key}(h:x∈Pc c k n):x∈c\/∃v,n=some v/\x=(k,v):=by
 unfold Pc at h;rcases xE.1 h with h|h
 ·exact .inl ((gQ _).sublist.subset h)
 ·rcases xE.1 h with h|h
  ·cases n with
   | none=>simp at h
   | some v=>simp at h;exact .inr ⟨v,rfl,h⟩
  ·exact .inl ((wX _).sublist.subset ((DN _ _).subset h))
theorem Zy(d:Cb c)(f:Key)(g:Option Key):Cb (Pc c f g):=by
 have j:Cb (c.takeWhile fun x=>decide (x.1<f)):=qP (gQ _).sublist d;have k:Cb (rest (c.dropWhile fun x=>decide (x.1<f)) f):=qP ((DN _ _).trans (wX _).sublist) d;refine jN.2 ⟨j,jN.2 ⟨?_,k,?_⟩,?_⟩
 ·cases g<;>simp
 ·intro l b m a
  cases g with
  | none=>simp at b
  | some v=>simp at b;subst b;exact LM d a
 ·intro l b m a;have i:=Afl b;rcases xE.1 a with a|a
  ·cases g with
   | none=>simp at a
   | some v=>simp at a;subst a;exact i
  ·exact Ei i (LM d a)
theorem YE{G:Key}(h:G≠k):Ce (rest c k) G=Ce c G:=by
 cases c with
 | nil=>rfl
 | cons x r=>
  unfold rest;simp only;split
  ·next e=>rw[Ce,xB (by rw[e];exact fun a=>h a.symm)]
  ·rfl
theorem YF(j:Cb c)(g:Key)(d:Option Key)(f:Key):Ce (Pc c g d) f=if f=g then d else Ce c f:=by
 unfold Pc;rw[Hg,Hg];by_cases e:f=g
 ·subst e;rw[xD rfl,Df (fun x a b=>by have:=Afl a;rw[b]at this;exact lt_ir _ this)]
  cases d with
  | none=>simp only[Option.map_none,Option.toList_none,Ce,bV];exact Df fun x a b=>by have:=LM j a;rw[b]at this;exact lt_ir _ this
  | some v=>simp[Ce]
 ·rw[xB e,YE e];have i:Ce ((d.map fun v=>(g,v)).toList) f=none:=by
   refine Df fun x a b=> ?_
   cases d with
   | none=>simp at a
   | some v=>simp at a;subst a;exact e b.symm
  rw[i,bV,<-Hg,bN]
theorem OH(a:List It)(b:Key)(c:Option Key):(Pc a b c).length<=a.length+1:=by
 unfold Pc;have d:(a.takeWhile fun x=>decide (x.1<b)).length+(a.dropWhile fun x=>decide (x.1<b)).length=a.length:=by rw[<-xC,bN]
 have f:=(DN (a.dropWhile fun x=>decide (x.1<b)) b).length_le;simp only[xC];have g:((c.map fun v=>(b,v)).toList).length<=1:=by cases c<;>simp
 omega
end Tr
variable {w b u:World}{p y:Nat->Prop}{a:Nat}{d f g:Value}
structure Mod(F:Nat->Prop)(w w':World):Prop where
 os:w'.os=w.os
 tape:w'.tape=w.tape
 output:w'.output=w.output
 size:w.heap.size<=w'.heap.size
 block:∀k,k<w.heap.size->¬F k->w'.heap[k]?=w.heap[k]?
theorem Mod.of_below{F:Nat->Prop}(h:Below w.heap.size w b):Mod F w b:=⟨h.os,h.tape,h.output,h.size,fun a c _=>h.block a c⟩
theorem Mod.of_grown{I:Option Nat}(h:w.grownBy b I):Mod (fun a=>I=some a) w b:=⟨h.os,h.tape,h.output,h.size,fun a c d=>h.block a c (fun e=>d e.symm)⟩
theorem Mod.trans{H:Nat->Prop}{j:World}(c:Mod p b u)(d:Mod y u j)(k:∀a,a<b.heap.size->p a->H a)(l:∀a,a<b.heap.size->y a->H a):Mod H b j:=
 ⟨d.os.trans c.os,d.tape.trans c.tape,d.output.trans c.output,xI c.size d.size,fun a f i=>(d.block a (yF f c.size) (fun g=>i (l a f g))).trans (c.block a f (fun g=>i (k a f g)))⟩
theorem Mod.mono(h:Mod p b u)(g:∀a,a<b.heap.size->p a->y a):Mod y b u:=⟨h.os,h.tape,h.output,h.size,fun a c d=>h.block a c (fun f=>d (g a c f))⟩
theorem Mod.setCell(w:World)(p b:Nat)(v:Value):Mod (fun a=>a=p) w (w.setCell (Q_ p b) v):=by have h:=Be p b w v;exact⟨h.os,h.tape,h.output,h.size,fun a c d=>h.block a c (fun e=>d (xM e))⟩
theorem Mod.row(h:Mod p w b){e:TypeId}{m q:Nat}{v:Value}{r:hH}(f:w.ownsRow a e m v q r)(n:∀g,v.ownBlock=some g->¬p g):b.ownsRow a e m v q r:=
 ⟨f.1,f.2.imp_right fun⟨g,i,j,c,k,d,l⟩=>⟨g,i,j,c,k,(h.block g (xS.1 d).1 (n g (by rw[c];rfl))).trans d,l⟩⟩
theorem Mod.nod(h:Mod p w b)(c:Ax w a d f g)(i:¬p a):Ax b a d f g:=(h.block a c.lt i).trans c
theorem Ax.seti(h:Ax w a d f g)(b:Value):Ax (w.setCell (Q_ a 0) b) a b f g:=by unfold Ax at*;rw[Ak (i:=0) h];rfl
theorem Ax.setp(h:Ax w a d f g)(b:Value):Ax (w.setCell (Q_ a 1) b) a d b g:=by unfold Ax at*;rw[Ak (i:=1) h];rfl
theorem Ax.setc(h:Ax w a d f g)(b:Value):Ax (w.setCell (Q_ a 2) b) a d f b:=by unfold Ax at*;rw[Ak (i:=2) h];rfl
theorem OI(v:Value)(a:gY)(b:Nat)(x:hJ×hJ)(c:Nat)(w:World)(o:b<=a.length)(h:Ap 0 w v a)(f:a.length<=20000000)(g:w.heap[c]?=some (C_ #[B_ x.1,B_ x.2] 51 (0,0)))(l:v.ownBlock≠some c):
  Calls Tryz.prog 171 #[v,J_ (b:Nat),L_ (P_ c) 1 1] w fun i j=>∃d,i=R_ d/\SW v (Tp a b x) w d j:=by
 by_cases j:b=a.length
 ·subst j;exact HD v a x c w h f g
 ·have h0:=h;rcases h.2 with⟨_,m⟩|⟨i,d,n,rfl,_⟩
  ·omega
  ·by_cases k:a.length+1<=d
   ·exact LL i d a b x c w O_ k h0 f g (fun e=>l (by rw[e];rfl))
   ·exact DM i d a b x c w O_ O_ h0 f g
namespace Tr
variable {c:List It}{n:Option Key}{v k:Key}{z:Ch}
def Kl(l:List It)(c:Ch):List It:=Pc l c.2.1 (Es (Ce l c.2.1) c)
def Cr(l:List It)(cs:List Ch):List It:=cs.foldl Kl l
theorem Qd(a:List It)(b:List Ch)(c:Ch):Cr a (b++[c])=Kl (Cr a b) c:=by simp[Cr]
theorem DO(d:Cb c)(b:Ch)(a:Key):Ce (Kl c b) a=one a (Ce c a) b:=by
 unfold Kl one;rw[YF d];by_cases h:a=b.2.1
 ·subst h;simp
 ·rw[xB h,xB fun e=>h e.symm]
theorem Ng{c:Ch}(a:c.2.2.length<=16)(h:Es n c=some v):v.length<=16:=by
 unfold Es at h;split at h
 ·cases h
 ·split at h
  ·rw[<-xM h];exact DG _
  ·rw[<-xM h];exact a
theorem Ab7(h:Ce c k=some v):(k,v)∈c:=by
 induction c with
 | nil=>cases h
 | cons x r ih=>
  rw[Ce]at h;split at h
  ·rename_i e;have:=xM h;exact xG.2 (.inl (Prod.ext e.symm this.symm))
  ·exact xZ _ (ih h)
theorem Nh(h:Kv z):Pg.Dm z.2.1.length=true/\z.2.2.length<=16:=by unfold Kv Pg.Bh Pg.Bv at h;simp only[yK]at h;exact⟨h.1.1,jZ h.1.2⟩
theorem DP(h:WF 0 k n c)(a:inR k n z.2.1/\Kv z):WF 0 k n (Kl c z):=by
 refine⟨Zy h.1 _ _,fun x b=> ?_⟩;rcases OG b with f|⟨v,e,rfl⟩
 ·exact h.2 x f
 ·obtain⟨b,d⟩:=Nh a.2;exact⟨a.1,b,Ng d e⟩
theorem DQ{k:Key}{n:Option Key}:∀(a:List Ch) {l:List It},WF 0 k n l->(∀c∈a,inR k n c.2.1/\Kv c)->WF 0 k n (Cr l a)
 | [],_,h,_=>h
 | c::r,l,h,hc=>DQ r (l:=Kl l c) (DP h (hc c (xU ..))) fun a b=>hc a (xZ _ b)
theorem Qe{lo:Key}{hi:Option Key}(a:Key):∀(b:List Ch) {l:List It},WF 0 lo hi l->(∀c∈b,inR lo hi c.2.1/\Kv c)->Ce (Cr l b) a=Av b a (Ce l a)
 | [],_,_,_=>rfl
 | c::r,l,h,hc=>by rw[Ej,<-DO h.1];exact Qe a r (l:=Kl l c) (DP h (hc c (xU ..))) fun b d=>hc b (xZ _ d)
theorem Jt:∀(b:List Ch) (a:List It),(Cr a b).length<=a.length+b.length
 | [],_=>X_
 | c::r,a=>by have b:=Jt r (Kl a c);have d:(Kl a c).length<=a.length+1:=OH _ _ _;rw[xH];show(Cr (Kl a c) r).length<=_;omega
end Tr
namespace Ld
open Go.Proofs.YtolgpnaoaodepaaGreat.Tr
abbrev Nd:=Int×List It×hF×List Key×List Ch
def its(n:Nd):List It:=n.2.1
def kds(n:Nd):hF:=n.2.2.1
def pvs(n:Nd):List Key:=n.2.2.2.1
def chs(n:Nd):List Ch:=n.2.2.2.2
def Mk(lo hi k:Key):Prop:=¬k<lo/\(hi=[]\/k<hi)
def okP(n:Nd)(lo hi:Key):Prop:=(∀x∈its n,Mk lo hi x.1)/\(∀c∈chs n,Mk lo hi c.2.1)/\∀p∈pvs n,Mk lo hi p
abbrev Tk:=Nat×Key×Key
def Ma:Key->Key->List Key->List (Key×Key)
 | lo,hi,[]=>[(lo,hi)]
 | lo,hi,p::r=>(lo,p)::Ma p hi r
theorem DR:∀(c a:Key) (b:List Key),(Ma c a b).length=b.length+1
 | _,_,[]=>rfl
 | _,a,p::r=>by rw[Ma,xH,DR p a r,xH]
def Fv(n:Nd)(lo hi:Key):List Tk:=List.zipWith (fun c b=>(c,b)) (kds n) (Ma lo hi (pvs n))
def okN(n:Nd):Prop:=(n.1=1/\kds n=[]/\pvs n=[]/\chs n=[]/\(its n).length<=16/\Cb (its n)/\∀x∈its n,Ae4 x)\/
 (n.1=2/\its n=[]/\1<=(kds n).length/\(kds n).length<=4/\(pvs n).length+1=(kds n).length/\(pvs n).Pairwise (·< ·)/\(∀p∈pvs n,okK p)/\(chs n).length<=8/\∀c∈chs n,Kv c)
theorem LN{k:Key}(h:okK k):k≠[]:=fun e=>by rw[e]at h;simp[okK,Pg.Dm]at h
theorem Wp{L:Nd}(h:okN L)(b c:Key):(Fv L b c).length=(kds L).length:=by
 unfold Fv;rw[bH,DR];rcases h with⟨_,a,d,_⟩|⟨_,_,_,_,f,_⟩
 ·rw[a];simp
 ·omega
def PT:Nat->Type
 | 0=>Nat
 | h+1=>Nat×List (PT h)
def lfP(n:Nat):PT 0:=n
def brP{h:Nat}(n:Nat)(ks:List (PT h)):PT (h+1):=(n,ks)
def num:(h:Nat)->PT h->Nat
 | 0,n=>n
 | _+1,t=>t.1
def nums:(h:Nat)->PT h->hF
 | 0,n=>[n]
 | h+1,(n,ks)=>n::(ks.map (nums h)).flatten
def Co(h:Nat)(fs:List (PT h)):hF:=(fs.map (nums h)).flatten
theorem Gm(h:Nat)(a:PT h)(b:List (PT h)):Co h (a::b)=nums h a++Co h b:=rfl
theorem Km(h:Nat)(a b:List (PT h)):Co h (a++b)=Co h a++Co h b:=by unfold Co;rw[yX,kI]
def FF{α:Type}(R:Key->Key->α->Prop)(nm:α->Nat):List Tk->List α->Prop
 | [],[]=>True
 | t::ts,f::fs=>(nm f=t.1/\R t.2.1 t.2.2 f)/\FF R nm ts fs
 | _,_=>False
theorem FF.len{α:Type}{s:Key->Key->α->Prop}{t:α->Nat}:∀{a:List Tk} {b:List α},FF s t a b->a.length=b.length
 | [],[],_=>rfl
 | _::_,_::_,h=>by rw[xH,xH,h.2.len]
 | [],_::_,h=>h.elim
 | _::_,[],h=>h.elim
theorem FF.append{α:Type}{s:Key->Key->α->Prop}{t:α->Nat}{A:List Tk}{M:List α}(c:FF s t A M):∀{a:List Tk} {b:List α},FF s t a b->FF s t (a++A) (b++M)
 | [],[],_=>c
 | _::_,_::_,h=>⟨h.1,FF.append c h.2⟩
 | [],_::_,h=>h.elim
 | _::_,[],h=>h.elim
theorem FF.split{α:Type}{s:Key->Key->α->Prop}{t:α->Nat}{A:List Tk}:∀{d:List Tk} {b:List α},FF s t (d++A) b->∃a c,b=a++c/\FF s t d a/\FF s t A c
 | [],b,h=>⟨[],b,rfl,yQ,h⟩
 | _::_,f::b,h=>by obtain⟨a,c,rfl,b,d⟩:=FF.split h.2;exact⟨f::a,c,rfl,⟨h.1,b⟩,d⟩
 | _::_,[],h=>h.elim
def Dz(P:List (Option Nd)):(h:Nat)->Key->Key->PT h->Prop
 | 0,lo,hi,f=>∃nd,P[num 0 f]?=some (some nd)/\nd.1=1/\okP nd lo hi
 | h+1,lo,hi,(n,ks)=>∃nd,P[n]?=some (some nd)/\nd.1=2/\okP nd lo hi/\FF (Dz P h) (num h) (Fv nd lo hi) ks
def Lev(P:List (Option Nd)):hF->List Tk->List Nd->Prop
 | _,[],[]=>True
 | rd,t::ts,nd::nds=>(t.1∉rd/\P[t.1]?=some (some nd)/\okP nd t.2.1 t.2.2)/\Lev P (rd++[t.1]) ts nds
 | _,_,_=>False
def below:List Tk->List Nd->List Tk
 | t::ts,nd::nds=>Fv nd t.2.1 t.2.2++below ts nds
 | _,_=>[]
def OJ(nds:List Nd):Prop:=(∀n∈nds,n.1=1)\/∀n∈nds,n.1≠1
theorem Lev.len{P:List (Option Nd)}:∀{a:List Tk} {c:hF} {b:List Nd},Lev P c a b->a.length=b.length
 | [],_,[],_=>rfl
 | _::_,_,_::_,h=>by rw[xH,xH,h.2.len]
 | [],_,_::_,h=>h.elim
 | _::_,_,[],h=>h.elim
theorem Lev.nd{P:List (Option Nd)}:∀{b:List Tk} {a:hF} {c:List Nd},Lev P a b c->a.Nodup->(a++b.map (·.1)).Nodup
 | [],a,[],_,hr=>by simpa using hr
 | t::b,a,nd::c,h,hr=>by have b:(a++[t.1]).Nodup:=xO.2 ⟨hr,D_,fun a a c c e=>h.1.1 (by rw[yR.1 c]at e;rw[<-e];exact a)⟩;have:=h.2.nd b;rw[xT]at this;exact this
 | [],_,_::_,h,_=>h.elim
 | _::_,_,[],h,_=>h.elim
theorem Lev.lt{P:List (Option Nd)}:∀{a:List Tk} {b:hF} {c:List Nd},Lev P b a c->∀t∈a,t.1<P.length
 | t::_,b,nd::c,h,x,a=>by
  rcases xG.1 a with rfl|a
  ·exact(jM.1 h.1.2.1).1
  ·exact h.2.lt x a
 | [],_,_,_,_,a=>by cases a
 | _::_,_,[],h,_,_=>h.elim
theorem Aea{h:Nat}(a:PT h):num h a∈nums h a:=by
 cases h with
 | zero=>exact yR.2 rfl
 | succ h=>obtain⟨b,c⟩:=a;exact xU ..
theorem Wq{P:List (Option Nd)}:∀{g:List Tk} {i:hF} {j:List (PT 0)},FF (Dz P 0) (num 0) g j->(i++Co 0 j).Nodup->∃c,Lev P i g c/\(∀d∈c,d.1=1)/\Co 0 j=g.map (·.1)
 | [],_,[],_,_=>⟨[],yQ,(fun d b=>by cases b),rfl⟩
 | t::g,i,f::j,hf,b=>by
  obtain⟨⟨k,m,n,o,p⟩,q⟩:=hf;have j:nums 0 f=[t.1]:=by rw[<-k];rfl
  rw[Gm,j,<-xT]at b;obtain⟨c,r,s,u⟩:=Wq q b;have l:t.1∉i:=fun g=>(xO.1 (xO.1 b).1).2.2 t.1 g t.1 D_ rfl
  refine⟨m::c,⟨⟨l,by rw[<-k];exact n,p⟩,r⟩,fun d b=> ?_,?_⟩
  ·rcases xG.1 b with rfl|g
   ·exact o
   ·exact s d g
  ·rw[Gm,j,u];rfl
 | [],_,_::_,h,_=>h.elim
 | _::_,_,[],h,_=>h.elim
theorem Wr{P:List (Option Nd)}{h:Nat}:∀{c:List Tk} {d:hF} {a:List (PT (h+1))},FF (Dz P (h+1)) (num (h+1)) c a->(d++Co (h+1) a).Nodup->∃f g,Lev P d c f/\(∀i∈f,i.1=2)/\FF (Dz P h) (num h) (below c f) g/\(Co (h+1) a).Perm (c.map (·.1)++Co h g)
 | [],_,[],_,_=>⟨[],[],yQ,(fun i b=>by cases b),yQ,List.Perm.nil⟩
 | t::c,d,(i,ks)::a,hf,b=>by
  obtain⟨⟨j,n,o,p,q,r⟩,s⟩:=hf;have j:i=t.1:=j;subst j;have k:Co (h+1) (brP t.1 ks::a)=t.1::(Co h ks++Co (h+1) a):=rfl;have b:(d++Co (h+1) (brP t.1 ks::a)).Nodup:=b;rw[k]at b;have l:t.1∉d:=fun i=>(xO.1 b).2.2 t.1 i t.1 D_ rfl
  have m:((d++[t.1])++Co (h+1) a).Nodup:=by refine b.sublist ?_;rw[xT];exact List.Sublist.append_left (List.Sublist.cons_cons _ (bM ..)) _
  obtain⟨f,g,d,u,y,z⟩:=Wr s m;refine⟨n::f,ks++g,⟨⟨l,o,q⟩,d⟩,fun A B=> ?_,FF.append y r,?_⟩
  ·rcases xG.1 B with rfl|i
   ·exact p
   ·exact u A i
  ·rw[Km];show(t.1::(Co h ks++Co (h+1) a)).Perm (t.1::(c.map (·.1)++(Co h ks++Co h g)));refine List.Perm.cons _ ?_;refine(wW (Co h ks) z).trans ?_;rw[<-xT,<-xT];exact dJ _ qD
 | [],_,_::_,h,_=>h.elim
 | _::_,_,[],h,_=>h.elim
end Ld
variable {j B C:gY}{i x:hJ}{w W b:World}{a m q:Nat}{d f g v:Value}{e:TypeId}{r:hH}{l:Int}{D:Bool}{F:Option hE}
theorem DS(a:gY)(b:hJ):Ab (Fc a b)=(Ab a).takeWhile fun x=>decide (x.1<b.data.toList):=by unfold Fc Ab;rw[List.takeWhile_map];rfl
theorem DT(a:gY)(b:hJ):Ab (Dr a b)=(Ab a).dropWhile fun x=>decide (x.1<b.data.toList):=by unfold Dr Ab;rw[List.dropWhile_map];rfl
theorem VY{N:hJ×hJ}(b:Fc j i=B)(c:Dr j i=N::C)(d:N.1.data.toList=i.data.toList)(a:Option hE):Pc (Ab j) i.data.toList a=Ab B++((a.map fun v=>(i.data.toList,v)).toList++Ab C):=by unfold Pc;rw[<-DS,<-DT,b,c];congr 2;show Tr.rest ((N.1.data.toList,N.2.data.toList)::Ab C) _=_;unfold Tr.rest;simp only;rw[xD d]
theorem Ab8(b:Fc j i=B)(c:Dr j i=C)(d:Dt C i=false)(a:Option hE):Pc (Ab j) i.data.toList a=Ab B++((a.map fun v=>(i.data.toList,v)).toList++Ab C):=by
 unfold Pc;rw[<-DS,<-DT,b,c];congr 2
 cases C with
 | nil=>rfl
 | cons y D=>
  have:¬y.1.data.toList=i.data.toList:=fS d;show Tr.rest ((y.1.data.toList,y.2.data.toList)::Ab D) _=_;unfold Tr.rest;simp only;rw[xB this];rfl
theorem Bg(h:Ax w a d f g){J:Nat}(j:w.ownsRow m e q v J r)(k:e≠123):v.ownBlock≠some a:=by
 intro c;rcases j.2 with⟨rfl,_⟩|⟨i,l,n,rfl,_,b,_⟩
 ·simp[Value.ownBlock]at c
 ·obtain rfl:i=a:=xM c;unfold Ax at h;rw[h]at b;simp only[xX,vW]at b;exact k b.2.1.symm
structure YG(p:Nat)(vi vp vc:Value)(w:World)(l:List Tr.It)(vi':Value)(il':gY)(w':World):Prop where
 nod:Ax w' p vi' vp vc
 its:Ap 0 w' vi' il'
 pl:Ab il'=l
 mod:Mod (fun g=>g=p\/vi.ownBlock=some g) w w'
 blk:∀g,vi'.ownBlock=some g->vi.ownBlock=some g\/w.heap.size<=g
theorem OK(h:∀a∈j,a.2.size<=16):((Et (Dr j i) i).getD []).length<=16:=by
 unfold Et;have b:Dr j i <:+j:=wX _
 cases c:Dr j i with
 | nil=>simp
 | cons a D=>
  simp only;split
  ·have:=h a (b.sublist.subset (by rw[c];exact xU ..));rw[Option.getD_some,Ah];exact this
  ·simp
def ChB(w:World)(b:Nat)(k:Int)(key x:hJ):Prop:=w.heap[b]?=some (C_ #[J_ k,B_ key,B_ x] 34 (0,0))
theorem ChB.lt{w:World}{a:Nat}{l:Int}{i x:hJ}(h:ChB w a l i x):a<w.heap.size:=(xS.1 h).1
theorem ChB.cells{w:World}{a:Nat}{l:Int}{i x:hJ}(h:ChB w a l i x):w.cell? (Q_ a 0)=some (J_ l)/\w.cell? (Q_ a 1)=some (B_ i)/\w.cell? (Q_ a 2)=some (B_ x):=by unfold ChB at h;refine⟨?_,?_,?_⟩<;>simp[World.cell?,h]
theorem Fo(h:w.ownsRow a e m v q r):∃b d c,v=Value.slice b d c:=by obtain⟨b,c,e⟩:=Ad h;exact⟨b,_,c,e⟩
theorem YH(h:Ap 0 w (L_ (P_ a) j.length m) j)(b:Nat)(c:b<j.length)(d:hJ):Ap 0 (w.setCell (Q_ a (b*2+1)) (B_ d)) (L_ (P_ a) j.length m) (j.set b ((j[b]'c).1,d)):=by
 rcases h.2 with⟨_,u⟩|⟨y,z,g,e,n,o,p,q,r,s⟩
 ·omega
 ·simp only[xJ,xX,yT,yG,yB]at e;obtain⟨rfl,rfl⟩:=e;have t:b*2+1<g.size:=O_;have i:Al (j.set b ((j[b]'c).1,d))=(Al j).set (b*2+1) (B_ d):=by
   rw[List.set_eq_take_append_cons_drop,xD c,Dk];show Al (j.take b)++([Value.string (j[b]'c).1,Value.string d]++Al (j.drop (b+1)))=_;have k:Al j=Al (j.take b)++([Value.string (j[b]'c).1,Value.string (j[b]'c).2]++Al (j.drop (b+1))):=(by have l:Al j=Al (j.take b)++Al (j.drop b):=(by rw[<-Dk,zK]);rw[l,yM c];rfl);have f:(Al (j.take b)).length=b*2:=(by rw[Bw,xR];omega);rw[k,List.set_append,xB (by rw[f];omega),f,show b*2+1-b*2=1 by omega];rfl
  unfold Ap;rw[jV];refine⟨by rw[Bw,jV],.inr ⟨a,m,g.setIfInBounds (b*2+1) (B_ d),rfl,n,?_,p,q,by simpa using r,?_⟩⟩
  ·rw[Ak (i:=b*2+1) o]
  ·rw[qM,aA,s,i]
structure CM(w:World)(p:Nat)(vi vp vc:Value)(il:gY)(k:Int)(key x:hJ)(W:World):Prop where
 nod:Ax W p vi vp vc
 its:Ap 0 W vi il
 ch:ChB W w.heap.size k key x
 bel:Below w.heap.size w W
theorem CM.below(h:CM w a d f g j l i x W)(c:Below W.heap.size W b):CM w a d f g j l i x b:=
 ⟨(c.block a h.nod.lt).trans h.nod,Ae h.its c X_,(c.block _ h.ch.lt).trans h.ch,h.bel.trans (c.mono h.bel.size)⟩
theorem CM.drew(h:CM w a d f g j l i x b):CM w a d f g j l i x b.drew:=h.below (xA _ b).drew
theorem CM.alloc{w:World}{a:Nat}{d f g:Value}{j:gY}{l:Int}{i x:hJ}{b:World}(h:CM w a d f g j l i x b)(c:Obj):CM w a d f g j l i x (b.alloc c):=h.below ((xA _ b).alloc X_ c)
structure CS(w:World)(p:Nat)(vi vp vc:Value)(il:gY)(k:Int)(key x:hJ)(s:Option hE)(sb:Nat)(W:World):Prop where
 cm:CM w p vi vp vc il k key x W
 st:StB W sb (stV s) (stB s)
 lt:w.heap.size<sb
theorem Ab9(h:Below (W.alloc (C_ #[B_ ⟨#[]⟩,.bool false] 136)).heap.size (W.alloc (C_ #[B_ ⟨#[]⟩,.bool false] 136)) b):StB b W.heap.size ⟨#[]⟩ false:=
 (h.block W.heap.size D_).trans (xK _ _)
theorem StB.keep{W':World}{v:hJ}(h:StB b a v D)(c:Below b.heap.size b W'):StB W' a v D:=(c.block a h.lt).trans h
theorem Aeb(h:CM w a d f g j l i x b):CS w a d f g j l i x F b.heap.size (b.alloc (C_ #[B_ (stV F),.bool (stB F)] 136)):=
 ⟨h.alloc _,xK _ _,h.ch.lt⟩
theorem OL{O:hJ}(h:CM w a d f g j l i x b)(r:StB b m O D)(o:w.heap.size<m)(t:a<w.heap.size)(s:∀c,d.ownBlock=some c->c<w.heap.size):CS w a d f g j l i x F m ((b.setCell (Q_ m 0) (B_ (stV F))).setCell (Q_ m 1) (.bool (stB F))):=by have p:=Mod.setCell b m 0 (B_ (stV F));have q:=Mod.setCell (b.setCell (Q_ m 0) (B_ (stV F))) m 1 (.bool (stB F));have k:Mod (fun c=>c=m) b ((b.setCell (Q_ m 0) (B_ (stV F))).setCell (Q_ m 1) (.bool (stB F))):=p.trans q (fun _ _ n=>n) (fun _ _ n=>n);refine⟨⟨k.nod h.nod O_,k.row h.its (fun c n=>by have:=s c n;omega),(k.block _ h.ch.lt O_).trans h.ch,?_⟩,r.put _ _,o⟩;exact(h.bel.setCell (p:=(Q_ m 0)) (zX o) _).setCell (p:=(Q_ m 1)) (zX o) _
theorem OM(d:Nat)(i m n:Value)(a:gY)(j:Int)(b x:hJ)(w:World)(U:Ax w d i m n)(a8:Ap 0 w i a)(l0:a.length<=2000000)(V:Tr.Cb (Ab a))(f5:∀k∈a,k.2.size<=16)(l1:x.size<=16):
  Calls Tryz.prog 125 #[A_ d,.agg #[J_ j,B_ b,B_ x]] w fun r F=>r=R_ (.tuple #[])/\∃o S,YG d i m n w (Pc (Ab a) b.data.toList (Tr.Es (Ce (Ab a) b.data.toList) (chP j b x))) o S F:=by
 have a9:=Aa (Nf a b V);have f6:=Aa (Wl a9.o V);have f7:((Ce (Ab a) b.data.toList).getD []).length<=16:=by rw[f6.o];exact OK f5
 have W:=(xA w.heap.size w).alloc X_ (C_ #[J_ j,B_ b,B_ x] 34);have X:Hid (CM w d i m n a j b x (w.alloc (C_ #[J_ j,B_ b,B_ x] 34))):=⟨(W.block d U.lt).trans U,Ae a8 W X_,xK _ _,W⟩;have b0:=Aa U.lt;have b1:Hid (∀g,i.ownBlock=some g->g<w.heap.size):=fun g e7=>(xF a8 g e7).2
 have M:=Aa (Bg U a8 Do);have c9:=Aa (Wm d 0 i m n a b _ X.o.nod X.o.its O_ V);have d0:Hid (∀s,CM w d i m n a j b x s->Calls Tryz.prog 78 #[A_ d,B_ b] s fun r F=>r=R_ (.agg #[B_ (stV (Ce (Ab a) b.data.toList)),.bool (stB (Ce (Ab a) b.data.toList))])/\Below s.heap.size s F):=fun s f2=>Zv d 0 i m n a b s f2.nod f2.its O_ V
 have d1:Hid (∀s,Calls Tryz.prog 70 #[.agg #[B_ (stV (Ce (Ab a) b.data.toList)),.bool (stB (Ce (Ab a) b.data.toList))],.agg #[J_ j,B_ b,B_ x]] s fun r F=>r=R_ (.agg #[B_ (stV (Tr.Es (Ce (Ab a) b.data.toList) (chP j b x))),.bool (stB (Tr.Es (Ce (Ab a) b.data.toList) (chP j b x)))])/\Below s.heap.size s F):=fun s=>Tb _ j b x s O_ O_
 clear U a8 f5 V f7 W;go_in;go_wp2_with fail;refine c9.o.mono ?_;clear c9;generalize w.alloc (C_ #[J_ j,B_ b,B_ x] 34)=k9 at*;rintro r a3 ⟨rfl,e8⟩;have y:=Aa (X.o.below e8);clear e8 X;obtain⟨e3,e4,e5⟩:=y.o.ch.cells;have f8:w.heap.size<a3.heap.size:=y.o.ch.lt;generalize f4:Tr.Es (Ce (Ab a) b.data.toList) (chP j b x)=c7 at*;have Y:=Aa f4;clear f4;go_upto_region 2 with fail
 go_cut [4,5,6] (fun i6 i7 i8 i9=>i6=J_ ((Fc a b).length:Nat)/\i7=.bool (Dt (Dr a b) b)/\∃a2,i8=A_ a2/\CS w d i m n a j b x c7 a2 i9)
 case first=>
  go_region_law (first
   | (go_simp;go_at_call 78;refine(d0.o _ (by first|exact y.o.drew|exact y.o.drew.alloc _)).mono ?_;rintro r R ⟨rfl,c0⟩;have N:Hid (CM w d i m n a j b x R):=(by first|exact y.o.drew.below c0|exact(y.o.drew.alloc _).below c0);obtain⟨h6,h7,k1⟩:=N.o.ch.cells;have j3:w.heap.size<R.heap.size:=N.o.ch.lt;first|(have f9:StB R a3.heap.size ⟨#[]⟩ false:=Ab9 (W:=a3.drew) c0)|skip)
   | (go_simp;go_at_call 70;refine(d1.o _).mono ?_;rintro r c1 ⟨rfl,a4⟩;have b2:Hid (CM w d i m n a j b x c1):=(by first|exact N.o.below a4|exact(N.o.alloc _).below a4);first|(have t:StB c1 R.heap.size ⟨#[]⟩ false:=Ab9 (W:=R) a4;have g0:=t.cells.1;have g1:=t.cells.2.1;have d2:=t.cells.2.2.1;have d3:=t.cells.2.2.2)|(have t:StB c1 a3.heap.size ⟨#[]⟩ false:=StB.keep f9 a4;have g0:=t.cells.1;have g1:=t.cells.2.1;have d2:=t.cells.2.2.1;have d3:=t.cells.2.2.2)|skip))
  all_goals
   go_wp2_with fail;go_meet
   first
    | exact⟨rfl,rfl,_,rfl,Aeb b2.o⟩
    | exact⟨rfl,rfl,_,rfl,OL b2.o t N.o.ch.lt b0.o b1.o⟩
    | exact⟨rfl,rfl,_,rfl,OL b2.o t y.o.ch.lt b0.o b1.o⟩
 case rest=>
  obtain⟨rfl,rfl,a2,rfl,z⟩:=hcut;clear d0 d1 e3 e4 e5 f8 y;have l:=Aa z;obtain⟨k2,k3,d2,d3⟩:=z.st.cells;obtain⟨h8,h9,i0,i1,i2,i3⟩:=z.cm.nod.cells;obtain⟨e3,e4,e5⟩:=z.cm.ch.cells;have q:=a9.o.e;have d4:Hid (Mod (fun g=>g=d\/i.ownBlock=some g) w wc.drew):=Mod.of_below z.cm.bel.drew;have d5:Hid (Mod (fun g=>g=d\/i.ownBlock=some g) w wc):=Mod.of_below z.cm.bel;have g2:=Aa z.cm.bel.size;clear z a9;generalize a6:Fc a b=f at*;generalize a7:Dr a b=T at*;have d6:=Aa (yW List.length q)
  cases c8:Dt T b with
  | true=>
   obtain⟨k,A,rfl,e6⟩:∃k A,T=k::A/\k.1.data.toList=b.data.toList:=by
    cases T with
    | nil=>cases c8
    | cons k A=>exact⟨k,A,rfl,jZ c8⟩
   have Z:=Aa (fun c4=>VY a6 a7 e6 c4);have C:f.length<a.length:=(by have:=d6.o;rw[xC,xH]at this;omega);obtain⟨g,O,e,k4,-,e7,h6,h7⟩:=l.o.cm.its.at f.length C;have b3:a[f.length]'C=k:=(by have:a[f.length]?=some k:=(by rw[q];simp);rw[xW C]at this;exact xM this);clear a6 a7
   cases c7 with
   | some v=>
    subst e;have j4:wc.frozen? (Q_ g (f.length*2+1))=false:=by
     rcases l.o.cm.its.2 with⟨h0,_⟩|⟨B,k7,k8,f1,_,p,_⟩
     ·simp at h0
     ·simp only[xJ,xX,yT,yG,yB]at f1;obtain⟨rfl,rfl⟩:=f1;simp[World.frozen?,p]
    have D:Hid (∃o S,YG d (L_ (P_ g) a.length O) m n w (Pc (Ab a) b.data.toList (some v)) o S (wc.drew.setCell (Q_ g (f.length*2+1)) (B_ (stV (some v))))):=by
     have g3:=YH (w:=wc.drew) l.o.cm.its f.length C (stV (some v));have d7:=Mod.setCell wc.drew g (f.length*2+1) (B_ (stV (some v)));have g4:g≠d:=fun c=>M.o (by rw[<-c];rfl)
     refine⟨_,_,⟨d7.nod l.o.cm.nod (fun c=>g4 c.symm),g3,?_,d4.o.trans d7 (fun _ _ c=>c) (fun j _ c=> .inr (by rw[c];rfl)),fun B p=> .inl p⟩⟩;rw[Z.o,b3];have g5:a.set f.length (k.1,stV (some v))=f++(k.1,stV (some v))::A:=(by rw[q,List.set_append,xB (bS _),bU,zF]);rw[g5,Lg];show Ab f++((k.1.data.toList,(stV (some v)).data.toList)::Ab A)=_;rw[e6];rfl
    have j5:f.length<=O:=O_;clear b3 q Z;go_upto_region 4 with fail
    go_region_law (fail)
    all_goals
     go_wp2_with fail;go_end0;exact⟨rfl,by rw[Y.o];exact D.o⟩
   | none=>
    subst e;have d8:=Aa (OF (L_ (P_ g) a.length O) a f.length wc C l.o.cm.its O_);have g6:Hid (Ab (a.take f.length++a.drop (f.length+1))=Pc (Ab a) b.data.toList none):=by
     show _=_;rw[Z.o,Lg];congr 1
     ·rw[q,jB]
     ·rw[q,show f.length+1=(f++[k]).length by simp,show f++k::A=(f++[k])++A by simp,jQ];rfl
    have j6:IntKind.i64.wrap ((f.length:Int)+1)=(f.length:Int)+1:=(by rw[yZ];omega);clear b3 q Z;go_wp2_with fail;refine d8.o.mono ?_;rintro r u ⟨o,rfl,c2,e9,c3⟩;obtain⟨I,J,L,i4⟩:∃b8 j2 b9,o=Value.slice b8 j2 b9:=(by obtain⟨b8,b9,e⟩:=Ad c2;exact⟨b8,_,b9,e⟩);have b4:=Mod.of_grown e9;have b5:=b4.nod l.o.cm.nod M.o;obtain⟨h2,h3,h4,h5,k5,k6⟩:=b5.cells;have D:Hid (∃c5 c6,YG d (L_ (P_ g) a.length O) m n w (Pc (Ab a) b.data.toList none) c5 c6 (u.setCell (Q_ d 0) o)):=by
     have b6:o.ownBlock≠some d:=fun c=>M.o (by rw[<-c3];exact c)
     have G:=Mod.setCell u d 0 o;refine⟨o,_,⟨b5.seti o,G.row c2 (fun B p c=>b6 (by rw[<-c];exact p)),g6.o,(d5.o.trans b4 (H:=fun B=>B=d\/(Value.slice (P_ g) a.length O).ownBlock=some B) (fun _ _ c=>c) (fun j _ c=> .inr c)).trans G (fun _ _ c=>c) (fun j _ c=> .inl c),fun B p=> .inl (by rw[<-c3];exact p)⟩⟩
    clear c2 e9 c3 b4 b5 h8 h9 i0 i1 i2 i3 d8;subst i4;go_wp2_with fail;go_end0;exact⟨rfl,by rw[Y.o];exact D.o⟩
  | false=>
   have a0:=Aa (fun c4=>Ab8 a6 a7 c8 c4);clear a6 a7;have C:f.length<=a.length:=by have:=d6.o;rw[xC]at this;omega
   cases c7 with
   | some v=>
    have g7:Hid (∀u:World,u.heap[wc.heap.size]?=some (C_ #[B_ b,B_ (stV (some v))] 51 (0,0))->Ap 0 u i a->Calls Tryz.prog 171 #[i,J_ (f.length:Nat),L_ (P_ wc.heap.size) 1 1] u fun r F=>∃f3,r=R_ f3/\SW i (Tp a f.length (b,stV (some v))) u f3 F):=fun u j0 j1=>OI i a f.length (b,stV (some v)) wc.heap.size u C j1 O_ j0 (fun c=>by have:=b1.o _ c;have:=g2.o;omega)
    have b7:=Aa ((xA wc.drew.heap.size wc.drew).alloc X_ (C_ #[B_ b,B_ (stV (some v))] 51));have g8:Hid (Ap 0 (wc.drew.alloc (C_ #[B_ b,B_ (stV (some v))] 51)) i a):=Ae (w:=wc.drew) l.o.cm.its b7.o X_;have g9:Hid (Ax (wc.drew.alloc (C_ #[B_ b,B_ (stV (some v))] 51)) d i m n):=(b7.o.block d l.o.cm.nod.lt).trans l.o.cm.nod;have d9:Hid (Mod (fun g=>g=d\/i.ownBlock=some g) w (wc.drew.alloc (C_ #[B_ b,B_ (stV (some v))] 51))):=d4.o.trans (Mod.of_below (F:=fun _=>False) b7.o) (fun _ _ c=>c) (fun _ _ c=>c.elim);have h1:Hid (Ab (Tp a f.length (b,stV (some v)))=Pc (Ab a) b.data.toList (some v)):=by
     show _=_;rw[a0.o];unfold Tp;rw[Lg];congr 1
     ·rw[q,jB]
     ·have:a.drop f.length=T:=(by rw[q,jQ]);rw[this];rfl
    clear q a0;have j7:d<wc.heap.size:=l.o.cm.nod.lt;have j8:w.heap.size<wc.heap.size:=l.o.cm.ch.lt;have j9:a2<wc.heap.size:=l.o.st.lt;go_upto_region 8 with fail
    go_region_law (go_simp;go_at_call 171;refine(g7.o _ (xK wc.drew _) g8.o).mono ?_;rintro r f0 ⟨o,rfl,a5⟩;obtain⟨I,J,L,rfl⟩:=Fo a5.o;have G:=Mod.of_grown a5.g;have H:=G.nod g9.o M.o;have h2:=H.cells.1;have h3:=H.cells.2.1;have h4:=H.cells.2.2.1;have h5:=H.cells.2.2.2.1;have a1:=Aa a5;have e0:=Aa H;have e1:=Aa (d9.o.trans G (H:=fun g=>g=d\/i.ownBlock=some g) (fun _ _ c=>c) (fun j _ c=> .inr c));clear a5 G H)
    all_goals
     have D:Hid (∃c5 c6,YG d i m n w (Pc (Ab a) b.data.toList (some v)) c5 c6 (f0.setCell (Q_ d 0) (Value.slice I J L))):=by
      have k0:w.heap.size<=(wc.drew.alloc (C_ #[B_ b,B_ (stV (some v))] 51)).heap.size:=d9.o.size;have b6:(Value.slice I J L).ownBlock≠some d:=fun c=>by
       rcases a1.o.b with h|⟨j,i5,h⟩
       ·exact M.o (by rw[<-h];exact c)
       ·rw[h]at c;have:=xM c;have:=b0.o;omega
      have e2:=Mod.setCell f0 d 0 (Value.slice I J L);refine⟨(Value.slice I J L),_,⟨e0.o.seti (Value.slice I J L),e2.row a1.o.o (fun B p c=>b6 (by rw[<-c];exact p)),h1.o,e1.o.trans e2 (fun _ _ c=>c) (fun j _ c=> .inl c),fun B p=> ?_⟩⟩;rcases a1.o.b with h|⟨j,i5,h⟩
      ·exact .inl (by rw[<-h];exact p)
      ·rw[h]at p;exact .inr (by have:=xM p;omega)
     clear a1 e0 e1;go_wp2_with fail;go_end0;exact⟨rfl,by rw[Y.o];exact D.o⟩
   | none=>
    have D:Hid (∃o S,YG d i m n w (Pc (Ab a) b.data.toList none) o S wc):=⟨i,a,l.o.cm.nod,l.o.cm.its,by rw[a0.o];show Ab a=Ab f++Ab T;rw[<-Lg,<-q],d5.o,fun _ c=> .inl c⟩;clear q a0;go_wp2_with fail;go_end0;exact⟨rfl,by rw[Y.o];exact D.o⟩
