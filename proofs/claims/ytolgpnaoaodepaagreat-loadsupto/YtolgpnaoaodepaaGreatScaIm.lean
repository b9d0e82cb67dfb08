import Derived.Test.YtolgpnaoaodepaaGreatImDm
set_option maxHeartbeats 2000000
set_option maxRecDepth 4000
namespace Go.Proofs.YtolgpnaoaodepaaGreat
open Go.RowKit
variable {w c s wr:World}{a q r:Nat}{v:Value}{g i C:hJ}{K:Nat->ByteArray×Nat}{l m:hF}
theorem Zd(a:Addr)(w:World)(v:Value)(h:w.cell? a=some v):(load a).run Tryz.prog w=.ok v w:=by go_simp
theorem Aha(a:Addr)(w:World):(method 417 193 (.pointer (some a)) "Len").run Tryz.prog w=((load a) >>=fun x=>pure (292,x):Sem _).run Tryz.prog w:=S_
theorem Ag3(a:Addr)(w:World):(method 417 193 (.pointer (some a)) "Less").run Tryz.prog w=((load a) >>=fun x=>pure (293,x):Sem _).run Tryz.prog w:=S_
theorem Ag4(a:Addr)(w:World):(method 417 193 (.pointer (some a)) "Swap").run Tryz.prog w=((load a) >>=fun x=>pure (294,x):Sem _).run Tryz.prog w:=S_
theorem Ahk(a:Addr)(w:World):(method 417 193 (.pointer (some a)) "Pop").run Tryz.prog w=.ok (295,.pointer (some a)) w:=S_
theorem Ahb(a:Addr)(w:World):(method 417 193 (.pointer (some a)) "Push").run Tryz.prog w=.ok (296,.pointer (some a)) w:=S_
theorem Ahc(a:Addr)(w:World)(v:Value)(h:w.cell? a=some v):(method 417 193 (.pointer (some a)) "Len").run Tryz.prog w=.ok (292,v) w:=by rw[Aha];have:=Zd a w v h;go_simp
theorem Acy(a:Addr)(w:World)(v:Value)(h:w.cell? a=some v):(method 417 193 (.pointer (some a)) "Less").run Tryz.prog w=.ok (293,v) w:=by rw[Ag3];have:=Zd a w v h;go_simp
theorem Acz(a:Addr)(w:World)(v:Value)(h:w.cell? a=some v):(method 417 193 (.pointer (some a)) "Swap").run Tryz.prog w=.ok (294,v) w:=by rw[Ag4];have:=Zd a w v h;go_simp
theorem Eo{y:Array Value}{z:TypeId}(h:w.heap[a]?=some (.cells y z (0,0))){e:TypeId}{u:Nat}{A:hH}(f:w.ownsRow q e r v u A)(g:e≠z):v.ownBlock≠some a:=by
 intro c;rcases f.2 with⟨rfl,_⟩|⟨d,i,j,rfl,k,b,_⟩
 ·simp[Value.ownBlock]at c
 ·have:d=a:=by simpa[Value.ownBlock]using c
  subst this;rw[h]at b;simp at b;exact g b.2.symm
theorem GA{B:Option Nat}(a:w.grownBy c B)(b:c.grownBy s B):w.grownBy s B:=
 ⟨b.os.trans a.os,b.tape.trans a.tape,b.output.trans a.output,xI a.size b.size,fun d f g=>(b.block d (yF f a.size) g).trans (a.block d f g)⟩
theorem QQ(d:Option Nat)(h:Below w.heap.size w c):w.grownBy c d:=⟨h.os,h.tape,h.output,h.size,fun a b _=>h.block a b⟩
def Ag5(r:Ending):Prop:=∃q,r=R_ (.bool q)
def PlK(w:World)(K:Nat->ByteArray×Nat)(bs:hF):Prop:=∀b∈bs,∃un ch,PlB w b (K b).1 (K b).2 un ch
def ltK(K:Nat->ByteArray×Nat)(a b:Nat):Prop:=Sr (K a).1 (K a).2 (K b).1 (K b).2=true
structure HpS(w:World)(sb:Nat)(fr ub:hJ)(v:Value)(K:Nat->ByteArray×Nat)(bs0 bs:hF)(wr:World):Prop where
 sc:ScB wr sb fr ub v
 row:Ea 0 wr v bs
 pl:PlK wr K bs
 perm:bs.Perm bs0
 gr:w.grownBy wr v.ownBlock
theorem HpS.below(h:HpS w a g i v K l m wr)(b:Below wr.heap.size wr c):HpS w a g i v K l m c:=
 ⟨(b.block a h.sc.lt).trans h.sc,Ae h.row b X_,fun f n=>by obtain⟨j,k,d⟩:=h.pl f n;exact⟨j,k,(b.block f d.lt).trans d⟩,h.perm,GA h.gr (QQ _ b)⟩
theorem HpS.swap(h:HpS w a g C v K l m wr){i j:Nat}(s:i<m.length)(t:j<m.length)(u:Ea 0 c v (Hp.swL 0 m i j))(k:wr.grownBy c v.ownBlock):HpS w a g C v K l (Hp.swL 0 m i j) c:=by
 have n:=Hp.PQ 0 m s t;have r:∀b∈m,v.ownBlock≠some b:=fun b f=>by obtain⟨p,q,d⟩:=h.pl b f;exact Eo d h.row Do
 refine⟨(k.block a h.sc.lt (fun e=>Eo h.sc h.row Do e.symm)).trans h.sc,u,fun b f=> ?_,n.trans h.perm,GA h.gr k⟩;have o:=n.mem_iff.1 f;obtain⟨p,q,d⟩:=h.pl b o;exact⟨p,q,(k.block b d.lt (fun e=>r b o e.symm)).trans d⟩
theorem ZS(y:Nat)(U V:hJ)(v:Value)(K:Nat->ByteArray×Nat)(j:hF)(d:Nat)(w:World)(b6:ScB w y U V v)(h:Ea 0 w v j)(t:PlK w K j)(d3:d<=j.length)(d4:j.length<=1000000000)(b7:Hp.Qx (ltK K) (Hp.nth 0 j) d 0)(b8:Hp.Ord (ltK K)):
  Calls Tryz.prog 185 #[.iface 193 (.pointer (some (Q_ y 2))),J_ 0,J_ (d:Nat)] w fun s a7=>Ag5 s/\∃b,HpS w y U V v K j b a7/\Hp.Rc (ltK K) (Hp.nth 0 b) d/\∀c,d<=c->Hp.nth 0 b c=Hp.nth 0 j c:=by
 have b9:Hid (HpS w y U V v K j j w):=⟨b6,h,t,vP _,fQ _ _⟩;have c0:=Aa b7;have D:=Aa b8;clear b6 h t b7 b8;go_in;go_wp2_with fail
 go_loopw [7] (fun a8 wr=>∃a b,a8=J_ (a:Nat)/\a<2000000000/\HpS w y U V v K j b wr/\Hp.Qx (ltK K) (Hp.nth 0 b) d a/\∀c,d<=c->Hp.nth 0 b c=Hp.nth 0 j c) (fun a8 _=>d-(intOf a8).toNat)
 case atStart=>exact⟨0,j,rfl,Do,b9.o,c0.o,fun _ _=>rfl⟩
 case round=>
  obtain⟨a,b,rfl,d0,a5,b1,b2⟩:=hrel;have l:=Aa a5;have W:=Aa b1;have X:=Aa b2;have c8:b.length=j.length:=a5.perm.length_eq;clear a5 b1 b2;have Y:IntKind.i64.wrap (2*(a:Int))=((2*a:Nat):Int):=by rw[yZ];omega
  have Z:IntKind.i64.wrap (((2*a:Nat):Int)+1)=((2*a+1:Nat):Int):=by rw[yZ];omega
  have a0:IntKind.i64.wrap (((2*a+1:Nat):Int)+1)=((2*a+2:Nat):Int):=by rw[yZ];omega
  by_cases b5:2*a+1<d
  ·have L:¬((d:Int)<=((2*a+1:Nat):Int)):=O_;have a1:¬(((2*a+1:Nat):Int)<0):=O_;have k:2*a+1<b.length:=O_;have o:a<b.length:=O_;have M:Hid ((∃f:2*a+2<b.length,2*a+2<d/\Sr (K (b[2*a+2]'f)).1 (K (b[2*a+2]'f)).2 (K (b[2*a+1]'k)).1 (K (b[2*a+1]'k)).2=true)\/(∃f:2*a+2<b.length,2*a+2<d/\Sr (K (b[2*a+2]'f)).1 (K (b[2*a+2]'f)).2 (K (b[2*a+1]'k)).1 (K (b[2*a+1]'k)).2=false)\/¬2*a+2<d):=by
    by_cases a9:2*a+2<d
    ·have N:2*a+2<b.length:=O_
     cases g:Sr (K (b[2*a+2]'N)).1 (K (b[2*a+2]'N)).2 (K (b[2*a+1]'k)).1 (K (b[2*a+1]'k)).2 with
     | true=>exact .inl ⟨N,a9,g⟩
     | false=>exact .inr (.inl ⟨N,a9,g⟩)
    ·exact .inr (.inr a9)
   have F:Hid (∀f:2*a+2<b.length,Calls Tryz.prog 293 #[v,J_ (2*(a:Int)+1+1),J_ (2*(a:Int)+1)] wr fun s a7=>s=R_ (.bool (Sr (K (b[2*a+2]'f)).1 (K (b[2*a+2]'f)).2 (K (b[2*a+1]'k)).1 (K (b[2*a+1]'k)).2))/\Below wr.heap.size wr a7):=(by intro f;obtain⟨u1,c5,I⟩:=l.o.pl _ (yA k);obtain⟨u2,c6,J⟩:=l.o.pl _ (yA f);have:=Zb v b (2*a+2) (2*a+1) wr l.o.row f k _ _ _ _ _ _ _ _ J I;rw[show((2*a+2:Nat):Int)=2*(a:Int)+1+1 by omega,show((2*a+1:Nat):Int)=2*(a:Int)+1 by omega]at this;exact this);have z:=Hp.Eu 0 b k;have O:=Acy (Q_ y 2) wr v l.o.sc.cells.2.2.1;have b0:=Aa z;clear z;rcases M.o with⟨f,B,g⟩|⟨f,B,g⟩|B
   case' inl=>
    have m:=Hp.Eu 0 b f;have R:Hid (∀c,0<c->c<d->(c-1) / 2=a->¬ltK K (Hp.nth 0 b c) (Hp.nth 0 b (2*a+2))):=fun c h0 C t=>by
     rcases(show c=2*a+1\/c=2*a+2 by omega)with rfl|rfl
     ·refine D.o.asy ?_;rw[b0.o,m];exact g
     ·exact fun u=>D.o.asy u u
    have A:=Aa (F.o f);rw[g]at A;have G:(2*(a:Int)+1+1)<(d:Int):=O_;clear g m M F;go_wp2_with fail;refine A.o.mono ?_;rintro s T ⟨rfl,n⟩;have q:=Aa (l.o.below n);clear n A l O;go_upto_region 8 with fail;have r:2*(a:Int)+1+1=((2*a+2:Nat):Int):=O_;rw[r];have a2:2*a+2<b.length/\a<2*a+2/\(2*a+2-1) / 2=a:=⟨f,O_,O_⟩;clear r Y Z a0 L a1 G;generalize 2*a+2=i at*
   case' inr.inl=>
    have m:=Hp.Eu 0 b f;have R:Hid (∀c,0<c->c<d->(c-1) / 2=a->¬ltK K (Hp.nth 0 b c) (Hp.nth 0 b (2*a+1))):=fun c h0 C t=>by
     rcases(show c=2*a+1\/c=2*a+2 by omega)with rfl|rfl
     ·exact fun u=>D.o.asy u u
     ·rw[b0.o,m];unfold ltK;rw[g];simp
    have A:=Aa (F.o f);rw[g]at A;have G:(2*(a:Int)+1+1)<(d:Int):=O_;clear g m M F;go_wp2_with fail;refine A.o.mono ?_;rintro s T ⟨rfl,n⟩;have q:=Aa (l.o.below n);clear n A l O;go_upto_region 8 with fail;have r:2*(a:Int)+1=((2*a+1:Nat):Int):=O_;rw[r];clear B;have B:2*a+1<d:=b5;have a2:2*a+1<b.length/\a<2*a+1/\(2*a+1-1) / 2=a:=⟨k,O_,O_⟩;clear r Y Z a0 L a1 G;generalize 2*a+1=i at*
   case' inr.inr=>
    have R:Hid (∀c,0<c->c<d->(c-1) / 2=a->¬ltK K (Hp.nth 0 b c) (Hp.nth 0 b (2*a+1))):=fun c h0 C t=>by
     rcases(show c=2*a+1\/c=2*a+2 by omega)with rfl|rfl
     ·exact fun u=>D.o.asy u u
     ·omega
    have G:¬((2*(a:Int)+1+1)<(d:Int)):=O_;clear M F O;have q:=Aa l.o;clear l;go_upto_region 8 with fail;have r:2*(a:Int)+1=((2*a+1:Nat):Int):=O_;rw[r];clear B;have B:2*a+1<d:=b5;have a2:2*a+1<b.length/\a<2*a+1/\(2*a+1-1) / 2=a:=⟨k,O_,O_⟩;clear r Y Z a0 L a1 G;generalize 2*a+1=i at*;generalize wr=T at*
   all_goals
    obtain⟨p,d1,c7⟩:=a2;obtain⟨u1,c5,I⟩:=q.o.pl _ (yA p);obtain⟨u2,c6,J⟩:=q.o.pl _ (yA o);have S:=Aa (Zb v b i a T q.o.row p o _ _ _ _ _ _ _ _ I J);have O:=Acy (Q_ y 2) T v q.o.sc.cells.2.2.1;have z:=Hp.Eu 0 b p;have m:=Hp.Eu 0 b o
    cases g:Sr (K (b[i]'p)).1 (K (b[i]'p)).2 (K (b[a]'o)).1 (K (b[a]'o)).2 with
    | true=>
     rw[g]at S;have a3:Hid (ltK K (Hp.nth 0 b i) (Hp.nth 0 b a)):=(by show ltK K _ _;rw[z,m];exact g);clear I J z m g;go_wp2_with fail;refine S.o.mono ?_;rintro s a6 ⟨rfl,n⟩;have H:=Aa (q.o.below n);have c9:=Acz (Q_ y 2) a6 v H.o.sc.cells.2.2.1;have c1:=Aa (Zc v b a i a6 H.o.row o p);go_wp2_with fail;refine c1.o.mono ?_;rintro s d2 ⟨rfl,b3,b4,-⟩;have c2:=Aa (H.o.swap o p b3 b4);have c3:Hid (Hp.Qx (ltK K) (Hp.nth 0 (Hp.swL 0 b a i)) d i):=(by have:=W.o.step D.o B O_ c7 R.o a3.o;rw[show Hp.nth 0 (Hp.swL 0 b a i)=Hp.swp (Hp.nth 0 b) a i from funext fun c=>Hp.Xf 0 b o p c];exact this);have c4:Hid (∀c,d<=c->Hp.nth 0 (Hp.swL 0 b a i) c=Hp.nth 0 j c):=fun c C=>by rw[Hp.Xf 0 b o p c,Hp.Nq _ O_ O_];exact X.o c C
     clear b3 b4 n;go_wp2_with fail;exact⟨⟨i,_,rfl,O_,c2.o,c3.o,c4.o⟩,by simp[intOf];omega⟩
    | false=>
     rw[g]at S;have a3:Hid (¬ltK K (Hp.nth 0 b i) (Hp.nth 0 b a)):=(by show ¬ltK K _ _;rw[z,m];unfold ltK;rw[g];simp);have a4:Hid (Hp.Rc (ltK K) (Hp.nth 0 b) d):=W.o.done fun c h0 C t=>D.o.tr a3.o (R.o c h0 C t)
     clear I J z m g;go_wp2_with fail;refine S.o.mono ?_;rintro s a6 ⟨rfl,n⟩;have H:=Aa (q.o.below n);go_wp2_with fail;go_ret;exact⟨⟨_,rfl⟩,b,H.o,a4.o,X.o⟩
  ·have L:(d:Int)<=((2*a+1:Nat):Int):=O_;have a4:Hid (Hp.Rc (ltK K) (Hp.nth 0 b) d):=W.o.done fun c h0 C t=>O_
   go_wp2_with fail;go_ret;exact⟨⟨_,rfl⟩,b,l.o,a4.o,X.o⟩
theorem Aey(k:Nat)(s t:hJ)(v:Value)(K:Nat->ByteArray×Nat)(d:hF)(f:Nat)(w:World)(L:ScB w k s t v)(h:Ea 0 w v d)(M:PlK w K d)(b3:d.length=f+1)(b4:d.length<=1000000000)(N:Hp.Rc (ltK K) (Hp.nth 0 d) f)(O:Hp.Ord (ltK K)):
  Calls Tryz.prog 236 #[.iface 193 (.pointer (some (Q_ k 2))),J_ (f:Nat)] w fun q Y=>q=R_ (.tuple #[])/\∃a,HpS w k s t v K d a Y/\Hp.Rc (ltK K) (Hp.nth 0 a) (f+1):=by
 have R:Hid (HpS w k s t v K d d w):=⟨L,h,M,vP _,fQ _ _⟩;have S:Hid (Hp.UpI (ltK K) (Hp.nth 0 d) (f+1) f):=Hp.UpI.start N;have T:=Aa O;clear L h M N O;go_in;go_wp2_with fail
 go_loopw [1] (fun D wr=>∃b a,D=J_ (b:Nat)/\b<=f/\HpS w k s t v K d a wr/\Hp.UpI (ltK K) (Hp.nth 0 a) (f+1) b) (fun D _=>(intOf D).toNat)
 case atStart=>exact⟨f,d,rfl,X_,R.o,S.o⟩
 case round=>
  obtain⟨b,a,rfl,a9,z,G⟩:=hrel;have j:=Aa z;have u:=Aa G;have a1:a.length=d.length:=z.perm.length_eq;clear z G;have a2:IntKind.i64.wrap ((b:Int)-1)=(b:Int)-1:=by rw[yZ];omega
  by_cases a0:b=0
  ·subst a0;have y:Hid (Hp.Rc (ltK K) (Hp.nth 0 a) (f+1)):=u.o.done (.inl rfl);go_wp2_with fail;go_end0;exact⟨rfl,a,j.o,y.o⟩
  ·obtain⟨c,H⟩:∃c,c=(b-1) / 2:=⟨_,rfl⟩;have a3:c<b:=O_;have a4:IntKind.i64.wrap (((b:Int)-1).tdiv 2)=(c:Int):=by
    rw[show((b:Int)-1)=((b-1:Nat):Int)by omega,gA O_,yZ];omega
   have a5:((b:Int)-1).tdiv 2=(c:Int):=(by rw[show((b:Int)-1)=((b-1:Nat):Int)by omega,gA O_];omega);have F:=Aa H;clear H;have a6:((c:Int)==(b:Int))=false:=K_;have g:b<a.length:=O_;have i:c<a.length:=O_;obtain⟨u1,b0,A⟩:=j.o.pl _ (yA g);obtain⟨u2,b1,B⟩:=j.o.pl _ (yA i);have n:=Aa (Zb v a b c wr j.o.row g i _ _ _ _ _ _ _ _ A B);have a7:=Acy (Q_ k 2) wr v j.o.sc.cells.2.2.1;have o:=Hp.Eu 0 a g;have p:=Hp.Eu 0 a i
   cases l:Sr (K (a[b]'g)).1 (K (a[b]'g)).2 (K (a[c]'i)).1 (K (a[c]'i)).2 with
   | true=>
    rw[l]at n;have U:Hid (ltK K (Hp.nth 0 a b) (Hp.nth 0 a c)):=(by show ltK K _ _;rw[o,p];exact l);clear A B o p l;go_wp2_with fail;refine n.o.mono ?_;rintro q C ⟨rfl,r⟩;have m:=Aa (j.o.below r);have a8:=Acz (Q_ k 2) C v m.o.sc.cells.2.2.1;have V:=Aa (Zc v a c b C m.o.row i g);go_wp2_with fail;refine V.o.mono ?_;rintro q b2 ⟨rfl,I,J,-⟩;have W:=Aa (m.o.swap i g I J);have X:Hid (Hp.UpI (ltK K) (Hp.nth 0 (Hp.swL 0 a c b)) (f+1) c):=(by have:=u.o.step T.o F.o O_ O_ U.o;rw[show Hp.nth 0 (Hp.swL 0 a c b)=Hp.swp (Hp.nth 0 a) c b from funext fun Z=>Hp.Xf 0 a i g Z];exact this);clear I J r;go_wp2_with fail;exact⟨⟨c,_,rfl,O_,W.o,X.o⟩,by simp[intOf];omega⟩
   | false=>
    rw[l]at n;have y:Hid (Hp.Rc (ltK K) (Hp.nth 0 a) (f+1)):=u.o.done (.inr (by rw[<-F.o,o,p];unfold ltK;rw[l];simp));clear A B o p l;go_wp2_with fail;refine n.o.mono ?_;rintro q C ⟨rfl,r⟩;have m:=Aa (j.o.below r);go_wp2_with fail;go_end0;exact⟨rfl,a,m.o,y.o⟩
theorem HpS.trans{D:hF}(d:HpS w a g i v K l m c)(b:HpS c a g i v K m D s):HpS w a g i v K l D s:=⟨b.sc,b.row,b.pl,b.perm.trans d.perm,GA d.gr b.gr⟩
structure HpQ(sb:Nat)(fr ub:hJ)(v:Value)(K:Nat->ByteArray×Nat)(bs:hF)(w:World):Prop where
 sc:ScB w sb fr ub v
 row:Ea 0 w v bs
 pl:PlK w K bs
 heap:Hp.Rc (ltK K) (Hp.nth 0 bs) bs.length
theorem QR(b:hF)(h:b.length=a+1):b=b.take a++[Hp.nth 0 b a]:=by rw[Hp.Eu 0 b O_,List.take_append_getElem O_,yY O_]
theorem Ad0(c:Nat)(o p:hJ)(v:Value)(K:Nat->ByteArray×Nat)(b:hF)(w:World)(h:HpQ c o p v K b w)(a7:0<b.length)(a8:b.length<=1000000000)(n:Hp.Ord (ltK K)):
  Calls Tryz.prog 131 #[.iface 193 (.pointer (some (Q_ c 2)))] w fun q f=>∃l a g,q=R_ (.iface 137 (A_ l))/\b.Perm (l::a)/\(∀j∈a,¬ltK K j l)/\HpQ c o p g K a f/\g.ownBlock=v.ownBlock/\(∀d,d<w.heap.size->d≠c->v.ownBlock≠some d->f.heap[d]?=w.heap[d]?)/\w.heap.size<=f.heap.size/\f.os=w.os/\f.tape=w.tape/\f.output=w.output:=by
 obtain⟨a,C⟩:∃a,b.length=a+1:=⟨b.length-1,O_⟩;obtain⟨Y,j,m⟩:=Ad h.row;have N:Hid (HpS w c o p v K b b w):=⟨h.sc,h.row,h.pl,vP _,fQ _ _⟩;have y:=Aa h.heap;have D:=Aa n;have a1:=Ahc (Q_ c 2) w v h.sc.cells.2.2.1;have a2:=Acz (Q_ c 2) w v h.sc.cells.2.2.1;have k:=Aa (Zc v b 0 a w h.row O_ O_);have a3:IntKind.i64.wrap (((a+1:Nat):Int)-1)=(a:Int):=by rw[yZ];omega
 have a4:IntKind.i64.wrap ((a:Int)+1-1)=(a:Int):=by rw[yZ];omega
 have i:=Aa (QP Y b.length j w);rw[<-m,C]at i;clear m;have a5:=fun f=>Ahk (Q_ c 2) f
 clear h n;go_in;go_wp2_with fail;refine i.o.mono ?_;rintro q w ⟨rfl,rfl⟩;go_wp2_with fail;refine k.o.mono ?_;rintro q a0 ⟨rfl,n,r,-⟩;have f:=N.o.swap (i:=0) (j:=a) O_ O_ n r;have F:Hp.nth 0 (Hp.swL 0 b 0 a)=Hp.swp (Hp.nth 0 b) 0 a:=funext fun s=>Hp.Xf 0 b O_ O_ s
 have m:Hp.Qx (ltK K) (Hp.nth 0 (Hp.swL 0 b 0 a)) a 0:=by rw[F];have:=y.o;rw[C]at this;exact Hp.Qx.start this
 have O:(Hp.swL 0 b 0 a).length=a+1:=by rw[Hp.Aeq,C]
 have R:=Aa (ZS c o p v K (Hp.swL 0 b 0 a) a a0 f.sc f.row f.pl O_ O_ m D.o);have S:=Aa f;clear f m n r k i;go_wp2_with fail;refine R.o.mono ?_;rintro q k ⟨⟨n,rfl⟩,i,r,u,A⟩;have T:i.length=a+1:=by rw[r.perm.length_eq,O]
 have t:Hp.nth 0 i a=Hp.nth 0 b 0:=by rw[A a X_,F,Hp.AH]
 have z:=QR i T;rw[t]at z;have f:=S.o.trans r;have m:=f.row;rw[z]at m;have G:=Aa (Acx c o p v (i.take a) (Hp.nth 0 b 0) k f.sc m K_);have H:=Aa f;have I:=Aa z;have J:=Aa u;clear r u A f m t;go_wp2_with fail;refine G.o.mono ?_;rintro q a6 ⟨rfl,g,rfl,u,M⟩;have U:Hid (b.Perm (Hp.nth 0 b 0::i.take a)/\(∀j∈i.take a,¬ltK K j (Hp.nth 0 b 0))/\HpQ c o p g K (i.take a) (k.setCell (Q_ c 2) g)/\g.ownBlock=v.ownBlock/\(∀d,d<w.heap.size->d≠c->v.ownBlock≠some d->(k.setCell (Q_ c 2) g).heap[d]?=w.heap[d]?)/\w.heap.size<=(k.setCell (Q_ c 2) g).heap.size/\(k.setCell (Q_ c 2) g).os=w.os/\(k.setCell (Q_ c 2) g).tape=w.tape/\(k.setCell (Q_ c 2) g).output=w.output):=by
  have f:=H.o;have m:=Be c 2 k g;have L:b.Perm (Hp.nth 0 b 0::i.take a):=by
   have A:=f.perm.symm;have B:i.Perm (Hp.nth 0 b 0::i.take a):=by
    conv=>lhs;rw[I.o]
    exact qD
   exact A.trans B
  refine⟨L,fun j t=> ?_,⟨f.sc.set g,?_,fun l X=> ?_,?_⟩,M,fun d r A B=> ?_,?_,?_,?_,?_⟩
  ·have V:j∈b:=L.mem_iff.2 (xZ _ t);obtain⟨s,t9,rfl⟩:=jK V;have:=y.o.root D.o s t9;rw[Hp.Eu 0 b t9]at this;exact this
  ·refine Bx u fun d r _=>m.block d ?_ (fun e=> ?_)
   ·exact(xF u d r).2
   ·have:d=c:=(by simpa using e);rw[this]at r;exact Eo f.sc u Do r
  ·have W:l∈i:=vU X;obtain⟨Z,j,n⟩:=f.pl l W;refine⟨Z,j,(m.block l n.lt (fun e=> ?_)).trans n⟩;have e:l=c:=(by simpa using e);rw[e]at n;have l:=f.sc;unfold PlB at n;unfold ScB at l;rw[n]at l;simp at l
  ·have X:(i.take a).length=a:=(by rw[xR];omega);rw[X];refine J.o.congr fun s t=> ?_
   unfold Hp.nth;rw[qU t]
  ·exact(m.block d (by have:=f.gr.size;omega) (fun e=>A (by simpa using e))).trans (f.gr.block d r (fun e=>B e.symm))
  ·have:=f.gr.size;have:=m.size;omega
  ·exact m.os.trans f.gr.os
  ·exact m.tape.trans f.gr.tape
  ·exact m.output.trans f.gr.output
 clear H I J G y u M;go_wp2_with fail;go_ret;exact⟨_,_,_,rfl,U.o⟩
theorem Aez:(Tryz.prog.info? 137).map (fun a=>(a.zero,a.size,a.bytes))=some (some (.pointer none),1,8):=S_
theorem QS(a:Option Addr)(w:World):(Instr.typeAssert (.iface 137 (.pointer a)) 20 137 false).run Tryz.prog w=.ok (.pointer a) w:=S_
theorem QT(b:hF):∀v∈Gj b,v.oneCell'=true:=fun v a=>by obtain⟨c,_,rfl⟩:=xL.1 a;rfl
theorem Af0(w:World)(a:Nat):(w.alloc (C_ #[A_ a] 137)).ownsRow 0 137 1 (L_ (P_ w.heap.size) 1 1) 1 (Gj [a]):=
 ⟨rfl,.inr ⟨w.heap.size,1,#[A_ a],rfl,Y_,xK _ _,X_,by unfold maxLen;omega,D_,by simp[Gj]⟩⟩
theorem ZT(a:Nat)(t u:hJ)(v:Value)(b:hF)(c:Nat)(w:World)(p:ScB w a t u v)(h:Ea 0 w v b)(V:b.length<=100000000):
  Calls Tryz.prog 296 #[.pointer (some (Q_ a 2)),.iface 137 (A_ c)] w fun d i=>d=R_ (.tuple #[])/\∃d,ScB i a t u d/\Ea 0 i d (b++[c])/\(d.ownBlock=v.ownBlock\/∃g,w.heap.size<=g/\d.ownBlock=some g)/\Mod (fun f=>f=a\/v.ownBlock=some f) w i:=by
 have i:Below w.heap.size w (w.alloc (C_ #[A_ c] 137)):=(xA _ w).alloc X_ _;have A:Ea 0 (w.alloc (C_ #[A_ c] 137)) v b:=Ae h i X_;obtain⟨j,k,rfl⟩:=Ad h;obtain⟨J,o,F,s,G,H⟩:=Sd (w.alloc (C_ #[A_ c] 137)).drew 141 141 137 Tryz.underlying141 _ 1 8 Aez rfl Do Do (L_ j b.length k) (L_ (P_ w.heap.size) 1 1) b.length 1 (Gj b) (Gj [c]) A (Af0 w c) (QT _) O_;have B:(Value.slice j b.length k).ownBlock≠some a:=Eo p h Do;have q:Mod (fun _=>False) w (w.alloc (C_ #[A_ c] 137)).drew:=⟨i.os,i.tape,i.output,i.size,fun g d _=>i.block g d⟩;have y:Mod (fun g=>(Value.slice j b.length k).ownBlock=some g) (w.alloc (C_ #[A_ c] 137)).drew o:=Mod.of_grown G;have C:Mod (fun f=>f=a\/(Value.slice j b.length k).ownBlock=some f) w o:=q.trans y (fun _ _ d=>d.elim) (fun _ _ d=> .inr d);have r:ScB o a t u (L_ j b.length k):=(y.block a (yF p.lt q.size) B).trans ((q.block a p.lt id).trans p);have z:=Mod.setCell o a 2 J;obtain⟨l,m,n,rfl⟩:=Fo s;have D:(Value.slice l m n).ownBlock≠some a:=Eo r s Do;have I:Hid (ScB (o.setCell (Q_ a 2) (L_ l m n)) a t u (L_ l m n)/\Ea 0 (o.setCell (Q_ a 2) (L_ l m n)) (L_ l m n) (b++[c])/\((Value.slice l m n).ownBlock=(Value.slice j b.length k).ownBlock\/∃g,w.heap.size<=g/\(Value.slice l m n).ownBlock=some g)/\Mod (fun f=>f=a\/(Value.slice j b.length k).ownBlock=some f) w (o.setCell (Q_ a 2) (L_ l m n))):=by refine⟨r.set _,z.row ?_ (fun f f d=>D (by rw[<-d];exact f)),H.imp id (fun d=>⟨_,q.size,d⟩),C.trans z (fun _ _ d=>d) (fun _ _ d=> .inl d)⟩;rw[xC,show Gj (b++[c])=Gj b++Gj [c]by simp[Gj]];exact s
 have d:=Aa F;obtain⟨M,N,g,O⟩:=p.cells;obtain⟨R,S,T,U⟩:=r.cells;have f:=p.lt;have L:(w.alloc (C_ #[A_ c] 137)).cell? (Q_ a 2)=some (L_ j b.length k):=(i.cell (p:=(Q_ a 2)) f).trans g;clear p h i A F s G H B q y C r z D;have p:=fun i=>QS (P_ c) i
 go_in;go_upto_region 0 with fail
 go_region_law (refine Qc _ (by rfl) (.tmp 7) (.tmp 10) _ _ (by rfl) _ _ (by rfl) U_ _ _ d.o ?_)
 all_goals
  go_wp2_with fail;go_end0;exact⟨rfl,_,I.o⟩
theorem PlB.ne{F:Option Addr}{G:Value}(h:PlB w a g r F G)(b:ScB w q i C v):a≠q:=fun e=>by subst e;unfold PlB at h;unfold ScB at b;rw[h]at b;simp at b
theorem Af1(b:hF)(c:Nat)(d:a<b.length):Hp.nth 0 (b++[c]) a=Hp.nth 0 b a:=by unfold Hp.nth;rw[vQ d]
theorem ZU(d:Nat)(m n:hJ)(v:Value)(K:Nat->ByteArray×Nat)(a:hF)(c:Nat)(w:World)(h:HpQ d m n v K a w)(p:∃b f,PlB w c (K c).1 (K c).2 b f)(V:a.length<=20000000)(q:Hp.Ord (ltK K)):
  Calls Tryz.prog 186 #[.iface 193 (.pointer (some (Q_ d 2))),.iface 137 (A_ c)] w fun r i=>r=R_ (.tuple #[])/\∃j k,j.Perm (c::a)/\HpQ d m n k K j i/\(k.ownBlock=v.ownBlock\/∃g,w.heap.size<=g/\k.ownBlock=some g)/\Mod (fun l=>l=d\/v.ownBlock=some l) w i:=by
 have C:=Aa (ZT d m n v a c w h.sc h.row O_);have o:=Aa h;have M:=Aa p;have N:=Aa q;have R:=fun i=>Ahb (Q_ d 2) i
 clear h p q;go_in;go_wp2_with fail;refine C.o.mono ?_;rintro r i ⟨rfl,O,s,A,J,B⟩;have t:∀k p q b f,PlB w k p q b f->PlB i k p q b f:=fun k p q b f b=>(B.block k b.lt (fun e=>by
  rcases e with e|e
  ·exact b.ne o.o.sc e
  ·exact Eo b o.o.row Do e)).trans b
 have D:PlK i K (a++[c]):=fun k f=>by
  rcases xE.1 f with b|b
  ·obtain⟨y,z,f⟩:=o.o.pl k b;exact⟨y,z,t _ _ _ _ _ f⟩
  ·rw[yR.1 b];obtain⟨y,z,f⟩:=M.o;exact⟨y,z,t _ _ _ _ _ f⟩
 have k:Hp.Rc (ltK K) (Hp.nth 0 (a++[c])) a.length:=o.o.heap.congr fun g L=>Af1 a c L
 have u:=Aa (Aey d m n O K (a++[c]) a.length i s A D D_ K_ k N.o);obtain⟨p,q,rfl⟩:=Ad A;have F:(a++[c]).length=a.length+1:=D_;rw[F]at s u;have S:=Ahc (Q_ d 2) i _ s.cells.2.2.1;have G:=Aa (QP p (a.length+1) q i);have H:=Aa B;have I:=Aa J;have T:IntKind.i64.wrap (((a.length+1:Nat):Int)-1)=(a.length:Int):=by rw[yZ];omega
 have U:IntKind.i64.wrap ((a.length:Int)+1-1)=(a.length:Int):=by rw[yZ];omega
 clear s A J B t D k C;go_wp2_with fail;refine G.o.mono ?_;rintro r i ⟨rfl,rfl⟩;go_wp2_with fail;refine u.o.mono ?_;rintro r A ⟨rfl,j,k,B⟩;have C:Hid (j.Perm (c::a)/\HpQ d m n (L_ p (a.length+1) q) K j A/\((Value.slice p (a.length+1) q).ownBlock=v.ownBlock\/∃g,w.heap.size<=g/\(Value.slice p (a.length+1) q).ownBlock=some g)/\Mod (fun l=>l=d\/v.ownBlock=some l) w A):=by
  have t:j.Perm (c::a):=k.perm.trans qD;have s:=I.o;rw[F]at s;refine⟨t,⟨k.sc,k.row,k.pl,?_⟩,s,H.o.trans (Mod.of_grown k.gr) (fun _ _ b=>b) (fun l l b=> ?_)⟩
  ·rw[t.length_eq];exact B
  ·rcases s with f|⟨g,L,f⟩
   ·rw[f]at b;exact .inr b
   ·rw[f]at b;have:=xM b;omega
 clear k B u G H I;go_wp2_with fail;go_end0;exact⟨rfl,_,_,C.o⟩
namespace Tr
variable {b j n:Key}{a:Nat}{d:Option Key}{f:List It}{k:Key->Option Key}{t:Ch}
def HR:(h:Nat)->Ai h->Nat
 | 0,l=>(its l).length
 | h+1,(ps,cs)=>cs.length+(ps.map fun p=>HR h p.2).sum
def Plc.cnt:Plc->Nat
 | .inl ⟨_,_,h,_,t⟩=>HR h t
 | .inr ⟨_,_,_,_,cs⟩=>cs.length+1
def cnt(P:List Plc):Nat:=(P.map Plc.cnt).sum
theorem GB(a:Plc)(P:List Plc):cnt (a::P)=a.cnt+cnt P:=by simp[cnt]
theorem Vd(P Q:List Plc):cnt (P++Q)=cnt P+cnt Q:=by simp[cnt]
theorem WN(b:Nat)(c:Key)(d:Option Key)(a:List Ch):cnt (lay b c d a)=a.length:=by cases a<;>simp[lay,cnt,Plc.cnt]
theorem JX{a h:Nat}{d:Option Key}:∀(b:List (Key×Ai h)),cnt (Jw a b d)=(b.map fun b=>HR h b.2).sum
 | []=>rfl
 | (f,t)::r=>by rw[Jw,GB,JX r];rfl
theorem QU{P Q:List Plc}(h:P.Perm Q):cnt P=cnt Q:=(h.map Plc.cnt).sum_nat
theorem Ad1{h:Nat}{H:Ai h}{p:List Plc}{I:List Ch}(k:Scd b (nodeCh h H) I):cnt (kidsFrom b a d h H++(lay a j d I++p))<=cnt (.nd j a h d H::p):=by
 rw[Vd,Vd,GB,WN];have l:=k.len;show _<=HR h H+_
 cases h with
 | zero=>
  show 0+_<=(its H).length+_;have:(nodeCh 0 H).length=(its H).length:=xP ..;omega
 | succ h=>
  obtain⟨c,f⟩:=H;rw[kidsFrom,JX];have i:=PP (c.map fun g=>HR h g.2) (ix (c.map (·.1)) b);rw[<-dU]at i;have m:(nodeCh (h+1) (c,f)).length=f.length:=rfl;show _<=f.length+(c.map fun g=>HR h g.2).sum+_;omega
theorem wgD {h:Nat} (H:∀ {b:Key} {c:Option Key} {a:Ai h},WF h b c a->Top h a->HR h a<=16*wt h a):∀ (ps:List (Key×Ai h)) {lo hi:Option Key},Bu (fun f m t=>WF h f m t/\Top h t) lo hi ps->(ps.map fun p=>HR h p.2).sum<=16*(ps.map fun p=>wt h p.2).sum
 | [],_,_,_=>D_
 | (f,t)::r,lo,hi,⟨_,m,_,h2,h3⟩=>by have a:=H h2.1 h2.2;have b:=wgD H r h3;simp only[yD,qZ];omega
theorem WO:∀(h:Nat) {b:Key} {c:Option Key} {a:Ai h},WF h b c a->Top h a->HR h a<=16*wt h a
 | 0,b,c,l,_,ht=>by have d:(its l).length<=16:=ht;show(its l).length<=16*(1+2*((its l).length-16));omega
 | h+1,b,c,(ps,cs),hw,_=>by have d:=wgD (fun a b=>WO h a b) ps hw.1;show cs.length+(ps.map fun a=>HR h a.2).sum<=16*(2*cs.length+(ps.map fun a=>wt h a.2).sum+((ps.length-1)+(2-ps.length)));omega
def Oq(ub k:Key):Prop:=ub=[]\/k<ub
structure GD(fr ub:Key)(D:Nat)(P:List Plc)(c:Ch)(P':List Plc):Prop where
 inv:Rb fr D P'
 size:size P'<size P
 cn:cnt P'<cnt P
 okc:Kv c
 ge:¬c.2.1<fr
 ub':Oq ub c.2.1
 here:left D P c.2.1=c::left D P' c.2.1
 same:∀k,k≠c.2.1->¬k<fr->left D P k=left D P' k
 ahead:∀k,k<c.2.1->¬k<fr->left D P k=[]
def GE(fr ub:Key)(D:Nat)(P:List Plc):Prop:=∀k,¬k<fr->Oq ub k->left D P k=[]
def Ue(I:List It)(key:Key)(s:Option Key):List It:=I++(s.map fun v=>(key,v)).toList
structure ScI(V:Key->Option Key)(fr ub:Key)(D:Nat)(I:List It)(key:Key)(s:Option Key)(P:List Plc):Prop where
 inv:Rb fr D P
 rise:Cb I
 mem:∀x∈I,x.1<key/\¬x.1<fr/\Oq ub x.1
 past:∀k,¬k<fr->k<key->left D P k=[]/\Ce I k=V k
 here:¬key<fr->V key=Av (left D P key) key s
 rest:∀k,¬k<fr->key<k->V k=Av (left D P k) k none
 st:s=none\/¬key<fr/\Oq ub key
 len:∀v,s=some v->v.length<=16
theorem GF(a:List It)(b:Key):Ue a b none=a:=by simp[Ue]
theorem GG(a:List It)(b v:Key):Ue a b (some v)=a++[(b,v)]:=rfl
theorem GH(h:Cb f)(g:∀x∈f,x.1<b)(a:Option Key):Cb (Ue f b a):=by
 cases a with
 | none=>rw[GF];exact h
 | some v=>
  rw[GG];exact jN.2 ⟨h,bL ..,fun x c d d=>by rw[yR.1 d];exact g x c⟩
theorem Ve(i:∀x∈f,x.1<b)(c:Option Key)(a:Key):Ce (Ue f b c) a=if a=b then c else Ce f a:=by
 have d:Ce f b=none:=Df fun x g e=>by have:=i x g;rw[e]at this;exact lt_ir _ this
 cases c with
 | none=>
  rw[GF];by_cases e:a=b
  ·rw[xD e,e,d]
  ·rw[xB e]
 | some v=>
  rw[GG,Hg];by_cases e:a=b
  ·rw[xD e,e,d];simp[Ce]
  ·rw[xB e];have:Ce [(b,v)] a=none:=(by rw[Ce,xB fun g=>e g.symm];rfl);rw[this];simp
theorem ScI.start{ub:Key}{P:List Plc}(g:Rb b a P)(f:∀c,¬c<b->k c=Av (left a P c) c none):ScI k b ub a [] [] none P:=
 ⟨g,List.Pairwise.nil,fun x d=>absurd d D_,fun c _ d=>absurd d D_,fun h=>f _ h,fun c d _=>f c d,.inl rfl,fun v c=>by cases c⟩
theorem QV(b:Option Key)(a:Ch):one a.2.1 b a=Es b a:=xD rfl
theorem ScI.stay{P p:List Plc}(h:ScI k b j a f n d P)(i:GD b j a P t p)(m:t.2.1=n):ScI k b j a f n (Es d t) p:=by
 refine⟨i.inv,h.rise,h.mem,fun l c g=> ?_,fun c=> ?_,fun l c g=> ?_,.inr ⟨by rw[<-m];exact i.ge,by rw[<-m];exact i.ub'⟩,fun v o=>Ng (Nh i.okc).2 o⟩
 ·have o:=h.past l c g;rw[<-i.same l (fun e=>by rw[e,m]at g;exact lt_ir _ g) c];exact o
 ·rw[h.here c,<-m,i.here,Ej,QV]
 ·rw[h.rest l c g,i.same l (fun e=>by rw[e,m]at g;exact lt_ir _ g) c]
theorem ScI.turn{P p:List Plc}(h:ScI k b j a f n d P)(i:GD b j a P t p)(B:t.2.1≠n):ScI k b j a (Ue f n d) t.2.1 (Es none t) p:=by
 have r:n<t.2.1:=by
  refine kH fun c=> ?_
  have l:t.2.1<n:=kH fun o=>B (tri _ _ o c)
  have:=(h.past _ i.ge l).1;rw[i.here]at this;cases this
 have u:∀x∈f,x.1<n:=fun x q=>(h.mem x q).1
 refine⟨i.inv,GH h.rise u d,fun x q=> ?_,fun g m l=> ?_,fun m=> ?_,fun g m l=> ?_,.inr ⟨i.ge,i.ub'⟩,fun v s=>Ng (Nh i.okc).2 s⟩
 ·rcases xE.1 q with c|c
  ·have:=h.mem x c;exact⟨Ei this.1 r,this.2⟩
  ·cases s:d with
   | none=>rw[s]at c;simp at c
   | some v=>
    rw[s]at c;simp at c;rcases h.st with o|o
    ·rw[o]at s;cases s
    ·rw[c];exact⟨r,o.1,o.2⟩
 ·have z:g≠t.2.1:=fun e=>by rw[e]at l;exact lt_ir _ l
  have y:=i.ahead g l m;rw[<-i.same g z m];refine⟨y,?_⟩;rw[Ve u];by_cases e:g=n
  ·subst e;rw[xD rfl,h.here m,y];rfl
  ·rw[xB e];by_cases c:g<n
   ·exact(h.past g m c).2
   ·have A:n<g:=kH fun o=>e (tri _ _ c o)
    rw[h.rest g m A,y];exact Df fun x q e=>by have:=u x q;rw[e]at this;exact c this
 ·rw[h.rest _ i.ge r,i.here,Ej,QV]
 ·rw[h.rest g m (Ei r l),i.same g (fun e=>by rw[e]at l;exact lt_ir _ l) m]
open Classical in
theorem ScI.told{P:List Plc}(h:ScI k b j a f n d P)(r:GE b j a P):Cb (Ue f n d)/\∀c,(¬c<b/\Oq j c->Ce (Ue f n d) c=k c)/\(¬(¬c<b/\Oq j c)->Ce (Ue f n d) c=none):=by
 have m:∀x∈f,x.1<n:=fun x l=>(h.mem x l).1
 refine⟨GH h.rise m d,fun c=>⟨fun g=> ?_,fun g=> ?_⟩⟩
 ·rw[Ve m];have p:=r c g.1 g.2;by_cases e:c=n
  ·subst e;rw[xD rfl,h.here g.1,p];rfl
  ·rw[xB e];by_cases o:c<n
   ·exact(h.past c g.1 o).2
   ·have q:n<c:=kH fun i=>e (tri _ _ o i)
    rw[h.rest c g.1 q,p];exact Df fun x l e=>by have:=m x l;rw[e]at this;exact o this
 ·rw[Ve m];by_cases e:c=n
  ·rw[xD e];rcases h.st with i|i
   ·exact i
   ·rw[<-e]at i;exact absurd i g
  ·rw[xB e];exact Df fun x l e=>by have:=h.mem x l;rw[e]at this;exact g this.2
end Tr
