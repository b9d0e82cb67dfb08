import Derived.Test.YtolgpnaoaodepaaGreatRefKm
import Derived.Test.YtolgpnaoaodepaaGreatWalkMm
set_option maxHeartbeats 1000000
set_option maxRecDepth 100000
namespace Go.Proofs.YtolgpnaoaodepaaGreat
open Go.RowKit Pg
variable {a q:Nat}{e y z A:TypeId}{j r t:hH}{w p B s:World}{v k b c d f g i l m:Value}{n:Int}{u:Option Nat}{C:Array Oper}{D:Oper}{F:Act}{Q:Exit->Act->World->Prop}
theorem Ab2(v:Value)(d:Int)(a:gY)(g:List Int)(b:hD)(c:gZ)(w:World)(h:Mz w v d a g b c):
  Calls Tryz.prog 151 #[v] w fun f i=>f=R_ (.bool (Pg.Kh d (Ab a) g (Ag b) (Ac c)))/\Below w.heap.size w i:=by
 obtain⟨p,q,r,s,rfl,i,t,j,k,l⟩:=h;have m:(Ab a).length=a.length:=by simp[Ab]
 have n:(Ag b).length=b.length:=by simp[Ag]
 have o:(Ac c).length=c.length:=by simp[Ac]
 unfold Pg.Kh;rw[m,n,o];by_cases f:d=1
 ·subst f;rw[xD rfl];obtain⟨u,y,rfl,_⟩:=j;obtain⟨z,A,rfl,_⟩:=k;obtain⟨B,C,rfl,_⟩:=l;exact LA p u z B _ _ _ y A C a w i t
 ·rw[xB f];obtain⟨D,F,rfl⟩:=i.shape;exact HA d f D _ F q r s g b c w j k l
theorem Ab3(v:Value)(j:Int)(k:gY)(b:List Int)(d:hD)(f:gZ)(w:World)(h:Mz w v j k b d f)(c:Pg.Kh j (Ab k) b (Ag d) (Ac f)=true):
  Calls Tryz.prog 48 #[v] w fun a g=>a=R_ (B_ ⟨(Pg.page j (Ab k) b (Ag d) (Ac f)).toArray⟩)/\Below w.heap.size w g:=by
 obtain⟨n,o,p,q,rfl,u,M,r,y,z⟩:=h;unfold Pg.Kh at c;unfold Pg.page;by_cases s:j=1
 ·subst s;rw[xD rfl]at c;rw[xB Do];simp only[yK,yL]at c;obtain⟨⟨⟨⟨A,B⟩,_⟩,_⟩,_⟩:=c;refine Wg 1 n o p q k w Do u (by simpa[Ab]using B) fun x g=> ?_
  have:=Xz _ _ A (x.1.data.toList,x.2.data.toList) (xL.2 ⟨x,g,rfl⟩);simpa only[Ah]using this
 ·rw[xB s]at c;simp only[yK,yL]at c;obtain⟨⟨⟨⟨⟨⟨⟨⟨C,D⟩,F⟩,G⟩,_⟩,_⟩,H⟩,N⟩,O⟩:=c;subst G;rw[xD rfl];have l:∀a∈b,0<=a/\a<=2147483647:=fun a i=>by
   have:=zV.1 D a i;simpa[Pg.Bz]using this
  have t:b.map (Value.int .i64)=(b.map Int.toNat).map fun(a:Nat)=>J_ (a:Int):=by rw[zW];exact dT fun a i=>by have:=l a i;simp;omega
  have m:b.length=(b.map Int.toNat).length:=D_;rw[t,m]at r;have J:(Ag d).length=d.length:=by simp[Ag]
  have L:(Ac f).length=f.length:=by simp[Ac]
  refine CZ n o p q (b.map Int.toNat) d f w r y z (by rw[<-m];exact H) (fun a i=> ?_) O_ (fun x g=> ?_) O_ (fun x g=> ?_)
  ·obtain⟨a,I,rfl⟩:=xL.1 i;have:=l a I;omega
  ·have:=Pg.Fe _ _ C x.data.toList (xL.2 ⟨x,g,rfl⟩);simpa only[Ah]using this
  ·have:=zV.1 F (x.1,x.2.1.data.toList,x.2.2.data.toList) (xL.2 ⟨x,g,rfl⟩);simp only[Pg.Bh,Pg.Bv,yK,kT,yL,Ah]at this;have g:=Pg.Ed this.1.1;omega
theorem LD(g:Nat)(j:Cur)(w:World)(a8:Iu w g j):
  Calls Tryz.prog 213 #[A_ g] w fun n y=>Agn w g j n y:=by
 have a9:g<w.heap.size:=by obtain⟨d5,f0,h,_⟩:=a8;exact h.lt
 have d2:=Aa a8;clear a8;go_in;go_wp2_with fail;refine(Ha g 1 j _ d2.o O_).mono ?_;rintro n f3 ⟨rfl,c3,a2⟩;have b0:=Aa c3;have b1:=Aa a2;have d3:=a2.size;clear c3 a2;go_wp2_with fail;refine(Gz _ _ (by rw[Kf];omega)).mono ?_;rintro n f4 ⟨rfl,rfl⟩;rw[show Pg.Da (⟨(j.take 1).1.toArray⟩:hJ).data.toList=j.byte from rfl];have e4:=Sx j;generalize c9:j.byte=c at*;generalize d0:(j.take 1).2=a7 at*;have C:=Aa c9;have D:=Aa d0;clear c9 d0;go_wp2_with fail
 go_loopw [3,5] (fun e1 a6 wr=>∃(b:Nat) (d:gZ) (a:Cur),b<=c/\a6=J_ b/\d.length=b/\Bb w.heap.size wr e1 d/\Iu wr g a/\But g w wr/\Ac d++(Ef (c-b) a).1=(Ef c a7).1/\(Ef (c-b) a).2=(Ef c a7).2) (fun _ a6 _=>c-(intOf a6).toNat)
 case atStart=>exact⟨0,[],a7,Y_,rfl,rfl,yP _ _ _ _,b0.o,b1.o,rfl,rfl⟩
 case round=>
  clear b0 b1 d3;obtain⟨b,d,a,f1,rfl,b5,Z,b6,a0,b7,b8⟩:=hrel;have O:=Aa Z;have F:=Aa b6;have R:=Aa a0;have k:=Aa b7;have l:=Aa b8;have e5:=a0.size;have p:=Aa b5;obtain⟨d5,f2,b9,-,-,-⟩:=id F.o;obtain⟨q,r,i,-,-⟩:=b9.cells;obtain⟨c0,c1,rfl⟩:=Ad Z;clear Z;clear b6 a0 b7 b8 b5 b9;by_cases f6:b<c
  ·cases N:a.bad
   ·rw[N]at i;obtain⟨a1,c2⟩:∃a1,c-b=a1+1:=⟨c-b-1,O_⟩;have G:Hid (a1=c-(b+1)):=(by show _=_;omega);rw[c2,Ef,xB (by rw[N];decide)]at k l;clear c2;go_wp2_with fail;refine(Ha g 1 a _ F.o O_).mono ?_;rintro n f5 ⟨rfl,c4,a3⟩;have b2:=Aa c4;have S:=Aa (Aw R.o a3);have b3:=Aa (O.o.but a3 a9);have e6:=S.o.size;clear c4 a3 q r i;go_wp2_with fail;refine(Gz _ _ (by rw[Kf];omega)).mono ?_;rintro n d8 ⟨rfl,rfl⟩;rw[show Pg.Da (⟨(a.take 1).1.toArray⟩:hJ).data.toList=a.byte from rfl];have e7:=Sx a;go_wp2_with fail;have T:=Aa (Ae1 (kd:=(a.byte:Int)) a9 b2.o b3.o S.o);refine(Yg g 12 _ _ T.o.cur O_).mono ?_;rintro n d9 ⟨rfl,c5,c6⟩;have H:=Aa (T.o.step c5 c6);clear c5 c6 T b2 b3 S;obtain⟨q,r,i,I,J,L⟩:=H.o.cells;generalize e2:d8.heap.size=d1 at*;clear e2;have e8:=Um (a.take 1).2 12 O_;by_cases M:a.byte=2
    ·have s:Hid (Ki a=(((a.byte:Int),((a.take 1).2.text 12).1,[]),((a.take 1).2.text 12).2)):=by
      show _=_;unfold Ki;rw[xD M]
     have d4:((a.byte:Int)==2)=true:=K_;clear M;generalize((a.take 1).2.text 12).1=f at*;generalize((a.take 1).2.text 12).2=A at*;have m:=Aa (H.o.set (key':=⟨f.toArray⟩) (val':=⟨#[]⟩) 1 (B_ ⟨f.toArray⟩) rfl)
     go_wp2_with (first
      | (at_builtin;refine Ix (d9.setCell (Q_ d1 1) (B_ ⟨f.toArray⟩)) rfl (.tmp 35) (.tmp 37) 77 34 kX _ 3 40 Em rfl Do Do rfl w.heap.size (L_ c0 d.length c1) d.length (Cd d) rfl m.o.own [J_ (a.byte:Int),B_ ⟨f.toArray⟩,B_ ⟨#[]⟩] rfl (Adw _ _ _) (by rw[setSize];rfl) (by rw[p.o];omega) m.o.but.size ?_))
     intro a4 y o z a5;obtain⟨t,u⟩:=m.o.ap z;have U:Hid (Bb w.heap.size y a4 (d++[((a.byte:Int),⟨f.toArray⟩,⟨#[]⟩)])):=(by show Bb _ _ _ _;unfold Bb;rw[xC,Nz];exact o);have V:=Aa t;have W:=Aa u;obtain⟨d6,d7,rfl⟩:=Ad o;clear o z a5 t u q r i I J L;go_wp2_with fail
     go_roundw
     case rel=>exact⟨b+1,_,A,O_,W_,by rw[xC,p.o];rfl,U.o,V.o,W.o,by rw[<-G.o,<-k.o,s.o,Vz];simp,by rw[<-G.o,<-l.o,s.o]⟩
     case measure=>simp[intOf];omega
    ·have s:Hid (Ki a=(((a.byte:Int),((a.take 1).2.text 12).1,(((a.take 1).2.text 12).2.text 16).1),(((a.take 1).2.text 12).2.text 16).2)):=by
      show _=_;unfold Ki;rw[xB M]
     have d4:((a.byte:Int)==2)=false:=K_;clear M;generalize((a.take 1).2.text 12).1=f at*;generalize((a.take 1).2.text 12).2=A at*;have m:=Aa (H.o.set (key':=⟨f.toArray⟩) (val':=⟨#[]⟩) 1 (B_ ⟨f.toArray⟩) rfl);go_wp2_with fail;refine(Yg g 16 _ _ m.o.cur O_).mono ?_;rintro n e0 ⟨rfl,c7,c8⟩;have b4:=Aa (m.o.step c7 c8);clear c7 c8 m H q r i I J L;obtain⟨q,r,i,I,J,L⟩:=b4.o.cells;have e9:=Um A 16 O_;generalize(A.text 16).1=B at*;generalize(A.text 16).2=e3 at*;have X:=Aa (b4.o.set (key':=⟨f.toArray⟩) (val':=⟨B.toArray⟩) 2 (B_ ⟨B.toArray⟩) rfl)
     go_wp2_with (first
      | (at_builtin;refine Ix (e0.setCell (Q_ d1 2) (B_ ⟨B.toArray⟩)) rfl (.tmp 35) (.tmp 37) 77 34 kX _ 3 40 Em rfl Do Do rfl w.heap.size (L_ c0 d.length c1) d.length (Cd d) rfl X.o.own [J_ (a.byte:Int),B_ ⟨f.toArray⟩,B_ ⟨B.toArray⟩] rfl (Adw _ _ _) (by rw[setSize];rfl) (by rw[p.o];omega) X.o.but.size ?_))
     intro a4 y o z a5;obtain⟨t,u⟩:=X.o.ap z;have U:Hid (Bb w.heap.size y a4 (d++[((a.byte:Int),⟨f.toArray⟩,⟨B.toArray⟩)])):=(by show Bb _ _ _ _;unfold Bb;rw[xC,Nz];exact o);have V:=Aa t;have W:=Aa u;obtain⟨d6,d7,rfl⟩:=Ad o;clear o z a5 t u q r i I J L;go_wp2_with fail
     go_roundw
     case rel=>exact⟨b+1,_,e3,O_,W_,by rw[xC,p.o];rfl,U.o,V.o,W.o,by rw[<-G.o,<-k.o,s.o,Vz];simp,by rw[<-G.o,<-l.o,s.o]⟩
     case measure=>simp[intOf];omega
   ·rw[N]at i;have Y:Hid (Ef (c-b) a=([],a)):=by
     show _=_;rw[show c-b=(c-b-1)+1 by omega,Ef,xD N]
    rw[Y.o]at k l;go_wp2_with fail;go_ret;exact⟨_,d,rfl,by rw[C.o,D.o,<-k.o];simp,by rw[p.o];omega,O.o,by rw[C.o,D.o,<-l.o];exact F.o,R.o⟩
  ·have Y:Hid (Ef (c-b) a=([],a)):=by
    show _=_;rw[show c-b=0 by omega];rfl
   rw[Y.o]at k l;go_wp2_with fail;go_ret;exact⟨_,d,rfl,by rw[C.o,D.o,<-k.o];simp,by rw[p.o];omega,O.o,by rw[C.o,D.o,<-l.o];exact F.o,R.o⟩
def Ci(mc:hH)(n:Nat):hH:=(List.replicate n mc).flatten
theorem Iv(a:hH)(b:Nat):(Ci a b).length=b*a.length:=by unfold Ci;simp[List.length_flatten]
theorem Jq(a:hH)(b c:Nat):Ci a (b+c)=Ci a b++Ci a c:=by unfold Ci;rw[<-kI,gO]
theorem SR(a:hH):Ci a 0=[]:=rfl
def Dn(e:TypeId)(mc:hH)(w:World)(v:Value):Prop:=∃a n cap,v=L_ a n cap/\n<=cap/\cap<=maxLen/\(n=0\/∃g cur,a=P_ g/\w.heap[g]?=some (.cells cur e (0,0))/\cur.toList.take (n*mc.length)=Ci mc n)
def Gd:Value->Option Nat
 | .slice (some ⟨g,_,_⟩) (_+1) _=>some g
 | _=>none
theorem marked_of(h:w.ownsRow a e j.length v q (Ci j q)):Dn e j w v:=by
 rcases h.2 with⟨rfl,k⟩|⟨b,l,c,rfl,m,d,f,g,n,i⟩
 ·exact⟨none,0,0,rfl,X_,Y_,.inl rfl⟩
 ·exact⟨_,_,_,rfl,f,g,.inr ⟨b,c,rfl,d,i⟩⟩
theorem Dn.keep{w':World}(h:Dn e j w v)(m:∀a,Gd v=some a->w'.heap[a]?=w.heap[a]?):Dn e j w' v:=by
 obtain⟨d,n,f,rfl,g,i,b⟩:=h;refine⟨d,n,f,rfl,g,i,?_⟩;rcases b with b|⟨a,k,rfl,l,c⟩
 ·exact .inl b
 ·match n,c with
  | 0,_=>exact .inl rfl
  | n+1,c=>exact .inr ⟨a,k,rfl,(m a rfl).trans l,c⟩
theorem Dn.lt{e:TypeId}{j:hH}{w:World}{v:Value}(h:Dn e j w v){a:Nat}(b:Gd v=some a):a<w.heap.size:=by
 obtain⟨d,n,f,rfl,-,-,c⟩:=h
 match n,c with
 | 0,_=>simp[Gd]at b
 | n+1,.inl h=>omega
 | n+1,.inr ⟨k,cur,ha,hk,_⟩=>
  subst ha;have:k=a:=by simpa[Gd]using b
  subst this;exact(xS.1 hk).1
theorem Dn.below(h:Dn e j w v)(c:Below w.heap.size w p):Dn e j p v:=h.keep fun a b=>c.block a (h.lt b)
theorem Us{n k:Nat}(h:j.take (n*r.length)=Ci r n)(a:k<=n):j.take (k*r.length)=Ci r k:=by
 have:j.take (k*r.length)=(j.take (n*r.length)).take (k*r.length):=by rw[jO,jL (kW _ a)]
 rw[this,h,show n=k+(n-k)by omega,Jq,<-Iv r k,jB]
section
variable {P:Program}
theorem Yh(w:World)(C:Nat)(q I e:TypeId)(f:TypeInfo)(J:Value)(k R:Nat)(S:P.underlying q=some (.slice e))(T:P.info? e=some f)(a5:f.zero=some J)(a6:f.size=k)(a7:f.bytes=R)(b5:J.cells.size=k)(b6:0<k)(c:hH)(r:c.length=k)(b7:∀d∈c,d.oneCell'=true)(v:Value)(a:Nat)(s:w.ownsRow C e k v a (Ci c a))(t:Addr)(b L:Nat)(U:∀B d,(Ci c b)[B]?=some d->w.cell? (t.add B)=some d)(a8:a+b<=maxLen)(a9:(a+b)*R<=140737488355328)(b8:C<=w.heap.size):
  ∃p n,(Builtin.append_ #[q,q] I #[v,.slice (some t) b L]).run P w=.ok p n/\n.ownsRow C e k p (a+b) (Ci c (a+b))/\n.ownsRow C e k v a (Ci c a)/\w.grownBy n v.ownBlock/\
   (p.ownBlock=v.ownBlock\/p.ownBlock=some w.heap.size)/\(∀d,Dn e c w d->Dn e c n d):=by
 have V:∀d∈Ci c b,d.oneCell'=true:=by intro d i;unfold Ci at i;obtain⟨b9,l,Y⟩:=kV.1 i;rw[(List.mem_replicate.1 l).2]at Y;exact b7 d Y
 have l:(Ci c b).length=b*k:=by rw[Iv,r]
 obtain⟨p,n,u,D,F,_,M⟩:=kY (P:=P) w C q I e f J k R S T a5 a6 a7 b5 b6 v a (Ci c a) s t b L (Ci c b) l U V a8 a9 b8;rw[<-Jq]at D;subst a6;subst a7;rcases s.2 with⟨rfl,rfl⟩|⟨j,y,g,rfl,Z,z,a0,a1,a2,N⟩
 ·exact⟨p,n,u,D,by rw[SR];exact yP _ _ _ _,F,M,fun d i=>i.keep fun o A=>F.block o (i.lt A) (by simp[Value.ownBlock])⟩
 ·by_cases a3:a+b<=y
  ·have b0:a*f.size+(Ci c b).length<=g.size:=(by rw[l,a2,<-wL];exact kW _ a3);have m:=fU (P:=P) w q I e f S T j a y g z t b L (Ci c b) l U V a3 b0;rw[u]at m;simp only[aF]at m;obtain⟨rfl,rfl⟩:=m;have W:=aQ w j g (g.toList.take (a*f.size)++Ci c b++g.toList.drop (a*f.size+(Ci c b).length)).toArray e _ z;have X:(g.toList.take (a*f.size)++Ci c b++g.toList.drop (a*f.size+(Ci c b).length)).take ((a+b)*f.size)=Ci c (a+b):=by
    rw[N,<-Jq];have:(Ci c (a+b)).length=(a+b)*f.size:=(by rw[Iv,r]);rw[<-this];exact jB
   refine⟨_,_,u,D,?_,F,M,fun d i=> ?_⟩
   ·refine⟨s.1,.inr ⟨j,y,_,rfl,Z,W,a0,a1,?_,?_⟩⟩
    ·simp only[vI,xC,xR,xY,jT];omega
    ·have:=Us (n:=a+b) (k:=a) (by rw[r];exact X) O_;rw[r]at this;exact this
   ·obtain⟨c0,o,c1,rfl,u1,u2,u3⟩:=i;rcases u3 with u3|⟨G,b4,rfl,H,O⟩
    ·exact⟨_,_,_,rfl,u1,u2,.inl u3⟩
    ·by_cases a4:G=j
     ·subst a4;rw[z]at H;simp only[xX,vW,yG]at H;obtain⟨rfl,-⟩:=H;refine⟨_,_,_,rfl,u1,u2,.inr ⟨G,_,rfl,W,?_⟩⟩;by_cases A:o<=a+b
      ·exact Us (n:=a+b) (by rw[r];exact X) A
      ·have b1:a+b<=o:=O_;show(g.toList.take (a*f.size)++Ci c b++g.toList.drop (a*f.size+(Ci c b).length)).take (o*c.length)=_;rw[N,<-Jq,l,<-wL];have b2:g.toList.take ((a+b)*f.size)=Ci c (a+b):=by
        have:=Us O b1;rw[r]at this;exact this
       rw[<-b2,zK];exact O
     ·exact⟨_,_,_,rfl,u1,u2,.inr ⟨G,b4,rfl,(cT w j G _ a4).trans H,O⟩⟩
  ·have b3:∀B d,(Ci c a)[B]?=some d->w.cell? ((⟨j,0,none⟩:Addr).add B)=some d:=s.cells (g:=j) rfl;have B:a+b<=9223372036854775807:=(by simp only[maxLen]at a8;omega);have m:=run_append_grow (P:=P) w q I e f J S T a5 ⟨j,0,none⟩ a y (Ci c a) s.1 b3 t b L (Ci c b) l U O_ O_ (qL O_ a9);rw[u]at m;simp only[aF]at m;obtain⟨rfl,rfl⟩:=m;refine⟨_,_,u,D,?_,F,M,fun d i=>i.keep fun o A=>kR w.drew _ o (i.lt A)⟩;exact⟨s.1,.inr ⟨j,y,g,rfl,Z,(kR w.drew _ j (xS.1 z).1).trans z,a0,a1,a2,N⟩⟩
end
def Wb(w:World)(b:Nat)(vl v1 v2 v3 v4 v5 v6 v7 v8:Value)(nx:Int):Prop:=w.heap[b]?=some (C_ #[vl,v1,v2,v3,v4,v5,v6,v7,v8,J_ nx] 75 (0,0))
theorem Wb.cells{w:World}{a:Nat}{b c d f g i k l m:Value}{n:Int}(h:Wb w a b c d f g i k l m n):w.cell? (Q_ a 0)=some b/\w.cell? (Q_ a 1)=some c/\w.cell? (Q_ a 2)=some d/\w.cell? (Q_ a 3)=some f/\w.cell? (Q_ a 4)=some g/\w.cell? (Q_ a 5)=some i/\w.cell? (Q_ a 6)=some k/\w.cell? (Q_ a 7)=some l/\w.cell? (Q_ a 8)=some m/\w.cell? (Q_ a 9)=some (J_ n)/\(∀j,w.frozen? (Q_ a j)=false):=by unfold Wb at h;refine⟨?_,?_,?_,?_,?_,?_,?_,?_,?_,?_,fun j=> ?_⟩<;>simp[World.cell?,World.frozen?,h]
theorem Wb.next(h:Wb w a b c d f g i k l m n)(j:Int):Wb (w.setCell (Q_ a 9) (J_ j)) a b c d f g i k l m j:=by unfold Wb at*;rw[Ak (i:=9) h];rfl
theorem Wb.lt{w:World}{a:Nat}{b c d f g i k l m:Value}{n:Int}(h:Wb w a b c d f g i k l m n):a<w.heap.size:=(xS.1 h).1
theorem Wb.below{B:Nat}(h:Wb w a b c d f g i k l m n)(j:Below B w p)(o:a<B):Wb p a b c d f g i k l m n:=(j.block a o).trans h
theorem LF(a:Int)(b:0<=a)(c:a<256):((UInt8.ofNat a.toNat).toNat:Int)=a:=by rw[jY];omega
theorem DA(b a:Nat):((Q_ b 0):Addr).add a=(Q_ b a):=by
 by_cases h0:a=0
 ·subst h0;simp[Addr.add]
 ·simp[Addr.add,h0]
theorem Agp(d:World)(f:Nat)(a b c:Int)(j:0<=a)(k:a<256)(l:0<=b)(m:b<256)(n:0<=c)(o:c<256)(e:d.heap[f]?=some (C_ #[.int .u8 a,.int .u8 b,.int .u8 c] 5 (0,0))):∃g:hJ,g.size=3/\(convert 108 9 (L_ (P_ f) 3 3)).run Tryz.prog d=.ok (B_ g) d:=by
 refine⟨⟨#[UInt8.ofNat a.toNat,UInt8.ofNat b.toNat,UInt8.ofNat c.toNat]⟩,rfl,?_⟩;refine fW (P:=Tryz.prog) _ 108 9 5 (Q_ f 0) 3 [UInt8.ofNat a.toNat,UInt8.ofNat b.toNat,UInt8.ofNat c.toNat] jC wA jS (fun g i=> ?_);rw[DA]
 match g,i with
 | 0,_=>unfold World.cell?;rw[e];show some (Value.int .u8 a)=some (Value.int .u8 ((UInt8.ofNat a.toNat).toNat:Int));rw[LF a j k]
 | 1,_=>unfold World.cell?;rw[e];show some (Value.int .u8 b)=some (Value.int .u8 ((UInt8.ofNat b.toNat).toNat:Int));rw[LF b l m]
 | 2,_=>unfold World.cell?;rw[e];show some (Value.int .u8 c)=some (Value.int .u8 ((UInt8.ofNat c.toNat).toNat:Int));rw[LF c n o]
theorem OD(b:Nat)(i j k l m n o p q:Value)(A:Int)(w:World)(h:Wb w b i j k l m n o p q A):
  Calls Tryz.prog 115 #[.pointer (some (Q_ b 1))] w fun R z=>∃f a,R=R_ (B_ f)/\Wb z b i j k l m n o p q a/\But b w z:=by
 have r:=Aa h;obtain⟨F,G,H,I,J,L,M,N,O,t,u⟩:=h.cells;have B:=u 9;clear h u F G H I J L M N O;go_in;go_wp2_with fail;generalize S:wrap64 (A+1)=a at*;have g:=Aa (r.o.next a);have C:=Aa (Be b 9 w (J_ a));clear S r t B;generalize w.setCell (Q_ b 9) (J_ a)=d at*;obtain⟨-,-,-,-,-,-,-,-,-,t,-⟩:=g.o.cells;have c:∀x:Int,0<=IntKind.u8.wrap x/\IntKind.u8.wrap x<256:=fun x=>by have:IntKind.u8.wrap x=x % 256:=rfl;omega
 obtain⟨f,y,U⟩:=Agp ((d.alloc (C_ #[.int .u8 (IntKind.u8.wrap a),.int .u8 (IntKind.u8.wrap (a / 256)),.int .u8 (IntKind.u8.wrap (a / 65536))] 5)).drew) d.heap.size _ _ _ (c a).1 (c a).2 (c (a / 256)).1 (c (a / 256)).2 (c (a / 65536)).1 (c (a / 65536)).2 (xK d _);clear c;have T:∀w,(Op.stringOp .add ⟨#[109,97,114,107]⟩ f).run Tryz.prog w=.ok (B_ (⟨#[109,97,114,107]⟩++f)) w:=fun w=>kA w _ _ (by rw[y];decide)
 clear y;have D:Hid (Wb ((d.alloc (C_ #[.int .u8 (IntKind.u8.wrap a),.int .u8 (IntKind.u8.wrap (a / 256)),.int .u8 (IntKind.u8.wrap (a / 65536))] 5)).drew) b i j k l m n o p q a/\But b w ((d.alloc (C_ #[.int .u8 (IntKind.u8.wrap a),.int .u8 (IntKind.u8.wrap (a / 256)),.int .u8 (IntKind.u8.wrap (a / 65536))] 5)).drew)):=by have s:=((xA d.heap.size d).alloc X_ (C_ #[.int .u8 (IntKind.u8.wrap a),.int .u8 (IntKind.u8.wrap (a / 256)),.int .u8 (IntKind.u8.wrap (a / 65536))] 5)).drew;exact⟨g.o.below s g.o.lt,Aw C.o (Mo s)⟩
 go_region_law (fail)
 all_goals
  go_wp2_with fail;go_ret;exact⟨_,a,rfl,D.o⟩
theorem Wh{α:Type}(P a:List α)(x b:α)(c:Nat)(d:c=P.length):(P++x::a).set c b=P++b::a:=by subst d;rw[List.set_append_right _ _ X_];simp
theorem Yi{H I c:Nat}(h:w.ownsRow q e a (L_ (P_ H) c I) c j)(b:Nat)(s:b<c*a):(∃v,w.cell? (Q_ H b)=some v)/\w.frozen? (Q_ H b)=false:=by
 rcases h.2 with⟨h0,_⟩|⟨l,m,d,f,n,g,k,o,p,r⟩
 ·simp at h0
 ·simp only[xJ,xX,yT,yG,yB]at f;obtain⟨rfl,rfl⟩:=f;have i:b<d.size:=by
   have:c*a<=I*a:=kW _ k;omega
  constructor
  ·exact⟨d[b],by simp[World.cell?,g,i]⟩
  ·simp[World.frozen?,g]
theorem DB(b:Value)(c:hH)(a:Nat)(h:a<c.length):(Ci [b] a++c.drop a).set a b=Ci [b] (a+1)++c.drop (a+1):=by rw[yM h,Wh _ _ _ _ _ (by rw[Iv];simp),Jq];simp[Ci]
theorem Ge(h:p.grownBy s u)(a:s.grownBy B u):p.grownBy B u:=⟨a.os.trans h.os,a.tape.trans h.tape,a.output.trans h.output,xI h.size a.size,fun b c d=>(a.block b (yF c h.size) d).trans (h.block b c d)⟩
theorem Afv(h:Gd v=some a):v.ownBlock=some a:=by
 unfold Gd at h;split at h
 ·simpa[Value.ownBlock]using h
 ·cases h
theorem Dn.grown(h:Dn e j w v)(c:w.grownBy p u)(d:∀a,Gd v=some a->some a≠u):Dn e j p v:=h.keep fun a b=>c.block a (h.lt b) (d a b)
theorem VS(w:World){rest:List Oper}(G:D.guard=none)(m x:Operand)(j e:TypeId)(H:Tryz.prog.underlying j=some (.slice e))(n:Value)(c k:Nat)(I:(Tryz.prog.info? e).map (fun f=>(f.zero,f.size,f.bytes))=some (some n,c,k))(J:n.cells.size=c)(L:0<c)(M:k<=1000)(N:D.op=Op.call {callee:=Callee.builtin Builtin.append,args:= #[m,x],argTypes:= #[j,j]})(l:Nat)(v:Value)(i:Nat)(o:hH)(O:F.eval m=v)(R:w.ownsRow l e c v i o)(a:hH)(b:Nat)(S:a.length=b*c)(T:∀p∈a,p.oneCell'=true)(U:F.eval x=.slice (some ⟨w.heap.size,0,none⟩) b b)(V:i+b<=1000000000)(X:l<=w.heap.size)(h:∀(d:Value) (g:World),g.ownsRow l e c d (i+b) (o++a)->w.grownBy g v.ownBlock->(d.ownBlock=v.ownBlock\/∃q,w.heap.size<=q/\d.ownBlock=some q)->wpList Tryz.prog C Q rest (F.put D.dst d) g):wpList Tryz.prog C Q (D::rest) F (w.alloc (.cells a.toArray e)):=by
 obtain⟨f,r,s,t,u⟩:=zB I;refine wT (w.alloc (.cells a.toArray e)) G m x j N l e f n c k H r s t u J L v i o O (R.alloc _) ⟨w.heap.size,0,none⟩ b b a U S ?_ T (by unfold maxLen;omega) (by have:(i+b)*k<=1000000000*1000:=wO V M;omega) K_ ?_
 ·intro W p y;have q:(w.alloc (.cells a.toArray e)).heap[w.heap.size]?=some (.cells a.toArray e (0,0)):=xK _ _;rw[DA];unfold World.cell?;rw[q];simpa using y
 intro d g z A _ B;exact h d g z (Cm A) (B.imp_right fun e=>⟨w.heap.size+1,O_,by simpa using e⟩)
theorem IP(w:World){rest:List Oper}(L:D.guard=none)(o x:Operand)(j e:TypeId)(M:Tryz.prog.underlying j=some (.slice e))(p:Value)(f n:Nat)(N:(Tryz.prog.info? e).map (fun k=>(k.zero,k.size,k.bytes))=some (some p,f,n))(O:p.cells.size=f)(R:0<f)(S:n<=1000)(T:D.op=Op.call {callee:=Callee.builtin Builtin.append,args:= #[o,x],argTypes:= #[j,j]})(l:Nat)(v:Value)(a:Nat)(b:hH)(U:b.length=f)(V:∀i∈b,i.oneCell'=true)(W:F.eval o=v)(X:w.ownsRow l e f v a (Ci b a))(c:Nat)(Y:F.eval x=.slice (some ⟨w.heap.size,0,none⟩) c c)(Z:a+c<=1000000000)(a2:l<=w.heap.size)(m:Array Value)(a0:m.toList=Ci b c)(h:∀(g:Value) (d:World),d.ownsRow l e f g (a+c) (Ci b (a+c))->d.ownsRow l e f v a (Ci b a)->w.grownBy d v.ownBlock->(g.ownBlock=v.ownBlock\/∃q,w.heap.size<=q/\g.ownBlock=some q)->(∀i,Dn e b w i->Dn e b d i)->wpList Tryz.prog C Q rest (F.put D.dst g) d):wpList Tryz.prog C Q (D::rest) F (w.alloc (.cells m e)):=by
 obtain⟨k,s,t,u,y⟩:=zB N;obtain⟨g,d,z,A,B,G,H,I⟩:=Yh (P:=Tryz.prog) (w.alloc (.cells m e)) l j D.type e k p f n M s t u y O R b U V v a (X.alloc _) ⟨w.heap.size,0,none⟩ c c (by intro a1 i q;have r:(w.alloc (.cells m e)).heap[w.heap.size]?=some (.cells m e (0,0)):=xK _ _;rw[DA];unfold World.cell?;rw[r];rw[<-a0]at q;simpa using q) (by unfold maxLen;omega) (by have:(a+c)*n<=1000000000*1000:=wO Z S;omega) K_;exact vO _ L o x j j T v _ W Y g d z (h g d A B (Cm G) (H.imp_right fun e=>⟨w.heap.size+1,O_,by simpa using e⟩) (fun i J=>I i (J.below ((xA _ w).alloc X_ _))))
theorem Jr:(Tryz.prog.info? 9).map (fun a=>(a.zero,a.size,a.bytes))=some (some (B_ ⟨#[]⟩),1,16):=S_
theorem XX:(Tryz.prog.info? 40).map (fun a=>(a.zero,a.size,a.bytes))=some (some Z_,1,24):=S_
def XY(w:World)(b:Nat)(eS eE eM:TypeId)(mc:hH)(m l vS vM:Value)(k:Nat)(L M:hH)(vS' vM':Value)(w':World):Prop:=
 ∃g1 g2 g3,w'.ownsRow 0 eS 1 vS' (k+4) (L++[l,g1,g2,g3])/\w'.ownsRow 0 eM 1 vM' (k+4) (M++[m,m,m,m])/\
  (∀u,u=l\/u=g1\/u=g2\/u=g3->Dn eE mc w' u/\∀g,Gd u=some g->(l.ownBlock=some g\/w.heap.size<=g)/\g≠b/\vS'.ownBlock≠some g/\vM'.ownBlock≠some g)/\
  (∀g,vS'.ownBlock=some g->(vS.ownBlock=some g\/w.heap.size<=g)/\g≠b/\vM'.ownBlock≠some g)/\(∀g,vM'.ownBlock=some g->(vM.ownBlock=some g\/w.heap.size<=g)/\g≠b)/\
  w'.os=w.os/\w'.tape=w.tape/\w'.output=w.output/\w.heap.size<=w'.heap.size/\∀i,i<w.heap.size->i≠b->l.ownBlock≠some i->vS.ownBlock≠some i->vM.ownBlock≠some i->w'.heap[i]?=w.heap[i]?
theorem Rs(h:Ep b v):v.ownBlock=none\/v.ownBlock≠b.ownBlock:=by
 cases a:v.ownBlock with
 | none=>exact .inl rfl
 | some q=>exact .inr fun e=>h q e.symm a
theorem Wb.grown(h:Wb w a b c d f g i k l m n)(j:w.grownBy p u)(o:u≠some a):Wb p a b c d f g i k l m n:=(j.block a h.lt fun e=>o e.symm).trans h
theorem Wb.set1(h:Wb w a b c d f g i k l m n)(j:Value):Wb (w.setCell (Q_ a 1) j) a b j d f g i k l m n:=by unfold Wb at*;rw[Ak (i:=1) h];rfl
theorem Wb.set2(h:Wb w a b c d f g i k l m n)(j:Value):Wb (w.setCell (Q_ a 2) j) a b c j f g i k l m n:=by unfold Wb at*;rw[Ak (i:=2) h];rfl
theorem Wb.set5(h:Wb w a b c d f g i k l m n)(j:Value):Wb (w.setCell (Q_ a 5) j) a b c d f g j k l m n:=by unfold Wb at*;rw[Ak (i:=5) h];rfl
theorem Wb.set6(h:Wb w a b c d f g i k l m n)(j:Value):Wb (w.setCell (Q_ a 6) j) a b c d f g i j l m n:=by unfold Wb at*;rw[Ak (i:=6) h];rfl
def XZ(b:Nat)(l vS vM:Value):Prop:=l.ownBlock≠some b/\vS.ownBlock≠some b/\vM.ownBlock≠some b/\Ep l vS/\Ep l vM/\Ep vS vM
def LG(w:World)(b:Nat)(eS eE eM:TypeId)(mc:hH)(l vS vM:Value)(k:Nat)(L M:hH)(g1 g2 g3:Value)(w5:World):Prop:=
 w5.ownsRow 0 eS 1 vS k L/\w5.ownsRow 0 eM 1 vM k M/\(∀g,vS.ownBlock=some g->g<w.heap.size)/\(∀g,vM.ownBlock=some g->g<w.heap.size)/\
 (∀u,u=l\/u=g1\/u=g2\/u=g3->Dn eE mc w5 u/\∀g,Gd u=some g->l.ownBlock=some g\/w.heap.size<=g)/\
 w5.os=w.os/\w5.tape=w.tape/\w5.output=w.output/\w.heap.size<=w5.heap.size/\∀i,i<w.heap.size->i≠b->l.ownBlock≠some i->w5.heap[i]?=w.heap[i]?
theorem VT(D:w.ownsRow 0 y 1 c q r)(F:w.ownsRow 0 A 1 d q t)(O:XZ a b c d)(m:But a w p)(k:p.grownBy s b.ownBlock)(R:Dn z j s b)(S:Dn z j s f)(T:Dn z j s g)(U:Dn z j s i)(V:f.ownBlock=b.ownBlock\/∃q,w.heap.size<=q/\f.ownBlock=some q)(W:g.ownBlock=b.ownBlock\/∃q,w.heap.size<=q/\g.ownBlock=some q)(X:i.ownBlock=b.ownBlock\/∃q,w.heap.size<=q/\i.ownBlock=some q):LG w a y z A j b c d q r t f g i s:=by
 obtain⟨Y,G,H,I,J,Z⟩:=O;have u:∀n:Value,(n.ownBlock=b.ownBlock\/∃q,w.heap.size<=q/\n.ownBlock=some q)->∀l,Gd n=some l->b.ownBlock=some l\/w.heap.size<=l:=by
  intro n L l k;have:=Afv k;rcases L with e|⟨q,o,e⟩
  ·exact .inl (e.symm.trans this)
  ·rw[e]at this;exact .inr (by simpa using(xM this)▸o)
 refine⟨zP (zP D m (.inr G)) k (Rs I),zP (zP F m (.inr H)) k (Rs J),fun l o=>(xF D l o).2,fun l o=>(xF F l o).2,?_,k.os.trans m.os,k.tape.trans m.tape,k.output.trans m.output,xI m.size k.size,fun B C M N=>(k.block B (yF C m.size) (fun e=>N e.symm)).trans (m.block B C (fun e=>M (xM e)))⟩;rintro n (rfl|rfl|rfl|rfl)
 ·exact⟨R,u _ (.inl rfl)⟩
 ·exact⟨S,u _ V⟩
 ·exact⟨T,u _ W⟩
 ·exact⟨U,u _ X⟩
theorem LG.rowM(h:LG w a y z A j b c d q r t f g i p)(k:XZ a b c d)(n:p.grownBy s c.ownBlock)(l:Nat)(m:Value):(s.setCell (Q_ a l) m).ownsRow 0 A 1 d q t:=
 zP (zP h.2.1 n (Rs k.2.2.2.2.2)) (Be a l s m) (.inr k.2.2.1)
theorem VU(d5:a<w.heap.size)(h:LG w a y z A j c d f q r t k l m p)(c7:XZ a c d f)(a3:s.ownsRow 0 y 1 g (q+4) (r++[c,k,l,m]))(H:p.grownBy s d.ownBlock)(c8:g.ownBlock=d.ownBlock\/∃q,p.heap.size<=q/\g.ownBlock=some q)(D:Nat)(c9:B.ownsRow 0 A 1 i (q+4) (t++[b,b,b,b]))(F:(s.setCell (Q_ a D) g).grownBy B f.ownBlock)(d0:i.ownBlock=f.ownBlock\/∃q,s.heap.size<=q/\i.ownBlock=some q)(C:Nat):
  XY w a y z A j b c d f q r t g i (B.setCell (Q_ a C) i):=by
 obtain⟨d2,d3,a7,Z,a8,a9,b0,b1,d4,b2⟩:=h;obtain⟨b3,b4,b5,b6,b7,b8⟩:=c7;have d1:=H.size;have a4:=F.size;rw[setSize]at a4;have J:∀n,g.ownBlock=some n->d.ownBlock=some n\/(p.heap.size<=n/\w.heap.size<=n):=by
  intro n o;rcases c8 with e|⟨u,c5,e⟩
  ·exact .inl (e▸o)
  ·rw[e]at o;have:=xM o;exact .inr O_
 have L:∀n,i.ownBlock=some n->f.ownBlock=some n\/(s.heap.size<=n/\w.heap.size<=n):=by
  intro n o;rcases d0 with e|⟨u,c5,e⟩
  ·exact .inl (e▸o)
  ·rw[e]at o;have:=xM o;exact .inr O_
 have O:g.ownBlock≠some a:=fun e=>by
  rcases J a e with u|u
  ·exact b4 u
  ·omega
 have T:i.ownBlock≠some a:=fun e=>by
  rcases L a e with u|u
  ·exact b5 u
  ·omega
 have U:g.ownBlock=none\/g.ownBlock≠f.ownBlock:=by
  cases c6:g.ownBlock with
  | none=>exact .inl rfl
  | some u=>
   refine .inr fun e=> ?_
   rcases J u c6 with a2|a2
   ·exact b8 u a2 e.symm
   ·have:=Z u e.symm;omega
 have a5:∀n,g.ownBlock=some n->i.ownBlock≠some n:=by
  intro n N b9;rcases L n b9 with u|u
  ·rcases U with S|S
   ·rw[S]at N;cases N
   ·exact S (N.trans u.symm)
  ·have:=(xF a3 n N).2;omega
 refine⟨k,l,m,zP (zP (zP a3 (Be a D s g) (.inr O)) F U) (Be a C B i) (.inr O),zP c9 (Be a C B i) (.inr T),?_,fun n o=>⟨?_,fun e=>O (e▸o),a5 n o⟩,fun n o=>⟨?_,fun e=>T (e▸o)⟩,?_,?_,?_,?_,?_⟩
 ·intro I c0;obtain⟨a0,M⟩:=a8 I c0;have V:=fun n (o:Gd I=some n)=>a0.lt o
  have R:∀n,Gd I=some n->some n≠some a:=fun n o e=>by
   have a6:=xM e;rcases M n o with u|u
   ·exact b3 (a6▸u)
   ·omega
  have W:∀n,Gd I=some n->d.ownBlock≠some n:=fun n o e=>by
   rcases M n o with u|u
   ·exact b6 n u e
   ·have:=a7 n e;omega
  have X:∀n,Gd I=some n->f.ownBlock≠some n:=fun n o e=>by
   rcases M n o with u|u
   ·exact b7 n u e
   ·have:=Z n e;omega
  refine⟨(((a0.grown H fun n o e=>W n o e.symm).grown (Be a D s g) R).grown F fun n o e=>X n o e.symm).grown (Be a C B i) R,fun n o=>⟨M n o,fun e=>R n o (by rw[e]),fun e=> ?_,fun e=> ?_⟩⟩
  ·rcases J n e with u|u
   ·exact W n o u
   ·have:=V n o;omega
  ·rcases L n e with u|u
   ·exact X n o u
   ·have:=V n o;omega
 ·exact(J n o).imp_right And.right
 ·exact(L n o).imp_right And.right
 ·exact((Be a C B i).os.trans F.os).trans ((Be a D s g).os.trans (H.os.trans a9))
 ·exact((Be a C B i).tape.trans F.tape).trans ((Be a D s g).tape.trans (H.tape.trans b0))
 ·exact((Be a C B i).output.trans F.output).trans ((Be a D s g).output.trans (H.output.trans b1))
 ·rw[setSize];omega
 ·intro G c1 a1 c2 c3 c4;have Y:some G≠some a:=fun e=>a1 (xM e)
  rw[(Be a C B i).block G O_ Y,F.block G (by rw[setSize];omega) (fun e=>c4 e.symm),(Be a D s g).block G O_ Y,H.block G O_ (fun e=>c3 e.symm)];exact b2 G c1 a1 c2
