import Derived.Test.YtolgpnaoaodepaaGreatWalkXm
set_option maxHeartbeats 4000000
set_option maxRecDepth 20000
namespace Go.Proofs.YtolgpnaoaodepaaGreat
open Sq
namespace Pr
open Pg
variable {g:hE}
theorem Abs{x:UInt8×hE}(h:Up g=some x):x.2.length<=249:=by
 unfold Up at h
 cases f:Di 1 g with
 | none=>rw[f]at h;simp at h
 | some a=>
  rw[f]at h;simp only[xV]at h
  cases i:Ee a.2 with
  | none=>rw[i]at h;simp at h
  | some b=>
   rw[i]at h;simp only[xV]at h
   cases j:Ds b.2 with
   | none=>rw[j]at h;simp at h
   | some n=>
    rw[j]at h;simp only[xV]at h
    cases k:Ds n.2 with
    | none=>rw[k]at h;simp at h
    | some z=>
     rw[k]at h;simp only[xV]at h;split at h
     ·simp at h
     ·cases d:Di z.1 z.2 with
      | none=>rw[d]at h;simp at h
      | some c=>
       rw[d]at h;simp only[vY,xX]at h;rw[<-h];have:=(Er d).1;simp only;omega
theorem EL{i:UInt8}{b:hE}(h:Lz i b=some g):g.length<=20000:=by
 unfold Lz at h
 cases c:Up b with
 | none=>rw[c]at h;simp at h
 | some x=>
  have f:=Abs c;rw[c]at h;simp only[xV]at h
  cases a:CR x.1 x.2 with
  | none=>rw[a]at h;simp at h
  | some u=>
   rw[a]at h;simp only[xV]at h;split at h
   ·simp only[xX]at h;rw[<-h];unfold CR at a;split at a
    ·unfold Ev at a;split at a
     ·rename_i j d;have:=Mn _ _ _ d;split at a
      ·simp at a;subst a;simp at this;omega
      ·simp at a
     ·simp at a
    ·simp at a;rw[<-a];omega
   ·simp at h
def Oh(ks:List hE)(i:Nat)(l:List (hE×hE)):Bool:=
 decide (1<=l.length)&&decide (l.length<=4)&&Cx none l&&decide ((l.map (·.1)).getD 0 []=ks.getD i [])&&(!decide (i+1<ks.length) || decide ((l.map (·.1)).getD (l.length-1) []<ks.getD (i+1) []))
def Ay(ks:List hE)(i:Nat)(s:hE):Option (List (hE×hE)):=(Lz 98 s).bind fun c=>(Qz c).bind fun l=>if Oh ks i l=true then some l else none
end Pr
open Go.RowKit
variable {w a:World}{c:Option (List (hE×hE))}{d:Ending}{f:List (hE×hE)}
theorem EM(a:hD)(b:Nat)(h:b<a.length):(Ag a).getD b []=(a[b]'h).data.toList:=by unfold Ag;rw[jH,zU,xW h];rfl
theorem YS(a:hD):(Ag a).length=a.length:=by simp[Ag]
theorem EN(a:gY)(b:Nat)(h:b<a.length):((Ab a).map (·.1)).getD b []=(a[b]'h).1.data.toList:=by unfold Ab;rw[zW,jH,zU,xW h];rfl
theorem EO(a:Option hE):(a=none/\Qj a=Am)\/∃b,a=some b/\Qj a=R_ (B_ ⟨b.toArray⟩):=by
 cases a with
 | none=>exact .inl ⟨rfl,rfl⟩
 | some b=>exact .inr ⟨b,rfl,rfl⟩
theorem Tz(v:Value)(A:hF)(b:hD)(c:Nat)(d:hE)(w:World)(b7:GY w v A b)(f0:b.length<=1000)(R:c<b.length):
  Calls Tryz.prog 217 #[v,J_ c,B_ ⟨d.toArray⟩] w fun g a=>MC w (Pr.Ay (Ag b) c d) g a:=by
 obtain⟨d7,d8,rfl,⟨C,D,rfl,-,-⟩,⟨d9,r,rfl,-,a⟩⟩:=b7;obtain⟨s,t,b1,Y,j⟩:=a.resolve_left O_;subst b1;have S:=Aa j;have f:=Aa ((xA w.heap.size w).alloc X_ (C_ #[L_ C A.length D,L_ (some (Q_ s t)) b.length r] 233));have i:Hid ((w.alloc (C_ #[L_ C A.length D,L_ (some (Q_ s t)) b.length r] 233)).cell? (Q_ w.heap.size 1)=some (L_ (some (Q_ s t)) b.length r)):=by show _=_;simp
 have b8:w.heap.size<(w.alloc (C_ #[L_ C A.length D,L_ (some (Q_ s t)) b.length r] 233)).heap.size:=D_;clear a j;go_in;go_wp2_with fail;generalize w.alloc (C_ #[L_ C A.length D,L_ (some (Q_ s t)) b.length r] 233)=e8 at*;refine(Qu 98 d _).mono ?_;rintro g a1 ⟨rfl,a⟩;have j:=Aa (f.o.trans (a.mono O_));have p:=Aa ((a.cell (p:=(Q_ w.heap.size 1)) (by show w.heap.size<_;omega)).trans i.o);have b9:=a.size;clear a f i;rcases EO (Pr.Lz 98 d)with⟨l,y⟩|⟨a4,l,y⟩
 ·have n:Hid (Pr.Ay (Ag b) c d=none):=by show _=_;unfold Pr.Ay;rw[l];rfl
  rw[y];clear l y;unfold Am;go_wp2_with fail;exact⟨rfl,j.o,.inl ⟨n.o,rfl⟩⟩
 have n:Hid (Pr.Ay (Ag b) c d=(Pr.Qz a4).bind fun a=>if Pr.Oh (Ag b) c a=true then some a else none):=by show _=_;unfold Pr.Ay;rw[l];rfl
 have c0:=Pr.EL l;rw[y];clear l y;go_wp2_with fail;refine(HJ a4 _ O_).mono ?_;rintro g e5 ⟨f,⟨i,rfl⟩|⟨a,e6,z,rfl,m,a2,B⟩⟩
 ·have o:Hid (Pr.Ay (Ag b) c d=none):=by show _=_;rw[n.o,i];rfl
  have k:=Aa (j.o.trans (f.mono O_));clear f i;unfold Am;go_wp2_with fail;exact⟨rfl,k.o,.inl ⟨o.o,rfl⟩⟩
 have o:Hid (Pr.Ay (Ag b) c d=if Pr.Oh (Ag b) c (Ab a)=true then some (Ab a)else none):=by show _=_;rw[n.o,z];rfl
 have k:=Aa (j.o.trans (f.mono O_));have u:=Aa ((f.cell (p:=(Q_ w.heap.size 1)) (by show w.heap.size<_;omega)).trans p.o);have a5:=Aa m;have T:=Aa B;have c1:=f.size;have q:(Ab a).length=a.length:=by simp[Ab]
 have i:Hid (Pr.Oh (Ag b) c (Ab a)=(decide (1<=a.length)&&decide (a.length<=4)&&Pg.Cx none (Ab a)&&decide (((Ab a).map (·.1)).getD 0 []=(Ag b).getD c [])&&(!decide (c+1<b.length) || decide (((Ab a).map (·.1)).getD (a.length-1) []<(Ag b).getD (c+1) [])))):=by show _=_;unfold Pr.Oh;rw[q,YS]
 obtain⟨b2,Z,rfl⟩:=Ad m;clear f z B q j p n;have f:Pr.Oh (Ag b) c (Ab a)=false->Pr.Ay (Ag b) c d=none:=fun h=>by rw[o.o,h];rfl
 have p:=Aa f;clear f;by_cases F:1<=a.length
 ·by_cases N:a.length<=4
  ·have J:decide ((1:Int)<=(a.length:Int))=true:=K_;have U:decide ((a.length:Int)<=4)=true:=K_;have a6:=Aa (Lv m);clear m;go_wp2_with fail;refine(Bm _).mono ?_;rintro g a3 ⟨rfl,rfl⟩;go_wp2_with fail;refine(Wz _ a _ a6.o O_).mono ?_;rintro g b4 ⟨rfl,f⟩;have q:=Aa (k.o.trans (f.mono O_));have O:=(f.cell (p:=(Q_ w.heap.size 1)) (by show w.heap.size<_;omega)).trans u.o;have m:Hid (Ap a1.heap.size b4 (L_ b2 a.length Z) a):=Ae a5.o f X_;have c2:=f.size;clear f u k J U;generalize j:Pg.Cx none (Ab a)=b6 at*
   cases b6
   ·have f:Hid (Pr.Ay (Ag b) c d=none):=p.o (by rw[i.o];simp);go_wp2_with fail;refine(Bt _).mono ?_;rintro g u ⟨rfl,rfl⟩;unfold Am;go_wp2_with fail;exact⟨rfl,q.o,.inl ⟨f.o,rfl⟩⟩
   ·clear j;go_wp2_with fail;refine(Bm _).mono ?_;rintro g u ⟨rfl,rfl⟩;obtain⟨a0,e0,b3,-,-,e4,j⟩:=m.o.isItems.resolve_left (by rintro⟨_,_,_,rfl⟩;simp at F);injection b3 with e1 e2 e3;subst e1 e3;have V:=(j 0 O_).1;have z:=(j (a.length-1) O_).1;have X:=Vy (pl:=b) S.o q.o Y c R;have L:=Aa (EN a 0 O_);have a7:=Aa (EN a (a.length-1) O_);have M:=Aa (EM b c R);clear j;generalize(a[0]'O_).1=G at*;generalize(a[a.length-1]'O_).1=H at*;generalize b[c]'R=I at*;simp only[vK,jW,zR]at V z;have c3:0<a.length:=O_;have c4:(0:Int)<(a.length:Int):=O_;have c5:(c:Int)<(b.length:Int):=O_;have c6:(0:Int)<=(c:Int):=O_;by_cases j:G.data.toList=I.data.toList
    ·have a8:G=I:=Fi j;have c7:=Aa j;subst a8;clear j;go_wp2_with fail;go_quiet (exact Ho (Bm _));have c8:(u.drewN nq).cell? (Q_ w.heap.size 1)=_:=O;have c9:(u.drewN nq).cell? (Q_ a0 ((a.length-1)*2))=_:=z;have B:=Aa (Ao q.o nq);have W:Hid (Ap a1.heap.size (u.drewN nq) (L_ (P_ a0) a.length Z) a):=m.o;generalize u.drewN nq=b5 at*;clear O z V X q m;by_cases z:c+1<b.length
     ·have d0:=Vy (pl:=b) S.o B.o Y (c+1) z;have V:=Aa (EM b (c+1) z);generalize b[c+1]'z=O at*;have a9:(c:Int)+1<(b.length:Int):=O_;have d1:IntKind.i64.wrap ((a.length:Int)-1)=((a.length-1:Nat):Int):=(by rw[zY _ ⟨O_,O_⟩];omega);have d2:IntKind.i64.wrap ((c:Int)+1)=((c+1:Nat):Int):=(by rw[zY _ ⟨O_,O_⟩];omega);have d3:((a.length-1:Nat):Int)<(a.length:Int):=O_;have d4:((c+1:Nat):Int)<(b.length:Int):=O_;have d5:(0:Int)<=(c:Int)+1:=O_;have X:Hid (((Ab a).map (·.1)).getD (a.length-1) []=H.data.toList):=a7.o;generalize m:a.length-1=e9 at*;clear m;by_cases m:H.data.toList<O.data.toList
      ·have f:Hid (Pr.Ay (Ag b) c d=some (Ab a)):=by
        show _=_;rw[o.o,i.o,L.o,M.o,X.o,V.o,xQ F,xQ N,xQ m];simp
       have b0:Op.bytesLess H.toList O.toList=true:=(by rw[Af,Af,Cj];exact xQ m);clear m;go_wp2_with fail;go_quiet (exact Ho (Bm _));go_wp2_with fail;go_ret;exact⟨Ao B.o _,.inr ⟨a,_,f.o,rfl,Qk W.o O_,a2,T.o⟩⟩
      ·have f:Hid (Pr.Ay (Ag b) c d=none):=p.o (by rw[i.o,X.o,V.o,xQ z,xN m];simp);have b0:Op.bytesLess H.toList O.toList=false:=(by rw[Af,Af,Cj];exact xN m);clear m;go_wp2_with fail
       go_region_dies
       all_goals
        refine(Bt _).mono ?_;rintro g e7 ⟨rfl,rfl⟩;unfold Am;go_wp2_with fail;exact⟨rfl,B.o.drew,.inl ⟨f.o,rfl⟩⟩
     ·have f:Hid (Pr.Ay (Ag b) c d=some (Ab a)):=by
       show _=_;rw[o.o,i.o,L.o,M.o,xQ F,xQ N,xN z];simp
      have a9:¬(c:Int)+1<(b.length:Int):=O_;go_wp2_with fail;go_ret;exact⟨B.o,.inr ⟨a,_,f.o,rfl,Qk W.o O_,a2,T.o⟩⟩
    ·have f:Hid (Pr.Ay (Ag b) c d=none):=p.o (by rw[i.o,L.o,M.o,xN j];simp);have m:(G.toList==I.toList)=false:=(by rw[Af,Af];simpa using j);have d6:¬G=I:=fun e=>j (by rw[e])
     clear j;go_wp2_with fail
     go_region_dies
     all_goals
      refine(Bt _).mono ?_;rintro g b5 ⟨rfl,rfl⟩;unfold Am;go_wp2_with fail;exact⟨rfl,q.o.drew,.inl ⟨f.o,rfl⟩⟩
  ·have f:Hid (Pr.Ay (Ag b) c d=none):=p.o (by rw[i.o,xN N];simp);have J:decide ((1:Int)<=(a.length:Int))=true:=K_;have U:decide ((a.length:Int)<=4)=false:=K_;go_wp2_with fail;refine(Bt _).mono ?_;rintro g a3 ⟨rfl,rfl⟩;unfold Am;go_wp2_with fail;exact⟨rfl,k.o,.inl ⟨f.o,rfl⟩⟩
 ·have f:Hid (Pr.Ay (Ag b) c d=none):=p.o (by rw[i.o,xN F];simp);have J:decide ((1:Int)<=(a.length:Int))=false:=K_;go_wp2_with fail;refine(Bt _).mono ?_;rintro g a3 ⟨rfl,rfl⟩;unfold Am;go_wp2_with fail;exact⟨rfl,k.o,.inl ⟨f.o,rfl⟩⟩
theorem YT(h:MC w c d a)(g:c=none):d=Am/\Below w.heap.size w a:=by
 obtain⟨f,⟨_,b⟩|⟨i,v,b,_⟩⟩:=h
 ·exact⟨b,f⟩
 ·rw[g]at b;simp at b
def Abt(w:World)(p:List (hE×hE))(r:Ending)(w':World):Prop:=∃l v,p=Ab l/\r=R_ v/\Ap w.heap.size w' v l/\l.length<=255/\(∀x∈l,x.1.size<=10000000/\x.2.size<=10000000)/\Below w.heap.size w w'
theorem TM(h:MC w c d a)(g:c=some f):Abt w f d a:=by
 obtain⟨i,⟨b,_⟩|⟨j,v,b,k,l,m,n⟩⟩:=h
 ·rw[g]at b;simp at b
 ·rw[g]at b;simp only[xX]at b;exact⟨j,v,b,k,l,m,n,i⟩
theorem GY.below{v:Value}{j:hF}{k:hD}(h:GY w v j k)(b:Below w.heap.size w a):GY a v j k:=by obtain⟨c,d,e,f,g⟩:=h;exact⟨c,d,e,f.below b,g.below b⟩
theorem BO(a:hJ):(⟨a.data.toList.toArray⟩:hJ)=a:=Fi D_
theorem Afx(v:Value)(d:hF)(a:hD)(b:Nat)(c:hJ)(w:World)(i:GY w v d a)(j:a.length<=1000)(k:b<a.length)(h:Pr.Ay (Ag a) b c.data.toList=none):
  Calls Tryz.prog 217 #[v,J_ b,B_ c] w fun f g=>f=Am/\Below w.heap.size w g:=by
 have:=Tz v d a b c.data.toList w i j k;rw[BO]at this;exact this.mono fun _ _ f=>YT f h
theorem Aeh(v:Value)(d:hF)(a:hD)(b:Nat)(c:hJ)(w:World)(j:GY w v d a)(k:a.length<=1000)(l:b<a.length)(h:Pr.Ay (Ag a) b c.data.toList=some f):
  Calls Tryz.prog 217 #[v,J_ b,B_ c] w fun g i=>Abt w f g i:=by
 have:=Tz v d a b c.data.toList w j k l;rw[BO]at this;exact this.mono fun _ _ g=>TM g h
theorem EP{l:Nat}(h:Below l w.drew a):Below l w a:=⟨h.os,h.tape,h.output,h.size,h.block⟩
namespace Pr
open Pg
def Dc:Nat->hE->Option (List (Int×hE×hE)×hE)
 | 0,t=>some ([],t)
 | n+1,t=>(Ee t).bind fun b=>(Fx b.2).bind fun k=>if b.1.toNat=2 then(Dc n k.2).map fun r=>(((2:Int),k.1,[])::r.1,r.2)else(Fx k.2).bind fun v=>(Dc n v.2).map fun r=>(((b.1.toNat:Int),k.1,v.1)::r.1,r.2)
def Qv(t:hE):Option (List (Int×hE×hE)×hE):=(Ee t).bind fun b=>Dc b.1.toNat b.2
def Hk:Nat->hE->Option (List hE×hE)
 | 0,t=>some ([],t)
 | n+1,t=>(Fx t).bind fun x=>(Hk n x.2).map fun r=>(x.1::r.1,r.2)
def Qw:Nat->hE->Option (hF×hE)
 | 0,t=>some ([],t)
 | n+1,t=>(Ds t).bind fun x=>(Qw n x.2).map fun r=>(x.1::r.1,r.2)
def Hx(c:hE)(n:Nat):Option (hF×List hE):=(Qw n c).bind fun x=>(Hk (n-1) x.2).bind fun p=>if p.2=[]then some (x.1,p.1)else none
theorem AF:∀(b:List (Int×hE×hE)) (d:hE),(∀c∈b,(c.1=1\/c.1=3\/(c.1=2/\c.2.2=[]))/\c.2.1.length<=12/\c.2.2.length<=16)->Dc b.length (b.flatMap Ct++d)=some (b,d)
 | [],d,_=>rfl
 | (k,a,v)::r,d,h=>by
  have f:=h (k,a,v) D_;simp only at f;rw[xH,Dc,jJ];obtain⟨b,j,l⟩:∃b:Nat,k=(b:Int)/\b<=3:=⟨k.toNat,O_,O_⟩;subst j;have e:Ct ((b:Int),a,v)++r.flatMap Ct++d=UInt8.ofNat (b % 256)::(text a++((if(b:Int)=2 then[]else text v)++(r.flatMap Ct++d))):=by unfold Ct;simp[low]
  have i:(UInt8.ofNat (b % 256)).toNat=b:=by rw[jY];omega
  rw[e];simp only[Ee,xV,i];rw[Na _ _ O_];simp only[xV];have g:=AF r d (fun c d=>h c (by simp[d]));by_cases c:b=2
  ·subst c;have d:v=[]:=by
    rcases f.1 with h|h|h
    ·omega
    ·omega
    ·exact h.2
   subst d;rw[xD rfl];simp only[wD,show((2:Nat):Int)=2 from rfl,zI];rw[g];rfl
  ·rw[xB c,xB O_,Na _ _ O_];simp only[xV];rw[g];rfl
theorem HK(a:List (Int×hE×hE))(c:hE)(d:a.length<=255)(h:∀b∈a,(b.1=1\/b.1=3\/(b.1=2/\b.2.2=[]))/\b.2.1.length<=12/\b.2.2.length<=16):Qv (Cc a++c)=some (a,c):=by
 have e:Cc a++c=UInt8.ofNat (a.length % 256)::(a.flatMap Ct++c):=by unfold Cc;simp[low]
 have b:(UInt8.ofNat (a.length % 256)).toNat=a.length:=by rw[jY];omega
 unfold Qv;rw[e];simp only[Ee,xV,b];exact AF a c h
theorem EQ:∀(b:List hE) (a:hE),(∀p∈b,p.length<=12)->Hk b.length (b.flatMap text++a)=some (b,a)
 | [],a,_=>rfl
 | p::r,a,h=>by rw[xH,Hk,jJ,xT,Na _ _ (by have:=h p D_;omega)];simp only[xV];rw[EQ r a (fun x a=>h x (by simp[a]))];rfl
theorem PE:∀(b:hF) (a:hE),(∀c∈b,c<=2147483647)->Qw b.length (b.flatMap num++a)=some (b,a)
 | [],a,_=>rfl
 | c::r,a,h=>by rw[xH,Qw,jJ,xT,Oa _ _ (h c D_)];simp only[xV];rw[PE r a (fun x a=>h x (by simp[a]))];rfl
theorem ME(a:hF)(b:List hE)(d:∀c∈a,c<=2147483647)(f:∀c∈b,c.length<=12)(c:b.length+1=a.length):Hx (Dw a b) a.length=some (a,b):=by unfold Hx Dw;rw[PE a _ d];simp only[xV];have:=EQ b [] f;rw[yC]at this;rw[show a.length-1=b.length by omega,this];simp
def Dl(page:hE):Option (hF×List hE×List (Int×hE×hE)):=
 (Di 3 page).bind fun a=>(Ee a.2).bind fun c=>(Gw c.2).bind fun p=>(Gw p.2).bind fun m=>(Py page [p.1,m.1]).bind fun ss=>(Lz 112 (ss.getD 0 [])).bind fun pc=>(Hx pc c.1.toNat).bind fun cp=>(Lz 109 (ss.getD 1 [])).bind fun mc=>(Qv mc).bind fun ms=>if ms.2=[]then some (cp.1,cp.2,ms.1)else none
end Pr
