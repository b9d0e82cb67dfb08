import Derived.Test.YtolgpnaoaodepaaGreatMathFm
set_option maxHeartbeats 2000000
set_option maxRecDepth 20000
namespace Go.Proofs.YtolgpnaoaodepaaGreat
open Go.RowKit Pg Sq
theorem Ku.ne{w f:World}{v d:Value}(h:Ku w f v d){a:Nat}(j:a<w.heap.size)(g:v.ownBlock≠some a):d.ownBlock≠some a:=by
 rcases h.2 with e|⟨c,i,e⟩
 ·rw[e];exact g
 ·rw[e];intro b;have:c=a:=by simpa using b
  omega
theorem XS(c d:hJ)(w:World)(C:c.size<=35184372088832):
  Calls Tryz.prog 235 #[B_ c,B_ d] w fun o p=>o=R_ (J_ (Pg.Du c.data.toList d.data.toList))/\∃g,p=w.drewN g:=by
 obtain⟨b,n⟩:∃b:Nat,b=min c.size d.size:=⟨_,rfl⟩;have r:min (c.size:Int) (d.size:Int)=(b:Int):=O_;have s:b<=c.size/\b<=d.size/\(b=c.size\/b=d.size):=O_;clear n;go_in;go_wp2_with fail
 go_loopw [5] (fun l wr=>∃a:Nat,a<=b/\l=J_ a/\(∀f,f<a->∃x,c.data.toList[f]?=some x/\d.data.toList[f]?=some x)/\∃g,wr=w.drewN g) (fun l _=>b-(intOf l).toNat)
 case atStart=>exact⟨0,Y_,rfl,fun f h=>O_,0,rfl⟩
 case round=>
  obtain⟨a,A,rfl,k,g,rfl⟩:=hrel;have i:=Aa k;clear k;by_cases B:a<b
  ·have t:(a:Int)<(c.size:Int):=O_;have u:(a:Int)<(d.size:Int):=O_;have y:decide ((a:Int)<(b:Int))=true:=K_;go_wp2_with fail;go_quiet (fail);go_wp2_with fail
   ·have j:=NR c d a O_ O_ V_
    go_roundw
    case rel=>
     refine⟨a+1,O_,W_,fun f k=> ?_,_,rfl⟩;by_cases q:f=a
     ·rw[q];exact j
     ·exact i.o f O_
    case measure=>simp[intOf];omega
   ·have j:=NS c d a O_ O_ V_;go_ret;exact⟨Fr (by rw[Jm a _ _ i.o (.inr (.inr j))]),_,vC _ _ _⟩
  ·have z:decide ((a:Int)<(b:Int))=false:=K_;have m:=Aa (Jm a c.data.toList d.data.toList i.o (by rw[Ah,Ah];omega));go_wp2_with fail;go_quiet (fail);go_wp2_with fail;go_ret;exact⟨Fr (by rw[m.o]),_,vC _ _ _⟩
theorem Adx(C a6 d3:Nat)(a:gY)(w:World)(e8:a.length<=1000)(a7:Gr w C a6 a)(d4:C<w.heap.size)(a8:∀x∈a,x.1.size<=10000000/\x.2.size<=10000000):
  Calls Tryz.prog 179 #[L_ (some (Q_ C a6)) a.length d3] w fun p a4=>∃a5,p=R_ a5/\Bp w.heap.size a4 a5 (Pg.Bl (Ab a))/\Below w.heap.size w a4:=by
 have a9:=Aa a7;have b0:=Aa a8;clear a7 a8;obtain⟨u,T,m⟩:=KW a.length;have b1:=Aa T;have b2:Hid ([u]++Pg.items [] (Ab a)=Pg.Bl (Ab a)):=by show _=_;unfold Pg.Bl Ab;rw[xP,m]
 clear T m;go_in;go_wp2_with fail;have D:=Rm w w.heap.size X_ [u] #[.int .u8 ((a.length:Int) % 256)] (by simp[Lib.byteCells];rw[b1.o];omega) D_;have F:=Aa D;have o:=Aa ((xA w.heap.size w).alloc X_ (C_ #[.int .u8 ((a.length:Int) % 256)] 5));clear D
 go_loopw [3,4,14] (fun d1 d2 B wr=>∃(c:Nat) (i:hE) (d:hJ),c<=a.length/\B=J_ c/\d2=B_ d/\d.size<=10000000/\i.length<=1+c*20000100/\Bp w.heap.size wr d1 i/\Below w.heap.size w wr/\i++Pg.items d.data.toList (Ab (a.drop c))=Pg.Bl (Ab a)) (fun _ _ B _=>a.length-(intOf B).toNat)
 case atStart=>exact⟨0,[u],⟨#[]⟩,Y_,rfl,rfl,Do,D_,F.o,o.o,by simpa using b2.o⟩
 case round=>
  clear F o;obtain⟨c,i,d,e1,rfl,rfl,e2,e3,U,y,V⟩:=hrel;have G:=Aa V;have q:=Aa y;have r:=Aa U;have b3:=y.size;clear V y U;by_cases l:c<a.length
  ·obtain⟨W,X⟩:=a9.o.below q.o d4 c l;have H:=b0.o _ (yA l);have b4:Hid (Ab (a.drop c)=((a[c]'l).1.data.toList,(a[c]'l).2.data.toList)::Ab (a.drop (c+1))):=by
    show _=_;rw[yM l];rfl
   generalize a[c]'l=x at*;obtain⟨b,f⟩:=x;simp only at W X H;go_wp2_with fail;refine(XS d b _ O_).mono ?_;rintro p Z ⟨rfl,j,rfl⟩;have b5:=Pg.Ox d.data.toList b.data.toList;rw[Ah,Ah]at b5;have b6:Hid (Pg.items d.data.toList (Ab (a.drop c))=Pg.low (Pg.Du d.data.toList b.data.toList) 1++Pg.text (b.data.toList.drop (Pg.Du d.data.toList b.data.toList))++Pg.text f.data.toList++Pg.items b.data.toList (Ab (a.drop (c+1)))):=(by show _=_;rw[b4.o];rfl);generalize Pg.Du d.data.toList b.data.toList=n at*;have I:((wr.alloc (C_ #[B_ b,B_ f] 51)).drewN j).cell? (Q_ wr.heap.size 0)=some (B_ b):=D_;have J:((wr.alloc (C_ #[B_ b,B_ f] 51)).drewN j).cell? (Q_ wr.heap.size 1)=some (B_ f):=D_;have s:=Aa (SI r.o (Nat.le_refl wr.heap.size));have L:=Aa ((r.o.alloc (C_ #[B_ b,B_ f] 51)).drewN j);have b7:=Aa (Ao (q.o.alloc b3 (C_ #[B_ b,B_ f] 51)) j);have d5:((wr.alloc (C_ #[B_ b,B_ f] 51)).drewN j).heap.size>wr.heap.size:=D_;generalize(wr.alloc (C_ #[B_ b,B_ f] 51)).drewN j=Z at*;obtain⟨c8,Y,m⟩:=KW n;have b8:=Aa Y;have o:=Aa m;clear Y m W X
   go_wp2_with (first
    | (at_builtin;refine Rg Z rfl (.tmp 22) (.tmp 25) rfl w.heap.size u3 i rfl L.o c8 _ ?_ rfl ?_ ?_ ?_))
   ·rw[b8.o];omega
   ·omega
   ·omega
   intro d0 e7 a1 a2 a3;have M:=Aa a1;have g:=Le a2 a3;have b9:=Aa (b7.o.trans (g.below L.o O_));have d6:=g.size;have N:=g.cell I s.o;have O:=g.cell J s.o;have t:=Aa (g.ne O_ s.o);clear a1 a2 a3 g I J;have d7:(0:Int)<=(n:Int):=O_;have d8:(n:Int)<=(b.size:Int):=O_;go_wp2_with fail;refine(Jg w.heap.size d0 _ (b.extract n b.size) _ M.o O_ K_ (by rw[zM];omega)).mono ?_;rintro p e4 ⟨c9,rfl,z,k⟩;have c0:=El (b.data.toList.drop n) (by rw[xY,Ah];omega);rw[xY,Ah]at c0;rw[Jl]at z;have R:=Aa z;have c1:=Aa (b9.o.trans (k.below M.o O_));have d9:=k.size;have S:=k.cell N t.o;have c2:=k.cell O t.o;have c3:=Aa (k.ne O_ t.o);clear z k N O;go_wp2_with fail;refine(Jg w.heap.size c9 _ f _ R.o O_ K_ O_).mono ?_;rintro p e5 ⟨e6,rfl,a0,A⟩;have c4:=El f.data.toList (by rw[Ah];omega);rw[Ah]at c4;have c5:=Aa a0;have c6:=Aa (c1.o.trans (A.below R.o O_));have e0:=A.cell S c3.o;clear a0 A S c2;go_wp2_with fail
   go_roundw
   case rel=>
    refine⟨c+1,_,b,O_,W_,rfl,H.1,?_,c5.o,c6.o,?_⟩
    ·simp only[xC,jR];omega
    ·rw[<-G.o,b6.o,o.o];simp
   case measure=>simp[intOf];omega
  ·have c7:Hid (i=Pg.Bl (Ab a)):=by
    show _=_;rw[<-G.o,zG O_];simp[Ab,Pg.items]
   go_wp2_with fail;go_ret;exact⟨_,rfl,by rw[<-c7.o];exact r.o,q.o⟩
theorem Aax(m:Option Addr)(n:Nat)(w:World):
  Calls Tryz.prog 179 #[L_ m 0 n] w fun j b=>∃c,j=R_ c/\Bp w.heap.size b c (Pg.Bl [])/\Below w.heap.size w b:=by
 have a:=Rm w w.heap.size X_ [0] #[.int .u8 0] (by simp[Lib.byteCells]) D_;have d:=Aa a;have f:=Aa ((xA w.heap.size w).alloc X_ (C_ #[.int .u8 0] 5));clear a;go_in;go_wp2_with fail
 go_loopw [3,4,14] (fun k _ l wr=>l=J_ 0/\Bp w.heap.size wr k [0]/\Below w.heap.size w wr) (fun _ _ _ _=>0)
 case atStart=>exact⟨rfl,d.o,f.o⟩
 case round=>
  obtain⟨rfl,g,i⟩:=hrel;go_wp2_with fail;go_ret;exact⟨_,rfl,g,i⟩
theorem NX(v:Value)(a:gY)(w:World)(j:Fa w v a)(k:a.length<=1000)(l:∀x∈a,x.1.size<=10000000/\x.2.size<=10000000):
  Calls Tryz.prog 179 #[v] w fun d b=>∃c,d=R_ c/\Bp w.heap.size b c (Pg.Bl (Ab a))/\Below w.heap.size w b:=by
 rcases j with⟨c,b,rfl,rfl⟩|⟨d,f,b,rfl,-,-,g,i⟩
 ·exact Aax c b w
 ·exact Adx d f b a w k i g l
namespace Pr
open Pg
variable {a:Nat}{c x m:hE}{s:UInt8}
def Di(n:Nat)(t:hE):Option (hE×hE):=if n<=t.length then some (t.take n,t.drop n)else none
theorem Mp(h:a<=c.length):Di a c=some (c.take a,c.drop a):=xD h
theorem Aay(h:¬a<=c.length):Di a c=none:=xB h
theorem Dx(a b:hE):Di a.length (a++b)=some (a,b):=by rw[Mp D_,jB,jQ]
theorem Er(h:Di a c=some (x,m)):x.length=a/\c=x++m:=by
 unfold Di at h;split at h
 ·rename_i b;simp only[xX,kL]at h;rw[<-h.1,<-h.2,zK,xR];exact⟨O_,rfl⟩
 ·simp at h
def Ee:hE->Option (UInt8×hE)
 | []=>none
 | b::t=>some (b,t)
theorem Lf(h:Ee c=some (s,m)):c=s::m:=by
 cases c with
 | nil=>simp[Ee]at h
 | cons a r=>simp[Ee]at h;rw[h.1,h.2]
def Gw(t:hE):Option (Nat×hE):=(Di 2 t).map fun x=>(Da x.1,x.2)
def Yd:Nat->Nat->Nat->hE->Option (Nat×hE)
 | 0,_,_,_=>none
 | _+1,_,_,[]=>none
 | f+1,c,n,b::t=>
  if 2147483647<n+b.toNat % 128*c then none
  else if b.toNat<128 then(if b.toNat=0/\c≠1 then none else some (n+b.toNat % 128*c,t))
  else Yd f (128*c) (n+b.toNat % 128*c) t
def Ds(t:hE):Option (Nat×hE):=Yd 5 1 0 t
theorem VQ:∀(f a c:Nat) (d:hE) (g:Nat) (i:hE),Yd f a c d=some (g,i)->g<=2147483647/\i.length<d.length
 | 0,_,_,_,_,_,h=>by simp[Yd]at h
 | f+1,a,c,[],_,_,h=>by simp[Yd]at h
 | f+1,a,c,b::d,g,i,h=>by
  unfold Yd at h;split at h
  ·simp at h
  ·split at h
   ·split at h
    ·simp at h
    ·simp only[xX,kL]at h;rw[<-h.1,<-h.2];exact⟨O_,D_⟩
   ·have:=VQ f _ _ _ _ _ h;exact⟨this.1,K_⟩
theorem Uo(h:Ds c=some (a,m)):a<=2147483647/\m.length<c.length:=VQ _ _ _ _ _ _ h
theorem NY:∀(f b c a:Nat) (d:hE),a<128^(f+1)->c+a*b<=2147483647->(0<a\/b=1)->0<b->Yd (f+1) b c (num a++d)=some (c+a*b,d)
 | f,b,c,a,d,hm,hle,h0,hc=>by
  by_cases g:a<128
  ·rw[Lc a g,low,low,show a % 256=a by omega];simp only[jF,zI,Yd];have i:(UInt8.ofNat a).toNat=a:=K_;rw[i,bT g,xB O_,xD g,xB O_]
  ·rw[Vr a g,low,low,show(128+a % 128) % 256=128+a % 128 by omega];simp only[jF,zI,Yd];have i:(UInt8.ofNat (128+a % 128)).toNat=128+a % 128:=by
    rw[jY];omega
   rw[i,show(128+a % 128) % 128=a % 128 by omega];have j:a % 128*b+a / 128*(128*b)=a*b:=(by rw[<-Nat.mul_assoc,<-wL,vJ (a / 128) 128];congr 1;omega);rw[xB O_,xB O_]
   match f with
   | 0=>omega
   | f+1=>
    rw[NY f (128*b) (c+a % 128*b) (a / 128) d (by rw[bQ Do];rw[vV]at hm;exact hm) O_ (.inl O_) O_];congr 2;omega
theorem Oa(a:Nat)(b:hE)(h:a<=2147483647):Ds (num a++b)=some (a,b):=by have:=NY 4 1 0 a b (by show a<128^5;omega) O_ (.inr rfl) Do;unfold Ds;rw[this];simp
def Fx(t:hE):Option (hE×hE):=match Ds t with
 | some (n,u)=>Di n u
 | none=>none
theorem Na(a b:hE)(h:a.length<=2147483647):Fx (text a++b)=some (a,b):=by unfold Fx text;rw[xT,Oa _ _ h];exact Dx a b
theorem Pa(h:Fx c=some (x,m)):x.length<=c.length/\m.length<c.length:=by
 unfold Fx at h;split at h
 ·rename_i g v b;have d:=Uo b;obtain⟨f,a⟩:=Er h;have:v.length=x.length+m.length:=by rw[a,xC]
  omega
 ·simp at h
def Up(s:hE):Option (UInt8×hE):=
 (Di 1 s).bind fun a=>(Ee a.2).bind fun h=>(Ds h.2).bind fun n=>(Ds n.2).bind fun z=>if 249<z.1 then none else(Di z.1 z.2).map fun c=>(h.1,c.1)
def CR(how:UInt8)(c:hE):Option hE:=if how=1 then Ev c else some c
def Lz(k:UInt8)(s:hE):Option hE:=(Up s).bind fun x=>(CR x.1 x.2).bind fun u=>if Ar [k] u=s then some u else none
theorem Ady(h:Lz s c=some m):Ar [s] m=c:=by
 unfold Lz at h
 cases a:Up c with
 | none=>rw[a]at h;simp at h
 | some x=>
  rw[a]at h;simp only[xV]at h
  cases b:CR x.1 x.2 with
  | none=>rw[b]at h;simp at h
  | some u=>
   rw[b]at h;simp only[xV]at h;split at h
   ·rename_i d;simp at h;rw[<-h];exact d
   ·simp at h
theorem VR(c d:UInt8)(b:Nat)(a f:hE)(g:b<=2147483647)(i:a.length<=249):Up ([c]++[d]++num b++text a++f)=some (d,a):=by unfold Up text;rw[show[c]++[d]++num b++(num a.length++a)++f=[c]++(d::(num b++(num a.length++(a++f))))by simp];rw[show Di 1 ([c]++(d::(num b++(num a.length++(a++f)))))=some ([c],d::(num b++(num a.length++(a++f))))from Dx [c] _];simp only[xV,Ee];rw[Oa b _ g];simp only[xV];rw[Oa a.length _ O_];simp only[xV];rw[xB O_,Dx];rfl
theorem Mj(b:UInt8)(a:hE)(h:a.length<=249):Lz b (Ar [b] a)=some a:=by
 unfold Lz;by_cases d:(Br a).length<a.length
 ·have e:Ar [b] a=[b]++[1]++num a.length++text (Br a)++low (crc ([b]++low 1 1++num a.length++text (Br a))) 4:=by unfold Ar;rw[xD d];rfl
  have c:Up (Ar [b] a)=some (1,Br a):=by rw[e];exact VR b 1 _ _ _ O_ O_
  rw[c];simp only[xV,CR,wD,Rh]
 ·have e:Ar [b] a=[b]++[0]++num a.length++text a++low (crc ([b]++low 0 1++num a.length++text a)) 4:=by unfold Ar;rw[xB d];rfl
  have c:Up (Ar [b] a)=some (0,a):=by rw[e];exact VR b 0 _ _ _ O_ h
  rw[c];simp[CR]
def Hz:Nat->hE->hE->Option (List (hE×hE)×hE)
 | 0,_,t=>some ([],t)
 | n+1,last,t=>(Ee t).bind fun b=>if last.length<b.1.toNat then none else(Fx b.2).bind fun x=>(Fx x.2).bind fun v=>(Hz n (last.take b.1.toNat++x.1) v.2).map fun r=>((last.take b.1.toNat++x.1,v.1)::r.1,r.2)
theorem Rp:∀(b a:hE),b.take (Du b a)++a.drop (Du b a)=a
 | [],a=>by simp[Du]
 | _::_,[]=>by simp[Du]
 | x::xs,y::ys=>by
  unfold Du;split
  ·rename_i h;rw[aB,dM,jF,Rp xs ys,h]
  ·simp
theorem Wc:∀(a:List (hE×hE)) (b c:hE),b.length<=12->(∀x∈a,x.1.length<=12/\x.2.length<=16)->Hz a.length b (items b a++c)=some (a,c)
 | [],_,c,_,_=>rfl
 | (k,v)::r,b,c,hl,h=>by
  have d:=h (k,v) D_;simp only at d;have g:=Ox b k;rw[items,xH,Hz];obtain⟨a,i⟩:∃a,Du b k=a:=⟨_,rfl⟩;have f:=Rp b k;rw[i]at g f⊢;have b:(UInt8.ofNat (a % 256)).toNat=a:=by rw[jY];omega
  rw[show low a 1++text (k.drop a)++text v++items k r++c=UInt8.ofNat (a % 256)::(text (k.drop a)++(text v++(items k r++c)))by simp[low]];simp only[Ee,xV,b];rw[xB O_,Na _ _ (by rw[xY];omega)];simp only[xV];rw[Na _ _ O_];simp only[xV,f];rw[Wc r k c d.1 (fun x c=>h x (by simp[c]))];rfl
def Qz(c:hE):Option (List (hE×hE)):=(Ee c).bind fun b=>(Hz b.1.toNat [] b.2).bind fun r=>if Bl r.1=c then some r.1 else none
theorem Adz{B:List (hE×hE)}(h:Qz c=some B):Bl B=c:=by
 unfold Qz at h
 cases a:Ee c with
 | none=>rw[a]at h;simp at h
 | some x=>
  rw[a]at h;simp only[xV]at h
  cases b:Hz x.1.toNat [] x.2 with
  | none=>rw[b]at h;simp at h
  | some u=>
   rw[b]at h;simp only[xV]at h;split at h
   ·rename_i d;simp at h;rw[<-h];exact d
   ·simp at h
theorem Tw(a:List (hE×hE))(c:a.length<=255)(h:∀x∈a,x.1.length<=12/\x.2.length<=16):Qz (Bl a)=some a:=by
 have e:Bl a=UInt8.ofNat (a.length % 256)::(items [] a++[]):=by unfold Bl;simp[low]
 unfold Qz;have b:(UInt8.ofNat (a.length % 256)).toNat=a.length:=by rw[jY];omega
 rw[show Ee (Bl a)=some (UInt8.ofNat (a.length % 256),items [] a++[])by rw[e];rfl];simp only[xV,b];rw[Wc a [] [] D_ h];simp
def Ky:hF->hE->Option (List hE×hE)
 | [],t=>some ([],t)
 | s::ss,t=>(Di s t).bind fun x=>(Ky ss x.2).map fun r=>(x.1::r.1,r.2)
def Py(page:hE)(ss:hF):Option (List hE):=(Di 68 page).bind fun a=>(Ky ss a.2).bind fun r=>if r.2=[]then some r.1 else none
theorem CT:∀(b:List hE) (a:hE),Ky (b.map List.length) (b.flatten++a)=some (b,a)
 | [],a=>rfl
 | x::r,a=>by rw[yD,Ky,yO,xT,Dx];simp only[xV];rw[CT r a];rfl
theorem NZ:∀(a:hF) (b:hE) (c:List hE) (d:hE),Ky a b=some (c,d)->b=c.flatten++d/\c.map List.length=a
 | [],b,c,d,h=>by simp[Ky]at h;rw[h.1,h.2];simp
 | s::a,b,c,d,h=>by
  rw[Ky]at h
  cases c:Di s b with
  | none=>rw[c]at h;simp at h
  | some x=>
   rw[c]at h;simp only[xV]at h
   cases b:Ky a x.2 with
   | none=>rw[b]at h;simp at h
   | some r=>
    rw[b]at h;simp only[vY,xX,kL]at h;obtain⟨d,f⟩:=Er c;obtain⟨g,i⟩:=NZ a x.2 r.1 r.2 b;rw[<-h.1,<-h.2,yO,yD,d,i,f,g,xT];exact⟨rfl,rfl⟩
theorem KX{j:hF}{C:List hE}(h:Py c j=some C):68<=c.length/\c.drop 68=C.flatten/\C.map List.length=j:=by
 unfold Py at h
 cases a:Di 68 c with
 | none=>rw[a]at h;simp at h
 | some x=>
  rw[a]at h;simp only[xV]at h
  cases b:Ky j x.2 with
  | none=>rw[b]at h;simp at h
  | some r=>
   rw[b]at h;simp only[xV]at h;split at h
   ·rename_i k;simp only[xX]at h;obtain⟨g,d⟩:=Er a;obtain⟨f,i⟩:=NZ j x.2 r.1 r.2 b;rw[k,yC]at f;rw[<-h];refine⟨by rw[d,xC];omega,?_,i⟩;rw[d,<-g,jQ,f]
   ·simp at h
theorem Ye(b:hE)(a:List hE)(h:b.length=68):Py (b++a.flatten) (a.map List.length)=some a:=by unfold Py;rw[<-h,Dx];simp only[xV];have:=CT a [];rw[yC]at this;rw[this];simp
def Ie:Nat->hE->Option (hF×List hE)
 | 0,_=>some ([],[])
 | n+1,t=>(Gw t).bind fun s=>(Ee s.2).bind fun b=>(Di 12 b.2).bind fun p=>if 12<b.1.toNat then none else(Ie n p.2).map fun r=>(s.1::r.1,p.1.take b.1.toNat::r.2)
theorem OA:∀(n:Nat) (a:hE) (x:hF×List hE),Ie n a=some x->x.1.length=n/\x.2.length=n/\∀c∈x.2,c.length<=12
 | 0,a,x,h=>by simp[Ie]at h;subst h;simp
 | n+1,a,x,h=>by
  rw[Ie]at h
  cases f:Gw a with
  | none=>rw[f]at h;simp at h
  | some s=>
   rw[f]at h;simp only[xV]at h
   cases g:Ee s.2 with
   | none=>rw[g]at h;simp at h
   | some b=>
    rw[g]at h;simp only[xV]at h
    cases i:Di 12 b.2 with
    | none=>rw[i]at h;simp at h
    | some p=>
     rw[i]at h;simp only[xV]at h;split at h
     ·simp at h
     ·cases d:Ie n p.2 with
      | none=>rw[d]at h;simp at h
      | some r=>
       rw[d]at h;simp only[vY,xX]at h;obtain⟨j,k,l⟩:=OA n p.2 r d;subst h;refine⟨by simp[j],by simp[k],?_⟩;intro c a;rcases xG.1 a with rfl|a
       ·rw[xR];omega
       ·exact l c a
end Pr
namespace Pg
def Nb(s:Nat)(k:hE):hE:=low s 2++low k.length 1++k++List.replicate (12-k.length) 0
def Cq:hF->List hE->hE
 | s::ss,k::ks=>Nb s k++Cq ss ks
 | _,_=>[]
def Fl(ss:hF)(ks:List hE):hE:=sealed ([83,50,76]++low ss.length 1++Cq ss ks++List.replicate (60-(Cq ss ks).length) 0)
theorem Wd(b:Nat)(a:hE)(h:a.length<=12):(Nb b a).length=15:=by unfold Nb;simp only[xC,Bo,kD];omega
theorem Pb:∀(a:hF) (b:List hE),a.length=b.length->(∀c∈b,c.length<=12)->(Cq a b).length=15*a.length
 | [],[],_,_=>rfl
 | s::a,c::b,h,hk=>by rw[Cq,xC,Wd s c (hk c D_),Pb a b (by simpa using h) (fun x d=>hk x (by simp[d])),xH];omega
 | [],c::b,h,_=>by simp at h
 | s::a,[],h,_=>by simp at h
end Pg
namespace Pr
open Pg
def Jc(page:hE):Option (hF×List hE):=(Di 68 page).bind fun f=>(Di 3 f.1).bind fun a=>(Ee a.2).bind fun c=>if 4<c.1.toNat then none else(Ie c.1.toNat c.2).bind fun r=>if Az r.2 none=true then(if Fl r.1 r.2=f.1 then some r else none)else none
theorem Zq:∀(b:hF) (c:List hE) (d:hE),b.length=c.length->(∀s∈b,s<65536)->(∀a∈c,a.length<=12)->Ie b.length (Cq b c++d)=some (b,c)
 | [],[],_,_,_,_=>rfl
 | s::b,a::c,d,h,hs,hk=>by
  have g:=hs s D_;have k:=hk a D_;rw[Cq,xH,Ie];have e:Nb s a++Cq b c++d=low s 2++(UInt8.ofNat (a.length % 256)::((a++List.replicate (12-a.length) 0)++(Cq b c++d))):=by unfold Nb;simp[low]
  have i:Gw (Nb s a++Cq b c++d)=some (s,UInt8.ofNat (a.length % 256)::((a++List.replicate (12-a.length) 0)++(Cq b c++d))):=by unfold Gw;rw[e];have:=Dx (low s 2) (UInt8.ofNat (a.length % 256)::((a++List.replicate (12-a.length) 0)++(Cq b c++d)));rw[Bo]at this;rw[this];simp only[vY];rw[Mw 2 s (by simpa using g)]
  have j:(UInt8.ofNat (a.length % 256)).toNat=a.length:=by rw[jY];omega
  rw[i];simp only[xV,Ee];have f:=Dx (a++List.replicate (12-a.length) 0) (Cq b c++d);rw[show(a++List.replicate (12-a.length) (0:UInt8)).length=12 by simp;omega]at f;rw[f];simp only[xV,j];rw[xB O_,Zq b c d (by simpa using h) (fun x d=>hs x (by simp[d])) (fun x d=>hk x (by simp[d])),jB];rfl
 | [],a::c,_,h,_,_=>by simp at h
 | s::b,[],_,h,_,_=>by simp at h
theorem Yf(a:hF)(b:List hE)(h:a.length=b.length)(f:a.length<=4)(d:∀c∈b,c.length<=12):(Fl a b).length=68:=by unfold Fl;rw[Jb];simp only[xC,Bo,kD,Pb a b h d];simp;omega
theorem Zr(a:hF)(b:List hE)(f:hE)(h:a.length=b.length)(l:a.length<=4)(m:∀c∈a,c<65536)(g:Az b none=true):Jc (Fl a b++f)=some (a,b):=by
 have c:=Fe b none g;have i:=Yf a b h l c;unfold Jc;have d:=Dx (Fl a b) f;rw[i]at d;rw[d];simp only[xV];have e:Fl a b=[83,50,76]++(UInt8.ofNat (a.length % 256)::(Cq a b++(List.replicate (60-(Cq a b).length) 0++low (crc ([83,50,76]++low a.length 1++Cq a b++List.replicate (60-(Cq a b).length) 0)) 4))):=by unfold Fl sealed;simp[low]
 have j:Di 3 (Fl a b)=some ([83,50,76],UInt8.ofNat (a.length % 256)::(Cq a b++(List.replicate (60-(Cq a b).length) 0++low (crc ([83,50,76]++low a.length 1++Cq a b++List.replicate (60-(Cq a b).length) 0)) 4))):=by have:=Dx [83,50,76] (UInt8.ofNat (a.length % 256)::(Cq a b++(List.replicate (60-(Cq a b).length) 0++low (crc ([83,50,76]++low a.length 1++Cq a b++List.replicate (60-(Cq a b).length) 0)) 4)));rw[<-e]at this;exact this
 have k:(UInt8.ofNat (a.length % 256)).toNat=a.length:=by rw[jY];omega
 rw[j];simp only[xV,Ee,k];rw[xB O_,Zq a b _ h m c];simp[g]
theorem OB{m:hE}{D:hF×List hE}(h:Jc m=some D):68<=m.length/\Fl D.1 D.2=m.take 68/\Az D.2 none=true/\D.1.length=D.2.length/\D.1.length<=4:=by
 unfold Jc at h
 cases b:Di 68 m with
 | none=>rw[b]at h;simp at h
 | some f=>
  rw[b]at h;simp only[xV]at h
  cases i:Di 3 f.1 with
  | none=>rw[i]at h;simp at h
  | some a=>
   rw[i]at h;simp only[xV]at h
   cases j:Ee a.2 with
   | none=>rw[j]at h;simp at h
   | some c=>
    rw[j]at h;simp only[xV]at h;split at h
    ·simp at h
    ·cases d:Ie c.1.toNat c.2 with
     | none=>rw[d]at h;simp at h
     | some x=>
      rw[d]at h;simp only[xV]at h;split at h
      ·split at h
       ·rename_i q _ l;simp only[xX]at h;subst h;obtain⟨n,o,p⟩:=OA _ _ _ d;obtain⟨k,g⟩:=Er b;refine⟨by rw[g,xC];omega,?_,V_,O_,O_⟩;rw[l,g,<-k,jB]
       ·simp at h
      ·simp at h
end Pr
variable {a b i p q B:Nat}{w f wr:World}{d v g r:Value}{k t:hH}{n e:TypeId}{j:hF}{l:hD}{u:Array Oper}{y:Oper}{z:Act}{Q:Exit->Act->World->Prop}
def Cl(l:hF):hH:=l.map fun(c:Nat)=> J_ (c:Int)
theorem Fm{Tu Tv:TypeId}(l:w.ownsRow a Tu b d p k)(r:w.ownsRow a Tv i v q t)(s:a<=w.heap.size)(m:Ep d v)(n:w.grownBy f v.ownBlock)(u:g.ownBlock=v.ownBlock\/∃c,w.heap.size<=c/\g.ownBlock=some c):f.ownsRow a Tu b d p k/\Ep d g/\Below a w f:=by
 refine⟨zP l n ?_,?_,(xA a w).grown n s fun c j=>(xF r c j).1⟩
 ·cases h:d.ownBlock with
  | none=>exact .inl rfl
  | some c=>exact .inr (fun e=>m c h e.symm)
 ·intro c j e;have y:=(xF l c j).2;rcases u with h|⟨o,z,h⟩
  ·rw[h]at e;exact m c j e
  ·rw[h]at e;have:o=c:=(by simpa using e);omega
theorem Ae(h:w.ownsRow a n i v p k)(q:Below b w f)(r:w.heap.size<=b):f.ownsRow a n i v p k:=by
 refine⟨h.1,?_⟩;rcases h.2 with g|⟨c,j,l,rfl,m,d,o⟩
 ·exact .inl g
 ·exact .inr ⟨c,j,l,rfl,m,by rw[q.block c (yF (xS.1 d).1 r)];exact d,o⟩
structure LHd(B b:Nat)(w wr:World)(ss:hF)(fs:hD)(vs vf:Value):Prop where
 var:wr.heap[b]?=some (C_ #[vs,vf] 233 (0,0))
 szs:wr.ownsRow (b+1) 3 1 vs ss.length (Cl ss)
 fst:Bc (b+1) wr vf fs
 apart:Ep vs vf
 bel:Below B w wr
 le:B<=b
 lt:b+1<=wr.heap.size
theorem LHd.cells{a b:Nat}{w wr:World}{j:hF}{l:hD}{d g:Value}(h:LHd a b w wr j l d g):wr.cell? (Q_ b 0)=some d/\wr.cell? (Q_ b 1)=some g/\wr.frozen? (Q_ b 0)=false/\wr.frozen? (Q_ b 1)=false:=by have c:=h.var;refine⟨?_,?_,?_,?_⟩<;>simp[World.cell?,World.frozen?,c]
theorem LHd.mid(h:LHd a b w wr j l d g)(i:Below (b+1) wr f):f.cell? (Q_ b 0)=some d/\f.cell? (Q_ b 1)=some g/\f.frozen? (Q_ b 0)=false/\f.frozen? (Q_ b 1)=false:=by have c:=(i.block b O_).trans h.var;refine⟨?_,?_,?_,?_⟩<;>simp[World.cell?,World.frozen?,c]
theorem LHd.below(h:LHd B a w wr j l d g)(b:Below wr.heap.size wr f):LHd B a w f j l d g:=by have i:=h.lt;have c:=h.le;have k:=b.size;exact⟨(b.block _ O_).trans h.var,Ae h.szs b X_,Ae h.fst b X_,h.apart,h.bel.trans (b.mono O_),c,O_⟩
theorem IL(a:Nat)(w wr:World)(c:Below a w wr)(b:a<=wr.heap.size):LHd a wr.heap.size w (wr.alloc (C_ #[Z_,Z_] 233)) [] [] Z_ Z_:=
 ⟨xK _ _,yP _ _ _ _,yP _ _ _ _,Sv _,c.alloc b _,b,D_⟩
theorem LHd.apN(h:LHd a b w wr j l d g)(o:f.ownsRow (b+1) 3 1 r (j.length+1) (Cl j++[J_ (i:Int)]))(p:wr.grownBy f d.ownBlock)(q:r.ownBlock=d.ownBlock\/∃c,wr.heap.size<=c/\r.ownBlock=some c):
  Below (b+1) wr f/\LHd a b w (f.setCell (Q_ b 0) r) (j++[i]) l r g:=by
 obtain⟨m,n,c⟩:=Fm h.fst h.szs h.lt h.apart.symm p q;have k:=h.le;have s:=h.lt;have t:=c.size;refine⟨c,?_,?_,aO m D_ _,n.symm,(h.bel.trans (c.mono O_)).setCell (p:=(Q_ b 0)) k _,k,?_⟩
 ·rw[Ak (i:=0) ((c.block b O_).trans h.var) r];rfl
 ·have e:Cl (j++[i])=Cl j++[J_ (i:Int)]:=by simp[Cl]
  rw[e,xC];exact aO o D_ _
 ·simp[World.setCell];omega
theorem LHd.apF{G:hJ}(h:LHd a b w wr j l d g)(n:Bc (b+1) f r (l++[G]))(o:wr.grownBy f g.ownBlock)(p:r.ownBlock=g.ownBlock\/∃c,wr.heap.size<=c/\r.ownBlock=some c):
  Below (b+1) wr f/\LHd a b w (f.setCell (Q_ b 1) r) j (l++[G]) d r:=by
 obtain⟨k,m,c⟩:=Fm h.szs h.fst h.lt h.apart o p;have i:=h.le;have q:=h.lt;have s:=c.size;refine⟨c,?_,aO k D_ _,n.setBelow O_ _,m,(h.bel.trans (c.mono O_)).setCell (p:=(Q_ b 1)) i _,i,?_⟩
 ·rw[Ak (i:=1) ((c.block b O_).trans h.var) r];rfl
 ·simp[World.setCell];omega
theorem Afj(w:World){rest:List Oper}(J:y.guard=none)(j x:Operand)(L:y.op=Op.call {callee:=Callee.builtin Builtin.append,args:= #[j,x],argTypes:= #[108,108]})(c d f:UInt8)(P m n o:Int)(M:P=(c.toNat:Int))(N:m=(d.toNat:Int))(O:n=(f.toNat:Int))(a:UInt8)(R:o=(a.toNat:Int))(p q:Nat)(S:p=w.heap.size)(T:q=w.heap.size+1)(U:z.eval j=L_ (P_ p) 3 3)(V:z.eval x=L_ (P_ q) 1 1)(r:Nat)(X:r<=w.heap.size)(h:∀(g:Value) (b:World),Bp r b g [c,d,f,a]->Below w.heap.size w b->(∃i,w.heap.size<i/\g.ownBlock=some i)->w.heap.size<b.heap.size->wpList Tryz.prog u Q rest (z.put y.dst g) b):wpList Tryz.prog u Q (y::rest) z ((w.alloc (C_ #[.int .u8 P,.int .u8 m,.int .u8 n] 5 (3,4))).alloc (C_ #[.int .u8 o] 5)):=by
 subst S T M N O R;obtain⟨D,F,G,k,H⟩:=zB Lq;have s:∀g i,(Lib.byteCells [c,d,f])[g]?=some i->((w.alloc (C_ #[.int .u8 (c.toNat:Int),.int .u8 (d.toNat:Int),.int .u8 (f.toNat:Int)] 5 (3,4))).alloc (C_ #[.int .u8 (a.toNat:Int)] 5)).cell? (((Q_ w.heap.size 0):Addr).add g)=some i:=by intro g i I;rw[Gv,vN _ _ _ D_];unfold World.cell?;rw[xK];simpa[Lib.byteCells]using I
 have t:∀g i,(Lib.byteCells [a])[g]?=some i->((w.alloc (C_ #[.int .u8 (c.toNat:Int),.int .u8 (d.toNat:Int),.int .u8 (f.toNat:Int)] 5 (3,4))).alloc (C_ #[.int .u8 (a.toNat:Int)] 5)).cell? (((Q_ (w.heap.size+1) 0):Addr).add g)=some i:=by have:=Pp (w.alloc (C_ #[.int .u8 (c.toNat:Int),.int .u8 (d.toNat:Int),.int .u8 (f.toNat:Int)] 5 (3,4))) 5 [a] #[.int .u8 (a.toNat:Int)] (by simp[Lib.byteCells]);rw[show(w.alloc (C_ #[.int .u8 (c.toNat:Int),.int .u8 (d.toNat:Int),.int .u8 (f.toNat:Int)] 5 (3,4))).heap.size=w.heap.size+1 by simp]at this;exact this
 generalize l:(w.alloc (C_ #[.int .u8 (c.toNat:Int),.int .u8 (d.toNat:Int),.int .u8 (f.toNat:Int)] 5 (3,4))).alloc (C_ #[.int .u8 (a.toNat:Int)] 5)=b at*;have W:b.heap.size=w.heap.size+2:=by rw[<-l];simp
 have A:Below w.heap.size w b:=by rw[<-l];exact((xA _ w).alloc X_ _).alloc D_ _
 have B:=run_append_grow (P:=Tryz.prog) b 108 y.type 5 D (.int .u8 0) jC F G (Q_ w.heap.size 0) 3 3 (Lib.byteCells [c,d,f]) (by rw[k];rfl) s (Q_ (w.heap.size+1) 0) 1 1 (Lib.byteCells [a]) (by rw[k];rfl) t O_ O_ (qL O_ (by rw[H];omega));refine vO b J j x 108 108 L _ _ U V _ _ B (h _ _ ?_ ?_ ⟨b.heap.size,O_,rfl⟩ K_)
 ·unfold Bp;have C:=cP b (3+1) 3 5;refine⟨rfl,.inr ⟨b.heap.size,_,_,rfl,O_,xK b.drew _,C,cQ b (3+1) 3 _ (by unfold maxLen;omega),?_,?_⟩⟩
  ·simp only[aW,vI,wS,vE];show 3+1+_*1=_;omega
  ·simp only[vD];rw[show Lib.byteCells [c,d,f,a]=Lib.byteCells [c,d,f]++Lib.byteCells [a]from rfl];exact dY rfl
 ·exact A.trans ((((xA b.heap.size b).drew).alloc D_ _).mono O_)
def GY(w:World)(v:Value)(ss:hF)(fs:hD):Prop:=∃vs vf,v=.agg #[vs,vf]/\Ik w vs ss.length (Cl ss)/\Ik w vf fs.length (strs fs)
theorem LHd.isLH(h:LHd a b w wr j l d g)(c:j.length<=1000)(f:l.length<=1000):GY wr (.agg #[d,g]) j l:=
 ⟨d,g,rfl,ownsRow.isRow h.szs O_,ownsRow.isRow h.fst O_⟩
theorem Tx(v:Value)(a:hF)(b:hD)(w:World)(f8:GY w v a b)(c4:a.length=b.length)(i7:b.length<=4)(c5:∀f∈b,f.size<=12):
  Calls Tryz.prog 180 #[v] w fun D f7=>D=R_ (B_ ⟨(Pg.Fl a (Ag b)).toArray⟩)/\Below w.heap.size w f7:=by
 obtain⟨h4,h5,rfl,⟨i,j,rfl,-,a0⟩,⟨k,l,rfl,-,a1⟩⟩:=f8;have c6:=Aa a0;have c7:=Aa a1;have c8:=Aa c5;have f9:=Aa c4;have g0:a.length<=4:=O_;have g1:b.length<=a.length:=O_;have g2:a.length<=b.length:=O_;clear a0 a1 c5 c4;obtain⟨C,a2,a3⟩:=KW a.length;have c9:=Aa a2;have d0:=Aa a3;clear a2 a3;go_in;have H:=gB (P:=Tryz.prog) (w.alloc (C_ #[L_ i a.length j,L_ k b.length l] 233)) 108 5 #[.int .u8 83,.int .u8 50,.int .u8 76] 3 3 (w.heap.size+1) D_ jC wA;have d1:∀F,((w.alloc (C_ #[L_ i a.length j,L_ k b.length l] 233)).alloc (C_ #[.int .u8 83,.int .u8 50,.int .u8 76] 5 (3,4))).cell? (Q_ w.heap.size F)=(#[Value.slice i a.length j,L_ k b.length l]:Array Value)[F]?:=by intro F;rw[vN _ _ _ D_];unfold World.cell?;rw[xK];simp
 go_wp2_with (first
  | (at_builtin;refine Afj (w.alloc (C_ #[L_ i a.length j,L_ k b.length l] 233)) rfl (.tmp 7) (.tmp 12) rfl 83 50 76 _ _ _ _ rfl rfl rfl C ?_ (w.heap.size+1) (w.heap.size+2) D_ D_ rfl rfl w.heap.size D_ ?_))
 ·rw[c9.o];omega
 intro e9 f0 b6 z i4 f1 b7 f2;have I:=(z.cell (p:=(Q_ w.heap.size 0)) D_).trans (show _=some (L_ i a.length j)by simp);have d2:=(z.cell (p:=(Q_ w.heap.size 1)) D_).trans (show _=some (L_ k b.length l)by simp);have n:e9.ownBlock≠some w.heap.size:=by rw[b7];simp;omega
 have J:=Aa b6;have L:=Aa (((xA w.heap.size w).alloc X_ (C_ #[L_ i a.length j,L_ k b.length l] 233)).trans (z.mono D_));have M:w.heap.size<f0.heap.size:=O_;clear b6 z b7 f1 f2 H d1;have o:=Aa n;clear n;have N:=Aa I;go_wp2_with fail;clear I d2
 go_loopw [3,17] (fun c3 G wr=>∃(c:Nat) (d:hE),c<=b.length/\G=J_ c/\Bp w.heap.size wr c3 d/\Below w.heap.size w wr/\wr.cell? (Q_ w.heap.size 0)=some (L_ i a.length j)/\c3.ownBlock≠some w.heap.size/\w.heap.size<wr.heap.size/\d++Pg.Cq (a.drop c) (Ag (b.drop c))=[83,50,76]++[C]++Pg.Cq a (Ag b)/\d.length<=4+15*c/\4<=d.length) (fun _ G _=>b.length-(intOf G).toNat)
 case atStart=>exact⟨0,_,Y_,rfl,J.o,L.o,N.o,o.o,M,D_,D_,D_⟩
 case round=>
  clear J L N o M;obtain⟨c,d,h6,rfl,a4,a5,a6,n,h7,a7,h8,h9⟩:=hrel;have u:=Aa a4;have y:=Aa a5;have o:=Aa n;have O:=Aa a7;clear a4 a5 n a7;by_cases t:c<b.length
  ·obtain⟨i0,i1,e5,e6,a8⟩:=c6.o.resolve_left O_;obtain⟨i2,i3,e7,e8,a9⟩:=c7.o.resolve_left O_;subst e5 e7;have g3:=KV (pl:=a) a8 y.o e6 c O_;have g4:=Vy (pl:=b) a9 y.o e8 c t;have g5:=c8.o _ (yA t);have d3:Hid (Pg.Cq (a.drop c) (Ag (b.drop c))=Pg.Nb (a[c]'O_) (b[c]'t).data.toList++Pg.Cq (a.drop (c+1)) (Ag (b.drop (c+1)))):=by
    show _=_;rw[yM t,yM (show c<a.length by omega)];rfl
   clear a8 a9;generalize b[c]'t=f at*;generalize a[c]'O_=A at*;obtain⟨b0,b1,b2⟩:=KW f.size;have d4:=Aa b1;have d5:Hid (Pg.Nb A f.data.toList=Pg.low A 2++[b0]++f.data.toList++List.replicate (12-f.size) 0):=(by show _=_;unfold Pg.Nb;rw[Ah,b2]);clear b1 b2;go_wp2_with fail;refine(Rn w.heap.size u3 d A _ u.o O_ O_).mono ?_;rintro D b4 ⟨b5,rfl,m,g⟩;have R:=Aa m;have B:=Aa (y.o.trans (g.below u.o O_));have g6:=g.size;have S:=g.cell a6 o.o;have T:=Aa (g.ne O_ o.o);have g7:=Pg.Bo 2 A;clear m g a6
   go_wp2_with (first
    | (at_builtin;refine Rg b4 rfl (.tmp 28) (.tmp 32) rfl w.heap.size b5 _ rfl R.o b0 _ ?_ rfl ?_ ?_ ?_))
   ·rw[d4.o];omega
   ·simp;omega
   ·omega
   intro f3 f4 b8 b9 c0;have p:=Le b9 c0;have U:=Aa b8;have d6:=Aa (B.o.trans (p.below R.o O_));have g8:=p.size;have V:=p.cell S T.o;have W:=Aa (p.ne O_ T.o);clear b8 b9 c0 p S
   go_wp2_with (first
    | (at_builtin;refine Aau f4 rfl (.tmp 34) (.tmp 35) rfl w.heap.size f3 _ rfl U.o f rfl ?_ ?_ ?_))
   ·simp;omega
   ·omega
   intro f5 f6 c1 r;have X:=Aa c1;have d7:=Aa (d6.o.trans (r.below U.o O_));have g9:=r.size;have Y:=r.cell V W.o;have Z:=Aa (r.ne O_ W.o);clear c1 r V;obtain⟨q,b3⟩:∃q,q=12-f.size:=⟨_,rfl⟩;have h1:(12:Int)-(f.size:Int)=(q:Int):=O_;have h2:q+f.size<=12:=O_;have d8:=Aa b3;clear b3
   go_wp2_with (first
    | (at_builtin;refine Afi f6 rfl (.tmp 37) (.tmp 40) rfl w.heap.size f5 _ rfl X.o ?_ q rfl ?_ ?_ ?_ ?_))
   ·simp;omega
   ·omega
   ·simp;omega
   ·omega
   intro i5 i6 c2 s;have d9:=Aa c2;have e0:=Aa (d7.o.trans (s.below X.o O_));have h3:=s.size;have e1:=s.cell Y Z.o;have e2:=Aa (s.ne O_ Z.o);clear c2 s Y;go_wp2_with fail
   go_roundw
   case rel=>
    refine⟨c+1,_,O_,W_,d9.o,e0.o,e1,e2.o,O_,?_,?_,?_⟩
    ·rw[<-O.o,d3.o,d5.o,<-d8.o];simp
    ·simp;omega
    ·simp;omega
   case measure=>simp[intOf];omega
  ·have e3:Hid (d=[83,50,76]++[C]++Pg.Cq a (Ag b)):=by
    show _=_;rw[<-O.o,zG (show a.length<=c by omega)];simp[Pg.Cq]
   go_wp2_with fail;refine(Wa w.heap.size u3 d _ u.o O_ O_ O_).mono ?_;rintro D b4 ⟨b5,rfl,m,g⟩;have B:=Aa (y.o.trans (g.below u.o O_));have e4:Hid (Pg.sealed (d++List.replicate (64-d.length) 0)=Pg.Fl a (Ag b)):=(by show _=_;unfold Pg.Fl;rw[e3.o,d0.o];congr 2;simp);rw[e4.o]at m;have H:=m.str;clear m g;go_wp2_with fail;go_ret;exact⟨rfl,B.o⟩
def Src(size:Nat)(w:World)(v:Value)(n:Nat)(cs:hH):Prop:=∃a cap,v=L_ a n cap/\cs.length=n*size/\(n=0\/∃b off,a=some (Q_ b off)/\b<w.heap.size/\∀(j:Nat) (u:Value),cs[j]?=some u->w.cell? (Q_ b (off+j))=some u)
theorem Dy(a b c:Nat):((Q_ a b):Addr).add c=(Q_ a (b+c)):=by unfold Addr.add;split<;>simp_all
theorem Bw:∀a:gY,(Al a).length=a.length*2
 | []=>rfl
 | x::r=>by show([Value.string x.1,Value.string x.2]++Al r).length=_;rw[xC,Bw r];simp;omega
theorem Ew:∀(a:gY),∀v∈Al a,v.oneCell'=true
 | [],v,h=>by cases h
 | x::r,v,h=>by
  have a:v∈[Value.string x.1,Value.string x.2]++Al r:=h;rcases xE.1 a with h|h
  ·simp at h;rcases h with rfl|rfl<;>rfl
  ·exact Ew r v h
theorem Uq:∀(a:gZ),∀v∈Cd a,v.oneCell'=true
 | [],v,h=>by cases h
 | x::r,v,h=>by
  have a:v∈[J_ x.1,Value.string x.2.1,Value.string x.2.2]++Cd r:=h;rcases xE.1 a with h|h
  ·simp at h;rcases h with rfl|rfl|rfl<;>rfl
  ·exact Uq r v h
theorem Bi{C:Nat}(h:w.ownsRow a n b v i k)(o:C<=a):w.ownsRow C n b v i k:=by
 refine⟨h.1,?_⟩;rcases h.2 with c|⟨d,f,g,j,l,m⟩
 ·exact .inl c
 ·exact .inr ⟨d,f,g,j,xI o l,m⟩
theorem Dp(h:w.ownsRow B n a v b k):w.ownsRow 0 n a v b k:=by
 refine⟨h.1,?_⟩;rcases h.2 with c|⟨d,f,g,e,_,c⟩
 ·exact .inl c
 ·exact .inr ⟨d,f,g,e,Y_,c⟩
theorem Bx(h:w.ownsRow a e b v i k)(n:∀c,v.ownBlock=some c->c<w.heap.size->f.heap[c]?=w.heap[c]?):f.ownsRow a e b v i k:=by
 refine⟨h.1,?_⟩;rcases h.2 with d|⟨c,j,l,rfl,m,g,d⟩
 ·exact .inl d
 ·exact .inr ⟨c,j,l,rfl,m,(n c rfl (xS.1 g).1).trans g,d⟩
theorem Gx(h:w.ownsRow a e b (L_ (P_ i) q p) q k)(f:Nat)(c:Value):(w.setCell (Q_ i f) c).ownsRow a e b (L_ (P_ i) q p) q (k.set f c):=by
 rcases h.2 with⟨h0,_⟩|⟨r,s,t,d,g,j,l,m,n,o⟩
 ·simp at h0
 ·simp only[xJ,xX,yT,yG,yB]at d;obtain⟨rfl,rfl⟩:=d;refine⟨by simpa using h.1,.inr ⟨i,p,_,rfl,g,Ak j c,l,m,by simpa using n,?_⟩⟩;rw[qM,aA,o]
theorem Dq{A:Nat}(h:w.ownsRow a e i v q k)(r:w.ownsRow b n p d A t)(s:e≠n)(f:Nat)(j:v.ownBlock=some f)(l:d.ownBlock=some f):False:=by
 rcases h.2 with⟨rfl,-⟩|⟨g,u,y,rfl,-,m,-⟩
 ·simp[Value.ownBlock]at j
 ·rcases r.2 with⟨rfl,-⟩|⟨o,z,B,rfl,-,c,-⟩
  ·simp[Value.ownBlock]at l
  ·obtain rfl:g=f:=xM j;obtain rfl:o=g:=xM l;rw[m]at c;simp only[xX,vW]at c;exact s c.2.1
theorem IM:(Tryz.prog.info? 30).map (fun a=>(a.zero,a.size,a.bytes))=some (some Z_,1,24):=S_
theorem Lg(a b:gY):Ab (a++b)=Ab a++Ab b:=by simp[Ab]
theorem CU(a:gY):(Al a).length=a.length*2:=by
 induction a with
 | nil=>rfl
 | cons x r ih=>rw[show Al (x::r)=B_ x.1:: B_ x.2::Al r from rfl,xH,xH,xH,ih];omega
theorem Ur(d:gY):∀b∈Al d,b.oneCell'=true:=by intro b c;unfold Al at c;obtain⟨x,_,a⟩:=wI.1 c;simp at a;rcases a with rfl|rfl<;>rfl
theorem CV(a b:gY):Al (a++b)=Al a++Al b:=by simp[Al]
theorem SK(w:World){rest:List Oper}(o:y.guard=none)(i x:Operand)(p:y.op=Op.call {callee:=Callee.builtin Builtin.append,args:= #[i,x],argTypes:= #[30,30]})(f:Nat)(v:Value)(b:gY)(q:z.eval i=v)(k:Ap f w v b)(l:Value)(a:gY)(r:z.eval x=l)(G:(l=Z_/\a=[])\/∃g j,l=L_ (some g) a.length j/\∀c d,(Al a)[c]?=some d->w.cell? (g.add c)=some d)(I:b.length+a.length<=1000000000)(H:f<=w.heap.size)(h:∀(c:Value) (d:World),Ap f d c (b++a)->w.grownBy d v.ownBlock->(c.ownBlock=v.ownBlock\/∃m,w.heap.size<=m/\c.ownBlock=some m)->wpList Tryz.prog u Q rest (z.put y.dst c) d):wpList Tryz.prog u Q (y::rest) z w:=by
 obtain⟨m,n,s,t,A⟩:=zB Cg;rcases G with⟨rfl,rfl⟩|⟨g,j,rfl,F⟩
 ·refine aS o i x 30 p f 51 m 2 zC n v b.length (Al b) q k r ?_;exact h v w (by rw[yC];exact k) ⟨rfl,rfl,rfl,X_,fun _ _ _=>rfl⟩ (.inl rfl)
 ·refine wT w o i x 30 p f 51 m (.agg #[B_ ⟨#[]⟩,B_ ⟨#[]⟩]) 2 32 zC n s t A rfl Do v b.length (Al b) q k g a.length j (Al a) r (CU a) F (Ur a) (by unfold maxLen;omega) O_ H ?_;intro c d B C _ D;refine h c d ?_ C (D.imp_right fun e=>⟨w.heap.size,X_,e⟩);unfold Ap;rw[xC,CV];exact B
theorem SM{H I:gY}(h:Ab H=Ab I):H=I:=by unfold Ab at h;refine List.map_inj_right ?_ |>.1 h;rintro⟨a,b⟩ ⟨c,d⟩ e;simp only[kL]at e;rw[Fi e.1,Fi e.2]
