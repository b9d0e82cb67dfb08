import Derived.Test.YtolgpnaoaodepaaGreatWalkDm
namespace Go.Proofs.YtolgpnaoaodepaaGreat
open Go.RowKit Sq
theorem ta(w:World):(Instr.typeAssert (.iface 148 (.agg #[])) 20 148 true).run Tryz.prog w=.ok (.tuple #[.agg #[],.bool true]) w:=by simp[Instr.typeAssert,kG Tryz.underlying148]
def Me(l:hE):hJ:=match Ev l with
 | some t=>⟨t.toArray⟩
 | none=>⟨#[]⟩
def Mf(l:hE):Int:=match Ev l with
 | some _=>0
 | none=>2
theorem Nw(a:hJ)(b:Nat)(h:b<a.size):a.data.toList.drop b=a[b]::a.data.toList.drop (b+1):=by
 have c:b<a.data.toList.length:=by rw[Ah];exact h
 exact yM c
namespace Pg
variable {a b:hE}{c:Nat}
def low(n:Nat):Nat->hE
 | 0=>[]
 | k+1=>UInt8.ofNat (n % 256)::low (n / 256) k
theorem Bo:∀(k a:Nat),(low a k).length=k
 | 0,_=>rfl
 | k+1,a=>by rw[low,xH,Bo k]
def Ol(c:Nat):Nat:=if c % 2=1 then(c / 2)^^^2197175160 else c / 2
def Iq:Nat->Nat->Nat
 | 0,c=>c
 | k+1,c=>Ol (Iq k c)
def Pq(c:Nat)(b:UInt8):Nat:=Iq 8 (c^^^b.toNat)
def Kc(l:hE):Nat:=l.foldl Pq 4294967295
def crc(l:hE):Nat:=Kc l^^^4294967295
theorem CC{a b:Nat}(c:a<4294967296)(d:b<4294967296):a^^^b<4294967296:=Nat.xor_lt_two_pow (n:=32) c d
theorem XN(h:c<4294967296):Ol c<4294967296:=by
 unfold Ol;split
 ·exact CC O_ O_
 ·omega
theorem Ps{c:Nat}(h:c<4294967296):∀k,Iq k c<4294967296
 | 0=>h
 | k+1=>XN (Ps h k)
theorem SF(h:c<4294967296)(a:UInt8):Pq c a<4294967296:=by refine Ps (CC h ?_) 8;have:a.toNat<256:=a.toNat_lt;omega
theorem CD:∀(a:hE) (c:Nat),c<4294967296->a.foldl Pq c<4294967296
 | [],_,h=>h
 | b::a,_,h=>CD a _ (SF h b)
theorem Xy(a:hE):Kc a<4294967296:=CD a _ Do
theorem Aap(a:hE):crc a<4294967296:=CC (Xy a) Do
theorem NL(a:hE)(b:UInt8):Kc (a++[b])=Pq (Kc a) b:=by simp[Kc]
def sealed(l:hE):hE:=l++low (crc l) 4
theorem Jb(a:hE):(sealed a).length=a.length+4:=by simp[sealed,Bo]
def SG:Nat->Nat->hE
 | 0,_=>[]
 | f+1,n=>if n<128 then low n 1 else low (128+n % 128) 1++SG f (n / 128)
def num(n:Nat):hE:=SG (n+1) n
theorem ID:∀(f b a:Nat),a<f->a<b->SG f a=SG b a
 | 0,_,_,h,_=>O_
 | _+1,0,_,_,h=>O_
 | f+1,b+1,a,h1,h2=>by
  unfold SG;split
  ·rfl
  ·rw[ID f b (a / 128) O_ O_]
theorem Lc(a:Nat)(h:a<128):num a=low a 1:=by unfold num SG;rw[xD h]
theorem Vr(a:Nat)(h:¬a<128):num a=low (128+a % 128) 1++num (a / 128):=by unfold num;rw[SG,xB h,ID a (a / 128+1) (a / 128) O_ O_]
theorem Vs:∀(k a:Nat),a<128^(k+1)->(num a).length<=k+1
 | 0,a,h=>by rw[Lc a (by simpa using h)];simp[Bo]
 | k+1,a,h=>by
  by_cases b:a<128
  ·rw[Lc a b];simp[Bo]
  ·rw[Vr a b];have c:a / 128<128^(k+1):=(by rw[bQ Do];rw[vV]at h;exact h);have:=Vs k (a / 128) c;simp[Bo];omega
theorem KS(a:Nat)(h:a<34359738368):(num a).length<=5:=Vs 4 a (by show a<128^5;exact h)
def text(l:hE):hE:=num l.length++l
def Ar(kind content:hE):hE:=
 if(Br content).length<content.length then sealed (kind++low 1 1++num content.length++text (Br content))
 else sealed (kind++low 0 1++num content.length++text content)
def Du:hE->hE->Nat
 | x::xs,y::ys=>if x=y then Du xs ys+1 else 0
 | _,_=>0
theorem Ox:∀(a b:hE),Du a b<=a.length/\Du a b<=b.length
 | [],_=>by simp[Du]
 | _::_,[]=>by simp[Du]
 | x::xs,y::ys=>by
  unfold Du;split
  ·have:=Ox xs ys;simp;omega
  ·simp
theorem Jm:∀(n:Nat) (c b:hE),(∀a,a<n->∃x,c[a]?=some x/\b[a]?=some x)->(c.length=n\/b.length=n\/c[n]?≠b[n]?)->Du c b=n
 | 0,[],_,_,_=>by simp[Du]
 | 0,_::_,[],_,_=>by simp[Du]
 | 0,x::xs,y::ys,_,h=>by
  unfold Du;rw[xB];rcases h with h|h|h
  ·simp at h
  ·simp at h
  ·simpa using h
 | n+1,[],b,h,_=>by obtain⟨x,b,_⟩:=h 0 O_;simp at b
 | n+1,x::xs,[],h,_=>by obtain⟨x,_,b⟩:=h 0 O_;simp at b
 | n+1,x::xs,y::ys,h,hs=>by obtain⟨f,c,d⟩:=h 0 O_;simp at c d;unfold Du;rw[xD (by rw[c,d]),Jm n xs ys (fun a g=>by have:=h (a+1) O_;simpa using this) (by simpa using hs)]
def items:hE->List (hE×hE)->hE
 | _,[]=>[]
 | last,(k,v)::r=>low (Du last k) 1++text (k.drop (Du last k))++text v++items k r
def Bl(l:List (hE×hE)):hE:=low l.length 1++items [] l
theorem BH(a:hE)(h:a.length<34359738368):(text a).length<=a.length+5:=by unfold text;rw[xC];have:=KS a.length h;omega
theorem Ek(b a:hE)(h:a.length<17179869184):(Ar b a).length<=b.length+a.length+20:=by
 have c:=KS a.length O_;unfold Ar;split
 ·rename_i d;have:=BH (Br a) O_;rw[Jb];simp only[xC,Bo];omega
 ·have:=BH a O_;rw[Jb];simp only[xC,Bo];omega
theorem IE:∀(a:List (hE×hE)) (b:hE),(∀x∈a,x.1.length<=12/\x.2.length<=16)->(items b a).length<=60*a.length
 | [],_,_=>by simp[items]
 | (k,v)::r,b,h=>by have a:=h (k,v) D_;simp only at a;have c:=BH (k.drop (Du b k)) (by rw[xY];omega);rw[xY]at c;have d:=BH v O_;have f:=IE r k (fun x b=>h x (by simp[b]));unfold items;simp only[xC,Bo,xH];omega
theorem Ir(a:List (hE×hE))(h:∀x∈a,x.1.length<=12/\x.2.length<=16):(Bl a).length<=1+60*a.length:=by unfold Bl;rw[xC,Bo];have:=IE a [] h;omega
def base(l:List (hE×hE)):hE:=Ar [98] (Bl (l.take 4))
def IG(l:List (hE×hE)):hE:=match l with
 | []=>[]
 | (k,_)::_=>low (base l).length 2++low k.length 1++k++List.replicate (12-k.length) 0
def entries:Nat->List (hE×hE)->hE
 | 0,_=>[]
 | f+1,l=>if l=[]then[]else IG l++entries f (l.drop 4)
def Kx:Nat->List (hE×hE)->hE
 | 0,_=>[]
 | f+1,l=>if l=[]then[]else base l++Kx f (l.drop 4)
def many(n:Nat):Nat:=(n+3) / 4
def Lx(l:List (hE×hE)):hE:=
 sealed ([83,50,76]++low (many l.length) 1++entries (many l.length) l++List.replicate (60-(entries (many l.length) l).length) 0)++Kx (many l.length) l
def Kd:List (hE×hE)->hE
 | []=>[]
 | (k,v)::r=>text k++text v++Kd r
def BI(l:List (hE×hE)):hE:=sealed ([83,49,76]++low l.length 1++Kd l)
def Da:hE->Nat
 | []=>0
 | b::r=>b.toNat+256*Da r
theorem Nx:∀(c:hE) (a:Nat),c.length<=a->Da c<256^a
 | [],a,_=>Nat.pow_pos Do
 | b::r,0,h=>by simp at h
 | b::r,a+1,h=>by have c:=Nx r a (by simpa using h);have a:b.toNat<256:=b.toNat_lt;rw[Da,vV];omega
theorem Mw:∀(k a:Nat),a<256^k->Da (low a k)=a
 | 0,a,h=>by simp at h;subst h;rfl
 | k+1,a,h=>by rw[low,Da,Mw k (a / 256) (by rw[bQ Do];rw[vV]at h;exact h)];simp;omega
theorem NM:∀(a:hE),low (Da a) a.length=a
 | []=>rfl
 | b::r=>by have a:b.toNat<256:=b.toNat_lt;rw[xH,low,Da];rw[show(b.toNat+256*Da r) / 256=Da r by omega,NM r,show(b.toNat+256*Da r) % 256=b.toNat by omega];simp
structure Cur where
 rem:hE
 bad:Bool
def Cur.take(c:Cur)(n:Nat):hE×Cur:=
 if c.bad=false/\n<=c.rem.length then(c.rem.take n,⟨c.rem.drop n,false⟩)else((if n<=300 then List.replicate n 0 else[]),⟨c.rem,true⟩)
theorem NN{c:Cur}{a:Nat}(h:c.bad=false)(b:a<=c.rem.length):c.take a=(c.rem.take a,⟨c.rem.drop a,false⟩):=by unfold Cur.take;rw[xD ⟨h,b⟩]
theorem VL{c:Cur}{n:Nat}(h:¬(c.bad=false/\n<=c.rem.length)):c.take n=((if n<=300 then List.replicate n 0 else[]),⟨c.rem,true⟩):=by unfold Cur.take;rw[xB h]
def Cur.byte(c:Cur):Nat:=Da (c.take 1).1
theorem CE(b:Cur)(a:Nat)(h:a<=300):(b.take a).1.length=a:=by
 unfold Cur.take;split
 ·rename_i c;rw[xR];omega
 ·simp
theorem Sx(a:Cur):a.byte<256:=Nx _ 1 (by rw[CE a 1 Do];exact Nat.le_refl _)
def numberF:Nat->Cur->Nat->Nat->Bool->Nat×Cur
 | 0,c,_,_,_=>(0,⟨c.rem,true⟩)
 | f+1,c,n,times,first=>
  if c.byte<128 then
   (if(c.take 1).2.bad=true\/(c.byte=0/\first=false)\/2147483647<n+c.byte % 128*times then(0,⟨(c.take 1).2.rem,true⟩)else(n+c.byte % 128*times,(c.take 1).2))
  else numberF f (c.take 1).2 (n+c.byte % 128*times) (128*times) false
def Cur.number(c:Cur):Nat×Cur:=numberF 5 c 0 1 true
def Cur.text(c:Cur)(most:Nat):hE×Cur:=
 if most<c.number.1 then([],⟨c.number.2.rem,true⟩)else c.number.2.take c.number.1
def Cur.ends(c:Cur):Bool:= !c.bad&&c.rem.isEmpty
def Ka(s:hE):hE×Cur:=(⟨s,false⟩:Cur).take 1
def Hf(s:hE):hE×Cur:=(Ka s).2.take 1
def Oy(s:hE):Nat×Cur:=(Hf s).2.number
def Ke(s:hE):hE×Cur:=(Oy s).2.text s.length
def Pt(s:hE):hE×Cur:=(Ke s).2.take 4
def content(kind s:hE):hE×Bool:=
 if(Pt s).2.ends=false\/(Ka s).1≠kind\/1<Da (Hf s).1 then([],false)
 else if Da (Hf s).1=1 then
  (match Ev (Ke s).1 with
   | none=>([],false)
   | some u=>if u.length=(Oy s).1 then(u,decide (Ar kind u=s))else([],false))
 else((Ke s).1,decide (Ar kind (Ke s).1=s))
theorem Ul(h:(Pt b).2.ends=false\/(Ka b).1≠a\/1<Da (Hf b).1):content a b=([],false):=by unfold content;rw[xD h]
theorem Lr(h:¬((Pt b).2.ends=false\/(Ka b).1≠a\/1<Da (Hf b).1))(c:¬Da (Hf b).1=1):content a b=((Ke b).1,decide (Ar a (Ke b).1=b)):=by unfold content;rw[xB h,xB c]
theorem Pu(h:¬((Pt b).2.ends=false\/(Ka b).1≠a\/1<Da (Hf b).1))(c:Da (Hf b).1=1)(d:Ev (Ke b).1=none):content a b=([],false):=by unfold content;rw[xB h,xD c,d]
theorem Mg{u:hE}(h:¬((Pt b).2.ends=false\/(Ka b).1≠a\/1<Da (Hf b).1))(c:Da (Hf b).1=1)(d:Ev (Ke b).1=some u)(f:u.length=(Oy b).1):content a b=(u,decide (Ar a u=b)):=by unfold content;rw[xB h,xD c,d];simp only[xD f]
theorem Pv{d:hE}(h:¬((Pt b).2.ends=false\/(Ka b).1≠a\/1<Da (Hf b).1))(c:Da (Hf b).1=1)(f:Ev (Ke b).1=some d)(g:¬d.length=(Oy b).1):content a b=([],false):=by unfold content;rw[xB h,xD c,f];simp only[xB g]
theorem SH(b:Cur)(a:Nat)(h:a<=1000000000):(b.take a).1.length<=1000000000:=by
 unfold Cur.take;split
 ·rw[xR];omega
 ·split
  ·rw[kD];exact h
  ·simp
theorem Um(b:Cur)(a:Nat)(h:a<=1000000000):(b.text a).1.length<=1000000000:=by
 unfold Cur.text;split
 ·simp
 ·exact SH _ _ O_
end Pg
namespace Sq
theorem NO(c:hE):∀(m b a k:Nat),k<com c b a m->a+k<c.length/\c[b+k]?=c[a+k]?
 | 0,_,_,_,h=>by simp[com]at h
 | m+1,b,a,k,h=>by
  unfold com at h;split at h
  ·rename_i d
   match k with
   | 0=>exact⟨O_,by simpa using d.2⟩
   | k+1=>
    have:=NO c m (b+1) (a+1) k O_;rw[show b+(k+1)=b+1+k by omega,show a+(k+1)=a+1+k by omega];exact this
  ·omega
theorem IH(b:hE)(a c:Nat)(j:1<=c)(k:c<=a)(l:a<=b.length):∀n,(∀d,d<n->a+d<b.length/\b[a-c+d]?=b[a+d]?)->Ja (b.take a) c n=b.take (a+n)
 | 0,_=>rfl
 | n+1,h=>by
  have f:=IH b a c j k l n (fun d g=>h d O_);rw[Pn,f];obtain⟨d,i⟩:=h n O_;have g:(b.take (a+n)).length=a+n:=by rw[xR];omega
  rw[g,jH,qU O_,show a+n-c=a-c+n by omega,i,xW d,show a+(n+1)=a+n+1 by omega,bP d];rfl
theorem Pw:∀(n:Nat) (a b c:hE),a.length<=n->Bn (Ii a++b) c=Bn b (c++a)
 | 0,a,b,c,h=>by have:a=[]:=zA.1 O_;subst this;simp[Jk]
 | n+1,a,b,c,h=>by
  by_cases e:a=[]
  ·subst e;simp[Jk]
  ·have f:0<a.length:=kP.2 e;rw[Mv a e,jF,xT];have c:(UInt8.ofNat (min a.length 128-1)).toNat=min a.length 128-1:=K_;have d:min a.length 128-1+1=(a.take 128).length:=(by rw[xR];omega);rw[Uj _ _ _ O_ (by rw[c,xC];omega),c,d,jQ,jB,Pw n (a.drop 128) b _ (by rw[xY];omega),xT,zK]
theorem Aaq(b:hE)(a:Nat)(h:(Eb b a).2≠0):1<=(Eb b a).2/\(Eb b a).2<=a/\mat b a (Eb b a).2=(Eb b a).1:=by
 have d:=(Su b a (min a 255)).2;have f:=BW b a;unfold Eb at*;rcases d with c|c
 ·rw[c]at h;simp at h
 ·exact⟨c.1,f.2,c.2.2.1⟩
theorem Ny(c:hE):∀(f a:Nat) (b:hE),c.length-a<=f->a<=c.length->b.length<=a->b=(c.drop (a-b.length)).take b.length->Bn (rest c a b) (c.take (a-b.length))=some c
 | 0,a,b,hf,ha,hp,he=>by rw[BY c a b O_];have:=Pw b.length b [] (c.take (a-b.length)) X_;rw[yC]at this;rw[this,Ui,he];simp only[xR,xY];rw[show min b.length (c.length-(a-b.length))=b.length by omega];rw[<-bO,show a-b.length+b.length=a by omega,yY O_]
 | f+1,a,b,hf,ha,hp,he=>by
  by_cases r:c.length<=a
  ·exact Ny c 0 a b O_ ha hp he
  ·have g:a<c.length:=O_;by_cases d:(Eb c a).2=0
   ·rw[Rf c a b g d];have:=Ny c f (a+1) (b++[c[a]]) O_ O_ K_ (by
     rw[xC,jR,show a+1-(b.length+1)=a-b.length by omega];rw[bP (by rw[xY];omega),<-he];simp[show a-b.length+b.length=a by omega])
    rw[xC,jR,show a+1-(b.length+1)=a-b.length by omega]at this;exact this
   ·have p:=Mu c a d;obtain⟨l,m,n⟩:=Aaq c a d;have q:=(BW c a).1;rw[Uh c a b g d,Pw b.length b _ _ X_];have k:c.take (a-b.length)++b=c.take a:=by
     rw[show c.take (a-b.length)++b=c.take (a-b.length)++(c.drop (a-b.length)).take b.length from yW _ he,<-bO,show a-b.length+b.length=a by omega]
    rw[k];have b:(UInt8.ofNat (125+(Eb c a).1)).toNat=125+(Eb c a).1:=K_;have i:(UInt8.ofNat (Eb c a).2).toNat=(Eb c a).2:=K_;rw[Po _ _ _ _ (by rw[b];omega) (by rw[b,i,xR];omega),b,i,show 125+(Eb c a).1-125=(Eb c a).1 by omega];rw[IH c a (Eb c a).2 l m ha (Eb c a).1 (fun o j=>by rw[<-n]at j;exact NO c _ _ _ o j)];have:=Ny c f (a+(Eb c a).1) [] O_ O_ D_ D_;simpa using this
theorem CF(a:hE):Bn (Br a) []=some a:=by have:=Ny a a.length 0 [] O_ O_ D_ D_;simpa[Br]using this
theorem Rh(a:hE):Ev (Br a)=some a:=by unfold Ev;rw[CF];simp
end Sq
