import Derived.Test.YtolgpnaoaodepaaGreatTreCm
import Derived.Lib.SmallJoins
namespace Go.Proofs.YtolgpnaoaodepaaGreat.Pr
open Pg
def Da (n:Nat) (t:List UInt8):Option (List UInt8×List UInt8):=if n<=t.length then some (t.take n,t.drop n) else none
theorem Je {n:Nat} {t:List UInt8} (h:n<=t.length):Da n t=some (t.take n,t.drop n):=if_pos h
theorem Alp {n:Nat} {t:List UInt8} (h:¬n<=t.length):Da n t=none:=if_neg h
theorem Cr (p q:List UInt8):Da p.length (p++q)=some (p,q):=by rw [Je (by simp),List.take_left,List.drop_left]
theorem Eh {n:Nat} {t x u:List UInt8} (h:Da n t=some (x,u)):x.length=n/\t=x++u:=by
 unfold Da at h;split at h
 ·rename_i a;simp only [Option.some.injEq,Prod.mk.injEq] at h;rw [<-h.1,<-h.2,List.take_append_drop,List.length_take];exact ⟨by omega,rfl⟩
 ·simp at h
def Dw:List UInt8->Option (UInt8×List UInt8)
 | []=> none
 | b::t=> some (b,t)
theorem Hw {t u:List UInt8} {b:UInt8} (h:Dw t=some (b,u)):t=b::u:=by
 cases t with
 | nil=> simp [Dw] at h
 | cons a r=> simp [Dw] at h;rw [h.1,h.2]
def Gk (t:List UInt8):Option (Nat×List UInt8):=(Da 2 t).map fun x=> (Ald x.1,x.2)
def Sv:Nat->Nat->Nat->List UInt8->Option (Nat×List UInt8)
 | 0,_,_,_=> none
 | _+1,_,_,[]=> none
 | f+1,c,n,b::t=>
  if 2147483647 < n+b.toNat % 128*c then none
  else if b.toNat < 128 then (if b.toNat=0/\c≠1 then none else some (n+b.toNat % 128*c,t))
  else Sv f (128*c) (n+b.toNat % 128*c) t
def Cq (t:List UInt8):Option (Nat×List UInt8):=Sv 5 1 0 t
theorem Aif:∀(f c n:Nat) (t:List UInt8) (m:Nat) (u:List UInt8),Sv f c n t=some (m,u)->m<=2147483647/\u.length < t.length
 | 0,_,_,_,_,_,h=> by simp [Sv] at h
 | f+1,c,n,[],_,_,h=> by simp [Sv] at h
 | f+1,c,n,b::t,m,u,h=> by
  unfold Sv at h;split at h
  ·simp at h
  ·split at h
   ·split at h
    ·simp at h
    ·simp only [Option.some.injEq,Prod.mk.injEq] at h;rw [<-h.1,<-h.2];exact ⟨by omega,by simp⟩
   ·have:=Aif f _ _ _ _ _ h;exact ⟨this.1,by simp;omega⟩
theorem Pw {t u:List UInt8} {m:Nat} (h:Cq t=some (m,u)):m<=2147483647/\u.length < t.length:=Aif _ _ _ _ _ _ h
theorem Adx:∀(f c n m:Nat) (t:List UInt8),m < 128^(f+1)->n+m*c<=2147483647->(0 < m\/c=1)->0 < c->Sv (f+1) c n (num m++t)=some (n+m*c,t)
 | f,c,n,m,t,hm,hle,h0,hc=> by
  by_cases a:m < 128
  ·rw [Lc m a,low,low,show m % 256=m by omega];simp only [List.cons_append,List.nil_append,Sv];have b:(UInt8.ofNat m).toNat=m:=(by simp;omega);rw [b,Nat.mod_eq_of_lt a,if_neg (by omega),if_pos a,if_neg (by omega)]
  ·rw [Ace m a,low,low,show (128+m % 128) % 256=128+m % 128 by omega];simp only [List.cons_append,List.nil_append,Sv];have b:(UInt8.ofNat (128+m % 128)).toNat=128+m % 128:=by
    rw [UInt8.toNat_ofNat'];omega
   rw [b,show (128+m % 128) % 128=m % 128 by omega];have d:m % 128*c+m / 128*(128*c)=m*c:=by
    rw [<-Nat.mul_assoc,<-Nat.add_mul,Nat.mul_comm (m / 128) 128];congr 1;omega
   rw [if_neg (by omega),if_neg (by omega)]
   match f with
   | 0=> omega
   | f+1=>
    rw [Adx f (128*c) (n+m % 128*c) (m / 128) t (by rw [Nat.div_lt_iff_lt_mul (by decide)];rw [Nat.pow_succ] at hm;exact hm) (by omega) (.inl (by omega)) (by omega)];congr 2;omega
theorem Kl (m:Nat) (t:List UInt8) (h:m<=2147483647):Cq (num m++t)=some (m,t):=by
 have:=Adx 4 1 0 m t (by show m < 128^5;omega) (by omega) (.inr rfl) (by decide);unfold Cq;rw [this];simp
def Ee (t:List UInt8):Option (List UInt8×List UInt8):=match Cq t with
 | some (n,u)=> Da n u
 | none=> none
theorem Jo (s t:List UInt8) (h:s.length<=2147483647):Ee (Ef s++t)=some (s,t):=by
 unfold Ee Ef;rw [List.append_assoc,Kl _ _ h];exact Cr s t
theorem Le {t x u:List UInt8} (h:Ee t=some (x,u)):x.length<=t.length/\u.length < t.length:=by
 unfold Ee at h;split at h
 ·rename_i n v b;have c:=Pw b;obtain ⟨d,a⟩:=Eh h;have:v.length=x.length+u.length:=by rw [a,List.length_append]
  omega
 ·simp at h
def Qz (s:List UInt8):Option (UInt8×List UInt8):=
 (Da 1 s).bind fun a=> (Dw a.2).bind fun h=> (Cq h.2).bind fun n=> (Cq n.2).bind fun z=> if 249 < z.1 then none else (Da z.1 z.2).map fun c=> (h.1,c.1)
def Aa5 (how:UInt8) (c:List UInt8):Option (List UInt8):=if how=1 then Sq.Kt c else some c
def Kf (k:UInt8) (s:List UInt8):Option (List UInt8):=(Qz s).bind fun x=> (Aa5 x.1 x.2).bind fun u=> if Bg [k] u=s then some u else none
theorem Aig (k a:UInt8) (n:Nat) (c t:List UInt8) (b:n<=2147483647) (d:c.length<=249):Qz ([k]++[a]++num n++Ef c++t)=some (a,c):=by
 unfold Qz Ef;rw [show [k]++[a]++num n++(num c.length++c)++t=[k]++(a::(num n++(num c.length++(c++t)))) by simp];rw [show Da 1 ([k]++(a::(num n++(num c.length++(c++t)))))=some ([k],a::(num n++(num c.length++(c++t)))) from Cr [k] _];simp only [Option.bind_some,Dw];rw [Kl n _ b];simp only [Option.bind_some];rw [Kl c.length _ (by omega)];simp only [Option.bind_some];rw [if_neg (by omega),Cr];rfl
theorem Ls (k:UInt8) (c:List UInt8) (h:c.length<=249):Kf k (Bg [k] c)=some c:=by
 unfold Kf;by_cases b:(Sq.Ca c).length < c.length
 ·have e:Bg [k] c=[k]++[1]++num c.length++Ef (Sq.Ca c)++low (crc ([k]++low 1 1++num c.length++Ef (Sq.Ca c))) 4:=by unfold Bg;rw [if_pos b];rfl
  have a:Qz (Bg [k] c)=some (1,Sq.Ca c):=by rw [e];exact Aig k 1 _ _ _ (by omega) (by omega)
  rw [a];simp only [Option.bind_some,Aa5,if_true,Sq.Wt]
 ·have e:Bg [k] c=[k]++[0]++num c.length++Ef c++low (crc ([k]++low 0 1++num c.length++Ef c)) 4:=by unfold Bg;rw [if_neg b];rfl
  have a:Qz (Bg [k] c)=some (0,c):=by rw [e];exact Aig k 0 _ _ _ (by omega) h
  rw [a];simp [Aa5]
def Fv:Nat->List UInt8->List UInt8->Option (List (List UInt8×List UInt8)×List UInt8)
 | 0,_,t=> some ([],t)
 | n+1,last,t=> (Dw t).bind fun b=> if last.length < b.1.toNat then none else (Ee b.2).bind fun x=> (Ee x.2).bind fun v=> (Fv n (last.take b.1.toNat++x.1) v.2).map fun r=> ((last.take b.1.toNat++x.1,v.1)::r.1,r.2)
theorem Um:∀(a b:List UInt8),a.take (Ds a b)++b.drop (Ds a b)=b
 | [],b=> by simp [Ds]
 | _::_,[]=> by simp [Ds]
 | x::xs,y::ys=> by
  unfold Ds;split
  ·rename_i h;rw [List.take_succ_cons,List.drop_succ_cons,List.cons_append,Um xs ys,h]
  ·simp
theorem Ra:∀(l:List (List UInt8×List UInt8)) (a t:List UInt8),a.length<=12->(∀x∈l,x.1.length<=12/\x.2.length<=16)->Fv l.length a (Iu a l++t)=some (l,t)
 | [],_,t,_,_=> rfl
 | (k,v)::r,a,t,hl,h=> by
  have f:=h (k,v) (by simp);simp only at f;have g:=So a k;rw [Iu,List.length_cons,Fv];obtain ⟨c,d⟩:∃c,Ds a k=c:=⟨_,rfl⟩;have b:=Um a k;rw [d] at g b ⊢;have i:(UInt8.ofNat (c % 256)).toNat=c:=by rw [UInt8.toNat_ofNat'];omega
  rw [show low c 1++Ef (k.drop c)++Ef v++Iu k r++t=UInt8.ofNat (c % 256)::(Ef (k.drop c)++(Ef v++(Iu k r++t))) by simp [low]];simp only [Dw,Option.bind_some,i];rw [if_neg (by omega),Jo _ _ (by rw [List.length_drop];omega)];simp only [Option.bind_some];rw [Jo _ _ (by omega)];simp only [Option.bind_some,b];rw [Ra r k t f.1 (fun x j=> h x (by simp [j]))];rfl
def Px (c:List UInt8):Option (List (List UInt8×List UInt8)):=(Dw c).bind fun b=> (Fv b.1.toNat [] b.2).bind fun r=> if Bx r.1=c then some r.1 else none
theorem Aa6 (l:List (List UInt8×List UInt8)) (b:l.length<=255) (h:∀x∈l,x.1.length<=12/\x.2.length<=16):Px (Bx l)=some l:=by
 have e:Bx l=UInt8.ofNat (l.length % 256)::(Iu [] l++[]):=by unfold Bx;simp [low]
 unfold Px;have a:(UInt8.ofNat (l.length % 256)).toNat=l.length:=by rw [UInt8.toNat_ofNat'];omega
 rw [show Dw (Bx l)=some (UInt8.ofNat (l.length % 256),Iu [] l++[]) by rw [e];rfl];simp only [Option.bind_some,a];rw [Ra l [] [] (by simp) h];simp
def Hr:List Nat->List UInt8->Option (List (List UInt8)×List UInt8)
 | [],t=> some ([],t)
 | s::ss,t=> (Da s t).bind fun x=> (Hr ss x.2).map fun r=> (x.1::r.1,r.2)
def Mr (page:List UInt8) (ss:List Nat):Option (List (List UInt8)):=(Da 68 page).bind fun a=> (Hr ss a.2).bind fun r=> if r.2=[] then some r.1 else none
theorem Xb:∀(l:List (List UInt8)) (t:List UInt8),Hr (l.map List.length) (l.flatten++t)=some (l,t)
 | [],t=> rfl
 | x::r,t=> by
  rw [List.map_cons,Hr,List.flatten_cons,List.append_assoc,Cr];simp only [Option.bind_some];rw [Xb r t];rfl
theorem Ady:∀(a:List Nat) (t:List UInt8) (l:List (List UInt8)) (u:List UInt8),Hr a t=some (l,u)->t=l.flatten++u/\l.map List.length=a
 | [],t,l,u,h=> by simp [Hr] at h;rw [h.1,h.2];simp
 | s::a,t,l,u,h=> by
  rw [Hr] at h
  cases b:Da s t with
  | none=> rw [b] at h;simp at h
  | some x=>
   rw [b] at h;simp only [Option.bind_some] at h
   cases c:Hr a x.2 with
   | none=> rw [c] at h;simp at h
   | some r=>
    rw [c] at h;simp only [Option.map_some,Option.some.injEq,Prod.mk.injEq] at h;obtain ⟨d,f⟩:=Eh b;obtain ⟨g,i⟩:=Ady a x.2 r.1 r.2 c;rw [<-h.1,<-h.2,List.flatten_cons,List.map_cons,d,i,f,g,List.append_assoc];exact ⟨rfl,rfl⟩
theorem Aih {a:List UInt8} {b:List Nat} {l:List (List UInt8)} (h:Mr a b=some l):68<=a.length/\a.drop 68=l.flatten/\l.map List.length=b:=by
 unfold Mr at h
 cases c:Da 68 a with
 | none=> rw [c] at h;simp at h
 | some x=>
  rw [c] at h;simp only [Option.bind_some] at h
  cases d:Hr b x.2 with
  | none=> rw [d] at h;simp at h
  | some r=>
   rw [d] at h;simp only [Option.bind_some] at h;split at h
   ·rename_i k;simp only [Option.some.injEq] at h;obtain ⟨i,f⟩:=Eh c;obtain ⟨g,j⟩:=Ady b x.2 r.1 r.2 d;rw [k,List.append_nil] at g;rw [<-h];refine ⟨by rw [f,List.length_append];omega,?_,j⟩;rw [f,<-i,List.drop_left,g]
   ·simp at h
theorem Ab6 (p:List UInt8) (l:List (List UInt8)) (h:p.length=68):Mr (p++l.flatten) (l.map List.length)=some l:=by
 unfold Mr;rw [<-h,Cr];simp only [Option.bind_some];have:=Xb l [];rw [List.append_nil] at this;rw [this];simp
def Km:Nat->List UInt8->Option (List Nat×List (List UInt8))
 | 0,_=> some ([],[])
 | n+1,t=> (Gk t).bind fun s=> (Dw s.2).bind fun b=> (Da 12 b.2).bind fun p=> if 12 < b.1.toNat then none else (Km n p.2).map fun r=> (s.1::r.1,p.1.take b.1.toNat::r.2)
end Go.Proofs.YtolgpnaoaodepaaGreat.Pr
namespace Go.Proofs.YtolgpnaoaodepaaGreat.Pg
def Sw (s:Nat) (k:List UInt8):List UInt8:=low s 2++low k.length 1++k++List.replicate (12 - k.length) 0
def Ci:List Nat->List (List UInt8)->List UInt8
 | s::ss,k::ks=> Sw s k++Ci ss ks
 | _,_=> []
def Fq (ss:List Nat) (ks:List (List UInt8)):List UInt8:=sealed ([83,50,76]++low ss.length 1++Ci ss ks++List.replicate (60 - (Ci ss ks).length) 0)
theorem Alq (s:Nat) (k:List UInt8) (h:k.length<=12):(Sw s k).length=15:=by
 unfold Sw;simp only [List.length_append,Cp,List.length_replicate];omega
theorem Sx:∀(a:List Nat) (b:List (List UInt8)),a.length=b.length->(∀k∈b,k.length<=12)->(Ci a b).length=15*a.length
 | [],[],_,_=> rfl
 | s::a,k::b,h,hk=> by
  rw [Ci,List.length_append,Alq s k (hk k (by simp)),Sx a b (by simpa using h) (fun x c=> hk x (by simp [c])),List.length_cons];omega
 | [],k::b,h,_=> by simp at h
 | s::a,[],h,_=> by simp at h
end Go.Proofs.YtolgpnaoaodepaaGreat.Pg
namespace Go.Proofs.YtolgpnaoaodepaaGreat.Pr
open Pg
def Ix (page:List UInt8):Option (List Nat×List (List UInt8)):=(Da 68 page).bind fun f=> (Da 3 f.1).bind fun a=> (Dw a.2).bind fun c=> if 4 < c.1.toNat then none else (Km c.1.toNat c.2).bind fun r=> if Az r.2 none=true then (if Fq r.1 r.2=f.1 then some r else none) else none
theorem Un:∀(a:List Nat) (b:List (List UInt8)) (t:List UInt8),a.length=b.length->(∀s∈a,s < 65536)->(∀k∈b,k.length<=12)->Km a.length (Ci a b++t)=some (a,b)
 | [],[],_,_,_,_=> rfl
 | s::a,k::b,t,h,hs,hk=> by
  have c:=hs s (by simp);have g:=hk k (by simp);rw [Ci,List.length_cons,Km];have e:Sw s k++Ci a b++t=low s 2++(UInt8.ofNat (k.length % 256)::((k++List.replicate (12 - k.length) 0)++(Ci a b++t))):=by
   unfold Sw;simp [low]
  have i:Gk (Sw s k++Ci a b++t)=some (s,UInt8.ofNat (k.length % 256)::((k++List.replicate (12 - k.length) 0)++(Ci a b++t))):=by
   unfold Gk;rw [e];have:=Cr (low s 2) (UInt8.ofNat (k.length % 256)::((k++List.replicate (12 - k.length) 0)++(Ci a b++t)));rw [Cp] at this;rw [this];simp only [Option.map_some];rw [Wr 2 s (by simpa using c)]
  have j:(UInt8.ofNat (k.length % 256)).toNat=k.length:=by rw [UInt8.toNat_ofNat'];omega
  rw [i];simp only [Option.bind_some,Dw];have f:=Cr (k++List.replicate (12 - k.length) 0) (Ci a b++t);rw [show (k++List.replicate (12 - k.length) (0:UInt8)).length=12 by simp;omega] at f;rw [f];simp only [Option.bind_some,j];rw [if_neg (by omega),Un a b t (by simpa using h) (fun x d=> hs x (by simp [d])) (fun x d=> hk x (by simp [d])),List.take_left];rfl
 | [],k::b,_,h,_,_=> by simp at h
 | s::a,[],_,h,_,_=> by simp at h
theorem Ab7 (a:List Nat) (b:List (List UInt8)) (h:a.length=b.length) (d:a.length<=4) (c:∀k∈b,k.length<=12):(Fq a b).length=68:=by
 unfold Fq;rw [Lb];simp only [List.length_append,Cp,List.length_replicate,Sx a b h c];simp;omega
theorem Adz (a:List Nat) (b:List (List UInt8)) (t:List UInt8) (h:a.length=b.length) (k:a.length<=4) (l:∀s∈a,s < 65536) (f:Az b none=true):Ix (Fq a b++t)=some (a,b):=by
 have c:=Ij b none f;have g:=Ab7 a b h k c;unfold Ix;have d:=Cr (Fq a b) t;rw [g] at d;rw [d];simp only [Option.bind_some];have e:Fq a b=[83,50,76]++(UInt8.ofNat (a.length % 256)::(Ci a b++(List.replicate (60 - (Ci a b).length) 0++low (crc ([83,50,76]++low a.length 1++Ci a b++List.replicate (60 - (Ci a b).length) 0)) 4))):=by
  unfold Fq sealed;simp [low]
 have i:Da 3 (Fq a b)=some ([83,50,76],UInt8.ofNat (a.length % 256)::(Ci a b++(List.replicate (60 - (Ci a b).length) 0++low (crc ([83,50,76]++low a.length 1++Ci a b++List.replicate (60 - (Ci a b).length) 0)) 4))):=by
  have:=Cr [83,50,76] (UInt8.ofNat (a.length % 256)::(Ci a b++(List.replicate (60 - (Ci a b).length) 0++low (crc ([83,50,76]++low a.length 1++Ci a b++List.replicate (60 - (Ci a b).length) 0)) 4)));rw [<-e] at this;exact this
 have j:(UInt8.ofNat (a.length % 256)).toNat=a.length:=by rw [UInt8.toNat_ofNat'];omega
 rw [i];simp only [Option.bind_some,Dw,j];rw [if_neg (by omega),Un a b _ h l c];simp [f]
end Go.Proofs.YtolgpnaoaodepaaGreat.Pr
namespace Go.Proofs.YtolgpnaoaodepaaGreat
open Go.RowKit
def Bk (l:List Nat):List Value:=l.map fun (c:Nat)=> .int .i64 (c:Int)
theorem Xc {B:Nat} {w w':World} {u v c:Value} {Tu Tv:TypeId} {f o g p:Nat} {i q:List Value} (l:w.ownsRow B Tu f u g i) (r:w.ownsRow B Tv o v p q) (s:B<=w.heap.size) (a:Ir u v) (m:w.grownBy w' v.ownBlock) (d:c.ownBlock=v.ownBlock\/∃k,w.heap.size<=k/\c.ownBlock=some k):w'.ownsRow B Tu f u g i/\Ir u c/\Below B w w':=by
 refine ⟨World.ownsRow.kept l m ?_,?_,(Below.refl B w).grown m s fun k b=> (World.ownsRow.lt r k b).1⟩
 ·cases h:u.ownBlock with
  | none=> exact .inl rfl
  | some k=> exact .inr (fun e=> a k h e.symm)
 ·intro k b e;have n:=(World.ownsRow.lt l k b).2;rcases d with h | ⟨j,t,h⟩
  ·rw [h] at e;exact a k b e
  ·rw [h] at e;have:j=k:=(by simpa using e);omega
theorem Aa {B C:Nat} {w w':World} {v:Value} {T:TypeId} {s n:Nat} {xs:List Value} (h:w.ownsRow B T s v n xs) (i:Below C w w') (j:w.heap.size<=C):w'.ownsRow B T s v n xs:=by
 refine ⟨h.1,?_⟩;rcases h.2 with f | ⟨g,a,b,rfl,c,d,r⟩
 ·exact .inl f
 ·exact .inr ⟨g,a,b,rfl,c,by rw [i.block g (Nat.lt_of_lt_of_le (Array.getElem?_eq_some_iff.1 d).1 j)];exact d,r⟩
structure LHd (B b:Nat) (w wr:World) (ss:List Nat) (fs:List ByteArray) (vs vf:Value):Prop where
 var:wr.heap[b]?=some (.cells #[vs,vf] 233 (0,0))
 szs:wr.ownsRow (b+1) 3 1 vs ss.length (Bk ss)
 fst:Av (b+1) wr vf fs
 apart:Ir vs vf
 bel:Below B w wr
 le:B<=b
 lt:b+1<=wr.heap.size
theorem LHd.cells {B b:Nat} {w wr:World} {d:List Nat} {f:List ByteArray} {vs a:Value} (h:LHd B b w wr d f vs a):wr.cell? ⟨b,0,none⟩=some vs/\wr.cell? ⟨b,1,none⟩=some a/\wr.frozen? ⟨b,0,none⟩=false/\wr.frozen? ⟨b,1,none⟩=false:=by
 have c:=h.var;refine ⟨?_,?_,?_,?_⟩ <;> simp [World.cell?,World.frozen?,c]
theorem LHd.mid {B b:Nat} {w wr a:World} {f:List Nat} {g:List ByteArray} {vs c:Value} (h:LHd B b w wr f g vs c) (i:Below (b+1) wr a):a.cell? ⟨b,0,none⟩=some vs/\a.cell? ⟨b,1,none⟩=some c/\a.frozen? ⟨b,0,none⟩=false/\a.frozen? ⟨b,1,none⟩=false:=by
 have d:=(i.block b (by omega)).trans h.var;refine ⟨?_,?_,?_,?_⟩ <;> simp [World.cell?,World.frozen?,d]
theorem LHd.below {B b:Nat} {w wr c:World} {d:List Nat} {f:List ByteArray} {vs g:Value} (h:LHd B b w wr d f vs g) (a:Below wr.heap.size wr c):LHd B b w c d f vs g:=by
 have j:=h.lt;have i:=h.le;have k:=a.size;exact ⟨(a.block _ (by omega)).trans h.var,Aa h.szs a (Nat.le_refl _),Aa h.fst a (Nat.le_refl _),h.apart,h.bel.trans (a.mono (by omega)),i,by omega⟩
theorem Ab8 (B:Nat) (w wr:World) (b:Below B w wr) (a:B<=wr.heap.size):LHd B wr.heap.size w (wr.alloc (.cells #[.slice none 0 0,.slice none 0 0] 233)) [] [] (.slice none 0 0) (.slice none 0 0):=
 ⟨heap_alloc_new _ _,World.ownsRow_nil _ _ _ _,World.ownsRow_nil _ _ _ _,Ajd _,b.alloc a _,a,by simp⟩
theorem LHd.apN {B b:Nat} {w wr w':World} {c:List Nat} {l:List ByteArray} {vs m d:Value} {n:Nat} (h:LHd B b w wr c l vs m) (s:w'.ownsRow (b+1) 3 1 d (c.length+1) (Bk c++[.int .i64 (n:Int)])) (t:wr.grownBy w' vs.ownBlock) (j:d.ownBlock=vs.ownBlock\/∃k,wr.heap.size<=k/\d.ownBlock=some k):
  Below (b+1) wr w'/\LHd B b w (w'.setCell ⟨b,0,none⟩ d) (c++[n]) l d m:=by
 obtain ⟨r,g,a⟩:=Xc h.fst h.szs h.lt h.apart.symm t j;have f:=h.le;have o:=h.lt;have q:=a.size;refine ⟨a,?_,?_,ownsRow_setCell_below r (by simp) _,g.symm,(h.bel.trans (a.mono (by omega))).setCell (p:=⟨b,0,none⟩) f _,f,?_⟩
 ·rw [Ad (i:=0) ((a.block b (by omega)).trans h.var) d];rfl
 ·have e:Bk (c++[n])=Bk c++[.int .i64 (n:Int)]:=by simp [Bk]
  rw [e,List.length_append];exact ownsRow_setCell_below s (by simp) _
 ·simp [World.setCell];omega
theorem LHd.apF {B b:Nat} {w wr w':World} {m:List Nat} {g:List ByteArray} {vs j c:Value} {s:ByteArray} (h:LHd B b w wr m g vs j) (r:Av (b+1) w' c (g++[s])) (t:wr.grownBy w' j.ownBlock) (l:c.ownBlock=j.ownBlock\/∃k,wr.heap.size<=k/\c.ownBlock=some k):
  Below (b+1) wr w'/\LHd B b w (w'.setCell ⟨b,1,none⟩ c) m (g++[s]) vs c:=by
 obtain ⟨q,f,a⟩:=Xc h.szs h.fst h.lt h.apart t l;have d:=h.le;have n:=h.lt;have o:=a.size;refine ⟨a,?_,ownsRow_setCell_below q (by simp) _,r.setBelow (by omega) _,f,(h.bel.trans (a.mono (by omega))).setCell (p:=⟨b,1,none⟩) d _,d,?_⟩
 ·rw [Ad (i:=1) ((a.block b (by omega)).trans h.var) c];rfl
 ·simp [World.setCell];omega
theorem Apu (w:World) {d:Array Oper} {rest:List Oper} {o:Oper} {a:Act} {Q:Exit->Act->World->Prop} (t:o.guard=none) (y x:Operand)
  (N:o.op=Op.call {callee:=Callee.builtin Builtin.append,args:= #[y,x],argTypes:= #[108,108]}) (p q r:UInt8) (P D R n:Int) (O:P=(p.toNat:Int)) (S:D=(q.toNat:Int)) (T:R=(r.toNat:Int)) (b:UInt8) (U:n=(b.toNat:Int)) (F G:Nat) (z:F=w.heap.size) (A:G=w.heap.size+1) (V:a.eval y= .slice (some ⟨F,0,none⟩) 3 3) (X:a.eval x= .slice (some ⟨G,0,none⟩) 1 1) (B:Nat) (Y:B<=w.heap.size)
  (h:∀(s:Value) (w':World),Bh B w' s [p,q,r,b]->Below w.heap.size w w'->(∃k,w.heap.size < k/\s.ownBlock=some k)->w.heap.size < w'.heap.size->wpList Tryz.prog d Q rest (a.put o.dst s) w'):wpList Tryz.prog d Q (o::rest) a ((w.alloc (.cells #[.int .u8 P,.int .u8 D,.int .u8 R] 5 (3,4))).alloc (.cells #[.int .u8 n] 5)):=by
 subst z A O S T U;obtain ⟨i,hi,l,c,m⟩:=info_parts Iz;have H:∀j u,(Lib.byteCells [p,q,r])[j]?=some u->((w.alloc (.cells #[.int .u8 (p.toNat:Int),.int .u8 (q.toNat:Int),.int .u8 (r.toNat:Int)] 5 (3,4))).alloc (.cells #[.int .u8 (b.toNat:Int)] 5)).cell? ((⟨w.heap.size,0,none⟩:Addr).add j)=some u:=by
  intro j u M;rw [Dm,World.cell?_alloc_past _ _ _ (by simp)];unfold World.cell?;rw [heap_alloc_new];simpa [Lib.byteCells] using M
 have I:∀j u,(Lib.byteCells [b])[j]?=some u->((w.alloc (.cells #[.int .u8 (p.toNat:Int),.int .u8 (q.toNat:Int),.int .u8 (r.toNat:Int)] 5 (3,4))).alloc (.cells #[.int .u8 (b.toNat:Int)] 5)).cell? ((⟨w.heap.size+1,0,none⟩:Addr).add j)=some u:=by
  have:=Lk (w.alloc (.cells #[.int .u8 (p.toNat:Int),.int .u8 (q.toNat:Int),.int .u8 (r.toNat:Int)] 5 (3,4))) 5 [b] #[.int .u8 (b.toNat:Int)] (by simp [Lib.byteCells]);rw [show (w.alloc (.cells #[.int .u8 (p.toNat:Int),.int .u8 (q.toNat:Int),.int .u8 (r.toNat:Int)] 5 (3,4))).heap.size=w.heap.size+1 by simp] at this;exact this
 generalize C:(w.alloc (.cells #[.int .u8 (p.toNat:Int),.int .u8 (q.toNat:Int),.int .u8 (r.toNat:Int)] 5 (3,4))).alloc (.cells #[.int .u8 (b.toNat:Int)] 5)=W at*;have J:W.heap.size=w.heap.size+2:=by rw [<-C];simp
 have f:Below w.heap.size w W:=by rw [<-C];exact ((Below.refl _ w).alloc (Nat.le_refl _) _).alloc (by simp) _
 have L:=run_append_grow (P:=Tryz.prog) W 108 o.type 5 i (.int .u8 0) Tryz.underlying108 hi l ⟨w.heap.size,0,none⟩ 3 3 (Lib.byteCells [p,q,r]) (by rw [c];rfl) H ⟨w.heap.size+1,0,none⟩ 1 1 (Lib.byteCells [b]) (by rw [c];rfl) I (by omega) (by omega) (growslice_fits (by omega) (by rw [m];omega));refine Lib.wpList_append_run W t y x 108 108 N _ _ V X _ _ L (h _ _ ?_ ?_ ⟨W.heap.size,by omega,rfl⟩ (by simp;omega))
 ·unfold Bh;have g:=grownCap_ge W (3+1) 3 5;refine ⟨rfl,.inr ⟨W.heap.size,_,_,rfl,by omega,heap_alloc_new W.drew _,g,grownCap_le_maxLen W (3+1) 3 _ (by unfold maxLen;omega),?_,?_⟩⟩
  ·simp only [Array.size_append,List.size_toArray,size_zeroCells,Lib.byteCells_length];show 3+1+_*1=_;omega
  ·simp only [Array.toList_append];rw [show Lib.byteCells [p,q,r,b]=Lib.byteCells [p,q,r]++Lib.byteCells [b] from rfl];exact List.take_left' rfl
 ·exact f.trans ((((Below.refl W.heap.size W).drew).alloc (by simp) _).mono (by omega))
def Aa7 (w:World) (v:Value) (ss:List Nat) (fs:List ByteArray):Prop:=∃vs vf,v= .agg #[vs,vf]/\Iv w vs ss.length (Bk ss)/\Iv w vf fs.length (strs fs)
theorem LHd.isLH {B b:Nat} {w wr:World} {a:List Nat} {c:List ByteArray} {vs d:Value} (h:LHd B b w wr a c vs d) (f:a.length<=1000) (g:c.length<=1000):Aa7 wr (.agg #[vs,d]) a c:=
 ⟨vs,d,rfl,ownsRow.isRow h.szs (by omega),ownsRow.isRow h.fst (by omega)⟩
set_option maxHeartbeats 2000000 in
set_option maxRecDepth 20000 in
theorem Pe (v:Value) (a:List Nat) (b:List ByteArray) (w:World) (hv:Aa7 w v a b) (hn:a.length=b.length) (h4:b.length<=4) (hf:∀f∈b,f.size<=12):
  Calls Tryz.prog 180 #[v] w fun r w'=> r= .returned (.string ⟨(Pg.Fq a (lists b)).toArray⟩)/\Below w.heap.size w w':=by
 obtain ⟨vs,vf,rfl,⟨F,G,rfl,-,hs⟩,⟨H,I,rfl,-,X⟩⟩:=hv;have HS:=hid hs;have HF:=hid X;have b0:=hid hf;have HN:=hid hn;have d4:a.length<=4:=by omega
 have d5:b.length<=a.length:=by omega
 have d6:a.length<=b.length:=by omega
 clear hs X hf hn;obtain ⟨bt,Y,Z⟩:=Acj a.length;have b1:=hid Y;have b2:=hid Z;clear Y Z;go_enter Tryz.func180,Tryz.ntmps180;have J:=Joins.run_convert_bytes_const_at (P:=Tryz.prog) (w.alloc (.cells #[.slice F a.length G,.slice H b.length I] 233)) 108 5 #[.int .u8 83,.int .u8 50,.int .u8 76] 3 3 (w.heap.size+1) (by simp) Tryz.underlying108 Tryz.underlying5;have b3:∀j,((w.alloc (.cells #[.slice F a.length G,.slice H b.length I] 233)).alloc (.cells #[.int .u8 83,.int .u8 50,.int .u8 76] 5 (3,4))).cell? ⟨w.heap.size,j,none⟩=(#[Value.slice F a.length G,.slice H b.length I]:Array Value)[j]?:=by
  intro j;rw [World.cell?_alloc_past _ _ _ (by simp)];unfold World.cell?;rw [heap_alloc_new];simp
 go_wp2_with (first
  | (at_builtin;refine Apu (w.alloc (.cells #[.slice F a.length G,.slice H b.length I] 233)) rfl (.tmp 7) (.tmp 12) rfl 83 50 76 _ _ _ _ rfl rfl rfl bt ?_ (w.heap.size+1) (w.heap.size+2) (by simp) (by simp) rfl rfl w.heap.size (by simp) ?_))
 ·rw [b1.out];omega
 intro v1 w1 a5 y k1 c9 e1 d2;have c0:=(y.cell (p:=⟨w.heap.size,0,none⟩) (by simp)).trans (show _=some (.slice F a.length G) by simp);have c1:=(y.cell (p:=⟨w.heap.size,1,none⟩) (by simp)).trans (show _=some (.slice H b.length I) by simp);have g:v1.ownBlock≠some w.heap.size:=by
  rw [e1];simp;omega
 have L:=hid a5;have M:=hid (((Below.refl w.heap.size w).alloc (Nat.le_refl _) (.cells #[.slice F a.length G,.slice H b.length I] 233)).trans (y.mono (by simp)));have A:w.heap.size < w1.heap.size:=by omega
 clear a5 y e1 c9 d2 J b3;have l:=hid g;clear g;have N:=hid c0;go_wp2_with fail;clear c0 c1
 go_loopw [3,17] (fun u i wr=>∃(k:Nat) (o:List UInt8),k<=b.length/\i= .int .i64 k/\Bh w.heap.size wr u o/\Below w.heap.size w wr/\wr.cell? ⟨w.heap.size,0,none⟩=some (.slice F a.length G)/\u.ownBlock≠some w.heap.size/\w.heap.size < wr.heap.size/\o++Pg.Ci (a.drop k) (lists (b.drop k))=[83,50,76]++[bt]++Pg.Ci a (lists b)/\o.length<=4+15*k/\4<=o.length) (fun _ i _=> b.length - (intOf i).toNat)
 case atStart=> exact ⟨0,_,Nat.zero_le _,rfl,L.out,M.out,N.out,l.out,A,by simp,by simp,by simp⟩
 case round=>
  clear L M N l A;obtain ⟨k,o,hk,rfl,ho,hb,a0,g,e6,a1,e7,e8⟩:=hrel;have HO:=hid ho;have HB:=hid hb;have l:=hid g;have O:=hid a1;clear ho hb g a1;by_cases t:k < b.length
  ·obtain ⟨bs,e9,c5,c6,a2⟩:=HS.out.resolve_left (by omega);obtain ⟨bf,f1,c7,c8,a3⟩:=HF.out.resolve_left (by omega);subst c5 c7;have d0:=Agn (pl:=a) a2 HB.out c6 k (by omega);have d1:=Ab0 (pl:=b) a3 HB.out c8 k t;have d7:=b0.out _ (List.getElem_mem t);have b4:Hid (Pg.Ci (a.drop k) (lists (b.drop k))=Pg.Sw (a[k]'(by omega)) (b[k]'t).data.toList++Pg.Ci (a.drop (k+1)) (lists (b.drop (k+1)))):=by
    show _=_;rw [List.drop_eq_getElem_cons t,List.drop_eq_getElem_cons (show k < a.length by omega)];rfl
   clear a2 a3;generalize b[k]'t=f at*;generalize a[k]'(by omega)=s at*;obtain ⟨bk,a4,B⟩:=Acj f.size;have b5:=hid a4;have b6:Hid (Pg.Sw s f.data.toList=Pg.low s 2++[bk]++f.data.toList++List.replicate (12 - f.size) 0):=by
    show _=_;unfold Pg.Sw;rw [len_size,B]
   clear a4 B;go_wp2_with fail;refine (Nb w.heap.size u3 o s _ HO.out (by omega) (by omega)).mono ?_;rintro r w2 ⟨v2,rfl,d,c⟩;have R:=hid d;have D:=hid (HB.out.trans (c.below HO.out (by omega)));have d8:=c.size;have e0:=c.cell a0 l.out;have S:=hid (c.ne (by omega) l.out);have d9:=Pg.Cp 2 s;clear d c a0;go_wp2_with (first
    | (at_builtin;refine Aat w2 rfl (.tmp 28) (.tmp 32) rfl w.heap.size v2 _ rfl R.out bk _ ?_ rfl ?_ ?_ ?_))
   ·rw [b5.out];omega
   ·simp;omega
   ·omega
   intro v3 w3 a6 a7 C;have m:=Hv a7 C;have T:=hid a6;have b7:=hid (D.out.trans (m.below R.out (by omega)));have e2:=m.size;have f0:=m.cell e0 S.out;have U:=hid (m.ne (by omega) S.out);clear a6 a7 C m e0;go_wp2_with (first
    | (at_builtin;refine Alk w3 rfl (.tmp 34) (.tmp 35) rfl w.heap.size v3 _ rfl T.out f rfl ?_ ?_ ?_))
   ·simp;omega
   ·omega
   intro v4 w4 a8 n;have V:=hid a8;have b8:=hid (b7.out.trans (n.below T.out (by omega)));have d3:=n.size;have g0:=n.cell f0 U.out;have W:=hid (n.ne (by omega) U.out);clear a8 n f0;obtain ⟨z,hz⟩:∃z,z=12 - f.size:=⟨_,rfl⟩;have e3:(12:Int) - (f.size:Int)=(z:Int):=(by omega);have e4:z+f.size<=12:=(by omega);have HZ:=hid hz;clear hz;go_wp2_with (first
    | (at_builtin;refine Apt w4 rfl (.tmp 37) (.tmp 40) rfl w.heap.size v4 _ rfl V.out ?_ z rfl ?_ ?_ ?_ ?_))
   ·simp;omega
   ·omega
   ·simp;omega
   ·omega
   intro v5 w5 a9 q;have b9:=hid a9;have c2:=hid (b8.out.trans (q.below V.out (by omega)));have e5:=q.size;have k0:=q.cell g0 W.out;have c3:=hid (q.ne (by omega) W.out);clear a9 q g0;go_wp2_with fail
   go_roundw
   case rel=>
    refine ⟨k+1,_,by omega,by go_num,b9.out,c2.out,k0,c3.out,by omega,?_,?_,?_⟩
    ·rw [<-O.out,b4.out,b6.out,<-HZ.out];simp
    ·simp;omega
    ·simp;omega
   case measure=> simp [intOf];omega
  ·have c4:Hid (o=[83,50,76]++[bt]++Pg.Ci a (lists b)):=by
    show _=_;rw [<-O.out,List.drop_eq_nil_of_le (show a.length<=k by omega)];simp [Pg.Ci]
   go_wp2_with fail;refine (Qy w.heap.size u3 o _ HO.out (by omega) (by omega) (by omega)).mono ?_;rintro r w2 ⟨v2,rfl,d,c⟩;have D:=hid (HB.out.trans (c.below HO.out (by omega)));have HR:Hid (Pg.sealed (o++List.replicate (64 - o.length) 0)=Pg.Fq a (lists b)):=by
    show _=_;unfold Pg.Fq;rw [c4.out,b2.out];congr 2;simp
   rw [HR.out] at d;have J:=d.str;clear d c;go_wp2_with fail;go_ret;exact ⟨rfl,D.out⟩
structure Sy (il A B:List (ByteArray×ByteArray)) (key:ByteArray):Prop where
 e:il=A++B
 a:∀x∈A,x.1.data.toList < key.data.toList
 b:∀x∈B,¬x.1.data.toList < key.data.toList
def Cx (B:List (ByteArray×ByteArray)) (key:ByteArray):Bool:=match B with
 | []=> false
 | x::_=> decide (x.1.data.toList=key.data.toList)
theorem Ajk {il:List (ByteArray×ByteArray)} {key:ByteArray} {i:Nat} (c:∀x (h:x < il.length),x < i->(il[x]'h).1.data.toList < key.data.toList) (d:∀x (h:x < il.length),i<=x->¬(il[x]'h).1.data.toList < key.data.toList):Sy il (il.take i) (il.drop i) key:=by
 refine ⟨(List.take_append_drop i il).symm,fun x b=> ?_,fun x b=> ?_⟩
 ·obtain ⟨j,a,rfl⟩:=List.getElem_of_mem b;rw [List.getElem_take];simp at a;exact c j (by omega) (by omega)
 ·obtain ⟨j,a,rfl⟩:=List.getElem_of_mem b;rw [List.getElem_drop];simp at a;exact d (i+j) (by omega) (by omega)
theorem Ab9 {il:List (ByteArray×ByteArray)} (h:Tr.Bi (plain il)) {x y:Nat} (b:y < il.length) (a:x < y):(il[x]'(by omega)).1.data.toList < (il[y]'b).1.data.toList:=by
 have:=(List.pairwise_iff_getElem.1 h) x y (by simp [plain];omega) (by simpa [plain] using b) a;simpa [plain] using this
set_option maxHeartbeats 2000000 in
set_option maxRecDepth 20000 in
theorem Ags (B:Nat) (v:Value) (il:List (ByteArray×ByteArray)) (key:ByteArray) (w:World) (R:Ak B w v il) (hl:il.length<=1000000000) (V:Tr.Bi (plain il)):
  Calls Tryz.prog 192 #[v,.string key,.func (.func 193) #[] #[]] w fun r w'=> (∃A C,Sy il A C key/\r= .returned (.tuple #[.int .i64 (A.length:Nat),.bool (Cx C key)]))/\Below w.heap.size w w':=by
 obtain ⟨pa,pc,rfl⟩:=Ab R;have W:=hid R;have S:=hid V;clear R V;go_enter Tryz.func192,Tryz.ntmps192;go_wp2_with fail
 go_loopw [9,10] (fun iv jv wr=>∃i j:Nat,i<=j/\j<=il.length/\iv= .int .i64 i/\jv= .int .i64 j/\Hid (∀x (h:x < il.length),x < i->(il[x]'h).1.data.toList < key.data.toList)/\Hid (∀x (h:x < il.length),j<=x->¬(il[x]'h).1.data.toList < key.data.toList)/\Below w.heap.size w wr) (fun i j _=> (intOf j).toNat - (intOf i).toNat)
 case atStart=> exact ⟨0,il.length,Nat.zero_le _,Nat.le_refl _,rfl,rfl,fun x _ h=> by omega,fun x h u=> by omega,Below.refl _ _⟩
 case round=>
  obtain ⟨i,j,a1,hj,rfl,rfl,I,u,y⟩:=hrel;have o:=hid y;have p:=y.size;have k:Hid (Ak B wr (.slice pa il.length pc) il):=Aa W.out y (Nat.le_refl _);clear y;by_cases a2:i < j
  ·have X:(i+j) / 2 < j:=(by omega);have F:i<=(i+j) / 2:=(by omega);have b:(i+j) / 2 < il.length:=(by omega);obtain ⟨g,J,e,hc,L,hg,z,D⟩:=k.out.at ((i+j) / 2) b;simp only [Value.slice.injEq] at e;obtain ⟨rfl,-,rfl⟩:=e;have Y:=hid (show (il[(i+j) / 2]'b).1=(il[(i+j) / 2]'b).1 from rfl);generalize c:(il[(i+j) / 2]'b).1=d at z;generalize (il[(i+j) / 2]'b).2=O at D;go_wp2_with fail;refine (Uk d O key _).mono ?_;rintro r w1 ⟨rfl,f⟩;have l:=hid (o.out.trans (f.mono p));clear f z D Y k o;by_cases m:d.data.toList < key.data.toList
   ·have s:Lib.compareBytes d.data.toList key.data.toList < 0:=(Vz _ _).2 m;have Z:Hid (∀x (h:x < il.length),x < (i+j) / 2+1->(il[x]'h).1.data.toList < key.data.toList):=fun x U M=> by
     rcases Nat.lt_or_ge x ((i+j) / 2) with q | q
     ·have:=Ab9 S.out b q;rw [c] at this;exact Tr.Cz this m
     ·have:x=(i+j) / 2:=(by omega);subst this;rw [c];exact m
    clear m c;generalize Lib.compareBytes d.data.toList key.data.toList=cv at*;go_wp2_with fail
    go_roundw
    case rel=> exact ⟨(i+j) / 2+1,j,by omega,hj,by go_num,rfl,Z.out,u,l.out⟩
    case measure=> simp [intOf];omega
   ·have s:¬Lib.compareBytes d.data.toList key.data.toList < 0:=fun q=> m ((Vz _ _).1 q)
    have T:decide (Lib.compareBytes d.data.toList key.data.toList < 0)=false:=decide_eq_false s;have H2:Hid (∀x (h:x < il.length),(i+j) / 2<=x->¬(il[x]'h).1.data.toList < key.data.toList):=fun x U M=> by
     rcases Nat.lt_or_ge ((i+j) / 2) x with q | q
     ·have:=Ab9 S.out U q;rw [c] at this;exact fun N=> m (Tr.Cz this N)
     ·have:x=(i+j) / 2:=(by omega);subst this;rw [c];exact m
    clear m c;generalize Lib.compareBytes d.data.toList key.data.toList=cv at*;go_wp2_with fail
    go_roundw
    case rel=> exact ⟨i,(i+j) / 2,F,by omega,rfl,by go_num,I,H2.out,l.out⟩
    case measure=> simp [intOf];omega
  ·have G:j=i:=(by omega);subst G;have t:=hid (Ajk I.out u.out);clear I u;by_cases a:j < il.length
   ·obtain ⟨g,J,e,hc,L,hg,z,D⟩:=k.out.at j a;simp only [Value.slice.injEq] at e;obtain ⟨rfl,-,rfl⟩:=e;have H:Hid (Cx (il.drop j) key=decide ((il[j]'a).1.data.toList=key.data.toList)):=by
     show _=_;rw [List.drop_eq_getElem_cons a];rfl
    generalize (il[j]'a).1=d at*;generalize (il[j]'a).2=O at*;go_wp2_with fail;refine (Uk d O key _).mono ?_;rintro r w1 ⟨rfl,f⟩;have l:=hid (o.out.trans (f.mono p));clear f z D k o;have HZ:Hid ((Lib.compareBytes d.data.toList key.data.toList==0)=decide (d.data.toList=key.data.toList)):=by
     show _=_;by_cases q:d.data.toList=key.data.toList
     ·rw [decide_eq_true q,(Wy _ _).2 q];rfl
     ·rw [decide_eq_false q];exact beq_false_of_ne fun N=> q ((Wy _ _).1 N)
    have n:Hid ((il.take j).length=j):=(by show _=_;simp;omega);go_wp2_with fail;go_ret2;exact ⟨⟨_,_,t.out,by rw [H.out,<-HZ.out,n.out];rfl⟩,l.out⟩
   ·have a0:j=il.length:=(by omega);have H:Hid (Cx (il.drop j) key=false):=by
     show _=_;rw [List.drop_of_length_le (by omega)];rfl
    have n:Hid ((il.take j).length=j):=(by show _=_;simp;omega);go_wp2_with fail;go_ret2;exact ⟨⟨_,_,t.out,by rw [H.out,n.out];rfl⟩,o.out⟩
end Go.Proofs.YtolgpnaoaodepaaGreat
