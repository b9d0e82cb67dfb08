import Derived.Test.YtolgpnaoaodepaaGreatWalkFm
namespace Go.Proofs.YtolgpnaoaodepaaGreat.Pg
theorem Vy (l:List UInt8) (h:l.length < 34359738368):(Ef l).length<=l.length+5:=by
 unfold Ef;rw [List.length_append];have:=Acf l.length h;omega
theorem Gu (k c:List UInt8) (h:c.length < 17179869184):(Bg k c).length<=k.length+c.length+20:=by
 have b:=Acf c.length (by omega);unfold Bg;split
 ·rename_i a;have:=Vy (Sq.Ca c) (by omega);rw [Lb];simp only [List.length_append,Cp];omega
 ·have:=Vy c (by omega);rw [Lb];simp only [List.length_append,Cp];omega
theorem Aaw:∀(l:List (List UInt8×List UInt8)) (a:List UInt8),(∀x∈l,x.1.length<=12/\x.2.length<=16)->(Iu a l).length<=60*l.length
 | [],_,_=> by simp [Iu]
 | (k,v)::r,a,h=> by
  have b:=h (k,v) (by simp);simp only at b;have c:=Vy (k.drop (Ds a k)) (by rw [List.length_drop];omega);rw [List.length_drop] at c;have f:=Vy v (by omega);have g:=Aaw r k (fun x d=> h x (by simp [d]));unfold Iu;simp only [List.length_append,Cp,List.length_cons];omega
theorem Lm (l:List (List UInt8×List UInt8)) (h:∀x∈l,x.1.length<=12/\x.2.length<=16):(Bx l).length<=1+60*l.length:=by
 unfold Bx;rw [List.length_append,Cp];have:=Aaw l [] h;omega
def base (l:List (List UInt8×List UInt8)):List UInt8:=Bg [98] (Bx (l.take 4))
def Aib (l:List (List UInt8×List UInt8)):List UInt8:=match l with
 | []=> []
 | (k,_)::_=> low (base l).length 2++low k.length 1++k++List.replicate (12 - k.length) 0
def entries:Nat->List (List UInt8×List UInt8)->List UInt8
 | 0,_=> []
 | f+1,l=> if l=[] then [] else Aib l++entries f (l.drop 4)
def Ki:Nat->List (List UInt8×List UInt8)->List UInt8
 | 0,_=> []
 | f+1,l=> if l=[] then [] else base l++Ki f (l.drop 4)
def many (n:Nat):Nat:=(n+3) / 4
def Sp (l:List (List UInt8×List UInt8)):List UInt8:=
 sealed ([83,50,76]++low (many l.length) 1++entries (many l.length) l++List.replicate (60 - (entries (many l.length) l).length) 0)++Ki (many l.length) l
def Ald:List UInt8->Nat
 | []=> 0
 | b::r=> b.toNat+256*Ald r
theorem Wr:∀(k n:Nat),n < 256^k->Ald (low n k)=n
 | 0,n,h=> by simp at h;subst h;rfl
 | k+1,n,h=> by
  rw [low,Ald,Wr k (n / 256) (by rw [Nat.div_lt_iff_lt_mul (by decide)];rw [Nat.pow_succ] at h;exact h)];simp;omega
end Go.Proofs.YtolgpnaoaodepaaGreat.Pg
namespace Go.Proofs.YtolgpnaoaodepaaGreat.Sq
theorem Adq (l:List UInt8):∀(m i j k:Nat),k < com l i j m->j+k < l.length/\l[i+k]?=l[j+k]?
 | 0,_,_,_,h=> by simp [com] at h
 | m+1,i,j,k,h=> by
  unfold com at h;split at h
  ·rename_i a
   match k with
   | 0=> exact ⟨by omega,by simpa using a.2⟩
   | k+1=>
    have:=Adq l m (i+1) (j+1) k (by omega);rw [show i+(k+1)=i+1+k by omega,show j+(k+1)=j+1+k by omega];exact this
  ·omega
theorem Aax (l:List UInt8) (a d:Nat) (j:1<=d) (b:d<=a) (m:a<=l.length):∀n,(∀k,k < n->a+k < l.length/\l[a - d+k]?=l[a+k]?)->Ho (l.take a) d n=l.take (a+n)
 | 0,_=> rfl
 | n+1,h=> by
  have f:=Aax l a d j b m n (fun k o=> h k (by omega));rw [Pp,f];obtain ⟨c,i⟩:=h n (by omega);have g:(l.take (a+n)).length=a+n:=by rw [List.length_take];omega
  rw [g,List.getD_eq_getElem?_getD,List.getElem?_take_of_lt (by omega),show a+n - d=a - d+n by omega,i,List.getElem?_eq_getElem c,show a+(n+1)=a+n+1 by omega,List.take_succ_eq_append_getElem c];rfl
theorem Ln:∀(n:Nat) (p t a:List UInt8),p.length<=n->Bm (Hn p++t) a=Bm t (a++p)
 | 0,p,t,a,h=> by have:p=[]:=List.length_eq_zero_iff.1 (by omega);subst this;simp [La]
 | n+1,p,t,a,h=> by
  by_cases e:p=[]
  ·subst e;simp [La]
  ·have d:0 < p.length:=List.length_pos_iff.2 e;rw [Po p e,List.cons_append,List.append_assoc];have b:(UInt8.ofNat (min p.length 128 - 1)).toNat=min p.length 128 - 1:=(by simp;omega);have c:min p.length 128 - 1+1=(p.take 128).length:=(by rw [List.length_take];omega);rw [Wl _ _ _ (by omega) (by rw [b,List.length_append];omega),b,c,List.drop_left,List.take_left,Ln n (p.drop 128) t _ (by rw [List.length_drop];omega),List.append_assoc,List.take_append_drop]
theorem Ale (l:List UInt8) (a:Nat) (h:(Dq l a).2≠0):1<=(Dq l a).2/\(Dq l a).2<=a/\mat l a (Dq l a).2=(Dq l a).1:=by
 have c:=(Qr l a (min a 255)).2;have d:=Wh l a;unfold Dq at*;rcases c with b | b
 ·rw [b] at h;simp at h
 ·exact ⟨b.1,d.2,b.2.2.1⟩
theorem Kj (l:List UInt8):∀(f a:Nat) (p:List UInt8),l.length - a<=f->a<=l.length->p.length<=a->p=(l.drop (a - p.length)).take p.length->Bm (rest l a p) (l.take (a - p.length))=some l
 | 0,a,p,hf,ha,hp,he=> by
  rw [Adl l a p (by omega)];have:=Ln p.length p [] (l.take (a - p.length)) (Nat.le_refl _);rw [List.append_nil] at this;rw [this,Wk,he];simp only [List.length_take,List.length_drop];rw [show min p.length (l.length - (a - p.length))=p.length by omega];rw [<-List.take_add,show a - p.length+p.length=a by omega,List.take_of_length_le (by omega)]
 | f+1,a,p,hf,ha,hp,he=> by
  by_cases m:l.length<=a
  ·exact Kj l 0 a p (by omega) ha hp he
  ·have b:a < l.length:=(by omega);by_cases d:(Dq l a).2=0
   ·rw [Uc l a p b d];have:=Kj l f (a+1) (p++[l[a]]) (by omega) (by omega) (by simp;omega) (by
     rw [List.length_append,List.length_singleton,show a+1 - (p.length+1)=a - p.length by omega];rw [List.take_succ_eq_append_getElem (by rw [List.length_drop];omega),<-he];simp [show a - p.length+p.length=a by omega])
    rw [List.length_append,List.length_singleton,show a+1 - (p.length+1)=a - p.length by omega] at this;exact this
   ·have s:=Kz l a d;obtain ⟨o,q,r⟩:=Ale l a d;have n:=(Wh l a).1;rw [Wj l a p b d,Ln p.length p _ _ (Nat.le_refl _)];have c:l.take (a - p.length)++p=l.take a:=by
     rw [show l.take (a - p.length)++p=l.take (a - p.length)++(l.drop (a - p.length)).take p.length from congrArg _ he,<-List.take_add,show a - p.length+p.length=a by omega]
    rw [c];have g:(UInt8.ofNat (125+(Dq l a).1)).toNat=125+(Dq l a).1:=(by simp;omega);have i:(UInt8.ofNat (Dq l a).2).toNat=(Dq l a).2:=(by simp;omega);rw [Qv _ _ _ _ (by rw [g];omega) (by rw [g,i,List.length_take];omega),g,i,show 125+(Dq l a).1 - 125=(Dq l a).1 by omega];rw [Aax l a (Dq l a).2 o q ha (Dq l a).1 (fun k j=> by rw [<-r] at j;exact Adq l _ _ _ k j)];have:=Kj l f (a+(Dq l a).1) [] (by omega) (by omega) (by simp) (by simp);simpa using this
theorem Ws (l:List UInt8):Bm (Ca l) []=some l:=by
 have:=Kj l l.length 0 [] (by omega) (by omega) (by simp) (by simp);simpa [Ca] using this
theorem Wt (l:List UInt8):Kt (Ca l)=some l:=by
 unfold Kt;rw [Ws];simp
end Go.Proofs.YtolgpnaoaodepaaGreat.Sq
namespace Go.Proofs.YtolgpnaoaodepaaGreat.Pg
end Go.Proofs.YtolgpnaoaodepaaGreat.Pg
