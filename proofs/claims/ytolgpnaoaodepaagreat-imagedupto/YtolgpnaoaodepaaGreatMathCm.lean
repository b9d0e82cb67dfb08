import Derived.Test.YtolgpnaoaodepaaGreatWalkFm
namespace Go.Proofs.YtolgpnaoaodepaaGreat.Pg
theorem text_le (l:List UInt8) (h:l.length < 34359738368):(text l).length≤l.length+5:=by
 unfold text;rw [List.length_append];have:=num_len l.length h;omega
theorem section_len (k c:List UInt8) (h:c.length < 17179869184):(section_ k c).length≤k.length+c.length+20:=by
 have b:=num_len c.length (by omega)
 unfold section_
 split
 ·rename_i a
  have:=text_le (Sq.squeeze c) (by omega)
  rw [seal_len];simp only [List.length_append,low_len];omega
 ·have:=text_le c (by omega)
  rw [seal_len];simp only [List.length_append,low_len];omega
theorem items_len:∀(l:List (List UInt8×List UInt8)) (a:List UInt8),(∀x∈l,x.1.length≤12∧x.2.length≤16)→(items a l).length≤60*l.length
 | [],_,_=> by simp [items]
 | (k,v)::r,a,h=> by
  have b:=h (k,v) (by simp)
  simp only at b
  have c:=text_le (k.drop (common a k)) (by rw [List.length_drop];omega)
  rw [List.length_drop] at c
  have e:=text_le v (by omega)
  have f:=items_len r k (fun x d=> h x (by simp [d]))
  unfold items
  simp only [List.length_append,low_len,List.length_cons];omega
theorem basement_len (l:List (List UInt8×List UInt8)) (h:∀x∈l,x.1.length≤12∧x.2.length≤16):(basement l).length≤1+60*l.length:=by
 unfold basement;rw [List.length_append,low_len];have:=items_len l [] h;omega
def base (l:List (List UInt8×List UInt8)):List UInt8:=section_ [98] (basement (l.take 4))
def entry (l:List (List UInt8×List UInt8)):List UInt8:=match l with
 | []=> []
 | (k,_)::_=> low (base l).length 2++low k.length 1++k++List.replicate (12 - k.length) 0
def entries:Nat→List (List UInt8×List UInt8)→List UInt8
 | 0,_=> []
 | f+1,l=> if l=[] then [] else entry l++entries f (l.drop 4)
def bases:Nat→List (List UInt8×List UInt8)→List UInt8
 | 0,_=> []
 | f+1,l=> if l=[] then [] else base l++bases f (l.drop 4)
def many (n:Nat):Nat:=(n+3) / 4
def leaf (l:List (List UInt8×List UInt8)):List UInt8:=
 sealed ([83,50,76]++low (many l.length) 1++entries (many l.length) l++List.replicate (60 - (entries (many l.length) l).length) 0)++bases (many l.length) l
end Go.Proofs.YtolgpnaoaodepaaGreat.Pg
namespace Go.Proofs.YtolgpnaoaodepaaGreat.Pg
def high:List UInt8→Nat
 | []=> 0
 | b::r=> b.toNat+256*high r
theorem high_low:∀(k n:Nat),n < 256^k→high (low n k)=n
 | 0,n,h=> by simp at h;subst h;rfl
 | k+1,n,h=> by
  rw [low,high,high_low k (n / 256) (by rw [Nat.div_lt_iff_lt_mul (by decide)];rw [Nat.pow_succ] at h;exact h)]
  simp;omega
end Go.Proofs.YtolgpnaoaodepaaGreat.Pg
namespace Go.Proofs.YtolgpnaoaodepaaGreat.Pg
end Go.Proofs.YtolgpnaoaodepaaGreat.Pg
namespace Go.Proofs.YtolgpnaoaodepaaGreat.Sq
theorem com_same (l:List UInt8):∀(m i j k:Nat),k < com l i j m→j+k < l.length∧l[i+k]?=l[j+k]?
 | 0,_,_,_,h=> by simp [com] at h
 | m+1,i,j,k,h=> by
  unfold com at h
  split at h
  ·rename_i a
   match k with
   | 0=> exact ⟨by omega,by simpa using a.2⟩
   | k+1=>
    have:=com_same l m (i+1) (j+1) k (by omega)
    rw [show i+(k+1)=i+1+k by omega,show j+(k+1)=j+1+k by omega]
    exact this
  ·omega
theorem copy_take (l:List UInt8) (a d:Nat) (i:1≤d) (b:d≤a) (j:a≤l.length):∀n,(∀k,k < n→a+k < l.length∧l[a - d+k]?=l[a+k]?)→copyN (l.take a) d n=l.take (a+n)
 | 0,_=> rfl
 | n+1,h=> by
  have e:=copy_take l a d i b j n (fun k m=> h k (by omega))
  rw [copyN_succ,e]
  obtain ⟨c,g⟩:=h n (by omega)
  have f:(l.take (a+n)).length=a+n:=by rw [List.length_take];omega
  rw [f,List.getD_eq_getElem?_getD,List.getElem?_take_of_lt (by omega),show a+n - d=a - d+n by omega,g,List.getElem?_eq_getElem c,show a+(n+1)=a+n+1 by omega,List.take_succ_eq_append_getElem c]
  rfl
theorem decode_runOf:∀(n:Nat) (p t a:List UInt8),p.length≤n→decode (runOf p++t) a=decode t (a++p)
 | 0,p,t,a,h=> by have:p=[]:=List.length_eq_zero_iff.1 (by omega);subst this;simp [runOf_nil]
 | n+1,p,t,a,h=> by
  by_cases e:p=[]
  ·subst e;simp [runOf_nil]
  ·have d:0 < p.length:=List.length_pos_iff.2 e
   rw [runOf_cons p e,List.cons_append,List.append_assoc]
   have b:(UInt8.ofNat (min p.length 128 - 1)).toNat=min p.length 128 - 1:=by simp;omega
   have c:min p.length 128 - 1+1=(p.take 128).length:=by rw [List.length_take];omega
   rw [decode_run _ _ _ (by omega) (by rw [b,List.length_append];omega),b,c,List.drop_left,List.take_left,decode_runOf n (p.drop 128) t _ (by rw [List.length_drop];omega),List.append_assoc,List.take_append_drop]
theorem mat_best (l:List UInt8) (a:Nat) (h:(best l a).2≠0):1≤(best l a).2∧(best l a).2≤a∧mat l a (best l a).2=(best l a).1:=by
 have c:=(up_spec l a (min a 255)).2
 have d:=best_far l a
 unfold best at*
 rcases c with b | b
 ·rw [b] at h;simp at h
 ·exact ⟨b.1,d.2,b.2.2.1⟩
theorem decode_rest (l:List UInt8):∀(f a:Nat) (p:List UInt8),l.length - a≤f→a≤l.length→p.length≤a→p=(l.drop (a - p.length)).take p.length→decode (rest l a p) (l.take (a - p.length))=some l
 | 0,a,p,hf,ha,hp,he=> by
  rw [rest_end l a p (by omega)]
  have:=decode_runOf p.length p [] (l.take (a - p.length)) (Nat.le_refl _)
  rw [List.append_nil] at this
  rw [this,decode_nil,he]
  simp only [List.length_take,List.length_drop]
  rw [show min p.length (l.length - (a - p.length))=p.length by omega]
  rw [←List.take_add,show a - p.length+p.length=a by omega,List.take_of_length_le (by omega)]
 | f+1,a,p,hf,ha,hp,he=> by
  by_cases i:l.length≤a
  ·exact decode_rest l 0 a p (by omega) ha hp he
  ·have b:a < l.length:=by omega
   by_cases d:(best l a).2=0
   ·rw [rest_single l a p b d]
    have:=decode_rest l f (a+1) (p++[l[a]]) (by omega) (by omega) (by simp;omega) (by
     rw [List.length_append,List.length_singleton,show a+1 - (p.length+1)=a - p.length by omega]
     rw [List.take_succ_eq_append_getElem (by rw [List.length_drop];omega),←he]
     simp [show a - p.length+p.length=a by omega])
    rw [List.length_append,List.length_singleton,show a+1 - (p.length+1)=a - p.length by omega] at this
    exact this
   ·have q:=best_len l a d
    obtain ⟨m,n,o⟩:=mat_best l a d
    have j:=(best_far l a).1
    rw [rest_match l a p b d,decode_runOf p.length p _ _ (Nat.le_refl _)]
    have c:l.take (a - p.length)++p=l.take a:=by
     rw [show l.take (a - p.length)++p=l.take (a - p.length)++(l.drop (a - p.length)).take p.length from congrArg _ he,←List.take_add,show a - p.length+p.length=a by omega]
    rw [c]
    have e:(UInt8.ofNat (125+(best l a).1)).toNat=125+(best l a).1:=by simp;omega
    have g:(UInt8.ofNat (best l a).2).toNat=(best l a).2:=by simp;omega
    rw [decode_match _ _ _ _ (by rw [e];omega) (by rw [e,g,List.length_take];omega),e,g,show 125+(best l a).1 - 125=(best l a).1 by omega]
    rw [copy_take l a (best l a).2 m n ha (best l a).1 (fun k h=> by rw [←o] at h;exact com_same l _ _ _ k h)]
    have:=decode_rest l f (a+(best l a).1) [] (by omega) (by omega) (by simp) (by simp)
    simpa using this
theorem decode_squeeze (l:List UInt8):decode (squeeze l) []=some l:=by
 have:=decode_rest l l.length 0 [] (by omega) (by omega) (by simp) (by simp)
 simpa [squeeze] using this
theorem spread_squeeze (l:List UInt8):spread (squeeze l)=some l:=by
 unfold spread;rw [decode_squeeze];simp
end Go.Proofs.YtolgpnaoaodepaaGreat.Sq
namespace Go.Proofs.YtolgpnaoaodepaaGreat.Pg
end Go.Proofs.YtolgpnaoaodepaaGreat.Pg
