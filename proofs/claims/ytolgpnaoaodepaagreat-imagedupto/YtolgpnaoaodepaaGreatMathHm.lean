import Derived.Test.YtolgpnaoaodepaaGreatMathCm
import Derived.Test.YtolgpnaoaodepaaGreatGenm
import Derived.Test.YtolgpnaoaodepaaGreatTreCm
import Derived.Lib.SmallJoins
namespace Go.Proofs.YtolgpnaoaodepaaGreat.Pr
open Pg
def takeR (n:Nat) (t:List UInt8):Option (List UInt8×List UInt8):=if n≤t.length then some (t.take n,t.drop n) else none
theorem takeR_yes {n:Nat} {t:List UInt8} (h:n≤t.length):takeR n t=some (t.take n,t.drop n):=if_pos h
theorem takeR_no {n:Nat} {t:List UInt8} (h:¬n≤t.length):takeR n t=none:=if_neg h
theorem takeR_append (p q:List UInt8):takeR p.length (p++q)=some (p,q):=by rw [takeR_yes (by simp),List.take_left,List.drop_left]
theorem takeR_len {n:Nat} {t x u:List UInt8} (h:takeR n t=some (x,u)):x.length=n∧t=x++u:=by
 unfold takeR at h
 split at h
 ·rename_i a
  simp only [Option.some.injEq,Prod.mk.injEq] at h
  rw [←h.1,←h.2,List.take_append_drop,List.length_take];exact ⟨by omega,rfl⟩
 ·simp at h
def byteR:List UInt8→Option (UInt8×List UInt8)
 | []=> none
 | b::t=> some (b,t)
theorem byteR_len {t u:List UInt8} {b:UInt8} (h:byteR t=some (b,u)):t=b::u:=by
 cases t with
 | nil=> simp [byteR] at h
 | cons a r=> simp [byteR] at h;rw [h.1,h.2]
def shortR (t:List UInt8):Option (Nat×List UInt8):=(takeR 2 t).map fun x=> (high x.1,x.2)
def numR:Nat→Nat→Nat→List UInt8→Option (Nat×List UInt8)
 | 0,_,_,_=> none
 | _+1,_,_,[]=> none
 | f+1,c,n,b::t=>
  if 2147483647 < n+b.toNat % 128*c then none
  else if b.toNat < 128 then (if b.toNat=0∧c≠1 then none else some (n+b.toNat % 128*c,t))
  else numR f (128*c) (n+b.toNat % 128*c) t
def numberR (t:List UInt8):Option (Nat×List UInt8):=numR 5 1 0 t
theorem numR_le:∀(f c n:Nat) (t:List UInt8) (m:Nat) (u:List UInt8),numR f c n t=some (m,u)→m≤2147483647∧u.length < t.length
 | 0,_,_,_,_,_,h=> by simp [numR] at h
 | f+1,c,n,[],_,_,h=> by simp [numR] at h
 | f+1,c,n,b::t,m,u,h=> by
  unfold numR at h
  split at h
  ·simp at h
  ·split at h
   ·split at h
    ·simp at h
    ·simp only [Option.some.injEq,Prod.mk.injEq] at h
     rw [←h.1,←h.2];exact ⟨by omega,by simp⟩
   ·have:=numR_le f _ _ _ _ _ h
    exact ⟨this.1,by simp;omega⟩
theorem numberR_le {t u:List UInt8} {m:Nat} (h:numberR t=some (m,u)):m≤2147483647∧u.length < t.length:=numR_le _ _ _ _ _ _ h
theorem numR_num:∀(f c n m:Nat) (t:List UInt8),m < 128^(f+1)→n+m*c≤2147483647→(0 < m∨c=1)→0 < c→numR (f+1) c n (num m++t)=some (n+m*c,t)
 | f,c,n,m,t,hm,hle,h0,hc=> by
  by_cases a:m < 128
  ·rw [num_small m a,low,low,show m % 256=m by omega]
   simp only [List.cons_append,List.nil_append,numR]
   have b:(UInt8.ofNat m).toNat=m:=by simp;omega
   rw [b,Nat.mod_eq_of_lt a,if_neg (by omega),if_pos a,if_neg (by omega)]
  ·rw [num_big m a,low,low,show (128+m % 128) % 256=128+m % 128 by omega]
   simp only [List.cons_append,List.nil_append,numR]
   have b:(UInt8.ofNat (128+m % 128)).toNat=128+m % 128:=by
    rw [UInt8.toNat_ofNat'];omega
   rw [b,show (128+m % 128) % 128=m % 128 by omega]
   have d:m % 128*c+m / 128*(128*c)=m*c:=by
    rw [←Nat.mul_assoc,←Nat.add_mul,Nat.mul_comm (m / 128) 128];congr 1;omega
   rw [if_neg (by omega),if_neg (by omega)]
   match f with
   | 0=> omega
   | f+1=>
    rw [numR_num f (128*c) (n+m % 128*c) (m / 128) t (by rw [Nat.div_lt_iff_lt_mul (by decide)];rw [Nat.pow_succ] at hm;exact hm) (by omega) (.inl (by omega)) (by omega)]
    congr 2;omega
theorem numberR_num (m:Nat) (t:List UInt8) (h:m≤2147483647):numberR (num m++t)=some (m,t):=by
 have:=numR_num 4 1 0 m t (by show m < 128^5;omega) (by omega) (.inr rfl) (by decide)
 unfold numberR;rw [this];simp
def textR (t:List UInt8):Option (List UInt8×List UInt8):=match numberR t with
 | some (n,u)=> takeR n u
 | none=> none
theorem textR_text (s t:List UInt8) (h:s.length≤2147483647):textR (text s++t)=some (s,t):=by
 unfold textR text
 rw [List.append_assoc,numberR_num _ _ h]
 exact takeR_append s t
theorem textR_len {t x u:List UInt8} (h:textR t=some (x,u)):x.length≤t.length∧u.length < t.length:=by
 unfold textR at h
 split at h
 ·rename_i n v b
  have c:=numberR_le b
  obtain ⟨d,a⟩:=takeR_len h
  have:v.length=x.length+u.length:=by rw [a,List.length_append]
  omega
 ·simp at h
def secW (s:List UInt8):Option (UInt8×List UInt8):=
 (takeR 1 s).bind fun a=> (byteR a.2).bind fun h=> (numberR h.2).bind fun n=> (numberR n.2).bind fun z=> if 249 < z.1 then none else (takeR z.1 z.2).map fun c=> (h.1,c.1)
def secU (how:UInt8) (c:List UInt8):Option (List UInt8):=if how=1 then Sq.spread c else some c
def secR (k:UInt8) (s:List UInt8):Option (List UInt8):=(secW s).bind fun x=> (secU x.1 x.2).bind fun u=> if section_ [k] u=s then some u else none
theorem secW_is (k a:UInt8) (n:Nat) (c t:List UInt8) (b:n≤2147483647) (d:c.length≤249):secW ([k]++[a]++num n++text c++t)=some (a,c):=by
 unfold secW text
 rw [show [k]++[a]++num n++(num c.length++c)++t=[k]++(a::(num n++(num c.length++(c++t)))) by simp]
 rw [show takeR 1 ([k]++(a::(num n++(num c.length++(c++t)))))=some ([k],a::(num n++(num c.length++(c++t)))) from takeR_append [k] _]
 simp only [Option.bind_some,byteR]
 rw [numberR_num n _ b]
 simp only [Option.bind_some]
 rw [numberR_num c.length _ (by omega)]
 simp only [Option.bind_some]
 rw [if_neg (by omega),takeR_append]
 rfl
theorem secR_section (k:UInt8) (c:List UInt8) (h:c.length≤249):secR k (section_ [k] c)=some c:=by
 unfold secR
 by_cases b:(Sq.squeeze c).length < c.length
 ·have e:section_ [k] c=[k]++[1]++num c.length++text (Sq.squeeze c)++low (crc ([k]++low 1 1++num c.length++text (Sq.squeeze c))) 4:=by unfold section_;rw [if_pos b];rfl
  have a:secW (section_ [k] c)=some (1,Sq.squeeze c):=by rw [e];exact secW_is k 1 _ _ _ (by omega) (by omega)
  rw [a]
  simp only [Option.bind_some,secU,if_true,Sq.spread_squeeze]
 ·have e:section_ [k] c=[k]++[0]++num c.length++text c++low (crc ([k]++low 0 1++num c.length++text c)) 4:=by unfold section_;rw [if_neg b];rfl
  have a:secW (section_ [k] c)=some (0,c):=by rw [e];exact secW_is k 0 _ _ _ (by omega) h
  rw [a]
  simp [secU]
def itemsR:Nat→List UInt8→List UInt8→Option (List (List UInt8×List UInt8)×List UInt8)
 | 0,_,t=> some ([],t)
 | n+1,last,t=> (byteR t).bind fun b=> if last.length < b.1.toNat then none else (textR b.2).bind fun x=> (textR x.2).bind fun v=> (itemsR n (last.take b.1.toNat++x.1) v.2).map fun r=> ((last.take b.1.toNat++x.1,v.1)::r.1,r.2)
theorem common_take:∀(a b:List UInt8),a.take (common a b)++b.drop (common a b)=b
 | [],b=> by simp [common]
 | _::_,[]=> by simp [common]
 | x::xs,y::ys=> by
  unfold common;split
  ·rename_i h;rw [List.take_succ_cons,List.drop_succ_cons,List.cons_append,common_take xs ys,h]
  ·simp
theorem itemsR_items:∀(l:List (List UInt8×List UInt8)) (a t:List UInt8),a.length≤12→(∀x∈l,x.1.length≤12∧x.2.length≤16)→itemsR l.length a (items a l++t)=some (l,t)
 | [],_,t,_,_=> rfl
 | (k,v)::r,a,t,hl,h=> by
  have e:=h (k,v) (by simp)
  simp only at e
  have f:=common_le a k
  rw [items,List.length_cons,itemsR]
  obtain ⟨c,d⟩:∃c,common a k=c:=⟨_,rfl⟩
  have b:=common_take a k
  rw [d] at f b ⊢
  have g:(UInt8.ofNat (c % 256)).toNat=c:=by rw [UInt8.toNat_ofNat'];omega
  rw [show low c 1++text (k.drop c)++text v++items k r++t=UInt8.ofNat (c % 256)::(text (k.drop c)++(text v++(items k r++t))) by simp [low]]
  simp only [byteR,Option.bind_some,g]
  rw [if_neg (by omega),textR_text _ _ (by rw [List.length_drop];omega)]
  simp only [Option.bind_some]
  rw [textR_text _ _ (by omega)]
  simp only [Option.bind_some,b]
  rw [itemsR_items r k t e.1 (fun x i=> h x (by simp [i]))]
  rfl
def basR (c:List UInt8):Option (List (List UInt8×List UInt8)):=(byteR c).bind fun b=> (itemsR b.1.toNat [] b.2).bind fun r=> if basement r.1=c then some r.1 else none
theorem basR_basement (l:List (List UInt8×List UInt8)) (b:l.length≤255) (h:∀x∈l,x.1.length≤12∧x.2.length≤16):basR (basement l)=some l:=by
 have e:basement l=UInt8.ofNat (l.length % 256)::(items [] l++[]):=by unfold basement;simp [low]
 unfold basR
 have a:(UInt8.ofNat (l.length % 256)).toNat=l.length:=by rw [UInt8.toNat_ofNat'];omega
 rw [show byteR (basement l)=some (UInt8.ofNat (l.length % 256),items [] l++[]) by rw [e];rfl]
 simp only [Option.bind_some,a]
 rw [itemsR_items l [] [] (by simp) h]
 simp
end Go.Proofs.YtolgpnaoaodepaaGreat.Pr
namespace Go.Proofs.YtolgpnaoaodepaaGreat.Pr
open Pg
def cutsR:List Nat→List UInt8→Option (List (List UInt8)×List UInt8)
 | [],t=> some ([],t)
 | s::ss,t=> (takeR s t).bind fun x=> (cutsR ss x.2).map fun r=> (x.1::r.1,r.2)
def cutR (page:List UInt8) (ss:List Nat):Option (List (List UInt8)):=(takeR 68 page).bind fun a=> (cutsR ss a.2).bind fun r=> if r.2=[] then some r.1 else none
theorem cutsR_flat:∀(l:List (List UInt8)) (t:List UInt8),cutsR (l.map List.length) (l.flatten++t)=some (l,t)
 | [],t=> rfl
 | x::r,t=> by
  rw [List.map_cons,cutsR,List.flatten_cons,List.append_assoc,takeR_append]
  simp only [Option.bind_some]
  rw [cutsR_flat r t];rfl
theorem cutsR_is:∀(a:List Nat) (t:List UInt8) (l:List (List UInt8)) (u:List UInt8),cutsR a t=some (l,u)→t=l.flatten++u∧l.map List.length=a
 | [],t,l,u,h=> by simp [cutsR] at h;rw [h.1,h.2];simp
 | s::a,t,l,u,h=> by
  rw [cutsR] at h
  cases b:takeR s t with
  | none=> rw [b] at h;simp at h
  | some x=>
   rw [b] at h
   simp only [Option.bind_some] at h
   cases c:cutsR a x.2 with
   | none=> rw [c] at h;simp at h
   | some r=>
    rw [c] at h
    simp only [Option.map_some,Option.some.injEq,Prod.mk.injEq] at h
    obtain ⟨d,e⟩:=takeR_len b
    obtain ⟨f,g⟩:=cutsR_is a x.2 r.1 r.2 c
    rw [←h.1,←h.2,List.flatten_cons,List.map_cons,d,g,e,f,List.append_assoc]
    exact ⟨rfl,rfl⟩
theorem cutR_is {a:List UInt8} {b:List Nat} {l:List (List UInt8)} (h:cutR a b=some l):68≤a.length∧a.drop 68=l.flatten∧l.map List.length=b:=by
 unfold cutR at h
 cases c:takeR 68 a with
 | none=> rw [c] at h;simp at h
 | some x=>
  rw [c] at h
  simp only [Option.bind_some] at h
  cases d:cutsR b x.2 with
  | none=> rw [d] at h;simp at h
  | some r=>
   rw [d] at h
   simp only [Option.bind_some] at h
   split at h
   ·rename_i j
    simp only [Option.some.injEq] at h
    obtain ⟨g,e⟩:=takeR_len c
    obtain ⟨f,i⟩:=cutsR_is b x.2 r.1 r.2 d
    rw [j,List.append_nil] at f
    rw [←h]
    refine ⟨by rw [e,List.length_append];omega,?_,i⟩
    rw [e,←g,List.drop_left,f]
   ·simp at h
theorem cutR_flat (p:List UInt8) (l:List (List UInt8)) (h:p.length=68):cutR (p++l.flatten) (l.map List.length)=some l:=by
 unfold cutR
 rw [←h,takeR_append]
 simp only [Option.bind_some]
 have:=cutsR_flat l []
 rw [List.append_nil] at this
 rw [this];simp
end Go.Proofs.YtolgpnaoaodepaaGreat.Pr
namespace Go.Proofs.YtolgpnaoaodepaaGreat.Pr
open Pg
def entsR:Nat→List UInt8→Option (List Nat×List (List UInt8))
 | 0,_=> some ([],[])
 | n+1,t=> (shortR t).bind fun s=> (byteR s.2).bind fun b=> (takeR 12 b.2).bind fun p=> if 12 < b.1.toNat then none else (entsR n p.2).map fun r=> (s.1::r.1,p.1.take b.1.toNat::r.2)
end Go.Proofs.YtolgpnaoaodepaaGreat.Pr
namespace Go.Proofs.YtolgpnaoaodepaaGreat.Pg
def ent1 (s:Nat) (k:List UInt8):List UInt8:=low s 2++low k.length 1++k++List.replicate (12 - k.length) 0
def heads:List Nat→List (List UInt8)→List UInt8
 | s::ss,k::ks=> ent1 s k++heads ss ks
 | _,_=> []
def headW (ss:List Nat) (ks:List (List UInt8)):List UInt8:=sealed ([83,50,76]++low ss.length 1++heads ss ks++List.replicate (60 - (heads ss ks).length) 0)
theorem ent1_len (s:Nat) (k:List UInt8) (h:k.length≤12):(ent1 s k).length=15:=by
 unfold ent1;simp only [List.length_append,low_len,List.length_replicate];omega
theorem heads_len:∀(a:List Nat) (b:List (List UInt8)),a.length=b.length→(∀k∈b,k.length≤12)→(heads a b).length=15*a.length
 | [],[],_,_=> rfl
 | s::a,k::b,h,hk=> by
  rw [heads,List.length_append,ent1_len s k (hk k (by simp)),heads_len a b (by simpa using h) (fun x c=> hk x (by simp [c])),List.length_cons];omega
 | [],k::b,h,_=> by simp at h
 | s::a,[],h,_=> by simp at h
end Go.Proofs.YtolgpnaoaodepaaGreat.Pg
namespace Go.Proofs.YtolgpnaoaodepaaGreat.Pr
open Pg
def headR (page:List UInt8):Option (List Nat×List (List UInt8)):=(takeR 68 page).bind fun f=> (takeR 3 f.1).bind fun a=> (byteR a.2).bind fun c=> if 4 < c.1.toNat then none else (entsR c.1.toNat c.2).bind fun r=> if okPivots r.2 none=true then (if headW r.1 r.2=f.1 then some r else none) else none
theorem entsR_heads:∀(a:List Nat) (b:List (List UInt8)) (t:List UInt8),a.length=b.length→(∀s∈a,s < 65536)→(∀k∈b,k.length≤12)→entsR a.length (heads a b++t)=some (a,b)
 | [],[],_,_,_,_=> rfl
 | s::a,k::b,t,h,hs,hk=> by
  have c:=hs s (by simp)
  have g:=hk k (by simp)
  rw [heads,List.length_cons,entsR]
  have e:ent1 s k++heads a b++t=low s 2++(UInt8.ofNat (k.length % 256)::((k++List.replicate (12 - k.length) 0)++(heads a b++t))):=by
   unfold ent1;simp [low]
  have i:shortR (ent1 s k++heads a b++t)=some (s,UInt8.ofNat (k.length % 256)::((k++List.replicate (12 - k.length) 0)++(heads a b++t))):=by
   unfold shortR
   rw [e]
   have:=takeR_append (low s 2) (UInt8.ofNat (k.length % 256)::((k++List.replicate (12 - k.length) 0)++(heads a b++t)))
   rw [low_len] at this
   rw [this]
   simp only [Option.map_some]
   rw [high_low 2 s (by simpa using c)]
  have j:(UInt8.ofNat (k.length % 256)).toNat=k.length:=by rw [UInt8.toNat_ofNat'];omega
  rw [i]
  simp only [Option.bind_some,byteR]
  have f:=takeR_append (k++List.replicate (12 - k.length) 0) (heads a b++t)
  rw [show (k++List.replicate (12 - k.length) (0:UInt8)).length=12 by simp;omega] at f
  rw [f]
  simp only [Option.bind_some,j]
  rw [if_neg (by omega),entsR_heads a b t (by simpa using h) (fun x d=> hs x (by simp [d])) (fun x d=> hk x (by simp [d])),List.take_left]
  rfl
 | [],k::b,_,h,_,_=> by simp at h
 | s::a,[],_,h,_,_=> by simp at h
theorem headW_len (a:List Nat) (b:List (List UInt8)) (h:a.length=b.length) (d:a.length≤4) (c:∀k∈b,k.length≤12):(headW a b).length=68:=by
 unfold headW
 rw [seal_len]
 simp only [List.length_append,low_len,List.length_replicate,heads_len a b h c]
 simp;omega
theorem headR_headW (a:List Nat) (b:List (List UInt8)) (t:List UInt8) (h:a.length=b.length) (k:a.length≤4) (l:∀s∈a,s < 65536) (f:okPivots b none=true):headR (headW a b++t)=some (a,b):=by
 have c:=okPivots_sz b none f
 have g:=headW_len a b h k c
 unfold headR
 have d:=takeR_append (headW a b) t
 rw [g] at d
 rw [d]
 simp only [Option.bind_some]
 have e:headW a b=[83,50,76]++(UInt8.ofNat (a.length % 256)::(heads a b++(List.replicate (60 - (heads a b).length) 0++low (crc ([83,50,76]++low a.length 1++heads a b++List.replicate (60 - (heads a b).length) 0)) 4))):=by
  unfold headW sealed;simp [low]
 have i:takeR 3 (headW a b)=some ([83,50,76],UInt8.ofNat (a.length % 256)::(heads a b++(List.replicate (60 - (heads a b).length) 0++low (crc ([83,50,76]++low a.length 1++heads a b++List.replicate (60 - (heads a b).length) 0)) 4))):=by
  have:=takeR_append [83,50,76] (UInt8.ofNat (a.length % 256)::(heads a b++(List.replicate (60 - (heads a b).length) 0++low (crc ([83,50,76]++low a.length 1++heads a b++List.replicate (60 - (heads a b).length) 0)) 4)))
  rw [←e] at this
  exact this
 have j:(UInt8.ofNat (a.length % 256)).toNat=a.length:=by rw [UInt8.toNat_ofNat'];omega
 rw [i]
 simp only [Option.bind_some,byteR,j]
 rw [if_neg (by omega),entsR_heads a b _ h l c]
 simp [f]
end Go.Proofs.YtolgpnaoaodepaaGreat.Pr
namespace Go.Proofs.YtolgpnaoaodepaaGreat
open Go.RowKit
def ncells (l:List Nat):List Value:=l.map fun (c:Nat)=> .int .i64 (c:Int)
theorem rows_apart {B:Nat} {w w':World} {u v c:Value} {f p:TypeId} {g q i r:Nat} {l s:List Value} (m:w.ownsRow B f g u i l) (t:w.ownsRow B p q v r s) (x:B≤w.heap.size) (a:Apart u v) (n:w.grownBy w' v.ownBlock) (d:c.ownBlock=v.ownBlock∨∃k,w.heap.size≤k∧c.ownBlock=some k):w'.ownsRow B f g u i l∧Apart u c∧Below B w w':=by
 refine ⟨World.ownsRow.kept m n ?_,?_,(Below.refl B w).grown n x fun k b=> (World.ownsRow.lt t k b).1⟩
 ·cases h:u.ownBlock with
  | none=> exact .inl rfl
  | some k=> exact .inr (fun e=> a k h e.symm)
 ·intro k b e
  have o:=(World.ownsRow.lt m k b).2
  rcases d with h | ⟨j,y,h⟩
  ·rw [h] at e;exact a k b e
  ·rw [h] at e;have:j=k:=by simpa using e
   omega
theorem row_below {B C:Nat} {w w':World} {v:Value} {T:TypeId} {s n:Nat} {xs:List Value} (h:w.ownsRow B T s v n xs) (f:Below C w w') (i:w.heap.size≤C):w'.ownsRow B T s v n xs:=by
 refine ⟨h.1,?_⟩
 rcases h.2 with e | ⟨g,a,b,rfl,c,d,r⟩
 ·exact .inl e
 ·exact .inr ⟨g,a,b,rfl,c,by rw [f.block g (Nat.lt_of_lt_of_le (Array.getElem?_eq_some_iff.1 d).1 i)];exact d,r⟩
structure LHd (B b:Nat) (w wr:World) (ss:List Nat) (fs:List ByteArray) (vs vf:Value):Prop where
 var:wr.heap[b]?=some (.cells #[vs,vf] 233 (0,0))
 szs:wr.ownsRow (b+1) 3 1 vs ss.length (ncells ss)
 fst:OwnsS (b+1) wr vf fs
 apart:Apart vs vf
 bel:Below B w wr
 le:B≤b
 lt:b+1≤wr.heap.size
theorem LHd.cells {B b:Nat} {w wr:World} {d:List Nat} {e:List ByteArray} {vs a:Value} (h:LHd B b w wr d e vs a):wr.cell? ⟨b,0,none⟩=some vs∧wr.cell? ⟨b,1,none⟩=some a∧wr.frozen? ⟨b,0,none⟩=false∧wr.frozen? ⟨b,1,none⟩=false:=by
 have c:=h.var
 refine ⟨?_,?_,?_,?_⟩ <;> simp [World.cell?,World.frozen?,c]
theorem LHd.mid {B b:Nat} {w wr a:World} {e:List Nat} {f:List ByteArray} {vs c:Value} (h:LHd B b w wr e f vs c) (g:Below (b+1) wr a):a.cell? ⟨b,0,none⟩=some vs∧a.cell? ⟨b,1,none⟩=some c∧a.frozen? ⟨b,0,none⟩=false∧a.frozen? ⟨b,1,none⟩=false:=by
 have d:=(g.block b (by omega)).trans h.var
 refine ⟨?_,?_,?_,?_⟩ <;> simp [World.cell?,World.frozen?,d]
theorem LHd.below {B b:Nat} {w wr c:World} {d:List Nat} {e:List ByteArray} {vs f:Value} (h:LHd B b w wr d e vs f) (a:Below wr.heap.size wr c):LHd B b w c d e vs f:=by
 have i:=h.lt;have g:=h.le;have j:=a.size
 exact ⟨(a.block _ (by omega)).trans h.var,row_below h.szs a (Nat.le_refl _),row_below h.fst a (Nat.le_refl _),h.apart,h.bel.trans (a.mono (by omega)),g,by omega⟩
theorem lhd_start (B:Nat) (w wr:World) (b:Below B w wr) (a:B≤wr.heap.size):LHd B wr.heap.size w (wr.alloc (.cells #[.slice none 0 0,.slice none 0 0] 233)) [] [] (.slice none 0 0) (.slice none 0 0):=
 ⟨heap_alloc_new _ _,World.ownsRow_nil _ _ _ _,World.ownsRow_nil _ _ _ _,apart_nil _,b.alloc a _,a,by simp⟩
theorem LHd.apN {B b:Nat} {w wr w':World} {c:List Nat} {l:List ByteArray} {vs m d:Value} {n:Nat} (h:LHd B b w wr c l vs m) (s:w'.ownsRow (b+1) 3 1 d (c.length+1) (ncells c++[.int .i64 (n:Int)])) (t:wr.grownBy w' vs.ownBlock) (j:d.ownBlock=vs.ownBlock∨∃k,wr.heap.size≤k∧d.ownBlock=some k):
  Below (b+1) wr w'∧LHd B b w (w'.setCell ⟨b,0,none⟩ d) (c++[n]) l d m:=by
 obtain ⟨r,g,a⟩:=rows_apart h.fst h.szs h.lt h.apart.symm t j
 have f:=h.le;have o:=h.lt;have q:=a.size
 refine ⟨a,?_,?_,ownsRow_setCell_below r (by simp) _,g.symm,(h.bel.trans (a.mono (by omega))).setCell (p:=⟨b,0,none⟩) f _,f,?_⟩
 ·rw [heap_setCell_at (i:=0) ((a.block b (by omega)).trans h.var) d];rfl
 ·have e:ncells (c++[n])=ncells c++[.int .i64 (n:Int)]:=by simp [ncells]
  rw [e,List.length_append]
  exact ownsRow_setCell_below s (by simp) _
 ·simp [World.setCell];omega
theorem LHd.apF {B b:Nat} {w wr w':World} {l:List Nat} {f:List ByteArray} {vs g c:Value} {s:ByteArray} (h:LHd B b w wr l f vs g) (q:OwnsS (b+1) w' c (f++[s])) (r:wr.grownBy w' g.ownBlock) (j:c.ownBlock=g.ownBlock∨∃k,wr.heap.size≤k∧c.ownBlock=some k):
  Below (b+1) wr w'∧LHd B b w (w'.setCell ⟨b,1,none⟩ c) l (f++[s]) vs c:=by
 obtain ⟨o,e,a⟩:=rows_apart h.szs h.fst h.lt h.apart r j
 have d:=h.le;have m:=h.lt;have n:=a.size
 refine ⟨a,?_,ownsRow_setCell_below o (by simp) _,q.setBelow (by omega) _,e,(h.bel.trans (a.mono (by omega))).setCell (p:=⟨b,1,none⟩) d _,d,?_⟩
 ·rw [heap_setCell_at (i:=1) ((a.block b (by omega)).trans h.var) c];rfl
 ·simp [World.setCell];omega
theorem wpApL (w:World) {d:Array Oper} {rest:List Oper} {o:Oper} {a:Act} {Q:Exit→Act→World→Prop} (s:o.guard=none) (t x:Operand)
  (J:o.op=Op.call {callee:=Callee.builtin Builtin.append,args:= #[t,x],argTypes:= #[108,108]}) (p q r:UInt8) (P A R n:Int) (K:P=(p.toNat:Int)) (L:A=(q.toNat:Int)) (M:R=(r.toNat:Int)) (b:UInt8) (N:n=(b.toNat:Int)) (C D:Nat) (v:C=w.heap.size) (y:D=w.heap.size+1) (O:a.eval t= .slice (some ⟨C,0,none⟩) 3 3) (S:a.eval x= .slice (some ⟨D,0,none⟩) 1 1) (B:Nat) (T:B≤w.heap.size)
  (h:∀(m:Value) (w':World),Owns B w' m [p,q,r,b]→Below w.heap.size w w'→(∃k,w.heap.size < k∧m.ownBlock=some k)→w.heap.size < w'.heap.size→wpList Tryz.prog d Q rest (a.put o.dst m) w'):wpList Tryz.prog d Q (o::rest) a ((w.alloc (.cells #[.int .u8 P,.int .u8 A,.int .u8 R] 5 (3,4))).alloc (.cells #[.int .u8 n] 5)):=by
 subst v y K L M N
 obtain ⟨i,hi,g,c,l⟩:=info_parts info_u8
 have E:∀j u,(Lib.byteCells [p,q,r])[j]?=some u→((w.alloc (.cells #[.int .u8 (p.toNat:Int),.int .u8 (q.toNat:Int),.int .u8 (r.toNat:Int)] 5 (3,4))).alloc (.cells #[.int .u8 (b.toNat:Int)] 5)).cell? ((⟨w.heap.size,0,none⟩:Addr).add j)=some u:=by
  intro j u I
  rw [add_at,World.cell?_alloc_past _ _ _ (by simp)]
  unfold World.cell?
  rw [heap_alloc_new]
  simpa [Lib.byteCells] using I
 have F:∀j u,(Lib.byteCells [b])[j]?=some u→((w.alloc (.cells #[.int .u8 (p.toNat:Int),.int .u8 (q.toNat:Int),.int .u8 (r.toNat:Int)] 5 (3,4))).alloc (.cells #[.int .u8 (b.toNat:Int)] 5)).cell? ((⟨w.heap.size+1,0,none⟩:Addr).add j)=some u:=by
  have:=laid_cells (w.alloc (.cells #[.int .u8 (p.toNat:Int),.int .u8 (q.toNat:Int),.int .u8 (r.toNat:Int)] 5 (3,4))) 5 [b] #[.int .u8 (b.toNat:Int)] (by simp [Lib.byteCells])
  rw [show (w.alloc (.cells #[.int .u8 (p.toNat:Int),.int .u8 (q.toNat:Int),.int .u8 (r.toNat:Int)] 5 (3,4))).heap.size=w.heap.size+1 by simp] at this
  exact this
 generalize z:(w.alloc (.cells #[.int .u8 (p.toNat:Int),.int .u8 (q.toNat:Int),.int .u8 (r.toNat:Int)] 5 (3,4))).alloc (.cells #[.int .u8 (b.toNat:Int)] 5)=W at*
 have G:W.heap.size=w.heap.size+2:=by rw [←z];simp
 have e:Below w.heap.size w W:=by rw [←z];exact ((Below.refl _ w).alloc (Nat.le_refl _) _).alloc (by simp) _
 have H:=run_append_grow (P:=Tryz.prog) W 108 o.type 5 i (.int .u8 0) Tryz.underlying108 hi g ⟨w.heap.size,0,none⟩ 3 3 (Lib.byteCells [p,q,r]) (by rw [c];rfl) E ⟨w.heap.size+1,0,none⟩ 1 1 (Lib.byteCells [b]) (by rw [c];rfl) F (by omega) (by omega) (growslice_fits (by omega) (by rw [l];omega))
 refine Lib.wpList_append_run W s t x 108 108 J _ _ O S _ _ H (h _ _ ?_ ?_ ⟨W.heap.size,by omega,rfl⟩ (by simp;omega))
 ·unfold Owns
  have f:=grownCap_ge W (3+1) 3 5
  refine ⟨rfl,.inr ⟨W.heap.size,_,_,rfl,by omega,heap_alloc_new W.drew _,f,grownCap_le_maxLen W (3+1) 3 _ (by unfold maxLen;omega),?_,?_⟩⟩
  ·simp only [Array.size_append,List.size_toArray,size_zeroCells,Lib.byteCells_length]
   show 3+1+_*1=_
   omega
  ·simp only [Array.toList_append]
   rw [show Lib.byteCells [p,q,r,b]=Lib.byteCells [p,q,r]++Lib.byteCells [b] from rfl]
   exact List.take_left' rfl
 ·exact e.trans ((((Below.refl W.heap.size W).drew).alloc (by simp) _).mono (by omega))
def IsLH (w:World) (v:Value) (ss:List Nat) (fs:List ByteArray):Prop:=∃vs vf,v= .agg #[vs,vf]∧IsRow w vs ss.length (ncells ss)∧IsRow w vf fs.length (strs fs)
theorem LHd.isLH {B b:Nat} {w wr:World} {a:List Nat} {c:List ByteArray} {vs d:Value} (h:LHd B b w wr a c vs d) (e:a.length≤1000) (f:c.length≤1000):IsLH wr (.agg #[vs,d]) a c:=
 ⟨vs,d,rfl,ownsRow.isRow h.szs (by omega),ownsRow.isRow h.fst (by omega)⟩
set_option maxHeartbeats 2000000 in
set_option maxRecDepth 20000 in
theorem headWrite_any (v:Value) (a:List Nat) (b:List ByteArray) (w:World) (hv:IsLH w v a b) (hn:a.length=b.length) (h4:b.length≤4) (hf:∀f∈b,f.size≤12):
  Calls Tryz.prog 180 #[v] w fun r w'=> r= .returned (.string ⟨(Pg.headW a (lists b)).toArray⟩)∧Below w.heap.size w w':=by
 obtain ⟨vs,vf,rfl,⟨B,C,rfl,-,hs⟩,⟨D,E,rfl,-,R⟩⟩:=hv
 have HS:=hid hs
 have HF:=hid R
 have a4:=hid hf
 have HN:=hid hn
 have c6:a.length≤4:=by omega
 have c7:b.length≤a.length:=by omega
 have c8:a.length≤b.length:=by omega
 clear hs R hf hn
 obtain ⟨bt,S,T⟩:=low1 a.length
 have a5:=hid S
 have a6:=hid T
 clear S T
 go_enter Tryz.func180,Tryz.ntmps180
 have F:=Joins.run_convert_bytes_const_at (P:=Tryz.prog) (w.alloc (.cells #[.slice B a.length C,.slice D b.length E] 233)) 108 5 #[.int .u8 83,.int .u8 50,.int .u8 76] 3 3 (w.heap.size+1) (by simp) Tryz.underlying108 Tryz.underlying5
 have a7:∀j,((w.alloc (.cells #[.slice B a.length C,.slice D b.length E] 233)).alloc (.cells #[.int .u8 83,.int .u8 50,.int .u8 76] 5 (3,4))).cell? ⟨w.heap.size,j,none⟩=(#[Value.slice B a.length C,.slice D b.length E]:Array Value)[j]?:=by
  intro j
  rw [World.cell?_alloc_past _ _ _ (by simp)]
  unfold World.cell?
  rw [heap_alloc_new]
  simp
 go_wp2_with (first
  | (at_builtin;refine wpApL (w.alloc (.cells #[.slice B a.length C,.slice D b.length E] 233)) rfl (.tmp 7) (.tmp 12) rfl 83 50 76 _ _ _ _ rfl rfl rfl bt ?_ (w.heap.size+1) (w.heap.size+2) (by simp) (by simp) rfl rfl w.heap.size (by simp) ?_))
 ·rw [a5.out];omega
 intro v1 w1 Z q k1 c3 e1 c4
 have c0:=(q.cell (p:=⟨w.heap.size,0,none⟩) (by simp)).trans (show _=some (.slice B a.length C) by simp)
 have c1:=(q.cell (p:=⟨w.heap.size,1,none⟩) (by simp)).trans (show _=some (.slice D b.length E) by simp)
 have e:v1.ownBlock≠some w.heap.size:=by
  rw [e1];simp;omega
 have G:=hid Z
 have H:=hid (((Below.refl w.heap.size w).alloc (Nat.le_refl _) (.cells #[.slice B a.length C,.slice D b.length E] 233)).trans (q.mono (by simp)))
 have t:w.heap.size < w1.heap.size:=by omega
 clear Z q e1 c3 c4 F a7
 have g:=hid e
 clear e
 have I:=hid c0
 go_wp2_with fail
 clear c0 c1
 go_loopw [3,17] (fun u i wr=>∃(k:Nat) (o:List UInt8),k≤b.length∧i= .int .i64 k∧Owns w.heap.size wr u o∧Below w.heap.size w wr∧wr.cell? ⟨w.heap.size,0,none⟩=some (.slice B a.length C)∧u.ownBlock≠some w.heap.size∧w.heap.size < wr.heap.size∧o++Pg.heads (a.drop k) (lists (b.drop k))=[83,50,76]++[bt]++Pg.heads a (lists b)∧o.length≤4+15*k∧4≤o.length) (fun _ i _=> b.length - (intOf i).toNat)
 case atStart=> exact ⟨0,_,Nat.zero_le _,rfl,G.out,H.out,I.out,g.out,t,by simp,by simp,by simp⟩
 case round=>
  clear G H I g t
  obtain ⟨k,o,hk,rfl,ho,hb,U,e,d8,V,d9,e2⟩:=hrel
  have HO:=hid ho
  have HB:=hid hb
  have g:=hid e
  have J:=hid V
  clear ho hb e V
  by_cases n:k < b.length
  ·obtain ⟨bs,e3,b7,b8,W⟩:=HS.out.resolve_left (by omega)
   obtain ⟨bf,e4,b9,c2,X⟩:=HF.out.resolve_left (by omega)
   subst b7 b9
   have d0:=rowAtN (pl:=a) W HB.out b8 k (by omega)
   have d1:=rowAt (pl:=b) X HB.out c2 k n
   have c9:=a4.out _ (List.getElem_mem n)
   have a8:Hid (Pg.heads (a.drop k) (lists (b.drop k))=Pg.ent1 (a[k]'(by omega)) (b[k]'n).data.toList++Pg.heads (a.drop (k+1)) (lists (b.drop (k+1)))):=by
    show _=_;rw [List.drop_eq_getElem_cons n,List.drop_eq_getElem_cons (show k < a.length by omega)];rfl
   clear W X
   generalize b[k]'n=f at*
   generalize a[k]'(by omega)=s at*
   obtain ⟨bk,Y,x⟩:=low1 f.size
   have a9:=hid Y
   have b0:Hid (Pg.ent1 s f.data.toList=Pg.low s 2++[bk]++f.data.toList++List.replicate (12 - f.size) 0):=by
    show _=_;unfold Pg.ent1;rw [len_size,x]
   clear Y x
   go_wp2_with fail
   refine (apShort_any w.heap.size u3 o s _ HO.out (by omega) (by omega)).mono ?_
   rintro r w2 ⟨v2,rfl,d,c⟩
   have K:=hid d
   have A:=hid (HB.out.trans (c.below HO.out (by omega)))
   have d2:=c.size
   have e0:=c.cell U g.out
   have L:=hid (c.ne (by omega) g.out)
   have d3:=Pg.low_len 2 s
   clear d c U
   go_wp2_with (first
    | (at_builtin;refine wpAp1 w2 rfl (.tmp 28) (.tmp 32) rfl w.heap.size v2 _ rfl K.out bk _ ?_ rfl ?_ ?_ ?_))
   ·rw [a9.out];omega
   ·simp;omega
   ·omega
   intro v3 w3 a0 a1 y
   have h:=grew_alloc a1 y
   have M:=hid a0
   have b1:=hid (A.out.trans (h.below K.out (by omega)))
   have d4:=h.size
   have f0:=h.cell e0 L.out
   have N:=hid (h.ne (by omega) L.out)
   clear a0 a1 y h e0
   go_wp2_with (first
    | (at_builtin;refine wpApSg w3 rfl (.tmp 34) (.tmp 35) rfl w.heap.size v3 _ rfl M.out f rfl ?_ ?_ ?_))
   ·simp;omega
   ·omega
   intro v4 w4 a2 l
   have O:=hid a2
   have b2:=hid (b1.out.trans (l.below M.out (by omega)))
   have c5:=l.size
   have g0:=l.cell f0 N.out
   have Q:=hid (l.ne (by omega) N.out)
   clear a2 l f0
   obtain ⟨z,hz⟩:∃z,z=12 - f.size:=⟨_,rfl⟩
   have d5:(12:Int) - (f.size:Int)=(z:Int):=by omega
   have d6:z+f.size≤12:=by omega
   have HZ:=hid hz
   clear hz
   go_wp2_with (first
    | (at_builtin;refine wpApZ w4 rfl (.tmp 37) (.tmp 40) rfl w.heap.size v4 _ rfl O.out ?_ z rfl ?_ ?_ ?_ ?_))
   ·simp;omega
   ·omega
   ·simp;omega
   ·omega
   intro v5 w5 a3 m
   have b3:=hid a3
   have b4:=hid (b2.out.trans (m.below O.out (by omega)))
   have d7:=m.size
   have k0:=m.cell g0 Q.out
   have b5:=hid (m.ne (by omega) Q.out)
   clear a3 m g0
   go_wp2_with fail
   go_roundw
   case rel=>
    refine ⟨k+1,_,by omega,by go_num,b3.out,b4.out,k0,b5.out,by omega,?_,?_,?_⟩
    ·rw [←J.out,a8.out,b0.out,←HZ.out];simp
    ·simp;omega
    ·simp;omega
   case measure=> simp [intOf];omega
  ·have b6:Hid (o=[83,50,76]++[bt]++Pg.heads a (lists b)):=by
    show _=_;rw [←J.out,List.drop_eq_nil_of_le (show a.length≤k by omega)];simp [Pg.heads]
   go_wp2_with fail
   refine (sealHead_any w.heap.size u3 o _ HO.out (by omega) (by omega) (by omega)).mono ?_
   rintro r w2 ⟨v2,rfl,d,c⟩
   have A:=hid (HB.out.trans (c.below HO.out (by omega)))
   have HR:Hid (Pg.sealed (o++List.replicate (64 - o.length) 0)=Pg.headW a (lists b)):=by
    show _=_;unfold Pg.headW;rw [b6.out,a6.out]
    congr 2
    simp
   rw [HR.out] at d
   have F:=d.str
   clear d c
   go_wp2_with fail
   go_ret
   exact ⟨rfl,A.out⟩
end Go.Proofs.YtolgpnaoaodepaaGreat
namespace Go.Proofs.YtolgpnaoaodepaaGreat
open Go.RowKit
structure Parted (il A B:List (ByteArray×ByteArray)) (key:ByteArray):Prop where
 e:il=A++B
 a:∀x∈A,x.1.data.toList < key.data.toList
 b:∀x∈B,¬x.1.data.toList < key.data.toList
def headIs (B:List (ByteArray×ByteArray)) (key:ByteArray):Bool:=match B with
 | []=> false
 | x::_=> decide (x.1.data.toList=key.data.toList)
theorem parted_of {il:List (ByteArray×ByteArray)} {key:ByteArray} {i:Nat} (c:∀x (h:x < il.length),x < i→(il[x]'h).1.data.toList < key.data.toList) (d:∀x (h:x < il.length),i≤x→¬(il[x]'h).1.data.toList < key.data.toList):Parted il (il.take i) (il.drop i) key:=by
 refine ⟨(List.take_append_drop i il).symm,fun x b=> ?_,fun x b=> ?_⟩
 ·obtain ⟨j,a,rfl⟩:=List.getElem_of_mem b
  rw [List.getElem_take]
  simp at a
  exact c j (by omega) (by omega)
 ·obtain ⟨j,a,rfl⟩:=List.getElem_of_mem b
  rw [List.getElem_drop]
  simp at a
  exact d (i+j) (by omega) (by omega)
theorem rising_lt {il:List (ByteArray×ByteArray)} (h:Tr.Rising (plain il)) {x y:Nat} (b:y < il.length) (a:x < y):(il[x]'(by omega)).1.data.toList < (il[y]'b).1.data.toList:=by
 have:=(List.pairwise_iff_getElem.1 h) x y (by simp [plain];omega) (by simpa [plain] using b) a
 simpa [plain] using this
set_option maxHeartbeats 2000000 in
set_option maxRecDepth 20000 in
theorem search_any (B:Nat) (v:Value) (il:List (ByteArray×ByteArray)) (key:ByteArray) (w:World) (N:OwnsI B w v il) (hl:il.length≤1000000000) (R:Tr.Rising (plain il)):
  Calls Tryz.prog 192 #[v,.string key,.func (.func 193) #[] #[]] w fun r w'=> (∃A C,Parted il A C key∧r= .returned (.tuple #[.int .i64 (A.length:Nat),.bool (headIs C key)]))∧Below w.heap.size w w':=by
 obtain ⟨Z,pc,rfl⟩:=rowShape N
 have S:=hid N
 have O:=hid R
 clear N R
 go_enter Tryz.func192,Tryz.ntmps192
 go_wp2_with fail
 go_loopw [9,10] (fun iv jv wr=>∃i j:Nat,i≤j∧j≤il.length∧iv= .int .i64 i∧jv= .int .i64 j∧Hid (∀x (h:x < il.length),x < i→(il[x]'h).1.data.toList < key.data.toList)∧Hid (∀x (h:x < il.length),j≤x→¬(il[x]'h).1.data.toList < key.data.toList)∧Below w.heap.size w wr) (fun i j _=> (intOf j).toNat - (intOf i).toNat)
 case atStart=> exact ⟨0,il.length,Nat.zero_le _,Nat.le_refl _,rfl,rfl,fun x _ h=> by omega,fun x h u=> by omega,Below.refl _ _⟩
 case round=>
  obtain ⟨i,j,a0,hj,rfl,rfl,H,u,y⟩:=hrel
  have o:=hid y
  have p:=y.size
  have k:Hid (OwnsI B wr (.slice Z il.length pc) il):=row_below S.out y (Nat.le_refl _)
  clear y
  by_cases a1:i < j
  ·have T:(i+j) / 2 < j:=by omega
   have E:i≤(i+j) / 2:=by omega
   have b:(i+j) / 2 < il.length:=by omega
   obtain ⟨g,I,e,hc,J,hg,z,D⟩:=k.out.at ((i+j) / 2) b
   simp only [Value.slice.injEq] at e
   obtain ⟨rfl,-,rfl⟩:=e
   have U:=hid (show (il[(i+j) / 2]'b).1=(il[(i+j) / 2]'b).1 from rfl)
   generalize c:(il[(i+j) / 2]'b).1=d at z
   generalize (il[(i+j) / 2]'b).2=M at D
   go_wp2_with fail
   refine (findCmp_any d M key _).mono ?_
   rintro r w1 ⟨rfl,f⟩
   have l:=hid (o.out.trans (f.mono p))
   clear f z D U k o
   by_cases m:d.data.toList < key.data.toList
   ·have s:Lib.compareBytes d.data.toList key.data.toList < 0:=(cmp_neg _ _).2 m
    have V:Hid (∀x (h:x < il.length),x < (i+j) / 2+1→(il[x]'h).1.data.toList < key.data.toList):=fun x Q K=> by
     rcases Nat.lt_or_ge x ((i+j) / 2) with q | q
     ·have:=rising_lt O.out b q
      rw [c] at this
      exact Tr.lt_tr this m
     ·have:x=(i+j) / 2:=by omega
      subst this
      rw [c];exact m
    clear m c
    generalize Lib.compareBytes d.data.toList key.data.toList=cv at*
    go_wp2_with fail
    go_roundw
    case rel=> exact ⟨(i+j) / 2+1,j,by omega,hj,by go_num,rfl,V.out,u,l.out⟩
    case measure=> simp [intOf];omega
   ·have s:¬Lib.compareBytes d.data.toList key.data.toList < 0:=fun q=> m ((cmp_neg _ _).1 q)
    have P:decide (Lib.compareBytes d.data.toList key.data.toList < 0)=false:=decide_eq_false s
    have W:Hid (∀x (h:x < il.length),(i+j) / 2≤x→¬(il[x]'h).1.data.toList < key.data.toList):=fun x Q K=> by
     rcases Nat.lt_or_ge ((i+j) / 2) x with q | q
     ·have:=rising_lt O.out Q q
      rw [c] at this
      exact fun L=> m (Tr.lt_tr this L)
     ·have:x=(i+j) / 2:=by omega
      subst this
      rw [c];exact m
    clear m c
    generalize Lib.compareBytes d.data.toList key.data.toList=cv at*
    go_wp2_with fail
    go_roundw
    case rel=> exact ⟨i,(i+j) / 2,E,by omega,rfl,by go_num,H,W.out,l.out⟩
    case measure=> simp [intOf];omega
  ·have F:j=i:=by omega
   subst F
   have t:=hid (parted_of H.out u.out)
   clear H u
   by_cases a:j < il.length
   ·obtain ⟨g,I,e,hc,J,hg,z,D⟩:=k.out.at j a
    simp only [Value.slice.injEq] at e
    obtain ⟨rfl,-,rfl⟩:=e
    have G:Hid (headIs (il.drop j) key=decide ((il[j]'a).1.data.toList=key.data.toList)):=by
     show _=_;rw [List.drop_eq_getElem_cons a];rfl
    generalize (il[j]'a).1=d at*
    generalize (il[j]'a).2=M at*
    go_wp2_with fail
    refine (findCmp_any d M key _).mono ?_
    rintro r w1 ⟨rfl,f⟩
    have l:=hid (o.out.trans (f.mono p))
    clear f z D k o
    have X:Hid ((Lib.compareBytes d.data.toList key.data.toList==0)=decide (d.data.toList=key.data.toList)):=by
     show _=_
     by_cases q:d.data.toList=key.data.toList
     ·rw [decide_eq_true q,(cmp_zero _ _).2 q];rfl
     ·rw [decide_eq_false q];exact beq_false_of_ne fun L=> q ((cmp_zero _ _).1 L)
    have n:Hid ((il.take j).length=j):=by show _=_;simp;omega
    go_wp2_with fail
    go_ret2
    exact ⟨⟨_,_,t.out,by rw [G.out,←X.out,n.out];rfl⟩,l.out⟩
   ·have Y:j=il.length:=by omega
    have G:Hid (headIs (il.drop j) key=false):=by
     show _=_;rw [List.drop_of_length_le (by omega)];rfl
    have n:Hid ((il.take j).length=j):=by show _=_;simp;omega
    go_wp2_with fail
    go_ret2
    exact ⟨⟨_,_,t.out,by rw [G.out,n.out];rfl⟩,o.out⟩
end Go.Proofs.YtolgpnaoaodepaaGreat
