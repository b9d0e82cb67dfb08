import Derived.Test.YtolgpnaoaodepaaGreatRows
import Derived.WalkKit
import Derived.WalkSpells
import Derived.WalkLawsBesides
import Derived.Deep.QuietTactic
import Derived.BigQuiet
import Derived.Lib.AppendStr
import Derived.Maps.AppendAt
import Derived.Lib.MinMax
import Derived.Lib.BufferRead
import Derived.Laws.IdiomStrings
import Derived.Laws.DeepStrings4
namespace Go.Proofs.YtolgpnaoaodepaaGreat.Sq
def com (l:List UInt8) (i j:Nat):Nat->Nat
 | 0=> 0
 | m+1=> if j < l.length/\l[i]?=l[j]? then com l (i+1) (j+1) m+1 else 0
theorem Ac8 (l:List UInt8):∀(m i j:Nat),com l i j m<=m
 | 0,_,_=> Nat.le_refl _
 | m+1,i,j=> by
  unfold com;split
  ·have:=Ac8 l m (i+1) (j+1);omega
  ·omega
theorem Wg (l:List UInt8):∀(m i j n:Nat),n<=m->j+n<=l.length->(∀k,k < n->l[i+k]?=l[j+k]?)->(n=m\/¬(j+n < l.length/\l[i+n]?=l[j+n]?))->com l i j m=n
 | 0,i,j,n,h,_,_,_=> by simp [com];omega
 | m+1,i,j,0,_,_,_,hs=> by
  unfold com;rw [if_neg];rcases hs with h | h
  ·omega
  ·simpa using h
 | m+1,i,j,n+1,h,hl,hk,hs=> by
  unfold com;have h0:=hk 0 (by omega);rw [if_pos ⟨by omega,by simpa using h0⟩];rw [Wg l m (i+1) (j+1) n (by omega) (by omega) (fun k b=> by have:=hk (k+1) (by omega);rw [show i+1+k=i+(k+1) by omega,show j+1+k=j+(k+1) by omega];exact this) ?_];rcases hs with a | a
  ·left;omega
  ·right;rw [show i+1+n=i+(n+1) by omega,show j+1+n=j+(n+1) by omega];exact a
def mat (l:List UInt8) (at_ d:Nat):Nat:=com l (at_ - d) at_ (min 66 (l.length - at_))
theorem Al7 (l:List UInt8) (a d:Nat):mat l a d<=66:=by
 unfold mat;have:=Ac8 l (min 66 (l.length - a)) (a - d) a;omega
theorem Adj (l:List UInt8) (a d:Nat):mat l a d<=min 66 (l.length - a):=Ac8 l _ _ _
def up (l:List UInt8) (at_:Nat):Nat->Nat×Nat
 | 0=> (2,0)
 | c+1=> if (up l at_ c).1 < mat l at_ (c+1) then (mat l at_ (c+1),c+1) else up l at_ c
theorem Qr (l:List UInt8) (a:Nat):∀c,(∀d,1<=d->d<=c->mat l a d<=(up l a c).1/\(d < (up l a c).2->mat l a d < (up l a c).1))/\((up l a c=(2,0))\/(1<=(up l a c).2/\(up l a c).2<=c/\mat l a (up l a c).2=(up l a c).1/\2 < (up l a c).1))
 | 0=> ⟨fun d f b=> by omega,.inl rfl⟩
 | c+1=> by
  obtain ⟨f,b⟩:=Qr l a c;have g:2<=(up l a c).1:=by
   rcases b with b | b
   ·rw [b];exact Nat.le_refl _
   ·omega
  rw [up];split
  ·rename_i k;refine ⟨fun d i n=> ?_,.inr ⟨by simp,by simp,rfl,by simp;omega⟩⟩;by_cases e:d=c+1
   ·subst e;simp
   ·have:=(f d i (by omega)).1;simp;omega
  ·rename_i m;refine ⟨fun d i n=> ?_,?_⟩
   ·by_cases e:d=c+1
    ·subst e;refine ⟨by omega,fun j=> ?_⟩;rcases b with b | b
     ·rw [b] at j;simp at j
     ·omega
    ·exact f d i (by omega)
   ·rcases b with b | b
    ·exact .inl b
    ·exact .inr ⟨b.1,by omega,b.2.2.1,b.2.2.2⟩
theorem Adk (l:List UInt8) (a c:Nat) (h:min 66 (l.length - a)<=(up l a c).1):∀k,up l a (c+k)=up l a c
 | 0=> rfl
 | k+1=> by
  have b:=Adk l a c h k;rw [show c+(k+1)=(c+k)+1 from rfl,up,b,if_neg];have:=Adj l a (c+k+1);omega
def Dq (l:List UInt8) (at_:Nat):Nat×Nat:=up l at_ (min at_ 255)
theorem Wh (l:List UInt8) (a:Nat):(Dq l a).2<=255/\(Dq l a).2<=a:=by
 have:=(Qr l a (min a 255)).2;unfold Dq;rcases this with h | h
 ·rw [h];simp
 ·omega
theorem Kz (l:List UInt8) (a:Nat) (h:(Dq l a).2≠0):3<=(Dq l a).1/\(Dq l a).1<=66/\a+(Dq l a).1<=l.length:=by
 have:=(Qr l a (min a 255)).2;unfold Dq at*;rcases this with b | b
 ·rw [b] at h;simp at h
 ·have c:=Al7 l a (up l a (min a 255)).2;have d:=Adj l a (up l a (min a 255)).2;omega
def Mw:Nat->List UInt8->List UInt8
 | 0,_=> []
 | f+1,s=> if s=[] then [] else UInt8.ofNat (min s.length 128 - 1)::(s.take 128++Mw f (s.drop 128))
def Hn (s:List UInt8):List UInt8:=Mw s.length s
theorem Ub:∀(f g:Nat) (s:List UInt8),s.length<=f->s.length<=g->Mw f s=Mw g s
 | 0,0,_,_,_=> rfl
 | 0,g+1,s,h,_=> by have:s=[]:=List.length_eq_zero_iff.1 (by omega);subst this;simp [Mw]
 | f+1,0,s,_,h=> by have:s=[]:=List.length_eq_zero_iff.1 (by omega);subst this;simp [Mw]
 | f+1,g+1,s,h1,h2=> by
  unfold Mw;by_cases e:s=[]
  ·simp [e]
  ·have:0 < s.length:=List.length_pos_iff.2 e;rw [if_neg e,if_neg e,Ub f g (s.drop 128) (by simp;omega) (by simp;omega)]
theorem La:Hn []=[]:=rfl
theorem Po (s:List UInt8) (h:s≠[]):Hn s=UInt8.ofNat (min s.length 128 - 1)::(s.take 128++Hn (s.drop 128)):=by
 have b:0 < s.length:=List.length_pos_iff.2 h;obtain ⟨k,a⟩:∃k,s.length=k+1:=⟨s.length - 1,by omega⟩;unfold Hn;rw [a,Mw,if_neg h,a,Ub k (s.drop 128).length _ (by simp;omega) (Nat.le_refl _)]
theorem Qs:∀(n:Nat) (s:List UInt8),s.length<=n->(Hn s).length<=2*s.length
 | 0,s,h=> by have:s=[]:=List.length_eq_zero_iff.1 (by omega);subst this;simp [La]
 | n+1,s,h=> by
  by_cases e:s=[]
  ·subst e;simp [La]
  ·have a:0 < s.length:=List.length_pos_iff.2 e;rw [Po s e];have:=Qs n (s.drop 128) (by simp;omega);simp at*;omega
def rem (l:List UInt8):Nat->Nat->List UInt8->List UInt8
 | 0,_,p=> Hn p
 | f+1,at_,p=> if l.length<=at_ then Hn p else
  if (Dq l at_).2=0 then rem l f (at_+1) (p++(l.drop at_).take 1)
  else Hn p++(UInt8.ofNat (125+(Dq l at_).1)::UInt8.ofNat (Dq l at_).2::rem l f (at_+(Dq l at_).1) [])
theorem Wi (l:List UInt8):∀(f g a:Nat) (p:List UInt8),l.length - a<=f->l.length - a<=g->rem l f a p=rem l g a p
 | 0,0,_,_,_,_=> rfl
 | 0,g+1,a,p,h,_=> by rw [rem,rem,if_pos (by omega)]
 | f+1,0,a,p,_,h=> by rw [rem,rem,if_pos (by omega)]
 | f+1,g+1,a,p,h1,h2=> by
  rw [rem,rem];by_cases e:l.length<=a
  ·rw [if_pos e,if_pos e]
  ·rw [if_neg e,if_neg e];by_cases b:(Dq l a).2=0
   ·rw [if_pos b,if_pos b,Wi l f g (a+1) _ (by omega) (by omega)]
   ·have:=Kz l a b;rw [if_neg b,if_neg b,Wi l f g (a+(Dq l a).1) _ (by omega) (by omega)]
def rest (l:List UInt8) (at_:Nat) (p:List UInt8):List UInt8:=rem l (l.length - at_) at_ p
def Ca (l:List UInt8):List UInt8:=rest l 0 []
theorem Adl (l:List UInt8) (a:Nat) (p:List UInt8) (h:l.length<=a):rest l a p=Hn p:=by
 unfold rest;rw [show l.length - a=0 by omega];rfl
theorem Uc (l:List UInt8) (a:Nat) (p:List UInt8) (h:a < l.length) (b:(Dq l a).2=0):rest l a p=rest l (a+1) (p++[l[a]]):=by
 unfold rest;rw [show l.length - a=(l.length - (a+1))+1 by omega,rem,if_neg (by omega),if_pos b];rw [List.drop_eq_getElem_cons h];rfl
theorem Wj (l:List UInt8) (a:Nat) (p:List UInt8) (h:a < l.length) (b:(Dq l a).2≠0):rest l a p=Hn p++(UInt8.ofNat (125+(Dq l a).1)::UInt8.ofNat (Dq l a).2::rest l (a+(Dq l a).1) []):=by
 have c:=Kz l a b;unfold rest;rw [show l.length - a=(l.length - (a+1))+1 by omega,rem,if_neg (by omega),if_neg b];rw [Wi l (l.length - (a+1)) (l.length - (a+(Dq l a).1)) _ _ (by omega) (by omega)]
theorem Agb (l:List UInt8):∀(f a:Nat) (p:List UInt8),(rem l f a p).length<=2*p.length+2*f
 | 0,_,p=> by have:=Qs _ p (Nat.le_refl _);simp [rem];omega
 | f+1,a,p=> by
  rw [rem];have h0:=Qs _ p (Nat.le_refl _);split
  ·omega
  ·split
   ·have:=Agb l f (a+1) (p++(l.drop a).take 1);simp at this;simp;omega
   ·have:=Agb l f (a+(Dq l a).1) [];simp at*;omega
theorem Aod (l:List UInt8) (a:Nat) (p:List UInt8):(rest l a p).length<=2*p.length+2*(l.length - a):=Agb l _ a p
theorem Agc (l:List UInt8):(Ca l).length<=2*l.length:=by have:=Aod l 0 [];simpa [Ca] using this
def Ho (out:List UInt8) (d:Nat):Nat->List UInt8
 | 0=> out
 | n+1=> Ho (out++[out.getD (out.length - d) 0]) d n
theorem Oj:∀(n:Nat) (a:List UInt8) (d:Nat),(Ho a d n).length=a.length+n
 | 0,_,_=> rfl
 | n+1,a,d=> by rw [Ho,Oj n];simp;omega
theorem Pp:∀(n:Nat) (a:List UInt8) (d:Nat),Ho a d (n+1)=Ho a d n++[(Ho a d n).getD ((Ho a d n).length - d) 0]
 | 0,_,_=> rfl
 | n+1,a,d=> by rw [Ho,Pp n];rfl
def dec:Nat->List UInt8->List UInt8->Option (List UInt8)
 | 0,s,out=> if s=[] then some out else none
 | f+1,s,out=> match s with
  | []=> some out
  | n::t=> if n.toNat < 128 then
    (if n.toNat+1<=t.length then dec f (t.drop (n.toNat+1)) (out++t.take (n.toNat+1)) else none)
   else match t with
    | []=> none
    | d::u=> if n.toNat<=191/\1<=d.toNat/\d.toNat<=out.length then dec f u (Ho out d.toNat (n.toNat - 125)) else none
theorem Qt:∀(f g:Nat) (s a:List UInt8),s.length<=f->s.length<=g->dec f s a=dec g s a
 | 0,0,_,_,_,_=> rfl
 | 0,g+1,s,a,h,_=> by have:s=[]:=List.length_eq_zero_iff.1 (by omega);subst this;simp [dec]
 | f+1,0,s,a,_,h=> by have:s=[]:=List.length_eq_zero_iff.1 (by omega);subst this;simp [dec]
 | f+1,g+1,[],a,_,_=> by simp [dec]
 | f+1,g+1,[n],a,h1,h2=> by simp [dec]
 | f+1,g+1,n::d::u,a,h1,h2=> by
  simp only [List.length_cons] at h1 h2;simp only [dec];rw [Qt f g ((d::u).drop (n.toNat+1)) _ (by simp;omega) (by simp;omega),Qt f g u _ (by omega) (by omega)]
theorem Qu (f:Nat) (n:UInt8) (t a:List UInt8):dec (f+1) (n::t) a=if n.toNat < 128 then (if n.toNat+1<=t.length then dec f (t.drop (n.toNat+1)) (a++t.take (n.toNat+1)) else none) else match t with
    | []=> none
    | d::u=> if n.toNat<=191/\1<=d.toNat/\d.toNat<=a.length then dec f u (Ho a d.toNat (n.toNat - 125)) else none:=rfl
def Bm (s out:List UInt8):Option (List UInt8):=dec s.length s out
theorem Wk (a:List UInt8):Bm [] a=some a:=rfl
theorem Wl (n:UInt8) (t a:List UInt8) (h:n.toNat < 128) (b:n.toNat+1<=t.length):Bm (n::t) a=Bm (t.drop (n.toNat+1)) (a++t.take (n.toNat+1)):=by
 unfold Bm;rw [List.length_cons,Qu,if_pos h,if_pos b,Qt _ (t.drop (n.toNat+1)).length _ _ (by simp) (Nat.le_refl _)]
theorem Aa2 (n:UInt8) (t a:List UInt8) (h:n.toNat < 128) (b:¬n.toNat+1<=t.length):Bm (n::t) a=none:=by
 unfold Bm;rw [List.length_cons,Qu,if_pos h,if_neg b]
theorem Qv (n d:UInt8) (u a:List UInt8) (h:¬n.toNat < 128) (b:n.toNat<=191/\1<=d.toNat/\d.toNat<=a.length):Bm (n::d::u) a=Bm u (Ho a d.toNat (n.toNat - 125)):=by
 unfold Bm;rw [List.length_cons,Qu,if_neg h];show (if n.toNat<=191/\1<=d.toNat/\d.toNat<=a.length then dec (d::u).length u (Ho a d.toNat (n.toNat - 125)) else none)=_;rw [if_pos b,Qt _ u.length _ _ (by simp) (Nat.le_refl _)]
theorem Vn (n d:UInt8) (u a:List UInt8) (h:¬n.toNat < 128) (b:¬(n.toNat<=191/\1<=d.toNat/\d.toNat<=a.length)):Bm (n::d::u) a=none:=by
 unfold Bm;rw [List.length_cons,Qu,if_neg h];show (if n.toNat<=191/\1<=d.toNat/\d.toNat<=a.length then dec (d::u).length u (Ho a d.toNat (n.toNat - 125)) else none)=_;rw [if_neg b]
theorem Sl (n:UInt8) (a:List UInt8) (h:¬n.toNat < 128):Bm [n] a=none:=by
 unfold Bm;rw [List.length_cons,Qu,if_neg h]
theorem Agd:∀(f:Nat) (s a t:List UInt8),dec f s a=some t->t.length<=a.length+66*s.length
 | 0,s,a,t,h=> by
  unfold dec at h;split at h
  ·simp at h;subst h;omega
  ·simp at h
 | f+1,[],a,t,h=> by simp [dec] at h;subst h;simp
 | f+1,[n],a,t,h=> by
  simp only [dec] at h;split at h
  ·split at h
   ·rename_i b;simp at b
   ·simp at h
  ·simp at h
 | f+1,n::d::u,a,t,h=> by
  simp only [dec] at h;split at h
  ·split at h
   ·have:=Agd f _ _ _ h;simp at*;omega
   ·simp at h
  ·split at h
   ·have:=Agd f _ _ _ h;rw [Oj] at this;simp;omega
   ·simp at h
theorem Sm (s a t:List UInt8) (h:Bm s a=some t):t.length<=a.length+66*s.length:=Agd _ _ _ _ h
def Kt (s:List UInt8):Option (List UInt8):=match Bm s [] with
 | some t=> if Ca t=s then some t else none
 | none=> none
end Go.Proofs.YtolgpnaoaodepaaGreat.Sq
namespace Go.Proofs.YtolgpnaoaodepaaGreat
open Go.RowKit
theorem Lj {k:IntKind} {a b:Int} (h:a=b):Ending.returned (.int k a)= .returned (.int k b):=by rw [h]
theorem Kg (s:ByteArray) (i:Nat) (h:i < s.size):s.data.toList[i]?=some s[i]:=by
 rw [List.getElem?_eq_getElem (by simpa using h)];rfl
theorem Aoe (s:ByteArray) (i j:Nat) (hi:i < s.size) (a:j < s.size) (h:(((s[i]'hi).toNat:Int)==((s[j]'a).toNat:Int))=true):s.data.toList[i]?=s.data.toList[j]?:=by
 rw [Kg s i hi,Kg s j a];have b:((s[i]'hi).toNat:Int)=((s[j]'a).toNat:Int):=by simpa using h
 rw [UInt8.toNat_inj.1 (by omega:(s[i]'hi).toNat=(s[j]'a).toNat)]
theorem Aof (s:ByteArray) (i j:Nat) (hi:i < s.size) (a:j < s.size) (h:(((s[i]'hi).toNat:Int)==((s[j]'a).toNat:Int))=false):¬s.data.toList[i]?=s.data.toList[j]?:=by
 rw [Kg s i hi,Kg s j a];intro e;have b:s[i]'hi=s[j]'a:=by simpa using e
 rw [b] at h;simp at h
set_option maxHeartbeats 400000 in
theorem Age (s:ByteArray) (e l m:Nat) (w:World) (A:s.size<=140737488355328) (g:e<=l) (n:l+m<=s.size):
  Calls Tryz.prog 252 #[.string s,.int .i64 e,.int .i64 l,.int .i64 m] w fun r w'=> r= .returned (.int .i64 (Sq.com s.data.toList e l m))/\∃q,w'=w.drewN q:=by
 go_enter Tryz.func252,Tryz.ntmps252
 go_wp2
 go_loopw [9] (fun i wr=>∃k:Nat,k<=m/\i= .int .i64 k/\(∀j,j < k->s.data.toList[e+j]?=s.data.toList[l+j]?)/\∃q,wr=w.drewN q) (fun i _=> m - (intOf i).toNat)
 case atStart=> exact ⟨0,Nat.zero_le _,rfl,fun j h=> by omega,0,rfl⟩
 case round=>
  obtain ⟨k,z,rfl,c,q,rfl⟩:=hrel;have a:Hid (∀j,j < k->s.data.toList[e+j]?=s.data.toList[l+j]?):=c;clear c;by_cases d:k < m
  ·have o:(l:Int)+(k:Int) < (s.size:Int):=(by omega);have p:(e:Int)+(k:Int) < (s.size:Int):=(by omega);have t:(0:Int)<=(l:Int)+(k:Int):=(by omega);have u:(0:Int)<=(e:Int)+(k:Int):=by omega
   go_wp2
   go_quiet (fail)
   go_wp2
   ·have b:=Aoe s (e+k) (l+k) (by omega) (by omega) (by assumption)
    go_roundw
    case rel=>
     refine ⟨k+1,by omega,by go_num,fun j c=> ?_,_,rfl⟩;by_cases f:j=k
     ·rw [f];exact b
     ·exact a.out j (by omega)
    case measure=> simp [intOf];omega
   ·have b:=Aof s (e+k) (l+k) (by omega) (by omega) (by assumption);go_ret;exact ⟨Lj (by rw [Sq.Wg s.data.toList m e l k (by omega) (by simp;omega) a.out (.inr fun h=> b h.2)]),_,World.drewN_drewN _ _ _⟩
  ·have y:decide ((k:Int) < (m:Int))=false:=by simp;omega
   go_wp2
   go_quiet (fail)
   go_wp2
   go_ret;exact ⟨Lj (by rw [Sq.Wg s.data.toList m e l k (by omega) (by simp;omega) a.out (.inl (by omega))]),_,World.drewN_drewN _ _ _⟩
def Pq (l:List UInt8) (a:Nat):Nat:=if (Sq.Dq l a).2=0 then 0 else (Sq.Dq l a).1
def Ac9 (l:List UInt8) (a:Nat):Nat:=(Sq.Dq l a).2
theorem hid {p:Prop} (h:p):Hid p:=h
theorem Al8 {k:IntKind} {a b:Int} (h:a=b):Value.int k a=Value.int k b:=by rw [h]
theorem Agf (l:List UInt8) (a c:Nat):2<=(Sq.up l a c).1/\(Sq.up l a c).1<=66/\(Sq.up l a c).2<=c/\((Sq.up l a c).2=0->(Sq.up l a c).1=2):=by
 have:=(Sq.Qr l a c).2;rcases this with h | h
 ·rw [h];simp
 ·have:=Sq.Al7 l a (Sq.up l a c).2;omega
theorem Aq2 (l:List UInt8) (a c:Nat) (h:(Sq.up l a c).1 < Sq.mat l a (c+1)):Sq.up l a (c+1)=(Sq.mat l a (c+1),c+1):=by rw [Sq.up,if_pos h]
theorem Aqo (l:List UInt8) (a c:Nat) (h:¬(Sq.up l a c).1 < Sq.mat l a (c+1)):Sq.up l a (c+1)=Sq.up l a c:=by rw [Sq.up,if_neg h]
theorem Aog (l:List UInt8) (a c:Nat) (b:c<=min a 255) (h:c=min a 255\/min 66 (l.length - a)<=(Sq.up l a c).1):Sq.Dq l a=Sq.up l a c:=by
 unfold Sq.Dq;rcases h with h | h
 ·rw [h]
 ·have:=Sq.Adk l a c h (min a 255 - c);rw [show c+(min a 255 - c)=min a 255 by omega] at this;exact this
theorem Aoh (l:List UInt8) (a d:Nat):Sq.mat l a d=Sq.com l (a - d) a (min 66 (l.length - a)):=rfl
set_option maxHeartbeats 1000000 in
theorem Adm (s:ByteArray) (a:Nat) (w:World) (O:s.size<=140737488355328) (W:a<=s.size):
  Calls Tryz.prog 202 #[.string s,.int .i64 a] w fun r w'=> r= .returned (.tuple #[.int .i64 (Pq s.data.toList a),.int .i64 (Ac9 s.data.toList a)])/\∃q,w'=w.drewN q:=by
 have z:Hid (s.data.toList.length=s.size):=by exact (show s.data.toList.length=s.size by simp)
 obtain ⟨m,M,t⟩:∃m:Nat,min ((s.size:Int) - (a:Int)) 66=(m:Int)/\Hid (m=min 66 (s.size - a)):=⟨min 66 (s.size - a),by omega,rfl⟩;obtain ⟨e,N,u⟩:∃e:Nat,min (a:Int) 255=(e:Int)/\Hid (e=min a 255):=⟨min a 255,by omega,rfl⟩;have H:m<=66/\a+m<=s.size:=by have:=t.out;omega
 have I:e<=255/\e<=a:=by have:=u.out;omega
 go_enter Tryz.func202,Tryz.ntmps202;go_wp2_with fail;clear M N
 go_loopw [4,5,8] (fun n f b wr=>∃c:Nat,c<=e/\b= .int .i64 (c+1:Nat)/\n= .int .i64 (Sq.up s.data.toList a c).1/\f= .int .i64 (Sq.up s.data.toList a c).2/\∃q,wr=w.drewN q) (fun _ _ b _=> 300 - (intOf b).toNat)
 case atStart=> exact ⟨0,Nat.zero_le _,rfl,rfl,rfl,0,rfl⟩
 case round=>
  obtain ⟨c,T,rfl,rfl,rfl,q,rfl⟩:=hrel;have R:=Agf s.data.toList a c;generalize G:(Sq.up s.data.toList a c).1=n at*;generalize l:(Sq.up s.data.toList a c).2=f at*;have g:Hid ((Sq.up s.data.toList a c).1=n):=G;have o:Hid ((Sq.up s.data.toList a c).2=f):=l;clear G l;by_cases y:c < e/\n < m
  ·obtain ⟨D,F⟩:=y;go_wp2_with fail;rw [show ((a:Int) - ((c:Int)+1))=((a - (c+1):Nat):Int) by omega];refine (Age s (a - (c+1)) a m _ O (by omega) (by omega)).mono ?_;rintro r U ⟨rfl,V,rfl⟩;have S:Sq.com s.data.toList (a - (c+1)) a m<=m:=Sq.Ac8 _ _ _ _;have p:Hid (Sq.mat s.data.toList a (c+1)=Sq.com s.data.toList (a - (c+1)) a m):=by
    show _=_;rw [Aoh,z.out,<-t.out]
   generalize Sq.com s.data.toList (a - (c+1)) a m=k at*;by_cases j:n < k
   ·go_wp2_with fail
    go_roundw
    case rel=>
     have i:=Aq2 s.data.toList a c (by rw [g.out,p.out];exact j);exact ⟨c+1,by omega,by go_num,by rw [i,p.out],by rw [i];go_num,_,rfl⟩
    case measure=> simp [intOf];omega
   ·go_wp2_with fail
    go_roundw
    case rel=>
     have i:=Aqo s.data.toList a c (by rw [g.out,p.out];exact j);exact ⟨c+1,by omega,by go_num,by rw [i,g.out],by rw [i,o.out],_,rfl⟩
    case measure=> simp [intOf];omega
  ·have A:Hid (Sq.Dq s.data.toList a=Sq.up s.data.toList a c):=by
    refine Aog _ _ _ (by have:=u.out;omega) ?_;have:=u.out;have:=t.out;have J:=z.out;have L:=g.out;rw [J,L];omega
   have B:Hid (f=0->Pq s.data.toList a=0/\Ac9 s.data.toList a=0):=fun h=> by
    unfold Pq Ac9;rw [A.out,o.out,h];exact ⟨rfl,rfl⟩
   have C:Hid (f≠0->Pq s.data.toList a=n/\Ac9 s.data.toList a=f):=fun h=> by
    unfold Pq Ac9;rw [A.out,o.out,g.out,if_neg h];exact ⟨rfl,rfl⟩
   by_cases l:f=0
   ·have d:=hid l;go_wp2_with fail
    all_goals
     go_ret2;exact ⟨by rw [(B.out d.out).1,(B.out d.out).2];rfl,_,rfl⟩
   ·have d:=hid l;go_wp2_with fail
    all_goals
     go_ret2;exact ⟨by rw [(C.out d.out).1,(C.out d.out).2];rfl,_,rfl⟩
def Bh (B:Nat) (w:World) (v:Value) (l:List UInt8):Prop:=w.ownsRow B 5 1 v l.length (Lib.byteCells l)
theorem Iz:(Tryz.prog.info? 5).map (fun i=> (i.zero,i.size,i.bytes))=some (some (.int .u8 0),1,1):=by kernel_rfl
theorem Bh.nil (B:Nat) (w:World):Bh B w (.slice none 0 0) []:=World.ownsRow_nil _ _ _ _
theorem Bh.alloc {B:Nat} {w:World} {v:Value} {l:List UInt8} (h:Bh B w v l) (o:Obj):Bh B (w.alloc o) v l:=World.ownsRow.alloc h o
theorem Bh.drewN {B:Nat} {w:World} {v:Value} {l:List UInt8} (h:Bh B w v l) (q:Nat):Bh B (w.drewN q) v l:=h
theorem Bh.drew {B:Nat} {w:World} {v:Value} {l:List UInt8} (h:Bh B w v l):Bh B w.drew v l:=h
theorem Bh.shape {B:Nat} {w:World} {v:Value} {l:List UInt8} (h:Bh B w v l):∃a b,v= .slice a l.length b:=by
 rcases h.2 with ⟨rfl,c⟩ | ⟨g,b,d,rfl,_⟩
 ·exact ⟨none,0,by rw [c]⟩
 ·exact ⟨_,_,rfl⟩
theorem Am {B:Nat} {a w:World} (h:Below B a w) (n:Nat):Below B a (w.drewN n):=h.trans ⟨rfl,rfl,rfl,Nat.le_refl _,fun _ _=> rfl⟩
theorem Bh.str {B:Nat} {w:World} {v:Value} {l:List UInt8} (h:Bh B w v l):(convert 108 9 v).run Tryz.prog w= .ok (.string ⟨l.toArray⟩) w:=by
 rcases h.2 with ⟨rfl,c⟩ | ⟨g,a,d,rfl,i,f,_,_,_,b⟩
 ·have:l=[]:=List.length_eq_zero_iff.1 c;subst this;exact Lib.run_convert_nil_bytes w _ _ 5 0 Tryz.underlying108 Tryz.underlying5 Tryz.underlying9
 ·refine run_convert_bytes_back w _ _ 5 ⟨g,0,none⟩ a l Tryz.underlying108 Tryz.underlying5 Tryz.underlying9 ?_;exact Lib.bytes_of_row f (by simpa using b)
theorem Ku (l:List UInt8):∀u∈Lib.byteCells l,u.oneCell'=true:=by
 intro u a;simp [Lib.byteCells] at a;obtain ⟨b,_,rfl⟩:=a;rfl
theorem Aqp (w:World) {c:Array Oper} {rest:List Oper} {o:Oper} {a:Act} {Q:Exit->Act->World->Prop} (n:o.guard=none) (p x:Operand)
  (y:o.op=Op.call {callee:=Callee.builtin Builtin.append,args:= #[p,x],argTypes:= #[108,9]}) (B:Nat) (v:Value) (l:List UInt8) (z:a.eval p=v) (b:Bh B w v l)
  (s:ByteArray) (A:a.eval x= .string s) (C:l.length+s.size<=140737488355328) (q:B<=w.heap.size)
  (h:∀(d:Value) (w':World),Bh B w' d (l++s.data.toList)->Below B w w'->wpList Tryz.prog c Q rest (a.put o.dst d) w'):wpList Tryz.prog c Q (o::rest) a w:=by
 obtain ⟨i,hi,f,g,j⟩:=info_parts Iz;refine Lib.wpList_append_own_string w n p x 108 9 y B 5 i Tryz.underlying108 Tryz.underlying9 hi f g j v l.length (Lib.byteCells l) z b s A (by unfold maxLen;omega) C q ?_;intro d w' m t _;refine h d w' ?_ ((Below.refl B w).grown t q fun k u=> (World.ownsRow.lt b k u).1);have r:Lib.byteCells (l++s.data.toList)=Lib.byteCells l++Lib.strCells s:=by rw [Lib.byteCells_append];rfl
 unfold Bh;rw [r,List.length_append,show s.data.toList.length=s.size by simp];exact m
theorem Al9 (w:World) {g:Array Oper} {rest:List Oper} {o:Oper} {a:Act} {Q:Exit->Act->World->Prop} (s:o.guard=none) (t x:Operand)
  (A:o.op=Op.call {callee:=Callee.builtin Builtin.append,args:= #[t,x],argTypes:= #[108,108]}) (B:Nat) (v:Value) (l:List UInt8) (C:a.eval t=v) (k:Bh B w v l)
  (y:Addr) (c:Nat) (b:List UInt8) (D:a.eval x= .slice (some y) b.length c) (d:∀j u,(Lib.byteCells b)[j]?=some u->w.cell? (y.add j)=some u)
  (G:l.length+b.length<=140737488355328) (F:B<=w.heap.size)
  (h:∀(f:Value) (w':World),Bh B w' f (l++b)->w.grownBy w' v.ownBlock->(f.ownBlock=v.ownBlock\/f.ownBlock=some w.heap.size)->wpList Tryz.prog g Q rest (a.put o.dst f) w'):wpList Tryz.prog g Q (o::rest) a w:=by
 obtain ⟨i,hi,m,n,p⟩:=info_parts Iz;refine wpList_append_own_at w s t x 108 A B 5 i (.int .u8 0) 1 1 Tryz.underlying108 hi m n p rfl (by decide) v l.length (Lib.byteCells l) C k y b.length c (Lib.byteCells b) D (by rw [Lib.byteCells_length];omega) d (Ku _) (by unfold maxLen;omega) (by omega) F ?_;intro f w' q z _ r;refine h f w' ?_ z r;unfold Bh;rw [Lib.byteCells_append,List.length_append];exact q
theorem Lk (w:World) (T:TypeId) (bs:List UInt8) (a:Array Value) (c:a.toList=Lib.byteCells bs):∀j u,(Lib.byteCells bs)[j]?=some u->(w.alloc (.cells a T)).cell? ((⟨w.heap.size,0,none⟩:Addr).add j)=some u:=by
 intro j u b;rw [<-c,Array.getElem?_toList] at b;have e:∀j,(w.alloc (.cells a T)).cell? ⟨w.heap.size,j,none⟩=a[j]?:=fun j=> World.cell?_alloc_at a T _ j rfl
 by_cases h0:j=0
 ·subst h0;simp only [Addr.add,if_pos];rw [e];exact b
 ·simp only [Addr.add,if_neg h0,Nat.zero_add];rw [e];exact b
theorem Aat (w:World) {d:Array Oper} {rest:List Oper} {o:Oper} {a:Act} {Q:Exit->Act->World->Prop} (g:o.guard=none) (i x:Operand)
  (p:o.op=Op.call {callee:=Callee.builtin Builtin.append,args:= #[i,x],argTypes:= #[108,108]}) (B:Nat) (v:Value) (l:List UInt8) (q:a.eval i=v) (f:Bh B w v l)
  (b:UInt8) (n:Int) (r:n=(b.toNat:Int)) (s:a.eval x= .slice (some ⟨w.heap.size,0,none⟩) 1 1)
  (t:l.length+1<=140737488355328) (u:B<=w.heap.size)
  (h:∀(c:Value) (w':World),Bh B w' c (l++[b])->(w.alloc (.cells #[.int .u8 n] 5)).grownBy w' v.ownBlock->(c.ownBlock=v.ownBlock\/c.ownBlock=some (w.heap.size+1))->wpList Tryz.prog d Q rest (a.put o.dst c) w'):wpList Tryz.prog d Q (o::rest) a (w.alloc (.cells #[.int .u8 n] 5)):=by
 subst r;refine Al9 (w.alloc (.cells #[.int .u8 (b.toNat:Int)] 5)) g i x p B v l q (f.alloc _) ⟨w.heap.size,0,none⟩ 1 [b] s (Lk w _ [b] _ (by simp [Lib.byteCells])) (by simpa using t) (by simp;omega) ?_;intro c w' j k m;exact h c w' j k (by simpa using m)
theorem Aps (w:World) {f:Array Oper} {rest:List Oper} {o:Oper} {a:Act} {Q:Exit->Act->World->Prop} (i:o.guard=none) (j x:Operand)
  (r:o.op=Op.call {callee:=Callee.builtin Builtin.append,args:= #[j,x],argTypes:= #[108,108]}) (B:Nat) (v:Value) (l:List UInt8) (s:a.eval j=v) (g:Bh B w v l)
  (b c:UInt8) (n m:Int) (t:n=(b.toNat:Int)) (u:m=(c.toNat:Int)) (y:a.eval x= .slice (some ⟨w.heap.size,0,none⟩) 2 2)
  (z:l.length+2<=140737488355328) (A:B<=w.heap.size)
  (h:∀(d:Value) (w':World),Bh B w' d (l++[b,c])->(w.alloc (.cells #[.int .u8 n,.int .u8 m] 5)).grownBy w' v.ownBlock->(d.ownBlock=v.ownBlock\/d.ownBlock=some (w.heap.size+1))->wpList Tryz.prog f Q rest (a.put o.dst d) w'):wpList Tryz.prog f Q (o::rest) a (w.alloc (.cells #[.int .u8 n,.int .u8 m] 5)):=by
 subst t u;refine Al9 (w.alloc (.cells #[.int .u8 (b.toNat:Int),.int .u8 (c.toNat:Int)] 5)) i j x r B v l s (g.alloc _) ⟨w.heap.size,0,none⟩ 2 [b,c] y (Lk w _ [b,c] _ (by simp [Lib.byteCells])) (by simpa using z) (by simp;omega) ?_;intro d w' k p q;exact h d w' k p (by simpa using q)
theorem Jk {B:Nat} {w w':World} {v:Value} {l:List UInt8} {b:Obj} (a:Bh B w v l) (d:B<=w.heap.size) (f:(w.alloc b).grownBy w' v.ownBlock):Below B w w':=
 (((Below.refl B w).alloc d b).grown f (by simp;omega) fun k c=> (World.ownsRow.lt a k c).1)
end Go.Proofs.YtolgpnaoaodepaaGreat
