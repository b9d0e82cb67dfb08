import Derived.Test.YtolgpnaoaodepaaGreatLdSm
namespace Go.Proofs.YtolgpnaoaodepaaGreat.Ld
open Go.Proofs.YtolgpnaoaodepaaGreat.Tr
theorem FF.nums {α:Type} {R:Key->Key->α->Prop} {b:α->Nat}:∀{ts:List Tk} {a:List α},FF R b ts a->a.map b=ts.map (·.1)
 | [],[],_=> rfl
 | _::_,_::_,h=> by rw [List.map_cons,List.map_cons,h.1.1,h.2.nums]
 | [],_::_,h=> h.elim
 | _::_,[],h=> h.elim
theorem Afp:∀(k:List Nat) (b:List (Key×Key)),k.length<=b.length->(List.zipWith (fun c b=> (c,b)) k b).map (·.1)=k
 | [],_,_=> by simp
 | _::_,[],h=> by simp at h
 | x::k,y::b,h=> by simp [Afp k b (by simpa using h)]
theorem Ac0 {n:Nd} (h:okN n) (lo hi:Key):(Hg n lo hi).map (·.1)=kds n:=by
 refine Afp _ _ ?_;rw [Yt];rcases h with ⟨_,a,_⟩ | ⟨_,_,_,_,b,_⟩
 ·rw [a];simp
 ·omega
theorem Aj4 {P:List (Option Nd)} {h:Nat} (j:∀lo hi c d (f g:PT h),Co P h lo hi f->Co P h c d g->num h f=num h g->f=g):∀{ts i:List Tk} {b a:List (PT h)},FF (Co P h) (num h) ts b->FF (Co P h) (num h) i a->b.map (num h)=a.map (num h)->b=a
 | _,_,[],[],_,_,_=> rfl
 | _,_,[],_::_,_,_,e=> by simp at e
 | _,_,_::_,[],_,_,e=> by simp at e
 | [],_,_::_,_::_,h1,_,_=> h1.elim
 | _::_,[],_::_,_::_,_,h2,_=> h2.elim
 | _::_,_::_,k::b,k'::a,h1,h2,e=> by
  rw [List.map_cons,List.map_cons,List.cons.injEq] at e;rw [j _ _ _ _ k k' h1.1.2 h2.1.2 e.1,Aj4 j h1.2 h2.2 e.2]
theorem Oz {P:List (Option Nd)} (z:Yu P):∀(h i:Nat) (lo hi d g:Key) (f:PT h) (l:PT i),Co P h lo hi f->Co P i d g l->num h f=num i l->h=i/\HEq f l
 | 0,0,_,_,_,_,_,_,_,_,e=> ⟨rfl,heq_of_eq e⟩
 | 0,i+1,_,_,_,_,f,(n,ks),⟨nd,h1,h2,_⟩,⟨nd',h1',h2',_⟩,e=> by
  have e:num 0 f=n:=e;rw [e,h1'] at h1;obtain rfl:nd'=nd:=by simpa using h1
  rw [h2] at h2';exact absurd h2' (by decide)
 | h+1,0,_,_,_,_,(n,ks),f,⟨nd,h1,h2,_⟩,⟨nd',h1',h2',_⟩,e=> by
  have e:n=num 0 f:=e;rw [e,h1'] at h1;obtain rfl:nd'=nd:=by simpa using h1
  rw [h2] at h2';exact absurd h2' (by decide)
 | h+1,i+1,lo,hi,d,g,(n,ks),(n',ks'),⟨nd,h1,h2,_,h4⟩,⟨nd',h1',_,_,h4'⟩,e=> by
  have e:n=n':=e;subst e;rw [h1'] at h1;obtain rfl:nd'=nd:=by simpa using h1
  have j:=z _ nd' h1';have m:ks.map (num h)=kds nd':=by rw [h4.nums,Ac0 j]
  have o:ks'.map (num i)=kds nd':=by rw [h4'.nums,Ac0 j]
  have c:1<=(kds nd').length:=by
   rcases j with ⟨q,_⟩ | ⟨_,_,q,_⟩
   ·rw [h2] at q;exact absurd q (by decide)
   ·exact q
  have p:ks≠[]:=fun q=> by rw [q] at m;rw [<-m] at c;simp at c
  have s:ks'≠[]:=fun q=> by rw [q] at o;rw [<-o] at c;simp at c
  obtain ⟨k,r,rfl⟩:=List.exists_cons_of_ne_nil p;obtain ⟨u,J,rfl⟩:=List.exists_cons_of_ne_nil s;obtain ⟨a,b,C⟩:=h4.each k (List.mem_cons_self ..);obtain ⟨D,F,y⟩:=h4'.each u (List.mem_cons_self ..);have t:=m.trans o.symm;have B:num h k=num i u:=by rw [List.map_cons,List.map_cons,List.cons.injEq] at t;exact t.1
  obtain ⟨rfl,-⟩:=Oz z h i a b D F k u C y B;refine ⟨rfl,heq_of_eq ?_⟩;rw [Aj4 (fun lo hi d g f l G H I=> eq_of_heq (Oz z h h lo hi d g f l G H I).2) h4 h4' t]
theorem Ac1 {P:List (Option Nd)}:∀(h:Nat) (lo hi:Key) (f:PT h),Co P h lo hi f->∀n∈nums h f,∃b,P[n]?=some (some b)
 | 0,_,_,f,⟨b,h1,_⟩,n,a=> by
  rw [List.mem_singleton.1 a];exact ⟨b,h1⟩
 | h+1,_,_,(m,ks),⟨b,h1,_,_,h4⟩,n,a=> by
  rcases List.mem_cons.1 a with e | a
  ·rw [e];exact ⟨b,h1⟩
  ·obtain ⟨l,i,c⟩:=List.mem_flatten.1 a;obtain ⟨f,j,rfl⟩:=List.mem_map.1 i;obtain ⟨d,g,k⟩:=h4.each f j;exact Ac1 h d g f k n c
theorem Sb.all {P:List (Option Nd)} (h:Sb P):∀n,n < P.length->∃g,P[n]?=some (some g):=by
 obtain ⟨H,f,b,-,-,c⟩:=h;exact fun n d=> Ac1 H [] [] f b n (c n d)
def Ant (far:Int) (d:Nat):Prop:=far < 0\/far=(d:Int)
theorem Ob (l:List It) (a b:List Ch):Bq l (a++b)=Bq (Bq l a) b:=by simp [Bq]
def Mg {h:Nat}:Ac (h+1)->List (Key×Ac h)
 | (ps,_)=> ps
def Arh {h:Nat}:Ac (h+1)->List Ch
 | (_,cs)=> cs
def nk:(h:Nat)->Ac h->Nat
 | 0,_=> 0
 | _+1,t=> (Mg t).length
def pgN:(h:Nat)->Ac h->Nat->Nd
 | 0,l,_=> (1,l,[],[],[])
 | _+1,t,first=> (2,[],List.range' first (Mg t).length,((Mg t).map (·.1)).tail,Arh t)
def lvN (h:Nat):List (Ac h)->Nat->List Nd
 | [],_=> []
 | t::r,first=> pgN h t first::lvN h r (first+nk h t)
def Mp (h:Nat) (ts:List (Ac (h+1))):List (Ac h):=(ts.map fun t=> (Mg t).map (·.2)).flatten
def Oc:(h:Nat)->List (Ac h)->Nat->List Nd
 | 0,ts,a=> lvN 0 ts (a+ts.length)
 | h+1,ts,a=> lvN (h+1) ts (a+ts.length)++Oc h (Mp h ts) (a+ts.length)
theorem Se (h:Nat):∀(ts:List (Ac h)) (n:Nat),(lvN h ts n).length=ts.length
 | [],_=> rfl
 | _::r,n=> by rw [lvN,List.length_cons,Se h r,List.length_cons]
def IF (P:List (Option Nd)) (h:Nat):Nat->List (Key×Key×Ac h)->List (PT h)->Prop
 | _,[],[]=> True
 | a,s::S,f::fs=> (num h f=a/\Co P h s.1 s.2.1 f/\tr P h s.1 s.2.1 f=s.2.2)/\IF P h (a+1) S fs
 | _,_,_=> False
theorem IF.split {P:List (Option Nd)} {h:Nat} {c:List (Key×Key×Ac h)}:∀{S:List (Key×Key×Ac h)} {a:Nat} {b:List (PT h)},IF P h a (S++c) b->∃x y,b=x++y/\IF P h a S x/\IF P h (a+S.length) c y
 | [],a,b,hf=> ⟨[],b,rfl,trivial,hf⟩
 | s::S,a,f::b,hf=> by
  obtain ⟨x,y,rfl,d,g⟩:=IF.split (S:=S) hf.2;refine ⟨f::x,y,rfl,⟨hf.1,d⟩,?_⟩;rw [List.length_cons,show a+(S.length+1)=a+1+S.length by omega];exact g
 | _::_,_,[],hf=> hf.elim
def kidsB (h:Nat) (hi:Key):List (Key×Ac h)->List (Key×Key×Ac h)
 | []=> []
 | [(f,t)]=> [(f,hi,t)]
 | (f,t)::(f2,t2)::r=> (f,f2,t)::kidsB h hi ((f2,t2)::r)
theorem Od (h:Nat) (hi:Key):∀a:List (Key×Ac h),(kidsB h hi a).map (·.2.2)=a.map (·.2)
 | []=> rfl
 | [_]=> rfl
 | (f,t)::(f2,t2)::r=> by
  show t::(kidsB h hi ((f2,t2)::r)).map (·.2.2)=t::((f2,t2)::r).map (·.2);rw [Od h hi ((f2,t2)::r)]
theorem Akt (h:Nat) (hi:Key) (a:List (Key×Ac h)):(kidsB h hi a).length=a.length:=by
 have:=congrArg List.length (Od h hi a);simpa using this
def okS (h:Nat) (s:Key×Key×Ac h):Prop:=WF h s.1 (hiO s.2.1) s.2.2/\Top h s.2.2/\Br s.1 s.2.1=true
theorem Ql {lo hi:Key} (h:room lo (hiO hi)):Br lo hi=true:=by
 unfold Br;by_cases e:hi=[]
 ·simp [e]
 ·have:=(h hi (Nt e)).1;simp [this]
theorem Afq {h:Nat} {hi:Key}:∀{c:List (Key×Ac h)} {lo:Key},Ba (fun f m t=> WF h f m t/\Top h t) (some lo) (hiO hi) c->∀s∈kidsB h hi c,okS h s
 | [],_,_,s,a=> by cases a
 | [(f,t)],lo,⟨e,m,h1,h2,h3⟩,s,a=> by
  have a:s=(f,hi,t):=List.mem_singleton.1 a;obtain rfl:m=hiO hi:=h3;rw [a];exact ⟨h2.1,h2.2,Ql h1⟩
 | (f,t)::(f2,t2)::r,lo,⟨e,m,h1,h2,h3⟩,s,a=> by
  obtain rfl:m=some f2:=h3.1;have a:s∈(f,f2,t)::kidsB h hi ((f2,t2)::r):=a;rcases List.mem_cons.1 a with rfl | a
  ·have d:=h1 f2 rfl;have b:=Ad0 d.2;refine ⟨by rw [Nt b];exact h2.1,h2.2,Ql (by rw [Nt b];exact h1)⟩
  ·exact Afq h3 s a
theorem Sf {h:Nat} {R:Key->Option Key->Ac h->Prop}:∀{g:List (Key×Ac h)} {lo:Key} {hi:Option Key},Ba R (some lo) hi g->∀p∈g,inR lo hi p.1
 | [],_,_,_,p,a=> by cases a
 | [(f,t)],lo,hi,⟨e,m,h1,h2,h3⟩,p,a=> by
  obtain rfl:lo=f:=Option.some.inj e;rw [List.mem_singleton.1 a];exact ⟨lt_ir _,fun b d=> (h1 b (by rw [show m=hi from h3];exact d)).1⟩
 | (f,t)::(f2,t2)::r,lo,hi,⟨e,m,h1,h2,h3⟩,p,a=> by
  obtain rfl:lo=f:=Option.some.inj e;obtain rfl:m=some f2:=h3.1;have c:=(h1 f2 rfl).1;rcases List.mem_cons.1 a with rfl | a
  ·exact ⟨lt_ir _,fun b d=> Cz c ((Sf h3 (f2,t2) (List.mem_cons_self ..)).2 b d)⟩
  ·have:=Sf h3 p a;exact ⟨fun q=> this.1 (Cz q c),this.2⟩
theorem Ac2 {h:Nat} {R:Key->Option Key->Ac h->Prop}:∀{b:List (Key×Ac h)} {lo:Key} {hi:Option Key},Ba R (some lo) hi b->(∀p∈(b.map (·.1)).tail,okK p)/\(b.map (·.1)).Pairwise (·< ·)
 | [],_,_,_=> ⟨(fun p a=> by cases a),List.Pairwise.nil⟩
 | [(f,t)],_,_,_=> ⟨(fun p a=> by cases a),List.pairwise_singleton _ _⟩
 | (f,t)::(f2,t2)::r,lo,hi,⟨e,m,h1,h2,h3⟩=> by
  obtain rfl:m=some f2:=h3.1;obtain ⟨d,g⟩:=Ac2 h3;have c:=h1 f2 rfl;refine ⟨fun p a=> ?_,List.pairwise_cons.2 ⟨fun p a=> ?_,g⟩⟩
  ·have a:p∈f2::r.map (·.1):=a;rcases List.mem_cons.1 a with rfl | a
   ·exact c.2
   ·exact d p a
  ·obtain ⟨q,i,rfl⟩:=List.mem_map.1 a;exact Hq c.1 (Sf h3 q i).1
theorem Anu {P:List (Option Nd)} {h:Nat} {R:Key->Option Key->Ac h->Prop}:∀(d:List (Key×Ac h)) (lo hi:Key) (first:Nat) (i:List (PT h)),Ba R (some lo) (hiO hi) d->d≠[]->IF P h first (kidsB h hi d) i->FF (Co P h) (num h) (List.zipWith (fun c b=> (c,b)) (List.range' first d.length) (Ib lo hi (d.map (·.1)).tail)) i/\prt (tr P h) (List.zipWith (fun c b=> (c,b)) (List.range' first d.length) (Ib lo hi (d.map (·.1)).tail)) i=d
 | [],_,_,_,_,_,hn,_=> absurd rfl hn
 | [(f,t)],lo,hi,first,i,⟨e,m,h1,h2,h3⟩,_,a=> by
  match i,a with
  | [g],a=>
   obtain rfl:lo=f:=Option.some.inj e;obtain rfl:m=hiO hi:=h3;obtain ⟨⟨l,n,j⟩,-⟩:=a;refine ⟨⟨⟨l,n⟩,trivial⟩,?_⟩;show (if Br lo hi=true then (lo,tr P h lo hi g)::[] else [])=[(lo,t)];rw [if_pos (Ql h1)];have j:tr P h lo hi g=t:=j;rw [j]
  | _::_::_,a=> exact a.2.elim
 | (f,t)::(f2,t2)::r,lo,hi,first,i,⟨e,m,h1,h2,h3⟩,_,a=> by
  match i,a with
  | g::gs,a=>
   obtain rfl:lo=f:=Option.some.inj e;obtain rfl:m=some f2:=h3.1;have a:(num h g=first/\Co P h lo f2 g/\tr P h lo f2 g=t)/\IF P h (first+1) (kidsB h hi ((f2,t2)::r)) gs:=a;obtain ⟨⟨l,n,j⟩,a⟩:=a;obtain ⟨o,p⟩:=Anu ((f2,t2)::r) f2 hi (first+1) gs h3 (by simp) a;have k:Br lo f2=true:=by
    unfold Br;have:=(h1 f2 rfl).1;simp [this]
   refine ⟨⟨⟨l,n⟩,o⟩,?_⟩;show (if Br lo f2=true then (lo,tr P h lo f2 g)::prt (tr P h) (List.zipWith (fun c b=> (c,b)) (List.range' (first+1) ((f2,t2)::r).length) (Ib f2 hi (((f2,t2)::r).map (·.1)).tail)) gs else prt (tr P h) (List.zipWith (fun c b=> (c,b)) (List.range' (first+1) ((f2,t2)::r).length) (Ib f2 hi (((f2,t2)::r).map (·.1)).tail)) gs)=(lo,t)::(f2,t2)::r;rw [if_pos k,p,j]
theorem Afr {P:List (Option Nd)} {h:Nat} {lo hi:Key} {t:Ac (h+1)} (B:okS (h+1) (lo,hi,t)) {n first:Nat} {i:List (PT h)} (r:P[n]?=some (some (pgN (h+1) t first))) (C:IF P h first (kidsB h hi (Mg t)) i):Co P (h+1) lo hi (brP n i)/\tr P (h+1) lo hi (brP n i)=t:=by
 obtain ⟨g,k⟩:=t;obtain ⟨⟨a,l⟩,-,d⟩:=B;have j:g≠[]:=fun e=> by
  rw [e] at a;have a:some lo=hiO hi:=a;unfold hiO at a;unfold Br at d;by_cases o:hi=[]
  ·rw [if_pos o] at a;cases a
  ·rw [if_neg o] at a;have:=Option.some.inj a;simp only [Bool.or_eq_true,decide_eq_true_eq,o,false_or] at d;rw [this] at d;exact lt_ir _ d
 obtain ⟨s,u⟩:=Anu g lo hi first i a j C;refine ⟨⟨_,r,rfl,⟨(fun x z=> by cases z),(fun c m=> Nu.2 (l c m).1),fun p f=> ?_⟩,s⟩,?_⟩
 ·have f:p∈(g.map (·.1)).tail:=f;obtain ⟨q,y,rfl⟩:=List.mem_map.1 (List.mem_of_mem_tail f);exact Nu.2 (Sf a q y)
 ·show brT (prt (tr P h) (Hg (pg P n) lo hi) i) (chs (pg P n))=(g,k);rw [Ht r];show (prt (tr P h) (List.zipWith (fun c b=> (c,b)) (List.range' first g.length) (Ib lo hi (g.map (·.1)).tail)) i,k)=(g,k);rw [u]
theorem Anv {P:List (Option Nd)} {h:Nat}:∀(S:List (Key×Key×Ac (h+1))) (n first:Nat) (a:List (PT h)),(∀s∈S,okS (h+1) s)->IF P h first ((S.map fun s=> kidsB h s.2.1 (Mg s.2.2)).flatten) a->(∀(i:Nat) (c:Nd),(lvN (h+1) (S.map (·.2.2)) first)[i]?=some c->P[n+i]?=some (some c))->∃b:List (PT (h+1)),IF P (h+1) n S b/\(Bb (h+1) b).Perm (List.range' n S.length++Bb h a)
 | [],n,first,a,_,hf,_=> by
  cases a with
  | nil=> exact ⟨[],trivial,List.Perm.nil⟩
  | cons f a=> exact hf.elim
 | (lo,hi,t)::S,n,first,a,hs,hf,hp=> by
  obtain ⟨x,y,rfl,g,d⟩:=IF.split (S:=kidsB h hi (Mg t)) hf;rw [Akt] at d;obtain ⟨b,j,k⟩:=Anv S (n+1) (first+(Mg t).length) y (fun s q=> hs s (List.mem_cons_of_mem _ q)) d (fun i c q=> by
   have:=hp (i+1) c q;rw [show n+(i+1)=n+1+i by omega] at this;exact this)
  obtain ⟨l,m⟩:=Afr (hs _ (List.mem_cons_self ..)) (hp 0 _ rfl) g;refine ⟨brP n x::b,⟨⟨rfl,l,m⟩,j⟩,?_⟩;rw [Ez,Gh,List.length_cons];show (n::(Bb h x++Bb (h+1) b)).Perm ((n::List.range' (n+1) S.length)++(Bb h x++Bb h y));refine List.Perm.cons _ ?_;refine (List.Perm.append_left (Bb h x) k).trans ?_;show (Bb h x++(List.range' (n+1) S.length++Bb h y)).Perm (List.range' (n+1) S.length++(Bb h x++Bb h y));rw [<-List.append_assoc,<-List.append_assoc];exact List.Perm.append_right _ List.perm_append_comm
theorem Zp {P:List (Option Nd)}:∀(S:List (Key×Key×Ac 0)) (n m:Nat),(∀s∈S,okS 0 s)->(∀(i:Nat) (d:Nd),(lvN 0 (S.map (·.2.2)) m)[i]?=some d->P[n+i]?=some (some d))->∃b:List (PT 0),IF P 0 n S b/\Bb 0 b=List.range' n S.length
 | [],n,m,_,_=> ⟨[],trivial,rfl⟩
 | (lo,hi,t)::S,n,m,hs,f=> by
  obtain ⟨b,g,j⟩:=Zp S (n+1) m (fun s q=> hs s (List.mem_cons_of_mem _ q)) (fun i d q=> by
   have:=f (i+1) d q;rw [show n+(i+1)=n+1+i by omega] at this;exact this)
  have a:P[n]?=some (some ((1,t,[],[],[]):Nd)):=f 0 _ rfl;obtain ⟨k,-,-⟩:=hs _ (List.mem_cons_self ..);refine ⟨lfP n::b,⟨⟨rfl,⟨_,a,rfl,⟨(fun x l=> Nu.2 (k.2 x l).1),(fun c o=> by cases o),(fun p f=> by cases f)⟩⟩,?_⟩,g⟩,?_⟩
  ·show its (pg P n)=t;rw [Ht a];rfl
  ·rw [Ez,j];rfl
theorem Zq {h:Nat} (S:List (Key×Key×Ac (h+1))):((S.map fun s=> kidsB h s.2.1 (Mg s.2.2)).flatten).map (·.2.2)=Mp h (S.map (·.2.2)):=by
 unfold Mp;rw [List.map_flatten,List.map_map,List.map_map];congr 1;refine List.map_congr_left fun s _=> ?_
 exact Od h s.2.1 (Mg s.2.2)
theorem Afs {P:List (Option Nd)}:∀(h:Nat) (S:List (Key×Key×Ac h)) (a:Nat),(∀s∈S,okS h s)->(∀(i:Nat) (c:Nd),(Oc h (S.map (·.2.2)) a)[i]?=some c->P[a+i]?=some (some c))->∃d:List (PT h),IF P h a S d/\(Bb h d).Perm (List.range' a (Oc h (S.map (·.2.2)) a).length)
 | 0,S,a,hs,hp=> by
  obtain ⟨f,g,j⟩:=Zp S a _ hs hp;refine ⟨f,g,?_⟩;rw [Oc,Se,List.length_map,j]
 | h+1,S,a,hs,hp=> by
  have b:(lvN (h+1) (S.map (·.2.2)) (a+(S.map (·.2.2)).length)).length=S.length:=by rw [Se,List.length_map]
  rw [Oc] at hp;obtain ⟨d,g,j⟩:=Afs h ((S.map fun s=> kidsB h s.2.1 (Mg s.2.2)).flatten) (a+S.length) (fun s q=> by
   obtain ⟨l,m,k⟩:=List.mem_flatten.1 q;obtain ⟨u,n,rfl⟩:=List.mem_map.1 m;obtain ⟨lo,hi,t⟩:=u;obtain ⟨r,y⟩:=t;exact Afq (hs _ n).1.1 s k) (fun i c q=> by
   rw [Zq] at q;have:=hp (S.length+i) c (by rw [List.getElem?_append_right (by rw [b];omega),b,Nat.add_sub_cancel_left,List.length_map];exact q);rw [<-Nat.add_assoc] at this;exact this)
  obtain ⟨f,o,p⟩:=Anv S a (a+S.length) d hs g (fun i c q=> by
   refine hp i c ?_;rw [List.length_map,List.getElem?_append_left]
   ·exact q
   ·have:=(List.getElem?_eq_some_iff.1 q).1;rw [Se,List.length_map] at this;rw [Se,List.length_map];exact this)
  refine ⟨f,o,p.trans ?_⟩;rw [Oc,List.length_append,b,Zq] at*;rw [List.length_map];refine (List.Perm.append_left _ j).trans ?_;rw [List.range'_append_1]
theorem Aft {P:List (Option Nd)} {h:Nat} {t:Ac h} (p:WF h [] none t) (r:Top h t) (c:P=(Oc h [t] 0).map some):∃f:PT h,Co P h [] [] f/\num h f=0/\(nums h f).Nodup/\(∀n,n < P.length->n∈nums h f)/\tr P h [] [] f=t:=by
 obtain ⟨g,a,b⟩:=Afs (P:=P) h [([],[],t)] 0 (fun s m=> by rw [List.mem_singleton.1 m];exact ⟨p,r,rfl⟩) (fun i o q=> by
  rw [Nat.zero_add,c,List.getElem?_map];have q:(Oc h [t] 0)[i]?=some o:=q;rw [q];rfl)
 match g,a with
 | [f],a=>
  obtain ⟨⟨j,k,l⟩,-⟩:=a;have e:Bb h [f]=nums h f:=by unfold Bb;simp
  rw [e] at b;have d:(Oc h ([(([]:Key),([]:Key),t)].map (·.2.2)) 0).length=P.length:=by rw [c,List.length_map];rfl
  rw [d] at b;exact ⟨f,k,j,b.nodup_iff.2 List.nodup_range',fun n u=> b.mem_iff.2 (List.mem_range'_1.2 ⟨Nat.zero_le _,by omega⟩),l⟩
 | _::_::_,a=> exact a.2.elim
end Go.Proofs.YtolgpnaoaodepaaGreat.Ld
namespace Go.Proofs.YtolgpnaoaodepaaGreat
open Go.RowKit
end Go.Proofs.YtolgpnaoaodepaaGreat
