import Derived.Test.YtolgpnaoaodepaaGreatTreZCm
namespace Go.Proofs.YtolgpnaoaodepaaGreat.Tr
def nxt {α:Type} (B:List (Key×α)) (hi:Option Key):Option Key:=match B with
 | []=> hi
 | (f,_)::_=> some f
theorem Fj {α:Type} {R:Key->Option Key->α->Prop} {m hi:Option Key} {B:List (Key×α)} (h:Ba R m hi B):m=nxt B hi:=by
 cases B with
 | nil=> exact h
 | cons p r=> exact h.1
theorem Abe {α β:Type} {S:Key->Option Key->α->Prop} {R:Key->Option Key->β->Prop} {hi:Option Key} (g:Nat->α->β):∀(B:List (Key×α)) (n:Nat) (lo:Option Key),Ba S lo hi B->(∀(b:List (Key×α)) f s (c:List (Key×α)) m,B=b++(f,s)::c->room f m->S f m s->m=nxt c hi->R f m (g (n+b.length) s))->Ba R lo hi ((B.mapIdx fun j q=> (q.1,g (n+j) q.2)))
 | [],_,_,h,_=> h
 | (f,s)::r,n,lo,⟨e,m,h1,h2,h3⟩,hR=> by
  rw [List.mapIdx_cons];refine ⟨e,m,h1,by have:=hR [] f s r m rfl h1 h2 (Fj h3);simpa using this,?_⟩;have:=Abe g r (n+1) m h3 (fun b i k c l o p t u=> by
   have:=hR ((f,s)::b) i k c l (by rw [o];rfl) p t u;rw [List.length_cons] at this;rw [show n+1+b.length=n+(b.length+1) by omega];exact this)
  have d:(fun (j:Nat) (q:Key×α)=> (q.1,g (n+1+j) q.2))=fun j q=> (q.1,g (n+(j+1)) q.2):=by
   funext j q;rw [show n+1+j=n+(j+1) by omega]
  rw [d] at this;exact this
theorem Lz {h:Nat} {R:Key->Option Key->Ac h->Prop} {hi:Option Key}:∀(k:List (List (Key×Ac h))) (lo:Key),(∀s∈k,s≠[])->k≠[]->room lo hi->Ba R (some lo) hi k.flatten->Ba (fun f m (s:List (Key×Ac h))=> Ba R (some f) m s) (some lo) hi (k.map fun s=> (Fd s,s))
 | [],_,_,h,_,_=> absurd rfl h
 | [s],lo,hs,_,hr,hc=> by
  rw [show [s].flatten=s by simp] at hc;have d:Fd s=lo:=by
   cases s with
   | nil=> exact absurd rfl (hs [] (List.mem_cons_self ..))
   | cons p r=> exact (Option.some.inj hc.1).symm
  refine ⟨by rw [d],hi,?_,?_,rfl⟩
  ·rw [d];exact hr
  ·rw [d];exact hc
 | s::s2::r,lo,hs,_,hr,hc=> by
  rw [List.flatten_cons] at hc;obtain ⟨m,j,i⟩:=Bc.1 hc;have d:Fd s=lo:=by
   cases s with
   | nil=> exact absurd rfl (hs [] (List.mem_cons_self ..))
   | cons p q=> exact (Option.some.inj j.1).symm
  have z:m=some (Fd s2):=by
   have l:=hs s2 (List.mem_cons_of_mem _ (List.mem_cons_self ..))
   cases s2 with
   | nil=> exact absurd rfl l
   | cons p q=> rw [List.flatten_cons] at i;exact i.1
  subst z;have n:lo < Fd s2:=by
   cases s with
   | nil=> exact absurd rfl (hs [] (List.mem_cons_self ..))
   | cons p q=>
    obtain ⟨e,A,t,_,u⟩:=j;obtain ⟨a,y,g⟩:=Jn u (Fd s2) rfl;have:=(t a y).1;rw [<-Option.some.inj e] at this;exact Hq this g
  have o:room (Fd s2) hi:=fun b c=> by
   have l:=hs s2 (List.mem_cons_of_mem _ (List.mem_cons_self ..))
   cases s2 with
   | nil=> exact absurd rfl l
   | cons p q=>
    rw [List.flatten_cons] at i;obtain ⟨e,A,t,_,u⟩:=i;obtain ⟨a,y,g⟩:=Jn u b c;exact ⟨Hq (t a y).1 g,(hr b c).2⟩
  refine ⟨by rw [d],some (Fd s2),fun b c=> ?_,?_,Lz (s2::r) (Fd s2) (fun q B=> hs q (List.mem_cons_of_mem _ B)) (by simp) o i⟩
  ·rw [d,<-Option.some.inj c];exact ⟨n,Ab3 j (hs s (List.mem_cons_self ..)) _ rfl⟩
  ·rw [d];exact j
def brT {h:Nat} (s:List (Key×Ac h)) (cs:List Ch):Ac (h+1):=(s,cs)
theorem Aou {α β γ:Type} (k:α->β) (F:Nat->α->γ) (G:Nat->β->γ) (h:∀j a,F j a=G j (k a)) (l:List α):l.mapIdx F=(l.map k).mapIdx G:=by
 refine List.ext_getElem (by simp) fun j b c=> ?_
 simp [h]
theorem Abf {h:Nat} (a:List (List (Key×Ac h))) (b:List Ch):Ep a b=((a.map fun s=> (Fd s,s)).mapIdx fun j q=> (q.1,brT q.2 (b.filter fun c=> decide (ix (a.map Fd) c.2.1=0+j)))):=
 Aou (fun s=> (Fd s,s)) _ _ (fun j s=> by rw [Nat.zero_add];rfl) a
theorem Aco {h:Nat} {hi:Option Key} (a:List (List (Key×Ac h))) (lo:Key) (o:List Ch) (G:∀s∈a,s≠[]/\s.length<=4) (h0:a≠[]) (T:room lo hi) (U:Ba (fun f m t=> WF h f m t/\Top h t) (some lo) hi a.flatten) (n:∀c∈o,inR lo hi c.2.1/\Ew c) (V:o.length<=8):Ba (fun f m t=> WF (h+1) f m t/\Top (h+1) t) (some lo) hi (Ep a o):=by
 have d:=Lz a lo (fun s q=> (G s q).1) h0 T U;have p:(a.map fun s=> (Fd s,s)).map (·.1)=a.map Fd:=by rw [List.map_map];rfl
 rw [Abf];refine Abe (fun j s=> brT s (o.filter fun c=> decide (ix (a.map Fd) c.2.1=j))) (a.map fun s=> (Fd s,s)) 0 (some lo) d (fun N f s O m e z R S=> ?_);have g:s∈a:=by
  have:(f,s)∈a.map fun s=> (Fd s,s):=by rw [e];simp
  obtain ⟨D,y,q⟩:=List.mem_map.1 this;have:=(Prod.mk.inj q).2;rw [<-this];exact y
 refine ⟨⟨R,fun c C=> ?_⟩,(G s g).2,Nat.le_trans (List.length_filter_le _ _) V⟩;obtain ⟨b,l⟩:=List.mem_filter.1 C;have r:=of_decide_eq_true l;refine ⟨?_,(n c b).2⟩;obtain ⟨A,H,D,B,I,J,F,W,X,L,Y,M⟩:=El d (n c b).1;rw [p,r,Nat.zero_add] at F;have u:A=N/\(H,D)::B=(f,s)::O:=List.append_inj (J.symm.trans e) F.symm;have i:=List.cons.inj u.2;have k:I=nxt B hi:=Fj M;rw [i.2,<-S] at k;rw [<-k,<-(Prod.mk.inj i.1).1];exact L
theorem Aed {α:Type} {R:Key->Option Key->α->Prop} {hi:Option Key} {f:Key} {t:α} {B:List (Key×α)} {k:Key} (g:inR f (nxt B hi) k):∀(A:List (Key×α)) (lo:Option Key),Ba R lo hi (A++(f,t)::B)->ix ((A++(f,t)::B).map (·.1)) k=A.length
 | [],_,_=> by
  cases B with
  | nil=> rfl
  | cons p r=>
   show ix (f::p.1::r.map (·.1)) k=0;rw [ix,if_pos (g.2 p.1 rfl)]
 | [a],lo,⟨_,_,_,_,_⟩=> by
  have i:=Aed g [] _ (by assumption);show ix (a.1::f::B.map (·.1)) k=1;rw [ix,if_neg g.1];have c:ix (f::B.map (·.1)) k=0:=i;rw [c]
 | a::b::A,lo,⟨_,m,_,_,h3⟩=> by
  have i:=Aed g (b::A) m h3;show ix (a.1::b.1::(A++(f,t)::B).map (·.1)) k=A.length+1+1;have o:¬k < b.1:=by
   obtain ⟨u,n,y⟩:=Bc.1 h3;have j:u=some f:=y.1;obtain ⟨z,d,l⟩:=Jn n f j;have q:m=some b.1:=n.1;rw [q] at d;have s:b.1=z:=Option.some.inj d;rw [s];exact Aie l g.1
  rw [ix,if_neg o];have c:ix (b.1::(A++(f,t)::B).map (·.1)) k=A.length+1:=i;rw [c]
theorem Xv {α:Type} (B C:List (Key×α)) (hi:Option Key):nxt (B++C) hi=nxt B (nxt C hi):=by
 cases B with
 | nil=> rfl
 | cons p r=> rfl
theorem Ajs {α β:Type} {f:α->β}:∀{l:List α} {A B:List β} {y:β},l.map f=A++y::B->∃a x b,l=a++x::b/\a.map f=A/\f x=y/\b.map f=B:=by
 intro l A B y h;obtain ⟨c,k,rfl,d,g⟩:=List.map_eq_append_iff.1 h;obtain ⟨x,r,rfl,i,j⟩:=List.map_eq_cons_iff.1 g;exact ⟨c,x,r,rfl,d,i,j⟩
theorem Aee {h:Nat} (a:List (List (Key×Ac h))) (b:List Ch):(Ep a b).map (·.1)=a.map Fd:=by
 refine List.ext_getElem (by simp [Ep]) fun j c d=> ?_
 simp [Ep]
theorem Ah2 {h:Nat} {hi:Option Key} (i:List (List (Key×Ac h))) (lo:Key) (d:List Ch) (S:∀s∈i,s≠[]/\s.length<=4) (h0:i≠[]) (hr:room lo hi) (O:Ba (fun f m t=> WF h f m t/\Top h t) (some lo) hi i.flatten) {k:Key} (hk:inR lo hi k):val (h+2) (Ep i d,[]) k=val (h+1) (i.flatten,d) k:=by
 have y:=Lz i lo (fun s q=> (S s q).1) h0 hr O;have z:(i.map fun s=> (Fd s,s)).map (·.1)=i.map Fd:=by rw [List.map_map];rfl
 obtain ⟨A,f,s,B,m,U,M,V,e4,W,e6,X⟩:=El y hk;obtain ⟨a,g,b,rfl,Y,Z,q3⟩:=Ajs U;obtain ⟨rfl,rfl⟩:=Prod.mk.inj Z;have C:A.length=a.length:=by rw [<-Y,List.length_map]
 rw [z,C] at M;have D:val (h+2) (Ep (a++g::b) d,[]) k=val (h+1) (brT g (d.filter fun c=> decide (ix ((a++g::b).map Fd) c.2.1=a.length))) k:=by
  have j:(Ep (a++g::b) d).map (·.1)=(a++g::b).map Fd:=by
   exact Aee _ d
  have u:(Ep (a++g::b) d)[a.length]?=some (Fd g,brT g (d.filter fun c=> decide (ix ((a++g::b).map Fd) c.2.1=a.length))):=by
   rw [Abf];simp
  rw [val,j,M,u,Lq]
 rw [D];obtain ⟨n,o,t,l,m2,d1,d2,d3,d4,d5,d6,d7⟩:=El V W;subst d1;have F:val (h+1) (brT (n++(o,t)::l) (d.filter fun c=> decide (ix ((a++(n++(o,t)::l)::b).map Fd) c.2.1=a.length))) k=Aj (d.filter fun c=> decide (ix ((a++(n++(o,t)::l)::b).map Fd) c.2.1=a.length)) k (val h t k):=Pv d2;rw [F,Fc _ _ _ _ (fun c _ N=> decide_eq_true (by rw [N];exact M))];have G:(a++(n++(o,t)::l)::b).flatten=(a.flatten++n)++(o,t)::(l++b.flatten):=by simp
 rw [G] at O ⊢;have H:=Aed (R:=fun f m t=> WF h f m t/\Top h t) (hi:=hi) (f:=o) (t:=t) (B:=l++b.flatten) (k:=k) (by
  rw [Xv];have I:m2=nxt l m:=Fj d7;have J:m=nxt b.flatten hi:=by
   have T:m=nxt B hi:=Fj X;rw [T,<-q3]
   cases b with
   | nil=> rfl
   | cons s2 r=>
    have L:=(S s2 (by simp)).1
    cases s2 with
    | nil=> exact absurd rfl L
    | cons p q=> rfl
  rw [<-J,<-I];exact d5) (a.flatten++n) (some lo) O
 exact (Pv H).symm
theorem Hy {α:Type} (l:List α) (a:Nat) (j:0 < a):(∀s∈shares l a,s≠[]/\s.length<=a)/\(shares l a).flatten=l/\(l≠[]->shares l a≠[]):=by
 obtain ⟨f,g,c⟩:=Hx l a j;refine ⟨fun s d=> ⟨Wa _ l g s d,Aik _ l f s d⟩,Aij _ l (fun h=> ?_),fun i e=> ?_⟩
 ·have:l.length=0:=by rcases Nat.eq_zero_or_pos l.length with q | q;exact q;have:=c q;omega
  exact List.eq_nil_of_length_eq_zero this
 ·have b:0 < l.length:=List.length_pos_iff.2 i;have:=congrArg List.length e;unfold shares at this;rw [Jq,List.length_nil] at this;have:=c b;omega
def Gg:(h:Nat)->Key->Ac h->List (Key×Ac h)
 | 0,f,l=> if 16 < (its l).length then Dz f (shares (its l) 16) else [(f,l)]
 | _+1,f,(ps,cs)=> if 4 < ps.length then Ep (shares ps 4) cs else [(f,brT ps cs)]
theorem Rj {f:Key} {l:Ac 0} (h:16 < (its l).length):Gg 0 f l=Dz f (shares (its l) 16):=if_pos h
theorem Ma {f:Key} {l:Ac 0} (h:¬16 < (its l).length):Gg 0 f l=[(f,l)]:=if_neg h
theorem Nl {h:Nat} {f:Key} {a:List (Key×Ac h)} {b:List Ch} (c:4 < a.length):Gg (h+1) f (brT a b)=Ep (shares a 4) b:=if_pos c
theorem Jr {h:Nat} {f:Key} {a:List (Key×Ac h)} {b:List Ch} (c:¬4 < a.length):Gg (h+1) f (brT a b)=[(f,brT a b)]:=if_neg c
theorem Js:∀(h:Nat) {lo:Key} {hi:Option Key} {t:Ac h},room lo hi->WF h lo hi t->Gw h t->Ba (fun f m t=> WF h f m t/\Top h t) (some lo) hi (Gg h lo t)
 | 0,lo,hi,l,hr,hw,_=> by
  by_cases a:16 < (its l).length
  ·rw [Rj a];obtain ⟨c,b,d⟩:=Hy (its l) 16 (by decide);refine Xt _ lo (d (by intro e;rw [e] at a;simp at a)) hr c ?_ ?_
   ·rw [b];exact hw.1
   ·rw [b];exact hw.2
  ·rw [Ma a];exact ⟨rfl,hi,hr,⟨hw,Nat.le_of_not_lt a⟩,rfl⟩
 | h+1,lo,hi,(ps,cs),hr,hw,hs=> by
  show Ba (fun f m t=> WF (h+1) f m t/\Top (h+1) t) (some lo) hi (Gg (h+1) lo (brT ps cs));by_cases a:4 < ps.length
  ·rw [Nl a];obtain ⟨c,b,d⟩:=Hy ps 4 (by decide);exact Aco _ lo cs c (d (by intro e;rw [e] at a;simp at a)) hr (by rw [b];exact hw.1) hw.2 hs
  ·rw [Jr a];exact ⟨rfl,hi,hr,⟨hw,Nat.le_of_not_lt a,hs⟩,rfl⟩
theorem Rk {h:Nat} (f:Key) (t:Ac h) (k:Key):val (h+1) ([(f,t)],[]) k=val h t k:=rfl
theorem Aef:∀(h:Nat) {lo:Key} {hi:Option Key} {t:Ac h},room lo hi->WF h lo hi t->Gw h t->∀k,inR lo hi k->val (h+1) (Gg h lo t,[]) k=val h t k
 | 0,lo,hi,l,hr,hw,hs,k,hk=> by
  have c:=Js 0 hr hw hs;rw [Am4 c hk];by_cases a:16 < (its l).length
  ·rw [Rj a,Vr,(Hy (its l) 16 (by decide)).2.1];rfl
  ·rw [Ma a];show Bj (its l++[]) k=Bj (its l) k;rw [List.append_nil]
 | h+1,lo,hi,(ps,cs),hr,hw,hs,k,hk=> by
  show val (h+2) (Gg (h+1) lo (brT ps cs),[]) k=val (h+1) (brT ps cs) k;by_cases a:4 < ps.length
  ·rw [Nl a];obtain ⟨d,b,f⟩:=Hy ps 4 (by decide);rw [Ah2 _ lo cs d (f (by intro e;rw [e] at a;simp at a)) hr (by rw [b];exact hw.1) hk,b];rfl
  ·rw [Jr a];rfl
def wts {h:Nat} (ps:List (Key×Ac h)):Nat:=(ps.map fun p=> wt h p.2).sum
theorem Dn {h:Nat} (A B:List (Key×Ac h)):wts (A++B)=wts A+wts B:=by simp [wts]
theorem Dr {h:Nat} (p:Key×Ac h) (B:List (Key×Ac h)):wts (p::B)=wt h p.2+wts B:=by simp [wts]
theorem Ot {h:Nat}:wts ([]:List (Key×Ac h))=0:=rfl
theorem Jt {h:Nat} (a:List (Key×Ac h)) (b:List Ch):wt (h+1) (brT a b)=2*b.length+wts a+((a.length - 1)+(2 - a.length)):=rfl
theorem Apw {h:Nat} (a:List (Key×Ac h)) (b:List Ch):b.length+wts a<=wt (h+1) (brT a b):=by rw [Jt];omega
theorem Abg {α:Type} (g:α->Nat) (n:Nat):∀a:List α,(a.filter fun c=> decide (g c=n)).length+(a.filter fun c=> decide (g c < n)).length=(a.filter fun c=> decide (g c < n+1)).length
 | []=> rfl
 | c::r=> by
  have b:=Abg g n r;rcases Nat.lt_trichotomy (g c) n with q | q | q
  ·rw [List.filter_cons_of_neg (by simp;omega),List.filter_cons_of_pos (by simp;omega),List.filter_cons_of_pos (by simp;omega),List.length_cons,List.length_cons];omega
  ·rw [List.filter_cons_of_pos (by simp;omega),List.filter_cons_of_neg (by simp;omega),List.filter_cons_of_pos (by simp;omega),List.length_cons,List.length_cons];omega
  ·rw [List.filter_cons_of_neg (by simp;omega),List.filter_cons_of_neg (by simp;omega),List.filter_cons_of_neg (by simp;omega)];omega
theorem Abh {h:Nat} (g:Ch->Nat) (a:List Ch):∀(b:List (List (Key×Ac h))) (n:Nat),(∀s∈b,2<=s.length)->wts (b.mapIdx fun j s=> (Fd s,brT s (a.filter fun c=> decide (g c=n+j))))+2*(a.filter fun c=> decide (g c < n)).length+b.length<=2*a.length+wts b.flatten+b.flatten.length
 | [],n,_=> by
  have:=List.length_filter_le (fun c=> decide (g c < n)) a;show 0+_+0<=_+0+0;omega
 | s::r,n,d=> by
  have k:=Abh g a r (n+1) fun x i=> d x (List.mem_cons_of_mem _ i)
  have d:=d s (List.mem_cons_self ..);rw [List.mapIdx_cons,Dr,List.flatten_cons,Dn,List.length_append,List.length_cons];have f:(fun (j:Nat) (q:List (Key×Ac h))=> (Fd q,brT q (a.filter fun c=> decide (g c=n+(j+1)))))=fun j q=> (Fd q,brT q (a.filter fun c=> decide (g c=n+1+j))):=by
   funext j q;rw [show n+(j+1)=n+1+j by omega]
  rw [f,Jt];have:=Abg g n a;rw [Nat.add_zero];omega
theorem Am5 {α:Type}:∀(k:Nat) (l:List α),2*k<=l.length->∀s∈sh k l,2<=s.length
 | 0,_,_,s,a=> by cases a
 | k+1,l,hl,s,a=> by
  rw [sh] at a;have b:l.length=2*(k+1)+(l.length - 2*(k+1)):=by omega
  generalize l.length - 2*(k+1)=x at b;have c:2<=(l.length+k) / (k+1):=(Nat.le_div_iff_mul_le (by omega)).2 (by omega);have d:(l.length+k) / (k+1) < x+3:=by
   refine Nat.div_lt_of_lt_mul ?_;have f:x<=(k+1)*x:=Nat.le_mul_of_pos_left _ (by omega);rw [Nat.mul_add];omega
  rcases List.mem_cons.1 a with rfl | a
  ·rw [List.length_take];omega
  ·exact Am5 k _ (by rw [List.length_drop];omega) s a
theorem Acp:∀(h:Nat) (lo:Key) (t:Ac h),wts (Gg h lo t)+((Gg h lo t).length - 1)<=wt h t
 | 0,lo,l=> by
  by_cases a:16 < (its l).length
  ·rw [Rj a];obtain ⟨d,g,o⟩:=Hy (its l) 16 (by decide);have i:∀(ls:List (List It)),(∀s∈ls,s.length<=16)->wts (Nj ls)=ls.length:=by
    intro ls
    induction ls with
    | nil=> intro _;rfl
    | cons s r ih=>
     intro q;show wts (h:=0) ((Rf s,s)::Nj r)=_;rw [Dr,ih fun x f=> q x (List.mem_cons_of_mem _ f),List.length_cons];have:=q s (List.mem_cons_self ..);show 1+2*(List.length (α:=It) s - 16)+r.length=_;omega
   have e:wts (Dz lo (shares (its l) 16))=(shares (its l) 16).length:=by
    cases n:shares (its l) 16 with
    | nil=> rfl
    | cons s r=>
     rw [n] at d;have k:=i r fun x f=> (d x (List.mem_cons_of_mem _ f)).2
     have:=(d s (List.mem_cons_self ..)).2;show wts (h:=0) ((lo,s)::Nj r)=_;rw [Dr,k,List.length_cons];show 1+2*(List.length (α:=It) s - 16)+r.length=_;omega
   have b:(Dz lo (shares (its l) 16)).length=(shares (its l) 16).length:=by
    cases shares (its l) 16 with
    | nil=> rfl
    | cons s r=> simp [Dz,Nj]
   rw [e,b];unfold shares;rw [Jq];show _<=1+2*((its l).length - 16);omega
  ·rw [Ma a,Dr,Ot];exact Nat.le_refl _
 | h+1,lo,(ps,cs)=> by
  show wts (Gg (h+1) lo (brT ps cs))+((Gg (h+1) lo (brT ps cs)).length - 1)<=wt (h+1) (brT ps cs);by_cases a:4 < ps.length
  ·rw [Nl a];have g:=(Hy ps 4 (by decide)).2.1;have:=Abh (fun c=> ix ((shares ps 4).map Fd) c.2.1) cs (shares ps 4) 0 (Am5 _ ps (by omega));rw [g] at this;have e:(fun (j:Nat) (q:List (Key×Ac h))=> (Fd q,brT q (cs.filter fun c=> decide (ix ((shares ps 4).map Fd) c.2.1=0+j))))=fun j q=> (Fd q,brT q (cs.filter fun c=> decide (ix ((shares ps 4).map Fd) c.2.1=j))):=by
    funext j q;rw [Nat.zero_add]
   rw [e] at this;have b:(Ep (shares ps 4) cs).length=(shares ps 4).length:=(by simp [Ep]);rw [b,Jt];have m:1<=(shares ps 4).length:=(by unfold shares;rw [Jq];omega);have h0:wts (Ep (shares ps 4) cs)+2*(cs.filter fun c=> decide (ix ((shares ps 4).map Fd) c.2.1 < 0)).length+(shares ps 4).length<=2*cs.length+wts ps+ps.length:=this;omega
  ·rw [Jr a,Dr,Ot];exact Nat.le_refl _
theorem Ft {h:Nat} {R:Key->Option Key->Ac h->Prop} {lo m hi:Option Key} {f:Key} {A X B:List (Key×Ac h)} (D:Ba R lo (some f) A) (o:Ba R (some f) m X) (p:Ba R m hi B) (q:List Ch) {k:Key} (F:inR f m k):val (h+1) (A++X++B,q) k=Aj q k (val (h+1) (X,[]) k):=by
 obtain ⟨j,l,n,c,s,u,y,G,H,z,I,C⟩:=El o F;have b:Ba R lo hi (A++X++B):=Bc.2 ⟨m,Bc.2 ⟨some f,D,o⟩,p⟩;subst u;have d:A++(j++(l,n)::c)++B=(A++j)++(l,n)::(c++B):=by simp
 rw [d] at b ⊢;have r:m=nxt B hi:=Fj p;have g:s=nxt c m:=Fj C;have i:=Aed (R:=R) (hi:=hi) (f:=l) (t:=n) (B:=c++B) (k:=k) (by rw [Xv,<-r,<-g];exact z) (A++j) lo b;rw [Pv i,Pv y,Lq]
theorem Aqy {lo:Key} {hi m:Option Key} {f k:Key} (i:inR lo hi k):inR lo (some f) k\/inR f m k\/∃b,m=some b/\inR b hi k:=by
 by_cases d:k < f
 ·exact .inl ⟨i.1,fun b a=> by rw [<-Option.some.inj a];exact d⟩
 ·cases m with
  | none=> exact .inr (.inl ⟨d,fun b a=> by cases a⟩)
  | some b=>
   by_cases g:k < b
   ·exact .inr (.inl ⟨d,fun c j=> by rw [<-Option.some.inj j];exact g⟩)
   ·exact .inr (.inr ⟨b,rfl,g,i.2⟩)
theorem Qb {h:Nat} {R j:Key->Option Key->Ac h->Prop} {lo:Key} {m hi:Option Key} {f:Key} {A X Y B:List (Key×Ac h)} (l:Ba R (some lo) (some f) A) (n:Ba R (some f) m X) (o:Ba R m hi B) (c:Ba j (some lo) (some f) A) (p:Ba j (some f) m Y) (d:Ba j m hi B) (a:List Ch) (r:∀k,inR f m k->val (h+1) (Y,[]) k=val (h+1) (X,[]) k) {k:Key} (s:inR lo hi k):val (h+1) (A++Y++B,a) k=val (h+1) (A++X++B,a) k:=by
 rcases Aqy (f:=f) (m:=m) s with q | q | ⟨b,rfl,q⟩
 ·have g:=Ft (R:=R) (lo:=some lo) (A:=[]) (X:=A) (B:=X++B) (f:=lo) rfl l (Bc.2 ⟨m,n,o⟩) a q;have i:=Ft (R:=j) (lo:=some lo) (A:=[]) (X:=A) (B:=Y++B) (f:=lo) rfl c (Bc.2 ⟨m,p,d⟩) a q;simp only [List.nil_append] at g i;rw [List.append_assoc,List.append_assoc,g,i]
 ·rw [Ft l n o a q,Ft c p d a q,r k q]
 ·have g:=Ft (R:=R) (lo:=some lo) (A:=A++X) (X:=B) (B:=[]) (f:=b) (Bc.2 ⟨_,l,n⟩) o rfl a q;have i:=Ft (R:=j) (lo:=some lo) (A:=A++Y) (X:=B) (B:=[]) (f:=b) (Bc.2 ⟨_,c,p⟩) d rfl a q;simp only [List.append_nil] at g i;rw [g,i]
end Go.Proofs.YtolgpnaoaodepaaGreat.Tr
namespace Go.Proofs.YtolgpnaoaodepaaGreat
open Go.RowKit
theorem Rl {w:World} {B:Nat} {e:TypeId} {s n:Nat} {v:Value} {xs:List Value} (h:w.ownsRow B e s v n xs):∀g∈blk v,B<=g:=fun g a=> (World.ownsRow.lt h g (Af.1 a)).1
theorem Bn (l:List (ByteArray×ByteArray)):(plain l).length=l.length:=by simp [plain]
theorem Ao (l:List (Int×ByteArray×ByteArray)):(plainCh l).length=l.length:=by simp [plainCh]
theorem Acq:∀(h:Nat) (f:ByteArray) (p:Nat) (t:Tr.Ac h) (F:List Nat) (w:World),Rep h w p t F->F.Nodup->∀lo hi,Tr.WF h lo hi t->Tr.wt h t<=1800000->
  Calls Tryz.prog 64 #[.agg #[.string f,.pointer (some ⟨p,0,none⟩)]] w fun r w'=>∃v pl G,r= .returned v/\CtQ h w (Tr.Gg h f.data.toList t) v pl G w'/\(∀g∈G,g∈F\/w.heap.size<=g)/\Below w.heap.size w w'
 | 0,f,p,t,F,w,hr,hnd,lo,hi,_,hwt=> by
  have d:=hr;obtain ⟨O,il,s,I,rfl,rfl⟩:=hr;have L:1+2*(il.length - 16)<=1800000:=by rw [<-Bn il];exact hwt
  by_cases n:16 < il.length
  ·have e:Tr.Gg 0 f.data.toList (plain il)=Tr.Dz f.data.toList (Tr.shares (plain il) 16):=Tr.Rj (l:=plain il) (by show 16 < (plain il).length;rw [Bn];exact n);rw [e];exact (Am2 f p O il w s I n (by omega)).mono fun r w' ⟨v,pl,G,j,k,m,U⟩=> ⟨v,pl,G,j,k,fun g i=> .inr (m g i),U⟩
  ·have e:Tr.Gg 0 f.data.toList (plain il)=[(f.data.toList,plain il)]:=Tr.Ma (l:=plain il) (by show ¬16 < (plain il).length;rw [Bn];exact n);rw [e];obtain ⟨a,c,rfl⟩:=Ab I;refine (Rg f p a none il.length 0 c 0 _ w s (by omega) (by omega)).mono fun r w' ⟨v,j,k,m⟩=> ⟨v,_,_,j,⟨k,⟨rfl,_,[],d.keep fun g i=> m.block g (d.lt g i),rfl,(List.append_nil _).symm⟩,?_⟩,fun g i=> .inl i,m⟩
   refine List.nodup_append.2 ⟨Dy v,hnd,fun a B b D q=> ?_⟩;have:=Rl k a B;have:=d.lt b D;omega
 | h+1,f,p,(ps,cs),F,w,hr,hnd,lo,hi,hw,hwt=> by
  have d:=hr;obtain ⟨vp,vc,u,ml,W,s,y,A,rfl,J,rfl⟩:=hr;have o:(plainCh ml).length+Tr.wts ps<=1800000:=Nat.le_trans (Tr.Apw ps _) hwt;rw [Ao] at o;have M:ps.length<=Tr.wts ps:=Tr.Hd hw.1;have N:=J.len;by_cases n:4 < ps.length
  ·have e:Tr.Gg (h+1) f.data.toList (ps,plainCh ml)=Tr.Ep (Tr.shares ps 4) (plainCh ml):=Tr.Nl n;rw [e];have z:=List.nodup_append.1 (List.nodup_append.1 (List.nodup_cons.1 hnd).2).2.1;refine (Am3 f p vp vc u ml w s y A (by omega) (by omega) (by omega)).mono fun r w' ⟨v,pl,vs,V,C,j,H⟩=> ?_
   obtain ⟨G,R,S,T⟩:=Aos J z.2.1 (fun g i=> d.lt g (by simp [i])) (by omega) H;exact ⟨v,pl,G,j,⟨H.row,R,S⟩,fun g i=> (T g i).imp (fun q=> by simp [q]) id,H.bel⟩
  ·have e:Tr.Gg (h+1) f.data.toList (ps,plainCh ml)=[(f.data.toList,Tr.brT ps (plainCh ml))]:=Tr.Jr n;rw [e];obtain ⟨a,c,rfl⟩:=Ab y;refine (Rg f p none a 0 u.length 0 c _ w s (by omega) (by omega)).mono fun r w' ⟨v,j,k,m⟩=> ⟨v,_,_,j,⟨k,⟨rfl,_,[],d.keep fun g i=> m.block g (d.lt g i),rfl,(List.append_nil _).symm⟩,?_⟩,fun g i=> .inl i,m⟩
   refine List.nodup_append.2 ⟨Dy v,hnd,fun a B b D q=> ?_⟩;have:=Rl k a B;have:=d.lt b D;omega
end Go.Proofs.YtolgpnaoaodepaaGreat
