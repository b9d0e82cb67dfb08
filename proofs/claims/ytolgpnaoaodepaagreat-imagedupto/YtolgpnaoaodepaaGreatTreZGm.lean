import Derived.Test.YtolgpnaoaodepaaGreatTreZCm
namespace Go.Proofs.YtolgpnaoaodepaaGreat.Tr
def nxt {α:Type} (B:List (Key×α)) (hi:Option Key):Option Key:=match B with
 | []=> hi
 | (f,_)::_=> some f
theorem chain_nxt {α:Type} {R:Key→Option Key→α→Prop} {m hi:Option Key} {B:List (Key×α)} (h:Chain R m hi B):m=nxt B hi:=by
 cases B with
 | nil=> exact h
 | cons p r=> exact h.1
theorem chain_idx {α β:Type} {S:Key→Option Key→α→Prop} {R:Key→Option Key→β→Prop} {hi:Option Key} (g:Nat→α→β):∀(B:List (Key×α)) (n:Nat) (lo:Option Key),Chain S lo hi B→(∀(b:List (Key×α)) f s (c:List (Key×α)) m,B=b++(f,s)::c→room f m→S f m s→m=nxt c hi→R f m (g (n+b.length) s))→Chain R lo hi ((B.mapIdx fun j q=> (q.1,g (n+j) q.2)))
 | [],_,_,h,_=> h
 | (f,s)::r,n,lo,⟨e,m,h1,h2,h3⟩,hR=> by
  rw [List.mapIdx_cons]
  refine ⟨e,m,h1,by have:=hR [] f s r m rfl h1 h2 (chain_nxt h3);simpa using this,?_⟩
  have:=chain_idx g r (n+1) m h3 (fun b i k c l o p t u=> by
   have:=hR ((f,s)::b) i k c l (by rw [o];rfl) p t u
   rw [List.length_cons] at this
   rw [show n+1+b.length=n+(b.length+1) by omega]
   exact this)
  have d:(fun (j:Nat) (q:Key×α)=> (q.1,g (n+1+j) q.2))=fun j q=> (q.1,g (n+(j+1)) q.2):=by
   funext j q;rw [show n+1+j=n+(j+1) by omega]
  rw [d] at this
  exact this
theorem chain_shares {h:Nat} {R:Key→Option Key→TreeT h→Prop} {hi:Option Key}:∀(k:List (List (Key×TreeT h))) (lo:Key),(∀s∈k,s≠[])→k≠[]→room lo hi→Chain R (some lo) hi k.flatten→Chain (fun f m (s:List (Key×TreeT h))=> Chain R (some f) m s) (some lo) hi (k.map fun s=> (bkey s,s))
 | [],_,_,h,_,_=> absurd rfl h
 | [s],lo,hs,_,hr,hc=> by
  rw [show [s].flatten=s by simp] at hc
  have d:bkey s=lo:=by
   cases s with
   | nil=> exact absurd rfl (hs [] (List.mem_cons_self ..))
   | cons p r=> exact (Option.some.inj hc.1).symm
  refine ⟨by rw [d],hi,?_,?_,rfl⟩
  ·rw [d];exact hr
  ·rw [d];exact hc
 | s::s2::r,lo,hs,_,hr,hc=> by
  rw [List.flatten_cons] at hc
  obtain ⟨m,j,i⟩:=chain_append.1 hc
  have d:bkey s=lo:=by
   cases s with
   | nil=> exact absurd rfl (hs [] (List.mem_cons_self ..))
   | cons p q=> exact (Option.some.inj j.1).symm
  have w:m=some (bkey s2):=by
   have l:=hs s2 (List.mem_cons_of_mem _ (List.mem_cons_self ..))
   cases s2 with
   | nil=> exact absurd rfl l
   | cons p q=> rw [List.flatten_cons] at i;exact i.1
  subst w
  have n:lo < bkey s2:=by
   cases s with
   | nil=> exact absurd rfl (hs [] (List.mem_cons_self ..))
   | cons p q=>
    obtain ⟨e,x,t,_,u⟩:=j
    obtain ⟨a,v,g⟩:=chain_lo u (bkey s2) rfl
    have:=(t a v).1
    rw [←Option.some.inj e] at this
    exact lt_le this g
  have o:room (bkey s2) hi:=fun b c=> by
   have l:=hs s2 (List.mem_cons_of_mem _ (List.mem_cons_self ..))
   cases s2 with
   | nil=> exact absurd rfl l
   | cons p q=>
    rw [List.flatten_cons] at i
    obtain ⟨e,x,t,_,u⟩:=i
    obtain ⟨a,v,g⟩:=chain_lo u b c
    exact ⟨lt_le (t a v).1 g,(hr b c).2⟩
  refine ⟨by rw [d],some (bkey s2),fun b c=> ?_,?_,chain_shares (s2::r) (bkey s2) (fun q y=> hs q (List.mem_cons_of_mem _ y)) (by simp) o i⟩
  ·rw [d,←Option.some.inj c];exact ⟨n,chain_key j (hs s (List.mem_cons_self ..)) _ rfl⟩
  ·rw [d];exact j
def brT {h:Nat} (s:List (Key×TreeT h)) (cs:List Ch):TreeT (h+1):=(s,cs)
theorem idx_map {α β γ:Type} (k:α→β) (F:Nat→α→γ) (G:Nat→β→γ) (h:∀j a,F j a=G j (k a)) (l:List α):l.mapIdx F=(l.map k).mapIdx G:=by
 refine List.ext_getElem (by simp) fun j b c=> ?_
 simp [h]
theorem bparts_eq {h:Nat} (a:List (List (Key×TreeT h))) (b:List Ch):bparts a b=((a.map fun s=> (bkey s,s)).mapIdx fun j q=> (q.1,brT q.2 (b.filter fun c=> decide (ix (a.map bkey) c.2.1=0+j)))):=
 idx_map (fun s=> (bkey s,s)) _ _ (fun j s=> by rw [Nat.zero_add];rfl) a
theorem branch_chain {h:Nat} {hi:Option Key} (a:List (List (Key×TreeT h))) (lo:Key) (o:List Ch) (C:∀s∈a,s≠[]∧s.length≤4) (h0:a≠[]) (M:room lo hi) (N:Chain (fun f m t=> WF h f m t∧Top h t) (some lo) hi a.flatten) (n:∀c∈o,inR lo hi c.2.1∧okCh c) (O:o.length≤8):Chain (fun f m t=> WF (h+1) f m t∧Top (h+1) t) (some lo) hi (bparts a o):=by
 have d:=chain_shares a lo (fun s q=> (C s q).1) h0 M N
 have p:(a.map fun s=> (bkey s,s)).map (·.1)=a.map bkey:=by rw [List.map_map];rfl
 rw [bparts_eq]
 refine chain_idx (fun j s=> brT s (o.filter fun c=> decide (ix (a.map bkey) c.2.1=j))) (a.map fun s=> (bkey s,s)) 0 (some lo) d (fun I f s J m e w K L=> ?_)
 have g:s∈a:=by
  have:(f,s)∈a.map fun s=> (bkey s,s):=by rw [e];simp
  obtain ⟨y,v,q⟩:=List.mem_map.1 this
  have:=(Prod.mk.inj q).2
  rw [←this];exact v
 refine ⟨⟨K,fun c x=> ?_⟩,(C s g).2,Nat.le_trans (List.length_filter_le _ _) O⟩
 obtain ⟨b,l⟩:=List.mem_filter.1 x
 have r:=of_decide_eq_true l
 refine ⟨?_,(n c b).2⟩
 obtain ⟨A,D,y,B,E,F,z,P,Q,G,R,H⟩:=chain_find d (n c b).1
 rw [p,r,Nat.zero_add] at z
 have u:A=I∧(D,y)::B=(f,s)::J:=List.append_inj (F.symm.trans e) z.symm
 have i:=List.cons.inj u.2
 have k:E=nxt B hi:=chain_nxt H
 rw [i.2,←L] at k
 rw [←k,←(Prod.mk.inj i.1).1]
 exact G
end Go.Proofs.YtolgpnaoaodepaaGreat.Tr
namespace Go.Proofs.YtolgpnaoaodepaaGreat.Tr
theorem ix_at {α:Type} {R:Key→Option Key→α→Prop} {hi:Option Key} {f:Key} {t:α} {B:List (Key×α)} {k:Key} (e:inR f (nxt B hi) k):∀(A:List (Key×α)) (lo:Option Key),Chain R lo hi (A++(f,t)::B)→ix ((A++(f,t)::B).map (·.1)) k=A.length
 | [],_,_=> by
  cases B with
  | nil=> rfl
  | cons p r=>
   show ix (f::p.1::r.map (·.1)) k=0
   rw [ix,if_pos (e.2 p.1 rfl)]
 | [a],lo,⟨_,_,_,_,_⟩=> by
  have g:=ix_at e [] _ (by assumption)
  show ix (a.1::f::B.map (·.1)) k=1
  rw [ix,if_neg e.1]
  have c:ix (f::B.map (·.1)) k=0:=g
  rw [c]
 | a::b::A,lo,⟨_,m,_,_,h3⟩=> by
  have g:=ix_at e (b::A) m h3
  show ix (a.1::b.1::(A++(f,t)::B).map (·.1)) k=A.length+1+1
  have l:¬k < b.1:=by
   obtain ⟨q,j,s⟩:=chain_append.1 h3
   have h:q=some f:=s.1
   obtain ⟨u,d,i⟩:=chain_lo j f h
   have n:m=some b.1:=j.1
   rw [n] at d
   have o:b.1=u:=Option.some.inj d
   rw [o]
   exact le_tr i e.1
  rw [ix,if_neg l]
  have c:ix (b.1::(A++(f,t)::B).map (·.1)) k=A.length+1:=g
  rw [c]
theorem nxt_append {α:Type} (B C:List (Key×α)) (hi:Option Key):nxt (B++C) hi=nxt B (nxt C hi):=by
 cases B with
 | nil=> rfl
 | cons p r=> rfl
theorem map_split {α β:Type} {f:α→β}:∀{l:List α} {A B:List β} {y:β},l.map f=A++y::B→∃a x b,l=a++x::b∧a.map f=A∧f x=y∧b.map f=B:=by
 intro l A B y h
 obtain ⟨c,j,rfl,d,e⟩:=List.map_eq_append_iff.1 h
 obtain ⟨x,r,rfl,g,i⟩:=List.map_eq_cons_iff.1 e
 exact ⟨c,x,r,rfl,d,g,i⟩
theorem bparts_keys {h:Nat} (a:List (List (Key×TreeT h))) (b:List Ch):(bparts a b).map (·.1)=a.map bkey:=by
 refine List.ext_getElem (by simp [bparts]) fun j c d=> ?_
 simp [bparts]
theorem branch_val {h:Nat} {hi:Option Key} (g:List (List (Key×TreeT h))) (lo:Key) (d:List Ch) (J:∀s∈g,s≠[]∧s.length≤4) (h0:g≠[]) (Y:room lo hi) (I:Chain (fun f m t=> WF h f m t∧Top h t) (some lo) hi g.flatten) {k:Key} (Z:inR lo hi k):val (h+2) (bparts g d,[]) k=val (h+1) (g.flatten,d) k:=by
 have u:=chain_shares g lo (fun s q=> (J s q).1) h0 Y I
 have v:(g.map fun s=> (bkey s,s)).map (·.1)=g.map bkey:=by rw [List.map_map];rfl
 obtain ⟨A,f,s,B,m,L,G,M,e4,N,e6,O⟩:=chain_find u Z
 obtain ⟨a,e,b,rfl,P,Q,S⟩:=map_split L
 obtain ⟨rfl,rfl⟩:=Prod.mk.inj Q
 have w:A.length=a.length:=by rw [←P,List.length_map]
 rw [v,w] at G
 have x:val (h+2) (bparts (a++e::b) d,[]) k=val (h+1) (brT e (d.filter fun c=> decide (ix ((a++e::b).map bkey) c.2.1=a.length))) k:=by
  have i:(bparts (a++e::b) d).map (·.1)=(a++e::b).map bkey:=by
   exact bparts_keys _ d
  have o:(bparts (a++e::b) d)[a.length]?=some (bkey e,brT e (d.filter fun c=> decide (ix ((a++e::b).map bkey) c.2.1=a.length))):=by
   rw [bparts_eq]
   simp
  rw [val,i,G,o,afterAll_nil]
 rw [x]
 obtain ⟨l,n,t,j,T,U,V,d3,d4,W,d6,X⟩:=chain_find M N
 subst U
 have y:val (h+1) (brT (l++(n,t)::j) (d.filter fun c=> decide (ix ((a++(l++(n,t)::j)::b).map bkey) c.2.1=a.length))) k=afterAll (d.filter fun c=> decide (ix ((a++(l++(n,t)::j)::b).map bkey) c.2.1=a.length)) k (val h t k):=val_at V
 rw [y,afterAll_filter _ _ _ _ (fun c _ H=> decide_eq_true (by rw [H];exact G))]
 have z:(a++(l++(n,t)::j)::b).flatten=(a.flatten++l)++(n,t)::(j++b.flatten):=by simp
 rw [z] at I ⊢
 have C:=ix_at (R:=fun f m t=> WF h f m t∧Top h t) (hi:=hi) (f:=n) (t:=t) (B:=j++b.flatten) (k:=k) (by
  rw [nxt_append]
  have D:T=nxt j m:=chain_nxt X
  have E:m=nxt b.flatten hi:=by
   have K:m=nxt B hi:=chain_nxt O
   rw [K,←S]
   cases b with
   | nil=> rfl
   | cons s2 r=>
    have F:=(J s2 (by simp)).1
    cases s2 with
    | nil=> exact absurd rfl F
    | cons p q=> rfl
  rw [←E,←D];exact W) (a.flatten++l) (some lo) I
 exact (val_at C).symm
end Go.Proofs.YtolgpnaoaodepaaGreat.Tr
namespace Go.Proofs.YtolgpnaoaodepaaGreat.Tr
theorem shares_fit {α:Type} (l:List α) (a:Nat) (j:0 < a):(∀s∈shares l a,s≠[]∧s.length≤a)∧(shares l a).flatten=l∧(l≠[]→shares l a≠[]):=by
 obtain ⟨f,g,c⟩:=shares_num l a j
 refine ⟨fun s d=> ⟨sh_some _ l g s d,sh_most _ l f s d⟩,sh_flat _ l (fun h=> ?_),fun i e=> ?_⟩
 ·have:l.length=0:=by rcases Nat.eq_zero_or_pos l.length with q | q;exact q;have:=c q;omega
  exact List.eq_nil_of_length_eq_zero this
 ·have b:0 < l.length:=List.length_pos_iff.2 i
  have:=congrArg List.length e
  unfold shares at this
  rw [sh_len,List.length_nil] at this
  have:=c b
  omega
def cutT:(h:Nat)→Key→TreeT h→List (Key×TreeT h)
 | 0,f,l=> if 16 < (its l).length then leafParts f (shares (its l) 16) else [(f,l)]
 | _+1,f,(ps,cs)=> if 4 < ps.length then bparts (shares ps 4) cs else [(f,brT ps cs)]
theorem cut0_big {f:Key} {l:TreeT 0} (h:16 < (its l).length):cutT 0 f l=leafParts f (shares (its l) 16):=if_pos h
theorem cut0_small {f:Key} {l:TreeT 0} (h:¬16 < (its l).length):cutT 0 f l=[(f,l)]:=if_neg h
theorem cutS_big {h:Nat} {f:Key} {a:List (Key×TreeT h)} {b:List Ch} (c:4 < a.length):cutT (h+1) f (brT a b)=bparts (shares a 4) b:=if_pos c
theorem cutS_small {h:Nat} {f:Key} {a:List (Key×TreeT h)} {b:List Ch} (c:¬4 < a.length):cutT (h+1) f (brT a b)=[(f,brT a b)]:=if_neg c
theorem cutT_chain:∀(h:Nat) {lo:Key} {hi:Option Key} {t:TreeT h},room lo hi→WF h lo hi t→Small h t→Chain (fun f m t=> WF h f m t∧Top h t) (some lo) hi (cutT h lo t)
 | 0,lo,hi,l,hr,hw,_=> by
  by_cases a:16 < (its l).length
  ·rw [cut0_big a]
   obtain ⟨c,b,d⟩:=shares_fit (its l) 16 (by decide)
   refine leaf_chain _ lo (d (by intro e;rw [e] at a;simp at a)) hr c ?_ ?_
   ·rw [b];exact hw.1
   ·rw [b];exact hw.2
  ·rw [cut0_small a]
   exact ⟨rfl,hi,hr,⟨hw,Nat.le_of_not_lt a⟩,rfl⟩
 | h+1,lo,hi,(ps,cs),hr,hw,hs=> by
  show Chain (fun f m t=> WF (h+1) f m t∧Top (h+1) t) (some lo) hi (cutT (h+1) lo (brT ps cs))
  by_cases a:4 < ps.length
  ·rw [cutS_big a]
   obtain ⟨c,b,d⟩:=shares_fit ps 4 (by decide)
   exact branch_chain _ lo cs c (d (by intro e;rw [e] at a;simp at a)) hr (by rw [b];exact hw.1) hw.2 hs
  ·rw [cutS_small a]
   exact ⟨rfl,hi,hr,⟨hw,Nat.le_of_not_lt a,hs⟩,rfl⟩
theorem val_one {h:Nat} (f:Key) (t:TreeT h) (k:Key):val (h+1) ([(f,t)],[]) k=val h t k:=rfl
theorem cutT_val:∀(h:Nat) {lo:Key} {hi:Option Key} {t:TreeT h},room lo hi→WF h lo hi t→Small h t→∀k,inR lo hi k→val (h+1) (cutT h lo t,[]) k=val h t k
 | 0,lo,hi,l,hr,hw,hs,k,hk=> by
  have c:=cutT_chain 0 hr hw hs
  rw [leaf_val c hk]
  by_cases a:16 < (its l).length
  ·rw [cut0_big a,flat0_leafParts,(shares_fit (its l) 16 (by decide)).2.1];rfl
  ·rw [cut0_small a]
   show look (its l++[]) k=look (its l) k
   rw [List.append_nil]
 | h+1,lo,hi,(ps,cs),hr,hw,hs,k,hk=> by
  show val (h+2) (cutT (h+1) lo (brT ps cs),[]) k=val (h+1) (brT ps cs) k
  by_cases a:4 < ps.length
  ·rw [cutS_big a]
   obtain ⟨d,b,f⟩:=shares_fit ps 4 (by decide)
   rw [branch_val _ lo cs d (f (by intro e;rw [e] at a;simp at a)) hr (by rw [b];exact hw.1) hk,b];rfl
  ·rw [cutS_small a];rfl
def wts {h:Nat} (ps:List (Key×TreeT h)):Nat:=(ps.map fun p=> wt h p.2).sum
theorem wts_append {h:Nat} (A B:List (Key×TreeT h)):wts (A++B)=wts A+wts B:=by simp [wts]
theorem wts_cons {h:Nat} (p:Key×TreeT h) (B:List (Key×TreeT h)):wts (p::B)=wt h p.2+wts B:=by simp [wts]
theorem wts_nil {h:Nat}:wts ([]:List (Key×TreeT h))=0:=rfl
theorem wt_br {h:Nat} (a:List (Key×TreeT h)) (b:List Ch):wt (h+1) (brT a b)=2*b.length+wts a+((a.length - 1)+(2 - a.length)):=rfl
theorem wt_lo {h:Nat} (a:List (Key×TreeT h)) (b:List Ch):b.length+wts a≤wt (h+1) (brT a b):=by rw [wt_br];omega
theorem filt_step {α:Type} (g:α→Nat) (n:Nat):∀a:List α,(a.filter fun c=> decide (g c=n)).length+(a.filter fun c=> decide (g c < n)).length=(a.filter fun c=> decide (g c < n+1)).length
 | []=> rfl
 | c::r=> by
  have b:=filt_step g n r
  rcases Nat.lt_trichotomy (g c) n with q | q | q
  ·rw [List.filter_cons_of_neg (by simp;omega),List.filter_cons_of_pos (by simp;omega),List.filter_cons_of_pos (by simp;omega),List.length_cons,List.length_cons];omega
  ·rw [List.filter_cons_of_pos (by simp;omega),List.filter_cons_of_neg (by simp;omega),List.filter_cons_of_pos (by simp;omega),List.length_cons,List.length_cons];omega
  ·rw [List.filter_cons_of_neg (by simp;omega),List.filter_cons_of_neg (by simp;omega),List.filter_cons_of_neg (by simp;omega)];omega
theorem bparts_wt {h:Nat} (g:Ch→Nat) (a:List Ch):∀(b:List (List (Key×TreeT h))) (n:Nat),(∀s∈b,2≤s.length)→wts (b.mapIdx fun j s=> (bkey s,brT s (a.filter fun c=> decide (g c=n+j))))+2*(a.filter fun c=> decide (g c < n)).length+b.length≤2*a.length+wts b.flatten+b.flatten.length
 | [],n,_=> by
  have:=List.length_filter_le (fun c=> decide (g c < n)) a
  show 0+_+0≤_+0+0
  omega
 | s::r,n,d=> by
  have i:=bparts_wt g a r (n+1) fun x f=> d x (List.mem_cons_of_mem _ f)
  have d:=d s (List.mem_cons_self ..)
  rw [List.mapIdx_cons,wts_cons,List.flatten_cons,wts_append,List.length_append,List.length_cons]
  have e:(fun (j:Nat) (q:List (Key×TreeT h))=> (bkey q,brT q (a.filter fun c=> decide (g c=n+(j+1)))))=fun j q=> (bkey q,brT q (a.filter fun c=> decide (g c=n+1+j))):=by
   funext j q;rw [show n+(j+1)=n+1+j by omega]
  rw [e,wt_br]
  have:=filt_step g n a
  rw [Nat.add_zero]
  omega
theorem sh_two {α:Type}:∀(k:Nat) (l:List α),2*k≤l.length→∀s∈sh k l,2≤s.length
 | 0,_,_,s,a=> by cases a
 | k+1,l,hl,s,a=> by
  rw [sh] at a
  have b:l.length=2*(k+1)+(l.length - 2*(k+1)):=by omega
  generalize l.length - 2*(k+1)=x at b
  have c:2≤(l.length+k) / (k+1):=(Nat.le_div_iff_mul_le (by omega)).2 (by omega)
  have d:(l.length+k) / (k+1) < x+3:=by
   refine Nat.div_lt_of_lt_mul ?_
   have e:x≤(k+1)*x:=Nat.le_mul_of_pos_left _ (by omega)
   rw [Nat.mul_add];omega
  rcases List.mem_cons.1 a with rfl | a
  ·rw [List.length_take];omega
  ·exact sh_two k _ (by rw [List.length_drop];omega) s a
theorem cutT_wt:∀(h:Nat) (lo:Key) (t:TreeT h),wts (cutT h lo t)+((cutT h lo t).length - 1)≤wt h t
 | 0,lo,l=> by
  by_cases a:16 < (its l).length
  ·rw [cut0_big a]
   obtain ⟨d,g,o⟩:=shares_fit (its l) 16 (by decide)
   have i:∀(ls:List (List It)),(∀s∈ls,s.length≤16)→wts (lparts ls)=ls.length:=by
    intro ls
    induction ls with
    | nil=> intro _;rfl
    | cons s r ih=>
     intro q
     show wts (h:=0) ((lkey s,s)::lparts r)=_
     rw [wts_cons,ih fun x f=> q x (List.mem_cons_of_mem _ f),List.length_cons]
     have:=q s (List.mem_cons_self ..)
     show 1+2*(List.length (α:=It) s - 16)+r.length=_
     omega
   have e:wts (leafParts lo (shares (its l) 16))=(shares (its l) 16).length:=by
    cases n:shares (its l) 16 with
    | nil=> rfl
    | cons s r=>
     rw [n] at d
     have k:=i r fun x f=> (d x (List.mem_cons_of_mem _ f)).2
     have:=(d s (List.mem_cons_self ..)).2
     show wts (h:=0) ((lo,s)::lparts r)=_
     rw [wts_cons,k,List.length_cons]
     show 1+2*(List.length (α:=It) s - 16)+r.length=_
     omega
   have b:(leafParts lo (shares (its l) 16)).length=(shares (its l) 16).length:=by
    cases shares (its l) 16 with
    | nil=> rfl
    | cons s r=> simp [leafParts,lparts]
   rw [e,b]
   unfold shares
   rw [sh_len]
   show _≤1+2*((its l).length - 16)
   omega
  ·rw [cut0_small a,wts_cons,wts_nil];exact Nat.le_refl _
 | h+1,lo,(ps,cs)=> by
  show wts (cutT (h+1) lo (brT ps cs))+((cutT (h+1) lo (brT ps cs)).length - 1)≤wt (h+1) (brT ps cs)
  by_cases a:4 < ps.length
  ·rw [cutS_big a]
   have g:=(shares_fit ps 4 (by decide)).2.1
   have:=bparts_wt (fun c=> ix ((shares ps 4).map bkey) c.2.1) cs (shares ps 4) 0 (sh_two _ ps (by omega))
   rw [g] at this
   have e:(fun (j:Nat) (q:List (Key×TreeT h))=> (bkey q,brT q (cs.filter fun c=> decide (ix ((shares ps 4).map bkey) c.2.1=0+j))))=fun j q=> (bkey q,brT q (cs.filter fun c=> decide (ix ((shares ps 4).map bkey) c.2.1=j))):=by
    funext j q;rw [Nat.zero_add]
   rw [e] at this
   have b:(bparts (shares ps 4) cs).length=(shares ps 4).length:=by simp [bparts]
   rw [b,wt_br]
   have m:1≤(shares ps 4).length:=by unfold shares;rw [sh_len];omega
   have h0:wts (bparts (shares ps 4) cs)+2*(cs.filter fun c=> decide (ix ((shares ps 4).map bkey) c.2.1 < 0)).length+(shares ps 4).length≤2*cs.length+wts ps+ps.length:=this
   omega
  ·rw [cutS_small a,wts_cons,wts_nil];exact Nat.le_refl _
theorem val_mid {h:Nat} {R:Key→Option Key→TreeT h→Prop} {lo m hi:Option Key} {f:Key} {A X B:List (Key×TreeT h)} (x:Chain R lo (some f) A) (n:Chain R (some f) m X) (o:Chain R m hi B) (p:List Ch) {k:Key} (y:inR f m k):val (h+1) (A++X++B,p) k=afterAll p k (val (h+1) (X,[]) k):=by
 obtain ⟨i,j,l,c,r,s,u,z,C,v,D,w⟩:=chain_find n y
 have b:Chain R lo hi (A++X++B):=chain_append.2 ⟨m,chain_append.2 ⟨some f,x,n⟩,o⟩
 subst s
 have d:A++(i++(j,l)::c)++B=(A++i)++(j,l)::(c++B):=by simp
 rw [d] at b ⊢
 have q:m=nxt B hi:=chain_nxt o
 have e:r=nxt c m:=chain_nxt w
 have g:=ix_at (R:=R) (hi:=hi) (f:=j) (t:=l) (B:=c++B) (k:=k) (by rw [nxt_append,←q,←e];exact v) (A++i) lo b
 rw [val_at g,val_at u,afterAll_nil]
theorem tri3 {lo:Key} {hi m:Option Key} {f k:Key} (g:inR lo hi k):inR lo (some f) k∨inR f m k∨∃b,m=some b∧inR b hi k:=by
 by_cases d:k < f
 ·exact .inl ⟨g.1,fun b a=> by rw [←Option.some.inj a];exact d⟩
 ·cases m with
  | none=> exact .inr (.inl ⟨d,fun b a=> by cases a⟩)
  | some b=>
   by_cases e:k < b
   ·exact .inr (.inl ⟨d,fun c h=> by rw [←Option.some.inj h];exact e⟩)
   ·exact .inr (.inr ⟨b,rfl,e,g.2⟩)
theorem splice_val {h:Nat} {R i:Key→Option Key→TreeT h→Prop} {lo:Key} {m hi:Option Key} {f:Key} {A X Y B:List (Key×TreeT h)} (j:Chain R (some lo) (some f) A) (l:Chain R (some f) m X) (n:Chain R m hi B) (c:Chain i (some lo) (some f) A) (o:Chain i (some f) m Y) (d:Chain i m hi B) (a:List Ch) (p:∀k,inR f m k→val (h+1) (Y,[]) k=val (h+1) (X,[]) k) {k:Key} (r:inR lo hi k):val (h+1) (A++Y++B,a) k=val (h+1) (A++X++B,a) k:=by
 rcases tri3 (f:=f) (m:=m) r with q | q | ⟨b,rfl,q⟩
 ·have e:=val_mid (R:=R) (lo:=some lo) (A:=[]) (X:=A) (B:=X++B) (f:=lo) rfl j (chain_append.2 ⟨m,l,n⟩) a q
  have g:=val_mid (R:=i) (lo:=some lo) (A:=[]) (X:=A) (B:=Y++B) (f:=lo) rfl c (chain_append.2 ⟨m,o,d⟩) a q
  simp only [List.nil_append] at e g
  rw [List.append_assoc,List.append_assoc,e,g]
 ·rw [val_mid j l n a q,val_mid c o d a q,p k q]
 ·have e:=val_mid (R:=R) (lo:=some lo) (A:=A++X) (X:=B) (B:=[]) (f:=b) (chain_append.2 ⟨_,j,l⟩) n rfl a q
  have g:=val_mid (R:=i) (lo:=some lo) (A:=A++Y) (X:=B) (B:=[]) (f:=b) (chain_append.2 ⟨_,c,o⟩) d rfl a q
  simp only [List.append_nil] at e g
  rw [e,g]
end Go.Proofs.YtolgpnaoaodepaaGreat.Tr
namespace Go.Proofs.YtolgpnaoaodepaaGreat
open Go.RowKit
theorem blk_new {w:World} {B:Nat} {e:TypeId} {s n:Nat} {v:Value} {xs:List Value} (h:w.ownsRow B e s v n xs):∀g∈blk v,B≤g:=fun g a=> (World.ownsRow.lt h g (mem_blk.1 a)).1
theorem plain_len (l:List (ByteArray×ByteArray)):(plain l).length=l.length:=by simp [plain]
theorem plainCh_len (l:List (Int×ByteArray×ByteArray)):(plainCh l).length=l.length:=by simp [plainCh]
theorem cut_any:∀(h:Nat) (f:ByteArray) (p:Nat) (t:Tr.TreeT h) (F:List Nat) (w:World),Rep h w p t F→F.Nodup→∀lo hi,Tr.WF h lo hi t→Tr.wt h t≤1800000→
  Calls Tryz.prog 64 #[.agg #[.string f,.pointer (some ⟨p,0,none⟩)]] w fun r w'=>∃v pl G,r= .returned v∧CtQ h w (Tr.cutT h f.data.toList t) v pl G w'∧(∀g∈G,g∈F∨w.heap.size≤g)∧Below w.heap.size w w'
 | 0,f,p,t,F,w,hr,hnd,lo,hi,_,hwt=> by
  have d:=hr
  obtain ⟨L,il,s,E,rfl,rfl⟩:=hr
  have I:1+2*(il.length - 16)≤1800000:=by rw [←plain_len il];exact hwt
  by_cases n:16 < il.length
  ·have e:Tr.cutT 0 f.data.toList (plain il)=Tr.leafParts f.data.toList (Tr.shares (plain il) 16):=Tr.cut0_big (l:=plain il) (by show 16 < (plain il).length;rw [plain_len];exact n)
   rw [e]
   exact (cutL_any f p L il w s E n (by omega)).mono fun r w' ⟨v,pl,G,j,k,m,P⟩=> ⟨v,pl,G,j,k,fun g i=> .inr (m g i),P⟩
  ·have e:Tr.cutT 0 f.data.toList (plain il)=[(f.data.toList,plain il)]:=Tr.cut0_small (l:=plain il) (by show ¬16 < (plain il).length;rw [plain_len];exact n)
   rw [e]
   obtain ⟨a,c,rfl⟩:=rowShape E
   refine (cutSmall_any f p a none il.length 0 c 0 _ w s (by omega) (by omega)).mono fun r w' ⟨v,j,k,m⟩=> ⟨v,_,_,j,⟨k,⟨rfl,_,[],d.keep fun g i=> m.block g (d.lt g i),rfl,(List.append_nil _).symm⟩,?_⟩,fun g i=> .inl i,m⟩
   refine List.nodup_append.2 ⟨blk_nodup v,hnd,fun a A b B q=> ?_⟩
   have:=blk_new k a A
   have:=d.lt b B
   omega
 | h+1,f,p,(ps,cs),F,w,hr,hnd,lo,hi,hw,hwt=> by
  have d:=hr
  obtain ⟨vp,vc,u,ml,R,s,x,z,rfl,H,rfl⟩:=hr
  have o:(plainCh ml).length+Tr.wts ps≤1800000:=Nat.le_trans (Tr.wt_lo ps _) hwt
  rw [plainCh_len] at o
  have J:ps.length≤Tr.wts ps:=Tr.wt_parts hw.1
  have K:=H.len
  by_cases n:4 < ps.length
  ·have e:Tr.cutT (h+1) f.data.toList (ps,plainCh ml)=Tr.bparts (Tr.shares ps 4) (plainCh ml):=Tr.cutS_big n
   rw [e]
   have y:=List.nodup_append.1 (List.nodup_append.1 (List.nodup_cons.1 hnd).2).2.1
   refine (cutB_any f p vp vc u ml w s x z (by omega) (by omega) (by omega)).mono fun r w' ⟨v,pl,vs,Q,C,j,D⟩=> ?_
   obtain ⟨G,M,N,O⟩:=cb_kids H y.2.1 (fun g i=> d.lt g (by simp [i])) (by omega) D
   exact ⟨v,pl,G,j,⟨D.row,M,N⟩,fun g i=> (O g i).imp (fun q=> by simp [q]) id,D.bel⟩
  ·have e:Tr.cutT (h+1) f.data.toList (ps,plainCh ml)=[(f.data.toList,Tr.brT ps (plainCh ml))]:=Tr.cutS_small n
   rw [e]
   obtain ⟨a,c,rfl⟩:=rowShape x
   refine (cutSmall_any f p none a 0 u.length 0 c _ w s (by omega) (by omega)).mono fun r w' ⟨v,j,k,m⟩=> ⟨v,_,_,j,⟨k,⟨rfl,_,[],d.keep fun g i=> m.block g (d.lt g i),rfl,(List.append_nil _).symm⟩,?_⟩,fun g i=> .inl i,m⟩
   refine List.nodup_append.2 ⟨blk_nodup v,hnd,fun a A b B q=> ?_⟩
   have:=blk_new k a A
   have:=d.lt b B
   omega
end Go.Proofs.YtolgpnaoaodepaaGreat
