import Derived.Test.YtolgpnaoaodepaaGreatLdKm
namespace Go.Proofs.YtolgpnaoaodepaaGreat
open Go.RowKit
def Sa (P:List (Option Ld.Nd)) (h:Nat) (W:World):List TkM->List (Ld.PT h)->List (List Nat)->Prop
 | [],[],[]=> True
 | x::tl,f::fs,G::Gs=> ((Ld.Br x.2.2.1.data.toList x.2.2.2.data.toList=true->Rep h W x.2.1 (Ld.tr P h x.2.2.1.data.toList x.2.2.2.data.toList f) G)/\(Ld.Br x.2.2.1.data.toList x.2.2.2.data.toList=false->G=[]))/\Sa P h W tl fs Gs
 | _,_,_=> False
theorem Sa.split {P:List (Option Ld.Nd)} {h:Nat} {W:World}:∀{a b:List TkM} {c d:List (Ld.PT h)} {Gs:List (List Nat)},a.length=c.length->Sa P h W (a++b) (c++d) Gs->∃Ga Gb,Gs=Ga++Gb/\Sa P h W a c Ga/\Sa P h W b d Gb
 | [],b,[],d,Gs,_,hr=> ⟨[],Gs,rfl,trivial,hr⟩
 | x::a,b,f::c,d,G::Gs,hl,hr=> by
  obtain ⟨Ga,Gb,rfl,g,i⟩:=Sa.split (a:=a) (by simpa using hl) hr.2;exact ⟨G::Ga,Gb,rfl,⟨hr.1,g⟩,i⟩
 | [],_,_::_,_,_,hl,_=> by simp at hl
 | _::_,_,[],_,_,hl,_=> by simp at hl
 | _::_,_,_::_,_,[],_,hr=> hr.elim
theorem Ai0 (x:TkM) (l:List TkM):En (x::l)=if Ld.Br x.2.2.1.data.toList x.2.2.2.data.toList=true then (x.2.2.1,x.2.1)::En l else En l:=by
 unfold En;rw [List.filter_cons];by_cases h:Ld.Br x.2.2.1.data.toList x.2.2.2.data.toList=true <;> simp [h]
theorem Sa.kids {P:List (Option Ld.Nd)} {h:Nat} {W:World}:∀{a:List TkM} {c:List (Ld.PT h)} {Gs:List (List Nat)},Sa P h W a c Gs->Cc (Rep h W) (En a) (Ld.prt (Ld.tr P h) (a.map tkP) c) Gs.flatten
 | [],[],[],_=> rfl
 | x::a,f::c,G::Gs,hr=> by
  have d:=Sa.kids hr.2;rw [Ai0,List.map_cons,Ld.prt,List.flatten_cons];show Cc (Rep h W) _ (if Ld.Br x.2.2.1.data.toList x.2.2.2.data.toList=true then (x.2.2.1.data.toList,Ld.tr P h x.2.2.1.data.toList x.2.2.2.data.toList f)::Ld.prt (Ld.tr P h) (a.map tkP) c else Ld.prt (Ld.tr P h) (a.map tkP) c) _;by_cases b:Ld.Br x.2.2.1.data.toList x.2.2.2.data.toList=true
  ·rw [if_pos b,if_pos b];exact ⟨rfl,G,Gs.flatten,hr.1.1 b,d,rfl⟩
  ·rw [if_neg b,if_neg b,hr.1.2 (by simpa using b),List.nil_append];exact d
 | [],[],_::_,hr=> hr.elim
 | [],_::_,_,hr=> hr.elim
 | _::_,[],_,hr=> hr.elim
 | _::_,_::_,[],hr=> hr.elim
theorem Aj3:blk (.slice none 0 0)=[]:=rfl
theorem Zn {P:List (Option Ld.Nd)} {B:Nat} {W:World}:∀{f:List TkM} {c:List Ld.Nd} {k:List (List TkM)} {Fs:List (List Nat)} {rd:List Nat},Ld.Lev P rd (f.map tkP) c->(∀n∈c,n.1=1)->Fld B W f c k Fs->Fs.flatten.Nodup->∃(j:List (Ld.PT 0)) (Hs:List (List Nat)),Ld.FF (Ld.Co P 0) (Ld.num 0) (f.map tkP) j/\Ld.Bb 0 j=(f.map tkP).map (·.1)/\Sa P 0 W f j Hs/\Hs.flatten.Nodup/\∀g∈Hs.flatten,g∈Fs.flatten
 | [],[],[],[],_,_,_,_,_=> ⟨[],[],trivial,rfl,trivial,List.nodup_nil,fun _ d=> d⟩
 | x::f,nd::c,ks::k,F::Fs,rd,hl,hk,hf,hn=> by
  rw [List.flatten_cons,List.nodup_append] at hn;obtain ⟨j,Hs,r,s,t,o,l⟩:=Zn hl.2 (fun n z=> hk n (List.mem_cons_of_mem _ z)) hf.2 hn.2.1;have i:=hk nd (List.mem_cons_self ..);obtain ⟨v1,vp,v4,il,ml,u,y,I,J,C,L,D,M,N,m⟩:=hf.1;obtain ⟨rfl,rfl⟩:=D i;have p:Rep 0 W x.2.1 (Ld.tr P 0 x.2.2.1.data.toList x.2.2.2.data.toList (Ld.lfP x.1)) F:=by
   refine ⟨v1,il,u,Al y (Nat.zero_le _),?_,by rw [m,Aj3,List.append_nil,List.append_nil]⟩;rw [Ld.tr];show _=Ld.its (Ld.pg P x.1);rw [show Ld.pg P x.1=nd from Ld.Ht hl.1.2.1,C]
  refine ⟨Ld.lfP x.1::j,(if Ld.Br x.2.2.1.data.toList x.2.2.2.data.toList=true then F else [])::Hs,⟨⟨rfl,nd,hl.1.2.1,i,hl.1.2.2⟩,r⟩,?_,⟨⟨fun z=> by rw [if_pos z];exact p,fun z=> by rw [if_neg (by rw [z];decide)]⟩,t⟩,?_,?_⟩
  ·rw [Ld.Ez,s];rfl
  ·rw [List.flatten_cons];by_cases z:Ld.Br x.2.2.1.data.toList x.2.2.2.data.toList=true
   ·rw [if_pos z,List.nodup_append];exact ⟨hn.1,o,fun a G b H=> hn.2.2 a G b (l b H)⟩
   ·rw [if_neg z,List.nil_append];exact o
  ·intro g d;rw [List.flatten_cons] at d ⊢;by_cases z:Ld.Br x.2.2.1.data.toList x.2.2.2.data.toList=true
   ·rw [if_pos z] at d;exact (List.mem_append.1 d).elim (fun q=> List.mem_append_left _ q) (fun q=> List.mem_append_right _ (l g q))
   ·rw [if_neg z,List.nil_append] at d;exact List.mem_append_right _ (l g d)
 | [],[],[],_::_,_,_,_,h,_=> h.elim
 | [],[],_::_,_,_,_,_,h,_=> h.elim
 | [],_::_,_,_,_,_,_,h,_=> h.elim
 | _::_,[],_,_,_,_,_,h,_=> h.elim
 | _::_,_::_,[],_,_,_,_,h,_=> h.elim
 | _::_,_::_,_::_,[],_,_,_,h,_=> h.elim
theorem Anr {P:List (Option Ld.Nd)} {h B:Nat} {W:World}:∀{d:List TkM} {c:List Ld.Nd} {j:List (List TkM)} {Fs:List (List Nat)} {rd:List Nat} {k:List (Ld.PT h)} {Gs:List (List Nat)},Ld.Lev P rd (d.map tkP) c->(∀n∈c,n.1=2)->Fld B W d c j Fs->Ld.FF (Ld.Co P h) (Ld.num h) (Ld.below (d.map tkP) c) k->Sa P h W j.flatten k Gs->(Fs.flatten++Gs.flatten).Nodup->
  ∃(l:List (Ld.PT (h+1))) (Hs:List (List Nat)),Ld.FF (Ld.Co P (h+1)) (Ld.num (h+1)) (d.map tkP) l/\(Ld.Bb (h+1) l).Perm ((d.map tkP).map (·.1)++Ld.Bb h k)/\Sa P (h+1) W d l Hs/\Hs.flatten.Nodup/\∀g∈Hs.flatten,g∈Fs.flatten\/g∈Gs.flatten
 | [],[],[],[],_,k,Gs,_,_,_,hff,hr,_=> by
  cases k with
  | nil=> exact ⟨[],[],trivial,List.Perm.nil,trivial,List.nodup_nil,fun g i=> by cases i⟩
  | cons f k=> exact hff.elim
 | x::d,nd::c,ks::j,F::Fs,rd,k,Gs,hl,hk,hf,hff,hr,hn=> by
  obtain ⟨a,b,rfl,L,O⟩:=Ld.FF.split hff;have m:=hk nd (List.mem_cons_self ..);obtain ⟨v1,vp,v4,il,ml,R,a2,S,T,a5,U,a7,V,M,y⟩:=hf.1;obtain rfl:=V m;have o:ks.length=a.length:=by
   have:=L.len;rw [<-this,<-List.length_map (f:=tkP),M];rfl
  rw [List.flatten_cons] at hr;obtain ⟨Ga,Gb,rfl,X,Y⟩:=Sa.split o hr;rw [List.flatten_cons,List.flatten_append,List.nodup_append,List.nodup_append,List.nodup_append] at hn;obtain ⟨⟨Z,C,D⟩,⟨G,H,I⟩,u⟩:=hn;obtain ⟨l,Hs,h1,h2,h3,N,J⟩:=Anr hl.2 (fun n z=> hk n (List.mem_cons_of_mem _ z)) hf.2 O Y (List.nodup_append.2 ⟨C,H,fun a s b t=> u a (List.mem_append_right _ s) b (List.mem_append_right _ t)⟩);have p:Rep (h+1) W x.2.1 (Ld.tr P (h+1) x.2.2.1.data.toList x.2.2.2.data.toList (Ld.brP x.1 a)) (F++Ga.flatten):=by
   have e:Ld.tr P (h+1) x.2.2.1.data.toList x.2.2.2.data.toList (Ld.brP x.1 a)=Tr.brT (Ld.prt (Ld.tr P h) (Ld.Hg (Ld.pg P x.1) x.2.2.1.data.toList x.2.2.2.data.toList) a) (Ld.chs (Ld.pg P x.1)):=rfl;rw [e,show Ld.pg P x.1=nd from Ld.Ht hl.1.2.1];refine ⟨vp,v4,En ks,ml,Ga.flatten,R,Al S (Nat.zero_le _),Al T (Nat.zero_le _),U,?_,?_⟩
   ·show Cc (Rep h W) (En ks) (Ld.prt (Ld.tr P h) (Ld.Hg nd x.2.2.1.data.toList x.2.2.2.data.toList) a) Ga.flatten;rw [<-M];exact X.kids
   ·rw [y,Aj3,List.nil_append,List.cons_append,List.append_assoc]
  refine ⟨Ld.brP x.1 a::l,(if Ld.Br x.2.2.1.data.toList x.2.2.2.data.toList=true then F++Ga.flatten else [])::Hs,⟨⟨rfl,nd,hl.1.2.1,m,hl.1.2.2,L⟩,h1⟩,?_,⟨⟨fun z=> by rw [if_pos z];exact p,fun z=> by rw [if_neg (by rw [z];decide)]⟩,h3⟩,?_,?_⟩
  ·rw [Ld.Ez,Ld.Gh];show (x.1::(Ld.Bb h a++Ld.Bb (h+1) l)).Perm (x.1::((d.map tkP).map (·.1)++(Ld.Bb h a++Ld.Bb h b)));refine List.Perm.cons _ ?_;refine (List.Perm.append_left (Ld.Bb h a) h2).trans ?_;rw [<-List.append_assoc,<-List.append_assoc];exact List.Perm.append_right _ List.perm_append_comm
  ·rw [List.flatten_cons];by_cases z:Ld.Br x.2.2.1.data.toList x.2.2.2.data.toList=true
   ·rw [if_pos z,List.nodup_append,List.nodup_append];refine ⟨⟨Z,G,fun a s b t=> u a (List.mem_append_left _ s) b (List.mem_append_left _ t)⟩,N,fun a s b t e=> ?_⟩;subst e;rcases List.mem_append.1 s with q | q <;> rcases J a t with r | r
    ·exact D a q a r rfl
    ·exact u a (List.mem_append_left _ q) a (List.mem_append_right _ r) rfl
    ·exact u a (List.mem_append_right _ r) a (List.mem_append_left _ q) rfl
    ·exact I a q a r rfl
   ·rw [if_neg z,List.nil_append];exact N
  ·intro g i;rw [List.flatten_cons] at i ⊢;rw [List.flatten_append];by_cases z:Ld.Br x.2.2.1.data.toList x.2.2.2.data.toList=true
   ·rw [if_pos z] at i;rcases List.mem_append.1 i with q | q
    ·rcases List.mem_append.1 q with q | q
     ·exact .inl (List.mem_append_left _ q)
     ·exact .inr (List.mem_append_left _ q)
    ·exact (J g q).imp (fun q=> List.mem_append_right _ q) (fun q=> List.mem_append_right _ q)
   ·rw [if_neg z,List.nil_append] at i;exact (J g i).imp (fun q=> List.mem_append_right _ q) (fun q=> List.mem_append_right _ q)
 | [],[],[],_::_,_,_,_,_,_,h,_,_,_=> h.elim
 | [],[],_::_,_,_,_,_,_,_,h,_,_,_=> h.elim
 | [],_::_,_,_,_,_,_,_,_,h,_,_,_=> h.elim
 | _::_,[],_,_,_,_,_,_,_,h,_,_,_=> h.elim
 | _::_,_::_,[],_,_,_,_,_,_,h,_,_,_=> h.elim
 | _::_,_::_,_::_,[],_,_,_,_,_,h,_,_,_=> h.elim
namespace Ld
def Sb (P:List (Option Nd)):Prop:=∃(H:Nat) (f:PT H),Co P H [] [] f/\num H f=0/\(nums H f).Nodup/\∀n,n < P.length->n∈nums H f
theorem Lev.pages {P:List (Option Nd)}:∀{ts:List Tk} {rd:List Nat} {a:List Nd},Lev P rd ts a->∀c∈a,∃n:Nat,P[n]?=some (some c)
 | t::ts,rd,n::a,h,c,b=> by
  rcases List.mem_cons.1 b with rfl | b
  ·exact ⟨_,h.1.2.1⟩
  ·exact h.2.pages c b
 | [],_,[],_,_,b=> by cases b
 | [],_,_::_,h,_,_=> h.elim
 | _::_,_,[],h,_,_=> h.elim
theorem Abx:∀{ts:List Tk} {a:List Nd} {t:Tk},t∈below ts a->∃b∈a,t.1∈kds b
 | x::ts,b::a,t,h=> by
  rcases List.mem_append.1 h with h | h
  ·refine ⟨b,List.mem_cons_self ..,?_⟩;unfold Hg at h;obtain ⟨i,hi,rfl⟩:=List.getElem_of_mem h;rw [List.getElem_zipWith];exact List.getElem_mem _
  ·obtain ⟨n,c,z⟩:=Abx h;exact ⟨n,List.mem_cons_of_mem _ c,z⟩
 | [],_,_,h=> by cases h
 | _::_,[],_,h=> by cases h
theorem Aby:∀{ts:List Tk} {a:List Nd},(∀b∈a,okN b)->(below ts a).length<=4*ts.length
 | x::ts,b::a,h=> by
  have c:=Aby (ts:=ts) (fun n z=> h n (List.mem_cons_of_mem _ z));have d:=Rw (h b (List.mem_cons_self ..)) x.2.1 x.2.2;have f:(kds b).length<=4:=by
   rcases h b (List.mem_cons_self ..) with ⟨_,q,_⟩ | ⟨_,_,_,q,_⟩
   ·rw [q];simp
   ·exact q
  show (Hg b x.2.1 x.2.2++below ts a).length<=_;rw [List.length_append,List.length_cons];omega
 | [],_,_=> by simp [below]
 | _::_,[],_=> by simp [below]
theorem Ie:∀{L:Nat} {l:List Nat},l.Nodup->(∀n∈l,n < L)->l.length<=L
 | 0,l,_,hl=> by
  cases l with
  | nil=> simp
  | cons a r=> exact absurd (hl a (List.mem_cons_self ..)) (by omega)
 | L+1,l,h,hl=> by
  have b:=Ie (L:=L) (h.erase L) (fun n c=> by
   have d:=hl n (List.mem_of_mem_erase c);have f:=(h.mem_erase_iff.1 c).1;omega)
  rw [List.length_erase] at b;split at b <;> omega
end Ld
structure LoM (w0:World) (K:List (Nat×Obj)) (vim vre:Value) (iml:List ByteArray) (rd:List Nat) (v:Value) (tl:List TkM) (d p:Nat) (W:World):Prop where
 ld:LdM vim vre iml (Ld.Ic iml.length rd) W
 row:Kb 0 W v tl
 nods:∀x∈tl,An W x.2.1 (.slice none 0 0) (.slice none 0 0) (.slice none 0 0)
 dist:(tl.map (·.2.1)).Nodup
 low:(∀g,vre.ownBlock=some g->w0.heap.size<=g)/\∀x∈tl,w0.heap.size<=x.2.1
 nums:∀x∈tl,x.1<=2147483647
 rdn:rd.Nodup/\∀n∈rd,n < iml.length
 len:tl.length<=4*iml.length+1
 ne:tl≠[]
 kept:∀x∈K,x.1 < W.heap.size/\vre.ownBlock≠some x.1/\x.1∉tl.map (·.2.1)/\W.heap[x.1]?=some x.2
 compl:∀(H:Nat) (f:Ld.PT H),Ld.Co (Ag iml) H [] [] f->Ld.num H f=0->(Ld.nums H f).Nodup->∃(h:Nat) (fs:List (Ld.PT h)),H=h+d/\Ld.FF (Ld.Co (Ag iml) h) (Ld.num h) (tl.map tkP) fs/\(Ld.nums H f).Perm (rd++Ld.Bb h fs)
 sound:∃G:List Nat,G.Nodup/\(∀g∈G,g < W.heap.size/\vre.ownBlock≠some g/\g∉tl.map (·.2.1)/\w0.heap.size<=g/\g∉K.map (·.1))/\
  ∀(h:Nat) (W':World) (fs:List (Ld.PT h)) (Gs:List (List Nat)),Ld.FF (Ld.Co (Ag iml) h) (Ld.num h) (tl.map tkP) fs->Sa (Ag iml) h W' tl fs Gs->(G++Gs.flatten).Nodup->(∀g∈G,W'.heap[g]?=W.heap[g]?)->
   ∃(H:Nat) (f:Ld.PT H) (F:List Nat),H=h+d/\Ld.Co (Ag iml) H [] [] f/\Ld.num H f=0/\(Ld.nums H f).Perm (rd++Ld.Bb h fs)/\Rep H W' p (Ld.tr (Ag iml) H [] [] f) F/\F.Nodup/\∀g∈F,g∈G\/g∈Gs.flatten
 bel:Below w0.heap.size w0 W
theorem LoM.give {w0:World} {K:List (Nat×Obj)} {j l:Value} {iml:List ByteArray} {rd:List Nat} {v:Value} {q:List TkM} {d p:Nat} {W:World} (h:LoM w0 K j l iml rd v q d p W) (b:∀a,Ld.Lev (Ag iml) rd (q.map tkP) a->¬Ld.Afa a):¬Ld.Sb (Ag iml):=by
 rintro ⟨H,f,s,t,o,-⟩;obtain ⟨k,u,rfl,m,r⟩:=h.compl H f s t o;have c:=r.nodup o
 cases k with
 | zero=>
  obtain ⟨a,g,i,-⟩:=Ld.Rx m c;exact b a g (.inl i)
 | succ k=>
  obtain ⟨a,y,g,i,-⟩:=Ld.Ry m c;exact b a g (.inr fun n c e=> by rw [i n c] at e;exact absurd e (by decide))
theorem Fld.apart {B:Nat} {W:World} {d:List TkM} {b:List Ld.Nd} {c:List (List TkM)} {Fs:List (List Nat)} (h:Fld B W d b c Fs):∀g∈Fs.flatten,g < W.heap.size/\(B<=g\/g∈d.map (·.2.1)):=fun g j=> by
 obtain ⟨x,f,k,l,F,i,a⟩:=h.all g j;have:=i.lt g a;exact ⟨this.1,this.2.imp id fun e=> List.mem_map.2 ⟨x,f,e.symm⟩⟩
theorem Fld.fresh {B:Nat} {W:World} {f:List TkM} {b:List Ld.Nd} {c:List (List TkM)} {Fs:List (List Nat)} (h:Fld B W f b c Fs) {q:Nat} {n vp vc:Value} (d:An W q n vp vc) (o:q∉f.map (·.2.1)):q∉Fs.flatten:=fun m=> by
 obtain ⟨x,g,p,r,F,i,a⟩:=h.all q m;obtain ⟨v1,vp,v4,il,ml,s,j,k,l,-,-,-,-,-,rfl⟩:=i;rcases List.mem_cons.1 a with e | a
 ·exact o (List.mem_map.2 ⟨x,g,e.symm⟩)
 rcases List.mem_append.1 a with z | a
 ·exact Aq d j (by decide) (Af.1 z)
 rcases List.mem_append.1 a with z | z
 ·exact Aq d k (by decide) (Af.1 z)
 ·exact Aq d l (by decide) (Af.1 z)
theorem Akq {n:Ld.Nd} (h:Ld.okN n) (a:n.1=2) (lo hi:Tr.Key):1<=(Ld.Hg n lo hi).length:=by
 rw [Ld.Rw h];rcases h with ⟨e,_⟩ | ⟨_,_,q,_⟩
 ·rw [a] at e;exact absurd e (by decide)
 ·exact q
theorem LoM.same {w0:World} {K:List (Nat×Obj)} {c b:Value} {iml:List ByteArray} {rd l:List Nat} {v:Value} {f:List TkM} {d p k:Nat} {W r W':World} (h:LoM w0 K c b iml rd v f d p W) (i:Below W.heap.size W r) {m:List Ld.Nd} {n:List (List TkM)} {Fs:List (List Nat)} {A:Value} (R:RlM r c b iml rd l v f k m n Fs A W'):(∀g,g < W.heap.size->b.ownBlock≠some g->g∉f.map (·.2.1)->W'.heap[g]?=W.heap[g]?)/\Below w0.heap.size w0 W':=by
 have o:∀g,g∈(f.take k).map (·.2.1)->g∈f.map (·.2.1):=fun g z=> by
  obtain ⟨y,j,e⟩:=List.mem_map.1 z;exact List.mem_map.2 ⟨y,List.mem_of_mem_take j,e⟩
 refine ⟨fun g q t u=> (R.mod.block g (Nat.lt_of_lt_of_le q i.size) (fun z=> z.elim t fun z=> u (o g z))).trans (i.block g q),?_⟩;have s:=R.mod.below (B:=w0.heap.size) (Nat.le_trans h.bel.size i.size) (fun g z=> by
  rcases z with z | z
  ·exact h.low.1 g z
  ·obtain ⟨y,j,rfl⟩:=List.mem_map.1 (o g z);exact h.low.2 y j)
 exact (h.bel.trans (i.mono h.bel.size)).trans s
theorem LoM.step {w0:World} {K:List (Nat×Obj)} {O S:Value} {iml:List ByteArray} {rd:List Nat} {v:Value} {s:List TkM} {d p:Nat} {W w1 W':World} (h:LoM w0 K O S iml rd v s d p W) (r:Below W.heap.size W w1) {u:List Ld.Nd} {T:List (List TkM)} {Fs:List (List Nat)} {v5:Value} (R:RlM w1 O S iml rd (rd++s.map (·.1)) v s s.length u T Fs v5 W') (hk:∀n∈u,n.1=2):LoM w0 K O S iml (rd++s.map (·.1)) v5 T.flatten (d+1) p W':=by
 obtain ⟨t,a0⟩:=h.same r R;have c:=R.lev;have i:=R.fld;rw [List.take_length] at c i;have b2:w1.heap.size<=W'.heap.size:=R.mod.size;have hP:=Ct iml;have D:∀m∈u,Ld.okN m:=fun m I=> by obtain ⟨n,e⟩:=c.pages m I;exact hP n m e
 have l:=i.below;have J:(s.map tkP).map (·.1)=s.map (·.1):=by rw [List.map_map];rfl
 have L:(rd++s.map (·.1)).Nodup/\∀n∈rd++s.map (·.1),n < iml.length:=by
  constructor
  ·have:=c.nd h.rdn.1;rwa [J] at this
  ·intro n I;rcases List.mem_append.1 I with z | z
   ·exact h.rdn.2 n z
   ·obtain ⟨x,o,rfl⟩:=List.mem_map.1 z;have:=c.lt (tkP x) (List.mem_map.2 ⟨x,o,rfl⟩);unfold Ag at this;rw [List.length_map] at this;exact this
 have b3:s.length<=iml.length:=by
  have:=Ld.Ie L.1 L.2;rw [List.length_append,List.length_map] at this;omega
 have V:u≠[]:=fun e=> by
  have:=c.len;rw [e,List.length_map] at this;exact h.ne (List.eq_nil_of_length_eq_zero this)
 have X:∀y∈T.flatten,y.2.1∉s.map (·.2.1):=fun y B z=> by
  obtain ⟨x,o,e⟩:=List.mem_map.1 z;have Y:=(R.nods y B).2;have Z:=R.low.2.2 x o;omega
 obtain ⟨G,a6,hG,a7⟩:=h.sound;refine ⟨R.ld,Al R.row (Nat.zero_le _),fun x o=> (R.nods x o).1,R.dist,⟨h.low.1,fun x o=> Nat.le_trans (Nat.le_trans h.bel.size r.size) (R.nods x o).2⟩,?_,L,?_,?_,?_,?_,?_,a0⟩
 ·intro x o;have hm:tkP x∈Ld.below (s.map tkP) u:=by rw [<-l];exact List.mem_map.2 ⟨x,o,rfl⟩
  obtain ⟨m,I,hc⟩:=Ld.Abx hm;obtain ⟨n,e⟩:=c.pages m I;exact (Mf e).2 _ hc
 ·have Y:=Ld.Aby (ts:=s.map tkP) D;rw [<-l,List.length_map,List.length_map] at Y;omega
 ·intro e;rw [e] at l;obtain ⟨x,a1,rfl⟩:=List.exists_cons_of_ne_nil h.ne;obtain ⟨m,j,rfl⟩:=List.exists_cons_of_ne_nil V;have Y:=Akq (D m (List.mem_cons_self ..)) (hk m (List.mem_cons_self ..)) x.2.2.1.data.toList x.2.2.2.data.toList;have Z:Ld.below ((x::a1).map tkP) (m::j)=Ld.Hg m x.2.2.1.data.toList x.2.2.2.data.toList++Ld.below (a1.map tkP) j:=rfl;rw [Z] at l;have:=congrArg List.length l;simp only [List.map_nil,List.length_nil,List.length_append] at this;omega
 ·intro x o;obtain ⟨k1,k2,k3,k4⟩:=h.kept x o;refine ⟨by have:=r.size;omega,k2,fun z=> ?_,(t x.1 k1 k2 k3).trans k4⟩;obtain ⟨y,B,e⟩:=List.mem_map.1 z;have Y:=(R.nods y B).2;have Z:=r.size;omega
 ·intro H f f1 f2 f3;obtain ⟨k,fs,e,q1,q2⟩:=h.compl H f f1 f2 f3;have I:=q2.nodup f3
  cases k with
  | zero=>
   obtain ⟨j,z1,z2,-⟩:=Ld.Rx q1 I;obtain rfl:=z1.uniq c;obtain ⟨m,j,rfl⟩:=List.exists_cons_of_ne_nil V;have a:=z2 m (List.mem_cons_self ..);rw [hk m (List.mem_cons_self ..)] at a;exact absurd a (by decide)
  | succ k=>
   obtain ⟨j,a8,z1,-,z3,z4⟩:=Ld.Ry q1 I;obtain rfl:=z1.uniq c;refine ⟨k,a8,by omega,by rw [l];exact z3,?_⟩;rw [J] at z4;rw [List.append_assoc];exact q2.trans (List.Perm.append_left _ z4)
 ·refine ⟨G++Fs.flatten,?_,?_,?_⟩
  ·rw [List.nodup_append];refine ⟨a6,R.nd,fun a U b b1 e=> ?_⟩;subst e;obtain ⟨g1,-,g3,-⟩:=hG a U;rcases (i.apart a b1).2 with q | q
   ·have:=r.size;omega
   ·exact g3 q
  ·intro g C;rcases List.mem_append.1 C with z | z
   ·obtain ⟨g1,g2,g3,g4,g5⟩:=hG g z;refine ⟨by have:=r.size;omega,g2,fun q=> ?_,g4,g5⟩;obtain ⟨y,B,e⟩:=List.mem_map.1 q;have Y:=(R.nods y B).2;have Z:=r.size;omega
   ·obtain ⟨x,o,m,ks,F,hf,a2⟩:=i.all g z;have M:=hf.lt g a2;refine ⟨M.1,hf.apart R.ld.re (by decide) (by decide) (by decide) (by decide) g a2,fun q=> ?_,?_,fun q=> ?_⟩
    ·obtain ⟨y,B,e⟩:=List.mem_map.1 q;exact i.fresh (R.nods y B).1 (X y B) (by rw [e];exact z)
    ·rcases M.2 with q | q
     ·exact Nat.le_trans (Nat.le_trans h.bel.size r.size) q
     ·rw [q];exact h.low.2 x o
    ·obtain ⟨y,B,e⟩:=List.mem_map.1 q;obtain ⟨k1,-,k3,-⟩:=h.kept y B;rcases M.2 with q | q
     ·have Z:=r.size;omega
     ·exact k3 (List.mem_map.2 ⟨x,o,by rw [e,q]⟩)
  ·intro k W2 fs Gs a3 hr a4 a5;rw [List.nodup_append,List.nodup_append] at a4;obtain ⟨⟨nG,nF,a9⟩,b0,dd⟩:=a4;have N:=i.keep (W':=W2) fun g C=> a5 g (List.mem_append_right _ C)
   rw [l] at a3;obtain ⟨gs,Hs,u1,u2,u3,u4,u5⟩:=Anr c hk N a3 hr (List.nodup_append.2 ⟨nF,b0,fun a U b r=> dd a (List.mem_append_right _ U) b r⟩);obtain ⟨H,f,F,e,c1,c2,c3,c4,c5,c6⟩:=a7 (k+1) W2 gs Hs u1 u3 (List.nodup_append.2 ⟨nG,u4,fun a U b r=> by
     rcases u5 b r with z | z
     ·exact a9 a U b z
     ·exact dd a (List.mem_append_left _ U) b z⟩) (fun g C=> (a5 g (List.mem_append_left _ C)).trans (t g (hG g C).1 (hG g C).2.1 (hG g C).2.2.1))
   refine ⟨H,f,F,by omega,c1,c2,?_,c4,c5,fun g C=> ?_⟩
   ·rw [J] at u2;rw [List.append_assoc];exact c3.trans (List.Perm.append_left _ u2)
   ·rcases c6 g C with z | z
    ·exact .inl (List.mem_append_left _ z)
    ·exact (u5 g z).imp (fun z=> List.mem_append_right _ z) id
structure LoD (w0:World) (K:List (Nat×Obj)) (vim vre:Value) (iml:List ByteArray) (rd:List Nat) (d p:Nat) (W:World):Prop where
 ld:LdM vim vre iml (Ld.Ic iml.length rd) W
 rdn:rd.Nodup/\∀n∈rd,n < iml.length
 kept:∀x∈K,x.1 < W.heap.size/\vre.ownBlock≠some x.1/\W.heap[x.1]?=some x.2
 compl:∀(H:Nat) (f:Ld.PT H),Ld.Co (Ag iml) H [] [] f->Ld.num H f=0->(Ld.nums H f).Nodup->(Ld.nums H f).Perm rd
 fin:∃(H:Nat) (f:Ld.PT H) (F:List Nat),H+1=d/\Ld.Co (Ag iml) H [] [] f/\Ld.num H f=0/\(Ld.nums H f).Perm rd/\Rep H W p (Ld.tr (Ag iml) H [] [] f) F/\F.Nodup/\∀g∈F,g < W.heap.size/\vre.ownBlock≠some g/\w0.heap.size<=g/\g∉K.map (·.1)
 bel:Below w0.heap.size w0 W
theorem Sc:∀{ts:List Ld.Tk} {a:List Ld.Nd},(∀b∈a,Ld.okN b)->(∀b∈a,b.1=1)->Ld.below ts a=[]
 | x::ts,b::a,h,h1=> by
  have c:=Sc (ts:=ts) (fun n z=> h n (List.mem_cons_of_mem _ z)) (fun n z=> h1 n (List.mem_cons_of_mem _ z));have d:Ld.kds b=[]:=by
   rcases h b (List.mem_cons_self ..) with ⟨_,q,_⟩ | ⟨q,_⟩
   ·exact q
   ·rw [h1 b (List.mem_cons_self ..)] at q;exact absurd q (by decide)
  show Ld.Hg b x.2.1 x.2.2++Ld.below ts a=[];rw [c];unfold Ld.Hg;rw [d];simp
 | [],_,_,_=> by simp [Ld.below]
 | _::_,[],_,_=> by simp [Ld.below]
theorem LoM.last {w0:World} {K:List (Nat×Obj)} {B m:Value} {iml:List ByteArray} {rd:List Nat} {v:Value} {o:List TkM} {d p:Nat} {W w1 W':World} (h:LoM w0 K B m iml rd v o d p W) (O:Below W.heap.size W w1) {r:List Ld.Nd} {T:List (List TkM)} {Fs:List (List Nat)} {v5:Value} (R:RlM w1 B m iml rd (rd++o.map (·.1)) v o o.length r T Fs v5 W') (hk:∀n∈r,n.1=1):LoD w0 K B m iml (rd++o.map (·.1)) (d+1) p W'/\T.flatten=[]:=by
 obtain ⟨j,L⟩:=h.same O R;have c:=R.lev;have i:=R.fld;rw [List.take_length] at c i;have a2:w1.heap.size<=W'.heap.size:=R.mod.size;have hP:=Ct iml;have D:∀s∈r,Ld.okN s:=fun s C=> by obtain ⟨n,e⟩:=c.pages s C;exact hP n s e
 have I:=i.below;have u:(o.map tkP).map (·.1)=o.map (·.1):=by rw [List.map_map];rfl
 have V:(rd++o.map (·.1)).Nodup/\∀n∈rd++o.map (·.1),n < iml.length:=by
  constructor
  ·have:=c.nd h.rdn.1;rwa [u] at this
  ·intro n C;rcases List.mem_append.1 C with z | z
   ·exact h.rdn.2 n z
   ·obtain ⟨x,A,rfl⟩:=List.mem_map.1 z;have:=c.lt (tkP x) (List.mem_map.2 ⟨x,A,rfl⟩);unfold Ag at this;rw [List.length_map] at this;exact this
 have X:r≠[]:=fun e=> by
  have:=c.len;rw [e,List.length_map] at this;exact h.ne (List.eq_nil_of_length_eq_zero this)
 obtain ⟨G,Z,M,a0⟩:=h.sound;have a3:=O.size;have J:∀g∈Fs.flatten,g < W'.heap.size/\m.ownBlock≠some g/\w0.heap.size<=g/\g∉K.map (·.1)/\g∉G:=fun g z=> by
  obtain ⟨x,A,s,ks,F,hf,N⟩:=i.all g z;have l:=hf.lt g N;refine ⟨l.1,hf.apart R.ld.re (by decide) (by decide) (by decide) (by decide) g N,?_,fun q=> ?_,fun q=> ?_⟩
  ·rcases l.2 with q | q
   ·exact Nat.le_trans (Nat.le_trans h.bel.size O.size) q
   ·rw [q];exact h.low.2 x A
  ·obtain ⟨y,hy,e⟩:=List.mem_map.1 q;obtain ⟨k1,-,k3,-⟩:=h.kept y hy;rcases l.2 with q | q
   ·omega
   ·exact k3 (List.mem_map.2 ⟨x,A,by rw [e,q]⟩)
  ·obtain ⟨g1,-,U,-⟩:=M g q;rcases l.2 with q | q
   ·omega
   ·exact U (List.mem_map.2 ⟨x,A,q.symm⟩)
 obtain ⟨fs,Hs,u1,u2,u3,u4,u5⟩:=Zn c hk i R.nd;rw [u] at u2;have Y:(G++Hs.flatten).Nodup:=by
  rw [List.nodup_append];refine ⟨Z,u4,fun a ha b O e=> ?_⟩;subst e;exact (J a (u5 a O)).2.2.2.2 ha
 obtain ⟨H,f,F,e,c1,c2,c3,c4,c5,c6⟩:=a0 0 W' fs Hs u1 u3 Y (fun g S=> j g (M g S).1 (M g S).2.1 (M g S).2.2.1);refine ⟨⟨R.ld,V,?_,?_,?_,L⟩,?_⟩
 ·intro x A;obtain ⟨k1,k2,k3,k4⟩:=h.kept x A;exact ⟨by omega,k2,(j x.1 k1 k2 k3).trans k4⟩
 ·intro H' f' f1 f2 f3;obtain ⟨k,a4,e',q1,q2⟩:=h.compl H' f' f1 f2 f3;have C:=q2.nodup f3
  cases k with
  | zero=>
   obtain ⟨t,z1,z2,z3⟩:=Ld.Rx q1 C;rw [z3,u] at q2;exact q2
  | succ k=>
   obtain ⟨t,a1,z1,z2,-⟩:=Ld.Ry q1 C;obtain rfl:=z1.uniq c;obtain ⟨s,t,rfl⟩:=List.exists_cons_of_ne_nil X;have a:=z2 s (List.mem_cons_self ..);rw [hk s (List.mem_cons_self ..)] at a;exact absurd a (by decide)
 ·refine ⟨H,f,F,by omega,c1,c2,by rw [u2] at c3;exact c3,c4,c5,fun g S=> ?_⟩;rcases c6 g S with z | z
  ·obtain ⟨g1,g2,U,g4,g5⟩:=M g z;exact ⟨by omega,g2,g4,g5⟩
  ·obtain ⟨g1,g2,U,g4,-⟩:=J g (u5 g z);exact ⟨g1,g2,U,g4⟩
 ·rw [Sc D hk] at I;exact List.map_eq_nil_iff.1 I
end Go.Proofs.YtolgpnaoaodepaaGreat
