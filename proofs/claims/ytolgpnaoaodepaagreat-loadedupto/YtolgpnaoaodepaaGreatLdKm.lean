import Derived.Test.YtolgpnaoaodepaaGreatLdGm
namespace Go.Proofs.YtolgpnaoaodepaaGreat
open Go.RowKit
theorem RlM.read {w:World} {c a:Value} {iml:List ByteArray} {rd n b:List Nat} {v:Value} {p:List TkM} {k:Nat} {i:List Ld.Nd} {j:List (List TkM)} {Fs:List (List Nat)} {q:Value} {W W':World} (h:RlM w c a iml rd n v p k i j Fs q W) (f:Mod (fun g=> a.ownBlock=some g) W W') (r:LdM c a iml (Ld.Ic iml.length b) W'):RlM w c a iml rd b v p k i j Fs q W':=
 ⟨r,h.lev,h.fld.keep (fun g l=> by
   obtain ⟨x,_,s,t,F,o,l⟩:=h.fld.all g l;exact f.block g (o.lt g l).1 (o.apart h.ld.re (by decide) (by decide) (by decide) (by decide) g l)),h.nd,f.row h.row (fun g z m=> Cf h.row h.ld.re (by decide) z m),fun x d=> ⟨f.nod (h.nods x d).1 (fun z=> Aq (h.nods x d).1 h.ld.re (by decide) z),(h.nods x d).2⟩,h.dist,f.row h.lvl (fun g z m=> Cf h.lvl h.ld.re (by decide) z m),h.low,fun x d=> f.nod (h.todo x d) (fun z=> Aq (h.todo x d) h.ld.re (by decide) z),h.tdist,h.mod.trans f (fun _ _ z=> z) (fun _ _ z=> .inl z)⟩
theorem Ann {a:List TkM} {k:Nat} (b:k < a.length) (c:(a.map (·.2.1)).Nodup):a.take (k+1)=a.take k++[a[k]'b]/\a.drop k=a[k]'b::a.drop (k+1)/\(a[k]'b).2.1∉(a.take k).map (·.2.1)/\(a[k]'b).2.1∉(a.drop (k+1)).map (·.2.1):=by
 have f:a.take (k+1)=a.take k++[a[k]'b]:=List.take_succ_eq_append_getElem' (List.getElem?_eq_getElem b);have d:=List.drop_eq_getElem_cons b;refine ⟨f,d,?_,?_⟩
 ·have:a=a.take k++(a[k]'b::a.drop (k+1)):=by rw [<-d,List.take_append_drop]
  rw [this,List.map_append,List.nodup_append] at c;exact fun z=> c.2.2 _ z _ (List.mem_map.2 ⟨_,List.mem_cons_self ..,rfl⟩) rfl
 ·have:a=a.take k++(a[k]'b::a.drop (k+1)):=by rw [<-d,List.take_append_drop]
  rw [this,List.map_append,List.nodup_append,List.map_cons,List.nodup_cons] at c;exact c.2.1.1
theorem RlM.fill {w:World} {Y O:Value} {iml:List ByteArray} {rd Z:List Nat} {v:Value} {d:List TkM} {k:Nat} {a0:List Ld.Nd} {o:List (List TkM)} {Fs:List (List Nat)} {v5:Value} {J w4 L:World} (h:RlM w Y O iml rd Z v d k a0 o Fs v5 J) (p:k < d.length)
  {kd:Int} {v1 v2 v3 v4:Value} {il:List (ByteArray×ByteArray)} {cl:List Nat} {pl:List ByteArray} {ml:List (Int×ByteArray×ByteArray)} {kids:List TkM} {v6 vp a1:Value} {B0:Nat}
  (t:FiM J ((d[k]'p).1:Nat) (d[k]'p).2.1 (d[k]'p).2.2.1 (d[k]'p).2.2.2 kd v1 v2 v3 v4 cl pl kids (En kids) v6 vp w4) (a2:kids.length=cl.length)
  (hB:∀g∈Fs.flatten,g < B0) (a3:w.heap.size<=B0) (r1:Ak B0 J v1 il) (r4:Au B0 J v4 ml) (M:Ahq kd (.agg #[.int .i64 kd,v1,v2,v3,v4])) (b2:kd=1->cl=[])
  (b3:(Ag iml)[(d[k]'p).1]?=some (some (kd,plain il,cl,lists pl,plainCh ml))) (b4:Ld.okP (kd,plain il,cl,lists pl,plainCh ml) (d[k]'p).2.2.1.data.toList (d[k]'p).2.2.2.data.toList) (b5:(d[k]'p).1∉rd++(d.take k).map (·.1))
  (hg:w4.grownBy L v5.ownBlock) (ho:L.ownsRow w.heap.size 154 4 a1 (o.flatten.length+kids.length) (tcells o.flatten++tcells kids)):
  ∃Fs',RlM w Y O iml rd Z v d (k+1) (a0++[(kd,plain il,cl,lists pl,plainCh ml)]) (o++[kids]) Fs' a1 L:=by
 obtain ⟨e1,e2,V,a8⟩:=Ann p h.tdist;generalize b1:d[k]'p=x at*;have a4:x∈d:=by rw [<-b1];exact List.getElem_mem p
 have N:=h.todo x (by rw [e2];exact List.mem_cons_self ..);have b6:=h.low.2.2 x a4;have m4:=t.mod;have S:=Mod.of_grown hg;have G:∀g,v5.ownBlock=some g->w.heap.size<=g:=fun g z=> (World.ownsRow.lt h.row g z).1
 have s3:=h.mod.size;have j:Kb w.heap.size w4 v5 o.flatten:=m4.row h.row (fun g z m=> Aq N h.row (by decide) (by rw [<-m];exact z));have l:∀g,g < J.heap.size->g≠x.2.1->v5.ownBlock≠some g->L.heap[g]?=J.heap[g]?:=fun g X a9 b0=> (S.block g (Nat.lt_of_lt_of_le X m4.size) b0).trans (m4.block g X a9)
 have f:∀{B:Nat} {e:TypeId} {s n:Nat} {u:Value} {xs:List Value},J.ownsRow B e s u n xs->e≠123->e≠154->L.ownsRow B e s u n xs:=fun hr R c=> Bz hr fun g z _=> l g (World.ownsRow.lt hr g z).2 (fun m=> Aq N hr R (by rw [<-m];exact z)) (fun m=> Cf h.row hr (fun q=> c q.symm) m z)
 have a5:=f r1 (by decide) (by decide);have a6:=f r4 (by decide) (by decide);have a7:An L x.2.1 v1 vp v4:=S.nod t.nod (fun z=> Aq t.nod j (by decide) z);have T:Ap (J.heap.size+2) L vp (En kids):=S.row t.par (fun g z m=> Cf j t.par (by decide) m z);have U:(kd=1->vp= .slice none 0 0/\v4= .slice none 0 0)/\(kd=2->v1= .slice none 0 0):=by
  constructor
  ·intro e;obtain ⟨u1,W⟩:=M.1 e;simp only [Value.agg.injEq,Array.mk.injEq,List.cons.injEq] at W;refine ⟨t.pnil ?_,W.2.2.2.2.1⟩;have:kids=[]:=List.eq_nil_of_length_eq_zero (by rw [a2,b2 e];rfl);rw [this];rfl
  ·intro e;obtain ⟨u2,u3,u4,W⟩:=M.2 e;simp only [Value.agg.injEq,Array.mk.injEq,List.cons.injEq] at W;exact W.2.1
 have I:Fil w.heap.size L x (kd,plain il,cl,lists pl,plainCh ml) kids (x.2.1::(blk v1++(blk vp++blk v4))):=⟨v1,vp,v4,il,ml,a7,Al a5 a3,Al T (by omega),Al a6 a3,rfl,rfl,U.1,U.2,Ahw kd il ml a2 t.tks,rfl⟩;refine ⟨Fs++[x.2.1::(blk v1++(blk vp++blk v4))],⟨⟨f h.ld.im (by decide) (by decide),f h.ld.re (by decide) (by decide),h.ld.len⟩,?_,?_,?_,?_,?_,?_,?_,h.low,?_,h.tdist,?_⟩⟩
 ·rw [e1,List.map_append];exact Ld.Lev.snoc b3 b4 h.lev (by rw [List.map_map];exact b5)
 ·rw [e1];refine Fld.snoc I (h.fld.keep fun g hg=> ?_);obtain ⟨y,i,nd,ks,F,C,D⟩:=h.fld.all g hg;have hl:=C.lt g D;refine l g hl.1 (fun z=> ?_) (C.apart h.row (by decide) (by decide) (by decide) (by decide) g D);rcases hl.2 with q | q
  ·omega
  ·exact V (List.mem_map.2 ⟨y,i,by rw [<-q,z]⟩)
 ·rw [List.flatten_append,List.flatten_cons,List.flatten_nil,List.append_nil,List.nodup_append];refine ⟨h.nd,I.nodup,fun a R b c e=> ?_⟩;subst e;have b7:=hB a R;obtain ⟨y,i,nd,ks,F,C,D⟩:=h.fld.all a R;have hl:=C.lt a D;rcases List.mem_cons.1 c with z | c
  ·rcases hl.2 with q | q
   ·omega
   ·exact V (List.mem_map.2 ⟨y,i,by rw [<-q,z]⟩)
  rcases List.mem_append.1 c with c | c
  ·have:=(World.ownsRow.lt r1 a (Af.1 c)).1;omega
  rcases List.mem_append.1 c with c | c
  ·have:=(World.ownsRow.lt T a (Af.1 c)).1;omega
  ·have:=(World.ownsRow.lt r4 a (Af.1 c)).1;omega
 ·rw [List.flatten_append,List.flatten_cons,List.flatten_nil,List.append_nil];unfold Kb;rw [List.length_append,Ky];exact ho
 ·rw [List.flatten_append,List.flatten_cons,List.flatten_nil,List.append_nil];intro y i;rcases List.mem_append.1 i with i | i
  ·obtain ⟨r,hz⟩:=h.nods y i;exact ⟨(l _ r.lt (fun z=> by omega) (Aq r h.row (by decide))).trans r,hz⟩
  ·obtain ⟨r,hz⟩:=t.nods y i;exact ⟨S.nod r (fun z=> Aq r j (by decide) z),by omega⟩
 ·rw [List.flatten_append,List.flatten_cons,List.flatten_nil,List.append_nil,List.map_append,List.nodup_append];refine ⟨h.dist,t.dist,fun a R b c e=> ?_⟩;obtain ⟨y,i,rfl⟩:=List.mem_map.1 R;obtain ⟨z,hz,rfl⟩:=List.mem_map.1 c;have h1:=(h.nods y i).1.lt;have h2:=(t.nods z hz).2;omega
 ·refine Bz h.lvl fun g z _=> l g (World.ownsRow.lt h.lvl g z).2 (fun m=> Aq N h.lvl (by decide) (by rw [<-m];exact z)) (fun m=> ?_)
  have h1:=h.low.1 g z;have h2:=G g m;omega
 ·intro y i;have r:=h.todo y (by rw [e2];exact List.mem_cons_of_mem _ i);exact (l _ r.lt (fun z=> a8 (List.mem_map.2 ⟨y,i,z⟩)) (Aq r h.row (by decide))).trans r
 ·refine (h.mod.trans m4 (H:=fun g=> O.ownBlock=some g\/g∈(d.take (k+1)).map (·.2.1)) (fun g _ z=> z.imp id fun z=> ?_) (fun g _ z=> .inr ?_)).trans S (fun _ _ z=> z) (fun g hg z=> ?_)
  ·rw [e1,List.map_append];exact List.mem_append_left _ z
  ·rw [e1,List.map_append];exact List.mem_append_right _ (by rw [z];simp)
  ·have:=G g z;omega
end Go.Proofs.YtolgpnaoaodepaaGreat
namespace Go.Proofs.YtolgpnaoaodepaaGreat.Pr
open Pg
abbrev Its:=List (List UInt8×List UInt8)
def partsN:Nat->Its->List Its
 | 0,_=> []
 | f+1,l=> if l=[] then [] else l.take 4::partsN f (l.drop 4)
def parts (l:Its):List Its:=partsN (many l.length) l
def Ano (p:Its):List UInt8:=Bg [98] (Bx p)
def secs (ps:List Its):List (List UInt8):=ps.map Ano
def Adc (p:Its):List UInt8:=(p.map (·.1)).getD 0 []
def Fo (ps:List Its):List (List UInt8):=ps.map Adc
theorem Cz {a b c:List UInt8} (h:a < b) (d:b < c):a < c:=List.lt_trans h d
theorem Afk:∀(f:Nat) (l:Its),∀p∈partsN f l,p≠[]/\p.length<=4
 | 0,_,p,h=> by simp [partsN] at h
 | f+1,l,p,h=> by
  rw [partsN] at h;split at h
  ·simp at h
  ·rename_i a;rcases List.mem_cons.1 h with rfl | h
   ·refine ⟨?_,by rw [List.length_take];omega⟩;intro e;have:=congrArg List.length e;rw [List.length_take] at this;have h0:l.length≠0:=fun e=> a (List.length_eq_zero_iff.1 e)
    rw [List.length_nil] at this;omega
   ·exact Afk f _ p h
theorem Qj:∀(f:Nat) (l:Its),l.length<=4*f->(partsN f l).flatten=l
 | 0,l,h=> by
  have:l=[]:=List.length_eq_zero_iff.1 (by omega);subst this;rfl
 | f+1,l,h=> by
  rw [partsN];split
  ·rename_i a;subst a;rfl
  ·rw [List.flatten_cons,Qj f (l.drop 4) (by rw [List.length_drop];omega),List.take_append_drop]
theorem Tt:∀(f:Nat) (l:Its),(partsN f l).length<=f
 | 0,l=> by simp [partsN]
 | f+1,l=> by
  rw [partsN];split
  ·simp
  ·rw [List.length_cons];have:=Tt f (l.drop 4);omega
theorem Zk:∀(f:Nat) (l:Its),f=many l.length->(partsN f l).length=f
 | 0,l,_=> by simp [partsN]
 | f+1,l,h=> by
  have a:l≠[]:=by rintro rfl;simp [many] at h
  have b:0 < l.length:=List.length_pos_iff.2 a;rw [partsN,if_neg a,List.length_cons,Zk f (l.drop 4) (by rw [List.length_drop];unfold many at*;omega)]
theorem Zl:∀(f:Nat) (l:Its),entries f l=Ci ((secs (partsN f l)).map List.length) (Fo (partsN f l))
 | 0,l=> by simp [entries,partsN,secs,Fo,Ci]
 | f+1,l=> by
  rw [entries,partsN];by_cases a:l=[]
  ·rw [if_pos a,if_pos a];simp [secs,Fo,Ci]
  ·rw [if_neg a,if_neg a]
   match l,a with
   | (k,v)::r,_=>
    simp only [secs,Fo,List.map_cons,Ci];rw [Zl f];rfl
theorem Afl:∀(f:Nat) (l:Its),Ki f l=(secs (partsN f l)).flatten
 | 0,l=> by simp [Ki,partsN,secs]
 | f+1,l=> by
  rw [Ki,partsN];by_cases a:l=[]
  ·rw [if_pos a,if_pos a];simp [secs]
  ·rw [if_neg a,if_neg a,Afl f];simp only [secs,List.map_cons,List.flatten_cons];rfl
theorem Aj1 (l:Its):Sp l=Fq ((secs (parts l)).map List.length) (Fo (parts l))++(secs (parts l)).flatten:=by
 unfold Sp Fq parts;rw [Zl,Afl];congr 5;simp only [secs,List.length_map,Zk _ _ rfl]
def Nz (l:Its):Prop:=(∀x∈l,Ei x.1.length=true/\x.2.length<=16)/\l.Pairwise fun x y=> x.1 < y.1
theorem Afm {p:Option (List UInt8)} {a b:List UInt8} (h:Gv p a=true) (c:a < b):Gv p b=true:=by
 cases p with
 | none=> rfl
 | some q=> simp only [Gv,decide_eq_true_eq] at*;exact Cz h c
theorem Zm:∀(l:Its) (p:Option (List UInt8)),Pt l p=true↔Nz l/\∀x∈l,Gv p x.1=true
 | [],p=> by simp [Pt,Nz]
 | y::r,p=> by
  have j:=Zm r (some y.1);simp only [Pt,Bool.and_eq_true,decide_eq_true_eq,j,Nz];constructor
  ·rintro ⟨⟨⟨b,g⟩,c⟩,⟨d,f⟩,i⟩;refine ⟨⟨?_,?_⟩,?_⟩
   ·intro x a;rcases List.mem_cons.1 a with rfl | a
    ·exact ⟨b,g⟩
    ·exact d x a
   ·refine List.pairwise_cons.2 ⟨fun x a=> ?_,f⟩;have:=i x a;simpa [Gv] using this
   ·intro x a;rcases List.mem_cons.1 a with rfl | a
    ·exact c
    ·exact Afm c (by have:=i x a;simpa [Gv] using this)
  ·rintro ⟨⟨b,g⟩,c⟩;obtain ⟨d,f⟩:=List.pairwise_cons.1 g;refine ⟨⟨⟨(b y (by simp)).1,(b y (by simp)).2⟩,c y (by simp)⟩,⟨fun x a=> b x (by simp [a]),f⟩,fun x a=> ?_⟩;simp only [Gv,decide_eq_true_eq];exact d x a
theorem Hk:∀(l:List (List UInt8)) (p:Option (List UInt8)),Az l p=true↔((∀x∈l,Ei x.length=true)/\l.Pairwise (·< ·))/\∀x∈l,Gv p x=true
 | [],p=> by simp [Az]
 | y::r,p=> by
  have i:=Hk r (some y);simp only [Az,Bool.and_eq_true,i];constructor
  ·rintro ⟨⟨b,c⟩,⟨d,f⟩,g⟩;refine ⟨⟨?_,?_⟩,?_⟩
   ·intro x a;rcases List.mem_cons.1 a with rfl | a
    ·exact b
    ·exact d x a
   ·refine List.pairwise_cons.2 ⟨fun x a=> ?_,f⟩;have:=g x a;simpa [Gv] using this
   ·intro x a;rcases List.mem_cons.1 a with rfl | a
    ·exact c
    ·exact Afm c (by have:=g x a;simpa [Gv] using this)
  ·rintro ⟨⟨b,j⟩,c⟩;obtain ⟨d,f⟩:=List.pairwise_cons.1 j;refine ⟨⟨b y (by simp),c y (by simp)⟩,⟨fun x a=> b x (by simp [a]),f⟩,fun x a=> ?_⟩;simp only [Gv,decide_eq_true_eq];exact d x a
theorem Rz (l:Its):Dl none l=true↔Nz l:=by
 unfold Dl;rw [Zm];simp [Gv]
theorem Nz.sub {a l:Its} (h:Nz l) (b:a.Sublist l):Nz a:=⟨fun x c=> h.1 x (b.subset c),h.2.sublist b⟩
def Oa (ps:List Its):Prop:=(∀p∈ps,p≠[]/\p.length<=4)/\Nz ps.flatten
theorem Oy {p:Its} (h:p≠[]):∃x∈p,x.1=Adc p:=by
 match p,h with
 | x::r,_=> exact ⟨x,by simp,rfl⟩
theorem Oa.tail {p:Its} {a:List Its} (h:Oa (p::a)):Oa a:=⟨fun q b=> h.1 q (by simp [b]),h.2.sub (by rw [List.flatten_cons];exact List.sublist_append_right _ _)⟩
theorem Oa.across {p:Its} {a:List Its} (h:Oa (p::a)):∀x∈p,∀y∈a.flatten,x.1 < y.1:=by
 have:=h.2.2;rw [List.flatten_cons,List.pairwise_append] at this;exact this.2.2
theorem Vh:∀(a:List Its),Oa a->Az (Fo a) none=true:=by
 intro a h;rw [Hk];refine ⟨⟨?_,?_⟩,fun x _=> rfl⟩
 ·intro x c;obtain ⟨p,d,rfl⟩:=List.mem_map.1 c;obtain ⟨y,b,e⟩:=Oy (h.1 p d).1;rw [<-e];exact (h.2.1 y (List.mem_flatten.2 ⟨p,d,b⟩)).1
 ·induction a with
  | nil=> simp [Fo]
  | cons p a ih=>
   rw [Fo,List.map_cons];refine List.pairwise_cons.2 ⟨fun k i=> ?_,ih h.tail⟩;obtain ⟨q,f,rfl⟩:=List.mem_map.1 i;obtain ⟨x,c,e⟩:=Oy (h.1 p (by simp)).1;obtain ⟨y,b,g⟩:=Oy (h.1 q (by simp [f])).1;rw [<-e,<-g];exact h.across x c y (List.mem_flatten.2 ⟨q,f,b⟩)
theorem Ako {p:Its} (d:p.length<=4) (b:Nz p):Kf 98 (Ano p)=some (Bx p):=by
 have c:∀x∈p,x.1.length<=12/\x.2.length<=16:=fun x a=> ⟨Ii (b.1 x a).1,(b.1 x a).2⟩
 have:=Lm p c;exact Ls 98 _ (by omega)
theorem Anp {p:Its} (h:p≠[]):∃x∈p,x.1=(p.map (·.1)).getD (p.length - 1) []:=by
 have b:0 < p.length:=List.length_pos_iff.2 h;have a:p.length - 1 < p.length:=by omega
 refine ⟨p[p.length - 1]'a,List.getElem_mem _,?_⟩;rw [List.getD_eq_getElem?_getD,List.getElem?_map,List.getElem?_eq_getElem a];rfl
theorem Aqk (a:List Its) (p:Its) (b:List Its) (h:Oa (a++p::b)):Bo (Fo (a++p::b)) a.length (Ano p)=some p:=by
 have c:=h.1 p (by simp);have d:Nz p:=h.2.sub (by rw [List.flatten_append,List.flatten_cons];exact (List.sublist_append_left _ _).trans (List.sublist_append_right _ _));have g:∀x∈p,x.1.length<=12/\x.2.length<=16:=fun x f=> ⟨Ii (d.1 x f).1,(d.1 x f).2⟩
 unfold Bo;rw [Ako c.2 d];simp only [Option.bind_some];rw [Aa6 p (by omega) g];simp only [Option.bind_some];rw [if_pos];unfold Vf;simp only [Bool.and_eq_true,decide_eq_true_eq,Bool.or_eq_true,Bool.not_eq_true',decide_eq_false_iff_not];refine ⟨⟨⟨⟨?_,c.2⟩,(Rz p).2 d⟩,?_⟩,?_⟩
 ·exact Nat.succ_le_of_lt (List.length_pos_iff.2 c.1)
 ·show Adc p=_;unfold Fo;rw [List.getD_eq_getElem?_getD,List.getElem?_map,List.getElem?_append_right (Nat.le_refl _)];simp
 ·match b,h with
  | [],_=> left;simp [Fo]
  | q::b',h=>
   right;have i:=h.1 q (by simp);obtain ⟨x,f,k⟩:=Anp c.1;obtain ⟨y,l,m⟩:=Oy i.1;have e:(Fo (a++p::q::b')).getD (a.length+1) []=Adc q:=by
    unfold Fo;rw [List.getD_eq_getElem?_getD,List.getElem?_map,List.getElem?_append_right (by omega)];simp
   rw [e,<-k,<-m];have j:Oa (p::q::b'):=⟨fun r n=> h.1 r (List.mem_append.2 (.inr n)),h.2.sub (by rw [List.flatten_append];exact List.sublist_append_right _ _)⟩;exact j.across x f y (List.mem_flatten.2 ⟨q,by simp,l⟩)
theorem Afn:∀(b a:List Its),Oa (a++b)->Hh (Fo (a++b)) a.length (secs b)=some b.flatten
 | [],a,h=> by simp [secs,Hh]
 | p::b,a,h=> by
  have d:=Afn b (a++[p]) (by rw [List.append_assoc];exact h);rw [List.append_assoc,List.length_append] at d;rw [secs,List.map_cons,Hh,Aqk a p b h];simp only [Option.bind_some];have c:Hh (Fo (a++p::b)) (a.length+1) (List.map Ano b)=some b.flatten:=d;rw [c];simp
theorem Qk {l:Its} (h:Nz l):Oa (parts l):=by
 refine ⟨fun p a=> Afk _ _ p a,?_⟩;rw [parts,Qj _ _ (by unfold many;omega)];exact h
theorem Ahx {f:List Its} (h:Oa f):∀s∈(secs f).map List.length,s < 65536:=by
 intro s j;obtain ⟨c,i,rfl⟩:=List.mem_map.1 j;obtain ⟨p,b,rfl⟩:=List.mem_map.1 i;have a:Nz p:=h.2.sub (List.sublist_flatten_of_mem b);have g:∀x∈p,x.1.length<=12/\x.2.length<=16:=fun x d=> ⟨Ii (a.1 x d).1,(a.1 x d).2⟩
 have k:=Lm p g;have l:=(h.1 p b).2;have m:=Gu [98] (Bx p) (by omega);have n:([98]:List UInt8).length=1:=rfl;unfold Ano;omega
theorem Ahy {l:Its} (h:Nz l) (c:l.length<=16):Ix (Sp l)=some ((secs (parts l)).map List.length,Fo (parts l)):=by
 rw [Aj1];have a:=Qk h;have b:(parts l).length<=4:=by have:=Tt (many l.length) l;unfold parts;unfold many at*;omega
 exact Adz _ _ _ (by simp [secs,Fo]) (by simpa [secs] using b) (Ahx a) (Vh _ a)
theorem Akp {l:Its} (h:Nz l) (c:l.length<=16):Mr (Sp l) ((secs (parts l)).map List.length)=some (secs (parts l)):=by
 rw [Aj1];have a:=Qk h;have b:(parts l).length<=4:=by have:=Tt (many l.length) l;unfold parts;unfold many at*;omega
 refine Ab6 _ _ (Ab7 _ _ (by simp [secs,Fo]) (by simpa [secs] using b) (Ij _ _ (Vh _ a)))
theorem Ahz {l:Its} (h:Nz l) (a:l.length<=16):Lh (Sp l)=some l:=by
 unfold Lh;rw [Ahy h a];simp only [Option.bind_some];rw [Akp h a];simp only [Option.bind_some];have:=Afn (parts l) [] (by simpa using Qk h);rw [List.nil_append] at this;rw [show ([]:List Its).length=0 from rfl] at this;rw [this,parts,Qj _ _ (by unfold many;omega)]
end Go.Proofs.YtolgpnaoaodepaaGreat.Pr
namespace Go.Proofs.YtolgpnaoaodepaaGreat
open Go.RowKit
theorem Anq {t:List UInt8} {n:Ld.Nd} (h:Pr.Fg t=some n):Ld.okN n/\∀c∈Ld.kds n,c<=2147483647:=by
 obtain ⟨a,-⟩:=Pr.Anh h;obtain ⟨kd,il,cl,pl,ml⟩:=n;unfold Pr.Nw Pg.well at a;simp only at a;by_cases k:kd=1
 ·rw [if_pos k] at a;simp only [Bool.and_eq_true,decide_eq_true_eq,List.length_map] at a;obtain ⟨⟨⟨⟨a,f⟩,g⟩,i⟩,j⟩:=a;have l:=(Pr.Rz il).1 a;have m:=List.length_eq_zero_iff.1 g;have o:=List.length_eq_zero_iff.1 i;have d:=List.length_eq_zero_iff.1 j;subst m o d;exact ⟨.inl ⟨k,rfl,rfl,rfl,f,l.2,l.1⟩,fun c b=> by cases b⟩
 ·rw [if_neg k] at a;simp only [Bool.and_eq_true,decide_eq_true_eq,List.length_map] at a;obtain ⟨⟨⟨⟨⟨⟨⟨⟨a,f⟩,g⟩,i⟩,j⟩,q⟩,r⟩,s⟩,u⟩:=a;obtain ⟨⟨y,z⟩,-⟩:=(Pr.Hk pl none).1 a;have d:=List.length_eq_zero_iff.1 j;subst d;refine ⟨.inr ⟨i,rfl,q,r,s,z,fun p A=> y p A,u,fun c b=> List.all_eq_true.1 g c b⟩,fun c b=> ?_⟩
  ·have:=List.all_eq_true.1 f (Int.ofNat c) (List.mem_map.2 ⟨c,b,rfl⟩);simp only [Pg.Bv,Bool.and_eq_true,decide_eq_true_eq] at this;have:=this.2;simp only [Int.ofNat_eq_natCast] at this;omega
theorem Mf {iml:List ByteArray} {n:Nat} {a:Ld.Nd} (h:(Ag iml)[n]?=some (some a)):Ld.okN a/\∀c∈Ld.kds a,c<=2147483647:=by
 unfold Ag at h;rw [List.getElem?_map,Option.map_eq_some_iff] at h;obtain ⟨s,-,h⟩:=h;exact Anq h
theorem Ct (iml:List ByteArray):Ld.Yu (Ag iml):=fun _ _ h=> (Mf h).1
theorem Ar7 (w:World) {j:Array Oper} {rest:List Oper} {o:Oper} {a:Act} {Q:Exit->Act->World->Prop} (s:o.guard=none) (G x:Operand) (t e:TypeId) (H:Tryz.prog.underlying t=some (.slice e))
  (z:Value) (size b:Nat) (d:(Tryz.prog.info? e).map (fun i=> (i.zero,i.size,i.bytes))=some (some z,size,b)) (y:z.cells.size=size) (A:0 < size) (C:b<=1000)
  (X:o.op=Op.call {callee:=Callee.builtin Builtin.append,args:= #[G,x],argTypes:= #[t,t]}) (B:Nat) (v u:Value) (n m:Nat) (xs f:List Value) (Y:a.eval G=v) (Z:a.eval x=u) (D:w.ownsRow B e size v n xs) (F:Nat) (k:w.ownsRow F e size u m f) (h1:∀x∈f,x.oneCell'=true) (hb:n+m<=1000000000) (hB:B<=w.heap.size)
  (h:∀(c:Value) (w':World),w'.ownsRow B e size c (n+m) (xs++f)->w.grownBy w' v.ownBlock->wpList Tryz.prog j Q rest (a.put o.dst c) w'):wpList Tryz.prog j Q (o::rest) a w:=by
 obtain ⟨i,hi,l,p,q⟩:=info_parts d;have key:∃c w',(Builtin.append_ #[t,t] o.type #[v,u]).run Tryz.prog w= .ok c w'/\w'.ownsRow B e size c (n+m) (xs++f)/\w.grownBy w' v.ownBlock:=by
  rcases k.2 with ⟨rfl,rfl⟩ | ⟨g,r,S,rfl,T,hg,hc,hm,U,V⟩
  ·have I:f=[]:=List.eq_nil_of_length_eq_zero (by rw [k.1,Nat.zero_mul]);subst I;refine ⟨v,w,run_append_owned_none w B t _ e i size H hi v n xs D,?_,⟨rfl,rfl,rfl,Nat.le_refl _,fun _ _ _=> rfl⟩⟩;rw [Nat.add_zero,List.append_nil];exact D
  ·obtain ⟨c,w',J,L,M,_,q5⟩:=run_append_own_at w B t o.type e i z size b H hi l p q y A v n xs D ⟨g,0,none⟩ m r f k.1 (k.cells rfl) h1 (by unfold maxLen;omega) (by have:(n+m)*b<=1000000000*1000:=Nat.mul_le_mul hb C;omega) hB;exact ⟨c,w',J,L,M⟩
 obtain ⟨c,w',N,O,R⟩:=key;refine wpList_plain s fun K W=> ?_
 unfold Oper.wp;simp [execOp,X,resolve,invoke,builtin,Y,Z,N,Result.andThen];exact W _ _ (h c w' O R)
def RlQ (w:World) (vim vre:Value) (iml:List ByteArray) (rd:List Nat) (v:Value) (tl:List TkM) (r:Ending) (w':World):Prop:=
 Mod (fun g=> vre.ownBlock=some g\/g∈tl.map (·.2.1)) w w'/\((r=Ae/\∀nds,Ld.Lev (Ag iml) rd (tl.map tkP) nds->¬Ld.Afa nds)\/∃w1 nds kss Fs v5,r= .returned v5/\Below w.heap.size w w1/\Ld.Afa nds/\RlM w1 vim vre iml rd (rd++tl.map (·.1)) v tl tl.length nds kss Fs v5 w')
theorem RlM.toMod {w i:World} {b a:Value} {iml:List ByteArray} {rd c:List Nat} {v:Value} {j:List TkM} {k:Nat} {d:List Ld.Nd} {f:List (List TkM)} {Fs:List (List Nat)} {m:Value} {W:World} (n:Below w.heap.size w i) (h:RlM i b a iml rd c v j k d f Fs m W):Mod (fun g=> a.ownBlock=some g\/g∈j.map (·.2.1)) w W:=
 (Mod.of_below (F:=fun _=> False) n).trans h.mod (fun _ _ z=> z.elim) (fun _ _ z=> z.imp id fun z=> by
  obtain ⟨y,l,e⟩:=List.mem_map.1 z;exact List.mem_map.2 ⟨y,List.mem_of_mem_take l,e⟩)
theorem Aj2 {w W:World} {f c:Value} {iml:List ByteArray} {rd:List Nat} {v:Value} {a:List TkM} {k:Nat} (p:Mod (fun g=> c.ownBlock=some g\/g∈a.map (·.2.1)) w W) (b:k < a.length) (i:∀d,(a[k]'b).1∉rd++(a.take k).map (·.1)->(Ag iml)[(a[k]'b).1]?=some (some d)->Ld.okP d (a[k]'b).2.2.1.data.toList (a[k]'b).2.2.2.data.toList->False):RlQ w f c iml rd v a Ae W:=by
 refine ⟨p,.inl ⟨rfl,fun o l _=> ?_⟩⟩;have e:a.map tkP=(a.take k).map tkP++tkP (a[k]'b)::(a.drop (k+1)).map tkP:=by
  have:a=a.take k++(a[k]'b::a.drop (k+1)):=by rw [<-List.drop_eq_getElem_cons b,List.take_append_drop]
  conv=> lhs;rw [this]
  rw [List.map_append,List.map_cons]
 rw [e] at l;obtain ⟨d,j,m,n⟩:=Ld.Lev.mid l;rw [List.map_map] at j;exact i d j m n
theorem Aph {a:List TkM} {k:Nat} (b:k < a.length) (rd:List Nat):rd++(a.take k).map (·.1)++[(a[k]'b).1]=rd++(a.take (k+1)).map (·.1):=by
 rw [List.take_succ_eq_append_getElem' (List.getElem?_eq_getElem b),List.map_append,List.append_assoc];rfl
set_option maxHeartbeats 1000000 in
set_option maxRecDepth 20000 in
theorem Aam (b2 b4 v:Value) (iml:List ByteArray) (rd:List Nat) (b:List TkM) (w:World) (hL:LdM b2 b4 iml (Ld.Ic iml.length rd) w) (hT:Kb 0 w v b) (hn:∀x∈b,An w x.2.1 (.slice none 0 0) (.slice none 0 0) (.slice none 0 0)) (hd:(b.map (·.2.1)).Nodup) (N:∀x∈b,x.1<=2147483647) (hl:b.length<=200000000):
  Calls Tryz.prog 72 #[.agg #[b2,b4],v] w (RlQ w b2 b4 iml rd v b):=by
 obtain ⟨p,s,rfl⟩:=Ab hL.im;obtain ⟨m,n,rfl⟩:=Ab hL.re;obtain ⟨a8,ct,rfl⟩:=Ab hT;rw [Ld.Kc] at*;have O:Below w.heap.size w (w.alloc (.cells #[.slice p iml.length s,.slice m iml.length n] 152)):=(Below.refl _ w).alloc (Nat.le_refl _) _;have s1:(w.alloc (.cells #[.slice p iml.length s,.slice m iml.length n] 152)).heap[w.heap.size]?=some (.cells #[.slice p iml.length s,.slice m iml.length n] 152 (0,0)):=heap_alloc_new _ _;have z1:(w.alloc (.cells #[.slice p iml.length s,.slice m iml.length n] 152)).heap.size=w.heap.size+1:=by simp
 have e0:Hid (RlM (w.alloc (.cells #[.slice p iml.length s,.slice m iml.length n] 152)) (.slice p iml.length s) (.slice m iml.length n) iml rd (rd++(b.take 0).map (·.1)) (.slice a8 b.length ct) b 0 [] [] [] (.slice none 0 0) (w.alloc (.cells #[.slice p iml.length s,.slice m iml.length n] 152))):=
  ⟨by rw [List.take_zero,List.map_nil,List.append_nil];exact hL.mod O,trivial,trivial,List.nodup_nil,⟨rfl,.inl ⟨rfl,rfl⟩⟩,(fun x N=> by cases N),List.nodup_nil,Aa hT O (Nat.le_refl _),⟨fun g z=> Nat.lt_of_lt_of_le (World.ownsRow.lt hT g z).2 O.size,fun g z=> Nat.lt_of_lt_of_le (World.ownsRow.lt hL.re g z).2 O.size,fun x N=> Nat.lt_of_lt_of_le (hn x N).lt O.size⟩,fun x N=> (O.block _ (hn x N).lt).trans (hn x N),hd,⟨rfl,rfl,rfl,Nat.le_refl _,fun _ _ _=> rfl⟩⟩
 have e1:Hid (∀g,(Value.slice m iml.length n).ownBlock=some g\/g∈b.map (·.2.1)->g < w.heap.size):=fun g z=> by
  rcases z with z | z
  ·exact (World.ownsRow.lt hL.re g z).2
  ·obtain ⟨y,hy,rfl⟩:=List.mem_map.1 z;exact (hn y hy).lt
 have HX:=hid N;have B:=hid O;have e2:=hid s1;clear hL hT hn hd N O s1;go_enter Tryz.func72,Tryz.ntmps72;go_wp2_with fail;generalize w.alloc (.cells #[.slice p iml.length s,.slice m iml.length n] 152)=w1 at*
 go_loopw [12,5,6] (fun i v5 v6 wr=>∃(k:Nat) (a:List Ld.Nd) (c:List (List TkM)) (Fs:List (List Nat)),i= .int .i64 k/\k<=b.length/\v6= .int .i64 (Ld.lvs a:Nat)/\c.flatten.length<=4*k/\RlM w1 (.slice p iml.length s) (.slice m iml.length n) iml rd (rd++(b.take k).map (·.1)) (.slice a8 b.length ct) b k a c Fs v5 wr) (fun i _ _ _=> b.length - (intOf i).toNat)
 case atStart=> exact ⟨0,[],[],[],rfl,Nat.zero_le _,rfl,by simp,e0.out⟩
 case round=>
  obtain ⟨k,a,c,Fs,rfl,hk,rfl,h8,hR⟩:=hrel;have V:=hid hR;have b5:a.length=k:=by
   have:=hR.lev.len;rw [List.length_map,List.length_take] at this;omega
  have e3:=Ld.Aqj a;have e4:Hid (wr.heap[w.heap.size]?=some (.cells #[.slice p iml.length s,.slice m iml.length n] 152 (0,0))):=by
   refine (hR.mod.block _ (by omega) (fun z=> ?_)).trans e2.out;have:=e1.out w.heap.size (z.imp id fun z=> List.mem_map.2 (by obtain ⟨y,hy,e⟩:=List.mem_map.1 z;exact ⟨y,List.mem_of_mem_take hy,e⟩));omega
  have e5:=hR.mod.size;clear hR;by_cases d:k < b.length
  ·obtain ⟨gt,h9,et,i0,-,i1,x0,x1,x2,x3⟩:=V.out.lvl.at k d;simp only [Value.slice.injEq,true_and] at et;obtain ⟨rfl,rfl⟩:=et;have b6:=HX.out _ (List.getElem_mem d);have b7:=V.out.low.2.2 _ (List.getElem_mem d);have l:Hid (∃x,b[k]'d=x):=⟨_,rfl⟩;generalize d9:b[k]'d=x at x0 x1 x2 x3 b6 b7;obtain ⟨L,M,f,j⟩:=x;have l:=hid d9;clear d9;simp only at x0 x1 x2 x3 b6 b7;have ba:Below wr.heap.size wr (wr.alloc (.cells #[.int .i64 (L:Nat),.pointer (some ⟨M,0,none⟩),.string f,.string j] 154)):=(Below.refl _ wr).alloc (Nat.le_refl _) _;have g8:=hid ba;have X:=hid (V.out.below ba);have Y:Hid (TkB (wr.alloc (.cells #[.int .i64 (L:Nat),.pointer (some ⟨M,0,none⟩),.string f,.string j] 154)) wr.heap.size (L:Nat) M f j):=heap_alloc_new _ _;have b8:=hid ((ba.block w.heap.size (by omega)).trans e4.out);have g9:(wr.alloc (.cells #[.int .i64 (L:Nat),.pointer (some ⟨M,0,none⟩),.string f,.string j] 154)).heap.size=wr.heap.size+1:=(by simp);clear ba;have Z:(0:Int)<=(k:Int):=(by omega);have h4:(k:Int) < (b.length:Int):=(by omega);go_upto_region 6 with fail;generalize wr.alloc (.cells #[.int .i64 (L:Nat),.pointer (some ⟨M,0,none⟩),.string f,.string j] 154)=wa at*;have l0:wa.cell? ⟨w.heap.size,0,none⟩=some (.slice p iml.length s):=(by simp [World.cell?,b8.out]);have l1:wa.cell? ⟨w.heap.size,1,none⟩=some (.slice m iml.length n):=(by simp [World.cell?,b8.out]);obtain ⟨t0,t1,t2,t3,-⟩:=Y.out.cells;go_wp2_with fail;refine (Aht _ _ iml _ L wa X.out.ld (by omega)).mono ?_;rintro r H ⟨t,⟨rfl,d6⟩ | ⟨kd,il,cl,pl,ml,vv,d7,a9,rfl,hv,U,d8⟩⟩
   ·have I:Hid (RlQ w (.slice p iml.length s) (.slice m iml.length n) iml rd (.slice (some ⟨gt,0,none⟩) b.length ct) b Ae H):=by
     refine Aj2 ((RlM.toMod B.out X.out).trans t (fun _ _ z=> z) (fun _ _ z=> .inl z)) d (fun nd q1 A _=> ?_);rw [l.out] at q1 A;refine d6 nd ⟨(Ld.We _ _ _).2 ⟨?_,q1⟩,A⟩;have:=(List.getElem?_eq_some_iff.1 A).1;unfold Ag at this
     rwa [List.length_map] at this
    clear t d6;unfold Ae at*;go_wp2_with fail;exact ⟨rfl,I.out⟩
   ·have b9:RlM w1 (.slice p iml.length s) (.slice m iml.length n) iml rd (rd++(b.take (k+1)).map (·.1)) (.slice (some ⟨gt,0,none⟩) b.length ct) b k a c Fs u5 H:=X.out.read t (by rw [<-Aph d rd,l.out,<-Ld.Afj];exact d8);obtain ⟨f9,d5⟩:=(Ld.We _ _ _).1 d7;obtain ⟨S,T⟩:=Mf a9;have c0:=hid a9;have c5:=hid U;have e6:=hid d5;have h5:=hid T;have HC:Hid ((kd=1->cl=[])/\(cl=[]/\pl=[]\/pl.length+1=cl.length)/\cl.length<=4):=by
     have e:(lists pl).length=pl.length:=(by unfold lists;rw [List.length_map]);rcases S with ⟨q1,A,q3,-⟩ | ⟨q1,A,q3,q4,q5,-⟩
     ·have e7:pl=[]:=List.eq_nil_of_length_eq_zero (by rw [<-e];exact List.length_eq_zero_iff.2 q3);exact ⟨fun _=> A,.inl ⟨A,e7⟩,by show cl.length<=4;rw [show cl=[] from A];simp⟩
     ·refine ⟨fun q=> ?_,.inr ?_,q4⟩
      ·rw [show kd=2 from q1] at q;exact absurd q (by decide)
      ·rw [<-e];exact q5
    obtain ⟨a1,c1,a2,c2,a3,c3,a4,c4,rfl⟩:=hv.shape;have R:∀g,(Value.slice m iml.length n).ownBlock=some g->g < wr.heap.size:=fun g z=> Nat.lt_of_lt_of_le (V.out.low.2.1 g z) e5
    have e8:Hid (TkB H wr.heap.size (L:Nat) M f j):=(t.block _ Y.out.lt (fun z=> Nat.lt_irrefl _ (R _ z))).trans Y.out;have b3:Below H.heap.size H (H.alloc (.cells #[.int .i64 kd,.slice a1 il.length c1,.slice a2 cl.length c2,.slice a3 pl.length c3,.slice a4 ml.length c4] 79)):=(Below.refl _ H).alloc (Nat.le_refl _) _;have c6:=hid (Bw H (.int .i64 kd) (.slice a1 il.length c1) (.slice a2 cl.length c2) (.slice a3 pl.length c3) (.slice a4 ml.length c4));have e9:=hid (b9.below b3);have c7:=hid (e8.out.keep b3);have c8:=hid (hv.below b3);have g4:wa.heap.size<=H.heap.size:=t.size;have g5:=b3.size;clear t d7 a9 hv U d8 b9 f9 d5 S T R b3 l0 l1 t0 t1 t2 t3;go_upto_region 7 with fail;generalize H.alloc (.cells #[.int .i64 kd,.slice a1 il.length c1,.slice a2 cl.length c2,.slice a3 pl.length c3,.slice a4 ml.length c4] 79)=w3 at*;obtain ⟨t0,t1,t2,t3,-⟩:=c7.out.cells;obtain ⟨n0,n1,n2,n3,n4,-⟩:=c6.out.cells;obtain ⟨u1,u2,u3,u4,ev,r1,r2,r3,r4,i2,i3,i4,i5⟩:=c8.out;simp only [Value.agg.injEq,Array.mk.injEq,List.cons.injEq,true_and,and_true] at ev;obtain ⟨rfl,rfl,rfl,rfl⟩:=ev;have c9:=hid (Anm kd f.data.toList j.data.toList il cl pl ml);have d0:=hid (Akn (L:Nat) M f j kd _ (.slice a2 cl.length c2) _ _ il pl ml w3 (Al r1 (Nat.zero_le _)) (Al r3 (Nat.zero_le _)) (Al r4 (Nat.zero_le _)) (by omega) (by omega) (by omega));clear r1 r2 r3 r4;generalize Aah f.data.toList j.data.toList il ml pl=ob at*;go_wp2_with fail;refine d0.out.mono ?_;rintro r w4 ⟨rfl,u⟩;have C:=hid (e9.out.below u);have f0:=hid (c7.out.keep u);have f1:=hid (c6.out.keep u);have f2:=hid (c8.out.below u);have g6:=u.size;clear u d0 t0 t1 t2 t3 n0 n1 n2 n3 n4
    cases ob with
    | false=>
     have I:Hid (RlQ w (.slice p iml.length s) (.slice m iml.length n) iml rd (.slice (some ⟨gt,0,none⟩) b.length ct) b Ae w4):=by
      refine Aj2 (RlM.toMod B.out C.out) d (fun nd q1 A q3=> ?_);rw [l.out] at A q3;rw [c0.out] at A;simp only [Option.some.injEq] at A;subst A;exact absurd (c9.out.2 q3) (by decide)
     go_wp2_with fail;refine (Ay _).mono ?_;rintro r w5 ⟨rfl,rfl⟩;unfold Ae at*;go_wp2_with fail;exact ⟨rfl,I.out⟩
    | true=>
     obtain ⟨t0,t1,t2,t3,-⟩:=f0.out.cells;obtain ⟨n0,n1,n2,n3,n4,-⟩:=f1.out.cells;go_wp2_with fail;refine (Aw _).mono ?_;rintro r w4 ⟨rfl,rfl⟩;go_upto_if 26 with fail
     go_cut [6] (fun v6 wx=> v6= .int .i64 (Ld.lvs (a++[(kd,plain il,cl,lists pl,plainCh ml)]):Nat)/\wx=w4)
     case first=>
      have J:=hid (Ld.Ank a (kd,plain il,cl,lists pl,plainCh ml));by_cases Z:kd=1
      ·have a0:Hid (Ld.lvs (a++[(kd,plain il,cl,lists pl,plainCh ml)])=Ld.lvs a+1):=(by show _=_;rw [J.out,if_pos Z]);clear J;generalize Ld.lvs (a++[(kd,plain il,cl,lists pl,plainCh ml)])=g3 at*;go_wp2_with fail;go_meet;have:=a0.out;exact ⟨by subst this;go_num,rfl⟩
      ·have a0:Hid (Ld.lvs (a++[(kd,plain il,cl,lists pl,plainCh ml)])=Ld.lvs a):=(by show _=_;rw [J.out,if_neg Z];rfl);clear J;generalize Ld.lvs (a++[(kd,plain il,cl,lists pl,plainCh ml)])=g3 at*;go_wp2_with fail;go_meet;exact ⟨by rw [a0.out],rfl⟩
     case rest=>
      obtain ⟨rfl,rfl⟩:=hcut;obtain ⟨i6,i7,i8,i9,ev,r1,r2,r3,r4,-⟩:=f2.out;simp only [Value.agg.injEq,Array.mk.injEq,List.cons.injEq,true_and,and_true] at ev;obtain ⟨rfl,rfl,rfl,rfl⟩:=ev;have a5:An wc M (.slice none 0 0) (.slice none 0 0) (.slice none 0 0):=by
       have:=C.out.todo (b[k]'d) (by rw [List.drop_eq_getElem_cons d];exact List.mem_cons_self ..);rw [l.out] at this;exact this
      have f3:=hid (Anj (L:Nat) M f j kd (.slice a1 il.length c1) (.slice a2 cl.length c2) (.slice a3 pl.length c3) (.slice a4 ml.length c4) cl pl wc a5 (Al r2 (Nat.zero_le _)) (Al r3 (Nat.zero_le _)) ⟨_,_,_,rfl⟩ ⟨_,_,_,rfl⟩ HC.out.2.1 (by have:=HC.out.2.2;omega));have d1:=hid r1;have d2:=hid r4;have f4:=hid a5;clear r1 r2 r3 r4 a5;go_wp2_with fail;refine f3.out.mono ?_;rintro r w5 ⟨kids,v6,vp,rfl,G,b0⟩;have a6:=b0.mod;have f5:Hid (Kb w1.heap.size w5 u5 c.flatten):=a6.row C.out.row (fun g z z'=> Aq f4.out C.out.row (by decide) (by rw [<-z'];exact z));have d3:=hid b0;have h6:=a6.size;have h7:kids.length<=4:=(by have:=HC.out.2.2;omega);have f6:=hid G;clear a6 b0 G t0 t1 t2 t3 n0 n1 n2 n3 n4;go_wp2_with (at_builtin;refine Ar7 w5 rfl (.tmp 29) (.tmp 32) 155 154 Tryz.underlying155 _ 4 48 Abw rfl (by decide) (by decide) rfl w1.heap.size u5 v6 c.flatten.length kids.length (tcells c.flatten) (tcells kids) rfl rfl f5.out _ d3.out.row (Ahu _) (by omega) (by omega) ?_;intro v7 w6 g1 g2);have f7:∀g∈Fs.flatten,g < wa.heap.size:=fun g hg=> by
       obtain ⟨x,_,nd,ks,F,hf,hg⟩:=V.out.fld.all g hg;have:=(hf.lt g hg).1;omega
      obtain ⟨Fs',g0⟩:=C.out.fill d (kd:=kd) (v1:= .slice a1 il.length c1) (v2:= .slice a2 cl.length c2) (v3:= .slice a3 pl.length c3) (v4:= .slice a4 ml.length c4) (il:=il) (cl:=cl) (pl:=pl) (ml:=ml) (kids:=kids) (v6:=v6) (vp:=vp) (B0:=wa.heap.size) (by rw [l.out];exact d3.out) f6.out f7 (by omega) d1.out d2.out c5.out HC.out.1 (by rw [l.out];exact c0.out) (by rw [l.out];exact c9.out.1 trivial) (by rw [l.out];exact e6.out) g2 g1;have f8:(c++[kids]).flatten.length<=4*(k+1):=by
       rw [List.flatten_append,List.length_append,List.flatten_cons,List.flatten_nil,List.append_nil];omega
      exact ⟨⟨k+1,a++[(kd,plain il,cl,lists pl,plainCh ml)],c++[kids],Fs',by go_num,by omega,rfl,f8,g0⟩,by simp [intOf];omega⟩
  ·have a7:k=b.length:=(by omega);have I:Hid (∀W,Below wr.heap.size wr W->Mod (fun g=> (Value.slice m iml.length n).ownBlock=some g\/g∈b.map (·.2.1)) w W/\RlM w1 (.slice p iml.length s) (.slice m iml.length n) iml rd (rd++b.map (·.1)) (.slice a8 b.length ct) b b.length a c Fs u5 W):=fun W hb=> by
    have h:=V.out.below hb;have hm:=RlM.toMod B.out h;subst a7;rw [List.take_length] at h;exact ⟨hm,h⟩
   have d4:Hid (∀o,Ld.Lev (Ag iml) rd (b.map tkP) o->o=a):=fun o h=> by
    have:=V.out.lev;rw [a7,List.take_length] at this;exact Ld.Lev.uniq h this
   have HU:=hid (Ld.Anl a);rw [b5,a7] at HU;have g7:Ld.lvs a<=b.length:=(by omega);clear b5 e3;generalize Ld.lvs a=lv at*;by_cases h0:lv=0
   ·have D:Hid (Ld.Afa a):=HU.out.2 (.inl h0);subst h0;clear HU;go_wp2_with fail;refine (Aw _).mono ?_;rintro r w5 ⟨rfl,rfl⟩;go_wp2_with fail;go_ret;exact ⟨(I.out _ (Below.refl _ _)).1,.inr ⟨w1,a,c,Fs,u5,rfl,B.out,D.out,(I.out _ (Below.refl _ _)).2⟩⟩
   ·have h2:((lv:Int)==0)=false:=(by simp;omega);by_cases h1:lv=b.length
    ·have D:Hid (Ld.Afa a):=HU.out.2 (.inr h1);clear HU;go_wp2_with fail
     all_goals
      refine (Aw _).mono ?_;rintro r w5 ⟨rfl,rfl⟩;go_wp2_with fail;go_ret;exact ⟨(I.out _ (Below.refl _ _)).1,.inr ⟨w1,a,c,Fs,u5,rfl,B.out,D.out,(I.out _ (Below.refl _ _)).2⟩⟩
    ·have D:Hid (¬Ld.Afa a):=fun z=> (HU.out.1 z).elim h0 h1
     clear HU;have h3:((lv:Int)==(b.length:Int))=false:=(by simp;omega);go_wp2_with fail
     all_goals
      refine (Ay _).mono ?_;rintro r w5 ⟨rfl,rfl⟩;unfold Ae at*;go_wp2_with fail;exact ⟨rfl,(I.out _ (Below.refl _ _)).1,.inl ⟨rfl,fun o h=> by rw [d4.out o h];exact D.out⟩⟩
end Go.Proofs.YtolgpnaoaodepaaGreat
