import Derived.Test.YtolgpnaoaodepaaGreatTreYm
namespace Go.Proofs.YtolgpnaoaodepaaGreat
open Go.RowKit
set_option maxHeartbeats 400000 in
set_option maxRecDepth 20000 in
theorem Rg (b:ByteArray) (a:Nat) (k l:Option Addr) (f g m n:Nat) (vc:Value) (w:World) (i:An w a (.slice k f m) (.slice l g n) vc) (A:f<=16) (B:g<=4):
  Calls Tryz.prog 64 #[.agg #[.string b,.pointer (some ⟨a,0,none⟩)]] w fun r w'=>∃v,r= .returned v/\Ap w.heap.size w' v [(b,a)]/\Below w.heap.size w w':=by
 have c:=(Below.refl w.heap.size w).alloc (Nat.le_refl _) (.cells #[.string b,.pointer (some ⟨a,0,none⟩)] 132);have j:Hid (Below w.heap.size w ((w.alloc (.cells #[.string b,.pointer (some ⟨a,0,none⟩)] 132)).alloc (.cells #[.string b,.pointer (some ⟨a,0,none⟩)] 132))):=c.alloc (by simp) _;have d:An (w.alloc (.cells #[.string b,.pointer (some ⟨a,0,none⟩)] 132)) a (.slice k f m) (.slice l g n) vc:=(c.block a i.lt).trans i;obtain ⟨u,y,z,-⟩:=d.cells;have o:=i.lt;have s:decide ((16:Int) < (f:Int))=false:=decide_eq_false (by omega);have t:decide ((4:Int) < (g:Int))=false:=decide_eq_false (by omega);have p:Hid (Ap w.heap.size ((w.alloc (.cells #[.string b,.pointer (some ⟨a,0,none⟩)] 132)).alloc (.cells #[.string b,.pointer (some ⟨a,0,none⟩)] 132)) (.slice (some ⟨w.heap.size+1,0,none⟩) 1 1) [(b,a)]):=by
  have q:(w.alloc (.cells #[.string b,.pointer (some ⟨a,0,none⟩)] 132)).heap.size=w.heap.size+1:=by simp
  refine ⟨rfl,.inr ⟨w.heap.size+1,1,#[.string b,.pointer (some ⟨a,0,none⟩)],rfl,by omega,?_,Nat.le_refl _,by unfold maxLen;omega,rfl,rfl⟩⟩;rw [<-q];exact heap_alloc_new _ _
 clear c d i;go_enter Tryz.func64,Tryz.ntmps64;go_wp2_with fail;go_ret;exact ⟨_,rfl,p.out,j.out⟩
set_option maxHeartbeats 400000 in
set_option maxRecDepth 20000 in
theorem Am2 (d:ByteArray) (c:Nat) (k:Value) (il:List (ByteArray×ByteArray)) (w:World) (i:An w c k (.slice none 0 0) (.slice none 0 0)) (l:Ak 0 w k il) (y:16 < il.length) (m:il.length<=2000000):
  Calls Tryz.prog 64 #[.agg #[.string d,.pointer (some ⟨c,0,none⟩)]] w fun r w'=>∃v pl G,r= .returned v/\CtQ 0 w (Tr.Dz d.data.toList (Tr.shares (plain il) 16)) v pl G w'/\(∀g∈G,w.heap.size<=g)/\Below w.heap.size w w':=by
 have a:=hid ((Below.refl w.heap.size w).alloc (Nat.le_refl _) (.cells #[.string d,.pointer (some ⟨c,0,none⟩)] 132));have b:An (w.alloc (.cells #[.string d,.pointer (some ⟨c,0,none⟩)] 132)) c k (.slice none 0 0) (.slice none 0 0):=(a.out.block c i.lt).trans i;obtain ⟨A,vc,rfl⟩:=Ab l;obtain ⟨B,C,D,-⟩:=b.cells;have s:=i.lt;have n:=hid (Aeb d c _ il _ b (Aa l a.out (Nat.le_refl _)) y m);have z:decide ((16:Int) < (il.length:Int))=true:=decide_eq_true (by omega);clear b i l;go_enter Tryz.func64,Tryz.ntmps64;go_wp2_with fail;refine n.out.mono ?_;rintro r o ⟨v,pl,G,rfl,f,p,q⟩;have t:Hid (CtQ 0 w (Tr.Dz d.data.toList (Tr.shares (plain il) 16)) v pl G o/\(∀g∈G,w.heap.size<=g)/\Below w.heap.size w o):=by
  have j:=a.out.size;exact ⟨⟨Al f.row j,f.kids,f.nd⟩,fun g u=> Nat.le_trans j (p g u),a.out.trans (q.mono j)⟩
 clear f p q n;go_wp2_with fail;go_ret;exact ⟨_,_,G,rfl,t.out⟩
set_option maxHeartbeats 400000 in
set_option maxRecDepth 20000 in
theorem Am3 (m:ByteArray) (j:Nat) (vp vc:Value) (b:List (ByteArray×Nat)) (ml:List (Int×ByteArray×ByteArray)) (w:World) (p:An w j (.slice none 0 0) vp vc) (s:Ap 0 w vp b) (k:Au 0 w vc ml) (F:4 < b.length) (t:b.length<=2000000) (u:ml.length<=2000000):
  Calls Tryz.prog 64 #[.agg #[.string m,.pointer (some ⟨j,0,none⟩)]] w fun r w'=>∃v pl vs g C,r= .returned v/\CbQ w pl vs (Tr.shares b 4) g ml v C w':=by
 have d:=hid ((Below.refl w.heap.size w).alloc (Nat.le_refl _) (.cells #[.string m,.pointer (some ⟨j,0,none⟩)] 132));have f:An (w.alloc (.cells #[.string m,.pointer (some ⟨j,0,none⟩)] 132)) j (.slice none 0 0) vp vc:=(d.out.block j p.lt).trans p;obtain ⟨H,B,rfl⟩:=Ab s;obtain ⟨I,J,L,-⟩:=f.cells;have z:=p.lt;have y:=hid (Aa9 m j _ _ b ml _ f (Aa s d.out (Nat.le_refl _)) (Aa k d.out (Nat.le_refl _)) F t u);have G:decide ((4:Int) < (b.length:Int))=true:=decide_eq_true (by omega);clear f p s k;go_enter Tryz.func64,Tryz.ntmps64;go_wp2_with fail;refine y.out.mono ?_;rintro r D ⟨v,pl,vs,g,C,rfl,c⟩;have A:Hid (CbQ w pl vs (Tr.shares b 4) g ml v C D):=by
  have l:=d.out.size;exact ⟨c.len,Al c.row l,⟨c.many.n,fun i hi q=> Al (c.many.o i hi q) l,c.many.a⟩,c.brm,c.brc,c.old,c.pv,Nat.le_trans l c.hC,d.out.trans (c.bel.mono l)⟩
 clear c y;go_wp2_with fail;go_ret;exact ⟨_,_,_,_,C,rfl,A.out⟩
end Go.Proofs.YtolgpnaoaodepaaGreat
namespace Go.Proofs.YtolgpnaoaodepaaGreat.Tr
def Fd {h:Nat} (s:List (Key×Ac h)):Key:=(s.head?.map (·.1)).getD []
def Ep {h:Nat} (ss:List (List (Key×Ac h))) (cs:List Ch):List (Key×Ac (h+1)):=ss.mapIdx fun j s=> (Fd s,((s,cs.filter fun c=> decide (ix (ss.map Fd) c.2.1=j)):Ac (h+1)))
end Go.Proofs.YtolgpnaoaodepaaGreat.Tr
namespace Go.Proofs.YtolgpnaoaodepaaGreat
open Go.RowKit
theorem Cc.cutAt {α:Type} {R:Nat->α->List Nat->Prop} {pl:List (ByteArray×Nat)} {a:List (Tr.Key×α)} {G:List Nat} (h:Cc R pl a G) (q:Nat):∃b c,Cc R (pl.take q) (a.take q) b/\Cc R (pl.drop q) (a.drop q) c/\G=b++c:=by
 have j:=h.len;rw [<-List.take_append_drop q a] at h;obtain ⟨A,B,b,c,rfl,m,g,i,rfl⟩:=h.split;have k:A.length=min q a.length:=by rw [m,List.length_take]
 rw [List.length_append] at j;by_cases n:q<=a.length
 ·have d:(A++B).take q=A:=by rw [show q=A.length by omega,List.take_left]
  have f:(A++B).drop q=B:=by rw [show q=A.length by omega,List.drop_left]
  rw [d,f];exact ⟨b,c,g,i,rfl⟩
 ·have l:B=[]:=List.eq_nil_of_length_eq_zero (by omega);subst l;have d:(A++[]).take q=A:=by rw [List.append_nil];exact List.take_of_length_le (by omega)
  have f:(A++[]).drop q=[]:=by rw [List.append_nil];exact List.drop_of_length_le (by omega)
  rw [d,f];exact ⟨b,c,g,i,rfl⟩
theorem Aim {α:Type} {R:Nat->α->List Nat->Prop}:∀(k:Nat) {pl:List (ByteArray×Nat)} {a:List (Tr.Key×α)} {G:List Nat},Cc R pl a G->(k=0->pl=[])->∃Gs:List (List Nat),Gs.length=k/\Gs.flatten=G/\∀j (b:j < (Tr.sh k pl).length) (f:j < (Tr.sh k a).length) (t:j < Gs.length),Cc R ((Tr.sh k pl)[j]'b) ((Tr.sh k a)[j]'f) (Gs[j]'t)
 | 0,pl,a,G,h,h0=> by
  have n:=h0 rfl;subst n;have c:=h.len;have d:a=[]:=List.eq_nil_of_length_eq_zero (by simpa using c.symm);subst d;have o:G=[]:=h;exact ⟨[],rfl,by rw [o];rfl,fun j b=> by simp [Tr.sh] at b⟩
 | k+1,pl,a,G,h,_=> by
  have c:=h.len;obtain ⟨m,u,b,f,rfl⟩:=h.cutAt ((pl.length+k) / (k+1));obtain ⟨Gs,p,q,r⟩:=Aim k f (fun s=> by subst s;rw [Nat.zero_add,Nat.add_zero,Nat.div_one,List.drop_length]);refine ⟨m::Gs,by rw [List.length_cons,p],by rw [List.flatten_cons,q],fun j g i l=> ?_⟩
  match j,g,i,l with
  | 0,_,_,_=>
   show Cc R (pl.take ((pl.length+k) / (k+1))) (a.take ((a.length+k) / (k+1))) m;rw [<-c];exact b
  | j+1,g,i,l=>
   have:=r j (by simpa [Tr.sh] using g) (by rw [Tr.Jq];rw [Tr.Jq] at i;omega) (by simpa using l);simp only [Tr.sh,List.getElem_cons_succ];have e:a.drop ((a.length+k) / (k+1))=a.drop ((pl.length+k) / (k+1)):=(by rw [c]);simpa [e] using this
theorem Ain {α:Type} {R:Nat->α->List Nat->Prop}:∀{pl:List (ByteArray×Nat)} {c:List (Tr.Key×α)} {Gs:List (List Nat)},pl.length=c.length->pl.length=Gs.length->(∀j (a:j < pl.length) (b:j < c.length) (i:j < Gs.length),(pl[j]'a).1.data.toList=(c[j]'b).1/\R (pl[j]'a).2 (c[j]'b).2 (Gs[j]'i))->Cc R pl c Gs.flatten
 | [],[],[],_,_,_=> rfl
 | x::pl,y::c,G::Gs,a,b,h=> ⟨(h 0 (by simp) (by simp) (by simp)).1,G,Gs.flatten,(h 0 (by simp) (by simp) (by simp)).2,Ain (by simpa using a) (by simpa using b) (fun j d f g=> h (j+1) (by simpa using d) (by simpa using f) (by simpa using g)),by simp⟩
 | [],_::_,_,a,_,_=> by simp at a
 | _::_,[],_,a,_,_=> by simp at a
 | [],[],_::_,_,b,_=> by simp at b
 | _::_,_::_,[],_,b,_=> by simp at b
theorem Cc.head {α:Type} {R:Nat->α->List Nat->Prop} {pl:List (ByteArray×Nat)} {a:List (Tr.Key×α)} {G:List Nat} (h:Cc R pl a G):Abc pl=(a.head?.map (·.1)).getD []:=by
 have:=h.keys;unfold pkeys at this;unfold Abc
 cases pl with
 | nil=> cases a with
  | nil=> rfl
  | cons y r=> simp at this
 | cons x r=> cases a with
  | nil=> simp at this
  | cons y s=> simp at this;simp [this.1]
theorem He (ml:List (Int×ByteArray×ByteArray)) (p:Tr.Ch->Bool):plainCh (ml.filter fun c=> p (c.1,c.2.1.data.toList,c.2.2.data.toList))=(plainCh ml).filter p:=by
 unfold plainCh;rw [List.filter_map];rfl
def cbF (pl:List (ByteArray×Nat)) (vs:List Value) (vcs:Nat->Value) (Gs:List (List Nat)) (j:Nat):List Nat:=(pl.getD j (⟨#[]⟩,0)).2::(blk (vs.getD j (.slice none 0 0))++(blk (vcs j)++Gs.getD j []))
theorem Aos {h:Nat} {w w':World} {d pl:List (ByteArray×Nat)} {X:List (Tr.Key×Tr.Ac h)} {Z:List Nat} {ml:List (Int×ByteArray×ByteArray)} {vs:List Value} {s:Nat->Value} {v:Value} {C:Nat} (hk:Cc (Rep h w) d X Z) (b8:Z.Nodup) (J:∀g∈Z,g < w.heap.size) (h0:0 < d.length) (c:CbQ w pl vs (Tr.shares d 4) s ml v C w'):∃G,Cc (Rep (h+1) w') pl (Tr.Ep (Tr.shares X 4) (plainCh ml)) G/\(blk v++G).Nodup/\∀g∈G,g∈Z\/w.heap.size<=g:=by
 have a9:=hk.len;have b0:Cc (Rep h w') d X Z:=hk.imp fun p t F hF hr=> hr.keep fun g hg=> c.bel.block g (J g (hF g hg))
 have a0:=Tr.Hx d 4 (by decide);obtain ⟨Gs,g1,g2,g3⟩:=Aim ((d.length+4 - 1) / 4) b0 (fun q=> by have:=a0.2.2 h0;omega);have a5:Tr.shares X 4=Tr.sh ((d.length+4 - 1) / 4) X:=by unfold Tr.shares;rw [a9]
 have a6:Tr.shares d 4=Tr.sh ((d.length+4 - 1) / 4) d:=rfl;rw [<-a5,<-a6] at g3;have c0:(Tr.shares X 4).length=Gs.length:=by rw [a5,Tr.Jq,g1]
 have b5:(Tr.shares d 4).length=Gs.length:=by rw [a6,Tr.Jq,g1]
 have b6:vs.length=Gs.length:=by rw [c.many.n,b5]
 have c1:pl.length=Gs.length:=by rw [c.len,b6]
 have R:pkeys pl=(Tr.shares X 4).map Tr.Fd:=by
  refine List.ext_getElem (by simp [pkeys];omega) fun j z N=> ?_
  have j1:j < pl.length:=by simpa [pkeys] using z
  have H:j < Gs.length:=by omega
  have e:=c.brm.key j j1 (by omega);rw [(g3 j (by omega) (by omega) H).head] at e;simp only [pkeys,List.getElem_map];rw [e];rfl
 have S:∀j (z:j < pl.length) (N:j < vs.length) (q3:j < Gs.length),cbF pl vs s Gs j=(pl[j]'z).2::(blk (vs[j]'N)++(blk (s j)++Gs[j]'q3)):=fun j z N q3=> by
  unfold cbF;simp [List.getD_eq_getElem?_getD,List.getElem?_eq_getElem z,List.getElem?_eq_getElem N,List.getElem?_eq_getElem q3]
 have I:∀j (q:j < Gs.length),∀x∈Gs[j]'q,x∈Z:=fun j q x r=> by rw [<-g2];exact List.mem_flatten.2 ⟨_,List.getElem_mem q,r⟩
 have b7:Gs.flatten.Nodup:=by rw [g2];exact b8
 have a7:=List.pairwise_flatten.1 b7;have A:∀j (q:j < Gs.length) x,x∈cbF pl vs s Gs j->(∃z:j < pl.length,x=(pl[j]'z).2/\C<=x)\/(∃N:j < vs.length,(vs[j]'N).ownBlock=some x/\w.heap.size<=x/\x < C)\/((s j).ownBlock=some x/\C<=x)\/(x∈Gs[j]'q/\x < w.heap.size):=fun j q x r=> by
  rw [S j (by omega) (by omega) q] at r;rcases List.mem_cons.1 r with rfl | r
  ·exact .inl ⟨by omega,rfl,c.brm.low _ (List.getElem_mem _)⟩
  ·rcases List.mem_append.1 r with r | r
   ·have u:=Af.1 r;exact .inr (.inl ⟨by omega,u,(c.many.lt (List.getElem_mem _) x u).1,c.old _ (List.getElem_mem _) x u⟩)
   ·rcases List.mem_append.1 r with r | r
    ·have u:=Af.1 r;exact .inr (.inr (.inl ⟨u,(World.ownsRow.lt (c.brc.o j (by omega)) x u).1⟩))
    ·exact .inr (.inr (.inr ⟨r,J x (I j q x r)⟩))
 have T:∀i j (z:i < pl.length) (_:j < pl.length) x,x=(pl[i]'z).2->(s j).ownBlock≠some x:=fun i j z N x e=> by
  rw [e];exact Aq (c.brm.nod i z (by omega)) (c.brc.o j N) (by decide)
 have hC:=c.hC;refine ⟨((List.range pl.length).map (cbF pl vs s Gs)).flatten,Ain (by simp [Tr.Ep];omega) (by simp) (fun j z N q3=> ?_),?_,fun g hg=> ?_⟩
 ·have H:j < Gs.length:=by omega
  have a8:=g3 j (by omega) (by omega) H;simp only [Tr.Ep,List.getElem_mapIdx,List.getElem_map,List.getElem_range];refine ⟨?_,vs[j]'(by omega),s j,(Tr.shares d 4)[j]'(by omega),ml.filter (atP pl j),Gs[j]'H,c.brm.nod j z (by omega),Fx (c.many.o j (by omega) (by omega)),Fx (c.brc.o j z),?_,a8,S j z (by omega) H⟩
  ·rw [c.brm.key j z (by omega),a8.head];rfl
  ·rw [<-R,<-He];rfl
 ·refine List.nodup_append.2 ⟨Dy v,?_,fun a Y b u e=> ?_⟩
  ·refine List.pairwise_flatten.2 ⟨fun l hl=> ?_,?_⟩
   ·obtain ⟨j,hj,rfl⟩:=List.mem_map.1 hl;have k:j < pl.length:=List.mem_range.1 hj;have H:j < Gs.length:=(by omega);rw [S j k (by omega) H];have b9:=c.brm.low _ (List.getElem_mem k);refine List.nodup_cons.2 ⟨fun q=> ?_,List.nodup_append.2 ⟨Dy _,List.nodup_append.2 ⟨Dy _,a7.1 _ (List.getElem_mem H),fun a Y b u e=> ?_⟩,fun a Y b u e=> ?_⟩⟩
    ·rcases List.mem_append.1 q with q | q
     ·have:=c.old _ (List.getElem_mem _) _ (Af.1 q);omega
     ·rcases List.mem_append.1 q with q | q
      ·exact T j j k k _ rfl (Af.1 q)
      ·have:=J _ (I j H _ q);omega
    ·have h1:=(World.ownsRow.lt (c.brc.o j k) a (Af.1 Y)).1;have h2:=J b (I j H b u);omega
    ·have h1:=c.old _ (List.getElem_mem _) a (Af.1 Y);have c2:=(c.many.lt (List.getElem_mem _) a (Af.1 Y)).1;rcases List.mem_append.1 u with u | u
     ·have:=(World.ownsRow.lt (c.brc.o j k) b (Af.1 u)).1;omega
     ·have:=J b (I j H b u);omega
   ·refine List.pairwise_iff_getElem.2 fun i j qi qj W x r y hy e=> ?_
    have L:i < pl.length:=(by simpa using qi);have M:j < pl.length:=(by simpa using qj);simp only [List.getElem_map,List.getElem_range] at r hy;subst e;rcases A i (by omega) x r with ⟨V,m,D⟩ | ⟨V,m,D,a4⟩ | ⟨m,D⟩ | ⟨m,D⟩
    ·rcases A j (by omega) x hy with ⟨O,f,B⟩ | ⟨O,f,B,b4⟩ | ⟨f,B⟩ | ⟨f,B⟩
     ·have:=List.pairwise_iff_getElem.1 c.brm.inc i j (by simpa using L) (by simpa using M) W;simp only [List.getElem_map] at this;omega
     ·omega
     ·exact T i j L M x m f
     ·omega
    ·rcases A j (by omega) x hy with ⟨O,f,B⟩ | ⟨O,f,B,b4⟩ | ⟨f,B⟩ | ⟨f,B⟩
     ·omega
     ·exact (List.pairwise_iff_getElem.1 c.many.a i j V O W) x m f
     ·omega
     ·omega
    ·rcases A j (by omega) x hy with ⟨O,f,B⟩ | ⟨O,f,B,b4⟩ | ⟨f,B⟩ | ⟨f,B⟩
     ·exact T j i M L x f m
     ·omega
     ·exact c.brc.a i j L M (by omega) x m f
     ·omega
    ·rcases A j (by omega) x hy with ⟨O,f,B⟩ | ⟨O,f,B,b4⟩ | ⟨f,B⟩ | ⟨f,B⟩
     ·omega
     ·omega
     ·omega
     ·exact (List.pairwise_iff_getElem.1 a7.2 i j (by omega) (by omega) W) x m x f rfl
  ·subst e;have hv:=Af.1 Y;have c3:=c.pv a hv;obtain ⟨l,hl,U⟩:=List.mem_flatten.1 u;obtain ⟨j,hj,rfl⟩:=List.mem_map.1 hl;have k:j < pl.length:=List.mem_range.1 hj;rcases A j (by omega) a U with ⟨V,m,D⟩ | ⟨V,m,D,a4⟩ | ⟨m,D⟩ | ⟨m,D⟩
   ·exact Aq (c.brm.nod j V (by omega)) c.row (by decide) (by rw [<-m];exact hv)
   ·omega
   ·exact Cn c.row (c.brc.o j k) (by decide) a hv m
   ·omega
 ·obtain ⟨l,hl,U⟩:=List.mem_flatten.1 hg;obtain ⟨j,hj,rfl⟩:=List.mem_map.1 hl;have k:j < pl.length:=List.mem_range.1 hj;rcases A j (by omega) g U with ⟨V,m,D⟩ | ⟨V,m,D,a4⟩ | ⟨m,D⟩ | ⟨m,D⟩
  ·exact .inr (by omega)
  ·exact .inr D
  ·exact .inr (by omega)
  ·exact .inl (I j (by omega) g m)
end Go.Proofs.YtolgpnaoaodepaaGreat
namespace Go.Proofs.YtolgpnaoaodepaaGreat.Tr
theorem Xs (l:List It) (r:List (List It)):Dz (Rf l) (l::r)=Nj (l::r):=rfl
theorem Aec {l:List It} (h:l≠[]):∃x,x∈l/\x.1=Rf l:=by
 cases l with
 | nil=> exact absurd rfl h
 | cons x r=> exact ⟨x,List.mem_cons_self ..,rfl⟩
theorem Aot {l:List It} (b:Bi l) {x:It} (a:x∈l):¬x.1 < Rf l:=by
 cases l with
 | nil=> cases a
 | cons y r=>
  show ¬x.1 < y.1;rcases List.mem_cons.1 a with rfl | a
  ·exact lt_ir _
  ·exact fun q=> lt_ir _ (Cz q ((List.pairwise_cons.1 b).1 x a))
theorem Xt {hi:Option Key}:∀(ls:List (List It)) (lo:Key),ls≠[]->room lo hi->(∀l∈ls,l≠[]/\l.length<=16)->Bi ls.flatten->(∀x∈ls.flatten,inR lo hi x.1/\Alj x)->Ba (fun f m t=> WF 0 f m t/\Top 0 t) (some lo) hi (Dz lo ls)
 | [],_,h,_,_,_,_=> absurd rfl h
 | [l],lo,_,hr,hl,hR,hI=> by
  have e:[l].flatten=l:=by simp
  rw [e] at hR hI;exact ⟨rfl,hi,hr,⟨⟨hR,hI⟩,(hl l (List.mem_cons_self ..)).2⟩,rfl⟩
 | l::l2::r,lo,_,hr,hl,hR,hI=> by
  rw [List.flatten_cons] at hR hI;have o:=List.pairwise_append.1 hR;have u:=hl l2 (List.mem_cons_of_mem _ (List.mem_cons_self ..));obtain ⟨y,p,c⟩:=Aec u.1;have g:y∈(l2::r).flatten:=by rw [List.flatten_cons];exact List.mem_append_left _ p
  have n:∀x∈l,x.1 < Rf l2:=fun x a=> by rw [<-c];exact o.2.2 x a y g
  obtain ⟨z,s,A⟩:=Aec (hl l (List.mem_cons_self ..)).1;have i:room lo (some (Rf l2)):=fun b k=> by
   rw [<-Option.some.inj k];exact ⟨Wu (hI z (List.mem_append_left _ s)).1.1 (n z s),by rw [<-c];exact (hI y (List.mem_append_right _ g)).2.1⟩
  have d:=(hI y (List.mem_append_right _ g)).1;rw [c] at d;refine ⟨rfl,some (Rf l2),i,⟨⟨o.1,fun x a=> ⟨⟨(hI x (List.mem_append_left _ a)).1.1,fun b k=> by rw [<-Option.some.inj k];exact n x a⟩,(hI x (List.mem_append_left _ a)).2⟩⟩,(hl l (List.mem_cons_self ..)).2⟩,?_⟩;rw [<-Xs];refine Xt (l2::r) (Rf l2) (by simp) (fun b k=> ⟨d.2 b k,(hr b k).2⟩) (fun q B=> hl q (List.mem_cons_of_mem _ B)) o.2.1 (fun x a=> ⟨⟨?_,(hI x (List.mem_append_right _ a)).1.2⟩,(hI x (List.mem_append_right _ a)).2⟩);have j:=o.2.1;rw [List.flatten_cons] at a j;rcases List.mem_append.1 a with a | a
  ·exact Aot (List.pairwise_append.1 j).1 a
  ·exact fun q=> lt_ir _ (Cz q (by rw [<-c];exact (List.pairwise_append.1 j).2.2 y p x a))
def its (t:Ac 0):List It:=t
def flat0:List (Key×Ac 0)->List It
 | []=> []
 | p::r=> its p.2++flat0 r
theorem Rh:∀(A B:List (Key×Ac 0)),flat0 (A++B)=flat0 A++flat0 B
 | [],_=> rfl
 | p::r,B=> by rw [List.cons_append,flat0,flat0,Rh r B,List.append_assoc]
theorem Ri:∀(ls:List (List It)),flat0 (Nj ls)=ls.flatten
 | []=> rfl
 | l::r=> by
  rw [List.flatten_cons,<-Ri r];rfl
theorem Vr (f:Key) (ls:List (List It)):flat0 (Dz f ls)=ls.flatten:=by
 cases ls with
 | nil=> rfl
 | cons l r=> rw [List.flatten_cons,<-Ri r];rfl
theorem Xu {lo hi:Option Key}:∀{n:List (Key×Ac 0)},Ba (fun f m t=> WF 0 f m t/\Top 0 t) lo hi n->∀x∈flat0 n,(∀a,lo=some a->¬x.1 < a)/\(∀b,hi=some b->x.1 < b)/\lo≠none
 | [],_,x,d=> by cases d
 | (f,t)::r,⟨e,m,h1,h2,h3⟩,x,d=> by
  have i:x∈its t++flat0 r:=d;rcases List.mem_append.1 i with d | d
  ·have g:=(h2.1.2 x d).1;refine ⟨fun a c=> ?_,fun b o=> ?_,by rw [e];simp⟩
   ·rw [e] at c;rw [<-Option.some.inj c];exact g.1
   ·obtain ⟨a,c,k⟩:=Jn h3 b o;exact Hq (g.2 a c) k
  ·have j:=Xu h3 x d;refine ⟨fun a c=> ?_,j.2.1,by rw [e];simp⟩;rw [e] at c;rw [<-Option.some.inj c]
   cases l:m with
   | none=> exact absurd l j.2.2
   | some b=> exact Aie (fun q=> lt_ir _ (Cz q (h1 b l).1)) (j.1 b l)
theorem Am4 {g:List (Key×Ac 0)} {lo:Key} {hi:Option Key} (h:Ba (fun f m t=> WF 0 f m t/\Top 0 t) (some lo) hi g) {k:Key} (s:inR lo hi k):val 1 (g,[]) k=Bj (flat0 g) k:=by
 obtain ⟨A,f,t,B,m,rfl,o,u,y,j,p,r⟩:=El h s;rw [Pv o,Lq];have n:flat0 (A++(f,t)::B)=flat0 A++(its t++flat0 B):=by rw [Rh];rfl
 rw [n,Es,Es,Ce (l:=flat0 A),Ce (l:=flat0 B)]
 ·rw [Option.none_or,Option.or_none];rfl
 ·intro x c q;have a:=Xu r x c
  cases d:m with
  | none=> exact a.2.2 d
  | some b=>
   have i:=a.1 b d;rw [q] at i;exact i (j.2 b d)
 ·intro x c q;have a:=(Xu p x c).2.1 f rfl;rw [q] at a;exact j.1 a
end Go.Proofs.YtolgpnaoaodepaaGreat.Tr
