import Derived.Test.YtolgpnaoaodepaaGreatRefJm
namespace Go.Proofs.YtolgpnaoaodepaaGreat.Ld
open Go.Proofs.YtolgpnaoaodepaaGreat.Tr
abbrev Ed:=(h:Nat)×Ac h
def cn:(h:Nat)->Ac h->Nat
 | 0,_=> 1
 | h+1,t=> 1+((Mg t).map fun p=> cn h p.2).sum
def cnA (x:Ed):Nat:=cn x.1 x.2
def cns (q:List Ed):Nat:=(q.map cnA).sum
def Sg:Ed->List Ed
 | ⟨0,_⟩=> []
 | ⟨h+1,t⟩=> (Mg t).map fun p=> ⟨h,p.2⟩
def pgA (x:Ed) (n:Nat):Nd:=pgN x.1 x.2 n
theorem Afu (x:Ed):(Sg x).length=nk x.1 x.2:=by
 obtain ⟨h,t⟩:=x
 cases h with
 | zero=> rfl
 | succ h=> simp [Sg,nk]
theorem Mh (x:Ed):cnA x=1+cns (Sg x):=by
 obtain ⟨h,t⟩:=x
 cases h with
 | zero=> rfl
 | succ h=>
  show 1+_=1+((((Mg t).map fun p=> (⟨h,p.2⟩:Ed))).map cnA).sum;rw [List.map_map];rfl
theorem Mi (a b:List Ed):cns (a++b)=cns a+cns b:=by simp [cns]
theorem Ke (x:Ed) (q:List Ed):cns (x::q)=cnA x+cns q:=by simp [cns]
theorem Sh:∀q:List Ed,q.length<=cns q
 | []=> Nat.zero_le _
 | x::q=> by
  have:=Sh q;rw [Ke,Mh,List.length_cons];omega
theorem Anx:∀(h:Nat) (t:Ac h),cn h t<=wt h t
 | 0,t=> by show 1<=1+2*_;omega
 | h+1,(ps,cs)=> by
  have a:(ps.map fun p=> cn h p.2).sum<=(ps.map fun p=> wt h p.2).sum:=by
   induction ps with
   | nil=> exact Nat.le_refl _
   | cons p r ih=>
    have:=Anx h p.2;simp only [List.map_cons,List.sum_cons];omega
  show 1+(ps.map fun p=> cn h p.2).sum<=2*cs.length+(ps.map fun p=> wt h p.2).sum+((ps.length - 1)+(2 - ps.length));omega
def rem:Nat->List Ed->Nat->List Nd
 | 0,_,_=> []
 | _+1,[],_=> []
 | k+1,x::q,nx=> pgA x nx::rem k (q++Sg x) (nx+nk x.1 x.2)
theorem Ade:∀(k:Nat) (q:List Ed) (a:Nat),cns q=k->(rem k q a).length=k
 | 0,_,_,_=> rfl
 | k+1,[],_,h=> by simp [cns] at h
 | k+1,x::q,a,h=> by
  rw [Ke,Mh] at h;rw [rem,List.length_cons,Ade k _ _ (by rw [Mi];omega)]
theorem Ac3 {h:Nat}:∀(L:List (Ac (h+1))) (K:List (Ac h)) (k a:Nat),cns ((L.map fun t=> (⟨h+1,t⟩:Ed))++K.map fun t=> ⟨h,t⟩)=k->rem k ((L.map fun t=> (⟨h+1,t⟩:Ed))++K.map fun t=> ⟨h,t⟩) a=lvN (h+1) L a++rem (k - L.length) ((K++Mp h L).map fun t=> (⟨h,t⟩:Ed)) (a+(Mp h L).length)
 | [],K,k,a,_=> by simp [lvN,Mp]
 | t::L,K,k,a,hk=> by
  rw [List.map_cons,List.cons_append] at hk ⊢;rw [Ke,Mh] at hk;obtain ⟨b,rfl⟩:∃b,k=b+1:=⟨k - 1,by omega⟩;have e:(L.map fun t=> (⟨h+1,t⟩:Ed))++(K.map fun t=> (⟨h,t⟩:Ed))++Sg ⟨h+1,t⟩=(L.map fun t=> (⟨h+1,t⟩:Ed))++(K++(Mg t).map (·.2)).map fun t=> (⟨h,t⟩:Ed):=by
   rw [List.append_assoc,List.map_append,List.map_map];rfl
  rw [rem,e,Ac3 L (K++(Mg t).map (·.2)) b _ (by rw [<-e,Mi];omega),lvN,List.cons_append];have c:Mp h (t::L)=(Mg t).map (·.2)++Mp h L:=rfl;rw [c,List.length_append,List.length_map,List.length_cons,Nat.add_sub_add_right,List.append_assoc,Nat.add_assoc];rfl
theorem Zt:∀(L:List (Ac 0)) (k a:Nat),cns (L.map fun t=> (⟨0,t⟩:Ed))=k->rem k (L.map fun t=> (⟨0,t⟩:Ed)) a=lvN 0 L a
 | [],k,a,hk=> by
  cases k with
  | zero=> rfl
  | succ k=> rfl
 | t::L,k,a,hk=> by
  rw [List.map_cons] at hk ⊢;rw [Ke,Mh] at hk;obtain ⟨b,rfl⟩:∃b,k=b+1:=⟨k - 1,by omega⟩;have e:(L.map fun t=> (⟨0,t⟩:Ed))++Sg ⟨0,t⟩=L.map fun t=> (⟨0,t⟩:Ed):=List.append_nil _
  rw [rem,e,Zt L b _ (by have h0:cns (Sg ⟨0,t⟩)=0:=rfl;omega)];rfl
theorem Aj5:∀(h:Nat) (L:List (Ac h)) (k a:Nat),cns (L.map fun t=> (⟨h,t⟩:Ed))=k->rem k (L.map fun t=> (⟨h,t⟩:Ed)) (a+L.length)=Oc h L a
 | 0,L,k,a,hk=> Zt L k _ hk
 | h+1,L,k,a,hk=> by
  have b:cns ((L.map fun t=> (⟨h+1,t⟩:Ed))++([]:List (Ac h)).map fun t=> ⟨h,t⟩)=k:=by simpa using hk
  have c:=Ac3 L [] k (a+L.length) b;simp only [List.map_nil,List.append_nil,List.nil_append] at c;rw [c,Oc,Aj5 h (Mp h L) (k - L.length) (a+L.length)];clear c b
  induction L generalizing k with
  | nil=> simpa [Mp,cns] using hk
  | cons t L ih=>
   rw [List.map_cons,Ke,Mh] at hk;have d:Mp h (t::L)=(Mg t).map (·.2)++Mp h L:=rfl;have f:(((Mg t).map (·.2)).map fun t=> (⟨h,t⟩:Ed))=Sg ⟨h+1,t⟩:=(by rw [List.map_map];rfl);rw [d,List.map_append,f,Mi,List.length_cons];have:=ih (k - (1+cns (Sg ⟨h+1,t⟩))) (by omega);have g:=Sh (L.map fun t=> (⟨h+1,t⟩:Ed));rw [List.length_map] at g;omega
theorem Apj:∀(h:Nat) (t:Ac h) (lo:Key) (hi:Option Key) (n:Nat),WF h lo hi t->Top h t->room lo hi->n+nk h t<=2147483648->Pr.Nw (pgN h t n)=true
 | 0,l,lo,hi,n,hw,a,_,_=> by
  have i:Pr.Nz l:=⟨fun x q=> (hw.2 x q).2,hw.1⟩;have a:List.length (α:=It) l<=16:=a;show Pg.well 1 l [] [] []=true;unfold Pg.well;rw [if_pos rfl,(Pr.Rz l).2 i];simpa using a
 | h+1,(ps,cs),lo,hi,n,hw,a,hr,f=> by
  obtain ⟨j,k⟩:=Ac2 hw.1;have f:n+ps.length<=2147483648:=f;have g:0 < ps.length:=by
   cases ps with
   | nil=> exact absurd (hr lo (show some lo=hi from hw.1).symm).1 (lt_ir lo)
   | cons p r=> simp
  have b:Pg.Az (ps.map (·.1)).tail none=true:=(Pr.Hk _ none).2 ⟨⟨j,k.tail⟩,fun x _=> rfl⟩;show Pg.well 2 [] ((List.range' n ps.length).map Int.ofNat) (ps.map (·.1)).tail cs=true;unfold Pg.well;rw [if_neg (by decide)];simp only [Bool.and_eq_true,decide_eq_true_eq];refine ⟨⟨⟨⟨⟨⟨⟨⟨b,?_⟩,?_⟩,by trivial⟩,by rfl⟩,?_⟩,?_⟩,?_⟩,a.2⟩
  ·refine List.all_eq_true.2 fun c d=> ?_
   obtain ⟨m,o,rfl⟩:=List.mem_map.1 d;have:=List.mem_range'_1.1 o;unfold Pg.Bv;simp only [Bool.and_eq_true,decide_eq_true_eq,Int.ofNat_eq_natCast];omega
  ·exact List.all_eq_true.2 fun c d=> (hw.2 c d).2
  ·rw [List.length_map,List.length_range'];omega
  ·rw [List.length_map,List.length_range'];exact a.1
  ·rw [List.length_map,List.length_range',List.length_tail,List.length_map];omega
end Go.Proofs.YtolgpnaoaodepaaGreat.Ld
namespace Go.Proofs.YtolgpnaoaodepaaGreat.Pr
open Pg
theorem Qm (s:List UInt8) (h:s.length < 128):(Ef s).length=s.length+1:=by
 unfold Ef;rw [List.length_append];have:(num s.length).length=1:=by rw [Lc _ h,Cp]
 omega
theorem Afv {c:Int×List UInt8×List UInt8} (h:Ax c=true):(Dt c).length<=31:=by
 simp only [Ax,Bt,Bool.and_eq_true,Bool.or_eq_true,decide_eq_true_eq] at h;have a:=Ii h.1.1;have b:=Qm c.2.1 (by omega);have d:=Qm c.2.2 (by omega);unfold Dt;rw [List.length_append,List.length_append,Cp];split
 ·simp;omega
 ·omega
theorem Aap (l:List (Int×List UInt8×List UInt8)) (h:∀c∈l,Ax c=true):(Df l).length<=1+31*l.length:=by
 unfold Df;rw [List.length_append,Cp];have:(l.flatMap Dt).length<=31*l.length:=by
  induction l with
  | nil=> simp
  | cons x r ih=>
   rw [List.flatMap_cons,List.length_append,List.length_cons];have b:=Afv (h x (by simp));have d:=ih fun y a=> h y (by simp [a])
   omega
 omega
theorem Aaq (cl:List Nat) (pl:List (List UInt8)) (g:∀c∈cl,c<=2147483647) (b:∀p∈pl,p.length<=12):(Ev cl pl).length<=5*cl.length+13*pl.length:=by
 unfold Ev;rw [List.length_append];have d:(cl.flatMap num).length<=5*cl.length:=by
  induction cl with
  | nil=> simp
  | cons x r ih=>
   rw [List.flatMap_cons,List.length_append,List.length_cons];have d:=Acf x (by have:=g x (by simp);omega);have f:=ih fun y a=> g y (by simp [a])
   omega
 have f:(pl.flatMap Ef).length<=13*pl.length:=by
  induction pl with
  | nil=> simp
  | cons x r ih=>
   rw [List.flatMap_cons,List.length_append,List.length_cons];have d:=Qm x (by have:=b x (by simp);omega);have f:=ih fun y a=> b y (by simp [a])
   have:=b x (by simp);omega
 omega
theorem Zu (n:Nat) (t:List UInt8) (h:n < 65536):Gk (low n 2++t)=some (n,t):=by
 unfold Gk;have:=Cr (low n 2) t;rw [Cp] at this;rw [this];simp only [Option.map_some];rw [Wr 2 n (by simpa using h)]
theorem Zv (cl:List Nat) (pl:List (List UInt8)) (ml:List (Int×List UInt8×List UInt8)) (j:∀c∈cl,c<=2147483647) (k:∀p∈pl,p.length<=12) (l:∀c∈ml,Ax c=true) (F:cl.length<=4) (u:pl.length+1=cl.length) (G:ml.length<=8):Cl (Hc cl pl ml)=some (cl,pl,ml):=by
 have y:=Aaq cl pl j k;have z:=Aap ml l;have A:=Gu [112] (Ev cl pl) (by omega);have B:=Gu [109] (Df ml) (by omega);have C:([112]:List UInt8).length=1:=rfl;have D:([109]:List UInt8).length=1:=rfl;have m:=Ls 112 (Ev cl pl) (by omega);have n:=Ls 109 (Df ml) (by omega);have o:=Ada cl pl j k u;have f:=Aaj ml [] (by omega) (fun c d=> by
  have:=l c d;simp only [Ax,Bt,Bool.and_eq_true,Bool.or_eq_true,decide_eq_true_eq] at this;have q:=Ii this.1.1;refine ⟨?_,q,this.1.2⟩;rcases this.2 with (h | h) | h
  ·exact .inl h
  ·exact .inr (.inl h)
  ·exact .inr (.inr ⟨h.1,List.length_eq_zero_iff.1 h.2⟩))
 rw [List.append_nil] at f;have g:Dg cl pl=Bg [112] (Ev cl pl):=rfl;have i:Dh ml=Bg [109] (Df ml):=rfl;have e:Hc cl pl ml=sealed ([83,50,73]++low cl.length 1++low (Dg cl pl).length 2++low (Dh ml).length 2++List.replicate 56 0)++[Dg cl pl,Dh ml].flatten:=by
  unfold Hc;simp
 have b:(sealed ([83,50,73]++low cl.length 1++low (Dg cl pl).length 2++low (Dh ml).length 2++List.replicate 56 0)).length=68:=by
  rw [Lb];simp [Cp]
 have hcut:=Ab6 _ [Dg cl pl,Dh ml] b;rw [<-e] at hcut;obtain ⟨rest,t⟩:∃rest,Hc cl pl ml=[83,50,73]++(UInt8.ofNat (cl.length % 256)::(low (Dg cl pl).length 2++(low (Dh ml).length 2++rest))):=by
  refine ⟨List.replicate 56 0++(low (crc ([83,50,73]++low cl.length 1++low (Dg cl pl).length 2++low (Dh ml).length 2++List.replicate 56 0)) 4++(Dg cl pl++Dh ml)),?_⟩;unfold Hc sealed;generalize crc ([83,50,73]++low cl.length 1++low (Dg cl pl).length 2++low (Dh ml).length 2++List.replicate 56 0)=c;generalize Dg cl pl=P;generalize Dh ml=M;simp [low]
 unfold Cl;have r:Da 3 (Hc cl pl ml)=some ([83,50,73],UInt8.ofNat (cl.length % 256)::(low (Dg cl pl).length 2++(low (Dh ml).length 2++rest))):=by
  rw [t];exact Cr [83,50,73] _
 have s:(UInt8.ofNat (cl.length % 256)).toNat=cl.length:=by rw [UInt8.toNat_ofNat'];omega
 rw [r];simp only [Option.bind_some,Dw];rw [Zu _ _ (by rw [g];omega)];simp only [Option.bind_some];rw [Zu _ _ (by rw [i];omega)];simp only [Option.bind_some];have a:Mr (Hc cl pl ml) [(Dg cl pl).length,(Dh ml).length]=some [Dg cl pl,Dh ml]:=hcut;rw [a];simp only [Option.bind_some,List.getD_cons_zero,List.getD_cons_succ];rw [g,m];simp only [Option.bind_some,s];rw [o];simp only [Option.bind_some];rw [i,n];simp only [Option.bind_some];rw [f];simp
theorem Qn {n:Hi} (h:Nw n=true):Fg (Gm n)=some n:=by
 have key:Hj (Gm n)=some n:=by
  obtain ⟨kd,il,cl,pl,ml⟩:=n;unfold Nw well at h;simp only at h;by_cases o:kd=1
  ·rw [if_pos o] at h;simp only [Bool.and_eq_true,decide_eq_true_eq,List.length_map] at h;obtain ⟨⟨⟨⟨i,j⟩,k⟩,l⟩,m⟩:=h;have p:=List.length_eq_zero_iff.1 k;have q:=List.length_eq_zero_iff.1 l;have d:=List.length_eq_zero_iff.1 m;subst o p q d;have f:Gm (1,il,[],[],[])=Sp il:=rfl;have r:=(Rz il).1 i;have g:(Sp il).take 3=[83,50,76]:=(by unfold Sp sealed;simp);unfold Hj;rw [f,g,if_neg (by decide),Ahz r j];rfl
  ·rw [if_neg o] at h;simp only [Bool.and_eq_true,decide_eq_true_eq,List.length_map] at h;obtain ⟨⟨⟨⟨⟨⟨⟨⟨i,j⟩,k⟩,l⟩,m⟩,z⟩,t⟩,u⟩,y⟩:=h;have d:=List.length_eq_zero_iff.1 m;subst l d;have s:(cl.map Int.ofNat).map Int.toNat=cl:=(by rw [List.map_map];exact List.map_id' _ |>.trans rfl);have f:Gm (2,[],cl,pl,ml)=Hc cl pl ml:=by
    show page 2 [] (cl.map Int.ofNat) pl ml=_;unfold page;rw [if_pos rfl,s]
   have g:(Hc cl pl ml).take 3=[83,50,73]:=(by unfold Hc sealed;simp);have b:∀c∈cl,c<=2147483647:=fun c b=> by
    have:=List.all_eq_true.1 j (Int.ofNat c) (List.mem_map.2 ⟨c,b,rfl⟩);simp only [Bv,Bool.and_eq_true,decide_eq_true_eq] at this;have:=this.2;simp only [Int.ofNat_eq_natCast] at this;omega
   unfold Hj;rw [f,if_pos g,Zv cl pl ml b (Ij _ _ i) (fun c b=> List.all_eq_true.1 k c b) t u y];rfl
 unfold Fg;rw [key];simp only [Option.bind_some,h,if_true]
end Go.Proofs.YtolgpnaoaodepaaGreat.Pr
namespace Go.Proofs.YtolgpnaoaodepaaGreat
open Go.RowKit
def npc (bs:List Nat):List Value:=bs.map fun p=> .pointer (some ⟨p,0,none⟩)
def Tw (B:Nat) (w:World) (v:Value) (bs:List Nat):Prop:=w.ownsRow B 120 1 v bs.length (npc bs)
def QOk (w:World) (x:Nat×Ld.Ed):Prop:=∃F lo hi,Rep x.2.1 w x.1 x.2.2 F/\Tr.WF x.2.1 lo hi x.2.2/\Tr.Top x.2.1 x.2.2/\Tr.room lo hi
theorem Any {h:Nat} {w:World}:∀{pl:List (ByteArray×Nat)} {b:List (Tr.Key×Tr.Ac h)} {G:List Nat} {lo hi:Option Tr.Key},Cc (Rep h w) pl b G->Tr.Ba (fun f m t=> Tr.WF h f m t/\Tr.Top h t) lo hi b->∃a:List (Nat×Ld.Ed),a.map (·.1)=pl.map (·.2)/\a.map (·.2)=(b.map fun p=> (⟨h,p.2⟩:Ld.Ed))/\∀x∈a,QOk w x
 | [],[],_,_,_,_,_=> ⟨[],rfl,rfl,fun x j=> by cases j⟩
 | x::pl,(f,t)::b,G,lo,hi,⟨_,G1,G2,hr,hk,_⟩,⟨_,m,h1,h2,h3⟩=> by
  obtain ⟨a,d,g,i⟩:=Any hk h3;refine ⟨(x.2,⟨h,t⟩)::a,by rw [List.map_cons,d];rfl,by rw [List.map_cons,g];rfl,fun y c=> ?_⟩;rcases List.mem_cons.1 c with rfl | c
  ·exact ⟨G1,f,m,hr,h2.1,h2.2,h1⟩
  ·exact i y c
 | [],_::_,_,_,_,hk,_=> hk.elim
 | _::_,[],_,_,_,hk,_=> hk.elim
theorem QOk.node {w:World} {x:Nat×Ld.Ed} (h:QOk w x):∃(b vp vc:Value) (pl:List (ByteArray×Nat)) (a:List (Nat×Ld.Ed)),An w x.1 b vp vc/\Ap 0 w vp pl/\pl.length<=4/\pl.length=Ld.nk x.2.1 x.2.2/\a.map (·.1)=pl.map (·.2)/\a.map (·.2)=Ld.Sg x.2/\∀y∈a,QOk w y:=by
 obtain ⟨F,lo,hi,g,i,j,-⟩:=h;obtain ⟨p,h,t⟩:=x
 cases h with
 | zero=>
  obtain ⟨b,il,c,q,-,-⟩:=g;exact ⟨b,_,_,[],[],c,⟨rfl,.inl ⟨rfl,rfl⟩⟩,by simp,rfl,rfl,rfl,fun y o=> by cases o⟩
 | succ h=>
  obtain ⟨r,s⟩:=t;obtain ⟨vp,vc,pl,ml,G,c,d,k,rfl,f,rfl⟩:=g;obtain ⟨a,l,m,n⟩:=Any f i.1;exact ⟨_,vp,vc,pl,a,c,d,by rw [f.len];exact j.1,f.len,l,m,n⟩
def PnQ (x:Ld.Ed) (first:Nat) (w:World) (r:Ending) (w':World):Prop:=∃v kd il cl pl ml,r= .returned v/\Kv w' v kd il (cl.map Int.ofNat) pl ml/\((kd,plain il,cl,lists pl,plainCh ml):Ld.Nd)=Ld.pgA x first/\Below w.heap.size w w'
theorem Aky {w:World} {x:Nat×Ld.Ed} (h:QOk w x) (first:Nat) (D:first<=1000000000):
  Calls Tryz.prog 67 #[.pointer (some ⟨x.1,0,none⟩),.int .i64 (first:Nat)] w (PnQ x.2 first w):=by
 obtain ⟨F,lo,hi,q,y,k,l⟩:=h;obtain ⟨p,h,t⟩:=x
 cases h with
 | zero=>
  obtain ⟨J,il,m,s,rfl,rfl⟩:=q;obtain ⟨a,c,rfl⟩:=Ab s;refine (Aao p a il.length c (first:Nat) w m).mono ?_;rintro r w' ⟨rfl,i⟩;have H:il.length<=16:=by have d:(plain il).length<=16:=k;rw [Bn] at d;exact d
  exact ⟨_,1,il,[],[],[],rfl,⟨_,_,_,_,rfl,Io (Aa s i (Nat.le_refl _)),by omega,⟨none,0,rfl,by simp,.inl rfl⟩,⟨none,0,rfl,by simp,.inl rfl⟩,(show Au 0 w' (.slice none 0 0) [] from ⟨rfl,.inl ⟨rfl,rfl⟩⟩).isChs (by simp)⟩,rfl,i⟩
 | succ h=>
  obtain ⟨n,L⟩:=t;obtain ⟨vp,vc,pl,ml,G,m,o,g,rfl,j,rfl⟩:=q;obtain ⟨z,A,rfl⟩:=Ab g;have f:0 < pl.length:=by
   rw [j.len];exact Ju l y.1
  have u:pl.length<=4:=by rw [j.len];exact k.1
  have I:ml.length<=8:=by have d:(plainCh ml).length<=8:=k.2;rw [Ao] at d;exact d
  refine (Vw p vp pl z ml.length A first w m o f u D).mono ?_;rintro r w' ⟨v2,v3,rfl,B,C,i⟩;refine ⟨_,2,[],List.range' first pl.length,(pl.map (·.1)).tail,ml,rfl,⟨_,_,_,_,rfl,Io (show Ak 0 w' (.slice none 0 0) [] from ⟨rfl,.inl ⟨rfl,rfl⟩⟩),by simp,?_,?_,Au.isChs (Aa g i (Nat.le_refl _)) (by omega)⟩,?_,i⟩
  ·rw [List.length_map,List.length_range',List.map_map];exact ownsRow.isRow B (by omega)
  ·exact ownsRow.isRow C (by rw [List.length_tail,List.length_map];omega)
  ·have b:=j.keys;show ((2,[],List.range' first pl.length,lists (pl.map (·.1)).tail,plainCh ml):Ld.Nd)=(2,[],List.range' first n.length,(n.map (·.1)).tail,plainCh ml);rw [j.len];have e:lists (pl.map (·.1)).tail=(n.map (·.1)).tail:=by
    rw [<-b];unfold lists pkeys;rw [<-List.map_tail,List.map_map,<-List.map_tail];rfl
   rw [e]
structure ImI (w:World) (tot:List Ld.Nd) (q:List (Nat×Ld.Ed)) (bs:List Nat) (ss:List ByteArray) (v3 v4:Value) (W:World):Prop where
 np:Tw w.heap.size W v4 bs
 im:Av w.heap.size W v3 ss
 qs:bs.drop ss.length=q.map (·.1)
 ln:bs.length=ss.length+q.length
 ok:∀x∈q,QOk w x
 pg:Ag ss++(Ld.rem (Ld.cns (q.map (·.2))) (q.map (·.2)) bs.length).map some=tot.map some
 bel:Below w.heap.size w W
theorem ImI.tot {w:World} {a:List Ld.Nd} {q:List (Nat×Ld.Ed)} {bs:List Nat} {b:List ByteArray} {v3 v4:Value} {W:World} (h:ImI w a q bs b v3 v4 W):a.length=b.length+Ld.cns (q.map (·.2))/\q.length<=Ld.cns (q.map (·.2)):=by
 have c:=congrArg List.length h.pg;rw [List.length_append,List.length_map,List.length_map,Ld.Ade _ _ _ rfl] at c;have f:(Ag b).length=b.length:=by unfold Ag;simp
 have d:=Ld.Sh (q.map (·.2));rw [List.length_map] at d;omega
theorem QOk.keep {w W:World} {x:Nat×Ld.Ed} (h:QOk w x) (d:Below w.heap.size w W):QOk W x:=by
 obtain ⟨F,lo,hi,a,b⟩:=h;exact ⟨F,lo,hi,a.keep fun g c=> d.block g (a.lt g c),b⟩
theorem ImI.next {w:World} {f:List Ld.Nd} {x:Nat×Ld.Ed} {q:List (Nat×Ld.Ed)} {bs:List Nat} {a:List ByteArray} {v3 v4 g i:Value} {W W':World} (h:ImI w f (x::q) bs a v3 v4 W) {s:ByteArray} (r:Pr.Fg s.data.toList=some (Ld.pgA x.2 bs.length)) {b:List (Nat×Ld.Ed)} (j:b.map (·.2)=Ld.Sg x.2) (m:∀y∈b,QOk w y) (n:Tw w.heap.size W' i (bs++b.map (·.1))) (o:Av w.heap.size W' g (a++[s])) (t:Below w.heap.size w W'):ImI w f (q++b) (bs++b.map (·.1)) (a++[s]) g i W':=by
 have k:=h.ln;rw [List.length_cons] at k;have l:b.length=Ld.nk x.2.1 x.2.2:=by rw [<-Ld.Afu,<-j,List.length_map]
 refine ⟨n,o,?_,?_,fun y d=> ?_,?_,t⟩
 ·have c:=h.qs;rw [List.map_cons] at c;have p:bs.drop (a.length+1)=q.map (·.1):=by
   rw [<-List.drop_drop,c];rfl
  rw [List.length_append,List.length_singleton,List.drop_append_of_le_length (by omega),p,List.map_append]
 ·simp only [List.length_append,List.length_map,List.length_singleton];omega
 ·rcases List.mem_append.1 d with d | d
  ·exact h.ok y (List.mem_cons_of_mem _ d)
  ·exact m y d
 ·have c:=h.pg;rw [List.map_cons,Ld.Ke,Ld.Mh,show 1+Ld.cns (Ld.Sg x.2)+Ld.cns (q.map (·.2))=(Ld.cns (q.map (·.2))+Ld.cns (Ld.Sg x.2))+1 by omega,Ld.rem,List.map_cons] at c;rw [<-c,List.map_append,j,Ld.Mi,List.length_append,List.length_map,l];have e:Ag (a++[s])=Ag a++[some (Ld.pgA x.2 bs.length)]:=by
   unfold Ag;rw [List.map_append,List.map_singleton,r]
  rw [e,List.append_assoc];rfl
theorem Tw.at {B:Nat} {w:World} {v:Value} {bs:List Nat} (h:Tw B w v bs) (i:Nat) (hi:i < bs.length):∃g a,v= .slice (some ⟨g,0,none⟩) bs.length a/\bs.length<=a/\g < w.heap.size/\w.cell? ⟨g,i,none⟩=some (.pointer (some ⟨bs[i]'hi,0,none⟩)):=by
 rcases h.2 with ⟨_,h0⟩ | ⟨c,b,f,d,_,j,k,_⟩
 ·omega
 ·have:=World.ownsRow.cells h (g:=c) (by rw [d];rfl) i (.pointer (some ⟨bs[i]'hi,0,none⟩)) (by simp [npc,hi]);rw [Dm] at this;exact ⟨c,b,d,k,(Array.getElem?_eq_some_iff.1 j).1,by simpa using this⟩
structure ImK (w:World) (bs:List Nat) (ss:List ByteArray) (v3 v4:Value) (W:World):Prop where
 np:Tw w.heap.size W v4 bs
 im:Av w.heap.size W v3 ss
 bel:Below w.heap.size w W
theorem ImK.below {w:World} {bs:List Nat} {b:List ByteArray} {v3 v4:Value} {W W':World} (h:ImK w bs b v3 v4 W) (a:Below W.heap.size W W'):ImK w bs b v3 v4 W':=
 ⟨Aa h.np a (Nat.le_refl _),Aa h.im a (Nat.le_refl _),h.bel.trans (a.mono h.bel.size)⟩
theorem ImK.apS {w:World} {bs:List Nat} {b:List ByteArray} {v3 v4 c:Value} {s:ByteArray} {W W':World} (h:ImK w bs b v3 v4 W) (i:Av w.heap.size W' c (b++[s])) (a:W.grownBy W' v3.ownBlock):ImK w bs (b++[s]) c v4 W':=by
 have m:=Mod.of_grown a;have d:Mq W (fun k=> v3.ownBlock=some k) [120]:=fun g a=> by
  obtain ⟨f,q,e⟩:=Gd h.im a;exact ⟨f,_,q,e,by decide⟩
 exact ⟨Fb m d (by decide) h.np,i,Dp h.bel m (fun g a=> (World.ownsRow.lt h.im g a).1)⟩
theorem ImK.apN {w:World} {bs:List Nat} {b:List ByteArray} {v3 v4 c:Value} {p:Nat} {W W':World} (h:ImK w bs b v3 v4 W) (i:W'.ownsRow w.heap.size 120 1 c (bs.length+1) (npc bs++[.pointer (some ⟨p,0,none⟩)])) (a:W.grownBy W' v4.ownBlock):ImK w (bs++[p]) b v3 c W':=by
 have m:=Mod.of_grown a;have d:Mq W (fun k=> v4.ownBlock=some k) [9]:=fun g a=> by
  obtain ⟨f,q,e⟩:=Gd h.np a;exact ⟨f,_,q,e,by decide⟩
 refine ⟨?_,Fb m d (by decide) h.im,Dp h.bel m (fun g a=> (World.ownsRow.lt h.np g a).1)⟩;have e:npc (bs++[p])=npc bs++[.pointer (some ⟨p,0,none⟩)]:=by simp [npc]
 unfold Tw;rw [e,List.length_append];exact i
set_option maxHeartbeats 1000000 in
set_option maxRecDepth 20000 in
theorem Ai5 (b p H:Nat) (t:Tr.Ac H) (F:List Nat) (w:World) (b2:TB w b p) (hr:Rep H w p t F) (hw:Tr.WF H [] none t) (ht:Tr.Top H t) (d0:Tr.wt H t<=1800000):
  Calls Tryz.prog 38 #[.pointer (some ⟨b,0,none⟩)] w fun r w'=>∃v a,r= .returned v/\Av w.heap.size w' v a/\Below w.heap.size w w'/\Ag a=(Ld.Oc H [t] 0).map some/\a.length<=Tr.wt H t:=by
 have d5:=Nat.le_trans (Ld.Anx H t) d0;have b5:=hid (Ld.Anx H t);have o:Hid (Ld.rem (Ld.cns [(⟨H,t⟩:Ld.Ed)]) [(⟨H,t⟩:Ld.Ed)] 1=Ld.Oc H [t] 0):=Ld.Aj5 H [t] _ 0 rfl;have M:(Ld.Oc H [t] 0).length=Ld.cn H t:=by
  rw [<-o.out,Ld.Ade _ _ _ rfl];show Ld.cn H t+0=_;omega
 have N:=hid M;have O:Below w.heap.size w (w.alloc (.cells #[.pointer (some ⟨p,0,none⟩)] 120)):=(Below.refl _ w).alloc (Nat.le_refl _) _;have H0:Hid (ImI w (Ld.Oc H [t] 0) [(p,⟨H,t⟩)] [p] [] (.slice none 0 0) (.slice (some ⟨w.heap.size,0,none⟩) 1 1) (w.alloc (.cells #[.pointer (some ⟨p,0,none⟩)] 120))):=by
  refine ⟨?_,⟨rfl,.inl ⟨rfl,rfl⟩⟩,rfl,rfl,fun x hx=> by rw [List.mem_singleton.1 hx];exact ⟨F,[],none,hr,hw,ht,Tr.Hf⟩,?_,O⟩
  ·exact ⟨rfl,.inr ⟨w.heap.size,1,#[.pointer (some ⟨p,0,none⟩)],rfl,Nat.le_refl _,heap_alloc_new _ _,Nat.le_refl _,by unfold maxLen;omega,by simp,by simp [npc]⟩⟩
  ·show ([]:List (Option Ld.Nd))++_=_;rw [List.nil_append];exact congrArg (List.map some) o.out
 obtain ⟨t0,t1⟩:=b2.cells;clear O b2 hr hw ht;generalize Ld.Oc H [t] 0=l at*;go_enter Tryz.func38,Tryz.ntmps38;go_wp2_with fail;generalize w.alloc (.cells #[.pointer (some ⟨p,0,none⟩)] 120)=w1 at*;clear t0 t1
 go_loopw [5,3,4] (fun vi v3 v4 wr=>∃(q:List (Nat×Ld.Ed)) (bs:List Nat) (a:List ByteArray),vi= .int .i64 (a.length:Nat)/\ImI w l q bs a v3 v4 wr) (fun vi _ _ _=> l.length - (intOf vi).toNat)
 case atStart=> exact ⟨_,[p],[],rfl,H0.out⟩
 case round=>
  obtain ⟨q,bs,a,rfl,hI⟩:=hrel;obtain ⟨D,G⟩:=hI.tot;have m:=hI.ln;obtain ⟨b4,d4,rfl⟩:=Ab hI.np;obtain ⟨b3,d3,rfl⟩:=Ab hI.im;have HI:=hid hI;clear H0
  cases q with
  | nil=>
   have b7:¬(a.length:Int) < (bs.length:Int):=(by rw [List.length_nil] at m;omega);have HE:Hid (Av w.heap.size wr (.slice b3 a.length d3) a/\Below w.heap.size w wr/\Ag a=l.map some/\a.length<=Tr.wt H t):=by
    refine ⟨hI.im,hI.bel,?_,?_⟩
    ·have:=hI.pg;simpa [Ld.rem,Ld.cns] using this
    ·have h1:=N.out;have h2:=b5.out;omega
   clear hI m D G N M;go_wp2_with fail;go_ret;exact ⟨_,rfl,_,HE.out⟩
  | cons x q=>
   rw [List.length_cons] at m G;have z:a.length < bs.length:=(by omega);have d7:(0:Int)<=(a.length:Int):=(by omega);have b7:(a.length:Int) < (bs.length:Int):=(by omega);have d8:bs.length<=1800000:=(by omega);have b8:Hid (a.length < l.length):=(by show _ < _;omega);obtain ⟨g,e2,e,hc,hg,x0⟩:=hI.np.at a.length z;simp only [Value.slice.injEq,true_and] at e;obtain ⟨rfl,rfl⟩:=e;have R:bs[a.length]'z=x.1:=by
    have h1:=hI.qs;rw [List.drop_eq_getElem_cons z,List.map_cons] at h1;exact (List.cons.inj h1).1
   rw [R] at x0;have hQ:=hI.ok x (List.mem_cons_self ..);have HQ:=hid hQ;have HP:=hid (Aky (hQ.keep hI.bel) bs.length (by omega));have S:Hid (bs.length+Ld.nk x.2.1 x.2.2<=2147483648):=by
    show _<=_;have h1:=Ld.Mh x.2;have h2:=Ld.Sh (Ld.Sg x.2);rw [Ld.Afu] at h2;have h3:=Ld.Ke x.2 (q.map (·.2));have T:=Ld.Sh (q.map (·.2));rw [List.length_map] at T;rw [List.map_cons] at D;omega
   have U:Hid (ImK w bs a (.slice b3 a.length d3) (.slice (some ⟨g,0,none⟩) bs.length d4) wr):=⟨hI.np,hI.im,hI.bel⟩;clear R hI hQ m D G;go_wp2_with fail;refine HP.out.mono ?_;rintro r w2 ⟨v,kd,il,cl,pl,ml,rfl,k,J,a7⟩;have A:Hid (Pr.Nw ((kd,plain il,cl,lists pl,plainCh ml):Pr.Hi)=true):=by
    show _=_;rw [J];obtain ⟨F',lo,hi,-,c6,c7,c8⟩:=HQ.out;exact Ld.Apj _ _ lo hi _ c6 c7 c8 S.out
   have V:Hid (Pr.Fg (Pr.Gm ((kd,plain il,cl,lists pl,plainCh ml):Pr.Hi))=some (Ld.pgA x.2 bs.length)):=by
    show _=_;rw [Pr.Qn A.out,J]
   have B:=hid (Jw v kd il (cl.map Int.ofNat) pl ml w2 k A.out);have H2:=hid (U.out.below a7);clear k J a7 HP U;have b9:Pg.page kd (plain il) (cl.map Int.ofNat) (lists pl) (plainCh ml)=Pr.Gm ((kd,plain il,cl,lists pl,plainCh ml):Pr.Hi):=rfl;rw [b9] at B;generalize Pr.Gm ((kd,plain il,cl,lists pl,plainCh ml):Pr.Hi)=pb at*;go_wp2_with fail;refine B.out.mono ?_;rintro r w3 ⟨rfl,a8⟩;have H3:=hid (H2.out.below a8);have c0:Hid (Pr.Fg (⟨pb.toArray⟩:ByteArray).data.toList=some (Ld.pgA x.2 bs.length)):=(by show _=_;simpa using V.out);obtain ⟨vi,vp,vc,c,kq,hn,I,e3,c9,a3,a5,a6⟩:=HQ.out.node;have C:=hid (And.intro a3 (And.intro a5 a6));have W:=hid hn;have c1:=hid I;have X:=hid H3.out.bel.size;obtain ⟨ap,cp,rfl⟩:=Ab I;have d9:a.length<=1800000:=(by omega);clear a8 H2 B V A hn I a3 a5 a6 c9 S;generalize (⟨pb.toArray⟩:ByteArray)=s at*;go_wp2_with (at_builtin;refine Aaz w3 rfl (.tmp 24) (.tmp 30) rfl w.heap.size (.slice b3 a.length d3) a rfl H3.out.im s (by simp [Act.eval]) (by omega) X.out ?_;intro v4 w4 L a9 _;have H4:=hid (H3.out.apS L a9);obtain ⟨a4,c4,rfl⟩:=Ab L;clear L a9;have Y:An w4 x.1 vi (.slice ap c.length cp) vc:=(H4.out.bel.block _ W.out.lt).trans W.out;obtain ⟨n0,n1,n2,-⟩:=Y.cells;clear Y);have T:=H4.out;rw [List.length_append,List.length_singleton] at T;have c2:=hid T;clear T H4 n0 n1 n2
   go_loopw [37,4] (fun vj v4 wq=>∃(j:Nat) (i:List Nat),vj= .int .i64 (j:Nat)/\j<=c.length/\i=bs++(c.take j).map (·.2)/\ImK w i (a++[s]) (.slice a4 (a.length+1) c4) v4 wq) (fun vj _ _=> c.length - (intOf vj).toNat)
   case atStart=> exact ⟨0,bs,rfl,Nat.zero_le _,by simp,c2.out⟩
   case round=>
    obtain ⟨j,i,rfl,hj,d,u⟩:=hrel;have e0:=hid d;obtain ⟨b6,d6,rfl⟩:=Ab u.np;have d1:i.length<=1800004:=(by rw [d,List.length_append,List.length_map,List.length_take];omega);by_cases n:j < c.length
    ·obtain ⟨gp,d2,ep,e4,-,e5,y0,y1⟩:=Ap.at (Aa c1.out u.bel (Nat.le_refl _)) j n;simp only [Value.slice.injEq,true_and] at ep;obtain ⟨rfl,rfl⟩:=ep;have e1:(0:Int)<=(j:Int):=(by omega);have c3:(j:Int) < (c.length:Int):=(by omega);have Z:Hid (i++[(c[j]'n).2]=bs++(c.take (j+1)).map (·.2)):=by
      show _=_;rw [d,List.take_add_one,List.getElem?_eq_getElem n,List.map_append,List.append_assoc];rfl
     clear d;generalize c[j]'n=y at*;obtain ⟨f,pq⟩:=y;simp only at y0 y1 Z;have a0:Below wr.heap.size wr (wr.alloc (.cells #[.string f,.pointer (some ⟨pq,0,none⟩)] 132)):=(Below.refl _ wr).alloc (Nat.le_refl _) _;have H7:=hid (u.below a0);have a1:=hid H7.out.bel.size;clear u a0;go_wp2_with (at_builtin;refine Apx (wr.alloc (.cells #[.string f,.pointer (some ⟨pq,0,none⟩)] 132)) rfl (.tmp 41) (.tmp 44) rfl w.heap.size (.slice b6 i.length d6) i.length _ rfl H7.out.np (.pointer (some ⟨pq,0,none⟩)) rfl (by simp [Act.eval]) (by omega) a1.out ?_;intro v8 w8 b0 b1;have H8:=hid (H7.out.apN (p:=pq) b0 b1);clear b0 b1);exact ⟨⟨j+1,_,by go_num,by omega,Z.out,H8.out⟩,by simp [intOf];omega⟩
    ·have a2:j=c.length:=(by omega);have c3:¬(j:Int) < (c.length:Int):=(by omega);have c5:Hid (ImI w l (q++kq) (bs++kq.map (·.1)) (a++[s]) (.slice a4 (a.length+1) c4) (.slice b6 i.length d6) wr):=by
      have e:i=bs++kq.map (·.1):=(by rw [d,a2,List.take_length,C.out.1]);refine HI.out.next c0.out C.out.2.1 C.out.2.2 ?_ u.im u.bel;rw [<-e];exact u.np
     clear u d a2;go_wp2_with fail;refine ⟨⟨_,_,a++[s],?_,c5.out⟩,?_⟩
     ·rw [List.length_append];go_num
     ·have:=b8.out;simp [intOf];omega
end Go.Proofs.YtolgpnaoaodepaaGreat
