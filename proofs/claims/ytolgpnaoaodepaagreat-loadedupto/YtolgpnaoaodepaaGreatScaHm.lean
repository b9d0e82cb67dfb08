import Derived.Test.YtolgpnaoaodepaaGreatScaOm
namespace Go.Proofs.YtolgpnaoaodepaaGreat
open Go.RowKit
def ScB (w:World) (sb:Nat) (fr ub:ByteArray) (v:Value):Prop:=w.heap[sb]?=some (.cells #[.string fr,.string ub,v] 143 (0,0))
theorem ScB.lt {w:World} {a:Nat} {b ub:ByteArray} {v:Value} (h:ScB w a b ub v):a < w.heap.size:=(Array.getElem?_eq_some_iff.1 h).1
theorem ScB.cells {w:World} {a:Nat} {b ub:ByteArray} {v:Value} (h:ScB w a b ub v):w.cell? ⟨a,0,none⟩=some (.string b)/\w.cell? ⟨a,1,none⟩=some (.string ub)/\w.cell? ⟨a,2,none⟩=some v/\w.frozen? ⟨a,2,none⟩=false:=by
 unfold ScB at h;refine ⟨?_,?_,?_,?_⟩ <;> simp [World.cell?,World.frozen?,h]
theorem ScB.set {w:World} {a:Nat} {b ub:ByteArray} {v:Value} (h:ScB w a b ub v) (u:Value):ScB (w.setCell ⟨a,2,none⟩ u) a b ub u:=by unfold ScB at*;rw [Ad (i:=2) h];rfl
theorem Cs.prefix {B:Nat} {w:World} {g a n:Nat} {bs m:List Nat} (h:Cs B w (.slice (some ⟨g,0,none⟩) n a) (bs++m)):Cs B w (.slice (some ⟨g,0,none⟩) bs.length a) bs:=by
 rcases h.2 with ⟨e,o⟩ | ⟨p,f,b,e,i,j,k,l,c,d⟩
 ·simp at e
 ·simp only [Value.slice.injEq,Option.some.injEq,Addr.mk.injEq,and_true] at e;obtain ⟨rfl,-,rfl⟩:=e;refine ⟨by rw [Vc,Nat.mul_one],.inr ⟨g,a,b,rfl,i,j,?_,l,c,?_⟩⟩
  ·rw [List.length_append] at k;omega
  ·have:=congrArg (List.take (bs.length*1)) d;rw [List.take_take,List.length_append,Nat.min_eq_left (by omega)] at this;rw [this];unfold ptcells;rw [List.map_append,Nat.mul_one,List.take_left' (by simp)]
set_option maxHeartbeats 400000 in
theorem Amn (d:Nat) (o ub:ByteArray) (v:Value) (bs:List Nat) (b:Nat) (w:World) (k:ScB w d o ub v) (h:Cs 0 w v (bs++[b])) (y:bs.length<=1000000000):
  Calls Tryz.prog 295 #[.pointer (some ⟨d,2,none⟩)] w fun r w'=> r= .returned (.iface 137 (.pointer (some ⟨b,0,none⟩)))/\∃c,w'=w.setCell ⟨d,2,none⟩ c/\Cs 0 w c bs/\c.ownBlock=v.ownBlock:=by
 have a:bs.length < (bs++[b]).length:=by simp
 obtain ⟨g,m,rfl,i,-,q,n,-⟩:=h.at bs.length a;have f:(bs++[b])[bs.length]'a=b:=by simp
 rw [f] at n;have l:=hid h.prefix;obtain ⟨s,t,j,u⟩:=k.cells;rw [List.length_append] at j i ⊢;simp only [List.length_singleton] at j i ⊢;have p:IntKind.i64.wrap (((bs.length+1:Nat):Int) - 1)=(bs.length:Int):=by rw [IntKind.wrap_i64];omega
 clear h k f a;go_enter Tryz.func295,Tryz.ntmps295;go_wp2_with fail;go_ret;exact ⟨rfl,_,rfl,l.out,rfl⟩
theorem Ti (a:Addr) (w:World) (v:Value) (h:w.cell? a=some v):(load a).run Tryz.prog w= .ok v w:=by
 go_simp
theorem Ar1 (a:Addr) (w:World):(method 417 193 (.pointer (some a)) "Len").run Tryz.prog w=((load a) >>=fun x=> pure (292,x):Sem _).run Tryz.prog w:=by kernel_rfl
theorem Aq7 (a:Addr) (w:World):(method 417 193 (.pointer (some a)) "Less").run Tryz.prog w=((load a) >>=fun x=> pure (293,x):Sem _).run Tryz.prog w:=by kernel_rfl
theorem Aq8 (a:Addr) (w:World):(method 417 193 (.pointer (some a)) "Swap").run Tryz.prog w=((load a) >>=fun x=> pure (294,x):Sem _).run Tryz.prog w:=by kernel_rfl
theorem Are (a:Addr) (w:World):(method 417 193 (.pointer (some a)) "Pop").run Tryz.prog w= .ok (295,.pointer (some a)) w:=by kernel_rfl
theorem Ar2 (a:Addr) (w:World):(method 417 193 (.pointer (some a)) "Push").run Tryz.prog w= .ok (296,.pointer (some a)) w:=by kernel_rfl
theorem Ar3 (a:Addr) (w:World) (v:Value) (h:w.cell? a=some v):(method 417 193 (.pointer (some a)) "Len").run Tryz.prog w= .ok (292,v) w:=by
 rw [Ar1];have:=Ti a w v h;go_simp
theorem Amo (a:Addr) (w:World) (v:Value) (h:w.cell? a=some v):(method 417 193 (.pointer (some a)) "Less").run Tryz.prog w= .ok (293,v) w:=by
 rw [Aq7];have:=Ti a w v h;go_simp
theorem Amp (a:Addr) (w:World) (v:Value) (h:w.cell? a=some v):(method 417 193 (.pointer (some a)) "Swap").run Tryz.prog w= .ok (294,v) w:=by
 rw [Aq8];have:=Ti a w v h;go_simp
theorem Dd {w:World} {b:Nat} {f:Array Value} {T:TypeId} (h:w.heap[b]?=some (.cells f T (0,0))) {B:Nat} {e:TypeId} {s n:Nat} {v:Value} {xs:List Value} (i:w.ownsRow B e s v n xs) (j:e≠T):v.ownBlock≠some b:=by
 intro q;rcases i.2 with ⟨rfl,_⟩ | ⟨g,c,d,rfl,k,a,_⟩
 ·simp [Value.ownBlock] at q
 ·have:g=b:=by simpa [Value.ownBlock] using q
  subst this;rw [h] at a;simp at a;exact j a.2.symm
theorem Yk {w f g:World} {r:Option Nat} (a:w.grownBy f r) (c:f.grownBy g r):w.grownBy g r:=
 ⟨c.os.trans a.os,c.tape.trans a.tape,c.output.trans a.output,Nat.le_trans a.size c.size,fun k d b=> (c.block k (Nat.lt_of_lt_of_le d a.size) b).trans (a.block k d b)⟩
theorem Af0 {w a:World} (r:Option Nat) (h:Below w.heap.size w a):w.grownBy a r:=⟨h.os,h.tape,h.output,h.size,fun k b _=> h.block k b⟩
def Aq9 (r:Ending):Prop:=∃q,r= .returned (.bool q)
def PlK (w:World) (K:Nat->ByteArray×Nat) (bs:List Nat):Prop:=∀b∈bs,∃un ch,PlB w b (K b).1 (K b).2 un ch
def ltK (K:Nat->ByteArray×Nat) (a b:Nat):Prop:=Nr (K a).1 (K a).2 (K b).1 (K b).2=true
structure HpS (w:World) (sb:Nat) (fr ub:ByteArray) (v:Value) (K:Nat->ByteArray×Nat) (bs0 bs:List Nat) (wr:World):Prop where
 sc:ScB wr sb fr ub v
 row:Cs 0 wr v bs
 pl:PlK wr K bs
 perm:bs.Perm bs0
 gr:w.grownBy wr v.ownBlock
theorem HpS.below {w:World} {g:Nat} {i ub:ByteArray} {v:Value} {K:Nat->ByteArray×Nat} {a bs:List Nat} {wr w':World} (h:HpS w g i ub v K a bs wr) (d:Below wr.heap.size wr w'):HpS w g i ub v K a bs w':=
 ⟨(d.block g h.sc.lt).trans h.sc,Aa h.row d (Nat.le_refl _),fun b f=> by obtain ⟨u,c,q⟩:=h.pl b f;exact ⟨u,c,(d.block b q.lt).trans q⟩,h.perm,Yk h.gr (Af0 _ d)⟩
theorem HpS.swap {w:World} {k:Nat} {n ub:ByteArray} {v:Value} {K:Nat->ByteArray×Nat} {d bs:List Nat} {wr w':World} (h:HpS w k n ub v K d bs wr) {i j:Nat} (hi:i < bs.length) (o:j < bs.length) (p:Cs 0 w' v (Hp.swL 0 bs i j)) (l:wr.grownBy w' v.ownBlock):HpS w k n ub v K d (Hp.swL 0 bs i j) w':=by
 have m:=Hp.Aew 0 bs hi o;have f:∀b∈bs,v.ownBlock≠some b:=fun b g=> by obtain ⟨u,c,q⟩:=h.pl b g;exact Dd q h.row (by decide)
 refine ⟨(l.block k h.sc.lt (fun e=> Dd h.sc h.row (by decide) e.symm)).trans h.sc,p,fun b g=> ?_,m.trans h.perm,Yk h.gr l⟩;have a:=m.mem_iff.1 g;obtain ⟨u,c,q⟩:=h.pl b a;exact ⟨u,c,(l.block b q.lt (fun e=> f b a e.symm)).trans q⟩
set_option maxHeartbeats 2000000 in
set_option maxRecDepth 4000 in
theorem Ak7 (C:Nat) (fr ub:ByteArray) (v:Value) (K:Nat->ByteArray×Nat) (bs:List Nat) (n:Nat) (w:World) (hs:ScB w C fr ub v) (h:Cs 0 w v bs) (B:PlK w K bs) (hn:n<=bs.length) (hl:bs.length<=1000000000) (hd:Hp.Ml (ltK K) (Hp.nth 0 bs) n 0) (O:Hp.Ord (ltK K)):
  Calls Tryz.prog 185 #[.iface 193 (.pointer (some ⟨C,2,none⟩)),.int .i64 0,.int .i64 (n:Nat)] w fun r w'=> Aq9 r/\∃a,HpS w C fr ub v K bs a w'/\Hp.Mu (ltK K) (Hp.nth 0 a) n/\∀k,n<=k->Hp.nth 0 a k=Hp.nth 0 bs k:=by
 have H0:Hid (HpS w C fr ub v K bs bs w):=⟨hs,h,B,List.Perm.refl _,World.grownBy.refl _ _⟩;have HD:=hid hd;have N:=hid O;clear hs h B hd O;go_enter Tryz.func185,Tryz.ntmps185;go_wp2_with fail
 go_loopw [7] (fun vi wr=>∃i a,vi= .int .i64 (i:Nat)/\i < 2000000000/\HpS w C fr ub v K bs a wr/\Hp.Ml (ltK K) (Hp.nth 0 a) n i/\∀k,n<=k->Hp.nth 0 a k=Hp.nth 0 bs k) (fun vi _=> n - (intOf vi).toNat)
 case atStart=> exact ⟨0,bs,rfl,by decide,H0.out,HD.out,fun _ _=> rfl⟩
 case round=>
  obtain ⟨i,a,rfl,hi,hS,hD,hK⟩:=hrel;have s:=hid hS;have D:=hid hD;have HK:=hid hK;have a7:a.length=bs.length:=hS.perm.length_eq;clear hS hD hK;have F:IntKind.i64.wrap (2*(i:Int))=((2*i:Nat):Int):=by rw [IntKind.wrap_i64];omega
  have G:IntKind.i64.wrap (((2*i:Nat):Int)+1)=((2*i+1:Nat):Int):=by rw [IntKind.wrap_i64];omega
  have H:IntKind.i64.wrap (((2*i+1:Nat):Int)+1)=((2*i+2:Nat):Int):=by rw [IntKind.wrap_i64];omega
  by_cases hj:2*i+1 < n
  ·have Y:¬((n:Int)<=((2*i+1:Nat):Int)):=(by omega);have c2:¬(((2*i+1:Nat):Int) < 0):=(by omega);have b:2*i+1 < a.length:=(by omega);have d:i < a.length:=(by omega);have Z:Hid ((∃g:2*i+2 < a.length,2*i+2 < n/\Nr (K (a[2*i+2]'g)).1 (K (a[2*i+2]'g)).2 (K (a[2*i+1]'b)).1 (K (a[2*i+1]'b)).2=true)\/(∃g:2*i+2 < a.length,2*i+2 < n/\Nr (K (a[2*i+2]'g)).1 (K (a[2*i+2]'g)).2 (K (a[2*i+1]'b)).1 (K (a[2*i+1]'b)).2=false)\/¬2*i+2 < n):=by
    by_cases q:2*i+2 < n
    ·have q':2*i+2 < a.length:=by omega
     cases m:Nr (K (a[2*i+2]'(q'))).1 (K (a[2*i+2]'(q'))).2 (K (a[2*i+1]'b)).1 (K (a[2*i+1]'b)).2 with
     | true=> exact .inl ⟨q',q,m⟩
     | false=> exact .inr (.inl ⟨q',q,m⟩)
    ·exact .inr (.inr q)
   have R:Hid (∀g:2*i+2 < a.length,Calls Tryz.prog 293 #[v,.int .i64 (2*(i:Int)+1+1),.int .i64 (2*(i:Int)+1)] wr fun r w'=> r= .returned (.bool (Nr (K (a[2*i+2]'g)).1 (K (a[2*i+2]'g)).2 (K (a[2*i+1]'b)).1 (K (a[2*i+1]'b)).2))/\Below wr.heap.size wr w'):=by
    intro g;obtain ⟨u1,a4,U⟩:=s.out.pl _ (List.getElem_mem b);obtain ⟨u2,a5,V⟩:=s.out.pl _ (List.getElem_mem g);have:=Tg v a (2*i+2) (2*i+1) wr s.out.row g b _ _ _ _ _ _ _ _ V U;rw [show ((2*i+2:Nat):Int)=2*(i:Int)+1+1 by omega,show ((2*i+1:Nat):Int)=2*(i:Int)+1 by omega] at this;exact this
   have I:=Hp.Dj 0 a b;have hm:=Amo ⟨C,2,none⟩ wr v s.out.sc.cells.2.2.1;have S:=hid I;clear I;rcases Z.out with ⟨g,p,m⟩ | ⟨g,p,m⟩ | p
   case' inl=>
    have u:=Hp.Dj 0 a g;have HM:Hid (∀k,0 < k->k < n->(k - 1) / 2=i->¬ltK K (Hp.nth 0 a k) (Hp.nth 0 a (2*i+2))):=fun k h0 M B=> by
     rcases (show k=2*i+1\/k=2*i+2 by omega) with rfl | rfl
     ·refine N.out.asy ?_;rw [S.out,u];exact m
     ·exact fun z=> N.out.asy z z
    have o:=hid (R.out g);rw [m] at o;have T:(2*(i:Int)+1+1) < (n:Int):=(by omega);clear m u Z R;go_wp2_with fail;refine o.out.mono ?_;rintro r w2 ⟨rfl,c⟩;have l:=hid (s.out.below c);clear c o s hm;go_upto_region 8 with fail;have A:2*(i:Int)+1+1=((2*i+2:Nat):Int):=(by omega);rw [A];have J:2*i+2 < a.length/\i < 2*i+2/\(2*i+2 - 1) / 2=i:=⟨g,by omega,by omega⟩;clear A F G H Y c2 T;generalize 2*i+2=j at*
   case' inr.inl=>
    have u:=Hp.Dj 0 a g;have HM:Hid (∀k,0 < k->k < n->(k - 1) / 2=i->¬ltK K (Hp.nth 0 a k) (Hp.nth 0 a (2*i+1))):=fun k h0 M B=> by
     rcases (show k=2*i+1\/k=2*i+2 by omega) with rfl | rfl
     ·exact fun z=> N.out.asy z z
     ·rw [S.out,u];unfold ltK;rw [m];simp
    have o:=hid (R.out g);rw [m] at o;have T:(2*(i:Int)+1+1) < (n:Int):=(by omega);clear m u Z R;go_wp2_with fail;refine o.out.mono ?_;rintro r w2 ⟨rfl,c⟩;have l:=hid (s.out.below c);clear c o s hm;go_upto_region 8 with fail;have A:2*(i:Int)+1=((2*i+1:Nat):Int):=(by omega);rw [A];clear p;have p:2*i+1 < n:=hj;have J:2*i+1 < a.length/\i < 2*i+1/\(2*i+1 - 1) / 2=i:=⟨b,by omega,by omega⟩;clear A F G H Y c2 T;generalize 2*i+1=j at*
   case' inr.inr=>
    have HM:Hid (∀k,0 < k->k < n->(k - 1) / 2=i->¬ltK K (Hp.nth 0 a k) (Hp.nth 0 a (2*i+1))):=fun k h0 M B=> by
     rcases (show k=2*i+1\/k=2*i+2 by omega) with rfl | rfl
     ·exact fun z=> N.out.asy z z
     ·omega
    have T:¬((2*(i:Int)+1+1) < (n:Int)):=(by omega);clear Z R hm;have l:=hid s.out;clear s;go_upto_region 8 with fail;have A:2*(i:Int)+1=((2*i+1:Nat):Int):=(by omega);rw [A];clear p;have p:2*i+1 < n:=hj;have J:2*i+1 < a.length/\i < 2*i+1/\(2*i+1 - 1) / 2=i:=⟨b,by omega,by omega⟩;clear A F G H Y c2 T;generalize 2*i+1=j at*;generalize wr=w2 at*
   all_goals
    obtain ⟨f,a9,a6⟩:=J;obtain ⟨u1,a4,U⟩:=l.out.pl _ (List.getElem_mem f);obtain ⟨u2,a5,V⟩:=l.out.pl _ (List.getElem_mem d);have y:=hid (Tg v a j i w2 l.out.row f d _ _ _ _ _ _ _ _ U V);have hm:=Amo ⟨C,2,none⟩ w2 v l.out.sc.cells.2.2.1;have I:=Hp.Dj 0 a f;have u:=Hp.Dj 0 a d
    cases m:Nr (K (a[j]'f)).1 (K (a[j]'f)).2 (K (a[i]'d)).1 (K (a[i]'d)).2 with
    | true=>
     rw [m] at y;have L:Hid (ltK K (Hp.nth 0 a j) (Hp.nth 0 a i)):=(by show ltK K _ _;rw [I,u];exact m);clear U V I u m;go_wp2_with fail;refine y.out.mono ?_;rintro r w5 ⟨rfl,c⟩;have t:=hid (l.out.below c);have a8:=Amp ⟨C,2,none⟩ w5 v t.out.sc.cells.2.2.1;have a0:=hid (Th v a i j w5 t.out.row d f);go_wp2_with fail;refine a0.out.mono ?_;rintro r w6 ⟨rfl,W,X,-⟩;have a1:=hid (t.out.swap d f W X);have a2:Hid (Hp.Ml (ltK K) (Hp.nth 0 (Hp.swL 0 a i j)) n j):=by
      have:=D.out.step N.out p (by omega) a6 HM.out L.out;rw [show Hp.nth 0 (Hp.swL 0 a i j)=Hp.swp (Hp.nth 0 a) i j from funext fun k=> Hp.Rr 0 a d f k];exact this
     have a3:Hid (∀k,n<=k->Hp.nth 0 (Hp.swL 0 a i j) k=Hp.nth 0 bs k):=fun k M=> by
      rw [Hp.Rr 0 a d f k,Hp.Jy _ (by omega) (by omega)];exact HK.out k M
     clear W X c;go_wp2_with fail;exact ⟨⟨j,_,rfl,by omega,a1.out,a2.out,a3.out⟩,by simp [intOf];omega⟩
    | false=>
     rw [m] at y;have L:Hid (¬ltK K (Hp.nth 0 a j) (Hp.nth 0 a i)):=(by show ¬ltK K _ _;rw [I,u];unfold ltK;rw [m];simp);have HF:Hid (Hp.Mu (ltK K) (Hp.nth 0 a) n):=D.out.done fun k h0 M B=> N.out.tr L.out (HM.out k h0 M B)
     clear U V I u m;go_wp2_with fail;refine y.out.mono ?_;rintro r w5 ⟨rfl,c⟩;have t:=hid (l.out.below c);go_wp2_with fail;go_ret;exact ⟨⟨_,rfl⟩,a,t.out,HF.out,HK.out⟩
  ·have Y:(n:Int)<=((2*i+1:Nat):Int):=(by omega);have HF:Hid (Hp.Mu (ltK K) (Hp.nth 0 a) n):=D.out.done fun k h0 M B=> by omega
   go_wp2_with fail;go_ret;exact ⟨⟨_,rfl⟩,a,s.out,HF.out,HK.out⟩
set_option maxHeartbeats 2000000 in
set_option maxRecDepth 4000 in
theorem Ap1 (o:Nat) (y ub:ByteArray) (v:Value) (K:Nat->ByteArray×Nat) (bs:List Nat) (n:Nat) (w:World) (S:ScB w o y ub v) (h:Cs 0 w v bs) (T:PlK w K bs) (hn:bs.length=n+1) (hl:bs.length<=1000000000) (U:Hp.Mu (ltK K) (Hp.nth 0 bs) n) (O:Hp.Ord (ltK K)):
  Calls Tryz.prog 236 #[.iface 193 (.pointer (some ⟨o,2,none⟩)),.int .i64 (n:Nat)] w fun r w'=> r= .returned (.tuple #[])/\∃a,HpS w o y ub v K bs a w'/\Hp.Mu (ltK K) (Hp.nth 0 a) (n+1):=by
 have V:Hid (HpS w o y ub v K bs bs w):=⟨S,h,T,List.Perm.refl _,World.grownBy.refl _ _⟩;have W:Hid (Hp.UpI (ltK K) (Hp.nth 0 bs) (n+1) n):=Hp.UpI.start U;have X:=hid O;clear S h T U O;go_enter Tryz.func236,Tryz.ntmps236;go_wp2_with fail
 go_loopw [1] (fun J wr=>∃j a,J= .int .i64 (j:Nat)/\j<=n/\HpS w o y ub v K bs a wr/\Hp.UpI (ltK K) (Hp.nth 0 a) (n+1) j) (fun J _=> (intOf J).toNat)
 case atStart=> exact ⟨n,bs,rfl,Nat.le_refl _,V.out,W.out⟩
 case round=>
  obtain ⟨j,a,rfl,a4,F,R⟩:=hrel;have l:=hid F;have m:=hid R;have M:a.length=bs.length:=F.perm.length_eq;clear F R;have Y:IntKind.i64.wrap ((j:Int) - 1)=(j:Int) - 1:=by rw [IntKind.wrap_i64];omega
  by_cases L:j=0
  ·subst L;have z:Hid (Hp.Mu (ltK K) (Hp.nth 0 a) (n+1)):=m.out.done (.inl rfl);go_wp2_with fail;go_end0;exact ⟨rfl,a,l.out,z.out⟩
  ·obtain ⟨i,hi⟩:∃i,i=(j - 1) / 2:=⟨_,rfl⟩;have Z:i < j:=(by omega);have a0:IntKind.i64.wrap (((j:Int) - 1).tdiv 2)=(i:Int):=by
    rw [show ((j:Int) - 1)=((j - 1:Nat):Int) by omega,Int.tdiv_eq_ediv_of_nonneg (by omega),IntKind.wrap_i64];omega
   have a1:((j:Int) - 1).tdiv 2=(i:Int):=by
    rw [show ((j:Int) - 1)=((j - 1:Nat):Int) by omega,Int.tdiv_eq_ediv_of_nonneg (by omega)];omega
   have N:=hid hi;clear hi;have a2:((i:Int)==(j:Int))=false:=(by simp;omega);have b:j < a.length:=(by omega);have c:i < a.length:=(by omega);obtain ⟨u1,a5,G⟩:=l.out.pl _ (List.getElem_mem b);obtain ⟨u2,a6,H⟩:=l.out.pl _ (List.getElem_mem c);have f:=hid (Tg v a j i wr l.out.row b c _ _ _ _ _ _ _ _ G H);have hm:=Amo ⟨o,2,none⟩ wr v l.out.sc.cells.2.2.1;have t:=Hp.Dj 0 a b;have u:=Hp.Dj 0 a c
   cases p:Nr (K (a[j]'b)).1 (K (a[j]'b)).2 (K (a[i]'c)).1 (K (a[i]'c)).2 with
   | true=>
    rw [p] at f;have A:Hid (ltK K (Hp.nth 0 a j) (Hp.nth 0 a i)):=(by show ltK K _ _;rw [t,u];exact p);clear G H t u p;go_wp2_with fail;refine f.out.mono ?_;rintro r I ⟨rfl,g⟩;have d:=hid (l.out.below g);have a3:=Amp ⟨o,2,none⟩ I v d.out.sc.cells.2.2.1;have B:=hid (Th v a i j I d.out.row c b);go_wp2_with fail;refine B.out.mono ?_;rintro r w6 ⟨rfl,q,s,-⟩;have C:=hid (d.out.swap c b q s);have D:Hid (Hp.UpI (ltK K) (Hp.nth 0 (Hp.swL 0 a i j)) (n+1) i):=by
     have:=m.out.step X.out N.out (by omega) (by omega) A.out;rw [show Hp.nth 0 (Hp.swL 0 a i j)=Hp.swp (Hp.nth 0 a) i j from funext fun k=> Hp.Rr 0 a c b k];exact this
    clear q s g;go_wp2_with fail;exact ⟨⟨i,_,rfl,by omega,C.out,D.out⟩,by simp [intOf];omega⟩
   | false=>
    rw [p] at f;have z:Hid (Hp.Mu (ltK K) (Hp.nth 0 a) (n+1)):=m.out.done (.inr (by rw [<-N.out,t,u];unfold ltK;rw [p];simp));clear G H t u p;go_wp2_with fail;refine f.out.mono ?_;rintro r I ⟨rfl,g⟩;have d:=hid (l.out.below g);go_wp2_with fail;go_end0;exact ⟨rfl,a,d.out,z.out⟩
theorem HpS.trans {w:World} {f:Nat} {g ub:ByteArray} {v:Value} {K:Nat->ByteArray×Nat} {a b c:List Nat} {i j:World} (k:HpS w f g ub v K a b i) (d:HpS i f g ub v K b c j):HpS w f g ub v K a c j:=⟨d.sc,d.row,d.pl,d.perm.trans k.perm,Yk k.gr d.gr⟩
structure HpQ (sb:Nat) (fr ub:ByteArray) (v:Value) (K:Nat->ByteArray×Nat) (bs:List Nat) (w:World):Prop where
 sc:ScB w sb fr ub v
 row:Cs 0 w v bs
 pl:PlK w K bs
 heap:Hp.Mu (ltK K) (Hp.nth 0 bs) bs.length
theorem Af1 (bs:List Nat) {n:Nat} (h:bs.length=n+1):bs=bs.take n++[Hp.nth 0 bs n]:=by
 rw [Hp.Dj 0 bs (by omega),List.take_append_getElem (by omega),List.take_of_length_le (by omega)]
set_option maxHeartbeats 400000 in
set_option maxRecDepth 4000 in
theorem Amq (l:Nat) (G ub:ByteArray) (v:Value) (K:Nat->ByteArray×Nat) (bs:List Nat) (w:World) (h:HpQ l G ub v K bs w) (a7:0 < bs.length) (hl:bs.length<=1000000000) (O:Hp.Ord (ltK K)):
  Calls Tryz.prog 131 #[.iface 193 (.pointer (some ⟨l,2,none⟩))] w fun r w'=>∃b F p,r= .returned (.iface 137 (.pointer (some ⟨b,0,none⟩)))/\bs.Perm (b::F)/\(∀c∈F,¬ltK K c b)/\HpQ l G ub p K F w'/\p.ownBlock=v.ownBlock/\(∀g,g < w.heap.size->g≠l->v.ownBlock≠some g->w'.heap[g]?=w.heap[g]?)/\w.heap.size<=w'.heap.size/\w'.os=w.os/\w'.tape=w.tape/\w'.output=w.output:=by
 obtain ⟨n,hn⟩:∃n,bs.length=n+1:=⟨bs.length - 1,by omega⟩;obtain ⟨a,c,hv⟩:=Ab h.row;have H0:Hid (HpS w l G ub v K bs bs w):=⟨h.sc,h.row,h.pl,List.Perm.refl _,World.grownBy.refl _ _⟩;have X:=hid h.heap;have HO:=hid O;have a8:=Ar3 ⟨l,2,none⟩ w v h.sc.cells.2.2.1;have a9:=Amp ⟨l,2,none⟩ w v h.sc.cells.2.2.1;have H:=hid (Th v bs 0 n w h.row (by omega) (by omega));have xw:IntKind.i64.wrap (((n+1:Nat):Int) - 1)=(n:Int):=by rw [IntKind.wrap_i64];omega
 have b0:IntKind.i64.wrap ((n:Int)+1 - 1)=(n:Int):=by rw [IntKind.wrap_i64];omega
 have Y:=hid (Aez a bs.length c w);rw [<-hv,hn] at Y;clear hv;have b1:=fun w'=> Are ⟨l,2,none⟩ w'
 clear h O;go_enter Tryz.func131,Tryz.ntmps131;go_wp2_with fail;refine Y.out.mono ?_;rintro r w ⟨rfl,rfl⟩;go_wp2_with fail;refine H.out.mono ?_;rintro r w1 ⟨rfl,N,R,-⟩;have s:=H0.out.swap (i:=0) (j:=n) (by omega) (by omega) N R;have A:Hp.nth 0 (Hp.swL 0 bs 0 n)=Hp.swp (Hp.nth 0 bs) 0 n:=funext fun k=> Hp.Rr 0 bs (by omega) (by omega) k
 have I:Hp.Ml (ltK K) (Hp.nth 0 (Hp.swL 0 bs 0 n)) n 0:=by
  rw [A];have:=X.out;rw [hn] at this;exact Hp.Ml.start this
 have Z:(Hp.swL 0 bs 0 n).length=n+1:=by rw [Hp.Aoz,hn]
 have a0:=hid (Ak7 l G ub v K (Hp.swL 0 bs 0 n) n w1 s.sc s.row s.pl (by omega) (by omega) I HO.out);have a1:=hid s;clear s I N R H Y;go_wp2_with fail;refine a0.out.mono ?_;rintro r B ⟨⟨q,rfl⟩,f,D,S,T⟩;have a2:f.length=n+1:=by rw [D.perm.length_eq,Z]
 have t:Hp.nth 0 f n=Hp.nth 0 bs 0:=by rw [T n (Nat.le_refl _),A,Hp.Uz]
 have m:=Af1 f a2;rw [t] at m;have d:=a1.out.trans D;have o:=d.row;rw [m] at o;have HP:=hid (Amn l G ub v (f.take n) (Hp.nth 0 bs 0) B d.sc o (by simp;omega));have J:=hid d;have L:=hid m;have M:=hid S;clear D S T d o t;go_wp2_with fail;refine HP.out.mono ?_;rintro r w3 ⟨rfl,p,rfl,z,U⟩;have HF:Hid (bs.Perm (Hp.nth 0 bs 0::f.take n)/\(∀c∈f.take n,¬ltK K c (Hp.nth 0 bs 0))/\HpQ l G ub p K (f.take n) (B.setCell ⟨l,2,none⟩ p)/\p.ownBlock=v.ownBlock/\(∀g,g < w.heap.size->g≠l->v.ownBlock≠some g->(B.setCell ⟨l,2,none⟩ p).heap[g]?=w.heap[g]?)/\w.heap.size<=(B.setCell ⟨l,2,none⟩ p).heap.size/\(B.setCell ⟨l,2,none⟩ p).os=w.os/\(B.setCell ⟨l,2,none⟩ p).tape=w.tape/\(B.setCell ⟨l,2,none⟩ p).output=w.output):=by
  have d:=J.out;have C:=Gn l 2 B p;have y:bs.Perm (Hp.nth 0 bs 0::f.take n):=by
   have h1:=d.perm.symm;have h2:f.Perm (Hp.nth 0 bs 0::f.take n):=by
    conv=> lhs;rw [L.out]
    exact List.perm_append_comm
   exact h1.trans h2
  refine ⟨y,fun c hc=> ?_,⟨d.sc.set p,?_,fun b a6=> ?_,?_⟩,U,fun g V h1 h2=> ?_,?_,?_,?_,?_⟩
  ·have a3:c∈bs:=y.mem_iff.2 (List.mem_cons_of_mem _ hc);obtain ⟨k,W,rfl⟩:=List.getElem_of_mem a3;have:=X.out.root HO.out k W;rw [Hp.Dj 0 bs W] at this;exact this
  ·refine Bz z fun g V _=> C.block g ?_ (fun e=> ?_)
   ·exact (World.ownsRow.lt z g V).2
   ·have:g=l:=(by simpa using e);rw [this] at V;exact Dd d.sc z (by decide) V
  ·have a4:b∈f:=List.mem_of_mem_take a6;obtain ⟨u,c,q⟩:=d.pl b a4;refine ⟨u,c,(C.block b q.lt (fun e=> ?_)).trans q⟩;have e:b=l:=(by simpa using e);rw [e] at q;have q1:=d.sc;unfold PlB at q;unfold ScB at q1;rw [q] at q1;simp at q1
  ·have a5:(f.take n).length=n:=(by rw [List.length_take];omega);rw [a5];refine M.out.congr fun k W=> ?_
   unfold Hp.nth;rw [List.getElem?_take_of_lt W]
  ·exact (C.block g (by have:=d.gr.size;omega) (fun e=> h1 (by simpa using e))).trans (d.gr.block g V (fun e=> h2 e.symm))
  ·have:=d.gr.size;have:=C.size;omega
  ·exact C.os.trans d.gr.os
  ·exact C.tape.trans d.gr.tape
  ·exact C.output.trans d.gr.output
 clear J L M HP X z U;go_wp2_with fail;go_ret;exact ⟨_,_,_,rfl,HF.out⟩
theorem Ap2:(Tryz.prog.info? 137).map (fun i=> (i.zero,i.size,i.bytes))=some (some (.pointer none),1,8):=by kernel_rfl
theorem Af2 (a:Option Addr) (w:World):(Instr.typeAssert (.iface 137 (.pointer a)) 20 137 false).run Tryz.prog w= .ok (.pointer a) w:=by kernel_rfl
theorem Af3 (l:List Nat):∀v∈ptcells l,v.oneCell'=true:=fun v a=> by
 obtain ⟨b,_,rfl⟩:=List.mem_map.1 a;rfl
theorem Ap3 (w:World) (b:Nat):(w.alloc (.cells #[.pointer (some ⟨b,0,none⟩)] 137)).ownsRow 0 137 1 (.slice (some ⟨w.heap.size,0,none⟩) 1 1) 1 (ptcells [b]):=
 ⟨rfl,.inr ⟨w.heap.size,1,#[.pointer (some ⟨b,0,none⟩)],rfl,Nat.zero_le _,heap_alloc_new _ _,Nat.le_refl _,by unfold maxLen;omega,by simp,by simp [ptcells]⟩⟩
set_option maxHeartbeats 400000 in
set_option maxRecDepth 4000 in
theorem Ak8 (a:Nat) (B ub:ByteArray) (v:Value) (bs:List Nat) (b:Nat) (w:World) (o:ScB w a B ub v) (h:Cs 0 w v bs) (hl:bs.length<=100000000):
  Calls Tryz.prog 296 #[.pointer (some ⟨a,2,none⟩),.iface 137 (.pointer (some ⟨b,0,none⟩))] w fun r w'=> r= .returned (.tuple #[])/\∃A,ScB w' a B ub A/\Cs 0 w' A (bs++[b])/\(A.ownBlock=v.ownBlock\/∃k,w.heap.size<=k/\A.ownBlock=some k)/\Mod (fun g=> g=a\/v.ownBlock=some g) w w':=by
 have c:Below w.heap.size w (w.alloc (.cells #[.pointer (some ⟨b,0,none⟩)] 137)):=(Below.refl _ w).alloc (Nat.le_refl _) _;have H:Cs 0 (w.alloc (.cells #[.pointer (some ⟨b,0,none⟩)] 137)) v bs:=Aa h c (Nat.le_refl _);obtain ⟨f,i,rfl⟩:=Ab h;obtain ⟨v2,n,I,z,J,L⟩:=Nm (w.alloc (.cells #[.pointer (some ⟨b,0,none⟩)] 137)).drew 141 141 137 Tryz.underlying141 _ 1 8 Ap2 rfl (by decide) (by decide) (.slice f bs.length i) (.slice (some ⟨w.heap.size,0,none⟩) 1 1) bs.length 1 (ptcells bs) (ptcells [b]) H (Ap3 w b) (Af3 _) (by omega);have s:(Value.slice f bs.length i).ownBlock≠some a:=Dd o h (by decide);have t:Mod (fun _=> False) w (w.alloc (.cells #[.pointer (some ⟨b,0,none⟩)] 137)).drew:=⟨c.os,c.tape,c.output,c.size,fun k R _=> c.block k R⟩;have C:Mod (fun k=> (Value.slice f bs.length i).ownBlock=some k) (w.alloc (.cells #[.pointer (some ⟨b,0,none⟩)] 137)).drew n:=Mod.of_grown J;have u:Mod (fun g=> g=a\/(Value.slice f bs.length i).ownBlock=some g) w n:=t.trans C (fun _ _ q=> q.elim) (fun _ _ q=> .inr q);have d:ScB n a B ub (.slice f bs.length i):=(C.block a (Nat.lt_of_lt_of_le o.lt t.size) s).trans ((t.block a o.lt id).trans o);have D:=Mod.setCell n a 2 v2;obtain ⟨j,l,m,rfl⟩:=Ey z;have y:(Value.slice j l m).ownBlock≠some a:=Dd d z (by decide);have M:Hid (ScB (n.setCell ⟨a,2,none⟩ (.slice j l m)) a B ub (.slice j l m)/\Cs 0 (n.setCell ⟨a,2,none⟩ (.slice j l m)) (.slice j l m) (bs++[b])/\((Value.slice j l m).ownBlock=(Value.slice f bs.length i).ownBlock\/∃k,w.heap.size<=k/\(Value.slice j l m).ownBlock=some k)/\Mod (fun g=> g=a\/(Value.slice f bs.length i).ownBlock=some g) w (n.setCell ⟨a,2,none⟩ (.slice j l m))):=by
  refine ⟨d.set _,D.row ?_ (fun g S q=> y (by rw [<-q];exact S)),L.imp id (fun q=> ⟨_,t.size,q⟩),u.trans D (fun _ _ q=> q) (fun _ _ q=> .inl q)⟩;rw [List.length_append,show ptcells (bs++[b])=ptcells bs++ptcells [b] by simp [ptcells]];exact z
 have F:=hid I;obtain ⟨U,V,O,X⟩:=o.cells;obtain ⟨Y,Z,t2,t3⟩:=d.cells;have G:=o.lt;have T:(w.alloc (.cells #[.pointer (some ⟨b,0,none⟩)] 137)).cell? ⟨a,2,none⟩=some (.slice f bs.length i):=(c.cell (p:=⟨a,2,none⟩) G).trans O;clear o h c H I z J L s t C u d D y;have N:=fun W=> Af2 (some ⟨b,0,none⟩) W
 go_enter Tryz.func296,Tryz.ntmps296;go_upto_region 0 with fail
 go_region_law (refine Nf _ (by rfl) (.tmp 7) (.tmp 10) _ _ (by rfl) _ _ (by rfl) (by simp [Act.eval]) _ _ F.out ?_)
 all_goals
  go_wp2_with fail;go_end0;exact ⟨rfl,_,M.out⟩
end Go.Proofs.YtolgpnaoaodepaaGreat
