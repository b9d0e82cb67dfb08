import Derived.Test.YtolgpnaoaodepaaGreatKimCm
namespace Go.Proofs.YtolgpnaoaodepaaGreat
open Go.RowKit
theorem Aq1 {α:Type} {R:Tr.Key->Tr.Key->α->Prop} {d:α->Nat}:∀{ts:List Ld.Tk} {b:List α},Ld.FF R d ts b->∀(i:Nat) (a:i < ts.length) (c:i < b.length),d (b[i]'c)=(ts[i]'a).1/\R (ts[i]'a).2.1 (ts[i]'a).2.2 (b[i]'c)
 | _::_,_::_,h,0,_,_=> h.1
 | _::_,_::_,h,i+1,a,c=> Aq1 h.2 i (Nat.lt_of_succ_lt_succ a) (Nat.lt_of_succ_lt_succ c)
 | [],_,_,_,a,_=> absurd a (Nat.not_lt_zero _)
 | _::_,[],h,_,_,_=> h.elim
theorem Al3 {P:List (Option Ld.Nd)} {h:Nat} {lo hi:Tr.Key} {f:Ld.PT h} (g:Ld.Co P h lo hi f):∃a,P[Ld.num h f]?=some (some a)/\Ld.okP a lo hi/\((h=0/\a.1=1)\/(0 < h/\a.1=2)):=by
 cases h with
 | zero=>
  obtain ⟨a,b,c,d⟩:=g;exact ⟨a,b,d,.inl ⟨rfl,c⟩⟩
 | succ h=>
  obtain ⟨n,i⟩:=f;obtain ⟨a,b,c,d,-⟩:=g;exact ⟨a,b,d,.inr ⟨Nat.succ_pos _,c⟩⟩
def KPQ (iml:List ByteArray) (w1:World) (b:Nat) (vp vr:Value) (rd:List Nat) (il:List (ByteArray×ByteArray)) (h:Nat) (f:Ld.PT h) (deep:Nat) (w:World) (r:Ending) (w':World):Prop:=
 r= .returned (.bool true)/\Mod (kF b vr) w w'/\∃v' il',KwI iml.length w1 b vp vr (rd++Ld.nums h f) ((deep+h:Nat):Int) v' il' w'/\plain il'=Tr.Bq (plain il) (Ld.eff (Ag iml) h f)
def Ao2 (iml:List ByteArray) (w1:World) (b:Nat) (vp vr:Value) (h:Nat):Prop:=∀(rd:List Nat) (far:Int) (v:Value) (il:List (ByteArray×ByteArray)) (f:Ld.PT h) (deep:Nat) (lo hi:ByteArray) (w:World),KwI iml.length w1 b vp vr rd far v il w->Ld.Co (Ag iml) h lo.data.toList hi.data.toList f->(rd++Ld.nums h f).Nodup->Ld.Ant far (deep+h)->il.length<=16*rd.length->deep<=rd.length->Calls Tryz.prog 25 #[.pointer (some ⟨b,0,none⟩),.int .i64 (Ld.num h f:Nat),.int .i64 (deep:Nat),.string lo,.string hi] w (KPQ iml w1 b vp vr rd il h f deep w)
structure KdK (P:List (Option Ld.Nd)) (h deep:Nat) (ks:List (Ld.PT h)) (l:List Tr.It) (i:Nat) (far':Int) (l':List Tr.It):Prop where
 far:Ld.Ant far' (deep+1+h)
 pos:0 < i->far'=((deep+1+h:Nat):Int)
 ls:l'=Tr.Bq l (((ks.take i).map (Ld.eff P h)).flatten)
theorem KdK.len {P:List (Option Ld.Nd)} (o:Ld.Yu P) {h b:Nat} {a:List (Ld.PT h)} {l:List Tr.It} {i:Nat} {c:Int} {k:List Tr.It} (p:KdK P h b a l i c k) {ts:List Ld.Tk} (q:Ld.FF (Ld.Co P h) (Ld.num h) ts a) {rd:List Nat} {n:Nat} (t:l.length<=16*rd.length):k.length+16<=16*(rd++[n]++Ld.Bb h (a.take i)).length:=by
 have r:=Tr.Fy (((a.take i).map (Ld.eff P h)).flatten) l;have s:=Ld.Jv (Ld.eff P h) (Ld.nums h) 16 (a.take i) fun f j=> by
  obtain ⟨d,g,m⟩:=q.each f (List.mem_of_mem_take j);exact Ld.Add o h d g f m
 rw [p.ls,List.length_append,List.length_append];have e:(Ld.Bb h (a.take i)).length=(((a.take i).map (Ld.nums h)).flatten).length:=rfl;rw [e,List.length_singleton];omega
theorem KdK.step {P:List (Option Ld.Nd)} {h a:Nat} {b:List (Ld.PT h)} {l:List Tr.It} {i:Nat} {c:Int} {d:List Tr.It} (j:KdK P h a b l i c d) (hi:i < b.length) {f:List Tr.It} (k:f=Tr.Bq d (Ld.eff P h (b[i]'hi))):KdK P h a b l (i+1) ((a+1+h:Nat):Int) f:=by
 refine ⟨.inr rfl,fun _=> rfl,?_⟩;rw [k,j.ls,<-Ld.Ob];have g:b.take (i+1)=b.take i++[b[i]'hi]:=by rw [List.take_add_one,List.getElem?_eq_getElem hi];rfl
 rw [g,List.map_append,List.flatten_append];simp
theorem Ac4 {h:Nat} {a:List (Ld.PT h)} {i:Nat} (hi:i < a.length) (rd:List Nat) (n:Nat):rd++[n]++Ld.Bb h (a.take i)++Ld.nums h (a[i]'hi)=rd++[n]++Ld.Bb h (a.take (i+1)):=by
 have b:a.take (i+1)=a.take i++[a[i]'hi]:=by rw [List.take_add_one,List.getElem?_eq_getElem hi];rfl
 rw [b,Ld.Gh];simp [Ld.Bb]
theorem Apm {h:Nat} {a:List (Ld.PT h)} {i:Nat} {rd:List Nat} {n:Nat} (b:(rd++Ld.nums (h+1) (n,a)).Nodup):(rd++[n]++Ld.Bb h (a.take i)).Nodup:=by
 have e:rd++Ld.nums (h+1) (n,a)=(rd++[n]++Ld.Bb h (a.take i))++Ld.Bb h (a.drop i):=by
  show rd++(n::Ld.Bb h a)=_;rw [List.append_assoc (rd++[n]),<-Ld.Gh,List.take_append_drop];simp
 rw [e] at b;exact (List.nodup_append.1 b).1
theorem Aj8 {k:Int} {key x:ByteArray} (h:Tr.Ew (chP k key x)):(k=1\/k=2\/k=3)/\x.size<=16:=by
 unfold Tr.Ew Pg.Ax chP Pg.Bt at h;simp only [Bool.and_eq_true,Bool.or_eq_true,decide_eq_true_eq] at h;obtain ⟨⟨-,a⟩,b⟩:=h;refine ⟨?_,by rw [<-len_size];exact a⟩;rcases b with (q | q) | q
 ·exact .inl q
 ·exact .inr (.inr q)
 ·exact .inr (.inl q.1)
set_option maxHeartbeats 1000000 in
set_option maxRecDepth 20000 in
theorem Zz (iml:List ByteArray) (hL:iml.length<=1200000) (w1:World) (b:Nat) (vp vr:Value) (ps:List NdM) (d3:ps.length=iml.length) (d4:Akw iml vp ps w1) (h:Nat) (IH:∀o,h=o+1->Ao2 iml w1 b vp vr o):Ao2 iml w1 b vp vr h:=by
 intro rd J v il f c lo hi w hI hF g1 L l4 p7;have g5:=hid IH;have m0:=hid g1;have g6:=hid hF;have b4:=hid L;have g7:=hid l4;have r9:rd.length<=iml.length:=Ld.Ie hI.rdn.1 hI.rdn.2;obtain ⟨nd,b2,a5,f4⟩:=Al3 hF;have b0:Ld.num h f < ps.length:=by
  rw [d3];have:=(List.getElem?_eq_some_iff.1 b2).1;unfold Ag at this;rw [List.length_map] at this;exact this
 have e5:Ld.num h f∉rd:=fun q=> (List.nodup_append.1 g1).2.2 _ q _ (Ld.Ad1 f) rfl
 have b5:Ld.num h f < iml.length:=by rw [<-d3];exact b0
 have g8:Hid (∀z,z=Ld.num h f->Ld.num h f=z):=fun _ e=> e.symm
 obtain ⟨n,hn⟩:∃n,Ld.num h f=n:=⟨_,rfl⟩;have c6:=hid hn;rw [hn] at b2 b0 e5 b5 ⊢;clear hn g8 IH g1 hF L l4;obtain ⟨N,cr,rfl,n5,n6,r0,r1⟩:=Ag2 hI.re n b5;rw [if_neg e5] at r0;obtain ⟨ap,cp,k2⟩:=Ab d4.row;rw [d3] at k2;subst k2;obtain ⟨l0,l1,l2,l3,f2,f3⟩:=hI.wk.cells;obtain ⟨c7,k3⟩:=hI.mark b5 e5;have g9:=hid c7;have h4:=hid k3;have d5:=d4.mod (Mod.of_below (F:=fun _=> False) c7.bel) (fun _ q=> q.elim);obtain ⟨gp,r7,ep,n7,-,n8,p0,p1,p2,p3,p4⟩:=d5.row.at n b0;simp only [Value.slice.injEq] at ep;obtain ⟨rfl,-,rfl⟩:=ep;obtain ⟨a,cl,pl,ml,a6,k4⟩:=d4.pgs n b0;generalize ps[n]'b0=nx at*;obtain ⟨kd,v1,v2,v3,v4⟩:=nx;simp only at a6 k4 p0 p1 p2 p3 p4;have h9:nd=(kd,plain a,cl,lists pl,plainCh ml):=by
  rw [b2] at a6;simpa using a6
 subst h9;have e6:=hid b2;obtain ⟨a7,e0⟩:=Mf b2;have b6:=hid a7;have q8:=hid e0;have i0:=hid a5;obtain ⟨u1,u2,u3,u4,eu,o1,o2,o3,o4,q1,q2,q3,q4⟩:=k4;simp only [Value.agg.injEq,Array.mk.injEq,List.cons.injEq,and_true,true_and] at eu;obtain ⟨rfl,rfl,rfl,rfl⟩:=eu;obtain ⟨a1,u,rfl⟩:=Ab o1;obtain ⟨a2,y,rfl⟩:=Ab o2;obtain ⟨a3,A,rfl⟩:=Ab o3;obtain ⟨a4,B,rfl⟩:=Ab o4;have O1:=hid o1;have O2:=hid o2;have O3:=hid o3;have O4:=hid o4;obtain ⟨k0,k1,-⟩:=c7.wk.cells;have i1:(w.setCell ⟨N,n,none⟩ (.int .i64 1)).heap.size=w.heap.size:=by simp [World.setCell]
 have e7:Hid (KpW iml.length w1 b (.slice (some ⟨gp,0,none⟩) iml.length cp) (.slice (some ⟨N,0,none⟩) iml.length cr) w w.heap.size kd (.slice a1 a.length u) (.slice a2 cl.length y) (.slice a3 pl.length A) (.slice a4 ml.length B) (rd++[n]) J v il ((w.setCell ⟨N,n,none⟩ (.int .i64 1)).alloc (.cells #[.int .i64 kd,.slice a1 a.length u,.slice a2 cl.length y,.slice a3 pl.length A,.slice a4 ml.length B] 79))):=by
  have i2:Below (w.setCell ⟨N,n,none⟩ (.int .i64 1)).heap.size (w.setCell ⟨N,n,none⟩ (.int .i64 1)) ((w.setCell ⟨N,n,none⟩ (.int .i64 1)).alloc (.cells #[.int .i64 kd,.slice a1 a.length u,.slice a2 cl.length y,.slice a3 pl.length A,.slice a4 ml.length B] 79)):=(Below.refl _ _).alloc (Nat.le_refl _) _;refine ⟨g9.out.below i2,?_,h4.out.trans (Mod.of_below (F:=fun _=> False) i2) (fun _ _ q=> q) (fun _ _ q=> q.elim)⟩;have:=Bw (w.setCell ⟨N,n,none⟩ (.int .i64 1)) (.int .i64 kd) (.slice a1 a.length u) (.slice a2 cl.length y) (.slice a3 pl.length A) (.slice a4 ml.length B);rw [i1] at this;exact this
 have c1:¬(iml.length:Int)<=(n:Int):=by omega
 have c2:(0:Int)<=(n:Int):=by omega
 have c3:(n:Int) < (iml.length:Int):=by omega
 have q9:pl.length<=1000:=Nat.le_trans q3 (by decide);have e8:a.length<=16:=by
  rcases a7 with ⟨_,_,_,_,C,_⟩ | ⟨_,C,_⟩
  ·have C:(plain a).length<=16:=C;rw [Bn] at C;exact C
  ·have C:plain a=[]:=C;have:=congrArg List.length C;rw [Bn] at this;simp at this;simp [this]
 have i3:Hid (∀(i:Nat) (h:i < a.length),Tr.Ew (chP 1 (a[i]'h).1 (a[i]'h).2)/\De lo.data.toList hi.data.toList (a[i]'h).1.data.toList=true/\(a[i]'h).2.size<=16):=fun i h=> by
  have hm:((a[i]'h).1.data.toList,(a[i]'h).2.data.toList)∈plain a:=List.mem_map.2 ⟨a[i]'h,List.getElem_mem h,rfl⟩;have i4:Tr.Alj ((a[i]'h).1.data.toList,(a[i]'h).2.data.toList):=by
   rcases a7 with ⟨_,_,_,_,_,_,h7⟩ | ⟨_,C,_⟩
   ·exact h7 _ hm
   ·have C:plain a=[]:=C;rw [C] at hm;cases hm
  exact ⟨Ld.Zo (x:=((a[i]'h).1.data.toList,(a[i]'h).2.data.toList)) i4,(Ov _ _ _).2 (a5.1 _ hm),by rw [<-len_size];exact i4.2⟩
 have i5:Hid (∀(i:Nat) (h:i < pl.length),De lo.data.toList hi.data.toList (pl[i]'h).data.toList=true):=fun i h=> (Ov _ _ _).2 (a5.2.2 _ (List.mem_map.2 ⟨pl[i]'h,List.getElem_mem h,rfl⟩))
 clear hI c7 k3 d4 d5 a7 e0 a5 o1 o2 o3 o4 q1 q2 q3 q4 i1 a6 b2 d3 b0;go_enter Tryz.func25,Tryz.ntmps25;go_wp2_with fail;generalize (w.setCell ⟨N,n,none⟩ (.int .i64 1)).alloc (.cells #[.int .i64 kd,.slice a1 a.length u,.slice a2 cl.length y,.slice a3 pl.length A,.slice a4 ml.length B] 79)=w2 at*;clear p0 p1 p2 p3 p4 k0 k1 l0 l1 l2 l3 f2 f3 r0 r1 g9 h4 n8 n7 n5 n6 c1 c2 c3
 go_loopw [12] (fun Z wr=>∃(i:Nat) (v':Value) (I:List (ByteArray×ByteArray)),Z= .int .i64 (i:Nat)/\i<=a.length/\KpW iml.length w1 b (.slice (some ⟨gp,0,none⟩) iml.length cp) (.slice (some ⟨N,0,none⟩) iml.length cr) w w.heap.size kd (.slice a1 a.length u) (.slice a2 cl.length y) (.slice a3 pl.length A) (.slice a4 ml.length B) (rd++[n]) J v' I wr/\plain I=Tr.Bq (plain il) (Vj (a.take i))) (fun Z _=> a.length - (intOf Z).toNat)
 case atStart=> exact ⟨0,v,il,rfl,Nat.zero_le _,e7.out,rfl⟩
 case round=>
  obtain ⟨i,v',I,rfl,n9,p,X⟩:=hrel;have HW:=hid p;have a0:=hid X;obtain ⟨n0,n1,n2,n3,n4,-⟩:=p.nd.cells;by_cases s:i < a.length
  ·obtain ⟨g,k5,e,hc,-,hg,d0,d1⟩:=Ak.at (Aa O1.out p.li.bel (Nat.le_refl _)) i s;simp only [Value.slice.injEq,true_and] at e;obtain ⟨rfl,rfl⟩:=e;have O:I.length<=20000000:=by
    have h1:=Tr.Fy (Vj (a.take i)) (plain il);rw [<-X,Bn,Bn] at h1;have h2:=Al2 a i;have h3:=g7.out;omega
   have d:=p.below ((Below.refl _ wr).drew);have G:=Ig d.li.wf;obtain ⟨b3,R,e4⟩:=i3.out i s;have U:=hid R;obtain ⟨y0,y1,y2,y3,y4,y5⟩:=d.li.wk.cells;have b7:=hid (Qo b 3 v' I 1 (a[i]'s).1 (a[i]'s).2 wr.drew d.li.wk.lt ⟨y3,y5⟩ (Al d.li.it (Nat.zero_le _)) O G.1 G.2 (.inl rfl) e4);have k:Hid (∀r W',KmQ wr.drew b 3 I 1 (a[i]'s).1 (a[i]'s).2 r W'->r= .returned (.tuple #[])/\∃f5 a8,KpW iml.length w1 b (.slice (some ⟨gp,0,none⟩) iml.length cp) (.slice (some ⟨N,0,none⟩) iml.length cr) w w.heap.size kd (.slice (some ⟨g,0,none⟩) a.length u) (.slice a2 cl.length y) (.slice a3 pl.length A) (.slice a4 ml.length B) (rd++[n]) J f5 a8 W'/\plain a8=Tr.Bq (plain il) (Vj (a.take (i+1)))):=fun r W' hq=> by
    obtain ⟨e,f5,a8,h1,h2,h3⟩:=d.li.make b3 hq;exact ⟨e,f5,a8,d.next h1 h3,by rw [h2,X,Ai7 s,Tr.Lv]⟩
   have e9:(0:Int)<=(i:Int):=(by omega);have b1:(i:Int) < (a.length:Int):=(by omega);clear p X d G O b3 R e4 y0 y1 y2 y3 y4 y5;generalize a[i]'s=x at*;obtain ⟨kx,vx⟩:=x;simp only at d0 d1 b7 k U;go_wp2_with fail;refine (Ty lo hi kx wr).mono ?_;rintro r wr ⟨rfl,rfl⟩;rw [U.out];go_upto_region 11 with fail
   first | go_region_law (go_simp;go_at_call 15;refine b7.out.mono ?_;rintro r w5 c5;obtain ⟨rfl,v5,f6,C,h6⟩:=k.out r w5 c5;have H5:=hid C;have H6:=hid h6;clear c5 C h6) | fail
   all_goals
    go_wp2_with fail;exact ⟨⟨i+1,v5,f6,by go_num,by omega,H5.out,H6.out⟩,by simp [intOf];omega⟩
  ·have i6:i=a.length:=(by omega);subst i6;rw [List.take_length] at X;have a0:=hid X;clear p X;clear e7 i3;go_wp2_with fail
   go_loopw [14] (fun Z wq=>∃(j:Nat),Z= .int .i64 (j:Nat)/\j<=pl.length/\KpW iml.length w1 b (.slice (some ⟨gp,0,none⟩) iml.length cp) (.slice (some ⟨N,0,none⟩) iml.length cr) w w.heap.size kd (.slice a1 a.length u) (.slice a2 cl.length y) (.slice a3 pl.length A) (.slice a4 ml.length B) (rd++[n]) J v' I wq) (fun Z _=> pl.length - (intOf Z).toNat)
   case atStart=> exact ⟨0,rfl,Nat.zero_le _,HW.out⟩
   case round=>
    obtain ⟨j,rfl,o0,p⟩:=hrel;clear HW n0 n1 n2 n3 n4;have HW:=hid p;obtain ⟨n0,n1,n2,n3,n4,-⟩:=p.nd.cells;by_cases m:j < pl.length
    ·obtain ⟨g,k5,e,hc,-,hg,x3⟩:=Av.at (Aa O3.out p.li.bel (Nat.le_refl _)) j m;simp only [Value.slice.injEq,true_and] at e;obtain ⟨rfl,rfl⟩:=e;have U:=hid (i5.out j m);have e9:(0:Int)<=(j:Int):=(by omega);have b1:(j:Int) < (pl.length:Int):=(by omega);clear p;generalize pl[j]'m=kx at*;go_wp2_with fail;refine (Ty lo hi kx _).mono ?_;rintro r wr ⟨rfl,rfl⟩;rw [U.out];go_wp2_with fail;exact ⟨⟨j+1,by go_num,by omega,HW.out⟩,by simp [intOf];omega⟩
    ·have b1:¬(j:Int) < (pl.length:Int):=(by omega);rcases f4 with ⟨rfl,g4⟩ | ⟨p8,c9⟩
     ·obtain rfl:kd=1:=g4;obtain ⟨k6,k7⟩:=p.li.setFar (c:Int);obtain ⟨l0,l1,l2,l3,f2,f3⟩:=p.li.wk.cells;have HT:Hid (KPQ iml w1 b (.slice (some ⟨gp,0,none⟩) iml.length cp) (.slice (some ⟨N,0,none⟩) iml.length cr) rd il 0 f c w (.returned (.bool true)) (wr.setCell ⟨b,2,none⟩ (.int .i64 (c:Nat)))):=by
       refine ⟨rfl,p.mod.trans k7 (fun _ _ q=> q) (fun _ _ q=> q),v',I,?_,?_⟩
       ·have e:rd++Ld.nums 0 f=rd++[n]:=(by rw [<-c6.out];rfl);rw [e];exact k6
       ·rw [a0.out];show _=Tr.Bq (plain il) ((Ld.its (Ld.pg (Ag iml) (Ld.num 0 f))).map _);rw [c6.out,Ld.Ht e6.out];rfl
      have L:J < 0\/J=(c:Int):=b4.out;clear k6 k7 p HW;by_cases q7:J < 0
      ·clear L;go_wp2_with fail;go_ret;exact HT.out
      ·have s0:(J==(c:Int))=true:=(by rcases L with q | q;exact absurd q q7;simp [q]);clear L;go_wp2_with fail;go_ret;exact HT.out
     ·obtain rfl:kd=2:=c9;obtain ⟨o,rfl⟩:∃o,h=o+1:=⟨h - 1,by omega⟩;obtain ⟨Y,D⟩:=f;obtain ⟨o5,q1,q2,q3,f7⟩:=g6.out;obtain rfl:Y=n:=c6.out;have e:o5=((2,plain a,cl,lists pl,plainCh ml):Ld.Nd):=by
       have:=e6.out;rw [q1] at this;simpa using this
      subst e;have i7:=hid f7;rcases b6.out with ⟨g4,-⟩ | ⟨-,c9,l5,l6,l7,p9,q0,l8,l9⟩
      ·exact absurd (show (2:Int)=1 from g4) (by decide)
      have d6:a=[]:=by
       have C:plain a=[]:=c9;have:=congrArg List.length C;rw [Bn] at this;exact List.eq_nil_of_length_eq_zero (by simpa using this)
      have i8:Hid (plain I=plain il):=by
       show _=_;rw [a0.out,d6];rfl
      have d7:1<=cl.length/\cl.length<=4:=⟨l5,l6⟩;obtain ⟨r8,d7⟩:=d7;have i9:pl.length+1=cl.length:=(by have C:(lists pl).length+1=cl.length:=l7;unfold lists at C;rw [List.length_map] at C;exact C);have r2:pl.length < cl.length:=(by omega);have r3:cl.length<=pl.length+1:=(by omega);have r4:ml.length<=8:=(by have h8:(plainCh ml).length<=8:=l8;rw [Ao] at h8;exact h8);have m1:Hid (∀(i:Nat) (h:i < ml.length),Tr.Ew (chP (ml[i]'h).1 (ml[i]'h).2.1 (ml[i]'h).2.2)/\De lo.data.toList hi.data.toList (ml[i]'h).2.1.data.toList=true):=fun i h=> by
       have hm:((ml[i]'h).1,(ml[i]'h).2.1.data.toList,(ml[i]'h).2.2.data.toList)∈plainCh ml:=List.mem_map.2 ⟨ml[i]'h,List.getElem_mem h,rfl⟩;exact ⟨l9 _ hm,(Ov _ _ _).2 (i0.out.2.1 _ hm)⟩
      have j0:Hid ((Ld.Hg ((2,plain a,cl,lists pl,plainCh ml):Ld.Nd) lo.data.toList hi.data.toList).length=cl.length):=Ld.Rw b6.out _ _;have m2:D.length=cl.length:=(by rw [<-f7.len];exact j0.out);have r5:D.length<=cl.length:=(by omega);have r6:cl.length<=D.length:=(by omega);have j1:Hid (Ld.Ant J (c+1+o)):=by
       have:=b4.out;rw [show c+1+o=c+(o+1) by omega];exact this
      clear c9 l5 l6 l7 p9 q0 l8 l9 b6 i9 q1 q2 q3 f7 d6 m2 p e8 i5 O1 p8 g6 b4 c6 a0;go_wp2_with fail
      go_loopw [17] (fun Z wq=>∃(i:Nat) (H:Int) (v2:Value) (M:List (ByteArray×ByteArray)),Z= .int .i64 (i:Nat)/\i<=cl.length/\KpW iml.length w1 b (.slice (some ⟨gp,0,none⟩) iml.length cp) (.slice (some ⟨N,0,none⟩) iml.length cr) w w.heap.size 2 (.slice a1 a.length u) (.slice a2 cl.length y) (.slice a3 pl.length A) (.slice a4 ml.length B) (rd++[Y]++Ld.Bb o (D.take i)) H v2 M wq/\KdK (Ag iml) o c D (plain il) i H (plain M)) (fun Z _=> cl.length - (intOf Z).toNat)
      case atStart=> exact ⟨0,J,v',I,rfl,Nat.zero_le _,by simpa [Ld.Bb] using HW.out,⟨j1.out,fun q=> absurd q (by decide),i8.out⟩⟩
      case round=>
       obtain ⟨i,H,v2,M,rfl,n9,p,hK⟩:=hrel;clear HW i8 j1 n0 n1 n2 n3 n4;have HW:=hid p;have HK:=hid hK;obtain ⟨n0,n1,n2,n3,n4,-⟩:=p.nd.cells;have d8:=hK.len (Ct iml) i7.out (rd:=rd) (n:=Y) (by rw [Bn];exact g7.out);rw [Bn] at d8;have j2:(rd++[Y]++Ld.Bb o (D.take i)).length<=iml.length:=Ld.Ie p.li.rdn.1 p.li.rdn.2;have j3:rd.length+1<=(rd++[Y]++Ld.Bb o (D.take i)).length:=(by simp);by_cases s:i < cl.length
       ·obtain ⟨g2,s3,e2,s4,s5,y2⟩:=Apk (Aa O2.out p.li.bel (Nat.le_refl _)) i s;simp only [Value.slice.injEq,true_and] at e2;obtain ⟨rfl,rfl⟩:=e2;have b8:i < (Ec lo hi pl).length:=(by rw [Jj];omega);have V:i < D.length:=(by omega);have j4:i < (Ld.Hg ((2,plain a,cl,lists pl,plainCh ml):Ld.Nd) lo.data.toList hi.data.toList).length:=(by rw [j0.out];exact s);have j5:=Zj pl lo hi i b8;have d9:=Apl ((2,plain a,cl,lists pl,plainCh ml):Ld.Nd) (cl:=cl) rfl rfl lo hi i s b8 j4;obtain ⟨f8,f9⟩:=Aq1 i7.out i j4 V;rw [d9] at f8 f9;have j6:=hid (Aa O3.out p.li.bel (Nat.le_refl _));have f0:=Apm (i:=i+1) m0.out;rw [<-Ac4 V] at f0;have W:=g5.out o rfl (rd++[Y]++Ld.Bb o (D.take i)) H v2 M (D[i]'V) (c+1) ((Ec lo hi pl)[i]'b8).1 ((Ec lo hi pl)[i]'b8).2 wr p.li f9 f0 hK.far (by omega) (by omega);rw [f8] at W;have k:Hid (∀r W',KPQ iml w1 b (.slice (some ⟨gp,0,none⟩) iml.length cp) (.slice (some ⟨N,0,none⟩) iml.length cr) (rd++[Y]++Ld.Bb o (D.take i)) M o (D[i]'V) (c+1) wr r W'->r= .returned (.bool true)/\∃(a9:Int) (v3:Value) (l:List (ByteArray×ByteArray)),KpW iml.length w1 b (.slice (some ⟨gp,0,none⟩) iml.length cp) (.slice (some ⟨N,0,none⟩) iml.length cr) w w.heap.size 2 (.slice a1 a.length u) (.slice (some ⟨g2,0,none⟩) cl.length y) (.slice a3 pl.length A) (.slice a4 ml.length B) (rd++[Y]++Ld.Bb o (D.take (i+1))) a9 v3 l W'/\KdK (Ag iml) o c D (plain il) (i+1) a9 (plain l)):=by
         rintro r W' ⟨rfl,p6,v3,l,q1,q2⟩;rw [Ac4 V] at q1;exact ⟨rfl,_,v3,l,p.next q1 p6,hK.step V q2⟩
        have b9:=hid W;generalize D[i]'V=kf at*;generalize cl[i]'s=cd at*;generalize (Ec lo hi pl)[i]'b8=bd at*;obtain ⟨f,t⟩:=bd;simp only [Prod.mk.injEq] at j5;simp only at b9;obtain ⟨hf,ht⟩:=j5;have HF:=hid hf;have j7:=hid ht;have e9:(0:Int)<=(i:Int):=(by omega);have b1:(i:Int) < (cl.length:Int):=(by omega);have s1:IntKind.i64.wrap ((c:Int)+1)=((c+1:Nat):Int):=(by rw [IntKind.wrap_i64];omega);clear p hK hf ht d9 W f8 f9 f0;go_upto_if 143 with fail
        go_cut [18] (fun q5 wx=> q5= .string f/\wx=wr)
        case first=>
         by_cases h0:0 < i
         ·have hj:i - 1 < pl.length:=(by omega);obtain ⟨g3,o6,e3,o7,-,o8,x3⟩:=Av.at j6.out (i - 1) hj;simp only [Value.slice.injEq,true_and] at e3;obtain ⟨rfl,rfl⟩:=e3;have c0:f=pl[i - 1]'hj:=(by have:=HF.out;rw [dif_pos h0] at this;exact this);rw [<-c0] at x3;clear c0;have s2:IntKind.i64.wrap ((i:Int) - 1)=((i - 1:Nat):Int):=(by rw [IntKind.wrap_i64];omega);go_wp2_with fail;go_meet;exact ⟨rfl,rfl⟩
         ·have c0:f=lo:=(by have:=HF.out;rw [dif_neg h0] at this;exact this);have m3:=hid c0;clear c0;go_wp2_with fail;go_meet;exact ⟨by rw [m3.out],rfl⟩
        case rest=>
         obtain ⟨o9,g0⟩:=hcut;subst o9 g0;go_upto_if 154 with fail
         go_cut [19] (fun q6 wx=> q6= .string t/\wx=wc)
         case first=>
          by_cases h0:i < pl.length
          ·obtain ⟨g3,o6,e3,o7,-,o8,x3⟩:=Av.at j6.out i h0;simp only [Value.slice.injEq,true_and] at e3;obtain ⟨rfl,rfl⟩:=e3;have c4:t=pl[i]'h0:=(by have:=j7.out;rw [dif_pos h0] at this;exact this);rw [<-c4] at x3;clear c4;have m4:(i:Int) < (pl.length:Int):=(by omega);go_wp2_with fail;go_meet;exact ⟨rfl,rfl⟩
          ·have c4:t=hi:=(by have:=j7.out;rw [dif_neg h0] at this;exact this);have m5:=hid c4;clear c4;have m4:¬(i:Int) < (pl.length:Int):=(by omega);go_wp2_with fail;go_meet;exact ⟨by rw [m5.out],rfl⟩
         case rest=>
          obtain ⟨p5,g0⟩:=hcut;subst p5 g0;go_wp2_with fail;refine b9.out.mono ?_;rintro r w4 hq;obtain ⟨rfl,a9,v3,l,k8,k9⟩:=k.out r w4 hq;have m6:=hid k8;have m7:=hid k9;clear k8 k9 hq;go_wp2_with fail;exact ⟨⟨i+1,a9,v3,l,by go_num,by omega,m6.out,m7.out⟩,by simp [intOf];omega⟩
       ·have i6:i=cl.length:=(by omega);have b1:¬(i:Int) < (cl.length:Int):=(by omega);have j8:D.take i=D:=List.take_of_length_le (by omega);have m8:Hid (H=((c+1+o:Nat):Int)):=hK.pos (by omega);have j9:=hid hK.ls;rw [j8] at d8 j2 j3 HW j9;clear p hK HK j8 g5;go_wp2_with fail
        go_loopw [21] (fun Z wq=>∃(j:Nat) (v3:Value) (l:List (ByteArray×ByteArray)),Z= .int .i64 (j:Nat)/\j<=ml.length/\KpW iml.length w1 b (.slice (some ⟨gp,0,none⟩) iml.length cp) (.slice (some ⟨N,0,none⟩) iml.length cr) w w.heap.size 2 (.slice a1 a.length u) (.slice a2 cl.length y) (.slice a3 pl.length A) (.slice a4 ml.length B) (rd++[Y]++Ld.Bb o D) H v3 l wq/\plain l=Tr.Bq (plain M) (plainCh (ml.take j))) (fun Z _=> ml.length - (intOf Z).toNat)
        case atStart=> exact ⟨0,v2,M,rfl,Nat.zero_le _,HW.out,rfl⟩
        case round=>
         clear n0 n1 n2 n3 n4;obtain ⟨j,v3,l,rfl,o0,S,T⟩:=hrel;have e7:=hid S;obtain ⟨n0,n1,n2,n3,n4,-⟩:=S.nd.cells;by_cases m:j < ml.length
         ·obtain ⟨g,k5,e,hc,-,hg,d0,d1,d2⟩:=Au.at (Aa O4.out S.li.bel (Nat.le_refl _)) j m;simp only [Value.slice.injEq,true_and] at e;obtain ⟨rfl,rfl⟩:=e;have O:l.length<=20000000:=by
           have h1:=Tr.Fy (plainCh (ml.take j)) (plain M);rw [<-T,Bn,Bn,Ao,List.length_take] at h1;omega
          have d:=S.below ((Below.refl _ wr).drew);have G:=Ig d.li.wf;obtain ⟨y0,y1,y2,y3,y4,y5⟩:=d.li.wk.cells;obtain ⟨b3,R⟩:=m1.out j m;have U:=hid R;have f1:=Aj8 b3;have b7:=hid (Qo b 3 v3 l (ml[j]'m).1 (ml[j]'m).2.1 (ml[j]'m).2.2 wr.drew d.li.wk.lt ⟨y3,y5⟩ (Al d.li.it (Nat.zero_le _)) O G.1 G.2 f1.1 f1.2);have k:Hid (∀r W',KmQ wr.drew b 3 l (ml[j]'m).1 (ml[j]'m).2.1 (ml[j]'m).2.2 r W'->r= .returned (.tuple #[])/\∃v4 c8,KpW iml.length w1 b (.slice (some ⟨gp,0,none⟩) iml.length cp) (.slice (some ⟨N,0,none⟩) iml.length cr) w w.heap.size 2 (.slice a1 a.length u) (.slice a2 cl.length y) (.slice a3 pl.length A) (.slice (some ⟨g,0,none⟩) ml.length B) (rd++[Y]++Ld.Bb o D) H v4 c8 W'/\plain c8=Tr.Bq (plain M) (plainCh (ml.take (j+1)))):=fun r W' hq=> by
           obtain ⟨e,v4,c8,h1,h2,h3⟩:=d.li.make b3 hq;exact ⟨e,v4,c8,d.next h1 h3,by rw [h2,T,Ao1 m,Tr.Lv]⟩
          have e9:(0:Int)<=(j:Int):=(by omega);have b1:(j:Int) < (ml.length:Int):=(by omega);clear S T G O d b3 R f1 y0 y1 y2 y3 y4 y5;generalize ml[j]'m=x at*;obtain ⟨ck,kx,vx⟩:=x;simp only at d0 d1 d2 b7 k U;go_wp2_with fail;refine (Ty lo hi kx wr).mono ?_;rintro r wr ⟨rfl,rfl⟩;rw [U.out];go_upto_region 40 with fail
          first | go_region_law (go_simp;go_at_call 15;refine b7.out.mono ?_;rintro r w5 c5;obtain ⟨rfl,v5,f6,C,h6⟩:=k.out r w5 c5;have H5:=hid C;have H6:=hid h6;clear c5 C h6) | fail
          all_goals
           go_wp2_with fail;exact ⟨⟨j+1,v5,f6,by go_num,by omega,H5.out,H6.out⟩,by simp [intOf];omega⟩
         ·have m9:j=ml.length:=(by omega);have HE:Hid (KPQ iml w1 b (.slice (some ⟨gp,0,none⟩) iml.length cp) (.slice (some ⟨N,0,none⟩) iml.length cr) rd il (o+1) (Y,D) c w (.returned (.bool true)) wr):=by
           have R:=S.li;rw [m8.out] at R;refine ⟨rfl,S.mod,v3,l,?_,?_⟩
           ·have e1:rd++Ld.nums (o+1) (Y,D)=rd++[Y]++Ld.Bb o D:=by
             show rd++(Y::Ld.Bb o D)=_;simp
            rw [e1,show c+(o+1)=c+1+o by omega];exact R
           ·rw [T,m9,List.take_length,j9.out,<-Ld.Ob];show _=Tr.Bq (plain il) ((D.map (Ld.eff (Ag iml) o)).flatten++Ld.chs (Ld.pg (Ag iml) Y));rw [Ld.Ht e6.out];rfl
          clear S T;have b1:¬(j:Int) < (ml.length:Int):=(by omega);go_wp2_with fail;go_ret;exact HE.out
theorem Ua (iml:List ByteArray) (i:iml.length<=1200000) (d:World) (b:Nat) (vp g:Value) (f:List NdM) (a:f.length=iml.length) (c:Akw iml vp f d):∀h:Nat,Ao2 iml d b vp g h
 | 0=> Zz iml i d b vp g f a c 0 fun _ e=> by cases e
 | h+1=> Zz iml i d b vp g f a c (h+1) fun j e=> by cases e;exact Ua iml i d b vp g f a c h
def pk (c:Int) (n:Nat):Nat:=(if c < 0 then -(c+1) else c).toNat % n
theorem Si (c:Int) (n:Nat) (h:0 < n):pk c n < n:=Nat.mod_lt _ h
set_option maxHeartbeats 1000000 in
theorem Em (c:Int) (n:Nat) (w:World) (i: -9223372036854775808<=c) (j:c<=9223372036854775807) (k:0 < n) (g:n<=4294967296):
  Calls Tryz.prog 16 #[.int .i64 c,.int .i64 n] w fun r w'=> r= .returned (.int .i64 (pk c n))/\w'=w:=by
 go_enter Tryz.func16,Tryz.ntmps16;by_cases d:c < 0
 ·have a:Hid ((pk c n:Int)=(-(c+1)) % (n:Int)):=by
   show _=_;unfold pk;rw [if_pos d];rw [Int.natCast_emod,Int.toNat_of_nonneg (by omega)]
  have f:(-(c+1)).tmod (n:Int)=(-(c+1)) % (n:Int):=Int.tmod_eq_emod_of_nonneg (by omega);have b:¬(n:Int)=0:=by omega
  go_wp2_with fail;go_ret;exact ⟨Lj (by rw [a.out]),rfl⟩
 ·have a:Hid ((pk c n:Int)=c % (n:Int)):=by
   show _=_;unfold pk;rw [if_neg d];rw [Int.natCast_emod,Int.toNat_of_nonneg (by omega)]
  have f:c.tmod (n:Int)=c % (n:Int):=Int.tmod_eq_emod_of_nonneg (by omega);have b:¬(n:Int)=0:=by omega
  go_wp2_with fail;go_ret;exact ⟨Lj (by rw [a.out]),rfl⟩
theorem Ag3 (p:Int) (a:0<=p) (b:p < 256):((UInt8.ofNat p.toNat).toNat:Int)=p:=by rw [UInt8.toNat_ofNat'];omega
theorem Ara (w:World) (p q:Int) (b:0<=p) (c:p < 256) (d:0<=q) (f:q < 256):∃s:ByteArray,s.size=2/\(convert 108 9 (.slice (some ⟨w.heap.size,0,none⟩) 2 2)).run Tryz.prog (w.alloc (.cells #[.int .u8 p,.int .u8 q] 5))= .ok (.string s) (w.alloc (.cells #[.int .u8 p,.int .u8 q] 5)):=by
 refine ⟨⟨#[UInt8.ofNat p.toNat,UInt8.ofNat q.toNat]⟩,rfl,?_⟩;have e:=heap_alloc_new w (.cells #[.int .u8 p,.int .u8 q] 5);refine run_convert_bytes_back (P:=Tryz.prog) _ 108 9 5 ⟨w.heap.size,0,none⟩ 2 [UInt8.ofNat p.toNat,UInt8.ofNat q.toNat] Tryz.underlying108 Tryz.underlying5 Tryz.underlying9 (fun j a=> ?_);rw [Dm]
 match j,a with
 | 0,_=> unfold World.cell?;rw [e];show some (Value.int .u8 p)=some (Value.int .u8 ((UInt8.ofNat p.toNat).toNat:Int));rw [Ag3 p b c]
 | 1,_=> unfold World.cell?;rw [e];show some (Value.int .u8 q)=some (Value.int .u8 ((UInt8.ofNat q.toNat).toNat:Int));rw [Ag3 q d f]
theorem Arb (w:World) (p:Int) (b:0<=p) (c:p < 256):∃s:ByteArray,s.size=1/\(convert 108 9 (.slice (some ⟨w.heap.size,0,none⟩) 1 1)).run Tryz.prog (w.alloc (.cells #[.int .u8 p] 5))= .ok (.string s) (w.alloc (.cells #[.int .u8 p] 5)):=by
 refine ⟨⟨#[UInt8.ofNat p.toNat]⟩,rfl,?_⟩;have e:=heap_alloc_new w (.cells #[.int .u8 p] 5);refine run_convert_bytes_back (P:=Tryz.prog) _ 108 9 5 ⟨w.heap.size,0,none⟩ 1 [UInt8.ofNat p.toNat] Tryz.underlying108 Tryz.underlying5 Tryz.underlying9 (fun j a=> ?_);rw [Dm]
 match j,a with
 | 0,_=> unfold World.cell?;rw [e];show some (Value.int .u8 p)=some (Value.int .u8 ((UInt8.ofNat p.toNat).toNat:Int));rw [Ag3 p b c]
set_option maxHeartbeats 1000000 in
set_option maxRecDepth 20000 in
theorem Al4 (c:Int) (w:World) (t: -9223372036854775808<=c) (u:c<=9223372036854775807):
  Calls Tryz.prog 32 #[.int .i64 c] w fun r w'=> (∃s:ByteArray,r= .returned (.string s)/\1<=s.size/\s.size<=12)/\Below w.heap.size w w':=by
 have j:=hid (Em c 150 w t u (by decide) (by decide));have y:=Si c 150 (by decide);generalize pk c 150=n at*;go_enter Tryz.func32,Tryz.ntmps32;go_wp2_with fail;refine j.out.mono ?_;rintro r g ⟨rfl,rfl⟩;have z:(n:Int).tmod 5=((n % 5:Nat):Int):=by rw [Int.tmod_eq_emod_of_nonneg (by omega)];omega
 have A:(n:Int).tdiv 5=((n / 5:Nat):Int):=by rw [Int.tdiv_eq_ediv_of_nonneg (by omega)];omega
 have B:((n / 5:Nat):Int).tmod 6=((n / 5 % 6:Nat):Int):=by rw [Int.tmod_eq_emod_of_nonneg (by omega)];omega
 have l:(n:Int).tdiv 30=((n / 30:Nat):Int):=by rw [Int.tdiv_eq_ediv_of_nonneg (by omega)];omega
 have C:n % 5 < 5:=by omega
 have D:n / 5 % 6 < 6:=by omega
 generalize n % 5=x at*;have i:(0:Int)<=97+(n:Int) / 5 % 6/\(97:Int)+(n:Int) / 5 % 6 < 256:=by omega
 obtain ⟨s,J,o⟩:=Ara g (97+(x:Int)) (97+(n:Int) / 5 % 6) (by omega) (by omega) i.1 i.2;have a:=hid ((Below.refl g.heap.size g).alloc (Nat.le_refl _) (.cells #[.int .u8 (97+(x:Int)),.int .u8 (97+(n:Int) / 5 % 6)] 5));by_cases q:30<=n
 ·have b:(30:Int)<=(n:Int):=by omega
  have key:∀(k:ByteArray),k.size<=10->∀w,(Op.stringOp .add s k).run Tryz.prog w= .ok (.string (s++k)) w:=fun k p w=> run_string_add_sum w _ _ (by omega)
  have d:∀(k:ByteArray),k.size<=10->1<=(s++k).size/\(s++k).size<=12:=fun k p=> by rw [ByteArray.size_append];omega
  obtain h | h | h | h:n / 30=1\/n / 30=2\/n / 30=3\/n / 30=4:=by omega
  all_goals
   have m:(n:Int) / 30=((n / 30:Nat):Int):=(by omega);rw [h] at m l;have F:=key ⟨#[98,99,100,101,102,103,104,105,106,107]⟩ (by decide);have G:=key ⟨#[0]⟩ (by decide);have H:=key ⟨#[120,120]⟩ (by decide);have I:=key ⟨#[120,121]⟩ (by decide);have f:=hid d;clear key d h;go_wp2_with fail;go_ret;refine ⟨⟨_,rfl,?_⟩,a.out.alloc (by simp) _⟩;exact f.out _ (by decide)
 ·have b:¬(30:Int)<=(n:Int):=by omega
  go_wp2_with fail;go_ret;exact ⟨⟨s,rfl,by omega,by omega⟩,a.out⟩
set_option maxHeartbeats 1000000 in
set_option maxRecDepth 20000 in
theorem Vk (c:Int) (w:World) (J: -9223372036854775808<=c) (L:c<=9223372036854775807):
  Calls Tryz.prog 33 #[.int .i64 c] w fun r w'=> (∃s:ByteArray,r= .returned (.string s)/\s.size<=16)/\Below w.heap.size w w':=by
 have M:=Si c 17 (by decide);have j: -9223372036854775808<=c.tdiv 17/\c.tdiv 17<=9223372036854775807:=by
  by_cases H:0<=c
  ·rw [Int.tdiv_eq_ediv_of_nonneg H];omega
  ·have e:c.tdiv 17= -((-c).tdiv 17):=(by rw [Int.neg_tdiv];omega);rw [e,Int.tdiv_eq_ediv_of_nonneg (by omega)];omega
 have m:=Si (c.tdiv 17) 3 (by decide);go_enter Tryz.func33,Tryz.ntmps33;go_wp2_with fail
 go_loopw [3,4] (fun s i wr=>∃(k:Nat) (a:ByteArray),k<=17/\i= .int .i64 k/\s= .string a/\a.size<=k/\k<=pk c 17/\Below w.heap.size w wr) (fun _ i _=> 17 - (intOf i).toNat)
 case atStart=> exact ⟨0,⟨#[]⟩,by omega,rfl,rfl,Nat.le_refl 0,by omega,Below.refl _ _⟩
 case round=>
  obtain ⟨k,a,B,rfl,rfl,C,D,g⟩:=hrel;have l:=hid g;have n:=g.size;clear g;have o:=hid (Em c 17 wr J L (by decide) (by decide));have t:=hid (Em (c.tdiv 17) 3 wr j.1 j.2 (by decide) (by decide));generalize pk c 17=p at*;generalize pk (c.tdiv 17) 3=q at*;go_wp2_with fail;refine o.out.mono ?_;rintro r T ⟨rfl,rfl⟩;by_cases I:k < p
  ·have u:(k:Int) < (p:Int):=(by omega);go_wp2_with fail;refine t.out.mono ?_;rintro r G ⟨rfl,rfl⟩;have N:q*k<=2*17:=Nat.mul_le_mul (by omega) B;have d:(0:Int)<=(q:Int)*(k:Int):=(by rw [<-Int.natCast_mul];omega);have y:(q:Int)*(k:Int)<=34:=(by rw [<-Int.natCast_mul];omega);have O:((q:Int)*(k:Int)).tmod 7=(q:Int)*(k:Int) % 7:=Int.tmod_eq_emod_of_nonneg d;have z:(0:Int)<=97+(q:Int)*(k:Int) % 7:=(by omega);have A:(97:Int)+(q:Int)*(k:Int) % 7 < 256:=(by omega);obtain ⟨s,S,F⟩:=Arb G (97+(q:Int)*(k:Int) % 7) z A;have f:=hid (l.out.alloc (by omega) (.cells #[.int .u8 (97+(q:Int)*(k:Int) % 7)] 5));have R:∀w,(Op.stringOp .add a s).run Tryz.prog w= .ok (.string (a++s)) w:=fun w=> run_string_add_sum w _ _ (by omega)
   have b:(a++s).size<=k+1:=(by rw [ByteArray.size_append];omega);go_wp2_with fail
   go_roundw
   case rel=> exact ⟨k+1,_,by omega,by go_num,rfl,b,by omega,f.out⟩
   case measure=> simp [intOf];omega
  ·have u:¬(k:Int) < (p:Int):=(by omega);go_wp2_with fail;go_ret;exact ⟨⟨a,rfl,by omega⟩,l.out⟩
theorem Dk {W:World} {b:Nat} {a v1 v2:Value} (h:W.heap[b]?=some (.cells #[a,v1,v2] 34 (0,0))):W.cell? ⟨b,0,none⟩=some a/\W.cell? ⟨b,1,none⟩=some v1/\W.cell? ⟨b,2,none⟩=some v2/\W.frozen? ⟨b,0,none⟩=false/\W.frozen? ⟨b,1,none⟩=false/\W.frozen? ⟨b,2,none⟩=false:=by
 refine ⟨?_,?_,?_,?_,?_,?_⟩ <;> simp [World.cell?,World.frozen?,h]
set_option maxHeartbeats 1000000 in
theorem Sj (a b c:Int) (w:World) (a1: -9223372036854775808<=a) (a2:a<=9223372036854775807) (b1: -9223372036854775808<=b) (b2:b<=9223372036854775807) (c1: -9223372036854775808<=c) (c2:c<=9223372036854775807):
  Calls Tryz.prog 13 #[.int .i64 a,.int .i64 b,.int .i64 c] w fun r w'=> (∃(k:Int) (s v:ByteArray),r= .returned (.agg #[.int .i64 k,.string s,.string v])/\Pg.Ax (k,s.data.toList,v.data.toList)=true)/\Below w.heap.size w w':=by
 have u:=hid ((Below.refl w.heap.size w).alloc (Nat.le_refl _) (.cells #[.int .i64 0,.string ⟨#[]⟩,.string ⟨#[]⟩] 34));have G:w.heap.size < (w.alloc (.cells #[.int .i64 0,.string ⟨#[]⟩,.string ⟨#[]⟩] 34)).heap.size:=by simp
 have y:Hid ((w.alloc (.cells #[.int .i64 0,.string ⟨#[]⟩,.string ⟨#[]⟩] 34)).heap[w.heap.size]?=some (.cells #[.int .i64 0,.string ⟨#[]⟩,.string ⟨#[]⟩] 34 (0,0))):=heap_alloc_new _ _;have hk:=Si a 3 (by decide);go_enter Tryz.func13,Tryz.ntmps13;go_wp2_with fail;generalize w.alloc (.cells #[.int .i64 0,.string ⟨#[]⟩,.string ⟨#[]⟩] 34)=w0 at*;refine (Em a 3 _ a1 a2 (by decide) (by decide)).mono ?_;rintro r w1 ⟨rfl,rfl⟩;generalize pk a 3=p at*;go_wp2_with fail;refine (Al4 b _ b1 b2).mono ?_;rintro r f ⟨⟨s,rfl,Y,Z⟩,l⟩;have z:=hid (u.out.trans (l.mono (by omega)));have A:=hid ((l.block w.heap.size G).trans y.out);have a0:=l.size;obtain ⟨d,D⟩:∃d:Int,d=1+(p:Int):=⟨_,rfl⟩;rw [<-D];have a3:1<=d/\d<=3:=by omega
 clear D hk;have n:=hid (z.out.alloc (by omega) (.cells #[.int .i64 d,.string s,.string ⟨#[]⟩] 34));have g:=hid ((Below.heap_alloc f (.cells #[.int .i64 d,.string s,.string ⟨#[]⟩] 34) w.heap.size (by omega)).trans A.out);have j:Hid ((f.alloc (.cells #[.int .i64 d,.string s,.string ⟨#[]⟩] 34)).heap[f.heap.size]?=some (.cells #[.int .i64 d,.string s,.string ⟨#[]⟩] 34 (0,0))):=heap_alloc_new _ _;have H:f.heap.size < (f.alloc (.cells #[.int .i64 d,.string s,.string ⟨#[]⟩] 34)).heap.size:=by simp
 have HQ:Hid (∀v:ByteArray,v.size<=16->(d=2->v.size=0)->Pg.Ax (d,s.data.toList,v.data.toList)=true):=fun v h1 h2=> by
  simp only [Pg.Ax,Pg.Bt,Pg.Ei,Bool.and_eq_true,Bool.or_eq_true,decide_eq_true_eq,len_size];refine ⟨⟨⟨Y,Z⟩,h1⟩,?_⟩;by_cases F:d=2
  ·exact .inr ⟨by omega,h2 F⟩
  ·left;omega
 clear l u y z A;by_cases F:d=2
 ·have o:=hid (HQ.out ⟨#[]⟩ (by decide) (fun _=> rfl));obtain ⟨n0,n1,n2,y0,y1,y2⟩:=Dk g.out;obtain ⟨N,O,R,S,T,U⟩:=Dk j.out;subst F;have q:=hid (Ad (i:=2) (Ad (i:=1) (Ad (i:=0) g.out (.int .i64 2)) (.string s)) (.string ⟨#[]⟩));have t:=hid (((n.out.setCell (p:=⟨w.heap.size,0,none⟩) (Nat.le_refl _) (.int .i64 2)).setCell (p:=⟨w.heap.size,1,none⟩) (Nat.le_refl _) (.string s)).setCell (p:=⟨w.heap.size,2,none⟩) (Nat.le_refl _) (.string ⟨#[]⟩));go_wp2_with fail;refine bodyPost_ret (v:= .agg #[.int .i64 2,.string s,.string ⟨#[]⟩]) ?_ rfl ⟨⟨2,s,⟨#[]⟩,rfl,o.out⟩,t.out⟩;obtain ⟨V,W,X,-⟩:=Dk q.out;simp [results,Tryz.results13,go_sem,V,W,X]
 ·obtain ⟨N,O,R,S,T,U⟩:=Dk j.out;go_wp2_with fail;generalize f.alloc (.cells #[.int .i64 d,.string s,.string ⟨#[]⟩] 34)=w3 at*;refine (Vk c _ c1 c2).mono ?_;rintro r w4 ⟨⟨v,rfl,hv⟩,m⟩;have o:=hid (HQ.out v hv (fun e=> absurd e F));have B:=hid ((m.block f.heap.size H).trans j.out);have I:=hid ((m.block w.heap.size (by omega)).trans g.out);have J:=hid (n.out.trans (m.mono (by omega)));clear m n g j N O R S T U;obtain ⟨N,O,R,S,T,U⟩:=Dk B.out;have L:=hid (Ad (i:=2) B.out (.string v));have C:=hid ((Below.heap_setCell w4 ⟨f.heap.size,2,none⟩ (.string v) w.heap.size (by simp;omega)).trans I.out);have M:=hid (J.out.setCell (p:=⟨f.heap.size,2,none⟩) (by show w.heap.size<=f.heap.size;omega) (.string v));obtain ⟨n0,n1,n2,y0,y1,y2⟩:=Dk C.out;obtain ⟨a4,a5,a6,-,-,-⟩:=Dk L.out;have q:=hid (Ad (i:=2) (Ad (i:=1) (Ad (i:=0) C.out (.int .i64 d)) (.string s)) (.string v));have t:=hid (((M.out.setCell (p:=⟨w.heap.size,0,none⟩) (Nat.le_refl _) (.int .i64 d)).setCell (p:=⟨w.heap.size,1,none⟩) (Nat.le_refl _) (.string s)).setCell (p:=⟨w.heap.size,2,none⟩) (Nat.le_refl _) (.string v));go_wp2_with fail;refine bodyPost_ret (v:= .agg #[.int .i64 d,.string s,.string v]) ?_ rfl ⟨⟨d,s,v,rfl,o.out⟩,t.out⟩;obtain ⟨V,W,X,-⟩:=Dk q.out;simp [results,Tryz.results13,go_sem,V,W,X]
end Go.Proofs.YtolgpnaoaodepaaGreat
