import Derived.Test.YtolgpnaoaodepaaGreatTreEm
import Derived.Test.YtolgpnaoaodepaaGreatTreZGm
namespace Go.Proofs.YtolgpnaoaodepaaGreat
open Go.RowKit
theorem run_rows (w:World) (t o e:TypeId) (y:Tryz.prog.underlying t=some (.slice e)) (z:Value) (size a:Nat) (b:(Tryz.prog.info? e).map (fun i=> (i.zero,i.size,i.bytes))=some (some z,size,a)) (p:z.cells.size=size) (q:0 < size) (r:a≤1000)
  (v u:Value) (n m:Nat) (xs d:List Value) (s:w.ownsRow 0 e size v n xs) (f:w.ownsRow 0 e size u m d) (J:∀x∈d,x.oneCell'=true) (K:n+m≤1000000000):
  ∃c w',(Builtin.append_ #[t,t] o #[v,u]).run Tryz.prog w= .ok c w'∧w'.ownsRow 0 e size c (n+m) (xs++d)∧w.grownBy w' v.ownBlock∧(c.ownBlock=v.ownBlock∨c.ownBlock=some w.heap.size):=by
 obtain ⟨i,hi,h,j,k⟩:=info_parts b
 rcases f.2 with ⟨rfl,rfl⟩ | ⟨g,l,F,rfl,G,L,M,N,H,I⟩
 ·have A:d=[]:=List.eq_nil_of_length_eq_zero (by rw [f.1,Nat.zero_mul])
  subst A
  refine ⟨v,w,run_append_owned_none w 0 t o e i size y hi v n xs s,?_,⟨rfl,rfl,rfl,Nat.le_refl _,fun _ _ _=> rfl⟩,.inl rfl⟩
  rw [Nat.add_zero,List.append_nil];exact s
 ·obtain ⟨c,w',B,C,D,_,E⟩:=run_append_own_at w 0 t o e i z size a y hi h j k p q v n xs s ⟨g,0,none⟩ m l d f.1 (f.cells rfl) J (by unfold maxLen;omega) (by have:(n+m)*a≤1000000000*1000:=Nat.mul_le_mul K r;omega) (Nat.zero_le _)
  exact ⟨c,w',B,C,D,E⟩
end Go.Proofs.YtolgpnaoaodepaaGreat
namespace Go.Proofs.YtolgpnaoaodepaaGreat
open Go.RowKit
set_option maxHeartbeats 400000 in
set_option maxRecDepth 20000 in
theorem joinNeg_any (p:Nat) (w:World):
  Calls Tryz.prog 174 #[.pointer (some ⟨p,0,none⟩),.int .i64 (-1)] w fun r w'=> r= .returned (.bool false)∧Below w.heap.size w w':=by
 go_enter Tryz.func174,Tryz.ntmps174
 go_wp2_with fail
 go_ret
 exact ⟨rfl,Below.refl _ _⟩
set_option maxHeartbeats 400000 in
set_option maxRecDepth 20000 in
theorem joinEnd_any (p:Nat) (d vc:Value) (a:Option Addr) (n c i:Nat) (w:World) (b:NodT w p d (.slice a n c) vc) (hi:n≤i+1) (k:i≤20000000):
  Calls Tryz.prog 174 #[.pointer (some ⟨p,0,none⟩),.int .i64 (i:Nat)] w fun r w'=> r= .returned (.bool false)∧Below w.heap.size w w':=by
 obtain ⟨g,h,j,-⟩:=b.cells
 have e:decide ((i:Int) < 0)=false:=decide_eq_false (by omega)
 have f:decide ((n:Int)≤(i:Int)+1)=true:=decide_eq_true (by omega)
 clear b
 go_enter Tryz.func174,Tryz.ntmps174
 go_wp2_with fail
 go_ret
 exact ⟨rfl,Below.refl _ _⟩
set_option maxHeartbeats 400000 in
set_option maxRecDepth 20000 in
theorem joinBig_any (p:Nat) (V vp vc:Value) (pl:List (ByteArray×Nat)) (i:Nat) (f h n j k o:Value) (v x y z:Option Addr) (a b c d A B C D:Nat) (w:World) (E:NodT w p V vp vc) (s:OwnsP 0 w vp pl) (hi:i+1 < pl.length) (hl:pl.length≤20000000)
  (F:NodT w (pl[i]'(by omega)).2 f h n) (G:NodT w (pl[i+1]'hi).2 j k o) (H:f= .slice v a A) (I:h= .slice x b B) (J:j= .slice y c C) (K:k= .slice z d D) (L:a≤20000000) (M:b≤20000000) (N:c≤20000000) (O:d≤20000000) (P:¬(a+c≤12∧b+d≤3)):
  Calls Tryz.prog 174 #[.pointer (some ⟨p,0,none⟩),.int .i64 (i:Nat)] w fun r w'=> r= .returned (.bool false)∧Below w.heap.size w w':=by
 obtain ⟨n0,R,S,-⟩:=E.cells
 obtain ⟨g,T,rfl,hc,-,hg,x0,x1⟩:=s.at i (by omega)
 obtain ⟨g',t,e,-,-,-,y0,y1⟩:=s.at (i+1) hi
 simp only [Value.slice.injEq,Option.some.injEq,Addr.mk.injEq,and_true,true_and] at e
 obtain ⟨rfl,rfl⟩:=e
 have Q:=hid (fun W (u:W.heap=w.heap)=> areSmall_any _ _ f h n j k o v x y z a b c d A B C D W (show NodT W _ f h n by unfold NodT;rw [u];exact F) (show NodT W _ j k o by unfold NodT;rw [u];exact G) H I J K L M N O)
 have l:Hid ((decide (a+c≤12)&&decide (b+d≤3))=false):=by
  show _=_
  by_cases q:a+c≤12
  ·have:¬b+d≤3:=fun U=> P ⟨q,U⟩
   simp [this]
  ·simp [q]
 generalize (pl[i]'(by omega)).2=pa at*
 generalize (pl[i+1]'hi).2=pb at*
 have X:decide ((i:Int) < 0)=false:=decide_eq_false (by omega)
 have Y:decide ((pl.length:Int)≤(i:Int)+1)=false:=decide_eq_false (by omega)
 have Z:¬((pl.length:Int)≤(i:Int)+1):=by omega
 have q4:i < pl.length:=by omega
 have q5:(i:Int)+1 < (pl.length:Int):=by omega
 clear E s F G H I J K L M N O P
 go_enter Tryz.func174,Tryz.ntmps174
 go_upto_region 3 with fail
 go_quiet (fail)
 go_wp2_with fail
 refine (Q.out (w.drewN nq) rfl).mono ?_
 rintro r w1 ⟨rfl,m⟩
 rw [l.out]
 go_wp2_with fail
 go_ret
 exact ⟨rfl,(below_drewN (Below.refl _ w) nq).trans m⟩
set_option maxHeartbeats 1000000 in
set_option maxRecDepth 20000 in
theorem joinL_any (p:Nat) (U vp vc:Value) (pl:List (ByteArray×Nat)) (i:Nat) (ai bi:Value) (b c:List (ByteArray×ByteArray)) (w:World) (hn:NodT w p U vp vc) (hp:OwnsP 0 w vp pl) (hi:i+1 < pl.length) (hl:pl.length≤20000000)
  (ha:NodT w (pl[i]'(by omega)).2 ai (.slice none 0 0) (.slice none 0 0)) (hb:NodT w (pl[i+1]'hi).2 bi (.slice none 0 0) (.slice none 0 0)) (R:OwnsI 0 w ai b) (S:OwnsI 0 w bi c) (hs:b.length+c.length≤12) (b8:(pl[i]'(by omega)).2≠p):
  Calls Tryz.prog 174 #[.pointer (some ⟨p,0,none⟩),.int .i64 (i:Nat)] w fun r w'=> r= .returned (.bool true)∧∃E d,NodT w' p U d vc∧OwnsP 0 w' d (pl.take (i+1)++pl.drop (i+2))∧d.ownBlock=vp.ownBlock∧NodT w' (pl[i]'(by omega)).2 E (.slice none 0 0) (.slice none 0 0)∧OwnsI 0 w' E (b++c)∧Mod (fun g=> g=p∨vp.ownBlock=some g∨g=(pl[i]'(by omega)).2∨ai.ownBlock=some g) w w'∧(E.ownBlock=ai.ownBlock∨∃k,w.heap.size≤k∧E.ownBlock=some k):=by
 obtain ⟨n0,c8,c9,-⟩:=hn.cells
 obtain ⟨g,j,rfl,hc,-,hg,x0,x1⟩:=hp.at i (by omega)
 obtain ⟨A,d3,e,-,-,-,y0,y1⟩:=hp.at (i+1) hi
 simp only [Value.slice.injEq,Option.some.injEq,Addr.mk.injEq,and_true,true_and] at e
 obtain ⟨rfl,rfl⟩:=e
 obtain ⟨t,u,rfl⟩:=rowShape R
 obtain ⟨ba,bc,rfl⟩:=rowShape S
 have HS:=hid (fun W (hW:W.heap=w.heap)=> areSmall_any _ _ _ _ _ _ _ _ t none ba none b.length 0 c.length 0 u 0 bc 0 W (show NodT W _ _ _ _ by unfold NodT;rw [hW];exact ha) (show NodT W _ _ _ _ by unfold NodT;rw [hW];exact hb) rfl rfl rfl rfl (by omega) (by omega) (by omega) (by omega))
 have b9:Hid ((decide (b.length+c.length≤12)&&decide (0+0≤3))=true):=by show _=_;simp [hs]
 have HN:=hid hn
 have HP:=hid hp
 have HA:=hid ha
 have G:=hid hb
 have V:=hid R
 have X:=hid S
 have Y:=hid b8
 generalize (pl[i]'(by omega)).2=n at*
 generalize (pl[i+1]'hi).2=pb at*
 have q1:decide ((i:Int) < 0)=false:=decide_eq_false (by omega)
 have q2:decide ((pl.length:Int)≤(i:Int)+1)=false:=decide_eq_false (by omega)
 have q3:¬((pl.length:Int)≤(i:Int)+1):=by omega
 have q4:i < pl.length:=by omega
 have q5:(i:Int)+1 < (pl.length:Int):=by omega
 clear hn hp ha hb R S b8
 go_enter Tryz.func174,Tryz.ntmps174
 go_upto_region 3 with fail
 go_quiet (fail)
 go_wp2_with fail
 refine (HS.out (w.drewN nq) rfl).mono ?_
 rintro r l ⟨rfl,b6⟩
 rw [b9.out]
 have f:Hid (Below w.heap.size w l):=(below_drewN (Below.refl _ w) nq).trans b6
 have I:NodT l pb (.slice ba c.length bc) (.slice none 0 0) (.slice none 0 0):=(f.out.block pb G.out.lt).trans G.out
 have J:NodT l n (.slice t b.length u) (.slice none 0 0) (.slice none 0 0):=(f.out.block n HA.out.lt).trans HA.out
 have C:Hid (NodT l p U (.slice (some ⟨g,0,none⟩) pl.length j) vc):=(f.out.block p HN.out.lt).trans HN.out
 have v:Hid (OwnsP 0 l (.slice (some ⟨g,0,none⟩) pl.length j) pl):=row_below HP.out f.out (Nat.le_refl _)
 obtain ⟨a0,a1,a2,f0,f1,f2⟩:=J.cells
 obtain ⟨b0,b1,b2,-⟩:=I.cells
 have c1:=hid (tIsLeaf_any pb _ _ _ _ _ l I)
 have D:=hid J
 clear b6 HS J I n0 c8 c9 x0 x1 y0 y1
 have m:OwnsI 0 l (.slice t b.length u) b:=row_below V.out f.out (Nat.le_refl _)
 have F:OwnsI 0 l (.slice ba c.length bc) c:=row_below X.out f.out (Nat.le_refl _)
 obtain ⟨v2,B,e2,o2,g2,N⟩:=run_rows l.drew 30 30 51 Tryz.underlying30 _ 2 32 info_item rfl (by decide) (by decide) (.slice t b.length u) (.slice ba c.length bc) b.length c.length (icells b) (icells c) m F (one_icells c) (by omega)
 have c3:=hid e2
 have Z:Hid ((Value.slice t b.length u).ownBlock≠some p):=nod_row C.out m (by decide)
 have a3:Hid ((Value.slice t b.length u).ownBlock≠some n):=nod_row D.out m (by decide)
 have x:Mod (fun k=> (Value.slice t b.length u).ownBlock=some k) l.drew B:=Mod.of_grown g2
 have y:NodT B n (.slice t b.length u) (.slice none 0 0) (.slice none 0 0):=x.nod (w:=l.drew) D.out a3.out
 have a4:NodT B p U (.slice (some ⟨g,0,none⟩) pl.length j) vc:=x.nod (w:=l.drew) C.out Z.out
 have K:(Value.slice t b.length u).ownBlock≠some g:=fun q=> rowsE_apart m v.out (by decide) g q rfl
 have a5:OwnsP 0 B (.slice (some ⟨g,0,none⟩) pl.length j) pl:=x.row (w:=l.drew) v.out (fun A h q=> by
  have:g=A:=by simpa [Value.ownBlock] using h
  exact K (by rw [this];exact q))
 obtain ⟨o,s,a,rfl⟩:=shape3 o2
 obtain ⟨d0,d1,d2,e0,-⟩:=y.cells
 have m3:=Mod.setCell B n 0 (.slice o s a)
 have z:g≠n:=fun q=> nod_row D.out v.out (by decide) (by rw [←q];rfl)
 have a6:g≠p:=fun q=> nod_row C.out v.out (by decide) (by rw [←q];rfl)
 have a7:Hid (NodT (B.setCell ⟨n,0,none⟩ (.slice o s a)) p U (.slice (some ⟨g,0,none⟩) pl.length j) vc):=m3.nod a4 (fun q=> Y.out q.symm)
 have c4:Hid (OwnsP 0 (B.setCell ⟨n,0,none⟩ (.slice o s a)) (.slice (some ⟨g,0,none⟩) pl.length j) pl):=m3.row a5 (fun A h q=> by
  have:g=A:=by simpa [Value.ownBlock] using h
  exact z (by rw [this];exact q))
 have c5:Hid (NodT (B.setCell ⟨n,0,none⟩ (.slice o s a)) n (.slice o s a) (.slice none 0 0) (.slice none 0 0)):=y.seti _
 have L:(Value.slice o s a).ownBlock≠some n∧(Value.slice o s a).ownBlock≠some p∧(Value.slice o s a).ownBlock≠some g:=by
  have d6:l.drew.heap.size=l.heap.size:=rfl
  have z1:=D.out.lt
  have z2:=C.out.lt
  have z3:g < l.heap.size:=(World.ownsRow.lt v.out g rfl).2
  rcases N with N | N
  ·rw [N];exact ⟨a3.out,Z.out,K⟩
  ·rw [N]
   refine ⟨fun q=> ?_,fun q=> ?_,fun q=> ?_⟩ <;> (have:=Option.some.inj q;omega)
 have c6:Hid (OwnsI 0 (B.setCell ⟨n,0,none⟩ (.slice o s a)) (.slice o s a) (b++c)):=by
  refine m3.row ?_ (fun A h q=> L.1 (by rw [←q];exact h))
  rw [List.length_append,icells_append]
  exact o2
 have c7:Hid (Mod (fun k=> k=p∨(Value.slice (some ⟨g,0,none⟩) pl.length j).ownBlock=some k∨k=n∨(Value.slice t b.length u).ownBlock=some k) w (B.setCell ⟨n,0,none⟩ (.slice o s a))):=by
  have a1:Mod (fun _=> False) w l.drew:=⟨f.out.os,f.out.tape,f.out.output,f.out.size,fun k hk _=> f.out.block k hk⟩
  exact (a1.trans x (H:=fun k=> k=p∨(Value.slice (some ⟨g,0,none⟩) pl.length j).ownBlock=some k∨k=n∨(Value.slice t b.length u).ownBlock=some k) (fun _ _ q=> q.elim) (fun _ _ q=> .inr (.inr (.inr q)))).trans m3 (fun _ _ q=> q) (fun _ _ q=> .inr (.inr (.inl q)))
 have HK:Hid ((Value.slice o s a).ownBlock=(Value.slice t b.length u).ownBlock∨∃k,w.heap.size≤k∧(Value.slice o s a).ownBlock=some k):=by
  refine N.imp id fun q=> ⟨_,?_,q⟩
  exact f.out.size
 have a8:=hid L
 obtain ⟨c0,d9,c2,e1,e3,e4⟩:=a7.out.cells
 have a9:=hid a6
 have b3:=hid z
 clear e2 o2 g2 N x y a4 K a5 m3 z L m F X HP HA G V a6
 have HD:=hid (deleteP_any _ pl (i+1) _ hi c4.out (by omega))
 have d7:IntKind.i64.wrap ((i:Int)+1)=(i:Int)+1:=by rw [IntKind.wrap_i64];omega
 have d8:IntKind.i64.wrap ((i:Int)+2)=(i:Int)+2:=by rw [IntKind.wrap_i64];omega
 go_wp2_with fail
 refine c1.out.mono ?_
 rintro r l ⟨rfl,rfl⟩
 go_upto_region 7 with fail
 go_region_law (refine stepAp _ (by rfl) (.tmp 46) (.tmp 50) _ _ (by rfl) _ _ (by rfl) (by simp [Act.eval]) _ _ c3.out ?_)
 all_goals
  go_wp2_with fail
  refine HD.out.mono ?_
  rintro r O ⟨d,rfl,P,b7,Q⟩
  have m5:=Mod.of_grown b7
  have M:=m5.nod a7.out (fun q=> a9.out (Option.some.inj q))
  have b4:=m5.nod c5.out (fun q=> b3.out (Option.some.inj q))
  have b5:OwnsI 0 O (.slice o s a) (b++c):=m5.row c6.out (fun A h q=> a8.out.2.2 (by rw [show g=A from Option.some.inj q];exact h))
  have m6:=Mod.setCell O p 1 d
  have T:Hid (NodT (O.setCell ⟨p,1,none⟩ d) p U d vc∧OwnsP 0 (O.setCell ⟨p,1,none⟩ d) d (pl.take (i+1)++pl.drop (i+2))∧d.ownBlock=(Value.slice (some ⟨g,0,none⟩) pl.length j).ownBlock∧NodT (O.setCell ⟨p,1,none⟩ d) n (.slice o s a) (.slice none 0 0) (.slice none 0 0)∧OwnsI 0 (O.setCell ⟨p,1,none⟩ d) (.slice o s a) (b++c)∧Mod (fun k=> k=p∨(Value.slice (some ⟨g,0,none⟩) pl.length j).ownBlock=some k∨k=n∨(Value.slice t b.length u).ownBlock=some k) w (O.setCell ⟨p,1,none⟩ d)):=by
   refine ⟨M.setp d,m6.row P (fun A h q=> ?_),Q,m6.nod b4 Y.out,m6.row b5 (fun A h q=> a8.out.2.1 (by rw [←q];exact h)),(c7.out.trans m5 (fun _ _ q=> q) (fun k _ q=> .inr (.inl q))).trans m6 (fun _ _ q=> q) (fun k _ q=> .inl q)⟩
   rw [Q] at h
   exact a9.out ((show g=A from Option.some.inj h).trans q)
  obtain ⟨e5,d4,e6,e7,e8,e9⟩:=M.cells
  obtain ⟨ua,un,d5,hu⟩:=shape3 P
  clear m5 M b4 b5 m6 P b7 Q
  subst hu
  go_wp2_with fail
  go_ret
  exact ⟨rfl,_,_,T.out.1,T.out.2.1,T.out.2.2.1,T.out.2.2.2.1,T.out.2.2.2.2.1,T.out.2.2.2.2.2,HK.out⟩
end Go.Proofs.YtolgpnaoaodepaaGreat
namespace Go.Proofs.YtolgpnaoaodepaaGreat
open Go.RowKit
structure JnM (w:World) (pa:Nat) (ap ac:Value) (l:List (ByteArray×Nat)) (ap':Value) (w3:World):Prop where
 nod:NodT w3 pa (.slice none 0 0) ap' ac
 row:OwnsP 0 w3 ap' l
 mod:Mod (fun k=> k=pa∨ap.ownBlock=some k) w w3
 blk:ap'.ownBlock=ap.ownBlock∨∃k,w.heap.size≤k∧ap'.ownBlock=some k
set_option maxHeartbeats 1000000 in
set_option maxRecDepth 20000 in
theorem joinB_any (p:Nat) (vi vp vc:Value) (pl:List (ByteArray×Nat)) (i:Nat) (ap ac bp bc:Value) (a b:List (ByteArray×Nat)) (w:World) (hn:NodT w p vi vp vc) (hp:OwnsP 0 w vp pl) (hi:i+1 < pl.length) (hl:pl.length≤20000000)
  (ha:NodT w (pl[i]'(by omega)).2 (.slice none 0 0) ap ac) (hb:NodT w (pl[i+1]'hi).2 (.slice none 0 0) bp bc) (a7:OwnsP 0 w ap a) (a8:OwnsP 0 w bp b) (hs:a.length+b.length≤3) (f7:0 < b.length) (f3:∃x y z,bc= .slice x y z) (d5:(pl[i]'(by omega)).2≠p) (O:(pl[i+1]'hi).2≠(pl[i]'(by omega)).2) (P:∀k,vp.ownBlock=some k→ap.ownBlock≠some k)
  (T:Value→World→World→Prop) (S:Value→Nat→Prop) (hS:∀u,(u.ownBlock=ap.ownBlock∨∃k,w.heap.size≤k∧u.ownBlock=some k)→¬S u p∧∀k,vp.ownBlock=some k→¬S u k)
  (hT:∀o N,JnM w (pl[i]'(by omega)).2 ap ac (a++b) o N→Calls Tryz.prog 63 #[.pointer (some ⟨(pl[i]'(by omega)).2,0,none⟩),bc] N fun r G=> r= .returned (.tuple #[])∧T o N G∧Mod (S o) N G):
  Calls Tryz.prog 174 #[.pointer (some ⟨p,0,none⟩),.int .i64 (i:Nat)] w fun r w'=> r= .returned (.bool true)∧∃o N G f,JnM w (pl[i]'(by omega)).2 ap ac (a++b) o N∧T o N G∧Mod (S o) N G∧NodT w' p vi f vc∧OwnsP 0 w' f (pl.take (i+1)++pl.drop (i+2))∧f.ownBlock=vp.ownBlock∧Mod (fun k=> k=p∨vp.ownBlock=some k) G w':=by
 obtain ⟨n0,e8,e9,-⟩:=hn.cells
 obtain ⟨g,l,rfl,hc,-,hg,x0,x1⟩:=hp.at i (by omega)
 obtain ⟨F,f4,e,-,-,-,y0,y1⟩:=hp.at (i+1) hi
 simp only [Value.slice.injEq,Option.some.injEq,Addr.mk.injEq,and_true,true_and] at e
 obtain ⟨rfl,rfl⟩:=e
 obtain ⟨A,d,rfl⟩:=rowShape a7
 obtain ⟨ba,t,rfl⟩:=rowShape a8
 obtain ⟨ca,cn,a4,rfl⟩:=f3
 have HS:=hid (fun W (hW:W.heap=w.heap)=> areSmall_any _ _ _ _ _ _ _ _ none A none ba 0 a.length 0 b.length 0 d 0 t W (show NodT W _ _ _ _ by unfold NodT;rw [hW];exact ha) (show NodT W _ _ _ _ by unfold NodT;rw [hW];exact hb) rfl rfl rfl rfl (by omega) (by omega) (by omega) (by omega))
 have d6:Hid ((decide (0+0≤12)&&decide (a.length+b.length≤3))=true):=by show _=_;simp [hs]
 have HN:=hid hn
 have HP:=hid hp
 have HA:=hid ha
 have Q:=hid hb
 have a9:=hid a7
 have b3:=hid a8
 have d7:=hid d5
 have b4:=hid O
 have HT:=hid hT
 have b5:=hid hS
 generalize (pl[i]'(by omega)).2=v at*
 generalize (pl[i+1]'hi).2=pb at*
 have q1:decide ((i:Int) < 0)=false:=decide_eq_false (by omega)
 have q2:decide ((pl.length:Int)≤(i:Int)+1)=false:=decide_eq_false (by omega)
 have q3:¬((pl.length:Int)≤(i:Int)+1):=by omega
 have q4:i < pl.length:=by omega
 have q5:(i:Int)+1 < (pl.length:Int):=by omega
 have q6:decide (b.length=0)=false:=decide_eq_false (by omega)
 have b6:Hid ((Value.slice A a.length d).ownBlock≠some g):=P g rfl
 clear hn hp ha hb a7 a8 d5 O P hT hS
 go_enter Tryz.func174,Tryz.ntmps174
 go_upto_region 3 with fail
 go_quiet (fail)
 go_wp2_with fail
 refine (HS.out (w.drewN nq) rfl).mono ?_
 rintro r m ⟨rfl,c9⟩
 rw [d6.out]
 have c:Hid (Below w.heap.size w m):=(below_drewN (Below.refl _ w) nq).trans c9
 have D:NodT m pb (.slice none 0 0) (.slice ba b.length t) (.slice ca cn a4):=(c.out.block pb Q.out.lt).trans Q.out
 have R:NodT m v (.slice none 0 0) (.slice A a.length d) ac:=(c.out.block v HA.out.lt).trans HA.out
 have U:Hid (NodT m p vi (.slice (some ⟨g,0,none⟩) pl.length l) vc):=(c.out.block p HN.out.lt).trans HN.out
 have V:Hid (OwnsP 0 m (.slice (some ⟨g,0,none⟩) pl.length l) pl):=row_below HP.out c.out (Nat.le_refl _)
 obtain ⟨a0,a1,a2,f0,f1,f2⟩:=R.cells
 obtain ⟨b0,b1,b2,-⟩:=D.cells
 have d8:=hid (tIsLeaf_any pb _ _ _ _ _ m D)
 have E:=hid R
 have b7:=hid D
 clear c9 HS R D n0 e8 e9 x0 x1 y0 y1
 have n:OwnsP 0 m (.slice A a.length d) a:=row_below a9.out c.out (Nat.le_refl _)
 have J:OwnsP 0 m (.slice ba b.length t) b:=row_below b3.out c.out (Nat.le_refl _)
 obtain ⟨v2,C,e2,o2,g2,k2⟩:=run_rows m.drew 121 121 132 Tryz.underlying121 _ 2 24 info_part rfl (by decide) (by decide) (.slice A a.length d) (.slice ba b.length t) a.length b.length (pcells a) (pcells b) n J (one_pcells b) (by omega)
 have d9:=hid e2
 have e3:Hid ((Value.slice A a.length d).ownBlock≠some p):=nod_row U.out n (by decide)
 have b8:Hid ((Value.slice A a.length d).ownBlock≠some v):=nod_row E.out n (by decide)
 have b9:Hid ((Value.slice A a.length d).ownBlock≠some pb):=nod_row b7.out n (by decide)
 have s:Mod (fun k=> (Value.slice A a.length d).ownBlock=some k) m.drew C:=Mod.of_grown g2
 have B:NodT C v (.slice none 0 0) (.slice A a.length d) ac:=s.nod (w:=m.drew) E.out b8.out
 have K:NodT C pb (.slice none 0 0) (.slice ba b.length t) (.slice ca cn a4):=s.nod (w:=m.drew) b7.out b9.out
 have c1:NodT C p vi (.slice (some ⟨g,0,none⟩) pl.length l) vc:=s.nod (w:=m.drew) U.out e3.out
 have c3:OwnsP 0 C (.slice (some ⟨g,0,none⟩) pl.length l) pl:=s.row (w:=m.drew) V.out (fun F j q=> by
  have:g=F:=by simpa [Value.ownBlock] using j
  exact b6.out (by rw [this];exact q))
 obtain ⟨va,vn,h,rfl⟩:=shape3 o2
 obtain ⟨d0,d1,d2,e0,e1,-⟩:=B.cells
 have m3:=Mod.setCell C v 1 (.slice va vn h)
 have L:g≠v:=fun q=> nod_row E.out V.out (by decide) (by rw [←q];rfl)
 have c4:g≠p:=fun q=> nod_row U.out V.out (by decide) (by rw [←q];rfl)
 have X:Hid (NodT (C.setCell ⟨v,1,none⟩ (.slice va vn h)) p vi (.slice (some ⟨g,0,none⟩) pl.length l) vc):=m3.nod c1 (fun q=> d7.out q.symm)
 have M:Hid (NodT (C.setCell ⟨v,1,none⟩ (.slice va vn h)) pb (.slice none 0 0) (.slice ba b.length t) (.slice ca cn a4)):=m3.nod K b4.out
 have c5:Hid (OwnsP 0 (C.setCell ⟨v,1,none⟩ (.slice va vn h)) (.slice (some ⟨g,0,none⟩) pl.length l) pl):=m3.row c3 (fun F j q=> by
  have:g=F:=by simpa [Value.ownBlock] using j
  exact L (by rw [this];exact q))
 have c6:(Value.slice va vn h).ownBlock≠some v:=by
  have f8:m.drew.heap.size=m.heap.size:=rfl
  have z1:=E.out.lt
  rcases k2 with k2 | k2
  ·rw [k2];exact b8.out
  ·rw [k2]
   intro q
   have:=Option.some.inj q
   omega
 have HJ:Hid (JnM w v (.slice A a.length d) ac (a++b) (.slice va vn h) (C.setCell ⟨v,1,none⟩ (.slice va vn h))):=by
  refine ⟨B.setp _,m3.row ?_ (fun F j q=> c6 (by rw [←q];exact j)),?_,k2.imp id fun q=> ⟨_,c.out.size,q⟩⟩
  ·rw [List.length_append,pcells_append]
   exact o2
  ·have a1:Mod (fun _=> False) w m.drew:=⟨c.out.os,c.out.tape,c.out.output,c.out.size,fun k hk _=> c.out.block k hk⟩
   exact (a1.trans s (H:=fun k=> k=v∨(Value.slice A a.length d).ownBlock=some k) (fun _ _ q=> q.elim) (fun _ _ q=> .inr q)).trans m3 (fun _ _ q=> q) (fun _ _ q=> .inl q)
 have c7:=hid (HT.out _ _ HJ.out)
 have Y:=hid (b5.out _ HJ.out.blk)
 have c8:=hid c4
 obtain ⟨c0,g1,c2,g3,g4,g5⟩:=X.out.cells
 obtain ⟨u0,u1,u2,-⟩:=M.out.cells
 clear e2 o2 g2 k2 s B K c1 c3 m3 L c6 n J b3 HP HA Q a9 c4 HT b5
 have f9:IntKind.i64.wrap ((i:Int)+1)=(i:Int)+1:=by rw [IntKind.wrap_i64];omega
 have g0:IntKind.i64.wrap ((i:Int)+2)=(i:Int)+2:=by rw [IntKind.wrap_i64];omega
 go_wp2_with fail
 refine d8.out.mono ?_
 rintro r m ⟨rfl,rfl⟩
 rw [q6]
 go_upto_region 8 with fail
 go_region_law (refine stepAp _ (by rfl) (.tmp 58) (.tmp 62) _ _ (by rfl) _ _ (by rfl) (by simp [Act.eval]) _ _ d9.out ?_)
 all_goals
  go_wp2_with fail
  refine c7.out.mono ?_
  rintro r G ⟨rfl,d3,I⟩
  have e4:=hid d3
  have e5:=hid I
  have Z:=I.nod X.out Y.out.1
  have e6:Hid (OwnsP 0 G (.slice (some ⟨g,0,none⟩) pl.length l) pl):=I.row c5.out (fun F j=> Y.out.2 F j)
  have e7:=hid Z
  obtain ⟨r0,r1,r2,-⟩:=Z.cells
  have HD:=hid (deleteP_any _ pl (i+1) _ hi e6.out (by omega))
  clear d3 I Z c7 X c5 M Y
  go_wp2_with fail
  refine HD.out.mono ?_
  rintro r w5 ⟨f,rfl,a5,d4,a6⟩
  have m5:=Mod.of_grown d4
  have a3:=m5.nod e7.out (fun q=> c8.out (Option.some.inj q))
  have m6:=Mod.setCell w5 p 1 f
  have HF:Hid (NodT (w5.setCell ⟨p,1,none⟩ f) p vi f vc∧OwnsP 0 (w5.setCell ⟨p,1,none⟩ f) f (pl.take (i+1)++pl.drop (i+2))∧f.ownBlock=(Value.slice (some ⟨g,0,none⟩) pl.length l).ownBlock∧Mod (fun k=> k=p∨(Value.slice (some ⟨g,0,none⟩) pl.length l).ownBlock=some k) G (w5.setCell ⟨p,1,none⟩ f)):=by
   refine ⟨a3.setp f,m6.row a5 (fun F j q=> ?_),a6,m5.trans m6 (fun k _ q=> .inr q) (fun k _ q=> .inl q)⟩
   rw [a6] at j
   exact c8.out ((show g=F from Option.some.inj j).trans q)
  obtain ⟨g6,f5,g7,g8,g9,h0⟩:=a3.cells
  obtain ⟨ua,un,f6,hu⟩:=shape3 a5
  clear m5 a3 m6 a5 d4 a6
  subst hu
  go_wp2_with fail
  go_ret
  exact ⟨rfl,_,_,_,_,HJ.out,e4.out,e5.out,HF.out⟩
end Go.Proofs.YtolgpnaoaodepaaGreat
namespace Go.Proofs.YtolgpnaoaodepaaGreat.Tr
theorem inR_left {c a k:Key} {m:Option Key} (e:room a m) (h:inR c (some a) k):inR c m k:=⟨h.1,fun b d=> lt_tr (h.2 a rfl) (e b d).1⟩
theorem inR_right {b a k:Key} {m:Option Key} (c:room b (some a)) (h:inR a m k):inR b m k:=⟨fun q=> h.1 (lt_tr q (c a rfl).1),h.2⟩
theorem val_two {h:Nat} (b a:Key) (c d:TreeT h) (k:Key):val (h+1) ([(b,c),(a,d)],[]) k=if k < a then val h c k else val h d k:=by
 by_cases q:k < a
 ·rw [if_pos q]
  have:ix ([(b,c),(a,d)].map (·.1)) k=0:=by show ix [b,a] k=0;rw [ix,if_pos q]
  rw [val,this];rfl
 ·rw [if_neg q]
  have:ix ([(b,c),(a,d)].map (·.1)) k=1:=by show ix [b,a] k=1;rw [ix,if_neg q];rfl
  rw [val,this];rfl
theorem join0_wf {e b:Key} {m:Option Key} {h i:TreeT 0} (f:room e (some b)) (g:room b m) (c:WF 0 e (some b) h) (d:WF 0 b m i):WF 0 e m (its h++its i):=by
 refine ⟨List.pairwise_append.2 ⟨c.1,d.1,fun x a y j=> ?_⟩,fun x a=> ?_⟩
 ·exact lt_le ((c.2 x a).1.2 b rfl) (d.2 y j).1.1
 ·rcases List.mem_append.1 a with a | a
  ·exact ⟨inR_left g (c.2 x a).1,(c.2 x a).2⟩
  ·exact ⟨inR_right f (d.2 x a).1,(d.2 x a).2⟩
theorem join0_val {f a:Key} {m:Option Key} {b c:TreeT 0} (g:WF 0 f (some a) b) (h:WF 0 a m c) (k:Key):val 0 (its b++its c) k=val 1 ([(f,b),(a,c)],[]) k:=by
 rw [val_two]
 show look (its b++its c) k=_
 rw [look_append]
 by_cases q:k < a
 ·rw [if_pos q,look_none (l:=its c),Option.or_none];rfl
  intro x d e
  have:=(h.2 x d).1.1
  rw [e] at this;exact this q
 ·rw [if_neg q,look_none (l:=its b),Option.none_or];rfl
  intro x d e
  have:=(g.2 x d).1.2 a rfl
  rw [e] at this;exact q this
theorem joinS_wf {h:Nat} {k e:Key} {m:Option Key} {a b:List (Key×TreeT h)} {d f:List Ch} (g:room e m) (i:WF (h+1) k (some e) (brT a d)) (l:WF (h+1) e m (brT b f)):WF (h+1) k m (brT (a++b) d):=
 ⟨chain_append.2 ⟨some e,i.1,l.1⟩,fun c j=> ⟨inR_left g (i.2 c j).1,(i.2 c j).2⟩⟩
theorem joinS_val {h:Nat} {j l:Key} {m:Option Key} {d g:List (Key×TreeT h)} {a i:List Ch} (p:WF (h+1) j (some l) (brT d a)) (r:WF (h+1) l m (brT g i)) {k:Key} (x:inR j m k):afterAll i k (val (h+1) (brT (d++g) a) k)=val (h+2) ([(j,brT d a),(l,brT g i)],[]) k:=by
 rw [val_two]
 have u:∀(v:List (Key×TreeT h)) (w:List Ch),val (h+1) (brT v w) k=afterAll w k (val (h+1) (brT v []) k):=fun _ _=> rfl
 by_cases q:k < l
 ·have n:=val_mid (R:=fun f m t=> WF h f m t∧Top h t) (lo:=some j) (A:=[]) (X:=d) (B:=g) (f:=j) rfl p.1 r.1 a (k:=k) ⟨x.1,fun b z=> by rw [←Option.some.inj z];exact q⟩
  rw [if_pos q,u d a,afterAll_none i]
  ·exact n
  ·intro c o e
   have:=(r.2 c o).1.1
   rw [e] at this;exact this q
 ·have n:=val_mid (R:=fun f m t=> WF h f m t∧Top h t) (lo:=some j) (A:=d) (X:=g) (B:=[]) (f:=l) p.1 r.1 rfl a (k:=k) ⟨q,x.2⟩
  rw [List.append_nil] at n
  have y:∀s,afterAll a k s=s:=fun s=> afterAll_none a k s fun c o e=> by
   have:=(p.2 c o).1.2 l rfl
   rw [e] at this;exact q this
  rw [y] at n
  rw [if_neg q,u g i]
  exact congrArg (afterAll i k) n
end Go.Proofs.YtolgpnaoaodepaaGreat.Tr
