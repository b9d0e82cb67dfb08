import Derived.Test.YtolgpnaoaodepaaGreatTreZGm
namespace Go.Proofs.YtolgpnaoaodepaaGreat
open Go.RowKit
theorem Nm (w:World) (t p e:TypeId) (A:Tryz.prog.underlying t=some (.slice e)) (z:Value) (size a:Nat) (b:(Tryz.prog.info? e).map (fun i=> (i.zero,i.size,i.bytes))=some (some z,size,a)) (q:z.cells.size=size) (r:0 < size) (s:a<=1000)
  (v u:Value) (n m:Nat) (xs d:List Value) (y:w.ownsRow 0 e size v n xs) (f:w.ownsRow 0 e size u m d) (M:∀x∈d,x.oneCell'=true) (N:n+m<=1000000000):
  ∃c w',(Builtin.append_ #[t,t] p #[v,u]).run Tryz.prog w= .ok c w'/\w'.ownsRow 0 e size c (n+m) (xs++d)/\w.grownBy w' v.ownBlock/\(c.ownBlock=v.ownBlock\/c.ownBlock=some w.heap.size):=by
 obtain ⟨i,hi,j,k,l⟩:=info_parts b;rcases f.2 with ⟨rfl,rfl⟩ | ⟨g,o,H,rfl,I,O,R,S,J,L⟩
 ·have B:d=[]:=List.eq_nil_of_length_eq_zero (by rw [f.1,Nat.zero_mul]);subst B;refine ⟨v,w,run_append_owned_none w 0 t p e i size A hi v n xs y,?_,⟨rfl,rfl,rfl,Nat.le_refl _,fun _ _ _=> rfl⟩,.inl rfl⟩;rw [Nat.add_zero,List.append_nil];exact y
 ·obtain ⟨c,w',C,D,F,_,G⟩:=run_append_own_at w 0 t p e i z size a A hi j k l q r v n xs y ⟨g,0,none⟩ m o d f.1 (f.cells rfl) M (by unfold maxLen;omega) (by have:(n+m)*a<=1000000000*1000:=Nat.mul_le_mul N s;omega) (Nat.zero_le _);exact ⟨c,w',C,D,F,G⟩
set_option maxHeartbeats 400000 in
set_option maxRecDepth 20000 in
theorem Aeg (p:Nat) (w:World):
  Calls Tryz.prog 174 #[.pointer (some ⟨p,0,none⟩),.int .i64 (-1)] w fun r w'=> r= .returned (.bool false)/\Below w.heap.size w w':=by
 go_enter Tryz.func174,Tryz.ntmps174;go_wp2_with fail;go_ret;exact ⟨rfl,Below.refl _ _⟩
set_option maxHeartbeats 400000 in
set_option maxRecDepth 20000 in
theorem Aeh (p:Nat) (d vc:Value) (a:Option Addr) (n c i:Nat) (w:World) (b:An w p d (.slice a n c) vc) (hi:n<=i+1) (m:i<=20000000):
  Calls Tryz.prog 174 #[.pointer (some ⟨p,0,none⟩),.int .i64 (i:Nat)] w fun r w'=> r= .returned (.bool false)/\Below w.heap.size w w':=by
 obtain ⟨j,k,l,-⟩:=b.cells;have f:decide ((i:Int) < 0)=false:=decide_eq_false (by omega);have g:decide ((n:Int)<=(i:Int)+1)=true:=decide_eq_true (by omega);clear b;go_enter Tryz.func174,Tryz.ntmps174;go_wp2_with fail;go_ret;exact ⟨rfl,Below.refl _ _⟩
set_option maxHeartbeats 400000 in
set_option maxRecDepth 20000 in
theorem Us (p:Nat) (vi vp vc:Value) (pl:List (ByteArray×Nat)) (i:Nat) (f j o k l s:Value) (z A B C:Option Addr) (a b c d D F G H:Nat) (w:World) (I:An w p vi vp vc) (t:Ap 0 w vp pl) (hi:i+1 < pl.length) (hl:pl.length<=20000000)
  (J:An w (pl[i]'(by omega)).2 f j o) (L:An w (pl[i+1]'hi).2 k l s) (M:f= .slice z a D) (N:j= .slice A b F) (O:k= .slice B c G) (R:l= .slice C d H) (S:a<=20000000) (T:b<=20000000) (U:c<=20000000) (V:d<=20000000) (X:¬(a+c<=12/\b+d<=3)):
  Calls Tryz.prog 174 #[.pointer (some ⟨p,0,none⟩),.int .i64 (i:Nat)] w fun r w'=> r= .returned (.bool false)/\Below w.heap.size w w':=by
 obtain ⟨n0,Z,a0,-⟩:=I.cells;obtain ⟨g,a3,rfl,hc,-,hg,x0,x1⟩:=t.at i (by omega);obtain ⟨g',u,e,-,-,-,y0,y1⟩:=t.at (i+1) hi;simp only [Value.slice.injEq,Option.some.injEq,Addr.mk.injEq,and_true,true_and] at e;obtain ⟨rfl,rfl⟩:=e;have Y:=hid (fun W (y:W.heap=w.heap)=> Ly _ _ f j o k l s z A B C a b c d D F G H W (show An W _ f j o by unfold An;rw [y];exact J) (show An W _ k l s by unfold An;rw [y];exact L) M N O R S T U V);have m:Hid ((decide (a+c<=12)&&decide (b+d<=3))=false):=by
  show _=_;by_cases q:a+c<=12
  ·have:¬b+d<=3:=fun q'=> X ⟨q,q'⟩
   simp [this]
  ·simp [q]
 generalize (pl[i]'(by omega)).2=pa at*;generalize (pl[i+1]'hi).2=pb at*;have q1:decide ((i:Int) < 0)=false:=decide_eq_false (by omega);have q2:decide ((pl.length:Int)<=(i:Int)+1)=false:=decide_eq_false (by omega);have q3:¬((pl.length:Int)<=(i:Int)+1):=by omega
 have q4:i < pl.length:=by omega
 have q5:(i:Int)+1 < (pl.length:Int):=by omega
 clear I t J L M N O R S T U V X;go_enter Tryz.func174,Tryz.ntmps174;go_upto_region 3 with fail;go_quiet (fail);go_wp2_with fail;refine (Y.out (w.drewN nq) rfl).mono ?_;rintro r w1 ⟨rfl,n⟩;rw [m.out];go_wp2_with fail;go_ret;exact ⟨rfl,(Am (Below.refl _ w) nq).trans n⟩
set_option maxHeartbeats 1000000 in
set_option maxRecDepth 20000 in
theorem Ajt (p:Nat) (vi vp vc:Value) (pl:List (ByteArray×Nat)) (i:Nat) (ai bi:Value) (b c:List (ByteArray×ByteArray)) (w:World) (hn:An w p vi vp vc) (hp:Ap 0 w vp pl) (hi:i+1 < pl.length) (hl:pl.length<=20000000)
  (ha:An w (pl[i]'(by omega)).2 ai (.slice none 0 0) (.slice none 0 0)) (hb:An w (pl[i+1]'hi).2 bi (.slice none 0 0) (.slice none 0 0)) (Z:Ak 0 w ai b) (a3:Ak 0 w bi c) (hs:b.length+c.length<=12) (c5:(pl[i]'(by omega)).2≠p):
  Calls Tryz.prog 174 #[.pointer (some ⟨p,0,none⟩),.int .i64 (i:Nat)] w fun r w'=> r= .returned (.bool true)/\∃J d,An w' p vi d vc/\Ap 0 w' d (pl.take (i+1)++pl.drop (i+2))/\d.ownBlock=vp.ownBlock/\An w' (pl[i]'(by omega)).2 J (.slice none 0 0) (.slice none 0 0)/\Ak 0 w' J (b++c)/\Mod (fun g=> g=p\/vp.ownBlock=some g\/g=(pl[i]'(by omega)).2\/ai.ownBlock=some g) w w'/\(J.ownBlock=ai.ownBlock\/∃k,w.heap.size<=k/\J.ownBlock=some k):=by
 obtain ⟨n0,d6,d7,-⟩:=hn.cells;obtain ⟨g,l,rfl,hc,-,hg,x0,x1⟩:=hp.at i (by omega);obtain ⟨D,d8,e,-,-,-,y0,y1⟩:=hp.at (i+1) hi;simp only [Value.slice.injEq,Option.some.injEq,Addr.mk.injEq,and_true,true_and] at e;obtain ⟨rfl,rfl⟩:=e;obtain ⟨u,y,rfl⟩:=Ab Z;obtain ⟨ba,bc,rfl⟩:=Ab a3;have HS:=hid (fun W (hW:W.heap=w.heap)=> Ly _ _ _ _ _ _ _ _ u none ba none b.length 0 c.length 0 y 0 bc 0 W (show An W _ _ _ _ by unfold An;rw [hW];exact ha) (show An W _ _ _ _ by unfold An;rw [hW];exact hb) rfl rfl rfl rfl (by omega) (by omega) (by omega) (by omega));have c6:Hid ((decide (b.length+c.length<=12)&&decide (0+0<=3))=true):=by show _=_;simp [hs]
 have HN:=hid hn;have HP:=hid hp;have HA:=hid ha;have M:=hid hb;have a4:=hid Z;have a5:=hid a3;have a6:=hid c5;generalize (pl[i]'(by omega)).2=o at*;generalize (pl[i+1]'hi).2=pb at*;have q1:decide ((i:Int) < 0)=false:=decide_eq_false (by omega);have q2:decide ((pl.length:Int)<=(i:Int)+1)=false:=decide_eq_false (by omega);have q3:¬((pl.length:Int)<=(i:Int)+1):=by omega
 have q4:i < pl.length:=by omega
 have q5:(i:Int)+1 < (pl.length:Int):=by omega
 clear hn hp ha hb Z a3 c5;go_enter Tryz.func174,Tryz.ntmps174;go_upto_region 3 with fail;go_quiet (fail);go_wp2_with fail;refine (HS.out (w.drewN nq) rfl).mono ?_;rintro r m ⟨rfl,c3⟩;rw [c6.out];have f:Hid (Below w.heap.size w m):=(Am (Below.refl _ w) nq).trans c3;have N:An m pb (.slice ba c.length bc) (.slice none 0 0) (.slice none 0 0):=(f.out.block pb M.out.lt).trans M.out;have O:An m o (.slice u b.length y) (.slice none 0 0) (.slice none 0 0):=(f.out.block o HA.out.lt).trans HA.out;have G:Hid (An m p vi (.slice (some ⟨g,0,none⟩) pl.length l) vc):=(f.out.block p HN.out.lt).trans HN.out;have z:Hid (Ap 0 m (.slice (some ⟨g,0,none⟩) pl.length l) pl):=Aa HP.out f.out (Nat.le_refl _);obtain ⟨a0,a1,a2,f0,f1,f2⟩:=O.cells;obtain ⟨b0,b1,b2,-⟩:=N.cells;have c7:=hid (Et pb _ _ _ _ _ m N);have I:=hid O;clear c3 HS O N n0 d6 d7 x0 x1 y0 y1;have n:Ak 0 m (.slice u b.length y) b:=Aa a4.out f.out (Nat.le_refl _);have L:Ak 0 m (.slice ba c.length bc) c:=Aa a5.out f.out (Nat.le_refl _);obtain ⟨v2,F,e2,o2,g2,U⟩:=Nm m.drew 30 30 51 Tryz.underlying30 _ 2 32 Cm rfl (by decide) (by decide) (.slice u b.length y) (.slice ba c.length bc) b.length c.length (icells b) (icells c) n L (Ex c) (by omega);have c8:=hid e2;have a7:Hid ((Value.slice u b.length y).ownBlock≠some p):=Aq G.out n (by decide);have a8:Hid ((Value.slice u b.length y).ownBlock≠some o):=Aq I.out n (by decide);have A:Mod (fun k=> (Value.slice u b.length y).ownBlock=some k) m.drew F:=Mod.of_grown g2;have B:An F o (.slice u b.length y) (.slice none 0 0) (.slice none 0 0):=A.nod (w:=m.drew) I.out a8.out;have a9:An F p vi (.slice (some ⟨g,0,none⟩) pl.length l) vc:=A.nod (w:=m.drew) G.out a7.out;have R:(Value.slice u b.length y).ownBlock≠some g:=fun q=> Cn n z.out (by decide) g q rfl
 have b3:Ap 0 F (.slice (some ⟨g,0,none⟩) pl.length l) pl:=A.row (w:=m.drew) z.out (fun D j q=> by
  have:g=D:=by simpa [Value.ownBlock] using j
  exact R (by rw [this];exact q))
 obtain ⟨s,t,a,rfl⟩:=Ey o2;obtain ⟨d0,d1,d2,e0,-⟩:=B.cells;have m3:=Mod.setCell F o 0 (.slice s t a);have C:g≠o:=fun q=> Aq I.out z.out (by decide) (by rw [<-q];rfl)
 have b4:g≠p:=fun q=> Aq G.out z.out (by decide) (by rw [<-q];rfl)
 have b5:Hid (An (F.setCell ⟨o,0,none⟩ (.slice s t a)) p vi (.slice (some ⟨g,0,none⟩) pl.length l) vc):=m3.nod a9 (fun q=> a6.out q.symm);have c9:Hid (Ap 0 (F.setCell ⟨o,0,none⟩ (.slice s t a)) (.slice (some ⟨g,0,none⟩) pl.length l) pl):=m3.row b3 (fun D j q=> by
  have:g=D:=by simpa [Value.ownBlock] using j
  exact C (by rw [this];exact q))
 have d3:Hid (An (F.setCell ⟨o,0,none⟩ (.slice s t a)) o (.slice s t a) (.slice none 0 0) (.slice none 0 0)):=B.seti _;have S:(Value.slice s t a).ownBlock≠some o/\(Value.slice s t a).ownBlock≠some p/\(Value.slice s t a).ownBlock≠some g:=by
  have e3:m.drew.heap.size=m.heap.size:=rfl;have z1:=I.out.lt;have z2:=G.out.lt;have z3:g < m.heap.size:=(World.ownsRow.lt z.out g rfl).2;rcases U with U | U
  ·rw [U];exact ⟨a8.out,a7.out,R⟩
  ·rw [U];refine ⟨fun q=> ?_,fun q=> ?_,fun q=> ?_⟩ <;> (have:=Option.some.inj q;omega)
 have d4:Hid (Ak 0 (F.setCell ⟨o,0,none⟩ (.slice s t a)) (.slice s t a) (b++c)):=by
  refine m3.row ?_ (fun D j q=> S.1 (by rw [<-q];exact j));rw [List.length_append,Cj];exact o2
 have d5:Hid (Mod (fun k=> k=p\/(Value.slice (some ⟨g,0,none⟩) pl.length l).ownBlock=some k\/k=o\/(Value.slice u b.length y).ownBlock=some k) w (F.setCell ⟨o,0,none⟩ (.slice s t a))):=by
  have a1:Mod (fun _=> False) w m.drew:=⟨f.out.os,f.out.tape,f.out.output,f.out.size,fun k hk _=> f.out.block k hk⟩;exact (a1.trans A (H:=fun k=> k=p\/(Value.slice (some ⟨g,0,none⟩) pl.length l).ownBlock=some k\/k=o\/(Value.slice u b.length y).ownBlock=some k) (fun _ _ q=> q.elim) (fun _ _ q=> .inr (.inr (.inr q)))).trans m3 (fun _ _ q=> q) (fun _ _ q=> .inr (.inr (.inl q)))
 have HK:Hid ((Value.slice s t a).ownBlock=(Value.slice u b.length y).ownBlock\/∃k,w.heap.size<=k/\(Value.slice s t a).ownBlock=some k):=by
  refine U.imp id fun q=> ⟨_,?_,q⟩
  exact f.out.size
 have b6:=hid S;obtain ⟨c0,e6,c2,e7,e8,e9⟩:=b5.out.cells;have b7:=hid b4;have b8:=hid C;clear e2 o2 g2 U A B a9 R b3 m3 C S n L a5 HP HA M a4 b4;have HD:=hid (Ur _ pl (i+1) _ hi c9.out (by omega));have e4:IntKind.i64.wrap ((i:Int)+1)=(i:Int)+1:=by rw [IntKind.wrap_i64];omega
 have e5:IntKind.i64.wrap ((i:Int)+2)=(i:Int)+2:=by rw [IntKind.wrap_i64];omega
 go_wp2_with fail;refine c7.out.mono ?_;rintro r m ⟨rfl,rfl⟩;go_upto_region 7 with fail
 go_region_law (refine Nf _ (by rfl) (.tmp 46) (.tmp 50) _ _ (by rfl) _ _ (by rfl) (by simp [Act.eval]) _ _ c8.out ?_)
 all_goals
  go_wp2_with fail;refine HD.out.mono ?_;rintro r V ⟨d,rfl,X,c4,Y⟩;have m5:=Mod.of_grown c4;have T:=m5.nod b5.out (fun q=> b7.out (Option.some.inj q));have b9:=m5.nod d3.out (fun q=> b8.out (Option.some.inj q));have c1:Ak 0 V (.slice s t a) (b++c):=m5.row d4.out (fun D j q=> b6.out.2.2 (by rw [show g=D from Option.some.inj q];exact j));have m6:=Mod.setCell V p 1 d;have HF:Hid (An (V.setCell ⟨p,1,none⟩ d) p vi d vc/\Ap 0 (V.setCell ⟨p,1,none⟩ d) d (pl.take (i+1)++pl.drop (i+2))/\d.ownBlock=(Value.slice (some ⟨g,0,none⟩) pl.length l).ownBlock/\An (V.setCell ⟨p,1,none⟩ d) o (.slice s t a) (.slice none 0 0) (.slice none 0 0)/\Ak 0 (V.setCell ⟨p,1,none⟩ d) (.slice s t a) (b++c)/\Mod (fun k=> k=p\/(Value.slice (some ⟨g,0,none⟩) pl.length l).ownBlock=some k\/k=o\/(Value.slice u b.length y).ownBlock=some k) w (V.setCell ⟨p,1,none⟩ d)):=by
   refine ⟨T.setp d,m6.row X (fun D j q=> ?_),Y,m6.nod b9 a6.out,m6.row c1 (fun D j q=> b6.out.2.1 (by rw [<-q];exact j)),(d5.out.trans m5 (fun _ _ q=> q) (fun k _ q=> .inr (.inl q))).trans m6 (fun _ _ q=> q) (fun k _ q=> .inl q)⟩;rw [Y] at j;exact b7.out ((show g=D from Option.some.inj j).trans q)
  obtain ⟨f3,d9,f4,f5,f6,f7⟩:=T.cells;obtain ⟨ua,un,e1,hu⟩:=Ey X;clear m5 T b9 c1 m6 X c4 Y;subst hu;go_wp2_with fail;go_ret;exact ⟨rfl,_,_,HF.out.1,HF.out.2.1,HF.out.2.2.1,HF.out.2.2.2.1,HF.out.2.2.2.2.1,HF.out.2.2.2.2.2,HK.out⟩
structure JnM (w:World) (pa:Nat) (ap ac:Value) (l:List (ByteArray×Nat)) (ap':Value) (w3:World):Prop where
 nod:An w3 pa (.slice none 0 0) ap' ac
 row:Ap 0 w3 ap' l
 mod:Mod (fun k=> k=pa\/ap.ownBlock=some k) w w3
 blk:ap'.ownBlock=ap.ownBlock\/∃k,w.heap.size<=k/\ap'.ownBlock=some k
set_option maxHeartbeats 1000000 in
set_option maxRecDepth 20000 in
theorem Aju (p:Nat) (vi vp vc:Value) (pl:List (ByteArray×Nat)) (i:Nat) (ap ac bp bc:Value) (a b:List (ByteArray×Nat)) (w:World) (hn:An w p vi vp vc) (hp:Ap 0 w vp pl) (hi:i+1 < pl.length) (hl:pl.length<=20000000)
  (ha:An w (pl[i]'(by omega)).2 (.slice none 0 0) ap ac) (hb:An w (pl[i+1]'hi).2 (.slice none 0 0) bp bc) (b6:Ap 0 w ap a) (b7:Ap 0 w bp b) (hs:a.length+b.length<=3) (g4:0 < b.length) (f9:∃x y z,bc= .slice x y z) (e4:(pl[i]'(by omega)).2≠p) (X:(pl[i+1]'hi).2≠(pl[i]'(by omega)).2) (Y:∀k,vp.ownBlock=some k->ap.ownBlock≠some k)
  (T:Value->World->World->Prop) (S:Value->Nat->Prop) (hS:∀u,(u.ownBlock=ap.ownBlock\/∃k,w.heap.size<=k/\u.ownBlock=some k)->¬S u p/\∀k,vp.ownBlock=some k->¬S u k)
  (hT:∀s V,JnM w (pl[i]'(by omega)).2 ap ac (a++b) s V->Calls Tryz.prog 63 #[.pointer (some ⟨(pl[i]'(by omega)).2,0,none⟩),bc] V fun r L=> r= .returned (.tuple #[])/\T s V L/\Mod (S s) V L):
  Calls Tryz.prog 174 #[.pointer (some ⟨p,0,none⟩),.int .i64 (i:Nat)] w fun r w'=> r= .returned (.bool true)/\∃s V L f,JnM w (pl[i]'(by omega)).2 ap ac (a++b) s V/\T s V L/\Mod (S s) V L/\An w' p vi f vc/\Ap 0 w' f (pl.take (i+1)++pl.drop (i+2))/\f.ownBlock=vp.ownBlock/\Mod (fun k=> k=p\/vp.ownBlock=some k) L w':=by
 obtain ⟨n0,f7,f8,-⟩:=hn.cells;obtain ⟨g,m,rfl,hc,-,hg,x0,x1⟩:=hp.at i (by omega);obtain ⟨J,g0,e,-,-,-,y0,y1⟩:=hp.at (i+1) hi;simp only [Value.slice.injEq,Option.some.injEq,Addr.mk.injEq,and_true,true_and] at e;obtain ⟨rfl,rfl⟩:=e;obtain ⟨C,d,rfl⟩:=Ab b6;obtain ⟨ba,A,rfl⟩:=Ab b7;obtain ⟨ca,cn,b3,rfl⟩:=f9;have HS:=hid (fun W (hW:W.heap=w.heap)=> Ly _ _ _ _ _ _ _ _ none C none ba 0 a.length 0 b.length 0 d 0 A W (show An W _ _ _ _ by unfold An;rw [hW];exact ha) (show An W _ _ _ _ by unfold An;rw [hW];exact hb) rfl rfl rfl rfl (by omega) (by omega) (by omega) (by omega));have e5:Hid ((decide (0+0<=12)&&decide (a.length+b.length<=3))=true):=by show _=_;simp [hs]
 have HN:=hid hn;have HP:=hid hp;have HA:=hid ha;have Z:=hid hb;have b8:=hid b6;have b9:=hid b7;have e6:=hid e4;have c1:=hid X;have HT:=hid hT;have c3:=hid hS;generalize (pl[i]'(by omega)).2=B at*;generalize (pl[i+1]'hi).2=pb at*;have q1:decide ((i:Int) < 0)=false:=decide_eq_false (by omega);have q2:decide ((pl.length:Int)<=(i:Int)+1)=false:=decide_eq_false (by omega);have q3:¬((pl.length:Int)<=(i:Int)+1):=by omega
 have q4:i < pl.length:=by omega
 have q5:(i:Int)+1 < (pl.length:Int):=by omega
 have q6:decide (b.length=0)=false:=decide_eq_false (by omega);have c4:Hid ((Value.slice C a.length d).ownBlock≠some g):=Y g rfl;clear hn hp ha hb b6 b7 e4 X Y hT hS;go_enter Tryz.func174,Tryz.ntmps174;go_upto_region 3 with fail;go_quiet (fail);go_wp2_with fail;refine (HS.out (w.drewN nq) rfl).mono ?_;rintro r n ⟨rfl,d8⟩;rw [e5.out];have c:Hid (Below w.heap.size w n):=(Am (Below.refl _ w) nq).trans d8;have G:An n pb (.slice none 0 0) (.slice ba b.length A) (.slice ca cn b3):=(c.out.block pb Z.out.lt).trans Z.out;have a3:An n B (.slice none 0 0) (.slice C a.length d) ac:=(c.out.block B HA.out.lt).trans HA.out;have a4:Hid (An n p vi (.slice (some ⟨g,0,none⟩) pl.length m) vc):=(c.out.block p HN.out.lt).trans HN.out;have a5:Hid (Ap 0 n (.slice (some ⟨g,0,none⟩) pl.length m) pl):=Aa HP.out c.out (Nat.le_refl _);obtain ⟨a0,a1,a2,f0,f1,f2⟩:=a3.cells;obtain ⟨b0,b1,b2,-⟩:=G.cells;have e7:=hid (Et pb _ _ _ _ _ n G);have I:=hid a3;have c5:=hid G;clear d8 HS a3 G n0 f7 f8 x0 x1 y0 y1;have o:Ap 0 n (.slice C a.length d) a:=Aa b8.out c.out (Nat.le_refl _);have N:Ap 0 n (.slice ba b.length A) b:=Aa b9.out c.out (Nat.le_refl _);obtain ⟨v2,F,e2,o2,g2,k2⟩:=Nm n.drew 121 121 132 Tryz.underlying121 _ 2 24 Fi rfl (by decide) (by decide) (.slice C a.length d) (.slice ba b.length A) a.length b.length (pcells a) (pcells b) o N (Ea b) (by omega);have e8:=hid e2;have e9:Hid ((Value.slice C a.length d).ownBlock≠some p):=Aq a4.out o (by decide);have c6:Hid ((Value.slice C a.length d).ownBlock≠some B):=Aq I.out o (by decide);have c7:Hid ((Value.slice C a.length d).ownBlock≠some pb):=Aq c5.out o (by decide);have t:Mod (fun k=> (Value.slice C a.length d).ownBlock=some k) n.drew F:=Mod.of_grown g2;have D:An F B (.slice none 0 0) (.slice C a.length d) ac:=t.nod (w:=n.drew) I.out c6.out;have O:An F pb (.slice none 0 0) (.slice ba b.length A) (.slice ca cn b3):=t.nod (w:=n.drew) c5.out c7.out;have c8:An F p vi (.slice (some ⟨g,0,none⟩) pl.length m) vc:=t.nod (w:=n.drew) a4.out e9.out;have c9:Ap 0 F (.slice (some ⟨g,0,none⟩) pl.length m) pl:=t.row (w:=n.drew) a5.out (fun J l q=> by
  have:g=J:=by simpa [Value.ownBlock] using l
  exact c4.out (by rw [this];exact q))
 obtain ⟨va,vn,j,rfl⟩:=Ey o2;obtain ⟨d0,d1,d2,e0,e1,-⟩:=D.cells;have m3:=Mod.setCell F B 1 (.slice va vn j);have R:g≠B:=fun q=> Aq I.out a5.out (by decide) (by rw [<-q];rfl)
 have d3:g≠p:=fun q=> Aq a4.out a5.out (by decide) (by rw [<-q];rfl)
 have a6:Hid (An (F.setCell ⟨B,1,none⟩ (.slice va vn j)) p vi (.slice (some ⟨g,0,none⟩) pl.length m) vc):=m3.nod c8 (fun q=> e6.out q.symm);have U:Hid (An (F.setCell ⟨B,1,none⟩ (.slice va vn j)) pb (.slice none 0 0) (.slice ba b.length A) (.slice ca cn b3)):=m3.nod O c1.out;have d4:Hid (Ap 0 (F.setCell ⟨B,1,none⟩ (.slice va vn j)) (.slice (some ⟨g,0,none⟩) pl.length m) pl):=m3.row c9 (fun J l q=> by
  have:g=J:=by simpa [Value.ownBlock] using l
  exact R (by rw [this];exact q))
 have d5:(Value.slice va vn j).ownBlock≠some B:=by
  have g5:n.drew.heap.size=n.heap.size:=rfl;have z1:=I.out.lt;rcases k2 with k2 | k2
  ·rw [k2];exact c6.out
  ·rw [k2];intro q;have:=Option.some.inj q;omega
 have HJ:Hid (JnM w B (.slice C a.length d) ac (a++b) (.slice va vn j) (F.setCell ⟨B,1,none⟩ (.slice va vn j))):=by
  refine ⟨D.setp _,m3.row ?_ (fun J l q=> d5 (by rw [<-q];exact l)),?_,k2.imp id fun q=> ⟨_,c.out.size,q⟩⟩
  ·rw [List.length_append,Cg];exact o2
  ·have a1:Mod (fun _=> False) w n.drew:=⟨c.out.os,c.out.tape,c.out.output,c.out.size,fun k hk _=> c.out.block k hk⟩;exact (a1.trans t (H:=fun k=> k=B\/(Value.slice C a.length d).ownBlock=some k) (fun _ _ q=> q.elim) (fun _ _ q=> .inr q)).trans m3 (fun _ _ q=> q) (fun _ _ q=> .inl q)
 have d6:=hid (HT.out _ _ HJ.out);have a7:=hid (c3.out _ HJ.out.blk);have d7:=hid d3;obtain ⟨c0,g8,c2,g9,h0,h1⟩:=a6.out.cells;obtain ⟨u0,u1,u2,-⟩:=U.out.cells;clear e2 o2 g2 k2 t D O c8 c9 m3 R d5 o N b9 HP HA Z b8 d3 HT c3;have g6:IntKind.i64.wrap ((i:Int)+1)=(i:Int)+1:=by rw [IntKind.wrap_i64];omega
 have g7:IntKind.i64.wrap ((i:Int)+2)=(i:Int)+2:=by rw [IntKind.wrap_i64];omega
 go_wp2_with fail;refine e7.out.mono ?_;rintro r n ⟨rfl,rfl⟩;rw [q6];go_upto_region 8 with fail
 go_region_law (refine Nf _ (by rfl) (.tmp 58) (.tmp 62) _ _ (by rfl) _ _ (by rfl) (by simp [Act.eval]) _ _ e8.out ?_)
 all_goals
  go_wp2_with fail;refine d6.out.mono ?_;rintro r L ⟨rfl,d9,M⟩;have f3:=hid d9;have f4:=hid M;have a8:=M.nod a6.out a7.out.1;have f5:Hid (Ap 0 L (.slice (some ⟨g,0,none⟩) pl.length m) pl):=M.row d4.out (fun J l=> a7.out.2 J l);have f6:=hid a8;obtain ⟨r0,r1,r2,-⟩:=a8.cells;have HD:=hid (Ur _ pl (i+1) _ hi f5.out (by omega));clear d9 M a8 d6 a6 d4 U a7;go_wp2_with fail;refine HD.out.mono ?_;rintro r w5 ⟨f,rfl,b4,e3,b5⟩;have m5:=Mod.of_grown e3;have a9:=m5.nod f6.out (fun q=> d7.out (Option.some.inj q));have m6:=Mod.setCell w5 p 1 f;have HF:Hid (An (w5.setCell ⟨p,1,none⟩ f) p vi f vc/\Ap 0 (w5.setCell ⟨p,1,none⟩ f) f (pl.take (i+1)++pl.drop (i+2))/\f.ownBlock=(Value.slice (some ⟨g,0,none⟩) pl.length m).ownBlock/\Mod (fun k=> k=p\/(Value.slice (some ⟨g,0,none⟩) pl.length m).ownBlock=some k) L (w5.setCell ⟨p,1,none⟩ f)):=by
   refine ⟨a9.setp f,m6.row b4 (fun J l q=> ?_),b5,m5.trans m6 (fun k _ q=> .inr q) (fun k _ q=> .inl q)⟩;rw [b5] at l;exact d7.out ((show g=J from Option.some.inj l).trans q)
  obtain ⟨h2,g1,h3,h4,h5,h6⟩:=a9.cells;obtain ⟨ua,un,g3,hu⟩:=Ey b4;clear m5 a9 m6 b4 e3 b5;subst hu;go_wp2_with fail;go_ret;exact ⟨rfl,_,_,_,_,HJ.out,f3.out,f4.out,HF.out⟩
end Go.Proofs.YtolgpnaoaodepaaGreat
namespace Go.Proofs.YtolgpnaoaodepaaGreat.Tr
theorem Aei {c a k:Key} {m:Option Key} (f:room a m) (h:inR c (some a) k):inR c m k:=⟨h.1,fun b d=> Cz (h.2 a rfl) (f b d).1⟩
theorem Abi {b a k:Key} {m:Option Key} (c:room b (some a)) (h:inR a m k):inR b m k:=⟨fun q=> h.1 (Cz q (c a rfl).1),h.2⟩
theorem Aio {h:Nat} (b a:Key) (c d:Ac h) (k:Key):val (h+1) ([(b,c),(a,d)],[]) k=if k < a then val h c k else val h d k:=by
 by_cases q:k < a
 ·rw [if_pos q];have:ix ([(b,c),(a,d)].map (·.1)) k=0:=by show ix [b,a] k=0;rw [ix,if_pos q]
  rw [val,this];rfl
 ·rw [if_neg q];have:ix ([(b,c),(a,d)].map (·.1)) k=1:=by show ix [b,a] k=1;rw [ix,if_neg q];rfl
  rw [val,this];rfl
theorem Am6 {f b:Key} {m:Option Key} {j k:Ac 0} (g:room f (some b)) (i:room b m) (c:WF 0 f (some b) j) (d:WF 0 b m k):WF 0 f m (its j++its k):=by
 refine ⟨List.pairwise_append.2 ⟨c.1,d.1,fun x a y l=> ?_⟩,fun x a=> ?_⟩
 ·exact Hq ((c.2 x a).1.2 b rfl) (d.2 y l).1.1
 ·rcases List.mem_append.1 a with a | a
  ·exact ⟨Aei i (c.2 x a).1,(c.2 x a).2⟩
  ·exact ⟨Abi g (d.2 x a).1,(d.2 x a).2⟩
theorem join0_val {f a:Key} {m:Option Key} {b c:Ac 0} (g:WF 0 f (some a) b) (i:WF 0 a m c) (k:Key):val 0 (its b++its c) k=val 1 ([(f,b),(a,c)],[]) k:=by
 rw [Aio];show Bj (its b++its c) k=_;rw [Es];by_cases q:k < a
 ·rw [if_pos q,Ce (l:=its c),Option.or_none];rfl;intro x d e;have:=(i.2 x d).1.1;rw [e] at this;exact this q
 ·rw [if_neg q,Ce (l:=its b),Option.none_or];rfl;intro x d e;have:=(g.2 x d).1.2 a rfl;rw [e] at this;exact q this
theorem Am7 {h:Nat} {l f:Key} {m:Option Key} {a b:List (Key×Ac h)} {d g:List Ch} (i:room f m) (j:WF (h+1) l (some f) (brT a d)) (n:WF (h+1) f m (brT b g)):WF (h+1) l m (brT (a++b) d):=
 ⟨Bc.2 ⟨some f,j.1,n.1⟩,fun c k=> ⟨Aei i (j.2 c k).1,(j.2 c k).2⟩⟩
theorem Ajv {h:Nat} {j l:Key} {m:Option Key} {d g:List (Key×Ac h)} {a i:List Ch} (p:WF (h+1) j (some l) (brT d a)) (r:WF (h+1) l m (brT g i)) {k:Key} (C:inR j m k):Aj i k (val (h+1) (brT (d++g) a) k)=val (h+2) ([(j,brT d a),(l,brT g i)],[]) k:=by
 rw [Aio];have u:∀(y:List (Key×Ac h)) (z:List Ch),val (h+1) (brT y z) k=Aj z k (val (h+1) (brT y []) k):=fun _ _=> rfl
 by_cases q:k < l
 ·have n:=Ft (R:=fun f m t=> WF h f m t/\Top h t) (lo:=some j) (A:=[]) (X:=d) (B:=g) (f:=j) rfl p.1 r.1 a (k:=k) ⟨C.1,fun b F=> by rw [<-Option.some.inj F];exact q⟩;rw [if_pos q,u d a,Dv i]
  ·exact n
  ·intro c o e;have:=(r.2 c o).1.1;rw [e] at this;exact this q
 ·have n:=Ft (R:=fun f m t=> WF h f m t/\Top h t) (lo:=some j) (A:=d) (X:=g) (B:=[]) (f:=l) p.1 r.1 rfl a (k:=k) ⟨q,C.2⟩;rw [List.append_nil] at n;have D:∀s,Aj a k s=s:=fun s=> Dv a k s fun c o e=> by
   have:=(p.2 c o).1.2 l rfl;rw [e] at this;exact q this
  rw [D] at n;rw [if_neg q,u g i];exact congrArg (Aj i k) n
end Go.Proofs.YtolgpnaoaodepaaGreat.Tr
