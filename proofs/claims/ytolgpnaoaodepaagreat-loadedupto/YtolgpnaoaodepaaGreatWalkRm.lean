import Derived.Test.YtolgpnaoaodepaaGreatTreZWm
namespace Go.Proofs.YtolgpnaoaodepaaGreat
open Go.RowKit
theorem Amg (v:ByteArray):v.toList.isEmpty=decide (v.size=0):=by
 rw [Ah];by_cases h:v.size=0
 ·rw [List.length_eq_zero_iff.1 (show v.data.toList.length=0 by rw [len_size];exact h),decide_eq_true h];rfl
 ·rw [decide_eq_false h,List.isEmpty_eq_false_iff];intro e;exact h (by rw [<-len_size,e];rfl)
set_option maxHeartbeats 1000000 in
set_option maxRecDepth 100000 in
theorem Rn (kd:Int) (k v:ByteArray) (w:World):
  Calls Tryz.prog 36 #[.agg #[.int .i64 kd,.string k,.string v]] w fun r w'=> r= .returned (.bool (Pg.Bt kd k.size v.size))/\Below w.heap.size w w':=by
 have c:=hid ((Below.refl w.heap.size w).alloc (Nat.le_refl _) (.cells #[.int .i64 kd,.string k,.string v] 34));have l:∀W,Calls Tryz.prog 60 #[.string k] W fun r w'=> r= .returned (.bool (Pg.Ei k.size))/\w'=W:=fun W=> Tb k W
 have p:∀W,Calls Tryz.prog 61 #[.string v] W fun r w'=> r= .returned (.bool (decide (v.size<=16)))/\w'=W:=fun W=> Uv v W
 have m:Hid (Pg.Bt kd k.size v.size=(Pg.Ei k.size&&decide (v.size<=16)&&(decide (kd=1) || decide (kd=3) || (decide (kd=2)&&decide (v.size=0))))):=rfl;have q:=hid (Amg v);generalize n:Pg.Ei k.size=d at*;clear n;go_enter Tryz.func36,Tryz.ntmps36;by_cases a:kd=1\/kd=3
 ·have b:Hid (Pg.Bt kd k.size v.size=(d&&decide (v.size<=16))):=by
   show _=_;rw [m.out];rcases a with h | h <;> rw [h] <;> simp
  generalize o:decide (v.size<=16)=y at*;clear o;rcases a with h | h
  ·subst h;go_wp2_with fail;refine (l _).mono ?_;rintro r i ⟨rfl,rfl⟩
   cases d
   ·go_wp2_with fail;go_ret;exact ⟨by rw [b.out];rfl,c.out⟩
   ·go_wp2_with fail;refine (p _).mono ?_;rintro r i ⟨rfl,rfl⟩;go_wp2_with fail;go_ret;exact ⟨by rw [b.out];rfl,c.out⟩
  ·subst h;go_wp2_with fail;refine (l _).mono ?_;rintro r i ⟨rfl,rfl⟩
   cases d
   ·go_wp2_with fail;go_ret;exact ⟨by rw [b.out];rfl,c.out⟩
   ·go_wp2_with fail;refine (p _).mono ?_;rintro r i ⟨rfl,rfl⟩;go_wp2_with fail;go_ret;exact ⟨by rw [b.out];rfl,c.out⟩
 ·have f:¬kd=1:=fun h=> a (.inl h)
  have g:¬kd=3:=fun h=> a (.inr h)
  clear a;have s:(kd==1)=false:=by simpa using f
  have t:(kd==3)=false:=by simpa using g
  by_cases j:kd=2
  ·have b:Hid (Pg.Bt kd k.size v.size=(d&&decide (v.size=0))):=by
    show _=_;rw [m.out,j];by_cases h0:v.size=0
    ·rw [h0];cases d <;> simp
    ·rw [decide_eq_false h0];simp
   subst j;go_wp2_with fail;refine (l _).mono ?_;rintro r i ⟨rfl,rfl⟩
   cases d
   ·go_wp2_with fail;go_ret;exact ⟨by rw [b.out];rfl,c.out⟩
   ·go_wp2_with fail;go_ret;exact ⟨by rw [b.out,<-q.out];rfl,c.out⟩
  ·have b:Hid (Pg.Bt kd k.size v.size=false):=by
    show _=_;rw [m.out,decide_eq_false f,decide_eq_false g,decide_eq_false j];simp
   have u:(kd==2)=false:=(by simpa using j);go_wp2_with fail;go_ret;exact ⟨by rw [b.out];rfl,c.out⟩
set_option maxHeartbeats 1000000 in
set_option maxRecDepth 100000 in
theorem Xy (v:Value) (l:List (Int×ByteArray×ByteArray)) (w:World) (O:Ug w v l):
  Calls Tryz.prog 198 #[v] w fun r w'=> r= .returned (.bool (decide (l.length<=8)&&(plainCh l).all Pg.Ax))/\Below w.heap.size w w':=by
 obtain ⟨R,vc,rfl,S,f⟩:=O;have D:=hid f;clear f;go_enter Tryz.func198,Tryz.ntmps198;by_cases V:8 < l.length
 ·go_wp2_with fail;go_ret;exact ⟨Fz (by rw [decide_eq_false (show ¬l.length<=8 by omega)];rfl),Below.refl _ _⟩
 ·have C:Hid ((decide (l.length<=8)&&(plainCh l).all Pg.Ax)=(plainCh l).all Pg.Ax):=by
   show _=_;rw [decide_eq_true (show l.length<=8 by omega)];rfl
  go_wp2_with fail
  go_loopw [10] (fun i wr=>∃k:Nat,k<=l.length/\i= .int .i64 k/\(plainCh (l.drop k)).all Pg.Ax=(plainCh l).all Pg.Ax/\Below w.heap.size w wr) (fun i _=> l.length - (intOf i).toNat)
  case atStart=> exact ⟨0,Nat.zero_le _,rfl,rfl,Below.refl _ _⟩
  case round=>
   obtain ⟨k,T,rfl,n,c⟩:=hrel;have d:=hid n;have g:=hid c;have j:=c.size;clear n c;by_cases a:k < l.length
   ·obtain ⟨b,I,A,B,o⟩:=D.out.resolve_left (by omega);subst A;obtain ⟨J,L,M⟩:=o.below g.out B k a;clear o;have u:Hid (plainCh (l.drop k)=((l[k]'a).1,(l[k]'a).2.1.data.toList,(l[k]'a).2.2.data.toList)::plainCh (l.drop (k+1))):=by
     show _=_;rw [List.drop_eq_getElem_cons a];rfl
    generalize l[k]'a=x at*;obtain ⟨p,q,s⟩:=x;simp only at J L M;have y:=hid (g.out.alloc j (.cells #[.int .i64 p,.string q,.string s] 34));have z:Hid (Pg.Ax (p,q.data.toList,s.data.toList)=Pg.Bt p q.size s.size):=by
     show _=_;unfold Pg.Ax;simp only [len_size]
    rw [u.out,List.all_cons,z.out] at d;go_wp2_with fail;refine (Rn p q s _).mono ?_;rintro r U ⟨rfl,t⟩;have m:=hid (y.out.trans (t.mono (by simp;omega)));clear t;generalize Pg.Bt p q.size s.size=N at*
    cases N
    ·have F:Hid ((plainCh l).all Pg.Ax=false):=by
      show _=_;rw [<-d.out];rfl
     go_wp2_with fail;go_ret;exact ⟨by rw [C.out,F.out];rfl,m.out⟩
    ·have G:Hid ((plainCh (l.drop (k+1))).all Pg.Ax=(plainCh l).all Pg.Ax):=by
      show _=_;rw [<-d.out];rfl
     go_wp2_with fail
     go_roundw
     case rel=> exact ⟨k+1,by omega,by go_num,G.out,m.out⟩
     case measure=> simp [intOf];omega
   ·have H:Hid ((plainCh l).all Pg.Ax=true):=by
     show _=_;rw [<-d.out,List.drop_eq_nil_of_le (by omega)];rfl
    go_wp2_with fail;go_ret;exact ⟨by rw [C.out,H.out];rfl,g.out⟩
set_option maxHeartbeats 1000000 in
set_option maxRecDepth 100000 in
theorem Ah8 (kd:Int) (v1:Value) (p q s:Option Addr) (d f g t u y:Nat) (l:List (ByteArray×ByteArray)) (w:World) (z:Eu w v1 l) (L:l.length<=1000000000):
  Calls Tryz.prog 140 #[.agg #[.int .i64 kd,v1,.slice p d t,.slice q f u,.slice s g y]] w fun r w'=> r= .returned (.bool (Pg.Dl none (plain l)&&decide (l.length<=16)&&decide (d=0)&&decide (f=0)&&decide (g=0)))/\Below w.heap.size w w':=by
 generalize c:(Pg.Dl none (plain l)&&decide (l.length<=16)&&decide (d=0)&&decide (f=0)&&decide (g=0))=J;have a:=hid c;clear c;obtain ⟨A,B,rfl⟩:=z.shape;have D:=hid z;clear z;have b:=hid ((Below.refl w.heap.size w).alloc (Nat.le_refl _) (.cells #[.int .i64 kd,.slice A l.length B,.slice p d t,.slice q f u,.slice s g y] 79));have m:=hid (D.out.below ((Below.refl w.heap.size w).alloc (Nat.le_refl _) (.cells #[.int .i64 kd,.slice A l.length B,.slice p d t,.slice q f u,.slice s g y] 79)));go_enter Tryz.func140,Tryz.ntmps140;by_cases k:d=0
 ·by_cases o:f=0
  ·by_cases C:g=0
   ·subst k o C;by_cases j:l.length<=16
    ·have F:Hid ((Pg.Dl none (plain l)&&decide (l.length<=16)&&decide (0=0)&&decide (0=0)&&decide (0=0))=Pg.Dl none (plain l)):=by
      show _=_;rw [decide_eq_true j];simp
     go_wp2_with fail;refine (Rm _ l _ m.out L).mono ?_;rintro r M ⟨rfl,i⟩;have n:=hid (b.out.trans (i.mono (by simp)));clear i;generalize Pg.Dl none (plain l)=N at*;go_wp2_with fail;go_ret;exact ⟨by rw [<-a.out,F.out];rfl,n.out⟩
    ·go_wp2_with fail;go_ret;exact ⟨Fz (by rw [<-a.out,decide_eq_false j];simp),b.out⟩
   ·have G:0 < g:=(by omega);subst k o;go_wp2_with fail;go_ret;exact ⟨Fz (by rw [<-a.out,decide_eq_false C];simp),b.out⟩
  ·have H:0 < f:=(by omega);subst k;go_wp2_with fail;go_ret;exact ⟨Fz (by rw [<-a.out,decide_eq_false o];simp),b.out⟩
 ·have I:0 < d:=by omega
  go_wp2_with fail;go_ret;exact ⟨Fz (by rw [<-a.out,decide_eq_false k];simp),b.out⟩
set_option maxHeartbeats 1000000 in
set_option maxRecDepth 100000 in
theorem Acs (v:Value) (kd:Int) (il:List (ByteArray×ByteArray)) (cl:List Int) (pl:List ByteArray) (ml:List (Int×ByteArray×ByteArray)) (w:World) (hv:Kv w v kd il cl pl ml):
  Calls Tryz.prog 141 #[v] w fun r w'=> r= .returned (.bool (Pg.Az (lists pl) none&&cl.all Pg.Bv&&(plainCh ml).all Pg.Ax&&decide (il.length=0)&&decide (1<=cl.length)&&decide (cl.length<=4)&&decide (pl.length+1=cl.length)&&decide (ml.length<=8)))/\Below w.heap.size w w':=by
 generalize d:(Pg.Az (lists pl) none&&cl.all Pg.Bv&&(plainCh ml).all Pg.Ax&&decide (il.length=0)&&decide (1<=cl.length)&&decide (cl.length<=4)&&decide (pl.length+1=cl.length)&&decide (ml.length<=8))=W;have c:=hid d;clear d;obtain ⟨v1,v2,v3,v4,rfl,h1,a8,R,S,T⟩:=hv;obtain ⟨l,m,rfl⟩:=h1.shape;obtain ⟨n,o,rfl,a9,-⟩:=id R;obtain ⟨u,A,rfl,b0,-⟩:=id S;obtain ⟨B,C,rfl,b1,-⟩:=id T;have g:=(Below.refl w.heap.size w).alloc (Nat.le_refl _) (.cells #[.int .i64 kd,.slice l il.length m,.slice n cl.length o,.slice u pl.length A,.slice B ml.length C] 79);have i:=hid g;have H2:=hid (R.below g);have X:=hid (S.below g);have Y:=hid (T.below g);have H:Hid ((w.alloc (.cells #[.int .i64 kd,.slice l il.length m,.slice n cl.length o,.slice u pl.length A,.slice B ml.length C] 79)).heap[w.heap.size]?=some (.cells #[.int .i64 kd,.slice l il.length m,.slice n cl.length o,.slice u pl.length A,.slice B ml.length C] 79 (0,0))):=heap_alloc_new _ _;have a0:w.heap.size < (w.alloc (.cells #[.int .i64 kd,.slice l il.length m,.slice n cl.length o,.slice u pl.length A,.slice B ml.length C] 79)).heap.size:=by simp
 clear g h1 R S T;go_enter Tryz.func141,Tryz.ntmps141;by_cases hi:0 < il.length
 ·go_wp2_with fail;go_ret;exact ⟨Fz (by rw [<-c.out,decide_eq_false (show ¬il.length=0 by omega)];simp),i.out⟩
 ·have I:Hid (decide (il.length=0)=true):=by exact decide_eq_true (by omega)
  go_wp2_with fail;generalize w.alloc (.cells #[.int .i64 kd,.slice l il.length m,.slice n cl.length o,.slice u pl.length A,.slice B ml.length C] 79)=w0 at*;refine (Vs _ cl _ H2.out).mono ?_;rintro r w1 ⟨rfl,a⟩;have f:=hid (i.out.trans (a.mono (by omega)));obtain ⟨m0,m1,m2,m3,m4⟩:=Jm ((a.block w.heap.size (by omega)).trans H.out);have J:=hid (X.out.below a);have L:=hid (Y.out.below a);have a5:=a.size;have M:=hid ((a.block w.heap.size (by omega)).trans H.out);clear a X Y H;have Z:Hid ((decide (1<=cl.length)&&decide (cl.length<=4)&&cl.all Pg.Bv)=(cl.all Pg.Bv&&decide (1<=cl.length)&&decide (cl.length<=4))):=by
   show _=_;generalize cl.all Pg.Bv=x;generalize decide (1<=cl.length)=y;generalize decide (cl.length<=4)=z;cases x <;> cases y <;> cases z <;> rfl
  generalize V:(decide (1<=cl.length)&&decide (cl.length<=4)&&cl.all Pg.Bv)=cc at*;have F:Hid (W=(cc&&decide (pl.length+1=cl.length)&&Pg.Az (lists pl) none&&(decide (ml.length<=8)&&(plainCh ml).all Pg.Ax))):=by
   show _=_;rw [<-c.out,Z.out,I.out];generalize cl.all Pg.Bv=x;generalize decide (1<=cl.length)=y;generalize decide (cl.length<=4)=z;generalize Pg.Az (lists pl) none=p;generalize (plainCh ml).all Pg.Ax=q;generalize decide (pl.length+1=cl.length)=s;generalize decide (ml.length<=8)=t
   cases x <;> cases y <;> cases z <;> cases p <;> cases q <;> cases s <;> cases t <;> rfl
  clear V Z
  cases cc
  ·go_wp2_with fail;go_ret;exact ⟨by rw [F.out];rfl,f.out⟩
  ·by_cases U:pl.length+1=cl.length
   ·have N:((pl.length:Int)==(cl.length:Int) - 1)=true:=(by simp;omega);have G:Hid (decide (pl.length+1=cl.length)=true):=(by exact decide_eq_true U);have a6:1<=cl.length:=(by omega);clear U;go_wp2_with fail;refine (Uw _ pl _ J.out).mono ?_;rintro r w2 ⟨rfl,b⟩;have j:=hid (f.out.trans (b.mono (by omega)));have k:=hid (L.out.below b);clear m0 m1 m2 m3 m4;obtain ⟨m0,m1,m2,m3,m4⟩:=Jm ((b.block w.heap.size (by omega)).trans M.out);have a7:=b.size;clear b;generalize Pg.Az (lists pl) none=pp at*
    cases pp
    ·go_wp2_with fail;go_ret;exact ⟨by rw [F.out,G.out];rfl,j.out⟩
    ·go_wp2_with fail;refine (Xy _ ml _ k.out).mono ?_;rintro r w3 ⟨rfl,D⟩;have O:=hid (j.out.trans (D.mono (by omega)));clear D;generalize (decide (ml.length<=8)&&(plainCh ml).all Pg.Ax)=mm at*;go_wp2_with fail;go_ret;exact ⟨by rw [F.out,G.out];rfl,O.out⟩
   ·have N:((pl.length:Int)==(cl.length:Int) - 1)=false:=(by simp;omega);have G:Hid (decide (pl.length+1=cl.length)=false):=(by exact decide_eq_false U);go_wp2_with fail;go_ret;exact ⟨by rw [F.out,G.out];rfl,f.out⟩
theorem Ux {il:List (ByteArray×ByteArray)} {cl:List Int} {pl:List ByteArray} {ml:List (Int×ByteArray×ByteArray)} (kd:Int) (a:kd≠1) (x:Bool) (b:(Pg.Az (lists pl) none&&cl.all Pg.Bv&&(plainCh ml).all Pg.Ax&&decide (il.length=0)&&decide (1<=cl.length)&&decide (cl.length<=4)&&decide (pl.length+1=cl.length)&&decide (ml.length<=8))=x):Pg.well kd (plain il) cl (lists pl) (plainCh ml)=(decide (kd=2)&&x):=by
 unfold Pg.well;rw [if_neg a,<-b];simp only [plain,lists,plainCh,List.length_map];generalize cl.all Pg.Bv=x;generalize decide (1<=cl.length)=y;generalize decide (cl.length<=4)=z;generalize Pg.Az _ none=p;generalize (List.all _ Pg.Ax)=q;generalize decide (pl.length+1=cl.length)=s;generalize decide (ml.length<=8)=t;generalize decide (il.length=0)=u;generalize decide (kd=2)=k
 cases x <;> cases y <;> cases z <;> cases p <;> cases q <;> cases s <;> cases t <;> cases u <;> cases k <;> rfl
set_option maxHeartbeats 1000000 in
set_option maxRecDepth 100000 in
theorem Xz (v:Value) (kd:Int) (il:List (ByteArray×ByteArray)) (cl:List Int) (pl:List ByteArray) (ml:List (Int×ByteArray×ByteArray)) (w:World) (H:Kv w v kd il cl pl ml):
  Calls Tryz.prog 80 #[v] w fun r w'=> r= .returned (.bool (Pg.well kd (plain il) cl (lists pl) (plainCh ml)))/\Below w.heap.size w w':=by
 have I:=hid H;generalize f:Pg.well kd (plain il) cl (lists pl) (plainCh ml)=j;have c:=hid f;clear f;obtain ⟨v1,v2,v3,v4,rfl,q,s,t,u,y⟩:=H;obtain ⟨N,O,rfl⟩:=q.shape;obtain ⟨z,A,rfl,R,-⟩:=id t;obtain ⟨B,C,rfl,S,-⟩:=id u;obtain ⟨D,F,rfl,T,-⟩:=id y;have k:=(Below.refl w.heap.size w).alloc (Nat.le_refl _) (.cells #[.int .i64 kd,.slice N il.length O,.slice z cl.length A,.slice B pl.length C,.slice D ml.length F] 79);have g:=hid k;have J:=hid (q.below k);have l:=hid (I.out.below k);clear k q t u y;go_enter Tryz.func80,Tryz.ntmps80;by_cases a:kd=1
 ·have L:Hid (j=(Pg.Dl none (plain il)&&decide (il.length<=16)&&decide (cl.length=0)&&decide (pl.length=0)&&decide (ml.length=0))):=by
   show _=_;rw [<-c.out];unfold Pg.well;rw [if_pos a];simp only [plain,lists,plainCh,List.length_map]
  have M:(kd==1)=true:=by simpa using a
  clear a;go_wp2_with fail;refine (Ah8 kd _ z B D cl.length pl.length ml.length A C F il _ J.out s).mono ?_;rintro r U ⟨rfl,d⟩;have i:=hid (g.out.trans (d.mono (by simp)));clear d;rw [<-L.out];go_wp2_with fail;go_ret;exact ⟨rfl,i.out⟩
 ·have M:(kd==1)=false:=by simpa using a
  by_cases b:kd=2
  ·have m:(kd==2)=true:=(by simpa using b);have n:=hid (decide_eq_true b);have o:=hid a;clear a b;go_wp2_with fail;refine (Acs _ kd il cl pl ml _ l.out).mono ?_;rintro r U ⟨rfl,d⟩;have i:=hid (g.out.trans (d.mono (by simp)));clear d;generalize G:(Pg.Az (lists pl) none&&cl.all Pg.Bv&&(plainCh ml).all Pg.Ax&&decide (il.length=0)&&decide (1<=cl.length)&&decide (cl.length<=4)&&decide (pl.length+1=cl.length)&&decide (ml.length<=8))=x;have p:Hid (j=x):=by
    show _=_;rw [<-c.out,Ux kd o.out x G,n.out];rfl
   clear G;go_wp2_with fail;go_ret;exact ⟨by rw [p.out];rfl,i.out⟩
  ·have m:(kd==2)=false:=(by simpa using b);have p:Hid (j=false):=by
    show _=_;rw [<-c.out,Ux kd a _ rfl,decide_eq_false b];rfl
   clear a b;go_wp2_with fail;go_ret;exact ⟨by rw [p.out];rfl,g.out⟩
theorem Aov (w:World) {k:Array Oper} {o:Oper} {a:Act} {K:Act->World->Prop} {Q:Exit->Act->World->Prop} {E:Prop} (y:o.guard=none) (z x:Operand)
  (F:o.op=Op.call {callee:=Callee.builtin Builtin.append,args:= #[z,x],argTypes:= #[108,108]}) (B:Nat) (v:Value) (l:List UInt8) (G:a.eval z=v) (m:Bh B w v l)
  (b:UInt8) (g:Nat) (H:a.eval x= .slice (some ⟨g,0,none⟩) 1 1) (c:w.cell? ⟨g,0,none⟩=some (.int .u8 (b.toNat:Int))) (J:l.length+1<=1000000000) (I:B<=w.heap.size)
  (h:∀(d:Value) (w':World),Bh B w' d (l++[b])->Hl w w' v d->K (a.put o.dst d) w'):if Region.wanted o (yielded k a.tmps)=true then Oper.wp Tryz.prog o a w K Q else E:=by
 have A:Region.wanted o (yielded k a.tmps)=true:=by simp [Region.wanted,y]
 rw [if_pos A];obtain ⟨i,hi,p,q,r⟩:=info_parts Iz;obtain ⟨d,w',f,s,D,_,t⟩:=run_append_own_at (P:=Tryz.prog) w B 108 o.type 5 i (.int .u8 0) 1 1 Tryz.underlying108 hi p q r rfl (by decide) v l.length (Lib.byteCells l) m ⟨g,0,none⟩ 1 1 (Lib.byteCells [b]) rfl (fun j u n=> by
  match j,n with
  | 0,n=> simp [Lib.byteCells] at n;subst n;simpa [Addr.add] using c) (Ku [b]) (by unfold maxLen;omega) (by omega) I
 have C:K (a.put o.dst d) w':=by
  refine h d w' ?_ ⟨D,t.imp_right fun e=> ⟨w.heap.size,Nat.le_refl _,e⟩⟩;unfold Bh;rw [List.length_append,Lib.byteCells_append];exact s
 unfold Oper.wp;simp [execOp,F,resolve,invoke,builtin,G,H,f,Result.andThen];exact C
set_option maxHeartbeats 1000000 in
set_option maxRecDepth 100000 in
theorem Acu (v2 v3:Value) (cl:List Nat) (pl:List ByteArray) (w:World) (h2:Iv w v2 cl.length (Bk cl)) (h3:Iv w v3 pl.length (pl.map .string)) (hc:cl.length<=1000) (hp:pl.length<=1000) (d:∀c∈cl,c<=9223372036854775807) (B:∀p∈pl,p.size<=100000):
  Calls Tryz.prog 181 #[v2,v3] w fun r w'=>∃W,r= .returned W/\Bh w.heap.size w' W (Pg.Ev cl (lists pl))/\Below w.heap.size w w':=by
 obtain ⟨a2,p2,rfl,-,I⟩:=h2;obtain ⟨a3,p3,rfl,-,J⟩:=h3;have X:=hid I;have Y:=hid J;have M:=hid d;have N:=hid B;clear I J d B;go_enter Tryz.func181,Tryz.ntmps181;go_wp2_with fail
 go_loopw [5,12] (fun u i wr=>∃(k:Nat) (o:List UInt8),k<=cl.length/\i= .int .i64 k/\Bh w.heap.size wr u o/\Below w.heap.size w wr/\o.length<=10*k/\o++(cl.drop k).flatMap Pg.num=cl.flatMap Pg.num) (fun _ i _=> cl.length - (intOf i).toNat)
 case atStart=> exact ⟨0,[],Nat.zero_le _,rfl,Bh.nil _ _,Below.refl _ _,by simp,rfl⟩
 case round=>
  obtain ⟨k,o,hk,rfl,L,C,T,g⟩:=hrel;have t:=hid L;have y:=hid C;have a:=hid g;have f:=C.size;clear L C g;by_cases n:k < cl.length
  ·obtain ⟨b,U,D,F,d⟩:=X.out.resolve_left (by omega);subst D;have Z:=Agn (pl:=cl) d y.out F k n;clear d;have G:=M.out _ (List.getElem_mem n);rw [List.drop_eq_getElem_cons n,List.flatMap_cons] at a;generalize cl[k]'n=c at*;have a0:=Hu c G;go_wp2_with fail;refine (On w.heap.size u5 o c _ t.out f (by omega) G).mono ?_;rintro r w1 ⟨v1,rfl,l,m⟩;have z:=hid l;have A:=hid (y.out.trans (m.below t.out f));clear l m;go_wp2_with fail
   go_roundw
   case rel=> exact ⟨k+1,_,by omega,by go_num,z.out,A.out,by rw [List.length_append];omega,by rw [<-a.out,List.append_assoc]⟩
   case measure=> simp [intOf];omega
  ·have H:Hid (o=cl.flatMap Pg.num):=by
    show _=_;rw [<-a.out,List.drop_eq_nil_of_le (by omega)];simp
   go_wp2_with fail
   go_loopw [5,22] (fun u i V=>∃(j:Nat) (q:List UInt8),j<=pl.length/\i= .int .i64 j/\Bh w.heap.size V u q/\Below w.heap.size w V/\q.length<=10000+200000*j/\q++(lists (pl.drop j)).flatMap Pg.Ef=Pg.Ev cl (lists pl)) (fun _ i _=> pl.length - (intOf i).toNat)
   case atStart=> exact ⟨0,o,Nat.zero_le _,rfl,t.out,y.out,by omega,by rw [H.out];rfl⟩
   case round=>
    clear t y a f H n T hk;obtain ⟨j,q,hj,rfl,L,C,a1,g⟩:=hrel;have t:=hid L;have y:=hid C;have a:=hid g;have f:=C.size;clear L C g;by_cases s:j < pl.length
    ·obtain ⟨b,U,D,F,d⟩:=Y.out.resolve_left (by omega);subst D;have Z:=Ab0 (pl:=pl) d y.out F j s;clear d;have B:=N.out _ (List.getElem_mem s);have O:Hid (lists (pl.drop j)=(pl[j]'s).data.toList::lists (pl.drop (j+1))):=by
      show _=_;rw [List.drop_eq_getElem_cons s];rfl
     generalize pl[j]'s=p at*;rw [O.out,List.flatMap_cons] at a;have R:=Gl p.data.toList (by rw [len_size];omega);rw [len_size] at R;go_wp2_with fail;refine (Gr w.heap.size u5 q p _ t.out f (by omega) (by omega)).mono ?_;rintro r w1 ⟨v1,rfl,l,m⟩;have z:=hid l;have A:=hid (y.out.trans (m.below t.out f));clear l m;go_wp2_with fail
     go_roundw
     case rel=> exact ⟨j+1,_,by omega,by go_num,z.out,A.out,by rw [List.length_append];omega,by rw [<-a.out,List.append_assoc]⟩
     case measure=> simp [intOf];omega
    ·have S:Hid (q=Pg.Ev cl (lists pl)):=by
      show _=_;rw [<-a.out,List.drop_eq_nil_of_le (by omega)];simp [lists]
     go_wp2_with fail;go_ret;exact ⟨_,rfl,by rw [<-S.out];exact t.out,y.out⟩
set_option maxHeartbeats 1000000 in
set_option maxRecDepth 100000 in
theorem Acv (v:Value) (l:List (Int×ByteArray×ByteArray)) (w:World) (hv:Ug w v l) (hl:l.length<=1000) (V:∀c∈l,0<=c.1/\c.1<=255/\c.2.1.size<=10000/\c.2.2.size<=10000):
  Calls Tryz.prog 182 #[v] w fun r w'=>∃v',r= .returned v'/\Bh w.heap.size w' v' (Pg.Df (plainCh l))/\Below w.heap.size w w':=by
 obtain ⟨va,vc,rfl,-,y⟩:=hv;have HV:=hid y;have W:=hid V;clear y V;obtain ⟨bt,J,L⟩:=Acj l.length;have X:=hid J;have Y:Hid ([bt]++(plainCh l).flatMap Pg.Dt=Pg.Df (plainCh l)):=by show _=_;unfold Pg.Df;rw [show (plainCh l).length=l.length by simp [plainCh],L]
 clear J L;go_enter Tryz.func182,Tryz.ntmps182;go_wp2_with fail;have t:=hid (Na w w.heap.size (Nat.le_refl _) [bt] #[.int .u8 ((l.length:Int) % 256)] (by simp [Lib.byteCells];rw [X.out];omega) (by simp));have D:=hid ((Below.refl w.heap.size w).alloc (Nat.le_refl _) (.cells #[.int .u8 ((l.length:Int) % 256)] 5))
 go_loopw [3,12] (fun u i wr=>∃(k:Nat) (o:List UInt8),k<=l.length/\i= .int .i64 k/\Bh w.heap.size wr u o/\Below w.heap.size w wr/\o.length<=1+30000*k/\o++(plainCh (l.drop k)).flatMap Pg.Dt=Pg.Df (plainCh l)) (fun _ i _=> l.length - (intOf i).toNat)
 case atStart=> exact ⟨0,[bt],Nat.zero_le _,rfl,t.out,D.out,by simp,Y.out⟩
 case round=>
  clear t D;obtain ⟨k,o,hk,rfl,ho,hb,c6,M⟩:=hrel;have Z:=hid ho;have HB:=hid hb;have q:=hid M;have a0:=hb.size;clear ho hb M;by_cases g:k < l.length
  ·obtain ⟨b,c7,b6,b7,N⟩:=HV.out.resolve_left (by omega);subst b6;obtain ⟨c0,c1,c2⟩:=N.below HB.out b7 k g;clear N;have a1:=W.out _ (List.getElem_mem g);have a2:Hid (plainCh (l.drop k)=((l[k]'g).1,(l[k]'g).2.1.data.toList,(l[k]'g).2.2.data.toList)::plainCh (l.drop (k+1))):=by
    show _=_;rw [List.drop_eq_getElem_cons g];rfl
   generalize l[k]'g=x at*;obtain ⟨ck,d,j⟩:=x;simp only at c0 c1 c2 a1;obtain ⟨a,rfl⟩:∃n:Nat,ck=(n:Int):=⟨ck.toNat,by omega⟩;obtain ⟨B,b8,z⟩:=Acj a;have a3:Hid (Pg.Dt ((a:Int),d.data.toList,j.data.toList)=[B]++Pg.Ef d.data.toList++(if (a:Int)=2 then [] else Pg.Ef j.data.toList)):=by
    show _=_;unfold Pg.Dt;simp only [Int.toNat_natCast];rw [z]
   have a4:Hid ((B.toNat:Int)=IntKind.u8.wrap (a:Int)):=(by show _=_;rw [show IntKind.u8.wrap (a:Int)=(a:Int) % 256 from rfl];omega);rw [a2.out,List.flatMap_cons,a3.out] at q;clear b8 z;have D0:=hid (show (wr.alloc (.cells #[.int .i64 (a:Int),.string d,.string j] 34)).cell? ⟨wr.heap.size,0,none⟩=some (.int .i64 (a:Int)) by simp);have D1:=hid (show (wr.alloc (.cells #[.int .i64 (a:Int),.string d,.string j] 34)).cell? ⟨wr.heap.size,1,none⟩=some (.string d) by simp);have D2:=hid (show (wr.alloc (.cells #[.int .i64 (a:Int),.string d,.string j] 34)).cell? ⟨wr.heap.size,2,none⟩=some (.string j) by simp);have a5:=hid (HB.out.alloc a0 (.cells #[.int .i64 (a:Int),.string d,.string j] 34));have a6:=hid (Z.out.alloc (.cells #[.int .i64 (a:Int),.string d,.string j] 34));have s:=hid (Agq Z.out (Nat.le_refl wr.heap.size));have b9:wr.heap.size < (wr.alloc (.cells #[.int .i64 (a:Int),.string d,.string j] 34)).heap.size:=(by simp);go_wp2_with fail;generalize wr.alloc (.cells #[.int .i64 (a:Int),.string d,.string j] 34)=m at*;generalize wr.heap.size=C at*;clear c0 c1 c2;have d0:=D0.out;have d1:=D1.out;have d2:=D2.out;have F:Hid (Bh w.heap.size ((m.alloc (.cells #[.int .u8 (IntKind.u8.wrap (a:Int))] 5)).drew) u3 o):=((a6.out.alloc _).drew);have a7:Hid (((m.alloc (.cells #[.int .u8 (IntKind.u8.wrap (a:Int))] 5)).drew).cell? ⟨m.heap.size,0,none⟩=some (.int .u8 (B.toNat:Int))):=by
    show _=_;rw [a4.out];simp
   have a8:=hid ((a5.out.alloc (by omega) (.cells #[.int .u8 (IntKind.u8.wrap (a:Int))] 5)).drew);have e0:((m.alloc (.cells #[.int .u8 (IntKind.u8.wrap (a:Int))] 5)).drew).cell? ⟨C,0,none⟩=some (.int .i64 (a:Int)):=by
    show (m.alloc _).cell? _=_;rw [World.cell?_alloc_past _ _ _ (by show C < _;omega)];exact d0
   have e1:((m.alloc (.cells #[.int .u8 (IntKind.u8.wrap (a:Int))] 5)).drew).cell? ⟨C,1,none⟩=some (.string d):=by
    show (m.alloc _).cell? _=_;rw [World.cell?_alloc_past _ _ _ (by show C < _;omega)];exact d1
   have e2:((m.alloc (.cells #[.int .u8 (IntKind.u8.wrap (a:Int))] 5)).drew).cell? ⟨C,2,none⟩=some (.string j):=by
    show (m.alloc _).cell? _=_;rw [World.cell?_alloc_past _ _ _ (by show C < _;omega)];exact d2
   have c3:m.heap.size < ((m.alloc (.cells #[.int .u8 (IntKind.u8.wrap (a:Int))] 5)).drew).heap.size:=by simp
   go_region_law (first
    | (refine Aov _ (by rfl) (.tmp 16) (.tmp 20) (by rfl) w.heap.size u3 o (by simp [Act.eval]) F.out B m.heap.size (by simp [Act.eval]) a7.out (by omega) (by omega) ?_
       intro v4 w4 T f;have G:=hid T;have a9:=hid (a8.out.trans (f.below F.out (by omega)));have f0:=f.cell e0 s.out;have f1:=f.cell e1 s.out;have f2:=f.cell e2 s.out;have H:=hid (f.ne (by omega) s.out);have c4:=f.size;clear T f)
    | (go_simp
       refine (Gr w.heap.size v4 _ d _ G.out (by omega) (by simp;omega) (by omega)).mono ?_;rintro r w5 ⟨v5,rfl,O,p⟩;have A:=hid O;have I:=hid (a9.out.trans (p.below G.out (by omega)));have k0:=p.cell f0 H.out;have k2:=p.cell f2 H.out;have c5:=p.size;clear O p))
   all_goals
    have b0:=Gl d.data.toList (by rw [len_size];omega);rw [len_size] at b0;have b1:=Gl j.data.toList (by rw [len_size];omega);rw [len_size] at b1;by_cases U:a=2
    ·have b2:((a:Int)==2)=true:=(by simp;omega);have HG:Hid (o++[B]++Pg.Ef d.data.toList++(plainCh (l.drop (k+1))).flatMap Pg.Dt=Pg.Df (plainCh l)):=by
      show _=_;rw [<-q.out,if_pos (by omega)];simp
     clear U;go_wp2_with fail
     go_roundw
     case rel=> exact ⟨k+1,_,by omega,by go_num,A.out,I.out,by simp only [List.length_append,List.length_singleton];omega,HG.out⟩
     case measure=> simp [intOf];omega
    ·have b2:((a:Int)==2)=false:=(by simp;omega);have HG:Hid (o++[B]++Pg.Ef d.data.toList++Pg.Ef j.data.toList++(plainCh (l.drop (k+1))).flatMap Pg.Dt=Pg.Df (plainCh l)):=by
      show _=_;rw [<-q.out,if_neg (by omega)];simp
     clear U;go_wp2_with fail;refine (Gr w.heap.size v5 _ j _ A.out (by omega) (by simp only [List.length_append,List.length_singleton];omega) (by omega)).mono ?_;rintro r w6 ⟨v6,rfl,R,S⟩;have b3:=hid R;have b4:=hid (I.out.trans (S.below A.out (by omega)));clear R S;go_wp2_with fail
     go_roundw
     case rel=> exact ⟨k+1,_,by omega,by go_num,b3.out,b4.out,by simp only [List.length_append,List.length_singleton];omega,HG.out⟩
     case measure=> simp [intOf];omega
  ·have b5:Hid (o=Pg.Df (plainCh l)):=by
    show _=_;rw [<-q.out,List.drop_eq_nil_of_le (by omega)];simp [plainCh]
   go_wp2_with fail;go_ret;exact ⟨_,rfl,by rw [<-b5.out];exact Z.out,HB.out⟩
theorem Jv {α:Type} (f:α->List UInt8) (n:Nat):∀(l:List α),(∀x∈l,(f x).length<=n)->(l.flatMap f).length<=n*l.length
 | [],_=> by simp
 | x::r,h=> by
  rw [List.flatMap_cons,List.length_append,List.length_cons,Nat.mul_add];have b:=h x (by simp);have c:=Jv f n r (fun y a=> h y (by simp [a]));omega
theorem Aeq (cl:List Nat) (pl:List (List UInt8)) (j:cl.length<=4) (k:pl.length<=4) (i:∀c∈cl,c<=2147483647) (g:∀p∈pl,p.length<=12):(Pg.Ev cl pl).length<=400:=by
 unfold Pg.Ev;rw [List.length_append];have a:=Jv Pg.num 10 cl (fun c f=> Hu c (by have:=i c f;omega));have b:=Jv Pg.Ef 30 pl (fun p d=> by have:=Gl p (by have:=g p d;omega);have:=g p d;omega);omega
set_option maxHeartbeats 2000000 in
set_option maxRecDepth 100000 in
theorem Vt (kd:Int) (v1 v2 v3 v4:Value) (cl:List Nat) (pl:List ByteArray) (ml:List (Int×ByteArray×ByteArray)) (w:World) (h1:∃a n c,v1= .slice a n c) (h2:Iv w v2 cl.length (Bk cl)) (h3:Iv w v3 pl.length (pl.map .string)) (h4:Ug w v4 ml)
  (d3:cl.length<=4) (A:∀c∈cl,c<=2147483647) (d4:pl.length<=4) (B:∀p∈pl,p.size<=12) (f3:ml.length<=8) (j:∀c∈ml,(0<=c.1/\c.1<=255)/\c.2.1.size<=12/\c.2.2.size<=16):
  Calls Tryz.prog 130 #[.agg #[.int .i64 kd,v1,v2,v3,v4]] w fun r w'=> r= .returned (.string ⟨(Pg.Hc cl (lists pl) (plainCh ml)).toArray⟩)/\Below w.heap.size w w':=by
 obtain ⟨U,V,W,rfl⟩:=h1;obtain ⟨C,D,rfl,-,-⟩:=id h2;obtain ⟨X,Y,rfl,-,-⟩:=id h3;obtain ⟨Z,p4,rfl,-,-⟩:=id h4;have G:=(Below.refl w.heap.size w).alloc (Nat.le_refl _) (.cells #[.int .i64 kd,.slice U V W,.slice C cl.length D,.slice X pl.length Y,.slice Z ml.length p4] 79);have b3:=hid G;have H2:=hid (h2.below G);have H3:=hid (h3.below G);have H4:=hid (h4.below G);have HN:Hid ((w.alloc (.cells #[.int .i64 kd,.slice U V W,.slice C cl.length D,.slice X pl.length Y,.slice Z ml.length p4] 79)).heap[w.heap.size]?=some (.cells #[.int .i64 kd,.slice U V W,.slice C cl.length D,.slice X pl.length Y,.slice Z ml.length p4] 79 (0,0))):=heap_alloc_new _ _;have d7:w.heap.size < (w.alloc (.cells #[.int .i64 kd,.slice U V W,.slice C cl.length D,.slice X pl.length Y,.slice Z ml.length p4] 79)).heap.size:=by simp
 have d8:=Aeq cl (lists pl) d3 (by simp [lists];exact d4) A (by intro p hp;simp only [lists,List.mem_map] at hp;obtain ⟨f,hf,rfl⟩:=hp;rw [len_size];exact B f hf);have b4:=Agp (plainCh ml) (Ago (fun x hx=> ⟨⟨(j x hx).1.1,by have:=(j x hx).1.2;omega⟩,(j x hx).2⟩));have o:(plainCh ml).length=ml.length:=by simp [plainCh]
 rw [o] at b4;have H:=Pg.Gu [112] (Pg.Ev cl (lists pl)) (by omega);have I:=Pg.Gu [109] (Pg.Df (plainCh ml)) (by omega);have b5:=hid j;have b6:=hid B;have b7:=hid A;obtain ⟨q,a0,a5⟩:=Acj cl.length;have b8:=hid a0;have b9:Hid (Pg.Hc cl (lists pl) (plainCh ml)=Pg.sealed ([83,50,73,q]++Pg.low (Pg.Dg cl (lists pl)).length 2++Pg.low (Pg.Dh (plainCh ml)).length 2++List.replicate 56 0)++Pg.Dg cl (lists pl)++Pg.Dh (plainCh ml)):=by
  show _=_;unfold Pg.Hc;rw [a5];rfl
 have HP:Hid (Pg.Bg [112] (Pg.Ev cl (lists pl))=Pg.Dg cl (lists pl)):=rfl;have HM:Hid (Pg.Bg [109] (Pg.Df (plainCh ml))=Pg.Dh (plainCh ml)):=rfl;have d5:(Pg.Dg cl (lists pl)).length<=500:=by rw [<-HP.out];simp at H;omega
 have d6:(Pg.Dh (plainCh ml)).length<=600:=by rw [<-HM.out];simp at I;omega
 clear G h2 h3 h4 j B A a0 a5 H I o;go_enter Tryz.func130,Tryz.ntmps130;go_wp2_with fail;generalize w.alloc (.cells #[.int .i64 kd,.slice U V W,.slice C cl.length D,.slice X pl.length Y,.slice Z ml.length p4] 79)=w0 at*;refine (Acu _ _ cl pl _ H2.out H3.out (by omega) (by omega) (fun c hc=> by have:=b7.out c hc;omega) (fun p hp=> by have:=b6.out p hp;omega)).mono ?_;rintro r w1 ⟨u1,rfl,a6,d⟩;have c0:=hid a6;have J:=hid (H4.out.below d);have L:=hid ((d.block w.heap.size (by omega)).trans HN.out);have c1:=hid (b3.out.trans (d.mono (by omega)));have d9:=d.size;clear a6 d H2 H3 H4 HN;go_wp2_with fail;refine (Lr w0.heap.size 112 u1 _ _ c0.out (by omega)).mono ?_;rintro r w2 ⟨rfl,g⟩;have M:=hid (J.out.below g);have s:=hid ((g.block w.heap.size (by omega)).trans L.out);have c2:=hid (c1.out.trans (g.mono (by omega)));have e0:=g.size;obtain ⟨m0,m1,m2,m3,m4⟩:=Jm s.out;rw [HP.out];clear g J L;go_wp2_with fail;refine (Acv _ ml _ M.out (by omega) (fun c hc=> by have:=b5.out c hc;omega)).mono ?_;rintro r w3 ⟨u3,rfl,a7,l⟩;have c3:=hid a7;have N:=hid ((l.block w.heap.size (by omega)).trans s.out);have c4:=hid (c2.out.trans (l.mono (by omega)));have e3:=l.size;clear a7 l s m0 m1 m2 m3 m4;go_wp2_with fail;refine (Lr w2.heap.size 109 u3 _ _ c3.out (by omega)).mono ?_;rintro r F ⟨rfl,m⟩;have c5:=hid ((m.block w.heap.size (by omega)).trans N.out);have c6:=hid (c4.out.trans (m.mono (by omega)));have e4:=m.size;rw [HM.out];clear m N;obtain ⟨m0,m1,m2,m3,m4⟩:=Jm c5.out;generalize Pg.Dg cl (lists pl)=b at*;generalize Pg.Dh (plainCh ml)=i at*;have e6:=Ck b;have e7:=Ck i;have O:=Joins.run_convert_bytes_const_at (P:=Tryz.prog) F 108 5 #[.int .u8 83,.int .u8 50,.int .u8 73] 3 3 F.heap.size rfl Tryz.underlying108 Tryz.underlying5;have k2:(F.alloc (.cells #[.int .u8 83,.int .u8 50,.int .u8 73] 5 (3,4))).cell? ⟨w.heap.size,2,none⟩=some (.slice C cl.length D):=by
  rw [World.cell?_alloc_past _ _ _ (by show w.heap.size < _;omega)];exact m2
 go_wp2_with (first
  | (at_builtin;refine Apu F rfl (.tmp 17) (.tmp 22) rfl 83 50 73 _ _ _ _ rfl rfl rfl q ?_ F.heap.size (F.heap.size+1) rfl rfl rfl rfl w.heap.size (by omega) ?_))
 ·rw [b8.out];omega
 intro v5 w5 b1 b2 k5 d2 e5 f2;have R:=hid b1;have c7:=hid (c6.out.trans (b2.mono (by omega)));clear b1 b2 d2 e5 O m0 m1 m2 m3 m4 k2;go_wp2_with fail;refine (Nb w.heap.size v5 _ b.length _ R.out (by omega) (by simp)).mono ?_;rintro r w6 ⟨v6,rfl,a8,u⟩;have S:=hid a8;have c8:=hid (c7.out.trans (u.below R.out (by omega)));have e8:=u.size;have k:=Pg.Cp 2 b.length;clear a8 u;go_wp2_with fail;refine (Nb w.heap.size v6 _ i.length _ S.out (by omega) (by simp [k])).mono ?_;rintro r w7 ⟨v7,rfl,a9,y⟩;have T:=hid a9;have c9:=hid (c8.out.trans (y.below S.out (by omega)));have e9:=y.size;have t:=Pg.Cp 2 i.length;clear a9 y;go_wp2_with fail;refine (Qy w.heap.size v7 _ _ T.out (by omega) (by simp) (by simp [k,t])).mono ?_;rintro r w8 ⟨v8,rfl,z,b0⟩;have d0:Hid (Pg.sealed ([83,50,73,q]++Pg.low b.length 2++Pg.low i.length 2++List.replicate (64 - ([83,50,73,q]++Pg.low b.length 2++Pg.low i.length 2).length) 0)=Pg.sealed ([83,50,73,q]++Pg.low b.length 2++Pg.low i.length 2++List.replicate 56 0)):=by
  show _=_;rw [show ([83,50,73,q]++Pg.low b.length 2++Pg.low i.length 2).length=8 by simp [k,t]]
 rw [d0.out] at z;have O:=z.str;have d1:=hid (c9.out.trans (b0.below T.out (by omega)));have f0:(Pg.sealed ([83,50,73,q]++Pg.low b.length 2++Pg.low i.length 2++List.replicate 56 0)).length<=100:=by rw [Pg.Lb];simp [k,t]
 generalize Pg.sealed ([83,50,73,q]++Pg.low b.length 2++Pg.low i.length 2++List.replicate 56 0)=hs at*;have f1:=Ck hs;clear z b0;have e1:∀w,(Op.stringOp .add ⟨hs.toArray⟩ ⟨b.toArray⟩).run Tryz.prog w= .ok (.string (⟨hs.toArray⟩++⟨b.toArray⟩)) w:=fun w=> run_string_add_sum w _ _ (by omega)
 have e2:∀w,(Op.stringOp .add (⟨hs.toArray⟩++⟨b.toArray⟩) ⟨i.toArray⟩).run Tryz.prog w= .ok (.string (⟨hs.toArray⟩++⟨b.toArray⟩++⟨i.toArray⟩)) w:=fun w=> run_string_add_sum w _ _ (by rw [ByteArray.size_append'];omega)
 go_wp2_with fail;go_ret;exact ⟨Aic (by rw [b9.out];simp),d1.out⟩
theorem Ah9 (v:Value) (il:List (ByteArray×ByteArray)) (cl:List Int) (pl:List ByteArray) (ml:List (Int×ByteArray×ByteArray)) (w:World) (h:Kv w v 2 il cl pl ml) (f:Pg.well 2 (plain il) cl (lists pl) (plainCh ml)=true):
  Calls Tryz.prog 130 #[v] w fun r w'=> r= .returned (.string ⟨(Pg.page 2 (plain il) cl (lists pl) (plainCh ml)).toArray⟩)/\Below w.heap.size w w':=by
 obtain ⟨v1,v2,v3,v4,rfl,o,H,l,p,q⟩:=h;unfold Pg.well at f;unfold Pg.page;rw [if_pos rfl];rw [if_neg (by decide)] at f;simp only [Bool.and_eq_true,decide_eq_true_eq] at f;obtain ⟨⟨⟨⟨⟨⟨⟨⟨s,t⟩,u⟩,y⟩,_⟩,_⟩,g⟩,z⟩,A⟩:=f;have b:∀c∈cl,0<=c/\c<=2147483647:=fun c a=> by
  have:=List.all_eq_true.1 t c a;simpa [Pg.Bv] using this
 have m:cl.map (Value.int .i64)=Bk (cl.map Int.toNat):=by
  unfold Bk;rw [List.map_map];exact List.map_congr_left fun c a=> by have:=b c a;simp;omega
 have k:cl.length=(cl.map Int.toNat).length:=by simp
 rw [m,k] at l;have F:(lists pl).length=pl.length:=by simp [lists]
 have G:(plainCh ml).length=ml.length:=by simp [plainCh]
 obtain ⟨B,C,i⟩:=o.shape;refine Vt 2 v1 v2 v3 v4 (cl.map Int.toNat) pl ml w ⟨B,_,C,i⟩ l p q (by rw [<-k];exact g) (fun c a=> ?_) (by omega) (fun x j=> ?_) (by omega) (fun x j=> ?_)
 ·obtain ⟨d,D,rfl⟩:=List.mem_map.1 a;have:=b d D;omega
 ·have:=Pg.Ij _ _ s x.data.toList (List.mem_map.2 ⟨x,j,rfl⟩);simpa only [len_size] using this
 ·have:=List.all_eq_true.1 u (x.1,x.2.1.data.toList,x.2.2.data.toList) (List.mem_map.2 ⟨x,j,rfl⟩);simp only [Pg.Ax,Pg.Bt,Bool.and_eq_true,Bool.or_eq_true,decide_eq_true_eq,len_size] at this;have n:=Pg.Ii this.1.1;omega
theorem Ak2 {kd:Int} {il:List (List UInt8×List UInt8)} {cl:List Int} {pl:List (List UInt8)} {ml:List (Int×List UInt8×List UInt8)} (h:Pg.well kd il cl pl ml=true):kd=1\/kd=2:=by
 unfold Pg.well at h;by_cases a:kd=1
 ·exact .inl a
 ·rw [if_neg a] at h;simp only [Bool.and_eq_true,decide_eq_true_eq] at h;exact .inr h.1.1.1.1.1.2
theorem Ak3 {il:List (ByteArray×ByteArray)} {cl:List Int} {pl:List (List UInt8)} {ml:List (Int×List UInt8×List UInt8)} (h:Pg.well 1 (plain il) cl pl ml=true):il.length<=16/\∀x∈il,x.1.size<=12/\x.2.size<=16:=by
 unfold Pg.well at h;rw [if_pos rfl] at h;simp only [Bool.and_eq_true,decide_eq_true_eq] at h;obtain ⟨⟨⟨⟨a,b⟩,_⟩,_⟩,_⟩:=h;refine ⟨by simpa [plain] using b,fun x c=> ?_⟩;have:=Pg.Ab1 _ _ a (x.1.data.toList,x.2.data.toList) (List.mem_map.2 ⟨x,c,rfl⟩);simpa only [len_size] using this
set_option maxHeartbeats 1000000 in
set_option maxRecDepth 100000 in
theorem Jw (v:Value) (kd:Int) (il:List (ByteArray×ByteArray)) (cl:List Int) (pl:List ByteArray) (ml:List (Int×ByteArray×ByteArray)) (w:World) (h:Kv w v kd il cl pl ml) (d:Pg.well kd (plain il) cl (lists pl) (plainCh ml)=true):
  Calls Tryz.prog 66 #[v] w fun r w'=> r= .returned (.string ⟨(Pg.page kd (plain il) cl (lists pl) (plainCh ml)).toArray⟩)/\Below w.heap.size w w':=by
 have l:=hid h;obtain ⟨v1,v2,v3,v4,rfl,i,-,q,s,t⟩:=h;obtain ⟨u,y,rfl⟩:=i.shape;obtain ⟨z,A,rfl,-⟩:=q;obtain ⟨B,C,rfl,-⟩:=s;obtain ⟨D,F,rfl,-⟩:=t;have f:=(Below.refl w.heap.size w).alloc (Nat.le_refl _) (.cells #[.int .i64 kd,.slice u il.length y,.slice z cl.length A,.slice B pl.length C,.slice D ml.length F] 79);have c:=hid f;have m:=hid (i.below f);have g:=hid (l.out.below f);clear f i;go_enter Tryz.func66,Tryz.ntmps66;rcases Ak2 d with j | j
 ·subst j;obtain ⟨G,k⟩:=Ak3 d;have n:=hid k;have o:Hid (Pg.page 1 (plain il) cl (lists pl) (plainCh ml)=Pg.Sp (plain il)):=by show _=_;unfold Pg.page;rw [if_neg (by decide)]
  clear k d;go_wp2_with fail;refine (Aac _ il _ m.out G n.out).mono ?_;rintro r H ⟨rfl,a⟩;have b:=hid (c.out.trans (a.mono (by simp)));clear a;rw [<-o.out];go_wp2_with fail;go_ret;exact ⟨rfl,b.out⟩
 ·subst j;have p:=hid d;clear d;go_wp2_with fail;refine (Ah9 _ il cl pl ml _ g.out p.out).mono ?_;rintro r H ⟨rfl,a⟩;have b:=hid (c.out.trans (a.mono (by simp)));clear a;go_wp2_with fail;go_ret;exact ⟨rfl,b.out⟩
set_option maxHeartbeats 1000000 in
set_option maxRecDepth 100000 in
theorem Pj (v:Value) (kd:Int) (il:List (ByteArray×ByteArray)) (cl:List Int) (pl:List ByteArray) (ml:List (Int×ByteArray×ByteArray)) (w:World) (h:Kv w v kd il cl pl ml):
  Calls Tryz.prog 45 #[v] w fun r w'=> r= .returned (.tuple #[.string ⟨(Pg.Uh kd (plain il) cl (lists pl) (plainCh ml)).1.toArray⟩,.int .i64 (Pg.Uh kd (plain il) cl (lists pl) (plainCh ml)).2])/\Below w.heap.size w w':=by
 have A:=hid h;obtain ⟨v1,v2,v3,v4,rfl,z,-,G,H,I⟩:=h;obtain ⟨d,f,rfl⟩:=z.shape;obtain ⟨g,i,rfl,-⟩:=G;obtain ⟨j,k,rfl,-⟩:=H;obtain ⟨l,m,rfl,-⟩:=I;have p:=(Below.refl w.heap.size w).alloc (Nat.le_refl _) (.cells #[.int .i64 kd,.slice d il.length f,.slice g cl.length i,.slice j pl.length k,.slice l ml.length m] 79);have q:=hid p;have b:=hid (A.out.below p);have B:Hid ((w.alloc (.cells #[.int .i64 kd,.slice d il.length f,.slice g cl.length i,.slice j pl.length k,.slice l ml.length m] 79)).heap[w.heap.size]?=some (.cells #[.int .i64 kd,.slice d il.length f,.slice g cl.length i,.slice j pl.length k,.slice l ml.length m] 79 (0,0))):=heap_alloc_new _ _;have C:w.heap.size < (w.alloc (.cells #[.int .i64 kd,.slice d il.length f,.slice g cl.length i,.slice j pl.length k,.slice l ml.length m] 79)).heap.size:=by simp
 clear p z;go_enter Tryz.func45,Tryz.ntmps45;go_wp2_with fail;generalize w.alloc (.cells #[.int .i64 kd,.slice d il.length f,.slice g cl.length i,.slice j pl.length k,.slice l ml.length m] 79)=w0 at*;refine (Xz _ kd il cl pl ml _ b.out).mono ?_;rintro r R ⟨rfl,a⟩;have s:=hid ((a.block w.heap.size (by omega)).trans B.out);have t:=hid (b.out.below a);have c:=hid (q.out.trans (a.mono (by omega)));have D:=a.size;obtain ⟨J,L,M,N,O⟩:=Jm s.out;clear a
 cases o:Pg.well kd (plain il) cl (lists pl) (plainCh ml)
 ·have u:Hid (Pg.Uh kd (plain il) cl (lists pl) (plainCh ml)=([],1)):=by
   show _=_;unfold Pg.Uh;rw [o];rfl
  clear o;go_wp2_with fail;go_ret2;exact ⟨by rw [u.out];rfl,c.out⟩
 ·have u:Hid (Pg.Uh kd (plain il) cl (lists pl) (plainCh ml)=(Pg.page kd (plain il) cl (lists pl) (plainCh ml),0)):=by
   show _=_;unfold Pg.Uh;rw [o];rfl
  have F:=hid o;clear o;go_wp2_with fail;refine (Jw _ kd il cl pl ml _ t.out F.out).mono ?_;rintro r S ⟨rfl,n⟩;have y:=hid (c.out.trans (n.mono (by omega)));clear n;go_wp2_with fail;go_ret2;exact ⟨by rw [u.out];rfl,y.out⟩
end Go.Proofs.YtolgpnaoaodepaaGreat
