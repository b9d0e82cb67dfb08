import Derived.Test.YtolgpnaoaodepaaGreatTreZWm
namespace Go.Proofs.YtolgpnaoaodepaaGreat
open Go.RowKit
theorem empty_is (v:ByteArray):v.toList.isEmpty=decide (v.size=0):=by
 rw [toList_is]
 by_cases h:v.size=0
 ·rw [List.length_eq_zero_iff.1 (show v.data.toList.length=0 by rw [len_size];exact h),decide_eq_true h];rfl
 ·rw [decide_eq_false h,List.isEmpty_eq_false_iff]
  intro e;exact h (by rw [←len_size,e];rfl)
set_option maxHeartbeats 1000000 in
set_option maxRecDepth 100000 in
theorem isChange_any (kd:Int) (k v:ByteArray) (w:World):
  Calls Tryz.prog 36 #[.agg #[.int .i64 kd,.string k,.string v]] w fun r w'=> r= .returned (.bool (Pg.isChange kd k.size v.size))∧Below w.heap.size w w':=by
 have c:=hid ((Below.refl w.heap.size w).alloc (Nat.le_refl _) (.cells #[.int .i64 kd,.string k,.string v] 34))
 have j:∀W,Calls Tryz.prog 60 #[.string k] W fun r w'=> r= .returned (.bool (Pg.isKey k.size))∧w'=W:=fun W=> isKey_any k W
 have o:∀W,Calls Tryz.prog 61 #[.string v] W fun r w'=> r= .returned (.bool (decide (v.size≤16)))∧w'=W:=fun W=> isValue_any v W
 have l:Hid (Pg.isChange kd k.size v.size=(Pg.isKey k.size&&decide (v.size≤16)&&(decide (kd=1) || decide (kd=3) || (decide (kd=2)&&decide (v.size=0))))):=rfl
 have p:=hid (empty_is v)
 generalize m:Pg.isKey k.size=d at*
 clear m
 go_enter Tryz.func36,Tryz.ntmps36
 by_cases a:kd=1∨kd=3
 ·have b:Hid (Pg.isChange kd k.size v.size=(d&&decide (v.size≤16))):=by
   show _=_;rw [l.out];rcases a with h | h <;> rw [h] <;> simp
  generalize n:decide (v.size≤16)=u at*
  clear n
  rcases a with h | h
  ·subst h
   go_wp2_with fail
   refine (j _).mono ?_
   rintro r g ⟨rfl,rfl⟩
   cases d
   ·go_wp2_with fail
    go_ret
    exact ⟨by rw [b.out];rfl,c.out⟩
   ·go_wp2_with fail
    refine (o _).mono ?_
    rintro r g ⟨rfl,rfl⟩
    go_wp2_with fail
    go_ret
    exact ⟨by rw [b.out];rfl,c.out⟩
  ·subst h
   go_wp2_with fail
   refine (j _).mono ?_
   rintro r g ⟨rfl,rfl⟩
   cases d
   ·go_wp2_with fail
    go_ret
    exact ⟨by rw [b.out];rfl,c.out⟩
   ·go_wp2_with fail
    refine (o _).mono ?_
    rintro r g ⟨rfl,rfl⟩
    go_wp2_with fail
    go_ret
    exact ⟨by rw [b.out];rfl,c.out⟩
 ·have e:¬kd=1:=fun h=> a (.inl h)
  have f:¬kd=3:=fun h=> a (.inr h)
  clear a
  have q:(kd==1)=false:=by simpa using e
  have s:(kd==3)=false:=by simpa using f
  by_cases i:kd=2
  ·have b:Hid (Pg.isChange kd k.size v.size=(d&&decide (v.size=0))):=by
    show _=_;rw [l.out,i]
    by_cases h0:v.size=0
    ·rw [h0];cases d <;> simp
    ·rw [decide_eq_false h0];simp
   subst i
   go_wp2_with fail
   refine (j _).mono ?_
   rintro r g ⟨rfl,rfl⟩
   cases d
   ·go_wp2_with fail
    go_ret
    exact ⟨by rw [b.out];rfl,c.out⟩
   ·go_wp2_with fail
    go_ret
    exact ⟨by rw [b.out,←p.out];rfl,c.out⟩
  ·have b:Hid (Pg.isChange kd k.size v.size=false):=by
    show _=_;rw [l.out,decide_eq_false e,decide_eq_false f,decide_eq_false i];simp
   have t:(kd==2)=false:=by simpa using i
   go_wp2_with fail
   go_ret
   exact ⟨by rw [b.out];rfl,c.out⟩
set_option maxHeartbeats 1000000 in
set_option maxRecDepth 100000 in
theorem areChanges_any (v:Value) (l:List (Int×ByteArray×ByteArray)) (w:World) (K:IsChs w v l):
  Calls Tryz.prog 198 #[v] w fun r w'=> r= .returned (.bool (decide (l.length≤8)&&(plainCh l).all Pg.okChange))∧Below w.heap.size w w':=by
 obtain ⟨L,vc,rfl,M,e⟩:=K
 have B:=hid e
 clear e
 go_enter Tryz.func198,Tryz.ntmps198
 by_cases P:8 < l.length
 ·go_wp2_with fail
  go_ret
  exact ⟨ret_bool (by rw [decide_eq_false (show ¬l.length≤8 by omega)];rfl),Below.refl _ _⟩
 ·have A:Hid ((decide (l.length≤8)&&(plainCh l).all Pg.okChange)=(plainCh l).all Pg.okChange):=by
   show _=_;rw [decide_eq_true (show l.length≤8 by omega)];rfl
  go_wp2_with fail
  go_loopw [10] (fun i wr=>∃k:Nat,k≤l.length∧i= .int .i64 k∧(plainCh (l.drop k)).all Pg.okChange=(plainCh l).all Pg.okChange∧Below w.heap.size w wr) (fun i _=> l.length - (intOf i).toNat)
  case atStart=> exact ⟨0,Nat.zero_le _,rfl,rfl,Below.refl _ _⟩
  case round=>
   obtain ⟨k,N,rfl,j,c⟩:=hrel
   have d:=hid j
   have f:=hid c
   have g:=c.size
   clear j c
   by_cases a:k < l.length
   ·obtain ⟨b,F,y,z,m⟩:=B.out.resolve_left (by omega)
    subst y
    obtain ⟨G,H,I⟩:=m.below f.out z k a
    clear m
    have s:Hid (plainCh (l.drop k)=((l[k]'a).1,(l[k]'a).2.1.data.toList,(l[k]'a).2.2.data.toList)::plainCh (l.drop (k+1))):=by
     show _=_;rw [List.drop_eq_getElem_cons a];rfl
    generalize l[k]'a=x at*
    obtain ⟨n,o,p⟩:=x
    simp only at G H I
    have t:=hid (f.out.alloc g (.cells #[.int .i64 n,.string o,.string p] 34))
    have u:Hid (Pg.okChange (n,o.data.toList,p.data.toList)=Pg.isChange n o.size p.size):=by
     show _=_;unfold Pg.okChange;simp only [len_size]
    rw [s.out,List.all_cons,u.out] at d
    go_wp2_with fail
    refine (isChange_any n o p _).mono ?_
    rintro r O ⟨rfl,q⟩
    have h:=hid (t.out.trans (q.mono (by simp;omega)))
    clear q
    generalize Pg.isChange n o.size p.size=J at*
    cases J
    ·have C:Hid ((plainCh l).all Pg.okChange=false):=by
      show _=_;rw [←d.out];rfl
     go_wp2_with fail
     go_ret
     exact ⟨by rw [A.out,C.out];rfl,h.out⟩
    ·have D:Hid ((plainCh (l.drop (k+1))).all Pg.okChange=(plainCh l).all Pg.okChange):=by
      show _=_;rw [←d.out];rfl
     go_wp2_with fail
     go_roundw
     case rel=> exact ⟨k+1,by omega,by go_num,D.out,h.out⟩
     case measure=> simp [intOf];omega
   ·have E:Hid ((plainCh l).all Pg.okChange=true):=by
     show _=_;rw [←d.out,List.drop_eq_nil_of_le (by omega)];rfl
    go_wp2_with fail
    go_ret
    exact ⟨by rw [A.out,E.out];rfl,f.out⟩
set_option maxHeartbeats 1000000 in
set_option maxRecDepth 100000 in
theorem isLeaf_any (kd:Int) (v1:Value) (n o p:Option Addr) (d e f q s t:Nat) (l:List (ByteArray×ByteArray)) (w:World) (u:IsItems w v1 l) (F:l.length≤1000000000):
  Calls Tryz.prog 140 #[.agg #[.int .i64 kd,v1,.slice n d q,.slice o e s,.slice p f t]] w fun r w'=> r= .returned (.bool (Pg.okFrom none (plain l)&&decide (l.length≤16)&&decide (d=0)&&decide (e=0)&&decide (f=0)))∧Below w.heap.size w w':=by
 generalize c:(Pg.okFrom none (plain l)&&decide (l.length≤16)&&decide (d=0)&&decide (e=0)&&decide (f=0))=E
 have a:=hid c
 clear c
 obtain ⟨v,x,rfl⟩:=u.shape
 have z:=hid u
 clear u
 have b:=hid ((Below.refl w.heap.size w).alloc (Nat.le_refl _) (.cells #[.int .i64 kd,.slice v l.length x,.slice n d q,.slice o e s,.slice p f t] 79))
 have j:=hid (z.out.below ((Below.refl w.heap.size w).alloc (Nat.le_refl _) (.cells #[.int .i64 kd,.slice v l.length x,.slice n d q,.slice o e s,.slice p f t] 79)))
 go_enter Tryz.func140,Tryz.ntmps140
 by_cases i:d=0
 ·by_cases m:e=0
  ·by_cases y:f=0
   ·subst i m y
    by_cases h:l.length≤16
    ·have A:Hid ((Pg.okFrom none (plain l)&&decide (l.length≤16)&&decide (0=0)&&decide (0=0)&&decide (0=0))=Pg.okFrom none (plain l)):=by
      show _=_;rw [decide_eq_true h];simp
     go_wp2_with fail
     refine (areItems_any _ l _ j.out F).mono ?_
     rintro r G ⟨rfl,g⟩
     have k:=hid (b.out.trans (g.mono (by simp)))
     clear g
     generalize Pg.okFrom none (plain l)=H at*
     go_wp2_with fail
     go_ret
     exact ⟨by rw [←a.out,A.out];rfl,k.out⟩
    ·go_wp2_with fail
     go_ret
     exact ⟨ret_bool (by rw [←a.out,decide_eq_false h];simp),b.out⟩
   ·have B:0 < f:=by omega
    subst i m
    go_wp2_with fail
    go_ret
    exact ⟨ret_bool (by rw [←a.out,decide_eq_false y];simp),b.out⟩
  ·have C:0 < e:=by omega
   subst i
   go_wp2_with fail
   go_ret
   exact ⟨ret_bool (by rw [←a.out,decide_eq_false m];simp),b.out⟩
 ·have D:0 < d:=by omega
  go_wp2_with fail
  go_ret
  exact ⟨ret_bool (by rw [←a.out,decide_eq_false i];simp),b.out⟩
set_option maxHeartbeats 1000000 in
set_option maxRecDepth 100000 in
theorem isBranch_any (v:Value) (kd:Int) (il:List (ByteArray×ByteArray)) (cl:List Int) (pl:List ByteArray) (ml:List (Int×ByteArray×ByteArray)) (w:World) (hv:IsNode w v kd il cl pl ml):
  Calls Tryz.prog 141 #[v] w fun r w'=> r= .returned (.bool (Pg.okPivots (lists pl) none&&cl.all Pg.okChild&&(plainCh ml).all Pg.okChange&&decide (il.length=0)&&decide (1≤cl.length)&&decide (cl.length≤4)&&decide (pl.length+1=cl.length)&&decide (ml.length≤8)))∧Below w.heap.size w w':=by
 generalize d:(Pg.okPivots (lists pl) none&&cl.all Pg.okChild&&(plainCh ml).all Pg.okChange&&decide (il.length=0)&&decide (1≤cl.length)&&decide (cl.length≤4)&&decide (pl.length+1=cl.length)&&decide (ml.length≤8))=Q
 have c:=hid d
 clear d
 obtain ⟨v1,v2,v3,v4,rfl,U,a8,L,M,N⟩:=hv
 obtain ⟨j,k,rfl⟩:=U.shape
 obtain ⟨l,m,rfl,a9,-⟩:=id L
 obtain ⟨n,o,rfl,b0,-⟩:=id M
 obtain ⟨u,A,rfl,b1,-⟩:=id N
 have f:=(Below.refl w.heap.size w).alloc (Nat.le_refl _) (.cells #[.int .i64 kd,.slice j il.length k,.slice l cl.length m,.slice n pl.length o,.slice u ml.length A] 79)
 have g:=hid f
 have H2:=hid (L.below f)
 have R:=hid (M.below f)
 have S:=hid (N.below f)
 have E:Hid ((w.alloc (.cells #[.int .i64 kd,.slice j il.length k,.slice l cl.length m,.slice n pl.length o,.slice u ml.length A] 79)).heap[w.heap.size]?=some (.cells #[.int .i64 kd,.slice j il.length k,.slice l cl.length m,.slice n pl.length o,.slice u ml.length A] 79 (0,0))):=heap_alloc_new _ _
 have a0:w.heap.size < (w.alloc (.cells #[.int .i64 kd,.slice j il.length k,.slice l cl.length m,.slice n pl.length o,.slice u ml.length A] 79)).heap.size:=by simp
 clear f U L M N
 go_enter Tryz.func141,Tryz.ntmps141
 by_cases hi:0 < il.length
 ·go_wp2_with fail
  go_ret
  exact ⟨ret_bool (by rw [←c.out,decide_eq_false (show ¬il.length=0 by omega)];simp),g.out⟩
 ·have F:Hid (decide (il.length=0)=true):=by exact decide_eq_true (by omega)
  go_wp2_with fail
  generalize w.alloc (.cells #[.int .i64 kd,.slice j il.length k,.slice l cl.length m,.slice n pl.length o,.slice u ml.length A] 79)=w0 at*
  refine (areChildren_any _ cl _ H2.out).mono ?_
  rintro r w1 ⟨rfl,a⟩
  have e:=hid (g.out.trans (a.mono (by omega)))
  obtain ⟨V,W,X,Y,Z⟩:=node_cells ((a.block w.heap.size (by omega)).trans E.out)
  have G:=hid (R.out.below a)
  have H:=hid (S.out.below a)
  have a5:=a.size
  have I:=hid ((a.block w.heap.size (by omega)).trans E.out)
  clear a R S E
  have T:Hid ((decide (1≤cl.length)&&decide (cl.length≤4)&&cl.all Pg.okChild)=(cl.all Pg.okChild&&decide (1≤cl.length)&&decide (cl.length≤4))):=by
   show _=_;generalize cl.all Pg.okChild=x;generalize decide (1≤cl.length)=y;generalize decide (cl.length≤4)=z;cases x <;> cases y <;> cases z <;> rfl
  generalize P:(decide (1≤cl.length)&&decide (cl.length≤4)&&cl.all Pg.okChild)=cc at*
  have C:Hid (Q=(cc&&decide (pl.length+1=cl.length)&&Pg.okPivots (lists pl) none&&(decide (ml.length≤8)&&(plainCh ml).all Pg.okChange))):=by
   show _=_
   rw [←c.out,T.out,F.out]
   generalize cl.all Pg.okChild=x;generalize decide (1≤cl.length)=y;generalize decide (cl.length≤4)=z;generalize Pg.okPivots (lists pl) none=p;generalize (plainCh ml).all Pg.okChange=q;generalize decide (pl.length+1=cl.length)=s;generalize decide (ml.length≤8)=t
   cases x <;> cases y <;> cases z <;> cases p <;> cases q <;> cases s <;> cases t <;> rfl
  clear P T
  cases cc
  ·go_wp2_with fail
   go_ret
   exact ⟨by rw [C.out];rfl,e.out⟩
  ·by_cases O:pl.length+1=cl.length
   ·have J:((pl.length:Int)==(cl.length:Int) - 1)=true:=by simp;omega
    have D:Hid (decide (pl.length+1=cl.length)=true):=by exact decide_eq_true O
    have a6:1≤cl.length:=by omega
    clear O
    go_wp2_with fail
    refine (areKeys_any _ pl _ G.out).mono ?_
    rintro r w2 ⟨rfl,b⟩
    have h:=hid (e.out.trans (b.mono (by omega)))
    have i:=hid (H.out.below b)
    clear V W X Y Z
    obtain ⟨V,W,X,Y,Z⟩:=node_cells ((b.block w.heap.size (by omega)).trans I.out)
    have a7:=b.size
    clear b
    generalize Pg.okPivots (lists pl) none=pp at*
    cases pp
    ·go_wp2_with fail
     go_ret
     exact ⟨by rw [C.out,D.out];rfl,h.out⟩
    ·go_wp2_with fail
     refine (areChanges_any _ ml _ i.out).mono ?_
     rintro r w3 ⟨rfl,B⟩
     have K:=hid (h.out.trans (B.mono (by omega)))
     clear B
     generalize (decide (ml.length≤8)&&(plainCh ml).all Pg.okChange)=mm at*
     go_wp2_with fail
     go_ret
     exact ⟨by rw [C.out,D.out];rfl,K.out⟩
   ·have J:((pl.length:Int)==(cl.length:Int) - 1)=false:=by simp;omega
    have D:Hid (decide (pl.length+1=cl.length)=false):=by exact decide_eq_false O
    go_wp2_with fail
    go_ret
    exact ⟨by rw [C.out,D.out];rfl,e.out⟩
theorem node_branch {il:List (ByteArray×ByteArray)} {cl:List Int} {pl:List ByteArray} {ml:List (Int×ByteArray×ByteArray)} (kd:Int) (a:kd≠1) (x:Bool) (b:(Pg.okPivots (lists pl) none&&cl.all Pg.okChild&&(plainCh ml).all Pg.okChange&&decide (il.length=0)&&decide (1≤cl.length)&&decide (cl.length≤4)&&decide (pl.length+1=cl.length)&&decide (ml.length≤8))=x):Pg.well kd (plain il) cl (lists pl) (plainCh ml)=(decide (kd=2)&&x):=by
 unfold Pg.well
 rw [if_neg a,←b]
 simp only [plain,lists,plainCh,List.length_map]
 generalize cl.all Pg.okChild=x;generalize decide (1≤cl.length)=y;generalize decide (cl.length≤4)=z;generalize Pg.okPivots _ none=p;generalize (List.all _ Pg.okChange)=q;generalize decide (pl.length+1=cl.length)=s;generalize decide (ml.length≤8)=t;generalize decide (il.length=0)=u;generalize decide (kd=2)=k
 cases x <;> cases y <;> cases z <;> cases p <;> cases q <;> cases s <;> cases t <;> cases u <;> cases k <;> rfl
set_option maxHeartbeats 1000000 in
set_option maxRecDepth 100000 in
theorem isNode_any (v:Value) (kd:Int) (il:List (ByteArray×ByteArray)) (cl:List Int) (pl:List ByteArray) (ml:List (Int×ByteArray×ByteArray)) (w:World) (E:IsNode w v kd il cl pl ml):
  Calls Tryz.prog 80 #[v] w fun r w'=> r= .returned (.bool (Pg.well kd (plain il) cl (lists pl) (plainCh ml)))∧Below w.heap.size w w':=by
 have F:=hid E
 generalize e:Pg.well kd (plain il) cl (lists pl) (plainCh ml)=h
 have c:=hid e
 clear e
 obtain ⟨v1,v2,v3,v4,rfl,o,p,q,s,t⟩:=E
 obtain ⟨J,K,rfl⟩:=o.shape
 obtain ⟨u,y,rfl,L,-⟩:=id q
 obtain ⟨z,A,rfl,M,-⟩:=id s
 obtain ⟨B,C,rfl,N,-⟩:=id t
 have i:=(Below.refl w.heap.size w).alloc (Nat.le_refl _) (.cells #[.int .i64 kd,.slice J il.length K,.slice u cl.length y,.slice z pl.length A,.slice B ml.length C] 79)
 have f:=hid i
 have G:=hid (o.below i)
 have j:=hid (F.out.below i)
 clear i o q s t
 go_enter Tryz.func80,Tryz.ntmps80
 by_cases a:kd=1
 ·have H:Hid (h=(Pg.okFrom none (plain il)&&decide (il.length≤16)&&decide (cl.length=0)&&decide (pl.length=0)&&decide (ml.length=0))):=by
   show _=_;rw [←c.out];unfold Pg.well;rw [if_pos a];simp only [plain,lists,plainCh,List.length_map]
  have I:(kd==1)=true:=by simpa using a
  clear a
  go_wp2_with fail
  refine (isLeaf_any kd _ u z B cl.length pl.length ml.length y A C il _ G.out p).mono ?_
  rintro r O ⟨rfl,d⟩
  have g:=hid (f.out.trans (d.mono (by simp)))
  clear d
  rw [←H.out]
  go_wp2_with fail
  go_ret
  exact ⟨rfl,g.out⟩
 ·have I:(kd==1)=false:=by simpa using a
  by_cases b:kd=2
  ·have k:(kd==2)=true:=by simpa using b
   have l:=hid (decide_eq_true b)
   have m:=hid a
   clear a b
   go_wp2_with fail
   refine (isBranch_any _ kd il cl pl ml _ j.out).mono ?_
   rintro r O ⟨rfl,d⟩
   have g:=hid (f.out.trans (d.mono (by simp)))
   clear d
   generalize D:(Pg.okPivots (lists pl) none&&cl.all Pg.okChild&&(plainCh ml).all Pg.okChange&&decide (il.length=0)&&decide (1≤cl.length)&&decide (cl.length≤4)&&decide (pl.length+1=cl.length)&&decide (ml.length≤8))=x
   have n:Hid (h=x):=by
    show _=_;rw [←c.out,node_branch kd m.out x D,l.out];rfl
   clear D
   go_wp2_with fail
   go_ret
   exact ⟨by rw [n.out];rfl,g.out⟩
  ·have k:(kd==2)=false:=by simpa using b
   have n:Hid (h=false):=by
    show _=_;rw [←c.out,node_branch kd a _ rfl,decide_eq_false b];rfl
   clear a b
   go_wp2_with fail
   go_ret
   exact ⟨by rw [n.out];rfl,f.out⟩
end Go.Proofs.YtolgpnaoaodepaaGreat
namespace Go.Proofs.YtolgpnaoaodepaaGreat
open Go.RowKit
theorem stepAp1 (w:World) {k:Array Oper} {o:Oper} {a:Act} {K:Act→World→Prop} {Q:Exit→Act→World→Prop} {E:Prop} (y:o.guard=none) (z x:Operand)
  (F:o.op=Op.call {callee:=Callee.builtin Builtin.append,args:= #[z,x],argTypes:= #[108,108]}) (B:Nat) (v:Value) (l:List UInt8) (G:a.eval z=v) (m:Owns B w v l)
  (b:UInt8) (g:Nat) (H:a.eval x= .slice (some ⟨g,0,none⟩) 1 1) (c:w.cell? ⟨g,0,none⟩=some (.int .u8 (b.toNat:Int))) (J:l.length+1≤1000000000) (I:B≤w.heap.size)
  (h:∀(d:Value) (w':World),Owns B w' d (l++[b])→Grew w w' v d→K (a.put o.dst d) w'):if Region.wanted o (yielded k a.tmps)=true then Oper.wp Tryz.prog o a w K Q else E:=by
 have A:Region.wanted o (yielded k a.tmps)=true:=by simp [Region.wanted,y]
 rw [if_pos A]
 obtain ⟨i,hi,p,q,r⟩:=info_parts info_u8
 obtain ⟨d,w',f,s,D,_,t⟩:=run_append_own_at (P:=Tryz.prog) w B 108 o.type 5 i (.int .u8 0) 1 1 Tryz.underlying108 hi p q r rfl (by decide) v l.length (Lib.byteCells l) m ⟨g,0,none⟩ 1 1 (Lib.byteCells [b]) rfl (fun j u n=> by
  match j,n with
  | 0,n=> simp [Lib.byteCells] at n;subst n;simpa [Addr.add] using c) (byteCells_one [b]) (by unfold maxLen;omega) (by omega) I
 have C:K (a.put o.dst d) w':=by
  refine h d w' ?_ ⟨D,t.imp_right fun e=> ⟨w.heap.size,Nat.le_refl _,e⟩⟩
  unfold Owns
  rw [List.length_append,Lib.byteCells_append]
  exact s
 unfold Oper.wp
 simp [execOp,F,resolve,invoke,builtin,G,H,f,Result.andThen]
 exact C
set_option maxHeartbeats 1000000 in
set_option maxRecDepth 100000 in
theorem children_any (v2 v3:Value) (cl:List Nat) (pl:List ByteArray) (w:World) (W:IsRow w v2 cl.length (ncells cl)) (X:IsRow w v3 pl.length (pl.map .string)) (hc:cl.length≤1000) (hp:pl.length≤1000) (d:∀c∈cl,c≤9223372036854775807) (x:∀p∈pl,p.size≤100000):
  Calls Tryz.prog 181 #[v2,v3] w fun r w'=>∃O,r= .returned O∧Owns w.heap.size w' O (Pg.pivotsC cl (lists pl))∧Below w.heap.size w w':=by
 obtain ⟨Y,Z,rfl,-,D⟩:=W
 obtain ⟨a3,p3,rfl,-,E⟩:=X
 have P:=hid D
 have Q:=hid E
 have G:=hid d
 have H:=hid x
 clear D E d x
 go_enter Tryz.func181,Tryz.ntmps181
 go_wp2_with fail
 go_loopw [5,12] (fun u i wr=>∃(k:Nat) (o:List UInt8),k≤cl.length∧i= .int .i64 k∧Owns w.heap.size wr u o∧Below w.heap.size w wr∧o.length≤10*k∧o++(cl.drop k).flatMap Pg.num=cl.flatMap Pg.num) (fun _ i _=> cl.length - (intOf i).toNat)
 case atStart=> exact ⟨0,[],Nat.zero_le _,rfl,Owns.nil _ _,Below.refl _ _,by simp,rfl⟩
 case round=>
  obtain ⟨k,o,T,rfl,F,y,L,f⟩:=hrel
  have n:=hid F
  have s:=hid y
  have a:=hid f
  have e:=y.size
  clear F y f
  by_cases l:k < cl.length
  ·obtain ⟨b,M,z,A,d⟩:=P.out.resolve_left (by omega)
   subst z
   have R:=rowAtN (pl:=cl) d s.out A k l
   clear d
   have B:=G.out _ (List.getElem_mem l)
   rw [List.drop_eq_getElem_cons l,List.flatMap_cons] at a
   generalize cl[k]'l=c at*
   have S:=num_short c B
   go_wp2_with fail
   refine (apNum_any w.heap.size u5 o c _ n.out e (by omega) B).mono ?_
   rintro r V ⟨v1,rfl,g,h⟩
   have t:=hid g
   have v:=hid (s.out.trans (h.below n.out e))
   clear g h
   go_wp2_with fail
   go_roundw
   case rel=> exact ⟨k+1,_,by omega,by go_num,t.out,v.out,by rw [List.length_append];omega,by rw [←a.out,List.append_assoc]⟩
   case measure=> simp [intOf];omega
  ·have C:Hid (o=cl.flatMap Pg.num):=by
    show _=_;rw [←a.out,List.drop_eq_nil_of_le (by omega)];simp
   go_wp2_with fail
   go_loopw [5,22] (fun u i N=>∃(j:Nat) (q:List UInt8),j≤pl.length∧i= .int .i64 j∧Owns w.heap.size N u q∧Below w.heap.size w N∧q.length≤10000+200000*j∧q++(lists (pl.drop j)).flatMap Pg.text=Pg.pivotsC cl (lists pl)) (fun _ i _=> pl.length - (intOf i).toNat)
   case atStart=> exact ⟨0,o,Nat.zero_le _,rfl,n.out,s.out,by omega,by rw [C.out];rfl⟩
   case round=>
    clear n s a e C l L T
    obtain ⟨j,q,hj,rfl,F,y,U,f⟩:=hrel
    have n:=hid F
    have s:=hid y
    have a:=hid f
    have e:=y.size
    clear F y f
    by_cases m:j < pl.length
    ·obtain ⟨b,M,z,A,d⟩:=Q.out.resolve_left (by omega)
     subst z
     have R:=rowAt (pl:=pl) d s.out A j m
     clear d
     have x:=H.out _ (List.getElem_mem m)
     have I:Hid (lists (pl.drop j)=(pl[j]'m).data.toList::lists (pl.drop (j+1))):=by
      show _=_;rw [List.drop_eq_getElem_cons m];rfl
     generalize pl[j]'m=p at*
     rw [I.out,List.flatMap_cons] at a
     have J:=text_len p.data.toList (by rw [len_size];omega)
     rw [len_size] at J
     go_wp2_with fail
     refine (apText_any w.heap.size u5 q p _ n.out e (by omega) (by omega)).mono ?_
     rintro r V ⟨v1,rfl,g,h⟩
     have t:=hid g
     have v:=hid (s.out.trans (h.below n.out e))
     clear g h
     go_wp2_with fail
     go_roundw
     case rel=> exact ⟨j+1,_,by omega,by go_num,t.out,v.out,by rw [List.length_append];omega,by rw [←a.out,List.append_assoc]⟩
     case measure=> simp [intOf];omega
    ·have K:Hid (q=Pg.pivotsC cl (lists pl)):=by
      show _=_;rw [←a.out,List.drop_eq_nil_of_le (by omega)];simp [lists]
     go_wp2_with fail
     go_ret
     exact ⟨_,rfl,by rw [←K.out];exact n.out,s.out⟩
set_option maxHeartbeats 1000000 in
set_option maxRecDepth 100000 in
theorem changesC_any (v:Value) (l:List (Int×ByteArray×ByteArray)) (w:World) (hv:IsChs w v l) (hl:l.length≤1000) (P:∀c∈l,0≤c.1∧c.1≤255∧c.2.1.size≤10000∧c.2.2.size≤10000):
  Calls Tryz.prog 182 #[v] w fun r w'=>∃v',r= .returned v'∧Owns w.heap.size w' v' (Pg.changes (plainCh l))∧Below w.heap.size w w':=by
 obtain ⟨va,vc,rfl,-,s⟩:=hv
 have HV:=hid s
 have Q:=hid P
 clear s P
 obtain ⟨bt,G,H⟩:=low1 l.length
 have R:=hid G
 have S:Hid ([bt]++(plainCh l).flatMap Pg.change1=Pg.changes (plainCh l)):=by show _=_;unfold Pg.changes;rw [show (plainCh l).length=l.length by simp [plainCh],H]
 clear G H
 go_enter Tryz.func182,Tryz.ntmps182
 go_wp2_with fail
 have q:=hid (owns_lit w w.heap.size (Nat.le_refl _) [bt] #[.int .u8 ((l.length:Int) % 256)] (by simp [Lib.byteCells];rw [R.out];omega) (by simp))
 have B:=hid ((Below.refl w.heap.size w).alloc (Nat.le_refl _) (.cells #[.int .u8 ((l.length:Int) % 256)] 5))
 go_loopw [3,12] (fun u i wr=>∃(k:Nat) (o:List UInt8),k≤l.length∧i= .int .i64 k∧Owns w.heap.size wr u o∧Below w.heap.size w wr∧o.length≤1+30000*k∧o++(plainCh (l.drop k)).flatMap Pg.change1=Pg.changes (plainCh l)) (fun _ i _=> l.length - (intOf i).toNat)
 case atStart=> exact ⟨0,[bt],Nat.zero_le _,rfl,q.out,B.out,by simp,S.out⟩
 case round=>
  clear q B
  obtain ⟨k,o,hk,rfl,ho,hb,b8,I⟩:=hrel
  have T:=hid ho
  have U:=hid hb
  have m:=hid I
  have V:=hb.size
  clear ho hb I
  by_cases f:k < l.length
  ·obtain ⟨b,b9,b1,b2,J⟩:=HV.out.resolve_left (by omega)
   subst b1
   obtain ⟨c0,c1,c2⟩:=J.below U.out b2 k f
   clear J
   have W:=Q.out _ (List.getElem_mem f)
   have X:Hid (plainCh (l.drop k)=((l[k]'f).1,(l[k]'f).2.1.data.toList,(l[k]'f).2.2.data.toList)::plainCh (l.drop (k+1))):=by
    show _=_;rw [List.drop_eq_getElem_cons f];rfl
   generalize l[k]'f=x at*
   obtain ⟨ck,d,g⟩:=x
   simp only at c0 c1 c2 W
   obtain ⟨a,rfl⟩:∃n:Nat,ck=(n:Int):=⟨ck.toNat,by omega⟩
   obtain ⟨z,b3,t⟩:=low1 a
   have Y:Hid (Pg.change1 ((a:Int),d.data.toList,g.data.toList)=[z]++Pg.text d.data.toList++(if (a:Int)=2 then [] else Pg.text g.data.toList)):=by
    show _=_;unfold Pg.change1;simp only [Int.toNat_natCast];rw [t]
   have Z:Hid ((z.toNat:Int)=IntKind.u8.wrap (a:Int)):=by show _=_;rw [show IntKind.u8.wrap (a:Int)=(a:Int) % 256 from rfl];omega
   rw [X.out,List.flatMap_cons,Y.out] at m
   clear b3 t
   have D0:=hid (show (wr.alloc (.cells #[.int .i64 (a:Int),.string d,.string g] 34)).cell? ⟨wr.heap.size,0,none⟩=some (.int .i64 (a:Int)) by simp)
   have D1:=hid (show (wr.alloc (.cells #[.int .i64 (a:Int),.string d,.string g] 34)).cell? ⟨wr.heap.size,1,none⟩=some (.string d) by simp)
   have D2:=hid (show (wr.alloc (.cells #[.int .i64 (a:Int),.string d,.string g] 34)).cell? ⟨wr.heap.size,2,none⟩=some (.string g) by simp)
   have a0:=hid (U.out.alloc V (.cells #[.int .i64 (a:Int),.string d,.string g] 34))
   have a1:=hid (T.out.alloc (.cells #[.int .i64 (a:Int),.string d,.string g] 34))
   have p:=hid (own_lt T.out (Nat.le_refl wr.heap.size))
   have b4:wr.heap.size < (wr.alloc (.cells #[.int .i64 (a:Int),.string d,.string g] 34)).heap.size:=by simp
   go_wp2_with fail
   generalize wr.alloc (.cells #[.int .i64 (a:Int),.string d,.string g] 34)=h at*
   generalize wr.heap.size=A at*
   clear c0 c1 c2
   have d0:=D0.out
   have d1:=D1.out
   have d2:=D2.out
   have C:Hid (Owns w.heap.size ((h.alloc (.cells #[.int .u8 (IntKind.u8.wrap (a:Int))] 5)).drew) u3 o):=((a1.out.alloc _).drew)
   have a2:Hid (((h.alloc (.cells #[.int .u8 (IntKind.u8.wrap (a:Int))] 5)).drew).cell? ⟨h.heap.size,0,none⟩=some (.int .u8 (z.toNat:Int))):=by
    show _=_;rw [Z.out];simp
   have a3:=hid ((a0.out.alloc (by omega) (.cells #[.int .u8 (IntKind.u8.wrap (a:Int))] 5)).drew)
   have e0:((h.alloc (.cells #[.int .u8 (IntKind.u8.wrap (a:Int))] 5)).drew).cell? ⟨A,0,none⟩=some (.int .i64 (a:Int)):=by
    show (h.alloc _).cell? _=_;rw [World.cell?_alloc_past _ _ _ (by show A < _;omega)];exact d0
   have e1:((h.alloc (.cells #[.int .u8 (IntKind.u8.wrap (a:Int))] 5)).drew).cell? ⟨A,1,none⟩=some (.string d):=by
    show (h.alloc _).cell? _=_;rw [World.cell?_alloc_past _ _ _ (by show A < _;omega)];exact d1
   have e2:((h.alloc (.cells #[.int .u8 (IntKind.u8.wrap (a:Int))] 5)).drew).cell? ⟨A,2,none⟩=some (.string g):=by
    show (h.alloc _).cell? _=_;rw [World.cell?_alloc_past _ _ _ (by show A < _;omega)];exact d2
   have b5:h.heap.size < ((h.alloc (.cells #[.int .u8 (IntKind.u8.wrap (a:Int))] 5)).drew).heap.size:=by simp
   go_region_law (first
    | (refine stepAp1 _ (by rfl) (.tmp 16) (.tmp 20) (by rfl) w.heap.size u3 o (by simp [Act.eval]) C.out z h.heap.size (by simp [Act.eval]) a2.out (by omega) (by omega) ?_
       intro v4 w4 N e
       have D:=hid N
       have a4:=hid (a3.out.trans (e.below C.out (by omega)))
       have f0:=e.cell e0 p.out
       have f1:=e.cell e1 p.out
       have f2:=e.cell e2 p.out
       have E:=hid (e.ne (by omega) p.out)
       have b6:=e.size
       clear N e)
    | (go_simp
       refine (apText_any w.heap.size v4 _ d _ D.out (by omega) (by simp;omega) (by omega)).mono ?_
       rintro r w5 ⟨v5,rfl,K,j⟩
       have y:=hid K
       have F:=hid (a4.out.trans (j.below D.out (by omega)))
       have k0:=j.cell f0 E.out
       have k2:=j.cell f2 E.out
       have b7:=j.size
       clear K j))
   all_goals
    have a5:=text_len d.data.toList (by rw [len_size];omega)
    rw [len_size] at a5
    have a6:=text_len g.data.toList (by rw [len_size];omega)
    rw [len_size] at a6
    by_cases O:a=2
    ·have a7:((a:Int)==2)=true:=by simp;omega
     have HG:Hid (o++[z]++Pg.text d.data.toList++(plainCh (l.drop (k+1))).flatMap Pg.change1=Pg.changes (plainCh l)):=by
      show _=_;rw [←m.out,if_pos (by omega)];simp
     clear O
     go_wp2_with fail
     go_roundw
     case rel=> exact ⟨k+1,_,by omega,by go_num,y.out,F.out,by simp only [List.length_append,List.length_singleton];omega,HG.out⟩
     case measure=> simp [intOf];omega
    ·have a7:((a:Int)==2)=false:=by simp;omega
     have HG:Hid (o++[z]++Pg.text d.data.toList++Pg.text g.data.toList++(plainCh (l.drop (k+1))).flatMap Pg.change1=Pg.changes (plainCh l)):=by
      show _=_;rw [←m.out,if_neg (by omega)];simp
     clear O
     go_wp2_with fail
     refine (apText_any w.heap.size v5 _ g _ y.out (by omega) (by simp only [List.length_append,List.length_singleton];omega) (by omega)).mono ?_
     rintro r w6 ⟨v6,rfl,L,M⟩
     have a8:=hid L
     have a9:=hid (F.out.trans (M.below y.out (by omega)))
     clear L M
     go_wp2_with fail
     go_roundw
     case rel=> exact ⟨k+1,_,by omega,by go_num,a8.out,a9.out,by simp only [List.length_append,List.length_singleton];omega,HG.out⟩
     case measure=> simp [intOf];omega
  ·have b0:Hid (o=Pg.changes (plainCh l)):=by
    show _=_;rw [←m.out,List.drop_eq_nil_of_le (by omega)];simp [plainCh]
   go_wp2_with fail
   go_ret
   exact ⟨_,rfl,by rw [←b0.out];exact T.out,U.out⟩
end Go.Proofs.YtolgpnaoaodepaaGreat
namespace Go.Proofs.YtolgpnaoaodepaaGreat
open Go.RowKit
theorem flat_len {α:Type} (f:α→List UInt8) (n:Nat):∀(l:List α),(∀x∈l,(f x).length≤n)→(l.flatMap f).length≤n*l.length
 | [],_=> by simp
 | x::r,h=> by
  rw [List.flatMap_cons,List.length_append,List.length_cons,Nat.mul_add]
  have b:=h x (by simp)
  have c:=flat_len f n r (fun y a=> h y (by simp [a]))
  omega
theorem pivotsC_len (cl:List Nat) (pl:List (List UInt8)) (h:cl.length≤4) (i:pl.length≤4) (g:∀c∈cl,c≤2147483647) (f:∀p∈pl,p.length≤12):(Pg.pivotsC cl pl).length≤400:=by
 unfold Pg.pivotsC
 rw [List.length_append]
 have a:=flat_len Pg.num 10 cl (fun c e=> num_short c (by have:=g c e;omega))
 have b:=flat_len Pg.text 30 pl (fun p d=> by have:=text_len p (by have:=f p d;omega);have:=f p d;omega)
 omega
set_option maxHeartbeats 2000000 in
set_option maxRecDepth 100000 in
theorem writeBranch_any (kd:Int) (v1 v2 v3 v4:Value) (cl:List Nat) (pl:List ByteArray) (ml:List (Int×ByteArray×ByteArray)) (w:World) (h1:∃a n c,v1= .slice a n c) (h2:IsRow w v2 cl.length (ncells cl)) (h3:IsRow w v3 pl.length (pl.map .string)) (h4:IsChs w v4 ml)
  (c8:cl.length≤4) (v:∀c∈cl,c≤2147483647) (c9:pl.length≤4) (y:∀p∈pl,p.size≤12) (e8:ml.length≤8) (h:∀c∈ml,(0≤c.1∧c.1≤255)∧c.2.1.size≤12∧c.2.2.size≤16):
  Calls Tryz.prog 130 #[.agg #[.int .i64 kd,v1,v2,v3,v4]] w fun r w'=> r= .returned (.string ⟨(Pg.branch cl (lists pl) (plainCh ml)).toArray⟩)∧Below w.heap.size w w':=by
 obtain ⟨N,O,Q,rfl⟩:=h1
 obtain ⟨z,A,rfl,-,-⟩:=id h2
 obtain ⟨R,S,rfl,-,-⟩:=id h3
 obtain ⟨T,U,rfl,-,-⟩:=id h4
 have C:=(Below.refl w.heap.size w).alloc (Nat.le_refl _) (.cells #[.int .i64 kd,.slice N O Q,.slice z cl.length A,.slice R pl.length S,.slice T ml.length U] 79)
 have a8:=hid C
 have H2:=hid (h2.below C)
 have H3:=hid (h3.below C)
 have H4:=hid (h4.below C)
 have HN:Hid ((w.alloc (.cells #[.int .i64 kd,.slice N O Q,.slice z cl.length A,.slice R pl.length S,.slice T ml.length U] 79)).heap[w.heap.size]?=some (.cells #[.int .i64 kd,.slice N O Q,.slice z cl.length A,.slice R pl.length S,.slice T ml.length U] 79 (0,0))):=heap_alloc_new _ _
 have d2:w.heap.size < (w.alloc (.cells #[.int .i64 kd,.slice N O Q,.slice z cl.length A,.slice R pl.length S,.slice T ml.length U] 79)).heap.size:=by simp
 have d3:=pivotsC_len cl (lists pl) c8 (by simp [lists];exact c9) v (by intro p hp;simp only [lists,List.mem_map] at hp;obtain ⟨f,hf,rfl⟩:=hp;rw [len_size];exact y f hf)
 have a9:=changesLen (plainCh ml) (plainCh_sz (fun x hx=> ⟨⟨(h x hx).1.1,by have:=(h x hx).1.2;omega⟩,(h x hx).2⟩))
 have l:(plainCh ml).length=ml.length:=by simp [plainCh]
 rw [l] at a9
 have D:=Pg.section_len [112] (Pg.pivotsC cl (lists pl)) (by omega)
 have E:=Pg.section_len [109] (Pg.changes (plainCh ml)) (by omega)
 have b0:=hid h
 have b1:=hid y
 have b2:=hid v
 obtain ⟨m,V,W⟩:=low1 cl.length
 have b3:=hid V
 have b4:Hid (Pg.branch cl (lists pl) (plainCh ml)=Pg.sealed ([83,50,73,m]++Pg.low (Pg.branchP cl (lists pl)).length 2++Pg.low (Pg.branchM (plainCh ml)).length 2++List.replicate 56 0)++Pg.branchP cl (lists pl)++Pg.branchM (plainCh ml)):=by
  show _=_;unfold Pg.branch;rw [W];rfl
 have HP:Hid (Pg.section_ [112] (Pg.pivotsC cl (lists pl))=Pg.branchP cl (lists pl)):=rfl
 have HM:Hid (Pg.section_ [109] (Pg.changes (plainCh ml))=Pg.branchM (plainCh ml)):=rfl
 have d0:(Pg.branchP cl (lists pl)).length≤500:=by rw [←HP.out];simp at D;omega
 have d1:(Pg.branchM (plainCh ml)).length≤600:=by rw [←HM.out];simp at E;omega
 clear C h2 h3 h4 h y v V W D E l
 go_enter Tryz.func130,Tryz.ntmps130
 go_wp2_with fail
 generalize w.alloc (.cells #[.int .i64 kd,.slice N O Q,.slice z cl.length A,.slice R pl.length S,.slice T ml.length U] 79)=w0 at*
 refine (children_any _ _ cl pl _ H2.out H3.out (by omega) (by omega) (fun c hc=> by have:=b2.out c hc;omega) (fun p hp=> by have:=b1.out p hp;omega)).mono ?_
 rintro r w1 ⟨u1,rfl,X,d⟩
 have b5:=hid X
 have F:=hid (H4.out.below d)
 have G:=hid ((d.block w.heap.size (by omega)).trans HN.out)
 have b6:=hid (a8.out.trans (d.mono (by omega)))
 have d4:=d.size
 clear X d H2 H3 H4 HN
 go_wp2_with fail
 refine (writeSec_any w0.heap.size 112 u1 _ _ b5.out (by omega)).mono ?_
 rintro r w2 ⟨rfl,e⟩
 have H:=hid (F.out.below e)
 have o:=hid ((e.block w.heap.size (by omega)).trans G.out)
 have b7:=hid (b6.out.trans (e.mono (by omega)))
 have d5:=e.size
 obtain ⟨m0,m1,m2,m3,m4⟩:=node_cells o.out
 rw [HP.out]
 clear e F G
 go_wp2_with fail
 refine (changesC_any _ ml _ H.out (by omega) (fun c hc=> by have:=b0.out c hc;omega)).mono ?_
 rintro r w3 ⟨u3,rfl,Y,j⟩
 have b8:=hid Y
 have I:=hid ((j.block w.heap.size (by omega)).trans o.out)
 have b9:=hid (b7.out.trans (j.mono (by omega)))
 have d6:=j.size
 clear Y j o m0 m1 m2 m3 m4
 go_wp2_with fail
 refine (writeSec_any w2.heap.size 109 u3 _ _ b8.out (by omega)).mono ?_
 rintro r B ⟨rfl,k⟩
 have c0:=hid ((k.block w.heap.size (by omega)).trans I.out)
 have c1:=hid (b9.out.trans (k.mono (by omega)))
 have d7:=k.size
 rw [HM.out]
 clear k I
 obtain ⟨m0,m1,m2,m3,m4⟩:=node_cells c0.out
 generalize Pg.branchP cl (lists pl)=b at*
 generalize Pg.branchM (plainCh ml)=g at*
 have d8:=size_mk b
 have d9:=size_mk g
 have J:=Joins.run_convert_bytes_const_at (P:=Tryz.prog) B 108 5 #[.int .u8 83,.int .u8 50,.int .u8 73] 3 3 B.heap.size rfl Tryz.underlying108 Tryz.underlying5
 have k2:(B.alloc (.cells #[.int .u8 83,.int .u8 50,.int .u8 73] 5 (3,4))).cell? ⟨w.heap.size,2,none⟩=some (.slice z cl.length A):=by
  rw [World.cell?_alloc_past _ _ _ (by show w.heap.size < _;omega)];exact m2
 go_wp2_with (first
  | (at_builtin;refine wpApL B rfl (.tmp 17) (.tmp 22) rfl 83 50 73 _ _ _ _ rfl rfl rfl m ?_ B.heap.size (B.heap.size+1) rfl rfl rfl rfl w.heap.size (by omega) ?_))
 ·rw [b3.out];omega
 intro v5 w5 a6 a7 k5 c7 e5 e7
 have K:=hid a6
 have c2:=hid (c1.out.trans (a7.mono (by omega)))
 clear a6 a7 c7 e5 J m0 m1 m2 m3 m4 k2
 go_wp2_with fail
 refine (apShort_any w.heap.size v5 _ b.length _ K.out (by omega) (by simp)).mono ?_
 rintro r w6 ⟨v6,rfl,Z,s⟩
 have L:=hid Z
 have c3:=hid (c2.out.trans (s.below K.out (by omega)))
 have e0:=s.size
 have i:=Pg.low_len 2 b.length
 clear Z s
 go_wp2_with fail
 refine (apShort_any w.heap.size v6 _ g.length _ L.out (by omega) (by simp [i])).mono ?_
 rintro r w7 ⟨v7,rfl,a0,t⟩
 have M:=hid a0
 have c4:=hid (c3.out.trans (t.below L.out (by omega)))
 have e3:=t.size
 have q:=Pg.low_len 2 g.length
 clear a0 t
 go_wp2_with fail
 refine (sealHead_any w.heap.size v7 _ _ M.out (by omega) (by simp) (by simp [i,q])).mono ?_
 rintro r w8 ⟨v8,rfl,u,a5⟩
 have c5:Hid (Pg.sealed ([83,50,73,m]++Pg.low b.length 2++Pg.low g.length 2++List.replicate (64 - ([83,50,73,m]++Pg.low b.length 2++Pg.low g.length 2).length) 0)=Pg.sealed ([83,50,73,m]++Pg.low b.length 2++Pg.low g.length 2++List.replicate 56 0)):=by
  show _=_;rw [show ([83,50,73,m]++Pg.low b.length 2++Pg.low g.length 2).length=8 by simp [i,q]]
 rw [c5.out] at u
 have J:=u.str
 have c6:=hid (c4.out.trans (a5.below M.out (by omega)))
 have e4:(Pg.sealed ([83,50,73,m]++Pg.low b.length 2++Pg.low g.length 2++List.replicate 56 0)).length≤100:=by rw [Pg.seal_len];simp [i,q]
 generalize Pg.sealed ([83,50,73,m]++Pg.low b.length 2++Pg.low g.length 2++List.replicate 56 0)=hs at*
 have e6:=size_mk hs
 clear u a5
 have e1:∀w,(Op.stringOp .add ⟨hs.toArray⟩ ⟨b.toArray⟩).run Tryz.prog w= .ok (.string (⟨hs.toArray⟩++⟨b.toArray⟩)) w:=fun w=> run_string_add_sum w _ _ (by omega)
 have e2:∀w,(Op.stringOp .add (⟨hs.toArray⟩++⟨b.toArray⟩) ⟨g.toArray⟩).run Tryz.prog w= .ok (.string (⟨hs.toArray⟩++⟨b.toArray⟩++⟨g.toArray⟩)) w:=fun w=> run_string_add_sum w _ _ (by rw [ByteArray.size_append'];omega)
 go_wp2_with fail
 go_ret
 exact ⟨ret_str (by rw [b4.out];simp),c6.out⟩
end Go.Proofs.YtolgpnaoaodepaaGreat
namespace Go.Proofs.YtolgpnaoaodepaaGreat
open Go.RowKit
theorem writeB_any (v:Value) (il:List (ByteArray×ByteArray)) (cl:List Int) (pl:List ByteArray) (ml:List (Int×ByteArray×ByteArray)) (w:World) (h:IsNode w v 2 il cl pl ml) (e:Pg.well 2 (plain il) cl (lists pl) (plainCh ml)=true):
  Calls Tryz.prog 130 #[v] w fun r w'=> r= .returned (.string ⟨(Pg.page 2 (plain il) cl (lists pl) (plainCh ml)).toArray⟩)∧Below w.heap.size w w':=by
 obtain ⟨v1,v2,v3,v4,rfl,n,F,k,o,p⟩:=h
 unfold Pg.well at e
 unfold Pg.page
 rw [if_pos rfl]
 rw [if_neg (by decide)] at e
 simp only [Bool.and_eq_true,decide_eq_true_eq] at e
 obtain ⟨⟨⟨⟨⟨⟨⟨⟨q,s⟩,t⟩,u⟩,_⟩,_⟩,f⟩,y⟩,z⟩:=e
 have b:∀c∈cl,0≤c∧c≤2147483647:=fun c a=> by
  have:=List.all_eq_true.1 s c a
  simpa [Pg.okChild] using this
 have l:cl.map (Value.int .i64)=ncells (cl.map Int.toNat):=by
  unfold ncells
  rw [List.map_map]
  exact List.map_congr_left fun c a=> by have:=b c a;simp;omega
 have j:cl.length=(cl.map Int.toNat).length:=by simp
 rw [l,j] at k
 have D:(lists pl).length=pl.length:=by simp [lists]
 have E:(plainCh ml).length=ml.length:=by simp [plainCh]
 obtain ⟨A,B,g⟩:=n.shape
 refine writeBranch_any 2 v1 v2 v3 v4 (cl.map Int.toNat) pl ml w ⟨A,_,B,g⟩ k o p (by rw [←j];exact f) (fun c a=> ?_) (by omega) (fun x i=> ?_) (by omega) (fun x i=> ?_)
 ·obtain ⟨d,C,rfl⟩:=List.mem_map.1 a
  have:=b d C;omega
 ·have:=Pg.okPivots_sz _ _ q x.data.toList (List.mem_map.2 ⟨x,i,rfl⟩)
  simpa only [len_size] using this
 ·have:=List.all_eq_true.1 t (x.1,x.2.1.data.toList,x.2.2.data.toList) (List.mem_map.2 ⟨x,i,rfl⟩)
  simp only [Pg.okChange,Pg.isChange,Bool.and_eq_true,Bool.or_eq_true,decide_eq_true_eq,len_size] at this
  have m:=Pg.isKey_le this.1.1
  omega
theorem well_kind {kd:Int} {il:List (List UInt8×List UInt8)} {cl:List Int} {pl:List (List UInt8)} {ml:List (Int×List UInt8×List UInt8)} (h:Pg.well kd il cl pl ml=true):kd=1∨kd=2:=by
 unfold Pg.well at h
 by_cases a:kd=1
 ·exact .inl a
 ·rw [if_neg a] at h
  simp only [Bool.and_eq_true,decide_eq_true_eq] at h
  exact .inr h.1.1.1.1.1.2
theorem well_leaf {il:List (ByteArray×ByteArray)} {cl:List Int} {pl:List (List UInt8)} {ml:List (Int×List UInt8×List UInt8)} (h:Pg.well 1 (plain il) cl pl ml=true):il.length≤16∧∀x∈il,x.1.size≤12∧x.2.size≤16:=by
 unfold Pg.well at h
 rw [if_pos rfl] at h
 simp only [Bool.and_eq_true,decide_eq_true_eq] at h
 obtain ⟨⟨⟨⟨a,b⟩,_⟩,_⟩,_⟩:=h
 refine ⟨by simpa [plain] using b,fun x c=> ?_⟩
 have:=Pg.okList_sz _ _ a (x.1.data.toList,x.2.data.toList) (List.mem_map.2 ⟨x,c,rfl⟩)
 simpa only [len_size] using this
set_option maxHeartbeats 1000000 in
set_option maxRecDepth 100000 in
theorem pagesWrite_any (v:Value) (kd:Int) (il:List (ByteArray×ByteArray)) (cl:List Int) (pl:List ByteArray) (ml:List (Int×ByteArray×ByteArray)) (w:World) (h:IsNode w v kd il cl pl ml) (d:Pg.well kd (plain il) cl (lists pl) (plainCh ml)=true):
  Calls Tryz.prog 66 #[v] w fun r w'=> r= .returned (.string ⟨(Pg.page kd (plain il) cl (lists pl) (plainCh ml)).toArray⟩)∧Below w.heap.size w w':=by
 have k:=hid h
 obtain ⟨v1,v2,v3,v4,rfl,g,-,p,q,s⟩:=h
 obtain ⟨t,u,rfl⟩:=g.shape
 obtain ⟨x,y,rfl,-⟩:=p
 obtain ⟨z,A,rfl,-⟩:=q
 obtain ⟨B,C,rfl,-⟩:=s
 have e:=(Below.refl w.heap.size w).alloc (Nat.le_refl _) (.cells #[.int .i64 kd,.slice t il.length u,.slice x cl.length y,.slice z pl.length A,.slice B ml.length C] 79)
 have c:=hid e
 have l:=hid (g.below e)
 have f:=hid (k.out.below e)
 clear e g
 go_enter Tryz.func66,Tryz.ntmps66
 rcases well_kind d with i | i
 ·subst i
  obtain ⟨D,j⟩:=well_leaf d
  have m:=hid j
  have n:Hid (Pg.page 1 (plain il) cl (lists pl) (plainCh ml)=Pg.leaf (plain il)):=by show _=_;unfold Pg.page;rw [if_neg (by decide)]
  clear j d
  go_wp2_with fail
  refine (writeLeaf_any _ il _ l.out D m.out).mono ?_
  rintro r E ⟨rfl,a⟩
  have b:=hid (c.out.trans (a.mono (by simp)))
  clear a
  rw [←n.out]
  go_wp2_with fail
  go_ret
  exact ⟨rfl,b.out⟩
 ·subst i
  have o:=hid d
  clear d
  go_wp2_with fail
  refine (writeB_any _ il cl pl ml _ f.out o.out).mono ?_
  rintro r E ⟨rfl,a⟩
  have b:=hid (c.out.trans (a.mono (by simp)))
  clear a
  go_wp2_with fail
  go_ret
  exact ⟨rfl,b.out⟩
end Go.Proofs.YtolgpnaoaodepaaGreat
