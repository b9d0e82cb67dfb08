import Derived.Test.YtolgpnaoaodepaaGreatKimMm
namespace Go.Proofs.YtolgpnaoaodepaaGreat
open Go.RowKit
theorem MdS.kind {w0 w:World} {f d:Nat} {c i:Value} {iml:List ByteArray} {kd:Int} {il:List (ByteArray×ByteArray)} {cl:List Nat} {pl:List ByteArray} {ml:List (Int×ByteArray×ByteArray)} {v1 v2 v3 v4:Value} {W:World} (h:MdS w0 w f d c i iml kd il cl pl ml v1 v2 v3 v4 W) (b:Int):MdS w0 w f d c i iml b il cl pl ml v1 v2 v3 v4 (W.setCell ⟨d,0,none⟩ (.int .i64 b)):=by
 have m:=Mod.setCell W d 0 (.int .i64 b);obtain ⟨j,k⟩:=h.turn m (by rintro g rfl;exact h.lo.1) (by rintro g a rfl;exact h.nrow h.md.im (by decide) a);exact ⟨j,h.nd.set0 _,m.row h.r1 (by rintro g a rfl;exact h.nrow h.r1 (by decide) a),m.row h.r2 (by rintro g a rfl;exact h.nrow h.r2 (by decide) a),m.row h.r3 (by rintro g a rfl;exact h.nrow h.r3 (by decide) a),m.row h.r4 (by rintro g a rfl;exact h.nrow h.r4 (by decide) a),h.ap,k,h.hat,h.lo⟩
def Ao7 (w0:World) (bm:Nat) (vl:Value) (d:Nat):Prop:=∀(vi:Value) (iml:List ByteArray) (aa lo hi:Nat) (w:World),MdW w0 bm vi iml w->iml.length+pgs d<=1000->aa+30*d<=1000->lo<=hi->hi<=100->Calls Tryz.prog 23 #[.pointer (some ⟨bm,0,none⟩),vl,.int .i64 (aa:Nat),.int .i64 (lo:Nat),.int .i64 (hi:Nat),.int .i64 (d:Nat)] w (MpQ w0 bm vi iml d lo hi w)
def Ari {h:Nat} (i lo a:Nat) (ts:List (Nat×Nat×Ld.PT h)) (c:Value):Prop:=∃q:Bool,c= .bool q/\(q=true->0 < i/\lo < a/\∀x∈ts,x.1 < a)
def Arj (j lo hi:Nat) (c:Value):Prop:=∃q:Bool,c= .bool q/\(q=true->j < 8/\lo < hi)
theorem Ao8 {h:Nat} {ts:List (Nat×Nat×Ld.PT h)} (b:ts.Pairwise fun x y=> x.2.1<=y.1/\x.1 < y.1) (c:ts.tail.length - 1 < ts.tail.length):∀x∈ts,x.1<=(ts.tail[ts.tail.length - 1]'c).1:=fun x a=> by
 obtain ⟨i,hi,rfl⟩:=List.getElem_of_mem a;rw [List.getElem_tail];have d:ts.tail.length=ts.length - 1:=List.length_tail;by_cases e:i=ts.tail.length - 1+1
 ·subst e;exact Nat.le_refl _
 ·exact Nat.le_of_lt ((List.pairwise_iff_getElem.1 b) i (ts.tail.length - 1+1) hi (by omega) (by omega)).2
theorem Ao9 {h p n:Nat} {f:Ld.PT h} (e:Ld.nums h f=List.range' p n) (b:0 < n):Ld.num h f=p:=by
 obtain ⟨m,rfl⟩:∃m,n=m+1:=⟨n - 1,by omega⟩;rw [List.range'_succ] at e
 cases h with
 | zero=> exact (List.cons.inj e).1
 | succ h=> obtain ⟨q,a⟩:=f;exact (List.cons.inj e).1
structure BrI (w0 w:World) (bm nb:Nat) (vi0:Value) (iml:List ByteArray) (d lo hi many i:Nat) (new:List ByteArray) (ts:List (Nat×Nat×Ld.PT d)) (vi u2 u3:Value) (W:World):Prop where
 ne:0 < i->ts≠[]
 len:ts.length<=i
 cnt:new.length<=i*pgs d
 mad:Mv d (iml.length+1) new lo hi (Qq lo hi many i) ts
 st:MdS w0 w bm nb vi0 vi (iml++⟨#[]⟩::new) 2 [] (ts.map fun x=> Ld.num d x.2.2) (ts.map fun x=> Be x.1).tail [] (.slice none 0 0) u2 u3 (.slice none 0 0) W
set_option maxHeartbeats 1000000 in
set_option maxRecDepth 20000 in
theorem Vx (w0:World) (X:Nat) (vl:Value) (l:List Int) (hv:Ge w0 vl l) (d:Nat) (IH:Ao7 w0 X vl d):Ao7 w0 X vl (d+1):=by
 intro vi iml aa lo hi w hM S u1 d6 h7;have h9:=hid IH;have HV:=hid hv;have HM:=hid hM;have HB:=hid hM.bel.size;have S:iml.length+(1+4*pgs d)<=1000:=S;have i0:=hid S;obtain ⟨ai,ci,rfl⟩:=Ab hM.im;obtain ⟨m0,m1,m2,m3⟩:=hM.mb.cells;obtain ⟨va,vc,rfl,-⟩:=hv;have v4:iml.length<=1000:=by omega
 obtain ⟨d1,l7⟩:∃d1,d+1=d1:=⟨_,rfl⟩;have o5:IntKind.i64.wrap ((d1:Int) - 1)=(d:Int):=by rw [IntKind.wrap_i64];omega
 have o6:¬(d1:Int)=0:=by omega
 have i2:aa+30*d+30<=1000:=by omega
 have HD:=hid i2;rw [l7];clear hM IH S u1 i2;go_enter Tryz.func23,Tryz.ntmps23;go_upto_region 10 with (at_builtin;refine Aaz w rfl (.tmp 33) (.tmp 34) rfl w0.heap.size (.slice ai iml.length ci) iml rfl HM.out.im ⟨#[]⟩ (by simp [Act.eval]) (by omega) HB.out ?_;intro v1 w1 h8 o3 e3;have HS:=hid (Ag6 HM.out h8 o3 e3);obtain ⟨a1,c1,rfl⟩:=Ab h8;generalize J:(iml++[(⟨#[]⟩:ByteArray)]).length=n1 at*;have v5:=hid J;clear J h8 o3 e3;obtain ⟨x0,x1,x2,x3⟩:=HS.out.1.cells);have e4:=hid HS.out.2;clear HS x0 x1 x2 x3 m0 m1 m2 m3;generalize (w1.setCell ⟨X,0,none⟩ (.slice a1 n1 c1)).alloc (.cells #[.int .i64 1,.slice none 0 0,.slice none 0 0,.slice none 0 0,.slice none 0 0] 79)=w2 at*;generalize w1.heap.size=nb at*;have e5:=hid (e4.out.kind 2);obtain ⟨n0,-,-,-,-,f0,-⟩:=e4.out.nd.cells;have O:=hid (HV.out.below e5.out.md.bel);have CR:=hid (Ih _ l aa (w2.setCell ⟨nb,0,none⟩ (.int .i64 2)) O.out (by have:=HD.out;omega));go_wp2_with fail;generalize w2.setCell ⟨nb,0,none⟩ (.int .i64 2)=w3 at*;clear e4 n0 f0;refine CR.out.mono ?_;rintro r w3 ⟨⟨x,rfl,y1,y2⟩,rfl⟩;have CP:=hid (Em x 4 w3 y1 y2 (by decide) (by decide));rw [show ((4:Nat):Int)=4 from rfl] at CP;have o7:=Si x 4 (by decide);generalize pk x 4=p4 at*;obtain ⟨k,g6⟩:∃k,1+p4=k:=⟨_,rfl⟩;have em:IntKind.i64.wrap (1+(p4:Int))=(k:Int):=by rw [IntKind.wrap_i64];omega
 have v6:k<=4:=by omega
 have i3:1<=k:=by omega
 have o8:¬(k:Int)=0:=by omega
 clear CR;go_wp2_with fail;refine CP.out.mono ?_;rintro r w3 ⟨rfl,rfl⟩;clear CP o7 g6 y1 y2 O;have i4:Hid (BrI w0 w X nb (.slice ai iml.length ci) iml d lo hi k 0 [] [] (.slice a1 n1 c1) (.slice none 0 0) (.slice none 0 0) w3):=⟨fun h=> absurd h (by decide),Nat.le_refl _,Nat.zero_le _,Mv.nil ..,e5.out⟩;clear e5;go_wp2_with fail;clear em
 go_loopw [17] (fun vk wr=>∃(i:Nat) (new:List ByteArray) (ts:List (Nat×Nat×Ld.PT d)) (vi u2 u3:Value),vk= .int .i64 (i:Nat)/\i<=k/\BrI w0 w X nb (.slice ai iml.length ci) iml d lo hi k i new ts vi u2 u3 wr) (fun vk _=> k - (intOf vk).toNat)
 case atStart=> exact ⟨0,[],[],_,_,_,rfl,Nat.zero_le _,i4.out⟩
 case round=>
  obtain ⟨i,new,ts,vi,u2,u3,rfl,x8,hI⟩:=hrel;have o:=hid hI;obtain ⟨ag,cg,l8⟩:=Ab hI.st.md.im;obtain ⟨b2,d2,m4⟩:=Ab hI.st.r2;obtain ⟨b3,d3,m5⟩:=Ab hI.st.r3;obtain ⟨L,g7⟩:∃L,(iml++(⟨#[]⟩:ByteArray)::new).length=L:=⟨_,rfl⟩;obtain ⟨nc,c4⟩:∃nc,(ts.map fun x=> Ld.num d x.2.2).length=nc:=⟨_,rfl⟩;obtain ⟨M,c5⟩:∃M,((ts.map fun x=> Be x.1).tail).length=M:=⟨_,rfl⟩;rw [g7] at l8;rw [c4] at m4;rw [c5] at m5;subst l8 m4 m5;have Y:=hid g7;have i5:=hid c4;have Z:=hid c5;have u8:nc<=4:=by rw [<-c4,List.length_map];have:=hI.len;omega
  have u9:M<=4:=by rw [<-c5,List.length_tail,List.length_map];have:=hI.len;omega
  clear g7 c4 c5;clear i4;by_cases o4:i < k
  case pos=>
   obtain ⟨D,hD⟩:∃D,hi - lo=D:=⟨_,rfl⟩;obtain ⟨F,m6⟩:∃F,i+1=F:=⟨_,rfl⟩;have b5:D<=100:=(by omega);have b6:D*i<=400:=Nat.mul_le_mul b5 (show i<=4 by omega);have b7:D*F<=400:=Nat.mul_le_mul b5 (show F<=4 by omega);obtain ⟨P0,U⟩:∃P0,D*i=P0:=⟨_,rfl⟩;obtain ⟨P1,V⟩:∃P1,D*F=P1:=⟨_,rfl⟩;rw [U] at b6;rw [V] at b7;obtain ⟨Q0,c6⟩:∃Q0,P0 / k=Q0:=⟨_,rfl⟩;obtain ⟨Q1,c7⟩:∃Q1,P1 / k=Q1:=⟨_,rfl⟩;have d7:Q0<=400:=(by rw [<-c6];exact Nat.le_trans (Nat.div_le_self _ _) b6);have d8:Q1<=400:=(by rw [<-c7];exact Nat.le_trans (Nat.div_le_self _ _) b7);obtain ⟨a,ha⟩:∃a,lo+Q0=a:=⟨_,rfl⟩;obtain ⟨b,hb⟩:∃b,lo+Q1=b:=⟨_,rfl⟩;have eD:IntKind.i64.wrap ((hi:Int) - (lo:Int))=(D:Int):=(by rw [IntKind.wrap_i64];omega);have o9:IntKind.i64.wrap ((i:Int)+1)=(F:Int):=(by rw [IntKind.wrap_i64];omega);have i6:IntKind.i64.wrap ((D:Int)*(i:Int))=(P0:Int):=(by rw [<-Int.natCast_mul,U,IntKind.wrap_i64];omega);have i7:IntKind.i64.wrap ((D:Int)*(F:Int))=(P1:Int):=(by rw [<-Int.natCast_mul,V,IntKind.wrap_i64];omega);have i8:(P0:Int).tdiv (k:Int)=(Q0:Int):=(by rw [Int.tdiv_eq_ediv_of_nonneg (by omega),<-c6];exact (Int.natCast_ediv _ _).symm);have i9:(P1:Int).tdiv (k:Int)=(Q1:Int):=(by rw [Int.tdiv_eq_ediv_of_nonneg (by omega),<-c7];exact (Int.natCast_ediv _ _).symm);have eA:IntKind.i64.wrap ((lo:Int)+(Q0:Int))=(a:Int):=(by rw [IntKind.wrap_i64];omega);have eB:IntKind.i64.wrap ((lo:Int)+(Q1:Int))=(b:Int):=(by rw [IntKind.wrap_i64];omega);have HA:Hid (Qq lo hi k i=a):=(by show _=_;unfold Qq;rw [hD,U,c6,ha]);have b8:Hid (Qq lo hi k F=b):=(by show _=_;unfold Qq;rw [hD,V,c7,hb]);have a4:=hid m6;have a5:(i:Int) < (k:Int):=(by omega);have a6:a < 100\/a=lo:=by
    rcases Aja d6 o4 with q | q
    ·right;rw [<-HA.out];exact q
    ·left;rw [HA.out] at q;omega
   have p0:Hid (a=lo\/a < hi):=by
    show _\/_;rw [<-HA.out];exact Aja d6 o4
   have j0:Hid (b<=hi):=(by show _<=_;rw [<-b8.out];exact App d6 (by omega) (by omega));have p1:Hid (a<=b):=(by show _<=_;rw [<-HA.out,<-b8.out];exact Pa (by omega));obtain ⟨n0,R,n2,n3,n4,f0,f1,f2,f3,f4⟩:=hI.st.nd.cells;clear hD U V c6 c7 ha hb hI m6;go_upto_region 17 with fail
   go_cut [130] (fun c wx=> Ari i lo a ts c/\Below wr.heap.size wr wx)
   case first=>
    have g3:=fun (dd:Nat) (os:Array Obj)=> cell_regrown n3 dd os
    clear eD o9 i6 i7 i8 i9 eA eB o8 a5 b6 b7 d7 d8 b5 n0 R n2 n4 f0 f1 f2 f3 f4 o5 o6;by_cases c1:0 < i
    case neg=>
     obtain rfl:i=0:=(by omega);clear c1;go_quiet (fail);go_wp2_with fail;go_meet;exact ⟨⟨false,rfl,fun q=> by cases q⟩,Am (Below.refl _ _) _⟩
    case pos=>
     have q1:(0:Int) < (i:Int):=(by omega);by_cases c2:lo < a
     case neg=>
      have q2:¬(lo:Int) < (a:Int):=(by omega);go_quiet (fail);go_wp2_with fail;go_meet;exact ⟨⟨false,rfl,fun q=> by cases q⟩,Am (Below.refl _ _) _⟩
     case pos=>
      have q2:(lo:Int) < (a:Int):=(by omega);by_cases c3:M=0
      case pos=>
       have q3:(M:Int)=0:=(by omega);have HX:Hid (∀x∈ts,x.1 < a):=fun x hx=> by
        have h1:=Z.out;rw [List.length_tail,List.length_map] at h1;have h2:=o.out.ne c1;have h4:x.1=lo:=by
         obtain ⟨y,hy,rfl⟩:=List.getElem_of_mem hx;have:y=0:=(by omega);subst this;exact o.out.mad.hd _ (List.getElem?_eq_getElem hy)
        omega
       obtain rfl:M=0:=c3;go_quiet (fail);go_wp2_with fail;go_meet;exact ⟨⟨true,rfl,fun _=> ⟨c1,c2,HX.out⟩⟩,Am (Below.refl _ _) _⟩
      case neg=>
       have q3:¬(M:Int)=0:=(by omega);obtain ⟨j,hj⟩:∃j,M=j+1:=⟨M - 1,by omega⟩;have A:j < ((ts.map fun x=> Be x.1).tail).length:=(by rw [Z.out];omega);obtain ⟨g,s1,e,hc,-,hg,x3⟩:=Av.at o.out.st.r3 j A;rw [Z.out] at e;simp only [Value.slice.injEq,true_and] at e;obtain ⟨rfl,rfl⟩:=e;have ej:IntKind.i64.wrap ((M:Int) - 1)=(j:Int):=(by rw [IntKind.wrap_i64];omega);have v7:(0:Int)<=(j:Int):=(by omega);have v8:(j:Int) < (M:Int):=(by omega);have e6:a < 100:=by rcases a6 with q | q <;> omega
       have j1:Hid (((ts.map fun x=> Be x.1).tail)[j]'A=Be (ts.tail[j]'(by rw [<-List.map_tail,List.length_map] at A;exact A)).1):=by
        show _=_;simp [List.getElem_tail]
       have j2:Hid (∀x∈ts,x.1<=(ts.tail[j]'(by rw [<-List.map_tail,List.length_map] at A;exact A)).1):=by
        have h1:ts.tail.length=j+1:=(by have:=Z.out;rw [<-List.map_tail,List.length_map] at this;omega);have h2:=Ao8 o.out.mad.ord (by omega);have h3:ts.tail.length - 1=j:=(by omega);simp only [h3] at h2;exact h2
       have j3:Hid ((ts.tail[j]'(by rw [<-List.map_tail,List.length_map] at A;exact A)).1 < hi):=(o.out.mad.tail_lt _ (List.getElem_mem _)).2;generalize ((ts.map fun x=> Be x.1).tail)[j]'A=kb at*;generalize (ts.tail[j]'(by rw [<-List.map_tail,List.length_map] at A;exact A)).1=kn at*;have gx:=fun (dd:Nat) (os:Array Obj)=> cell_regrown x3 dd os
       have p2:=fun (W:World)=> Li a W e6
       have HX:Hid (∀z:Bool,z=false->(z || !Op.bytesLess (Be a).toList kb.toList&& !(Be a).toList==kb.toList)=true->∀x∈ts,x.1 < a):=fun z hz q x hx=> by
        rw [hz,Bool.false_or,Bool.and_eq_true,Ah,Ah,Db,j1.out,Mk,Mk] at q;obtain ⟨q1,q2⟩:=q;have h1:=j2.out x hx;have h2:=j3.out;refine Nat.lt_of_le_of_lt h1 ?_;rcases Nat.lt_trichotomy kn a with z | z | z
        ·exact z
        ·rw [z] at q2;simp at q2
        ·rw [decide_eq_true (Sk kn (by omega) a z)] at q1;cases q1
       have q4:((M:Int)==0)=false:=beq_eq_false_iff_ne.2 q3;have p3:=hid q4;clear q4;clear j1 j2 j3 hj;refine wp_region_quiet_below (by kernel_rfl) (by kernel_rfl) ?_
       repeat (quiet_step (exact Calls.regrown_of (p2 _)))
       refine wpQuiet_nil ?_;intro wx u5;obtain ⟨⟨dq,s2⟩,e2⟩:=u5;have p5:Hid (Below wr.heap.size wr wx):=e2▸below_regrown _ dq s2;clear e2;go_wp2_with fail;go_meet;exact ⟨⟨_,rfl,fun q=> ⟨c1,c2,HX.out _ p3.out q⟩⟩,p5.out⟩
   case rest=>
    obtain ⟨⟨q,rfl,hq⟩,m7⟩:=hcut;have HQ:=hid hq;have B:=hid (o.out.st.below m7);clear hq m7 n0 R n2 n3 n4 f0 f1 f2 f3 f4 eD i6 i7 i8 i9 eA eB b6 b7 d7 d8 b5 a5;generalize wc=w5 at*;go_upto_if 130 with fail
    go_cut [] (fun wx=>∃u:Value,MdS w0 w X nb (.slice ai iml.length ci) (.slice ag L cg) (iml++⟨#[]⟩::new) 2 [] (ts.map fun x=> Ld.num d x.2.2) ((ts.map fun x=> Be x.1)++[Be a]).tail [] (.slice none 0 0) (.slice b2 nc d2) u (.slice none 0 0) wx/\∀x∈ts,x.1 < a)
    case first=>
     cases q with
     | false=>
      by_cases h0:0 < i
      ·have q0:(0:Int) < (i:Int):=(by omega);have p6:Hid (BrI w0 w X nb (.slice ai iml.length ci) iml d lo hi k F new ts (.slice ag L cg) (.slice b2 nc d2) (.slice b3 M d3) w5):=by
        have h1:=a4.out;have h2:=o.out.len;have h3:=o.out.cnt;have h4:i*pgs d<=F*pgs d:=Nat.mul_le_mul_right _ (by omega);exact ⟨fun _=> o.out.ne h0,by omega,by omega,o.out.mad.up (Pa (by omega)),B.out⟩
       have a7:Hid (F<=k/\k - F < k - i):=(by have h1:=a4.out;exact ⟨by omega,by omega⟩);go_wp2_with fail;exact ⟨⟨F,new,ts,_,_,_,rfl,a7.out.1,p6.out⟩,by simp [intOf];exact a7.out.2⟩
      ·obtain rfl:i=0:=(by omega);have j4:Hid (ts=[]):=List.eq_nil_of_length_eq_zero (by have:=o.out.len;omega);have a0:Hid (MdS w0 w X nb (.slice ai iml.length ci) (.slice ag L cg) (iml++⟨#[]⟩::new) 2 [] (ts.map fun x=> Ld.num d x.2.2) ((ts.map fun x=> Be x.1)++[Be a]).tail [] (.slice none 0 0) (.slice b2 nc d2) (.slice b3 M d3) (.slice none 0 0) w5):=by
        have:=B.out;rw [j4.out] at this ⊢;exact this
       go_wp2_with fail;go_meet;exact ⟨_,a0.out,fun x hx=> by rw [j4.out] at hx;cases hx⟩
     | true=>
      obtain ⟨z1,z2,z3⟩:=HQ.out rfl;have p7:=hid z3;have e6:a < 100:=by rcases a6 with q | q <;> omega
      obtain ⟨n0,R,n2,n3,n4,f0,f1,f2,f3,f4⟩:=B.out.nd.cells;have j5:Hid ((ts.map fun x=> Be x.1).tail++[Be a]=((ts.map fun x=> Be x.1)++[Be a]).tail):=by
       show _=_;obtain ⟨y,r,e⟩:=List.exists_cons_of_ne_nil (o.out.ne z1);rw [e];rfl
      clear z3;go_wp2_with fail
      go_region_law (first
       | (refine Ach _ (by rfl) (.tmp 132) (.tmp 135) (by rfl) w.heap.size (.slice b3 M d3) (ts.map fun x=> Be x.1).tail (by simp [Act.eval]) H9.out.r3 (Be a) _ (by simp [Act.eval]) a8.out (by rw [Z.out];omega) H9.out.mod.size ?_
          intro v9 w9 C N H;have a2:=C;rw [j5.out] at a2;obtain ⟨a9,c9,rfl⟩:=Ab C;generalize J:((ts.map fun x=> Be x.1).tail++[Be a]).length=l9 at*;have HA:=hid (H9.out.apP C N H);have t1:=HA.out.1.cells.2.2.2.1;have t2:=HA.out.1.cells.2.2.2.2.2.2.2.2.1;clear C N H J a2)
       | (go_simp
          go_at_call 26
          refine (Li a _ e6).mono ?_;rintro r ws ⟨rfl,o0⟩;have BR:=hid (Oi o0);have g1:=(B.out.below BR.out).nd.cells.2.2.2.1;have H9:=hid ((B.out.below BR.out).below ((Below.refl _ ws).alloc (Nat.le_refl _) (.cells #[.string (Be a)] 9)));have a8:Hid ((ws.alloc (.cells #[.string (Be a)] 9)).cell? ⟨ws.heap.size,0,none⟩=some (.string (Be a))):=(by show _=_;simp);have g2:=H9.out.nd.cells.2.2.2.1;clear o0))
      all_goals
       go_wp2_with fail;go_meet;have:=HA.out.2;rw [j5.out] at this;exact ⟨_,this,p7.out⟩
    case rest=>
     obtain ⟨u3,m8,m9⟩:=hcut;have a0:=hid m8;have p8:=hid m9;clear m8 m9 B HQ;generalize wc=G at*;obtain ⟨bu,cu,eu⟩:=Ab a0.out.r3;obtain ⟨nq,n5⟩:∃nq,(((ts.map fun x=> Be x.1)++[Be a]).tail).length=nq:=⟨_,rfl⟩;rw [n5] at eu;subst eu;clear n5;go_upto_if 143 with fail
     go_cut [19] (fun u7 wx=> u7= .int .i64 (b:Nat)/\wx=G)
     case first=>
      by_cases he:F=k
      ·have q5:((F:Int)==(k:Int))=true:=(by simp [he]);have q6:Hid (hi=b):=by
        show _=_;rw [<-b8.out,he,Ac6 d6 (by omega)]
       clear he;go_wp2_with fail;go_meet;exact ⟨by rw [q6.out],rfl⟩
      ·have q5:((F:Int)==(k:Int))=false:=by
        refine beq_eq_false_iff_ne.2 fun q=> he ?_
        omega
       clear he;go_wp2_with fail;go_meet;exact ⟨rfl,rfl⟩
     case rest=>
      obtain ⟨s3,g8⟩:=hcut;subst s3 g8;generalize wc=G at*;obtain ⟨s7,s4⟩:∃s,7*i=s:=⟨_,rfl⟩;obtain ⟨s8,c8⟩:∃s,aa+s7=s:=⟨_,rfl⟩;obtain ⟨s9,s5⟩:∃s,s8+3=s:=⟨_,rfl⟩;have hd:=HD.out;have e7:IntKind.i64.wrap (7*(i:Int))=(s7:Int):=(by rw [IntKind.wrap_i64];omega);have e8:IntKind.i64.wrap ((aa:Int)+(s7:Int))=(s8:Int):=(by rw [IntKind.wrap_i64];omega);have e9:IntKind.i64.wrap ((s8:Int)+3)=(s9:Int):=(by rw [IntKind.wrap_i64];omega);have j6:Hid (L=iml.length+1+new.length):=by
       show _=_;rw [<-Y.out,List.length_append,List.length_cons];omega
      have q7:Hid (i*pgs d<=3*pgs d):=Nat.mul_le_mul_right _ (by have:=a4.out;omega);have d9:=h9.out (.slice ag L cg) (iml++⟨#[]⟩::new) s9 a b G.drew (a0.out.md.below (Below.refl _ G).drew) (by rw [Y.out,j6.out];have h1:=o.out.cnt;have h2:=q7.out;have h3:=i0.out;omega) (by omega) p1.out (Nat.le_trans j0.out h7);have f5:Hid (∀r W',MpQ w0 X (.slice ag L cg) (iml++⟨#[]⟩::new) d a b G.drew r W'->r= .returned (.int .i64 (L:Nat))/\∃(n:List ByteArray) (f:Ld.PT d) (I:Value),(n.length<=pgs d/\Ag5 d (iml.length+1+new.length) n f a b/\Ld.num d f=L)/\MdS w0 w X nb (.slice ai iml.length ci) I (iml++⟨#[]⟩::(new++n)) 2 [] (ts.map fun x=> Ld.num d x.2.2) ((ts.map fun x=> Be x.1)++[Be a]).tail [] (.slice none 0 0) (.slice b2 nc d2) (.slice bu nq cu) (.slice none 0 0) W'):=by
       rintro r W' ⟨n,f,I,rfl,z1,z2,z3,z4,z5,z6⟩;rw [Y.out] at z3;refine ⟨by rw [Y.out],n,f,I,⟨z1,by rw [<-j6.out];exact z3,Ao9 z3.nums z2⟩,?_⟩;have:=(a0.out.below (Below.refl _ G).drew).call z4 z5 z6;rw [List.append_assoc,List.cons_append] at this;exact this
      have f6:=hid d9;have j7:Hid (∀(n:List ByteArray) (f:Ld.PT d) (I v9:Value) (W:World),(n.length<=pgs d/\Ag5 d (iml.length+1+new.length) n f a b/\Ld.num d f=L)->MdS w0 w X nb (.slice ai iml.length ci) I (iml++⟨#[]⟩::(new++n)) 2 [] ((ts.map fun x=> Ld.num d x.2.2)++[L]) ((ts.map fun x=> Be x.1)++[Be a]).tail [] (.slice none 0 0) v9 (.slice bu nq cu) (.slice none 0 0) W->BrI w0 w X nb (.slice ai iml.length ci) iml d lo hi k F (new++n) (ts++[(a,b,f)]) I v9 (.slice bu nq cu) W):=by
       rintro n f I v9 W ⟨z1,z2,z3⟩ z4;have h1:=a4.out;have h2:=o.out.len;have h3:=o.out.cnt;have h4:F*pgs d=i*pgs d+pgs d:=(by rw [<-h1,Nat.succ_mul]);have j8:lo<=a:=(by rw [<-HA.out];exact Nat.le_add_right _ _);refine ⟨fun _=> by simp,by rw [List.length_append];simp;omega,by rw [List.length_append];omega,o.out.mad.snoc z2 (Nat.le_of_eq HA.out) p8.out j8 j0.out (Nat.le_of_eq b8.out.symm) (Pa (by omega)) p0.out (fun e=> ?_),?_⟩
       ·have j9:i=0:=Nat.eq_zero_of_not_pos fun q=> o.out.ne q e
        rw [<-HA.out,j9,Al6]
       ·rw [List.map_append,List.map_append];show MdS w0 w X nb (.slice ai iml.length ci) I _ 2 [] (_++[Ld.num d f]) _ [] _ _ _ _ W;rw [z3];exact z4
      have a7:Hid (F<=k/\k - F < k - i):=(by have h1:=a4.out;exact ⟨by omega,by omega⟩);have B0:Below G.heap.size G G.drew:=(Below.refl _ G).drew;obtain ⟨n0,R,n2,n3,n4,f0,f1,f2,f3,f4⟩:=a0.out.nd.cells;clear d9 s4 c8 s5 hd;go_upto_region 22 with fail
      go_region_law (first
       | (refine Aix _ (by rfl) (.tmp 146) (.tmp 159) (by rfl) w.heap.size (.slice b2 nc d2) (ts.map fun x=> Ld.num d x.2.2) (by simp [Act.eval]) H9.out.r2 L _ (by simp [Act.eval]) a8.out (by rw [i5.out];omega) H9.out.mod.size ?_
          intro v9 w9 C N H;obtain ⟨a9,c9,rfl⟩:=Ab C;have a3:=hid (H9.out.apC C N);generalize J:(ts.map fun x=> Ld.num d x.2.2).length+1=l9 at*;have t1:=a3.out.1.cells.2.2.1;have t2:=a3.out.1.cells.2.2.2.2.2.2.2.1;clear C N H J)
       | (go_simp
          go_at_call 23
          refine f6.out.mono ?_;rintro r w8 o1;obtain ⟨rfl,n,f,I,n6,c8⟩:=f5.out r w8 o1;have q8:=hid n6;have k0:=hid c8;have g1:=k0.out.nd.cells.2.2.1;have H9:=hid (k0.out.below ((Below.refl _ w8).alloc (Nat.le_refl _) (.cells #[.int .i64 (L:Nat)] 3)));have a8:Hid ((w8.alloc (.cells #[.int .i64 (L:Nat)] 3)).cell? ⟨w8.heap.size,0,none⟩=some (.int .i64 (L:Nat))):=(by show _=_;simp);have g2:=H9.out.nd.cells.2.2.1;clear o1 n6 c8))
      all_goals
       go_wp2_with fail;exact ⟨⟨F,_,_,_,_,_,rfl,a7.out.1,j7.out _ _ _ _ _ q8.out a3.out.2⟩,by simp [intOf];exact a7.out.2⟩
  case neg=>
   have a5:¬(i:Int) < (k:Int):=(by omega);have k1:i=k:=(by omega);have f7:=hid k1;have q9:=hid HV.out;obtain ⟨zA,s6⟩:∃z,aa+1=z:=⟨_,rfl⟩;have hd:=HD.out;have eA:IntKind.i64.wrap ((aa:Int)+1)=(zA:Int):=(by rw [IntKind.wrap_i64];omega);have r0:zA<=1000000:=(by omega);have v0:aa<=1000:=(by omega);clear hI k1 s6 hd h9;go_wp2_with fail
   go_loopw [20] (fun vj wq=>∃(j:Nat) (ml:List (Int×ByteArray×ByteArray)) (u4:Value),vj= .int .i64 (j:Nat)/\j<=8/\ml.length=j/\ChN lo hi ml/\MdS w0 w X nb (.slice ai iml.length ci) (.slice ag L cg) (iml++⟨#[]⟩::new) 2 [] (ts.map fun x=> Ld.num d x.2.2) (ts.map fun x=> Be x.1).tail ml (.slice none 0 0) (.slice b2 nc d2) (.slice b3 M d3) u4 wq) (fun vj _=> 8 - (intOf vj).toNat)
   case atStart=> exact ⟨0,[],_,rfl,Nat.zero_le _,rfl,(fun c hc=> by cases hc),o.out.st⟩
   case round=>
    obtain ⟨j,ml,u4,rfl,n7,g9,n8,hS⟩:=hrel;have HS:=hid hS;have f8:=hid g9;have f9:=hid n8;obtain ⟨b4,d4,n9⟩:=Ab hS.r4;rw [g9] at n9;subst n9;have O:=hid (q9.out.below hS.md.bel);have CR:=hid (Ih _ l zA wr O.out r0);clear hS g9 n8;go_upto_region 24 with fail
    go_cut [173] (fun c wx=> Arj j lo hi c/\wx=wr)
    case first=>
     go_wp2_with fail;refine CR.out.mono ?_;rintro r wr ⟨⟨x,rfl,y1,y2⟩,rfl⟩;have CP:=hid (Em x 9 wr y1 y2 (by decide) (by decide));rw [show ((9:Nat):Int)=9 from rfl] at CP;have w4:=Si x 9 (by decide);generalize pk x 9=p9 at*;clear y1 y2;go_wp2_with fail;refine CP.out.mono ?_;rintro r wr ⟨rfl,rfl⟩;by_cases c1:j < p9
     ·have q1:(j:Int) < (p9:Int):=(by omega);by_cases c2:lo < hi
      ·have q2:(lo:Int) < (hi:Int):=(by omega);go_wp2_with fail;go_meet;exact ⟨⟨true,rfl,fun _=> ⟨by omega,c2⟩⟩,rfl⟩
      ·have q2:¬(lo:Int) < (hi:Int):=(by omega);go_wp2_with fail;go_meet;exact ⟨⟨false,rfl,fun q=> by cases q⟩,rfl⟩
     ·have q1:¬(j:Int) < (p9:Int):=(by omega);go_wp2_with fail;go_meet;exact ⟨⟨false,rfl,fun q=> by cases q⟩,rfl⟩
    case rest=>
     obtain ⟨⟨q,rfl,hq⟩,g8⟩:=hcut;subst g8;have HQ:=hid hq;clear hq CR eA;generalize wc=G at*
     cases q with
     | true=>
      obtain ⟨hj,x9⟩:=HQ.out rfl;obtain ⟨zB,t0⟩:∃z,aa+j=z:=⟨_,rfl⟩;obtain ⟨zC,t3⟩:∃z,zB+2=z:=⟨_,rfl⟩;obtain ⟨zD,t4⟩:∃z,zB+1=z:=⟨_,rfl⟩;obtain ⟨D,hD⟩:∃D,hi - lo=D:=⟨_,rfl⟩;have eB:IntKind.i64.wrap ((aa:Int)+(j:Int))=(zB:Int):=(by rw [IntKind.wrap_i64];omega);have eC:IntKind.i64.wrap ((zB:Int)+2)=(zC:Int):=(by rw [IntKind.wrap_i64];omega);have eE:IntKind.i64.wrap ((zB:Int)+1)=(zD:Int):=(by rw [IntKind.wrap_i64];omega);have eD:IntKind.i64.wrap ((hi:Int) - (lo:Int))=(D:Int):=(by rw [IntKind.wrap_i64];omega);have k2:zB<=1000000:=(by omega);have k3:zC<=1000000:=(by omega);have k4:zD<=1000000:=(by omega);have k5:0 < D:=(by omega);have x4:D<=100:=(by omega);have k6:lo+D=hi:=(by omega);have r5:=hid k6;clear t0 t3 t4 hD k6;go_wp2_with fail;refine (Ih _ l zB G O.out k2).mono ?_;rintro r G ⟨⟨xa,rfl,t5,t6⟩,rfl⟩;go_wp2_with fail;refine (Ih _ l zC G O.out k3).mono ?_;rintro r G ⟨⟨xc,rfl,t7,t8⟩,rfl⟩;go_wp2_with fail;refine (Sj xa 0 xc G t5 t6 (by decide) (by decide) t7 t8).mono ?_;rintro r wk ⟨⟨ck,s,t,rfl,d0⟩,d5⟩;have r6:Hid (∀m,Tr.Ew (chP ck (Be m) t)):=fun m=> by
       unfold Tr.Ew Pg.Ax chP Pg.Bt at*;simp only [Bool.and_eq_true,Bool.or_eq_true,decide_eq_true_eq] at d0 ⊢;exact ⟨⟨by rw [Mk];exact Wf m,d0.1.2⟩,d0.2⟩
      have g5:Hid (Below G.heap.size G (wk.alloc (.cells #[.int .i64 ck,.string s,.string t] 34))):=d5.alloc d5.size _;have e0:Hid (ChB (wk.alloc (.cells #[.int .i64 ck,.string s,.string t] 34)) wk.heap.size ck s t):=heap_alloc_new _ _;have r7:=hid d5.size;clear d0 d5;go_wp2_with fail;generalize wk.alloc (.cells #[.int .i64 ck,.string s,.string t] 34)=w7 at*;generalize wk.heap.size=xb at*;refine (Ih _ l zD w7 (O.out.below g5.out) k4).mono ?_;rintro r w7 ⟨⟨xd,rfl,t9,u0⟩,rfl⟩;have CP:=hid (Em xd D w7 t9 u0 k5 (by omega));have x5:=Si xd D k5;generalize pk xd D=pd at*;obtain ⟨m,hm⟩:∃m,lo+pd=m:=⟨_,rfl⟩;have em:IntKind.i64.wrap ((lo:Int)+(pd:Int))=(m:Int):=(by rw [IntKind.wrap_i64];omega);have i3:lo<=m:=(by omega);have r8:m < hi:=(by have:=r5.out;omega);clear hm;go_wp2_with fail;refine CP.out.mono ?_;rintro r w7 ⟨rfl,rfl⟩;clear CP;go_wp2_with fail;refine (Li m w7 (by omega)).mono ?_;rintro r w8 ⟨rfl,h6⟩;have b0:Hid (ChB w8 xb ck s t):=(h6.block xb e0.out.lt).trans e0.out;have r9:=hid (g5.out.trans (h6.mono g5.out.size));obtain ⟨x0,x1,x2⟩:=b0.out.cells;obtain ⟨y0,y1,y2⟩:=b0.out.froz;have k7:Hid (ChB (w8.setCell ⟨xb,1,none⟩ (.string (Be m))) xb ck (Be m) t):=by
       have:=b0.out;unfold Hid ChB at*;rw [Ad (i:=1) this];rfl
      have s0:=hid (r9.out.setCell (p:=⟨xb,1,none⟩) r7.out (.string (Be m)));have b9:=hid (HS.out.below s0.out);clear h6;go_upto_region 28 with fail;generalize w8.setCell ⟨xb,1,none⟩ (.string (Be m))=w9 at*;clear x0 x1 x2 y0 y1 y2;obtain ⟨x0,x1,x2⟩:=k7.out.cells;obtain ⟨n0,R,n2,n3,n4,f0,f1,f2,f3,f4⟩:=b9.out.nd.cells;have b1:ml.length<=8:=(by rw [f8.out];exact n7);have k8:Hid (ChN lo hi (ml++[(ck,Be m,t)])):=fun c hc=> by
       rcases List.mem_append.1 hc with z | z
       ·exact f9.out c z
       ·rw [List.mem_singleton.1 z];exact ⟨r6.out m,m,i3,r8,rfl⟩
      go_wp2_with (at_builtin;refine Iw w9 rfl (.tmp 203) (.tmp 205) 77 34 Tryz.underlying77 _ 3 40 Du rfl (by decide) (by decide) rfl w.heap.size (.slice b4 j d4) _ _ rfl b9.out.r4 [.int .i64 ck,.string (Be m),.string t] rfl (Aq5 _ _ _) (by simp [Act.eval]) (by omega) b9.out.mod.size ?_;intro v9 u6 C N H;have a2:Au w.heap.size u6 v9 (ml++[(ck,Be m,t)]):=(by unfold Au;rw [List.length_append,Mz];exact C);obtain ⟨a9,c9,rfl⟩:=Ab a2;have a3:=hid (b9.out.apM a2 N);generalize J:(ml++[(ck,Be m,t)]).length=l9 at*;have x6:=hid J;clear C a2 N H J;obtain ⟨g0,g1,g2,g3,g4,h0,h1,h2,h3,h4⟩:=a3.out.1.cells);exact ⟨⟨j+1,_,_,by go_num,by omega,by rw [List.length_append,f8.out];rfl,k8.out,a3.out.2⟩,by simp [intOf];omega⟩
     | false=>
      have b1:ml.length<=8:=(by rw [f8.out];exact n7);have k9:Hid (ts≠[]):=o.out.ne (by have:=f7.out;omega);have l0:Hid (ts.length<=4):=Nat.le_trans o.out.len (by have:=f7.out;omega);have l1:Hid (new.length<=4*pgs d):=Nat.le_trans o.out.cnt (Nat.mul_le_mul_right _ (by have:=f7.out;omega));have l2:Hid (iml.length+1+new.length<=2147483648):=(by show _<=_;have h1:=l1.out;have h2:=i0.out;omega);have l3:=hid (o.out.mad.well f9.out b1 k9.out l0.out h7 l2.out);have l4:=hid (o.out.mad.mad f9.out b1 k9.out l0.out h7 l2.out);have l5:Eb w.heap.size G (.agg #[.int .i64 2,.slice none 0 0,.slice b2 nc d2,.slice b3 M d3,.slice b4 j d4]) 2 [] (ts.map fun x=> Ld.num d x.2.2) (ts.map fun x=> Be x.1).tail ml:=⟨_,_,_,_,rfl,HS.out.r1,HS.out.r2,HS.out.r3,HS.out.r4,by simp,by rw [i5.out];omega,by rw [Z.out];omega,by omega⟩;have c0:=hid (Pj _ 2 [] _ _ ml G l5.isNode);rw [Vm l3.out] at c0;have l6:Hid (∃pt,Pr.Gm (brN ts ml)=pt):=⟨_,rfl⟩;obtain ⟨pt,h5⟩:=l6.out;have e1:Pr.Gm (2,plain [],ts.map (fun x=> Ld.num d x.2.2),lists (ts.map fun x=> Be x.1).tail,plainCh ml)=pt:=h5;rw [e1] at c0;rw [h5] at l4;obtain ⟨n0,R,n2,n3,n4,f0,f1,f2,f3,f4⟩:=HS.out.nd.cells;clear l5 h5 e1 l6 l3;go_wp2_with fail;refine c0.out.mono ?_;rintro r w7 ⟨rfl,o2⟩;have B:=hid (HS.out.below o2);clear o2 n0 R n2 n3 n4 f0 f1 f2 f3 f4 c0;obtain ⟨x0,x1,x2,x3⟩:=B.out.md.mb.cells;have T:iml.length < (iml++(⟨#[]⟩:ByteArray)::new).length:=(by simp);obtain ⟨g,s1,e,hc,-,y3,y0⟩:=Av.at B.out.md.im iml.length T;rw [Y.out] at e;simp only [Value.slice.injEq,true_and] at e;obtain ⟨rfl,rfl⟩:=e;have HE:=hid (Ao5 B.out ⟨pt.toArray⟩);obtain ⟨z0,z1,z2,z3⟩:=HE.out.1.1.cells;obtain ⟨g',v3,e',-,-,-,y1⟩:=Av.at HE.out.1.2 iml.length T;obtain rfl:g=g':=(by simp only [Value.slice.injEq,Option.some.injEq,Addr.mk.injEq] at e';exact e'.1.1);have x7:=Ag7 HE.out.1.2 rfl iml.length;have v2:(iml.length:Int) < (L:Int):=(by have:=Y.out;rw [List.length_append,List.length_cons] at this;omega);have j9:(0:Int)<=(iml.length:Int):=(by omega);generalize (iml++(⟨#[]⟩:ByteArray)::new)[iml.length]'T=sx at y0 y1;clear y0 e' T;go_wp2_with fail;go_ret;subst l7;exact ⟨⟨pt.toArray⟩::new,Ld.brP iml.length (ts.map (·.2.2)),_,rfl,by rw [List.length_cons];show _<=1+4*pgs d;have:=l1.out;omega,Nat.succ_pos _,l4.out,HE.out.2.1,B.out.hat,HE.out.2.2⟩
theorem Ag8 (w0:World) (b:Nat) (a:Value) (l:List Int) (g:Ge w0 a l):∀d,Ao7 w0 b a d
 | 0=> fun i iml j lo hi w k m n c f=> Adh w0 b a l g i iml j lo hi w k (by unfold pgs at m;omega) (by omega) c f
 | d+1=> Vx w0 b a l g d (Ag8 w0 b a l g d)
structure LoS (w0:World) (V:Tr.Key->Option Tr.Key) (N x b:Nat) (F:List Nat) (bw:Nat) (vp vr:Value) (far:Int) (v:Value) (il:List (ByteArray×ByteArray)) (W:World):Prop where
 kt:KT V N x b F w0 W
 wk:WK W bw vp vr far v
 it:Ak w0.heap.size W v il
 lob:w0.heap.size<=bw
 wf:Tr.WF 0 [] none (plain il)
 lk:∀k,Tr.Bj (plain il) k=V k
 len:il.length < N
 dis:bw∉x::b::F/\∀g,v.ownBlock=some g->g∉x::b::F
theorem LoS.below {w0:World} {V:Tr.Key->Option Tr.Key} {N x b:Nat} {F:List Nat} {c:Nat} {vp f:Value} {a:Int} {v:Value} {il:List (ByteArray×ByteArray)} {W W':World} (h:LoS w0 V N x b F c vp f a v il W) (d:Below W.heap.size W W'):LoS w0 V N x b F c vp f a v il W':=
 ⟨h.kt.below d,(d.block c h.wk.lt).trans h.wk,Aa h.it d (Nat.le_refl _),h.lob,h.wf,h.lk,h.len,h.dis⟩
theorem LoS.made {w0:World} {V:Tr.Key->Option Tr.Key} {N x b:Nat} {F:List Nat} {d:Nat} {vp s:Value} {f:Int} {v:Value} {il:List (ByteArray×ByteArray)} {W i:World} (h:LoS w0 V N x b F d vp s f v il W) {k:Int} {key o:ByteArray} (t:Tr.Ew (chP k key o)) {r:Ending} (u:SmQ V N x b F k key o W r i):r= .returned (.int .i64 0)/\∃j,KT (fun p=> Tr.one p (V p) (chP k key o)) (N+1) x b j w0 i/\WK i d vp s f v/\Ak w0.heap.size i v il/\Mod (fun g=> g∈b::F) W i/\d∉x::b::j:=by
 obtain ⟨e,j,y,l⟩:=h.kt.make (Vl t) u;obtain ⟨B,m,F',c,n⟩:=u;refine ⟨e,?_⟩;rw [Vl t] at c;refine ⟨F',⟨m,c,fun g a=> ?_,fun q=> ?_,y.bel⟩,(l.block d h.wk.lt fun q=> h.dis.1 (List.mem_cons_of_mem _ q)).trans h.wk,l.row h.it fun g a q=> h.dis.2 g a (List.mem_cons_of_mem _ q),l,fun q=> ?_⟩
 ·rcases List.mem_cons.1 a with q | a
  ·rw [q];exact h.kt.new x (by simp)
  ·rcases n.2 g a with q | q
   ·exact h.kt.new g (List.mem_cons_of_mem _ q)
   ·exact Nat.le_trans h.kt.bel.size q
 ·rcases n.2 x q with z | z
  ·exact h.kt.nx z
  ·have:=h.kt.st.lt;omega
 ·rcases List.mem_cons.1 q with q | q
  ·exact h.dis.1 (by rw [q];exact List.mem_cons_self ..)
  ·rcases n.2 d q with z | z
   ·exact h.dis.1 (List.mem_cons_of_mem _ z)
   ·have:=h.wk.lt;omega
theorem LoS.makes {w0:World} {V V':Tr.Key->Option Tr.Key} {N x b:Nat} {u:List Nat} {f:Nat} {vp F:Value} {n:Int} {v:Value} {il:List (ByteArray×ByteArray)} {y O:World} {k:Int} {key G:ByteArray} (U:∀A,V' A=Tr.one A (V A) (chP k key G)) (a:KT V' (N+1) x b u w0 y) (o:WK y f vp F n v) (i:w0.heap.size<=f) (z:Tr.WF 0 [] none (plain il)) (H:∀k,Tr.Bj (plain il) k=V k) (R:il.length < N) (j:f∉x::b::u) (S:Tr.Ew (chP k key G)) {r:Ending} (W:KmQ y f 3 il k key G r O):r= .returned (.tuple #[])/\∃v2 l,LoS w0 V' (N+1) x b u f vp F n v2 l O:=by
 obtain ⟨e,J,v2,l,rfl,L,M,D⟩:=W;have m:=Mod.setCell J f 3 v2;have d:=a.below L;have B:WK J f vp F n v:=(L.block f o.lt).trans o;have s:∀g,v2.ownBlock=some g->y.heap.size<=g:=fun g c=> (World.ownsRow.lt M g c).1
 have t:∀g∈x::b::u,g≠f:=fun g c q=> j (by rw [<-q];exact c)
 have C:∀g∈x::b::u,g < y.heap.size:=fun g c=> by
  rcases List.mem_cons.1 c with q | q
  ·rw [q];exact a.st.lt
  ·exact a.tr.lt g q
 refine ⟨e,v2,l,⟨(m.block x d.st.lt (t x (by simp))).trans d.st,d.tr.keep fun g c=> m.block g (d.tr.lt g c) (t g (List.mem_cons_of_mem _ c)),a.new,a.nx,d.bel.setCell (p:=⟨f,3,none⟩) i _⟩,B.setSays v2,?_,i,?_,fun A=> ?_,?_,j,fun g c q=> ?_⟩
 ·exact Al (m.row M fun g c q=> by
   have I:=s g c;have T:=o.lt;rw [show g=f from q] at I;omega) a.bel.size
 ·rw [D];exact Tr.Re z ⟨Tr.Jb _,S⟩
 ·rw [D,Ai9 z S,H,U]
 ·have:=Al5 D;omega
 ·have I:=s g c;have T:=C g q;omega
theorem Aoa {d:Nat} (h:d < 4):pgs d<=85:=by
 match d,h with
 | 0,_=> decide
 | 1,_=> decide
 | 2,_=> decide
 | 3,_=> decide
theorem Ag5.right {d:Nat} {new:List ByteArray} {f:Ld.PT d} {lo hi:Nat} (h:Ag5 d 0 new f lo hi) (a:0 < new.length):Ld.Co (Ag new) d [] [] f/\Ld.num d f=0/\(Ld.nums d f).Nodup/\∀n,n < new.length->n∈Ld.nums d f:=by
 refine ⟨h.fits _ [] [] (fun i _=> by rw [Nat.zero_add]) fun k _ _=> ⟨List.not_lt_nil _,.inl rfl⟩,Ao9 h.nums a,?_,fun n a=> ?_⟩
 ·rw [h.nums];exact List.nodup_range'
 ·rw [h.nums];exact List.mem_range'_1.2 ⟨Nat.zero_le _,by omega⟩
theorem Ge.at3 {w:World} {a:Option Addr} {d:Nat} {l:List Int} (h:Ge w (.slice a l.length d) l) (i:Nat) (hi:i+2 < l.length):∃b c x y z,a=some ⟨b,c,none⟩/\b < w.heap.size/\w.cell? ⟨b,c+i,none⟩=some (.int .i64 x)/\w.cell? ⟨b,c+(i+1),none⟩=some (.int .i64 y)/\w.cell? ⟨b,c+(i+2),none⟩=some (.int .i64 z)/\(-9223372036854775808<=x/\x<=9223372036854775807)/\(-9223372036854775808<=y/\y<=9223372036854775807)/\(-9223372036854775808<=z/\z<=9223372036854775807):=by
 obtain ⟨b,c,rfl,m,n,o⟩:=h.at i (by omega);obtain ⟨t,f,g,-,p,q⟩:=h.at (i+1) (by omega);obtain ⟨u,j,k,-,r,s⟩:=h.at (i+2) hi;simp only [Option.some.injEq,Addr.mk.injEq,and_true] at g k;obtain ⟨rfl,rfl⟩:=g;obtain ⟨rfl,rfl⟩:=k;exact ⟨b,c,_,_,_,rfl,m,n,p,r,o,q,s⟩
theorem Aob {w w':World} {o:Obj} (h:Below (w.alloc o).heap.size (w.alloc o) w'):w'.heap[w.heap.size]?=(w.alloc o).heap[w.heap.size]?:=h.block _ (by simp)
theorem Apq {b:Int} {s t:ByteArray} (a:Pg.Ax (b,s.data.toList,t.data.toList)=true) (m:Nat):Tr.Ew (chP b (Be m) t):=by
 unfold Tr.Ew Pg.Ax chP Pg.Bt at*;simp only [Bool.and_eq_true,Bool.or_eq_true,decide_eq_true_eq] at a ⊢;exact ⟨⟨by rw [Mk];exact Wf m,a.1.2⟩,a.2⟩
set_option maxHeartbeats 1000000 in
set_option maxRecDepth 20000 in
theorem Ag9 (vl:Value) (l:List Int) (dp:Int) (vm:Value) (c:List Int) (w:World) (hv:Ge w vl l) (hm:Ge w vm c) (hl:c.length<=1048576) (a7: -9223372036854775808<=dp) (o0:dp<=9223372036854775807):
  Calls Tryz.prog 8 #[vl,.int .i64 dp,vm] w fun r w'=> r= .returned (.bool true)/\Below w.heap.size w w':=by
 have HV:=hid hv;have k7:=hid hm;obtain ⟨ma,mc,rfl,-⟩:=hm;clear hv;go_enter Tryz.func8,Tryz.ntmps8;go_wp2_with fail;refine (Al1 w).mono ?_;rintro r w1 ⟨rfl,j6⟩;have c8:=hid j6;have f3:Hid (MdW w1 w1.heap.size (.slice none 0 0) [] (w1.alloc (.cells #[.slice none 0 0,.bool true] 55))):=⟨(Below.refl _ w1).alloc (Nat.le_refl _) _,heap_alloc_new _ _,⟨rfl,.inl ⟨rfl,rfl⟩⟩,Nat.le_refl _⟩;have CP:=hid (Em dp 4 (w1.alloc (.cells #[.slice none 0 0,.bool true] 55)) a7 o0 (by decide) (by decide));rw [show ((4:Nat):Int)=4 from rfl] at CP;have f4:=Si dp 4 (by decide);generalize pk dp 4=pd at*;clear j6;go_wp2_with fail;generalize w1.alloc (.cells #[.slice none 0 0,.bool true] 55)=w2 at*;refine CP.out.mono ?_;rintro r w2 ⟨rfl,rfl⟩;have c9:=hid (Ag8 w1 w1.heap.size vl l (HV.out.below c8.out) pd (.slice none 0 0) [] 0 0 100 w2 f3.out (by have:=Aoa f4;simp;omega) (by omega) (by omega) (by omega));rw [show ((0:Nat):Int)=0 from rfl,show ((100:Nat):Int)=100 from rfl] at c9;generalize w1.heap.size=bm at*;clear CP;go_wp2_with fail;refine c9.out.mono ?_;rintro r w3 ⟨new,f,vi,rfl,j7,n6,j8,z,-,-⟩;obtain ⟨hF,e3,e4,b8⟩:=j8.right n6;have o1:new.length<=85:=Nat.le_trans j7 (Aoa f4);rw [List.nil_append] at z;have HF:=hid hF;have G:=hid e3;have f5:=hid e4;have d3:Hid (Ld.Sb (Ag new)):=⟨pd,f,hF,e3,e4,fun n hn=> b8 n (by rw [Iq] at hn;exact hn)⟩;have b7:=hid z;have f6:Hid (Below w.heap.size w w3):=c8.out.trans (z.bel.mono c8.out.size);have k8:=hid (show Av 0 w3 vi new from Al z.im (Nat.zero_le _));obtain ⟨W,X,Y,m3⟩:=z.mb.cells;obtain ⟨ai,ci,rfl⟩:=Ab z.im;have R:∀s∈new,∃n,Pr.Fg s.data.toList=some n:=fun s hs=> by
  obtain ⟨i,hi,rfl⟩:=List.getElem_of_mem hs;obtain ⟨nd,b9⟩:=d3.out.all i (by rw [Iq];exact hi);rw [Me hi] at b9;exact ⟨nd,Option.some.inj b9⟩
 have f7:=hid (Zy _ new w3 k8.out (by omega) R);clear j8 z hF e3 e4 b8 R c9 j7 f3;go_wp2_with fail;refine f7.out.mono ?_;rintro r w4 ⟨vp,ps,rfl,e7,hk⟩;obtain ⟨ap,cp,e⟩:=Ab hk.pg.row;rw [e7] at e;subst e;have f8:=hid e7;have HK:=hid hk;have S:=hid (b7.out.below hk.bel);have a4:=hid (f6.out.trans (hk.bel.mono f6.out.size));clear e7 hk f7 W X Y m3 b7;obtain ⟨W,X,Y,m3⟩:=S.out.mb.cells;go_wp2_with (at_make;refine Am0 w4 rfl (.tmp 50) (.tmp 50) rfl new.length (by simp [Act.eval]) (by simp [Act.eval]) (by omega) ?_;intro O b6 u);have f9:Hid (KwI new.length w4 O.heap.size (.slice ap new.length cp) (.slice (some ⟨w4.heap.size,0,none⟩) new.length new.length) [] (-1) (.slice none 0 0) [] (O.alloc (.cells #[.slice ap new.length cp,.slice (some ⟨w4.heap.size,0,none⟩) new.length new.length,.int .i64 (-1),.slice none 0 0] 62))):=by
  have g0:Below O.heap.size O (O.alloc (.cells #[.slice ap new.length cp,.slice (some ⟨w4.heap.size,0,none⟩) new.length new.length,.int .i64 (-1),.slice none 0 0] 62)):=(Below.refl _ O).alloc (Nat.le_refl _) _;refine ⟨u.trans (g0.mono u.size),heap_alloc_new _ _,?_,⟨rfl,.inl ⟨rfl,rfl⟩⟩,⟨List.Pairwise.nil,fun x hx=> by cases hx⟩,u.size,⟨List.nodup_nil,fun n hn=> by cases hn⟩⟩;rw [Aj9];unfold Iy at b6;rw [List.length_replicate] at b6;exact Aa b6 g0 (Nat.le_refl _)
 clear b6 u;generalize O.alloc (.cells #[.slice ap new.length cp,.slice (some ⟨w4.heap.size,0,none⟩) new.length new.length,.int .i64 (-1),.slice none 0 0] 62)=w6 at*;generalize O.heap.size=bw at*;have hp:=Ua new (by omega) w4 bw (.slice ap new.length cp) (.slice (some ⟨w4.heap.size,0,none⟩) new.length new.length) ps f8.out HK.out.pg pd [] (-1) (.slice none 0 0) [] f 0 ⟨#[]⟩ ⟨#[]⟩ w6 f9.out HF.out (by simpa using f5.out) (.inl (by decide)) (by simp) (Nat.zero_le _);rw [G.out] at hp;have HP:=hid hp;clear hp;go_wp2_with fail;refine HP.out.mono ?_;rintro r M ⟨rfl,n7,v,il,a8,j9⟩;have a:=hid a8;have g1:=hid j9;have T:=hid (S.out.below a8.bel);have d4:=hid (a4.out.trans (a8.bel.mono a4.out.size));have g2:=hid (show Av 0 M _ new from Al T.out.im (Nat.zero_le _));clear n7 a8 j9 HP f9 W X Y m3;obtain ⟨W,X,Y,m3⟩:=T.out.mb.cells;have g3:=hid (Al0 (16*new.length+1) _ new M g2.out (by omega) (LdN.any new) (by omega));go_wp2_with fail;refine g3.out.mono ?_;rintro r w8 ⟨b3,⟨rfl,n8⟩ | ⟨H,f',x,b,F,rfl,h1,h2,h3,h4,h5,h6,h7,h8⟩⟩
 ·exact absurd d3.out n8
 obtain ⟨rfl,i7⟩:=Ld.Oz (Ct new) H pd [] [] [] [] f' f h1 HF.out (by rw [h2,G.out]);obtain rfl:=eq_of_heq i7;have g4:Hid (LoS w (fun k=> Tr.Aj (Ld.eff (Ag new) H f') k none) (16*new.length+1) x b F bw (.slice ap new.length cp) (.slice (some ⟨w4.heap.size,0,none⟩) new.length new.length) ((0+H:Nat):Int) v il w8):=by
  have hr:=(Ig a.out.wf).1;have g5:∀k,Tr.Bj (plain il) k=Tr.Aj (Ld.eff (Ag new) H f') k none:=fun k=> by
   have e:plain il=Tr.Bq [] (Ld.eff (Ag new) H f'):=g1.out;rw [e,Ag4 HF.out]
  have o5:=(LdN.any new H f' h1 h2 h3).2 il hr g5;refine ⟨⟨h5,h6,fun g hg=> Nat.le_trans d4.out.size (h7 g hg),h8,d4.out.trans (b3.mono d4.out.size)⟩,(b3.block bw a.out.wk.lt).trans a.out.wk,Aa (Al a.out.it a4.out.size) b3 (Nat.le_refl _),Nat.le_trans a4.out.size a.out.lob,a.out.wf,g5,by omega,fun q=> ?_,fun g hg q=> ?_⟩
  ·have z1:=h7 bw q;have z2:=a.out.wk.lt;omega
  ·have z1:=h7 g q;have z2:=(World.ownsRow.lt a.out.it g hg).2;omega
 generalize (fun k=> Tr.Aj (Ld.eff (Ag new) H f') k none)=V0 at*;clear b3 h1 h2 h3 h4 h5 h6 h7 h8 i7 g3 a g1 HF G f5 S T g2 d3 HK f8 W X Y m3;generalize (Value.slice (some ⟨w4.heap.size,0,none⟩) new.length new.length)=vr at*;have G:Hid (3*(16*new.length+1)<=4200):=by show _<=_;omega
 generalize 16*new.length+1=N0 at*;go_wp2_with fail
 go_loopw [15,14] (fun vj _ wr=>∃(i:Nat) (V:Tr.Key->Option Tr.Key) (N:Nat) (F:List Nat) (v:Value) (il:List (ByteArray×ByteArray)),vj= .int .i64 (i:Nat)/\i<=c.length+2/\3*N<=i+4200/\LoS w V N x b F bw (.slice ap new.length cp) vr ((0+H:Nat):Int) v il wr) (fun vj _ _=> c.length+3 - (intOf vj).toNat)
 case atStart=> exact ⟨0,V0,N0,F,v,il,rfl,Nat.zero_le _,by have:=G.out;omega,g4.out⟩
 case round=>
  obtain ⟨i,V,N,F,v,il,rfl,hi,hN,hS⟩:=hrel;have HS:=hid hS;clear g4 G;by_cases k6:i+2 < c.length
  case pos=>
   obtain ⟨L,d,x0,y0,z0,rfl,a6,c0,c1,c2,i8,i9,j0⟩:=k7.out.at3 i k6;have c0:=(hS.kt.bel.cell (p:=⟨L,d+i,none⟩) a6).trans c0;have c1:=(hS.kt.bel.cell (p:=⟨L,d+(i+1),none⟩) a6).trans c1;have c2:=(hS.kt.bel.cell (p:=⟨L,d+(i+2),none⟩) a6).trans c2;obtain ⟨i1,j1⟩:∃i1,i+1=i1:=⟨_,rfl⟩;obtain ⟨i2,j2⟩:∃i2,i+2=i2:=⟨_,rfl⟩;rw [j1] at c1;rw [j2] at c2;have e1:IntKind.i64.wrap ((i:Int)+1)=(i1:Int):=(by rw [IntKind.wrap_i64];omega);have e2:IntKind.i64.wrap ((i:Int)+2)=(i2:Int):=(by rw [IntKind.wrap_i64];omega);have b0:(0:Int)<=(i:Int):=(by omega);have b1:(0:Int)<=(i1:Int):=(by omega);have b2:(0:Int)<=(i2:Int):=(by omega);have d0:(i:Int) < (c.length:Int):=(by omega);have d1:(i1:Int) < (c.length:Int):=(by omega);have d2:(i2:Int) < (c.length:Int):=(by omega);have d5:L < wr.heap.size:=Nat.lt_of_lt_of_le a6 hS.kt.bel.size;have g6:=hid i8;have g7:=hid i9;have g8:=hid j0;have l0:=hid c1;have B0:Below wr.heap.size wr wr.drew:=(Below.refl wr.heap.size wr).drew;have g9:=World.new_ne wr ⟨L,d+i,none⟩ c0;have h0:=World.new_ne wr ⟨L,d+i2,none⟩ c2;clear hS j1 j2 i8 i9 j0 c1 k6;go_upto_region 17 with fail
   go_cut [16] (fun v9 wx=>∃(C:Nat) (D:Int) (s t:ByteArray),v9= .pointer (some ⟨C,0,none⟩)/\wr.heap.size<=C/\ChB wx C D s t/\Below wr.heap.size wr wx/\Pg.Ax (D,s.data.toList,t.data.toList)=true)
   case first=>
    go_region_held3 (fun w'=> w'.cell? ⟨L,d+i,none⟩=some (.int .i64 x0)/\w'.cell? ⟨L,d+i2,none⟩=some (.int .i64 z0)) (go_keep)
     ((go_at_call 13
       refine (Sj x0 0 z0 _ g6.out.1 g6.out.2 (by decide) (by decide) g8.out.1 g8.out.2).mono ?_;rintro r wk ⟨⟨D,s,t,rfl,a1⟩,b4⟩;have I:=hid a1;have U:Hid (Below wr.heap.size wr wk):=by
        first
        | exact B0.trans (b4.mono (Nat.le_refl _))
        | exact (B0.alloc (Nat.le_refl _) _).trans (b4.mono (by simp))
       have l1:=(U.out.cell (p:=⟨L,d+i,none⟩) d5).trans c0;have l2:=(U.out.cell (p:=⟨L,d+i2,none⟩) d5).trans c2
       try have y:wk.heap[wr.heap.size]?=some (.cells #[.int .i64 0,.string ⟨#[]⟩,.string ⟨#[]⟩] 34 (0,0)):=(Aob (w:=wr.drew) b4).trans (heap_alloc_new _ _)
       try have W:=(Dk y).1
       try have X:=(Dk y).2.1
       try have Y:=(Dk y).2.2.1
       try have f0:=(Dk y).2.2.2.1
       try have f1:=(Dk y).2.2.2.2.1
       try have f2:=(Dk y).2.2.2.2.2
       have h9:=U.out.size;have o2:=World.new_ne wk ⟨L,d+i,none⟩ l1;have o3:=World.new_ne wk ⟨L,d+i2,none⟩ l2;clear b4 a1))
    all_goals
     go_wp2_with fail;go_meet
     first
      | exact ⟨_,D,s,t,rfl,h9,heap_alloc_new _ _,U.out.alloc h9 _,I.out⟩
      | exact ⟨_,D,s,t,rfl,Nat.le_refl _,Ad (i:=2) (Ad (i:=1) (Ad (i:=0) y (.int .i64 D)) (.string s)) (.string t),((U.out.setCell (p:=⟨_,0,none⟩) (Nat.le_refl _) _).setCell (p:=⟨_,1,none⟩) (Nat.le_refl _) _).setCell (p:=⟨_,2,none⟩) (Nat.le_refl _) _,I.out⟩
   case rest=>
    obtain ⟨C,D,s,t,rfl,j3,j4,e5,a1⟩:=hcut;have I:=hid (Apq a1);have d6:=hid e5;have d7:=hid j4;have i0:C∉b::F:=fun q=> by have:=HS.out.kt.tr.lt C q;omega
    have l3:=hid i0;have l4:=hid j3;have c1:=(e5.cell (p:=⟨L,d+i1,none⟩) d5).trans l0.out;have CP:=hid (Em y0 100 wc g7.out.1 g7.out.2 (by decide) (by decide));rw [show ((100:Nat):Int)=100 from rfl] at CP;have hp:=Si y0 100 (by decide);generalize pk y0 100=m at*;clear j4 e5 a1 i0 j3 c0 c2 B0 g9 h0;go_wp2_with fail;refine CP.out.mono ?_;rintro r wc ⟨rfl,rfl⟩;clear CP;go_wp2_with fail;refine (Li m wc hp).mono ?_;rintro r O ⟨rfl,u⟩;have A:Hid (ChB O C D s t):=(u.block C d7.out.lt).trans d7.out;have i3:=hid (d6.out.trans (u.mono d6.out.size));have l5:=hid (i3.out.setCell (p:=⟨C,1,none⟩) l4.out (.string (Be m)));have Z:Hid (ChB (O.setCell ⟨C,1,none⟩ (.string (Be m))) C D (Be m) t):=by
     have:=A.out;unfold Hid ChB at*;rw [Ad (i:=1) this];rfl
    obtain ⟨W,X,Y⟩:=A.out.cells;obtain ⟨f0,f1,f2⟩:=A.out.froz;have j:=hid (HS.out.below l5.out);clear u c1 d7 d6;go_upto_region 19 with fail;generalize O.setCell ⟨C,1,none⟩ (.string (Be m))=w6 at*;clear W X Y f0 f1 f2 A i3;obtain ⟨W,X,Y⟩:=Z.out.cells;go_wp2_with fail;refine (Tm V N x b F D (Be m) t w6 j.out.kt.st j.out.kt.tr j.out.kt.nx (by omega)).mono ?_;rintro r M k0;obtain ⟨rfl,F1,c3,a2,c4,j5,a7⟩:=j.out.made (I.out m) k0;have i4:Hid (ChB M C D (Be m) t):=(j5.block C Z.out.lt l3.out).trans Z.out;have a5:Below M.heap.size M M.drew:=(Below.refl _ M).drew;have l6:=hid (c3.below a5);have d8:Hid (WK M.drew bw (.slice ap new.length cp) vr ((0+H:Nat):Int) v):=(a5.block bw a2.lt).trans a2;have l7:Hid (Ak w.heap.size M.drew v il):=Aa c4 a5 (Nat.le_refl _);have l8:=hid a7;have l9:=j.out.len;have a0:=Ig j.out.wf;have d9:=Aj8 (I.out m);obtain ⟨m7,m8,m9,y3,y4,y5⟩:=d8.out.cells;have m4:=hid (Qo bw 3 v il D (Be m) t M.drew d8.out.lt ⟨y3,y5⟩ (Al l7.out (Nat.zero_le _)) (by omega) a0.1 a0.2 d9.1 d9.2);have e0:Hid (∀r W',KmQ M.drew bw 3 il D (Be m) t r W'->r= .returned (.tuple #[])/\∃v2 e6,LoS w (fun k'=> Tr.one k' (V k') (chP D (Be m) t)) (N+1) x b F1 bw (.slice ap new.length cp) vr ((0+H:Nat):Int) v2 e6 W'):=fun r W' hq=> LoS.makes (fun _=> rfl) l6.out d8.out j.out.lob j.out.wf j.out.lk j.out.len l8.out (I.out m) hq
    clear k0 c3 a2 c4 j5 a7 W X Y a5 a0 d9 m7 m8 m9 y3 y4 y5;obtain ⟨W,X,Y⟩:=i4.out.cells;go_upto_region 20 with fail
    first | go_region_law (go_simp;go_at_call 15;refine m4.out.mono ?_;rintro r w8 k1;obtain ⟨rfl,v2,e6,h8⟩:=e0.out r w8 k1;have H8:=hid h8;clear k1 h8) | fail
    all_goals
     go_wp2_with fail;exact ⟨⟨i+3,_,N+1,F1,v2,e6,by go_num,by omega,by omega,H8.out⟩,by simp [intOf];omega⟩
  case neg=>
   have e2:IntKind.i64.wrap ((i:Int)+2)=((i+2:Nat):Int):=(by rw [IntKind.wrap_i64];omega);have hc:¬((i+2:Nat):Int) < (c.length:Int):=(by omega);have HR:=hid (Ig HS.out.wf);have l9:=HS.out.len;clear hS;go_wp2_with fail;refine (Akc V N x b F ⟨#[]⟩ ⟨#[]⟩ wr HS.out.kt.st HS.out.kt.tr HS.out.kt.nx (by omega)).mono ?_;rintro r w9 ⟨vs,b5,rfl,e8,k2,k3,k4⟩;obtain rfl:b5=il:=Ac5 (Tr.Ww k3 HR.out.1 fun k=> by rw [(k4 k).1 ⟨List.not_lt_nil k,.inl rfl⟩,HS.out.lk]);have J:=hid (HS.out.below k2);have i5:=hid (show Ak 0 w9 vs b5 from Al e8 (Nat.zero_le _));obtain ⟨a9,k9,rfl⟩:=Ab e8;obtain ⟨av,kv,rfl⟩:=Ab J.out.it;obtain ⟨n0,n1,n2,n3,n4,n5⟩:=J.out.wk.cells;clear k2 e8 k3 k4 HS e2 hc;go_wp2_with fail;refine (Zx _ _ b5 w9 i5.out (Al J.out.it (Nat.zero_le _)) (by omega)).mono ?_;rintro r k5 ⟨rfl,a3⟩;have B:=hid ((J.out.below a3).below (Below.refl _ k5).drew);have o4:=hid (J.out.below a3).kt.bel;have m5:=hid (Ai6 V N x b F k5.drew B.out.kt.st B.out.kt.tr B.out.kt.nx (by omega));clear a3 n0 n1 n2 n3 n4 n5 J i5;go_upto_region 27 with fail
   first | go_region_law (first
    | (go_simp;go_at_call 17;refine m5.out.mono ?_;rintro r n9 ⟨vi,ss,rfl,e9,c5,c6⟩;have o:=hid (B.out.below c5);have m6:=hid (Ai8 vi ss V N bw 3 _ b5 n9 (Al e9 (Nat.zero_le _)) c6 (by omega) o.out.wk.lt o.out.wk.cells.2.2.2.1 (Al o.out.it (Nat.zero_le _)) HR.out.1 o.out.lk (by omega));obtain ⟨o6,o7,rfl⟩:=Ab e9;clear e9 c5 c6)
    | (go_simp;go_at_call 18;refine m6.out.mono ?_;rintro r o8 ⟨rfl,c7⟩;have i6:=hid (o.out.below c7).kt.bel;clear c7)) | fail
   all_goals
    go_wp2_with fail;go_ret;exact ⟨rfl,i6.out⟩
end Go.Proofs.YtolgpnaoaodepaaGreat
