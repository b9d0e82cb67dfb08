import Derived.Test.YtolgpnaoaodepaaGreatSilEm
namespace Go.Proofs.YtolgpnaoaodepaaGreat
open Go.RowKit
structure KrR (iml:List ByteArray) (w:World) (vp:Value) (ps:List NdM) (W:World):Prop where
 pg:Akw iml vp ps W
 lo:∀g,vp.ownBlock=some g->w.heap.size<=g
 bel:Below w.heap.size w W
theorem KrR.below {iml:List ByteArray} {w:World} {vp:Value} {a:List NdM} {W W':World} (h:KrR iml w vp a W) (b:Below W.heap.size W W'):KrR iml w vp a W':=
 ⟨h.pg.mod (Mod.of_below (F:=fun _=> False) b) (fun _ q=> q.elim),h.lo,h.bel.trans (b.mono h.bel.size)⟩
theorem KrR.snoc {iml:List ByteArray} {w:World} {vp d:Value} {a:List NdM} {W W':World} {x:NdM} (h:KrR iml w vp a W) {il:List (ByteArray×ByteArray)} {cl:List Nat} {pl:List ByteArray} {ml:List (Int×ByteArray×ByteArray)} (r:(Ag iml)[a.length]?=some (some (x.1,plain il,cl,lists pl,plainCh ml))) (s:Eb 0 W (.agg #[.int .i64 x.1,x.2.1,x.2.2.1,x.2.2.2.1,x.2.2.2.2]) x.1 il cl pl ml) (t:Zr 0 W' d (a++[x])) (b:W.grownBy W' vp.ownBlock) (u:d.ownBlock=vp.ownBlock\/∃k,W.heap.size<=k/\d.ownBlock=some k):KrR iml w d (a++[x]) W':=by
 have m:=Mod.of_grown b;have j:Mq W (fun k=> vp.ownBlock=some k) Anw:=fun g b=> by
  obtain ⟨l,q,e⟩:=Gd h.pg.row b;exact ⟨l,_,q,e,by decide⟩
 refine ⟨⟨t,fun i hi=> ?_⟩,fun g b=> ?_,Dp h.bel m h.lo⟩
 ·by_cases c:i < a.length
  ·obtain ⟨il,cl,pl,ml,n,o⟩:=h.pg.pgs i c;have e:(a++[x])[i]'hi=a[i]'c:=List.getElem_append_left c;rw [e];exact ⟨il,cl,pl,ml,n,o.mod m j⟩
  ·have f:i=a.length:=(by rw [List.length_append,List.length_singleton] at hi;omega);subst f;have e:(a++[x])[a.length]'hi=x:=(by simp);rw [e];exact ⟨il,cl,pl,ml,r,s.mod m j⟩
 ·rcases u with e | ⟨k,p,e⟩
  ·exact h.lo g (by rw [<-e];exact b)
  ·rw [e] at b;rw [<-Option.some.inj b];exact Nat.le_trans h.bel.size p
set_option maxHeartbeats 1000000 in
set_option maxRecDepth 20000 in
theorem Zy (N:Value) (iml:List ByteArray) (w:World) (W:Av 0 w N iml) (hl:iml.length<=20000000) (f:∀s∈iml,∃n,Pr.Fg s.data.toList=some n):
  Calls Tryz.prog 24 #[N] w fun r w'=>∃v a,r= .returned (.tuple #[v,.bool true])/\a.length=iml.length/\KrR iml w v a w':=by
 have HV:=hid W;obtain ⟨ai,ci,rfl⟩:=Ab W;have C:=hid f;clear W f;have X:Hid (KrR iml w (.slice none 0 0) [] w):=⟨⟨⟨rfl,.inl ⟨rfl,rfl⟩⟩,fun i hi=> by cases hi⟩,(fun g hg=> by cases hg),Below.refl _ _⟩;go_enter Tryz.func24,Tryz.ntmps24;go_wp2_with fail
 go_loopw [5,4] (fun V v4 wr=>∃(a:List NdM),V= .int .i64 (a.length:Nat)/\a.length<=iml.length/\KrR iml w v4 a wr) (fun V _ _=> iml.length - (intOf V).toNat)
 case atStart=> exact ⟨[],rfl,Nat.zero_le _,X.out⟩
 case round=>
  obtain ⟨a,rfl,a5,G⟩:=hrel;have Y:=hid G;obtain ⟨ap,cp,rfl⟩:=Ab G.pg.row;clear X;by_cases c:a.length < iml.length
  ·obtain ⟨g,a6,e,hc,-,hg,x0⟩:=Av.at (Aa HV.out G.bel (Nat.le_refl _)) a.length c;simp only [Value.slice.injEq,true_and] at e;obtain ⟨rfl,rfl⟩:=e;have a0:(0:Int)<=(a.length:Int):=(by omega);have O:(a.length:Int) < (iml.length:Int):=(by omega);have R:=hid (Me c);have S:=hid (C.out _ (List.getElem_mem c));have D:=hid (Adg (iml[a.length]'c).data.toList wr);rw [Pn] at D;clear G;generalize iml[a.length]'c=s at*;go_wp2_with fail;refine D.out.mono ?_;rintro r A ⟨H,⟨B,rfl⟩ | ⟨kd,il,cl,pl,ml,v,b,rfl,I⟩⟩
   ·obtain ⟨n,hn⟩:=S.out;rw [B] at hn
    cases hn
   ·have d:=I;obtain ⟨v1,v2,v3,v4,rfl,o1,o2,o3,o4,-⟩:=I;obtain ⟨k,l,rfl⟩:=Ab o1;obtain ⟨m,o,rfl⟩:=Ab o2;obtain ⟨p,t,rfl⟩:=Ab o3;obtain ⟨y,z,rfl⟩:=Ab o4;have T:Hid ((Ag iml)[a.length]?=some (some (kd,plain il,cl,lists pl,plainCh ml))):=(by show _=_;rw [R.out,b]);have j:Below A.heap.size A (A.alloc (.cells #[.int .i64 kd,.slice k il.length l,.slice m cl.length o,.slice p pl.length t,.slice y ml.length z] 79)):=(Below.refl _ A).alloc (Nat.le_refl _) _;have Z:=hid ((Y.out.below H).below j);have U:Hid (Eb 0 (A.alloc (.cells #[.int .i64 kd,.slice k il.length l,.slice m cl.length o,.slice p pl.length t,.slice y ml.length z] 79)) (.agg #[.int .i64 kd,.slice k il.length l,.slice m cl.length o,.slice p pl.length t,.slice y ml.length z]) kd il cl pl ml):=(d.shrink (Nat.zero_le _)).mod (Mod.of_below (F:=fun _=> False) j) (fun _ q=> q.elim);obtain ⟨n0,n1,n2,n3,n4,-⟩:=(Bw A (.int .i64 kd) (.slice k il.length l) (.slice m cl.length o) (.slice p pl.length t) (.slice y ml.length z)).cells;clear H b d o1 o2 o3 o4 j;go_wp2_with (at_builtin;refine Iw (A.alloc (.cells #[.int .i64 kd,.slice k il.length l,.slice m cl.length o,.slice p pl.length t,.slice y ml.length z] 79)) rfl (.tmp 24) (.tmp 26) 57 79 Tryz.underlying57 _ 5 104 Akv rfl (by decide) (by decide) rfl 0 (.slice ap a.length cp) a.length _ rfl Z.out.pg.row [.int .i64 kd,.slice k il.length l,.slice m cl.length o,.slice p pl.length t,.slice y ml.length z] rfl (by intro u hu;simp at hu;rcases hu with rfl | rfl | rfl | rfl | rfl <;> rfl) (by simp [Act.eval]) (by omega) (Nat.zero_le _) ?_;intro v9 w9 J L M;have HX:=hid (Z.out.snoc (x:=(kd,.slice k il.length l,.slice m cl.length o,.slice p pl.length t,.slice y ml.length z)) T.out U.out (by unfold Zr;rw [Of,List.length_append];exact J) L M);clear J L M)
    refine ⟨⟨_,?_,?_,HX.out⟩,?_⟩
    ·rw [List.length_append];go_num
    ·simp;omega
    ·simp [intOf];omega
  ·have O:¬(a.length:Int) < (iml.length:Int):=(by omega);have HE:=hid (And.intro (show a.length=iml.length by omega) Y.out);clear G;go_wp2_with fail;go_ret2;exact ⟨_,rfl,_,HE.out⟩
structure KmB (w:World) (b off:Nat) (v:Value) (il:List (ByteArray×ByteArray)) (k:Int) (key x:ByteArray) (W:World):Prop where
 bel:Below w.heap.size w W
 ch:ChB W w.heap.size k key x
 row:Ak 0 W v il
 lt:b < w.heap.size
 ct:W.cell? ⟨b,off,none⟩=some v/\W.frozen? ⟨b,off,none⟩=false
theorem KmB.below {w:World} {b a:Nat} {v:Value} {il:List (ByteArray×ByteArray)} {k:Int} {key x:ByteArray} {W W':World} (h:KmB w b a v il k key x W) (c:Below W.heap.size W W'):KmB w b a v il k key x W':=
 have d:b < W.heap.size:=Nat.lt_of_lt_of_le h.lt h.bel.size
 ⟨h.bel.trans (c.mono h.bel.size),(c.block _ h.ch.lt).trans h.ch,Aa h.row c (Nat.le_refl _),h.lt,(c.cell (p:=⟨b,a,none⟩) d).trans h.ct.1,(c.frozen (p:=⟨b,a,none⟩) d).trans h.ct.2⟩
def KmQ (w:World) (b off:Nat) (il:List (ByteArray×ByteArray)) (k:Int) (key x:ByteArray) (r:Ending) (w':World):Prop:=
 r= .returned (.tuple #[])/\∃wx v' il',w'=wx.setCell ⟨b,off,none⟩ v'/\Below w.heap.size w wx/\Ak w.heap.size wx v' il'/\plain il'=Tr.Ik (plain il) (chP k key x)
theorem Aj7 {il:List (ByteArray×ByteArray)} {key:ByteArray} (a:Cx (Cv il key) key=true):∃y D,il=Fw il key++y::D/\Fr (Cv il key) key=some y.2.data.toList/\(Fw il key).length < il.length/\∀h:(Fw il key).length < il.length,il[(Fw il key).length]'h=y:=by
 have e:il=Fw il key++Cv il key:=by unfold Fw Cv;exact (List.takeWhile_append_dropWhile ..).symm
 cases c:Cv il key with
 | nil=> rw [c] at a;cases a
 | cons y D=>
  rw [c] at a e;have b:(Fw il key).length < il.length:=by
   have:=congrArg List.length e;rw [List.length_append,List.length_cons] at this;omega
  exact ⟨y,D,e,if_pos (of_decide_eq_true a),b,fun _=> Aql e b⟩
set_option maxHeartbeats 1000000 in
set_option maxRecDepth 20000 in
theorem Qo (b r:Nat) (v:Value) (il:List (ByteArray×ByteArray)) (k:Int) (key x:ByteArray) (w:World) (hb:b < w.heap.size) (hc:w.cell? ⟨b,r,none⟩=some v/\w.frozen? ⟨b,r,none⟩=false) (h:Ak 0 w v il) (hl:il.length<=20000000) (hr:Tr.Bi (plain il)) (d7:∀z∈il,z.2.size<=16) (Z:k=1\/k=2\/k=3) (a1:x.size<=16):
  Calls Tryz.prog 15 #[.pointer (some ⟨b,r,none⟩),.agg #[.int .i64 k,.string key,.string x]] w (KmQ w b r il k key x):=by
 have H:Below w.heap.size w (w.alloc (.cells #[.int .i64 k,.string key,.string x] 34)):=(Below.refl _ w).alloc (Nat.le_refl _) _;have H0:Hid (KmB w b r v il k key x (w.alloc (.cells #[.int .i64 k,.string key,.string x] 34))):=⟨H,heap_alloc_new _ _,Aa h H (Nat.le_refl _),hb,(H.cell (p:=⟨b,r,none⟩) hb).trans hc.1,(H.frozen (p:=⟨b,r,none⟩) hb).trans hc.2⟩;obtain ⟨a,c,rfl⟩:=Ab h;have HR:=hid hr;have b3:=hid d7;clear hb hc h H hr d7;go_enter Tryz.func15,Tryz.ntmps15;go_wp2_with fail
 go_loopw [4] (fun vi wr=>∃j:Nat,vi= .int .i64 (j:Nat)/\j<=il.length/\(∀x∈il.take j,x.1.data.toList < key.data.toList)/\KmB w b r (.slice a il.length c) il k key x wr) (fun vi _=> il.length - (intOf vi).toNat)
 case atStart=> exact ⟨0,rfl,Nat.zero_le _,(fun x hx=> by simp at hx),H0.out⟩
 case round=>
  obtain ⟨j,rfl,hj,hA,hK⟩:=hrel;have HA:=hid hA;have HK:=hid hK;obtain ⟨c0,c1,c2⟩:=hK.ch.cells;obtain ⟨t0,t1⟩:=hK.ct;clear hA hK H0;by_cases O:∃h:j < il.length,(il[j]'h).1.data.toList < key.data.toList
  case pos=>
   obtain ⟨d,A⟩:=O;obtain ⟨g,V,e,L,-,hg,d0,d1⟩:=HK.out.row.at j d;simp only [Value.slice.injEq] at e;obtain ⟨rfl,-,rfl⟩:=e;have d8:Hid (∀y∈il.take (j+1),y.1.data.toList < key.data.toList):=fun y hy=> by
    rw [List.take_add_one,List.getElem?_eq_getElem d] at hy;rcases List.mem_append.1 hy with q | q
    ·exact HA.out y q
    ·rw [List.mem_singleton.1 q];exact A
   generalize il[j]'d=y at*;obtain ⟨yk,yv⟩:=y;have r1:Op.bytesLess yk.toList key.toList=true:=(by rw [Ah,Ah,Db];exact decide_eq_true A);have R:(j:Int) < (il.length:Int):=(by omega);go_upto_region 2 with fail;go_quiet (fail);go_wp2_with fail;exact ⟨⟨j+1,by go_num,by omega,d8.out,HK.out.below (Am (Below.refl _ _) _)⟩,by simp [intOf];omega⟩
  case neg=>
   obtain ⟨z1,z2⟩:=Aqm HA.out hj (fun h q=> O ⟨h,q⟩);have HN:Hid ((Fw il key).length=j):=(by show _=_;rw [z1,List.length_take];omega);have HC:Hid (Cv il key=il.drop j):=z2;have t:Hid (∀h:j < il.length,Cx (Cv il key) key=decide ((il[j]'h).1.data.toList=key.data.toList)):=fun h=> by rw [z2,List.drop_eq_getElem_cons h];rfl
   have b4:Hid (¬j < il.length->Cx (Cv il key) key=false):=fun h=> by rw [z2,List.drop_of_length_le (by omega)];rfl
   clear z1 z2 HA;by_cases d:j < il.length
   case' pos=>
    obtain ⟨g,V,e,L,-,hg,d0,d1⟩:=HK.out.row.at j d;simp only [Value.slice.injEq] at e;obtain ⟨rfl,-,rfl⟩:=e;have b5:¬(il[j]'d).1.data.toList < key.data.toList:=fun q=> O ⟨d,q⟩
    have b6:=hid (t.out d);have a2:Hid (Cx (Cv il key) key=true->Fr (Cv il key) key=some (il[j]'d).2.data.toList):=fun h=> by
     rw [HC.out,List.drop_eq_getElem_cons d] at h ⊢;exact if_pos (of_decide_eq_true h)
    have a0:(il[j]'d).2.size<=16:=b3.out _ (List.getElem_mem d);clear O;generalize il[j]'d=y at*;obtain ⟨yk,yv⟩:=y;have r1:Op.bytesLess yk.toList key.toList=false:=(by rw [Ah,Ah,Db];exact decide_eq_false b5);have r2:(yk.toList==key.toList)=Cx (Cv il key) key:=by
     rw [b6.out,Ah,Ah];by_cases e:yk.data.toList=key.data.toList
     ·rw [e];simp
     ·rw [decide_eq_false e];exact beq_eq_false_iff_ne.2 e
    have R:(j:Int) < (il.length:Int):=(by omega);clear b6 b5
   case' neg=>
    have r2:=b4.out d;have a2:Hid (Cx (Cv il key) key=true->False):=fun h=> by rw [r2] at h;cases h
    have R:¬(j:Int) < (il.length:Int):=(by omega);clear O
   all_goals
    go_upto_region 2 with fail;go_quiet (fail);clear t b4;go_upto_region 4 with fail;go_quiet (fail);go_upto_region 6 with fail
    go_cut [5,57] (fun v5 f2 F=> v5= .bool (Cx (Cv il key) key)/\f2= .bool (Cx (Cv il key) key&&(k==3))/\∃a',KmB w b r (.slice a' il.length c) il k key x F)
    case first=>
     cases o:Cx (Cv il key) key with
     | false=>
      try rw [o] at r2
      go_wp2_with fail;go_meet;exact ⟨by rw [o],by rw [o];rfl,_,HK.out.below (Am (Below.refl _ _) _)⟩
     | true=>
      try exact (a2.out o).elim
      all_goals
       try rw [o] at r2
       go_wp2_with fail;go_meet;exact ⟨by rw [o],by rw [o];rfl,_,HK.out.below (Am (Below.refl _ _) _)⟩
    case rest=>
     obtain ⟨rfl,rfl,a',c9⟩:=hcut;have l:=hid c9;clear c9 HK c0 c1 c2 t0 t1 r2 R a2
     try clear r1
     try clear d0 d1 L hg
     clear d;obtain ⟨c0,c1,c2⟩:=l.out.ch.cells;obtain ⟨t0,t1⟩:=l.out.ct;obtain ⟨th,o⟩:∃th,Cx (Cv il key) key=th:=⟨_,rfl⟩;obtain ⟨ap,b0⟩:∃ap,(th&&(k==3))=ap:=⟨_,rfl⟩;rw [o,b0];have t:=hid o;have b7:=hid b0;clear o b0;go_upto_if 57 with fail
     go_cut [6] (fun v6 F=> (∃s:ByteArray,v6= .string s/\s.size<=32/\Tr.Gq s.data.toList=Kd il k key x)/\F=wc)
     case first=>
      have HX:=hid (Tr.Lp (v:=x.data.toList) (by rw [len_size];exact a1))
      cases ap
      case true=>
       have hq:th=true/\k=3:=(by have:=b7.out;simpa using this);obtain ⟨rfl,d2⟩:=hq;obtain ⟨y,D,e1,e2,A,d3⟩:=Aj7 t.out;have d:j < il.length:=(by rw [<-HN.out];exact A);obtain ⟨g,V,e,L,-,hg,d0,d1⟩:=l.out.row.at j d;simp only [Value.slice.injEq] at e;obtain ⟨rfl,-,rfl⟩:=e;have e3:il[j]'d=y:=by
        have:=d3 A;simp only [HN.out] at this;exact this
       have a0:y.2.size<=16:=b3.out y (by rw [e1];simp);rw [e3] at d0 d1;have S:Hid (Tr.Gq (y.2++x).data.toList=Kd il k key x):=by
        show _=_;unfold Kd;rw [if_pos ⟨t.out,d2⟩,e2,ByteArray.data_append,Array.toList_append];rfl
       clear e1 e2 e3 d3 A d2;obtain ⟨yk,yv⟩:=y;have f4:(yv++x).size=yv.size+x.size:=ByteArray.size_append;have hv:yv.size+x.size<=32:=(by simp only at a0;omega);have R:(j:Int) < (il.length:Int):=(by omega);go_wp2_with fail;go_meet;exact ⟨⟨yv++x,rfl,by omega,S.out⟩,by trivial⟩
      case false=>
       have S:Hid (Tr.Gq x.data.toList=Kd il k key x):=by
        show _=_;unfold Kd;rw [if_neg (fun q=> by have:=b7.out;rw [<-t.out,q.1,q.2] at this;cases this),HX.out]
       go_wp2_with fail;go_meet;exact ⟨⟨x,rfl,by omega,S.out⟩,by trivial⟩
     case rest=>
      obtain ⟨⟨s,rfl,f5,M⟩,rfl⟩:=hcut;have a3:=hid M;clear M;go_upto_if 70 with fail
      go_cut [6] (fun v6 F=> (∃s:ByteArray,v6= .string s/\s.data.toList=Kd il k key x)/\F=wc)
      case first=>
       by_cases f3:16 < s.size
       ·have S:Hid ((s.extract (s.size - 16) s.size).data.toList=Kd il k key x):=by
         show _=_;rw [<-a3.out,Lib.extract_data];unfold Tr.Gq;rw [len_size,List.take_of_length_le (by rw [List.length_drop,len_size];omega)]
        go_wp2_with fail;go_meet;exact ⟨⟨_,rfl,S.out⟩,by trivial⟩
       ·have S:Hid (s.data.toList=Kd il k key x):=by
         show _=_;rw [<-a3.out,Tr.Lp (by rw [len_size];omega)]
        go_wp2_with fail;go_meet;exact ⟨⟨_,rfl,S.out⟩,by trivial⟩
      case rest=>
       obtain ⟨⟨s,rfl,hv⟩,rfl⟩:=hcut;have S:=hid hv;clear hv a3;generalize wc=f at*;have HP:=hid (Lt il key HR.out);have b8:Hid (f.heap.size<=f.heap.size):=Nat.le_refl _;go_upto_region 11 with fail
       go_cut [7] (fun v7 F=> Ak f.heap.size F v7 (Fw il key)/\Below f.heap.size f F)
       case first=>
        rcases l.out.row.2 with ⟨e,b2⟩ | ⟨g,V,f1,e,-,N,L,-⟩
        ·simp only [Value.slice.injEq] at e;obtain ⟨rfl,-,rfl⟩:=e;obtain rfl:il=[]:=List.eq_nil_of_length_eq_zero b2;obtain rfl:j=0:=(by simpa using hj);obtain ⟨i0,b1,e5,e6,e7⟩:=info_parts Cm;have b9:Hid (f.ownsRow f.heap.size 51 2 (.slice none 0 0) 0 []):=World.ownsRow_nil _ _ _ _;go_wp2_with (at_builtin;refine wpList_append_own_none rfl (.tmp 76) (.tmp 82) 30 rfl f.heap.size 51 i0 2 Tryz.underlying30 b1 (.slice none 0 0) 0 [] rfl b9.out rfl ?_);go_meet;exact ⟨World.ownsRow_nil _ _ _ _,Below.refl _ _⟩
        ·simp only [Value.slice.injEq] at e;obtain ⟨rfl,-,rfl⟩:=e;have c3:Hid (∀i u,(icells (Fw il key))[i]?=some u->f.cell? ((⟨g,0,none⟩:Addr).add i)=some u):=by
          have c4:Ak 0 f (.slice (some ⟨g,0,none⟩) (Fw il key).length c) (Fw il key):=Ak.pre (n:=il.length) (C:=Cv il key) (by rw [<-HP.out.1];exact l.out.row);exact c4.cells rfl
         have c5:Hid ((icells (Fw il key)).length=j*2):=(by show _=_;rw [Bf,HN.out]);have d9:g < f.heap.size:=(Array.getElem?_eq_some_iff.1 N).1;clear N;go_wp2_with (at_builtin;refine Nh f rfl (.tmp 76) (.tmp 82) 30 51 Tryz.underlying30 _ 2 32 Cm rfl (by decide) (by decide) rfl f.heap.size (.slice none 0 0) 0 [] rfl (World.ownsRow_nil _ _ _ _) ⟨g,0,none⟩ j c (icells (Fw il key)) rfl c5.out c3.out (Ex _) (by omega) b8.out ?_;intro v4 w4 o4 g4 k4);go_meet;refine ⟨?_,(Below.refl _ f).grown g4 (Nat.le_refl _) (fun k Z=> by simp [Value.ownBlock] at Z)⟩;unfold Ak;rw [Nat.zero_add,List.nil_append] at o4;rw [HN.out];exact o4
       case rest=>
        obtain ⟨d4,W⟩:=hcut;have O4:=hid d4;have a4:=hid W;have a5:=W.size;obtain ⟨e8,e9,f0⟩:=(l.out.below W).ch.cells;clear d4 W c0 c1 c2 t0 t1 b8;generalize wc=w4 at*;go_upto_if 86 with fail
        go_cut [7] (fun v7 F=> Ak f.heap.size F v7 (Fw il key++if k=2 then [] else [(key,s)])/\Below f.heap.size f F)
        case first=>
         by_cases G:k=2
         ·have q2:(k !=2)=false:=(by simpa using G);have HF:Hid (Ak f.heap.size w4 u7 (Fw il key++if k=2 then [] else [(key,s)])):=by
           show Ak _ _ _ _;rw [if_pos G,List.append_nil];exact O4.out
          clear G;go_wp2_with fail;go_meet;exact ⟨HF.out,a4.out⟩
         ·have q2:(k !=2)=true:=(by simpa using G);have l:=hid G;clear G;go_wp2_with (at_builtin;refine Iw w4 rfl (.tmp 87) (.tmp 92) 30 51 Tryz.underlying30 _ 2 32 Cm rfl (by decide) (by decide) rfl f.heap.size u7 _ _ rfl O4.out [.string key,.string s] rfl (by intro u hu;simp at hu;rcases hu with rfl | rfl <;> rfl) rfl (by have:=HN.out;omega) a5 ?_;intro v5 w5 o5 g5 k5)
          go_meet;refine ⟨?_,a4.out.grown g5 a5 (fun k Z=> (World.ownsRow.lt O4.out k Z).1)⟩;rw [if_neg l.out];unfold Ak;rw [List.length_append,Kk];exact o5
        case rest=>
         obtain ⟨d5,X⟩:=hcut;have O5:=hid d5;have a7:=hid X;have T:=X.size;have U:=hid (l.out.below X);have a8:=hid l.out.bel;have c6:=hid l.out;clear d5 X e8 e9 f0 O4 a4 a5 l;generalize wc=w5 at*;go_upto_if 94 with fail
         go_cut [4] (fun v4 F=> (∃m:Nat,v4= .int .i64 (m:Nat)/\m<=il.length/\il.drop m=if Cx (Cv il key) key then (Cv il key).drop 1 else Cv il key)/\F=w5)
         case first=>
          cases th
          ·have HM:Hid (il.drop j=if Cx (Cv il key) key then (Cv il key).drop 1 else Cv il key):=(by show _=_;rw [t.out,HC.out];rfl);go_wp2_with fail;go_meet;exact ⟨⟨j,rfl,hj,HM.out⟩,by trivial⟩
          ·have HM:Hid (il.drop (j+1)=if Cx (Cv il key) key then (Cv il key).drop 1 else Cv il key):=(by show _=_;rw [t.out,HC.out,List.drop_drop];rfl);have d:j < il.length:=(by rw [<-HN.out];obtain ⟨-,-,-,-,h,-⟩:=Aj7 t.out;exact h);go_wp2_with fail;go_meet;exact ⟨⟨j+1,by go_num,d,HM.out⟩,by trivial⟩
         case rest=>
          obtain ⟨⟨m,rfl,hm,d6⟩,rfl⟩:=hcut;have e0:Hid (plain ((Fw il key++if k=2 then [] else [(key,s)])++il.drop m)=Tr.Ik (plain il) (chP k key x)):=by
           show _=_;rw [Aku HR.out k key x a1 Z,d6,<-S.out];unfold plain;rw [List.map_append,List.map_append,List.append_assoc];by_cases q:k=2
           ·rw [if_pos q,if_pos q];rfl
           ·rw [if_neg q,if_neg q];rfl
          have e4:Hid ((Fw il key++if k=2 then [] else [(key,s)]).length<=il.length+1):=by
           show _<=_;rw [List.length_append,HN.out];split <;> simp <;> omega
          clear d6;have I:Hid (∀(Y:World) (v6:Value),Below f.heap.size f Y->Y.ownsRow f.heap.size 51 2 v6 ((Fw il key++if k=2 then [] else [(key,s)]).length+(il.length - m)) (icells (Fw il key++if k=2 then [] else [(key,s)])++icells (il.drop m))->KmQ w b r il k key x (.returned (.tuple #[])) (Y.setCell ⟨b,r,none⟩ v6)):=fun Y v6 h1 h2=>
           ⟨rfl,Y,v6,_,rfl,a8.out.trans (h1.mono a8.out.size),Al (B:=f.heap.size) (by rw [List.length_append (bs:=il.drop m),List.length_drop,Cj];exact h2) a8.out.size,e0.out⟩
          go_upto_region 16 with fail;rcases U.out.row.2 with ⟨e,b2⟩ | ⟨g,V,f1,e,-,N,L,-⟩
          ·simp only [Value.slice.injEq] at e;obtain ⟨rfl,-,rfl⟩:=e;obtain rfl:il=[]:=List.eq_nil_of_length_eq_zero b2;obtain rfl:m=0:=(by simpa using hm);obtain ⟨i0,b1,e5,e6,e7⟩:=info_parts Cm;have HX:=hid (I.out wc u7 a7.out (by have:=O5.out;rw [List.drop_nil,show icells []=[] from rfl,List.append_nil];exact this));obtain ⟨t0,t1⟩:=U.out.ct;go_wp2_with (at_builtin;refine wpList_append_own_none rfl (.tmp 98) (.tmp 104) 30 rfl f.heap.size 51 i0 2 Tryz.underlying30 b1 u7 _ _ rfl O5.out rfl ?_;obtain ⟨a6,m6,p6,rfl⟩:=Ey O5.out);go_end0;exact HX.out
          ·simp only [Value.slice.injEq] at e;obtain ⟨rfl,-,rfl⟩:=e;have a9:=hid (U.out.row.rest m hm);have c7:Hid ((icells (il.drop m)).length=(il.length - m)*2):=(by show _=_;rw [Bf,List.length_drop]);have c8:(Fw il key++if k=2 then [] else [(key,s)]).length+(il.length - m)<=1000000000:=(by have:=e4.out;omega);have d9:g < wc.heap.size:=(Array.getElem?_eq_some_iff.1 N).1;obtain ⟨t0,t1⟩:=U.out.ct;clear N;by_cases f6:c=m
           case' pos=>
            have HE:Hid (icells (il.drop m)=[]):=by
             show _=_;rw [List.drop_of_length_le (by omega)];rfl
           all_goals
            go_wp2_with (at_builtin;first
             | (refine Nh wc rfl (.tmp 98) (.tmp 104) 30 51 Tryz.underlying30 _ 2 32 Cm rfl (by decide) (by decide) rfl f.heap.size u7 _ _ rfl O5.out ⟨g,m*2,none⟩ (il.length - m) (c - m) (icells (il.drop m)) rfl c7.out a9.out (Ex _) c8 T ?_;intro v6 Y o6 g6 k6;have J:=hid (a7.out.grown g6 T (fun k Z=> (World.ownsRow.lt O5.out k Z).1));have HX:=hid (I.out Y v6 J.out o6);obtain ⟨a6,m6,p6,rfl⟩:=Ey o6;clear o6 g6 k6;obtain ⟨y0,y1⟩:=(c6.out.below J.out).ct)
             | (refine Nh wc rfl (.tmp 98) (.tmp 104) 30 51 Tryz.underlying30 _ 2 32 Cm rfl (by decide) (by decide) rfl f.heap.size u7 _ _ rfl O5.out ⟨g,0,none⟩ (il.length - m) 0 (icells (il.drop m)) rfl c7.out (fun j u hj=> by rw [HE.out] at hj;simp at hj) (Ex _) c8 T ?_;intro v6 Y o6 g6 k6;have J:=hid (a7.out.grown g6 T (fun k Z=> (World.ownsRow.lt O5.out k Z).1));have HX:=hid (I.out Y v6 J.out o6);obtain ⟨a6,m6,p6,rfl⟩:=Ey o6;clear o6 g6 k6;obtain ⟨y0,y1⟩:=(c6.out.below J.out).ct))
            go_end0;exact HX.out
theorem Apk {w:World} {v:Value} {cl:List Nat} (h:w.ownsRow 0 3 1 v cl.length (Bk cl)) (i:Nat) (hi:i < cl.length):∃g a,v= .slice (some ⟨g,0,none⟩) cl.length a/\cl.length<=a/\g < w.heap.size/\w.cell? ⟨g,i,none⟩=some (.int .i64 ((cl[i]'hi:Nat):Int)):=by
 rcases h.2 with ⟨_,h0⟩ | ⟨c,b,f,d,_,j,k,_⟩
 ·omega
 ·have:=World.ownsRow.cells h (g:=c) (by rw [d];rfl) i (.int .i64 ((cl[i]'hi:Nat):Int)) (by simp [Bk,hi]);rw [Dm] at this;exact ⟨c,b,d,k,(Array.getElem?_eq_some_iff.1 j).1,by simpa using this⟩
theorem Ig {il:List (ByteArray×ByteArray)} (h:Tr.WF 0 [] none (plain il)):Tr.Bi (plain il)/\∀z∈il,z.2.size<=16:=by
 refine ⟨h.1,fun z a=> ?_⟩;have:=(h.2 (z.1.data.toList,z.2.data.toList) (List.mem_map.2 ⟨z,a,rfl⟩)).2.2;rw [<-len_size];exact this
theorem Ar9 {L:Nat} {rd:List Nat} {n:Nat} (h:n < (Ld.Ic L rd).length):(Ld.Ic L rd)[n]'h=decide (n∈rd):=by
 have:(Ld.Ic L rd)[n]?=some (decide (n∈rd)):=by
  unfold Ld.Ic;rw [List.getElem?_map,List.getElem?_range (by rw [Ld.Kc] at h;exact h)];rfl
 exact (List.getElem?_eq_some_iff.1 this).2
def Vj (l:List (ByteArray×ByteArray)):List Tr.Ch:=(plain l).map fun x=> ((1:Int),x.1,x.2)
theorem Ai7 {a:List (ByteArray×ByteArray)} {i:Nat} (hi:i < a.length):Vj (a.take (i+1))=Vj (a.take i)++[chP 1 (a[i]'hi).1 (a[i]'hi).2]:=by
 have:a.take (i+1)=a.take i++[a[i]'hi]:=by rw [List.take_add_one,List.getElem?_eq_getElem hi];rfl
 rw [this];unfold Vj plain;rw [List.map_append,List.map_append];rfl
theorem Al2 (a:List (ByteArray×ByteArray)) (i:Nat):(Vj (a.take i)).length<=i:=by unfold Vj plain;simp;omega
theorem Ao1 {ml:List (Int×ByteArray×ByteArray)} {i:Nat} (hi:i < ml.length):plainCh (ml.take (i+1))=plainCh (ml.take i)++[chP (ml[i]'hi).1 (ml[i]'hi).2.1 (ml[i]'hi).2.2]:=by
 have:ml.take (i+1)=ml.take i++[ml[i]'hi]:=by rw [List.take_add_one,List.getElem?_eq_getElem hi];rfl
 rw [this];unfold plainCh;rw [List.map_append];rfl
theorem Apl (a:Ld.Nd) {cl:List Nat} {pl:List ByteArray} (g:Ld.kds a=cl) (j:Ld.pvs a=lists pl) (lo hi:ByteArray) (i:Nat) (c:i < cl.length) (b:i < (Ec lo hi pl).length) (k:i < (Ld.Hg a lo.data.toList hi.data.toList).length):(Ld.Hg a lo.data.toList hi.data.toList)[i]'k=(cl[i]'c,((Ec lo hi pl)[i]'b).1.data.toList,((Ec lo hi pl)[i]'b).2.data.toList):=by
 have e:=Ny pl lo hi;subst g;have d:(Ld.Ib lo.data.toList hi.data.toList (Ld.pvs a))[i]?=some (((Ec lo hi pl)[i]'b).1.data.toList,((Ec lo hi pl)[i]'b).2.data.toList):=by
  rw [j,<-e,List.getElem?_map,List.getElem?_eq_getElem b];rfl
 have f:(Ld.Hg a lo.data.toList hi.data.toList)[i]?=some ((Ld.kds a)[i]'c,((Ec lo hi pl)[i]'b).1.data.toList,((Ec lo hi pl)[i]'b).2.data.toList):=by
  show (List.zipWith _ _ _)[i]?=_;rw [List.getElem?_zipWith,List.getElem?_eq_getElem c,d]
 exact (List.getElem?_eq_some_iff.1 f).2
def WK (w:World) (b:Nat) (vp vr:Value) (far:Int) (v:Value):Prop:=w.heap[b]?=some (.cells #[vp,vr,.int .i64 far,v] 62 (0,0))
theorem WK.lt {w:World} {b:Nat} {vp c:Value} {a:Int} {v:Value} (h:WK w b vp c a v):b < w.heap.size:=(Array.getElem?_eq_some_iff.1 h).1
theorem WK.cells {w:World} {b:Nat} {vp c:Value} {a:Int} {v:Value} (h:WK w b vp c a v):w.cell? ⟨b,0,none⟩=some vp/\w.cell? ⟨b,1,none⟩=some c/\w.cell? ⟨b,2,none⟩=some (.int .i64 a)/\w.cell? ⟨b,3,none⟩=some v/\w.frozen? ⟨b,2,none⟩=false/\w.frozen? ⟨b,3,none⟩=false:=by
 unfold WK at h;refine ⟨?_,?_,?_,?_,?_,?_⟩ <;> simp [World.cell?,World.frozen?,h]
theorem WK.setFar {w:World} {b:Nat} {vp c:Value} {a:Int} {v:Value} (h:WK w b vp c a v) (x:Int):WK (w.setCell ⟨b,2,none⟩ (.int .i64 x)) b vp c x v:=by unfold WK at*;rw [Ad (i:=2) h];rfl
theorem WK.setSays {w:World} {b:Nat} {vp c:Value} {a:Int} {v:Value} (h:WK w b vp c a v) (u:Value):WK (w.setCell ⟨b,3,none⟩ u) b vp c a u:=by unfold WK at*;rw [Ad (i:=3) h];rfl
def kF (b:Nat) (vr:Value) (g:Nat):Prop:=g=b\/vr.ownBlock=some g
def rnV (z:Bool):Value:= .int .i64 (if z then 1 else 0)
structure KwI (L:Nat) (w1:World) (b:Nat) (vp vr:Value) (rd:List Nat) (far:Int) (v:Value) (il:List (ByteArray×ByteArray)) (W:World):Prop where
 bel:Below w1.heap.size w1 W
 wk:WK W b vp vr far v
 re:W.ownsRow w1.heap.size 3 1 vr L ((Ld.Ic L rd).map rnV)
 it:Ak w1.heap.size W v il
 wf:Tr.WF 0 [] none (plain il)
 lob:w1.heap.size<=b
 rdn:rd.Nodup/\∀n∈rd,n < L
theorem KwI.ne {L:Nat} {m:World} {b:Nat} {vp d:Value} {rd:List Nat} {f:Int} {v:Value} {il:List (ByteArray×ByteArray)} {W:World} (h:KwI L m b vp d rd f v il W):d.ownBlock≠some b/\v.ownBlock≠some b/\∀g,d.ownBlock=some g->v.ownBlock≠some g:=by
 have c:=h.wk;unfold WK at c;refine ⟨fun e=> ?_,fun e=> ?_,fun g l e=> ?_⟩
 ·obtain ⟨i,q,a⟩:=Gd h.re e;rw [c] at a;simp at a
 ·obtain ⟨i,q,a⟩:=Gd h.it e;rw [c] at a;simp at a
 ·obtain ⟨i,q,a⟩:=Gd h.re l;obtain ⟨k,n,j⟩:=Gd h.it e;rw [a] at j;simp at j
theorem KwI.kept {L:Nat} {d:World} {b:Nat} {vp f:Value} {rd:List Nat} {c:Int} {v:Value} {il:List (ByteArray×ByteArray)} {W:World} (h:KwI L d b vp f rd c v il W) {g:Nat} (a:kF b f g):d.heap.size<=g:=by
 rcases a with rfl | a
 ·exact h.lob
 ·exact (World.ownsRow.lt h.re g a).1
theorem KwI.below {L:Nat} {d:World} {b:Nat} {vp f:Value} {rd:List Nat} {a:Int} {v:Value} {il:List (ByteArray×ByteArray)} {W W':World} (h:KwI L d b vp f rd a v il W) (c:Below W.heap.size W W'):KwI L d b vp f rd a v il W':=
 ⟨h.bel.trans (c.mono h.bel.size),(c.block b h.wk.lt).trans h.wk,Aa h.re c (Nat.le_refl _),Aa h.it c (Nat.le_refl _),h.wf,h.lob,h.rdn⟩
theorem KwI.make {L:Nat} {s:World} {b:Nat} {vp f:Value} {rd:List Nat} {d:Int} {v:Value} {il:List (ByteArray×ByteArray)} {W W':World} (h:KwI L s b vp f rd d v il W) {k:Int} {key x:ByteArray} (y:Tr.Ew (chP k key x)) {r:Ending} (z:KmQ W b 3 il k key x r W'):r= .returned (.tuple #[])/\∃c a,KwI L s b vp f rd d c a W'/\plain a=Tr.Ik (plain il) (chP k key x)/\Mod (kF b f) W W':=by
 obtain ⟨e,t,c,a,rfl,l,n,o⟩:=z;have i:=h.below l;have m:=Mod.setCell t b 3 c;obtain ⟨u,C,D⟩:=h.ne;refine ⟨e,c,a,⟨i.bel.setCell (p:=⟨b,3,none⟩) h.lob _,i.wk.setSays c,m.row i.re (fun g j q=> u (by rw [<-show g=b from q];exact j)),Al (m.row n (fun g j q=> ?_)) h.bel.size,?_,h.lob,h.rdn⟩,o,(Mod.of_below (F:=kF b f) l).trans m (fun _ _ q=> q) (fun _ _ q=> .inl q)⟩
 ·have:=(World.ownsRow.lt n g j).1;have B:=h.wk.lt;rw [show g=b from q] at this;omega
 ·rw [o];exact Tr.Re h.wf ⟨Tr.Jb _,y⟩
theorem KwI.mark {L:Nat} {k:World} {b:Nat} {vp:Value} {d l:Nat} {rd:List Nat} {f:Int} {v:Value} {il:List (ByteArray×ByteArray)} {W:World} (h:KwI L k b vp (.slice (some ⟨d,0,none⟩) L l) rd f v il W) {n:Nat} (y:n < L) (z:n∉rd):KwI L k b vp (.slice (some ⟨d,0,none⟩) L l) (rd++[n]) f v il (W.setCell ⟨d,n,none⟩ (.int .i64 1))/\Mod (kF b (.slice (some ⟨d,0,none⟩) L l)) W (W.setCell ⟨d,n,none⟩ (.int .i64 1)):=by
 obtain ⟨r,B,s⟩:=h.ne;have m:=Mod.setCell W d n (.int .i64 1);have i:k.heap.size<=d:=(World.ownsRow.lt h.re d rfl).1;refine ⟨⟨h.bel.setCell (p:=⟨d,n,none⟩) i _,(m.block b h.wk.lt (fun q=> r (by rw [show b=d from q];rfl))).trans h.wk,?_,m.row h.it (fun g t q=> s d rfl (by rw [<-show g=d from q];exact t)),h.wf,h.lob,⟨List.nodup_append.2 ⟨h.rdn.1,by simp,fun a j c u e=> z (by rw [<-List.mem_singleton.1 u,<-e];exact j)⟩,fun a j=> ?_⟩⟩,m.mono fun g _ q=> .inr (by rw [show g=d from q];rfl)⟩
 ·have o:=Jf h.re n (.int .i64 1);rw [show Value.int .i64 1=rnV true from rfl,<-List.map_set,Ld.Afj] at o;exact o
 ·rcases List.mem_append.1 j with q | q
  ·exact h.rdn.2 a q
  ·rw [List.mem_singleton.1 q];exact y
theorem KwI.setFar {L:Nat} {f:World} {b:Nat} {vp d:Value} {rd:List Nat} {a:Int} {v:Value} {il:List (ByteArray×ByteArray)} {W:World} (h:KwI L f b vp d rd a v il W) (x:Int):KwI L f b vp d rd x v il (W.setCell ⟨b,2,none⟩ (.int .i64 x))/\Mod (kF b d) W (W.setCell ⟨b,2,none⟩ (.int .i64 x)):=by
 obtain ⟨i,j,k⟩:=h.ne;have m:=Mod.setCell W b 2 (.int .i64 x);exact ⟨⟨h.bel.setCell (p:=⟨b,2,none⟩) h.lob _,h.wk.setFar x,m.row h.re (fun g c q=> i (by rw [<-show g=b from q];exact c)),m.row h.it (fun g c q=> j (by rw [<-show g=b from q];exact c)),h.wf,h.lob,h.rdn⟩,m.mono fun g _ q=> .inl q⟩
theorem Ag2 {L:Nat} {w:World} {B:Nat} {v:Value} {rd:List Nat} (h:w.ownsRow B 3 1 v L ((Ld.Ic L rd).map rnV)) (n:Nat) (i:n < L):∃g a,v= .slice (some ⟨g,0,none⟩) L a/\L<=a/\g < w.heap.size/\w.cell? ⟨g,n,none⟩=some (.int .i64 (if n∈rd then 1 else 0))/\w.frozen? ⟨g,n,none⟩=false:=by
 rcases h.2 with ⟨_,h0⟩ | ⟨g,a,d,e,j,c,f,-⟩
 ·omega
 ·refine ⟨g,a,e,f,(Array.getElem?_eq_some_iff.1 c).1,?_,by simp [World.frozen?,c]⟩;have b:n < (Ld.Ic L rd).length:=by rw [Ld.Kc];exact i
  have:=World.ownsRow.cells h (g:=g) (by rw [e];rfl) n (.int .i64 (if n∈rd then 1 else 0)) (by
   rw [List.getElem?_map,List.getElem?_eq_getElem b,Ar9 b];by_cases q:n∈rd <;> simp [rnV,q])
  rw [Dm] at this;simpa using this
structure KpW (L:Nat) (w1:World) (b:Nat) (vp vr:Value) (w:World) (nb:Nat) (kd:Int) (v1 v2 v3 v4:Value) (rd:List Nat) (far:Int) (v:Value) (il:List (ByteArray×ByteArray)) (W:World):Prop where
 li:KwI L w1 b vp vr rd far v il W
 nd:Bd W nb (.int .i64 kd) v1 v2 v3 v4
 mod:Mod (kF b vr) w W
theorem KpW.next {L:Nat} {i:World} {b:Nat} {vp g:Value} {w:World} {j:Nat} {kd:Int} {v1 v2 v3 v4:Value} {rd c:List Nat} {k a:Int} {v o:Value} {il d:List (ByteArray×ByteArray)} {W W':World} (h:KpW L i b vp g w j kd v1 v2 v3 v4 rd k v il W) (p:KwI L i b vp g c a o d W') (m:Mod (kF b g) W W'):KpW L i b vp g w j kd v1 v2 v3 v4 c a o d W':=
 ⟨p,(m.block j h.nd.lt (fun q=> by
  have f:=h.nd;unfold Bd at f;rcases q with rfl | q
  ·have l:=h.li.wk;unfold WK at l;rw [l] at f;simp at f
  ·obtain ⟨r,z,n⟩:=Gd h.li.re q;rw [f] at n;simp at n)).trans h.nd,h.mod.trans m (fun _ _ q=> q) (fun _ _ q=> q)⟩
theorem KpW.below {L:Nat} {c:World} {b:Nat} {vp d:Value} {w:World} {f:Nat} {kd:Int} {v1 v2 v3 v4:Value} {rd:List Nat} {a:Int} {v:Value} {il:List (ByteArray×ByteArray)} {W W':World} (h:KpW L c b vp d w f kd v1 v2 v3 v4 rd a v il W) (g:Below W.heap.size W W'):KpW L c b vp d w f kd v1 v2 v3 v4 rd a v il W':=
 h.next (h.li.below g) (Mod.of_below g)
end Go.Proofs.YtolgpnaoaodepaaGreat
