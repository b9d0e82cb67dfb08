import Derived.Test.YtolgpnaoaodepaaGreatWalkAFm
namespace Go.Proofs.YtolgpnaoaodepaaGreat.Pr
open Pg
def Hh (ks:List (List UInt8)):Nat->List (List UInt8)->Option (List (List UInt8×List UInt8))
 | _,[]=> some []
 | i,s::r=> (Bo ks i s).bind fun l=> (Hh ks (i+1) r).map (l++·)
def Lh (page:List UInt8):Option (List (List UInt8×List UInt8)):=(Ix page).bind fun h=> (Mr page h.1).bind fun cs=> Hh h.2 0 cs
theorem Aak {d:List (List UInt8)} {i:Nat} {s:List UInt8} {l:List (List UInt8×List UInt8)} (h:Bo d i s=some l):1<=l.length:=by
 unfold Bo at h;simp only [Option.bind_eq_some_iff] at h;obtain ⟨c,_,f,_,a⟩:=h;split at a
 ·rename_i b;simp only [Option.some.injEq] at a;subst a;unfold Vf at b;simp only [Bool.and_eq_true,decide_eq_true_eq] at b;exact b.1.1.1.1
 ·simp at a
end Go.Proofs.YtolgpnaoaodepaaGreat.Pr
namespace Go.Proofs.YtolgpnaoaodepaaGreat
open Go.RowKit
def lfO (o:Option (List (List UInt8×List UInt8))):Option (Int×List (List UInt8×List UInt8)×List Nat×List (List UInt8)×List (Int×List UInt8×List UInt8)):=o.map fun x=> (1,x,[],[],[])
theorem Apg (w:World) {k:Array Oper} {o:Oper} {a:Act} {K:Act->World->Prop} {Q:Exit->Act->World->Prop} {E:Prop} (t:o.guard=none) (y x:Operand)
  (D:o.op=Op.call {callee:=Callee.builtin Builtin.append,args:= #[y,x],argTypes:= #[30,30]}) (B:Nat) (v:Value) (l:List (ByteArray×ByteArray)) (F:a.eval y=v) (m:Ak B w v l)
  (b:List (ByteArray×ByteArray)) (g n:Nat) (G:a.eval x= .slice (some ⟨g,0,none⟩) b.length n) (c:∀j u,(icells b)[j]?=some u->w.cell? ((⟨g,0,none⟩:Addr).add j)=some u) (I:l.length+b.length<=1000000000) (H:B<=w.heap.size)
  (h:∀(d:Value) (w':World),Ak B w' d (l++b)->w.grownBy w' v.ownBlock->K (a.put o.dst d) w'):if Region.wanted o (yielded k a.tmps)=true then Oper.wp Tryz.prog o a w K Q else E:=by
 have z:Region.wanted o (yielded k a.tmps)=true:=by simp [Region.wanted,t]
 rw [if_pos z];obtain ⟨i,hi,p,q,r⟩:=info_parts Cm;obtain ⟨d,w',f,s,C,_,_⟩:=run_append_own_at (P:=Tryz.prog) w B 30 o.type 51 i (.agg #[.string ⟨#[]⟩,.string ⟨#[]⟩]) 2 32 Tryz.underlying30 hi p q r rfl (by decide) v l.length (icells l) m ⟨g,0,none⟩ b.length n (icells b) (Xe b) c (Xf b) (by unfold maxLen;omega) (by omega) H;have A:K (a.put o.dst d) w':=by
  refine h d w' ?_ C;unfold Ak;rw [List.length_append,Xg];exact s
 unfold Oper.wp;simp [execOp,D,resolve,invoke,builtin,F,G,f,Result.andThen];exact A
set_option maxHeartbeats 4000000 in
set_option maxRecDepth 20000 in
theorem Adb (t:List UInt8) (w:World):
  Calls Tryz.prog 201 #[.string ⟨t.toArray⟩] w fun r w'=> Qh w (lfO (Pr.Lh t)) r w':=by
 go_enter Tryz.func201,Tryz.ntmps201;go_wp2_with fail;have a5:=hid (Bw w (.int .i64 0) (.slice none 0 0) (.slice none 0 0) (.slice none 0 0) (.slice none 0 0));have R:=hid ((Below.refl w.heap.size w).alloc (Nat.le_refl _) (.cells #[.int .i64 0,.slice none 0 0,.slice none 0 0,.slice none 0 0,.slice none 0 0] 79));have g3:w.heap.size < (w.alloc (.cells #[.int .i64 0,.slice none 0 0,.slice none 0 0,.slice none 0 0,.slice none 0 0] 79)).heap.size:=by simp
 generalize w.alloc (.cells #[.int .i64 0,.slice none 0 0,.slice none 0 0,.slice none 0 0,.slice none 0 0] 79)=w0 at*;refine (Ad9 t _).mono ?_;rintro r d ⟨o,⟨hn,rfl⟩ | ⟨f,c,v1,hh,rfl,a0,c9,i7,d2⟩⟩
 ·have S:Hid (lfO (Pr.Lh t)=none):=by show _=_;unfold Pr.Lh;rw [hn];rfl
  have s:=hid (R.out.trans (o.mono (by omega)));clear o hn;unfold Ae;go_wp2_with fail;exact ⟨rfl,s.out,.inl ⟨S.out,rfl⟩⟩
 have T:Hid (Pr.Lh t=(Pr.Mr t f).bind fun cs=> Pr.Hh (lists c) 0 cs):=by
  show _=_;unfold Pr.Lh;rw [hh];rfl
 obtain ⟨vs,vf,rfl,h1,h2⟩:=id a0;obtain ⟨D,F,rfl,-,-⟩:=id h1;obtain ⟨G,H,rfl,-,-⟩:=id h2;have J:=(Below.refl d.heap.size d).alloc (Nat.le_refl _) (.cells #[.slice D f.length F,.slice G c.length H] 233);have d4:=hid (a5.out.keep o);have g4:=o.size;have g6:d.heap.size < (d.alloc (.cells #[.slice D f.length F,.slice G c.length H] 233)).heap.size:=by simp
 have a7:=hid a0;have a8:=hid (h1.below J);have a9:=hid J;have s:=hid (R.out.trans (o.mono (by omega)));have L:Hid ((d.alloc (.cells #[.slice D f.length F,.slice G c.length H] 233)).heap[d.heap.size]?=some (.cells #[.slice D f.length F,.slice G c.length H] 233 (0,0))):=heap_alloc_new _ _;have g1:f.length<=4:=by omega
 have d5:=hid c9;clear o hh a0 J c9 d2 h1 h2 R a5;go_wp2_with fail;have M:(d.alloc (.cells #[.slice D f.length F,.slice G c.length H] 233)).heap.size=d.heap.size+1:=by simp
 rw [<-M];clear M;generalize d.alloc (.cells #[.slice D f.length F,.slice G c.length H] 233)=w2 at*;have J:=(Below.refl w2.heap.size w2).alloc (Nat.le_refl _) (.cells #[.int .i64 1,.slice none 0 0,.slice none 0 0,.slice none 0 0,.slice none 0 0] 79);have b0:=hid (Bw w2 (.int .i64 1) (.slice none 0 0) (.slice none 0 0) (.slice none 0 0) (.slice none 0 0));have U:=hid (a9.out.trans (J.mono (by omega)));have N:=hid (a8.out.below J);have b1:=hid ((J.block d.heap.size (by omega)).trans L.out);have g7:w2.heap.size < (w2.alloc (.cells #[.int .i64 1,.slice none 0 0,.slice none 0 0,.slice none 0 0,.slice none 0 0] 79)).heap.size:=by simp
 generalize w2.alloc (.cells #[.int .i64 1,.slice none 0 0,.slice none 0 0,.slice none 0 0,.slice none 0 0] 79)=w3 at*;generalize w2.heap.size=O at*;clear J a9 a8 L;refine (Ve t _ f _ N.out (by omega)).mono ?_;rintro r w4 ⟨m,⟨hn,rfl⟩ | ⟨cl,v4,a1,rfl,a2⟩⟩
 ·have S:Hid (lfO (Pr.Lh t)=none):=by show _=_;rw [T.out,hn];rfl
  have d6:=hid (s.out.trans ((U.out.trans (m.mono (by omega))).mono (by omega)));clear m hn;unfold Ae;go_wp2_with fail;exact ⟨rfl,d6.out,.inl ⟨S.out,rfl⟩⟩
 have b2:Hid (Pr.Lh t=Pr.Hh (lists c) 0 (lists cl)):=by show _=_;rw [T.out,a1];rfl
 have d7:cl.length=f.length:=by have:=(Pr.Aih a1).2.2;rw [<-this];simp [lists]
 have b3:=hid (U.out.trans (m.mono (by omega)));have d8:=hid (b0.out.keep m);have d9:=hid ((m.block d.heap.size (by omega)).trans b1.out);have b4:=hid a2;have g8:=m.size;have g2:cl.length<=c.length:=by have:=d5.out;omega
 obtain ⟨xa,xc,rfl⟩:=a2.shape;clear m a1 a2 N U b0 b1 T d7;go_wp2_with fail
 go_loopw [15] (fun i wr=>∃(k:Nat) (il:List (ByteArray×ByteArray)) (vi:Value),k<=cl.length/\i= .int .i64 k/\il.length<=255*k/\Bd wr O (.int .i64 1) vi (.slice none 0 0) (.slice none 0 0) (.slice none 0 0)/\Ak w4.heap.size wr vi il/\But O w4 wr/\(Pr.Hh (lists c) k (lists (cl.drop k))).map (plain il++·)=Pr.Hh (lists c) 0 (lists cl)) (fun i _=> cl.length - (intOf i).toNat)
 case atStart=> exact ⟨0,[],_,Nat.zero_le _,rfl,by simp,d8.out,World.ownsRow_nil _ _ _ _,Qw _ _,by simp [plain]⟩
 case round=>
  obtain ⟨k,il,vi,hk,rfl,h9,hm,ho,hb,c7⟩:=hrel;have HM:=hid hm;have HO:=hid ho;have b5:=hid hb;have y:=hid c7;have g9:=hb.size;obtain ⟨Y,Z,rfl⟩:=Ab ho;have V:=hid (Ai b3.out hb (by omega) (by omega));have W:=hid ((hb.block d.heap.size (by omega) (by simp;omega)).trans d9.out);have b6:=hid ((d4.out.below b3.out (by omega)).but hb (by omega));have d0:wr.cell? ⟨d.heap.size,0,none⟩=some (.slice D f.length F):=by unfold World.cell?;rw [W.out];rfl
  have d1:wr.cell? ⟨d.heap.size,1,none⟩=some (.slice G c.length H):=by unfold World.cell?;rw [W.out];rfl
  obtain ⟨m0,m1,m2,m3,m4,z0,z1,-⟩:=hm.cells;have h0:=hm.lt;clear hm ho hb c7;by_cases q:k < cl.length
  ·obtain ⟨g,i0,f6,i1,i2,i3⟩:=b4.out.shape_pos (by omega);injection f6 with e1 e2 e3;subst e1 e3;have c0:wr.cell? ⟨g,k,none⟩=some (.string (cl[k]'q)):=by
    have:=b4.out.cellAt k (cl[k]'q) (List.getElem?_eq_getElem q);rw [<-this];unfold World.cell?;rw [b5.out.block g (by omega) (by simp;omega)]
   have e0:Hid (lists (cl.drop k)=(cl[k]'q).data.toList::lists (cl.drop (k+1))):=by
    show _=_;rw [List.drop_eq_getElem_cons q];rfl
   generalize cl[k]'q=sx at*;have h3:(0:Int)<=(k:Int):=(by omega);have h4:(k:Int) < (cl.length:Int):=(by omega);have b7:Hid (Aa7 wr.drew (.agg #[.slice D f.length F,.slice G c.length H]) f c):=a7.out.below V.out.drew;rw [e0.out,Pr.Hh] at y
   cases n:Pr.Bo (lists c) k sx.data.toList with
   | none=>
    have S:Hid (lfO (Pr.Lh t)=none):=(by show _=_;rw [b2.out,<-y.out,n];rfl);have HC:=hid (Aqe _ f c k sx wr.drew b7.out (by omega) (by omega) n);clear n;go_wp2_with fail
    go_region_dies
    all_goals
     refine HC.out.mono ?_;rintro r w5 ⟨rfl,A⟩;have e4:=hid (s.out.trans ((V.out.trans ((Ze A).mono (by show d.heap.size<=wr.heap.size;omega))).mono (by omega)));clear A;unfold Ae;go_wp2_with fail;exact ⟨rfl,e4.out,.inl ⟨S.out,rfl⟩⟩
   | some p=>
    have e5:=Pr.Aak n;have b8:Hid ((Pr.Hh (lists c) (k+1) (lists (cl.drop (k+1)))).map (fun r=> plain il++(p++r))=Pr.Hh (lists c) 0 (lists cl)):=by
     show _=_;rw [<-y.out,n];simp only [Option.bind_some,Option.map_map];rfl
    have HC:=hid (Apc _ f c k sx wr.drew b7.out (by omega) (by omega) n);clear n y;go_wp2_with fail
    go_region_law (first
     | (refine Apg _ (by rfl) (.tmp 21) (.tmp 25) (by rfl) w4.heap.size (.slice Y il.length Z) il (by simp [Act.eval]) z.out l g5 c8 (by simp [Act.eval]) c3.out (by omega) (by omega) ?_
        intro v6 w6 a4 I;obtain ⟨a6,c6,rfl⟩:=Ab a4;generalize g0:(il++l).length=n6 at*;have e6:=hid a4;have h5:=hid I;have b9:Hid (Bd w6 O (.int .i64 1) (.slice Y il.length Z) (.slice none 0 0) (.slice none 0 0) (.slice none 0 0)):=(I.block O (by have:=X.out.lt;omega) (fun e=> by have:=(World.ownsRow.lt z.out O e.symm).1;omega)).trans X.out;obtain ⟨q0,q1,-,-,-,y0,y1,-⟩:=b9.out.cells;have c1:=hid (Ow c2.out z.out (Nat.le_refl _) I);clear a4 I)
     | (go_simp
        refine HC.out.mono ?_;rintro r w5 ⟨l,v5,a3,rfl,d3,f8,f9,A⟩;have a:=Ze A;have z:Hid (Ak w4.heap.size w5 (.slice Y il.length Z) il):=Aa HO.out a (Nat.le_refl _);have X:=hid (HM.out.keep a);have c2:=hid (Cu b5.out (Aay (b:=O) a));have h6:wr.heap.size<=w5.heap.size:=a.size
        have e7:1<=l.length:=by have:(plain l).length=l.length:=by simp [plain]
                                rw [a3] at e5;omega
        have e8:=hid a3;obtain ⟨g5,c8,rfl,i4,i5,i6,f7⟩:=d3.isItems.resolve_left (by rintro ⟨_,_,_,rfl⟩;simp at e7);have c3:Hid (∀j u,(icells l)[j]?=some u->w5.cell? ((⟨g5,0,none⟩:Addr).add j)=some u):=World.ownsRow.cells d3 rfl;obtain ⟨q0,q1,q2,q3,q4,y0,y1,-⟩:=X.out.cells;have c4:=hid ((a.block d.heap.size (by show d.heap.size < wr.heap.size;omega)).trans W.out);have h7:w5.cell? ⟨d.heap.size,0,none⟩=some (.slice D f.length F):=(by unfold World.cell?;rw [c4.out];rfl);have h8:w5.cell? ⟨d.heap.size,1,none⟩=some (.slice G c.length H):=(by unfold World.cell?;rw [c4.out];rfl);clear f9 A a a3 f7))
    all_goals
     have e9:=hid (b9.out.set1 (.slice a6 n6 c6));have f0:=hid (Fu (B:=w4.heap.size) e6.out (b:=O) (i:=1) (by omega) (.slice a6 n6 c6));have f1:=hid (Cu c1.out (Gn O 1 w6 (.slice a6 n6 c6)));have f2:(il++l).length<=255*(k+1):=(by rw [List.length_append];omega);clear g0;go_wp2_with fail
     go_roundw
     case rel=> exact ⟨k+1,il++l,_,by omega,by go_num,f2,e9.out,f0.out,f1.out,by rw [<-b8.out,e8.out,Jg];simp only [List.append_assoc]⟩
     case measure=> simp [intOf];omega
  ·have S:Hid (lfO (Pr.Lh t)=some (1,plain il,[],lists [],plainCh [])):=by
    show _=_;rw [b2.out,<-y.out,List.drop_eq_nil_of_le (by omega)];simp [lists,Pr.Hh,lfO,plainCh]
   have f3:=hid (Gi (s.out.trans (V.out.mono (by omega))) (Nat.le_refl w.heap.size) (.int .i64 1) (.slice Y il.length Z) (.slice none 0 0) (.slice none 0 0) (.slice none 0 0));have f4:=hid (b6.out.put (.int .i64 1) (.slice Y il.length Z) (.slice none 0 0) (.slice none 0 0) (.slice none 0 0));have f5:=hid (Al (Ks HO.out (b:=w.heap.size) (by omega) (.int .i64 1) (.slice Y il.length Z) (.slice none 0 0) (.slice none 0 0) (.slice none 0 0)) (C:=w.heap.size) (by omega));obtain ⟨r0,r1,r2,r3,r4,y0,y1,y2,y3,y4⟩:=b6.out.cells;have c5:il.length<=1020:=(by omega);go_wp2_with fail;refine bodyPost_ret (v:= .agg #[.int .i64 1,.slice Y il.length Z,.slice none 0 0,.slice none 0 0,.slice none 0 0]) ?_ rfl ⟨f3.out,.inr ⟨1,il,[],[],[],_,S.out,rfl,⟨_,_,_,_,rfl,f5.out,World.ownsRow_nil _ _ _ _,World.ownsRow_nil _ _ _ _,World.ownsRow_nil _ _ _ _,c5,by simp,by simp,by simp⟩,Apd _⟩⟩;obtain ⟨q0,q1,q2,q3,q4⟩:=Cb f4.out;unfold Hm at q0 q1 q2 q3 q4;simp [results,Tryz.results201,go_sem,q0,q1,q2,q3,q4]
end Go.Proofs.YtolgpnaoaodepaaGreat
namespace Go.Proofs.YtolgpnaoaodepaaGreat.Pr
open Pg
abbrev Hi:=Int×List (List UInt8×List UInt8)×List Nat×List (List UInt8)×List (Int×List UInt8×List UInt8)
def Hj (t:List UInt8):Option Hi:=if t.take 3=[83,50,73] then brO (Cl t) else lfO (Lh t)
def Nw (n:Hi):Bool:=well n.1 n.2.1 (n.2.2.1.map Int.ofNat) n.2.2.2.1 n.2.2.2.2
def Gm (n:Hi):List UInt8:=page n.1 n.2.1 (n.2.2.1.map Int.ofNat) n.2.2.2.1 n.2.2.2.2
def Fg (t:List UInt8):Option Hi:=(Hj t).bind fun n=> if Nw n=true then (if Gm n=t then some n else none) else none
theorem Anh {t:List UInt8} {n:Hi} (h:Fg t=some n):Nw n=true/\Gm n=t:=by
 unfold Fg at h;rw [Option.bind_eq_some_iff] at h;obtain ⟨m,_,a⟩:=h;by_cases b:Nw m=true
 ·rw [if_pos b] at a;by_cases c:Gm m=t
  ·rw [if_pos c] at a;simp only [Option.some.injEq] at a;subst a;exact ⟨b,c⟩
  ·rw [if_neg c] at a;simp at a
 ·rw [if_neg b] at a;simp at a
end Go.Proofs.YtolgpnaoaodepaaGreat.Pr
namespace Go.Proofs.YtolgpnaoaodepaaGreat
open Go.RowKit
theorem Eb.isNode {B:Nat} {w:World} {v:Value} {kd:Int} {il:List (ByteArray×ByteArray)} {cl:List Nat} {pl:List ByteArray} {ml:List (Int×ByteArray×ByteArray)} (h:Eb B w v kd il cl pl ml):Kv w v kd il (cl.map Int.ofNat) pl ml:=by
 obtain ⟨v1,v2,v3,v4,e,a,b,c,d,f,g,i,j⟩:=h;refine ⟨v1,v2,v3,v4,e,Io a,by omega,?_,?_,d.isChs (by omega)⟩
 ·have:=ownsRow.isRow b (by omega);rw [List.length_map,List.map_map];exact this
 ·exact ownsRow.isRow c (by omega)
theorem Eb.put {B:Nat} {w:World} {v:Value} {kd:Int} {il:List (ByteArray×ByteArray)} {cl:List Nat} {pl:List ByteArray} {ml:List (Int×ByteArray×ByteArray)} (h:Eb B w v kd il cl pl ml) {b:Nat} (a:b < B) (u0 u1 u2 u3 u4:Value):Eb B (Hm w b u0 u1 u2 u3 u4) v kd il cl pl ml:=by
 obtain ⟨v1,v2,v3,v4,e,c,d,f,g,i⟩:=h;exact ⟨v1,v2,v3,v4,e,Ks c a _ _ _ _ _,Ks d a _ _ _ _ _,Ks f a _ _ _ _ _,Ks g a _ _ _ _ _,i⟩
theorem Eb.below {B:Nat} {w w':World} {v:Value} {kd:Int} {il:List (ByteArray×ByteArray)} {cl:List Nat} {pl:List ByteArray} {ml:List (Int×ByteArray×ByteArray)} (h:Eb B w v kd il cl pl ml) (a:Below w.heap.size w w'):Eb B w' v kd il cl pl ml:=by
 obtain ⟨v1,v2,v3,v4,e,b,c,d,f,g⟩:=h;exact ⟨v1,v2,v3,v4,e,Aa b a (Nat.le_refl _),Aa c a (Nat.le_refl _),Aa d a (Nat.le_refl _),Aa f a (Nat.le_refl _),g⟩
theorem Eb.shrink {B C:Nat} {w:World} {v:Value} {kd:Int} {il:List (ByteArray×ByteArray)} {cl:List Nat} {pl:List ByteArray} {ml:List (Int×ByteArray×ByteArray)} (h:Eb B w v kd il cl pl ml) (a:C<=B):Eb C w v kd il cl pl ml:=by
 obtain ⟨v1,v2,v3,v4,e,b,c,d,f,g⟩:=h;exact ⟨v1,v2,v3,v4,e,Al b a,Al c a,Al d a,Al f a,g⟩
theorem Eb.shape {B:Nat} {w:World} {v:Value} {kd:Int} {il:List (ByteArray×ByteArray)} {cl:List Nat} {pl:List ByteArray} {ml:List (Int×ByteArray×ByteArray)} (h:Eb B w v kd il cl pl ml):∃a b c d f g i j,v= .agg #[.int .i64 kd,.slice a il.length b,.slice c cl.length d,.slice f pl.length g,.slice i ml.length j]:=by
 obtain ⟨v1,v2,v3,v4,e,k,l,m,n,o⟩:=h;obtain ⟨a,b,rfl⟩:=Ab k;obtain ⟨c,d,rfl⟩:=Ab l;obtain ⟨f,g,rfl⟩:=Ab m;obtain ⟨i,j,rfl⟩:=Ab n;exact ⟨a,b,c,d,f,g,i,j,e⟩
set_option maxHeartbeats 1000000 in
theorem Ahr (t:List UInt8) (w:World):
  Calls Tryz.prog 243 #[.string ⟨t.toArray⟩,.string ⟨#[83,50,73]⟩] w fun r w'=> r= .returned (.bool (decide (t.take 3=[83,50,73])))/\w'=w:=by
 have f:=Ck t;generalize a:decide (t.take 3=[83,50,73])=b;have c:=hid a;clear a;go_enter Tryz.func243,Tryz.ntmps243;by_cases i:3<=t.length
 ·have hi:(3:Int)<=(t.length:Int):=by omega
  have g:=Yw t 3;go_wp2_with fail;go_ret;refine ⟨?_,rfl⟩;rw [<-c.out];show Ending.returned (.bool (t.take 3==[83,50,73]))=_;rw [show (t.take 3==[83,50,73])=decide (t.take 3=[83,50,73]) from Bool.eq_iff_iff.2 (by simp)]
 ·have hi:¬(3:Int)<=(t.length:Int):=by omega
  have d:Hid (b=false):=by
   show _=_;rw [<-c.out];exact decide_eq_false fun e=> by have:=congrArg List.length e;rw [List.length_take] at this;simp at this;omega
  go_wp2_with fail;go_ret;exact ⟨by rw [d.out];rfl,rfl⟩
set_option maxHeartbeats 1000000 in
theorem Ahs (t:List UInt8) (w:World):
  Calls Tryz.prog 199 #[.string ⟨t.toArray⟩,.string ⟨#[83,50,73]⟩] w fun r w'=> r= .returned (.bool (decide (t.take 3=[83,50,73])))/\w'=w:=by
 have a:=hid (Ahr t w);generalize decide (t.take 3=[83,50,73])=b at*;go_enter Tryz.func199,Tryz.ntmps199;go_wp2_with fail;refine a.out.mono ?_;rintro r c ⟨rfl,rfl⟩;go_wp2_with fail;go_ret;exact ⟨rfl,rfl⟩
theorem Ani {w b:World} {o:Option Pr.Hi} {kd:Int} {il:List (ByteArray×ByteArray)} {cl:List Nat} {pl:List ByteArray} {ml:List (Int×ByteArray×ByteArray)} {c d f g:Value} {B:Nat}
  (j:Below w.heap.size w b) (k:o=some (kd,plain il,cl,lists pl,plainCh ml)) (l:Eb B b (.agg #[.int .i64 kd,c,d,f,g]) kd il cl pl ml) (i:w.heap.size < B):
  Aiy w o (.returned (.agg #[.int .i64 kd,c,d,f,g])) (Hm b w.heap.size (.int .i64 kd) c d f g):=
 ⟨Gi j (Nat.le_refl _) _ _ _ _ _,.inr ⟨kd,il,cl,pl,ml,_,k,rfl,(l.put i _ _ _ _ _).shrink (Nat.le_of_lt i)⟩⟩
theorem Ts {w g:World} {o:Option Pr.Hi} {kd:Int} {il:List (ByteArray×ByteArray)} {cl:List Nat} {pl:List ByteArray} {ml:List (Int×ByteArray×ByteArray)} {b c d f:Value} {B:Nat}
  (j:Below w.heap.size w g) (k:o=some (kd,plain il,cl,lists pl,plainCh ml)) (l:Eb B g (.agg #[.int .i64 kd,b,c,d,f]) kd il cl pl ml) (i:w.heap.size < B) (a:Ahq kd (.agg #[.int .i64 kd,b,c,d,f])):
  Qh w o (.returned (.agg #[.int .i64 kd,b,c,d,f])) (Hm g w.heap.size (.int .i64 kd) b c d f):=
 ⟨Gi j (Nat.le_refl _) _ _ _ _ _,.inr ⟨kd,il,cl,pl,ml,_,k,rfl,(l.put i _ _ _ _ _).shrink (Nat.le_of_lt i),a⟩⟩
set_option maxHeartbeats 2000000 in
set_option maxRecDepth 20000 in
theorem Zi (t:List UInt8) (w:World):
  Calls Tryz.prog 143 #[.string ⟨t.toArray⟩] w fun r w'=> Qh w (Pr.Hj t) r w':=by
 go_enter Tryz.func143,Tryz.ntmps143;go_wp2_with fail;have m:=hid (Bw w (.int .i64 0) (.slice none 0 0) (.slice none 0 0) (.slice none 0 0) (.slice none 0 0));have g:=hid ((Below.refl w.heap.size w).alloc (Nat.le_refl _) (.cells #[.int .i64 0,.slice none 0 0,.slice none 0 0,.slice none 0 0,.slice none 0 0] 79));have L:w.heap.size < (w.alloc (.cells #[.int .i64 0,.slice none 0 0,.slice none 0 0,.slice none 0 0,.slice none 0 0] 79)).heap.size:=by simp
 generalize w.alloc (.cells #[.int .i64 0,.slice none 0 0,.slice none 0 0,.slice none 0 0,.slice none 0 0] 79)=w0 at*;refine (Ahs t _).mono ?_;rintro r Z ⟨rfl,rfl⟩;by_cases l:t.take 3=[83,50,73]
 ·have n:Hid (Pr.Hj t=brO (Pr.Cl t)):=by show _=_;unfold Pr.Hj;rw [if_pos l]
  rw [decide_eq_true l];clear l;go_wp2_with fail;refine (Zh t _).mono ?_;rintro r Y ⟨a,⟨H,rfl⟩ | ⟨kd,il,cl,pl,ml,v,I,rfl,k,b⟩⟩
  ·have i:Hid (Pr.Hj t=none):=n.out.trans H;have c:=hid (g.out.trans (a.mono (by omega)));clear a H;unfold Ae;go_wp2_with fail;exact ⟨rfl,c.out,.inl ⟨i.out,rfl⟩⟩
  ·have i:=hid (n.out.trans I);have c:=hid (g.out.trans (a.mono (by omega)));have d:=hid (m.out.keep a);obtain ⟨o,p,q,s,u,y,z,A,rfl⟩:=k.shape;have J:=hid k;have f:=hid (Ts c.out i.out J.out (by omega) b);clear b;have j:=hid (d.out.put (.int .i64 kd) (.slice o il.length p) (.slice q cl.length s) (.slice u pl.length y) (.slice z ml.length A));obtain ⟨M,N,O,R,S,T,U,V,W,X⟩:=d.out.cells;clear a I k;go_wp2_with fail;refine bodyPost_ret (v:= .agg #[.int .i64 kd,.slice o il.length p,.slice q cl.length s,.slice u pl.length y,.slice z ml.length A]) ?_ rfl f.out;obtain ⟨B,C,D,F,G⟩:=Cb j.out;unfold Hm at B C D F G;simp [results,Tryz.results143,go_sem,B,C,D,F,G]
 ·have n:Hid (Pr.Hj t=lfO (Pr.Lh t)):=by show _=_;unfold Pr.Hj;rw [if_neg l]
  rw [decide_eq_false l];clear l;go_wp2_with fail;refine (Adb t _).mono ?_;rintro r Y ⟨a,⟨H,rfl⟩ | ⟨kd,il,cl,pl,ml,v,I,rfl,k,b⟩⟩
  ·have i:Hid (Pr.Hj t=none):=n.out.trans H;have c:=hid (g.out.trans (a.mono (by omega)));clear a H;unfold Ae;go_wp2_with fail;exact ⟨rfl,c.out,.inl ⟨i.out,rfl⟩⟩
  ·have i:=hid (n.out.trans I);have c:=hid (g.out.trans (a.mono (by omega)));have d:=hid (m.out.keep a);obtain ⟨o,p,q,s,u,y,z,A,rfl⟩:=k.shape;have J:=hid k;have f:=hid (Ts c.out i.out J.out (by omega) b);clear b;have j:=hid (d.out.put (.int .i64 kd) (.slice o il.length p) (.slice q cl.length s) (.slice u pl.length y) (.slice z ml.length A));obtain ⟨M,N,O,R,S,T,U,V,W,X⟩:=d.out.cells;clear a I k;go_wp2_with fail;refine bodyPost_ret (v:= .agg #[.int .i64 kd,.slice o il.length p,.slice q cl.length s,.slice u pl.length y,.slice z ml.length A]) ?_ rfl f.out;obtain ⟨B,C,D,F,G⟩:=Cb j.out;unfold Hm at B C D F G;simp [results,Tryz.results143,go_sem,B,C,D,F,G]
set_option maxHeartbeats 2000000 in
set_option maxRecDepth 20000 in
theorem Nx (t:List UInt8) (w:World):
  Calls Tryz.prog 83 #[.string ⟨t.toArray⟩] w fun r w'=> Qh w (Pr.Fg t) r w':=by
 go_enter Tryz.func83,Tryz.ntmps83;go_wp2_with fail;have z:=hid (Bw w (.int .i64 0) (.slice none 0 0) (.slice none 0 0) (.slice none 0 0) (.slice none 0 0));have i:=hid ((Below.refl w.heap.size w).alloc (Nat.le_refl _) (.cells #[.int .i64 0,.slice none 0 0,.slice none 0 0,.slice none 0 0,.slice none 0 0] 79));have a0:w.heap.size < (w.alloc (.cells #[.int .i64 0,.slice none 0 0,.slice none 0 0,.slice none 0 0,.slice none 0 0] 79)).heap.size:=by simp
 generalize w.alloc (.cells #[.int .i64 0,.slice none 0 0,.slice none 0 0,.slice none 0 0,.slice none 0 0] 79)=w0 at*;refine (Zi t _).mono ?_;rintro r l ⟨a,⟨hn,rfl⟩ | ⟨kd,il,cl,pl,ml,v,hs,rfl,Y,g⟩⟩
 ·have f:Hid (Pr.Fg t=none):=by show _=_;unfold Pr.Fg;rw [hn];rfl
  have d:=hid (i.out.trans (a.mono (by omega)));clear a hn;unfold Ae;go_wp2_with fail;exact ⟨rfl,d.out,.inl ⟨f.out,rfl⟩⟩
 have f:Hid (Pr.Fg t=if Pg.well kd (plain il) (cl.map Int.ofNat) (lists pl) (plainCh ml)=true then (if Pg.page kd (plain il) (cl.map Int.ofNat) (lists pl) (plainCh ml)=t then some (kd,plain il,cl,lists pl,plainCh ml) else none) else none):=by
  show _=_;unfold Pr.Fg;rw [hs];rfl
 have d:=hid (i.out.trans (a.mono (by omega)));have A:=hid (z.out.keep a);obtain ⟨m,n,o,p,q,s,u,y,rfl⟩:=Y.shape;have O:=(Below.refl l.heap.size l).alloc (Nat.le_refl _) (.cells #[.int .i64 kd,.slice m il.length n,.slice o cl.length p,.slice q pl.length s,.slice u ml.length y] 79);have B:=hid (Bw l (.int .i64 kd) (.slice m il.length n) (.slice o cl.length p) (.slice q pl.length s) (.slice u ml.length y));have C:=hid (d.out.trans (O.mono (by have:=a.size;omega)));have D:=hid (A.out.keep O);have j:=hid (Y.below O);have a5:=a.size;have a6:l.heap.size < (l.alloc (.cells #[.int .i64 kd,.slice m il.length n,.slice o cl.length p,.slice q pl.length s,.slice u ml.length y] 79)).heap.size:=by simp
 have F:=hid g;clear a hs Y O d A z i g;have k:=hid j.out.isNode;go_wp2_with fail;generalize l.alloc (.cells #[.int .i64 kd,.slice m il.length n,.slice o cl.length p,.slice q pl.length s,.slice u ml.length y] 79)=w2 at*;generalize l.heap.size=nb at*;refine (Xz _ kd il (cl.map Int.ofNat) pl ml _ k.out).mono ?_;rintro r w3 ⟨rfl,b⟩;have G:=hid (C.out.trans (b.mono (by omega)));have S:=hid (D.out.keep b);have H:=hid (B.out.keep b);have T:=hid (j.out.below b);have I:=hid (k.out.below b);have a7:=b.size;obtain ⟨Z,m1,m2,m3,m4,-⟩:=H.out.cells;clear b C D B j k
 cases N:Pg.well kd (plain il) (cl.map Int.ofNat) (lists pl) (plainCh ml)
 ·have U:Hid (Pr.Fg t=none):=by show _=_;rw [f.out,N];rfl
  clear N;go_wp2_with fail;refine (Ay _).mono ?_;rintro r w4 ⟨rfl,rfl⟩;unfold Ae;go_wp2_with fail;exact ⟨rfl,G.out,.inl ⟨U.out,rfl⟩⟩
 ·have HW:=hid N;rw [N,if_pos rfl] at f;clear N;go_wp2_with fail;refine (Jw _ kd il (cl.map Int.ofNat) pl ml _ I.out HW.out).mono ?_;rintro r w4 ⟨rfl,c⟩;have J:=hid (G.out.trans (c.mono (by omega)));have L:=hid (S.out.keep c);have V:=hid (H.out.keep c);have W:=hid (T.out.below c);clear c Z m1 m2 m3 m4;generalize Pg.page kd (plain il) (cl.map Int.ofNat) (lists pl) (plainCh ml)=pg at*;obtain ⟨Z,m1,m2,m3,m4,-⟩:=V.out.cells;obtain ⟨r0,r1,r2,r3,r4,y0,y1,y2,y3,y4⟩:=L.out.cells;by_cases R:pg=t
  ·rw [if_pos R] at f;subst R;have M:=hid (Ts J.out f.out W.out (by omega) F.out);have X:=hid (L.out.put (.int .i64 kd) (.slice m il.length n) (.slice o cl.length p) (.slice q pl.length s) (.slice u ml.length y));go_wp2_with fail;refine (Aw _).mono ?_;rintro r w5 ⟨rfl,rfl⟩;go_wp2_with fail;refine bodyPost_ret (v:= .agg #[.int .i64 kd,.slice m il.length n,.slice o cl.length p,.slice q pl.length s,.slice u ml.length y]) ?_ rfl M.out;obtain ⟨q0,q1,q2,q3,q4⟩:=Cb X.out;unfold Hm at q0 q1 q2 q3 q4;simp [results,Tryz.results83,go_sem,q0,q1,q2,q3,q4]
  ·rw [if_neg R] at f;have a8:(pg==t)=false:=(by simpa using R);go_wp2_with fail;refine (Ay _).mono ?_;rintro r w5 ⟨rfl,rfl⟩;unfold Ae;go_wp2_with fail;exact ⟨rfl,J.out,.inl ⟨f.out,rfl⟩⟩
theorem Aal (t:List UInt8) (w:World):
  Calls Tryz.prog 83 #[.string ⟨t.toArray⟩] w fun r w'=> Aiy w (Pr.Fg t) r w':=(Nx t w).mono fun _ _ q=> q.q
theorem Pn (s:ByteArray):(⟨s.data.toList.toArray⟩:ByteArray)=s:=by cases s;simp
structure LdM (vim vre:Value) (iml:List ByteArray) (rb:List Bool) (w:World):Prop where
 im:Av 0 w vim iml
 re:w.ownsRow 0 4 1 vre rb.length (rb.map .bool)
 len:rb.length=iml.length
theorem Aj0 {w:World} {v:Value} {b:List Bool} (h:w.ownsRow 0 4 1 v b.length (b.map .bool)) (i:Nat) (hi:i < b.length):∃g a,v= .slice (some ⟨g,0,none⟩) b.length a/\b.length<=a/\g < w.heap.size/\w.cell? ⟨g,i,none⟩=some (.bool (b[i]'hi))/\w.frozen? ⟨g,i,none⟩=false:=by
 rcases h.2 with ⟨_,h0⟩ | ⟨g,a,d,e,j,c,f,-⟩
 ·omega
 ·refine ⟨g,a,e,f,(Array.getElem?_eq_some_iff.1 c).1,?_,by simp [World.frozen?,c]⟩;have:=World.ownsRow.cells h (g:=g) (by rw [e];rfl) i (.bool (b[i]'hi)) (by simp [hi]);rw [Cw] at this;simpa using this
def Ag (iml:List ByteArray):List (Option Ld.Nd):=iml.map fun s=> Pr.Fg s.data.toList
def Aqg (vim vre:Value) (iml:List ByteArray) (rb:List Bool) (n:Nat) (w:World) (r:Ending) (w':World):Prop:=Mod (fun g=> vre.ownBlock=some g) w w'/\
 ((r=Ae/\∀nd,¬(rb[n]?=some false/\(Ag iml)[n]?=some (some nd)))\/∃kd il cl pl ml v,rb[n]?=some false/\(Ag iml)[n]?=some (some (kd,plain il,cl,lists pl,plainCh ml))/\r= .returned v/\Eb w.heap.size w' v kd il cl pl ml/\Ahq kd v/\LdM vim vre iml (rb.set n true) w')
theorem Me {iml:List ByteArray} {n:Nat} (h:n < iml.length):(Ag iml)[n]?=some (Pr.Fg (iml[n]'h).data.toList):=by
 unfold Ag;simp [h]
theorem LdM.mod {a b:Value} {iml:List ByteArray} {c:List Bool} {w w':World} (h:LdM a b iml c w) (d:Below w.heap.size w w'):LdM a b iml c w':=⟨Aa h.im d (Nat.le_refl _),Aa h.re d (Nat.le_refl _),h.len⟩
theorem Ox {F:Nat->Prop} {w a b:World} (c:Mod F w a) (d:Below w.heap.size a b):Mod F w b:=⟨d.os.trans c.os,d.tape.trans c.tape,d.output.trans c.output,Nat.le_trans c.size d.size,fun k f g=> (d.block k f).trans (c.block k f g)⟩
theorem Cf {w:World} {B r:Nat} {v j:Value} {e k:TypeId} {s t n u:Nat} {xs c:List Value} (h:w.ownsRow B e s v n xs) (y:w.ownsRow r k t j u c) (z:e≠k) {g:Nat} (l:v.ownBlock=some g):j.ownBlock≠some g:=by
 intro a;rcases h.2 with ⟨rfl,_⟩ | ⟨d,m,o,rfl,_,p,_⟩
 ·simp [Value.ownBlock] at l
 ·rcases y.2 with ⟨rfl,_⟩ | ⟨q,f,i,rfl,_,b,_⟩
  ·simp [Value.ownBlock] at a
  ·obtain rfl:d=g:=Option.some.inj l;obtain rfl:q=d:=Option.some.inj a;rw [p] at b;simp only [Option.some.injEq,Obj.cells.injEq] at b;exact z b.2.1
theorem Aqh {u:Value} {iml:List ByteArray} {c:List Bool} {n a A:Nat} {w d j:World} {kd:Int} {il:List (ByteArray×ByteArray)} {cl:List Nat} {pl:List ByteArray} {ml:List (Int×ByteArray×ByteArray)} {o p r s:Value} (h:LdM u (.slice (some ⟨a,0,none⟩) c.length A) iml c w) (f:Below w.heap.size w d) (R:w.heap.size+1 < d.heap.size) (G:n < c.length) (I:c[n]'G=false) (J:(Ag iml)[n]?=some (some (kd,plain il,cl,lists pl,plainCh ml)))
  (y:Below (d.setCell ⟨a,n,none⟩ (.bool true)).heap.size (d.setCell ⟨a,n,none⟩ (.bool true)) j) (L:Eb (d.setCell ⟨a,n,none⟩ (.bool true)).heap.size j (.agg #[.int .i64 kd,o,p,r,s]) kd il cl pl ml) (z:Ahq kd (.agg #[.int .i64 kd,o,p,r,s])):Aqg u (.slice (some ⟨a,0,none⟩) c.length A) iml c n w (.returned (.agg #[.int .i64 kd,o,p,r,s])) (Hm j (w.heap.size+1) (.int .i64 kd) o p r s):=by
 have B:=Mod.setCell d a n (.bool true);have M:=B.size;have N:=f.size;have O:(d.setCell ⟨a,n,none⟩ (.bool true)).heap.size=d.heap.size:=by simp [World.setCell]
 have t:a < w.heap.size:=(World.ownsRow.lt h.re a rfl).2;have i:Below w.heap.size j (Hm j (w.heap.size+1) (.int .i64 kd) o p r s):=Gi (Below.refl _ j) (Nat.le_succ _) _ _ _ _ _;have b:∀g,g < w.heap.size->(Hm j (w.heap.size+1) (.int .i64 kd) o p r s).heap[g]?=(d.setCell ⟨a,n,none⟩ (.bool true)).heap[g]?:=fun g l=> (i.block g l).trans (y.block g (by omega))
 refine ⟨?_,.inr ⟨kd,il,cl,pl,ml,_,by rw [List.getElem?_eq_getElem G,I],J,rfl,((L.put (by omega) _ _ _ _ _).shrink (by omega)),z,⟨?_,?_,by rw [List.length_set];exact h.len⟩⟩⟩
 ·have m:Mod (fun g=> (Value.slice (some ⟨a,0,none⟩) c.length A).ownBlock=some g) w (d.setCell ⟨a,n,none⟩ (.bool true)):=(Mod.of_below (F:=fun g=> (Value.slice (some ⟨a,0,none⟩) c.length A).ownBlock=some g) f).trans B (fun _ _ q=> q) (fun k _ q=> by rw [q];rfl);exact Ox (Ox m (y.mono (by omega))) i
 ·refine Bz (Aa h.im f (Nat.le_refl _)) fun g l _=> ?_
  have C:g < w.heap.size:=(World.ownsRow.lt h.im g l).2;have D:g≠a:=fun e=> Cf h.im h.re (by decide) l (by rw [e];rfl)
  exact (b g C).trans (B.block g (by omega) D)
 ·have H:=Jf (Aa h.re f (Nat.le_refl _)) n (.bool true);have e:(c.set n true).map Value.bool=(c.map Value.bool).set n (.bool true):=List.map_set ..;rw [e,List.length_set];exact Bz H fun g l _=> b g (by rw [show a=g from Option.some.inj l] at t;exact t)
set_option maxHeartbeats 1000000 in
set_option maxRecDepth 20000 in
theorem Aht (A B:Value) (iml:List ByteArray) (a:List Bool) (n:Nat) (w:World) (h:LdM A B iml a w) (hn:n<=9000000000000000000):
  Calls Tryz.prog 134 #[.agg #[A,B],.int .i64 (n:Nat)] w (Aqg A B iml a n w):=by
 obtain ⟨y,l,rfl⟩:=Ab h.im;obtain ⟨z,m,rfl⟩:=Ab h.re;have D:=hid h;have G:a.length<=iml.length/\iml.length<=a.length:=⟨Nat.le_of_eq h.len,Nat.le_of_eq h.len.symm⟩;obtain ⟨b4,b5⟩:=G;have V:Below w.heap.size w (w.alloc (.cells #[.slice y iml.length l,.slice z a.length m] 152)):=(Below.refl _ w).alloc (Nat.le_refl _) _;have z1:(w.alloc (.cells #[.slice y iml.length l,.slice z a.length m] 152)).heap.size=w.heap.size+1:=by simp
 have s1:(w.alloc (.cells #[.slice y iml.length l,.slice z a.length m] 152)).heap[w.heap.size]?=some (.cells #[.slice y iml.length l,.slice z a.length m] 152 (0,0)):=heap_alloc_new _ _;clear h;go_enter Tryz.func134,Tryz.ntmps134;go_upto_region 1 with fail;generalize w.alloc (.cells #[.slice y iml.length l,.slice z a.length m] 152)=t at*;have W:Below t.heap.size t (t.alloc (.cells #[.int .i64 0,.slice none 0 0,.slice none 0 0,.slice none 0 0,.slice none 0 0] 79)):=(Below.refl _ t).alloc (Nat.le_refl _) _;have X:=Bw t (.int .i64 0) (.slice none 0 0) (.slice none 0 0) (.slice none 0 0) (.slice none 0 0);have z2:(t.alloc (.cells #[.int .i64 0,.slice none 0 0,.slice none 0 0,.slice none 0 0,.slice none 0 0] 79)).heap.size=t.heap.size+1:=by simp
 rw [z1] at X;generalize t.alloc (.cells #[.int .i64 0,.slice none 0 0,.slice none 0 0,.slice none 0 0,.slice none 0 0] 79)=d at*;have U:d.heap[w.heap.size]?=some (.cells #[.slice y iml.length l,.slice z a.length m] 152 (0,0)):=(W.block _ (by omega)).trans s1;have b:=hid (V.trans (W.mono V.size));have H:w.heap.size+1 < d.heap.size:=by omega
 have Y:=hid X;have Z:=hid U;have l0:d.cell? ⟨w.heap.size,0,none⟩=some (.slice y iml.length l):=by simp [World.cell?,U]
 have l1:d.cell? ⟨w.heap.size,1,none⟩=some (.slice z a.length m):=by simp [World.cell?,U]
 clear V W s1 X U z1 z2;by_cases j:n < a.length
 ·obtain ⟨c,c0,e,c5,O,hc,R⟩:=Aj0 D.out.re n j;simp only [Value.slice.injEq] at e;obtain ⟨rfl,-,rfl⟩:=e;obtain ⟨o,c6,e,c7,-,b0,S⟩:=D.out.im.at n (by omega);simp only [Value.slice.injEq] at e;obtain ⟨rfl,-,rfl⟩:=e;have I:=hid (Me (iml:=iml) (n:=n) (by omega));have a0:Hid (c≠o):=fun e=> Cf D.out.im D.out.re (by decide) (g:=o) rfl (by rw [<-e];rfl)
  have J:d.cell? ⟨c,n,none⟩=some (.bool (a[n]'j)):=(b.out.cell (p:=⟨c,n,none⟩) O).trans hc;have b6:d.frozen? ⟨c,n,none⟩=false:=by
   have:d.heap[c]?=w.heap[c]?:=b.out.block c O;simp only [World.frozen?,this] at*;exact R
  have L:d.cell? ⟨o,n,none⟩=some (.string (iml[n]'(by omega))):=(b.out.cell (p:=⟨o,n,none⟩) b0).trans S;have b7:(0:Int)<=(n:Int):=by omega
  have b8:(n:Int) < (a.length:Int):=by omega
  have b9:(n:Int) < (iml.length:Int):=by omega
  clear hc R S
  cases C:a[n]'j with
  | true=>
   have u:Hid (a[n]?=some true):=(by show _=_;rw [List.getElem?_eq_getElem j,C]);rw [C] at J;clear C;go_wp2_with fail;refine (Ay _).mono ?_;rintro r w4 ⟨rfl,rfl⟩;unfold Ae;go_wp2_with fail;exact ⟨rfl,Mod.of_below b.out,.inl ⟨rfl,fun nd q=> by rw [u.out] at q;cases q.1⟩⟩
  | false=>
   have a5:=hid C;rw [C] at J;clear C;go_wp2_with fail;refine (Aw _).mono ?_;rintro r d ⟨rfl,rfl⟩;have f:=Mod.setCell d c n (.bool true);have s4:(d.setCell ⟨c,n,none⟩ (.bool true)).heap[w.heap.size]?=some (.cells #[.slice (some ⟨o,0,none⟩) iml.length l,.slice (some ⟨c,0,none⟩) a.length m] 152 (0,0)):=(f.block _ (by omega) (by omega)).trans Z.out;have k0:(d.setCell ⟨c,n,none⟩ (.bool true)).cell? ⟨w.heap.size,0,none⟩=some (.slice (some ⟨o,0,none⟩) iml.length l):=(by simp [World.cell?,s4]);have k2:(d.setCell ⟨c,n,none⟩ (.bool true)).cell? ⟨o,n,none⟩=some (.string (iml[n]'(by omega))):=by
    have e:=f.block o (by have:=b.out.size;omega) (fun e=> a0.out e.symm);simp only [World.cell?,e] at L ⊢;exact L
   have a6:Hid (Bd (d.setCell ⟨c,n,none⟩ (.bool true)) (w.heap.size+1) (.int .i64 0) (.slice none 0 0) (.slice none 0 0) (.slice none 0 0) (.slice none 0 0)):=(f.block _ H (by omega)).trans Y.out;have a7:Hid ((d.setCell ⟨c,n,none⟩ (.bool true)).heap.size=d.heap.size):=(by show _=_;simp [World.setCell]);have a8:=hid f;generalize iml[n]'(by omega)=b3 at*;have HR:=hid (Nx b3.data.toList (d.setCell ⟨c,n,none⟩ (.bool true)));rw [Pn] at HR;clear s4 f;go_wp2_with fail;refine HR.out.mono ?_;rintro r w5 ⟨i,⟨T,rfl⟩ | ⟨kd,il,cl,pl,ml,v,S,rfl,hv,s⟩⟩
   ·have HF:Hid (Aqg (.slice (some ⟨o,0,none⟩) iml.length l) (.slice (some ⟨c,0,none⟩) a.length m) iml a n w Ae w5):=by
     refine ⟨Ox ((Mod.of_below (F:=fun g=> (Value.slice (some ⟨c,0,none⟩) a.length m).ownBlock=some g) b.out).trans a8.out (fun _ _ q=> q) (fun k _ q=> by rw [q];rfl)) (i.mono (by rw [a7.out];omega)),.inl ⟨rfl,fun nd q=> ?_⟩⟩;rw [I.out,T] at q
     cases q.2
    clear i T;unfold Ae at*;go_wp2_with fail;exact ⟨rfl,HF.out⟩
   ·obtain ⟨a1,c1,a2,c2,a3,c3,a4,c4,rfl⟩:=hv.shape;have M:=hid (Aqh D.out b.out H j a5.out (by rw [I.out,S]) i hv s);have N:=hid (a6.out.keep i);have a9:=hid (N.out.put (.int .i64 kd) (.slice a1 il.length c1) (.slice a2 cl.length c2) (.slice a3 pl.length c3) (.slice a4 ml.length c4));obtain ⟨r0,r1,r2,r3,r4,y0,y1,y2,y3,y4⟩:=N.out.cells;clear i S hv s k0 k2;go_wp2_with fail;refine bodyPost_ret (v:= .agg #[.int .i64 kd,.slice a1 il.length c1,.slice a2 cl.length c2,.slice a3 pl.length c3,.slice a4 ml.length c4]) ?_ rfl M.out;obtain ⟨q0,q1,q2,q3,q4⟩:=Cb a9.out;unfold Hm at q0 q1 q2 q3 q4;simp [results,Tryz.results134,go_sem,q0,q1,q2,q3,q4]
 ·have u:Hid (a[n]?=none):=List.getElem?_eq_none (by omega);have hd:¬(n:Int) < (iml.length:Int):=by omega
  go_wp2_with fail;refine (Ay _).mono ?_;rintro r w4 ⟨rfl,rfl⟩;unfold Ae;go_wp2_with fail;exact ⟨rfl,Mod.of_below b.out,.inl ⟨rfl,fun nd q=> by rw [u.out] at q;cases q.1⟩⟩
abbrev TkM:=Nat×Nat×ByteArray×ByteArray
def tcells (l:List TkM):List Value:=l.flatMap fun x=> [.int .i64 (x.1:Nat),.pointer (some ⟨x.2.1,0,none⟩),.string x.2.2.1,.string x.2.2.2]
def Kb (B:Nat) (w:World) (v:Value) (l:List TkM):Prop:=w.ownsRow B 154 4 v l.length (tcells l)
theorem Qi:∀l:List TkM,(tcells l).length=l.length*4
 | []=> rfl
 | x::r=> by
  have:tcells (x::r)=[.int .i64 (x.1:Nat),.pointer (some ⟨x.2.1,0,none⟩),.string x.2.2.1,.string x.2.2.2]++tcells r:=rfl;rw [this,List.length_append,Qi r,List.length_cons];simp;omega
theorem Ky (a b:List TkM):tcells (a++b)=tcells a++tcells b:=by unfold tcells;rw [List.flatMap_append]
theorem Afi (a:List TkM) (x:TkM):tcells (a++[x])=tcells a++[.int .i64 (x.1:Nat),.pointer (some ⟨x.2.1,0,none⟩),.string x.2.2.1,.string x.2.2.2]:=by rw [Ky];rfl
theorem Ahu:∀(l:List TkM),∀v∈tcells l,v.oneCell'=true:=fun l v b=> by
 obtain ⟨x,_,a⟩:=List.mem_flatMap.1 b;simp at a;rcases a with rfl | rfl | rfl | rfl <;> rfl
theorem Abw:(Tryz.prog.info? 154).map (fun i=> (i.zero,i.size,i.bytes))=some (some (.agg #[.int .i64 0,.pointer none,.string ⟨#[]⟩,.string ⟨#[]⟩]),4,48):=by kernel_rfl
theorem Kb.at {B:Nat} {w:World} {v:Value} {l:List TkM} (h:Kb B w v l) (i:Nat) (hi:i < l.length):∃g b,v= .slice (some ⟨g,0,none⟩) l.length b/\l.length<=b/\B<=g/\g < w.heap.size/\w.cell? ⟨g,i*4,none⟩=some (.int .i64 ((l[i]'hi).1:Nat))/\w.cell? ⟨g,i*4+1,none⟩=some (.pointer (some ⟨(l[i]'hi).2.1,0,none⟩))/\w.cell? ⟨g,i*4+2,none⟩=some (.string (l[i]'hi).2.2.1)/\w.cell? ⟨g,i*4+3,none⟩=some (.string (l[i]'hi).2.2.2):=by
 rcases h.2 with ⟨_,h0⟩ | ⟨g,b,m,e,n,o,p,-⟩
 ·omega
 ·have c:∀j u,(tcells l)[j]?=some u->w.cell? ⟨g,j,none⟩=some u:=fun j u d=> by
   have:=World.ownsRow.cells h (g:=g) (by rw [e];rfl) j u d;rw [Cw] at this;simpa using this
  have a:∀j u,[Value.int .i64 ((l[i]'hi).1:Nat),.pointer (some ⟨(l[i]'hi).2.1,0,none⟩),.string (l[i]'hi).2.2.1,.string (l[i]'hi).2.2.2][j]?=some u->(tcells l)[i*4+j]?=some u:=fun j u d=> by
   have k:tcells l=tcells (l.take i)++([.int .i64 ((l[i]'hi).1:Nat),.pointer (some ⟨(l[i]'hi).2.1,0,none⟩),.string (l[i]'hi).2.2.1,.string (l[i]'hi).2.2.2]++tcells (l.drop (i+1))):=by
    have:l=l.take i++(l[i]'hi::l.drop (i+1)):=by rw [<-List.drop_eq_getElem_cons hi,List.take_append_drop]
    conv=> lhs;rw [this]
    rw [Ky];rfl
   have f:j < 4:=(by have:=(List.getElem?_eq_some_iff.1 d).1;simpa using this);rw [k,List.getElem?_append_right (by rw [Qi,List.length_take];omega),Qi,List.length_take,Nat.min_eq_left (Nat.le_of_lt hi),show i*4+j - i*4=j by omega,List.getElem?_append_left (by simpa using f)];exact d
  exact ⟨g,b,e,p,n,(Array.getElem?_eq_some_iff.1 o).1,by simpa using c _ _ (a 0 _ rfl),c _ _ (a 1 _ rfl),c _ _ (a 2 _ rfl),c _ _ (a 3 _ rfl)⟩
def Ec:ByteArray->ByteArray->List ByteArray->List (ByteArray×ByteArray)
 | lo,hi,[]=> [(lo,hi)]
 | lo,hi,p::r=> (lo,p)::Ec p hi r
theorem Jj:∀(lo hi:ByteArray) (l:List ByteArray),(Ec lo hi l).length=l.length+1
 | _,_,[]=> rfl
 | _,hi,p::r=> by rw [Ec,List.length_cons,Jj p hi r,List.length_cons]
theorem Zj:∀(pl:List ByteArray) (lo hi:ByteArray) (i:Nat) (h:i < (Ec lo hi pl).length),(Ec lo hi pl)[i]'h=((if h0:0 < i then pl[i - 1]'(by rw [Jj] at h;omega) else lo),if a:i < pl.length then pl[i]'a else hi)
 | [],lo,hi,i,h=> by
  have:i=0:=by rw [Jj] at h;simp at h;exact h
  subst this;simp [Ec]
 | p::r,lo,hi,0,h=> by simp [Ec]
 | p::r,lo,hi,i+1,h=> by
  have b:i < (Ec p hi r).length:=by rw [Jj] at h ⊢;simp at h;omega
  have e:(Ec lo hi (p::r))[i+1]'h=(Ec p hi r)[i]'b:=rfl;rw [e,Zj r p hi i b];congr 1
  ·by_cases h0:0 < i
   ·rw [dif_pos h0,dif_pos (by omega)];obtain ⟨j,rfl⟩:∃j,i=j+1:=⟨i - 1,by omega⟩;simp
   ·have:i=0:=(by omega);subst this;simp
  ·by_cases a:i < r.length
   ·rw [dif_pos a,dif_pos (by simp;omega)];simp
   ·rw [dif_neg a,dif_neg (by simp;omega)]
theorem Ny:∀(pl:List ByteArray) (lo hi:ByteArray),(Ec lo hi pl).map (fun b=> (b.1.data.toList,b.2.data.toList))=Ld.Ib lo.data.toList hi.data.toList (lists pl)
 | [],lo,hi=> rfl
 | p::r,lo,hi=> by
  have:=Ny r p hi;unfold lists at*;rw [Ec,List.map_cons,this,List.map_cons,Ld.Ib]
def tkP (x:TkM):Ld.Tk:=(x.1,x.2.2.1.data.toList,x.2.2.2.data.toList)
def En (l:List TkM):List (ByteArray×Nat):=(l.filter fun x=> Ld.Br x.2.2.1.data.toList x.2.2.2.data.toList).map fun x=> (x.2.2.1,x.2.1)
theorem Ahv (l:List TkM) (x:TkM):En (l++[x])=En l++if Ld.Br x.2.2.1.data.toList x.2.2.2.data.toList then [(x.2.2.1,x.2.1)] else []:=by
 unfold En;rw [List.filter_append,List.map_append];congr 1;by_cases h:Ld.Br x.2.2.1.data.toList x.2.2.2.data.toList=true
 ·simp [h]
 ·simp [h]
end Go.Proofs.YtolgpnaoaodepaaGreat
