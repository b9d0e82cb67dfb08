import Derived.Test.YtolgpnaoaodepaaGreatTreQm
namespace Go.Proofs.YtolgpnaoaodepaaGreat
open Go.RowKit
def PtB (w:World) (b:Nat) (f:ByteArray) (p:Nat):Prop:=w.heap[b]?=some (.cells #[.string f,.pointer (some ⟨p,0,none⟩)] 132 (0,0))
theorem PtB.cells {w:World} {b:Nat} {f:ByteArray} {p:Nat} (h:PtB w b f p):w.cell? ⟨b,0,none⟩=some (.string f)/\w.cell? ⟨b,1,none⟩=some (.pointer (some ⟨p,0,none⟩)):=by
 unfold PtB at h;refine ⟨?_,?_⟩ <;> simp [World.cell?,h]
structure CtQ (h:Nat) (w:World) (ps:List (Tr.Key×Tr.Ac h)) (v:Value) (pl:List (ByteArray×Nat)) (G:List Nat) (w':World):Prop where
 row:Ap w.heap.size w' v pl
 kids:Cc (Rep h w') pl ps G
 nd:(blk v++G).Nodup
set_option maxHeartbeats 1000000 in
set_option maxRecDepth 20000 in
theorem Aeb (d:ByteArray) (B:Nat) (vi:Value) (il:List (ByteArray×ByteArray)) (w:World) (hn:An w B vi (.slice none 0 0) (.slice none 0 0)) (hv:Ak 0 w vi il) (hl:16 < il.length) (d4:il.length<=2000000):
  Calls Tryz.prog 127 #[.agg #[.string d,.pointer (some ⟨B,0,none⟩)]] w fun r w'=>∃v pl G,r= .returned v/\CtQ 0 w (Tr.Dz d.data.toList (Tr.shares (plain il) 16)) v pl G w'/\(∀g∈G,w.heap.size<=g)/\Below w.heap.size w w':=by
 obtain ⟨g,a0,e,hc,-,O,-,-⟩:=hv.at 0 (by omega);subst e;have V:=hid ((Below.refl w.heap.size w).alloc (Nat.le_refl _) (.cells #[.string d,.pointer (some ⟨B,0,none⟩)] 132));have c0:Hid (PtB (w.alloc (.cells #[.string d,.pointer (some ⟨B,0,none⟩)] 132)) w.heap.size d B):=heap_alloc_new _ _;have a3:An (w.alloc (.cells #[.string d,.pointer (some ⟨B,0,none⟩)] 132)) B (.slice (some ⟨g,0,none⟩) il.length a0) (.slice none 0 0) (.slice none 0 0):=(V.out.block B hn.lt).trans hn;obtain ⟨n0,n1,n2,-⟩:=a3.cells;have a4:Ak 0 (w.alloc (.cells #[.string d,.pointer (some ⟨B,0,none⟩)] 132)) (.slice (some ⟨g,0,none⟩) il.length a0) il:=Aa hv V.out (Nat.le_refl _);have a5:=hid (Ae7 g 0 il.length a0 il 16 (w.alloc (.cells #[.string d,.pointer (some ⟨B,0,none⟩)] 132)) rfl hc d4 (by decide) (by decide) (fun j u hj=> by
  have:=World.ownsRow.cells a4 (g:=g) rfl j u hj;rw [Dm] at this;simpa using this) (by simp;omega))
 have D:Hid (w.heap.size < (w.alloc (.cells #[.string d,.pointer (some ⟨B,0,none⟩)] 132)).heap.size):=by show _ < _;simp
 clear a3 a4 hn hv;go_enter Tryz.func127,Tryz.ntmps127;go_wp2_with fail;refine a5.out.mono ?_;clear a5 n0 n1 n2;generalize w.alloc (.cells #[.string d,.pointer (some ⟨B,0,none⟩)] 132)=w0 at*;rintro r w1 ⟨sv,vs,rfl,J,b9⟩;have HQ:=hid J;have W:=hid b9;have H:=Tr.Hx il 16 (by decide);have a6:=hid (Tr.Wa _ il H.2.1);have a7:Hid ((Tr.shares il 16).length<=2000000/\0 < (Tr.shares il 16).length):=by
  unfold Tr.shares;rw [Tr.Jq];exact ⟨by omega,H.2.2 (by omega)⟩
 have c1:Hid (∀l∈Tr.shares il 16,l≠[]):=a6.out;have c2:Hid (Tr.shares (plain il) 16=(Tr.shares il 16).map plain):=Tr.Ah0 _ _ _;clear H a6 J b9;generalize Tr.shares il 16=ls at*;obtain ⟨sa,sc,rfl⟩:=Ab HQ.out.row;have d6:vs.length<=2000000/\0 < vs.length:=by rw [HQ.out.many.n];exact a7.out
 have a8:w0.heap.size<=w1.heap.size:=W.out.size;go_wp2_with fail
 go_loopw [3,13] (fun t3 i wr=>∃(j:Nat) (pl:List (ByteArray×Nat)),i= .int .i64 (j:Nat)/\pl.length=j/\j<=vs.length/\Ap w0.heap.size wr t3 pl/\ShQ w0.heap.size wr (.slice sa vs.length sc) vs ls/\LfM wr w1.heap.size pl vs ls/\Below w0.heap.size w0 wr/\w1.heap.size<=wr.heap.size) (fun _ i _=> vs.length - (intOf i).toNat)
 case atStart=> exact ⟨0,[],rfl,rfl,Nat.zero_le _,World.ownsRow_nil _ _ _ _,HQ.out,⟨by simp,HQ.out.many.n,fun i h=> by simp at h,fun i h=> by simp at h,by simp,fun x h=> by simp at h⟩,W.out,Nat.le_refl _⟩
 case round=>
  obtain ⟨j,pl,rfl,b4,hj,b5,J,b6,L,b7⟩:=hrel;have z:=hid b5;have s:=hid J;have A:=hid b6;have HB:=hid L;have X:=L.size;clear b5 J b6 L;by_cases t:j < vs.length
  ·have c:j < ls.length:=(by rw [<-s.out.many.n];exact t);have a9:=s.out.many.o j t c;have R:0 < (ls[j]'c).length:=by
    have:=c1.out _ (List.getElem_mem c);exact List.length_pos_iff.2 this
   obtain ⟨gj,cj,ej,d9,-,e0,d0,-⟩:=a9.at 0 R;rw [Nat.zero_mul] at d0;obtain ⟨gs,S,es,c8⟩:∃gs S,Value.slice sa vs.length sc= .slice (some ⟨gs,0,none⟩) vs.length S/\wr.cell? ⟨gs,j,none⟩=some (vs[j]'t):=by
    rcases s.out.row.2 with ⟨_,h0⟩ | ⟨gs,S,d2,es,_⟩
    ·omega
    ·have:=World.ownsRow.cells s.out.row (g:=gs) (by rw [es];rfl) j (vs[j]'t) (List.getElem?_eq_getElem t);rw [Dm] at this;exact ⟨gs,S,es,by simpa using this⟩
   simp only [Value.slice.injEq,true_and] at es;obtain ⟨rfl,rfl⟩:=es;have c3:Hid (((ls[j]'c)[0]'R).1.data.toList=Tr.Rf (plain (ls[j]'c))):=by
    show _=_;unfold Tr.Rf plain;rw [List.head?_map,List.head?_eq_getElem?,List.getElem?_eq_getElem R];rfl
   have c4:=hid ej;rw [ej] at c8;generalize (ls[j]'c)[0]'R=it at*;obtain ⟨M,vb⟩:=it;generalize e5:(ls[j]'c).length=lj at*;have b0:=(Below.refl wr.heap.size wr).alloc (Nat.le_refl _) (.cells #[.slice (some ⟨gj,0,none⟩) lj cj,.slice none 0 0,.slice none 0 0] 123);have I:Hid (Below wr.heap.size wr ((wr.alloc (.cells #[.slice (some ⟨gj,0,none⟩) lj cj,.slice none 0 0,.slice none 0 0] 123)).alloc (.cells #[.string M,.pointer (some ⟨wr.heap.size,0,none⟩)] 132))):=b0.alloc (by simp) _;have c5:Hid (An ((wr.alloc (.cells #[.slice (some ⟨gj,0,none⟩) lj cj,.slice none 0 0,.slice none 0 0] 123)).alloc (.cells #[.string M,.pointer (some ⟨wr.heap.size,0,none⟩)] 132)) wr.heap.size (vs[j]'t) (.slice none 0 0) (.slice none 0 0)):=by
    rw [c4.out];exact (Below.heap_alloc _ _ _ (by simp)).trans (heap_alloc_new _ _)
   have c6:Hid (((wr.alloc (.cells #[.slice (some ⟨gj,0,none⟩) lj cj,.slice none 0 0,.slice none 0 0] 123)).alloc (.cells #[.string M,.pointer (some ⟨wr.heap.size,0,none⟩)] 132)).heap[wr.heap.size+1]?=some (.cells #[.string M,.pointer (some ⟨wr.heap.size,0,none⟩)] 132 (0,0))):=by
    have h:(wr.alloc (.cells #[.slice (some ⟨gj,0,none⟩) lj cj,.slice none 0 0,.slice none 0 0] 123)).heap.size=wr.heap.size+1:=(by simp);show _=_;rw [<-h];exact heap_alloc_new _ _
   have d7:Hid (wr.heap.size+2<=((wr.alloc (.cells #[.slice (some ⟨gj,0,none⟩) lj cj,.slice none 0 0,.slice none 0 0] 123)).alloc (.cells #[.string M,.pointer (some ⟨wr.heap.size,0,none⟩)] 132)).heap.size):=(by show _<=_;simp);clear a9 b0;go_wp2_with (generalize (wr.alloc (.cells #[.slice (some ⟨gj,0,none⟩) lj cj,.slice none 0 0,.slice none 0 0] 123)).alloc (.cells #[.string M,.pointer (some ⟨wr.heap.size,0,none⟩)] 132)=w2 at*;at_builtin;refine Nh w2 rfl (.tmp 17) (.tmp 26) 121 132 Tryz.underlying121 _ 2 24 Fi rfl (by decide) (by decide) rfl w0.heap.size u3 pl.length (pcells pl) rfl (Aa z.out I.out (Nat.le_refl _)) ⟨wr.heap.size+1,0,none⟩ 1 1 [.string M,.pointer (some ⟨wr.heap.size,0,none⟩)] rfl rfl (fun j u hj=> by rw [Cw];unfold World.cell?;simp only [c6.out,Nat.zero_add];simpa using hj) (by intro u Z;simp at Z;rcases Z with rfl | rfl <;> rfl) (by omega) (Nat.le_trans X I.out.size) ?_;intro v2 w3 d1 a1 e4)
   have m3:Mod (fun k=> u3.ownBlock=some k) wr w3:=(Mod.of_below (F:=fun _=> False) I.out).trans (Mod.of_grown a1) (fun _ _ q=> q.elim) (fun _ _ q=> q);have HF:Hid (Ap w0.heap.size w3 v2 (pl++[(M,wr.heap.size)])/\ShQ w0.heap.size w3 (.slice (some ⟨gs,0,none⟩) vs.length sc) vs ls/\LfM w3 w1.heap.size (pl++[(M,wr.heap.size)]) vs ls/\Below w0.heap.size w0 w3/\w1.heap.size<=w3.heap.size):=by
    refine ⟨?_,⟨m3.row s.out.row (fun g O a2=> Cn s.out.row z.out (by decide) g O a2),s.out.many.keep m3 (fun u Z k hk d3=> ?_)⟩,?_,?_,Nat.le_trans b7 m3.size⟩
    ·unfold Ap;rw [List.length_append,Cg];exact d1
    ·obtain ⟨i,hi,rfl⟩:=List.getElem_of_mem Z;exact Cn (s.out.many.o i hi (by rw [<-s.out.many.n];exact hi)) z.out (by decide) k hk d3
    ·have c7:=A.out.keep m3 (fun x hx q=> by
      obtain ⟨i,hi,rfl⟩:=List.getElem_of_mem hx;exact Aq (A.out.nod i hi (by have:=A.out.n;omega)) z.out (by decide) q)
     subst b4;refine c7.snoc (M,wr.heap.size) t ((Mod.of_grown a1).nod c5.out (fun q=> ?_)) c3.out (fun y hy=> ?_) b7
     ·have:=(World.ownsRow.lt z.out _ q).2;omega
     ·obtain ⟨i,hi,rfl⟩:=List.getElem_of_mem hy;exact (A.out.nod i hi (by have:=A.out.n;omega)).lt
    ·exact (HB.out.trans (I.out.mono X)).grown a1 (Nat.le_trans X I.out.size) (fun k hk=> (World.ownsRow.lt z.out k hk).1)
   exact ⟨⟨j+1,pl++[(M,wr.heap.size)],by go_num,by simp [b4],by omega,HF.out⟩,by simp [intOf];omega⟩
  ·have d8:j=vs.length:=(by omega);have b1:=s.out.many.n;have h0:0 < pl.length:=(by omega);obtain ⟨N,pc,ep,e1,c9,e2,y0,-⟩:=z.out.at 0 h0;rw [Nat.zero_mul] at y0;have fr:wr.frozen? ⟨N,0,none⟩=false:=by
    rcases z.out.2 with ⟨q,_⟩ | ⟨g',d5,d2,e',_,a2,_⟩
    ·rw [ep] at q;simp at q
    ·rw [ep] at e';simp only [Value.slice.injEq,Option.some.injEq,Addr.mk.injEq,and_true,true_and] at e';obtain ⟨rfl,rfl⟩:=e';simp [World.frozen?,a2]
   obtain ⟨x,f,rfl⟩:∃x f,pl=x::f:=(by cases pl with | nil=> simp at h0 | cons x r=> exact ⟨x,r,rfl⟩);have b2:PtB wr w.heap.size d B:=(HB.out.block w.heap.size D.out).trans c0.out;obtain ⟨e3,-⟩:=b2.cells;clear b2;subst ep;have HF:Hid (∃G,CtQ 0 w (Tr.Dz d.data.toList (Tr.shares (plain il) 16)) (.slice (some ⟨N,0,none⟩) (x::f).length pc) ((d,x.2)::f) G (wr.setCell ⟨N,0,none⟩ (.string d))/\(∀g∈G,w.heap.size<=g)/\Below w.heap.size w (wr.setCell ⟨N,0,none⟩ (.string d))):=by
    have m:=Mod.setCell wr N 0 (.string d);have Y:∀i (h:i < (x::f).length) (T:i < vs.length),An (wr.setCell ⟨N,0,none⟩ (.string d)) ((x::f)[i]'h).2 (vs[i]'T) (.slice none 0 0) (.slice none 0 0):=fun i h T=> m.nod (A.out.nod i h T) (fun q=> Aq (A.out.nod i h T) z.out (by decide) (by rw [q];rfl))
    have b3:∀i (h:i < vs.length) (T:i < ls.length),Ak 0 (wr.setCell ⟨N,0,none⟩ (.string d)) (vs[i]'h) (ls[i]'T):=fun i h T=> m.row (Fx (s.out.many.o i h T)) (fun g O q=> Cn (s.out.many.o i h T) z.out (by decide) g O (by rw [q];rfl))
    have hk:=Abb (w:=wr.setCell ⟨N,0,none⟩ (.string d)) (pl:=x::f) (vs:=vs) (ls:=ls) (by omega) b1 Y b3 A.out.key;have U:∀g∈((x::f).zip vs).flatMap (fun y=> y.1.2::blk y.2),w0.heap.size<=g/\g≠N:=by
     intro g O;obtain ⟨⟨y,u⟩,b8,hq⟩:=List.mem_flatMap.1 O;have hy:=(List.of_mem_zip b8).1;have Z:=(List.of_mem_zip b8).2;rcases List.mem_cons.1 hq with q | q
     ·have q':g=y.2:=q;rw [q'];refine ⟨Nat.le_trans a8 (A.out.low y hy),fun e=> ?_⟩;obtain ⟨i,hi,rfl⟩:=List.getElem_of_mem hy;exact Aq (A.out.nod i hi (by have:=A.out.n;omega)) z.out (by decide) (by rw [e];rfl)
     ·have q':=Af.1 q;refine ⟨(s.out.many.lt Z g q').1,fun e=> ?_⟩;obtain ⟨i,hi,rfl⟩:=List.getElem_of_mem Z;exact Cn (s.out.many.o i hi (by omega)) z.out (by decide) g q' (by rw [e];rfl)
    refine ⟨_,⟨Al (Ap.setKey z.out d) (Nat.le_of_lt D.out),?_,?_⟩,fun g O=> Nat.le_trans (Nat.le_of_lt D.out) (U g O).1,?_⟩
    ·rw [c2.out]
     cases ls with
     | nil=> rw [List.length_nil] at b1;omega
     | cons l0 ls'=>
      obtain ⟨-,G1,G2,k1,k2,k3⟩:=hk;exact ⟨rfl,G1,G2,k1,k2,k3⟩
    ·refine List.nodup_append.2 ⟨Dy _,Xo (C:=w1.heap.size) A.out.inc s.out.many.a A.out.low (fun v hv g O=> (HQ.out.many.lt hv g O).2),fun a ha b hb e=> ?_⟩;have h1:=Af.1 ha;have h2:N=a:=Option.some.inj h1;exact (U b hb).2 (by rw [<-e,<-h2])
    ·exact (V.out.trans (HB.out.mono (Nat.le_of_lt D.out))).setCell (p:=⟨N,0,none⟩) (Nat.le_trans (Nat.le_of_lt D.out) c9) _
   clear z s A HB HQ W;go_wp2_with fail;go_ret;obtain ⟨G,q⟩:=HF.out;exact ⟨_,_,G,rfl,q⟩
def Abc (l:List (ByteArray×Nat)):List UInt8:=(l.head?.map (·.1.data.toList)).getD []
structure BrM (w:World) (B:Nat) (pl:List (ByteArray×Nat)) (vs:List Value) (ls:List (List (ByteArray×Nat))) (vc:Nat->Value):Prop where
 n:pl.length<=vs.length
 m:vs.length=ls.length
 nod:∀i (h:i < pl.length) (h':i < vs.length),An w (pl[i]'h).2 (.slice none 0 0) (vs[i]'(h')) (vc i)
 key:∀i (h:i < pl.length) (h':i < ls.length),(pl[i]'h).1.data.toList=Abc (ls[i]'(h'))
 inc:(pl.map (·.2)).Pairwise (·< ·)
 low:∀x∈pl,B<=x.2
theorem BrM.keep {w w':World} {B:Nat} {pl:List (ByteArray×Nat)} {vs:List Value} {ls:List (List (ByteArray×Nat))} {vc:Nat->Value} (h:BrM w B pl vs ls vc) {F:Nat->Prop} (m:Mod F w w') (b:∀x∈pl,¬F x.2):BrM w' B pl vs ls vc:=
 ⟨h.n,h.m,fun i hi a=> m.nod (h.nod i hi a) (b _ (List.getElem_mem hi)),h.key,h.inc,h.low⟩
theorem BrM.snoc {w:World} {B:Nat} {pl:List (ByteArray×Nat)} {vs:List Value} {ls:List (List (ByteArray×Nat))} {vc:Nat->Value} (h:BrM w B pl vs ls vc) (x:ByteArray×Nat) (g:pl.length < vs.length) (k:An w x.2 (.slice none 0 0) (vs[pl.length]'g) (vc pl.length)) (l:x.1.data.toList=Abc (ls[pl.length]'(by rw [<-h.m];exact g))) (n:∀y∈pl,y.2 < x.2) (o:B<=x.2):BrM w B (pl++[x]) vs ls vc:=by
 refine ⟨by simp;omega,h.m,fun i hi c=> ?_,fun i hi c=> ?_,?_,fun y d=> ?_⟩
 ·by_cases q:i < pl.length
  ·rw [List.getElem_append_left q];exact h.nod i q c
  ·have e:i=pl.length:=(by simp at hi;omega);subst e;simpa using k
 ·by_cases q:i < pl.length
  ·rw [List.getElem_append_left q];exact h.key i q c
  ·have e:i=pl.length:=(by simp at hi;omega);subst e;simpa using l
 ·rw [List.map_append];refine List.pairwise_append.2 ⟨h.inc,by simp,fun a j b f=> ?_⟩;obtain ⟨y,d,rfl⟩:=List.mem_map.1 j;simp at f;subst f;exact n y d
 ·rcases List.mem_append.1 d with q | q
  ·exact h.low y q
  ·simp at q;subst q;exact o
structure BrC (w:World) (B:Nat) (pl:List (ByteArray×Nat)) (vc:Nat->Value) (cs:List (Int×ByteArray×ByteArray)):Prop where
 o:∀i,i < pl.length->Au B w (vc i) (cs.filter (atP pl i))
 a:∀i j,i < pl.length->j < pl.length->i≠j->∀g,(vc i).ownBlock=some g->(vc j).ownBlock≠some g
theorem BrC.next {w w':World} {B:Nat} {pl:List (ByteArray×Nat)} {vc:Nat->Value} {p:List (Int×ByteArray×ByteArray)} (h:BrC w B pl vc p) (n:Nat) (c:Int×ByteArray×ByteArray) (t:Tr.ix (pkeys pl) c.2.1.data.toList=n) (v:Value) (z:Au B w' v (p.filter (atP pl n)++[c])) (u:v.ownBlock=(vc n).ownBlock\/∃k,w.heap.size<=k/\v.ownBlock=some k) (A:∀i,i < pl.length->i≠n->Au B w' (vc i) (p.filter (atP pl i))) (C:n < pl.length):BrC w' B pl (fun i=> if i=n then v else vc i) (p++[c]):=by
 refine ⟨fun i hi=> ?_,fun i j hi m d g f b=> ?_⟩
 ·rw [List.filter_append];by_cases e:i=n
  ·subst e;have:atP pl i c=true:=decide_eq_true t;simp only [if_true,List.filter_cons,this,List.filter_nil];exact z
  ·have:atP pl i c=false:=decide_eq_false (by rw [t];exact fun q=> e q.symm);simp only [e,if_false,List.filter_cons,this,List.filter_nil,List.append_nil,Bool.false_eq_true];exact A i hi e
 ·by_cases s:i=n
  ·subst s;have l:¬j=i:=fun q=> d q.symm
   simp only [if_true,l,if_false] at f b;rcases u with q | ⟨k,r,q⟩
   ·exact h.a i j hi m d g (by rw [<-q];exact f) b
   ·have y:=(World.ownsRow.lt (h.o j m) g b).2;rw [q] at f;have:=Option.some.inj f;omega
  ·by_cases l:j=n
   ·subst l;simp only [s,if_true,if_false] at f b;rcases u with q | ⟨k,r,q⟩
    ·exact h.a i j hi m d g f (by rw [<-q];exact b)
    ·have y:=(World.ownsRow.lt (h.o i hi) g f).2;rw [q] at b;have:=Option.some.inj b;omega
   ·simp only [s,l,if_false] at f b;exact h.a i j hi m d g f b
structure CbQ (w:World) (pl:List (ByteArray×Nat)) (vs:List Value) (ls:List (List (ByteArray×Nat))) (vc:Nat->Value) (ml:List (Int×ByteArray×ByteArray)) (v:Value) (C:Nat) (w':World):Prop where
 len:pl.length=vs.length
 row:Ap w.heap.size w' v pl
 many:Kp w.heap.size w' vs ls
 brm:BrM w' C pl vs ls vc
 brc:BrC w' C pl vc ml
 old:∀u∈vs,∀g,u.ownBlock=some g->g < C
 pv:∀g,v.ownBlock=some g->C<=g
 hC:w.heap.size<=C
 bel:Below w.heap.size w w'
set_option maxHeartbeats 1000000 in
set_option maxRecDepth 20000 in
theorem Aa9 (fb:ByteArray) (R:Nat) (vp vc:Value) (f:List (ByteArray×Nat)) (ml:List (Int×ByteArray×ByteArray)) (w:World) (hn:An w R (.slice none 0 0) vp vc) (hv:Ap 0 w vp f) (a9:Au 0 w vc ml) (hl:4 < f.length) (j9:f.length<=2000000) (l8:ml.length<=2000000):
  Calls Tryz.prog 128 #[.agg #[.string fb,.pointer (some ⟨R,0,none⟩)]] w fun r w'=>∃v pl vs t C,r= .returned v/\CbQ w pl vs (Tr.shares f 4) t ml v C w':=by
 obtain ⟨g,b4,e,hc,-,hg,-,-⟩:=hv.at 0 (by omega);subst e;obtain ⟨ca,cc,rfl⟩:=Ab a9;have b1:=hid ((Below.refl w.heap.size w).alloc (Nat.le_refl _) (.cells #[.string fb,.pointer (some ⟨R,0,none⟩)] 132));have h5:Hid (PtB (w.alloc (.cells #[.string fb,.pointer (some ⟨R,0,none⟩)] 132)) w.heap.size fb R):=heap_alloc_new _ _;have c8:An (w.alloc (.cells #[.string fb,.pointer (some ⟨R,0,none⟩)] 132)) R (.slice none 0 0) (.slice (some ⟨g,0,none⟩) f.length b4) (.slice ca ml.length cc):=(b1.out.block R hn.lt).trans hn;obtain ⟨n0,n1,n2,-⟩:=c8.cells;have e0:Ap 0 (w.alloc (.cells #[.string fb,.pointer (some ⟨R,0,none⟩)] 132)) (.slice (some ⟨g,0,none⟩) f.length b4) f:=Aa hv b1.out (Nat.le_refl _);have e1:=hid (Ae8 g 0 f.length b4 f 4 (w.alloc (.cells #[.string fb,.pointer (some ⟨R,0,none⟩)] 132)) rfl hc j9 (by decide) (by decide) (fun j u hj=> by
  have:=World.ownsRow.cells e0 (g:=g) rfl j u hj;rw [Dm] at this;simpa using this) (by simp;omega))
 have a2:Hid (w.heap.size < (w.alloc (.cells #[.string fb,.pointer (some ⟨R,0,none⟩)] 132)).heap.size):=by show _ < _;simp
 have e2:=hid c8;have h6:Hid (Au 0 (w.alloc (.cells #[.string fb,.pointer (some ⟨R,0,none⟩)] 132)) (.slice ca ml.length cc) ml):=Aa a9 b1.out (Nat.le_refl _);clear c8 e0 hn hv a9;go_enter Tryz.func128,Tryz.ntmps128;go_wp2_with fail;refine e1.out.mono ?_;clear e1 n0 n1 n2;generalize w.alloc (.cells #[.string fb,.pointer (some ⟨R,0,none⟩)] 132)=w0 at*;rintro r G ⟨sv,vs,rfl,a7,g7⟩;have HQ:=hid a7;have e3:=hid g7;have a3:=Tr.Hx f 4 (by decide);have e4:=hid (Tr.Wa _ f a3.2.1);have e5:Hid ((Tr.shares f 4).length<=2000000/\0 < (Tr.shares f 4).length):=by
  unfold Tr.shares;rw [Tr.Jq];exact ⟨by omega,a3.2.2 (by omega)⟩
 have h7:Hid (∀l∈Tr.shares f 4,l≠[]):=e4.out;clear a3 e4 a7 g7;generalize g9:Tr.shares f 4=ls at*;have h8:=hid g9;clear g9;obtain ⟨sa,sc,rfl⟩:=Ab HQ.out.row;have k4:vs.length<=2000000/\0 < vs.length:=by rw [HQ.out.many.n];exact e5.out
 have M:w0.heap.size<=G.heap.size:=e3.out.size;go_wp2_with fail
 go_loopw [3,17] (fun t3 i wr=>∃(j:Nat) (pl:List (ByteArray×Nat)),i= .int .i64 (j:Nat)/\pl.length=j/\j<=vs.length/\Ap G.heap.size wr t3 pl/\ShP w0.heap.size wr (.slice sa vs.length sc) vs ls/\BrM wr G.heap.size pl vs ls (fun _=> .slice none 0 0)/\Below w0.heap.size w0 wr/\G.heap.size<=wr.heap.size) (fun _ i _=> vs.length - (intOf i).toNat)
 case atStart=> exact ⟨0,[],rfl,rfl,Nat.zero_le _,World.ownsRow_nil _ _ _ _,HQ.out,⟨by simp,HQ.out.many.n,fun i h=> by simp at h,fun i h=> by simp at h,by simp,fun x h=> by simp at h⟩,e3.out,Nat.le_refl _⟩
 case round=>
  obtain ⟨j,pl,rfl,d7,hj,a6,a7,g1,D,a8⟩:=hrel;have S:=hid a6;have HS:=hid a7;have HL:=hid g1;have HB:=hid D;have Z:=D.size;clear a6 a7 g1 D;by_cases V:j < vs.length
  ·have A:j < ls.length:=(by rw [<-HS.out.many.n];exact V);have e6:=HS.out.many.o j V A;have N:0 < (ls[j]'A).length:=by
    have:=h7.out _ (List.getElem_mem A);exact List.length_pos_iff.2 this
   obtain ⟨gj,cj,ej,k6,-,k7,d0,-⟩:=e6.at 0 N;rw [Nat.zero_mul] at d0;obtain ⟨gs,b5,es,a9⟩:∃gs b5,Value.slice sa vs.length sc= .slice (some ⟨gs,0,none⟩) vs.length b5/\wr.cell? ⟨gs,j,none⟩=some (vs[j]'V):=by
    rcases HS.out.row.2 with ⟨_,h0⟩ | ⟨gs,b5,l7,es,_⟩
    ·omega
    ·have:=World.ownsRow.cells HS.out.row (g:=gs) (by rw [es];rfl) j (vs[j]'V) (List.getElem?_eq_getElem V);rw [Dm] at this;exact ⟨gs,b5,es,by simpa using this⟩
   simp only [Value.slice.injEq,true_and] at es;obtain ⟨rfl,rfl⟩:=es;have h9:Hid (((ls[j]'A)[0]'N).1.data.toList=Abc (ls[j]'A)):=by
    show _=_;unfold Abc;rw [List.head?_eq_getElem?,List.getElem?_eq_getElem N];rfl
   have i0:=hid ej;rw [ej] at a9;generalize (ls[j]'A)[0]'N=it at*;obtain ⟨kb,vb⟩:=it;generalize j0:(ls[j]'A).length=lj at*;have e7:=(Below.refl wr.heap.size wr).alloc (Nat.le_refl _) (.cells #[.slice none 0 0,.slice (some ⟨gj,0,none⟩) lj cj,.slice none 0 0] 123);have I:Hid (Below wr.heap.size wr ((wr.alloc (.cells #[.slice none 0 0,.slice (some ⟨gj,0,none⟩) lj cj,.slice none 0 0] 123)).alloc (.cells #[.string kb,.pointer (some ⟨wr.heap.size,0,none⟩)] 132))):=e7.alloc (by simp) _;have i1:Hid (An ((wr.alloc (.cells #[.slice none 0 0,.slice (some ⟨gj,0,none⟩) lj cj,.slice none 0 0] 123)).alloc (.cells #[.string kb,.pointer (some ⟨wr.heap.size,0,none⟩)] 132)) wr.heap.size (.slice none 0 0) (vs[j]'V) (.slice none 0 0)):=by
    rw [i0.out];exact (Below.heap_alloc _ _ _ (by simp)).trans (heap_alloc_new _ _)
   have i2:Hid (((wr.alloc (.cells #[.slice none 0 0,.slice (some ⟨gj,0,none⟩) lj cj,.slice none 0 0] 123)).alloc (.cells #[.string kb,.pointer (some ⟨wr.heap.size,0,none⟩)] 132)).heap[wr.heap.size+1]?=some (.cells #[.string kb,.pointer (some ⟨wr.heap.size,0,none⟩)] 132 (0,0))):=by
    have h:(wr.alloc (.cells #[.slice none 0 0,.slice (some ⟨gj,0,none⟩) lj cj,.slice none 0 0] 123)).heap.size=wr.heap.size+1:=(by simp);show _=_;rw [<-h];exact heap_alloc_new _ _
   clear e6 e7;go_wp2_with (generalize (wr.alloc (.cells #[.slice none 0 0,.slice (some ⟨gj,0,none⟩) lj cj,.slice none 0 0] 123)).alloc (.cells #[.string kb,.pointer (some ⟨wr.heap.size,0,none⟩)] 132)=w2 at*;at_builtin;refine Nh w2 rfl (.tmp 21) (.tmp 30) 121 132 Tryz.underlying121 _ 2 24 Fi rfl (by decide) (by decide) rfl G.heap.size u3 pl.length (pcells pl) rfl (Aa S.out I.out (Nat.le_refl _)) ⟨wr.heap.size+1,0,none⟩ 1 1 [.string kb,.pointer (some ⟨wr.heap.size,0,none⟩)] rfl rfl (fun j u hj=> by rw [Cw];unfold World.cell?;simp only [i2.out,Nat.zero_add];simpa using hj) (by intro u hu;simp at hu;rcases hu with rfl | rfl <;> rfl) (by omega) (Nat.le_trans a8 I.out.size) ?_;intro v2 H j6 d9 d6)
   have m3:Mod (fun k=> u3.ownBlock=some k) wr H:=(Mod.of_below (F:=fun _=> False) I.out).trans (Mod.of_grown d9) (fun _ _ q=> q.elim) (fun _ _ q=> q);have HF:Hid (Ap G.heap.size H v2 (pl++[(kb,wr.heap.size)])/\ShP w0.heap.size H (.slice (some ⟨gs,0,none⟩) vs.length sc) vs ls/\BrM H G.heap.size (pl++[(kb,wr.heap.size)]) vs ls (fun _=> .slice none 0 0)/\Below w0.heap.size w0 H/\G.heap.size<=H.heap.size):=by
    refine ⟨?_,⟨m3.row HS.out.row (fun g hg j7=> Cn HS.out.row S.out (by decide) g hg j7),HS.out.many.keep m3 (fun u hu k hk j8=> ?_)⟩,?_,?_,Nat.le_trans a8 m3.size⟩
    ·unfold Ap;rw [List.length_append,Cg];exact j6
    ·have h1:=(HQ.out.many.lt hu k hk).2;have h2:=(World.ownsRow.lt S.out k j8).1;omega
    ·have i3:=HL.out.keep m3 (fun x hx q=> by
      obtain ⟨i,hi,rfl⟩:=List.getElem_of_mem hx;exact Aq (HL.out.nod i hi (by have:=HL.out.n;omega)) S.out (by decide) q)
     subst d7;refine i3.snoc (kb,wr.heap.size) V ((Mod.of_grown d9).nod i1.out (fun q=> ?_)) h9.out (fun y hy=> ?_) a8
     ·have:=(World.ownsRow.lt S.out _ q).2;omega
     ·obtain ⟨i,hi,rfl⟩:=List.getElem_of_mem hy;exact (HL.out.nod i hi (by have:=HL.out.n;omega)).lt
    ·exact (HB.out.trans (I.out.mono Z)).grown d9 (Nat.le_trans Z I.out.size) (fun k hk=> Nat.le_trans M (World.ownsRow.lt S.out k hk).1)
   exact ⟨⟨j+1,pl++[(kb,wr.heap.size)],by go_num,by simp [d7],by omega,HF.out⟩,by simp [intOf];omega⟩
  ·have e8:j=vs.length:=(by omega);subst d7;have e9:=hid e8;have b8:pl.length<=2000000/\0 < pl.length:=(by omega);clear e8;obtain ⟨O,L,j2⟩:=Ab S.out;subst j2;have I:=hid ((Below.refl wr.heap.size wr).alloc (Nat.le_refl _) (.cells #[.slice none 0 0,.slice O pl.length L,.slice none 0 0] 123));have f0:Hid (An (wr.alloc (.cells #[.slice none 0 0,.slice O pl.length L,.slice none 0 0] 123)) wr.heap.size (.slice none 0 0) (.slice O pl.length L) (.slice none 0 0)):=heap_alloc_new _ _;have c9:=hid (HB.out.trans (I.out.mono Z));have d3:PtB (wr.alloc (.cells #[.slice none 0 0,.slice O pl.length L,.slice none 0 0] 123)) w.heap.size fb R:=(c9.out.block w.heap.size a2.out).trans h5.out;obtain ⟨-,k8⟩:=d3.cells;have f1:An (wr.alloc (.cells #[.slice none 0 0,.slice O pl.length L,.slice none 0 0] 123)) R (.slice none 0 0) (.slice (some ⟨g,0,none⟩) f.length b4) (.slice ca ml.length cc):=(c9.out.block R e2.out.lt).trans e2.out;obtain ⟨-,-,k9,-⟩:=f1.cells;clear d3 f1;have d4:Hid (Ap G.heap.size (wr.alloc (.cells #[.slice none 0 0,.slice O pl.length L,.slice none 0 0] 123)) (.slice O pl.length L) pl/\Kp w0.heap.size (wr.alloc (.cells #[.slice none 0 0,.slice O pl.length L,.slice none 0 0] 123)) vs ls/\BrM (wr.alloc (.cells #[.slice none 0 0,.slice O pl.length L,.slice none 0 0] 123)) G.heap.size pl vs ls (fun _=> .slice none 0 0)):=by
    have m:=Mod.of_below (F:=fun _=> False) I.out;exact ⟨m.row S.out (fun _ _ q=> q),HS.out.many.keep m (fun _ _ _ _ q=> q),HL.out.keep m (fun _ _ q=> q)⟩
   have i4:wr.heap.size < (wr.alloc (.cells #[.slice none 0 0,.slice O pl.length L,.slice none 0 0] 123)).heap.size:=f0.out.lt;have f3:Hid (∀x∈pl,x.2 < wr.heap.size):=fun x hx=> by
    obtain ⟨i,hi,rfl⟩:=List.getElem_of_mem hx;exact (HL.out.nod i hi (by have:=HL.out.n;omega)).lt
   clear S HS HL HB I;go_upto_region 9 with fail;generalize wr.alloc (.cells #[.slice none 0 0,.slice O pl.length L,.slice none 0 0] 123)=w2 at*;have k0:G.heap.size<=wr.heap.size:=a8;generalize h3:wr.heap.size=ab at*;have k1:=hid h3;clear h3 Z a8
   go_loopw [41] (fun i wx=>∃(k:Nat) (t:Nat->Value),i= .int .i64 (k:Nat)/\k<=ml.length/\Ap G.heap.size wx (.slice O pl.length L) pl/\Kp w0.heap.size wx vs ls/\BrM wx G.heap.size pl vs ls t/\BrC wx G.heap.size pl t (ml.take k)/\An wx ab (.slice none 0 0) (.slice O pl.length L) (.slice none 0 0)/\Below w0.heap.size w0 wx/\ab < wx.heap.size) (fun i _=> ml.length - (intOf i).toNat)
   case atStart=> exact ⟨0,fun _=> .slice none 0 0,rfl,Nat.zero_le _,d4.out.1,d4.out.2.1,d4.out.2.2,⟨fun i _=> by rw [List.take_zero];exact World.ownsRow_nil _ _ _ _,fun i j _ _ _ g hg=> by simp [Value.ownBlock] at hg⟩,f0.out,c9.out,i4⟩
   case round=>
    obtain ⟨k,t,rfl,hk,a6,b0,c1,c2,c3,D,c4⟩:=hrel;have S:=hid a6;have HM:=hid b0;have HR:=hid c1;have HC:=hid c2;have HA:=hid c3;have HB:=hid D;have Z:=D.size;clear a6 b0 c1 c2 c3 D;by_cases Y:k < ml.length
    ·obtain ⟨gc,k3,e,l0,-,j3,d0,d1,d2⟩:=h6.out.at k Y;simp only [Value.slice.injEq] at e;obtain ⟨rfl,-,rfl⟩:=e;have b2:=fun o=> HB.out.cell (p:=⟨gc,o,none⟩) j3
     have i5:=(b2 _).trans d0;have i6:=(b2 _).trans d1;have i7:=(b2 _).trans d2;clear b2 d0 d1 d2;have i8:Hid (ml.take (k+1)=ml.take k++[ml[k]'Y]):=(by show _=_;rw [List.take_add_one,List.getElem?_eq_getElem Y];rfl);generalize ml[k]'Y=c at*;obtain ⟨ck,d,cx⟩:=c;have J:=hid ((Below.refl wr.heap.size wr).alloc (Nat.le_refl _) (.cells #[.int .i64 ck,.string d,.string cx] 34));have d5:Hid (ChB (wr.alloc (.cells #[.int .i64 ck,.string d,.string cx] 34)) wr.heap.size ck d cx):=heap_alloc_new _ _;have a4:Hid (An (wr.alloc (.cells #[.int .i64 ck,.string d,.string cx] 34)) ab (.slice none 0 0) (.slice O pl.length L) (.slice none 0 0)):=(J.out.block ab c4).trans HA.out;have T:Hid (Ap G.heap.size (wr.alloc (.cells #[.int .i64 ck,.string d,.string cx] 34)) (.slice O pl.length L) pl):=Aa S.out J.out (Nat.le_refl _);have HF:=hid (Jd ab G.heap.size _ _ _ pl d _ a4.out T.out (by omega));have b:Tr.ix (pkeys pl) d.data.toList < pl.length:=by
      have:=Ail (pkeys pl) d.data.toList (by intro q;unfold pkeys at q;rw [List.map_eq_nil_iff] at q;rw [q] at b8;simp at b8);simpa [pkeys] using this
     go_wp2_with fail;refine HF.out.mono ?_;rintro r H ⟨rfl,g8⟩;have b9:=J.out.size;rw [<-g8] at J d5 a4 T b9;clear g8 HF i5 i6 i7;have B:=hid (HR.out.keep (Mod.of_below (F:=fun _=> False) J.out) (fun _ _ q=> q));have a0:=hid (HM.out.keep (Mod.of_below (F:=fun _=> False) J.out) (fun _ _ _ _ q=> q));have s:Hid (∀i,i < pl.length->Au G.heap.size H (t i) ((ml.take k).filter (atP pl i))):=fun i hi=> Aa (HC.out.o i hi) J.out (Nat.le_refl _)
     generalize c7:Tr.ix (pkeys pl) d.data.toList=z at*;have i9:=hid c7;clear c7;obtain ⟨gp,l1,ep,l2,-,l3,-,y1⟩:=T.out.at z b;simp only [Value.slice.injEq] at ep;obtain ⟨rfl,-,rfl⟩:=ep;have W:=B.out.nod z b (by have:=e9.out;omega);obtain ⟨-,-,m2,-,-,f2⟩:=W.cells;have a1:=hid W;have k5:=W.lt;clear W;have f4:Hid (∀i (h:i < pl.length),i≠z->(pl[i]'h).2≠(pl[z]'b).2):=fun i h N q=> by
      have hp:=List.pairwise_iff_getElem.1 B.out.inc;rcases Nat.lt_or_gt_of_ne N with q' | q'
      ·have:=hp i z (by simpa using h) (by simpa using b) q';simp only [List.getElem_map] at this;omega
      ·have:=hp z i (by simpa using b) (by simpa using h) q';simp only [List.getElem_map] at this;omega
     have f5:=hid (B.out.low _ (List.getElem_mem b));generalize h4:(pl[z]'b).2=pi at*;have f6:=hid h4;clear h4;obtain ⟨va,vn,l4,g2⟩:=Ey (s.out z b);have j0:((ml.take k).filter (atP pl z)).length<=2000000:=(by have:=List.length_filter_le (atP pl z) (ml.take k);rw [List.length_take] at this;omega);have U:=hid ((Below.refl H.heap.size H).drew.alloc (Nat.le_refl _) (.cells #[.int .i64 ck,.string d,.string cx] 34));obtain ⟨j4,c5,g3,g4,g5⟩:=info_parts Du;obtain ⟨v5,w5,c6,b6,d8,-,g6⟩:=run_append_own_at (P:=Tryz.prog) (H.drew.alloc (.cells #[.int .i64 ck,.string d,.string cx] 34)) G.heap.size 77 77 34 j4 _ 3 40 Tryz.underlying77 c5 g3 g4 g5 rfl (by decide) (t z) _ _ (Aa (s.out z b) U.out (Nat.le_refl _)) ⟨H.heap.size,0,none⟩ 1 1 [.int .i64 ck,.string d,.string cx] rfl (fun j u hj=> by
      rw [Cw];have h:=heap_alloc_new H.drew (.cells #[.int .i64 ck,.string d,.string cx] 34);unfold World.cell?;simp only [Nat.zero_add];rw [show (H.drew.alloc (.cells #[.int .i64 ck,.string d,.string cx] 34)).heap[H.heap.size]?=_ from h];simpa using hj) (by intro u hu;simp at hu;rcases hu with rfl | rfl | rfl <;> rfl) (by unfold maxLen;omega) (by omega) (by have:=U.out.size;have:=HB.out.size;omega)
     have c0:=hid c6;have m5:Mod (fun q=> (t z).ownBlock=some q) H w5:=(Mod.of_below (F:=fun _=> False) U.out).trans (Mod.of_grown d8) (fun _ _ q=> q.elim) (fun _ _ q=> q);have f7:(t z).ownBlock≠some pi:=Aq a1.out (s.out z b) (by decide);have b3:=m5.nod a1.out f7;obtain ⟨-,-,l5,-,-,l6⟩:=b3.cells;obtain ⟨x5,y5,z5,j5⟩:=Ey b6;have a5:Hid (∃X,Ap G.heap.size (w5.setCell ⟨pi,2,none⟩ v5) (.slice (some ⟨gp,0,none⟩) pl.length L) pl/\Kp w0.heap.size (w5.setCell ⟨pi,2,none⟩ v5) vs ls/\BrM (w5.setCell ⟨pi,2,none⟩ v5) G.heap.size pl vs ls X/\BrC (w5.setCell ⟨pi,2,none⟩ v5) G.heap.size pl X (ml.take (k+1))/\An (w5.setCell ⟨pi,2,none⟩ v5) ab (.slice none 0 0) (.slice (some ⟨gp,0,none⟩) pl.length L) (.slice none 0 0)/\Below w0.heap.size w0 (w5.setCell ⟨pi,2,none⟩ v5)/\ab < (w5.setCell ⟨pi,2,none⟩ v5).heap.size):=by
      have ms:=Mod.setCell w5 pi 2 v5;have m6:Mod (fun q=> q=pi\/(t z).ownBlock=some q) H (w5.setCell ⟨pi,2,none⟩ v5):=m5.trans ms (fun _ _ q=> .inr q) (fun _ _ q=> .inl q);have k2:pi < ab:=(by have:=f3.out _ (List.getElem_mem b);rw [f6.out] at this;exact this);have f8:ab < H.heap.size:=Nat.lt_of_lt_of_le c4 b9;refine ⟨fun i=> if i=z then v5 else t i,m6.row T.out ?_,a0.out.keep m6 ?_,⟨B.out.n,B.out.m,fun i hi b7=> ?_,B.out.key,B.out.inc,B.out.low⟩,?_,m6.nod a4.out ?_,?_,Nat.lt_of_lt_of_le f8 m6.size⟩
      ·rintro q hq (rfl | q')
       ·exact Aq a1.out T.out (by decide) hq
       ·exact Cn T.out (s.out z b) (by decide) q hq q'
      ·rintro u hu q hq (rfl | q')
       ·obtain ⟨i,hi,rfl⟩:=List.getElem_of_mem hu;exact Aq a1.out (a0.out.o i hi (by have:=a0.out.n;omega)) (by decide) hq
       ·obtain ⟨i,hi,rfl⟩:=List.getElem_of_mem hu;exact Cn (a0.out.o i hi (by have:=a0.out.n;omega)) (s.out z b) (by decide) q hq q'
      ·by_cases e:i=z
       ·subst e;simp only [if_true];have:=b3.setc v5;rw [f6.out];exact this
       ·simp only [e,if_false];refine m6.nod (B.out.nod i hi b7) ?_;rintro (q | q)
        ·exact f4.out i hi e q
        ·exact Aq (B.out.nod i hi b7) (s.out z b) (by decide) q
      ·rw [i8.out];refine BrC.next (w:=H) ⟨s.out,HC.out.a⟩ z (ck,d,cx) i9.out v5 ?_ ?_ (fun i hi N=> m6.row (s.out i hi) ?_) b
       ·unfold Au;rw [List.length_append,Lx];exact ms.row b6 (fun q hq e=> Aq b3 b6 (by decide) (by rw [<-e];exact hq))
       ·rcases g6 with q | q
        ·exact .inl q
        ·exact .inr ⟨_,U.out.size,q⟩
       ·rintro q hq (rfl | q')
        ·exact Aq a1.out (s.out i hi) (by decide) hq
        ·exact HC.out.a i z hi b N q hq q'
      ·rintro (q | q)
       ·omega
       ·have:=(World.ownsRow.lt (s.out z b) ab q);exact Aq a4.out (s.out z b) (by decide) q
      ·have d6:=HB.out.trans (J.out.mono Z);have f9:w0.heap.size<=H.heap.size:=d6.size;have g0:Below w0.heap.size w0 w5:=(d6.trans (U.out.mono f9)).grown d8 (Nat.le_trans f9 U.out.size) (fun q hq=> Nat.le_trans M (World.ownsRow.lt (s.out z b) q hq).1);exact g0.setCell (p:=⟨pi,2,none⟩) (Nat.le_trans M f5.out) v5
     rw [g2] at m2 c0;obtain ⟨x0,x1,x2⟩:=d5.out.cells;have d3:wr.heap.size < H.heap.size:=d5.out.lt;clear g2 b6 d8 g6 b3 m5 f7 S HM HR HC HA HB J a4 T B a0 s a1 f4 U c6 c5 g3 g4 g5;subst j5;go_upto_region 12 with fail
     go_region_law (refine Nf _ (by rfl) (.tmp 56) (.tmp 58) _ _ (by rfl) _ _ (by simp [Act.eval]) (by simp [Act.eval]) _ _ c0.out ?_)
     all_goals
      go_wp2_with fail;obtain ⟨X,hF⟩:=a5.out;exact ⟨⟨k+1,X,by go_num,by omega,hF⟩,by simp [intOf];omega⟩
    ·have j1:k=ml.length:=(by omega);subst j1;rw [List.take_length] at HC;have a5:Hid (CbQ w pl vs ls t ml (.slice O pl.length L) G.heap.size wr):=⟨e9.out,Al S.out (Nat.le_trans (Nat.le_of_lt a2.out) M),⟨HM.out.n,fun i hi b7=> Al (HM.out.o i hi b7) (Nat.le_of_lt a2.out),HM.out.a⟩,HR.out,HC.out,fun u hu g hg=> (HQ.out.many.lt hu g hg).2,fun g hg=> (World.ownsRow.lt S.out g hg).1,Nat.le_trans (Nat.le_of_lt a2.out) M,b1.out.trans (HB.out.mono (Nat.le_of_lt a2.out))⟩;clear S HM HR HC HA HB;go_wp2_with fail;go_ret;exact ⟨_,pl,vs,t,G.heap.size,rfl,by rw [h8.out];exact a5.out⟩
theorem Oo {w:World} {g b:Nat} {il:List (ByteArray×Nat)} (h:Ap 0 w (.slice (some ⟨g,0,none⟩) il.length b) il) (i:Nat) (hi:i<=il.length):∀j u,(pcells (il.drop i))[j]?=some u->w.cell? ⟨g,i*2+j,none⟩=some u:=by
 intro j u c;rw [Ni _ _ hi,List.getElem?_drop] at c;have:=World.ownsRow.cells h (g:=g) rfl _ _ c
 rwa [Dm] at this
theorem Aqx:∀w,(Go.zeroValue 132).run Tryz.prog w= .ok (.agg #[.string ⟨#[]⟩,.pointer none]) w:=by
 intro w;obtain ⟨i,hi,a,b,c⟩:=info_parts Fi;simp [Go.zeroValue,typeInfo,hi,a]
theorem Nk (n:Nat):(Builtin.zeroCells (Value.agg #[.string ⟨#[]⟩,.pointer none]).cells n).size=n*2/\∀v∈(Builtin.zeroCells (Value.agg #[.string ⟨#[]⟩,.pointer none]).cells n).toList,v.oneCell'=true:=by
 constructor
 ·rw [size_zeroCells];rfl
 ·intro v a;simp only [Builtin.zeroCells,Array.toList_map,List.mem_map] at a;obtain ⟨i,_,rfl⟩:=a;show ((#[Value.string ⟨#[]⟩,Value.pointer none]:Array Value)[i % 2]!).oneCell'=true;rcases (show i % 2=0\/i % 2=1 by omega) with q | q <;> rw [q] <;> rfl
set_option maxHeartbeats 1000000 in
set_option maxRecDepth 20000 in
theorem Ur (v:Value) (il:List (ByteArray×Nat)) (i:Nat) (w:World) (hi:i < il.length) (h:Ap 0 w v il) (hl:il.length<=20000000):
  Calls Tryz.prog 225 #[v,.int .i64 (i:Nat),.int .i64 ((i:Nat)+1)] w fun r w'=>∃R,r= .returned R/\Ap 0 w' R (il.take i++il.drop (i+1))/\w.grownBy w' v.ownBlock/\R.ownBlock=v.ownBlock:=by
 rcases h.2 with ⟨_,hn⟩ | ⟨g,b,d,rfl,hb,O,hc,I,q,F⟩
 ·omega
 have T:b<=9223372036854775807:=by unfold maxLen at I;omega
 obtain ⟨C,D,a8,p,a9⟩:=info_parts Fi;obtain ⟨H,b0,f⟩:∃H:Addr,(if b=i+1 then some ⟨g,0,none⟩ else some ⟨g,(i+1)*2,none⟩)=some H/\∀j u,(pcells (il.drop (i+1)))[j]?=some u->w.drew.cell? (H.add j)=some u:=by
  by_cases G:b=i+1
  ·refine ⟨⟨g,0,none⟩,if_pos G,fun j u J=> ?_⟩;rw [List.drop_of_length_le (by omega)] at J;simp [pcells] at J
  ·refine ⟨⟨g,(i+1)*2,none⟩,if_neg G,fun j u J=> ?_⟩;rw [Cw];exact Oo h (i+1) (by omega) j u J
 have t:(pcells (il.drop (i+1))).length=(il.length - (i+1))*C.size:=by rw [Ar,List.length_drop,p]
 have c:d.toList.length=b*2:=by simpa using q
 have L:=run_append_room (P:=Tryz.prog) w.drew 121 121 132 C Tryz.underlying121 D g i b d O H (il.length - (i+1)) (b - (i+1)) (pcells (il.drop (i+1))) t f (Ea _) (by omega) (by rw [p,Ar,List.length_drop,q];omega);rw [p] at L;have U:i+(il.length - (i+1))=il.length - 1:=by omega
 have l:(pcells (il.drop (i+1))).length=(il.length - 1 - i)*2:=by rw [Ar,List.length_drop];omega
 have m:(d.toList.take (i*2)++pcells (il.drop (i+1))++d.toList.drop (i*2+(pcells (il.drop (i+1))).length)).length=b*2:=by
  simp only [List.length_append,List.length_take,List.length_drop,l,c];omega
 have n:(d.toList.take (i*2)++pcells (il.drop (i+1))++d.toList.drop (i*2+(pcells (il.drop (i+1))).length)).take ((il.length - 1)*2)=pcells (il.take i++il.drop (i+1)):=by
  rw [List.take_append_of_le_length (by simp only [List.length_append,List.length_take,l,c];omega),List.take_of_length_le (by simp only [List.length_append,List.length_take,l,c];omega),Cg,Gx _ _ (by omega)];rw [<-F,List.take_take];congr 2;omega
 generalize S:d.toList.take (i*2)++pcells (il.drop (i+1))++d.toList.drop (i*2+(pcells (il.drop (i+1))).length)=a at*;have y:=hid (Cy (w:=w.drew) O a);have V:=hid (Bl w.drew g a.toArray);have HM:=hid I;have M:=hid m;have a1:=hid n;have N:=hid L;have z:Hid (∀Z:List Value,Z.length=2->Ap 0 ((w.drew.setRow g a.toArray).setRow g (a.take ((il.length - 1)*2)++(Z++a.drop ((il.length - 1)*2+2))).toArray) (.slice (some ⟨g,0,none⟩) (il.length - 1) b) (il.take i++il.drop (i+1))/\w.grownBy ((w.drew.setRow g a.toArray).setRow g (a.take ((il.length - 1)*2)++(Z++a.drop ((il.length - 1)*2+2))).toArray) (some g)):=by
  intro Z hZ;have A:(il.take i++il.drop (i+1)).length=il.length - 1:=by simp;omega
  constructor
  ·unfold Ap;rw [A];refine Ng (Cy y.out _) (by omega) I ?_ ?_ (by rw [Ar,A])
   ·simp only [List.length_append,List.length_take,List.length_drop,m,hZ];omega
   ·rw [List.take_append_of_le_length (by rw [List.length_take,m];omega),List.take_take,Nat.min_self,n]
  ·have s:=Bl w.drew g a.toArray;have B:=Bl (w.drew.setRow g a.toArray) g (a.take ((il.length - 1)*2)++(Z++a.drop ((il.length - 1)*2+2))).toArray;exact ⟨B.os.trans s.os,B.tape.trans s.tape,B.output.trans s.output,Nat.le_trans s.size B.size,fun k hk o=> (B.block k (Nat.lt_of_lt_of_le hk s.size) o).trans (s.block k hk o)⟩
 clear L S O q F h I hb m n f t c l;have a2:i<=b:=by omega
 have W:(i:Int)<=(b:Int):=by omega
 have a3:i+1<=il.length:=by omega
 have X:(i:Int)+1<=(il.length:Int):=by omega
 have Y:(0:Int)<=(i:Int)+1:=by omega
 have a0:i+1<=b:=by omega
 have o:((i:Int)==(i:Int)+1)=false:=by simp;omega
 go_enter Tryz.func225,Tryz.ntmps225;go_upto_region 5 with fail
 go_region_law (refine Nf _ (by rfl) (.tmp 22) (.tmp 25) _ _ (by rfl) _ _ (by rfl) (by simp [Act.eval];rfl) _ _ N.out ?_)
 all_goals
  have a4:¬b=il.length - 1:=by omega
  have a5:il.length - (il.length - 1)=1:=by omega
  have a6:il.length - 1<=il.length:=by omega
  have a7:il.length<=b:=hc;go_wp2_with (refine Aoq _ (by rfl) (.tmp 31) 121 (by rfl) _ (by rfl) _ _ (Lu _ _ _ 132 (.agg #[.string ⟨#[]⟩,.pointer none]) 2 g ((il.length - 1)*2) 1 (b - (il.length - 1)) a.toArray 132 Tryz.underlying121 Aqx (Nk 1).1 (Nk 1).2 y.out (by have:=M.out;simp;omega)) ?_);go_ret;have hF:=z.out (Builtin.zeroCells #[Value.string ⟨#[]⟩,Value.pointer none] 1).toList (by rw [Array.length_toList,size_zeroCells];rfl);exact ⟨_,rfl,hF.1,hF.2,rfl⟩
def Ms (pl:List (ByteArray×Nat)) (i:Nat) (xl:List (ByteArray×Nat)):List (ByteArray×Nat):=pl.take i++xl++pl.drop (i+1)
theorem Lg (pl:List (ByteArray×Nat)) (i:Nat) (a:List (ByteArray×Nat)) (hi:i < pl.length):(Ms pl i a).length=pl.length - 1+a.length:=by simp [Ms];omega
theorem Qa (pl:List (ByteArray×Nat)) (i:Nat) (a:List (ByteArray×Nat)):pcells (Ms pl i a)=pcells (pl.take i)++pcells a++pcells (pl.drop (i+1)):=by
 unfold Ms;rw [Cg,Cg]
structure Aaa (v:Value) (l:List (ByteArray×Nat)) (w:World) (v':Value) (w':World):Prop where
 o:Ap 0 w' v' l
 g:w.grownBy w' v.ownBlock
 b:v'.ownBlock=v.ownBlock\/∃k,w.heap.size<=k/\v'.ownBlock=some k
theorem Ah1 {w:World} {g a:Nat} {pl:List (ByteArray×Nat)} (h:Ap 0 w (.slice (some ⟨g,0,none⟩) pl.length a) pl) (i:Nat) (hi:i<=pl.length):w.ownsRow 0 132 2 (.slice (some ⟨g,0,none⟩) i a) i (pcells (pl.take i)):=by
 rcases h.2 with ⟨q,_⟩ | ⟨m,f,b,e,j,k,n,l,c,d⟩
 ·simp at q
 ·simp only [Value.slice.injEq,Option.some.injEq,Addr.mk.injEq,and_true,true_and] at e;obtain ⟨rfl,rfl⟩:=e;refine ⟨by rw [Ar,List.length_take];omega,.inr ⟨g,a,b,rfl,j,k,by omega,l,c,?_⟩⟩;rw [Gx _ _ hi,<-d,List.take_take];congr 1;omega
theorem Oq {w:World} {g a:Nat} {pl:List (ByteArray×Nat)} (h:Ap 0 w (.slice (some ⟨g,0,none⟩) pl.length a) pl):∀j u,(pcells pl)[j]?=some u->w.cell? ⟨g,j,none⟩=some u:=by
 intro j u b;have:=Oo h 0 (Nat.zero_le _) j u (by simpa using b);simpa using this
set_option maxHeartbeats 600000 in
set_option maxRecDepth 20000 in
theorem Xp (g b k t:Nat) (pl a:List (ByteArray×Nat)) (i:Nat) (w:World) (hi:i+1=pl.length) (h:Ap 0 w (.slice (some ⟨g,0,none⟩) pl.length b) pl) (A:Ap 0 w (.slice (some ⟨k,0,none⟩) a.length t) a) (H:0 < a.length) (V:pl.length<=20000000) (I:a.length<=20000000):
  Calls Tryz.prog 175 #[.slice (some ⟨g,0,none⟩) pl.length b,.int .i64 (i:Nat),.int .i64 ((i:Nat)+1),.slice (some ⟨k,0,none⟩) a.length t] w fun r w'=>∃z,r= .returned z/\Aaa (.slice (some ⟨g,0,none⟩) pl.length b) (Ms pl i a) w z w':=by
 obtain ⟨T,y,e,U,-,-,-,-⟩:=h.at 0 (by omega);simp only [Value.slice.injEq,Option.some.injEq,Addr.mk.injEq,and_true,true_and] at e;obtain ⟨rfl,rfl⟩:=e;have l:=hid (Ah1 h i (by omega));have m:Hid (∀j u,(pcells a)[j]?=some u->w.cell? ((⟨k,0,none⟩:Addr).add j)=some u):=fun j u G=> by rw [Cw,Nat.zero_add];exact Oq A j u G
 have n:Hid (Ms pl i a=pl.take i++a):=by show _=_;unfold Ms;rw [List.drop_of_length_le (by omega),List.append_nil]
 have o:Hid ((pcells a).length=a.length*2):=Ar a;clear h A;have J:i<=20000000:=by omega
 have L:i<=b:=by omega
 have M:(i:Int)+1<=(b:Int):=by omega
 have N:i+1<=b:=by omega
 have O:((i:Int)==(i:Int)+1)=false:=by simp;omega
 have R:((i:Int)+1==(pl.length:Int))=true:=by simp;omega
 have p:Hid (¬((i:Int)+(a.length:Int)) < (pl.length:Int)):=by show ¬_;omega
 have s:=hid hi;clear hi;go_enter Tryz.func175,Tryz.ntmps175;go_upto_region 6 with (at_builtin;refine Nh w rfl (.tmp 32) (.tmp 33) 121 132 Tryz.underlying121 _ 2 24 Fi rfl (by decide) (by decide) rfl 0 (.slice (some ⟨g,0,none⟩) i b) i (pcells (pl.take i)) rfl l.out ⟨k,0,none⟩ a.length t (pcells a) rfl o.out m.out (Ea a) (by omega) (Nat.zero_le _) ?_;intro v1 F c d f);obtain ⟨C,D,rfl⟩:=Ab c;have B:Hid (Aaa (.slice (some ⟨g,0,none⟩) pl.length b) (Ms pl i a) w (.slice C (i+a.length) D) F):=by
  refine ⟨?_,d,f.imp_right fun q=> ⟨_,Nat.le_refl _,q⟩⟩;rw [n.out];unfold Ap;rw [List.length_append,Cg,List.length_take,show min i pl.length=i by have:=s.out;omega];exact c
 have S:decide ((i:Int)+(a.length:Int) < (pl.length:Int))=false:=decide_eq_false p.out;clear c d f;go_wp2_with fail;go_ret;exact ⟨_,rfl,B.out⟩
end Go.Proofs.YtolgpnaoaodepaaGreat
