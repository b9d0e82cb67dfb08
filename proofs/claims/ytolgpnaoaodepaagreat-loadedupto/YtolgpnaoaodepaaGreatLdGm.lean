import Derived.Test.YtolgpnaoaodepaaGreatWalkAIm
namespace Go.Proofs.YtolgpnaoaodepaaGreat
open Go.RowKit
theorem List.take_succ_eq_append_getElem' {α:Type _} {l:List α} {i:Nat} {a:α} (h:l[i]?=some a):l.take (i+1)=l.take i++[a]:=by
 rw [List.take_add_one,h];rfl
structure FiM (w:World) (n:Int) (q:Nat) (lo hi:ByteArray) (kd:Int) (v1 v2 v3 v4:Value) (cl:List Nat) (pl:List ByteArray) (tl:List TkM) (ps:List (ByteArray×Nat)) (v5 vp:Value) (W:World):Prop where
 tk:TkB W w.heap.size n q lo hi
 nd:Bd W (w.heap.size+1) (.int .i64 kd) v1 v2 v3 v4
 nod:An W q v1 vp v4
 par:Ap (w.heap.size+2) W vp ps
 row:Kb (w.heap.size+2) W v5 tl
 kid:W.ownsRow 0 3 1 v2 cl.length (Bk cl)
 piv:Av 0 W v3 pl
 tks:tl.map (fun x=> (x.1,x.2.2))=(List.zipWith (fun c b=> (c,b)) cl (Ec lo hi pl)).take tl.length
 nods:∀x∈tl,An W x.2.1 (.slice none 0 0) (.slice none 0 0) (.slice none 0 0)/\w.heap.size+2<=x.2.1
 dist:(tl.map (·.2.1)).Nodup
 mod:Mod (fun g=> g=q) w W
 ql:q < w.heap.size
 pnil:ps=[]->vp= .slice none 0 0
theorem FiM.below {w:World} {n:Int} {q:Nat} {lo hi:ByteArray} {kd:Int} {v1 v2 v3 v4:Value} {cl:List Nat} {pl:List ByteArray} {c:List TkM} {d:List (ByteArray×Nat)} {f vp:Value} {W W':World} (h:FiM w n q lo hi kd v1 v2 v3 v4 cl pl c d f vp W) (a:Below W.heap.size W W'):FiM w n q lo hi kd v1 v2 v3 v4 cl pl c d f vp W':=
 ⟨h.tk.keep a,h.nd.keep a,(a.block q h.nod.lt).trans h.nod,Aa h.par a (Nat.le_refl _),Aa h.row a (Nat.le_refl _),Aa h.kid a (Nat.le_refl _),Aa h.piv a (Nat.le_refl _),h.tks,fun x b=> ⟨(a.block _ (h.nods x b).1.lt).trans (h.nods x b).1,(h.nods x b).2⟩,h.dist,h.mod.trans (Mod.of_below (F:=fun _=> False) a) (fun _ _ z=> z) (fun _ _ z=> z.elim),h.ql,h.pnil⟩
theorem Aqi {w:World} {b:Nat} {n:Int} {q:Nat} {lo hi:ByteArray} (h:TkB w b n q lo hi) {v:Value} {B:Nat} {e:TypeId} {s m:Nat} {xs:List Value} (j:w.ownsRow B e s v m xs) (k:e≠154):v.ownBlock≠some b:=by
 intro a;rcases j.2 with ⟨c,_⟩ | ⟨g,d,f,rfl,_,i,_⟩
 ·subst c;cases a
 ·have:g=b:=Option.some.inj a;subst this;unfold TkB at h;rw [i] at h;simp only [Option.some.injEq,Obj.cells.injEq] at h;exact k h.2.1
theorem FiM.part {w:World} {n:Int} {q:Nat} {lo hi:ByteArray} {kd:Int} {v1 v2 v3 v4:Value} {cl:List Nat} {pl:List ByteArray} {l:List TkM} {j:List (ByteArray×Nat)} {m vp:Value} {W W':World} (h:FiM w n q lo hi kd v1 v2 v3 v4 cl pl l j m vp W) (x:ByteArray×Nat) {b:Value} (t:W'.ownsRow (w.heap.size+2) 132 2 b (j.length+1) (pcells j++[.string x.1,.pointer (some ⟨x.2,0,none⟩)])) (D:W.grownBy W' vp.ownBlock):FiM w n q lo hi kd v1 v2 v3 v4 cl pl l (j++[x]) m b (W'.setCell ⟨q,1,none⟩ b):=by
 have c:=Mod.of_grown D;have d:=Mod.setCell W' q 1 b;have u:=h.ql;have f:∀g,vp.ownBlock=some g->w.heap.size+2<=g:=fun g z=> (World.ownsRow.lt h.par g z).1
 have i:An W' q v1 vp v4:=c.nod h.nod (fun z=> Aq h.nod h.par (by decide) z);have o:Kb (w.heap.size+2) W' m l:=c.row h.row (fun g z a=> Cf h.row h.par (by decide) z a);have p:W'.ownsRow 0 3 1 v2 cl.length (Bk cl):=c.row h.kid (fun g z a=> Cf h.kid h.par (by decide) z a);have r:Av 0 W' v3 pl:=c.row h.piv (fun g z a=> Cf h.piv h.par (by decide) z a);refine ⟨(d.block _ ?_ ?_).trans ((c.block _ h.tk.lt ?_).trans h.tk),(d.block _ ?_ ?_).trans ((c.block _ h.nd.lt ?_).trans h.nd),i.setp b,?_,d.row o (fun g z a=> Aq i o (by decide) (by rw [<-a];exact z)),d.row p (fun g z a=> Aq i p (by decide) (by rw [<-a];exact z)),d.row r (fun g z a=> Aq i r (by decide) (by rw [<-a];exact z)),h.tks,?_,h.dist,(h.mod.trans c (fun _ _ z=> z) (fun k F z=> ?_)).trans d (fun _ _ z=> z) (fun _ _ z=> z),h.ql,fun z=> absurd z (by simp)⟩
 ·exact Nat.lt_of_lt_of_le h.tk.lt c.size
 ·exact fun z=> by omega
 ·intro z;have:=f _ z;omega
 ·exact Nat.lt_of_lt_of_le h.nd.lt c.size
 ·exact fun z=> by omega
 ·intro z;have:=f _ z;omega
 ·unfold Ap;rw [List.length_append,Cg];exact d.row t (fun g z a=> Aq i t (by decide) (by rw [<-a];exact z))
 ·intro y C;obtain ⟨s,B⟩:=h.nods y C;refine ⟨d.nod (c.nod s (fun z=> Aq s h.par (by decide) z)) (fun z=> by omega),B⟩
 ·have:=f k z;omega
theorem FiM.snoc {w:World} {n:Int} {q:Nat} {lo hi:ByteArray} {kd:Int} {v1 v2 v3 v4:Value} {cl:List Nat} {pl:List ByteArray} {i:List TkM} {u:List (ByteArray×Nat)} {m vp:Value} {W W':World} (h:FiM w n q lo hi kd v1 v2 v3 v4 cl pl i u m vp W) (x:TkM) (B:An W x.2.1 (.slice none 0 0) (.slice none 0 0) (.slice none 0 0)) (o:w.heap.size+2<=x.2.1) (p:x.2.1∉i.map (·.2.1)) (r:(List.zipWith (fun c b=> (c,b)) cl (Ec lo hi pl))[i.length]?=some (x.1,x.2.2)) {l:Value} (H:W'.ownsRow (w.heap.size+2) 154 4 l (i.length+1) (tcells i++[.int .i64 (x.1:Nat),.pointer (some ⟨x.2.1,0,none⟩),.string x.2.2.1,.string x.2.2.2])) (I:W.grownBy W' m.ownBlock):FiM w n q lo hi kd v1 v2 v3 v4 cl pl (i++[x]) u l vp W':=by
 have d:=Mod.of_grown I;have C:=h.ql;have f:∀g,m.ownBlock=some g->w.heap.size+2<=g:=fun g z=> (World.ownsRow.lt h.row g z).1
 refine ⟨(d.block _ h.tk.lt ?_).trans h.tk,(d.block _ h.nd.lt ?_).trans h.nd,d.nod h.nod (fun z=> Aq h.nod h.row (by decide) z),d.row h.par (fun g z j=> Cf h.par h.row (by decide) z j),?_,d.row h.kid (fun g z j=> Cf h.kid h.row (by decide) z j),d.row h.piv (fun g z j=> Cf h.piv h.row (by decide) z j),?_,?_,?_,h.mod.trans d (fun _ _ z=> z) (fun k J z=> ?_),h.ql,h.pnil⟩
 ·intro z;have:=f _ z;omega
 ·intro z;have:=f _ z;omega
 ·unfold Kb;rw [List.length_append,Afi];exact H
 ·rw [List.map_append,h.tks,List.length_append,List.map_cons,List.map_nil];exact (List.take_succ_eq_append_getElem' r).symm
 ·intro y F;rcases List.mem_append.1 F with z | z
  ·obtain ⟨s,D⟩:=h.nods y z;exact ⟨d.nod s (fun z=> Aq s h.row (by decide) z),D⟩
  ·obtain rfl:=List.mem_singleton.1 z;exact ⟨d.nod B (fun z=> Aq B h.row (by decide) z),o⟩
 ·rw [List.map_append,List.nodup_append];refine ⟨h.dist,by simp,?_⟩;intro a G b t e;rw [List.map_cons,List.map_nil,List.mem_singleton] at t;subst t;subst e;exact p G
 ·have:=f k z;omega
set_option maxHeartbeats 1000000 in
set_option maxRecDepth 20000 in
theorem Anj (n:Int) (q:Nat) (lo hi:ByteArray) (kd:Int) (v1 v2 v3 v4:Value) (cl:List Nat) (pl:List ByteArray) (w:World) (hq:An w q (.slice none 0 0) (.slice none 0 0) (.slice none 0 0)) (h2:w.ownsRow 0 3 1 v2 cl.length (Bk cl)) (h3:Av 0 w v3 pl) (h8:∃a m c,v1= .slice a m c) (h9:∃a m c,v4= .slice a m c) (i0:cl=[]/\pl=[]\/pl.length+1=cl.length) (hl:cl.length<=1000):
  Calls Tryz.prog 136 #[.agg #[.int .i64 n,.pointer (some ⟨q,0,none⟩),.string lo,.string hi],.agg #[.int .i64 kd,v1,v2,v3,v4]] w fun r w'=>∃l v5 vp,r= .returned v5/\l.length=cl.length/\FiM w n q lo hi kd v1 v2 v3 v4 cl pl l (En l) v5 vp w':=by
 obtain ⟨N,O,R,rfl⟩:=h8;obtain ⟨T,U,V,rfl⟩:=h9;obtain ⟨a2,c2,rfl⟩:=Ab h2;obtain ⟨a3,c3,rfl⟩:=Ab h3;have d9:=hq.lt;have b1:Below w.heap.size w (w.alloc (.cells #[.int .i64 n,.pointer (some ⟨q,0,none⟩),.string lo,.string hi] 154)):=(Below.refl _ w).alloc (Nat.le_refl _) _;have s1:TkB (w.alloc (.cells #[.int .i64 n,.pointer (some ⟨q,0,none⟩),.string lo,.string hi] 154)) w.heap.size n q lo hi:=heap_alloc_new _ _;have z1:(w.alloc (.cells #[.int .i64 n,.pointer (some ⟨q,0,none⟩),.string lo,.string hi] 154)).heap.size=w.heap.size+1:=by simp
 go_enter Tryz.func136,Tryz.ntmps136;go_upto_region 1 with fail;generalize w.alloc (.cells #[.int .i64 n,.pointer (some ⟨q,0,none⟩),.string lo,.string hi] 154)=w1 at*;have b2:Below w1.heap.size w1 (w1.alloc (.cells #[.int .i64 kd,.slice N O R,.slice a2 cl.length c2,.slice a3 pl.length c3,.slice T U V] 79)):=(Below.refl _ w1).alloc (Nat.le_refl _) _;have s2:=Bw w1 (.int .i64 kd) (.slice N O R) (.slice a2 cl.length c2) (.slice a3 pl.length c3) (.slice T U V);have z2:(w1.alloc (.cells #[.int .i64 kd,.slice N O R,.slice a2 cl.length c2,.slice a3 pl.length c3,.slice T U V] 79)).heap.size=w1.heap.size+1:=by simp
 rw [z1] at s2;generalize w1.alloc (.cells #[.int .i64 kd,.slice N O R,.slice a2 cl.length c2,.slice a3 pl.length c3,.slice T U V] 79)=w2 at*;have a8:=hid (b1.trans (b2.mono b1.size));have b4:=hid (s1.keep b2);have b5:=hid s2;have a0:Hid (An w2 q (.slice none 0 0) (.slice none 0 0) (.slice none 0 0)):=(a8.out.block q d9).trans hq;have A:Hid (w2.ownsRow 0 3 1 (.slice a2 cl.length c2) cl.length (Bk cl)):=Aa h2 a8.out (Nat.le_refl _);have d3:Hid (Av 0 w2 (.slice a3 pl.length c3) pl):=Aa h3 a8.out (Nat.le_refl _);obtain ⟨t0,t1,t2,t3,-⟩:=b4.out.cells;obtain ⟨n0,n1,n2,n3,n4,-⟩:=b5.out.cells;obtain ⟨q0,q1,q2,g5,g6,g7⟩:=a0.out.cells;have i1:(⟨q,0,none⟩:Addr)≠⟨w.heap.size,1,none⟩:=by simp
 have e0:q≠w.heap.size:=by omega
 have e1:q≠w.heap.size+1:=by omega
 clear b1 b2 s1 s2 z1 z2;have HF:Hid (∀G:World,An G q (.slice N O R) (.slice none 0 0) (.slice T U V)->Mod (fun k=> k=q) w2 G->FiM w n q lo hi kd (.slice N O R) (.slice a2 cl.length c2) (.slice a3 pl.length c3) (.slice T U V) cl pl [] [] (.slice none 0 0) (.slice none 0 0) G):=fun G hn hm=>
  ⟨(hm.block _ b4.out.lt (fun z=> e0 z.symm)).trans b4.out,(hm.block _ b5.out.lt (fun z=> e1 z.symm)).trans b5.out,hn,⟨rfl,.inl ⟨rfl,rfl⟩⟩,⟨rfl,.inl ⟨rfl,rfl⟩⟩,hm.row A.out (fun g z z'=> Aq a0.out A.out (by decide) (by rw [<-z'];exact z)),hm.row d3.out (fun g z z'=> Aq a0.out d3.out (by decide) (by rw [<-z'];exact z)),rfl,(by simp),(by simp),(Mod.of_below (F:=fun _=> False) a8.out).trans hm (fun _ _ z=> z.elim) (fun _ _ z=> z),d9,fun _=> rfl⟩
 have e4:=hid ((a0.out.seti (.slice N O R)).setc (.slice T U V));have e5:=hid ((a0.out.setc (.slice T U V)).seti (.slice N O R));have a5:Hid (Mod (fun k=> k=q) w2 ((w2.setCell ⟨q,0,none⟩ (.slice N O R)).setCell ⟨q,2,none⟩ (.slice T U V))):=(Mod.setCell _ _ _ _).trans (Mod.setCell _ _ _ _) (fun _ _ z=> z) (fun _ _ z=> z);have a6:Hid (Mod (fun k=> k=q) w2 ((w2.setCell ⟨q,2,none⟩ (.slice T U V)).setCell ⟨q,0,none⟩ (.slice N O R))):=(Mod.setCell _ _ _ _).trans (Mod.setCell _ _ _ _) (fun _ _ z=> z) (fun _ _ z=> z)
 go_cut [5] (fun _ G=> FiM w n q lo hi kd (.slice N O R) (.slice a2 cl.length c2) (.slice a3 pl.length c3) (.slice T U V) cl pl [] [] (.slice none 0 0) (.slice none 0 0) G)
 case first=>
  go_region_held3 (fun w'=> w'.cell? ⟨w.heap.size,1,none⟩=some (.pointer (some ⟨q,0,none⟩))/\w'.cell? ⟨w.heap.size+1,1,none⟩=some (.slice N O R)/\w'.cell? ⟨w.heap.size+1,4,none⟩=some (.slice T U V)) (go_keep) (fail)
  all_goals
   go_wp2_with fail;go_meet
   first
    | exact HF.out _ e4.out ⟨a5.out.os,a5.out.tape,a5.out.output,a5.out.size,a5.out.block⟩
    | exact HF.out _ e5.out ⟨a6.out.os,a6.out.tape,a6.out.output,a6.out.size,a6.out.block⟩
 case rest=>
  have HI:=hid hcut;clear HF e4 e5 a5 a6 t0 t1 t2 t3 n0 n1 n2 n3 n4 q0 q1 q2 g5 g6 g7 hcut a8 b4 b5 a0 A d3;obtain ⟨n0,n1,n2,n3,n4,-⟩:=HI.out.nd.cells;go_wp2_with fail
  go_loopw [24,5] (fun i v5 wr=>∃(l:List TkM) (vp:Value),i= .int .i64 l.length/\l.length<=cl.length/\FiM w n q lo hi kd (.slice N O R) (.slice a2 cl.length c2) (.slice a3 pl.length c3) (.slice T U V) cl pl l (En l) v5 vp wr) (fun i _ _=> cl.length - (intOf i).toNat)
  case atStart=> exact ⟨[],_,rfl,Nat.zero_le _,HI.out⟩
  case round=>
   clear n0 n1 n2 n3 n4 HI;obtain ⟨l,vp,rfl,hk,hF⟩:=hrel;have HI:=hid hF;clear hF;obtain ⟨n0,n1,n2,n3,n4,-⟩:=HI.out.nd.cells;obtain ⟨t0,t1,t2,t3,-⟩:=HI.out.tk.cells;have i5:=HI.out.tk.lt;have f7:=HI.out.nd.lt;by_cases Z:l.length < cl.length
   ·obtain ⟨g2,f2,e2,j5,x2⟩:∃g2 f2,Value.slice a2 cl.length c2= .slice (some ⟨g2,0,none⟩) cl.length f2/\g2 < wr.heap.size/\wr.cell? ⟨g2,l.length,none⟩=some (.int .i64 ((cl[l.length]'Z:Nat):Int)):=by
     rcases HI.out.kid.2 with ⟨_,h0⟩ | ⟨gs,h7,k1,es,_,hg,_⟩
     ·omega
     ·have:=World.ownsRow.cells HI.out.kid (g:=gs) (by rw [es];rfl) l.length (.int .i64 ((cl[l.length]'Z:Nat):Int)) (by simp [Bk,Z]);rw [Dm] at this;exact ⟨gs,h7,es,(Array.getElem?_eq_some_iff.1 hg).1,by simpa using this⟩
    simp only [Value.slice.injEq,true_and] at e2;obtain ⟨rfl,rfl⟩:=e2;generalize d8:cl[l.length]'Z=I at*;have i6:pl.length+1=cl.length:=by
     rcases i0 with ⟨z,_⟩ | z
     ·rw [z] at Z;simp at Z
     ·exact z
    have b6:l.length < (Ec lo hi pl).length:=(by rw [Jj];omega);have e6:(List.zipWith (fun c b=> (c,b)) cl (Ec lo hi pl))[l.length]?=some (I,(Ec lo hi pl)[l.length]'b6):=by
     rw [List.getElem?_zipWith,List.getElem?_eq_getElem Z,List.getElem?_eq_getElem b6,d8]
    have e7:=Zj pl lo hi l.length b6;generalize (Ec lo hi pl)[l.length]'b6=bd at*;obtain ⟨f,t⟩:=bd;simp only [Prod.mk.injEq] at e7;obtain ⟨hf,ht⟩:=e7;have f8:=hid e6;have i7:=hid d8;have HF:=hid hf;have e8:=hid ht;clear e6 d8 hf ht;have b7:Hid (Below wr.heap.size wr ((wr.alloc (.cells #[.slice none 0 0,.slice none 0 0,.slice none 0 0] 123)).alloc (.cells #[.int .i64 (I:Nat),.pointer (some ⟨wr.heap.size,0,none⟩),.string lo,.string hi] 154))):=((Below.refl _ wr).alloc (Nat.le_refl _) _).alloc (by simp) _;have d4:Hid (An ((wr.alloc (.cells #[.slice none 0 0,.slice none 0 0,.slice none 0 0] 123)).alloc (.cells #[.int .i64 (I:Nat),.pointer (some ⟨wr.heap.size,0,none⟩),.string lo,.string hi] 154)) wr.heap.size (.slice none 0 0) (.slice none 0 0) (.slice none 0 0)):=(Below.heap_alloc _ _ _ (by simp)).trans (heap_alloc_new _ _);have a9:Hid (TkB ((wr.alloc (.cells #[.slice none 0 0,.slice none 0 0,.slice none 0 0] 123)).alloc (.cells #[.int .i64 (I:Nat),.pointer (some ⟨wr.heap.size,0,none⟩),.string lo,.string hi] 154)) (wr.heap.size+1) (I:Nat) wr.heap.size lo hi):=by
     have h:(wr.alloc (.cells #[.slice none 0 0,.slice none 0 0,.slice none 0 0] 123)).heap.size=wr.heap.size+1:=(by simp);show TkB _ _ _ _ _ _;rw [<-h];exact heap_alloc_new _ _
    have b8:Hid (∀G:World,Below wr.heap.size wr G->FiM w n q lo hi kd (.slice N O R) (.slice (some ⟨g2,0,none⟩) cl.length c2) (.slice a3 pl.length c3) (.slice T U V) cl pl l (En l) u5 vp G):=fun G hb=> HI.out.below hb
    go_upto_if 38 with fail;generalize (wr.alloc (.cells #[.slice none 0 0,.slice none 0 0,.slice none 0 0] 123)).alloc (.cells #[.int .i64 (I:Nat),.pointer (some ⟨wr.heap.size,0,none⟩),.string lo,.string hi] 154)=w3 at*
    go_cut [] (fun G=> Below wr.heap.size wr G/\TkB G (wr.heap.size+1) (I:Nat) wr.heap.size f hi/\An G wr.heap.size (.slice none 0 0) (.slice none 0 0) (.slice none 0 0))
    case first=>
     clear n0 n1 n2 n3 n4 t0 t1 t2 t3;have H:=b8.out w3 b7.out;obtain ⟨n0,n1,n2,n3,n4,-⟩:=H.nd.cells;by_cases h0:0 < l.length
     ·have hj:l.length - 1 < pl.length:=(by omega);obtain ⟨g3,g8,e3,g9,-,h1,x3⟩:=H.piv.at (l.length - 1) hj;simp only [Value.slice.injEq,true_and] at e3;obtain ⟨rfl,rfl⟩:=e3;have b9:f=pl[l.length - 1]'hj:=(by have:=HF.out;rw [dif_pos h0] at this;exact this);rw [<-b9] at x3;clear b9;obtain ⟨y0,y1,y2,y3,yf⟩:=a9.out.cells;have i8:=yf 2;have e9:=a9.out.lt;have HX:Hid (Below wr.heap.size wr (w3.setCell ⟨wr.heap.size+1,2,none⟩ (.string f))/\TkB (w3.setCell ⟨wr.heap.size+1,2,none⟩ (.string f)) (wr.heap.size+1) (I:Nat) wr.heap.size f hi/\An (w3.setCell ⟨wr.heap.size+1,2,none⟩ (.string f)) wr.heap.size (.slice none 0 0) (.slice none 0 0) (.slice none 0 0)):=by
       refine ⟨b7.out.setCell (p:=⟨wr.heap.size+1,2,none⟩) (by simp) _,?_,(Mod.setCell w3 _ _ _).nod d4.out (fun z=> by omega)⟩;have h3:=a9.out;unfold TkB at h3 ⊢;rw [Ad (i:=2) h3];rfl
      have i9:IntKind.i64.wrap ((l.length:Int) - 1)=((l.length - 1:Nat):Int):=(by rw [IntKind.wrap_i64];omega);clear H yf;go_wp2_with fail;go_meet;exact HX.out
     ·have b9:f=lo:=(by have:=HF.out;rw [dif_neg h0] at this;exact this);go_wp2_with fail;go_meet;exact ⟨b7.out,by rw [b9];exact a9.out,d4.out⟩
    case rest=>
     have B:=hid hcut;clear hcut b7 d4 a9 n0 n1 n2 n3 n4 t0 t1 t2 t3;have H:=b8.out _ B.out.1;obtain ⟨n0,n1,n2,n3,n4,-⟩:=H.nd.cells;obtain ⟨t0,t1,t2,t3,-⟩:=H.tk.cells;obtain ⟨y0,y1,y2,y3,yf⟩:=B.out.2.1.cells;have f9:=yf 3;have e9:=B.out.2.1.lt;clear H yf;go_upto_if 50 with fail
     go_cut [] (fun G=> Below wr.heap.size wr G/\TkB G (wr.heap.size+1) (I:Nat) wr.heap.size f t/\An G wr.heap.size (.slice none 0 0) (.slice none 0 0) (.slice none 0 0))
     case first=>
      by_cases h0:l.length < pl.length
      ·have H:=b8.out _ B.out.1;obtain ⟨g3,g8,e3,g9,-,h1,x3⟩:=H.piv.at l.length h0;simp only [Value.slice.injEq,true_and] at e3;obtain ⟨rfl,rfl⟩:=e3;have a7:t=pl[l.length]'h0:=(by have:=e8.out;rw [dif_pos h0] at this;exact this);rw [<-a7] at x3;clear a7 H;have HX:Hid (Below wr.heap.size wr (wc.setCell ⟨wr.heap.size+1,3,none⟩ (.string t))/\TkB (wc.setCell ⟨wr.heap.size+1,3,none⟩ (.string t)) (wr.heap.size+1) (I:Nat) wr.heap.size f t/\An (wc.setCell ⟨wr.heap.size+1,3,none⟩ (.string t)) wr.heap.size (.slice none 0 0) (.slice none 0 0) (.slice none 0 0)):=by
        refine ⟨B.out.1.setCell (p:=⟨wr.heap.size+1,3,none⟩) (by simp) _,?_,(Mod.setCell wc _ _ _).nod B.out.2.2 (fun z=> by omega)⟩;have h3:=B.out.2.1;unfold TkB at h3 ⊢;rw [Ad (i:=3) h3];rfl
       go_wp2_with fail;go_meet;exact HX.out
      ·have a7:t=hi:=(by have:=e8.out;rw [dif_neg h0] at this;exact this);go_wp2_with fail;go_meet;exact ⟨B.out.1,by rw [a7];exact B.out.2.1,B.out.2.2⟩
     case rest=>
      clear B n0 n1 n2 n3 n4 t0 t1 t2 t3 y0 y1 y2 y3 f9 e9;have A:=hid hcut;clear hcut;obtain ⟨y0,y1,y2,y3,-⟩:=A.out.2.1.cells;go_wp2_with fail;refine (Afe _ _ f t _).mono ?_;rintro r Y ⟨rfl,b3⟩;have C:Hid (Below wr.heap.size wr Y/\TkB Y (wr.heap.size+1) (I:Nat) wr.heap.size f t/\An Y wr.heap.size (.slice none 0 0) (.slice none 0 0) (.slice none 0 0)):=⟨A.out.1.trans (b3.mono A.out.1.size),A.out.2.1.keep b3,(b3.block _ A.out.2.2.lt).trans A.out.2.2⟩;clear b3 A y0 y1 y2 y3;go_upto_if 58 with fail;have d5:=b8.out _ C.out.1;obtain ⟨ap,cp,rfl⟩:=Ab d5.par;have J:=hid d5;clear d5;have g0:Hid (wr.heap.size∉l.map (·.2.1)):=fun z=> by
       obtain ⟨y,hy,e⟩:=List.mem_map.1 z;have:=(HI.out.nods y hy).1.lt;omega
      go_cut [] (fun G=>∃M,FiM w n q lo hi kd (.slice N O R) (.slice (some ⟨g2,0,none⟩) cl.length c2) (.slice a3 pl.length c3) (.slice T U V) cl pl l (En (l++[(I,wr.heap.size,f,t)])) u5 M G/\TkB G (wr.heap.size+1) (I:Nat) wr.heap.size f t/\An G wr.heap.size (.slice none 0 0) (.slice none 0 0) (.slice none 0 0))
      case first=>
       have c6:=hid (Ahv l (I,wr.heap.size,f,t));generalize Ld.Br f.data.toList t.data.toList=rm at*;obtain rfl | rfl:rm=true\/rm=false:=by cases rm <;> simp
       ·have c0:Hid (En (l++[(I,wr.heap.size,f,t)])=En l++[(f,wr.heap.size)]):=by
         show _=_;rw [c6.out];rfl
        have ba:=(Below.refl Y.heap.size Y.drew).alloc (Nat.le_refl _) (.cells #[.string f,.pointer (some ⟨wr.heap.size,0,none⟩)] 132);have bd:Below Y.heap.size Y Y.drew:=(Below.refl _ Y).drew;have W:=hid (bd.trans (ba.mono (Nat.le_refl _)));have ca:(Y.drew.alloc (.cells #[.string f,.pointer (some ⟨wr.heap.size,0,none⟩)] 132)).heap[Y.heap.size]?=some (.cells #[.string f,.pointer (some ⟨wr.heap.size,0,none⟩)] 132 (0,0)):=heap_alloc_new Y.drew _;obtain ⟨h4,c9,f3,d0,d1⟩:=info_parts Fi;have f0:Hid ((En l).length<=l.length):=(by show _<=_;unfold En;rw [List.length_map];exact List.length_filter_le _ _);obtain ⟨M,w5,d2,ho,hg,-,-⟩:=run_append_own_at (P:=Tryz.prog) (Y.drew.alloc (.cells #[.string f,.pointer (some ⟨wr.heap.size,0,none⟩)] 132)) (w.heap.size+2) 121 121 132 h4 _ 2 24 Tryz.underlying121 c9 f3 d0 d1 rfl (by decide) (.slice ap (En l).length cp) (En l).length (pcells (En l)) (Aa J.out.par W.out (Nat.le_refl _)) ⟨Y.heap.size,0,none⟩ 1 1 [.string f,.pointer (some ⟨wr.heap.size,0,none⟩)] rfl (fun j u hj=> by rw [Cw];unfold World.cell?;simp only [ca,Nat.zero_add];simpa using hj) (by intro u hu;simp at hu;rcases hu with rfl | rfl <;> rfl) (by have:=f0.out;unfold maxLen;omega) (by have:=f0.out;omega) (by have:=C.out.1.size;simp;omega)
        have X:=hid ((J.out.below W.out).part (f,wr.heap.size) ho hg);have m5:=Mod.of_grown hg;have L:=J.out.below W.out;have d6:Hid (TkB w5 (wr.heap.size+1) (I:Nat) wr.heap.size f t):=(m5.block _ (Nat.lt_of_lt_of_le C.out.2.1.lt W.out.size) (fun z=> Aqi (C.out.2.1.keep W.out) L.par (by decide) z)).trans (C.out.2.1.keep W.out);have b0:An (Y.drew.alloc (.cells #[.string f,.pointer (some ⟨wr.heap.size,0,none⟩)] 132)) wr.heap.size (.slice none 0 0) (.slice none 0 0) (.slice none 0 0):=(W.out.block _ C.out.2.2.lt).trans C.out.2.2;have c5:Hid (An w5 wr.heap.size (.slice none 0 0) (.slice none 0 0) (.slice none 0 0)):=m5.nod b0 (fun z=> Aq b0 L.par (by decide) z);have c7:Hid (TkB (w5.setCell ⟨q,1,none⟩ M) (wr.heap.size+1) (I:Nat) wr.heap.size f t/\An (w5.setCell ⟨q,1,none⟩ M) wr.heap.size (.slice none 0 0) (.slice none 0 0) (.slice none 0 0)):=⟨((Mod.setCell w5 q 1 M).block _ d6.out.lt (fun z=> by omega)).trans d6.out,(Mod.setCell w5 q 1 M).nod c5.out (fun z=> by omega)⟩;have f1:TkB w5 w.heap.size n q lo hi:=(m5.block _ L.tk.lt (fun z=> by have:=(World.ownsRow.lt L.par _ z).1;omega)).trans L.tk;have d7:An w5 q (.slice N O R) (.slice ap (En l).length cp) (.slice T U V):=m5.nod L.nod (fun z=> Aq L.nod L.par (by decide) z);obtain ⟨y0,y1,y2,y3,-⟩:=C.out.2.1.cells;obtain ⟨-,t1,-⟩:=J.out.tk.cells;obtain ⟨-,q1,-⟩:=J.out.nod.cells;obtain ⟨-,j6,-⟩:=f1.cells;obtain ⟨-,j7,j8,-⟩:=d6.out.cells;obtain ⟨-,j9,-,-,i4,-⟩:=d7.cells;have j0:=J.out.tk.lt;have j1:=J.out.nod.lt;have j2:=C.out.2.1.lt;have b3:=d7.lt;have i2:q≠wr.heap.size+1:=(by omega);have c8:=hid d2;have g1:Hid (∃x c,M= .slice x ((En l).length+1) c):=Ab ho;clear ba bd ca c9 f3 d0 d1 d2 ho hg m5 L b0 f1 d7;obtain ⟨xp,xc,rfl⟩:=g1.out;go_wp2_with fail;refine wp_region_held_drew (S:=(fun w':World=> w'.cell? ⟨w.heap.size,1,none⟩=some (.pointer (some ⟨q,0,none⟩))/\w'.cell? ⟨wr.heap.size+1,1,none⟩=some (.pointer (some ⟨wr.heap.size,0,none⟩))/\w'.cell? ⟨wr.heap.size+1,2,none⟩=some (.string f))) (by kernel_rfl) (by go_keep) (fun s=> ?_);refine wpAnyH_take (i:=0) (oi:=?coi1) (v:=?cv1) ?cop1 (by kernel_rfl) (by kernel_rfl) (by kernel_rfl) ?cq1 (Or.inl ⟨?cg1,?cy1⟩) (by assumption) ?cr1
        case cop1=> simp only [List.getElem?_toArray,List.getElem?_cons_zero];rfl
        case cq1=> exact fun _ _ _ h=> h
        case cg1=> rfl
        case cy1=> intro w d;(try dsimp only at d);go_simp;try (with_reducible rfl)
        simp only [Act.put,List.setIfInBounds_toArray,List.set_cons_zero,List.set_cons_succ];refine wpAnyH_take (i:=1) (oi:=?coi2) (v:=?cv2) ?cop2 (by kernel_rfl) (by kernel_rfl) (by kernel_rfl) ?cq2 (Or.inl ⟨?cg2,?cy2⟩) (by assumption) ?cr2
        case cop2=> simp only [List.getElem?_toArray,List.getElem?_cons_zero,List.getElem?_cons_succ];rfl
        case cq2=> exact fun _ _ _ h=> h
        case cg2=> rfl
        case cy2=> intro w d;(try dsimp only at d);go_simp;try (with_reducible rfl)
        simp only [Act.put,List.setIfInBounds_toArray,List.set_cons_zero,List.set_cons_succ];refine wpAnyH_take (i:=2) (oi:=?coi3) (v:=?cv3) ?cop3 (by kernel_rfl) (by kernel_rfl) (by kernel_rfl) ?cq3 (Or.inl ⟨?cg3,?cy3⟩) (by assumption) ?cr3
        case cop3=> simp only [List.getElem?_toArray,List.getElem?_cons_zero,List.getElem?_cons_succ];rfl
        case cq3=> exact fun _ _ _ h=> h
        case cg3=> rfl
        case cy3=> intro w d;(try dsimp only at d);go_simp;try (with_reducible rfl)
        simp only [Act.put,List.setIfInBounds_toArray,List.set_cons_zero,List.set_cons_succ];refine wpAnyH_take (i:=3) (oi:=?coi4) (v:=?cv4) ?cop4 (by kernel_rfl) (by kernel_rfl) (by kernel_rfl) ?cq4 (Or.inl ⟨?cg4,?cy4⟩) (by assumption) ?cr4
        case cop4=> simp only [List.getElem?_toArray,List.getElem?_cons_zero,List.getElem?_cons_succ];rfl
        case cq4=> exact fun _ _ _ h=> h
        case cg4=> rfl
        case cy4=> intro w d;(try dsimp only at d);go_simp;try (with_reducible rfl)
        simp only [Act.put,List.setIfInBounds_toArray,List.set_cons_zero,List.set_cons_succ];refine wpAnyH_take (i:=4) (oi:=?coi5) (v:=?cv5) ?cop5 (by kernel_rfl) (by kernel_rfl) (by kernel_rfl) ?cq5 (Or.inl ⟨?cg5,?cy5⟩) (by assumption) ?cr5
        case cop5=> simp only [List.getElem?_toArray,List.getElem?_cons_zero,List.getElem?_cons_succ];rfl
        case cq5=> exact fun _ _ _ h=> h
        case cg5=> rfl
        case cy5=> intro w d;(try dsimp only at d);go_simp;try (with_reducible rfl)
        simp only [Act.put,List.setIfInBounds_toArray,List.set_cons_zero,List.set_cons_succ];refine wpAnyH_take (i:=5) (oi:=?coi6) (v:=?cv6) ?cop6 (by kernel_rfl) (by kernel_rfl) (by kernel_rfl) ?cq6 (Or.inl ⟨?cg6,?cy6⟩) (by assumption) ?cr6
        case cop6=> simp only [List.getElem?_toArray,List.getElem?_cons_zero,List.getElem?_cons_succ];rfl
        case cq6=> exact fun _ _ _ h=> h
        case cg6=> rfl
        case cy6=> intro w d;(try dsimp only at d);go_simp;try (with_reducible rfl)
        simp only [Act.put,List.setIfInBounds_toArray,List.set_cons_zero,List.set_cons_succ];refine wpAnyH_take (i:=7) (oi:=?coi7) (v:=?cv7) ?cop7 (by kernel_rfl) (by kernel_rfl) (by kernel_rfl) ?cq7 (Or.inl ⟨?cg7,?cy7⟩) (by assumption) ?cr7
        case cop7=> simp only [List.getElem?_toArray,List.getElem?_cons_zero,List.getElem?_cons_succ];rfl
        case cq7=> exact fun _ _ _ h=> h
        case cg7=> rfl
        case cy7=> intro w d;(try dsimp only at d);go_simp;try (with_reducible rfl)
        simp only [Act.put,List.setIfInBounds_toArray,List.set_cons_zero,List.set_cons_succ];refine wpAnyH_take (i:=8) (oi:=?coi8) (v:=?cv8) ?cop8 (by kernel_rfl) (by kernel_rfl) (by kernel_rfl) ?cq8 (Or.inl ⟨?cg8,?cy8⟩) (by assumption) ?cr8
        case cop8=> simp only [List.getElem?_toArray,List.getElem?_cons_zero,List.getElem?_cons_succ];rfl
        case cq8=> exact fun _ _ _ h=> h
        case cg8=> rfl
        case cy8=> intro w d;(try dsimp only at d);go_simp;try (with_reducible rfl)
        simp only [Act.put,List.setIfInBounds_toArray,List.set_cons_zero,List.set_cons_succ];refine wpAnyH_take (i:=9) (oi:=?coi9) (v:=?cv9) ?cop9 (by kernel_rfl) (by kernel_rfl) (by kernel_rfl) ?cq9 (Or.inl ⟨?cg9,?cy9⟩) (by assumption) ?cr9
        case cop9=> simp only [List.getElem?_toArray,List.getElem?_cons_zero,List.getElem?_cons_succ];rfl
        case cq9=> exact fun _ _ _ h=> h
        case cg9=> rfl
        case cy9=> intro w d;(try dsimp only at d);go_simp;try (with_reducible rfl)
        simp only [Act.put,List.setIfInBounds_toArray,List.set_cons_zero,List.set_cons_succ];refine wpAnyH_take (i:=10) (oi:=?coi10) (v:=?cv10) ?cop10 (by kernel_rfl) (by kernel_rfl) (by kernel_rfl) ?cq10 (Or.inl ⟨?cg10,?cy10⟩) (by assumption) ?cr10
        case cop10=> simp only [List.getElem?_toArray,List.getElem?_cons_zero,List.getElem?_cons_succ];rfl
        case cq10=> exact fun _ _ _ h=> h
        case cg10=> rfl
        case cy10=> intro w d;(try dsimp only at d);go_simp;try (with_reducible rfl)
        simp only [Act.put,List.setIfInBounds_toArray,List.set_cons_zero,List.set_cons_succ];refine wpAnyH_take (i:=11) (oi:=?coi11) (v:=?cv11) ?cop11 (by kernel_rfl) (by kernel_rfl) (by kernel_rfl) ?cq11 (Or.inl ⟨?cg11,?cy11⟩) (by assumption) ?cr11
        case cop11=> simp only [List.getElem?_toArray,List.getElem?_cons_zero,List.getElem?_cons_succ];rfl
        case cq11=> exact fun _ _ _ h=> h
        case cg11=> rfl
        case cy11=> intro w d;(try dsimp only at d);go_simp;try (with_reducible rfl)
        simp only [Act.put,List.setIfInBounds_toArray,List.set_cons_zero,List.set_cons_succ];refine wpAnyH_ready (rs:=[6,12]) (by kernel_rfl) (by simp) (AllReadyH.cons (o:=?coi12) ?cop12 (fun K D=> ?csA) (AllReadyH.cons (o:=?coj12) ?coq12 (fun K D=> ?csB) AllReadyH.nil))
        case cop12=> simp only [List.getElem?_toArray,List.getElem?_cons_zero,List.getElem?_cons_succ];rfl
        case coq12=> simp only [List.getElem?_toArray,List.getElem?_cons_zero,List.getElem?_cons_succ];rfl
        case csA=>
         go_simp;refine D.out _ _ (by go_keep) (fun s=> ?_);clear D K;refine wpAnyH_ready (rs:=[12]) (by kernel_rfl) (by simp) (AllReadyH.cons (o:=?coi13) ?cop13 (fun K D=> ?cs13) AllReadyH.nil)
         case cop13=> simp only [List.getElem?_toArray,List.getElem?_cons_zero,List.getElem?_cons_succ];rfl
         go_simp;refine D.out _ _ (by go_keep) (fun s=> ?_);clear D K;refine wpAnyH_ready (rs:=[13]) (by kernel_rfl) (by simp) (AllReadyH.cons (o:=?coi14) ?cop14 (fun K D=> ?cs14) AllReadyH.nil)
         case cop14=> simp only [List.getElem?_toArray,List.getElem?_cons_zero,List.getElem?_cons_succ];rfl
         refine Nf _ (by rfl) (.tmp 65) (.tmp 71) _ _ (by rfl) _ _ (by rfl) (by simp [Act.eval]) _ _ c8.out ?_;refine D.out _ _ (by go_keep) (fun s=> ?_);clear D K;simp only [Act.put,List.setIfInBounds_toArray,List.set_cons_zero,List.set_cons_succ];refine wpAnyH_take (i:=14) (oi:=?coi15) (v:=?cv15) ?cop15 (by kernel_rfl) (by kernel_rfl) (by kernel_rfl) ?cq15 (Or.inl ⟨?cg15,?cy15⟩) (by assumption) ?cr15
         case cop15=> simp only [List.getElem?_toArray,List.getElem?_cons_zero,List.getElem?_cons_succ];rfl
         case cq15=> exact fun _ _ _ h=> h
         case cg15=> rfl
         case cy15=> intro w d;(try dsimp only at d);go_simp;try (with_reducible rfl)
         simp only [Act.put,List.setIfInBounds_toArray,List.set_cons_zero,List.set_cons_succ];refine wpAnyH_take (i:=15) (oi:=?coi16) (v:=?cv16) ?cop16 (by kernel_rfl) (by kernel_rfl) (by kernel_rfl) ?cq16 (Or.inl ⟨?cg16,?cy16⟩) (by assumption) ?cr16
         case cop16=> simp only [List.getElem?_toArray,List.getElem?_cons_zero,List.getElem?_cons_succ];rfl
         case cq16=> exact fun _ _ _ h=> h
         case cg16=> rfl
         case cy16=> intro w d;(try dsimp only at d);go_simp;try (with_reducible rfl)
         simp only [Act.put,List.setIfInBounds_toArray,List.set_cons_zero,List.set_cons_succ];refine wpAnyH_ready (rs:=[16]) (by kernel_rfl) (by simp) (AllReadyH.cons (o:=?coi17) ?cop17 (fun K D=> ?cs17) AllReadyH.nil)
         case cop17=> simp only [List.getElem?_toArray,List.getElem?_cons_zero,List.getElem?_cons_succ];rfl
         go_simp;refine D.out _ _ (by go_keep) (fun s=> ?_);clear D K;refine wpAnyH_done (by kernel_rfl) ?_ _;go_wp2_with fail;go_meet;exact ⟨_,by rw [c0.out];exact X.out,c7.out⟩
        case csB=>
         go_simp;refine D.out _ _ (by go_keep) (fun s=> ?_);clear D K;refine wpAnyH_ready (rs:=[6]) (by kernel_rfl) (by simp) (AllReadyH.cons (o:=?coi18) ?cop18 (fun K D=> ?cs18) AllReadyH.nil)
         case cop18=> simp only [List.getElem?_toArray,List.getElem?_cons_zero,List.getElem?_cons_succ];rfl
         go_simp;refine D.out _ _ (by go_keep) (fun s=> ?_);clear D K;refine wpAnyH_ready (rs:=[13]) (by kernel_rfl) (by simp) (AllReadyH.cons (o:=?coi19) ?cop19 (fun K D=> ?cs19) AllReadyH.nil)
         case cop19=> simp only [List.getElem?_toArray,List.getElem?_cons_zero,List.getElem?_cons_succ];rfl
         refine Nf _ (by rfl) (.tmp 65) (.tmp 71) _ _ (by rfl) _ _ (by rfl) (by simp [Act.eval]) _ _ c8.out ?_;refine D.out _ _ (by go_keep) (fun s=> ?_);clear D K;simp only [Act.put,List.setIfInBounds_toArray,List.set_cons_zero,List.set_cons_succ];refine wpAnyH_take (i:=14) (oi:=?coi20) (v:=?cv20) ?cop20 (by kernel_rfl) (by kernel_rfl) (by kernel_rfl) ?cq20 (Or.inl ⟨?cg20,?cy20⟩) (by assumption) ?cr20
         case cop20=> simp only [List.getElem?_toArray,List.getElem?_cons_zero,List.getElem?_cons_succ];rfl
         case cq20=> exact fun _ _ _ h=> h
         case cg20=> rfl
         case cy20=> intro w d;(try dsimp only at d);go_simp;try (with_reducible rfl)
         simp only [Act.put,List.setIfInBounds_toArray,List.set_cons_zero,List.set_cons_succ];refine wpAnyH_take (i:=15) (oi:=?coi21) (v:=?cv21) ?cop21 (by kernel_rfl) (by kernel_rfl) (by kernel_rfl) ?cq21 (Or.inl ⟨?cg21,?cy21⟩) (by assumption) ?cr21
         case cop21=> simp only [List.getElem?_toArray,List.getElem?_cons_zero,List.getElem?_cons_succ];rfl
         case cq21=> exact fun _ _ _ h=> h
         case cg21=> rfl
         case cy21=> intro w d;(try dsimp only at d);go_simp;try (with_reducible rfl)
         simp only [Act.put,List.setIfInBounds_toArray,List.set_cons_zero,List.set_cons_succ];refine wpAnyH_ready (rs:=[16]) (by kernel_rfl) (by simp) (AllReadyH.cons (o:=?coi22) ?cop22 (fun K D=> ?cs22) AllReadyH.nil)
         case cop22=> simp only [List.getElem?_toArray,List.getElem?_cons_zero,List.getElem?_cons_succ];rfl
         go_simp;refine D.out _ _ (by go_keep) (fun s=> ?_);clear D K;refine wpAnyH_done (by kernel_rfl) ?_ _;go_wp2_with fail;go_meet;exact ⟨_,by rw [c0.out];exact X.out,c7.out⟩
       ·have c0:Hid (En (l++[(I,wr.heap.size,f,t)])=En l):=by
         show _=_;rw [c6.out];exact List.append_nil _
        go_wp2_with fail;go_meet;exact ⟨_,by rw [c0.out];exact J.out,C.out.2⟩
      case rest=>
       obtain ⟨M,f4,f5,f6⟩:=hcut;have X:=hid f4;have c5:=hid f6;obtain ⟨y0,y1,y2,y3,-⟩:=f5.cells;have j3:=X.out.mod.size;have j4:=X.out.nd.lt;have i3:=c5.out.lt;clear f4 f5 f6 C J;go_wp2_with (at_builtin;refine Iw wc rfl (.tmp 75) (.tmp 77) 155 154 Tryz.underlying155 _ 4 48 Abw rfl (by decide) (by decide) rfl (w.heap.size+2) u5 l.length (tcells l) rfl X.out.row [.int .i64 (I:Nat),.pointer (some ⟨wr.heap.size,0,none⟩),.string f,.string t] rfl (by intro u hu;simp at hu;rcases hu with rfl | rfl | rfl | rfl <;> rfl) rfl (by omega) (by omega) ?_;intro v6 w6 h5 h6 k0)
       have g4:=hid (X.out.snoc (I,wr.heap.size,f,t) c5.out f7 g0.out f8.out h5 h6);exact ⟨⟨l++[(I,wr.heap.size,f,t)],M,by simp only [List.length_append,List.length_cons,List.length_nil];go_num,by simp only [List.length_append,List.length_cons,List.length_nil];omega,g4.out⟩,by simp [intOf];omega⟩
   ·have a7:l.length=cl.length:=(by omega);go_wp2_with fail;go_ret;exact ⟨l,u5,vp,rfl,a7,HI.out⟩
namespace Ld
def Ic (L:Nat) (rd:List Nat):List Bool:=(List.range L).map fun n=> decide (n∈rd)
theorem Kc (L:Nat) (rd:List Nat):(Ic L rd).length=L:=by unfold Ic;simp
theorem We (L:Nat) (rd:List Nat) (n:Nat):(Ic L rd)[n]?=some false↔n < L/\n∉rd:=by
 unfold Ic;rw [List.getElem?_map];by_cases h:n < L
 ·rw [List.getElem?_range h];simp [h]
 ·rw [List.getElem?_eq_none (by simpa using h)];simp [h]
theorem Afj (L:Nat) (rd:List Nat) (n:Nat):(Ic L rd).set n true=Ic L (rd++[n]):=by
 unfold Ic;apply List.ext_getElem?;intro i;rw [List.getElem?_set,List.getElem?_map,List.getElem?_map];by_cases h:i < L
 ·rw [List.getElem?_range h];by_cases e:n=i
  ·subst e;simp [h]
  ·have a:¬i=n:=fun q=> e q.symm
   simp [e,a]
 ·rw [List.getElem?_eq_none (by simpa using h)];by_cases e:n=i
  ·subst e;simp [h]
  ·simp [e]
theorem Lev.snoc {P:List (Option Nd)} {t:Tk} {b:Nd} (c:P[t.1]?=some (some b)) (d:okP b t.2.1 t.2.2):∀{ts:List Tk} {rd:List Nat} {a:List Nd},Lev P rd ts a->t.1∉rd++ts.map (·.1)->Lev P rd (ts++[t]) (a++[b])
 | [],rd,[],_,hn=> ⟨⟨by simpa using hn,c,d⟩,trivial⟩
 | x::ts,rd,n::a,h,hn=> ⟨h.1,Lev.snoc c d h.2 (by simpa using hn)⟩
 | [],_,_::_,h,_=> h.elim
 | _::_,_,[],h,_=> h.elim
theorem Lev.mid {P:List (Option Nd)} {t:Tk} {b:List Tk}:∀{a:List Tk} {rd:List Nat} {c:List Nd},Lev P rd (a++t::b) c->∃d,t.1∉rd++a.map (·.1)/\P[t.1]?=some (some d)/\okP d t.2.1 t.2.2
 | [],rd,d::c,h=> ⟨d,by simpa using h.1.1,h.1.2.1,h.1.2.2⟩
 | x::a,rd,n::c,h=> by
  obtain ⟨d,f,g⟩:=Lev.mid (a:=a) h.2;exact ⟨d,by simpa using f,g⟩
 | [],_,[],h=> h.elim
 | _::_,_,[],h=> h.elim
theorem Lev.uniq {P:List (Option Nd)}:∀{ts:List Tk} {rd:List Nat} {b a:List Nd},Lev P rd ts b->Lev P rd ts a->b=a
 | [],_,[],[],_,_=> rfl
 | t::ts,rd,n::b,n'::a,h,h'=> by
  have e:n=n':=by
   have:=h.1.2.1.symm.trans h'.1.2.1;simpa using this
  subst e;rw [Lev.uniq h.2 h'.2]
 | [],_,_::_,_,h,_=> h.elim
 | [],_,[],_::_,_,h=> h.elim
 | _::_,_,[],_,h,_=> h.elim
 | _::_,_,_::_,[],_,h=> h.elim
def lvs (nds:List Nd):Nat:=(nds.filter fun n=> decide (n.1=1)).length
theorem Ank (a:List Nd) (n:Nd):lvs (a++[n])=lvs a+if n.1=1 then 1 else 0:=by
 unfold lvs;rw [List.filter_append,List.length_append];by_cases h:n.1=1 <;> simp [h]
theorem Aqj (a:List Nd):lvs a<=a.length:=List.length_filter_le _ _
theorem Anl (a:List Nd):Afa a↔lvs a=0\/lvs a=a.length:=by
 unfold Afa lvs;constructor
 ·rintro (h | h)
  ·right;rw [List.filter_eq_self.2 (fun n b=> by simpa using h n b)]
  ·left;rw [List.length_eq_zero_iff,List.filter_eq_nil_iff];intro n b;simpa using h n b
 ·rintro (h | h)
  ·right;intro n b;rw [List.length_eq_zero_iff,List.filter_eq_nil_iff] at h;simpa using h n b
  ·left;intro n b;have:=(List.length_filter_eq_length_iff).1 h n b;simpa using this
end Ld
def Fil (B:Nat) (W:World) (x:TkM) (nd:Ld.Nd) (ks:List TkM) (F:List Nat):Prop:=
 ∃v1 vp v4 il ml,An W x.2.1 v1 vp v4/\Ak B W v1 il/\Ap B W vp (En ks)/\Au B W v4 ml/\plain il=Ld.its nd/\plainCh ml=Ld.chs nd/\(nd.1=1->vp= .slice none 0 0/\v4= .slice none 0 0)/\(nd.1=2->v1= .slice none 0 0)/\ks.map tkP=Ld.Hg nd x.2.2.1.data.toList x.2.2.2.data.toList/\F=x.2.1::(blk v1++(blk vp++blk v4))
theorem Fil.keep {B:Nat} {W W':World} {x:TkM} {c:Ld.Nd} {d:List TkM} {F:List Nat} (h:Fil B W x c d F) (b:∀g∈F,W'.heap[g]?=W.heap[g]?):Fil B W' x c d F:=by
 obtain ⟨v1,vp,v4,il,ml,f,i,j,k,l,m,n,o,p,rfl⟩:=h;exact ⟨v1,vp,v4,il,ml,(b _ (List.mem_cons_self ..)).trans f,Bz i fun g a _=> b g (List.mem_cons_of_mem _ (List.mem_append_left _ (Af.2 a))),Bz j fun g a _=> b g (List.mem_cons_of_mem _ (List.mem_append_right _ (List.mem_append_left _ (Af.2 a)))),Bz k fun g a _=> b g (List.mem_cons_of_mem _ (List.mem_append_right _ (List.mem_append_right _ (Af.2 a)))),l,m,n,o,p,rfl⟩
def Fld (B:Nat) (W:World):List TkM->List Ld.Nd->List (List TkM)->List (List Nat)->Prop
 | [],[],[],[]=> True
 | x::tl,nd::nds,ks::kss,F::Fs=> Fil B W x nd ks F/\Fld B W tl nds kss Fs
 | _,_,_,_=> False
theorem Fld.keep {B:Nat} {W W':World}:∀{d:List TkM} {a:List Ld.Nd} {b:List (List TkM)} {Fs:List (List Nat)},Fld B W d a b Fs->(∀g∈Fs.flatten,W'.heap[g]?=W.heap[g]?)->Fld B W' d a b Fs
 | [],[],[],[],_,_=> trivial
 | x::d,nd::a,ks::b,F::Fs,h,hk=> ⟨h.1.keep fun g c=> hk g (by rw [List.flatten_cons];exact List.mem_append_left _ c),Fld.keep h.2 fun g c=> hk g (by rw [List.flatten_cons];exact List.mem_append_right _ c)⟩
 | [],[],[],_::_,h,_=> h.elim
 | [],[],_::_,_,h,_=> h.elim
 | [],_::_,_,_,h,_=> h.elim
 | _::_,[],_,_,h,_=> h.elim
 | _::_,_::_,[],_,h,_=> h.elim
 | _::_,_::_,_::_,[],h,_=> h.elim
theorem Fld.snoc {B:Nat} {W:World} {x:TkM} {d:Ld.Nd} {f:List TkM} {F:List Nat} (g:Fil B W x d f F):∀{c:List TkM} {a:List Ld.Nd} {b:List (List TkM)} {Fs:List (List Nat)},Fld B W c a b Fs->Fld B W (c++[x]) (a++[d]) (b++[f]) (Fs++[F])
 | [],[],[],[],_=> ⟨g,trivial⟩
 | _::_,_::_,_::_,_::_,h=> ⟨h.1,Fld.snoc g h.2⟩
 | [],[],[],_::_,h=> h.elim
 | [],[],_::_,_,h=> h.elim
 | [],_::_,_,_,h=> h.elim
 | _::_,[],_,_,h=> h.elim
 | _::_,_::_,[],_,h=> h.elim
 | _::_,_::_,_::_,[],h=> h.elim
theorem Fld.below {B:Nat} {W:World}:∀{c:List TkM} {a:List Ld.Nd} {b:List (List TkM)} {Fs:List (List Nat)},Fld B W c a b Fs->b.flatten.map tkP=Ld.below (c.map tkP) a
 | [],[],[],[],_=> rfl
 | x::c,nd::a,ks::b,F::Fs,h=> by
  obtain ⟨v1,vp,v4,il,ml,g,i,j,k,l,m,n,o,d,f⟩:=h.1;rw [List.flatten_cons,List.map_append,d,Fld.below h.2];rfl
 | [],[],[],_::_,h=> h.elim
 | [],[],_::_,_,h=> h.elim
 | [],_::_,_,_,h=> h.elim
 | _::_,[],_,_,h=> h.elim
 | _::_,_::_,[],_,h=> h.elim
 | _::_,_::_,_::_,[],h=> h.elim
theorem Anm (kd:Int) (lo hi:List UInt8) (il:List (ByteArray×ByteArray)) (cl:List Nat) (pl:List ByteArray) (ml:List (Int×ByteArray×ByteArray)):Aah lo hi il ml pl=true↔Ld.okP (kd,plain il,cl,lists pl,plainCh ml) lo hi:=by
 unfold Aah Ld.okP Ld.its Ld.chs Ld.pvs plain lists plainCh;simp only [Bool.and_eq_true,List.all_eq_true,Ov,List.mem_map];constructor
 ·rintro ⟨⟨c,d⟩,f⟩;refine ⟨?_,?_,?_⟩
  ·rintro x ⟨y,a,rfl⟩;exact c y a
  ·rintro x ⟨y,a,rfl⟩;exact d y a
  ·rintro x ⟨y,a,rfl⟩;exact f y a
 ·rintro ⟨c,d,f⟩;exact ⟨⟨fun x b=> c _ ⟨x,b,rfl⟩,fun x b=> d _ ⟨x,b,rfl⟩⟩,fun x b=> f _ ⟨x,b,rfl⟩⟩
theorem Ahw {kids:List TkM} {cl:List Nat} {lo hi:ByteArray} {pl:List ByteArray} (kd:Int) (il:List (ByteArray×ByteArray)) (ml:List (Int×ByteArray×ByteArray)) (d:kids.length=cl.length) (h:kids.map (fun x=> (x.1,x.2.2))=(List.zipWith (fun c b=> (c,b)) cl (Ec lo hi pl)).take kids.length):kids.map tkP=Ld.Hg (kd,plain il,cl,lists pl,plainCh ml) lo.data.toList hi.data.toList:=by
 have a:(List.zipWith (fun c b=> (c,b)) cl (Ec lo hi pl)).length<=kids.length:=by rw [List.length_zipWith,d];exact Nat.min_le_left _ _
 rw [List.take_of_length_le a] at h;have e:kids.map tkP=(kids.map (fun x=> (x.1,x.2.2))).map (fun y=> (y.1,y.2.1.data.toList,y.2.2.data.toList)):=by
  rw [List.map_map];rfl
 rw [e,h,List.map_zipWith];unfold Ld.Hg Ld.kds Ld.pvs;rw [<-Ny,List.zipWith_map_right]
theorem Fil.apart {B:Nat} {W:World} {x:TkM} {k:Ld.Nd} {l:List TkM} {F:List Nat} (h:Fil B W x k l F) {m:Nat} {e:TypeId} {s n:Nat} {v:Value} {xs:List Value} (c:W.ownsRow m e s v n xs) (o:e≠123) (p:e≠51) (q:e≠132) (r:e≠34):∀g∈F,v.ownBlock≠some g:=by
 obtain ⟨v1,vp,v4,il,ml,d,f,i,j,-,-,-,-,-,rfl⟩:=h;intro g a b;rcases List.mem_cons.1 a with rfl | a
 ·exact Aq d c o b
 rcases List.mem_append.1 a with a | a
 ·exact Cf c f p b (Af.1 a)
 rcases List.mem_append.1 a with a | a
 ·exact Cf c i q b (Af.1 a)
 ·exact Cf c j r b (Af.1 a)
theorem Fil.lt {B:Nat} {W:World} {x:TkM} {i:Ld.Nd} {j:List TkM} {F:List Nat} (h:Fil B W x i j F):∀g∈F,g < W.heap.size/\(B<=g\/g=x.2.1):=by
 obtain ⟨v1,vp,v4,il,ml,b,c,d,f,-,-,-,-,-,rfl⟩:=h;intro g a;rcases List.mem_cons.1 a with rfl | a
 ·exact ⟨b.lt,.inr rfl⟩
 rcases List.mem_append.1 a with a | a
 ·have:=World.ownsRow.lt c g (Af.1 a);exact ⟨this.2,.inl this.1⟩
 rcases List.mem_append.1 a with a | a
 ·have:=World.ownsRow.lt d g (Af.1 a);exact ⟨this.2,.inl this.1⟩
 ·have:=World.ownsRow.lt f g (Af.1 a);exact ⟨this.2,.inl this.1⟩
theorem Fil.nodup {B:Nat} {W:World} {x:TkM} {m:Ld.Nd} {n:List TkM} {F:List Nat} (h:Fil B W x m n F):F.Nodup:=by
 obtain ⟨v1,vp,v4,il,ml,i,j,k,l,-,-,-,-,-,rfl⟩:=h;have g:∀v:Value,(blk v).Nodup:=fun v=> by unfold blk;cases v.ownBlock <;> simp
 rw [List.nodup_cons];refine ⟨fun c=> ?_,List.nodup_append.2 ⟨g _,List.nodup_append.2 ⟨g _,g _,fun a f b d e=> ?_⟩,fun a f b d e=> ?_⟩⟩
 ·rcases List.mem_append.1 c with c | c
  ·exact Aq i j (by decide) (Af.1 c)
  rcases List.mem_append.1 c with c | c
  ·exact Aq i k (by decide) (Af.1 c)
  ·exact Aq i l (by decide) (Af.1 c)
 ·subst e;exact Cf k l (by decide) (Af.1 f) (Af.1 d)
 ·subst e;rcases List.mem_append.1 d with c | c
  ·exact Cf j k (by decide) (Af.1 f) (Af.1 c)
  ·exact Cf j l (by decide) (Af.1 f) (Af.1 c)
theorem Fld.all {B:Nat} {W:World}:∀{d:List TkM} {b:List Ld.Nd} {c:List (List TkM)} {Fs:List (List Nat)},Fld B W d b c Fs->∀g∈Fs.flatten,∃x∈d,∃f i F,Fil B W x f i F/\g∈F
 | [],[],[],[],_,g,a=> by simp at a
 | x::d,f::b,i::c,F::Fs,h,g,a=> by
  rw [List.flatten_cons] at a;rcases List.mem_append.1 a with a | a
  ·exact ⟨x,List.mem_cons_self ..,f,i,F,h.1,a⟩
  ·obtain ⟨y,j,z⟩:=Fld.all h.2 g a;exact ⟨y,List.mem_cons_of_mem _ j,z⟩
 | [],[],[],_::_,h,_,_=> h.elim
 | [],[],_::_,_,h,_,_=> h.elim
 | [],_::_,_,_,h,_,_=> h.elim
 | _::_,[],_,_,h,_,_=> h.elim
 | _::_,_::_,[],_,h,_,_=> h.elim
 | _::_,_::_,_::_,[],h,_,_=> h.elim
structure RlM (w:World) (vim vre:Value) (iml:List ByteArray) (rd rdl:List Nat) (v:Value) (tl:List TkM) (k:Nat) (nds:List Ld.Nd) (kss:List (List TkM)) (Fs:List (List Nat)) (v5:Value) (W:World):Prop where
 ld:LdM vim vre iml (Ld.Ic iml.length rdl) W
 lev:Ld.Lev (Ag iml) rd ((tl.take k).map tkP) nds
 fld:Fld w.heap.size W (tl.take k) nds kss Fs
 nd:Fs.flatten.Nodup
 row:Kb w.heap.size W v5 kss.flatten
 nods:∀x∈kss.flatten,An W x.2.1 (.slice none 0 0) (.slice none 0 0) (.slice none 0 0)/\w.heap.size<=x.2.1
 dist:(kss.flatten.map (·.2.1)).Nodup
 lvl:Kb 0 W v tl
 low:(∀g,v.ownBlock=some g->g < w.heap.size)/\(∀g,vre.ownBlock=some g->g < w.heap.size)/\∀x∈tl,x.2.1 < w.heap.size
 todo:∀x∈tl.drop k,An W x.2.1 (.slice none 0 0) (.slice none 0 0) (.slice none 0 0)
 tdist:(tl.map (·.2.1)).Nodup
 mod:Mod (fun g=> vre.ownBlock=some g\/g∈(tl.take k).map (·.2.1)) w W
theorem RlM.below {w:World} {c d:Value} {iml:List ByteArray} {rd f:List Nat} {v:Value} {m:List TkM} {k:Nat} {i:List Ld.Nd} {j:List (List TkM)} {Fs:List (List Nat)} {n:Value} {W W':World} (h:RlM w c d iml rd f v m k i j Fs n W) (a:Below W.heap.size W W'):RlM w c d iml rd f v m k i j Fs n W':=
 ⟨h.ld.mod a,h.lev,h.fld.keep (fun g l=> by obtain ⟨x,_,p,q,F,o,l⟩:=h.fld.all g l;exact a.block g (o.lt g l).1),h.nd,Aa h.row a (Nat.le_refl _),fun x b=> ⟨(a.block _ (h.nods x b).1.lt).trans (h.nods x b).1,(h.nods x b).2⟩,h.dist,Aa h.lvl a (Nat.le_refl _),h.low,fun x b=> (a.block _ (h.todo x b).lt).trans (h.todo x b),h.tdist,Ox h.mod (a.mono h.mod.size)⟩
end Go.Proofs.YtolgpnaoaodepaaGreat
