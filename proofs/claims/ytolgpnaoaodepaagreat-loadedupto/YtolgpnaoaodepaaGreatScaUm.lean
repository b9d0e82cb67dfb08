import Derived.Test.YtolgpnaoaodepaaGreatScaLm
import Derived.Test.YtolgpnaoaodepaaGreatTreZRm
namespace Go.Proofs.YtolgpnaoaodepaaGreat
open Go.RowKit
variable {A:List Nat}
def Frm (sb:Nat) (W W':World):Prop:=W.heap.size<=W'.heap.size/\∀g cs T,W.heap[g]?=some (.cells cs T (0,0))->T≠137->g≠sb->W'.heap[g]?=some (.cells cs T (0,0))
theorem Frm.trans {b:Nat} {W W' a:World} (i:Frm b W W') (j:Frm b W' a):Frm b W a:=⟨Nat.le_trans i.1 j.1,fun g c T k d f=> j.2 g c T (i.2 g c T k d f) d f⟩
theorem Frm.below {b:Nat} {W W':World} (h:Below W.heap.size W W'):Frm b W W':=⟨h.size,fun g _ _ a _ _=> (h.block g (Array.getElem?_eq_some_iff.1 a).1).trans a⟩
theorem PlM.frm {w0 W W':World} {b D:Nat} {kv:ByteArray×Nat} {p:Tr.Plc} {N ub:ByteArray} {v:Value} (h:PlM w0 A W b kv p) (d:ScB W D N ub v) (G:Frm D W W'):PlM w0 A W' b kv p:=by
 have i:∀n T,W.heap[b]?=some (.cells n T (0,0))->T=139->W'.heap[b]?=some (.cells n T (0,0)):=fun n T C J=> by
  subst J;refine G.2 b n _ C (by decide) (fun e=> ?_);subst e;unfold ScB at d;rw [C] at d;simp at d
 cases p using Tr.Plc.two with
 | nd f L h' m t=>
  obtain ⟨r,s,p,F,y,z⟩:=h;exact ⟨r,s,p,F,i _ _ y rfl,z⟩
 | ch L f m c n=>
  obtain ⟨r,s,g,o,B,ml,l,y,z,q,H,I⟩:=h;have k:W'.heap[g]?=W.heap[g]?:=(G.2 g l _ q (by decide) (fun e=> by subst e;unfold ScB at d;rw [q] at d;simp at d)).trans q.symm;exact ⟨r,s,g,o,B,ml,l,i _ _ y rfl,z,k.trans q,fun j u M=> (World.cell?_of_block (w:=W) (a:=⟨g,o+j,none⟩) k).trans (H j u M),I⟩
theorem Aiu {w0:World} {f:Nat} {t ub:ByteArray} {P:List Tr.Plc} {v:Value} {K:Nat->ByteArray×Nat} {L:List (Nat×Tr.Plc)} {W:World} (h:ScW w0 A f t ub P v K L W) {b:Nat} {kv:ByteArray×Nat} {p:Tr.Plc} (O:b∉L.map (·.1)) (D:PlM w0 A W b kv p) (R:L.length<=20000000):
  Calls Tryz.prog 186 #[.iface 193 (.pointer (some ⟨f,2,none⟩)),.iface 137 (.pointer (some ⟨b,0,none⟩))] W fun r W'=> r= .returned (.tuple #[])/\ScM w0 A f t ub (p::P) W'/\Frm f W W':=by
 have u:∀x∈L.map (·.1),(fun y=> if y=b then kv else K y) x=K x:=fun x n=> if_neg fun e=> O (by rw [<-e];exact n)
 have F:=h.hp.congr u;obtain ⟨⟨z,B,c⟩,-,-⟩:=D.plb;refine (Ak9 f t ub v _ (L.map (·.1)) b W F ⟨z,B,by show PlB W b (if b=b then kv else K b).1 (if b=b then kv else K b).2 z B;rw [if_pos rfl];exact c⟩ (by rw [List.length_map];exact R) (Ait _)).mono ?_;rintro r W' ⟨rfl,I,J,j,l,m,d⟩;obtain ⟨G,C,H⟩:=Tr.Af6 (·.1) j.symm ((b,p)::L) rfl;subst H;refine ⟨rfl,⟨J,_,G,l,(C.symm.map _).trans ?_,fun x n=> ?_,h.bel.trans (d.below h.bel.size fun k q=> q.elim (fun e=> by rw [e];exact h.sbn) (h.vn k)),h.sbn,fun g a=> ?_⟩,⟨d.size,fun g U T a M N=> (d.block g (Array.getElem?_eq_some_iff.1 a).1 (fun q=> q.elim N (Dd a h.hp.row (fun e=> M e.symm)))).trans a⟩⟩
 ·exact (List.Perm.cons p h.pm)
 ·have i:=C.mem_iff.2 n;rcases List.mem_cons.1 i with e | e
  ·subst e;show PlM w0 A W' b (if b=b then kv else K b) p;rw [if_pos rfl];exact D.keep h.hp.sc h.hp.row fun g a o s=> d.block g a (fun q=> q.elim o s)
  ·have this:(if x.1=b then kv else K x.1)=K x.1:=u x.1 (List.mem_map.2 ⟨x,e,rfl⟩);rw [this];exact (h.pl x e).keep h.hp.sc h.hp.row fun g a o s=> d.block g a (fun q=> q.elim o s)
 ·rcases m with e | ⟨k,S,e⟩
  ·rw [e] at a;exact h.vn g a
  ·rw [e] at a;have:=Option.some.inj a;have:=h.bel.size;omega
theorem Aqa {w0:World} {l:Nat} {H ub:ByteArray} {P:List Tr.Plc} {v:Value} {K:Nat->ByteArray×Nat} {L:List (Nat×Tr.Plc)} {W:World} (h:ScW w0 A l H ub P v K L W) (m:0 < L.length) (X:L.length<=20000000):
  Calls Tryz.prog 131 #[.iface 193 (.pointer (some ⟨l,2,none⟩))] W fun r W'=>∃b p R z j,r= .returned (.iface 137 (.pointer (some ⟨b,0,none⟩)))/\P.Perm (p::R)/\(∀q∈R,¬q.less p)/\ScW w0 A l H ub R z K j W'/\PlM w0 A W' b (K b) p/\Frm l W W':=by
 refine (Amq l H ub v K (L.map (·.1)) W h.hp (by rw [List.length_map];exact m) (by rw [List.length_map];omega) (Ait K)).mono ?_;rintro r W' ⟨b,M,z,rfl,B,d,C,D,F,n,N,O,f⟩;obtain ⟨J,I,t⟩:=Tr.Af6 (·.1) B L rfl
 cases J with
 | nil=> cases t
 | cons y j=>
  simp only [List.map_cons,List.cons.injEq] at t;obtain ⟨o,rfl⟩:=t;obtain ⟨u,p⟩:=y;have o:u=b:=o;subst o;have a:∀x∈(u,p)::j,PlM w0 A W' x.1 (K x.1) x.2:=fun x c=> (h.pl x (I.mem_iff.2 c)).keep h.hp.sc h.hp.row F
  have s:Below w0.heap.size W W':=⟨N,O,f,n,fun k G=> F k (Nat.lt_of_lt_of_le G h.bel.size) (fun e=> by have:=h.sbn;omega) (fun e=> by have:=h.vn k e;omega)⟩;refine ⟨u,p,j.map (·.2),z,j,rfl,h.pm.symm.trans (I.map _),fun q S=> ?_,⟨C,List.Perm.refl _,fun x c=> a x (List.mem_cons_of_mem _ c),h.bel.trans s,h.sbn,fun g i=> h.vn g (by rw [<-D];exact i)⟩,a _ (List.mem_cons_self ..),⟨n,fun g V T i U n=> (F g (Array.getElem?_eq_some_iff.1 i).1 n (Dd i h.hp.row (fun e=> U e.symm))).trans i⟩⟩;obtain ⟨x,c,rfl⟩:=List.mem_map.1 S;rw [Ap5 (a x (List.mem_cons_of_mem _ c)) (a _ (List.mem_cons_self ..))];exact d x.1 (List.mem_map.2 ⟨x,c,rfl⟩)
theorem ScW.len {w0:World} {a:Nat} {b ub:ByteArray} {P:List Tr.Plc} {v:Value} {K:Nat->ByteArray×Nat} {L:List (Nat×Tr.Plc)} {W:World} (h:ScW w0 A a b ub P v K L W):L.length=P.length:=by
 have:=h.pm.length_eq;rw [List.length_map] at this;exact this
theorem ScW.lt {w0:World} {d:Nat} {f ub:ByteArray} {P:List Tr.Plc} {v:Value} {K:Nat->ByteArray×Nat} {L:List (Nat×Tr.Plc)} {W:World} (h:ScW w0 A d f ub P v K L W):∀b∈L.map (·.1),b < W.heap.size:=fun b a=> by
 obtain ⟨u,c,q⟩:=h.hp.pl b a;exact q.lt
def Aqb (A:List Nat) (W:World) (v:Value) (ml:List (Int×ByteArray×ByteArray)):Prop:=(ml=[]/\∃a c,v= .slice a 0 c)\/(ml≠[]/\∃g o cap cur,v= .slice (some ⟨g,o,none⟩) ml.length cap/\ml.length<=cap/\W.heap[g]?=some (.cells cur 34 (0,0))/\g∉A/\∀j u,(ccells ml)[j]?=some u->W.cell? ⟨g,o+j,none⟩=some u)
set_option maxHeartbeats 1000000 in
set_option maxRecDepth 4000 in
theorem Af7 {w0:World} {C:Nat} {U ub:ByteArray} {P:List Tr.Plc} {W:World} (h:ScM w0 A C U ub P W) (n:Nat) (f:Tr.Key) (m:Option Tr.Key) (v:Value) (ml:List (Int×ByteArray×ByteArray)) (Z:Aqb A W v ml) (hl:P.length<=18000000) (hm:ml.length<=1000):
  Calls Tryz.prog 132 #[.pointer (some ⟨C,0,none⟩),.int .i64 (n:Nat),v] W fun r W'=> r= .returned (.tuple #[])/\ScM w0 A C U ub (Tr.lay n f m (plainCh ml)++P) W'/\Frm C W W':=by
 rcases Z with ⟨rfl,a,c,rfl⟩ | ⟨M,g,o,k,N,rfl,z,B,X,s⟩
 ·have H:=hid h;go_enter Tryz.func132,Tryz.ntmps132;go_wp2_with fail;go_end0;exact ⟨rfl,H.out,Nat.le_refl _,fun _ _ _ B _ _=> B⟩
 ·obtain ⟨c,i,rfl⟩:∃c i,ml=c::i:=by cases ml with
   | nil=> exact absurd rfl M
   | cons c i=> exact ⟨c,i,rfl⟩
  obtain ⟨S,d,T⟩:=c;obtain ⟨v0,K,L,D⟩:=h;have k1:W.cell? ⟨g,o+1,none⟩=some (.string d):=s 1 _ rfl;have O:Below W.heap.size W (W.alloc (.cells #[.string d,.int .i64 (n:Nat),.pointer none,.slice (some ⟨g,o,none⟩) (i.length+1) k] 139)):=(Below.refl _ W).alloc (Nat.le_refl _) _;have l:Below W.heap.size W (W.alloc (.cells #[.string d,.int .i64 (n:Nat),.pointer none,.slice (some ⟨g,o,none⟩) (i.length+1) k] 139)).drew:=O.drew;have p:=l.block g (Array.getElem?_eq_some_iff.1 B).1;have R:PlM w0 A (W.alloc (.cells #[.string d,.int .i64 (n:Nat),.pointer none,.slice (some ⟨g,o,none⟩) (i.length+1) k] 139)).drew W.heap.size (d,n) (.ch n f m (S,d.data.toList,T.data.toList) (plainCh i)):=
   ⟨rfl,rfl,g,o,k,(S,d,T)::i,N,heap_alloc_new _ _,rfl,p.trans B,fun j u Y=> (World.cell?_of_block (w:=W) (a:=⟨g,o+j,none⟩) p).trans (s j u Y),z,X,hm⟩
  have F:=hid (Aiu (D.below l) (b:=W.heap.size) (fun q=> by have:=D.lt _ q;omega) R (by rw [D.len];omega));have V:(0:Int) < (i.length:Int)+1:=by omega
  have G:Hid (Frm C W (W.alloc (.cells #[.string d,.int .i64 (n:Nat),.pointer none,.slice (some ⟨g,o,none⟩) (i.length+1) k] 139)).drew):=Frm.below l;clear D R O l p s B;go_enter Tryz.func132,Tryz.ntmps132;go_upto_region 1 with fail
  go_region_law (go_simp;go_at_call 186;refine F.out.mono ?_;rintro r w3 ⟨rfl,t,y⟩;have I:=hid t;have J:=hid (G.out.trans y);clear t y)
  all_goals
   go_wp2_with fail;go_end0;exact ⟨rfl,I.out,J.out⟩
variable {A:List Nat}
theorem ScM.perm {w0:World} {b:Nat} {c ub:ByteArray} {P Q:List Tr.Plc} {W:World} (h:ScM w0 A b c ub P W) (d:P.Perm Q):ScM w0 A b c ub Q W:=by
 obtain ⟨v,K,L,a⟩:=h;exact ⟨v,K,L,a.hp,a.pm.trans d,a.pl,a.bel,a.sbn,a.vn⟩
theorem ScM.below {w0:World} {a:Nat} {b ub:ByteArray} {P:List Tr.Plc} {W W':World} (h:ScM w0 A a b ub P W) (d:Below W.heap.size W W'):ScM w0 A a b ub P W':=by
 obtain ⟨v,K,L,c⟩:=h;exact ⟨v,K,L,c.below d⟩
theorem ScM.bel {w0:World} {b:Nat} {c ub:ByteArray} {P:List Tr.Plc} {W:World} (h:ScM w0 A b c ub P W):Below w0.heap.size w0 W:=by obtain ⟨v,K,L,a⟩:=h;exact a.bel
theorem ScM.sc {w0:World} {a:Nat} {b ub:ByteArray} {P:List Tr.Plc} {W:World} (h:ScM w0 A a b ub P W):∃v,ScB W a b ub v:=by obtain ⟨v,K,L,c⟩:=h;exact ⟨v,c.hp.sc⟩
theorem Aqc {B:Nat} {W:World} {v:Value} {ml:List (Int×ByteArray×ByteArray)} (h:Au B W v ml) (o:∀a∈A,a < B):Aqb A W v ml:=by
 cases ml with
 | nil=> obtain ⟨a,c,e⟩:=Ab h;exact .inl ⟨rfl,a,c,e⟩
 | cons c r=>
  rcases h.2 with ⟨_,f⟩ | ⟨g,b,d,e,p,i,k,s,l,m⟩
  ·simp at f
  ·refine .inr ⟨by simp,g,0,b,d,e,k,i,fun q=> by have:=o g q;omega,fun j u n=> ?_⟩;have:=World.ownsRow.cells h (g:=g) (by rw [e];rfl) j u n;rw [Dm] at this;simpa using this
theorem Abs {w0:World} {g:Nat} {d ub:ByteArray} {P:List Tr.Plc} {W:World} (h:ScM w0 A g d ub P W) {p:Nat} {n vp vc:Value} {il:List (ByteArray×ByteArray)} {ml:List (Int×ByteArray×ByteArray)} (t:An w0 p n vp vc) (hi:Ak 0 w0 n il) (B:Au 0 w0 vc ml) (C:il.length+ml.length<=19) (o:Nat) (f:Tr.Key) (m:Option Tr.Key) (D:P.length<=18000000) (F:∀a∈A,a < W.heap.size):
  Calls Tryz.prog 187 #[.pointer (some ⟨p,0,none⟩),.string d] W fun r j=>∃v,r= .returned v/\Below W.heap.size W j/\Calls Tryz.prog 132 #[.pointer (some ⟨g,0,none⟩),.int .i64 (o:Nat),v] j fun r l=> r= .returned (.tuple #[])/\∃s,Tr.Scd d.data.toList (plainCh (il.map Jz++ml)) s/\ScM w0 A g d ub (Tr.lay o f m s++P) l/\Frm g W l:=by
 have i:=h.bel;refine (Vu p n vp vc il ml d W ((i.block p t.lt).trans t) (Aa hi i (Nat.le_refl _)) (Aa B i (Nat.le_refl _)) C).mono ?_;rintro r j ⟨v,k,rfl,u,q,b⟩;refine ⟨v,rfl,b,?_⟩;have c:=q.len;rw [Ao,Ao,List.length_append,List.length_map] at c;refine (Af7 (h.below b) o f m v k (Aqc u F) D (by omega)).mono ?_;rintro r l ⟨rfl,y,z⟩;exact ⟨rfl,_,q,y,(Frm.below b).trans z⟩
theorem Ap6 {w0 W:World} {b:Nat} {kv:ByteArray×Nat} {f:Tr.Key} {L:Nat} {m:Option Tr.Key} {t:Tr.Ac 0} (h:PlM w0 A W b kv (.nd f L 0 m t)) (c:Tr.Top 0 t):∃p d il,PlB W b kv.1 L (some ⟨p,0,none⟩) (.slice none 0 0)/\An w0 p d (.slice none 0 0) (.slice none 0 0)/\Ak 0 w0 d il/\plainCh (il.map Jz++[])=Tr.nodeCh 0 t/\il.length<=16:=by
 obtain ⟨l,n,p,F,g,i⟩:=h;obtain ⟨d,il,j,k,rfl,rfl⟩:=i;refine ⟨p,d,il,g,j,k,?_,by rw [<-Bn il];exact c⟩;rw [List.append_nil];show (il.map Jz).map _=(plain il).map _;unfold plain;rw [List.map_map,List.map_map];rfl
set_option maxHeartbeats 1000000 in
set_option maxRecDepth 4000 in
theorem Ahf {w0:World} {g:Nat} {c ub:ByteArray} {R:List Tr.Plc} {W:World} (h:ScM w0 A g c ub R W) {b:Nat} {kv:ByteArray×Nat} {f:Tr.Key} {L:Nat} {m:Option Tr.Key} {t:Tr.Ac 0} (X:PlM w0 A W b kv (.nd f L 0 m t)) (i:Tr.Top 0 t) (hR:R.length<=16000000) (hA:∀a∈A,a < W.heap.size):
  Calls Tryz.prog 133 #[.pointer (some ⟨g,0,none⟩),.pointer (some ⟨b,0,none⟩)] W fun r W'=> r= .returned (.tuple #[])/\∃l,Tr.Scd c.data.toList (Tr.nodeCh 0 t) l/\ScM w0 A g c ub (Tr.kidsFrom c.data.toList L m 0 t++(Tr.lay L f m l++R)) W'/\Frm g W W':=by
 obtain ⟨p,I,il,J,u,hi,V,Y⟩:=Ap6 X i;have d:=h.bel;have j:An W p I (.slice none 0 0) (.slice none 0 0):=(d.block p u.lt).trans u;obtain ⟨n0,n1,n2,-⟩:=j.cells;obtain ⟨b0,Z,b2,b3⟩:=J.cells;obtain ⟨vs,k⟩:=h.sc;obtain ⟨s0,s1,s2,s3⟩:=k.cells;have y:Hid (∀W',An W' p I (.slice none 0 0) (.slice none 0 0)->Calls Tryz.prog 77 #[.pointer (some ⟨p,0,none⟩),.string c] W' fun r w'=> r= .returned (.int .i64 0)/\w'=W'):=fun W' T=> Jd p 0 I (.slice none 0 0) (.slice none 0 0) [] c W' T (World.ownsRow_nil _ _ _ _) (by simp)
 have z:=hid j;have B:Hid (∀W',Below W.heap.size W W'->Calls Tryz.prog 187 #[.pointer (some ⟨p,0,none⟩),.string c] W' fun r M=>∃v,r= .returned v/\Below W'.heap.size W' M/\Calls Tryz.prog 132 #[.pointer (some ⟨g,0,none⟩),.int .i64 (L:Nat),v] M fun r S=> r= .returned (.tuple #[])/\∃l,Tr.Scd c.data.toList (Tr.nodeCh 0 t) l/\ScM w0 A g c ub (Tr.lay L f m l++R) S/\Frm g W S):=fun W' o=> by
  refine (Abs (ml:=[]) (h.below o) u hi (World.ownsRow_nil _ _ _ _) (by simp;omega) L f m (by omega) (fun a ha=> Nat.lt_of_lt_of_le (hA a ha) o.size)).mono ?_;rintro r M ⟨v,rfl,N,O⟩;refine ⟨v,rfl,N,O.mono ?_⟩;rintro r S ⟨rfl,l,hs,h2,hf⟩;exact ⟨rfl,l,by rw [<-V];exact hs,h2,(Frm.below o).trans hf⟩
 have C:=J.lt;have D:=k.lt;clear h X i u hi j k J V d;go_enter Tryz.func133,Tryz.ntmps133;go_upto_region 1 with fail;go_quiet (exact Calls.quiet_of_same (y.out _ z.out));go_wp2_with fail
 go_loopw [23] (fun U wr=> U= .int .i64 0/\wr=W.drewN nq) (fun _ _=> 0)
 case atStart=> exact ⟨rfl,rfl⟩
 case round=>
  obtain ⟨rfl,rfl⟩:=hrel;go_upto_region 6 with fail;have F:=hid (B.out (W.drewN nq).drew ((Am (Below.refl _ W) nq).drew))
  go_region_law (first
   | (go_simp;go_at_call 187;refine F.out.mono ?_;rintro r w2 ⟨v2,rfl,n,q⟩;have G:=hid q;have y1:=(n.cell (p:=⟨b,1,none⟩) C).trans Z;have y0:=(n.cell (p:=⟨g,0,none⟩) D).trans s0;clear n q)
   | (go_simp;go_at_call 132;refine G.out.mono ?_;rintro r w3 ⟨rfl,s⟩;have H:=hid s;clear s))
  all_goals
   go_wp2_with fail;go_end0;exact ⟨rfl,H.out⟩
variable {A:List Nat}
theorem Aka {w0 W:World} {b:Nat} {kv:ByteArray×Nat} {f:Tr.Key} {L h:Nat} {m:Option Tr.Key} {d:List (Tr.Key×Tr.Ac h)} {g:List Tr.Ch} (n:PlM w0 A W b kv (.nd f L (h+1) m (Tr.brT d g))):∃p vp vc pl ml G,PlB W b kv.1 L (some ⟨p,0,none⟩) (.slice none 0 0)/\An w0 p (.slice none 0 0) vp vc/\Ap 0 w0 vp pl/\Au 0 w0 vc ml/\plainCh ml=g/\Cc (Rep h w0) pl d G:=by
 obtain ⟨o,q,p,F,i,j⟩:=n;obtain ⟨vp,vc,pl,ml,G,k,a,c,e,l,-⟩:=j;exact ⟨p,vp,vc,pl,ml,G,i,k,a,c,e,l⟩
theorem Cc.drop {α:Type} {R:Nat->α->List Nat->Prop}:∀(n:Nat) {pl:List (ByteArray×Nat)} {a:List (Tr.Key×α)} {G:List Nat},Cc R pl a G->∃b,Cc R (pl.drop n) (a.drop n) b
 | 0,_,_,_,h=> ⟨_,h⟩
 | _+1,[],[],_,_=> ⟨[],rfl⟩
 | n+1,_::_,_::_,_,⟨_,_,_,_,h,_⟩=> Cc.drop n h
 | _+1,[],_::_,_,h=> h.elim
 | _+1,_::_,[],_,h=> h.elim
theorem Af8 {w0:World} {h L:Nat} {hi:Option Tr.Key}:∀{pl:List (ByteArray×Nat)} {b:List (Tr.Key×Tr.Ac h)} {G:List Nat},Cc (Rep h w0) pl b G->∀(i:Nat) (a:i < pl.length),∃f m t F,(Tr.Gy L b hi)[i]?=some (.nd f L h m t)/\(pl[i]'a).1.data.toList=f/\Rep h w0 (pl[i]'a).2 t F
 | x::pl,(f,t)::b,_,⟨e,G1,G2,h1,h2,_⟩,0,_=> ⟨f,_,t,G1,rfl,e,h1⟩
 | x::pl,(f,t)::b,_,⟨e,G1,G2,h1,h2,_⟩,i+1,a=> Af8 h2 i (by simpa using a)
 | [],_,_,_,_,a=> by simp at a
theorem Abt {h L:Nat} {hi:Option Tr.Key}:∀(a:List (Tr.Key×Tr.Ac h)),(Tr.Gy L a hi).length=a.length
 | []=> rfl
 | (f,t)::r=> by rw [Tr.Gy,List.length_cons,List.length_cons,Abt r]
theorem Amu {α:Type} (Q R:List α) {i:Nat} {q:α} (h:Q[i]?=some q):(Q.take (i+1)).reverse++R=q::((Q.take i).reverse++R):=by
 rw [List.take_add_one,h];simp
set_option maxHeartbeats 1000000 in
set_option maxRecDepth 4000 in
theorem Ahg {w0:World} {j:Nat} {l ub:ByteArray} {R:List Tr.Plc} {W:World} (hM:ScM w0 A j l ub R W) {b:Nat} {kv:ByteArray×Nat} {f:Tr.Key} {L h:Nat} {m:Option Tr.Key} {S:List (Tr.Key×Tr.Ac h)} {y:List Tr.Ch} (hp:PlM w0 A W b kv (.nd f L (h+1) m (Tr.brT S y))) (c7:S.length<=4/\y.length<=8) (c8:0 < S.length) (hR:R.length<=16000000) (hL:L<=20000000000000) (hA:∀a∈A,a < W.heap.size):
  Calls Tryz.prog 133 #[.pointer (some ⟨j,0,none⟩),.pointer (some ⟨b,0,none⟩)] W fun r W'=> r= .returned (.tuple #[])/\∃cs,Tr.Scd l.data.toList y cs/\ScM w0 A j l ub (Tr.Gy (L+1) (S.drop (Tr.ix (S.map (·.1)) l.data.toList)) m++(Tr.lay L f m cs++R)) W'/\Frm j W W':=by
 obtain ⟨p,vp,vc,pl,ml,G,hb,hn,C,b4,he,hk⟩:=Aka hp;have o:=hM.bel;have s:=hk.keys;have z:=hk.len;have T:An W p (.slice none 0 0) vp vc:=(o.block p hn.lt).trans hn;have H:Ap 0 W vp pl:=Aa C o (Nat.le_refl _);obtain ⟨n,D⟩:∃n,n=Tr.ix (pkeys pl) l.data.toList:=⟨_,rfl⟩;have c9:n < pl.length:=by
  rw [D];have:=Ail (pkeys pl) l.data.toList (by intro q;unfold pkeys at q;rw [List.map_eq_nil_iff] at q;rw [q] at z;simp at z;omega);simpa [pkeys] using this
 rw [<-s,<-D];obtain ⟨G',b5⟩:=hk.drop n;obtain ⟨g,b6,rfl,f2,-,Y,-,-⟩:=C.at n c9;have d0:Hid (∀i (hi:n+i < pl.length),w0.cell? ⟨g,n*2+i*2,none⟩=some (.string (pl[n+i]'hi).1)/\w0.cell? ⟨g,n*2+i*2+1,none⟩=some (.pointer (some ⟨(pl[n+i]'hi).2,0,none⟩))):=fun i hi=> by
  obtain ⟨g',f3,e,-,-,-,x0,x1⟩:=C.at (n+i) hi;simp only [Value.slice.injEq,Option.some.injEq,Addr.mk.injEq,and_true,true_and] at e;obtain ⟨rfl,-⟩:=e;rw [show (n+i)*2=n*2+i*2 by omega] at x0 x1;exact ⟨x0,x1⟩
 have d1:Hid (∀i (hi:n+i < pl.length),∃f' m' t' F',(Tr.Gy (L+1) (S.drop n) m)[i]?=some (.nd f' (L+1) h m' t')/\(pl[n+i]'hi).1.data.toList=f'/\Rep h w0 (pl[n+i]'hi).2 t' F'):=fun i hi=> by
  have:=Af8 (L:=L+1) (hi:=m) b5 i (by rw [List.length_drop];omega);simpa only [List.getElem_drop] using this
 have a6:Hid ((Tr.Gy (L+1) (S.drop n) m).length=pl.length - n):=by show _=_;rw [Abt,List.length_drop,z]
 obtain ⟨n0,n1,n2,-⟩:=T.cells;obtain ⟨b0,b1,b2,b3⟩:=hb.cells;obtain ⟨vs,Z⟩:=hM.sc;obtain ⟨s0,s1,s2,s3⟩:=Z.cells;have d2:Hid (∀k,Calls Tryz.prog 77 #[.pointer (some ⟨p,0,none⟩),.string l] (W.drewN k) fun r w'=> r= .returned (.int .i64 (n:Nat))/\w'=W.drewN k):=fun k=> by
  have:=Jd p 0 _ _ vc pl l (W.drewN k) T H (by omega);rw [<-D] at this;exact this
 have d3:Hid (∀P W',ScM w0 A j l ub P W'->W.heap.size<=W'.heap.size->P.length<=18000000->Calls Tryz.prog 187 #[.pointer (some ⟨p,0,none⟩),.string l] W' fun r W1=>∃v,r= .returned v/\Below W'.heap.size W' W1/\Calls Tryz.prog 132 #[.pointer (some ⟨j,0,none⟩),.int .i64 (L:Nat),v] W1 fun r W2=> r= .returned (.tuple #[])/\∃cs,Tr.Scd l.data.toList y cs/\ScM w0 A j l ub (Tr.lay L f m cs++P) W2/\Frm j W' W2):=fun P W' f0 c6 a8=> by
  have:=Abs (il:=[]) f0 hn (World.ownsRow_nil _ _ _ _) b4 (by rw [<-Ao ml,he];simp;omega) L f m a8 (fun a ha=> Nat.lt_of_lt_of_le (hA a ha) c6);rw [show plainCh (([]:List (ByteArray×ByteArray)).map Jz++ml)=y from he] at this;exact this
 have HM:=hid hM;have HP:=hid hp;have d4:=hid Z;have f4:=hid Y;have c1:n<=pl.length:=by omega
 have c2:¬b6=n:=by omega
 have c3:n<=b6:=by omega
 have f1:pl.length<=4:=by omega
 have xw:IntKind.i64.wrap ((L:Int)+1)=(L:Int)+1:=by rw [IntKind.wrap_i64];omega
 clear hM hp hb hn C b4 he hk T H b5 Z o D s z c8 c7;generalize hQ:Tr.Gy (L+1) (S.drop n) m=Q at*;go_enter Tryz.func133,Tryz.ntmps133;go_upto_region 1 with fail;go_quiet (exact Calls.quiet_of_same (d2.out _));go_wp2_with fail
 go_loopw [23] (fun a5 wr=>∃i:Nat,a5= .int .i64 (i:Nat)/\i<=pl.length - n/\ScM w0 A j l ub ((Q.take i).reverse++R) wr/\Frm j W wr) (fun a5 _=> pl.length - n - (intOf a5).toNat)
 case atStart=> exact ⟨0,rfl,Nat.zero_le _,HM.out.below (Am (Below.refl _ W) nq),Frm.below (Am (Below.refl _ W) nq)⟩
 case round=>
  obtain ⟨i,rfl,hi,hS,hF⟩:=hrel;have HS:=hid hS;have U:=hid hF;have d5:=HP.out.frm d4.out hF;obtain ⟨q1,q2,qp,qF,t,e9⟩:=d5;obtain ⟨y0,y1,y2,y3⟩:=t.cells;obtain ⟨f7,u⟩:=hS.sc;obtain ⟨z0,z1,z2,z3⟩:=u.cells;have I:=t.lt;have a7:=u.lt;have a8:((Q.take i).reverse++R).length<=18000000:=by rw [List.length_append,List.length_reverse,List.length_take];omega
  clear hS hF t e9 u b0 b1 b2 b3 s0 s1 s2 s3 n0 n1 n2;by_cases f8:i < pl.length - n
  ·have V:n+i < pl.length:=(by omega);obtain ⟨x0,x1⟩:=d0.out i V;have f5:=(HS.out.bel.cell (p:=⟨g,n*2+i*2,none⟩) Y).trans x0;have f6:=(HS.out.bel.cell (p:=⟨g,n*2+i*2+1,none⟩) Y).trans x1;obtain ⟨f',m',t',F',hq,N,O⟩:=d1.out i V;have HQ:=hid hq;have J:=hid N;have M:=hid O;clear x0 x1 hq N O;generalize pl[n+i]'V=x at*;obtain ⟨c,d⟩:=x;have B:Below wr.heap.size wr (wr.alloc (.cells #[.string c,.pointer (some ⟨d,0,none⟩)] 132)):=(Below.refl _ wr).alloc (Nat.le_refl _) _;have hA:(wr.alloc (.cells #[.string c,.pointer (some ⟨d,0,none⟩)] 132)).heap[wr.heap.size]?=some (.cells #[.string c,.pointer (some ⟨d,0,none⟩)] 132 (0,0)):=heap_alloc_new _ _;have a0:(wr.alloc (.cells #[.string c,.pointer (some ⟨d,0,none⟩)] 132)).cell? ⟨wr.heap.size,0,none⟩=some (.string c):=Rt hA 0;have a1:(wr.alloc (.cells #[.string c,.pointer (some ⟨d,0,none⟩)] 132)).cell? ⟨wr.heap.size,1,none⟩=some (.pointer (some ⟨d,0,none⟩)):=Rt hA 1;have a2:=(B.cell (p:=⟨b,1,none⟩) I).trans y1;have d6:(wr.alloc (.cells #[.string c,.pointer (some ⟨d,0,none⟩)] 132)).heap.size=wr.heap.size+1:=(by simp);have X:Below wr.heap.size wr ((wr.alloc (.cells #[.string c,.pointer (some ⟨d,0,none⟩)] 132)).alloc (.cells #[.string c,.int .i64 ((L:Int)+1),.pointer (some ⟨d,0,none⟩),.slice none 0 0] 139)).drew:=(B.alloc B.size _).drew;have a9:PlB ((wr.alloc (.cells #[.string c,.pointer (some ⟨d,0,none⟩)] 132)).alloc (.cells #[.string c,.int .i64 ((L:Int)+1),.pointer (some ⟨d,0,none⟩),.slice none 0 0] 139)).drew (wr.heap.size+1) c (L+1) (some ⟨d,0,none⟩) (.slice none 0 0):=by
    have:=heap_alloc_new (wr.alloc (.cells #[.string c,.pointer (some ⟨d,0,none⟩)] 132)) (.cells #[.string c,.int .i64 ((L:Int)+1),.pointer (some ⟨d,0,none⟩),.slice none 0 0] 139);rw [d6] at this;exact this
   obtain ⟨v9,K9,L9,F⟩:=HS.out;have d7:=hid (Aiu (F.below X) (b:=wr.heap.size+1) (kv:=(c,L+1)) (p:= .nd f' (L+1) h m' t') (fun q=> by have:=F.lt _ q;omega) ⟨J.out,rfl,d,F',a9,M.out⟩ (by rw [F.len];omega));have d8:Hid (Frm j wr ((wr.alloc (.cells #[.string c,.pointer (some ⟨d,0,none⟩)] 132)).alloc (.cells #[.string c,.int .i64 ((L:Int)+1),.pointer (some ⟨d,0,none⟩),.slice none 0 0] 139)).drew):=Frm.below X;clear hA B X a9 F M J;go_upto_region 4 with fail
   go_region_law (go_simp;go_at_call 186;refine d7.out.mono ?_;rintro r w5 ⟨rfl,b7,b8⟩;have d9:=hid b7;have e0:=hid (U.out.trans (d8.out.trans b8));clear b7 b8)
   all_goals
    go_wp2_with fail;exact ⟨⟨i+1,by go_num,by omega,by rw [Amu Q R HQ.out];exact d9.out,e0.out⟩,by simp [intOf];omega⟩
  ·have e2:i=pl.length - n:=(by omega);subst e2;have e3:Hid (ScM w0 A j l ub (Q.reverse++R) wr):=by
    have:=HS.out;rw [List.take_of_length_le (by rw [a6.out];exact Nat.le_refl _)] at this;exact this
   have e4:=hid (d3.out _ wr.drew (e3.out.below ((Below.refl _ wr).drew)) U.out.1 (by rw [List.length_append,List.length_reverse,a6.out];omega));go_upto_region 6 with fail
   go_region_law (first
    | (go_simp;go_at_call 187;refine e4.out.mono ?_;rintro r w2 ⟨v2,rfl,a3,b9⟩;have e5:=hid b9;have u1:=(a3.cell (p:=⟨b,1,none⟩) I).trans y1;have u0:=(a3.cell (p:=⟨j,0,none⟩) a7).trans z0;clear a3 b9)
    | (go_simp;go_at_call 132;refine e5.out.mono ?_;rintro r w3 ⟨rfl,a4,c0,c4,c5⟩;have e6:=hid c0;have e7:=hid c4;have e8:Hid (Frm j W w3):=U.out.trans (Frm.trans (Frm.below (W:=wr) ((Below.refl _ wr).drew)) c5);clear c0 c4 c5))
   all_goals
    go_wp2_with fail;go_end0;refine ⟨rfl,a4,e6.out,e7.out.perm ?_,e8.out⟩;have e1:(Tr.lay L f m a4++(Q.reverse++R)).Perm (Q.reverse++(Tr.lay L f m a4++R)):=by
     rw [<-List.append_assoc,<-List.append_assoc];exact (List.perm_append_comm).append_right R
    exact e1.trans ((List.reverse_perm Q).append_right _)
variable {A:List Nat}
theorem Akb {w0:World} {i:Nat} {g ub:ByteArray} {R:List Tr.Plc} {W:World} (n:ScM w0 A i g ub R W) {b:Nat} {kv:ByteArray×Nat} {f:Tr.Key} {L h D:Nat} {m:Option Tr.Key} {t:Tr.Ac h} (o:PlM w0 A W b kv (.nd f L h m t)) (k:(Tr.Plc.nd f L h m t).ok g.data.toList D) (p:R.length<=16000000) (z:D<=20000000000000) (q:∀a∈A,a < W.heap.size):
  Calls Tryz.prog 133 #[.pointer (some ⟨i,0,none⟩),.pointer (some ⟨b,0,none⟩)] W fun r W'=> r= .returned (.tuple #[])/\∃l,Tr.Scd g.data.toList (Tr.nodeCh h t) l/\ScM w0 A i g ub (Tr.kidsFrom g.data.toList L m h t++(Tr.lay L f m l++R)) W'/\Frm i W W':=by
 obtain ⟨j,c,d,s⟩:=k
 cases h with
 | zero=> exact Ahf n o c p q
 | succ h=>
  obtain ⟨y,u⟩:=t;exact Ahg n o c (Ju d j.1) p (by omega) q
theorem ScM.more {w0:World} {k:Nat} {l ub:ByteArray} {P:List Tr.Plc} {W:World} (h:ScM w0 A k l ub P W) {N:Nat} (F:W.heap.size<=N):ScM w0 (N::A) k l ub P W:=by
 obtain ⟨v,K,L,a⟩:=h;refine ⟨v,K,L,a.hp,a.pm,fun x D=> ?_,a.bel,a.sbn,a.vn⟩;have:=a.pl x D;obtain ⟨b,p⟩:=x
 cases p using Tr.Plc.two with
 | nd f L h' m t=> exact this
 | ch L f m c cs=>
  obtain ⟨n,r,g,o,d,ml,i,s,u,j,y,z,B,C⟩:=this;refine ⟨n,r,g,o,d,ml,i,s,u,j,y,z,fun q=> ?_,C⟩;rcases List.mem_cons.1 q with e | e
  ·have:=(Array.getElem?_eq_some_iff.1 j).1;omega
  ·exact B e
theorem PlM.less {w0 W:World} {b N:Nat} {kv:ByteArray×Nat} {p:Tr.Plc} (h:PlM w0 (N::A) W b kv p):PlM w0 A W b kv p:=by
 cases p using Tr.Plc.two with
 | nd f L h' m t=> exact h
 | ch L f m c cs=>
  obtain ⟨i,j,g,o,a,ml,d,k,l,n,r,s,u,y⟩:=h;exact ⟨i,j,g,o,a,ml,d,k,l,n,r,s,fun q=> u (List.mem_cons_of_mem _ q),y⟩
theorem ScM.less {w0:World} {b:Nat} {c ub:ByteArray} {P:List Tr.Plc} {W:World} {N:Nat} (h:ScM w0 (N::A) b c ub P W):ScM w0 A b c ub P W:=by
 obtain ⟨v,K,L,a⟩:=h;exact ⟨v,K,L,a.hp,a.pm,fun x d=> (a.pl x d).less,a.bel,a.sbn,a.vn⟩
theorem ScM.set {w0:World} {r:Nat} {T ub:ByteArray} {P:List Tr.Plc} {W W':World} (h:ScM w0 A r T ub P W) {N:Nat} {G:Array Value} (H:W.heap[N]?=some (.cells G 34 (0,0))) (I:N∈A) (J:w0.heap.size<=N) (m:Mod (fun g=> g=N) W W'):ScM w0 A r T ub P W':=by
 obtain ⟨v,K,L,d⟩:=h;have U:r≠N:=fun e=> by have:=d.hp.sc;unfold ScB at this;rw [e,H] at this;simp at this
 have V:v.ownBlock≠some N:=Dd H d.hp.row (by decide);have s:∀b key R S ch,PlB W b key R S ch->b≠N:=fun b key R S ch q e=> by unfold PlB at q;rw [e,H] at q;simp at q
 refine ⟨v,K,L,⟨(m.block r d.hp.sc.lt U).trans d.hp.sc,Bz d.hp.row fun g hg D=> m.block g D (fun e=> V (by rw [<-e];exact hg)),fun b hb=> ?_,d.hp.heap⟩,d.pm,fun x hx=> ?_,d.bel.trans (m.below d.bel.size fun k e=> by rw [e];exact J),d.sbn,d.vn⟩
 ·obtain ⟨u,c,q⟩:=d.hp.pl b hb;exact ⟨u,c,(m.block b q.lt (s _ _ _ _ _ q)).trans q⟩
 ·have:=d.pl x hx;obtain ⟨b,p⟩:=x
  cases p using Tr.Plc.two with
  | nd f L h' m' t=>
   obtain ⟨y,z,p,F,i,B⟩:=this;exact ⟨y,z,p,F,(m.block b i.lt (s _ _ _ _ _ i)).trans i,B⟩
  | ch L f m' c cs=>
   obtain ⟨y,z,g,o,C,ml,n,i,B,M,X,Y,O,Z⟩:=this;have l:=m.block g (Array.getElem?_eq_some_iff.1 M).1 (fun e=> O (by rw [e];exact I));exact ⟨y,z,g,o,C,ml,n,(m.block b i.lt (s _ _ _ _ _ i)).trans i,B,l.trans M,fun j u hj=> (World.cell?_of_block (w:=W) (a:=⟨g,o+j,none⟩) l).trans (X j u hj),Y,O,Z⟩
theorem ChB.put {w:World} {b:Nat} {k:Int} {key x:ByteArray} (h:ChB w b k key x) (c:Int) (a d:ByteArray):ChB (((w.setCell ⟨b,0,none⟩ (.int .i64 c)).setCell ⟨b,1,none⟩ (.string a)).setCell ⟨b,2,none⟩ (.string d)) b c a d:=by
 unfold ChB at*;have f:=Ad (i:=0) h (.int .i64 c);have g:=Ad (i:=1) f (.string a);have j:=Ad (i:=2) g (.string d);rw [j];rfl
theorem Frm.set {d N:Nat} {W W' a:World} (h:Frm d W W') (l:W.heap.size<=N) (m:Mod (fun g=> g=N) W' a):Frm d W a:=⟨Nat.le_trans h.1 m.size,fun g i T c j k=> by
 have b:=h.2 g i T c j k;have f:=(Array.getElem?_eq_some_iff.1 c).1;exact (m.block g (Array.getElem?_eq_some_iff.1 b).1 (by omega)).trans b⟩
theorem Aiv {α β:Type} (I:α->β->Prop) (d:β->Nat):∃μ:α->Nat,(∀a b,I a b->μ a<=d b)/\∀a,(∃b,I a b)->∃b,I a b/\d b=μ a:=by
 have h:∀a,∃n,(∀b,I a b->n<=d b)/\((∃b,I a b)->∃b,I a b/\d b=n):=fun a=> by
  by_cases k:∃b,I a b
  ·obtain ⟨b,g⟩:=k;generalize m:d b=n
   induction n using Nat.strongRecOn generalizing b with
   | ind n ih=>
    by_cases l:∃c,I a c/\d c < n
    ·obtain ⟨c,i,j⟩:=l;exact ih (d c) j c i rfl
    ·exact ⟨n,fun c i=> Nat.le_of_not_lt fun q=> l ⟨c,i,q⟩,fun _=> ⟨b,g,m⟩⟩
  ·exact ⟨0,fun b g=> absurd ⟨b,g⟩ k,fun q=> absurd q k⟩
 obtain ⟨μ,f⟩:=Classical.skolem.1 h;exact ⟨μ,fun a=> (f a).1,fun a=> (f a).2⟩
structure NxI (w0:World) (A:List Nat) (sb:Nat) (fr ub:ByteArray) (D:Nat) (P:List Tr.Plc) (W wr:World) (P1:List Tr.Plc):Prop where
 op:Tr.Gc fr.data.toList D P P1
 wt:Tr.wtP P1<=Tr.wtP P
 sc:ScM w0 A sb fr ub P1 wr
 frm:Frm sb W wr
def NxQ (w0:World) (A:List Nat) (sb:Nat) (fr ub:ByteArray) (D:Nat) (P:List Tr.Plc) (W:World) (r:Ending) (W':World):Prop:=
 (∃k key x P',r= .returned (.tuple #[.agg #[.int .i64 k,.string key,.string x],.bool true])/\Tr.Ym fr.data.toList ub.data.toList D P (chP k key x) P'/\Tr.wtP P'<=Tr.wtP P/\ScM w0 A sb fr ub P' W'/\Frm sb W W')\/
 (∃k key x,r= .returned (.tuple #[.agg #[.int .i64 k,.string key,.string x],.bool false])/\Tr.Yn fr.data.toList ub.data.toList D P/\Below w0.heap.size w0 W'/\Frm sb W W')
theorem NxI.pop {w0:World} {d:Nat} {a ub:ByteArray} {D:Nat} {P:List Tr.Plc} {W wr:World} {b:List Tr.Plc} (h:NxI w0 A d a ub D P W wr b) {p:Tr.Plc} {R:List Tr.Plc} (c:b.Perm (p::R)):Tr.Gc a.data.toList D P (p::R)/\Tr.wtP (p::R)<=Tr.wtP P:=⟨h.op.perm c,by rw [<-Tr.Ams c];exact h.wt⟩
set_option maxHeartbeats 2000000 in
set_option maxRecDepth 4000 in
theorem Tl {w0:World} {Y:Nat} {Z ub:ByteArray} {D:Nat} {P:List Tr.Plc} {W:World} (hM:ScM w0 A Y Z ub P W) (f5:Tr.Mt Z.data.toList D P) (j4:Tr.wtP P<=1800000) (hD:D<=20000000000000) (hA:∀a∈A,a < W.heap.size):
  Calls Tryz.prog 68 #[.pointer (some ⟨Y,0,none⟩)] W (NxQ w0 A Y Z ub D P W):=by
 obtain ⟨μ,a6,a7⟩:=Aiv (NxI w0 (W.heap.size::A) Y Z ub D P W) Tr.size;have f6:=hid a6;have f7:=hid a7;have b7:Below W.heap.size W (W.alloc (.cells #[.int .i64 0,.string ⟨#[]⟩,.string ⟨#[]⟩] 34)):=(Below.refl _ W).alloc (Nat.le_refl _) _;have d6:Hid (ChB (W.alloc (.cells #[.int .i64 0,.string ⟨#[]⟩,.string ⟨#[]⟩] 34)) W.heap.size 0 ⟨#[]⟩ ⟨#[]⟩):=heap_alloc_new _ _;have H0:Hid (NxI w0 (W.heap.size::A) Y Z ub D P W (W.alloc (.cells #[.int .i64 0,.string ⟨#[]⟩,.string ⟨#[]⟩] 34)) P):=⟨Tr.Gc.start f5,Nat.le_refl _,(hM.more (Nat.le_refl _)).below b7,Frm.below b7⟩;have b8:Hid (Y < W.heap.size):=by obtain ⟨v,hv⟩:=hM.sc;exact hv.lt
 have b9:Hid (w0.heap.size<=W.heap.size):=hM.bel.size;clear a6 a7 hM b7;go_enter Tryz.func68,Tryz.ntmps68;go_wp2_with fail
 go_loopw [4] (fun _ wr=> (∃P1,NxI w0 (W.heap.size::A) Y Z ub D P W wr P1)/\ChB wr W.heap.size 0 ⟨#[]⟩ ⟨#[]⟩) (fun _ wr=> μ wr)
 case atStart=> exact ⟨⟨P,H0.out⟩,d6.out⟩
 case round=>
  obtain ⟨hrel,U⟩:=hrel;obtain ⟨P1,hI,f0⟩:=f7.out wr hrel;have HI:=hid hI;have f8:=hid f0;obtain ⟨v1,K1,L1,hS⟩:=hI.sc;have HS:=hid hS;obtain ⟨a1,c1,rfl⟩:=Ab hS.hp.row;obtain ⟨s0,s1,s2,s3⟩:=hS.hp.sc.cells;rw [List.length_map,hS.len] at s2;have f9:P1.length<=1800000:=Nat.le_trans (Tr.Acy hI.op.inv.ok) (Nat.le_trans hI.wt j4);have c2:=hid U;have c3:=hid hI.frm;obtain ⟨d0,d1,d2⟩:=U.cells;obtain ⟨e0,e1,e2⟩:=(show wr.frozen? ⟨W.heap.size,0,none⟩=false/\wr.frozen? ⟨W.heap.size,1,none⟩=false/\wr.frozen? ⟨W.heap.size,2,none⟩=false by unfold ChB at U;refine ⟨?_,?_,?_⟩ <;> simp [World.frozen?,U])
  clear hI hS hrel U f0 d6;by_cases hz:P1.length=0
  ·have g3:P1=[]:=List.eq_nil_of_length_eq_zero hz;rw [hz] at s2;have HN:Hid (Tr.Yn Z.data.toList ub.data.toList D P):=by
    have:=HI.out.op;rw [g3] at this;exact this.none
   have N:=Mod.set3 wr W.heap.size 0 (.int .i64 0) (.string ⟨#[]⟩) (.string ⟨#[]⟩);have c4:Hid (Below w0.heap.size w0 (((wr.setCell ⟨W.heap.size,0,none⟩ (.int .i64 0)).setCell ⟨W.heap.size,1,none⟩ (.string ⟨#[]⟩)).setCell ⟨W.heap.size,2,none⟩ (.string ⟨#[]⟩))):=HI.out.sc.bel.trans (N.below HI.out.sc.bel.size fun k e=> by rw [e];exact b9.out);have O:=hid (c3.out.set (Nat.le_refl _) N);have S:=hid (c2.out.put 0 ⟨#[]⟩ ⟨#[]⟩);clear N;go_wp2_with fail;obtain ⟨g0,g1,g2⟩:=S.out.cells;refine bodyPost_ret (v:= .tuple #[.agg #[.int .i64 0,.string ⟨#[]⟩,.string ⟨#[]⟩],.bool false]) ?_ rfl (.inr ⟨0,⟨#[]⟩,⟨#[]⟩,rfl,HN.out,c4.out,O.out⟩);simp [results,Tryz.results68,go_sem,g0,g1,g2]
  ·have j5:(0:Int) < (P1.length:Int):=(by omega);have d7:=hid (Aqa HS.out (by rw [HS.out.len];omega) (by rw [HS.out.len];omega));have g4:=fun W' (bb:Nat)=> Af2 (some ⟨bb,0,none⟩) W'
   go_wp2_with fail;refine d7.out.mono ?_;rintro r l ⟨b,pp,R,v2,L2,rfl,c9,b6,d3,d4,d5⟩;have j6:=g4 l b;obtain ⟨f1,a8⟩:=HI.out.pop c9;have I:=hid f1;have T:=hid a8;have a4:=hid b6;have B:Hid (ScM w0 (W.heap.size::A) Y Z ub R l):=⟨v2,K1,L2,d3⟩;have c5:=hid d4;have c6:=hid (c3.out.trans d5);have a5:ChB l W.heap.size 0 ⟨#[]⟩ ⟨#[]⟩:=d5.2 _ _ _ c2.out (by decide) (by have:=b8.out;omega);have s:=hid a5;have g5:Hid (∀P2,Tr.size P2 < Tr.size (pp::R)->Tr.size P2 < μ wr):=fun P2 h=> by
    rw [<-f8.out,Tr.Tj c9];exact h
   obtain ⟨⟨un,ch,a9⟩,b0,j1⟩:=d4.plb;obtain ⟨p0,p1,p2,p3⟩:=a9.cells;obtain ⟨t0,t1,t2,t3⟩:=d3.hp.sc.cells;have d8:=hid b0;clear c9 b6 d3 d4 d5 a5 f1 a8 a9 b0 j1 s0 s1 s2 s3 d0 d1 d2 e0 e1 e2 d7 HS HI c3 c2;have c7:Hid (ub.data.toList=[]\/(ub.data.toList≠[]/\(K1 b).1.data.toList < ub.data.toList)\/(ub.data.toList≠[]/\¬(K1 b).1.data.toList < ub.data.toList)):=by
    by_cases X:ub.data.toList=[]
    ·exact .inl X
    ·by_cases q2:(K1 b).1.data.toList < ub.data.toList
     ·exact .inr (.inl ⟨X,q2⟩)
     ·exact .inr (.inr ⟨X,q2⟩)
   have j8:decide (0 < P1.length)=true:=decide_eq_true (by omega);obtain ⟨d0,d1,d2⟩:=s.out.cells;have j9:∀o,l.frozen? ⟨W.heap.size,o,none⟩=false:=fun o=> by
    have:=s.out;unfold ChB at this;simp [World.frozen?,this]
   have k3:R.length<=1800000:=by
    have h1:=Tr.Acy I.out.inv.ok;have h2:=T.out;rw [List.length_cons] at h1;omega
   have g6:∀a∈W.heap.size::A,a < l.heap.size:=fun a ha=> by
    have:=s.out.lt;rcases List.mem_cons.1 ha with e | e
    ·omega
    ·have:=hA a e;omega
   rcases c7.out with X | ⟨X,q2⟩ | ⟨X,q2⟩
   case inr.inr=>
    have a0:Hid (¬Tr.Ns ub.data.toList pp.key):=fun z=> z.elim X (fun z=> q2 (by rw [d8.out];exact z))
    have r1:(ub.toList==[])=false:=(by rw [Ah];simpa using X);have r2:Op.bytesLess (K1 b).1.toList ub.toList=false:=(by rw [Ah,Ah,Db];exact decide_eq_false q2);have HN:=hid (I.out.stop a4.out a0.out);go_upto_region 3 with fail;go_quiet (fail);have y:Below l.heap.size l (l.drewN nq):=Am (Below.refl _ l) nq;have N:=Mod.set3 (l.drewN nq) W.heap.size 0 (.int .i64 0) (.string ⟨#[]⟩) (.string ⟨#[]⟩);have c4:Hid (Below w0.heap.size w0 ((((l.drewN nq).setCell ⟨W.heap.size,0,none⟩ (.int .i64 0)).setCell ⟨W.heap.size,1,none⟩ (.string ⟨#[]⟩)).setCell ⟨W.heap.size,2,none⟩ (.string ⟨#[]⟩))):=(B.out.bel.trans (y.mono B.out.bel.size)).trans (N.below (Nat.le_trans B.out.bel.size y.size) fun k e=> by rw [e];exact b9.out);have O:=hid ((c6.out.trans (Frm.below y)).set (Nat.le_refl _) N);have S:Hid (ChB ((((l.drewN nq).setCell ⟨W.heap.size,0,none⟩ (.int .i64 0)).setCell ⟨W.heap.size,1,none⟩ (.string ⟨#[]⟩)).setCell ⟨W.heap.size,2,none⟩ (.string ⟨#[]⟩)) W.heap.size 0 ⟨#[]⟩ ⟨#[]⟩):=ChB.put (w:=l.drewN nq) s.out 0 ⟨#[]⟩ ⟨#[]⟩;clear N y;go_wp2_with fail;obtain ⟨g0,g1,g2⟩:=S.out.cells;refine bodyPost_ret (v:= .tuple #[.agg #[.int .i64 0,.string ⟨#[]⟩,.string ⟨#[]⟩],.bool false]) ?_ rfl (.inr ⟨0,⟨#[]⟩,⟨#[]⟩,rfl,HN.out,c4.out,O.out⟩);simp [results,Tryz.results68,go_sem,g0,g1,g2]
   case' inl=>
    have a0:Hid (Tr.Ns ub.data.toList pp.key):= .inl X;have r1:(ub.toList==[])=true:=(by rw [Ah];simpa using X);go_upto_region 3 with fail;go_quiet (fail)
   case' inr.inl=>
    have a0:Hid (Tr.Ns ub.data.toList pp.key):= .inr (by rw [<-d8.out];exact q2);have r1:(ub.toList==[])=false:=(by rw [Ah];simpa using X);have r2:Op.bytesLess (K1 b).1.toList ub.toList=true:=(by rw [Ah,Ah,Db];exact decide_eq_true q2);go_upto_region 3 with fail;go_quiet (fail)
   all_goals
    have y:Below l.heap.size l (l.drewN nq):=Am (Below.refl _ l) nq;clear p0 p1 p2 p3
    cases pp using Tr.Plc.two with
    | nd f L h m t=>
     obtain ⟨h1,h2,p,F,h3,h4⟩:=c5.out;obtain ⟨p0,p1,p2,p3⟩:=h3.cells;obtain ⟨vq,C⟩:=B.out.sc;have d9:=hid (Akb (B.out.below y) (c5.out.frm C (Frm.below y)) (I.out.inv.ok _ (List.mem_cons_self ..)) (by omega) hD g6);have g7:=hid (I.out.inv.ok _ (List.mem_cons_self ..));clear h1 h2 h3 h4 C;go_wp2_with fail;refine d9.out.mono ?_;rintro r w4 ⟨rfl,cs,hs,V,M⟩;obtain ⟨f2,f3⟩:=I.out.open' hs;have e3:Hid (NxI w0 (W.heap.size::A) Y Z ub D P W w4 (Tr.kidsFrom Z.data.toList L m h t++(Tr.lay L f m cs++R))):=⟨f2,Nat.le_trans (Tr.Amt g7.out hs) T.out,V,(c6.out.trans (Frm.below y)).trans M⟩;have g8:Hid (ChB w4 W.heap.size 0 ⟨#[]⟩ ⟨#[]⟩):=M.2 _ _ _ s.out (by decide) (by have:=b8.out;omega);have g9:=hid (Nat.lt_of_le_of_lt (f6.out w4 _ e3.out) (g5.out _ f3));clear hs V M f2 f3 d9;go_wp2_with fail;exact ⟨⟨⟨_,e3.out⟩,g8.out⟩,g9.out⟩
    | ch L f m c cs=>
     obtain ⟨h1,h2,g,o,n,ml,j2,h3,h4,h5,h6,h7,h8,h9⟩:=c5.out;obtain ⟨c0,i,rfl⟩:∃c0 i,ml=c0::i:=by
      cases ml with
      | nil=> cases h4
      | cons c0 r=> exact ⟨c0,r,rfl⟩
     have h0:(c0.1,c0.2.1.data.toList,c0.2.2.data.toList)=c/\plainCh i=cs:=by
      have:=List.cons.inj h4;exact ⟨this.1,this.2⟩
     obtain ⟨ec,f4⟩:=h0;obtain ⟨p0,p1,p2,p3⟩:=h3.cells;obtain ⟨ck,G,cx⟩:=c0;have x0:=h6 0 _ rfl;have x1:=h6 1 _ rfl;have x2:=h6 2 _ rfl;rw [Nat.add_zero] at x0;have a2:Below l.heap.size l (l.drewN nq).drew:=y.drew;obtain ⟨ad,k4,b5⟩:∃ad:Addr,(if n=1 then some (⟨g,o,none⟩:Addr) else some ⟨g,o+3,none⟩)=some ad/\(¬n=1->ad=⟨g,o+3,none⟩):=by
      by_cases e:n=1
      ·exact ⟨_,if_pos e,fun q=> absurd e q⟩
      ·exact ⟨_,if_neg e,fun _=> rfl⟩
     have c8:=a2.block g (Array.getElem?_eq_some_iff.1 h5).1;rw [List.length_cons] at h7 h9 p3;have e4:Aqb (W.heap.size::A) (l.drewN nq).drew (.slice (some ad) i.length (n - 1)) i:=by
      by_cases e:n=1
      ·have i0:i=[]:=List.eq_nil_of_length_eq_zero (by omega);subst i0;exact .inl ⟨rfl,_,_,rfl⟩
      ·rw [b5 e]
       cases i with
       | nil=> exact .inl ⟨rfl,_,_,rfl⟩
       | cons d r=> exact .inr ⟨by simp,g,o+3,n - 1,j2,rfl,by rw [List.length_cons] at h7 ⊢;omega,c8.trans h5,h8,fun j u hj=> (World.cell?_of_block (w:=l) (a:=⟨g,o+3+j,none⟩) c8).trans (by have:=h6 (3+j) u (by show (Value.int .i64 ck::Value.string G::Value.string cx::ccells (d::r))[3+j]?=_;rw [show 3+j=j+3 by omega];exact hj);rw [<-Nat.add_assoc] at this;exact this)⟩
     have i1:=hid (Af7 (B.out.below a2) L f m (.slice (some ad) i.length (n - 1)) i e4 (by omega) (by omega));have i2:Hid (∀P',P'.Perm (Tr.lay L f m cs++R)->Tr.Ym Z.data.toList ub.data.toList D P c P'):=fun P' j3=> I.out.take a4.out a0.out j3
     have i3:Hid (Tr.wtP (Tr.lay L f m cs++R)<=Tr.wtP P):=by
      show _<=_;have h1:=T.out;rw [Tr.Ru] at h1;rw [Tr.Qf];have h2:=(Tr.Ais L f m cs).2;have h3:(Tr.Plc.ch L f m c cs).wt=1:=rfl;omega
     have i4:=hid ec;have e5:=hid f4;have i5:=hid (c6.out.trans (Frm.below a2));have H5:=hid h5;have i6:=hid h3;have i7:g≠Y:=fun e=> by
      obtain ⟨vq,C⟩:=B.out.sc;unfold ScB at C;rw [<-e,h5] at C;simp at C
     have i8:b≠Y:=(by obtain ⟨vq,C⟩:=B.out.sc;exact h3.ne C);have b1:(1:Int)<=(i.length:Int)+1:=(by omega);have b2:1<=i.length+1:=(by omega);have b3:1<=n:=(by omega);have b4:i.length+1<=n:=h7;clear e4 c8 h1 h2 h3 h4 h5 h6 h8 h9 ec f4 b5 a2;go_upto_region 5 with fail
     go_region_law (go_simp;go_at_call 132;refine i1.out.mono ?_;rintro r w4 ⟨rfl,V,M⟩;have i9:=hid V;have a3:=hid M;clear V M)
     all_goals
      have J:ChB w4 W.heap.size 0 ⟨#[]⟩ ⟨#[]⟩:=a3.out.2 _ _ _ s.out (by decide) (by have:=b8.out;omega);have e6:PlB w4 b (K1 b).1 L none (.slice (some ⟨g,o,none⟩) (i.length+1) n):=a3.out.2 _ _ _ i6.out (by decide) i8;have e7:=a3.out.2 _ _ _ H5.out (by decide) i7;have H:w4.heap[g]?=l.heap[g]?:=e7.trans H5.out.symm;have y0:=(World.cell?_of_block (w:=l) (a:=⟨g,o,none⟩) H).trans x0;have y1:=(World.cell?_of_block (w:=l) (a:=⟨g,o+1,none⟩) H).trans x1;have y2:=(World.cell?_of_block (w:=l) (a:=⟨g,o+2,none⟩) H).trans x2;obtain ⟨l0,l1,l2,l3⟩:=e6.cells;obtain ⟨k0,k1,k2⟩:=J.cells;have j7:∀o,w4.frozen? ⟨W.heap.size,o,none⟩=false:=fun o=> by
       unfold ChB at J;simp [World.frozen?,J]
      have N:=Mod.set3 w4 W.heap.size 0 (.int .i64 ck) (.string G) (.string cx);have S:=hid (J.put ck G cx);have j0:=hid ((i9.out.set J (List.mem_cons_self ..) b9.out N).less);have O:=hid ((i5.out.trans a3.out).set (Nat.le_refl _) N);clear J e6 e7 H N x0 x1 x2 p0 p1 p2 p3 d0 d1 d2 t0 t1 t2 t3;go_wp2_with fail;obtain ⟨g0,g1,g2⟩:=S.out.cells;have e8:=j0.out;rw [e5.out] at e8;have e9:=i2.out (Tr.lay L f m cs++R) (List.Perm.refl _);rw [<-i4.out] at e9;refine bodyPost_ret (v:= .tuple #[.agg #[.int .i64 ck,.string G,.string cx],.bool true]) ?_ rfl (.inl ⟨ck,G,cx,Tr.lay L f m cs++R,rfl,e9,i3.out,e8,O.out⟩);simp [results,Tryz.results68,go_sem,g0,g1,g2]
end Go.Proofs.YtolgpnaoaodepaaGreat
