import Derived.Test.YtolgpnaoaodepaaGreatScaLm
import Derived.Deep.DeepCutAuto
import Derived.Lib.QuietBelow
import Derived.Test.YtolgpnaoaodepaaGreatTreZRm
namespace Go.Proofs.YtolgpnaoaodepaaGreat
open Go.RowKit
variable {A:List Nat}
def Frm (sb:Nat) (W W':World):Prop:=W.heap.size≤W'.heap.size∧∀g cs T,W.heap[g]?=some (.cells cs T (0,0))→T≠137→g≠sb→W'.heap[g]?=some (.cells cs T (0,0))
theorem Frm.trans {b:Nat} {W W' a:World} (f:Frm b W W') (h:Frm b W' a):Frm b W a:=⟨Nat.le_trans f.1 h.1,fun g c T i d e=> h.2 g c T (f.2 g c T i d e) d e⟩
theorem Frm.below {b:Nat} {W W':World} (h:Below W.heap.size W W'):Frm b W W':=⟨h.size,fun g _ _ a _ _=> (h.block g (Array.getElem?_eq_some_iff.1 a).1).trans a⟩
theorem PlM.frm {w0 W W':World} {b C:Nat} {kv:ByteArray×Nat} {p:Tr.Plc} {J ub:ByteArray} {v:Value} (h:PlM w0 A W b kv p) (d:ScB W C J ub v) (D:Frm C W W'):PlM w0 A W' b kv p:=by
 have i:∀n T,W.heap[b]?=some (.cells n T (0,0))→T=139→W'.heap[b]?=some (.cells n T (0,0)):=fun n T B H=> by
  subst H
  refine D.2 b n _ B (by decide) (fun e=> ?_)
  subst e;unfold ScB at d;rw [B] at d;simp at d
 cases p using Tr.Plc.two with
 | nd f L h' m t=>
  obtain ⟨r,s,p,F,x,y⟩:=h
  exact ⟨r,s,p,F,i _ _ x rfl,y⟩
 | ch L f m c n=>
  obtain ⟨r,s,g,o,z,ml,l,x,y,q,E,G⟩:=h
  have k:W'.heap[g]?=W.heap[g]?:=(D.2 g l _ q (by decide) (fun e=> by subst e;unfold ScB at d;rw [q] at d;simp at d)).trans q.symm
  exact ⟨r,s,g,o,z,ml,l,i _ _ x rfl,y,k.trans q,fun j u I=> (World.cell?_of_block (w:=W) (a:=⟨g,o+j,none⟩) k).trans (E j u I),G⟩
theorem push_sc {w0:World} {f:Nat} {t ub:ByteArray} {P:List Tr.Plc} {v:Value} {K:Nat→ByteArray×Nat} {L:List (Nat×Tr.Plc)} {W:World} (h:ScW w0 A f t ub P v K L W) {b:Nat} {kv:ByteArray×Nat} {p:Tr.Plc} (M:b∉L.map (·.1)) (C:PlM w0 A W b kv p) (N:L.length≤20000000):
  Calls Tryz.prog 186 #[.iface 193 (.pointer (some ⟨f,2,none⟩)),.iface 137 (.pointer (some ⟨b,0,none⟩))] W fun r W'=> r= .returned (.tuple #[])∧ScM w0 A f t ub (p::P) W'∧Frm f W W':=by
 have u:∀x∈L.map (·.1),(fun y=> if y=b then kv else K y) x=K x:=fun x n=> if_neg fun e=> M (by rw [←e];exact n)
 have D:=h.hp.congr u
 obtain ⟨⟨w,z,c⟩,-,-⟩:=C.plb
 refine (hPush_any f t ub v _ (L.map (·.1)) b W D ⟨w,z,by show PlB W b (if b=b then kv else K b).1 (if b=b then kv else K b).2 w z;rw [if_pos rfl];exact c⟩ (by rw [List.length_map];exact N) (ltK_ord _)).mono ?_
 rintro r W' ⟨rfl,G,H,j,l,m,d⟩
 obtain ⟨E,B,F⟩:=Tr.perm_map (·.1) j.symm ((b,p)::L) rfl
 subst F
 refine ⟨rfl,⟨H,_,E,l,(B.symm.map _).trans ?_,fun x n=> ?_,h.bel.trans (d.below h.bel.size fun k q=> q.elim (fun e=> by rw [e];exact h.sbn) (h.vn k)),h.sbn,fun g a=> ?_⟩,⟨d.size,fun g Q T a I J=> (d.block g (Array.getElem?_eq_some_iff.1 a).1 (fun q=> q.elim J (blk_type a h.hp.row (fun e=> I e.symm)))).trans a⟩⟩
 ·exact (List.Perm.cons p h.pm)
 ·have i:=B.mem_iff.2 n
  rcases List.mem_cons.1 i with e | e
  ·subst e
   show PlM w0 A W' b (if b=b then kv else K b) p
   rw [if_pos rfl]
   exact C.keep h.hp.sc h.hp.row fun g a o s=> d.block g a (fun q=> q.elim o s)
  ·have this:(if x.1=b then kv else K x.1)=K x.1:=u x.1 (List.mem_map.2 ⟨x,e,rfl⟩)
   rw [this]
   exact (h.pl x e).keep h.hp.sc h.hp.row fun g a o s=> d.block g a (fun q=> q.elim o s)
 ·rcases m with e | ⟨k,O,e⟩
  ·rw [e] at a;exact h.vn g a
  ·rw [e] at a;have:=Option.some.inj a;have:=h.bel.size;omega
theorem pop_sc {w0:World} {l:Nat} {F ub:ByteArray} {P:List Tr.Plc} {v:Value} {K:Nat→ByteArray×Nat} {L:List (Nat×Tr.Plc)} {W:World} (h:ScW w0 A l F ub P v K L W) (m:0 < L.length) (S:L.length≤20000000):
  Calls Tryz.prog 131 #[.iface 193 (.pointer (some ⟨l,2,none⟩))] W fun r W'=>∃b p R w j,r= .returned (.iface 137 (.pointer (some ⟨b,0,none⟩)))∧P.Perm (p::R)∧(∀q∈R,¬q.less p)∧ScW w0 A l F ub R w K j W'∧PlM w0 A W' b (K b) p∧Frm l W W':=by
 refine (hPop_any l F ub v K (L.map (·.1)) W h.hp (by rw [List.length_map];exact m) (by rw [List.length_map];omega) (ltK_ord K)).mono ?_
 rintro r W' ⟨b,I,w,rfl,z,d,B,C,D,n,J,M,f⟩
 obtain ⟨H,G,t⟩:=Tr.perm_map (·.1) z L rfl
 cases H with
 | nil=> cases t
 | cons y j=>
  simp only [List.map_cons,List.cons.injEq] at t
  obtain ⟨o,rfl⟩:=t
  obtain ⟨u,p⟩:=y
  have o:u=b:=o
  subst o
  have a:∀x∈(u,p)::j,PlM w0 A W' x.1 (K x.1) x.2:=fun x c=> (h.pl x (G.mem_iff.2 c)).keep h.hp.sc h.hp.row D
  have s:Below w0.heap.size W W':=⟨J,M,f,n,fun k E=> D k (Nat.lt_of_lt_of_le E h.bel.size) (fun e=> by have:=h.sbn;omega) (fun e=> by have:=h.vn k e;omega)⟩
  refine ⟨u,p,j.map (·.2),w,j,rfl,h.pm.symm.trans (G.map _),fun q N=> ?_,⟨B,List.Perm.refl _,fun x c=> a x (List.mem_cons_of_mem _ c),h.bel.trans s,h.sbn,fun g i=> h.vn g (by rw [←C];exact i)⟩,a _ (List.mem_cons_self ..),⟨n,fun g Q T i O n=> (D g (Array.getElem?_eq_some_iff.1 i).1 n (blk_type i h.hp.row (fun e=> O e.symm))).trans i⟩⟩
  obtain ⟨x,c,rfl⟩:=List.mem_map.1 N
  rw [lt_less (a x (List.mem_cons_of_mem _ c)) (a _ (List.mem_cons_self ..))]
  exact d x.1 (List.mem_map.2 ⟨x,c,rfl⟩)
theorem ScW.len {w0:World} {a:Nat} {b ub:ByteArray} {P:List Tr.Plc} {v:Value} {K:Nat→ByteArray×Nat} {L:List (Nat×Tr.Plc)} {W:World} (h:ScW w0 A a b ub P v K L W):L.length=P.length:=by
 have:=h.pm.length_eq;rw [List.length_map] at this;exact this
theorem ScW.lt {w0:World} {d:Nat} {e ub:ByteArray} {P:List Tr.Plc} {v:Value} {K:Nat→ByteArray×Nat} {L:List (Nat×Tr.Plc)} {W:World} (h:ScW w0 A d e ub P v K L W):∀b∈L.map (·.1),b < W.heap.size:=fun b a=> by
 obtain ⟨u,c,q⟩:=h.hp.pl b a;exact q.lt
def LayC (A:List Nat) (W:World) (v:Value) (ml:List (Int×ByteArray×ByteArray)):Prop:=(ml=[]∧∃a c,v= .slice a 0 c)∨(ml≠[]∧∃g o cap cur,v= .slice (some ⟨g,o,none⟩) ml.length cap∧ml.length≤cap∧W.heap[g]?=some (.cells cur 34 (0,0))∧g∉A∧∀j u,(ccells ml)[j]?=some u→W.cell? ⟨g,o+j,none⟩=some u)
set_option maxHeartbeats 1000000 in
set_option maxRecDepth 4000 in
theorem sLay_any {w0:World} {z:Nat} {Q ub:ByteArray} {P:List Tr.Plc} {W:World} (h:ScM w0 A z Q ub P W) (l:Nat) (f:Tr.Key) (m:Option Tr.Key) (v:Value) (ml:List (Int×ByteArray×ByteArray)) (U:LayC A W v ml) (hl:P.length≤18000000) (V:ml.length≤1000):
  Calls Tryz.prog 132 #[.pointer (some ⟨z,0,none⟩),.int .i64 (l:Nat),v] W fun r W'=> r= .returned (.tuple #[])∧ScM w0 A z Q ub (Tr.lay l f m (plainCh ml)++P) W'∧Frm z W W':=by
 rcases U with ⟨rfl,a,c,rfl⟩ | ⟨G,g,o,i,I,rfl,x,y,S,p⟩
 ·have H:=hid h
  go_enter Tryz.func132,Tryz.ntmps132
  go_wp2_with fail
  go_end0
  exact ⟨rfl,H.out,Nat.le_refl _,fun _ _ _ y _ _=> y⟩
 ·obtain ⟨c,e,rfl⟩:∃c e,ml=c::e:=by cases ml with
   | nil=> exact absurd rfl G
   | cons c e=> exact ⟨c,e,rfl⟩
  obtain ⟨N,d,O⟩:=c
  obtain ⟨Y,K,L,B⟩:=h
  have X:W.cell? ⟨g,o+1,none⟩=some (.string d):=p 1 _ rfl
  have J:Below W.heap.size W (W.alloc (.cells #[.string d,.int .i64 (l:Nat),.pointer none,.slice (some ⟨g,o,none⟩) (e.length+1) i] 139)):=(Below.refl _ W).alloc (Nat.le_refl _) _
  have k:Below W.heap.size W (W.alloc (.cells #[.string d,.int .i64 (l:Nat),.pointer none,.slice (some ⟨g,o,none⟩) (e.length+1) i] 139)).drew:=J.drew
  have n:=k.block g (Array.getElem?_eq_some_iff.1 y).1
  have M:PlM w0 A (W.alloc (.cells #[.string d,.int .i64 (l:Nat),.pointer none,.slice (some ⟨g,o,none⟩) (e.length+1) i] 139)).drew W.heap.size (d,l) (.ch l f m (N,d.data.toList,O.data.toList) (plainCh e)):=
   ⟨rfl,rfl,g,o,i,(N,d,O)::e,I,heap_alloc_new _ _,rfl,n.trans y,fun j u T=> (World.cell?_of_block (w:=W) (a:=⟨g,o+j,none⟩) n).trans (p j u T),x,S,V⟩
  have C:=hid (push_sc (B.below k) (b:=W.heap.size) (fun q=> by have:=B.lt _ q;omega) M (by rw [B.len];omega))
  have R:(0:Int) < (e.length:Int)+1:=by omega
  have D:Hid (Frm z W (W.alloc (.cells #[.string d,.int .i64 (l:Nat),.pointer none,.slice (some ⟨g,o,none⟩) (e.length+1) i] 139)).drew):=Frm.below k
  clear B M J k n p y
  go_enter Tryz.func132,Tryz.ntmps132
  go_upto_region 1 with fail
  go_region_law (go_simp;go_at_call 186;refine C.out.mono ?_;rintro r Z ⟨rfl,s,t⟩;have E:=hid s;have F:=hid (D.out.trans t);clear s t)
  all_goals
   go_wp2_with fail
   go_end0
   exact ⟨rfl,E.out,F.out⟩
end Go.Proofs.YtolgpnaoaodepaaGreat
namespace Go.Proofs.YtolgpnaoaodepaaGreat
open Go.RowKit
variable {A:List Nat}
theorem ScM.perm {w0:World} {b:Nat} {c ub:ByteArray} {P Q:List Tr.Plc} {W:World} (h:ScM w0 A b c ub P W) (d:P.Perm Q):ScM w0 A b c ub Q W:=by
 obtain ⟨v,K,L,a⟩:=h
 exact ⟨v,K,L,a.hp,a.pm.trans d,a.pl,a.bel,a.sbn,a.vn⟩
theorem ScM.below {w0:World} {a:Nat} {b ub:ByteArray} {P:List Tr.Plc} {W W':World} (h:ScM w0 A a b ub P W) (d:Below W.heap.size W W'):ScM w0 A a b ub P W':=by
 obtain ⟨v,K,L,c⟩:=h
 exact ⟨v,K,L,c.below d⟩
theorem ScM.bel {w0:World} {b:Nat} {c ub:ByteArray} {P:List Tr.Plc} {W:World} (h:ScM w0 A b c ub P W):Below w0.heap.size w0 W:=by obtain ⟨v,K,L,a⟩:=h;exact a.bel
theorem ScM.sc {w0:World} {a:Nat} {b ub:ByteArray} {P:List Tr.Plc} {W:World} (h:ScM w0 A a b ub P W):∃v,ScB W a b ub v:=by obtain ⟨v,K,L,c⟩:=h;exact ⟨v,c.hp.sc⟩
theorem lay_of {B:Nat} {W:World} {v:Value} {ml:List (Int×ByteArray×ByteArray)} (h:OwnsC B W v ml) (o:∀a∈A,a < B):LayC A W v ml:=by
 cases ml with
 | nil=> obtain ⟨a,c,e⟩:=rowShape h;exact .inl ⟨rfl,a,c,e⟩
 | cons c r=>
  rcases h.2 with ⟨_,f⟩ | ⟨g,b,d,e,p,i,k,s,l,m⟩
  ·simp at f
  ·refine .inr ⟨by simp,g,0,b,d,e,k,i,fun q=> by have:=o g q;omega,fun j u n=> ?_⟩
   have:=World.ownsRow.cells h (g:=g) (by rw [e];rfl) j u n
   rw [add_at] at this
   simpa using this
theorem open_tail {w0:World} {e:Nat} {d ub:ByteArray} {P:List Tr.Plc} {W:World} (h:ScM w0 A e d ub P W) {p:Nat} {l vp vc:Value} {il:List (ByteArray×ByteArray)} {ml:List (Int×ByteArray×ByteArray)} (s:NodT w0 p l vp vc) (hi:OwnsI 0 w0 l il) (x:OwnsC 0 w0 vc ml) (y:il.length+ml.length≤19) (n:Nat) (f:Tr.Key) (m:Option Tr.Key) (z:P.length≤18000000) (B:∀a∈A,a < W.heap.size):
  Calls Tryz.prog 187 #[.pointer (some ⟨p,0,none⟩),.string d] W fun r i=>∃v,r= .returned v∧Below W.heap.size W i∧Calls Tryz.prog 132 #[.pointer (some ⟨e,0,none⟩),.int .i64 (n:Nat),v] i fun r k=> r= .returned (.tuple #[])∧∃q,Tr.Scd d.data.toList (plainCh (il.map putC++ml)) q∧ScM w0 A e d ub (Tr.lay n f m q++P) k∧Frm e W k:=by
 have g:=h.bel
 refine (changesFrom_any p l vp vc il ml d W ((g.block p s.lt).trans s) (row_below hi g (Nat.le_refl _)) (row_below x g (Nat.le_refl _)) y).mono ?_
 rintro r i ⟨v,j,rfl,t,o,b⟩
 refine ⟨v,rfl,b,?_⟩
 have c:=o.len
 rw [plainCh_len,plainCh_len,List.length_append,List.length_map] at c
 refine (sLay_any (h.below b) n f m v j (lay_of t B) z (by omega)).mono ?_
 rintro r k ⟨rfl,u,w⟩
 exact ⟨rfl,_,o,u,(Frm.below b).trans w⟩
theorem nd_leaf {w0 W:World} {b:Nat} {kv:ByteArray×Nat} {f:Tr.Key} {L:Nat} {m:Option Tr.Key} {t:Tr.TreeT 0} (h:PlM w0 A W b kv (.nd f L 0 m t)) (c:Tr.Top 0 t):∃p d il,PlB W b kv.1 L (some ⟨p,0,none⟩) (.slice none 0 0)∧NodT w0 p d (.slice none 0 0) (.slice none 0 0)∧OwnsI 0 w0 d il∧plainCh (il.map putC++[])=Tr.nodeCh 0 t∧il.length≤16:=by
 obtain ⟨k,l,p,F,e,g⟩:=h
 obtain ⟨d,il,i,j,rfl,rfl⟩:=g
 refine ⟨p,d,il,e,i,j,?_,by rw [←plain_len il];exact c⟩
 rw [List.append_nil]
 show (il.map putC).map _=(plain il).map _
 unfold plain
 rw [List.map_map,List.map_map]
 rfl
set_option maxHeartbeats 1000000 in
set_option maxRecDepth 4000 in
theorem sOpenL_any {w0:World} {e:Nat} {c ub:ByteArray} {R:List Tr.Plc} {W:World} (h:ScM w0 A e c ub R W) {b:Nat} {kv:ByteArray×Nat} {f:Tr.Key} {L:Nat} {m:Option Tr.Key} {t:Tr.TreeT 0} (O:PlM w0 A W b kv (.nd f L 0 m t)) (g:Tr.Top 0 t) (hR:R.length≤16000000) (Y:∀a∈A,a < W.heap.size):
  Calls Tryz.prog 133 #[.pointer (some ⟨e,0,none⟩),.pointer (some ⟨b,0,none⟩)] W fun r W'=> r= .returned (.tuple #[])∧∃k,Tr.Scd c.data.toList (Tr.nodeCh 0 t) k∧ScM w0 A e c ub (Tr.kidsFrom c.data.toList L m 0 t++(Tr.lay L f m k++R)) W'∧Frm e W W':=by
 obtain ⟨p,E,il,F,s,hi,N,P⟩:=nd_leaf O g
 have d:=h.bel
 have i:NodT W p E (.slice none 0 0) (.slice none 0 0):=(d.block p s.lt).trans s
 obtain ⟨n0,n1,n2,-⟩:=i.cells
 obtain ⟨b0,Q,b2,b3⟩:=F.cells
 obtain ⟨vs,j⟩:=h.sc
 obtain ⟨S,s1,s2,s3⟩:=j.cells
 have u:Hid (∀W',NodT W' p E (.slice none 0 0) (.slice none 0 0)→Calls Tryz.prog 77 #[.pointer (some ⟨p,0,none⟩),.string c] W' fun r w'=> r= .returned (.int .i64 0)∧w'=W'):=fun W' K=> tFind_any p 0 E (.slice none 0 0) (.slice none 0 0) [] c W' K (World.ownsRow_nil _ _ _ _) (by simp)
 have w:=hid i
 have x:Hid (∀W',Below W.heap.size W W'→Calls Tryz.prog 187 #[.pointer (some ⟨p,0,none⟩),.string c] W' fun r G=>∃v,r= .returned v∧Below W'.heap.size W' G∧Calls Tryz.prog 132 #[.pointer (some ⟨e,0,none⟩),.int .i64 (L:Nat),v] G fun r J=> r= .returned (.tuple #[])∧∃k,Tr.Scd c.data.toList (Tr.nodeCh 0 t) k∧ScM w0 A e c ub (Tr.lay L f m k++R) J∧Frm e W J):=fun W' n=> by
  refine (open_tail (ml:=[]) (h.below n) s hi (World.ownsRow_nil _ _ _ _) (by simp;omega) L f m (by omega) (fun a X=> Nat.lt_of_lt_of_le (Y a X) n.size)).mono ?_
  rintro r G ⟨v,rfl,H,I⟩
  refine ⟨v,rfl,H,I.mono ?_⟩
  rintro r J ⟨rfl,k,T,U,V⟩
  exact ⟨rfl,k,by rw [←N];exact T,U,(Frm.below n).trans V⟩
 have y:=F.lt
 have z:=j.lt
 clear h O g s hi i j F N d
 go_enter Tryz.func133,Tryz.ntmps133
 go_upto_region 1 with fail
 go_quiet (exact Calls.quiet_of_same (u.out _ w.out))
 go_wp2_with fail
 go_loopw [23] (fun M wr=> M= .int .i64 0∧wr=W.drewN nq) (fun _ _=> 0)
 case atStart=> exact ⟨rfl,rfl⟩
 case round=>
  obtain ⟨rfl,rfl⟩:=hrel
  go_upto_region 6 with fail
  have B:=hid (x.out (W.drewN nq).drew ((below_drewN (Below.refl _ W) nq).drew))
  go_region_law (first
   | (go_simp;go_at_call 187;refine B.out.mono ?_;rintro r w2 ⟨v2,rfl,l,o⟩;have C:=hid o;have Z:=(l.cell (p:=⟨b,1,none⟩) y).trans Q;have y0:=(l.cell (p:=⟨e,0,none⟩) z).trans S;clear l o)
   | (go_simp;go_at_call 132;refine C.out.mono ?_;rintro r w3 ⟨rfl,q⟩;have D:=hid q;clear q))
  all_goals
   go_wp2_with fail
   go_end0
   exact ⟨rfl,D.out⟩
end Go.Proofs.YtolgpnaoaodepaaGreat
namespace Go.Proofs.YtolgpnaoaodepaaGreat
open Go.RowKit
variable {A:List Nat}
theorem nd_branch {w0 W:World} {b:Nat} {kv:ByteArray×Nat} {f:Tr.Key} {L h:Nat} {m:Option Tr.Key} {d:List (Tr.Key×Tr.TreeT h)} {g:List Tr.Ch} (n:PlM w0 A W b kv (.nd f L (h+1) m (Tr.brT d g))):∃p vp vc pl ml G,PlB W b kv.1 L (some ⟨p,0,none⟩) (.slice none 0 0)∧NodT w0 p (.slice none 0 0) vp vc∧OwnsP 0 w0 vp pl∧OwnsC 0 w0 vc ml∧plainCh ml=g∧Kids (Rep h w0) pl d G:=by
 obtain ⟨o,q,p,F,i,j⟩:=n
 obtain ⟨vp,vc,pl,ml,G,k,a,c,e,l,-⟩:=j
 exact ⟨p,vp,vc,pl,ml,G,i,k,a,c,e,l⟩
theorem Kids.drop {α:Type} {R:Nat→α→List Nat→Prop}:∀(n:Nat) {pl:List (ByteArray×Nat)} {a:List (Tr.Key×α)} {G:List Nat},Kids R pl a G→∃b,Kids R (pl.drop n) (a.drop n) b
 | 0,_,_,_,h=> ⟨_,h⟩
 | _+1,[],[],_,_=> ⟨[],rfl⟩
 | n+1,_::_,_::_,_,⟨_,_,_,_,h,_⟩=> Kids.drop n h
 | _+1,[],_::_,_,h=> h.elim
 | _+1,_::_,[],_,h=> h.elim
theorem nodes_at {w0:World} {h L:Nat} {hi:Option Tr.Key}:∀{pl:List (ByteArray×Nat)} {b:List (Tr.Key×Tr.TreeT h)} {G:List Nat},Kids (Rep h w0) pl b G→∀(i:Nat) (a:i < pl.length),∃f m t F,(Tr.nodes L b hi)[i]?=some (.nd f L h m t)∧(pl[i]'a).1.data.toList=f∧Rep h w0 (pl[i]'a).2 t F
 | x::pl,(f,t)::b,_,⟨e,G1,G2,h1,h2,_⟩,0,_=> ⟨f,_,t,G1,rfl,e,h1⟩
 | x::pl,(f,t)::b,_,⟨e,G1,G2,h1,h2,_⟩,i+1,a=> nodes_at h2 i (by simpa using a)
 | [],_,_,_,_,a=> by simp at a
theorem nodes_len {h L:Nat} {hi:Option Tr.Key}:∀(a:List (Tr.Key×Tr.TreeT h)),(Tr.nodes L a hi).length=a.length
 | []=> rfl
 | (f,t)::r=> by rw [Tr.nodes,List.length_cons,List.length_cons,nodes_len r]
theorem take_rev {α:Type} (Q R:List α) {i:Nat} {q:α} (h:Q[i]?=some q):(Q.take (i+1)).reverse++R=q::((Q.take i).reverse++R):=by
 rw [List.take_add_one,h];simp
set_option maxHeartbeats 1000000 in
set_option maxRecDepth 4000 in
theorem sOpenB_any {w0:World} {j:Nat} {l ub:ByteArray} {R:List Tr.Plc} {W:World} (hM:ScM w0 A j l ub R W) {b:Nat} {kv:ByteArray×Nat} {f:Tr.Key} {L h:Nat} {m:Option Tr.Key} {M:List (Tr.Key×Tr.TreeT h)} {w:List Tr.Ch} (hp:PlM w0 A W b kv (.nd f L (h+1) m (Tr.brT M w))) (c4:M.length≤4∧w.length≤8) (c5:0 < M.length) (hR:R.length≤16000000) (hL:L≤20000000000000) (hA:∀a∈A,a < W.heap.size):
  Calls Tryz.prog 133 #[.pointer (some ⟨j,0,none⟩),.pointer (some ⟨b,0,none⟩)] W fun r W'=> r= .returned (.tuple #[])∧∃cs,Tr.Scd l.data.toList w cs∧ScM w0 A j l ub (Tr.nodes (L+1) (M.drop (Tr.ix (M.map (·.1)) l.data.toList)) m++(Tr.lay L f m cs++R)) W'∧Frm j W W':=by
 obtain ⟨p,vp,vc,pl,ml,G,hb,hn,B,a7,he,hk⟩:=nd_branch hp
 have o:=hM.bel
 have s:=hk.keys
 have y:=hk.len
 have N:NodT W p (.slice none 0 0) vp vc:=(o.block p hn.lt).trans hn
 have E:OwnsP 0 W vp pl:=row_below B o (Nat.le_refl _)
 obtain ⟨n,C⟩:∃n,n=Tr.ix (pkeys pl) l.data.toList:=⟨_,rfl⟩
 have c6:n < pl.length:=by
  rw [C]
  have:=ix_lt (pkeys pl) l.data.toList (by intro q;unfold pkeys at q;rw [List.map_eq_nil_iff] at q;rw [q] at y;simp at y;omega)
  simpa [pkeys] using this
 rw [←s,←C]
 obtain ⟨G',a8⟩:=hk.drop n
 obtain ⟨g,a9,rfl,e9,-,U,-,-⟩:=B.at n c6
 have c7:Hid (∀i (hi:n+i < pl.length),w0.cell? ⟨g,n*2+i*2,none⟩=some (.string (pl[n+i]'hi).1)∧w0.cell? ⟨g,n*2+i*2+1,none⟩=some (.pointer (some ⟨(pl[n+i]'hi).2,0,none⟩))):=fun i hi=> by
  obtain ⟨g',f0,e,-,-,-,x0,x1⟩:=B.at (n+i) hi
  simp only [Value.slice.injEq,Option.some.injEq,Addr.mk.injEq,and_true,true_and] at e
  obtain ⟨rfl,-⟩:=e
  rw [show (n+i)*2=n*2+i*2 by omega] at x0 x1
  exact ⟨x0,x1⟩
 have c8:Hid (∀i (hi:n+i < pl.length),∃f' m' t' F',(Tr.nodes (L+1) (M.drop n) m)[i]?=some (.nd f' (L+1) h m' t')∧(pl[n+i]'hi).1.data.toList=f'∧Rep h w0 (pl[n+i]'hi).2 t' F'):=fun i hi=> by
  have:=nodes_at (L:=L+1) (hi:=m) a8 i (by rw [List.length_drop];omega)
  simpa only [List.getElem_drop] using this
 have a3:Hid ((Tr.nodes (L+1) (M.drop n) m).length=pl.length - n):=by show _=_;rw [nodes_len,List.length_drop,y]
 obtain ⟨n0,n1,n2,-⟩:=N.cells
 obtain ⟨b0,b1,b2,b3⟩:=hb.cells
 obtain ⟨vs,V⟩:=hM.sc
 obtain ⟨s0,s1,s2,s3⟩:=V.cells
 have c9:Hid (∀k,Calls Tryz.prog 77 #[.pointer (some ⟨p,0,none⟩),.string l] (W.drewN k) fun r w'=> r= .returned (.int .i64 (n:Nat))∧w'=W.drewN k):=fun k=> by
  have:=tFind_any p 0 _ _ vc pl l (W.drewN k) N E (by omega)
  rw [←C] at this
  exact this
 have d0:Hid (∀P W',ScM w0 A j l ub P W'→W.heap.size≤W'.heap.size→P.length≤18000000→Calls Tryz.prog 187 #[.pointer (some ⟨p,0,none⟩),.string l] W' fun r W1=>∃v,r= .returned v∧Below W'.heap.size W' W1∧Calls Tryz.prog 132 #[.pointer (some ⟨j,0,none⟩),.int .i64 (L:Nat),v] W1 fun r W2=> r= .returned (.tuple #[])∧∃cs,Tr.Scd l.data.toList w cs∧ScM w0 A j l ub (Tr.lay L f m cs++P) W2∧Frm j W' W2):=fun P W' e7 c0 a5=> by
  have:=open_tail (il:=[]) e7 hn (World.ownsRow_nil _ _ _ _) a7 (by rw [←plainCh_len ml,he];simp;omega) L f m a5 (fun a ha=> Nat.lt_of_lt_of_le (hA a ha) c0)
  rw [show plainCh (([]:List (ByteArray×ByteArray)).map putC++ml)=w from he] at this
  exact this
 have HM:=hid hM
 have HP:=hid hp
 have d1:=hid V
 have f1:=hid U
 have c1:n≤pl.length:=by omega
 have c2:¬a9=n:=by omega
 have c3:n≤a9:=by omega
 have e8:pl.length≤4:=by omega
 have xw:IntKind.i64.wrap ((L:Int)+1)=(L:Int)+1:=by rw [IntKind.wrap_i64];omega
 clear hM hp hb hn B a7 he hk N E a8 V o C s y c5 c4
 generalize hQ:Tr.nodes (L+1) (M.drop n) m=Q at*
 go_enter Tryz.func133,Tryz.ntmps133
 go_upto_region 1 with fail
 go_quiet (exact Calls.quiet_of_same (c9.out _))
 go_wp2_with fail
 go_loopw [23] (fun Z wr=>∃i:Nat,Z= .int .i64 (i:Nat)∧i≤pl.length - n∧ScM w0 A j l ub ((Q.take i).reverse++R) wr∧Frm j W wr) (fun Z _=> pl.length - n - (intOf Z).toNat)
 case atStart=> exact ⟨0,rfl,Nat.zero_le _,HM.out.below (below_drewN (Below.refl _ W) nq),Frm.below (below_drewN (Below.refl _ W) nq)⟩
 case round=>
  obtain ⟨i,rfl,hi,hS,hF⟩:=hrel
  have HS:=hid hS
  have O:=hid hF
  have d2:=HP.out.frm d1.out hF
  obtain ⟨q1,q2,qp,qF,t,e6⟩:=d2
  obtain ⟨y0,y1,y2,y3⟩:=t.cells
  obtain ⟨f4,u⟩:=hS.sc
  obtain ⟨z0,z1,z2,z3⟩:=u.cells
  have F:=t.lt
  have a4:=u.lt
  have a5:((Q.take i).reverse++R).length≤18000000:=by rw [List.length_append,List.length_reverse,List.length_take];omega
  clear hS hF t e6 u b0 b1 b2 b3 s0 s1 s2 s3 n0 n1 n2
  by_cases f5:i < pl.length - n
  ·have S:n+i < pl.length:=by omega
   obtain ⟨x0,x1⟩:=c7.out i S
   have f2:=(HS.out.bel.cell (p:=⟨g,n*2+i*2,none⟩) U).trans x0
   have f3:=(HS.out.bel.cell (p:=⟨g,n*2+i*2+1,none⟩) U).trans x1
   obtain ⟨f',m',t',F',hq,J,K⟩:=c8.out i S
   have HQ:=hid hq
   have H:=hid J
   have I:=hid K
   clear x0 x1 hq J K
   generalize pl[n+i]'S=x at*
   obtain ⟨c,d⟩:=x
   have z:Below wr.heap.size wr (wr.alloc (.cells #[.string c,.pointer (some ⟨d,0,none⟩)] 132)):=(Below.refl _ wr).alloc (Nat.le_refl _) _
   have hA:(wr.alloc (.cells #[.string c,.pointer (some ⟨d,0,none⟩)] 132)).heap[wr.heap.size]?=some (.cells #[.string c,.pointer (some ⟨d,0,none⟩)] 132 (0,0)):=heap_alloc_new _ _
   have a0:(wr.alloc (.cells #[.string c,.pointer (some ⟨d,0,none⟩)] 132)).cell? ⟨wr.heap.size,0,none⟩=some (.string c):=cell_blk hA 0
   have a1:(wr.alloc (.cells #[.string c,.pointer (some ⟨d,0,none⟩)] 132)).cell? ⟨wr.heap.size,1,none⟩=some (.pointer (some ⟨d,0,none⟩)):=cell_blk hA 1
   have a2:=(z.cell (p:=⟨b,1,none⟩) F).trans y1
   have d3:(wr.alloc (.cells #[.string c,.pointer (some ⟨d,0,none⟩)] 132)).heap.size=wr.heap.size+1:=by simp
   have T:Below wr.heap.size wr ((wr.alloc (.cells #[.string c,.pointer (some ⟨d,0,none⟩)] 132)).alloc (.cells #[.string c,.int .i64 ((L:Int)+1),.pointer (some ⟨d,0,none⟩),.slice none 0 0] 139)).drew:=(z.alloc z.size _).drew
   have a6:PlB ((wr.alloc (.cells #[.string c,.pointer (some ⟨d,0,none⟩)] 132)).alloc (.cells #[.string c,.int .i64 ((L:Int)+1),.pointer (some ⟨d,0,none⟩),.slice none 0 0] 139)).drew (wr.heap.size+1) c (L+1) (some ⟨d,0,none⟩) (.slice none 0 0):=by
    have:=heap_alloc_new (wr.alloc (.cells #[.string c,.pointer (some ⟨d,0,none⟩)] 132)) (.cells #[.string c,.int .i64 ((L:Int)+1),.pointer (some ⟨d,0,none⟩),.slice none 0 0] 139)
    rw [d3] at this
    exact this
   obtain ⟨v9,K9,L9,D⟩:=HS.out
   have d4:=hid (push_sc (D.below T) (b:=wr.heap.size+1) (kv:=(c,L+1)) (p:= .nd f' (L+1) h m' t') (fun q=> by have:=D.lt _ q;omega) ⟨H.out,rfl,d,F',a6,I.out⟩ (by rw [D.len];omega))
   have d5:Hid (Frm j wr ((wr.alloc (.cells #[.string c,.pointer (some ⟨d,0,none⟩)] 132)).alloc (.cells #[.string c,.int .i64 ((L:Int)+1),.pointer (some ⟨d,0,none⟩),.slice none 0 0] 139)).drew):=Frm.below T
   clear hA z T a6 D I H
   go_upto_region 4 with fail
   go_region_law (go_simp;go_at_call 186;refine d4.out.mono ?_;rintro r w5 ⟨rfl,b4,b5⟩;have d6:=hid b4;have d7:=hid (O.out.trans (d5.out.trans b5));clear b4 b5)
   all_goals
    go_wp2_with fail
    exact ⟨⟨i+1,by go_num,by omega,by rw [take_rev Q R HQ.out];exact d6.out,d7.out⟩,by simp [intOf];omega⟩
  ·have d8:i=pl.length - n:=by omega
   subst d8
   have d9:Hid (ScM w0 A j l ub (Q.reverse++R) wr):=by
    have:=HS.out
    rw [List.take_of_length_le (by rw [a3.out];exact Nat.le_refl _)] at this
    exact this
   have e0:=hid (d0.out _ wr.drew (d9.out.below ((Below.refl _ wr).drew)) O.out.1 (by rw [List.length_append,List.length_reverse,a3.out];omega))
   go_upto_region 6 with fail
   go_region_law (first
    | (go_simp;go_at_call 187;refine e0.out.mono ?_;rintro r w2 ⟨v2,rfl,X,b6⟩;have e2:=hid b6;have u1:=(X.cell (p:=⟨b,1,none⟩) F).trans y1;have u0:=(X.cell (p:=⟨j,0,none⟩) a4).trans z0;clear X b6)
    | (go_simp;go_at_call 132;refine e2.out.mono ?_;rintro r w3 ⟨rfl,Y,b7,b8,b9⟩;have e3:=hid b7;have e4:=hid b8;have e5:Hid (Frm j W w3):=O.out.trans (Frm.trans (Frm.below (W:=wr) ((Below.refl _ wr).drew)) b9);clear b7 b8 b9))
   all_goals
    go_wp2_with fail
    go_end0
    refine ⟨rfl,Y,e3.out,e4.out.perm ?_,e5.out⟩
    have e1:(Tr.lay L f m Y++(Q.reverse++R)).Perm (Q.reverse++(Tr.lay L f m Y++R)):=by
     rw [←List.append_assoc,←List.append_assoc]
     exact (List.perm_append_comm).append_right R
    exact e1.trans ((List.reverse_perm Q).append_right _)
end Go.Proofs.YtolgpnaoaodepaaGreat
namespace Go.Proofs.YtolgpnaoaodepaaGreat
open Go.RowKit
variable {A:List Nat}
theorem sOpen_any {w0:World} {g:Nat} {e ub:ByteArray} {R:List Tr.Plc} {W:World} (l:ScM w0 A g e ub R W) {b:Nat} {kv:ByteArray×Nat} {f:Tr.Key} {L h D:Nat} {m:Option Tr.Key} {t:Tr.TreeT h} (n:PlM w0 A W b kv (.nd f L h m t)) (j:(Tr.Plc.nd f L h m t).ok e.data.toList D) (o:R.length≤16000000) (v:D≤20000000000000) (p:∀a∈A,a < W.heap.size):
  Calls Tryz.prog 133 #[.pointer (some ⟨g,0,none⟩),.pointer (some ⟨b,0,none⟩)] W fun r W'=> r= .returned (.tuple #[])∧∃k,Tr.Scd e.data.toList (Tr.nodeCh h t) k∧ScM w0 A g e ub (Tr.kidsFrom e.data.toList L m h t++(Tr.lay L f m k++R)) W'∧Frm g W W':=by
 obtain ⟨i,c,d,q⟩:=j
 cases h with
 | zero=> exact sOpenL_any l n c o p
 | succ h=>
  obtain ⟨u,s⟩:=t
  exact sOpenB_any l n c (chain_some d i.1) o (by omega) p
theorem ScM.more {w0:World} {k:Nat} {l ub:ByteArray} {P:List Tr.Plc} {W:World} (h:ScM w0 A k l ub P W) {N:Nat} (D:W.heap.size≤N):ScM w0 (N::A) k l ub P W:=by
 obtain ⟨v,K,L,a⟩:=h
 refine ⟨v,K,L,a.hp,a.pm,fun x C=> ?_,a.bel,a.sbn,a.vn⟩
 have:=a.pl x C
 obtain ⟨b,p⟩:=x
 cases p using Tr.Plc.two with
 | nd f L h' m t=> exact this
 | ch L f m c cs=>
  obtain ⟨n,r,g,o,d,ml,i,s,u,j,w,y,z,B⟩:=this
  refine ⟨n,r,g,o,d,ml,i,s,u,j,w,y,fun q=> ?_,B⟩
  rcases List.mem_cons.1 q with e | e
  ·have:=(Array.getElem?_eq_some_iff.1 j).1;omega
  ·exact z e
theorem PlM.less {w0 W:World} {b N:Nat} {kv:ByteArray×Nat} {p:Tr.Plc} (h:PlM w0 (N::A) W b kv p):PlM w0 A W b kv p:=by
 cases p using Tr.Plc.two with
 | nd f L h' m t=> exact h
 | ch L f m c cs=>
  obtain ⟨e,i,g,o,a,ml,d,j,k,l,n,r,s,u⟩:=h
  exact ⟨e,i,g,o,a,ml,d,j,k,l,n,r,fun q=> s (List.mem_cons_of_mem _ q),u⟩
theorem ScM.less {w0:World} {b:Nat} {c ub:ByteArray} {P:List Tr.Plc} {W:World} {N:Nat} (h:ScM w0 (N::A) b c ub P W):ScM w0 A b c ub P W:=by
 obtain ⟨v,K,L,a⟩:=h
 exact ⟨v,K,L,a.hp,a.pm,fun x d=> (a.pl x d).less,a.bel,a.sbn,a.vn⟩
theorem ScM.set {w0:World} {r:Nat} {R ub:ByteArray} {P:List Tr.Plc} {W W':World} (h:ScM w0 A r R ub P W) {N:Nat} {E:Array Value} (G:W.heap[N]?=some (.cells E 34 (0,0))) (H:N∈A) (I:w0.heap.size≤N) (m:Mod (fun g=> g=N) W W'):ScM w0 A r R ub P W':=by
 obtain ⟨v,K,L,d⟩:=h
 have S:r≠N:=fun e=> by have:=d.hp.sc;unfold ScB at this;rw [e,G] at this;simp at this
 have T:v.ownBlock≠some N:=blk_type G d.hp.row (by decide)
 have s:∀b key O Q ch,PlB W b key O Q ch→b≠N:=fun b key O Q ch q e=> by unfold PlB at q;rw [e,G] at q;simp at q
 refine ⟨v,K,L,⟨(m.block r d.hp.sc.lt S).trans d.hp.sc,row_same d.hp.row fun g Y D=> m.block g D (fun e=> T (by rw [←e];exact Y)),fun b Z=> ?_,d.hp.heap⟩,d.pm,fun x hx=> ?_,d.bel.trans (m.below d.bel.size fun k e=> by rw [e];exact I),d.sbn,d.vn⟩
 ·obtain ⟨u,c,q⟩:=d.hp.pl b Z
  exact ⟨u,c,(m.block b q.lt (s _ _ _ _ _ q)).trans q⟩
 ·have:=d.pl x hx
  obtain ⟨b,p⟩:=x
  cases p using Tr.Plc.two with
  | nd f L h' m' t=>
   obtain ⟨y,z,p,F,i,B⟩:=this
   exact ⟨y,z,p,F,(m.block b i.lt (s _ _ _ _ _ i)).trans i,B⟩
  | ch L f m' c cs=>
   obtain ⟨y,z,g,o,C,ml,n,i,B,J,U,V,M,X⟩:=this
   have l:=m.block g (Array.getElem?_eq_some_iff.1 J).1 (fun e=> M (by rw [e];exact H))
   exact ⟨y,z,g,o,C,ml,n,(m.block b i.lt (s _ _ _ _ _ i)).trans i,B,l.trans J,fun j u hj=> (World.cell?_of_block (w:=W) (a:=⟨g,o+j,none⟩) l).trans (U j u hj),V,M,X⟩
theorem ChB.put {w:World} {b:Nat} {k:Int} {key x:ByteArray} (h:ChB w b k key x) (c:Int) (a d:ByteArray):ChB (((w.setCell ⟨b,0,none⟩ (.int .i64 c)).setCell ⟨b,1,none⟩ (.string a)).setCell ⟨b,2,none⟩ (.string d)) b c a d:=by
 unfold ChB at*
 have e:=heap_setCell_at (i:=0) h (.int .i64 c)
 have f:=heap_setCell_at (i:=1) e (.string a)
 have g:=heap_setCell_at (i:=2) f (.string d)
 rw [g];rfl
theorem Frm.set {d N:Nat} {W W' a:World} (h:Frm d W W') (k:W.heap.size≤N) (m:Mod (fun g=> g=N) W' a):Frm d W a:=⟨Nat.le_trans h.1 m.size,fun g f T c i j=> by
 have b:=h.2 g f T c i j
 have e:=(Array.getElem?_eq_some_iff.1 c).1
 exact (m.block g (Array.getElem?_eq_some_iff.1 b).1 (by omega)).trans b⟩
theorem min_fun {α β:Type} (I:α→β→Prop) (d:β→Nat):∃μ:α→Nat,(∀a b,I a b→μ a≤d b)∧∀a,(∃b,I a b)→∃b,I a b∧d b=μ a:=by
 have h:∀a,∃n,(∀b,I a b→n≤d b)∧((∃b,I a b)→∃b,I a b∧d b=n):=fun a=> by
  by_cases j:∃b,I a b
  ·obtain ⟨b,f⟩:=j
   generalize l:d b=n
   induction n using Nat.strongRecOn generalizing b with
   | ind n ih=>
    by_cases k:∃c,I a c∧d c < n
    ·obtain ⟨c,g,i⟩:=k
     exact ih (d c) i c g rfl
    ·exact ⟨n,fun c g=> Nat.le_of_not_lt fun q=> k ⟨c,g,q⟩,fun _=> ⟨b,f,l⟩⟩
  ·exact ⟨0,fun b f=> absurd ⟨b,f⟩ j,fun q=> absurd q j⟩
 obtain ⟨μ,e⟩:=Classical.skolem.1 h
 exact ⟨μ,fun a=> (e a).1,fun a=> (e a).2⟩
structure NxI (w0:World) (A:List Nat) (sb:Nat) (fr ub:ByteArray) (D:Nat) (P:List Tr.Plc) (W wr:World) (P1:List Tr.Plc):Prop where
 op:Tr.Opened fr.data.toList D P P1
 wt:Tr.wtP P1≤Tr.wtP P
 sc:ScM w0 A sb fr ub P1 wr
 frm:Frm sb W wr
def NxQ (w0:World) (A:List Nat) (sb:Nat) (fr ub:ByteArray) (D:Nat) (P:List Tr.Plc) (W:World) (r:Ending) (W':World):Prop:=
 (∃k key x P',r= .returned (.tuple #[.agg #[.int .i64 k,.string key,.string x],.bool true])∧Tr.NextS fr.data.toList ub.data.toList D P (chP k key x) P'∧Tr.wtP P'≤Tr.wtP P∧ScM w0 A sb fr ub P' W'∧Frm sb W W')∨
 (∃k key x,r= .returned (.tuple #[.agg #[.int .i64 k,.string key,.string x],.bool false])∧Tr.NextN fr.data.toList ub.data.toList D P∧Below w0.heap.size w0 W'∧Frm sb W W')
theorem NxI.pop {w0:World} {d:Nat} {a ub:ByteArray} {D:Nat} {P:List Tr.Plc} {W wr:World} {b:List Tr.Plc} (h:NxI w0 A d a ub D P W wr b) {p:Tr.Plc} {R:List Tr.Plc} (c:b.Perm (p::R)):Tr.Opened a.data.toList D P (p::R)∧Tr.wtP (p::R)≤Tr.wtP P:=⟨h.op.perm c,by rw [←Tr.wtP_perm c];exact h.wt⟩
set_option maxHeartbeats 2000000 in
set_option maxRecDepth 4000 in
theorem sNext_any {w0:World} {T:Nat} {U ub:ByteArray} {D:Nat} {P:List Tr.Plc} {W:World} (hM:ScM w0 A T U ub P W) (f2:Tr.SInv U.data.toList D P) (j1:Tr.wtP P≤1800000) (hD:D≤20000000000000) (hA:∀a∈A,a < W.heap.size):
  Calls Tryz.prog 68 #[.pointer (some ⟨T,0,none⟩)] W (NxQ w0 A T U ub D P W):=by
 obtain ⟨μ,a3,a4⟩:=min_fun (NxI w0 (W.heap.size::A) T U ub D P W) Tr.size
 have f3:=hid a3
 have f4:=hid a4
 have b0:Below W.heap.size W (W.alloc (.cells #[.int .i64 0,.string ⟨#[]⟩,.string ⟨#[]⟩] 34)):=(Below.refl _ W).alloc (Nat.le_refl _) _
 have d3:Hid (ChB (W.alloc (.cells #[.int .i64 0,.string ⟨#[]⟩,.string ⟨#[]⟩] 34)) W.heap.size 0 ⟨#[]⟩ ⟨#[]⟩):=heap_alloc_new _ _
 have H0:Hid (NxI w0 (W.heap.size::A) T U ub D P W (W.alloc (.cells #[.int .i64 0,.string ⟨#[]⟩,.string ⟨#[]⟩] 34)) P):=⟨Tr.Opened.start f2,Nat.le_refl _,(hM.more (Nat.le_refl _)).below b0,Frm.below b0⟩
 have b5:Hid (T < W.heap.size):=by obtain ⟨v,hv⟩:=hM.sc;exact hv.lt
 have b6:Hid (w0.heap.size≤W.heap.size):=hM.bel.size
 clear a3 a4 hM b0
 go_enter Tryz.func68,Tryz.ntmps68
 go_wp2_with fail
 go_loopw [4] (fun _ wr=> (∃P1,NxI w0 (W.heap.size::A) T U ub D P W wr P1)∧ChB wr W.heap.size 0 ⟨#[]⟩ ⟨#[]⟩) (fun _ wr=> μ wr)
 case atStart=> exact ⟨⟨P,H0.out⟩,d3.out⟩
 case round=>
  obtain ⟨hrel,O⟩:=hrel
  obtain ⟨P1,hI,e7⟩:=f4.out wr hrel
  have HI:=hid hI
  have f5:=hid e7
  obtain ⟨v1,K1,L1,hS⟩:=hI.sc
  have HS:=hid hS
  obtain ⟨a1,c1,rfl⟩:=rowShape hS.hp.row
  obtain ⟨s0,s1,s2,s3⟩:=hS.hp.sc.cells
  rw [List.length_map,hS.len] at s2
  have f6:P1.length≤1800000:=Nat.le_trans (Tr.wtP_len hI.op.inv.ok) (Nat.le_trans hI.wt j1)
  have b7:=hid O
  have b8:=hid hI.frm
  obtain ⟨d0,d1,d2⟩:=O.cells
  obtain ⟨e0,e1,e2⟩:=(show wr.frozen? ⟨W.heap.size,0,none⟩=false∧wr.frozen? ⟨W.heap.size,1,none⟩=false∧wr.frozen? ⟨W.heap.size,2,none⟩=false by unfold ChB at O;refine ⟨?_,?_,?_⟩ <;> simp [World.frozen?,O])
  clear hI hS hrel O e7 d3
  by_cases hz:P1.length=0
  ·have f7:P1=[]:=List.eq_nil_of_length_eq_zero hz
   rw [hz] at s2
   have HN:Hid (Tr.NextN U.data.toList ub.data.toList D P):=by
    have:=HI.out.op
    rw [f7] at this
    exact this.none
   have J:=Mod.set3 wr W.heap.size 0 (.int .i64 0) (.string ⟨#[]⟩) (.string ⟨#[]⟩)
   have b9:Hid (Below w0.heap.size w0 (((wr.setCell ⟨W.heap.size,0,none⟩ (.int .i64 0)).setCell ⟨W.heap.size,1,none⟩ (.string ⟨#[]⟩)).setCell ⟨W.heap.size,2,none⟩ (.string ⟨#[]⟩))):=HI.out.sc.bel.trans (J.below HI.out.sc.bel.size fun k e=> by rw [e];exact b6.out)
   have K:=hid (b8.out.set (Nat.le_refl _) J)
   have M:=hid (b7.out.put 0 ⟨#[]⟩ ⟨#[]⟩)
   clear J
   go_wp2_with fail
   obtain ⟨g0,g1,g2⟩:=M.out.cells
   refine bodyPost_ret (v:= .tuple #[.agg #[.int .i64 0,.string ⟨#[]⟩,.string ⟨#[]⟩],.bool false]) ?_ rfl (.inr ⟨0,⟨#[]⟩,⟨#[]⟩,rfl,HN.out,b9.out,K.out⟩)
   simp [results,Tryz.results68,go_sem,g0,g1,g2]
  ·have j2:(0:Int) < (P1.length:Int):=by omega
   have d4:=hid (pop_sc HS.out (by rw [HS.out.len];omega) (by rw [HS.out.len];omega))
   have f8:=fun W' (bb:Nat)=> assertPt (some ⟨bb,0,none⟩) W'
   go_wp2_with fail
   refine d4.out.mono ?_
   rintro r l ⟨b,pp,R,v2,L2,rfl,c6,a9,c7,c8,c9⟩
   have j3:=f8 l b
   obtain ⟨e8,a5⟩:=HI.out.pop c6
   have G:=hid e8
   have N:=hid a5
   have a0:=hid a9
   have y:Hid (ScM w0 (W.heap.size::A) T U ub R l):=⟨v2,K1,L2,c7⟩
   have c2:=hid c8
   have c3:=hid (b8.out.trans c9)
   have a2:ChB l W.heap.size 0 ⟨#[]⟩ ⟨#[]⟩:=c9.2 _ _ _ b7.out (by decide) (by have:=b5.out;omega)
   have s:=hid a2
   have f9:Hid (∀P2,Tr.size P2 < Tr.size (pp::R)→Tr.size P2 < μ wr):=fun P2 h=> by
    rw [←f5.out,Tr.size_perm c6];exact h
   obtain ⟨⟨un,ch,a6⟩,a7,i8⟩:=c8.plb
   obtain ⟨p0,p1,p2,p3⟩:=a6.cells
   obtain ⟨t0,t1,t2,t3⟩:=c7.hp.sc.cells
   have d5:=hid a7
   clear c6 a9 c7 c8 c9 a2 e8 a5 a6 a7 i8 s0 s1 s2 s3 d0 d1 d2 e0 e1 e2 d4 HS HI b8 b7
   have c4:Hid (ub.data.toList=[]∨(ub.data.toList≠[]∧(K1 b).1.data.toList < ub.data.toList)∨(ub.data.toList≠[]∧¬(K1 b).1.data.toList < ub.data.toList)):=by
    by_cases S:ub.data.toList=[]
    ·exact .inl S
    ·by_cases q2:(K1 b).1.data.toList < ub.data.toList
     ·exact .inr (.inl ⟨S,q2⟩)
     ·exact .inr (.inr ⟨S,q2⟩)
   have j5:decide (0 < P1.length)=true:=decide_eq_true (by omega)
   obtain ⟨d0,d1,d2⟩:=s.out.cells
   have j6:∀o,l.frozen? ⟨W.heap.size,o,none⟩=false:=fun o=> by
    have:=s.out
    unfold ChB at this
    simp [World.frozen?,this]
   have j7:R.length≤1800000:=by
    have h1:=Tr.wtP_len G.out.inv.ok
    have h2:=N.out
    rw [List.length_cons] at h1
    omega
   have g3:∀a∈W.heap.size::A,a < l.heap.size:=fun a ha=> by
    have:=s.out.lt
    rcases List.mem_cons.1 ha with e | e
    ·omega
    ·have:=hA a e;omega
   rcases c4.out with S | ⟨S,q2⟩ | ⟨S,q2⟩
   case inr.inr=>
    have V:Hid (¬Tr.inTo ub.data.toList pp.key):=fun z=> z.elim S (fun z=> q2 (by rw [d5.out];exact z))
    have r1:(ub.toList==[])=false:=by rw [toList_is];simpa using S
    have r2:Op.bytesLess (K1 b).1.toList ub.toList=false:=by rw [toList_is,toList_is,less_is];exact decide_eq_false q2
    have HN:=hid (G.out.stop a0.out V.out)
    go_upto_region 3 with fail
    go_quiet (fail)
    have x:Below l.heap.size l (l.drewN nq):=below_drewN (Below.refl _ l) nq
    have J:=Mod.set3 (l.drewN nq) W.heap.size 0 (.int .i64 0) (.string ⟨#[]⟩) (.string ⟨#[]⟩)
    have b9:Hid (Below w0.heap.size w0 ((((l.drewN nq).setCell ⟨W.heap.size,0,none⟩ (.int .i64 0)).setCell ⟨W.heap.size,1,none⟩ (.string ⟨#[]⟩)).setCell ⟨W.heap.size,2,none⟩ (.string ⟨#[]⟩))):=(y.out.bel.trans (x.mono y.out.bel.size)).trans (J.below (Nat.le_trans y.out.bel.size x.size) fun k e=> by rw [e];exact b6.out)
    have K:=hid ((c3.out.trans (Frm.below x)).set (Nat.le_refl _) J)
    have M:Hid (ChB ((((l.drewN nq).setCell ⟨W.heap.size,0,none⟩ (.int .i64 0)).setCell ⟨W.heap.size,1,none⟩ (.string ⟨#[]⟩)).setCell ⟨W.heap.size,2,none⟩ (.string ⟨#[]⟩)) W.heap.size 0 ⟨#[]⟩ ⟨#[]⟩):=ChB.put (w:=l.drewN nq) s.out 0 ⟨#[]⟩ ⟨#[]⟩
    clear J x
    go_wp2_with fail
    obtain ⟨g0,g1,g2⟩:=M.out.cells
    refine bodyPost_ret (v:= .tuple #[.agg #[.int .i64 0,.string ⟨#[]⟩,.string ⟨#[]⟩],.bool false]) ?_ rfl (.inr ⟨0,⟨#[]⟩,⟨#[]⟩,rfl,HN.out,b9.out,K.out⟩)
    simp [results,Tryz.results68,go_sem,g0,g1,g2]
   case' inl=>
    have V:Hid (Tr.inTo ub.data.toList pp.key):= .inl S
    have r1:(ub.toList==[])=true:=by rw [toList_is];simpa using S
    go_upto_region 3 with fail
    go_quiet (fail)
   case' inr.inl=>
    have V:Hid (Tr.inTo ub.data.toList pp.key):= .inr (by rw [←d5.out];exact q2)
    have r1:(ub.toList==[])=false:=by rw [toList_is];simpa using S
    have r2:Op.bytesLess (K1 b).1.toList ub.toList=true:=by rw [toList_is,toList_is,less_is];exact decide_eq_true q2
    go_upto_region 3 with fail
    go_quiet (fail)
   all_goals
    have x:Below l.heap.size l (l.drewN nq):=below_drewN (Below.refl _ l) nq
    clear p0 p1 p2 p3
    cases pp using Tr.Plc.two with
    | nd f L h m t=>
     obtain ⟨h1,h2,p,F,h3,h4⟩:=c2.out
     obtain ⟨p0,p1,p2,p3⟩:=h3.cells
     obtain ⟨vq,B⟩:=y.out.sc
     have d6:=hid (sOpen_any (y.out.below x) (c2.out.frm B (Frm.below x)) (G.out.inv.ok _ (List.mem_cons_self ..)) (by omega) hD g3)
     have g4:=hid (G.out.inv.ok _ (List.mem_cons_self ..))
     clear h1 h2 h3 h4 B
     go_wp2_with fail
     refine d6.out.mono ?_
     rintro r Z ⟨rfl,cs,hs,Q,I⟩
     obtain ⟨e9,f0⟩:=G.out.open' hs
     have d7:Hid (NxI w0 (W.heap.size::A) T U ub D P W Z (Tr.kidsFrom U.data.toList L m h t++(Tr.lay L f m cs++R))):=⟨e9,Nat.le_trans (Tr.wtP_open g4.out hs) N.out,Q,(c3.out.trans (Frm.below x)).trans I⟩
     have g5:Hid (ChB Z W.heap.size 0 ⟨#[]⟩ ⟨#[]⟩):=I.2 _ _ _ s.out (by decide) (by have:=b5.out;omega)
     have g6:=hid (Nat.lt_of_le_of_lt (f3.out Z _ d7.out) (f9.out _ f0))
     clear hs Q I e9 f0 d6
     go_wp2_with fail
     exact ⟨⟨⟨_,d7.out⟩,g5.out⟩,g6.out⟩
    | ch L f m c cs=>
     obtain ⟨h1,h2,g,o,n,ml,i9,h3,h4,h5,h6,h7,h8,h9⟩:=c2.out
     obtain ⟨c0,i,rfl⟩:∃c0 i,ml=c0::i:=by
      cases ml with
      | nil=> cases h4
      | cons c0 r=> exact ⟨c0,r,rfl⟩
     have g7:(c0.1,c0.2.1.data.toList,c0.2.2.data.toList)=c∧plainCh i=cs:=by
      have:=List.cons.inj h4
      exact ⟨this.1,this.2⟩
     obtain ⟨ec,f1⟩:=g7
     obtain ⟨p0,p1,p2,p3⟩:=h3.cells
     obtain ⟨ck,C,cx⟩:=c0
     have x0:=h6 0 _ rfl
     have x1:=h6 1 _ rfl
     have x2:=h6 2 _ rfl
     rw [Nat.add_zero] at x0
     have X:Below l.heap.size l (l.drewN nq).drew:=x.drew
     obtain ⟨ad,j8,a8⟩:∃ad:Addr,(if n=1 then some (⟨g,o,none⟩:Addr) else some ⟨g,o+3,none⟩)=some ad∧(¬n=1→ad=⟨g,o+3,none⟩):=by
      by_cases e:n=1
      ·exact ⟨_,if_pos e,fun q=> absurd e q⟩
      ·exact ⟨_,if_neg e,fun _=> rfl⟩
     have c5:=X.block g (Array.getElem?_eq_some_iff.1 h5).1
     rw [List.length_cons] at h7 h9 p3
     have d8:LayC (W.heap.size::A) (l.drewN nq).drew (.slice (some ad) i.length (n - 1)) i:=by
      by_cases e:n=1
      ·have g8:i=[]:=List.eq_nil_of_length_eq_zero (by omega)
       subst g8
       exact .inl ⟨rfl,_,_,rfl⟩
      ·rw [a8 e]
       cases i with
       | nil=> exact .inl ⟨rfl,_,_,rfl⟩
       | cons d r=> exact .inr ⟨by simp,g,o+3,n - 1,i9,rfl,by rw [List.length_cons] at h7 ⊢;omega,c5.trans h5,h8,fun j u hj=> (World.cell?_of_block (w:=l) (a:=⟨g,o+3+j,none⟩) c5).trans (by have:=h6 (3+j) u (by show (Value.int .i64 ck::Value.string C::Value.string cx::ccells (d::r))[3+j]?=_;rw [show 3+j=j+3 by omega];exact hj);rw [←Nat.add_assoc] at this;exact this)⟩
     have g9:=hid (sLay_any (y.out.below X) L f m (.slice (some ad) i.length (n - 1)) i d8 (by omega) (by omega))
     have h0:Hid (∀P',P'.Perm (Tr.lay L f m cs++R)→Tr.NextS U.data.toList ub.data.toList D P c P'):=fun P' j0=> G.out.take a0.out V.out j0
     have i0:Hid (Tr.wtP (Tr.lay L f m cs++R)≤Tr.wtP P):=by
      show _≤_
      have h1:=N.out
      rw [Tr.wtP_cons] at h1
      rw [Tr.wtP_append]
      have h2:=(Tr.wtP_lay L f m cs).2
      have h3:(Tr.Plc.ch L f m c cs).wt=1:=rfl
      omega
     have i1:=hid ec
     have d9:=hid f1
     have i2:=hid (c3.out.trans (Frm.below X))
     have H5:=hid h5
     have i3:=hid h3
     have i4:g≠T:=fun e=> by
      obtain ⟨vq,B⟩:=y.out.sc
      unfold ScB at B;rw [←e,h5] at B;simp at B
     have i5:b≠T:=by obtain ⟨vq,B⟩:=y.out.sc;exact h3.ne B
     have b1:(1:Int)≤(i.length:Int)+1:=by omega
     have b2:1≤i.length+1:=by omega
     have b3:1≤n:=by omega
     have b4:i.length+1≤n:=h7
     clear d8 c5 h1 h2 h3 h4 h5 h6 h8 h9 ec f1 a8 X
     go_upto_region 5 with fail
     go_region_law (go_simp;go_at_call 132;refine g9.out.mono ?_;rintro r Z ⟨rfl,Q,I⟩;have i6:=hid Q;have Y:=hid I;clear Q I)
     all_goals
      have H:ChB Z W.heap.size 0 ⟨#[]⟩ ⟨#[]⟩:=Y.out.2 _ _ _ s.out (by decide) (by have:=b5.out;omega)
      have e3:PlB Z b (K1 b).1 L none (.slice (some ⟨g,o,none⟩) (i.length+1) n):=Y.out.2 _ _ _ i3.out (by decide) i5
      have e4:=Y.out.2 _ _ _ H5.out (by decide) i4
      have E:Z.heap[g]?=l.heap[g]?:=e4.trans H5.out.symm
      have y0:=(World.cell?_of_block (w:=l) (a:=⟨g,o,none⟩) E).trans x0
      have y1:=(World.cell?_of_block (w:=l) (a:=⟨g,o+1,none⟩) E).trans x1
      have y2:=(World.cell?_of_block (w:=l) (a:=⟨g,o+2,none⟩) E).trans x2
      obtain ⟨l0,l1,l2,l3⟩:=e3.cells
      obtain ⟨k0,k1,k2⟩:=H.cells
      have j4:∀o,Z.frozen? ⟨W.heap.size,o,none⟩=false:=fun o=> by
       unfold ChB at H
       simp [World.frozen?,H]
      have J:=Mod.set3 Z W.heap.size 0 (.int .i64 ck) (.string C) (.string cx)
      have M:=hid (H.put ck C cx)
      have i7:=hid ((i6.out.set H (List.mem_cons_self ..) b6.out J).less)
      have K:=hid ((i2.out.trans Y.out).set (Nat.le_refl _) J)
      clear H e3 e4 E J x0 x1 x2 p0 p1 p2 p3 d0 d1 d2 t0 t1 t2 t3
      go_wp2_with fail
      obtain ⟨g0,g1,g2⟩:=M.out.cells
      have e5:=i7.out
      rw [d9.out] at e5
      have e6:=h0.out (Tr.lay L f m cs++R) (List.Perm.refl _)
      rw [←i1.out] at e6
      refine bodyPost_ret (v:= .tuple #[.agg #[.int .i64 ck,.string C,.string cx],.bool true]) ?_ rfl (.inl ⟨ck,C,cx,Tr.lay L f m cs++R,rfl,e6,i0.out,e5,K.out⟩)
      simp [results,Tryz.results68,go_sem,g0,g1,g2]
end Go.Proofs.YtolgpnaoaodepaaGreat
