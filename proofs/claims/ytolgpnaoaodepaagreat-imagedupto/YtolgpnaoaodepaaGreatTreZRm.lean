import Derived.Test.YtolgpnaoaodepaaGreatTreZNm
import Derived.BigQuiet
import Derived.Deep.DeepCutAuto
import Derived.Test.YtolgpnaoaodepaaGreatSilBm
namespace Go.Proofs.YtolgpnaoaodepaaGreat
open Go.RowKit
structure SameB (h:Nat) (lo:Tr.Key) (hi:Option Tr.Key) (p:Nat) (F:List Nat) (w:World) (ps:List (Tr.Key×Tr.TreeT h)) (cs:List Tr.Ch) (w':World) (ps':List (Tr.Key×Tr.TreeT h)) (cs':List Tr.Ch) (F':List Nat):Prop where
 rep:Rep (h+1) w' p (Tr.brT ps' cs') F'
 nd:F'.Nodup
 wf:Tr.WF (h+1) lo hi (Tr.brT ps' cs')
 wt:Tr.wt (h+1) (Tr.brT ps' cs')≤Tr.wt (h+1) (Tr.brT ps cs)
 gone:Gone F F' w w'
 val:∀k,Tr.inR lo hi k→Tr.val (h+1) (Tr.brT ps' cs') k=Tr.val (h+1) (Tr.brT ps cs) k
theorem chain_pos {h:Nat} {lo:Tr.Key} {hi:Option Tr.Key} {R:Tr.Key→Option Tr.Key→Tr.TreeT h→Prop} {a:List (Tr.Key×Tr.TreeT h)} (b:Tr.room lo hi) (c:Tr.Chain R (some lo) hi a):0 < a.length:=by
 cases a with
 | nil=> exact absurd (b lo (show some lo=hi from c).symm).1 (Tr.lt_ir lo)
 | cons x r=> simp
theorem Foc.cut {h:Nat} {lo:Tr.Key} {hi:Option Tr.Key} {p:Nat} {w:World} {A B:List (Tr.Key×Tr.TreeT h)} {f:Tr.Key} {m:Option Tr.Key} {t:Tr.TreeT h} {b:List Tr.Ch} {F:List Nat} (a:Foc h lo hi p w A f m t B b F):
  Tr.WF (h+1) lo hi (Tr.brT (A++(Tr.cutT h f t++B)) b)∧Tr.wt (h+1) (Tr.brT (A++(Tr.cutT h f t++B)) b)≤Tr.wt (h+1) (Tr.brT (A++(f,t)::B) b)∧∀k,Tr.inR lo hi k→Tr.val (h+1) (Tr.brT (A++(Tr.cutT h f t++B)) b) k=Tr.val (h+1) (Tr.brT (A++(f,t)::B) b) k:=by
 have c:=Tr.cutT_chain h a.rm a.wf a.small
 refine ⟨⟨Tr.chain_append.2 ⟨_,a.cA,Tr.chain_append.2 ⟨_,c,a.cB⟩⟩,a.cc⟩,?_,fun k e=> ?_⟩
 ·have:=Tr.cutT_wt h f t
  have g:=chain_pos a.rm c
  rw [Tr.wt_br,Tr.wt_br,Tr.wts_append,Tr.wts_append,Tr.wts_append,Tr.wts_cons,List.length_append,List.length_append,List.length_append,List.length_cons]
  show _≤_+(_+(Tr.wt h t+_))+_
  omega
 ·have:=Tr.splice_val (X:=[(f,t)]) (Y:=Tr.cutT h f t) (small_chain a.cA) (chain_one a.rm ⟨a.wf,a.small⟩) (small_chain a.cB) (small_chain a.cA) (small_chain c) (small_chain a.cB) b (fun k d=> by rw [Tr.val_one];exact Tr.cutT_val h a.rm a.wf a.small k d) e
  simpa [Tr.brT] using this
theorem chain_some {h:Nat} {lo:Tr.Key} {hi:Option Tr.Key} {R:Tr.Key→Option Tr.Key→Tr.TreeT h→Prop} {a:List (Tr.Key×Tr.TreeT h)} (b:Tr.room lo hi) (c:Tr.Chain R (some lo) hi a):0 < a.length:=chain_pos b c
structure Tail (h:Nat) (p:Nat) (w:World) (A:List (Tr.Key×Tr.TreeT h)) (f:Tr.Key) (t:Tr.TreeT h) (B:List (Tr.Key×Tr.TreeT h)) (cs:List Tr.Ch) (F:List Nat) (vp vc:Value) (pl:List (ByteArray×Nat)) (x:ByteArray×Nat) (hx:A.length < pl.length):Prop where
 nod:NodT w p (.slice none 0 0) vp vc
 row:OwnsP 0 w vp pl
 at':pl[A.length]'hx=x
 len:pl.length≤20000000
 go:Calls Tryz.prog 64 #[.agg #[.string x.1,.pointer (some ⟨x.2,0,none⟩)]] w fun r w6=>∃v pl6,r= .returned v∧0 < pl6.length∧pl6.length≤20000000∧OwnsP 0 w6 v pl6∧(∀g,vp.ownBlock=some g→v.ownBlock≠some g)∧NodT w6 p (.slice none 0 0) vp vc∧OwnsP 0 w6 vp pl∧
  ∀v' w7,RepQ vp (repP pl A.length pl6) w6 v' w7→NodT w7 p (.slice none 0 0) vp vc∧∃F',Rep (h+1) (w7.setCell ⟨p,1,none⟩ v') p (Tr.brT (A++(Tr.cutT h f t++B)) cs) F'∧F'.Nodup∧Gone F F' w (w7.setCell ⟨p,1,none⟩ v')
theorem Foc.tail {h:Nat} {lo:Tr.Key} {hi:Option Tr.Key} {p:Nat} {w:World} {A B:List (Tr.Key×Tr.TreeT h)} {f:Tr.Key} {m:Option Tr.Key} {t:Tr.TreeT h} {cs:List Tr.Ch} {F:List Nat} (u:Foc h lo hi p w A f m t B cs F):∃vp vc pl x hx,Tail h p w A f t B cs F vp vc pl x hx:=by
 have b6:=u.len
 have b7:=u.wt
 have i:=u.rep.lt
 have V:=u.nd
 obtain ⟨vp,vc,pl,ml,G,hn,R,b5,rfl,hk,rfl⟩:=u.rep
 obtain ⟨c,x,d,E,G1,H,rfl,hl,kA,e1,r1,kB,rfl⟩:=kids_one hk
 have b8:=kB.len
 have hx:A.length < (c++x::d).length:=by simp;omega
 refine ⟨vp,vc,c++x::d,x,hx,hn,R,?_,by simp;omega,?_⟩
 ·simp [←hl]
 have J:((p::(blk vp++(blk vc++E)))++(G1++H)).Nodup:=by simpa using V
 have W:=(List.nodup_append.1 (List.nodup_append.1 J).2.1).1
 refine (cut_any h x.1 x.2 t G1 w r1 W f m u.wf (by omega)).mono ?_
 rintro r M ⟨v,j,G,rfl,O,hG,P⟩
 rw [e1] at O
 have a4:0 < j.length:=by
  rw [O.kids.len]
  exact chain_some u.rm (Tr.cutT_chain h u.rm u.wf u.small)
 have b9:j.length≤1800000:=by
  rw [O.kids.len]
  have a1:(Tr.cutT h f t).length≤Tr.wts (Tr.cutT h f t):=Tr.wt_parts (Tr.cutT_chain h u.rm u.wf u.small)
  have a2:=Tr.cutT_wt h f t
  omega
 have a5:∀g∈blk v,w.heap.size≤g:=blk_new O.row
 have D:NodT M p (.slice none 0 0) vp vc:=(P.block p hn.lt).trans hn
 have a6:OwnsP 0 M vp (c++x::d):=row_below R P (Nat.le_refl _)
 refine ⟨v,j,rfl,a4,by omega,row_zero O.row,fun g a q=> ?_,D,a6,?_⟩
 ·have h1:=a5 g (mem_blk.2 q)
  have Q:=i g (by simp [mem_blk.2 a])
  omega
 intro s I C
 have X:vp.ownBlock≠some p:=nod_row hn R (by decide)
 have T:Mod (fun k=> vp.ownBlock=some k) M I:=Mod.of_grown C.g
 have Y:NodT I p (.slice none 0 0) vp vc:=T.nod D X
 have U:=Mod.setCell I p 1 s
 have c0:=P.size
 have c1:=T.size
 have Z:s.ownBlock≠some p:=by
  rcases C.b with q | ⟨k,S,q⟩
  ·rw [q];exact X
  ·rw [q];intro e
   have:=Option.some.inj e
   have:=D.lt
   omega
 have a0:repP (c++x::d) A.length j=c++(j++d):=by
  unfold repP
  rw [←hl,List.take_left,List.append_assoc]
  congr 1
  congr 1
  rw [show c++x::d=(c++[x])++d by simp,List.drop_left' (by simp)]
 have a7:OwnsP 0 I s (c++(j++d)):=by have:=C.o;rw [a0] at this;exact this
 have l:∀g,g < M.heap.size→vp.ownBlock≠some g→g≠p→(I.setCell ⟨p,1,none⟩ s).heap[g]?=M.heap[g]?:=fun g h1 Q h3=>
  (U.block g (by omega) h3).trans (T.block g h1 Q)
 have y:∀g∈blk vc++(E++(G1++H)),vp.ownBlock≠some g∧g≠p:=fun g a=> by
  have Q:=List.nodup_cons.1 V
  have h3:=(List.nodup_append.1 Q.2).2.2
  exact ⟨fun q=> h3 g (mem_blk.2 q) g a rfl,fun q=> Q.1 (by rw [←q];exact List.mem_append_right _ a)⟩
 have n:∀g∈blk vc++(E++(G1++H)),(I.setCell ⟨p,1,none⟩ s).heap[g]?=w.heap[g]?:=fun g a=> by
  have a8:=i g (by rw [List.mem_cons];exact .inr (List.mem_append_right _ a))
  exact (l g (by omega) (y g a).1 (y g a).2).trans (P.block g a8)
 have K:∀g∈G,g < M.heap.size:=O.kids.lt
 have L:∀g∈G,vp.ownBlock≠some g∧g≠p:=fun g a=> by
  rcases hG g a with q | q
  ·exact y g (by simp [q])
  ·exact ⟨fun e=> by have:=i g (by simp [mem_blk.2 e]);omega,fun e=> by have:=hn.lt;omega⟩
 have a9:Kids (Rep h (I.setCell ⟨p,1,none⟩ s)) c A E:=kA.keep fun g a=> n g (by simp [a])
 have b0:Kids (Rep h (I.setCell ⟨p,1,none⟩ s)) d B H:=kB.keep fun g a=> n g (by simp [a])
 have b1:Kids (Rep h (I.setCell ⟨p,1,none⟩ s)) j (Tr.cutT h f t) G:=O.kids.keep fun g a=> l g (K g a) (L g a).1 (L g a).2
 refine ⟨Y,p::(blk s++(blk vc++(E++(G++H)))),⟨s,vc,c++(j++d),ml,E++(G++H),Y.setp s,U.row a7 (fun g a q=> Z (by rw [←q];exact a)),row_same b5 (fun g a _=> n g (by simp [mem_blk.2 a])),rfl,(b0.append b1).append a9,rfl⟩,?_,⟨⟨?_,?_,?_,?_,?_⟩,?_⟩⟩
 ·have b2:((p::(blk vp++(blk vc++E)))++(G++H)).Nodup:=nodup_swap (N:=w.heap.size) J (List.nodup_append.1 O.nd).2.1 hG (fun g a=> i g (by simp at a ⊢;rcases a with q | q | q | q <;> simp [q])) (fun g a=> i g (by simp [a]))
  have b3:([p]++(blk vp++(blk vc++(E++(G++H))))).Nodup:=by simpa using b2
  have b4:∀g∈blk vc++(E++(G++H)),g < M.heap.size:=fun g a=> by
   rcases List.mem_append.1 a with q | q
   ·have:=i g (by simp [q]);omega
   ·rcases List.mem_append.1 q with q | q
    ·have:=i g (by simp [q]);omega
    ·rcases List.mem_append.1 q with q | q
     ·exact K g q
     ·have:=i g (by simp [q]);omega
  have:=nodup_swap (N:=M.heap.size) (M':=blk s) b3 (blk_nodup s) (fun g a=> by
   rcases C.b with q | ⟨k,S,q⟩
   ·exact .inl (by rw [blk_eq q] at a;exact a)
   ·exact .inr (by have:=mem_blk.1 a;rw [q] at this;rw [←Option.some.inj this];exact S)) (fun g a=> by
    rw [List.mem_singleton.1 a];exact D.lt) b4
  simpa using this
 ·exact U.os.trans (T.os.trans P.os)
 ·exact U.tape.trans (T.tape.trans P.tape)
 ·exact U.output.trans (T.output.trans P.output)
 ·have:=U.size;omega
 ·intro g a a3
  have h1:vp.ownBlock≠some g:=fun q=> a3 (by simp [mem_blk.2 q])
  have Q:g≠p:=fun q=> a3 (by simp [q])
  exact (l g (by omega) h1 Q).trans (P.block g a)
 ·intro g a
  rcases List.mem_cons.1 a with q | q
  ·exact .inl (by simp [q])
  ·rcases List.mem_append.1 q with q | q
   ·rcases C.b with z | ⟨k,S,z⟩
    ·rw [blk_eq z] at q;exact .inl (by simp [q])
    ·have:=mem_blk.1 q;rw [z] at this;exact .inr (by have:=Option.some.inj this;omega)
   ·rcases List.mem_append.1 q with q | q
    ·exact .inl (by simp [q])
    ·rcases List.mem_append.1 q with q | q
     ·exact .inl (by simp [q])
     ·rcases List.mem_append.1 q with q | q
      ·exact (hG g q).imp (fun q=> by simp [q]) id
      ·exact .inl (by simp [q])
end Go.Proofs.YtolgpnaoaodepaaGreat
namespace Go.Proofs.YtolgpnaoaodepaaGreat
open Go.RowKit
theorem Mod.cell {F:Nat→Prop} {w w':World} (h:Mod F w w') {p:Addr} (a:p.block < w.heap.size) (b:¬F p.block):w'.cell? p=w.cell? p:=by
 exact World.cell?_of_block (w:=w) (h.block p.block a b)
structure SkM (h:Nat) (lo:Tr.Key) (hi:Option Tr.Key) (p:Nat) (F:List Nat) (w:World) (ps:List (Tr.Key×Tr.TreeT h)) (cs:List Tr.Ch) (W:World) (A:List (Tr.Key×Tr.TreeT h)) (f:Tr.Key) (m:Option Tr.Key) (t:Tr.TreeT h) (B:List (Tr.Key×Tr.TreeT h)) (cs':List Tr.Ch) (F':List Nat):Prop where
 foc:Foc h lo hi p W A f m t B cs' F'
 gone:Gone F F' w W
 few:cs'.length < cs.length
 wt:2*cs'.length+(Tr.wts A+(Tr.wt h t+Tr.wts B))+((A.length+(B.length+1) - 1)+(2 - (A.length+(B.length+1))))≤Tr.wt (h+1) (Tr.brT ps cs)
 val:∀k,Tr.inR lo hi k→Tr.val (h+1) (Tr.brT (A++(f,t)::B) cs') k=Tr.val (h+1) (Tr.brT ps cs) k
theorem SkM.fin {h:Nat} {lo:Tr.Key} {hi:Option Tr.Key} {p:Nat} {F:List Nat} {w:World} {g:List (Tr.Key×Tr.TreeT h)} {i:List Tr.Ch} {W W':World} {A:List (Tr.Key×Tr.TreeT h)} {f:Tr.Key} {m:Option Tr.Key} {t:Tr.TreeT h} {B:List (Tr.Key×Tr.TreeT h)} {b:List Tr.Ch} {F' a:List Nat} (c:SkM h lo hi p F w g i W A f m t B b F') (o:Rep (h+1) W' p (Tr.brT (A++(Tr.cutT h f t++B)) b) a) (d:a.Nodup) (q:Gone F' a W W'):SameB h lo hi p F w g i W' (A++(Tr.cutT h f t++B)) b a:=by
 obtain ⟨j,l,n⟩:=c.foc.cut
 refine ⟨o,d,j,Nat.le_trans l ?_,c.gone.trans q,fun k e=> (n k e).trans (c.val k e)⟩
 rw [Tr.wt_br,Tr.wts_append,Tr.wts_cons,List.length_append,List.length_cons]
 exact c.wt
theorem SkM.below {h:Nat} {lo:Tr.Key} {hi:Option Tr.Key} {p:Nat} {F:List Nat} {w:World} {c:List (Tr.Key×Tr.TreeT h)} {d:List Tr.Ch} {W W':World} {A:List (Tr.Key×Tr.TreeT h)} {f:Tr.Key} {m:Option Tr.Key} {t:Tr.TreeT h} {B:List (Tr.Key×Tr.TreeT h)} {a:List Tr.Ch} {F':List Nat} (b:SkM h lo hi p F w c d W A f m t B a F') (e:Below W.heap.size W W'):SkM h lo hi p F w c d W' A f m t B a F':=
 ⟨b.foc.below e,b.gone.trans (Gone.below e),b.few,b.wt,b.val⟩
set_option maxHeartbeats 1000000 in
set_option maxRecDepth 20000 in
theorem sink_any {h:Nat} (HT:TakeP h) (p:Nat) (C:List (Tr.Key×Tr.TreeT h)) (cs:List Tr.Ch) (F:List Nat) (w:World) (lo:Tr.Key) (hi:Option Tr.Key) (hr:Rep (h+1) w p (Tr.brT C cs) F) (d5:F.Nodup) (O:Tr.WF (h+1) lo hi (Tr.brT C cs)) (a4:Tr.room lo hi) (d6:0 < cs.length) (g4:Tr.wt (h+1) (Tr.brT C cs)≤1800000):
  Calls Tryz.prog 126 #[.pointer (some ⟨p,0,none⟩)] w fun r w'=> r= .returned (.tuple #[])∧∃g3 j F',SameB h lo hi p F w C cs w' g3 j F'∧j.length < cs.length:=by
 have a5:=hr.lt
 obtain ⟨vp,vc,pl,ml,G,hn,a0,a1,rfl,L,rfl⟩:=hr
 have a6:0 < C.length:=chain_some a4 O.1
 have d7:C.length≤Tr.wts C:=Tr.wt_parts O.1
 have v:=g4
 rw [Tr.wt_br,plainCh_len] at v
 rw [plainCh_len] at d6
 have d8:=L.len
 have a7:=hid (busiest_any p _ vp vc pl ml w hn a0 a1 (by omega) (by omega) (by omega) d6)
 have HN:=hid hn
 have HP:=hid a0
 have HC:=hid a1
 have HK:=hid L
 have a9:=hid d5
 have V:=hid a5
 have W:=hid O
 have X:=hid HT
 clear hn a0 a1 L d5 a5 O HT
 go_enter Tryz.func126,Tryz.ntmps126
 go_wp2_with fail
 refine a7.out.mono ?_
 rintro r R ⟨⟨n,rfl,c2,c,hc,c3⟩,u⟩
 obtain ⟨A,⟨f,t⟩,B,rfl,hA⟩:=Tr.split_at C n (by omega)
 subst hA
 obtain ⟨m0,cA,e0,m,rm,ht,cB⟩:=Tr.chain_append.1 W.out.1
 subst e0
 obtain ⟨a,x,d,GA,G1,GB,rfl,hl,kA,ex,r1,kB,rfl⟩:=kids_one HK.out
 have d9:=hid u
 have J:NodT R.drew p (.slice none 0 0) vp vc:=(u.block p HN.out.lt).trans HN.out
 have K:Hid (OwnsP 0 R.drew vp (a++x::d)):=row_below HP.out u.drew (Nat.le_refl _)
 have e1:Hid (OwnsC 0 R.drew vc ml):=row_below HC.out u.drew (Nat.le_refl _)
 have b0:2*ml.length+(Tr.wts A+(Tr.wt h t+Tr.wts B))≤1800000:=by
  rw [Tr.wts_append,Tr.wts_cons] at v
  exact Nat.le_trans (Nat.le_add_right _ _) v
 have e:∀g∈p::(blk vp++(blk vc++(GA++(G1++GB)))),R.heap[g]?=w.heap[g]?:=fun g D=> u.block g (V.out g D)
 have HH:=hid (fun vo vk w2 E M H=> hand_take X.out (w0:=R) (w:=R.drew) (vp:=vp) (vc:=vc) a9.out (fun g D=> Nat.lt_of_lt_of_le (V.out g D) u.size) K.out (kA.keep fun g D=> e g (by simp [D])) ex (r1.keep fun g D=> e g (by simp [D])) (kB.keep fun g D=> e g (by simp [D])) cA rm ht cB W.out.2 b0 vo vk w2 E M H rfl rfl rfl rfl)
 have HO:=hid (handOut_any p _ vp vc (a++x::d) ml A.length R.drew J K.out e1.out (by omega) (by omega))
 have y:(ml.filter fun c=> !atP (a++x::d) A.length c).length < ml.length:=by
  have h1:=Tr.filter_two (atP (a++x::d) A.length) ml
  have h2:=Tr.filter_pos (P:=atP (a++x::d) A.length) hc (decide_eq_true c3)
  omega
 have b1:A.length < (a++x::d).length:=c2
 have b2:(a++x::d)[A.length]'b1=x:=by simp [←hl]
 obtain ⟨g,a2,rfl,g5,-,D,x0,x1⟩:=K.out.at A.length b1
 rw [b2] at x0 x1
 obtain ⟨n0,n1,n2,-⟩:=J.cells
 have b3:g≠p:=fun q=> nod_row J K.out (by decide) (by rw [←q];rfl)
 have e2:=hid b3
 have e3:Hid (∀w3 t' j F',Foc h lo hi p w3 A f m t' B j F'→j.length=(ml.filter fun c=> !atP (a++x::d) A.length c).length→Gone (p::(blk (.slice (some ⟨g,0,none⟩) (a++x::d).length a2)++(blk vc++(GA++(G1++GB))))) F' R w3→2*j.length+(Tr.wts A+(Tr.wt h t'+Tr.wts B))≤2*ml.length+(Tr.wts A+(Tr.wt h t+Tr.wts B))→(∀k,Tr.inR lo hi k→Tr.val (h+1) (Tr.brT (A++(f,t')::B) j) k=Tr.val (h+1) (Tr.brT (A++(f,t)::B) (plainCh ml)) k)→SkM h lo hi p (p::(blk (.slice (some ⟨g,0,none⟩) (a++x::d).length a2)++(blk vc++(GA++(G1++GB))))) w (A++(f,t)::B) (plainCh ml) w3 A f m t' B j F'):=by
  intro w3 t' j F' h1 h2 h3 h4 h5
  refine ⟨h1,(Gone.below d9.out).trans h3,by rw [h2,plainCh_len];exact y,?_,h5⟩
  rw [Tr.wt_br,plainCh_len,Tr.wts_append,Tr.wts_cons,List.length_append,List.length_cons]
  exact Nat.add_le_add_right h4 _
 generalize d2:p::(blk (.slice (some ⟨g,0,none⟩) (a++x::d).length a2)++(blk vc++(GA++(G1++GB))))=FF at*
 generalize d3:a++x::d=pl at*
 generalize d4:A++(f,t)::B=C at*
 have e4:=hid d2
 have e5:=hid d3
 have e6:=hid d4
 have Y:Hid (IntKind.i64.wrap ((A.length:Int) - 1)=(A.length:Int) - 1):=by
  show _=_
  rw [IntKind.wrap_i64];omega
 have b4:=Y.out
 clear a7 HN HP HC HK a9 V W kA kB r1 ex cA cB ht rm e hc c3 y b2 u J d2 d3 d4 b3 d8 a6 d7 c2 v hl
 go_upto_region 1 with fail
 go_cut [16] (fun _ wx=>∃t3 s F3,SkM h lo hi p FF w C (plainCh ml) wx A f m t3 B s F3)
 case first=>
  go_region_law (first
   | (go_simp;go_at_call 173;refine HO.out.mono ?_;rintro r w2 ⟨vo,vk,rfl,E,M,H⟩;have e7:=hid (HH.out vo vk w2 E M H);have y1:=(H.cell (p:=⟨g,A.length*2+1,none⟩) D e2.out).trans x1;obtain ⟨r0,r1,r2,-⟩:=E.cells;clear E M H)
   | (go_simp;go_at_call 63;refine e7.out.mono ?_;rintro r w3 ⟨rfl,t3,s,F3,c4,k1,k2,k3,k4⟩;have l:=hid (e3.out w3 t3 s F3 c4 k1 k2 k3 k4);clear c4 k1 k2 k3 k4))
  all_goals
   go_wp2_with fail
   go_meet
   exact ⟨_,_,_,l.out⟩
 case rest=>
  obtain ⟨t3,s,F3,b8⟩:=hcut
  have l:=hid b8
  clear b8
  go_wp2_with fail
  refine (join_foc X.out l.out.foc).mono ?_
  rintro r w4 ⟨b,m4,t4,B4,F4,rfl,c5,c6,f9,c7⟩
  have i:Hid (SkM h lo hi p FF w C (plainCh ml) w4 A f m4 t4 B4 s F4):=⟨c5,l.out.gone.trans c6,l.out.few,by have:=l.out.wt;omega,fun k L=> (c7 k L).trans (l.out.val k L)⟩
  clear c5 c6 f9 c7
  go_wp2_with fail
  refine (join_foc2 X.out i.out.foc).mono ?_
  rintro r w5 (⟨rfl,z,I⟩ | ⟨N,f5,t5,F5,rfl,g0,z,I,g1,c9⟩)
  case' inl=>
   have HX:Hid (∃(N:List (Tr.Key×Tr.TreeT h)) (f5:Tr.Key) (m5:Option Tr.Key) (t5:Tr.TreeT h) (B5:List (Tr.Key×Tr.TreeT h)) (F5:List Nat),A.length=N.length∧SkM h lo hi p FF w C (plainCh ml) w5 N f5 m5 t5 B5 s F5):=⟨A,f,m4,t4,B4,F4,rfl,z,i.out.gone.trans I,i.out.few,i.out.wt,i.out.val⟩
   clear z I
   go_upto_region 5 with fail
   clear x0 x1 n0 n1 n2 b4 Y
   try clear y1
   generalize A.length=ia at*
  case' inr=>
   have HX:Hid (∃(A6:List (Tr.Key×Tr.TreeT h)) (f5:Tr.Key) (m5:Option Tr.Key) (t5:Tr.TreeT h) (B5:List (Tr.Key×Tr.TreeT h)) (F5:List Nat),N.length=A6.length∧SkM h lo hi p FF w C (plainCh ml) w5 A6 f5 m5 t5 B5 s F5):=⟨N,f5,m4,t5,B4,F5,rfl,z,i.out.gone.trans I,i.out.few,by have:=i.out.wt;omega,fun k L=> (c9 k L).trans (i.out.val k L)⟩
   have eA:(A.length:Int) - 1=(N.length:Int):=by omega
   have EA:=hid eA
   have e9:=z.len
   have b5:wrap64 (N.length:Int)=(N.length:Int):=IntWalk.wrap64_in _ ⟨by omega,by omega⟩
   clear z I g1 c9 eA
   go_upto_region 5 with fail
   try rw [EA.out]
   rw [b5]
   clear x0 x1 n0 n1 n2 b4 Y
   try clear y1
   clear b5 e9 EA g0
   generalize N.length=ia at*
  all_goals
   obtain ⟨A6,f6,m6,t6,B6,F6,rfl,b9⟩:=HX.out
   have Z:=hid (b9.below (Below.refl _ w5).drew)
   obtain ⟨g8,g9,f3,x6,c0,T6⟩:=Z.out.foc.tail
   obtain ⟨g6,g7,rfl,f4,-,h0,z0,z1⟩:=T6.row.at A6.length c0
   rw [T6.at'] at z0 z1
   have f0:=hid T6
   obtain ⟨r0,r1,r2,-⟩:=T6.nod.cells
   have f1:=T6.len
   have xw:IntKind.i64.wrap ((A6.length:Int)+1)=(A6.length:Int)+1:=by rw [IntKind.wrap_i64];omega
   clear b9 HX T6
   go_region_law (first
    | (go_simp;go_at_call 64;refine f0.out.go.mono ?_;rintro r w6 ⟨v7,g2,rfl,k1,k2,d0,S,d1,T,U⟩;have f2:=hid (replaceP_any _ v7 f3 g2 A6.length w6 c0 T d0 k1 f1 k2 S);have b6:=hid U;obtain ⟨u0,u1,u2,-⟩:=d1.cells;clear d0 S d1 T U)
    | (go_simp;go_at_call 175;refine f2.out.mono ?_;rintro r w7 ⟨v8,rfl,a3⟩;have b7:=hid (b6.out v8 w7 a3);obtain ⟨a8,n8,c8,e8⟩:=shape3 a3.o;subst e8;obtain ⟨s0,s1,s2,s3,s4,s5⟩:=b7.out.1.cells;clear a3))
   all_goals
    go_wp2_with fail
    go_end0
    obtain ⟨-,F8,f7,c1,f8⟩:=b7.out
    have Q:=Z.out.fin f7 c1 f8
    have y:=Z.out.few
    rw [←e4.out,←e5.out,←e6.out] at Q
    exact ⟨rfl,_,_,_,Q,y⟩
end Go.Proofs.YtolgpnaoaodepaaGreat
namespace Go.Proofs.YtolgpnaoaodepaaGreat
open Go.RowKit
structure TkL (p:Nat) (vi:Value) (w:World) (l:List Tr.It) (vi':Value) (il':List (ByteArray×ByteArray)) (W:World):Prop where
 nod:NodT W p vi' (.slice none 0 0) (.slice none 0 0)
 its:OwnsI 0 W vi' il'
 pl:plain il'=l
 mod:Mod (fun g=> g∈p::blk vi) w W
 new:∀g,vi'.ownBlock=some g→vi.ownBlock=some g∨w.heap.size≤g
theorem TkL.next {p:Nat} {e:Value} {w:World} {l k:List Tr.It} {c a:Value} {f b:List (ByteArray×ByteArray)} {W W':World} (h:TkL p e w l c f W) (o:Obj) (d:ChgQ p c (.slice none 0 0) (.slice none 0 0) (W.alloc o) k a b W'):TkL p e w k a b W':=by
 have i:Below W.heap.size W (W.alloc o):=(Below.refl _ W).alloc (Nat.le_refl _) o
 have m:Mod (fun _=> False) W (W.alloc o):=Mod.of_below i
 refine ⟨d.nod,d.its,d.pl,(h.mod.trans m (H:=fun g=> g∈p::blk e) (fun _ _ q=> q) (fun _ _ q=> q.elim)).trans d.mod (fun _ _ q=> q) (fun g j q=> ?_),fun g j=> ?_⟩
 ·rcases q with q | q
  ·simp [q]
  ·rcases h.new g q with z | z
   ·simp [mem_blk.2 z]
   ·omega
 ·rcases d.blk g j with q | q
  ·exact h.new g q
  ·exact .inr (by have:=h.mod.size;have:=i.size;omega)
theorem plain_mem16 {lo:Tr.Key} {hi:Option Tr.Key} {il:List (ByteArray×ByteArray)} (h:Tr.WF 0 lo hi (plain il)):∀y∈il,y.2.size≤16:=fun y a=> by
 have:=(h.2 (y.1.data.toList,y.2.data.toList) (List.mem_map.2 ⟨y,a,rfl⟩)).2.2
 simpa using this
set_option maxHeartbeats 1000000 in
set_option maxRecDepth 20000 in
theorem take_leaf:TakeP 0:=by
 intro p t F w vc ml lo hi hr N B v a1 C O D P
 have G:=hr.lt
 obtain ⟨E,il,Q,ho,rfl,rfl⟩:=hr
 have a2:1+2*(il.length - 16)+2*ml.length≤1800000:=by rw [←plain_len il];exact P
 have a3:il.length≤16:=by rw [←plain_len il];exact v
 obtain ⟨n0,n1,n2,-⟩:=Q.cells
 obtain ⟨ca,cc,rfl⟩:=rowShape C
 have R:=hid (tIsLeaf_any p _ _ _ _ _ w Q)
 have H0:Hid (TkL p E w (Tr.leafAll (plain il) (plainCh (ml.take 0))) E il w):=⟨Q,ho,rfl,Mod.of_below (Below.refl _ w),fun g M=> .inl M⟩
 have HC:=hid C
 have S:=hid O
 have H:=hid D
 have T:=hid B
 have a4:=hid N
 have a5:=hid G
 have I:Hid (∀j,Tr.WF 0 lo hi (Tr.leafAll (plain il) (plainCh (ml.take j)))):=fun j=> Tr.leafAll_wf _ B fun c hc=> D c (by
  obtain ⟨x,hx,rfl⟩:=List.mem_map.1 hc
  exact List.mem_map.2 ⟨x,List.mem_of_mem_take hx,rfl⟩)
 have U:Hid (∀j,(Tr.leafAll (plain il) (plainCh (ml.take j))).length≤1802000):=fun j=> by
  have:=Tr.leafAll_len (plainCh (ml.take j)) (plain il)
  rw [plainCh_len,plain_len,List.length_take] at this
  omega
 clear Q ho C O D B N G v P
 go_enter Tryz.func63,Tryz.ntmps63
 go_wp2_with fail
 refine R.out.mono ?_
 rintro r w ⟨rfl,rfl⟩
 rw [show decide True=true from rfl]
 go_wp2_with fail
 go_loopw [10] (fun i wr=>∃j:Nat,j≤ml.length∧i= .int .i64 (j:Nat)∧∃d n,TkL p E w (Tr.leafAll (plain il) (plainCh (ml.take j))) d n wr) (fun i _=> ml.length - (intOf i).toNat)
 case atStart=> exact ⟨0,Nat.zero_le _,rfl,_,_,H0.out⟩
 case round=>
  obtain ⟨j,hj,rfl,d,n,l⟩:=hrel
  have h:=hid l
  clear l
  by_cases a:j < ml.length
  ·obtain ⟨g,a6,e,a7,-,M,d0,d1,d2⟩:=HC.out.at j a
   simp only [Value.slice.injEq] at e
   obtain ⟨rfl,-,rfl⟩:=e
   have J:g∉p::blk E:=S.out g rfl
   have m:=fun o=> h.out.mod.cell (p:=⟨g,o,none⟩) M J
   have V:=(m _).trans d0
   have W:=(m _).trans d1
   have X:=(m _).trans d2
   have Y:Hid (plainCh (ml.take (j+1))=plainCh (ml.take j)++plainCh [ml[j]'a]):=by
    show _=_
    rw [List.take_add_one,List.getElem?_eq_getElem a]
    unfold plainCh;rw [List.map_append];rfl
   have Z:=hid (H.out _ (List.mem_map.2 ⟨ml[j]'a,List.getElem_mem a,rfl⟩))
   clear m d0 d1 d2 J
   generalize ml[j]'a=c at*
   obtain ⟨ck,f,cx⟩:=c
   have b:=I.out j
   have y:=U.out j
   rw [←h.out.pl] at b y
   rw [plain_len] at y
   have A:Below wr.heap.size wr (wr.alloc (.cells #[.int .i64 ck,.string f,.string cx] 34)):=(Below.refl wr.heap.size wr).alloc (Nat.le_refl _) _
   have K:=hid (tChange_any p d _ _ n ck f cx (wr.alloc (.cells #[.int .i64 ck,.string f,.string cx] 34)) ((A.block p h.out.nod.lt).trans h.out.nod) (row_below h.out.its A (Nat.le_refl _)) (by omega) b.1 (plain_mem16 b) (by have:=(Tr.okCh_key Z.out.2).2;simpa using this))
   clear A b y
   go_wp2_with fail
   refine K.out.mono ?_
   rintro r w2 ⟨rfl,s,u,hq⟩
   have a0:Hid (TkL p E w (Tr.leafAll (plain il) (plainCh (ml.take (j+1)))) s u w2):=by
    have:=h.out.next _ hq
    rw [h.out.pl] at this
    rw [Y.out]
    show TkL p E w (Tr.leafAll _ (_++[_])) s u w2
    rw [Tr.leafAll_snoc]
    exact this
   clear hq K h V W X
   go_wp2_with fail
   exact ⟨⟨j+1,by omega,by go_num,_,_,a0.out⟩,by simp [intOf];omega⟩
  ·have a:j=ml.length:=by omega
   subst a
   rw [List.take_length] at h
   go_wp2_with fail
   refine bodyPost_ret (results_none rfl _ _ _) rfl ?_
   have l:=h.out
   have L:=I.out ml.length
   rw [List.take_length] at L
   refine ⟨rfl,Tr.lf (Tr.leafAll (plain il) (plainCh ml)),p::blk d,⟨⟨d,n,l.nod,l.its,l.pl,rfl⟩,?_,L,trivial,l.mod,fun g M=> ?_⟩,?_,fun k _=> Tr.leafAll_look k _ T.out H.out⟩
   ·exact List.nodup_cons.2 ⟨fun q=> nod_row l.nod l.its (by decide) (mem_blk.1 q),blk_nodup _⟩
   ·rcases List.mem_cons.1 M with q | q
    ·exact .inl (by simp [q])
    ·exact (l.new g (mem_blk.1 q)).imp (fun z=> by simp [mem_blk.2 z]) id
   ·have h1:=Tr.leafAll_len (plainCh ml) (plain il)
    rw [plainCh_len] at h1
    show 1+2*((Tr.leafAll (plain il) (plainCh ml)).length - 16)≤1+2*((plain il).length - 16)+2*ml.length
    omega
end Go.Proofs.YtolgpnaoaodepaaGreat
namespace Go.Proofs.YtolgpnaoaodepaaGreat
open Go.RowKit
def lenAt (p:Nat) (w:World):Nat:=match w.cell? ⟨p,2,none⟩ with
 | some (.slice _ n _)=> n
 | _=> 0
theorem lenAt_nod {w:World} {p:Nat} {b vp:Value} {a:Option Addr} {n c:Nat} (h:NodT w p b vp (.slice a n c)):lenAt p w=n:=by
 unfold lenAt;rw [h.cells.2.2.1]
theorem Rep.nodc {h:Nat} {w:World} {p:Nat} {g:List (Tr.Key×Tr.TreeT h)} {e:List Tr.Ch} {F:List Nat} (i:Rep (h+1) w p (Tr.brT g e) F):∃vp a c,NodT w p (.slice none 0 0) vp (.slice a e.length c):=by
 obtain ⟨vp,vc,pl,ml,G,d,f,b,rfl,j,rfl⟩:=i
 obtain ⟨a,c,rfl⟩:=rowShape b
 rw [←plainCh_len ml] at d
 exact ⟨vp,a,c,d⟩
theorem SameB.trans {h:Nat} {lo:Tr.Key} {hi:Option Tr.Key} {p:Nat} {F:List Nat} {w:World} {i:List (Tr.Key×Tr.TreeT h)} {j:List Tr.Ch} {l:World} {b:List (Tr.Key×Tr.TreeT h)} {c:List Tr.Ch} {m:List Nat} {n:World} {d:List (Tr.Key×Tr.TreeT h)} {e:List Tr.Ch} {o:List Nat} (f:SameB h lo hi p F w i j l b c m) (a:SameB h lo hi p m l b c n d e o):SameB h lo hi p F w i j n d e o:=
 ⟨a.rep,a.nd,a.wf,Nat.le_trans a.wt f.wt,f.gone.trans a.gone,fun k g=> (a.val k g).trans (f.val k g)⟩
theorem ccells_app (a b:List (Int×ByteArray×ByteArray)):ccells (a++b)=ccells a++ccells b:=by unfold ccells;simp
theorem plainCh_app (a b:List (Int×ByteArray×ByteArray)):plainCh (a++b)=plainCh a++plainCh b:=by unfold plainCh;simp
set_option maxHeartbeats 1000000 in
set_option maxRecDepth 20000 in
theorem take_branch (h:Nat) (HT:TakeP h):TakeP (h+1):=by
 intro p t F w vc ml lo hi hr M A a2 f O b9 a3 P
 obtain ⟨i,cs⟩:=t
 have m:=hr.lt
 obtain ⟨vp,vb,pl,b,G,Q,J,n,rfl,Z,rfl⟩:=hr
 have c0:0 < i.length:=chain_some f A.1
 have c1:=Z.len
 have S:(plainCh b).length+Tr.wts i+ml.length≤1800000:=by have h0:=Tr.wt_lo i (plainCh b);have h1:Tr.wt (h+1) (Tr.brT i (plainCh b))+2*ml.length≤1800000:=P;omega
 rw [plainCh_len] at S
 obtain ⟨o,s,rfl⟩:=rowShape J
 obtain ⟨u,v,rfl⟩:=rowShape n
 obtain ⟨ca,cc,rfl⟩:=rowShape O
 obtain ⟨n0,n1,n2,f0,f1,f2⟩:=Q.cells
 have a5:=hid (tIsLeaf_any p _ _ _ _ _ w Q)
 obtain ⟨v2,R,e2,o2,g2,k2⟩:=run_rows w 77 77 34 Tryz.underlying77 _ 3 40 info_change rfl (by decide) (by decide) (.slice u b.length v) (.slice ca ml.length cc) b.length ml.length (ccells b) (ccells ml) n O (one_ccells ml) (by omega)
 obtain ⟨x,y,a,rfl⟩:=shape3 o2
 have a6:=hid e2
 have C:(Value.slice u b.length v).ownBlock≠some p:=nod_row Q n (by decide)
 have T:Mod (fun k=> (Value.slice u b.length v).ownBlock=some k) w R:=Mod.of_grown g2
 have D:NodT R p (.slice none 0 0) (.slice o pl.length s) (.slice u b.length v):=T.nod Q C
 have m3:=Mod.setCell R p 2 (.slice x y a)
 have U:(Value.slice x y a).ownBlock≠some p:=by
  rcases k2 with q | q
  ·rw [q];exact C
  ·rw [q];intro z;have:=Option.some.inj z;have:=Q.lt;omega
 have a7:Hid (SameB h lo hi p (p::(blk (.slice o pl.length s)++(blk (.slice u b.length v)++G))) w i (plainCh (b++ml)) (R.setCell ⟨p,2,none⟩ (.slice x y a)) i (plainCh (b++ml)) (p::(blk (.slice o pl.length s)++(blk (.slice x y a)++G)))):=by
  have E:((p::blk (.slice o pl.length s))++(blk (.slice u b.length v)++G)).Nodup:=by simpa using M
  have V:=(List.nodup_append.1 E).2.2
  have a8:=(List.nodup_append.1 (List.nodup_append.1 E).2.1).2.2
  have I:∀g,g < w.heap.size→(Value.slice u b.length v).ownBlock≠some g→g≠p→(R.setCell ⟨p,2,none⟩ (.slice x y a)).heap[g]?=w.heap[g]?:=fun g h1 h2 h3=>
   (m3.block g (by have:=T.size;omega) h3).trans (T.block g h1 h2)
  have W:∀g∈blk (.slice o pl.length s)++G,(R.setCell ⟨p,2,none⟩ (.slice x y a)).heap[g]?=w.heap[g]?:=fun g e=> by
   refine I g (m g (by simp at e ⊢;rcases e with q | q <;> simp [q])) (fun q=> ?_) (fun q=> ?_)
   ·rcases List.mem_append.1 e with z | z
    ·exact V g (by simp [z]) g (by simp [mem_blk.2 q]) rfl
    ·exact a8 g (mem_blk.2 q) g z rfl
   ·have:=(List.nodup_cons.1 M).1
    rw [←q] at this
    exact this (by rcases List.mem_append.1 e with z | z <;> simp [z])
  refine ⟨⟨.slice o pl.length s,.slice x y a,pl,b++ml,G,D.setc _,row_same J fun g e _=> W g (by simp [mem_blk.2 e]),?_,rfl,Z.keep fun g e=> W g (by simp [e]),rfl⟩,?_,⟨A.1,fun c hc=> ?_⟩,Nat.le_refl _,⟨?_,fun g e=> ?_⟩,fun _ _=> rfl⟩
  ·refine m3.row ?_ (fun g e q=> U (by rw [←q];exact e))
   rw [List.length_append,ccells_app]
   exact o2
  ·have:=nodup_swap (N:=w.heap.size) (M':=blk (.slice x y a)) E (blk_nodup _) (fun g e=> by
    rcases k2 with q | q
    ·exact .inl (by rw [blk_eq q] at e;exact e)
    ·exact .inr (by have:=mem_blk.1 e;rw [q] at this;have:=Option.some.inj this;omega)) (fun g e=> m g (by simp at e ⊢;rcases e with q | q <;> simp [q])) (fun g e=> m g (by simp [e]))
   simpa using this
  ·rw [plainCh_app] at hc
   rcases List.mem_append.1 hc with q | q
   ·exact A.2 c q
   ·exact a3 c q
  ·refine (T.trans m3 (H:=fun g=> g∈p::(blk (.slice o pl.length s)++(blk (.slice u b.length v)++G))) (fun g _ q=> ?_) (fun g _ q=> ?_))
   ·simp [mem_blk.2 q]
   ·simp [q]
  ·rcases List.mem_cons.1 e with q | q
   ·exact .inl (by simp [q])
   ·rcases List.mem_append.1 q with q | q
    ·exact .inl (by simp [q])
    ·rcases List.mem_append.1 q with q | q
     ·rcases k2 with z | z
      ·rw [blk_eq z] at q;exact .inl (by simp [q])
      ·exact .inr (by have:=mem_blk.1 q;rw [z] at this;have:=Option.some.inj this;omega)
     ·exact .inl (by simp [q])
 have X:Hid (Tr.wt (h+1) (Tr.brT i (plainCh (b++ml)))≤Tr.wt (h+1) (Tr.brT i (plainCh b))+2*ml.length):=by
  show _≤_
  rw [Tr.wt_br,Tr.wt_br,plainCh_app,List.length_append,plainCh_len,plainCh_len];omega
 have a9:Hid (Tr.wt (h+1) (Tr.brT i (plainCh (b++ml)))≤1800000):=by
  show _≤_
  have:=X.out
  have h2:Tr.wt (h+1) (Tr.brT i (plainCh b))+2*ml.length≤1800000:=P
  omega
 have b0:Hid (∀k,Tr.val (h+1) (Tr.brT i (plainCh (b++ml))) k=Tr.afterAll (plainCh ml) k (Tr.val (h+1) (Tr.brT i (plainCh b)) k)):=fun k=> by
  rw [plainCh_app];exact Tr.afterAll_append ..
 obtain ⟨y0,y1,y2,z0,z1,z2⟩:=D.cells
 have b1:=hid HT
 have b2:=hid f
 have b3:decide (pl.length=0)=false:=decide_eq_false (by omega)
 clear Q J n O Z M m A a2 f b9 a3 P e2 o2 g2 k2 T m3 C U D HT
 generalize c9:p::(blk (.slice o pl.length s)++(blk (.slice u b.length v)++G))=FF at*
 generalize d0:p::(blk (.slice o pl.length s)++(blk (.slice x y a)++G))=F2 at*
 go_enter Tryz.func63,Tryz.ntmps63
 go_wp2_with fail
 refine a5.out.mono ?_
 rintro r w ⟨rfl,rfl⟩
 rw [b3]
 go_wp2_with (at_builtin;refine Lib.wpList_append_run w rfl (.tmp 22) (.tmp 23) 77 77 rfl _ _ rfl rfl _ _ a6.out ?_)
 go_loopw [27] (fun _ wr=>∃l d F',SameB h lo hi p FF w i (plainCh (b++ml)) wr l d F') (fun _ wr=> lenAt p wr)
 case atStart=> exact ⟨_,_,_,a7.out⟩
 case round=>
  obtain ⟨l,d,F',j⟩:=hrel
  have Y:=hid j
  obtain ⟨c5,a',c',K⟩:=j.rep.nodc
  obtain ⟨x0,x1,x2,-⟩:=K.cells
  have b4:=hid (lenAt_nod K)
  have B:Tr.wt (h+1) (Tr.brT l d)≤1800000:=Nat.le_trans j.wt a9.out
  have c2:d.length≤1800000:=by rw [Tr.wt_br] at B;omega
  clear j K
  by_cases h8:8 < d.length
  ·have b5:decide ((8:Int) < (d.length:Int))=true:=decide_eq_true (by omega)
   have b6:=hid (sink_any b1.out p l d F' wr lo hi Y.out.rep Y.out.nd Y.out.wf b2.out (by omega) B)
   go_wp2_with fail
   refine b6.out.mono ?_
   rintro r w4 ⟨rfl,c7,c8,F4,L,a1⟩
   have b7:=hid (Y.out.trans L)
   obtain ⟨c6,a4,c4,a0⟩:=L.rep.nodc
   have b8:=hid (lenAt_nod a0)
   clear L a0 x0 x1 x2
   go_wp2_with fail
   exact ⟨⟨_,_,_,b7.out⟩,by rw [b4.out,b8.out];exact a1⟩
  ·have b5:decide ((8:Int) < (d.length:Int))=false:=decide_eq_false (by omega)
   have c3:¬((8:Int) < (d.length:Int)):=by omega
   go_wp2_with fail
   go_end0
   have j:=Y.out
   exact ⟨rfl,Tr.brT l d,⟨F',⟨j.rep,j.nd,j.wf,Nat.le_of_not_lt h8,j.gone.1,j.gone.2⟩⟩,Nat.le_trans j.wt X.out,fun k Z=> (j.val k Z).trans (b0.out k)⟩
theorem takeT_any:∀h,TakeP h
 | 0=> take_leaf
 | h+1=> take_branch h (takeT_any h)
end Go.Proofs.YtolgpnaoaodepaaGreat
