import Derived.Test.YtolgpnaoaodepaaGreatTreZNm
namespace Go.Proofs.YtolgpnaoaodepaaGreat
open Go.RowKit
structure Ut (h:Nat) (lo:Tr.Key) (hi:Option Tr.Key) (p:Nat) (F:List Nat) (w:World) (ps:List (Tr.Key×Tr.Ac h)) (cs:List Tr.Ch) (w':World) (ps':List (Tr.Key×Tr.Ac h)) (cs':List Tr.Ch) (F':List Nat):Prop where
 rep:Rep (h+1) w' p (Tr.brT ps' cs') F'
 nd:F'.Nodup
 wf:Tr.WF (h+1) lo hi (Tr.brT ps' cs')
 wt:Tr.wt (h+1) (Tr.brT ps' cs')<=Tr.wt (h+1) (Tr.brT ps cs)
 gone:Fm F F' w w'
 val:∀k,Tr.inR lo hi k->Tr.val (h+1) (Tr.brT ps' cs') k=Tr.val (h+1) (Tr.brT ps cs) k
theorem Abj {h:Nat} {lo:Tr.Key} {hi:Option Tr.Key} {R:Tr.Key->Option Tr.Key->Tr.Ac h->Prop} {a:List (Tr.Key×Tr.Ac h)} (b:Tr.room lo hi) (c:Tr.Ba R (some lo) hi a):0 < a.length:=by
 cases a with
 | nil=> exact absurd (b lo (show some lo=hi from c).symm).1 (Tr.lt_ir lo)
 | cons x r=> simp
theorem Foc.cut {h:Nat} {lo:Tr.Key} {hi:Option Tr.Key} {p:Nat} {w:World} {A B:List (Tr.Key×Tr.Ac h)} {f:Tr.Key} {m:Option Tr.Key} {t:Tr.Ac h} {b:List Tr.Ch} {F:List Nat} (a:Foc h lo hi p w A f m t B b F):
  Tr.WF (h+1) lo hi (Tr.brT (A++(Tr.Gg h f t++B)) b)/\Tr.wt (h+1) (Tr.brT (A++(Tr.Gg h f t++B)) b)<=Tr.wt (h+1) (Tr.brT (A++(f,t)::B) b)/\∀k,Tr.inR lo hi k->Tr.val (h+1) (Tr.brT (A++(Tr.Gg h f t++B)) b) k=Tr.val (h+1) (Tr.brT (A++(f,t)::B) b) k:=by
 have c:=Tr.Js h a.rm a.wf a.small;refine ⟨⟨Tr.Bc.2 ⟨_,a.cA,Tr.Bc.2 ⟨_,c,a.cB⟩⟩,a.cc⟩,?_,fun k g=> ?_⟩
 ·have:=Tr.Acp h f t;have i:=Abj a.rm c;rw [Tr.Jt,Tr.Jt,Tr.Dn,Tr.Dn,Tr.Dn,Tr.Dr,List.length_append,List.length_append,List.length_append,List.length_cons];show _<=_+(_+(Tr.wt h t+_))+_;omega
 ·have:=Tr.Qb (X:=[(f,t)]) (Y:=Tr.Gg h f t) (Bp a.cA) (Ta a.rm ⟨a.wf,a.small⟩) (Bp a.cB) (Bp a.cA) (Bp c) (Bp a.cB) b (fun k d=> by rw [Tr.Rk];exact Tr.Aef h a.rm a.wf a.small k d) g;simpa [Tr.brT] using this
theorem Ju {h:Nat} {lo:Tr.Key} {hi:Option Tr.Key} {R:Tr.Key->Option Tr.Key->Tr.Ac h->Prop} {a:List (Tr.Key×Tr.Ac h)} (b:Tr.room lo hi) (c:Tr.Ba R (some lo) hi a):0 < a.length:=Abj b c
structure Ard (h:Nat) (p:Nat) (w:World) (A:List (Tr.Key×Tr.Ac h)) (f:Tr.Key) (t:Tr.Ac h) (B:List (Tr.Key×Tr.Ac h)) (cs:List Tr.Ch) (F:List Nat) (vp vc:Value) (pl:List (ByteArray×Nat)) (x:ByteArray×Nat) (hx:A.length < pl.length):Prop where
 nod:An w p (.slice none 0 0) vp vc
 row:Ap 0 w vp pl
 at':pl[A.length]'hx=x
 len:pl.length<=20000000
 go:Calls Tryz.prog 64 #[.agg #[.string x.1,.pointer (some ⟨x.2,0,none⟩)]] w fun r w6=>∃v pl6,r= .returned v/\0 < pl6.length/\pl6.length<=20000000/\Ap 0 w6 v pl6/\(∀g,vp.ownBlock=some g->v.ownBlock≠some g)/\An w6 p (.slice none 0 0) vp vc/\Ap 0 w6 vp pl/\
  ∀v' w7,Aaa vp (Ms pl A.length pl6) w6 v' w7->An w7 p (.slice none 0 0) vp vc/\∃F',Rep (h+1) (w7.setCell ⟨p,1,none⟩ v') p (Tr.brT (A++(Tr.Gg h f t++B)) cs) F'/\F'.Nodup/\Fm F F' w (w7.setCell ⟨p,1,none⟩ v')
theorem Foc.tail {h:Nat} {lo:Tr.Key} {hi:Option Tr.Key} {p:Nat} {w:World} {A B:List (Tr.Key×Tr.Ac h)} {f:Tr.Key} {m:Option Tr.Key} {t:Tr.Ac h} {cs:List Tr.Ch} {F:List Nat} (u:Foc h lo hi p w A f m t B cs F):∃vp vc pl x hx,Ard h p w A f t B cs F vp vc pl x hx:=by
 have c0:=u.len;have c1:=u.wt;have i:=u.rep.lt;have Z:=u.nd;obtain ⟨vp,vc,pl,ml,G,hn,V,b9,rfl,hk,rfl⟩:=u.rep;obtain ⟨c,x,d,H,G1,I,rfl,hl,kA,e1,r1,kB,rfl⟩:=Aem hk;have c2:=kB.len;have hx:A.length < (c++x::d).length:=by simp;omega
 refine ⟨vp,vc,c++x::d,x,hx,hn,V,?_,by simp;omega,?_⟩
 ·simp [<-hl]
 have L:((p::(blk vp++(blk vc++H)))++(G1++I)).Nodup:=by simpa using Z
 have a0:=(List.nodup_append.1 (List.nodup_append.1 L).2.1).1;refine (Acq h x.1 x.2 t G1 w r1 a0 f m u.wf (by omega)).mono ?_;rintro r R ⟨v,j,G,rfl,S,hG,T⟩;rw [e1] at S;have a8:0 < j.length:=by
  rw [S.kids.len];exact Ju u.rm (Tr.Js h u.rm u.wf u.small)
 have c3:j.length<=1800000:=by
  rw [S.kids.len];have a1:(Tr.Gg h f t).length<=Tr.wts (Tr.Gg h f t):=Tr.Hd (Tr.Js h u.rm u.wf u.small);have a2:=Tr.Acp h f t;omega
 have a9:∀g∈blk v,w.heap.size<=g:=Rl S.row;have D:An R p (.slice none 0 0) vp vc:=(T.block p hn.lt).trans hn;have b0:Ap 0 R vp (c++x::d):=Aa V T (Nat.le_refl _);refine ⟨v,j,rfl,a8,by omega,Fx S.row,fun g a q=> ?_,D,b0,?_⟩
 ·have h1:=a9 g (Af.2 q);have U:=i g (by simp [Af.2 a]);omega
 intro s J C;have a3:vp.ownBlock≠some p:=Aq hn V (by decide);have X:Mod (fun k=> vp.ownBlock=some k) R J:=Mod.of_grown C.g;have a4:An J p (.slice none 0 0) vp vc:=X.nod D a3;have Y:=Mod.setCell J p 1 s;have c4:=T.size;have c5:=X.size;have a5:s.ownBlock≠some p:=by
  rcases C.b with q | ⟨k,W,q⟩
  ·rw [q];exact a3
  ·rw [q];intro e;have:=Option.some.inj e;have:=D.lt;omega
 have a6:Ms (c++x::d) A.length j=c++(j++d):=by
  unfold Ms;rw [<-hl,List.take_left,List.append_assoc];congr 1;congr 1;rw [show c++x::d=(c++[x])++d by simp,List.drop_left' (by simp)]
 have b1:Ap 0 J s (c++(j++d)):=by have:=C.o;rw [a6] at this;exact this
 have l:∀g,g < R.heap.size->vp.ownBlock≠some g->g≠p->(J.setCell ⟨p,1,none⟩ s).heap[g]?=R.heap[g]?:=fun g h1 U h3=>
  (Y.block g (by omega) h3).trans (X.block g h1 U)
 have y:∀g∈blk vc++(H++(G1++I)),vp.ownBlock≠some g/\g≠p:=fun g a=> by
  have U:=List.nodup_cons.1 Z;have h3:=(List.nodup_append.1 U.2).2.2;exact ⟨fun q=> h3 g (Af.2 q) g a rfl,fun q=> U.1 (by rw [<-q];exact List.mem_append_right _ a)⟩
 have n:∀g∈blk vc++(H++(G1++I)),(J.setCell ⟨p,1,none⟩ s).heap[g]?=w.heap[g]?:=fun g a=> by
  have b2:=i g (by rw [List.mem_cons];exact .inr (List.mem_append_right _ a));exact (l g (by omega) (y g a).1 (y g a).2).trans (T.block g b2)
 have M:∀g∈G,g < R.heap.size:=S.kids.lt;have O:∀g∈G,vp.ownBlock≠some g/\g≠p:=fun g a=> by
  rcases hG g a with q | q
  ·exact y g (by simp [q])
  ·exact ⟨fun e=> by have:=i g (by simp [Af.2 e]);omega,fun e=> by have:=hn.lt;omega⟩
 have b3:Cc (Rep h (J.setCell ⟨p,1,none⟩ s)) c A H:=kA.keep fun g a=> n g (by simp [a])
 have b4:Cc (Rep h (J.setCell ⟨p,1,none⟩ s)) d B I:=kB.keep fun g a=> n g (by simp [a])
 have b5:Cc (Rep h (J.setCell ⟨p,1,none⟩ s)) j (Tr.Gg h f t) G:=S.kids.keep fun g a=> l g (M g a) (O g a).1 (O g a).2
 refine ⟨a4,p::(blk s++(blk vc++(H++(G++I)))),⟨s,vc,c++(j++d),ml,H++(G++I),a4.setp s,Y.row b1 (fun g a q=> a5 (by rw [<-q];exact a)),Bz b9 (fun g a _=> n g (by simp [Af.2 a])),rfl,(b4.append b5).append b3,rfl⟩,?_,⟨⟨?_,?_,?_,?_,?_⟩,?_⟩⟩
 ·have b6:((p::(blk vp++(blk vc++H)))++(G++I)).Nodup:=Gt (N:=w.heap.size) L (List.nodup_append.1 S.nd).2.1 hG (fun g a=> i g (by simp at a ⊢;rcases a with q | q | q | q <;> simp [q])) (fun g a=> i g (by simp [a]))
  have b7:([p]++(blk vp++(blk vc++(H++(G++I))))).Nodup:=by simpa using b6
  have b8:∀g∈blk vc++(H++(G++I)),g < R.heap.size:=fun g a=> by
   rcases List.mem_append.1 a with q | q
   ·have:=i g (by simp [q]);omega
   ·rcases List.mem_append.1 q with q | q
    ·have:=i g (by simp [q]);omega
    ·rcases List.mem_append.1 q with q | q
     ·exact M g q
     ·have:=i g (by simp [q]);omega
  have:=Gt (N:=R.heap.size) (M':=blk s) b7 (Dy s) (fun g a=> by
   rcases C.b with q | ⟨k,W,q⟩
   ·exact .inl (by rw [Kw q] at a;exact a)
   ·exact .inr (by have:=Af.1 a;rw [q] at this;rw [<-Option.some.inj this];exact W)) (fun g a=> by
    rw [List.mem_singleton.1 a];exact D.lt) b8
  simpa using this
 ·exact Y.os.trans (X.os.trans T.os)
 ·exact Y.tape.trans (X.tape.trans T.tape)
 ·exact Y.output.trans (X.output.trans T.output)
 ·have:=Y.size;omega
 ·intro g a a7;have h1:vp.ownBlock≠some g:=fun q=> a7 (by simp [Af.2 q])
  have U:g≠p:=fun q=> a7 (by simp [q])
  exact (l g (by omega) h1 U).trans (T.block g a)
 ·intro g a;rcases List.mem_cons.1 a with q | q
  ·exact .inl (by simp [q])
  ·rcases List.mem_append.1 q with q | q
   ·rcases C.b with z | ⟨k,W,z⟩
    ·rw [Kw z] at q;exact .inl (by simp [q])
    ·have:=Af.1 q;rw [z] at this;exact .inr (by have:=Option.some.inj this;omega)
   ·rcases List.mem_append.1 q with q | q
    ·exact .inl (by simp [q])
    ·rcases List.mem_append.1 q with q | q
     ·exact .inl (by simp [q])
     ·rcases List.mem_append.1 q with q | q
      ·exact (hG g q).imp (fun q=> by simp [q]) id
      ·exact .inl (by simp [q])
theorem Mod.cell {F:Nat->Prop} {w w':World} (h:Mod F w w') {p:Addr} (a:p.block < w.heap.size) (b:¬F p.block):w'.cell? p=w.cell? p:=by
 exact World.cell?_of_block (w:=w) (h.block p.block a b)
structure SkM (h:Nat) (lo:Tr.Key) (hi:Option Tr.Key) (p:Nat) (F:List Nat) (w:World) (ps:List (Tr.Key×Tr.Ac h)) (cs:List Tr.Ch) (W:World) (A:List (Tr.Key×Tr.Ac h)) (f:Tr.Key) (m:Option Tr.Key) (t:Tr.Ac h) (B:List (Tr.Key×Tr.Ac h)) (cs':List Tr.Ch) (F':List Nat):Prop where
 foc:Foc h lo hi p W A f m t B cs' F'
 gone:Fm F F' w W
 few:cs'.length < cs.length
 wt:2*cs'.length+(Tr.wts A+(Tr.wt h t+Tr.wts B))+((A.length+(B.length+1) - 1)+(2 - (A.length+(B.length+1))))<=Tr.wt (h+1) (Tr.brT ps cs)
 val:∀k,Tr.inR lo hi k->Tr.val (h+1) (Tr.brT (A++(f,t)::B) cs') k=Tr.val (h+1) (Tr.brT ps cs) k
theorem SkM.fin {h:Nat} {lo:Tr.Key} {hi:Option Tr.Key} {p:Nat} {F:List Nat} {w:World} {i:List (Tr.Key×Tr.Ac h)} {j:List Tr.Ch} {W W':World} {A:List (Tr.Key×Tr.Ac h)} {f:Tr.Key} {m:Option Tr.Key} {t:Tr.Ac h} {B:List (Tr.Key×Tr.Ac h)} {b:List Tr.Ch} {F' a:List Nat} (c:SkM h lo hi p F w i j W A f m t B b F') (q:Rep (h+1) W' p (Tr.brT (A++(Tr.Gg h f t++B)) b) a) (d:a.Nodup) (r:Fm F' a W W'):Ut h lo hi p F w i j W' (A++(Tr.Gg h f t++B)) b a:=by
 obtain ⟨l,n,o⟩:=c.foc.cut;refine ⟨q,d,l,Nat.le_trans n ?_,c.gone.trans r,fun k g=> (o k g).trans (c.val k g)⟩;rw [Tr.Jt,Tr.Dn,Tr.Dr,List.length_append,List.length_cons];exact c.wt
theorem SkM.below {h:Nat} {lo:Tr.Key} {hi:Option Tr.Key} {p:Nat} {F:List Nat} {w:World} {c:List (Tr.Key×Tr.Ac h)} {d:List Tr.Ch} {W W':World} {A:List (Tr.Key×Tr.Ac h)} {f:Tr.Key} {m:Option Tr.Key} {t:Tr.Ac h} {B:List (Tr.Key×Tr.Ac h)} {a:List Tr.Ch} {F':List Nat} (b:SkM h lo hi p F w c d W A f m t B a F') (g:Below W.heap.size W W'):SkM h lo hi p F w c d W' A f m t B a F':=
 ⟨b.foc.below g,b.gone.trans (Fm.below g),b.few,b.wt,b.val⟩
set_option maxHeartbeats 1000000 in
set_option maxRecDepth 20000 in
theorem Amd {h:Nat} (HT:Pi h) (p:Nat) (H:List (Tr.Key×Tr.Ac h)) (cs:List Tr.Ch) (F:List Nat) (w:World) (lo:Tr.Key) (hi:Option Tr.Key) (hr:Rep (h+1) w p (Tr.brT H cs) F) (e1:F.Nodup) (U:Tr.WF (h+1) lo hi (Tr.brT H cs)) (b0:Tr.room lo hi) (e2:0 < cs.length) (h0:Tr.wt (h+1) (Tr.brT H cs)<=1800000):
  Calls Tryz.prog 126 #[.pointer (some ⟨p,0,none⟩)] w fun r w'=> r= .returned (.tuple #[])/\∃g9 l F',Ut h lo hi p F w H cs w' g9 l F'/\l.length < cs.length:=by
 have b1:=hr.lt;obtain ⟨vp,vc,pl,ml,G,hn,a5,a6,rfl,R,rfl⟩:=hr;have b2:0 < H.length:=Ju b0 U.1;have e3:H.length<=Tr.wts H:=Tr.Hd U.1;have z:=h0;rw [Tr.Jt,Ao] at z;rw [Ao] at e2;have e4:=R.len;have b3:=hid (Aea p _ vp vc pl ml w hn a5 a6 (by omega) (by omega) (by omega) e2);have HN:=hid hn;have HP:=hid a5;have HC:=hid a6;have HK:=hid R;have b4:=hid e1;have a0:=hid b1;have a1:=hid U;have a2:=hid HT;clear hn a5 a6 R e1 b1 U HT;go_enter Tryz.func126,Tryz.ntmps126;go_wp2_with fail;refine b3.out.mono ?_;rintro r W ⟨⟨n,rfl,c7,c,hc,c9⟩,y⟩;obtain ⟨A,⟨f,t⟩,B,rfl,hA⟩:=Tr.Amc H n (by omega);subst hA;obtain ⟨m0,cA,e0,m,rm,ht,cB⟩:=Tr.Bc.1 a1.out.1;subst e0;obtain ⟨a,x,d,GA,G1,GB,rfl,hl,kA,ex,r1,kB,rfl⟩:=Aem HK.out;have e5:=hid y;have N:An W.drew p (.slice none 0 0) vp vc:=(y.block p HN.out.lt).trans HN.out;have O:Hid (Ap 0 W.drew vp (a++x::d)):=Aa HP.out y.drew (Nat.le_refl _);have e6:Hid (Au 0 W.drew vc ml):=Aa HC.out y.drew (Nat.le_refl _);have b5:2*ml.length+(Tr.wts A+(Tr.wt h t+Tr.wts B))<=1800000:=by
  rw [Tr.Dn,Tr.Dr] at z;exact Nat.le_trans (Nat.le_add_right _ _) z
 have i:∀g∈p::(blk vp++(blk vc++(GA++(G1++GB)))),W.heap[g]?=w.heap[g]?:=fun g I=> y.block g (a0.out g I)
 have HH:=hid (fun vo vk w2 J S L=> Ajy a2.out (w0:=W) (w:=W.drew) (vp:=vp) (vc:=vc) b4.out (fun g I=> Nat.lt_of_lt_of_le (a0.out g I) y.size) O.out (kA.keep fun g I=> i g (by simp [I])) ex (r1.keep fun g I=> i g (by simp [I])) (kB.keep fun g I=> i g (by simp [I])) cA rm ht cB a1.out.2 b5 vo vk w2 J S L rfl rfl rfl rfl);have HO:=hid (Ae9 p _ vp vc (a++x::d) ml A.length W.drew N O.out e6.out (by omega) (by omega));have C:(ml.filter fun c=> !atP (a++x::d) A.length c).length < ml.length:=by
  have h1:=Tr.Xw (atP (a++x::d) A.length) ml;have h2:=Tr.Ah3 (P:=atP (a++x::d) A.length) hc (decide_eq_true c9);omega
 have b6:A.length < (a++x::d).length:=c7;have b7:(a++x::d)[A.length]'b6=x:=by simp [<-hl]
 obtain ⟨g,a7,rfl,h6,-,I,x0,x1⟩:=O.out.at A.length b6;rw [b7] at x0 x1;obtain ⟨n0,n1,n2,-⟩:=N.cells;have b8:g≠p:=fun q=> Aq N O.out (by decide) (by rw [<-q];rfl)
 have e7:=hid b8;have e9:Hid (∀w3 t' l F',Foc h lo hi p w3 A f m t' B l F'->l.length=(ml.filter fun c=> !atP (a++x::d) A.length c).length->Fm (p::(blk (.slice (some ⟨g,0,none⟩) (a++x::d).length a7)++(blk vc++(GA++(G1++GB))))) F' W w3->2*l.length+(Tr.wts A+(Tr.wt h t'+Tr.wts B))<=2*ml.length+(Tr.wts A+(Tr.wt h t+Tr.wts B))->(∀k,Tr.inR lo hi k->Tr.val (h+1) (Tr.brT (A++(f,t')::B) l) k=Tr.val (h+1) (Tr.brT (A++(f,t)::B) (plainCh ml)) k)->SkM h lo hi p (p::(blk (.slice (some ⟨g,0,none⟩) (a++x::d).length a7)++(blk vc++(GA++(G1++GB))))) w (A++(f,t)::B) (plainCh ml) w3 A f m t' B l F'):=by
  intro w3 t' l F' h1 h2 h3 h4 h5;refine ⟨h1,(Fm.below e5.out).trans h3,by rw [h2,Ao];exact C,?_,h5⟩;rw [Tr.Jt,Ao,Tr.Dn,Tr.Dr,List.length_append,List.length_cons];exact Nat.add_le_add_right h4 _
 generalize d7:p::(blk (.slice (some ⟨g,0,none⟩) (a++x::d).length a7)++(blk vc++(GA++(G1++GB))))=FF at*;generalize d8:a++x::d=pl at*;generalize d9:A++(f,t)::B=H at*;have f0:=hid d7;have f1:=hid d8;have f2:=hid d9;have a3:Hid (IntKind.i64.wrap ((A.length:Int) - 1)=(A.length:Int) - 1):=by
  show _=_;rw [IntKind.wrap_i64];omega
 have b9:=a3.out;clear b3 HN HP HC HK b4 a0 a1 kA kB r1 ex cA cB ht rm i hc c9 C b7 y N d7 d8 d9 b8 e4 b2 e3 c7 z hl;go_upto_region 1 with fail
 go_cut [16] (fun _ wx=>∃t3 u F3,SkM h lo hi p FF w H (plainCh ml) wx A f m t3 B u F3)
 case first=>
  go_region_law (first
   | (go_simp;go_at_call 173;refine HO.out.mono ?_;rintro r w2 ⟨vo,vk,rfl,J,S,L⟩;have f3:=hid (HH.out vo vk w2 J S L);have y1:=(L.cell (p:=⟨g,A.length*2+1,none⟩) I e7.out).trans x1;obtain ⟨r0,r1,r2,-⟩:=J.cells;clear J S L)
   | (go_simp;go_at_call 63;refine f3.out.mono ?_;rintro r w3 ⟨rfl,t3,u,F3,d0,k1,k2,k3,k4⟩;have s:=hid (e9.out w3 t3 u F3 d0 k1 k2 k3 k4);clear d0 k1 k2 k3 k4))
  all_goals
   go_wp2_with fail;go_meet;exact ⟨_,_,_,s.out⟩
 case rest=>
  obtain ⟨t3,u,F3,c3⟩:=hcut;have s:=hid c3;clear c3;go_wp2_with fail;refine (Am9 a2.out s.out.foc).mono ?_;rintro r w4 ⟨b,m4,t4,B4,F4,rfl,d1,d2,g4,d3⟩;have j:Hid (SkM h lo hi p FF w H (plainCh ml) w4 A f m4 t4 B4 u F4):=⟨d1,s.out.gone.trans d2,s.out.few,by have:=s.out.wt;omega,fun k R=> (d3 k R).trans (s.out.val k R)⟩;clear d1 d2 g4 d3;go_wp2_with fail;refine (Ajx a2.out j.out.foc).mono ?_;rintro r w5 (⟨rfl,D,M⟩ | ⟨T,f5,t5,F5,rfl,g5,D,M,g7,d4⟩)
  case' inl=>
   have HX:Hid (∃(T:List (Tr.Key×Tr.Ac h)) (f5:Tr.Key) (m5:Option Tr.Key) (t5:Tr.Ac h) (B5:List (Tr.Key×Tr.Ac h)) (F5:List Nat),A.length=T.length/\SkM h lo hi p FF w H (plainCh ml) w5 T f5 m5 t5 B5 u F5):=⟨A,f,m4,t4,B4,F4,rfl,D,j.out.gone.trans M,j.out.few,j.out.wt,j.out.val⟩;clear D M;go_upto_region 5 with fail;clear x0 x1 n0 n1 n2 b9 a3
   try clear y1
   generalize A.length=ia at*
  case' inr=>
   have HX:Hid (∃(A6:List (Tr.Key×Tr.Ac h)) (f5:Tr.Key) (m5:Option Tr.Key) (t5:Tr.Ac h) (B5:List (Tr.Key×Tr.Ac h)) (F5:List Nat),T.length=A6.length/\SkM h lo hi p FF w H (plainCh ml) w5 A6 f5 m5 t5 B5 u F5):=⟨T,f5,m4,t5,B4,F5,rfl,D,j.out.gone.trans M,j.out.few,by have:=j.out.wt;omega,fun k R=> (d4 k R).trans (j.out.val k R)⟩;have eA:(A.length:Int) - 1=(T.length:Int):=(by omega);have EA:=hid eA;have f4:=D.len;have c0:wrap64 (T.length:Int)=(T.length:Int):=IntWalk.wrap64_in _ ⟨by omega,by omega⟩;clear D M g7 d4 eA;go_upto_region 5 with fail
   try rw [EA.out]
   rw [c0];clear x0 x1 n0 n1 n2 b9 a3
   try clear y1
   clear c0 f4 EA g5;generalize T.length=ia at*
  all_goals
   obtain ⟨A6,f6,m6,t6,B6,F6,rfl,c4⟩:=HX.out;have a4:=hid (c4.below (Below.refl _ w5).drew);obtain ⟨h8,h9,g0,x6,c5,T6⟩:=a4.out.foc.tail;obtain ⟨g6,h7,rfl,g1,-,i0,z0,z1⟩:=T6.row.at A6.length c5;rw [T6.at'] at z0 z1;have f7:=hid T6;obtain ⟨r0,r1,r2,-⟩:=T6.nod.cells;have f8:=T6.len;have xw:IntKind.i64.wrap ((A6.length:Int)+1)=(A6.length:Int)+1:=(by rw [IntKind.wrap_i64];omega);clear c4 HX T6
   go_region_law (first
    | (go_simp;go_at_call 64;refine f7.out.go.mono ?_;rintro r w6 ⟨v7,g8,rfl,k1,k2,d5,X,d6,Y,Z⟩;have f9:=hid (Acn _ v7 g0 g8 A6.length w6 c5 Y d5 k1 f8 k2 X);have c1:=hid Z;obtain ⟨u0,u1,u2,-⟩:=d6.cells;clear d5 X d6 Y Z)
    | (go_simp;go_at_call 175;refine f9.out.mono ?_;rintro r w7 ⟨v8,rfl,a9⟩;have c2:=hid (c1.out v8 w7 a9);obtain ⟨a8,n8,c8,e8⟩:=Ey a9.o;subst e8;obtain ⟨s0,s1,s2,s3,s4,s5⟩:=c2.out.1.cells;clear a9))
   all_goals
    go_wp2_with fail;go_end0;obtain ⟨-,F8,g2,c6,g3⟩:=c2.out;have V:=a4.out.fin g2 c6 g3;have C:=a4.out.few;rw [<-f0.out,<-f1.out,<-f2.out] at V;exact ⟨rfl,_,_,_,V,C⟩
structure TkL (p:Nat) (vi:Value) (w:World) (l:List Tr.It) (vi':Value) (il':List (ByteArray×ByteArray)) (W:World):Prop where
 nod:An W p vi' (.slice none 0 0) (.slice none 0 0)
 its:Ak 0 W vi' il'
 pl:plain il'=l
 mod:Mod (fun g=> g∈p::blk vi) w W
 new:∀g,vi'.ownBlock=some g->vi.ownBlock=some g\/w.heap.size<=g
theorem TkL.next {p:Nat} {f:Value} {w:World} {l m:List Tr.It} {c a:Value} {i b:List (ByteArray×ByteArray)} {W W':World} (h:TkL p f w l c i W) (o:Obj) (d:Ajo p c (.slice none 0 0) (.slice none 0 0) (W.alloc o) m a b W'):TkL p f w m a b W':=by
 have j:Below W.heap.size W (W.alloc o):=(Below.refl _ W).alloc (Nat.le_refl _) o;have n:Mod (fun _=> False) W (W.alloc o):=Mod.of_below j;refine ⟨d.nod,d.its,d.pl,(h.mod.trans n (H:=fun g=> g∈p::blk f) (fun _ _ q=> q) (fun _ _ q=> q.elim)).trans d.mod (fun _ _ q=> q) (fun g k q=> ?_),fun g k=> ?_⟩
 ·rcases q with q | q
  ·simp [q]
  ·rcases h.new g q with z | z
   ·simp [Af.2 z]
   ·omega
 ·rcases d.blk g k with q | q
  ·exact h.new g q
  ·exact .inr (by have:=h.mod.size;have:=j.size;omega)
theorem Aen {lo:Tr.Key} {hi:Option Tr.Key} {il:List (ByteArray×ByteArray)} (h:Tr.WF 0 lo hi (plain il)):∀y∈il,y.2.size<=16:=fun y a=> by
 have:=(h.2 (y.1.data.toList,y.2.data.toList) (List.mem_map.2 ⟨y,a,rfl⟩)).2.2;simpa using this
set_option maxHeartbeats 1000000 in
set_option maxRecDepth 20000 in
theorem Ajz:Pi 0:=by
 intro p t F w vc ml lo hi hr T D A a7 G U H V;have J:=hr.lt;obtain ⟨I,il,W,ho,rfl,rfl⟩:=hr;have a8:1+2*(il.length - 16)+2*ml.length<=1800000:=by rw [<-Bn il];exact V
 have a9:il.length<=16:=by rw [<-Bn il];exact A
 obtain ⟨n0,n1,n2,-⟩:=W.cells;obtain ⟨ca,cc,rfl⟩:=Ab G;have X:=hid (Et p _ _ _ _ _ w W);have H0:Hid (TkL p I w (Tr.Bq (plain il) (plainCh (ml.take 0))) I il w):=⟨W,ho,rfl,Mod.of_below (Below.refl _ w),fun g S=> .inl S⟩;have HC:=hid G;have Y:=hid U;have L:=hid H;have Z:=hid D;have b0:=hid T;have b1:=hid J;have M:Hid (∀j,Tr.WF 0 lo hi (Tr.Bq (plain il) (plainCh (ml.take j)))):=fun j=> Tr.Xl _ D fun c hc=> H c (by
  obtain ⟨x,hx,rfl⟩:=List.mem_map.1 hc;exact List.mem_map.2 ⟨x,List.mem_of_mem_take hx,rfl⟩)
 have a0:Hid (∀j,(Tr.Bq (plain il) (plainCh (ml.take j))).length<=1802000):=fun j=> by
  have:=Tr.Fy (plainCh (ml.take j)) (plain il);rw [Ao,Bn,List.length_take] at this;omega
 clear W ho G U H D T J A V;go_enter Tryz.func63,Tryz.ntmps63;go_wp2_with fail;refine X.out.mono ?_;rintro r w ⟨rfl,rfl⟩;rw [show decide True=true from rfl];go_wp2_with fail
 go_loopw [10] (fun i wr=>∃j:Nat,j<=ml.length/\i= .int .i64 (j:Nat)/\∃d s,TkL p I w (Tr.Bq (plain il) (plainCh (ml.take j))) d s wr) (fun i _=> ml.length - (intOf i).toNat)
 case atStart=> exact ⟨0,Nat.zero_le _,rfl,_,_,H0.out⟩
 case round=>
  obtain ⟨j,hj,rfl,d,s,m⟩:=hrel;have l:=hid m;clear m;by_cases a:j < ml.length
  ·obtain ⟨g,b2,e,b3,-,S,d0,d1,d2⟩:=HC.out.at j a;simp only [Value.slice.injEq] at e;obtain ⟨rfl,-,rfl⟩:=e;have N:g∉p::blk I:=Y.out g rfl;have n:=fun o=> l.out.mod.cell (p:=⟨g,o,none⟩) S N
   have a1:=(n _).trans d0;have a2:=(n _).trans d1;have a3:=(n _).trans d2;have a4:Hid (plainCh (ml.take (j+1))=plainCh (ml.take j)++plainCh [ml[j]'a]):=by
    show _=_;rw [List.take_add_one,List.getElem?_eq_getElem a];unfold plainCh;rw [List.map_append];rfl
   have a5:=hid (L.out _ (List.mem_map.2 ⟨ml[j]'a,List.getElem_mem a,rfl⟩));clear n d0 d1 d2 N;generalize ml[j]'a=c at*;obtain ⟨ck,f,cx⟩:=c;have b:=M.out j;have B:=a0.out j;rw [<-l.out.pl] at b B;rw [Bn] at B;have C:Below wr.heap.size wr (wr.alloc (.cells #[.int .i64 ck,.string f,.string cx] 34)):=(Below.refl wr.heap.size wr).alloc (Nat.le_refl _) _;have O:=hid (Ae6 p d _ _ s ck f cx (wr.alloc (.cells #[.int .i64 ck,.string f,.string cx] 34)) ((C.block p l.out.nod.lt).trans l.out.nod) (Aa l.out.its C (Nat.le_refl _)) (by omega) b.1 (Aen b) (by have:=(Tr.Jp a5.out.2).2;simpa using this));clear C b B;go_wp2_with fail;refine O.out.mono ?_;rintro r w2 ⟨rfl,u,y,hq⟩;have a6:Hid (TkL p I w (Tr.Bq (plain il) (plainCh (ml.take (j+1)))) u y w2):=by
    have:=l.out.next _ hq;rw [l.out.pl] at this;rw [a4.out];show TkL p I w (Tr.Bq _ (_++[_])) u y w2;rw [Tr.Lv];exact this
   clear hq O l a1 a2 a3;go_wp2_with fail;exact ⟨⟨j+1,by omega,by go_num,_,_,a6.out⟩,by simp [intOf];omega⟩
  ·have a:j=ml.length:=(by omega);subst a;rw [List.take_length] at l;go_wp2_with fail;refine bodyPost_ret (results_none rfl _ _ _) rfl ?_;have m:=l.out;have R:=M.out ml.length;rw [List.take_length] at R;refine ⟨rfl,Tr.lf (Tr.Bq (plain il) (plainCh ml)),p::blk d,⟨⟨d,s,m.nod,m.its,m.pl,rfl⟩,?_,R,trivial,m.mod,fun g S=> ?_⟩,?_,fun k _=> Tr.Ja k _ Z.out L.out⟩
   ·exact List.nodup_cons.2 ⟨fun q=> Aq m.nod m.its (by decide) (Af.1 q),Dy _⟩
   ·rcases List.mem_cons.1 S with q | q
    ·exact .inl (by simp [q])
    ·exact (m.new g (Af.1 q)).imp (fun z=> by simp [Af.2 z]) id
   ·have h1:=Tr.Fy (plainCh ml) (plain il);rw [Ao] at h1;show 1+2*((Tr.Bq (plain il) (plainCh ml)).length - 16)<=1+2*((plain il).length - 16)+2*ml.length;omega
def Ame (p:Nat) (w:World):Nat:=match w.cell? ⟨p,2,none⟩ with
 | some (.slice _ n _)=> n
 | _=> 0
theorem Abk {w:World} {p:Nat} {b vp:Value} {a:Option Addr} {n c:Nat} (h:An w p b vp (.slice a n c)):Ame p w=n:=by
 unfold Ame;rw [h.cells.2.2.1]
theorem Rep.nodc {h:Nat} {w:World} {p:Nat} {i:List (Tr.Key×Tr.Ac h)} {f:List Tr.Ch} {F:List Nat} (j:Rep (h+1) w p (Tr.brT i f) F):∃vp a c,An w p (.slice none 0 0) vp (.slice a f.length c):=by
 obtain ⟨vp,vc,pl,ml,G,d,g,b,rfl,k,rfl⟩:=j;obtain ⟨a,c,rfl⟩:=Ab b;rw [<-Ao ml] at d;exact ⟨vp,a,c,d⟩
theorem Ut.trans {h:Nat} {lo:Tr.Key} {hi:Option Tr.Key} {p:Nat} {F:List Nat} {w:World} {j:List (Tr.Key×Tr.Ac h)} {l:List Tr.Ch} {m:World} {b:List (Tr.Key×Tr.Ac h)} {c:List Tr.Ch} {n:List Nat} {o:World} {d:List (Tr.Key×Tr.Ac h)} {f:List Tr.Ch} {q:List Nat} (g:Ut h lo hi p F w j l m b c n) (a:Ut h lo hi p n m b c o d f q):Ut h lo hi p F w j l o d f q:=
 ⟨a.rep,a.nd,a.wf,Nat.le_trans a.wt g.wt,g.gone.trans a.gone,fun k i=> (a.val k i).trans (g.val k i)⟩
theorem Ah4 (a b:List (Int×ByteArray×ByteArray)):ccells (a++b)=ccells a++ccells b:=by unfold ccells;simp
theorem Nn (a b:List (Int×ByteArray×ByteArray)):plainCh (a++b)=plainCh a++plainCh b:=by unfold plainCh;simp
set_option maxHeartbeats 1000000 in
set_option maxRecDepth 20000 in
theorem Aeo (h:Nat) (HT:Pi h):Pi (h+1):=by
 intro p t F w vc ml lo hi hr U D a7 i V c3 a8 W;obtain ⟨j,cs⟩:=t;have n:=hr.lt;obtain ⟨vp,vb,pl,b,G,X,R,o,rfl,hk,rfl⟩:=hr;have c5:0 < j.length:=Ju i D.1;have c6:=hk.len;have Z:(plainCh b).length+Tr.wts j+ml.length<=1800000:=by have h0:=Tr.Apw j (plainCh b);have h1:Tr.wt (h+1) (Tr.brT j (plainCh b))+2*ml.length<=1800000:=W;omega
 rw [Ao] at Z;obtain ⟨s,u,rfl⟩:=Ab R;obtain ⟨y,A,rfl⟩:=Ab o;obtain ⟨ca,cc,rfl⟩:=Ab V;obtain ⟨n0,n1,n2,f0,f1,f2⟩:=X.cells;have a9:=hid (Et p _ _ _ _ _ w X);obtain ⟨v2,Y,e2,o2,g2,k2⟩:=Nm w 77 77 34 Tryz.underlying77 _ 3 40 Du rfl (by decide) (by decide) (.slice y b.length A) (.slice ca ml.length cc) b.length ml.length (ccells b) (ccells ml) o V (Py ml) (by omega);obtain ⟨B,C,a,rfl⟩:=Ey o2;have b0:=hid e2;have J:(Value.slice y b.length A).ownBlock≠some p:=Aq X o (by decide);have m2:Mod (fun k=> (Value.slice y b.length A).ownBlock=some k) w Y:=Mod.of_grown g2;have L:An Y p (.slice none 0 0) (.slice s pl.length u) (.slice y b.length A):=m2.nod X J;have m3:=Mod.setCell Y p 2 (.slice B C a);have a0:(Value.slice B C a).ownBlock≠some p:=by
  rcases k2 with q | q
  ·rw [q];exact J
  ·rw [q];intro z;have:=Option.some.inj z;have:=X.lt;omega
 have b1:Hid (Ut h lo hi p (p::(blk (.slice s pl.length u)++(blk (.slice y b.length A)++G))) w j (plainCh (b++ml)) (Y.setCell ⟨p,2,none⟩ (.slice B C a)) j (plainCh (b++ml)) (p::(blk (.slice s pl.length u)++(blk (.slice B C a)++G)))):=by
  have M:((p::blk (.slice s pl.length u))++(blk (.slice y b.length A)++G)).Nodup:=by simpa using U
  have a1:=(List.nodup_append.1 M).2.2;have b2:=(List.nodup_append.1 (List.nodup_append.1 M).2.1).2.2;have O:∀g,g < w.heap.size->(Value.slice y b.length A).ownBlock≠some g->g≠p->(Y.setCell ⟨p,2,none⟩ (.slice B C a)).heap[g]?=w.heap[g]?:=fun g h1 h2 h3=>
   (m3.block g (by have:=m2.size;omega) h3).trans (m2.block g h1 h2)
  have a2:∀g∈blk (.slice s pl.length u)++G,(Y.setCell ⟨p,2,none⟩ (.slice B C a)).heap[g]?=w.heap[g]?:=fun g f=> by
   refine O g (n g (by simp at f ⊢;rcases f with q | q <;> simp [q])) (fun q=> ?_) (fun q=> ?_)
   ·rcases List.mem_append.1 f with z | z
    ·exact a1 g (by simp [z]) g (by simp [Af.2 q]) rfl
    ·exact b2 g (Af.2 q) g z rfl
   ·have:=(List.nodup_cons.1 U).1;rw [<-q] at this;exact this (by rcases List.mem_append.1 f with z | z <;> simp [z])
  refine ⟨⟨.slice s pl.length u,.slice B C a,pl,b++ml,G,L.setc _,Bz R fun g f _=> a2 g (by simp [Af.2 f]),?_,rfl,hk.keep fun g f=> a2 g (by simp [f]),rfl⟩,?_,⟨D.1,fun c hc=> ?_⟩,Nat.le_refl _,⟨?_,fun g f=> ?_⟩,fun _ _=> rfl⟩
  ·refine m3.row ?_ (fun g f q=> a0 (by rw [<-q];exact f));rw [List.length_append,Ah4];exact o2
  ·have:=Gt (N:=w.heap.size) (M':=blk (.slice B C a)) M (Dy _) (fun g f=> by
    rcases k2 with q | q
    ·exact .inl (by rw [Kw q] at f;exact f)
    ·exact .inr (by have:=Af.1 f;rw [q] at this;have:=Option.some.inj this;omega)) (fun g f=> n g (by simp at f ⊢;rcases f with q | q <;> simp [q])) (fun g f=> n g (by simp [f]))
   simpa using this
  ·rw [Nn] at hc;rcases List.mem_append.1 hc with q | q
   ·exact D.2 c q
   ·exact a8 c q
  ·refine (m2.trans m3 (H:=fun g=> g∈p::(blk (.slice s pl.length u)++(blk (.slice y b.length A)++G))) (fun g _ q=> ?_) (fun g _ q=> ?_))
   ·simp [Af.2 q]
   ·simp [q]
  ·rcases List.mem_cons.1 f with q | q
   ·exact .inl (by simp [q])
   ·rcases List.mem_append.1 q with q | q
    ·exact .inl (by simp [q])
    ·rcases List.mem_append.1 q with q | q
     ·rcases k2 with z | z
      ·rw [Kw z] at q;exact .inl (by simp [q])
      ·exact .inr (by have:=Af.1 q;rw [z] at this;have:=Option.some.inj this;omega)
     ·exact .inl (by simp [q])
 have a3:Hid (Tr.wt (h+1) (Tr.brT j (plainCh (b++ml)))<=Tr.wt (h+1) (Tr.brT j (plainCh b))+2*ml.length):=by
  show _<=_;rw [Tr.Jt,Tr.Jt,Nn,List.length_append,Ao,Ao];omega
 have b3:Hid (Tr.wt (h+1) (Tr.brT j (plainCh (b++ml)))<=1800000):=by
  show _<=_;have:=a3.out;have h2:Tr.wt (h+1) (Tr.brT j (plainCh b))+2*ml.length<=1800000:=W;omega
 have b4:Hid (∀k,Tr.val (h+1) (Tr.brT j (plainCh (b++ml))) k=Tr.Aj (plainCh ml) k (Tr.val (h+1) (Tr.brT j (plainCh b)) k)):=fun k=> by
  rw [Nn];exact Tr.Eg ..
 obtain ⟨y0,y1,y2,z0,z1,z2⟩:=L.cells;have b5:=hid HT;have b6:=hid i;have b7:decide (pl.length=0)=false:=decide_eq_false (by omega);clear X R o V hk U n D a7 i c3 a8 W e2 o2 g2 k2 m2 m3 J a0 L HT;generalize d3:p::(blk (.slice s pl.length u)++(blk (.slice y b.length A)++G))=FF at*;generalize d4:p::(blk (.slice s pl.length u)++(blk (.slice B C a)++G))=F2 at*;go_enter Tryz.func63,Tryz.ntmps63;go_wp2_with fail;refine a9.out.mono ?_;rintro r w ⟨rfl,rfl⟩;rw [b7];go_wp2_with (at_builtin;refine Lib.wpList_append_run w rfl (.tmp 22) (.tmp 23) 77 77 rfl _ _ rfl rfl _ _ b0.out ?_)
 go_loopw [27] (fun _ wr=>∃m d F',Ut h lo hi p FF w j (plainCh (b++ml)) wr m d F') (fun _ wr=> Ame p wr)
 case atStart=> exact ⟨_,_,_,b1.out⟩
 case round=>
  obtain ⟨m,d,F',l⟩:=hrel;have HS:=hid l;obtain ⟨c9,a',c',S⟩:=l.rep.nodc;obtain ⟨x0,x1,x2,-⟩:=S.cells;have b8:=hid (Abk S);have I:Tr.wt (h+1) (Tr.brT m d)<=1800000:=Nat.le_trans l.wt b3.out;have c7:d.length<=1800000:=by rw [Tr.Jt] at I;omega
  clear l S;by_cases h8:8 < d.length
  ·have b9:decide ((8:Int) < (d.length:Int))=true:=decide_eq_true (by omega);have c0:=hid (Amd b5.out p m d F' wr lo hi HS.out.rep HS.out.nd HS.out.wf b6.out (by omega) I);go_wp2_with fail;refine c0.out.mono ?_;rintro r w4 ⟨rfl,d1,d2,F4,T,a6⟩;have c1:=hid (HS.out.trans T);obtain ⟨d0,a4,c4,a5⟩:=T.rep.nodc;have c2:=hid (Abk a5);clear T a5 x0 x1 x2;go_wp2_with fail;exact ⟨⟨_,_,_,c1.out⟩,by rw [b8.out,c2.out];exact a6⟩
  ·have b9:decide ((8:Int) < (d.length:Int))=false:=decide_eq_false (by omega);have c8:¬((8:Int) < (d.length:Int)):=(by omega);go_wp2_with fail;go_end0;have l:=HS.out;exact ⟨rfl,Tr.brT m d,⟨F',⟨l.rep,l.nd,l.wf,Nat.le_of_not_lt h8,l.gone.1,l.gone.2⟩⟩,Nat.le_trans l.wt a3.out,fun k hk=> (l.val k hk).trans (b4.out k)⟩
theorem Abl:∀h,Pi h
 | 0=> Ajz
 | h+1=> Aeo h (Abl h)
end Go.Proofs.YtolgpnaoaodepaaGreat
