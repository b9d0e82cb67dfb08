import Derived.Test.YtolgpnaoaodepaaGreatAidBm
namespace Go.Proofs.YtolgpnaoaodepaaGreat
open Go.RowKit
def Tr.lf (l:List Tr.It):Tr.TreeT 0:=l
structure NewT (h:Nat) (lo:Tr.Key) (hi:Option Tr.Key) (p:Nat) (F:List Nat) (w w':World) (t':Tr.TreeT h) (F':List Nat):Prop where
 rep:Rep h w' p t' F'
 nd:F'.Nodup
 wf:Tr.WF h lo hi t'
 small:Tr.Small h t'
 mod:Mod (fun g=> g∈F) w w'
 sub:∀g∈F',g∈F∨w.heap.size≤g
def TakeP (h:Nat):Prop:=∀(p:Nat) (t:Tr.TreeT h) (F:List Nat) (w:World) (vc:Value) (ml:List (Int×ByteArray×ByteArray)) (lo:Tr.Key) (hi:Option Tr.Key),Rep h w p t F→F.Nodup→Tr.WF h lo hi t→Tr.Top h t→Tr.room lo hi→OwnsC 0 w vc ml→(∀g,vc.ownBlock=some g→g∉F)→(∀c∈plainCh ml,Tr.inR lo hi c.2.1∧Tr.okCh c)→Tr.wt h t+2*ml.length≤1800000→
 Calls Tryz.prog 63 #[.pointer (some ⟨p,0,none⟩),vc] w fun r w'=> r= .returned (.tuple #[])∧∃t' F',NewT h lo hi p F w w' t' F'∧Tr.wt h t'≤Tr.wt h t+2*ml.length∧∀k,Tr.inR lo hi k→Tr.val h t' k=Tr.afterAll (plainCh ml) k (Tr.val h t k)
theorem nodup_swap {X Y M M':List Nat} {N:Nat} (h:(X++(M++Y)).Nodup) (i:M'.Nodup) (d:∀g∈M',g∈M∨N≤g) (o:∀g∈X,g < N) (p:∀g∈Y,g < N):(X++(M'++Y)).Nodup:=by
 obtain ⟨k,l,j⟩:=List.nodup_append.1 h
 obtain ⟨r,m,n⟩:=List.nodup_append.1 l
 refine List.nodup_append.2 ⟨k,List.nodup_append.2 ⟨i,m,fun a f b c e=> ?_⟩,fun a f b c e=> ?_⟩
 ·subst e
  rcases d a f with q | q
  ·exact n a q a c rfl
  ·have:=p a c;omega
 ·subst e
  rcases List.mem_append.1 c with c | c
  ·rcases d a c with q | q
   ·exact j a f a (List.mem_append_left _ q) rfl
   ·have:=o a f;omega
  ·exact j a f a (List.mem_append_right _ c) rfl
theorem Kids.keep {h:Nat} {w w':World} {pl:List (ByteArray×Nat)} {a:List (Tr.Key×Tr.TreeT h)} {G:List Nat} (e:Kids (Rep h w) pl a G) (f:∀g∈G,w'.heap[g]?=w.heap[g]?):Kids (Rep h w') pl a G:=
 e.imp fun _ _ _ b c=> c.keep fun g d=> f g (b g d)
theorem Kids.lt {h:Nat} {w:World} {pl:List (ByteArray×Nat)} {a:List (Tr.Key×Tr.TreeT h)} {G:List Nat} (c:Kids (Rep h w) pl a G):∀g∈G,g < w.heap.size:=fun g b=> wgA (fun q=>Rep.lt q) pl a G c g b
theorem blk_eq {u v:Value} (h:u.ownBlock=v.ownBlock):blk u=blk v:=by unfold blk;rw [h]
structure JoinQ (h:Nat) (f1:Tr.Key) (m:Option Tr.Key) (A B:List (Tr.Key×Tr.TreeT h)) (cs:List Tr.Ch) (t1:Tr.TreeT h) (f2:Tr.Key) (t2:Tr.TreeT h) (p:Nat) (F:List Nat) (w w':World) (t':Tr.TreeT h) (F':List Nat):Prop where
 rep:Rep (h+1) w' p (Tr.brT (A++(f1,t')::B) cs) F'
 nd:F'.Nodup
 wf:Tr.WF h f1 m t'
 small:Tr.Small h t'
 wt:Tr.wt h t'≤Tr.wt h t1+Tr.wt h t2
 val:∀k,Tr.inR f1 m k→Tr.val h t' k=Tr.val (h+1) ([(f1,t1),(f2,t2)],[]) k
 mod:Mod (fun g=> g∈F) w w'
 sub:∀g∈F',g∈F∨w.heap.size≤g
theorem kids_two {h:Nat} {w:World} {pl:List (ByteArray×Nat)} {A B:List (Tr.Key×Tr.TreeT h)} {j p:Tr.Key} {k l:Tr.TreeT h} {G:List Nat} (q:Kids (Rep h w) pl (A++(j,k)::(p,l)::B) G):∃b x1 e c d f g i,pl=b++x1::e::c∧b.length=A.length∧Kids (Rep h w) b A d∧x1.1.data.toList=j∧Rep h w x1.2 k f∧Rep h w e.2 l g∧Kids (Rep h w) c B i∧G=d++((f++g)++i):=by
 obtain ⟨b,R,d,r,rfl,m,n,o,rfl⟩:=q.split
 match R,o with
 | x1::e::c,⟨e1,f,GC,r1,⟨e2,g,i,r2,hB,hG2⟩,hG1⟩=> exact ⟨b,x1,e,c,d,f,g,i,rfl,m,n,e1,r1,r2,hB,by rw [hG1,hG2];simp⟩
theorem join_leaf (p:Nat) (A B:List (Tr.Key×Tr.TreeT 0)) (Q z:Tr.Key) (m:Option Tr.Key) (S T:Tr.TreeT 0) (cs:List Tr.Ch) (F:List Nat) (w:World) (hr:Rep 1 w p (Tr.brT (A++(Q,S)::(z,T)::B) cs) F) (x:F.Nodup) (h1:Tr.WF 0 Q (some z) S) (h2:Tr.WF 0 z m T) (a0:Tr.room Q (some z)) (a2:Tr.room z m) (hw:Tr.wt 0 S+Tr.wt 0 T≤1800000) (a3:A.length+B.length≤1800000):
  Calls Tryz.prog 174 #[.pointer (some ⟨p,0,none⟩),.int .i64 (A.length:Nat)] w fun r w'=> (r= .returned (.bool false)∧Below w.heap.size w w')∨(r= .returned (.bool true)∧∃t' F',JoinQ 0 Q m A B cs S z T p F w w' t' F'):=by
 have s:=hr.lt
 obtain ⟨vp,vc,pl,ml,G,hn,M,Y,rfl,hk,rfl⟩:=hr
 obtain ⟨a,i,u,f,O,G1,G2,y,rfl,hl,kA,e1,r1,r2,kB,rfl⟩:=kids_two hk
 obtain ⟨R,b,na,oa,rfl,rfl⟩:=r1
 obtain ⟨Z,c,nb,ob,rfl,rfl⟩:=r2
 have a4:=kB.len
 have hi:a.length+1 < (a++i::u::f).length:=by simp
 have C:(a++i::u::f).length≤20000000:=by simp;omega
 have D:∀q,(a++i::u::f)[a.length]'q=i:=fun q=> by simp
 have g2:∀q,(a++i::u::f)[a.length+1]'q=u:=fun q=> by simp
 have a5:1+2*(b.length - 16)+(1+2*(c.length - 16))≤1800000:=by rw [←plain_len b,←plain_len c];exact hw
 rw [←hl]
 by_cases hs:b.length+c.length≤12
 ·have t:((p::(blk vp++(blk vc++O)))++((i.2::blk R++u.2::blk Z)++y)).Nodup:=by simpa using x
  have U:i.2≠p:=by
   rintro q
   have:=(List.nodup_cons.1 x).1
   rw [←q] at this
   simp at this
  have j:=(List.nodup_append.1 t).2.2
  have E:=(List.nodup_append.1 (List.nodup_append.1 t).2.1).2.2
  refine (joinL_any p _ vp vc (a++i::u::f) a.length R Z b c w hn M hi C (by rw [D];exact na) (by rw [g2];exact nb) oa ob hs (by rw [D];exact U)).mono ?_
  rintro r w' ⟨rfl,n,P,k1,k2,k3,k4,k5,k6,k7⟩
  rw [D] at k4
  have v:Mod (fun g=> g=p∨vp.ownBlock=some g∨g=i.2∨R.ownBlock=some g) w w':=by
   have:=k6
   rw [D] at this
   exact this
  have H:(a++i::u::f).take (a.length+1)++(a++i::u::f).drop (a.length+2)=a++i::f:=by
   rw [List.take_append,List.drop_append];simp
   rw [List.take_of_length_le (by omega),List.drop_of_length_le (by omega)];rfl
  rw [H] at k2
  have V:∀g,vc.ownBlock=some g→w'.heap[g]?=w.heap[g]?:=fun g d=> by
   have o:=mem_blk.2 d
   refine v.block g (s g (by simp [o])) ?_
   have l:=List.nodup_cons.1 x
   rintro (q | q | q | q)
   ·rw [q] at o;exact l.1 (by simp [o])
   ·exact (List.nodup_append.1 l.2).2.2 g (mem_blk.2 q) g (by simp [o]) rfl
   ·exact j g (by simp [o]) g (by simp [q]) rfl
   ·exact j g (by simp [o]) g (by simp [mem_blk.2 q]) rfl
  have W:∀g∈O,w'.heap[g]?=w.heap[g]?:=fun g d=> by
   refine v.block g (s g (by simp [d])) ?_
   have l:=List.nodup_cons.1 x
   rintro (q | q | q | q)
   ·rw [q] at d;exact l.1 (by simp [d])
   ·exact (List.nodup_append.1 l.2).2.2 g (mem_blk.2 q) g (by simp [d]) rfl
   ·exact j g (by simp [d]) g (by simp [q]) rfl
   ·exact j g (by simp [d]) g (by simp [mem_blk.2 q]) rfl
  have X:∀g∈y,w'.heap[g]?=w.heap[g]?:=fun g d=> by
   refine v.block g (s g (by simp [d])) ?_
   rintro (q | q | q | q)
   ·exact j p (by simp) g (by simp [d]) q.symm
   ·exact j g (by simp [mem_blk.2 q]) g (by simp [d]) rfl
   ·exact E g (by simp [q]) g d rfl
   ·exact E g (by simp [mem_blk.2 q]) g d rfl
  have I:∀g∈i.2::blk n,g∈i.2::blk R++u.2::blk Z∨w.heap.size≤g:=fun g d=> by
   rcases List.mem_cons.1 d with q | q
   ·exact .inl (by simp [q])
   ·rcases k7 with e | ⟨k,a6,e⟩
    ·rw [blk_eq e] at q;exact .inl (by simp [q])
    ·have:=mem_blk.1 q;rw [e] at this;exact .inr (by have:=Option.some.inj this;omega)
  have J:(i.2::blk n).Nodup:=List.nodup_cons.2 ⟨fun q=> nod_row k4 k5 (by decide) (mem_blk.1 q),blk_nodup _⟩
  have K:=nodup_swap (N:=w.heap.size) t J I (fun g d=> s g (by have:g∈p::(blk vp++(blk vc++O)):=d;simp at this ⊢;rcases this with q | q | q | q <;> simp [q])) (fun g d=> s g (by simp [d]))
  refine .inr ⟨rfl,Tr.lf (plain (b++c)),p::(blk P++(blk vc++(O++((i.2::blk n)++y)))),?_⟩
  have L:Tr.lf (plain (b++c))=Tr.its (plain b)++Tr.its (plain c):=plain_app b c
  refine ⟨⟨P,vc,a++i::f,ml,O++((i.2::blk n)++y),k1,k2,row_same Y (fun g d _=> V g d),rfl,?_,rfl⟩,?_,?_,trivial,?_,?_,v.mono ?_,?_⟩
  ·have kM:Kids (Rep 0 w') (i::f) ((Q,Tr.lf (plain (b++c)))::B) ((i.2::blk n)++y):=⟨e1,i.2::blk n,y,⟨n,b++c,k4,k5,rfl,rfl⟩,kB.keep X,rfl⟩
   exact kM.append (kA.keep W)
  ·rw [blk_eq k3];simpa using K
  ·rw [L];exact Tr.join0_wf a0 a2 h1 h2
  ·show 1+2*((plain (b++c)).length - 16)≤1+2*((plain b).length - 16)+(1+2*((plain c).length - 16))
   rw [plain_len,List.length_append]
   omega
  ·intro k _;rw [L];exact Tr.join0_val h1 h2 k
  ·rintro g _ (q | q | q | q)
   ·simp [q]
   ·simp [mem_blk.2 q]
   ·simp [q]
   ·simp [mem_blk.2 q]
  ·intro g d
   rw [blk_eq k3] at d
   rcases List.mem_cons.1 d with q | q
   ·exact .inl (by simp [q])
   ·rcases List.mem_append.1 q with q | q
    ·exact .inl (by simp [q])
    ·rcases List.mem_append.1 q with q | q
     ·exact .inl (by simp [q])
     ·rcases List.mem_append.1 q with q | q
      ·exact .inl (by simp [q])
      ·rcases List.mem_append.1 q with q | q
       ·exact (I g q).imp (fun q=> by simp at q ⊢;rcases q with q | q | q | q <;> simp [q]) id
       ·exact .inl (by simp [q])
 ·obtain ⟨a1,c1,rfl⟩:=rowShape oa
  obtain ⟨b1,d1,rfl⟩:=rowShape ob
  refine (joinBig_any p _ vp vc (a++i::u::f) a.length _ _ _ _ _ _ a1 none b1 none b.length 0 c.length 0 c1 0 d1 0 w hn M hi C (by rw [D];exact na) (by rw [g2];exact nb) rfl rfl rfl rfl (by omega) (by omega) (by omega) (by omega) (fun q=> hs q.1)).mono fun r w' h=> .inl h
end Go.Proofs.YtolgpnaoaodepaaGreat
namespace Go.Proofs.YtolgpnaoaodepaaGreat
open Go.RowKit
theorem join_branch (h:Nat) (HT:TakeP (h+1)) (p:Nat) (A B:List (Tr.Key×Tr.TreeT (h+1))) (f1 f2:Tr.Key) (m:Option Tr.Key) (t1 t2:Tr.TreeT (h+1)) (cs:List Tr.Ch) (F:List Nat) (w:World) (hr:Rep (h+2) w p (Tr.brT (A++(f1,t1)::(f2,t2)::B) cs) F) (b6:F.Nodup) (h1:Tr.WF (h+1) f1 (some f2) t1) (h2:Tr.WF (h+1) f2 m t2) (s1:Tr.Small (h+1) t1) (d6:Tr.room f1 (some f2)) (b0:Tr.room f2 m) (hw:Tr.wt (h+1) t1+Tr.wt (h+1) t2≤1800000) (f3:A.length+B.length≤1800000):
  Calls Tryz.prog 174 #[.pointer (some ⟨p,0,none⟩),.int .i64 (A.length:Nat)] w fun r w'=> (r= .returned (.bool false)∧Below w.heap.size w w')∨(r= .returned (.bool true)∧∃t' F',JoinQ (h+1) f1 m A B cs t1 f2 t2 p F w w' t' F'):=by
 have P:=hr.lt
 obtain ⟨vp,vc,pl,ml,G,hn,b4,e8,rfl,hk,rfl⟩:=hr
 obtain ⟨f,i,W,s,GA,S,X,GB,rfl,hl,kA,e1,r1,r2,kB,rfl⟩:=kids_two hk
 obtain ⟨t,f9⟩:=t1
 obtain ⟨o,g0⟩:=t2
 obtain ⟨ap,O,a5,D,Y,na,d2,e9,rfl,ka,T⟩:=r1
 obtain ⟨bp,bc,U,V,Z,nb,d3,d4,rfl,kb,a6⟩:=r2
 have f4:=kB.len
 have f5:=ka.len
 have b7:=kb.len
 have hi:f.length+1 < (f++i::W::s).length:=by simp
 have b8:(f++i::W::s).length≤20000000:=by simp;omega
 have g1:∀q,(f++i::W::s)[f.length]'q=i:=fun q=> by simp
 have g2:∀q,(f++i::W::s)[f.length+1]'q=W:=fun q=> by simp
 have d7:(2*(plainCh D).length+Tr.wts t+((t.length - 1)+(2 - t.length)))+(2*(plainCh V).length+Tr.wts o+((o.length - 1)+(2 - o.length)))≤1800000:=hw
 rw [plainCh_len,plainCh_len] at d7
 have f6:t.length≤Tr.wts t:=Tr.wt_parts h1.1
 have f7:o.length≤Tr.wts o:=Tr.wt_parts h2.1
 have b9:0 < U.length:=by
  rw [b7]
  match o,h2.1 with
  | [],hc=> exact absurd (b0 f2 (show some f2=m from hc).symm).1 (Tr.lt_ir f2)
  | _::_,_=> simp
 rw [←hl]
 by_cases hs:a5.length+U.length≤3
 ·have E:((p::(blk vp++(blk vc++GA)))++((S++X)++GB)).Nodup:=by simpa using b6
  have y:=(List.nodup_append.1 E).2.2
  have d8:=(List.nodup_append.1 (List.nodup_append.1 E).2.1).2.2
  have a8:=(List.nodup_append.1 (List.nodup_append.1 E).2.1).1
  have z:=(List.nodup_append.1 a8).2.2
  have I:=(List.nodup_append.1 a8).1
  have j:=(List.nodup_append.1 a8).2.1
  have Q:i.2∈S:=by rw [T];exact List.mem_cons_self ..
  have d9:W.2∈X:=by rw [a6];exact List.mem_cons_self ..
  have J:∀g,ap.ownBlock=some g→g∈S:=fun g d=> by rw [T];simp [mem_blk.2 d]
  have a0:∀g,O.ownBlock=some g→g∈S:=fun g d=> by rw [T];simp [mem_blk.2 d]
  have a2:∀g,bc.ownBlock=some g→g∈X:=fun g d=> by rw [a6];simp [mem_blk.2 d]
  have a3:∀g∈Y,g∈S:=fun g d=> by rw [T];simp [d]
  have K:∀g∈Z,g∈X:=fun g d=> by rw [a6];simp [d]
  have n:∀g,g∈S∨g∈X→g < w.heap.size:=fun g d=> P g (by rcases d with q | q <;> simp [q])
  have R:∀g,g∈S∨g∈X→g≠p∧vp.ownBlock≠some g:=fun g d=> by
   have hm:g∈(S++X)++GB:=by rcases d with q | q <;> simp [q]
   exact ⟨fun q=> y p (by simp) g hm q.symm,fun q=> y g (by simp [mem_blk.2 q]) g hm rfl⟩
  have e0:i.2≠p:=(R i.2 (.inl Q)).1
  have c0:W.2≠i.2:=fun q=> z i.2 Q W.2 d9 q.symm
  have f8:p < w.heap.size:=hn.lt
  have c2:∀k,vp.ownBlock=some k→k < w.heap.size:=fun k x=> (World.ownsRow.lt b4 k x).2
  have c3:∀u:Value,(u.ownBlock=ap.ownBlock∨∃k,w.heap.size≤k∧u.ownBlock=some k)→∀g∈i.2::(blk u++(blk O++(Y++Z))),(g∈S∨g∈Z)∨w.heap.size≤g:=fun u hu g d=> by
   rcases List.mem_cons.1 d with q | q
   ·exact .inl (.inl (by rw [q];exact Q))
   ·rcases List.mem_append.1 q with q | q
    ·rcases hu with e | ⟨k,x,e⟩
     ·exact .inl (.inl (J g (by rw [←e];exact mem_blk.1 q)))
     ·have:=mem_blk.1 q;rw [e] at this;exact .inr (by have:=Option.some.inj this;omega)
    ·rcases List.mem_append.1 q with q | q
     ·exact .inl (.inl (a0 g (mem_blk.1 q)))
     ·rcases List.mem_append.1 q with q | q
      ·exact .inl (.inl (a3 g q))
      ·exact .inl (.inr q)
  have L:∀u:Value,(u.ownBlock=ap.ownBlock∨∃k,w.heap.size≤k∧u.ownBlock=some k)→∀g∈i.2::(blk u++(blk O++(Y++Z))),(g∈S∨g∈X)∨w.heap.size≤g:=fun u hu g d=> (c3 u hu g d).imp (fun q=> q.imp id (K g)) id
  have c4:∀u:Value,(u.ownBlock=ap.ownBlock∨∃k,w.heap.size≤k∧u.ownBlock=some k)→(i.2::(blk u++(blk O++(Y++Z)))).Nodup:=fun u hu=> by
   have b2:([i.2]++(blk ap++(blk O++(Y++Z)))).Nodup:=by
    have e2:(([i.2]++(blk ap++(blk O++Y)))++Z).Nodup:=by
     rw [T] at a8 I z
     refine List.nodup_append.2 ⟨I,?_,fun a ha b hb=> z a ha b (K b hb)⟩
     rw [a6] at j
     exact (List.nodup_append.1 (List.nodup_append.1 (List.nodup_cons.1 j).2).2.1).2.1
    simpa using e2
   have:=nodup_swap (N:=w.heap.size) (M':=blk u) b2 (blk_nodup u) (fun g d=> by
    rcases hu with e | ⟨k,x,e⟩
    ·exact .inl (by rw [←blk_eq e];exact d)
    ·have:=mem_blk.1 d;rw [e] at this;exact .inr (by have:=Option.some.inj this;omega)) (fun g d=> n g (.inl (by simp at d;rw [d];exact Q))) (fun g d=> by
    rcases List.mem_append.1 d with q | q
    ·exact n g (.inl (a0 g (mem_blk.1 q)))
    ·rcases List.mem_append.1 q with q | q
     ·exact n g (.inl (a3 g q))
     ·exact n g (.inr (K g q)))
   simpa using this
  have hT:∀v w3,JnM w i.2 ap O (a5++U) v w3→Calls Tryz.prog 63 #[.pointer (some ⟨i.2,0,none⟩),bc] w3 fun r w4=> r= .returned (.tuple #[])∧(∃t' F',NewT (h+1) f1 m i.2 (i.2::(blk v++(blk O++(Y++Z)))) w3 w4 t' F'∧Tr.wt (h+1) t'≤Tr.wt (h+1) (Tr.brT (t++o) (plainCh D))+2*V.length∧∀k,Tr.inR f1 m k→Tr.val (h+1) t' k=Tr.afterAll (plainCh V) k (Tr.val (h+1) (Tr.brT (t++o) (plainCh D)) k))∧Mod (fun g=> g∈i.2::(blk v++(blk O++(Y++Z)))) w3 w4:=by
   intro v w3 hj
   have C:∀g,g < w.heap.size→g≠i.2→ap.ownBlock≠some g→w3.heap[g]?=w.heap[g]?:=fun g d q1 q2=> hj.mod.block g d (fun q=> q.elim q1 q2)
   rw [T] at I
   have b3:=List.nodup_cons.1 I
   have c5:=List.nodup_append.1 b3.2
   have e3:∀g,O.ownBlock=some g→w3.heap[g]?=w.heap[g]?:=fun g d=> C g (n g (.inl (a0 g d))) (fun q=> b3.1 (by rw [←q];simp [mem_blk.2 d])) (fun q=> c5.2.2 g (mem_blk.2 q) g (by simp [mem_blk.2 d]) rfl)
   have e4:∀g∈Y,w3.heap[g]?=w.heap[g]?:=fun g d=> C g (n g (.inl (a3 g d))) (fun q=> b3.1 (by rw [←q];simp [d])) (fun q=> c5.2.2 g (mem_blk.2 q) g (by simp [d]) rfl)
   have c6:∀g∈X,w3.heap[g]?=w.heap[g]?:=fun g d=> C g (n g (.inr d)) (fun q=> z i.2 Q g d q.symm) (fun q=> z g (J g q) g d rfl)
   have c7:Rep (h+1) w3 i.2 (Tr.brT (t++o) (plainCh D)) (i.2::(blk v++(blk O++(Y++Z)))):=
    ⟨v,O,a5++U,D,Y++Z,hj.nod,hj.row,row_same e9 (fun g d _=> e3 g d),rfl,(kb.keep fun g d=> c6 g (K g d)).append (ka.keep e4),rfl⟩
   refine (HT i.2 _ _ w3 bc V f1 m c7 (c4 v hj.blk) (Tr.joinS_wf b0 h1 h2) ⟨by rw [List.length_append];omega,by have:(plainCh D).length≤8:=s1;exact this⟩ (fun b hb=> ⟨Tr.lt_tr (d6 f2 rfl).1 (b0 b hb).1,(b0 b hb).2⟩) (row_same d4 fun g d _=> c6 g (a2 g d)) (fun g d q=> ?_) (fun c hc=> ⟨Tr.inR_right d6 (h2.2 c hc).1,(h2.2 c hc).2⟩) ?_).mono ?_
   ·rcases c3 v hj.blk g q with (q | q) | q
    ·exact z g q g (a2 g d) rfl
    ·rw [a6] at j
     exact (List.nodup_append.1 (List.nodup_append.1 (List.nodup_cons.1 j).2).2.1).2.2 g (mem_blk.2 d) g q rfl
    ·have:=n g (.inr (a2 g d));omega
   ·rw [Tr.wt_br,Tr.wts_append,plainCh_len,List.length_append];omega
   ·rintro r w4 ⟨rfl,t',F',l,b5,a7⟩
    exact ⟨rfl,⟨t',F',l,b5,a7⟩,l.mod⟩
  refine (joinB_any p _ vp vc (f++i::W::s) f.length ap O bp bc a5 U w hn b4 hi b8 (by rw [g1];exact na) (by rw [g2];exact nb) d2 d3 hs b9 (shape3 d4) (by rw [g1];exact e0) (by rw [g1,g2];exact c0) (fun k x q=> (R k (.inl (J k q))).2 x) _ (fun u g=> g∈i.2::(blk u++(blk O++(Y++Z)))) (fun u hu=> ⟨fun q=> ?_,fun k x q=> ?_⟩) (by rw [g1];exact hT)).mono ?_
  ·rcases L u hu p q with q | q
   ·exact (R p q).1 rfl
   ·omega
  ·rcases L u hu k q with q | q
   ·exact (R k q).2 x
   ·have:=c2 k x;omega
  rintro r w' ⟨rfl,v,w3,w4,d5,hj,⟨t',F1,l,b5,a7⟩,f0,k1,k2,k3,k4⟩
  rw [g1] at hj
  have c8:(f++i::W::s).take (f.length+1)++(f++i::W::s).drop (f.length+2)=f++i::s:=by
   rw [List.take_append,List.drop_append];simp
   rw [List.take_of_length_le (by omega),List.drop_of_length_le (by omega)];rfl
  rw [c8] at k2
  have M:Mod (fun g=> (g=p∨vp.ownBlock=some g)∨g∈S∨g∈X) w w':=by
   refine (hj.mod.trans f0 (H:=fun g=> (g=p∨vp.ownBlock=some g)∨g∈S∨g∈X) (fun g _ q=> ?_) (fun g d q=> ?_)).trans k4 (fun _ _ q=> q) (fun _ _ q=> .inl q)
   ·exact .inr (.inl (q.elim (fun e=> by rw [e];exact Q) (J g)))
   ·rcases L v hj.blk g q with q | q
    ·exact .inr q
    ·omega
  have a9:∀g∈F1,g∈S++X∨w.heap.size≤g:=fun g d=> by
   rcases l.sub g d with q | q
   ·exact (L v hj.blk g q).imp (fun q=> List.mem_append.2 q) id
   ·exact .inr (Nat.le_trans hj.mod.size q)
  have e5:∀g,vc.ownBlock=some g→w'.heap[g]?=w.heap[g]?:=fun g d=> by
   have a4:=mem_blk.2 d
   refine M.block g (P g (by simp [a4])) ?_
   have j:=List.nodup_cons.1 b6
   rintro ((q | q) | q)
   ·rw [q] at a4;exact j.1 (by simp [a4])
   ·exact (List.nodup_append.1 j.2).2.2 g (mem_blk.2 q) g (by simp [a4]) rfl
   ·exact y g (by simp [a4]) g (by rcases q with q | q <;> simp [q]) rfl
  have e6:∀g∈GA,w'.heap[g]?=w.heap[g]?:=fun g d=> by
   refine M.block g (P g (by simp [d])) ?_
   have j:=List.nodup_cons.1 b6
   rintro ((q | q) | q)
   ·rw [q] at d;exact j.1 (by simp [d])
   ·exact (List.nodup_append.1 j.2).2.2 g (mem_blk.2 q) g (by simp [d]) rfl
   ·exact y g (by simp [d]) g (by rcases q with q | q <;> simp [q]) rfl
  have e7:∀g∈GB,w'.heap[g]?=w.heap[g]?:=fun g d=> by
   refine M.block g (P g (by simp [d])) ?_
   rintro ((q | q) | q)
   ·exact y p (by simp) g (by simp [d]) q.symm
   ·exact y g (by simp [mem_blk.2 q]) g (by simp [d]) rfl
   ·exact d8 g (List.mem_append.2 q) g d rfl
  have c9:∀g∈F1,w'.heap[g]?=w4.heap[g]?:=fun g d=> by
   refine k4.block g (l.rep.lt g d) ?_
   rintro (q | q)
   ·rcases a9 g d with q' | q'
    ·exact (R g (List.mem_append.1 q')).1 q
    ·omega
   ·rcases a9 g d with q' | q'
    ·exact (R g (List.mem_append.1 q')).2 q
    ·have:=c2 g q;omega
  have d0:=nodup_swap (N:=w.heap.size) E l.nd a9 (fun g d=> P g (by have:g∈p::(blk vp++(blk vc++GA)):=d;simp at this ⊢;rcases this with q | q | q | q <;> simp [q])) (fun g d=> P g (by simp [d]))
  refine .inr ⟨rfl,t',p::(blk d5++(blk vc++(GA++(F1++GB)))),⟨d5,vc,f++i::s,ml,GA++(F1++GB),k1,k2,row_same e8 (fun g d _=> e5 g d),rfl,?_,rfl⟩,?_,l.wf,l.small,?_,?_,M.mono ?_,?_⟩
  ·have kM:Kids (Rep (h+1) w') (i::s) ((f1,t')::B) (F1++GB):=⟨e1,F1,GB,l.rep.keep c9,kB.keep e7,rfl⟩
   exact kM.append (kA.keep e6)
  ·rw [blk_eq k3];simpa using d0
  ·rw [Tr.wt_br,Tr.wts_append,List.length_append] at b5
   show _≤(2*(plainCh D).length+Tr.wts t+((t.length - 1)+(2 - t.length)))+(2*(plainCh V).length+Tr.wts o+((o.length - 1)+(2 - o.length)))
   rw [plainCh_len V]
   omega
  ·intro k x
   rw [a7 k x]
   exact Tr.joinS_val h1 h2 x
  ·rintro g _ ((q | q) | q | q)
   ·simp [q]
   ·simp [mem_blk.2 q]
   ·simp [q]
   ·simp [q]
  ·intro g d
   rw [blk_eq k3] at d
   rcases List.mem_cons.1 d with q | q
   ·exact .inl (by simp [q])
   ·rcases List.mem_append.1 q with q | q
    ·exact .inl (by simp [q])
    ·rcases List.mem_append.1 q with q | q
     ·exact .inl (by simp [q])
     ·rcases List.mem_append.1 q with q | q
      ·exact .inl (by simp [q])
      ·rcases List.mem_append.1 q with q | q
       ·exact (a9 g q).imp (fun q=> by rcases List.mem_append.1 q with q | q <;> simp [q]) id
       ·exact .inl (by simp [q])
 ·obtain ⟨a1,c1,rfl⟩:=rowShape d2
  obtain ⟨b1,d1,rfl⟩:=rowShape d3
  exact (joinBig_any p _ vp vc (f++i::W::s) f.length _ _ _ _ _ _ none a1 none b1 0 a5.length 0 U.length 0 c1 0 d1 w hn b4 hi b8 (by rw [g1];exact na) (by rw [g2];exact nb) rfl rfl rfl rfl (by omega) (by omega) (by omega) (by omega) (fun q=> hs q.2)).mono fun r w' h=> .inl h
theorem join_any:∀(h:Nat) (_:TakeP h) (p:Nat) (A B:List (Tr.Key×Tr.TreeT h)) (c a:Tr.Key) (m:Option Tr.Key) (b d:Tr.TreeT h) (e:List Tr.Ch) (F:List Nat) (w:World) (_:Rep (h+1) w p (Tr.brT (A++(c,b)::(a,d)::B) e) F) (_:F.Nodup) (_:Tr.WF h c (some a) b) (_:Tr.WF h a m d) (_:Tr.Small h b) (_:Tr.room c (some a)) (_:Tr.room a m) (_:Tr.wt h b+Tr.wt h d≤1800000) (_:A.length+B.length≤1800000),
  Calls Tryz.prog 174 #[.pointer (some ⟨p,0,none⟩),.int .i64 (A.length:Nat)] w fun r w'=> (r= .returned (.bool false)∧Below w.heap.size w w')∨(r= .returned (.bool true)∧∃f F',JoinQ h c m A B e b a d p F w w' f F')
 | 0,_,p,A,B,c,a,m,b,d,e,F,w,hr,hnd,h1,h2,_,hr1,hr2,hw,hlen=> join_leaf p A B c a m b d e F w hr hnd h1 h2 hr1 hr2 hw hlen
 | h+1,HT,p,A,B,c,a,m,b,d,e,F,w,hr,hnd,h1,h2,s1,hr1,hr2,hw,hlen=> join_branch h HT p A B c a m b d e F w hr hnd h1 h2 s1 hr1 hr2 hw hlen
end Go.Proofs.YtolgpnaoaodepaaGreat
namespace Go.Proofs.YtolgpnaoaodepaaGreat
open Go.RowKit
def Gone (F F':List Nat) (w w':World):Prop:=Mod (fun g=> g∈F) w w'∧∀g∈F',g∈F∨w.heap.size≤g
theorem Gone.trans {F F' a:List Nat} {w w' b:World} (c:Gone F F' w w') (e:Gone F' a w' b):Gone F a w b:=
 ⟨c.1.trans e.1 (fun _ _ q=> q) (fun g d q=> (c.2 g q).elim id (fun z=> by omega)),fun g d=> (e.2 g d).elim (c.2 g) (fun q=> .inr (Nat.le_trans c.1.size q))⟩
theorem Gone.below {F:List Nat} {w w':World} (h:Below w.heap.size w w'):Gone F F w w':=⟨Mod.of_below h,fun _ a=> .inl a⟩
structure Foc (h:Nat) (lo:Tr.Key) (hi:Option Tr.Key) (p:Nat) (w:World) (A:List (Tr.Key×Tr.TreeT h)) (f:Tr.Key) (m:Option Tr.Key) (t:Tr.TreeT h) (B:List (Tr.Key×Tr.TreeT h)) (cs:List Tr.Ch) (F:List Nat):Prop where
 rep:Rep (h+1) w p (Tr.brT (A++(f,t)::B) cs) F
 nd:F.Nodup
 cA:Tr.Chain (fun f m t=> Tr.WF h f m t∧Tr.Top h t) (some lo) (some f) A
 rm:Tr.room f m
 wf:Tr.WF h f m t
 small:Tr.Small h t
 cB:Tr.Chain (fun f m t=> Tr.WF h f m t∧Tr.Top h t) m hi B
 cc:∀c∈cs,Tr.inR lo hi c.2.1∧Tr.okCh c
 wt:cs.length+(Tr.wts A+(Tr.wt h t+Tr.wts B))≤1800000
theorem Foc.len {h:Nat} {lo:Tr.Key} {hi:Option Tr.Key} {p:Nat} {w:World} {A B:List (Tr.Key×Tr.TreeT h)} {f:Tr.Key} {m:Option Tr.Key} {t:Tr.TreeT h} {b:List Tr.Ch} {F:List Nat} (a:Foc h lo hi p w A f m t B b F):A.length+B.length≤1800000:=by
 have c:A.length≤Tr.wts A:=Tr.wt_parts a.cA
 have d:B.length≤Tr.wts B:=Tr.wt_parts a.cB
 have:=a.wt
 omega
theorem Foc.below {h:Nat} {lo:Tr.Key} {hi:Option Tr.Key} {p:Nat} {w w':World} {A B:List (Tr.Key×Tr.TreeT h)} {f:Tr.Key} {m:Option Tr.Key} {t:Tr.TreeT h} {b:List Tr.Ch} {F:List Nat} (a:Foc h lo hi p w A f m t B b F) (d:Below w.heap.size w w'):Foc h lo hi p w' A f m t B b F:=
 ⟨a.rep.keep fun g c=> d.block g (a.rep.lt g c),a.nd,a.cA,a.rm,a.wf,a.small,a.cB,a.cc,a.wt⟩
theorem Rep.nod {h:Nat} {w:World} {p:Nat} {e:List (Tr.Key×Tr.TreeT h)} {i:List Tr.Ch} {F:List Nat} (j:Rep (h+1) w p (Tr.brT e i) F):∃a c vc,NodT w p (.slice none 0 0) (.slice a e.length c) vc:=by
 obtain ⟨vp,vc,pl,ml,G,d,b,f,rfl,g,rfl⟩:=j
 obtain ⟨a,c,rfl⟩:=rowShape b
 rw [g.len] at d
 exact ⟨a,c,vc,d⟩
theorem small_chain {h:Nat} {lo hi:Option Tr.Key} {A:List (Tr.Key×Tr.TreeT h)} (a:Tr.Chain (fun f m t=> Tr.WF h f m t∧Tr.Top h t) lo hi A):Tr.Chain (fun f m t=> Tr.WF h f m t∧Tr.Small h t) lo hi A:=Tr.chain_imp (fun _ _ _ q=> ⟨q.1,q.2.small⟩) a
theorem chain_one {h:Nat} {R:Tr.Key→Option Tr.Key→Tr.TreeT h→Prop} {f:Tr.Key} {m:Option Tr.Key} {t:Tr.TreeT h} (a:Tr.room f m) (b:R f m t):Tr.Chain R (some f) m [(f,t)]:=⟨rfl,m,a,b,rfl⟩
theorem join_foc {h:Nat} (K:TakeP h) {lo:Tr.Key} {hi:Option Tr.Key} {p:Nat} {w:World} {A B:List (Tr.Key×Tr.TreeT h)} {f:Tr.Key} {m:Option Tr.Key} {t:Tr.TreeT h} {s:List Tr.Ch} {F:List Nat} (d:Foc h lo hi p w A f m t B s F):
  Calls Tryz.prog 174 #[.pointer (some ⟨p,0,none⟩),.int .i64 (A.length:Nat)] w fun r w'=>∃b J q x F',r= .returned (.bool b)∧Foc h lo hi p w' A f J q x s F'∧Gone F F' w w'∧(Tr.wt h q+Tr.wts x≤Tr.wt h t+Tr.wts B∧(x.length=B.length∨x.length+1=B.length))∧∀k,Tr.inR lo hi k→Tr.val (h+1) (Tr.brT (A++(f,q)::x) s) k=Tr.val (h+1) (Tr.brT (A++(f,t)::B) s) k:=by
 have e:=d.len
 have g:=d.wt
 match B,d,e,g with
 | [],d,e,_=>
  obtain ⟨a,c,vc,G⟩:=d.rep.nod
  refine (joinEnd_any p _ vc a _ c A.length w G (by simp) (by omega)).mono ?_
  rintro r w' ⟨rfl,n⟩
  exact ⟨false,m,t,[],F,rfl,d.below n,Gone.below n,⟨Nat.le_refl _,.inl rfl⟩,fun _ _=> rfl⟩
 | (f2,t2)::B2,d,e,g=>
  obtain ⟨H,v,l,⟨C,y⟩,o⟩:=d.cB
  subst H
  rw [Tr.wts_cons] at g
  rw [List.length_cons] at e
  have g:s.length+(Tr.wts A+(Tr.wt h t+(Tr.wt h t2+Tr.wts B2)))≤1800000:=g
  refine (join_any h K p A B2 f f2 v t t2 s F w d.rep d.nd d.wf C d.small d.rm l (by omega) (by omega)).mono ?_
  rintro r w' (⟨rfl,n⟩ | ⟨rfl,q,F',j⟩)
  ·exact ⟨false,_,t,_,F,rfl,d.below n,Gone.below n,⟨Nat.le_refl _,.inl rfl⟩,fun _ _=> rfl⟩
  ·have i:Tr.room f v:=fun b n=> ⟨Tr.lt_tr (d.rm f2 rfl).1 (l b n).1,(l b n).2⟩
   have D:=j.wt
   have u:Tr.wt h q+Tr.wts B2≤Tr.wt h t+Tr.wts ((f2,t2)::B2):=by rw [Tr.wts_cons];show _≤_+(Tr.wt h t2+_);omega
   refine ⟨true,v,q,B2,F',rfl,⟨j.rep,j.nd,d.cA,i,j.wf,j.small,o,d.cc,?_⟩,⟨j.mod,j.sub⟩,⟨u,.inr rfl⟩,fun k I=> ?_⟩
   ·have:=d.wt;omega
   ·have E:Tr.Chain (fun f m t=> Tr.WF h f m t∧Tr.Small h t) (some f) v [(f,t),(f2,t2)]:=⟨rfl,some f2,d.rm,⟨d.wf,d.small⟩,rfl,v,l,⟨C,y.small⟩,rfl⟩
    have:=Tr.splice_val (X:=[(f,t),(f2,t2)]) (Y:=[(f,q)]) (small_chain d.cA) E (small_chain o) (small_chain d.cA) (chain_one i ⟨j.wf,j.small⟩) (small_chain o) s (fun k z=> by rw [Tr.val_one];exact j.val k z) I
    simpa [Tr.brT] using this
theorem join_foc2 {h:Nat} (P:TakeP h) {lo:Tr.Key} {hi:Option Tr.Key} {p:Nat} {w:World} {A B:List (Tr.Key×Tr.TreeT h)} {f:Tr.Key} {m:Option Tr.Key} {t:Tr.TreeT h} {i:List Tr.Ch} {F:List Nat} (a:Foc h lo hi p w A f m t B i F):
  Calls Tryz.prog 174 #[.pointer (some ⟨p,0,none⟩),.int .i64 ((A.length:Int) - 1)] w fun r w'=> (r= .returned (.bool false)∧Foc h lo hi p w' A f m t B i F∧Gone F F w w')∨∃D J s F',r= .returned (.bool true)∧A.length=D.length+1∧Foc h lo hi p w' D J m s B i F'∧Gone F F' w w'∧Tr.wts D+Tr.wt h s≤Tr.wts A+Tr.wt h t∧∀k,Tr.inR lo hi k→Tr.val (h+1) (Tr.brT (D++(J,s)::B) i) k=Tr.val (h+1) (Tr.brT (A++(f,t)::B) i) k:=by
 have u:=a.len
 have v:=a.wt
 rcases List.eq_nil_or_concat A with rfl | ⟨l,⟨g,n⟩,rfl⟩
 ·have e:(([]:List (Tr.Key×Tr.TreeT h)).length:Int) - 1= -1:=rfl
  rw [e]
  refine (joinNeg_any p w).mono ?_
  rintro r w' ⟨rfl,j⟩
  exact .inl ⟨rfl,a.below j,Gone.below j⟩
 ·rw [List.concat_eq_append] at*
  have K:((l++[(g,n)]).length:Int) - 1=(l.length:Int):=by simp
  rw [K]
  obtain ⟨Q,o,E,N,q,⟨w0,C⟩,G⟩:=Tr.chain_append.1 a.cA
  subst E
  have x:N=some f:=G
  subst x
  rw [Tr.wts_append,Tr.wts_cons,Tr.wts_nil] at v
  rw [List.length_append] at u
  have y:Rep (h+1) w p (Tr.brT (l++(g,n)::(f,t)::B) i) F:=by have:=a.rep;rw [List.append_assoc] at this;exact this
  have I:i.length+(Tr.wts l+(Tr.wt h n+0)+(Tr.wt h t+Tr.wts B))≤1800000:=v
  refine (join_any h P p l B g f m n t i F w y a.nd w0 a.wf C.small q a.rm (by omega) (by omega)).mono ?_
  rintro r w' (⟨rfl,j⟩ | ⟨rfl,s,F',d⟩)
  ·exact .inl ⟨rfl,a.below j,Gone.below j⟩
  ·have c:Tr.room g m:=fun b j=> ⟨Tr.lt_tr (q f rfl).1 (a.rm b j).1,(a.rm b j).2⟩
   have L:=d.wt
   have z:Tr.wts l+Tr.wt h s≤Tr.wts (l++[(g,n)])+Tr.wt h t:=by rw [Tr.wts_append,Tr.wts_cons,Tr.wts_nil];show _≤_+(Tr.wt h n+0)+_;omega
   refine .inr ⟨l,g,s,F',rfl,by simp,⟨d.rep,d.nd,o,c,d.wf,d.small,a.cB,a.cc,?_⟩,⟨d.mod,d.sub⟩,z,fun k O=> ?_⟩
   ·omega
   ·have M:Tr.Chain (fun f m t=> Tr.WF h f m t∧Tr.Small h t) (some g) m [(g,n),(f,t)]:=⟨rfl,some f,q,⟨w0,C.small⟩,rfl,m,a.rm,⟨a.wf,a.small⟩,rfl⟩
    have:=Tr.splice_val (X:=[(g,n),(f,t)]) (Y:=[(g,s)]) (small_chain o) M (small_chain a.cB) (small_chain o) (chain_one c ⟨d.wf,d.small⟩) (small_chain a.cB) i (fun k H=> by rw [Tr.val_one];exact d.val k H) O
    simpa [Tr.brT] using this
end Go.Proofs.YtolgpnaoaodepaaGreat
namespace Go.Proofs.YtolgpnaoaodepaaGreat.Tr
theorem ix_iff {h:Nat} {R:Key→Option Key→TreeT h→Prop} {lo f:Key} {m hi:Option Key} {t:TreeT h} {A B:List (Key×TreeT h)} (s:Chain R (some lo) (some f) A) (u:room f m) (v:R f m t) (j:Chain R m hi B) {k:Key} (w:inR lo hi k):ix ((A++(f,t)::B).map (·.1)) k=A.length↔inR f m k:=by
 have a:Chain R (some lo) hi (A++(f,t)::B):=chain_append.2 ⟨some f,s,rfl,m,u,v,j⟩
 have g:m=nxt B hi:=chain_nxt j
 constructor
 ·intro e
  obtain ⟨x,y,z,l,n,o,i,C,D,p,E,r⟩:=chain_find a w
  rw [e] at i
  have d:=List.append_inj o i
  have b:=List.cons.inj d.2
  have c:n=nxt l hi:=chain_nxt r
  rw [←b.2,←g] at c
  rw [←c,(Prod.mk.inj b.1).1]
  exact p
 ·intro q
  exact ix_at (R:=R) (hi:=hi) (by rw [←g];exact q) A (some lo) a
theorem hand_val {h:Nat} {lo f:Key} {m hi:Option Key} {t d:TreeT h} {A B:List (Key×TreeT h)} {a:List Ch} (l:Chain (fun f m t=> WF h f m t∧Small h t) (some lo) (some f) A) (D:room f m) (F:WF h f m t∧Small h t) (E:WF h f m d∧Small h d) (n:Chain (fun f m t=> WF h f m t∧Small h t) m hi B)
  (I:∀k,inR f m k→val h d k=afterAll (a.filter fun c=> decide (ix ((A++(f,t)::B).map (·.1)) c.2.1=A.length)) k (val h t k)) {k:Key} (G:inR lo hi k):val (h+1) (brT (A++(f,d)::B) (a.filter fun c=> !decide (ix ((A++(f,t)::B).map (·.1)) c.2.1=A.length))) k=val (h+1) (brT (A++(f,t)::B) a) k:=by
 have i:=ix_iff l D F n G
 have r:∀(u:TreeT h),A++(f,u)::B=A++[(f,u)]++B:=fun u=> by simp
 have w:Chain (fun f m t=> WF h f m t∧Small h t) (some f) m [(f,t)]:=⟨rfl,m,D,F,rfl⟩
 have x:Chain (fun f m t=> WF h f m t∧Small h t) (some f) m [(f,d)]:=⟨rfl,m,D,E,rfl⟩
 by_cases q:inR f m k
 ·have g:=i.2 q
  generalize C:(A++(f,t)::B).map (·.1)=v at*
  show val (h+1) (A++(f,d)::B,_) k=val (h+1) (A++(f,t)::B,a) k
  rw [r d,r t,val_mid l w n a q,val_mid l x n _ q,val_one,val_one,I k q,afterAll_filter (fun c=> decide (ix v c.2.1=A.length)) a k _ (fun c _ e=> by rw [e];exact decide_eq_true g)]
  exact afterAll_none _ k _ fun c H e=> by
   have:=(List.mem_filter.1 H).2
   rw [e,g] at this
   simp at this
 ·have g:¬ix ((A++(f,t)::B).map (·.1)) k=A.length:=fun z=> q (i.1 z)
  generalize C:(A++(f,t)::B).map (·.1)=v at*
  have y:∀s,afterAll (a.filter fun c=> !decide (ix v c.2.1=A.length)) k s=afterAll a k s:=fun s=> afterAll_filter _ a k s fun c _ e=> by rw [e];simp [g]
  have j:val (h+1) (brT (A++(f,d)::B) (a.filter fun c=> !decide (ix v c.2.1=A.length))) k=val (h+1) (brT (A++(f,d)::B) a) k:=y _
  rw [j]
  show val (h+1) (A++(f,d)::B,a) k=val (h+1) (A++(f,t)::B,a) k
  rw [r d,r t]
  rcases tri3 (f:=f) (m:=m) G with z | z | ⟨b,rfl,z⟩
  ·have o:=val_mid (A:=[]) (X:=A) (B:=[(f,t)]++B) (f:=lo) rfl l (chain_append.2 ⟨m,w,n⟩) a z
   have p:=val_mid (A:=[]) (X:=A) (B:=[(f,d)]++B) (f:=lo) rfl l (chain_append.2 ⟨m,x,n⟩) a z
   simp only [List.nil_append] at o p
   rw [List.append_assoc,List.append_assoc,o,p]
  ·exact absurd z q
  ·have o:=val_mid (A:=A++[(f,t)]) (X:=B) (B:=[]) (f:=b) (chain_append.2 ⟨_,l,w⟩) n rfl a z
   have p:=val_mid (A:=A++[(f,d)]) (X:=B) (B:=[]) (f:=b) (chain_append.2 ⟨_,l,x⟩) n rfl a z
   simp only [List.append_nil] at o p
   rw [o,p]
theorem split_at {α:Type} (l:List α) (n:Nat) (h:n < l.length):∃A x B,l=A++x::B∧A.length=n:=⟨l.take n,l[n],l.drop (n+1),by rw [List.getElem_cons_drop,List.take_append_drop],by rw [List.length_take];omega⟩
theorem filter_two {α:Type} (P:α→Bool) (l:List α):(l.filter P).length+(l.filter fun c=> !P c).length=l.length:=by
 induction l with
 | nil=> rfl
 | cons c r ih=> cases a:P c <;> simp [a] <;> omega
theorem filter_pos {α:Type} {P:α→Bool} {l:List α} {c:α} (a:c∈l) (b:P c=true):0 < (l.filter P).length:=List.length_pos_iff.2 (List.ne_nil_of_mem (List.mem_filter.2 ⟨a,b⟩))
end Go.Proofs.YtolgpnaoaodepaaGreat.Tr
namespace Go.Proofs.YtolgpnaoaodepaaGreat
open Go.RowKit
theorem kids_one {h:Nat} {w:World} {pl:List (ByteArray×Nat)} {A B:List (Tr.Key×Tr.TreeT h)} {f:Tr.Key} {t:Tr.TreeT h} {G:List Nat} (l:Kids (Rep h w) pl (A++(f,t)::B) G):∃b x c d e g,pl=b++x::c∧b.length=A.length∧Kids (Rep h w) b A d∧x.1.data.toList=f∧Rep h w x.2 t e∧Kids (Rep h w) c B g∧G=d++(e++g):=by
 obtain ⟨b,R,d,m,rfl,i,j,k,rfl⟩:=l.split
 match R,k with
 | x::c,⟨e1,e,g,r1,hB,hG⟩=> exact ⟨b,x,c,d,e,g,rfl,i,j,e1,r1,hB,by rw [hG]⟩
theorem hand_take {h:Nat} (HT:TakeP h) {lo:Tr.Key} {hi:Option Tr.Key} {p:Nat} {w0 w:World} {A B:List (Tr.Key×Tr.TreeT h)} {f:Tr.Key} {m:Option Tr.Key} {t:Tr.TreeT h} {ml:List (Int×ByteArray×ByteArray)} {vp vc:Value} {n l:List (ByteArray×Nat)} {x:ByteArray×Nat} {y C v:List Nat}
  (R:(p::(blk vp++(blk vc++(y++(C++v))))).Nodup) (u:∀g∈p::(blk vp++(blk vc++(y++(C++v)))),g < w.heap.size) (b6:OwnsP 0 w vp (n++x::l)) (kA:Kids (Rep h w) n A y) (ex:x.1.data.toList=f) (r1:Rep h w x.2 t C) (kB:Kids (Rep h w) l B v)
  (cA:Tr.Chain (fun f m t=> Tr.WF h f m t∧Tr.Top h t) (some lo) (some f) A) (rm:Tr.room f m) (U:Tr.WF h f m t∧Tr.Top h t) (cB:Tr.Chain (fun f m t=> Tr.WF h f m t∧Tr.Top h t) m hi B) (S:∀c∈plainCh ml,Tr.inR lo hi c.2.1∧Tr.okCh c) (c2:2*ml.length+(Tr.wts A+(Tr.wt h t+Tr.wts B))≤1800000)
  (vo G:Value) (L:World) (T:NodT L p (.slice none 0 0) vp G) (H:Two w.heap.size L vo G (ml.filter (atP (n++x::l) A.length)) (ml.filter fun c=> !atP (n++x::l) A.length c)) (D:Mod (fun g=> g=p) w L) (h0:w0.heap=w.heap) (b7:w0.os=w.os) (b8:w0.tape=w.tape) (b9:w0.output=w.output):
  Calls Tryz.prog 63 #[.pointer (some ⟨x.2,0,none⟩),vo] L fun r J=> r= .returned (.tuple #[])∧∃Q K F',Foc h lo hi p J A f m Q B K F'∧K.length=(ml.filter fun c=> !atP (n++x::l) A.length c).length∧Gone (p::(blk vp++(blk vc++(y++(C++v))))) F' w0 J∧2*K.length+(Tr.wts A+(Tr.wt h Q+Tr.wts B))≤2*ml.length+(Tr.wts A+(Tr.wt h t+Tr.wts B))∧∀k,Tr.inR lo hi k→Tr.val (h+1) (Tr.brT (A++(f,Q)::B) K) k=Tr.val (h+1) (Tr.brT (A++(f,t)::B) (plainCh ml)) k:=by
 have a8:=kA.keys
 have a9:=kB.keys
 have O:pkeys (n++x::l)=(A++(f,t)::B).map (·.1):=by
  rw [List.map_append,List.map_cons,←a8,←a9]
  show List.map _ _=_
  rw [List.map_append,List.map_cons,ex];rfl
 have V:(atP (n++x::l) A.length)=fun c=> (fun c:Tr.Ch=> decide (Tr.ix ((A++(f,t)::B).map (·.1)) c.2.1=A.length)) (c.1,c.2.1.data.toList,c.2.2.data.toList):=by
  funext c;unfold atP;rw [O]
 have ho:plainCh (ml.filter (atP (n++x::l) A.length))=(plainCh ml).filter fun c=> decide (Tr.ix ((A++(f,t)::B).map (·.1)) c.2.1=A.length):=by rw [V];exact plainCh_filter ml (fun c=> decide (Tr.ix ((A++(f,t)::B).map (·.1)) c.2.1=A.length))
 have W:plainCh (ml.filter fun c=> !atP (n++x::l) A.length c)=(plainCh ml).filter fun c=> !decide (Tr.ix ((A++(f,t)::B).map (·.1)) c.2.1=A.length):=by rw [V];exact plainCh_filter ml (fun c=> !decide (Tr.ix ((A++(f,t)::B).map (·.1)) c.2.1=A.length))
 have c1:=Tr.filter_two (atP (n++x::l) A.length) ml
 have E:((p::(blk vp++(blk vc++y)))++(C++v)).Nodup:=by simpa using R
 have F:=(List.nodup_append.1 E).2.2
 have b0:=(List.nodup_append.1 (List.nodup_append.1 E).2.1).2.2
 have b1:∀g∈blk vp++(blk vc++(y++(C++v))),g≠p:=fun g i q=> (List.nodup_cons.1 R).1 (by rw [←q];exact i)
 have s:∀g∈blk vp++(blk vc++(y++(C++v))),L.heap[g]?=w.heap[g]?:=fun g i=> D.block g (u g (List.mem_cons_of_mem _ i)) (b1 g i)
 have X:=D.size
 have b2:∀g,vo.ownBlock=some g→w.heap.size≤g:=fun g i=> (World.ownsRow.lt H.o g i).1
 have P:∀g,G.ownBlock=some g→w.heap.size≤g:=fun g i=> (World.ownsRow.lt H.k g i).1
 refine (HT x.2 t C L vo _ f m (r1.keep fun g i=> s g (by simp [i])) (List.nodup_append.1 (List.nodup_append.1 E).2.1).1 U.1 U.2 rm (row_zero H.o) (fun g i q=> ?_) ?_ ?_).mono ?_
 ·have:=b2 g i;have:=u g (by simp [q]);omega
 ·intro c hc
  rw [ho] at hc
  obtain ⟨a5,b5⟩:=List.mem_filter.1 hc
  exact ⟨(Tr.ix_iff (small_chain cA) rm ⟨U.1,U.2.small⟩ (small_chain cB) (S c a5).1).1 (of_decide_eq_true b5),(S c a5).2⟩
 ·omega
 ·rintro r J ⟨rfl,Q,F1,d,c0,M⟩
  rw [ho] at M
  have Y:∀g∈F1,g∈C∨w.heap.size≤g:=fun g i=> (d.sub g i).imp id (Nat.le_trans X)
  have j:∀g,g < L.heap.size→g∉C→J.heap[g]?=L.heap[g]?:=fun g i q=> d.mod.block g i q
  have Z:∀g∈p::(blk vp++(blk G++y)),g∉C:=fun g i q=> by
   rcases List.mem_cons.1 i with z | z
   ·exact F p (by simp) g (by simp [q]) z.symm
   ·rcases List.mem_append.1 z with z | z
    ·exact F g (by simp [z]) g (by simp [q]) rfl
    ·rcases List.mem_append.1 z with z | z
     ·have:=P g (mem_blk.1 z);have:=u g (by simp [q]);omega
     ·exact F g (by simp [z]) g (by simp [q]) rfl
  have a0:((p::(blk vp++(blk G++y)))++(C++v)).Nodup:=by
   have I:((p::blk vp)++(blk vc++(y++(C++v)))).Nodup:=by simpa using R
   have:=nodup_swap (N:=w.heap.size) (M':=blk G) I (blk_nodup G) (fun g i=> .inr (P g (mem_blk.1 i))) (fun g i=> u g (by simp at i ⊢;rcases i with q | q <;> simp [q])) (fun g i=> u g (by simp at i ⊢;rcases i with q | q | q <;> simp [q]))
   simpa using this
  have a1:((p::(blk vp++(blk G++y)))++(F1++v)).Nodup:=by
   obtain ⟨n1,n2,n3⟩:=List.nodup_append.1 a0
   obtain ⟨n4,n5,n6⟩:=List.nodup_append.1 n2
   refine List.nodup_append.2 ⟨n1,List.nodup_append.2 ⟨d.nd,n5,fun a ha b I e=> ?_⟩,fun a ha b I e=> ?_⟩
   ·subst e
    rcases Y a ha with q | q
    ·exact n6 a q a I rfl
    ·have:=u a (by simp [I]);omega
   ·subst e
    rcases List.mem_append.1 I with I | I
    ·rcases d.sub a I with q | q
     ·exact Z a ha q
     ·have:a < L.heap.size:=by
       rcases List.mem_cons.1 ha with z | z
       ·rw [z];exact T.lt
       ·rcases List.mem_append.1 z with z | z
        ·have:=u a (by simp [z]);omega
        ·rcases List.mem_append.1 z with z | z
         ·exact (World.ownsRow.lt H.k a (mem_blk.1 z)).2
         ·have:=u a (by simp [z]);omega
      omega
    ·exact n3 a ha a (List.mem_append_right _ I) rfl
  have a2:OwnsP 0 J vp (n++x::l):=row_same b6 fun g i a7=> (j g (by omega) (Z g (by simp [mem_blk.2 i]))).trans (s g (by simp [mem_blk.2 i]))
  have a3:OwnsC 0 J G (ml.filter fun c=> !atP (n++x::l) A.length c):=row_same (row_zero H.k) fun g i a7=> j g a7 (Z g (by simp [mem_blk.2 i]))
  have b3:Kids (Rep h J) n A y:=kA.keep fun g i=> (j g (by have:=u g (by simp [i]);omega) (Z g (by simp [i]))).trans (s g (by simp [i]))
  have b4:Kids (Rep h J) l B v:=kB.keep fun g i=> (j g (by have:=u g (by simp [i]);omega) (fun q=> b0 g q g i rfl)).trans (s g (by simp [i]))
  have kM:Kids (Rep h J) (x::l) ((f,Q)::B) (F1++v):=⟨ex,F1,v,d.rep,b4,rfl⟩
  have a4:Rep (h+1) J p (Tr.brT (A++(f,Q)::B) (plainCh (ml.filter fun c=> !atP (n++x::l) A.length c))) (p::(blk vp++(blk G++(y++(F1++v))))):=
   ⟨vp,G,n++x::l,_,_,(j p T.lt (Z p (by simp))).trans T,a2,a3,rfl,kM.append b3,rfl⟩
  refine ⟨rfl,Q,_,_,⟨a4,by simpa using a1,cA,rm,d.wf,d.small,cB,fun c hc=> ?_,?_⟩,plainCh_len _,⟨⟨?_,?_,?_,?_,?_⟩,?_⟩,?_,fun k hk=> ?_⟩
  ·rw [W] at hc;exact S c (List.mem_filter.1 hc).1
  ·rw [plainCh_len];omega
  ·rw [b7];exact d.mod.os.trans D.os
  ·rw [b8];exact d.mod.tape.trans D.tape
  ·rw [b9];exact d.mod.output.trans D.output
  ·rw [h0];exact Nat.le_trans X d.mod.size
  ·intro k hk a6
   rw [h0] at hk ⊢
   refine (j k (by omega) (fun q=> a6 (by simp [q]))).trans (D.block k hk (fun q=> a6 (by simp [q])))
  ·rw [h0]
   intro g i
   rcases List.mem_cons.1 i with z | z
   ·exact .inl (by simp [z])
   ·rcases List.mem_append.1 z with z | z
    ·exact .inl (by simp [z])
    ·rcases List.mem_append.1 z with z | z
     ·exact .inr (P g (mem_blk.1 z))
     ·rcases List.mem_append.1 z with z | z
      ·exact .inl (by simp [z])
      ·rcases List.mem_append.1 z with z | z
       ·exact (Y g z).imp (fun q=> by simp [q]) id
       ·exact .inl (by simp [z])
  ·rw [plainCh_len];omega
  ·rw [W]
   exact Tr.hand_val (small_chain cA) rm ⟨U.1,U.2.small⟩ ⟨d.wf,d.small⟩ (small_chain cB) M hk
end Go.Proofs.YtolgpnaoaodepaaGreat
