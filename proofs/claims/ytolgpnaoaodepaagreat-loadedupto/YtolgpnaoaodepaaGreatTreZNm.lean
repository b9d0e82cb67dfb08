import Derived.Test.YtolgpnaoaodepaaGreatAidBm
namespace Go.Proofs.YtolgpnaoaodepaaGreat
open Go.RowKit
def Tr.lf (l:List Tr.It):Tr.Ac 0:=l
structure Aqz (h:Nat) (lo:Tr.Key) (hi:Option Tr.Key) (p:Nat) (F:List Nat) (w w':World) (t':Tr.Ac h) (F':List Nat):Prop where
 rep:Rep h w' p t' F'
 nd:F'.Nodup
 wf:Tr.WF h lo hi t'
 small:Tr.Gw h t'
 mod:Mod (fun g=> g∈F) w w'
 sub:∀g∈F',g∈F\/w.heap.size<=g
def Pi (h:Nat):Prop:=∀(p:Nat) (t:Tr.Ac h) (F:List Nat) (w:World) (vc:Value) (ml:List (Int×ByteArray×ByteArray)) (lo:Tr.Key) (hi:Option Tr.Key),Rep h w p t F->F.Nodup->Tr.WF h lo hi t->Tr.Top h t->Tr.room lo hi->Au 0 w vc ml->(∀g,vc.ownBlock=some g->g∉F)->(∀c∈plainCh ml,Tr.inR lo hi c.2.1/\Tr.Ew c)->Tr.wt h t+2*ml.length<=1800000->
 Calls Tryz.prog 63 #[.pointer (some ⟨p,0,none⟩),vc] w fun r w'=> r= .returned (.tuple #[])/\∃t' F',Aqz h lo hi p F w w' t' F'/\Tr.wt h t'<=Tr.wt h t+2*ml.length/\∀k,Tr.inR lo hi k->Tr.val h t' k=Tr.Aj (plainCh ml) k (Tr.val h t k)
theorem Gt {X Y M M':List Nat} {N:Nat} (h:(X++(M++Y)).Nodup) (i:M'.Nodup) (d:∀g∈M',g∈M\/N<=g) (o:∀g∈X,g < N) (p:∀g∈Y,g < N):(X++(M'++Y)).Nodup:=by
 obtain ⟨k,l,j⟩:=List.nodup_append.1 h;obtain ⟨r,m,n⟩:=List.nodup_append.1 l;refine List.nodup_append.2 ⟨k,List.nodup_append.2 ⟨i,m,fun a f b c e=> ?_⟩,fun a f b c e=> ?_⟩
 ·subst e;rcases d a f with q | q
  ·exact n a q a c rfl
  ·have:=p a c;omega
 ·subst e;rcases List.mem_append.1 c with c | c
  ·rcases d a c with q | q
   ·exact j a f a (List.mem_append_left _ q) rfl
   ·have:=o a f;omega
  ·exact j a f a (List.mem_append_right _ c) rfl
theorem Cc.keep {h:Nat} {w w':World} {pl:List (ByteArray×Nat)} {a:List (Tr.Key×Tr.Ac h)} {G:List Nat} (f:Cc (Rep h w) pl a G) (i:∀g∈G,w'.heap[g]?=w.heap[g]?):Cc (Rep h w') pl a G:=
 f.imp fun _ _ _ b c=> c.keep fun g d=> i g (b g d)
theorem Cc.lt {h:Nat} {w:World} {pl:List (ByteArray×Nat)} {a:List (Tr.Key×Tr.Ac h)} {G:List Nat} (c:Cc (Rep h w) pl a G):∀g∈G,g < w.heap.size:=fun g b=> wgA (fun q=>Rep.lt q) pl a G c g b
theorem Kw {u v:Value} (h:u.ownBlock=v.ownBlock):blk u=blk v:=by unfold blk;rw [h]
structure Am8 (h:Nat) (f1:Tr.Key) (m:Option Tr.Key) (A B:List (Tr.Key×Tr.Ac h)) (cs:List Tr.Ch) (t1:Tr.Ac h) (f2:Tr.Key) (t2:Tr.Ac h) (p:Nat) (F:List Nat) (w w':World) (t':Tr.Ac h) (F':List Nat):Prop where
 rep:Rep (h+1) w' p (Tr.brT (A++(f1,t')::B) cs) F'
 nd:F'.Nodup
 wf:Tr.WF h f1 m t'
 small:Tr.Gw h t'
 wt:Tr.wt h t'<=Tr.wt h t1+Tr.wt h t2
 val:∀k,Tr.inR f1 m k->Tr.val h t' k=Tr.val (h+1) ([(f1,t1),(f2,t2)],[]) k
 mod:Mod (fun g=> g∈F) w w'
 sub:∀g∈F',g∈F\/w.heap.size<=g
theorem Aej {h:Nat} {w:World} {pl:List (ByteArray×Nat)} {A B:List (Tr.Key×Tr.Ac h)} {k q:Tr.Key} {l m:Tr.Ac h} {G:List Nat} (r:Cc (Rep h w) pl (A++(k,l)::(q,m)::B) G):∃b x1 f c d g i j,pl=b++x1::f::c/\b.length=A.length/\Cc (Rep h w) b A d/\x1.1.data.toList=k/\Rep h w x1.2 l g/\Rep h w f.2 m i/\Cc (Rep h w) c B j/\G=d++((g++i)++j):=by
 obtain ⟨b,R,d,s,rfl,n,o,p,rfl⟩:=r.split
 match R,p with
 | x1::f::c,⟨e1,g,GC,r1,⟨e2,i,j,r2,hB,hG2⟩,hG1⟩=> exact ⟨b,x1,f,c,d,g,i,j,rfl,n,o,e1,r1,r2,hB,by rw [hG1,hG2];simp⟩
theorem Ajw (p:Nat) (A B:List (Tr.Key×Tr.Ac 0)) (W D:Tr.Key) (m:Option Tr.Key) (Y Z:Tr.Ac 0) (cs:List Tr.Ch) (F:List Nat) (w:World) (hr:Rep 1 w p (Tr.brT (A++(W,Y)::(D,Z)::B) cs) F) (z:F.Nodup) (h1:Tr.WF 0 W (some D) Y) (h2:Tr.WF 0 D m Z) (a6:Tr.room W (some D)) (a7:Tr.room D m) (hw:Tr.wt 0 Y+Tr.wt 0 Z<=1800000) (a8:A.length+B.length<=1800000):
  Calls Tryz.prog 174 #[.pointer (some ⟨p,0,none⟩),.int .i64 (A.length:Nat)] w fun r w'=> (r= .returned (.bool false)/\Below w.heap.size w w')\/(r= .returned (.bool true)/\∃t' F',Am8 0 W m A B cs Y D Z p F w w' t' F'):=by
 have s:=hr.lt;obtain ⟨vp,vc,pl,ml,G,hn,T,a5,rfl,hk,rfl⟩:=hr;obtain ⟨a,i,u,f,U,G1,G2,C,rfl,hl,kA,e1,r1,r2,kB,rfl⟩:=Aej hk;obtain ⟨X,b,na,oa,rfl,rfl⟩:=r1;obtain ⟨bi,c,nb,ob,rfl,rfl⟩:=r2;have a9:=kB.len;have hi:a.length+1 < (a++i::u::f).length:=by simp
 have H:(a++i::u::f).length<=20000000:=by simp;omega
 have I:∀q,(a++i::u::f)[a.length]'q=i:=fun q=> by simp
 have g2:∀q,(a++i::u::f)[a.length+1]'q=u:=fun q=> by simp
 have b0:1+2*(b.length - 16)+(1+2*(c.length - 16))<=1800000:=by rw [<-Bn b,<-Bn c];exact hw
 rw [<-hl];by_cases hs:b.length+c.length<=12
 ·have t:((p::(blk vp++(blk vc++U)))++((i.2::blk X++u.2::blk bi)++C)).Nodup:=by simpa using z
  have a0:i.2≠p:=by
   rintro q;have:=(List.nodup_cons.1 z).1;rw [<-q] at this;simp at this
  have j:=(List.nodup_append.1 t).2.2;have J:=(List.nodup_append.1 (List.nodup_append.1 t).2.1).2.2;refine (Ajt p _ vp vc (a++i::u::f) a.length X bi b c w hn T hi H (by rw [I];exact na) (by rw [g2];exact nb) oa ob hs (by rw [I];exact a0)).mono ?_;rintro r w' ⟨rfl,n,V,k1,k2,k3,k4,k5,k6,k7⟩;rw [I] at k4;have y:Mod (fun g=> g=p\/vp.ownBlock=some g\/g=i.2\/X.ownBlock=some g) w w':=by
   have:=k6;rw [I] at this;exact this
  have L:(a++i::u::f).take (a.length+1)++(a++i::u::f).drop (a.length+2)=a++i::f:=by
   rw [List.take_append,List.drop_append];simp;rw [List.take_of_length_le (by omega),List.drop_of_length_le (by omega)];rfl
  rw [L] at k2;have a2:∀g,vc.ownBlock=some g->w'.heap[g]?=w.heap[g]?:=fun g d=> by
   have o:=Af.2 d;refine y.block g (s g (by simp [o])) ?_;have l:=List.nodup_cons.1 z;rintro (q | q | q | q)
   ·rw [q] at o;exact l.1 (by simp [o])
   ·exact (List.nodup_append.1 l.2).2.2 g (Af.2 q) g (by simp [o]) rfl
   ·exact j g (by simp [o]) g (by simp [q]) rfl
   ·exact j g (by simp [o]) g (by simp [Af.2 q]) rfl
  have a3:∀g∈U,w'.heap[g]?=w.heap[g]?:=fun g d=> by
   refine y.block g (s g (by simp [d])) ?_;have l:=List.nodup_cons.1 z;rintro (q | q | q | q)
   ·rw [q] at d;exact l.1 (by simp [d])
   ·exact (List.nodup_append.1 l.2).2.2 g (Af.2 q) g (by simp [d]) rfl
   ·exact j g (by simp [d]) g (by simp [q]) rfl
   ·exact j g (by simp [d]) g (by simp [Af.2 q]) rfl
  have a4:∀g∈C,w'.heap[g]?=w.heap[g]?:=fun g d=> by
   refine y.block g (s g (by simp [d])) ?_;rintro (q | q | q | q)
   ·exact j p (by simp) g (by simp [d]) q.symm
   ·exact j g (by simp [Af.2 q]) g (by simp [d]) rfl
   ·exact J g (by simp [q]) g d rfl
   ·exact J g (by simp [Af.2 q]) g d rfl
  have M:∀g∈i.2::blk n,g∈i.2::blk X++u.2::blk bi\/w.heap.size<=g:=fun g d=> by
   rcases List.mem_cons.1 d with q | q
   ·exact .inl (by simp [q])
   ·rcases k7 with e | ⟨k,b2,e⟩
    ·rw [Kw e] at q;exact .inl (by simp [q])
    ·have:=Af.1 q;rw [e] at this;exact .inr (by have:=Option.some.inj this;omega)
  have O:(i.2::blk n).Nodup:=List.nodup_cons.2 ⟨fun q=> Aq k4 k5 (by decide) (Af.1 q),Dy _⟩;have R:=Gt (N:=w.heap.size) t O M (fun g d=> s g (by have:g∈p::(blk vp++(blk vc++U)):=d;simp at this ⊢;rcases this with q | q | q | q <;> simp [q])) (fun g d=> s g (by simp [d]))
  refine .inr ⟨rfl,Tr.lf (plain (b++c)),p::(blk V++(blk vc++(U++((i.2::blk n)++C)))),?_⟩;have S:Tr.lf (plain (b++c))=Tr.its (plain b)++Tr.its (plain c):=Jg b c;refine ⟨⟨V,vc,a++i::f,ml,U++((i.2::blk n)++C),k1,k2,Bz a5 (fun g d _=> a2 g d),rfl,?_,rfl⟩,?_,?_,trivial,?_,?_,y.mono ?_,?_⟩
  ·have kM:Cc (Rep 0 w') (i::f) ((W,Tr.lf (plain (b++c)))::B) ((i.2::blk n)++C):=⟨e1,i.2::blk n,C,⟨n,b++c,k4,k5,rfl,rfl⟩,kB.keep a4,rfl⟩;exact kM.append (kA.keep a3)
  ·rw [Kw k3];simpa using R
  ·rw [S];exact Tr.Am6 a6 a7 h1 h2
  ·show 1+2*((plain (b++c)).length - 16)<=1+2*((plain b).length - 16)+(1+2*((plain c).length - 16));rw [Bn,List.length_append];omega
  ·intro k _;rw [S];exact Tr.join0_val h1 h2 k
  ·rintro g _ (q | q | q | q)
   ·simp [q]
   ·simp [Af.2 q]
   ·simp [q]
   ·simp [Af.2 q]
  ·intro g d;rw [Kw k3] at d;rcases List.mem_cons.1 d with q | q
   ·exact .inl (by simp [q])
   ·rcases List.mem_append.1 q with q | q
    ·exact .inl (by simp [q])
    ·rcases List.mem_append.1 q with q | q
     ·exact .inl (by simp [q])
     ·rcases List.mem_append.1 q with q | q
      ·exact .inl (by simp [q])
      ·rcases List.mem_append.1 q with q | q
       ·exact (M g q).imp (fun q=> by simp at q ⊢;rcases q with q | q | q | q <;> simp [q]) id
       ·exact .inl (by simp [q])
 ·obtain ⟨a1,c1,rfl⟩:=Ab oa;obtain ⟨b1,d1,rfl⟩:=Ab ob;refine (Us p _ vp vc (a++i::u::f) a.length _ _ _ _ _ _ a1 none b1 none b.length 0 c.length 0 c1 0 d1 0 w hn T hi H (by rw [I];exact na) (by rw [g2];exact nb) rfl rfl rfl rfl (by omega) (by omega) (by omega) (by omega) (fun q=> hs q.1)).mono fun r w' h=> .inl h
theorem Aek (h:Nat) (HT:Pi (h+1)) (p:Nat) (A B:List (Tr.Key×Tr.Ac (h+1))) (f1 f2:Tr.Key) (m:Option Tr.Key) (t1 t2:Tr.Ac (h+1)) (cs:List Tr.Ch) (F:List Nat) (w:World) (hr:Rep (h+2) w p (Tr.brT (A++(f1,t1)::(f2,t2)::B) cs) F) (b8:F.Nodup) (h1:Tr.WF (h+1) f1 (some f2) t1) (h2:Tr.WF (h+1) f2 m t2) (s1:Tr.Gw (h+1) t1) (d8:Tr.room f1 (some f2)) (b3:Tr.room f2 m) (hw:Tr.wt (h+1) t1+Tr.wt (h+1) t2<=1800000) (f5:A.length+B.length<=1800000):
  Calls Tryz.prog 174 #[.pointer (some ⟨p,0,none⟩),.int .i64 (A.length:Nat)] w fun r w'=> (r= .returned (.bool false)/\Below w.heap.size w w')\/(r= .returned (.bool true)/\∃t' F',Am8 (h+1) f1 m A B cs t1 f2 t2 p F w w' t' F'):=by
 have V:=hr.lt;obtain ⟨vp,vc,pl,ml,G,hn,b6,f0,rfl,hk,rfl⟩:=hr;obtain ⟨f,i,x2,s,GA,Y,G2,GB,rfl,hl,kA,e1,r1,r2,kB,rfl⟩:=Aej hk;obtain ⟨t,g3⟩:=t1;obtain ⟨o,g4⟩:=t2;obtain ⟨ap,U,a7,J,Ga,na,d4,f3,rfl,ka,Z⟩:=r1;obtain ⟨bp,bc,a0,a2,Gb,nb,d5,d6,rfl,kb,a8⟩:=r2;have f6:=kB.len;have f7:=ka.len;have b9:=kb.len;have hi:f.length+1 < (f++i::x2::s).length:=by simp
 have c0:(f++i::x2::s).length<=20000000:=by simp;omega
 have g1:∀q,(f++i::x2::s)[f.length]'q=i:=fun q=> by simp
 have g2:∀q,(f++i::x2::s)[f.length+1]'q=x2:=fun q=> by simp
 have d9:(2*(plainCh J).length+Tr.wts t+((t.length - 1)+(2 - t.length)))+(2*(plainCh a2).length+Tr.wts o+((o.length - 1)+(2 - o.length)))<=1800000:=hw;rw [Ao,Ao] at d9;have f8:t.length<=Tr.wts t:=Tr.Hd h1.1;have f9:o.length<=Tr.wts o:=Tr.Hd h2.1;have c2:0 < a0.length:=by
  rw [b9]
  match o,h2.1 with
  | [],hc=> exact absurd (b3 f2 (show some f2=m from hc).symm).1 (Tr.lt_ir f2)
  | _::_,_=> simp
 rw [<-hl];by_cases hs:a7.length+a0.length<=3
 ·have L:((p::(blk vp++(blk vc++GA)))++((Y++G2)++GB)).Nodup:=by simpa using b8
  have C:=(List.nodup_append.1 L).2.2;have e0:=(List.nodup_append.1 (List.nodup_append.1 L).2.1).2.2;have b0:=(List.nodup_append.1 (List.nodup_append.1 L).2.1).1;have D:=(List.nodup_append.1 b0).2.2;have M:=(List.nodup_append.1 b0).1;have j:=(List.nodup_append.1 b0).2.1;have W:i.2∈Y:=by rw [Z];exact List.mem_cons_self ..
  have e2:x2.2∈G2:=by rw [a8];exact List.mem_cons_self ..
  have O:∀g,ap.ownBlock=some g->g∈Y:=fun g d=> by rw [Z];simp [Af.2 d]
  have a3:∀g,U.ownBlock=some g->g∈Y:=fun g d=> by rw [Z];simp [Af.2 d]
  have a4:∀g,bc.ownBlock=some g->g∈G2:=fun g d=> by rw [a8];simp [Af.2 d]
  have a5:∀g∈Ga,g∈Y:=fun g d=> by rw [Z];simp [d]
  have R:∀g∈Gb,g∈G2:=fun g d=> by rw [a8];simp [d]
  have n:∀g,g∈Y\/g∈G2->g < w.heap.size:=fun g d=> V g (by rcases d with q | q <;> simp [q])
  have X:∀g,g∈Y\/g∈G2->g≠p/\vp.ownBlock≠some g:=fun g d=> by
   have hm:g∈(Y++G2)++GB:=by rcases d with q | q <;> simp [q]
   exact ⟨fun q=> C p (by simp) g hm q.symm,fun q=> C g (by simp [Af.2 q]) g hm rfl⟩
  have e3:i.2≠p:=(X i.2 (.inl W)).1;have c3:x2.2≠i.2:=fun q=> D i.2 W x2.2 e2 q.symm
  have g0:p < w.heap.size:=hn.lt;have c4:∀k,vp.ownBlock=some k->k < w.heap.size:=fun k z=> (World.ownsRow.lt b6 k z).2
  have c5:∀u:Value,(u.ownBlock=ap.ownBlock\/∃k,w.heap.size<=k/\u.ownBlock=some k)->∀g∈i.2::(blk u++(blk U++(Ga++Gb))),(g∈Y\/g∈Gb)\/w.heap.size<=g:=fun u hu g d=> by
   rcases List.mem_cons.1 d with q | q
   ·exact .inl (.inl (by rw [q];exact W))
   ·rcases List.mem_append.1 q with q | q
    ·rcases hu with e | ⟨k,z,e⟩
     ·exact .inl (.inl (O g (by rw [<-e];exact Af.1 q)))
     ·have:=Af.1 q;rw [e] at this;exact .inr (by have:=Option.some.inj this;omega)
    ·rcases List.mem_append.1 q with q | q
     ·exact .inl (.inl (a3 g (Af.1 q)))
     ·rcases List.mem_append.1 q with q | q
      ·exact .inl (.inl (a5 g q))
      ·exact .inl (.inr q)
  have S:∀u:Value,(u.ownBlock=ap.ownBlock\/∃k,w.heap.size<=k/\u.ownBlock=some k)->∀g∈i.2::(blk u++(blk U++(Ga++Gb))),(g∈Y\/g∈G2)\/w.heap.size<=g:=fun u hu g d=> (c5 u hu g d).imp (fun q=> q.imp id (R g)) id
  have c6:∀u:Value,(u.ownBlock=ap.ownBlock\/∃k,w.heap.size<=k/\u.ownBlock=some k)->(i.2::(blk u++(blk U++(Ga++Gb)))).Nodup:=fun u hu=> by
   have b4:([i.2]++(blk ap++(blk U++(Ga++Gb)))).Nodup:=by
    have e4:(([i.2]++(blk ap++(blk U++Ga)))++Gb).Nodup:=by
     rw [Z] at b0 M D;refine List.nodup_append.2 ⟨M,?_,fun a ha b hb=> D a ha b (R b hb)⟩;rw [a8] at j;exact (List.nodup_append.1 (List.nodup_append.1 (List.nodup_cons.1 j).2).2.1).2.1
    simpa using e4
   have:=Gt (N:=w.heap.size) (M':=blk u) b4 (Dy u) (fun g d=> by
    rcases hu with e | ⟨k,z,e⟩
    ·exact .inl (by rw [<-Kw e];exact d)
    ·have:=Af.1 d;rw [e] at this;exact .inr (by have:=Option.some.inj this;omega)) (fun g d=> n g (.inl (by simp at d;rw [d];exact W))) (fun g d=> by
    rcases List.mem_append.1 d with q | q
    ·exact n g (.inl (a3 g (Af.1 q)))
    ·rcases List.mem_append.1 q with q | q
     ·exact n g (.inl (a5 g q))
     ·exact n g (.inr (R g q)))
   simpa using this
  have hT:∀y w3,JnM w i.2 ap U (a7++a0) y w3->Calls Tryz.prog 63 #[.pointer (some ⟨i.2,0,none⟩),bc] w3 fun r w4=> r= .returned (.tuple #[])/\(∃t' F',Aqz (h+1) f1 m i.2 (i.2::(blk y++(blk U++(Ga++Gb)))) w3 w4 t' F'/\Tr.wt (h+1) t'<=Tr.wt (h+1) (Tr.brT (t++o) (plainCh J))+2*a2.length/\∀k,Tr.inR f1 m k->Tr.val (h+1) t' k=Tr.Aj (plainCh a2) k (Tr.val (h+1) (Tr.brT (t++o) (plainCh J)) k))/\Mod (fun g=> g∈i.2::(blk y++(blk U++(Ga++Gb)))) w3 w4:=by
   intro y w3 hj;have I:∀g,g < w.heap.size->g≠i.2->ap.ownBlock≠some g->w3.heap[g]?=w.heap[g]?:=fun g d q1 q2=> hj.mod.block g d (fun q=> q.elim q1 q2)
   rw [Z] at M;have b5:=List.nodup_cons.1 M;have c7:=List.nodup_append.1 b5.2;have e5:∀g,U.ownBlock=some g->w3.heap[g]?=w.heap[g]?:=fun g d=> I g (n g (.inl (a3 g d))) (fun q=> b5.1 (by rw [<-q];simp [Af.2 d])) (fun q=> c7.2.2 g (Af.2 q) g (by simp [Af.2 d]) rfl)
   have e6:∀g∈Ga,w3.heap[g]?=w.heap[g]?:=fun g d=> I g (n g (.inl (a5 g d))) (fun q=> b5.1 (by rw [<-q];simp [d])) (fun q=> c7.2.2 g (Af.2 q) g (by simp [d]) rfl)
   have c8:∀g∈G2,w3.heap[g]?=w.heap[g]?:=fun g d=> I g (n g (.inr d)) (fun q=> D i.2 W g d q.symm) (fun q=> D g (O g q) g d rfl)
   have c9:Rep (h+1) w3 i.2 (Tr.brT (t++o) (plainCh J)) (i.2::(blk y++(blk U++(Ga++Gb)))):=
    ⟨y,U,a7++a0,J,Ga++Gb,hj.nod,hj.row,Bz f3 (fun g d _=> e5 g d),rfl,(kb.keep fun g d=> c8 g (R g d)).append (ka.keep e6),rfl⟩
   refine (HT i.2 _ _ w3 bc a2 f1 m c9 (c6 y hj.blk) (Tr.Am7 b3 h1 h2) ⟨by rw [List.length_append];omega,by have:(plainCh J).length<=8:=s1;exact this⟩ (fun b hb=> ⟨Tr.Cz (d8 f2 rfl).1 (b3 b hb).1,(b3 b hb).2⟩) (Bz d6 fun g d _=> c8 g (a4 g d)) (fun g d q=> ?_) (fun c hc=> ⟨Tr.Abi d8 (h2.2 c hc).1,(h2.2 c hc).2⟩) ?_).mono ?_
   ·rcases c5 y hj.blk g q with (q | q) | q
    ·exact D g q g (a4 g d) rfl
    ·rw [a8] at j;exact (List.nodup_append.1 (List.nodup_append.1 (List.nodup_cons.1 j).2).2.1).2.2 g (Af.2 d) g q rfl
    ·have:=n g (.inr (a4 g d));omega
   ·rw [Tr.Jt,Tr.Dn,Ao,List.length_append];omega
   ·rintro r w4 ⟨rfl,t',F',l,b7,a9⟩;exact ⟨rfl,⟨t',F',l,b7,a9⟩,l.mod⟩
  refine (Aju p _ vp vc (f++i::x2::s) f.length ap U bp bc a7 a0 w hn b6 hi c0 (by rw [g1];exact na) (by rw [g2];exact nb) d4 d5 hs c2 (Ey d6) (by rw [g1];exact e3) (by rw [g1,g2];exact c3) (fun k z q=> (X k (.inl (O k q))).2 z) _ (fun u g=> g∈i.2::(blk u++(blk U++(Ga++Gb)))) (fun u hu=> ⟨fun q=> ?_,fun k z q=> ?_⟩) (by rw [g1];exact hT)).mono ?_
  ·rcases S u hu p q with q | q
   ·exact (X p q).1 rfl
   ·omega
  ·rcases S u hu k q with q | q
   ·exact (X k q).2 z
   ·have:=c4 k z;omega
  rintro r w' ⟨rfl,y,w3,w4,d7,hj,⟨t',F1,l,b7,a9⟩,f4,k1,k2,k3,k4⟩;rw [g1] at hj;have d0:(f++i::x2::s).take (f.length+1)++(f++i::x2::s).drop (f.length+2)=f++i::s:=by
   rw [List.take_append,List.drop_append];simp;rw [List.take_of_length_le (by omega),List.drop_of_length_le (by omega)];rfl
  rw [d0] at k2;have T:Mod (fun g=> (g=p\/vp.ownBlock=some g)\/g∈Y\/g∈G2) w w':=by
   refine (hj.mod.trans f4 (H:=fun g=> (g=p\/vp.ownBlock=some g)\/g∈Y\/g∈G2) (fun g _ q=> ?_) (fun g d q=> ?_)).trans k4 (fun _ _ q=> q) (fun _ _ q=> .inl q)
   ·exact .inr (.inl (q.elim (fun e=> by rw [e];exact W) (O g)))
   ·rcases S y hj.blk g q with q | q
    ·exact .inr q
    ·omega
  have b2:∀g∈F1,g∈Y++G2\/w.heap.size<=g:=fun g d=> by
   rcases l.sub g d with q | q
   ·exact (S y hj.blk g q).imp (fun q=> List.mem_append.2 q) id
   ·exact .inr (Nat.le_trans hj.mod.size q)
  have e7:∀g,vc.ownBlock=some g->w'.heap[g]?=w.heap[g]?:=fun g d=> by
   have a6:=Af.2 d;refine T.block g (V g (by simp [a6])) ?_;have j:=List.nodup_cons.1 b8;rintro ((q | q) | q)
   ·rw [q] at a6;exact j.1 (by simp [a6])
   ·exact (List.nodup_append.1 j.2).2.2 g (Af.2 q) g (by simp [a6]) rfl
   ·exact C g (by simp [a6]) g (by rcases q with q | q <;> simp [q]) rfl
  have e8:∀g∈GA,w'.heap[g]?=w.heap[g]?:=fun g d=> by
   refine T.block g (V g (by simp [d])) ?_;have j:=List.nodup_cons.1 b8;rintro ((q | q) | q)
   ·rw [q] at d;exact j.1 (by simp [d])
   ·exact (List.nodup_append.1 j.2).2.2 g (Af.2 q) g (by simp [d]) rfl
   ·exact C g (by simp [d]) g (by rcases q with q | q <;> simp [q]) rfl
  have e9:∀g∈GB,w'.heap[g]?=w.heap[g]?:=fun g d=> by
   refine T.block g (V g (by simp [d])) ?_;rintro ((q | q) | q)
   ·exact C p (by simp) g (by simp [d]) q.symm
   ·exact C g (by simp [Af.2 q]) g (by simp [d]) rfl
   ·exact e0 g (List.mem_append.2 q) g d rfl
  have d2:∀g∈F1,w'.heap[g]?=w4.heap[g]?:=fun g d=> by
   refine k4.block g (l.rep.lt g d) ?_;rintro (q | q)
   ·rcases b2 g d with q' | q'
    ·exact (X g (List.mem_append.1 q')).1 q
    ·omega
   ·rcases b2 g d with q' | q'
    ·exact (X g (List.mem_append.1 q')).2 q
    ·have:=c4 g q;omega
  have d3:=Gt (N:=w.heap.size) L l.nd b2 (fun g d=> V g (by have:g∈p::(blk vp++(blk vc++GA)):=d;simp at this ⊢;rcases this with q | q | q | q <;> simp [q])) (fun g d=> V g (by simp [d]))
  refine .inr ⟨rfl,t',p::(blk d7++(blk vc++(GA++(F1++GB)))),⟨d7,vc,f++i::s,ml,GA++(F1++GB),k1,k2,Bz f0 (fun g d _=> e7 g d),rfl,?_,rfl⟩,?_,l.wf,l.small,?_,?_,T.mono ?_,?_⟩
  ·have kM:Cc (Rep (h+1) w') (i::s) ((f1,t')::B) (F1++GB):=⟨e1,F1,GB,l.rep.keep d2,kB.keep e9,rfl⟩;exact kM.append (kA.keep e8)
  ·rw [Kw k3];simpa using d3
  ·rw [Tr.Jt,Tr.Dn,List.length_append] at b7;show _<=(2*(plainCh J).length+Tr.wts t+((t.length - 1)+(2 - t.length)))+(2*(plainCh a2).length+Tr.wts o+((o.length - 1)+(2 - o.length)));rw [Ao a2];omega
  ·intro k z;rw [a9 k z];exact Tr.Ajv h1 h2 z
  ·rintro g _ ((q | q) | q | q)
   ·simp [q]
   ·simp [Af.2 q]
   ·simp [q]
   ·simp [q]
  ·intro g d;rw [Kw k3] at d;rcases List.mem_cons.1 d with q | q
   ·exact .inl (by simp [q])
   ·rcases List.mem_append.1 q with q | q
    ·exact .inl (by simp [q])
    ·rcases List.mem_append.1 q with q | q
     ·exact .inl (by simp [q])
     ·rcases List.mem_append.1 q with q | q
      ·exact .inl (by simp [q])
      ·rcases List.mem_append.1 q with q | q
       ·exact (b2 g q).imp (fun q=> by rcases List.mem_append.1 q with q | q <;> simp [q]) id
       ·exact .inl (by simp [q])
 ·obtain ⟨a1,c1,rfl⟩:=Ab d4;obtain ⟨b1,d1,rfl⟩:=Ab d5;exact (Us p _ vp vc (f++i::x2::s) f.length _ _ _ _ _ _ none a1 none b1 0 a7.length 0 a0.length 0 c1 0 d1 w hn b6 hi c0 (by rw [g1];exact na) (by rw [g2];exact nb) rfl rfl rfl rfl (by omega) (by omega) (by omega) (by omega) (fun q=> hs q.2)).mono fun r w' h=> .inl h
theorem Ael:∀(h:Nat) (_:Pi h) (p:Nat) (A B:List (Tr.Key×Tr.Ac h)) (c a:Tr.Key) (m:Option Tr.Key) (b d:Tr.Ac h) (f:List Tr.Ch) (F:List Nat) (w:World) (_:Rep (h+1) w p (Tr.brT (A++(c,b)::(a,d)::B) f) F) (_:F.Nodup) (_:Tr.WF h c (some a) b) (_:Tr.WF h a m d) (_:Tr.Gw h b) (_:Tr.room c (some a)) (_:Tr.room a m) (_:Tr.wt h b+Tr.wt h d<=1800000) (_:A.length+B.length<=1800000),
  Calls Tryz.prog 174 #[.pointer (some ⟨p,0,none⟩),.int .i64 (A.length:Nat)] w fun r w'=> (r= .returned (.bool false)/\Below w.heap.size w w')\/(r= .returned (.bool true)/\∃g F',Am8 h c m A B f b a d p F w w' g F')
 | 0,_,p,A,B,c,a,m,b,d,f,F,w,hr,hnd,h1,h2,_,hr1,hr2,hw,hlen=> Ajw p A B c a m b d f F w hr hnd h1 h2 hr1 hr2 hw hlen
 | h+1,HT,p,A,B,c,a,m,b,d,f,F,w,hr,hnd,h1,h2,s1,hr1,hr2,hw,hlen=> Aek h HT p A B c a m b d f F w hr hnd h1 h2 s1 hr1 hr2 hw hlen
def Fm (F F':List Nat) (w w':World):Prop:=Mod (fun g=> g∈F) w w'/\∀g∈F',g∈F\/w.heap.size<=g
theorem Fm.trans {F F' a:List Nat} {w w' b:World} (c:Fm F F' w w') (f:Fm F' a w' b):Fm F a w b:=
 ⟨c.1.trans f.1 (fun _ _ q=> q) (fun g d q=> (c.2 g q).elim id (fun z=> by omega)),fun g d=> (f.2 g d).elim (c.2 g) (fun q=> .inr (Nat.le_trans c.1.size q))⟩
theorem Fm.below {F:List Nat} {w w':World} (h:Below w.heap.size w w'):Fm F F w w':=⟨Mod.of_below h,fun _ a=> .inl a⟩
structure Foc (h:Nat) (lo:Tr.Key) (hi:Option Tr.Key) (p:Nat) (w:World) (A:List (Tr.Key×Tr.Ac h)) (f:Tr.Key) (m:Option Tr.Key) (t:Tr.Ac h) (B:List (Tr.Key×Tr.Ac h)) (cs:List Tr.Ch) (F:List Nat):Prop where
 rep:Rep (h+1) w p (Tr.brT (A++(f,t)::B) cs) F
 nd:F.Nodup
 cA:Tr.Ba (fun f m t=> Tr.WF h f m t/\Tr.Top h t) (some lo) (some f) A
 rm:Tr.room f m
 wf:Tr.WF h f m t
 small:Tr.Gw h t
 cB:Tr.Ba (fun f m t=> Tr.WF h f m t/\Tr.Top h t) m hi B
 cc:∀c∈cs,Tr.inR lo hi c.2.1/\Tr.Ew c
 wt:cs.length+(Tr.wts A+(Tr.wt h t+Tr.wts B))<=1800000
theorem Foc.len {h:Nat} {lo:Tr.Key} {hi:Option Tr.Key} {p:Nat} {w:World} {A B:List (Tr.Key×Tr.Ac h)} {f:Tr.Key} {m:Option Tr.Key} {t:Tr.Ac h} {b:List Tr.Ch} {F:List Nat} (a:Foc h lo hi p w A f m t B b F):A.length+B.length<=1800000:=by
 have c:A.length<=Tr.wts A:=Tr.Hd a.cA;have d:B.length<=Tr.wts B:=Tr.Hd a.cB;have:=a.wt;omega
theorem Foc.below {h:Nat} {lo:Tr.Key} {hi:Option Tr.Key} {p:Nat} {w w':World} {A B:List (Tr.Key×Tr.Ac h)} {f:Tr.Key} {m:Option Tr.Key} {t:Tr.Ac h} {b:List Tr.Ch} {F:List Nat} (a:Foc h lo hi p w A f m t B b F) (d:Below w.heap.size w w'):Foc h lo hi p w' A f m t B b F:=
 ⟨a.rep.keep fun g c=> d.block g (a.rep.lt g c),a.nd,a.cA,a.rm,a.wf,a.small,a.cB,a.cc,a.wt⟩
theorem Rep.nod {h:Nat} {w:World} {p:Nat} {f:List (Tr.Key×Tr.Ac h)} {j:List Tr.Ch} {F:List Nat} (k:Rep (h+1) w p (Tr.brT f j) F):∃a c vc,An w p (.slice none 0 0) (.slice a f.length c) vc:=by
 obtain ⟨vp,vc,pl,ml,G,d,b,g,rfl,i,rfl⟩:=k;obtain ⟨a,c,rfl⟩:=Ab b;rw [i.len] at d;exact ⟨a,c,vc,d⟩
theorem Bp {h:Nat} {lo hi:Option Tr.Key} {A:List (Tr.Key×Tr.Ac h)} (a:Tr.Ba (fun f m t=> Tr.WF h f m t/\Tr.Top h t) lo hi A):Tr.Ba (fun f m t=> Tr.WF h f m t/\Tr.Gw h t) lo hi A:=Tr.Ab2 (fun _ _ _ q=> ⟨q.1,q.2.small⟩) a
theorem Ta {h:Nat} {R:Tr.Key->Option Tr.Key->Tr.Ac h->Prop} {f:Tr.Key} {m:Option Tr.Key} {t:Tr.Ac h} (a:Tr.room f m) (b:R f m t):Tr.Ba R (some f) m [(f,t)]:=⟨rfl,m,a,b,rfl⟩
theorem Am9 {h:Nat} (R:Pi h) {lo:Tr.Key} {hi:Option Tr.Key} {p:Nat} {w:World} {A B:List (Tr.Key×Tr.Ac h)} {f:Tr.Key} {m:Option Tr.Key} {t:Tr.Ac h} {u:List Tr.Ch} {F:List Nat} (d:Foc h lo hi p w A f m t B u F):
  Calls Tryz.prog 174 #[.pointer (some ⟨p,0,none⟩),.int .i64 (A.length:Nat)] w fun r w'=>∃b O s C F',r= .returned (.bool b)/\Foc h lo hi p w' A f O s C u F'/\Fm F F' w w'/\(Tr.wt h s+Tr.wts C<=Tr.wt h t+Tr.wts B/\(C.length=B.length\/C.length+1=B.length))/\∀k,Tr.inR lo hi k->Tr.val (h+1) (Tr.brT (A++(f,s)::C) u) k=Tr.val (h+1) (Tr.brT (A++(f,t)::B) u) k:=by
 have g:=d.len;have i:=d.wt
 match B,d,g,i with
 | [],d,g,_=>
  obtain ⟨a,c,vc,L⟩:=d.rep.nod;refine (Aeh p _ vc a _ c A.length w L (by simp) (by omega)).mono ?_;rintro r w' ⟨rfl,o⟩;exact ⟨false,m,t,[],F,rfl,d.below o,Fm.below o,⟨Nat.le_refl _,.inl rfl⟩,fun _ _=> rfl⟩
 | (f2,t2)::B2,d,g,i=>
  obtain ⟨M,z,n,⟨H,D⟩,q⟩:=d.cB;subst M;rw [Tr.Dr] at i;rw [List.length_cons] at g;have i:u.length+(Tr.wts A+(Tr.wt h t+(Tr.wt h t2+Tr.wts B2)))<=1800000:=i;refine (Ael h R p A B2 f f2 z t t2 u F w d.rep d.nd d.wf H d.small d.rm n (by omega) (by omega)).mono ?_;rintro r w' (⟨rfl,o⟩ | ⟨rfl,s,F',l⟩)
  ·exact ⟨false,_,t,_,F,rfl,d.below o,Fm.below o,⟨Nat.le_refl _,.inl rfl⟩,fun _ _=> rfl⟩
  ·have j:Tr.room f z:=fun b o=> ⟨Tr.Cz (d.rm f2 rfl).1 (n b o).1,(n b o).2⟩
   have I:=l.wt;have y:Tr.wt h s+Tr.wts B2<=Tr.wt h t+Tr.wts ((f2,t2)::B2):=(by rw [Tr.Dr];show _<=_+(Tr.wt h t2+_);omega);refine ⟨true,z,s,B2,F',rfl,⟨l.rep,l.nd,d.cA,j,l.wf,l.small,q,d.cc,?_⟩,⟨l.mod,l.sub⟩,⟨y,.inr rfl⟩,fun k N=> ?_⟩
   ·have:=d.wt;omega
   ·have J:Tr.Ba (fun f m t=> Tr.WF h f m t/\Tr.Gw h t) (some f) z [(f,t),(f2,t2)]:=⟨rfl,some f2,d.rm,⟨d.wf,d.small⟩,rfl,z,n,⟨H,D.small⟩,rfl⟩;have:=Tr.Qb (X:=[(f,t),(f2,t2)]) (Y:=[(f,s)]) (Bp d.cA) J (Bp q) (Bp d.cA) (Ta j ⟨l.wf,l.small⟩) (Bp q) u (fun k G=> by rw [Tr.Rk];exact l.val k G) N;simpa [Tr.brT] using this
theorem Ajx {h:Nat} (V:Pi h) {lo:Tr.Key} {hi:Option Tr.Key} {p:Nat} {w:World} {A B:List (Tr.Key×Tr.Ac h)} {f:Tr.Key} {m:Option Tr.Key} {t:Tr.Ac h} {i:List Tr.Ch} {F:List Nat} (a:Foc h lo hi p w A f m t B i F):
  Calls Tryz.prog 174 #[.pointer (some ⟨p,0,none⟩),.int .i64 ((A.length:Int) - 1)] w fun r w'=> (r= .returned (.bool false)/\Foc h lo hi p w' A f m t B i F/\Fm F F w w')\/∃H N s F',r= .returned (.bool true)/\A.length=H.length+1/\Foc h lo hi p w' H N m s B i F'/\Fm F F' w w'/\Tr.wts H+Tr.wt h s<=Tr.wts A+Tr.wt h t/\∀k,Tr.inR lo hi k->Tr.val (h+1) (Tr.brT (H++(N,s)::B) i) k=Tr.val (h+1) (Tr.brT (A++(f,t)::B) i) k:=by
 have u:=a.len;have y:=a.wt;rcases List.eq_nil_or_concat A with rfl | ⟨l,⟨g,n⟩,rfl⟩
 ·have e:(([]:List (Tr.Key×Tr.Ac h)).length:Int) - 1= -1:=rfl;rw [e];refine (Aeg p w).mono ?_;rintro r w' ⟨rfl,j⟩;exact .inl ⟨rfl,a.below j,Fm.below j⟩
 ·rw [List.concat_eq_append] at*;have O:((l++[(g,n)]).length:Int) - 1=(l.length:Int):=by simp
  rw [O];obtain ⟨W,o,I,T,q,⟨w0,G⟩,J⟩:=Tr.Bc.1 a.cA;subst I;have z:T=some f:=J;subst z;rw [Tr.Dn,Tr.Dr,Tr.Ot] at y;rw [List.length_append] at u;have C:Rep (h+1) w p (Tr.brT (l++(g,n)::(f,t)::B) i) F:=by have:=a.rep;rw [List.append_assoc] at this;exact this
  have M:i.length+(Tr.wts l+(Tr.wt h n+0)+(Tr.wt h t+Tr.wts B))<=1800000:=y;refine (Ael h V p l B g f m n t i F w C a.nd w0 a.wf G.small q a.rm (by omega) (by omega)).mono ?_;rintro r w' (⟨rfl,j⟩ | ⟨rfl,s,F',d⟩)
  ·exact .inl ⟨rfl,a.below j,Fm.below j⟩
  ·have c:Tr.room g m:=fun b j=> ⟨Tr.Cz (q f rfl).1 (a.rm b j).1,(a.rm b j).2⟩
   have R:=d.wt;have D:Tr.wts l+Tr.wt h s<=Tr.wts (l++[(g,n)])+Tr.wt h t:=(by rw [Tr.Dn,Tr.Dr,Tr.Ot];show _<=_+(Tr.wt h n+0)+_;omega);refine .inr ⟨l,g,s,F',rfl,by simp,⟨d.rep,d.nd,o,c,d.wf,d.small,a.cB,a.cc,?_⟩,⟨d.mod,d.sub⟩,D,fun k U=> ?_⟩
   ·omega
   ·have S:Tr.Ba (fun f m t=> Tr.WF h f m t/\Tr.Gw h t) (some g) m [(g,n),(f,t)]:=⟨rfl,some f,q,⟨w0,G.small⟩,rfl,m,a.rm,⟨a.wf,a.small⟩,rfl⟩;have:=Tr.Qb (X:=[(g,n),(f,t)]) (Y:=[(g,s)]) (Bp o) S (Bp a.cB) (Bp o) (Ta c ⟨d.wf,d.small⟩) (Bp a.cB) i (fun k L=> by rw [Tr.Rk];exact d.val k L) U;simpa [Tr.brT] using this
end Go.Proofs.YtolgpnaoaodepaaGreat
namespace Go.Proofs.YtolgpnaoaodepaaGreat.Tr
theorem Ama {h:Nat} {R:Key->Option Key->Ac h->Prop} {lo f:Key} {m hi:Option Key} {t:Ac h} {A B:List (Key×Ac h)} (s:Ba R (some lo) (some f) A) (u:room f m) (y:R f m t) (j:Ba R m hi B) {k:Key} (z:inR lo hi k):ix ((A++(f,t)::B).map (·.1)) k=A.length↔inR f m k:=by
 have a:Ba R (some lo) hi (A++(f,t)::B):=Bc.2 ⟨some f,s,rfl,m,u,y,j⟩;have g:m=nxt B hi:=Fj j;constructor
 ·intro e;obtain ⟨C,D,F,l,n,o,i,G,H,p,I,r⟩:=El a z;rw [e] at i;have d:=List.append_inj o i;have b:=List.cons.inj d.2;have c:n=nxt l hi:=Fj r;rw [<-b.2,<-g] at c;rw [<-c,(Prod.mk.inj b.1).1];exact p
 ·intro q;exact Aed (R:=R) (hi:=hi) (by rw [<-g];exact q) A (some lo) a
theorem Amb {h:Nat} {lo f:Key} {m hi:Option Key} {t d:Ac h} {A B:List (Key×Ac h)} {a:List Ch} (l:Ba (fun f m t=> WF h f m t/\Gw h t) (some lo) (some f) A) (H:room f m) (J:WF h f m t/\Gw h t) (I:WF h f m d/\Gw h d) (n:Ba (fun f m t=> WF h f m t/\Gw h t) m hi B)
  (N:∀k,inR f m k->val h d k=Aj (a.filter fun c=> decide (ix ((A++(f,t)::B).map (·.1)) c.2.1=A.length)) k (val h t k)) {k:Key} (L:inR lo hi k):val (h+1) (brT (A++(f,d)::B) (a.filter fun c=> !decide (ix ((A++(f,t)::B).map (·.1)) c.2.1=A.length))) k=val (h+1) (brT (A++(f,t)::B) a) k:=by
 have i:=Ama l H J n L;have r:∀(u:Ac h),A++(f,u)::B=A++[(f,u)]++B:=fun u=> by simp
 have C:Ba (fun f m t=> WF h f m t/\Gw h t) (some f) m [(f,t)]:=⟨rfl,m,H,J,rfl⟩;have D:Ba (fun f m t=> WF h f m t/\Gw h t) (some f) m [(f,d)]:=⟨rfl,m,H,I,rfl⟩;by_cases q:inR f m k
 ·have g:=i.2 q;generalize G:(A++(f,t)::B).map (·.1)=y at*;show val (h+1) (A++(f,d)::B,_) k=val (h+1) (A++(f,t)::B,a) k;rw [r d,r t,Ft l C n a q,Ft l D n _ q,Rk,Rk,N k q,Fc (fun c=> decide (ix y c.2.1=A.length)) a k _ (fun c _ e=> by rw [e];exact decide_eq_true g)];exact Dv _ k _ fun c M e=> by
   have:=(List.mem_filter.1 M).2;rw [e,g] at this;simp at this
 ·have g:¬ix ((A++(f,t)::B).map (·.1)) k=A.length:=fun z=> q (i.1 z)
  generalize G:(A++(f,t)::B).map (·.1)=y at*;have F:∀s,Aj (a.filter fun c=> !decide (ix y c.2.1=A.length)) k s=Aj a k s:=fun s=> Fc _ a k s fun c _ e=> by rw [e];simp [g]
  have j:val (h+1) (brT (A++(f,d)::B) (a.filter fun c=> !decide (ix y c.2.1=A.length))) k=val (h+1) (brT (A++(f,d)::B) a) k:=F _;rw [j];show val (h+1) (A++(f,d)::B,a) k=val (h+1) (A++(f,t)::B,a) k;rw [r d,r t];rcases Aqy (f:=f) (m:=m) L with z | z | ⟨b,rfl,z⟩
  ·have o:=Ft (A:=[]) (X:=A) (B:=[(f,t)]++B) (f:=lo) rfl l (Bc.2 ⟨m,C,n⟩) a z;have p:=Ft (A:=[]) (X:=A) (B:=[(f,d)]++B) (f:=lo) rfl l (Bc.2 ⟨m,D,n⟩) a z;simp only [List.nil_append] at o p;rw [List.append_assoc,List.append_assoc,o,p]
  ·exact absurd z q
  ·have o:=Ft (A:=A++[(f,t)]) (X:=B) (B:=[]) (f:=b) (Bc.2 ⟨_,l,C⟩) n rfl a z;have p:=Ft (A:=A++[(f,d)]) (X:=B) (B:=[]) (f:=b) (Bc.2 ⟨_,l,D⟩) n rfl a z;simp only [List.append_nil] at o p;rw [o,p]
theorem Amc {α:Type} (l:List α) (n:Nat) (h:n < l.length):∃A x B,l=A++x::B/\A.length=n:=⟨l.take n,l[n],l.drop (n+1),by rw [List.getElem_cons_drop,List.take_append_drop],by rw [List.length_take];omega⟩
theorem Xw {α:Type} (P:α->Bool) (l:List α):(l.filter P).length+(l.filter fun c=> !P c).length=l.length:=by
 induction l with
 | nil=> rfl
 | cons c r ih=> cases a:P c <;> simp [a] <;> omega
theorem Ah3 {α:Type} {P:α->Bool} {l:List α} {c:α} (a:c∈l) (b:P c=true):0 < (l.filter P).length:=List.length_pos_iff.2 (List.ne_nil_of_mem (List.mem_filter.2 ⟨a,b⟩))
end Go.Proofs.YtolgpnaoaodepaaGreat.Tr
namespace Go.Proofs.YtolgpnaoaodepaaGreat
open Go.RowKit
theorem Aem {h:Nat} {w:World} {pl:List (ByteArray×Nat)} {A B:List (Tr.Key×Tr.Ac h)} {f:Tr.Key} {t:Tr.Ac h} {G:List Nat} (m:Cc (Rep h w) pl (A++(f,t)::B) G):∃b x c d g i,pl=b++x::c/\b.length=A.length/\Cc (Rep h w) b A d/\x.1.data.toList=f/\Rep h w x.2 t g/\Cc (Rep h w) c B i/\G=d++(g++i):=by
 obtain ⟨b,R,d,n,rfl,j,k,l,rfl⟩:=m.split
 match R,l with
 | x::c,⟨e1,g,i,r1,hB,hG⟩=> exact ⟨b,x,c,d,g,i,rfl,j,k,e1,r1,hB,by rw [hG]⟩
theorem Ajy {h:Nat} (HT:Pi h) {lo:Tr.Key} {hi:Option Tr.Key} {p:Nat} {w0 w:World} {A B:List (Tr.Key×Tr.Ac h)} {f:Tr.Key} {m:Option Tr.Key} {t:Tr.Ac h} {ml:List (Int×ByteArray×ByteArray)} {vp vc:Value} {n l:List (ByteArray×Nat)} {x:ByteArray×Nat} {C D y:List Nat}
  (W:(p::(blk vp++(blk vc++(C++(D++y))))).Nodup) (u:∀g∈p::(blk vp++(blk vc++(C++(D++y)))),g < w.heap.size) (c0:Ap 0 w vp (n++x::l)) (kA:Cc (Rep h w) n A C) (ex:x.1.data.toList=f) (r1:Rep h w x.2 t D) (kB:Cc (Rep h w) l B y)
  (cA:Tr.Ba (fun f m t=> Tr.WF h f m t/\Tr.Top h t) (some lo) (some f) A) (rm:Tr.room f m) (Z:Tr.WF h f m t/\Tr.Top h t) (cB:Tr.Ba (fun f m t=> Tr.WF h f m t/\Tr.Top h t) m hi B) (X:∀c∈plainCh ml,Tr.inR lo hi c.2.1/\Tr.Ew c) (c6:2*ml.length+(Tr.wts A+(Tr.wt h t+Tr.wts B))<=1800000)
  (vo I:Value) (R:World) (Y:An R p (.slice none 0 0) vp I) (J:Two w.heap.size R vo I (ml.filter (atP (n++x::l) A.length)) (ml.filter fun c=> !atP (n++x::l) A.length c)) (F:Mod (fun g=> g=p) w R) (h0:w0.heap=w.heap) (c1:w0.os=w.os) (c2:w0.tape=w.tape) (c3:w0.output=w.output):
  Calls Tryz.prog 63 #[.pointer (some ⟨x.2,0,none⟩),vo] R fun r M=> r= .returned (.tuple #[])/\∃V O F',Foc h lo hi p M A f m V B O F'/\O.length=(ml.filter fun c=> !atP (n++x::l) A.length c).length/\Fm (p::(blk vp++(blk vc++(C++(D++y))))) F' w0 M/\2*O.length+(Tr.wts A+(Tr.wt h V+Tr.wts B))<=2*ml.length+(Tr.wts A+(Tr.wt h t+Tr.wts B))/\∀k,Tr.inR lo hi k->Tr.val (h+1) (Tr.brT (A++(f,V)::B) O) k=Tr.val (h+1) (Tr.brT (A++(f,t)::B) (plainCh ml)) k:=by
 have b2:=kA.keys;have b3:=kB.keys;have T:pkeys (n++x::l)=(A++(f,t)::B).map (·.1):=by
  rw [List.map_append,List.map_cons,<-b2,<-b3];show List.map _ _=_;rw [List.map_append,List.map_cons,ex];rfl
 have a0:(atP (n++x::l) A.length)=fun c=> (fun c:Tr.Ch=> decide (Tr.ix ((A++(f,t)::B).map (·.1)) c.2.1=A.length)) (c.1,c.2.1.data.toList,c.2.2.data.toList):=by
  funext c;unfold atP;rw [T]
 have ho:plainCh (ml.filter (atP (n++x::l) A.length))=(plainCh ml).filter fun c=> decide (Tr.ix ((A++(f,t)::B).map (·.1)) c.2.1=A.length):=by rw [a0];exact He ml (fun c=> decide (Tr.ix ((A++(f,t)::B).map (·.1)) c.2.1=A.length))
 have a1:plainCh (ml.filter fun c=> !atP (n++x::l) A.length c)=(plainCh ml).filter fun c=> !decide (Tr.ix ((A++(f,t)::B).map (·.1)) c.2.1=A.length):=by rw [a0];exact He ml (fun c=> !decide (Tr.ix ((A++(f,t)::B).map (·.1)) c.2.1=A.length))
 have c5:=Tr.Xw (atP (n++x::l) A.length) ml;have G:((p::(blk vp++(blk vc++C)))++(D++y)).Nodup:=by simpa using W
 have H:=(List.nodup_append.1 G).2.2;have b4:=(List.nodup_append.1 (List.nodup_append.1 G).2.1).2.2;have b5:∀g∈blk vp++(blk vc++(C++(D++y))),g≠p:=fun g i q=> (List.nodup_cons.1 W).1 (by rw [<-q];exact i)
 have s:∀g∈blk vp++(blk vc++(C++(D++y))),R.heap[g]?=w.heap[g]?:=fun g i=> F.block g (u g (List.mem_cons_of_mem _ i)) (b5 g i)
 have a2:=F.size;have b6:∀g,vo.ownBlock=some g->w.heap.size<=g:=fun g i=> (World.ownsRow.lt J.o g i).1
 have U:∀g,I.ownBlock=some g->w.heap.size<=g:=fun g i=> (World.ownsRow.lt J.k g i).1
 refine (HT x.2 t D R vo _ f m (r1.keep fun g i=> s g (by simp [i])) (List.nodup_append.1 (List.nodup_append.1 G).2.1).1 Z.1 Z.2 rm (Fx J.o) (fun g i q=> ?_) ?_ ?_).mono ?_
 ·have:=b6 g i;have:=u g (by simp [q]);omega
 ·intro c hc;rw [ho] at hc;obtain ⟨a9,b9⟩:=List.mem_filter.1 hc;exact ⟨(Tr.Ama (Bp cA) rm ⟨Z.1,Z.2.small⟩ (Bp cB) (X c a9).1).1 (of_decide_eq_true b9),(X c a9).2⟩
 ·omega
 ·rintro r M ⟨rfl,V,F1,d,c4,S⟩;rw [ho] at S;have a3:∀g∈F1,g∈D\/w.heap.size<=g:=fun g i=> (d.sub g i).imp id (Nat.le_trans a2)
  have j:∀g,g < R.heap.size->g∉D->M.heap[g]?=R.heap[g]?:=fun g i q=> d.mod.block g i q
  have hX:∀g∈p::(blk vp++(blk I++C)),g∉D:=fun g i q=> by
   rcases List.mem_cons.1 i with z | z
   ·exact H p (by simp) g (by simp [q]) z.symm
   ·rcases List.mem_append.1 z with z | z
    ·exact H g (by simp [z]) g (by simp [q]) rfl
    ·rcases List.mem_append.1 z with z | z
     ·have:=U g (Af.1 z);have:=u g (by simp [q]);omega
     ·exact H g (by simp [z]) g (by simp [q]) rfl
  have a4:((p::(blk vp++(blk I++C)))++(D++y)).Nodup:=by
   have L:((p::blk vp)++(blk vc++(C++(D++y)))).Nodup:=(by simpa using W);have:=Gt (N:=w.heap.size) (M':=blk I) L (Dy I) (fun g i=> .inr (U g (Af.1 i))) (fun g i=> u g (by simp at i ⊢;rcases i with q | q <;> simp [q])) (fun g i=> u g (by simp at i ⊢;rcases i with q | q | q <;> simp [q]))
   simpa using this
  have a5:((p::(blk vp++(blk I++C)))++(F1++y)).Nodup:=by
   obtain ⟨n1,n2,n3⟩:=List.nodup_append.1 a4;obtain ⟨n4,n5,n6⟩:=List.nodup_append.1 n2;refine List.nodup_append.2 ⟨n1,List.nodup_append.2 ⟨d.nd,n5,fun a ha b L e=> ?_⟩,fun a ha b L e=> ?_⟩
   ·subst e;rcases a3 a ha with q | q
    ·exact n6 a q a L rfl
    ·have:=u a (by simp [L]);omega
   ·subst e;rcases List.mem_append.1 L with L | L
    ·rcases d.sub a L with q | q
     ·exact hX a ha q
     ·have:a < R.heap.size:=by
       rcases List.mem_cons.1 ha with z | z
       ·rw [z];exact Y.lt
       ·rcases List.mem_append.1 z with z | z
        ·have:=u a (by simp [z]);omega
        ·rcases List.mem_append.1 z with z | z
         ·exact (World.ownsRow.lt J.k a (Af.1 z)).2
         ·have:=u a (by simp [z]);omega
      omega
    ·exact n3 a ha a (List.mem_append_right _ L) rfl
  have a6:Ap 0 M vp (n++x::l):=Bz c0 fun g i b1=> (j g (by omega) (hX g (by simp [Af.2 i]))).trans (s g (by simp [Af.2 i]))
  have a7:Au 0 M I (ml.filter fun c=> !atP (n++x::l) A.length c):=Bz (Fx J.k) fun g i b1=> j g b1 (hX g (by simp [Af.2 i]))
  have b7:Cc (Rep h M) n A C:=kA.keep fun g i=> (j g (by have:=u g (by simp [i]);omega) (hX g (by simp [i]))).trans (s g (by simp [i]))
  have b8:Cc (Rep h M) l B y:=kB.keep fun g i=> (j g (by have:=u g (by simp [i]);omega) (fun q=> b4 g q g i rfl)).trans (s g (by simp [i]))
  have kM:Cc (Rep h M) (x::l) ((f,V)::B) (F1++y):=⟨ex,F1,y,d.rep,b8,rfl⟩;have a8:Rep (h+1) M p (Tr.brT (A++(f,V)::B) (plainCh (ml.filter fun c=> !atP (n++x::l) A.length c))) (p::(blk vp++(blk I++(C++(F1++y))))):=
   ⟨vp,I,n++x::l,_,_,(j p Y.lt (hX p (by simp))).trans Y,a6,a7,rfl,kM.append b7,rfl⟩
  refine ⟨rfl,V,_,_,⟨a8,by simpa using a5,cA,rm,d.wf,d.small,cB,fun c hc=> ?_,?_⟩,Ao _,⟨⟨?_,?_,?_,?_,?_⟩,?_⟩,?_,fun k hk=> ?_⟩
  ·rw [a1] at hc;exact X c (List.mem_filter.1 hc).1
  ·rw [Ao];omega
  ·rw [c1];exact d.mod.os.trans F.os
  ·rw [c2];exact d.mod.tape.trans F.tape
  ·rw [c3];exact d.mod.output.trans F.output
  ·rw [h0];exact Nat.le_trans a2 d.mod.size
  ·intro k hk b0;rw [h0] at hk ⊢;refine (j k (by omega) (fun q=> b0 (by simp [q]))).trans (F.block k hk (fun q=> b0 (by simp [q])))
  ·rw [h0];intro g i;rcases List.mem_cons.1 i with z | z
   ·exact .inl (by simp [z])
   ·rcases List.mem_append.1 z with z | z
    ·exact .inl (by simp [z])
    ·rcases List.mem_append.1 z with z | z
     ·exact .inr (U g (Af.1 z))
     ·rcases List.mem_append.1 z with z | z
      ·exact .inl (by simp [z])
      ·rcases List.mem_append.1 z with z | z
       ·exact (a3 g z).imp (fun q=> by simp [q]) id
       ·exact .inl (by simp [z])
  ·rw [Ao];omega
  ·rw [a1];exact Tr.Amb (Bp cA) rm ⟨Z.1,Z.2.small⟩ ⟨d.wf,d.small⟩ (Bp cB) S hk
end Go.Proofs.YtolgpnaoaodepaaGreat
