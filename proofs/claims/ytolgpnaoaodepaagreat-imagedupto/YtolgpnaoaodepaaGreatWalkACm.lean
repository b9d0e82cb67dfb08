import Derived.Test.YtolgpnaoaodepaaGreatWalkZm
namespace Go.Proofs.YtolgpnaoaodepaaGreat
open Go.RowKit
theorem lists_getD (a:List ByteArray) (i:Nat) (h:i < a.length):(lists a).getD i []=(a[i]'h).data.toList:=by
 unfold lists;rw [List.getD_eq_getElem?_getD,List.getElem?_map,List.getElem?_eq_getElem h];rfl
theorem lists_len (a:List ByteArray):(lists a).length=a.length:=by simp [lists]
theorem plain_keys (l:List (ByteArray×ByteArray)) (i:Nat) (h:i < l.length):((plain l).map (·.1)).getD i []=(l[i]'h).1.data.toList:=by
 unfold plain;rw [List.map_map,List.getD_eq_getElem?_getD,List.getElem?_map,List.getElem?_eq_getElem h];rfl
theorem secR_end (o:Option (List UInt8)):(o=none∧secEnd o=gaveUp)∨∃c,o=some c∧secEnd o= .returned (.string ⟨c.toArray⟩):=by
 cases o with
 | none=> exact .inl ⟨rfl,rfl⟩
 | some c=> exact .inr ⟨c,rfl,rfl⟩
set_option maxHeartbeats 4000000 in
set_option maxRecDepth 20000 in
theorem basement_read (v:Value) (ss:List Nat) (a:List ByteArray) (i:Nat) (s:List UInt8) (w:World) (hv:IsLH w v ss a) (h4:a.length≤1000) (hi:i < a.length):
  Calls Tryz.prog 217 #[v,.int .i64 i,.string ⟨s.toArray⟩] w fun r w'=> ItemsQ w (Pr.basementR (lists a) i s) r w':=by
 obtain ⟨vs,vf,rfl,⟨sa,ca,rfl,-,-⟩,⟨fa,cf,rfl,-,a5⟩⟩:=hv
 obtain ⟨b,y,b5,a6,a7⟩:=a5.resolve_left (by omega)
 subst b5
 have HF:=hid a7
 have U:=hid ((Below.refl w.heap.size w).alloc (Nat.le_refl _) (.cells #[.slice sa ss.length ca,.slice (some ⟨b,y,none⟩) a.length cf] 233))
 have V:Hid ((w.alloc (.cells #[.slice sa ss.length ca,.slice (some ⟨b,y,none⟩) a.length cf] 233)).cell? ⟨w.heap.size,1,none⟩=some (.slice (some ⟨b,y,none⟩) a.length cf)):=by show _=_;simp
 have c2:w.heap.size < (w.alloc (.cells #[.slice sa ss.length ca,.slice (some ⟨b,y,none⟩) a.length cf] 233)).heap.size:=by simp
 clear a5 a7
 go_enter Tryz.func217,Tryz.ntmps217
 go_wp2_with fail
 generalize w.alloc (.cells #[.slice sa ss.length ca,.slice (some ⟨b,y,none⟩) a.length cf] 233)=w0 at*
 refine (readSection_any 98 s _).mono ?_
 rintro r w1 ⟨rfl,G⟩
 have D:=hid (U.out.trans (G.mono (by omega)))
 have L:=hid ((G.cell (p:=⟨w.heap.size,1,none⟩) (by show w.heap.size < _;omega)).trans V.out)
 have c3:=G.size
 clear G U V
 rcases secR_end (Pr.secR 98 s) with ⟨n,B⟩ | ⟨c,n,B⟩
 ·have W:Hid (Pr.basementR (lists a) i s=none):=by show _=_;unfold Pr.basementR;rw [n];rfl
  rw [B]
  clear n B
  unfold gaveUp
  go_wp2_with fail
  exact ⟨rfl,D.out,.inl ⟨W.out,rfl⟩⟩
 have W:Hid (Pr.basementR (lists a) i s=(Pr.basR c).bind fun l=> if Pr.basOk (lists a) i l=true then some l else none):=by show _=_;unfold Pr.basementR;rw [n];rfl
 have c4:=Pr.secR_len n
 rw [B]
 clear n B
 go_wp2_with fail
 refine (readItems_any c _ (by omega)).mono ?_
 rintro r w2 ⟨m,⟨hn,rfl⟩ | ⟨l,v2,a8,rfl,H,z,a9⟩⟩
 ·have q:Hid (Pr.basementR (lists a) i s=none):=by show _=_;rw [W.out,hn];rfl
  have k:=hid (D.out.trans (m.mono (by omega)))
  clear m hn
  unfold gaveUp
  go_wp2_with fail
  exact ⟨rfl,k.out,.inl ⟨q.out,rfl⟩⟩
 have q:Hid (Pr.basementR (lists a) i s=if Pr.basOk (lists a) i (plain l)=true then some (plain l) else none):=by show _=_;rw [W.out,a8];rfl
 have k:=hid (D.out.trans (m.mono (by omega)))
 have M:=hid ((m.cell (p:=⟨w.heap.size,1,none⟩) (by show w.heap.size < _;omega)).trans L.out)
 have b0:=hid H
 have X:=hid a9
 have c5:=m.size
 have Y:(plain l).length=l.length:=by simp [plain]
 have f:Hid (Pr.basOk (lists a) i (plain l)=(decide (1≤l.length)&&decide (l.length≤4)&&Pg.okFrom none (plain l)&&decide (((plain l).map (·.1)).getD 0 []=(lists a).getD i [])&&(!decide (i+1 < a.length) || decide (((plain l).map (·.1)).getD (l.length - 1) [] < (lists a).getD (i+1) [])))):=by
  show _=_;unfold Pr.basOk;rw [Y,lists_len]
 obtain ⟨la,lc,rfl⟩:=rowShape H
 clear m a8 a9 Y D L W
 have Z:Pr.basOk (lists a) i (plain l)=false→Pr.basementR (lists a) i s=none:=fun h=> by rw [q.out,h];rfl
 have t:=hid Z
 clear Z
 by_cases I:1≤l.length
 ·by_cases T:l.length≤4
  ·have hd:decide ((1:Int)≤(l.length:Int))=true:=by simp;omega
   have a0:decide ((l.length:Int)≤4)=true:=by simp;omega
   have b1:=hid (ownsI_items H)
   clear H
   go_wp2_with fail
   refine (unless_yes _).mono ?_
   rintro r w3 ⟨rfl,rfl⟩
   go_wp2_with fail
   refine (areItems_any _ l _ b1.out (by omega)).mono ?_
   rintro r w4 ⟨rfl,A⟩
   have u:=hid (k.out.trans (A.mono (by omega)))
   have x4:=(A.cell (p:=⟨w.heap.size,1,none⟩) (by show w.heap.size < _;omega)).trans M.out
   have N:Hid (OwnsI w1.heap.size w4 (.slice la l.length lc) l):=row_below b0.out A (Nat.le_refl _)
   have c6:=A.size
   clear A M k hd a0
   generalize b7:Pg.okFrom none (plain l)=ok at*
   cases ok
   ·have d:Hid (Pr.basementR (lists a) i s=none):=t.out (by rw [f.out];simp)
    go_wp2_with fail
    refine (unless_no _).mono ?_
    rintro r w5 ⟨rfl,rfl⟩
    unfold gaveUp
    go_wp2_with fail
    exact ⟨rfl,u.out,.inl ⟨d.out,rfl⟩⟩
   ·clear b7
    go_wp2_with fail
    refine (unless_yes _).mono ?_
    rintro r w5 ⟨rfl,rfl⟩
    obtain ⟨g,d9,b6,-,-,e0,S⟩:=N.out.isItems.resolve_left (by rintro ⟨_,_,_,rfl⟩;simp at I)
    injection b6 with e1 e2 e3
    subst e1 e3
    have k0:=(S 0 (by omega)).1
    have kl:=(S (l.length - 1) (by omega)).1
    have c0:=rowAt (pl:=a) HF.out u.out a6 i hi
    have O:=hid (plain_keys l 0 (by omega))
    have b2:=hid (plain_keys l (l.length - 1) (by omega))
    have R:=hid (lists_getD a i hi)
    clear S
    generalize (l[0]'(by omega)).1=kb at*
    generalize (l[l.length - 1]'(by omega)).1=J at*
    generalize a[i]'hi=fi at*
    simp only [Nat.zero_mul,Nat.add_zero,Nat.zero_add] at k0 kl
    have c7:0 < l.length:=by omega
    have c8:(0:Int) < (l.length:Int):=by omega
    have c9:(i:Int) < (a.length:Int):=by omega
    have d0:(0:Int)≤(i:Int):=by omega
    by_cases j:kb.data.toList=fi.data.toList
    ·have b3:kb=fi:=bytes_ext j
     have d1:=hid j
     subst b3
     clear j
     go_wp2_with fail
     go_quiet (exact quiet_of (unless_yes _))
     have x6:(w5.drewN nq).cell? ⟨w.heap.size,1,none⟩=_:=x4
     have d2:(w5.drewN nq).cell? ⟨g,(l.length - 1)*2,none⟩=_:=kl
     have F:=hid (below_drewN u.out nq)
     have a1:Hid (OwnsI w1.heap.size (w5.drewN nq) (.slice (some ⟨g,0,none⟩) l.length lc) l):=N.out
     generalize w5.drewN nq=w6 at*
     clear x4 kl k0 c0 u N
     by_cases C:i+1 < a.length
     ·have c1:=rowAt (pl:=a) HF.out F.out a6 (i+1) C
      have a2:=hid (lists_getD a (i+1) C)
      generalize a[i+1]'C=fn at*
      have b4:(i:Int)+1 < (a.length:Int):=by omega
      have d3:IntKind.i64.wrap ((l.length:Int) - 1)=((l.length - 1:Nat):Int):=by rw [IntWalk.i64_in _ ⟨by omega,by omega⟩];omega
      have d4:IntKind.i64.wrap ((i:Int)+1)=((i+1:Nat):Int):=by rw [IntWalk.i64_in _ ⟨by omega,by omega⟩];omega
      have d5:((l.length - 1:Nat):Int) < (l.length:Int):=by omega
      have d6:((i+1:Nat):Int) < (a.length:Int):=by omega
      have d7:(0:Int)≤(i:Int)+1:=by omega
      have a3:Hid (((plain l).map (·.1)).getD (l.length - 1) []=J.data.toList):=b2.out
      generalize b8:l.length - 1=jl at*
      clear b8
      by_cases o:J.data.toList < fn.data.toList
      ·have d:Hid (Pr.basementR (lists a) i s=some (plain l)):=by
        show _=_
        rw [q.out,f.out,O.out,R.out,a3.out,a2.out,decide_eq_true I,decide_eq_true T,decide_eq_true o]
        simp
       have a4:Op.bytesLess J.toList fn.toList=true:=by rw [toList_is,toList_is,less_is];exact decide_eq_true o
       clear o
       go_wp2_with fail
       go_quiet (exact quiet_of (unless_yes _))
       go_wp2_with fail
       go_ret
       exact ⟨below_drewN F.out _,.inr ⟨l,_,d.out,rfl,ownsI_shrink a1.out (by omega),z,X.out⟩⟩
      ·have d:Hid (Pr.basementR (lists a) i s=none):=t.out (by rw [f.out,a3.out,a2.out,decide_eq_true C,decide_eq_false o];simp)
       have a4:Op.bytesLess J.toList fn.toList=false:=by rw [toList_is,toList_is,less_is];exact decide_eq_false o
       clear o
       go_wp2_with fail
       go_region_dies
       all_goals
        refine (unless_no _).mono ?_
        rintro r w7 ⟨rfl,rfl⟩
        unfold gaveUp
        go_wp2_with fail
        exact ⟨rfl,F.out.drew,.inl ⟨d.out,rfl⟩⟩
     ·have d:Hid (Pr.basementR (lists a) i s=some (plain l)):=by
       show _=_
       rw [q.out,f.out,O.out,R.out,decide_eq_true I,decide_eq_true T,decide_eq_false C]
       simp
      have b4:¬(i:Int)+1 < (a.length:Int):=by omega
      go_wp2_with fail
      go_ret
      exact ⟨F.out,.inr ⟨l,_,d.out,rfl,ownsI_shrink a1.out (by omega),z,X.out⟩⟩
    ·have d:Hid (Pr.basementR (lists a) i s=none):=t.out (by rw [f.out,O.out,R.out,decide_eq_false j];simp)
     have d8:(kb.toList==fi.toList)=false:=by rw [toList_is,toList_is];simpa using j
     have b9:¬kb=fi:=fun e=> j (by rw [e])
     clear j
     go_wp2_with fail
     go_region_dies
     all_goals
      refine (unless_no _).mono ?_
      rintro r w6 ⟨rfl,rfl⟩
      unfold gaveUp
      go_wp2_with fail
      exact ⟨rfl,u.out.drew,.inl ⟨d.out,rfl⟩⟩
  ·have d:Hid (Pr.basementR (lists a) i s=none):=t.out (by rw [f.out,decide_eq_false T];simp)
   have hd:decide ((1:Int)≤(l.length:Int))=true:=by simp;omega
   have a0:decide ((l.length:Int)≤4)=false:=by simp;omega
   go_wp2_with fail
   refine (unless_no _).mono ?_
   rintro r w3 ⟨rfl,rfl⟩
   unfold gaveUp
   go_wp2_with fail
   exact ⟨rfl,k.out,.inl ⟨d.out,rfl⟩⟩
 ·have d:Hid (Pr.basementR (lists a) i s=none):=t.out (by rw [f.out,decide_eq_false I];simp)
  have hd:decide ((1:Int)≤(l.length:Int))=false:=by simp;omega
  go_wp2_with fail
  refine (unless_no _).mono ?_
  rintro r w3 ⟨rfl,rfl⟩
  unfold gaveUp
  go_wp2_with fail
  exact ⟨rfl,k.out,.inl ⟨d.out,rfl⟩⟩
end Go.Proofs.YtolgpnaoaodepaaGreat
namespace Go.Proofs.YtolgpnaoaodepaaGreat
open Go.RowKit
theorem itemsQ_no {w:World} {o:Option (List (List UInt8×List UInt8))} {r:Ending} {w':World} (h:ItemsQ w o r w') (c:o=none):r=gaveUp∧Below w.heap.size w w':=by
 obtain ⟨b,⟨_,a⟩ | ⟨l,v,a,_⟩⟩:=h
 ·exact ⟨a,b⟩
 ·rw [c] at a;simp at a
def ItemsY (w:World) (p:List (List UInt8×List UInt8)) (r:Ending) (w':World):Prop:=∃l v,p=plain l∧r= .returned v∧OwnsI w.heap.size w' v l∧l.length≤255∧(∀x∈l,x.1.size≤10000000∧x.2.size≤10000000)∧Below w.heap.size w w'
theorem itemsQ_yes {w:World} {o:Option (List (List UInt8×List UInt8))} {r:Ending} {w':World} {p:List (List UInt8×List UInt8)} (h:ItemsQ w o r w') (b:o=some p):ItemsY w p r w':=by
 obtain ⟨c,⟨a,_⟩ | ⟨l,v,a,d,f,g,i⟩⟩:=h
 ·rw [b] at a;simp at a
 ·rw [b] at a;simp only [Option.some.injEq] at a
  exact ⟨l,v,a,d,f,g,i,c⟩
theorem IsLH.below {w w':World} {v:Value} {a:List Nat} {b:List ByteArray} (h:IsLH w v a b) (c:Below w.heap.size w w'):IsLH w' v a b:=by
 obtain ⟨vs,d,e,f,g⟩:=h
 exact ⟨vs,d,e,f.below c,g.below c⟩
theorem mk_data (s:ByteArray):(⟨s.data.toList.toArray⟩:ByteArray)=s:=bytes_ext (by simp)
theorem bas_no (v:Value) (b:List Nat) (a:List ByteArray) (i:Nat) (s:ByteArray) (w:World) (c:IsLH w v b a) (d:a.length≤1000) (hi:i < a.length) (h:Pr.basementR (lists a) i s.data.toList=none):
  Calls Tryz.prog 217 #[v,.int .i64 i,.string s] w fun r w'=> r=gaveUp∧Below w.heap.size w w':=by
 have:=basement_read v b a i s.data.toList w c d hi
 rw [mk_data] at this
 exact this.mono fun _ _ q=> itemsQ_no q h
theorem bas_yes (v:Value) (b:List Nat) (a:List ByteArray) (i:Nat) (s:ByteArray) (w:World) (c:IsLH w v b a) (d:a.length≤1000) (hi:i < a.length) {p:List (List UInt8×List UInt8)} (h:Pr.basementR (lists a) i s.data.toList=some p):
  Calls Tryz.prog 217 #[v,.int .i64 i,.string s] w fun r w'=> ItemsY w p r w':=by
 have:=basement_read v b a i s.data.toList w c d hi
 rw [mk_data] at this
 exact this.mono fun _ _ q=> itemsQ_yes q h
theorem below_drew {B:Nat} {w w':World} (h:Below B w.drew w'):Below B w w':=⟨h.os,h.tape,h.output,h.size,h.block⟩
end Go.Proofs.YtolgpnaoaodepaaGreat
namespace Go.Proofs.YtolgpnaoaodepaaGreat
open Go.RowKit
end Go.Proofs.YtolgpnaoaodepaaGreat
namespace Go.Proofs.YtolgpnaoaodepaaGreat.Pr
open Pg
def changesR:Nat→List UInt8→Option (List (Int×List UInt8×List UInt8)×List UInt8)
 | 0,t=> some ([],t)
 | n+1,t=> (byteR t).bind fun b=> (textR b.2).bind fun k=> if b.1.toNat=2 then (changesR n k.2).map fun r=> (((2:Int),k.1,[])::r.1,r.2) else (textR k.2).bind fun v=> (changesR n v.2).map fun r=> (((b.1.toNat:Int),k.1,v.1)::r.1,r.2)
def chgsR (t:List UInt8):Option (List (Int×List UInt8×List UInt8)×List UInt8):=(byteR t).bind fun b=> changesR b.1.toNat b.2
def pivotsR:Nat→List UInt8→Option (List (List UInt8)×List UInt8)
 | 0,t=> some ([],t)
 | n+1,t=> (textR t).bind fun x=> (pivotsR n x.2).map fun r=> (x.1::r.1,r.2)
def numsR:Nat→List UInt8→Option (List Nat×List UInt8)
 | 0,t=> some ([],t)
 | n+1,t=> (numberR t).bind fun x=> (numsR n x.2).map fun r=> (x.1::r.1,r.2)
def childrenR (c:List UInt8) (n:Nat):Option (List Nat×List (List UInt8)):=(numsR n c).bind fun x=> (pivotsR (n - 1) x.2).bind fun p=> if p.2=[] then some (x.1,p.1) else none
theorem changesR_is:∀(l:List (Int×List UInt8×List UInt8)) (t:List UInt8),(∀c∈l,(c.1=1∨c.1=3∨(c.1=2∧c.2.2=[]))∧c.2.1.length≤12∧c.2.2.length≤16)→changesR l.length (l.flatMap change1++t)=some (l,t)
 | [],t,_=> rfl
 | (k,a,v)::r,t,h=> by
  have d:=h (k,a,v) (by simp)
  simp only at d
  rw [List.length_cons,changesR,List.flatMap_cons]
  obtain ⟨n,m,o⟩:∃n:Nat,k=(n:Int)∧n≤3:=⟨k.toNat,by omega,by omega⟩
  subst m
  have e:change1 ((n:Int),a,v)++r.flatMap change1++t=UInt8.ofNat (n % 256)::(text a++((if (n:Int)=2 then [] else text v)++(r.flatMap change1++t))):=by
   unfold change1;simp [low]
  have i:(UInt8.ofNat (n % 256)).toNat=n:=by rw [UInt8.toNat_ofNat'];omega
  rw [e]
  simp only [byteR,Option.bind_some,i]
  rw [textR_text _ _ (by omega)]
  simp only [Option.bind_some]
  have f:=changesR_is r t (fun c b=> h c (by simp [b]))
  by_cases g:n=2
  ·subst g
   have j:v=[]:=by
    rcases d.1 with h | h | h
    ·omega
    ·omega
    ·exact h.2
   subst j
   rw [if_pos rfl]
   simp only [if_true,show ((2:Nat):Int)=2 from rfl,List.nil_append]
   rw [f];rfl
  ·rw [if_neg g,if_neg (by omega),textR_text _ _ (by omega)]
   simp only [Option.bind_some]
   rw [f];rfl
theorem chgsR_changes (l:List (Int×List UInt8×List UInt8)) (t:List UInt8) (b:l.length≤255) (h:∀c∈l,(c.1=1∨c.1=3∨(c.1=2∧c.2.2=[]))∧c.2.1.length≤12∧c.2.2.length≤16):chgsR (changes l++t)=some (l,t):=by
 have e:changes l++t=UInt8.ofNat (l.length % 256)::(l.flatMap change1++t):=by unfold changes;simp [low]
 have a:(UInt8.ofNat (l.length % 256)).toNat=l.length:=by rw [UInt8.toNat_ofNat'];omega
 unfold chgsR
 rw [e]
 simp only [byteR,Option.bind_some,a]
 exact changesR_is l t h
theorem pivotsR_is:∀(l:List (List UInt8)) (t:List UInt8),(∀p∈l,p.length≤12)→pivotsR l.length (l.flatMap text++t)=some (l,t)
 | [],t,_=> rfl
 | p::r,t,h=> by
  rw [List.length_cons,pivotsR,List.flatMap_cons,List.append_assoc,textR_text _ _ (by have:=h p (by simp);omega)]
  simp only [Option.bind_some]
  rw [pivotsR_is r t (fun x a=> h x (by simp [a]))];rfl
theorem numsR_is:∀(l:List Nat) (t:List UInt8),(∀c∈l,c≤2147483647)→numsR l.length (l.flatMap num++t)=some (l,t)
 | [],t,_=> rfl
 | c::r,t,h=> by
  rw [List.length_cons,numsR,List.flatMap_cons,List.append_assoc,numberR_num _ _ (h c (by simp))]
  simp only [Option.bind_some]
  rw [numsR_is r t (fun x a=> h x (by simp [a]))];rfl
theorem childrenR_is (cl:List Nat) (pl:List (List UInt8)) (a:∀c∈cl,c≤2147483647) (b:∀p∈pl,p.length≤12) (d:pl.length+1=cl.length):childrenR (pivotsC cl pl) cl.length=some (cl,pl):=by
 unfold childrenR pivotsC
 rw [numsR_is cl _ a]
 simp only [Option.bind_some]
 have:=pivotsR_is pl [] b
 rw [List.append_nil] at this
 rw [show cl.length - 1=pl.length by omega,this]
 simp
def branchR (page:List UInt8):Option (List Nat×List (List UInt8)×List (Int×List UInt8×List UInt8)):=
 (takeR 3 page).bind fun a=> (byteR a.2).bind fun c=> (shortR c.2).bind fun p=> (shortR p.2).bind fun m=> (cutR page [p.1,m.1]).bind fun ss=> (secR 112 (ss.getD 0 [])).bind fun pc=> (childrenR pc c.1.toNat).bind fun cp=> (secR 109 (ss.getD 1 [])).bind fun mc=> (chgsR mc).bind fun ms=> if ms.2=[] then some (cp.1,cp.2,ms.1) else none
end Go.Proofs.YtolgpnaoaodepaaGreat.Pr
