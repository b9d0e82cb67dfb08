import Derived.Test.YtolgpnaoaodepaaGreatWalkZm
namespace Go.Proofs.YtolgpnaoaodepaaGreat
open Go.RowKit
theorem Zb (a:List ByteArray) (i:Nat) (h:i < a.length):(lists a).getD i []=(a[i]'h).data.toList:=by
 unfold lists;rw [List.getD_eq_getElem?_getD,List.getElem?_map,List.getElem?_eq_getElem h];rfl
theorem Akk (a:List ByteArray):(lists a).length=a.length:=by simp [lists]
theorem Zc (l:List (ByteArray×ByteArray)) (i:Nat) (h:i < l.length):((plain l).map (·.1)).getD i []=(l[i]'h).1.data.toList:=by
 unfold plain;rw [List.map_map,List.getD_eq_getElem?_getD,List.getElem?_map,List.getElem?_eq_getElem h];rfl
theorem Zd (o:Option (List UInt8)):(o=none/\Mb o=Ae)\/∃c,o=some c/\Mb o= .returned (.string ⟨c.toArray⟩):=by
 cases o with
 | none=> exact .inl ⟨rfl,rfl⟩
 | some c=> exact .inr ⟨c,rfl,rfl⟩
set_option maxHeartbeats 4000000 in
set_option maxRecDepth 20000 in
theorem Pl (v:Value) (ss:List Nat) (a:List ByteArray) (i:Nat) (s:List UInt8) (w:World) (hv:Aa7 w v ss a) (h4:a.length<=1000) (hi:i < a.length):
  Calls Tryz.prog 217 #[v,.int .i64 i,.string ⟨s.toArray⟩] w fun r w'=> Ad8 w (Pr.Bo (lists a) i s) r w':=by
 obtain ⟨vs,vf,rfl,⟨sa,ca,rfl,-,-⟩,⟨fa,cf,rfl,-,a5⟩⟩:=hv;obtain ⟨b,y,b5,a6,a7⟩:=a5.resolve_left (by omega);subst b5;have HF:=hid a7;have U:=hid ((Below.refl w.heap.size w).alloc (Nat.le_refl _) (.cells #[.slice sa ss.length ca,.slice (some ⟨b,y,none⟩) a.length cf] 233));have V:Hid ((w.alloc (.cells #[.slice sa ss.length ca,.slice (some ⟨b,y,none⟩) a.length cf] 233)).cell? ⟨w.heap.size,1,none⟩=some (.slice (some ⟨b,y,none⟩) a.length cf)):=by show _=_;simp
 have c2:w.heap.size < (w.alloc (.cells #[.slice sa ss.length ca,.slice (some ⟨b,y,none⟩) a.length cf] 233)).heap.size:=by simp
 clear a5 a7;go_enter Tryz.func217,Tryz.ntmps217;go_wp2_with fail;generalize w.alloc (.cells #[.slice sa ss.length ca,.slice (some ⟨b,y,none⟩) a.length cf] 233)=w0 at*;refine (Mm 98 s _).mono ?_;rintro r w1 ⟨rfl,G⟩;have D:=hid (U.out.trans (G.mono (by omega)));have L:=hid ((G.cell (p:=⟨w.heap.size,1,none⟩) (by show w.heap.size < _;omega)).trans V.out);have c3:=G.size;clear G U V;rcases Zd (Pr.Kf 98 s) with ⟨n,B⟩ | ⟨c,n,B⟩
 ·have W:Hid (Pr.Bo (lists a) i s=none):=by show _=_;unfold Pr.Bo;rw [n];rfl
  rw [B];clear n B;unfold Ae;go_wp2_with fail;exact ⟨rfl,D.out,.inl ⟨W.out,rfl⟩⟩
 have W:Hid (Pr.Bo (lists a) i s=(Pr.Px c).bind fun l=> if Pr.Vf (lists a) i l=true then some l else none):=by show _=_;unfold Pr.Bo;rw [n];rfl
 have c4:=Pr.Za n;rw [B];clear n B;go_wp2_with fail;refine (Aai c _ (by omega)).mono ?_;rintro r w2 ⟨m,⟨hn,rfl⟩ | ⟨l,v2,a8,rfl,H,z,a9⟩⟩
 ·have q:Hid (Pr.Bo (lists a) i s=none):=by show _=_;rw [W.out,hn];rfl
  have k:=hid (D.out.trans (m.mono (by omega)));clear m hn;unfold Ae;go_wp2_with fail;exact ⟨rfl,k.out,.inl ⟨q.out,rfl⟩⟩
 have q:Hid (Pr.Bo (lists a) i s=if Pr.Vf (lists a) i (plain l)=true then some (plain l) else none):=by show _=_;rw [W.out,a8];rfl
 have k:=hid (D.out.trans (m.mono (by omega)));have M:=hid ((m.cell (p:=⟨w.heap.size,1,none⟩) (by show w.heap.size < _;omega)).trans L.out);have b0:=hid H;have X:=hid a9;have c5:=m.size;have Y:(plain l).length=l.length:=by simp [plain]
 have f:Hid (Pr.Vf (lists a) i (plain l)=(decide (1<=l.length)&&decide (l.length<=4)&&Pg.Dl none (plain l)&&decide (((plain l).map (·.1)).getD 0 []=(lists a).getD i [])&&(!decide (i+1 < a.length) || decide (((plain l).map (·.1)).getD (l.length - 1) [] < (lists a).getD (i+1) [])))):=by
  show _=_;unfold Pr.Vf;rw [Y,Akk]
 obtain ⟨la,lc,rfl⟩:=Ab H;clear m a8 a9 Y D L W;have Z:Pr.Vf (lists a) i (plain l)=false->Pr.Bo (lists a) i s=none:=fun h=> by rw [q.out,h];rfl
 have t:=hid Z;clear Z;by_cases I:1<=l.length
 ·by_cases T:l.length<=4
  ·have hd:decide ((1:Int)<=(l.length:Int))=true:=(by simp;omega);have a0:decide ((l.length:Int)<=4)=true:=(by simp;omega);have b1:=hid (Io H);clear H;go_wp2_with fail;refine (Aw _).mono ?_;rintro r w3 ⟨rfl,rfl⟩;go_wp2_with fail;refine (Rm _ l _ b1.out (by omega)).mono ?_;rintro r w4 ⟨rfl,A⟩;have u:=hid (k.out.trans (A.mono (by omega)));have x4:=(A.cell (p:=⟨w.heap.size,1,none⟩) (by show w.heap.size < _;omega)).trans M.out;have N:Hid (Ak w1.heap.size w4 (.slice la l.length lc) l):=Aa b0.out A (Nat.le_refl _);have c6:=A.size;clear A M k hd a0;generalize b7:Pg.Dl none (plain l)=ok at*
   cases ok
   ·have d:Hid (Pr.Bo (lists a) i s=none):=t.out (by rw [f.out];simp);go_wp2_with fail;refine (Ay _).mono ?_;rintro r w5 ⟨rfl,rfl⟩;unfold Ae;go_wp2_with fail;exact ⟨rfl,u.out,.inl ⟨d.out,rfl⟩⟩
   ·clear b7;go_wp2_with fail;refine (Aw _).mono ?_;rintro r w5 ⟨rfl,rfl⟩;obtain ⟨g,d9,b6,-,-,e0,S⟩:=N.out.isItems.resolve_left (by rintro ⟨_,_,_,rfl⟩;simp at I);injection b6 with e1 e2 e3;subst e1 e3;have k0:=(S 0 (by omega)).1;have kl:=(S (l.length - 1) (by omega)).1;have c0:=Ab0 (pl:=a) HF.out u.out a6 i hi;have O:=hid (Zc l 0 (by omega));have b2:=hid (Zc l (l.length - 1) (by omega));have R:=hid (Zb a i hi);clear S;generalize (l[0]'(by omega)).1=kb at*;generalize (l[l.length - 1]'(by omega)).1=J at*;generalize a[i]'hi=fi at*;simp only [Nat.zero_mul,Nat.add_zero,Nat.zero_add] at k0 kl;have c7:0 < l.length:=(by omega);have c8:(0:Int) < (l.length:Int):=(by omega);have c9:(i:Int) < (a.length:Int):=(by omega);have d0:(0:Int)<=(i:Int):=(by omega);by_cases j:kb.data.toList=fi.data.toList
    ·have b3:kb=fi:=Gf j;have d1:=hid j;subst b3;clear j;go_wp2_with fail;go_quiet (exact Fe (Aw _));have x6:(w5.drewN nq).cell? ⟨w.heap.size,1,none⟩=_:=x4;have d2:(w5.drewN nq).cell? ⟨g,(l.length - 1)*2,none⟩=_:=kl;have F:=hid (Am u.out nq);have a1:Hid (Ak w1.heap.size (w5.drewN nq) (.slice (some ⟨g,0,none⟩) l.length lc) l):=N.out;generalize w5.drewN nq=w6 at*;clear x4 kl k0 c0 u N;by_cases C:i+1 < a.length
     ·have c1:=Ab0 (pl:=a) HF.out F.out a6 (i+1) C;have a2:=hid (Zb a (i+1) C);generalize a[i+1]'C=fn at*;have b4:(i:Int)+1 < (a.length:Int):=(by omega);have d3:IntKind.i64.wrap ((l.length:Int) - 1)=((l.length - 1:Nat):Int):=(by rw [IntWalk.i64_in _ ⟨by omega,by omega⟩];omega);have d4:IntKind.i64.wrap ((i:Int)+1)=((i+1:Nat):Int):=(by rw [IntWalk.i64_in _ ⟨by omega,by omega⟩];omega);have d5:((l.length - 1:Nat):Int) < (l.length:Int):=(by omega);have d6:((i+1:Nat):Int) < (a.length:Int):=(by omega);have d7:(0:Int)<=(i:Int)+1:=(by omega);have a3:Hid (((plain l).map (·.1)).getD (l.length - 1) []=J.data.toList):=b2.out;generalize b8:l.length - 1=jl at*;clear b8;by_cases o:J.data.toList < fn.data.toList
      ·have d:Hid (Pr.Bo (lists a) i s=some (plain l)):=by
        show _=_;rw [q.out,f.out,O.out,R.out,a3.out,a2.out,decide_eq_true I,decide_eq_true T,decide_eq_true o];simp
       have a4:Op.bytesLess J.toList fn.toList=true:=(by rw [Ah,Ah,Db];exact decide_eq_true o);clear o;go_wp2_with fail;go_quiet (exact Fe (Aw _));go_wp2_with fail;go_ret;exact ⟨Am F.out _,.inr ⟨l,_,d.out,rfl,Mc a1.out (by omega),z,X.out⟩⟩
      ·have d:Hid (Pr.Bo (lists a) i s=none):=t.out (by rw [f.out,a3.out,a2.out,decide_eq_true C,decide_eq_false o];simp);have a4:Op.bytesLess J.toList fn.toList=false:=(by rw [Ah,Ah,Db];exact decide_eq_false o);clear o;go_wp2_with fail
       go_region_dies
       all_goals
        refine (Ay _).mono ?_;rintro r w7 ⟨rfl,rfl⟩;unfold Ae;go_wp2_with fail;exact ⟨rfl,F.out.drew,.inl ⟨d.out,rfl⟩⟩
     ·have d:Hid (Pr.Bo (lists a) i s=some (plain l)):=by
       show _=_;rw [q.out,f.out,O.out,R.out,decide_eq_true I,decide_eq_true T,decide_eq_false C];simp
      have b4:¬(i:Int)+1 < (a.length:Int):=(by omega);go_wp2_with fail;go_ret;exact ⟨F.out,.inr ⟨l,_,d.out,rfl,Mc a1.out (by omega),z,X.out⟩⟩
    ·have d:Hid (Pr.Bo (lists a) i s=none):=t.out (by rw [f.out,O.out,R.out,decide_eq_false j];simp);have d8:(kb.toList==fi.toList)=false:=(by rw [Ah,Ah];simpa using j);have b9:¬kb=fi:=fun e=> j (by rw [e])
     clear j;go_wp2_with fail
     go_region_dies
     all_goals
      refine (Ay _).mono ?_;rintro r w6 ⟨rfl,rfl⟩;unfold Ae;go_wp2_with fail;exact ⟨rfl,u.out.drew,.inl ⟨d.out,rfl⟩⟩
  ·have d:Hid (Pr.Bo (lists a) i s=none):=t.out (by rw [f.out,decide_eq_false T];simp);have hd:decide ((1:Int)<=(l.length:Int))=true:=(by simp;omega);have a0:decide ((l.length:Int)<=4)=false:=(by simp;omega);go_wp2_with fail;refine (Ay _).mono ?_;rintro r w3 ⟨rfl,rfl⟩;unfold Ae;go_wp2_with fail;exact ⟨rfl,k.out,.inl ⟨d.out,rfl⟩⟩
 ·have d:Hid (Pr.Bo (lists a) i s=none):=t.out (by rw [f.out,decide_eq_false I];simp);have hd:decide ((1:Int)<=(l.length:Int))=false:=by simp;omega
  go_wp2_with fail;refine (Ay _).mono ?_;rintro r w3 ⟨rfl,rfl⟩;unfold Ae;go_wp2_with fail;exact ⟨rfl,k.out,.inl ⟨d.out,rfl⟩⟩
theorem Akl {w:World} {o:Option (List (List UInt8×List UInt8))} {r:Ending} {w':World} (h:Ad8 w o r w') (c:o=none):r=Ae/\Below w.heap.size w w':=by
 obtain ⟨b,⟨_,a⟩ | ⟨l,v,a,_⟩⟩:=h
 ·exact ⟨a,b⟩
 ·rw [c] at a;simp at a
def Ang (w:World) (p:List (List UInt8×List UInt8)) (r:Ending) (w':World):Prop:=∃l v,p=plain l/\r= .returned v/\Ak w.heap.size w' v l/\l.length<=255/\(∀x∈l,x.1.size<=10000000/\x.2.size<=10000000)/\Below w.heap.size w w'
theorem Ahp {w:World} {o:Option (List (List UInt8×List UInt8))} {r:Ending} {w':World} {p:List (List UInt8×List UInt8)} (h:Ad8 w o r w') (b:o=some p):Ang w p r w':=by
 obtain ⟨c,⟨a,_⟩ | ⟨l,v,a,d,f,g,i⟩⟩:=h
 ·rw [b] at a;simp at a
 ·rw [b] at a;simp only [Option.some.injEq] at a;exact ⟨l,v,a,d,f,g,i,c⟩
theorem Aa7.below {w w':World} {v:Value} {a:List Nat} {b:List ByteArray} (h:Aa7 w v a b) (c:Below w.heap.size w w'):Aa7 w' v a b:=by
 obtain ⟨vs,d,e,f,g⟩:=h;exact ⟨vs,d,e,f.below c,g.below c⟩
theorem Md (s:ByteArray):(⟨s.data.toList.toArray⟩:ByteArray)=s:=Gf (by simp)
theorem Aqe (v:Value) (b:List Nat) (a:List ByteArray) (i:Nat) (s:ByteArray) (w:World) (c:Aa7 w v b a) (d:a.length<=1000) (hi:i < a.length) (h:Pr.Bo (lists a) i s.data.toList=none):
  Calls Tryz.prog 217 #[v,.int .i64 i,.string s] w fun r w'=> r=Ae/\Below w.heap.size w w':=by
 have:=Pl v b a i s.data.toList w c d hi;rw [Md] at this;exact this.mono fun _ _ q=> Akl q h
theorem Apc (v:Value) (b:List Nat) (a:List ByteArray) (i:Nat) (s:ByteArray) (w:World) (c:Aa7 w v b a) (d:a.length<=1000) (hi:i < a.length) {p:List (List UInt8×List UInt8)} (h:Pr.Bo (lists a) i s.data.toList=some p):
  Calls Tryz.prog 217 #[v,.int .i64 i,.string s] w fun r w'=> Ang w p r w':=by
 have:=Pl v b a i s.data.toList w c d hi;rw [Md] at this;exact this.mono fun _ _ q=> Ahp q h
theorem Ze {B:Nat} {w w':World} (h:Below B w.drew w'):Below B w w':=⟨h.os,h.tape,h.output,h.size,h.block⟩
end Go.Proofs.YtolgpnaoaodepaaGreat
namespace Go.Proofs.YtolgpnaoaodepaaGreat.Pr
open Pg
def Cd:Nat->List UInt8->Option (List (Int×List UInt8×List UInt8)×List UInt8)
 | 0,t=> some ([],t)
 | n+1,t=> (Dw t).bind fun b=> (Ee b.2).bind fun k=> if b.1.toNat=2 then (Cd n k.2).map fun r=> (((2:Int),k.1,[])::r.1,r.2) else (Ee k.2).bind fun v=> (Cd n v.2).map fun r=> (((b.1.toNat:Int),k.1,v.1)::r.1,r.2)
def Mn (t:List UInt8):Option (List (Int×List UInt8×List UInt8)×List UInt8):=(Dw t).bind fun b=> Cd b.1.toNat b.2
def Fa:Nat->List UInt8->Option (List (List UInt8)×List UInt8)
 | 0,t=> some ([],t)
 | n+1,t=> (Ee t).bind fun x=> (Fa n x.2).map fun r=> (x.1::r.1,r.2)
def Mo:Nat->List UInt8->Option (List Nat×List UInt8)
 | 0,t=> some ([],t)
 | n+1,t=> (Cq t).bind fun x=> (Mo n x.2).map fun r=> (x.1::r.1,r.2)
def Fl (c:List UInt8) (n:Nat):Option (List Nat×List (List UInt8)):=(Mo n c).bind fun x=> (Fa (n - 1) x.2).bind fun p=> if p.2=[] then some (x.1,p.1) else none
theorem Vg:∀(l:List (Int×List UInt8×List UInt8)) (t:List UInt8),(∀c∈l,(c.1=1\/c.1=3\/(c.1=2/\c.2.2=[]))/\c.2.1.length<=12/\c.2.2.length<=16)->Cd l.length (l.flatMap Dt++t)=some (l,t)
 | [],t,_=> rfl
 | (k,a,v)::r,t,h=> by
  have d:=h (k,a,v) (by simp);simp only at d;rw [List.length_cons,Cd,List.flatMap_cons];obtain ⟨n,m,o⟩:∃n:Nat,k=(n:Int)/\n<=3:=⟨k.toNat,by omega,by omega⟩;subst m;have e:Dt ((n:Int),a,v)++r.flatMap Dt++t=UInt8.ofNat (n % 256)::(Ef a++((if (n:Int)=2 then [] else Ef v)++(r.flatMap Dt++t))):=by
   unfold Dt;simp [low]
  have i:(UInt8.ofNat (n % 256)).toNat=n:=by rw [UInt8.toNat_ofNat'];omega
  rw [e];simp only [Dw,Option.bind_some,i];rw [Jo _ _ (by omega)];simp only [Option.bind_some];have f:=Vg r t (fun c b=> h c (by simp [b]));by_cases g:n=2
  ·subst g;have j:v=[]:=by
    rcases d.1 with h | h | h
    ·omega
    ·omega
    ·exact h.2
   subst j;rw [if_pos rfl];simp only [if_true,show ((2:Nat):Int)=2 from rfl,List.nil_append];rw [f];rfl
  ·rw [if_neg g,if_neg (by omega),Jo _ _ (by omega)];simp only [Option.bind_some];rw [f];rfl
theorem Aaj (l:List (Int×List UInt8×List UInt8)) (t:List UInt8) (b:l.length<=255) (h:∀c∈l,(c.1=1\/c.1=3\/(c.1=2/\c.2.2=[]))/\c.2.1.length<=12/\c.2.2.length<=16):Mn (Df l++t)=some (l,t):=by
 have e:Df l++t=UInt8.ofNat (l.length % 256)::(l.flatMap Dt++t):=by unfold Df;simp [low]
 have a:(UInt8.ofNat (l.length % 256)).toNat=l.length:=by rw [UInt8.toNat_ofNat'];omega
 unfold Mn;rw [e];simp only [Dw,Option.bind_some,a];exact Vg l t h
theorem Zf:∀(l:List (List UInt8)) (t:List UInt8),(∀p∈l,p.length<=12)->Fa l.length (l.flatMap Ef++t)=some (l,t)
 | [],t,_=> rfl
 | p::r,t,h=> by
  rw [List.length_cons,Fa,List.flatMap_cons,List.append_assoc,Jo _ _ (by have:=h p (by simp);omega)];simp only [Option.bind_some];rw [Zf r t (fun x a=> h x (by simp [a]))];rfl
theorem Afg:∀(l:List Nat) (t:List UInt8),(∀c∈l,c<=2147483647)->Mo l.length (l.flatMap num++t)=some (l,t)
 | [],t,_=> rfl
 | c::r,t,h=> by
  rw [List.length_cons,Mo,List.flatMap_cons,List.append_assoc,Kl _ _ (h c (by simp))];simp only [Option.bind_some];rw [Afg r t (fun x a=> h x (by simp [a]))];rfl
theorem Ada (cl:List Nat) (pl:List (List UInt8)) (a:∀c∈cl,c<=2147483647) (b:∀p∈pl,p.length<=12) (d:pl.length+1=cl.length):Fl (Ev cl pl) cl.length=some (cl,pl):=by
 unfold Fl Ev;rw [Afg cl _ a];simp only [Option.bind_some];have:=Zf pl [] b;rw [List.append_nil] at this;rw [show cl.length - 1=pl.length by omega,this];simp
def Cl (page:List UInt8):Option (List Nat×List (List UInt8)×List (Int×List UInt8×List UInt8)):=
 (Da 3 page).bind fun a=> (Dw a.2).bind fun c=> (Gk c.2).bind fun p=> (Gk p.2).bind fun m=> (Mr page [p.1,m.1]).bind fun ss=> (Kf 112 (ss.getD 0 [])).bind fun pc=> (Fl pc c.1.toNat).bind fun cp=> (Kf 109 (ss.getD 1 [])).bind fun mc=> (Mn mc).bind fun ms=> if ms.2=[] then some (cp.1,cp.2,ms.1) else none
end Go.Proofs.YtolgpnaoaodepaaGreat.Pr
