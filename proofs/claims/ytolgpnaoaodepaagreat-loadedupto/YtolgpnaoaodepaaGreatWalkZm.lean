import Derived.Test.YtolgpnaoaodepaaGreatLdCm
namespace Go.Proofs.YtolgpnaoaodepaaGreat
open Go.RowKit
def Mb (o:Option (List UInt8)):Ending:=match o with
 | some c=> .returned (.string ⟨c.toArray⟩)
 | none=> Ae
theorem Yy (w w':World) (s:ByteArray) (a:Nat) (d:w'.heap=(Lib.bytesWorld w 5 s).heap):(convert 108 9 (.slice (some ⟨w.heap.size,0,none⟩) s.size a)).run Tryz.prog w'= .ok (.string s) w':=by
 have:=run_convert_bytes_back (P:=Tryz.prog) w' 108 9 5 ⟨w.heap.size,0,none⟩ a s.data.toList Tryz.underlying108 Tryz.underlying5 Tryz.underlying9 (fun j b=> by
  rw [Dm];have c:w'.cell? ⟨w.heap.size,j,none⟩=(Lib.bytesWorld w 5 s).cell? ⟨w.heap.size,j,none⟩:=by unfold World.cell?;rw [d]
  rw [c,Lib.bytesWorld_cell w 5 s j (by rw [<-len_size];exact b),List.getD_eq_getElem?_getD,List.getElem?_eq_getElem b];rfl)
 rw [len_size] at this;exact this
theorem Kr (w:World) (s:ByteArray):Below w.heap.size w (Lib.bytesWorld w 5 s):=by
 refine ⟨rfl,rfl,rfl,?_,fun k a=> Lib.bytesWorld_at_old w 5 s k a⟩;rw [Lib.bytesWorld_size];omega
set_option maxHeartbeats 2000000 in
set_option maxRecDepth 20000 in
theorem Mm (k:UInt8) (s:List UInt8) (w:World):
  Calls Tryz.prog 249 #[.int .u8 (k.toNat:Int),.string ⟨s.toArray⟩] w fun r w'=> r=Mb (Pr.Kf k s)/\Below w.heap.size w w':=by
 generalize hE:Mb (Pr.Kf k s)=E;have j:=hid hE;clear hE;have c1:k.toNat < 256:=k.toNat_lt;go_enter Tryz.func249,Tryz.ntmps249;go_wp2_with fail;refine (Dx s _).mono ?_;rintro r w1 ⟨rfl,rfl⟩;have Z:=hid (Nv w s);have N:=hid ((Below.refl w.heap.size w).alloc (Nat.le_refl _) (.cells #[.string ⟨s.toArray⟩] 298));have c2:w.heap.size < (w.alloc (.cells #[.string ⟨s.toArray⟩] 298)).heap.size:=by simp
 generalize w.alloc (.cells #[.string ⟨s.toArray⟩] 298)=w0 at*;have HC:=hid (Fk w.heap.size 1 s w0 Z.out);go_wp2_with fail;refine HC.out.mono ?_;rintro r w1 ⟨A,⟨i,rfl⟩ | ⟨x,t1,a8,rfl,a9⟩⟩
 ·have b:Hid (Ae=E):=by show _=_;rw [<-j.out];unfold Pr.Kf Pr.Qz;rw [i];rfl
  have J:=hid (Ai N.out A (Nat.le_refl _) (by omega));clear A i;unfold Ae;go_wp2_with fail;exact ⟨rfl,b.out,J.out⟩
 have O:Hid (Pr.Qz s=(Pr.Dw t1).bind fun h=> (Pr.Cq h.2).bind fun n=> (Pr.Cq n.2).bind fun z=> if 249 < z.1 then none else (Pr.Da z.1 z.2).map fun c=> (h.1,c.1)):=by
  show _=_;unfold Pr.Qz;rw [a8];rfl
 have R:=hid (Ai N.out A (Nat.le_refl _) (by omega));have c3:=A.size;have a0:=hid (Ha w.heap.size t1 w1 a9);clear A a8 a9 HC Z N;unfold sv;go_wp2_with fail;refine a0.out.mono ?_;rintro r w2 ⟨B,⟨i,rfl⟩ | ⟨d,t2,b0,rfl,b1⟩⟩
 ·have b:Hid (Ae=E):=by show _=_;rw [<-j.out];unfold Pr.Kf;rw [O.out,i];rfl
  have J:=hid (Ai R.out B (Nat.le_refl _) (by omega));clear B i;unfold Ae;go_wp2_with fail;exact ⟨rfl,b.out,J.out⟩
 have S:Hid (Pr.Qz s=(Pr.Cq t2).bind fun n=> (Pr.Cq n.2).bind fun z=> if 249 < z.1 then none else (Pr.Da z.1 z.2).map fun c=> (d,c.1)):=by
  show _=_;rw [O.out,b0];rfl
 have T:=hid (Ai R.out B (Nat.le_refl _) (by omega));have c4:=B.size;have a1:=hid (Kq w.heap.size t2 w2 b1);clear B b0 b1 a0 O R;unfold bv;go_wp2_with fail;refine a1.out.mono ?_;rintro r w3 ⟨C,⟨i,rfl⟩ | ⟨n1,t3,b2,rfl,b3⟩⟩
 ·have b:Hid (Ae=E):=by show _=_;rw [<-j.out];unfold Pr.Kf;rw [S.out,i];rfl
  have J:=hid (Ai T.out C (Nat.le_refl _) (by omega));clear C i;unfold Ae;go_wp2_with fail;exact ⟨rfl,b.out,J.out⟩
 have U:Hid (Pr.Qz s=(Pr.Cq t3).bind fun z=> if 249 < z.1 then none else (Pr.Da z.1 z.2).map fun c=> (d,c.1)):=by
  show _=_;rw [S.out,b2];rfl
 have V:=hid (Ai T.out C (Nat.le_refl _) (by omega));have c5:=C.size;have a2:=hid (Kq w.heap.size t3 w3 b3);clear C b2 b3 a1 S T;unfold nv;go_wp2_with fail;refine a2.out.mono ?_;rintro r w4 ⟨D,⟨i,rfl⟩ | ⟨z,t4,b4,rfl,b5⟩⟩
 ·have b:Hid (Ae=E):=by show _=_;rw [<-j.out];unfold Pr.Kf;rw [U.out,i];rfl
  have J:=hid (Ai V.out D (Nat.le_refl _) (by omega));clear D i;unfold Ae;go_wp2_with fail;exact ⟨rfl,b.out,J.out⟩
 have l:Hid (Pr.Qz s=if 249 < z then none else (Pr.Da z t4).map fun c=> (d,c.1)):=by
  show _=_;rw [U.out,b4];rfl
 have L:=hid (Ai V.out D (Nat.le_refl _) (by omega));have c6:=D.size;have a3:=hid (Fk w.heap.size z t4 w4 b5);clear D b4 b5 a2 U V;unfold nv;by_cases H:249 < z
 ·have b:Hid (Ae=E):=by show _=_;rw [<-j.out];unfold Pr.Kf;rw [l.out,if_pos H];rfl
  have b6:decide ((z:Int)<=249)=false:=by simp;omega
  go_wp2_with fail;refine (Ay _).mono ?_;rintro r I ⟨rfl,rfl⟩;unfold Ae;go_wp2_with fail;exact ⟨rfl,b.out,L.out⟩
 rw [if_neg H] at l;have b6:decide ((z:Int)<=249)=true:=by simp;omega
 go_wp2_with fail;refine (Aw _).mono ?_;rintro r I ⟨rfl,rfl⟩;go_wp2_with fail;refine a3.out.mono ?_;rintro r I ⟨F,⟨i,rfl⟩ | ⟨c,t5,X,rfl,b9⟩⟩
 ·have b:Hid (Ae=E):=by show _=_;rw [<-j.out];unfold Pr.Kf;rw [l.out,i];rfl
  have J:=hid (Ai L.out F (Nat.le_refl _) (by omega));clear F i;unfold Ae;go_wp2_with fail;exact ⟨rfl,b.out,J.out⟩
 have m:Hid (Pr.Kf k s=(Pr.Aa5 d c).bind fun u=> if Pg.Bg [k] u=s then some u else none):=by
  show _=_;unfold Pr.Kf;rw [l.out,X];rfl
 have c7:c.length<=249:=by rw [(Pr.Eh X).1];omega
 have a4:=hid (Ai L.out F (Nat.le_refl _) (by omega));have c8:=F.size;clear F X b9 a3 l L;unfold sv;by_cases hh:d=1
 ·subst hh;have a5:Hid (Pr.Aa5 1 c=Sq.Kt c):=rfl;go_wp2_with fail;refine (Aa3 ⟨c.toArray⟩ _ (by rw [Ck];omega)).mono ?_;rintro r M ⟨rfl,Y⟩;rw [show (⟨c.toArray⟩:ByteArray).data.toList=c from rfl];have a6:=hid (a4.out.trans (Y.mono (by omega)));have c9:=Y.size;clear Y
  cases a:Sq.Kt c with
  | none=>
   have b:Hid (Ae=E):=(by show _=_;rw [<-j.out,m.out,a5.out,a];rfl);rw [show Fh c=Ae by unfold Fh;rw [a]];clear a;unfold Ae;go_wp2_with fail;exact ⟨rfl,b.out,a6.out⟩
  | some u=>
   have d0:u.length<=20000:=by
    unfold Sq.Kt at a;split at a
    ·rename_i t c0;have:=Sq.Sm _ _ _ c0;split at a
     ·simp at a;subst a;simp at this;omega
     ·simp at a
    ·simp at a
   have o:Hid (Pr.Aa5 1 c=some u):=(by show _=_;rw [a5.out,a]);rw [show Fh c= .returned (.string ⟨u.toArray⟩) by unfold Fh;rw [a]];clear a;have a7:=Ck u;have p:=Lib.run_convert_string_bytes (P:=Tryz.prog) M 9 108 5 ⟨u.toArray⟩ Tryz.underlying9 Tryz.underlying108 Tryz.underlying5;rw [Ck] at p;have W:=hid (a6.out.trans ((Kr M ⟨u.toArray⟩).mono (by omega)));have q:Hid (∀(w':World) (f:Nat),w'.heap=(Lib.bytesWorld M 5 ⟨u.toArray⟩).heap->(convert 108 9 (.slice (some ⟨M.heap.size,0,none⟩) u.length f)).run Tryz.prog w'= .ok (.string ⟨u.toArray⟩) w'):=fun w' f g=> by have:=Yy M w' ⟨u.toArray⟩ f g;rw [Ck] at this;exact this
   have b7:M.heap.size<=(Lib.bytesWorld M 5 ⟨u.toArray⟩).heap.size:=(Kr M ⟨u.toArray⟩).size;go_wp2_with fail;clear p;refine (Nc k _ u _ ⟨_,_,rfl⟩ (fun w' g=> q.out w' _ g) (by omega)).mono ?_;rintro r w7 ⟨rfl,G⟩;have y:=hid (W.out.trans (G.mono (by omega)));clear G q;by_cases g:Pg.Bg [k] u=s
   ·have b:Hid (.returned (.string ⟨u.toArray⟩)=E):=(by show _=_;rw [<-j.out,m.out,o.out];simp [g,Mb]);go_wp2_with fail;refine (Aw _).mono ?_;rintro r w8 ⟨rfl,rfl⟩;go_wp2_with fail;go_ret;exact ⟨b.out,y.out⟩
   ·have b:Hid (Ae=E):=(by show _=_;rw [<-j.out,m.out,o.out];simp [g,Mb]);have b8:(Pg.Bg [k] u==s)=false:=(by simpa using g);go_wp2_with fail;refine (Ay _).mono ?_;rintro r w8 ⟨rfl,rfl⟩;unfold Ae;go_wp2_with fail;exact ⟨rfl,b.out,y.out⟩
 ·have o:Hid (Pr.Aa5 d c=some c):=by show _=_;unfold Pr.Aa5;rw [if_neg hh]
  have d1:((d.toNat:Int)==1)=false:=by
   simp only [beq_eq_false_iff_ne,ne_eq];intro e;exact hh (UInt8.toNat_inj.1 (by simpa using (by omega:d.toNat=1)))
  have a7:=Ck c;have p:=Lib.run_convert_string_bytes (P:=Tryz.prog) I 9 108 5 ⟨c.toArray⟩ Tryz.underlying9 Tryz.underlying108 Tryz.underlying5;rw [Ck] at p;have W:=hid (a4.out.trans ((Kr I ⟨c.toArray⟩).mono (by omega)));have q:Hid (∀(w':World) (f:Nat),w'.heap=(Lib.bytesWorld I 5 ⟨c.toArray⟩).heap->(convert 108 9 (.slice (some ⟨I.heap.size,0,none⟩) c.length f)).run Tryz.prog w'= .ok (.string ⟨c.toArray⟩) w'):=fun w' f g=> by have:=Yy I w' ⟨c.toArray⟩ f g;rw [Ck] at this;exact this
  have b7:I.heap.size<=(Lib.bytesWorld I 5 ⟨c.toArray⟩).heap.size:=(Kr I ⟨c.toArray⟩).size;go_wp2_with fail;clear p;refine (Nc k _ c _ ⟨_,_,rfl⟩ (fun w' g=> q.out w' _ g) (by omega)).mono ?_;rintro r w7 ⟨rfl,G⟩;have y:=hid (W.out.trans (G.mono (by omega)));clear G q;by_cases g:Pg.Bg [k] c=s
  ·have b:Hid (.returned (.string ⟨c.toArray⟩)=E):=(by show _=_;rw [<-j.out,m.out,o.out];simp [g,Mb]);go_wp2_with fail;refine (Aw _).mono ?_;rintro r w8 ⟨rfl,rfl⟩;go_wp2_with fail;go_ret;exact ⟨b.out,y.out⟩
  ·have b:Hid (Ae=E):=(by show _=_;rw [<-j.out,m.out,o.out];simp [g,Mb]);have b8:(Pg.Bg [k] c==s)=false:=(by simpa using g);go_wp2_with fail;refine (Ay _).mono ?_;rintro r w8 ⟨rfl,rfl⟩;unfold Ae;go_wp2_with fail;exact ⟨rfl,b.out,y.out⟩
theorem Anb {α:Type} {f:α->Value} {b:Nat} {w:World} {o:Option (α×List UInt8)} {r:Ending} {w':World} (h:RdQ f b w o r w') (d:o=none):r=Ae/\But b w w':=by
 obtain ⟨c,⟨_,a⟩ | ⟨x,u,a,_⟩⟩:=h
 ·exact ⟨a,c⟩
 ·rw [d] at a;simp at a
theorem Wd {α:Type} {f:α->Value} {b:Nat} {w:World} {o:Option (α×List UInt8)} {r:Ending} {w':World} {x:α} {u:List UInt8} (h:RdQ f b w o r w') (c:o=some (x,u)):r= .returned (f x)/\Rd w' b u/\But b w w':=by
 obtain ⟨d,⟨a,_⟩ | ⟨j,k,a,g,i⟩⟩:=h
 ·rw [c] at a;simp at a
 ·rw [c] at a;simp only [Option.some.injEq,Prod.mk.injEq] at a;rw [a.1,a.2];exact ⟨g,i,d⟩
theorem Anc (b:Nat) (t:List UInt8) (w:World) (a:Rd w b t) (c:t.length<=35184372088832) (h:Pr.Ee t=none):Calls Tryz.prog 268 #[.pointer (some ⟨b,0,none⟩)] w fun r w'=> r=Ae/\But b w w':=(Ji b t w a c).mono fun _ _ q=> Anb q h
theorem Akj (b:Nat) (t:List UInt8) (w:World) (a:Rd w b t) (c:t.length<=35184372088832) {x u:List UInt8} (h:Pr.Ee t=some (x,u)):Calls Tryz.prog 268 #[.pointer (some ⟨b,0,none⟩)] w fun r w'=> r= .returned (.string ⟨x.toArray⟩)/\Rd w' b u/\But b w w':=(Ji b t w a c).mono fun _ _ q=> Wd (f:=sv) q h
theorem Ka {b:Nat} {w w':World} (h:But b w.drew w'):But b w w':=⟨h.os,h.tape,h.output,h.size,h.block⟩
def Ad8 (w:World) (o:Option (List (List UInt8×List UInt8))) (r:Ending) (w':World):Prop:=Below w.heap.size w w'/\((o=none/\r=Ae)\/∃l v,o=some (plain l)/\r= .returned v/\Ak w.heap.size w' v l/\l.length<=255/\∀x∈l,x.1.size<=10000000/\x.2.size<=10000000)
theorem Io {B:Nat} {w:World} {v:Value} {l:List (ByteArray×ByteArray)} (h:Ak B w v l):Eu w v l:=by
 rcases h.2 with ⟨rfl,i⟩ | ⟨g,b,j,rfl,q,r,s,k,m,n⟩
 ·exact .inl ⟨none,0,rfl,List.length_eq_zero_iff.1 i⟩
 ·rcases h.isItems with ⟨a,c,d,f⟩ | ⟨t,u,d,f,y,o,p⟩
  ·exact .inl ⟨a,c,d,f⟩
  ·injection d with e1 e2 e3;subst e3;simp only [Option.some.injEq,Addr.mk.injEq,and_true] at e1;subst e1;exact .inr ⟨g,0,b,rfl,f,by unfold maxLen at k;omega,o,p⟩
theorem Mc {B C:Nat} {w:World} {v:Value} {l:List (ByteArray×ByteArray)} (h:Ak B w v l) (i:C<=B):Ak C w v l:=by
 refine ⟨h.1,?_⟩;rcases h.2 with d | ⟨g,a,b,f,c,r⟩
 ·exact .inl d
 ·exact .inr ⟨g,a,b,f,Nat.le_trans i c,r⟩
theorem Ahn (l:List (ByteArray×ByteArray)) (x:ByteArray×ByteArray):plain (l++[x])=plain l++[(x.1.data.toList,x.2.data.toList)]:=by simp [plain]
set_option maxHeartbeats 4000000 in
set_option maxRecDepth 20000 in
theorem Aai (c:List UInt8) (w:World) (hc:c.length<=1000000):
  Calls Tryz.prog 255 #[.string ⟨c.toArray⟩] w fun r w'=> Ad8 w (Pr.Px c) r w':=by
 go_enter Tryz.func255,Tryz.ntmps255;go_wp2_with fail;refine (Dx c _).mono ?_;rintro r w1 ⟨rfl,rfl⟩;have Z:=hid (Nv w c);have G:=hid ((Below.refl w.heap.size w).alloc (Nat.le_refl _) (.cells #[.string ⟨c.toArray⟩] 298));have b6:w.heap.size < (w.alloc (.cells #[.string ⟨c.toArray⟩] 298)).heap.size:=by simp
 generalize w.alloc (.cells #[.string ⟨c.toArray⟩] 298)=w0 at*;have B:=hid (Ha w.heap.size c w0 Z.out);go_wp2_with fail;refine B.out.mono ?_;rintro r w1 ⟨z,⟨F,rfl⟩ | ⟨bn,V,N,rfl,a9⟩⟩
 ·have HT:Hid (Pr.Px c=none):=by show _=_;unfold Pr.Px;rw [F];rfl
  have HB:=hid (Ai G.out z (Nat.le_refl _) (by omega));clear z F;unfold Ae;go_wp2_with fail;exact ⟨rfl,HB.out,.inl ⟨HT.out,rfl⟩⟩
 have j:Hid (Pr.Px c=(Pr.Fv bn.toNat [] V).bind fun r=> if Pg.Bx r.1=c then some r.1 else none):=by
  show _=_;unfold Pr.Px;rw [N];rfl
 have b7:V.length<=c.length:=by rw [Pr.Hw N];simp
 have a0:=hid (Ai G.out z (Nat.le_refl _) (by omega));have a1:=hid a9;have b8:=z.size;have c8:bn.toNat < 256:=bn.toNat_lt;clear z N a9 B Z G;unfold bv;generalize bn.toNat=n at*;go_wp2_with fail
 go_loopw [4,5,12] (fun y ah i wr=>∃(k:Nat) (l:List (ByteArray×ByteArray)) (q:List UInt8) (lb:ByteArray),k<=n/\i= .int .u8 k/\ah= .string lb/\lb.size<=2000000/\l.length<=k/\q.length<=c.length/\Ak (w.heap.size+1) wr y l/\Rd wr w.heap.size q/\Below w.heap.size w wr/\w.heap.size < wr.heap.size/\(∀x∈l,x.1.size<=10000000/\x.2.size<=10000000)/\(Pr.Fv (n - k) lb.data.toList q).map (fun r=> (plain l++r.1,r.2))=Pr.Fv n [] V) (fun _ _ i _=> n - (intOf i).toNat)
 case atStart=> exact ⟨0,[],V,⟨#[]⟩,Nat.zero_le _,rfl,rfl,by decide,by simp,b7,World.ownsRow_nil _ _ _ _,a1.out,a0.out,by omega,by simp,by simp [plain]⟩
 case round=>
  clear a1 a0 b8 b6;obtain ⟨k,l,q,lb,hk,rfl,rfl,e5,e6,hq,ho,hr,hb,e7,a7,a8⟩:=hrel;have HO:=hid ho;have HR:=hid hr;have HB:=hid hb;have o:=hid a8;have H:=hid a7;obtain ⟨ya,yc,rfl⟩:=Ab ho;clear ho hr hb a8 a7;by_cases f0:k < n
  ·obtain ⟨m,hm⟩:∃m,n - k=m+1:=⟨n - k - 1,by omega⟩;have b9:Hid (m=n - (k+1)):=(by show _=_;omega);have I:Hid (Pr.Fv (n - k) lb.data.toList q=(Pr.Dw q).bind fun b=> if lb.data.toList.length < b.1.toNat then none else (Pr.Ee b.2).bind fun x=> (Pr.Ee x.2).bind fun v=> (Pr.Fv m (lb.data.toList.take b.1.toNat++x.1) v.2).map fun r=> ((lb.data.toList.take b.1.toNat++x.1,v.1)::r.1,r.2)):=by
    show _=_;rw [hm];rfl
   clear hm;have B:=hid (Ha w.heap.size q wr HR.out);go_wp2_with fail;refine B.out.mono ?_;rintro r w2 ⟨a,⟨F,rfl⟩ | ⟨X,q2,O,rfl,b0⟩⟩
   ·have s:Hid (Pr.Px c=none):=by
     show _=_;rw [j.out,<-o.out,I.out,F];rfl
    have d:=hid (Ai HB.out a (Nat.le_refl _) (by omega));clear a F;unfold Ae;go_wp2_with fail;exact ⟨rfl,d.out,.inl ⟨s.out,rfl⟩⟩
   have t:Hid (Pr.Fv (n - k) lb.data.toList q=if lb.size < X.toNat then none else (Pr.Ee q2).bind fun x=> (Pr.Ee x.2).bind fun v=> (Pr.Fv m (lb.data.toList.take X.toNat++x.1) v.2).map fun r=> ((lb.data.toList.take X.toNat++x.1,v.1)::r.1,r.2)):=by
    show _=_;rw [I.out,O];simp only [Option.bind_some,len_size]
   have c9:q2.length<=c.length:=(by have:=Pr.Hw O;rw [this] at hq;simp at hq;omega);have d:=hid (Ai HB.out a (Nat.le_refl _) (by omega));have a2:=hid b0;have J:Hid (Ak (w.heap.size+1) w2 (.slice ya l.length yc) l):=Gp HO.out a (by omega);have d0:=a.size;have d1:X.toNat < 256:=X.toNat_lt;clear a O b0 B I;unfold bv;generalize X.toNat=A at*;by_cases b5:lb.size < A
   ·have s:Hid (Pr.Px c=none):=by
     show _=_;rw [j.out,<-o.out,t.out,if_pos b5];rfl
    have hd:decide (A<=lb.size)=false:=decide_eq_false (by omega);go_wp2_with fail;refine (Ay _).mono ?_;rintro r Y ⟨rfl,rfl⟩;unfold Ae;go_wp2_with fail;exact ⟨rfl,d.out,.inl ⟨s.out,rfl⟩⟩
   rw [if_neg b5] at t;have d2:(0:Int)<=(A:Int):=(by omega);have d3:(A:Int)<=(lb.size:Int):=(by omega);go_wp2_with fail;refine (Aw _).mono ?_;rintro r Y ⟨rfl,rfl⟩
   cases g:Pr.Ee q2 with
   | none=>
    have s:Hid (Pr.Px c=none):=by
     show _=_;rw [j.out,<-o.out,t.out,g];rfl
    have B:=hid (fun W hW=> Anc w.heap.size q2 W hW (by omega) g);clear g;go_wp2_with fail
    go_region_dies
    all_goals
     refine (B.out (World.drew Y) a2.out).mono ?_;rintro r w4 ⟨rfl,f⟩;have C:=hid (Ai d.out (Ka f) (Nat.le_refl _) (by omega));clear f;unfold Ae;go_wp2_with fail;exact ⟨rfl,C.out,.inl ⟨s.out,rfl⟩⟩
   | some xu=>
    obtain ⟨x,q3⟩:=xu;have a3:Hid (Pr.Fv (n - k) lb.data.toList q=(Pr.Ee q3).bind fun v=> (Pr.Fv m (lb.data.toList.take A++x) v.2).map fun r=> ((lb.data.toList.take A++x,v.1)::r.1,r.2)):=by
     show _=_;rw [t.out,g];rfl
    have d4:=Pr.Le g;have B:=hid (fun W hW=> Akj w.heap.size q2 W hW (by omega) g);clear g t;have d5:=Ck x;have d6:(lb.extract 0 A).size<=300:=(by rw [ByteArray.size_extract];omega);have e1:∀w,(Op.stringOp .add (lb.extract 0 A) ⟨x.toArray⟩).run Tryz.prog w= .ok (.string (lb.extract 0 A++⟨x.toArray⟩)) w:=fun w=> run_string_add_sum w _ _ (by omega)
    go_wp2_with fail
    go_region_law (first
     | (go_simp
        refine (B.out (World.drew Y) a2.out).mono ?_;rintro r w4 ⟨rfl,b1,f⟩;have c0:=hid b1;have C:=hid (Ai d.out (Ka f) (Nat.le_refl _) (by omega));have c1:Hid (Ak (w.heap.size+1) w4 (.slice ya l.length yc) l):=Gp J.out (Ka f) (by omega);have d7:Y.heap.size<=w4.heap.size:=(Ka f).size;clear b1 f))
    all_goals
     go_wp2_with fail;have a4:=hid (Ji w.heap.size q3 w4 c0.out (by omega));generalize T:lb.extract 0 A++(⟨x.toArray⟩:ByteArray)=U at*;have c7:U.size<=1000400:=(by rw [<-T,ByteArray.size_append'];omega);have a5:Hid (U.data.toList=lb.data.toList.take A++x):=by
      show _=_;rw [<-T];simp
     clear T e1;refine a4.out.mono ?_;rintro r w5 ⟨p,⟨F,rfl⟩ | ⟨v,q4,R,rfl,b2⟩⟩
     ·have s:Hid (Pr.Px c=none):=by
       show _=_;rw [j.out,<-o.out,a3.out,F];rfl
      have L:=hid (Ai C.out p (Nat.le_refl _) (by omega));clear p F;unfold Ae;go_wp2_with fail;exact ⟨rfl,L.out,.inl ⟨s.out,rfl⟩⟩
     ·have d8:=Pr.Le R;have HG:Hid ((Pr.Fv (n - (k+1)) U.data.toList q4).map (fun r=> (plain (l++[(U,⟨v.toArray⟩)])++r.1,r.2))=Pr.Fv n [] V):=by
       show _=_;rw [<-o.out,a3.out,R,<-b9.out,a5.out,Ahn];simp only [Option.bind_some,Option.map_map];congr 1;funext r;simp [a5.out]
      have L:=hid (Ai C.out p (Nat.le_refl _) (by omega));have c2:=hid b2;have M:Hid (Ak (w.heap.size+1) w5 (.slice ya l.length yc) l):=Gp c1.out p (by omega);have d9:=p.size;have e0:=Ck v;clear p R b2 a4 B;unfold sv;go_wp2_with (first
       | (at_builtin;refine Iw w5 rfl (.tmp 28) (.tmp 33) 30 51 Tryz.underlying30 _ 2 32 Cm rfl (by decide) (by decide) rfl (w.heap.size+1) (.slice ya l.length yc) l.length (icells l) rfl M.out [.string U,.string ⟨v.toArray⟩] rfl (by intro u hu;simp at hu;rcases hu with rfl | rfl <;> rfl) rfl (by omega) (by omega) ?_))
      intro v6 w6 S D b4;have c3:Hid (Ak (w.heap.size+1) w6 v6 (l++[(U,⟨v.toArray⟩)])):=by
       show Ak _ _ _ _;unfold Ak;rw [List.length_append,Kk];exact S
      have c4:=hid (c2.out.grown D (fun e=> by have:=(World.ownsRow.lt M.out _ e.symm).1;omega));have c5:=hid (L.out.trans (((Below.refl (w.heap.size+1) w5).grown D (by omega) fun k hk=> (World.ownsRow.lt M.out k hk).1).mono (by omega)));have e2:=D.size;obtain ⟨e8,e9,rfl⟩:=Ab S;clear S D b4;go_wp2_with fail
      go_roundw
      case rel=>
       refine ⟨k+1,_,q4,U,by omega,by go_num,rfl,by omega,by rw [List.length_append];simp;omega,by omega,c3.out,c4.out,c5.out,by omega,?_,HG.out⟩;intro y hy;rcases List.mem_append.1 hy with h | h
       ·exact H.out y h
       ·rw [List.mem_singleton.1 h];exact ⟨by simp only;omega,by simp only;omega⟩
      case measure=> simp [intOf];omega
  ·have a6:Hid (Pr.Fv n [] V=some (plain l,q)):=by
    show _=_;rw [<-o.out,show n - k=0 by omega];simp [Pr.Fv]
   have c6:=hid (Io HO.out);go_wp2_with fail;refine (Adw _ l _ c6.out (by omega) H.out).mono ?_;rintro r w2 ⟨v2,rfl,b3,a⟩;have e3:=b3.str;have d:=hid (HB.out.trans (a.mono (by omega)));have J:Hid (Ak w.heap.size w2 (.slice ya l.length yc) l):=Mc (Aa HO.out a (Nat.le_refl _)) (by omega);clear b3 a;by_cases he:Pg.Bx (plain l)=c
   ·have s:Hid (Pr.Px c=some (plain l)):=by
     show _=_;rw [j.out,a6.out];simp [he]
    go_wp2_with fail;refine (Aw _).mono ?_;rintro r Y ⟨rfl,rfl⟩;go_wp2_with fail;go_ret;exact ⟨d.out,.inr ⟨l,_,s.out,rfl,J.out,by omega,H.out⟩⟩
   ·have s:Hid (Pr.Px c=none):=by
     show _=_;rw [j.out,a6.out];simp [he]
    have e4:(Pg.Bx (plain l)==c)=false:=(by simpa using he);go_wp2_with fail;refine (Ay _).mono ?_;rintro r Y ⟨rfl,rfl⟩;unfold Ae;go_wp2_with fail;exact ⟨rfl,d.out,.inl ⟨s.out,rfl⟩⟩
theorem Aho (b:Nat) (t:List UInt8) (w:World) (a:Rd w b t) {x:Nat} {u:List UInt8} (h:Pr.Gk t=some (x,u)):Calls Tryz.prog 247 #[.pointer (some ⟨b,0,none⟩)] w fun r w'=> r= .returned (.int .i64 (x:Int))/\Rd w' b u/\But b w w':=(Qg b t w a).mono fun _ _ q=> Wd (f:=nv) q h
theorem Abv (b:Nat) (t:List UInt8) (w:World) (a:Rd w b t) {x:UInt8} {u:List UInt8} (h:Pr.Dw t=some (x,u)):Calls Tryz.prog 246 #[.pointer (some ⟨b,0,none⟩)] w fun r w'=> r= .returned (.int .u8 (x.toNat:Int))/\Rd w' b u/\But b w w':=(Ha b t w a).mono fun _ _ q=> Wd (f:=bv) q h
theorem Tp (b n:Nat) (t:List UInt8) (w:World) (a:Rd w b t) {x u:List UInt8} (h:Pr.Da n t=some (x,u)):Calls Tryz.prog 245 #[.pointer (some ⟨b,0,none⟩),.int .i64 n] w fun r w'=> r= .returned (.string ⟨x.toArray⟩)/\Rd w' b u/\But b w w':=(Fk b n t w a).mono fun _ _ q=> Wd (f:=sv) q h
theorem Ane (b n:Nat) (t:List UInt8) (w:World) (a:Rd w b t) (h:Pr.Da n t=none):Calls Tryz.prog 245 #[.pointer (some ⟨b,0,none⟩),.int .i64 n] w fun r w'=> r=Ae/\But b w w':=(Fk b n t w a).mono fun _ _ q=> Anb q h
theorem LHd.but {B b c:Nat} {w wr f:World} {g:List Nat} {i:List ByteArray} {vs j:Value} (h:LHd B b w wr g i vs j) (a:But c wr f) (k:B<=c) (n:c < b):LHd B b w f g i vs j:=by
 have l:=h.lt;have d:=h.le;have m:=a.size;exact ⟨(a.block b (by omega) (by simp;omega)).trans h.var,Gp h.szs a (by omega),Gp h.fst a (by omega),h.apart,Ai h.bel a k (by omega),d,by omega⟩
theorem LHd.setOther {B b c i:Nat} {w wr:World} {a:List Nat} {d:List ByteArray} {vs f:Value} (h:LHd B b w wr a d vs f) (g:B<=c) (j:c < b) (u:Value):LHd B b w (wr.setCell ⟨c,i,none⟩ u) a d vs f:=h.but (Gn c i wr u) g j
theorem Rd.setOther {w:World} {b c i:Nat} {t:List UInt8} (h:Rd w b t) (a:b≠c) (u:Value):Rd (w.setCell ⟨c,i,none⟩ u) b t:=(Below.heap_setCell _ _ _ _ (by simpa using a)).trans h
theorem Aix (w:World) {f:Array Oper} {o:Oper} {a:Act} {K:Act->World->Prop} {Q:Exit->Act->World->Prop} {E:Prop} (z:o.guard=none) (C x:Operand)
  (H:o.op=Op.call {callee:=Callee.builtin Builtin.append,args:= #[C,x],argTypes:= #[25,25]}) (B:Nat) (v:Value) (l:List Nat) (I:a.eval C=v) (m:w.ownsRow B 3 1 v l.length (Bk l))
  (n:Nat) (g:Nat) (J:a.eval x= .slice (some ⟨g,0,none⟩) 1 1) (c:w.cell? ⟨g,0,none⟩=some (.int .i64 (n:Int))) (M:l.length+1<=1000000000) (L:B<=w.heap.size)
  (h:∀(b:Value) (w':World),w'.ownsRow B 3 1 b (l.length+1) (Bk l++[.int .i64 (n:Int)])->w.grownBy w' v.ownBlock->(b.ownBlock=v.ownBlock\/∃k,w.heap.size<=k/\b.ownBlock=some k)->K (a.put o.dst b) w'):if Region.wanted o (yielded f a.tmps)=true then Oper.wp Tryz.prog o a w K Q else E:=by
 have D:Region.wanted o (yielded f a.tmps)=true:=by simp [Region.wanted,z]
 rw [if_pos D];obtain ⟨i,hi,q,r,s⟩:=info_parts My;obtain ⟨b,w',d,t,G,_,y⟩:=run_append_own_at (P:=Tryz.prog) w B 25 o.type 3 i (.int .i64 0) 1 8 Tryz.underlying25 hi q r s rfl (by decide) v l.length (Bk l) m ⟨g,0,none⟩ 1 1 [.int .i64 (n:Int)] rfl (fun j u p=> by
  match j,p with
  | 0,p=> simp at p;subst p;simpa [Addr.add] using c) (by intro u A;simp at A;subst A;rfl) (by unfold maxLen;omega) (by omega) L
 have F:K (a.put o.dst b) w':=h b w' t G (y.imp_right fun e=> ⟨w.heap.size,Nat.le_refl _,e⟩);unfold Oper.wp;simp [execOp,H,resolve,invoke,builtin,I,J,d,Result.andThen];exact F
def Ar6 (w:World) (o:Option (List Nat×List (List UInt8))) (r:Ending) (w':World):Prop:=Below w.heap.size w w'/\((o=none/\r=Ae)\/∃ss fs v,o=some (ss,lists fs)/\r= .returned v/\Aa7 w' v ss fs/\ss.length=fs.length/\fs.length<=4/\∀f∈fs,f.size<=12)
def Yz (w:World) (b:Nat):Prop:=w.heap[b]?=some (.cells #[.slice none 0 0,.slice none 0 0] 233 (0,0))
theorem Yz.cells {w:World} {b:Nat} (h:Yz w b):w.cell? ⟨b,0,none⟩=some (.slice none 0 0)/\w.cell? ⟨b,1,none⟩=some (.slice none 0 0)/\w.frozen? ⟨b,0,none⟩=false/\w.frozen? ⟨b,1,none⟩=false:=by
 unfold Yz at h;refine ⟨?_,?_,?_,?_⟩ <;> simp [World.cell?,World.frozen?,h]
theorem Yz.but {w w':World} {b c:Nat} (h:Yz w b) (d:But c w w') (a:b≠c):Yz w' b:=(d.block b ((Array.getElem?_eq_some_iff.1 h).1) (by simpa using a)).trans h
theorem Yz.below {w w':World} {b B:Nat} (h:Yz w b) (c:Below B w w') (a:b < B):Yz w' b:=(c.block b a).trans h
set_option maxHeartbeats 4000000 in
set_option maxRecDepth 20000 in
theorem Ad9 (t:List UInt8) (w:World):
  Calls Tryz.prog 214 #[.string ⟨t.toArray⟩] w fun r w'=> Ar6 w (Pr.Ix t) r w':=by
 go_enter Tryz.func214,Tryz.ntmps214;go_wp2_with fail;have u:Hid (Yz (w.alloc (.cells #[.slice none 0 0,.slice none 0 0] 233)) w.heap.size):=heap_alloc_new _ _;have d9:=hid ((Below.refl w.heap.size w).alloc (Nat.le_refl _) (.cells #[.slice none 0 0,.slice none 0 0] 233));have e3:w.heap.size < (w.alloc (.cells #[.slice none 0 0,.slice none 0 0] 233)).heap.size:=by simp
 refine (Dx t _).mono ?_;rintro r w1 ⟨rfl,rfl⟩;generalize w.alloc (.cells #[.slice none 0 0,.slice none 0 0] 233)=w0 at*;have c7:=hid (Nv w0 t);have c8:=hid (d9.out.alloc (by omega) (.cells #[.string ⟨t.toArray⟩] 298));have a6:=hid (u.out.below ((Below.refl w0.heap.size w0).alloc (Nat.le_refl _) (.cells #[.string ⟨t.toArray⟩] 298)) e3);have i8:w0.heap.size < (w0.alloc (.cells #[.string ⟨t.toArray⟩] 298)).heap.size:=by simp
 generalize w0.alloc (.cells #[.string ⟨t.toArray⟩] 298)=w1 at*;clear u d9
 cases ht:Pr.Da 68 t with
 | none=>
  have HT:Hid (Pr.Ix t=none):=by show _=_;unfold Pr.Ix;rw [ht];rfl
  have HC:=hid (Ane w0.heap.size 68 t w1 c7.out ht);clear ht;go_wp2_with fail;refine HC.out.mono ?_;rintro r w2 ⟨rfl,A⟩;have Z:=hid (Ai c8.out A (by omega) (by omega));clear A;unfold Ae;go_wp2_with fail;exact ⟨rfl,Z.out,.inl ⟨HT.out,rfl⟩⟩
 | some fu=>
  obtain ⟨f,fr⟩:=fu;have l3:f.length<=68/\68<=f.length:=by have:=(Pr.Eh ht).1;omega
  have HT:Hid (Pr.Ix t=(Pr.Da 3 f).bind fun a=> (Pr.Dw a.2).bind fun c=> if 4 < c.1.toNat then none else (Pr.Km c.1.toNat c.2).bind fun r=> if Pg.Az r.2 none=true then (if Pg.Fq r.1 r.2=f then some r else none) else none):=by show _=_;unfold Pr.Ix;rw [ht];rfl
  have HC:=hid (Tp w0.heap.size 68 t w1 c7.out ht);clear ht;go_wp2_with fail;refine HC.out.mono ?_;rintro r w2 ⟨rfl,-,A⟩;have Z:=hid (Ai c8.out A (by omega) (by omega));have a7:=hid (a6.out.but A (by omega));have i9:=A.size;clear A HC c7 a6 c8;go_wp2_with fail;refine (Dx f _).mono ?_;rintro r w3 ⟨rfl,rfl⟩;have e4:=hid (Nv w2 f);have e5:=hid (Z.out.alloc (by omega) (.cells #[.string ⟨f.toArray⟩] 298));have a8:=hid (a7.out.below ((Below.refl w2.heap.size w2).alloc (Nat.le_refl _) (.cells #[.string ⟨f.toArray⟩] 298)) (by omega));have j2:w2.heap.size < (w2.alloc (.cells #[.string ⟨f.toArray⟩] 298)).heap.size:=by simp
  generalize w2.alloc (.cells #[.string ⟨f.toArray⟩] 298)=w3 at*;generalize w2.heap.size=rb at*;clear Z a7;obtain ⟨m3,Y,h3⟩:∃m3 Y,Pr.Da 3 f=some (m3,Y):=⟨_,_,Pr.Je (by omega)⟩;have j3:Y.length<=65/\65<=Y.length:=by
   obtain ⟨e1,e2⟩:=Pr.Eh h3;have:f.length=m3.length+Y.length:=(by rw [e2,List.length_append]);omega
  have e6:Hid (Pr.Ix t=(Pr.Dw Y).bind fun c=> if 4 < c.1.toNat then none else (Pr.Km c.1.toNat c.2).bind fun r=> if Pg.Az r.2 none=true then (if Pg.Fq r.1 r.2=f then some r else none) else none):=by show _=_;rw [HT.out,h3];rfl
  have HC:=hid (Tp rb 3 f w3 e4.out h3);clear h3 HT;go_wp2_with fail;refine HC.out.mono ?_;rintro r w4 ⟨rfl,i1,a4⟩;have e7:=hid (Ai e5.out a4 (by omega) (by omega));have a9:=hid (a8.out.but a4 (by omega));have j4:=a4.size;obtain ⟨cb,q4,h4⟩:∃cb q4,Pr.Dw Y=some (cb,q4):=by
   match Y,j3 with
   | a::r,_=> exact ⟨a,r,rfl⟩
  have l4:q4.length<=64/\64<=q4.length:=by
   have e:=Pr.Hw h4;have:Y.length=q4.length+1:=(by rw [e];rfl);omega
  have G:Hid (Pr.Ix t=if 4 < cb.toNat then none else (Pr.Km cb.toNat q4).bind fun r=> if Pg.Az r.2 none=true then (if Pg.Fq r.1 r.2=f then some r else none) else none):=by show _=_;rw [e6.out,h4];rfl
  have H:=hid (Abv rb Y w4 i1 h4);have l5:cb.toNat < 256:=cb.toNat_lt;clear h4 e6 a4 i1 HC e5 a8 e4;go_wp2_with fail;refine H.out.mono ?_;rintro r w5 ⟨rfl,i2,a5⟩;have c9:=hid (Ai e7.out a5 (by omega) (by omega));have b2:=hid (a9.out.but a5 (by omega));have a0:=hid i2;have j5:=a5.size;generalize cb.toNat=n at*;clear a5 i2 H e7 a9;by_cases i4:4 < n
  ·rw [if_pos i4] at G;have hd:decide ((n:Int)<=4)=false:=(by simp;omega);go_wp2_with fail;refine (Ay _).mono ?_;rintro r w6 ⟨rfl,rfl⟩;unfold Ae;go_wp2_with fail;exact ⟨rfl,c9.out,.inl ⟨G.out,rfl⟩⟩
  ·rw [if_neg i4] at G;have hd:decide ((n:Int)<=4)=true:=(by simp;omega);go_wp2_with fail;refine (Aw _).mono ?_;rintro r w6 ⟨rfl,rfl⟩;have e8:=hid (Ab8 w.heap.size w w6 c9.out (by omega));have e9:=hid (a0.out.below ((Below.refl w6.heap.size w6).alloc (Nat.le_refl _) (.cells #[.slice none 0 0,.slice none 0 0] 233)) a0.out.lt);have b3:=hid (b2.out.below ((Below.refl w6.heap.size w6).alloc (Nat.le_refl _) (.cells #[.slice none 0 0,.slice none 0 0] 233)) (by omega));have j6:=a0.out.lt;clear hd;go_wp2_with fail;generalize w6.alloc (.cells #[.slice none 0 0,.slice none 0 0] 233)=w7 at*;have l6:rb < w6.heap.size/\w.heap.size < rb:=(by omega);generalize w6.heap.size=hb at*;clear a0 c9 b2 e3 i8 i9 j2 j4 j5 j6
   go_loopw [23] (fun i wr=>∃(k:Nat) (q:List UInt8) (g:List Nat) (d:List ByteArray) (vs vf:Value),k<=n/\i= .int .i64 k/\q.length+15*k=64/\Rd wr rb q/\LHd w.heap.size hb w wr g d vs vf/\Yz wr w.heap.size/\g.length=k/\d.length=k/\(∀f∈d,f.size<=12)/\(Pr.Km (n - k) q).map (fun r=> (g++r.1,lists d++r.2))=Pr.Km n q4) (fun i _=> n - (intOf i).toNat)
   case atStart=> exact ⟨0,q4,[],[],_,_,Nat.zero_le _,rfl,by omega,e9.out,e8.out,b3.out,rfl,rfl,by simp,by simp [lists]⟩
   case round=>
    clear e9 e8 b3;obtain ⟨k,q,g,d,vs,vf,hk,rfl,g9,hr,D,c0,h0,h2,c1,h8⟩:=hrel;have j7:=hid g9;have f2:q.length<=64/\(k < n->19<=q.length):=(by omega);have HR:=hid hr;have I:=hid D;have u:=hid c0;have f3:=hid h0;have f4:=hid h2;have J:=hid c1;have d2:=hid h8;have l0:=D.lt;have l1:g.length<=4/\d.length<=4:=(by omega);obtain ⟨d0,d1,z0,z1⟩:=D.cells;obtain ⟨sa,sc,rfl⟩:=Ab D.szs;obtain ⟨fa,fc,rfl⟩:=D.fst.shape;clear g9 hr D c0 h0 h2 c1 h8;by_cases n1:k < n
    ·obtain ⟨m,hm⟩:∃m,n - k=m+1:=⟨n - k - 1,by omega⟩;have j8:Hid (m=n - (k+1)):=(by show _=_;omega);obtain ⟨sx,q5,h5⟩:∃sx q5,Pr.Gk q=some (sx,q5):=by
      unfold Pr.Gk;rw [Pr.Je (by omega)];exact ⟨_,_,rfl⟩
     have f5:q5.length+2=q.length:=by
      unfold Pr.Gk at h5;rw [Pr.Je (by omega)] at h5;simp only [Option.map_some,Option.some.injEq,Prod.mk.injEq] at h5;rw [<-h5.2,List.length_drop];omega
     obtain ⟨lb,q6,h6⟩:∃lb q6,Pr.Dw q5=some (lb,q6):=by
      match q5,f5 with
      | a::r,_=> exact ⟨a,r,rfl⟩
      | [],h=> simp at h;omega
     have j9:q6.length+1=q5.length:=(by rw [Pr.Hw h6];rfl);obtain ⟨F,q7,h7⟩:∃F q7,Pr.Da 12 q6=some (F,q7):=⟨_,_,Pr.Je (by omega)⟩;have l7:F.length<=12/\12<=F.length:=(by have:=(Pr.Eh h7).1;omega);have k2:q7.length+15=q.length:=by
      obtain ⟨e1,e2⟩:=Pr.Eh h7;have:q6.length=F.length+q7.length:=(by rw [e2,List.length_append]);omega
     have a1:Hid (Pr.Km (n - k) q=if 12 < lb.toNat then none else (Pr.Km m q7).map fun r=> (sx::r.1,F.take lb.toNat::r.2)):=by
      show _=_;rw [hm,Pr.Km,h5];simp only [Option.bind_some];rw [h6];simp only [Option.bind_some];rw [h7];rfl
     have f6:=hid (fun W hW=> Aho rb q W hW h5);have H:=hid (fun W hW=> Abv rb q5 W hW h6);have f7:=hid (fun W hW=> Tp rb 12 q6 W hW h7);have l8:lb.toNat < 256:=lb.toNat_lt;have k3:Hid (q7.length+15*(k+1)=64):=(by have:=j7.out;show _=_;omega);clear h5 h6 h7 hm f5 j9 k2 f2;go_wp2_with fail
     go_region_law (first
      | (refine Aix _ (by rfl) (.tmp 26) (.tmp 29) (by rfl) (hb+1) (.slice sa g.length sc) g (by simp [Act.eval]) o.out.szs sx w8.heap.size (by simp [Act.eval]) k5.out (by omega) o.out.lt ?_
         intro m8 i3 T c4 U;obtain ⟨d6,d7,rfl⟩:=Ab T;have HA:=hid (o.out.apN T c4 U);obtain ⟨e0,e1,y0,y1⟩:=o.out.mid HA.out.1;have b4:=hid ((k4.out.below HA.out.1 (by omega)).setOther (c:=hb) (i:=0) (by omega) (.slice d6 (g.length+1) d7));have j:=hid ((f8.out.below HA.out.1 (by omega)).but (Gn hb 0 _ (.slice d6 (g.length+1) d7)) (by omega));clear T c4 U)
      | (go_simp
         refine (f6.out (World.drew wr) HR.out).mono ?_;rintro r w8 ⟨rfl,d8,s⟩;have b:=hid (I.out.but (Ka s) (by omega) (by omega));obtain ⟨g0,g1,x0,x1⟩:=b.out.cells;have l:=(Below.refl w8.heap.size w8).alloc (Nat.le_refl _) (.cells #[.int .i64 (sx:Int)] 3);have o:=hid (b.out.below l);have k4:=hid (d8.below l d8.lt);have f8:=hid ((u.out.but (Ka s) (by omega)).below l (by have h1:=(Ka s).size;omega));have k5:Hid ((w8.alloc (.cells #[.int .i64 (sx:Int)] 3)).cell? ⟨w8.heap.size,0,none⟩=some (.int .i64 (sx:Int))):=(by show _=_;simp);obtain ⟨k0,k1,j0,j1⟩:=o.out.cells;clear d8 s l))
     all_goals
      have HH:=hid HA.out.2;clear HA I HR u;generalize i3.setCell ⟨hb,0,none⟩ (.slice d6 (g.length+1) d7)=S at*;go_wp2_with fail;refine (H.out S b4.out).mono ?_;rintro r k9 ⟨rfl,c2,N⟩;have b5:=hid (HH.out.but N (by omega) (by omega));have L:=hid (j.out.but N (by omega));have b6:=hid c2;clear c2 N HH b4 j H;generalize lb.toNat=ln at*;go_wp2_with fail;refine (f7.out k9 b6.out).mono ?_;rintro r m7 ⟨rfl,c3,O⟩;have C:=hid (b5.out.but O (by omega) (by omega));have d3:=hid (L.out.but O (by omega));have b7:=hid c3;have l2:=C.out.lt;clear c3 O b5 b6 L f7 f6;have l9:=Ck F;by_cases c6:12 < ln
      ·rw [if_pos c6] at a1;have HF:Hid (Pr.Ix t=none):=(by show _=_;rw [G.out,<-d2.out,a1.out];rfl);have a2:=hid C.out.bel;have hd:decide (ln<=F.length)=false:=decide_eq_false (by omega);go_wp2_with fail;refine (Ay _).mono ?_;rintro r B ⟨rfl,rfl⟩;unfold Ae;go_wp2_with fail;exact ⟨rfl,a2.out,.inl ⟨HF.out,rfl⟩⟩
      ·rw [if_neg c6] at a1;have hd:decide (ln<=F.length)=true:=decide_eq_true (by omega);go_wp2_with fail;refine (Aw _).mono ?_;rintro r B ⟨rfl,rfl⟩;have m0:(0:Int)<=(ln:Int):=(by omega);have m1:(ln:Int)<=(F.length:Int):=(by omega);obtain ⟨f0,f1,p0,p1⟩:=C.out.cells;generalize i5:(⟨F.toArray⟩:ByteArray).extract 0 ln=ks at*;have k6:Hid (ks.data.toList=F.take ln):=(by show _=_;rw [<-i5,Yw]);have f9:ks.size<=12:=(by rw [<-i5,ByteArray.size_extract];omega);clear hd;have l:=((Below.refl B.heap.size B).alloc (Nat.le_refl _) (.cells #[.string ks] 9)).drew;have p:=hid (C.out.below l);have k7:=hid (b7.out.below l b7.out.lt);have g2:=hid (d3.out.below l (by omega));have g3:Hid (((B.alloc (.cells #[.string ks] 9)).drew).cell? ⟨B.heap.size,0,none⟩=some (.string ks)):=Adu B _ _;obtain ⟨-,m5,-,m6⟩:=p.out.cells;clear l;go_wp2_with fail
       go_region_law (refine Ach _ (by rfl) (.tmp 43) (.tmp 47) (by rfl) (hb+1) (.slice fa d.length fc) d (by simp [Act.eval]) p.out.fst ks B.heap.size (by simp [Act.eval]) g3.out (by omega) p.out.lt ?_;intro m9 n0 V c5 X;obtain ⟨h9,i0,rfl⟩:=V.shape;generalize i6:(d++[ks]).length=i7 at*;clear i6;have a3:=hid (p.out.apF V c5 X);obtain ⟨b0,b1,o0,o1⟩:=p.out.mid a3.out.1;have g4:=hid ((k7.out.below a3.out.1 (by omega)).setOther (c:=hb) (i:=1) (by omega) (.slice h9 i7 i0));have d4:=hid ((g2.out.below a3.out.1 (by omega)).but (Gn hb 1 _ (.slice h9 i7 i0)) (by omega));clear V c5 X)
       all_goals
        go_wp2_with fail
        go_roundw
        case rel=>
         refine ⟨k+1,q7,g++[sx],d++[ks],_,_,by omega,by go_num,k3.out,g4.out,a3.out.2,d4.out,by rw [List.length_append,f3.out];rfl,by rw [List.length_append,f4.out];rfl,?_,?_⟩
         ·intro y hy;rcases List.mem_append.1 hy with h | h
          ·exact J.out y h
          ·rw [List.mem_singleton.1 h];exact f9
         ·rw [<-d2.out,a1.out,<-j8.out,Uu,k6.out];simp only [Option.map_map];congr 1;funext r;simp
        case measure=> simp [intOf];omega
    ·have k8:Hid (Pr.Km n q4=some (g,lists d)):=by
      show _=_;rw [<-d2.out,show n - k=0 by omega];simp [Pr.Km]
     have g5:Hid (g.length=d.length):=(by show _=_;rw [f3.out,f4.out]);have M:Hid (Pr.Ix t=if Pg.Az (lists d) none=true then (if Pg.Fq g (lists d)=f then some (g,lists d) else none) else none):=by
      show _=_;rw [G.out,k8.out];rfl
     have g6:=hid (ownsRow.isRow I.out.fst (by omega));go_wp2_with fail;refine (Uw _ d _ g6.out).mono ?_;rintro r w8 ⟨rfl,s⟩;have b:=hid (I.out.below s);have b8:=hid (u.out.below s (by omega));obtain ⟨f0,f1,p0,p1⟩:=b.out.cells;have m2:=b.out.lt;have a2:=hid b.out.bel;clear s d0 d1 z0 z1 I u g6;generalize Pg.Az (lists d) none=ok at*
     cases ok
     ·have HF:Hid (Pr.Ix t=none):=(by show _=_;rw [M.out];rfl);go_wp2_with fail;refine (Ay _).mono ?_;rintro r w9 ⟨rfl,rfl⟩;unfold Ae;go_wp2_with fail;exact ⟨rfl,a2.out,.inl ⟨HF.out,rfl⟩⟩
     ·have g7:=hid (b.out.isLH (by omega) (by omega));go_wp2_with fail;refine (Aw _).mono ?_;rintro r w9 ⟨rfl,rfl⟩;go_wp2_with fail;refine (Pe _ g d _ g7.out g5.out (by omega) J.out).mono ?_;rintro r i3 ⟨rfl,R⟩;have z:=hid (b.out.below R);have j:=hid (b8.out.below R (by omega));have d5:=hid z.out.bel;clear f0 f1 p0 p1;obtain ⟨f0,f1,p0,p1⟩:=z.out.cells;obtain ⟨r0,r1,y0,y1⟩:=j.out.cells;clear R b b8 g7 a2;by_cases he:Pg.Fq g (lists d)=f
      ·have HF:Hid (Pr.Ix t=some (g,lists d)):=(by show _=_;rw [M.out];simp [he]);have b9:=hid ((z.out.setOther (c:=w.heap.size) (i:=0) (Nat.le_refl _) (by omega) (.slice sa g.length sc)).setOther (c:=w.heap.size) (i:=1) (Nat.le_refl _) (by omega) (.slice fa d.length fc));have g8:=hid (Ad (i:=1) (Ad (i:=0) j.out (.slice sa g.length sc)) (.slice fa d.length fc));go_wp2_with fail;refine (Aw _).mono ?_;rintro r S ⟨rfl,rfl⟩;go_wp2_with fail;refine bodyPost_ret (v:= .agg #[.slice sa g.length sc,.slice fa d.length fc]) ?_ rfl ⟨b9.out.bel,.inr ⟨g,d,_,HF.out,rfl,b9.out.isLH (by omega) (by omega),g5.out,by omega,J.out⟩⟩;have q1:((S.setCell ⟨w.heap.size,0,none⟩ (.slice sa g.length sc)).setCell ⟨w.heap.size,1,none⟩ (.slice fa d.length fc)).cell? ⟨w.heap.size,0,none⟩=some (.slice sa g.length sc):=(by unfold World.cell?;rw [g8.out];rfl);have q2:((S.setCell ⟨w.heap.size,0,none⟩ (.slice sa g.length sc)).setCell ⟨w.heap.size,1,none⟩ (.slice fa d.length fc)).cell? ⟨w.heap.size,1,none⟩=some (.slice fa d.length fc):=(by unfold World.cell?;rw [g8.out];rfl);simp [results,Tryz.results214,go_sem,q1,q2]
      ·have HF:Hid (Pr.Ix t=none):=(by show _=_;rw [M.out];simp [he]);have m4:(Pg.Fq g (lists d)==f)=false:=(by simpa using he);go_wp2_with fail;refine (Ay _).mono ?_;rintro r S ⟨rfl,rfl⟩;unfold Ae;go_wp2_with fail;exact ⟨rfl,d5.out,.inl ⟨HF.out,rfl⟩⟩
end Go.Proofs.YtolgpnaoaodepaaGreat
namespace Go.Proofs.YtolgpnaoaodepaaGreat.Pr
open Pg
theorem Anf {s:List UInt8} {x:UInt8×List UInt8} (h:Qz s=some x):x.2.length<=249:=by
 unfold Qz at h
 cases f:Da 1 s with
 | none=> rw [f] at h;simp at h
 | some a=>
  rw [f] at h;simp only [Option.bind_some] at h
  cases g:Dw a.2 with
  | none=> rw [g] at h;simp at h
  | some b=>
   rw [g] at h;simp only [Option.bind_some] at h
   cases i:Cq b.2 with
   | none=> rw [i] at h;simp at h
   | some n=>
    rw [i] at h;simp only [Option.bind_some] at h
    cases j:Cq n.2 with
    | none=> rw [j] at h;simp at h
    | some z=>
     rw [j] at h;simp only [Option.bind_some] at h;split at h
     ·simp at h
     ·cases d:Da z.1 z.2 with
      | none=> rw [d] at h;simp at h
      | some c=>
       rw [d] at h;simp only [Option.map_some,Option.some.injEq] at h;rw [<-h];have:=(Eh d).1;simp only;omega
theorem Za {k:UInt8} {s c:List UInt8} (h:Kf k s=some c):c.length<=20000:=by
 unfold Kf at h
 cases d:Qz s with
 | none=> rw [d] at h;simp at h
 | some x=>
  have f:=Anf d;rw [d] at h;simp only [Option.bind_some] at h
  cases a:Aa5 x.1 x.2 with
  | none=> rw [a] at h;simp at h
  | some u=>
   rw [a] at h;simp only [Option.bind_some] at h;split at h
   ·simp only [Option.some.injEq] at h;rw [<-h];unfold Aa5 at a;split at a
    ·unfold Sq.Kt at a;split at a
     ·rename_i t b;have:=Sq.Sm _ _ _ b;split at a
      ·simp at a;subst a;simp at this;omega
      ·simp at a
     ·simp at a
    ·simp at a;rw [<-a];omega
   ·simp at h
def Vf (ks:List (List UInt8)) (i:Nat) (l:List (List UInt8×List UInt8)):Bool:=
 decide (1<=l.length)&&decide (l.length<=4)&&Dl none l&&decide ((l.map (·.1)).getD 0 []=ks.getD i [])&&(!decide (i+1 < ks.length) || decide ((l.map (·.1)).getD (l.length - 1) [] < ks.getD (i+1) []))
def Bo (ks:List (List UInt8)) (i:Nat) (s:List UInt8):Option (List (List UInt8×List UInt8)):=(Kf 98 s).bind fun c=> (Px c).bind fun l=> if Vf ks i l=true then some l else none
end Go.Proofs.YtolgpnaoaodepaaGreat.Pr
