import Derived.Test.YtolgpnaoaodepaaGreatKimFm
namespace Go.Proofs.YtolgpnaoaodepaaGreat
open Go.RowKit
def Ge (w:World) (v:Value) (l:List Int):Prop:=∃a cap,v= .slice a l.length cap/\l.length<=1000000000000000000/\(∀x∈l,-9223372036854775808<=x/\x<=9223372036854775807)/\(l.length=0\/∃b off,a=some ⟨b,off,none⟩/\b < w.heap.size/\∀i (h:i < l.length),w.cell? ⟨b,off+i,none⟩=some (.int .i64 (l[i]'h)))
theorem Ge.below {w w':World} {v:Value} {l:List Int} (h:Ge w v l) (g:Below w.heap.size w w'):Ge w' v l:=by
 obtain ⟨a,d,j,k,m,n⟩:=h;refine ⟨a,d,j,k,m,n.imp_right ?_⟩;rintro ⟨b,f,e,c,o⟩;exact ⟨b,f,e,Nat.lt_of_lt_of_le c g.size,fun i hi=> by rw [g.cell (p:=⟨b,_,none⟩) c];exact o i hi⟩
theorem Ge.at {w:World} {a:Option Addr} {f:Nat} {l:List Int} (h:Ge w (.slice a l.length f) l) (i:Nat) (hi:i < l.length):∃b c,a=some ⟨b,c,none⟩/\b < w.heap.size/\w.cell? ⟨b,c+i,none⟩=some (.int .i64 (l[i]'hi))/\-9223372036854775808<=l[i]'hi/\l[i]'hi<=9223372036854775807:=by
 obtain ⟨o,g,k,p,m,j⟩:=h;injection k with e1 e2 e3;subst e1 e3;rcases j with j | ⟨b,c,e,d,n⟩
 ·omega
 ·exact ⟨b,c,e,d,n i hi,m _ (List.getElem_mem hi)⟩
theorem Ac5 {a b:List (ByteArray×ByteArray)} (h:plain a=plain b):a=b:=by
 unfold plain at h;refine List.map_inj_right ?_ |>.1 h;rintro ⟨c,d⟩ ⟨f,g⟩ e;simp only [Prod.mk.injEq] at e;rw [<-Md c,<-Md d,<-Md f,<-Md g,e.1,e.2]
set_option maxHeartbeats 1000000 in
theorem Ih (v:Value) (l:List Int) (i:Nat) (w:World) (f:Ge w v l) (hi:i<=1000000):
  Calls Tryz.prog 44 #[v,.int .i64 i] w fun r w'=> (∃x:Int,r= .returned (.int .i64 x)/\-9223372036854775808<=x/\x<=9223372036854775807)/\w'=w:=by
 have g:=hid f;obtain ⟨s,vc,rfl,d,-,-⟩:=f;go_enter Tryz.func44,Tryz.ntmps44;by_cases h0:l.length=0
 ·have c:(l.length:Int)=0:=by omega
  go_wp2_with fail;go_ret;exact ⟨⟨0,rfl,by omega,by omega⟩,rfl⟩
 ·have c:¬(l.length:Int)=0:=by omega
  have a:i % l.length < l.length:=Nat.mod_lt _ (by omega);obtain ⟨b,k,rfl,n,t,o,p⟩:=g.out.at (i % l.length) a;generalize l[i % l.length]'a=x at*;have q:(i:Int).tmod (l.length:Int)=((i % l.length:Nat):Int):=by rw [Int.tmod_eq_emod_of_nonneg (by omega)];omega
  have j:((i % l.length:Nat):Int) < (l.length:Int):=by omega
  generalize i % l.length=m at*;go_wp2_with fail;go_ret;exact ⟨⟨x,rfl,o,p⟩,rfl⟩
theorem Aj9 (L:Nat):(Ld.Ic L []).map rnV=(List.replicate L (0:Int)).map (.int .i64):=by
 refine List.ext_getElem (by simp [Ld.Kc]) fun i a b=> ?_
 simp [Ld.Ic,rnV]
theorem Ag4 {iml:List ByteArray} {H:Nat} {f:Ld.PT H} (d:Ld.Co (Ag iml) H [] [] f) (k:Tr.Key):Tr.Bj (Tr.Bq [] (Ld.eff (Ag iml) H f)) k=Tr.Aj (Ld.eff (Ag iml) H f) k none:=
 Tr.Ja (lo:=[]) (hi:=none) k _ ⟨List.Pairwise.nil,fun x a=> by cases a⟩ fun c b=> ⟨Tr.Jb _,Ld.Ai2 (Ct iml) H [] [] f d c b⟩
set_option maxHeartbeats 1000000 in
set_option maxRecDepth 20000 in
theorem Ai8 (J:Value) (iml:List ByteArray) (V:Tr.Key->Option Tr.Key) (N bh z:Nat) (v:Value) (il:List (ByteArray×ByteArray)) (w:World) (hv:Av 0 w J iml) (l:Afz V N iml) (hN:N<=600000) (a5:bh < w.heap.size) (hc:w.cell? ⟨bh,z,none⟩=some v) (ho:Ak 0 w v il) (hr:Tr.Bi (plain il)) (a6:∀k,Tr.Bj (plain il) k=V k) (hl:il.length<=20000000):
  Calls Tryz.prog 18 #[J,.pointer (some ⟨bh,z,none⟩)] w fun r w'=> r= .returned (.bool true)/\Below w.heap.size w w':=by
 have L:iml.length<=1200000:=Nat.le_trans l.len (by omega);obtain ⟨H,f,U,t,X,B⟩:=l.right;have m:(Ag iml).length=iml.length:=by unfold Ag;simp
 have h0:0 < iml.length:=by
  have:=Adf H [] [] f U 0 (by rw [<-t];exact Ld.Ad1 f)
  rwa [m] at this
 have c:∀s∈iml,∃n,Pr.Fg s.data.toList=some n:=fun s hs=> by
  obtain ⟨i,hi,rfl⟩:=List.getElem_of_mem hs;obtain ⟨nd,C⟩:=l.right.all i (by rw [m];exact hi);rw [Me hi] at C;exact ⟨nd,Option.some.inj C⟩
 have M:Hid (∀a,Tr.Bi (plain a)->plain a=Tr.Bq [] (Ld.eff (Ag iml) H f)->a=il):=fun a b3 e=> Ac5 (Tr.Ww b3 hr fun k=> by rw [e,Ag4 U,(l.all H f U t).2 k,a6])
 have O:Hid (∀n,n < iml.length->n∈Ld.nums H f):=fun n hn=> B n (by rw [m];exact hn)
 have R:=hid (Zy J iml w hv (by omega) c);have HO:=hid ho;have HC:=hid hc;have a7:=hid a5;clear hv c B hr a6 l ho hc a5 m;go_enter Tryz.func18,Tryz.ntmps18;go_wp2_with fail;refine R.out.mono ?_;rintro r F ⟨vp,ps,rfl,I,hk⟩;obtain ⟨Y,Z,e⟩:=Ab hk.pg.row;rw [I] at e;subst e;have a8:=hid I;have HK:=hid hk;clear I hk R;go_wp2_with (at_make;refine Am0 F rfl (.tmp 16) (.tmp 16) rfl iml.length (by simp [Act.eval]) (by simp [Act.eval]) (by omega) ?_;intro G y j);have o:Hid (KwI iml.length F G.heap.size (.slice Y iml.length Z) (.slice (some ⟨F.heap.size,0,none⟩) iml.length iml.length) [] (-1) (.slice none 0 0) [] (G.alloc (.cells #[.slice Y iml.length Z,.slice (some ⟨F.heap.size,0,none⟩) iml.length iml.length,.int .i64 (-1),.slice none 0 0] 62))):=by
  have S:Below G.heap.size G (G.alloc (.cells #[.slice Y iml.length Z,.slice (some ⟨F.heap.size,0,none⟩) iml.length iml.length,.int .i64 (-1),.slice none 0 0] 62)):=(Below.refl _ G).alloc (Nat.le_refl _) _;refine ⟨j.trans (S.mono j.size),heap_alloc_new _ _,?_,⟨rfl,.inl ⟨rfl,rfl⟩⟩,⟨List.Pairwise.nil,fun x hx=> by cases hx⟩,j.size,⟨List.nodup_nil,fun n hn=> by cases hn⟩⟩;rw [Aj9];unfold Iy at y;rw [List.length_replicate] at y;exact Aa y S (Nat.le_refl _)
 have b4:=hid j.size;clear y j;generalize G.alloc (.cells #[.slice Y iml.length Z,.slice (some ⟨F.heap.size,0,none⟩) iml.length iml.length,.int .i64 (-1),.slice none 0 0] 62)=w3 at*;generalize G.heap.size=b at*;have hp:=Ua iml L F b (.slice Y iml.length Z) (.slice (some ⟨F.heap.size,0,none⟩) iml.length iml.length) ps a8.out HK.out.pg H [] (-1) (.slice none 0 0) [] f 0 ⟨#[]⟩ ⟨#[]⟩ w3 o.out U (by simpa using X) (.inl (by decide)) (by simp) (Nat.zero_le _);rw [t] at hp;have HP:=hid hp;have b5:¬(iml.length:Int)=0:=by omega
 clear hp X t U;go_wp2_with fail;refine HP.out.mono ?_;rintro r w4 ⟨rfl,a0,v',a,u,a3⟩;have q:Hid (Below w.heap.size w w4):=Dp (HK.out.bel.trans (o.out.bel.mono HK.out.bel.size)) a0 fun g hg=> Nat.le_trans HK.out.bel.size (o.out.kept hg)
 obtain rfl:=M.out a (Ig u.wf).1 a3;have A:=hid u;obtain ⟨l0,l1,l2,l3,f2,f3⟩:=u.wk.cells;clear a0 a3 u HP M o;go_wp2_with fail
 go_loopw [8,6] (fun vi v6 wr=>∃i:Nat,vi= .int .i64 (i:Nat)/\i<=iml.length/\v6= .bool true/\wr=w4) (fun vi _ _=> iml.length - (intOf vi).toNat)
 case atStart=> exact ⟨0,rfl,Nat.zero_le _,rfl,rfl⟩
 case round=>
  obtain ⟨i,rfl,hi,rfl,rfl⟩:=hrel;by_cases a4:i < iml.length
  ·have b6:(0:Int)<=(i:Int):=(by omega);have a9:(i:Int) < (iml.length:Int):=(by omega);obtain ⟨gr,cr,er,b7,b8,r0,r1⟩:=Ag2 A.out.re i a4;simp only [Value.slice.injEq,Option.some.injEq,Addr.mk.injEq,true_and,and_true] at er;obtain ⟨rfl,rfl⟩:=er;rw [if_pos (by simpa using O.out i a4)] at r0;go_wp2_with fail;exact ⟨⟨i+1,by go_num,by omega,rfl,by trivial⟩,by simp [intOf];omega⟩
  ·have a9:¬(i:Int) < (iml.length:Int):=(by omega);have o1:Ak 0 wr v' a:=Al A.out.it (Nat.zero_le _);have o2:Ak 0 wr v a:=Aa HO.out q.out (Nat.le_refl _);have c2:wr.cell? ⟨bh,z,none⟩=some v:=(q.out.cell (p:=⟨bh,z,none⟩) a7.out).trans HC.out;have T:=fun (W:World) (hb:Below wr.heap.size wr W)=> Zx v' v a W (Aa o1 hb (Nat.le_refl _)) (Aa o2 hb (Nat.le_refl _)) hl
   obtain ⟨a1,k1,rfl⟩:=Ab o1;obtain ⟨a2,k2,rfl⟩:=Ab o2;have g3:=fun (d:Nat) (os:Array Obj)=> cell_regrown l3 d os
   have g2:=fun (d:Nat) (os:Array Obj)=> cell_regrown c2 d os
   clear o1 o2;go_upto_region 10 with fail;refine wp_region_quiet_below (by kernel_rfl) (by kernel_rfl) ?_
   repeat (quiet_step (exact Calls.regrown_of (T _ (below_regrown _ _ _))))
   refine wpQuiet_nil ?_;intro wx b2;obtain ⟨⟨dq,b1⟩,D⟩:=b2;have b0:Hid (Below wr.heap.size wr wx):=D▸below_regrown _ dq b1;clear D g3 g2 T;go_wp2_with fail;go_ret;exact ⟨rfl,q.out.trans (b0.out.mono q.out.size)⟩
theorem Vl {k:Int} {key x:ByteArray} (a:Tr.Ew (chP k key x)):Pg.Bt k key.size x.size=true:=by
 unfold Tr.Ew Pg.Ax chP at a;rw [<-len_size key,<-len_size x];exact a
theorem Ai9 {il:List (ByteArray×ByteArray)} {c:Tr.Ch} (b:Tr.WF 0 [] none (plain il)) (f:Tr.Ew c) (k:Tr.Key):Tr.Bj (Tr.Ik (plain il) c) k=Tr.one k (Tr.Bj (plain il) k) c:=
 Tr.Ja (lo:=[]) (hi:=none) k [c] b fun d a=> by rw [List.mem_singleton.1 a];exact ⟨Tr.Jb _,f⟩
theorem Al5 {il a:List (ByteArray×ByteArray)} {c:Tr.Ch} (e:plain a=Tr.Ik (plain il) c):a.length<=il.length+1:=by
 have b:=Tr.Fy [c] (plain il);have d:=congrArg List.length e;rw [Bn] at d b;rw [d];exact b
theorem Aqn (w:World) (p q:Int) (b:0<=p) (c:p < 256) (d:0<=q) (f:q < 256):(convert 108 9 (.slice (some ⟨w.heap.size,0,none⟩) 2 2)).run Tryz.prog (w.alloc (.cells #[.int .u8 p,.int .u8 q] 5))= .ok (.string ⟨#[UInt8.ofNat p.toNat,UInt8.ofNat q.toNat]⟩) (w.alloc (.cells #[.int .u8 p,.int .u8 q] 5)):=by
 have e:=heap_alloc_new w (.cells #[.int .u8 p,.int .u8 q] 5);refine run_convert_bytes_back (P:=Tryz.prog) _ 108 9 5 ⟨w.heap.size,0,none⟩ 2 [UInt8.ofNat p.toNat,UInt8.ofNat q.toNat] Tryz.underlying108 Tryz.underlying5 Tryz.underlying9 (fun j a=> ?_);rw [Dm]
 match j,a with
 | 0,_=> unfold World.cell?;rw [e];show some (Value.int .u8 p)=some (Value.int .u8 ((UInt8.ofNat p.toNat).toNat:Int));rw [Ag3 p b c]
 | 1,_=> unfold World.cell?;rw [e];show some (Value.int .u8 q)=some (Value.int .u8 ((UInt8.ofNat q.toNat).toNat:Int));rw [Ag3 q d f]
def Ip (k:Nat):List UInt8:=[107,UInt8.ofNat (48+k / 10),UInt8.ofNat (48+k % 10)]
def Be (k:Nat):ByteArray:=⟨(Ip k).toArray⟩
theorem Mk (k:Nat):(Be k).data.toList=Ip k:=rfl
theorem Sk:∀k,k < 100->∀j,j < k->Ip j < Ip k:=by decide+kernel
theorem Apn {j k:Nat} (a:j < 100) (h:k<=j):¬Ip j < Ip k:=fun q=> by
 rcases Nat.lt_or_ge k j with z | z
 ·exact Tr.lt_ir _ (Tr.Cz q (Sk j a k z))
 ·have:j=k:=by omega
  rw [this] at q;exact Tr.lt_ir _ q
theorem Wf (k:Nat):Tr.okK (Ip k):=by simp [Tr.okK,Pg.Ei,Ip]
set_option maxHeartbeats 400000 in
theorem Li (k:Nat) (w:World) (n:k < 100):
  Calls Tryz.prog 26 #[.int .i64 (k:Nat)] w fun r w'=> r= .returned (.string (Be k))/\Below w.heap.size w w':=by
 have g:(k:Int).tdiv 10=((k / 10:Nat):Int):=by rw [Int.tdiv_eq_ediv_of_nonneg (by omega)];omega
 have i:(k:Int).tmod 10=((k % 10:Nat):Int):=by rw [Int.tmod_eq_emod_of_nonneg (by omega)];omega
 have j:k / 10 < 10:=by omega
 have l:k % 10 < 10:=by omega
 have b:Hid (Be k=(⟨#[107]⟩:ByteArray)++⟨#[UInt8.ofNat (48+(k / 10:Nat):Int).toNat,UInt8.ofNat (48+(k % 10:Nat):Int).toNat]⟩):=by
  show _=_;have c:(48+((k / 10:Nat):Int)).toNat=48+k / 10:=by omega
  have d:(48+((k % 10:Nat):Int)).toNat=48+k % 10:=by omega
  rw [c,d];exact Gf (by simp [Be,Ip])
 generalize k / 10=x at*;generalize k % 10=y at*;have f:=Aqn w (48+(x:Int)) (48+(y:Int)) (by omega) (by omega) (by omega) (by omega);have key:∀w,(Op.stringOp .add ⟨#[107]⟩ ⟨#[UInt8.ofNat (48+(x:Int)).toNat,UInt8.ofNat (48+(y:Int)).toNat]⟩).run Tryz.prog w= .ok (.string ((⟨#[107]⟩:ByteArray)++⟨#[UInt8.ofNat (48+(x:Int)).toNat,UInt8.ofNat (48+(y:Int)).toNat]⟩)) w:=fun w=> run_string_add_sum w _ _ (show 1+2<=9223372036854775807 by omega)
 have a:=hid ((Below.refl w.heap.size w).alloc (Nat.le_refl _) (.cells #[.int .u8 (48+(x:Int)),.int .u8 (48+(y:Int))] 5));generalize (⟨#[UInt8.ofNat (48+(x:Int)).toNat,UInt8.ofNat (48+(y:Int)).toNat]⟩:ByteArray)=m at*;go_enter Tryz.func26,Tryz.ntmps26;go_wp2_with fail;go_ret;exact ⟨by rw [b.out];rfl,a.out⟩
def Apo (fr tt:Tr.Key) (lo hi:Nat):Prop:=∀k,lo<=k->k < hi->Ld.Im fr tt (Ip k)
structure Ag5 (h p:Nat) (new:List ByteArray) (f:Ld.PT h) (lo hi:Nat):Prop where
 nums:Ld.nums h f=List.range' p new.length
 fits:∀(P:List (Option Ld.Nd)) (fr tt:Tr.Key),(∀i,i < new.length->P[p+i]?=(Ag new)[i]?)->Apo fr tt lo hi->Ld.Co P h fr tt f
structure Mv (h p:Nat) (new:List ByteArray) (lo hi top:Nat) (ts:List (Nat×Nat×Ld.PT h)):Prop where
 nums:Ld.Bb h (ts.map (·.2.2))=List.range' p new.length
 fits:∀x∈ts,∀(P:List (Option Ld.Nd)) (fr tt:Tr.Key),(∀i,i < new.length->P[p+i]?=(Ag new)[i]?)->Apo fr tt x.1 x.2.1->Ld.Co P h fr tt x.2.2
 ord:ts.Pairwise fun x y=> x.2.1<=y.1/\x.1 < y.1
 fst:∀x∈ts,lo<=x.1/\x.2.1<=hi/\x.2.1<=top/\(x.1=lo\/x.1 < hi)
 hd:∀x,ts[0]?=some x->x.1=lo
theorem Mv.nil (h p lo hi b:Nat):Mv h p [] lo hi b []:=⟨rfl,(fun _ a=> by cases a),List.Pairwise.nil,(fun _ a=> by cases a),fun _ a=> by cases a⟩
theorem Mv.up {h p:Nat} {new:List ByteArray} {lo hi c a:Nat} {ts:List (Nat×Nat×Ld.PT h)} (b:Mv h p new lo hi c ts) (f:c<=a):Mv h p new lo hi a ts:=
 ⟨b.nums,b.fits,b.ord,fun x d=> ⟨(b.fst x d).1,(b.fst x d).2.1,Nat.le_trans (b.fst x d).2.2.1 f,(b.fst x d).2.2.2⟩,b.hd⟩
theorem Oh (a b:List ByteArray):Ag (a++b)=Ag a++Ag b:=by unfold Ag;simp
theorem Iq (a:List ByteArray):(Ag a).length=a.length:=by unfold Ag;simp
theorem Mv.snoc {h p:Nat} {new:List ByteArray} {lo hi j:Nat} {ts:List (Nat×Nat×Ld.PT h)} (k:Mv h p new lo hi j ts) {g:List ByteArray} {f:Ld.PT h} {a b d:Nat} (A:Ag5 h (p+new.length) g f a b) (H:j<=a) (m:∀x∈ts,x.1 < a) (n:lo<=a) (I:b<=hi) (o:b<=d) (J:j<=d) (q:a=lo\/a < hi) (s:ts=[]->a=lo):Mv h p (new++g) lo hi d (ts++[(a,b,f)]):=by
 refine ⟨?_,fun x c P t u z l=> ?_,List.pairwise_append.2 ⟨k.ord,by simp,fun x c y G=> ?_⟩,fun x c=> ?_,fun x c=> ?_⟩
 ·rw [List.map_append,Ld.Gh,k.nums,List.length_append];show _++(Ld.nums h f++[])=_;rw [List.append_nil,A.nums];simp
 ·rcases List.mem_append.1 c with c | c
  ·refine k.fits x c P t u (fun i hi=> ?_) l;rw [z i (by rw [List.length_append];omega),Oh,List.getElem?_append_left (by rw [Iq];exact hi)]
  ·rw [List.mem_singleton.1 c] at l ⊢;refine A.fits P t u (fun i hi=> ?_) l;rw [Nat.add_assoc,z (new.length+i) (by rw [List.length_append];omega),Oh,List.getElem?_append_right (by rw [Iq];omega),Iq,Nat.add_sub_cancel_left]
 ·rw [List.mem_singleton.1 G];exact ⟨Nat.le_trans (k.fst x c).2.2.1 H,m x c⟩
 ·rcases List.mem_append.1 c with c | c
  ·obtain ⟨B,C,D,F⟩:=k.fst x c;exact ⟨B,C,Nat.le_trans D J,F⟩
  ·rw [List.mem_singleton.1 c];exact ⟨n,I,o,q⟩
 ·cases ts with
  | nil=> rw [<-Option.some.inj (show some (a,b,f)=some x from c)];exact s rfl
  | cons y r=> exact k.hd x c
theorem Ao3 {h p:Nat} {new:List ByteArray} {P:List (Option Ld.Nd)} {g:Tr.Key} (m:∀i,i < new.length->P[p+i]?=(Ag new)[i]?):∀(ts:List (Nat×Nat×Ld.PT h)) (d:Tr.Key),(∀x∈ts,∀(P:List (Option Ld.Nd)) (d g:Tr.Key),(∀i,i < new.length->P[p+i]?=(Ag new)[i]?)->Apo d g x.1 x.2.1->Ld.Co P h d g x.2.2)->ts.Pairwise (fun x y=> x.2.1<=y.1/\x.1 < y.1)->(∀x∈ts,x.2.1<=100)->(∀x∈ts,Apo d g x.1 x.2.1)->(∀x∈ts.tail,x.1 < 100)->ts≠[]->Ld.FF (Ld.Co P h) (Ld.num h) (List.zipWith (fun c b=> (c,b)) (ts.map fun x=> Ld.num h x.2.2) (Ld.Ib d g ((ts.map fun x=> Ip x.1).tail))) (ts.map (·.2.2))
 | [x],d,hf,_,_,hl,_,_=> ⟨⟨rfl,hf x (by simp) P d g m (hl x (by simp))⟩,trivial⟩
 | x::y::r,d,hf,ho,h100,hl,h99,_=> by
  have f:=List.pairwise_cons.1 ho;have n:y.1 < 100:=h99 y (by simp);refine ⟨⟨rfl,hf x (by simp) P d (Ip y.1) m fun k l j=> ⟨(hl x (by simp) k l j).1,.inr (Sk _ n _ (Nat.lt_of_lt_of_le j (f.1 y (by simp)).1))⟩⟩,?_⟩;refine Ao3 m (y::r) (Ip y.1) (fun z a=> hf z (List.mem_cons_of_mem _ a)) f.2 (fun z a=> h100 z (List.mem_cons_of_mem _ a)) (fun z a k l j=> ⟨?_,(hl z (List.mem_cons_of_mem _ a) k l j).2⟩) (fun z a=> h99 z (List.mem_cons_of_mem _ a)) (by simp);have o:k < 100:=Nat.lt_of_lt_of_le j (h100 z (List.mem_cons_of_mem _ a));refine Apn o (Nat.le_trans ?_ l);rcases List.mem_cons.1 a with e | a
  ·rw [e];exact Nat.le_refl _
  ·exact Nat.le_of_lt ((List.pairwise_cons.1 f.2).1 z a).2
 | [],_,_,_,_,_,_,hn=> absurd rfl hn
end Go.Proofs.YtolgpnaoaodepaaGreat
