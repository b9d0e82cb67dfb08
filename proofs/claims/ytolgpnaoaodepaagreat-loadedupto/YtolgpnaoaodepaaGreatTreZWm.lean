import Derived.Test.YtolgpnaoaodepaaGreatTreZRm
namespace Go.Proofs.YtolgpnaoaodepaaGreat.Tr
theorem Jb (k:Key):inR [] none k:=⟨by simp,fun b a=> by cases a⟩
theorem Hf:room [] none:=fun b a=> by cases a
structure Lvl (V:Key->Option Key) (N:Nat) (h:Nat) (ps:List (Key×Ac h)):Prop where
 chain:Ba (fun f m t=> WF h f m t/\Top h t) (some []) none ps
 val:∀k,val (h+1) (brT ps []) k=V k
 wt:wts ps+(ps.length - 1)<=2*N
theorem Lvl.start {h:Nat} {t:Ac h} (a:WF h [] none t) (b:Gw h t) {V:Key->Option Key} (c:∀k,Tr.val h t k=V k) {N:Nat} (d:Tr.wt h t<=2*N):Lvl V N h (Gg h [] t):=
 ⟨Js h Hf a b,fun k=> (Aef h Hf a b k (Jb k)).trans (c k),Nat.le_trans (Acp h [] t) d⟩
theorem Lvl.wf {V:Key->Option Key} {N h:Nat} {a:List (Key×Ac h)} (d:Lvl V N h a):WF (h+1) [] none (brT a [])/\Gw (h+1) (brT a []):=⟨⟨d.chain,fun c b=> by cases b⟩,Nat.zero_le _⟩
theorem Lvl.wtb {V:Key->Option Key} {N h:Nat} {a:List (Key×Ac h)} (b:Lvl V N h a) (c:1 < a.length):Tr.wt (h+1) (brT a [])<=2*N:=by
 rw [Jt];have:=b.wt;show 2*0+_+_<=_;omega
theorem Lvl.up {V:Key->Option Key} {N h:Nat} {b:List (Key×Ac h)} (a:Lvl V N h b) (c:1 < b.length):Lvl V N (h+1) (Gg (h+1) [] (brT b [])):=Lvl.start a.wf.1 a.wf.2 a.val (a.wtb c)
theorem Ah5 {α:Type} (l:List α):(shares l 4).length=(l.length+3) / 4:=by unfold shares;rw [Jq];omega
theorem Ah6 {h:Nat} (a:List (List (Key×Ac h))) (b:List Ch):(Ep a b).length=a.length:=by simp [Ep]
theorem Agf {h:Nat} {a:List (Key×Ac h)} (c:1 < a.length):(Gg (h+1) [] (brT a [])).length < a.length:=by
 by_cases b:4 < a.length
 ·rw [Nl b,Ah6,Ah5];omega
 ·rw [Jr b];exact c
theorem Lvl.pos {V:Key->Option Key} {N h:Nat} {a:List (Key×Ac h)} (b:Lvl V N h a):0 < a.length:=by
 cases a with
 | nil=> exact absurd (show some []=none from b.chain) (by simp)
 | cons x r=> simp
theorem Lvl.len {V:Key->Option Key} {N h:Nat} {a:List (Key×Ac h)} (b:Lvl V N h a):a.length<=N:=by
 have c:a.length<=wts a:=Hd b.chain;have:=b.wt;omega
structure Acr (V:Key->Option Key) (N:Nat) (h:Nat) (t:Ac h):Prop where
 wf:WF h [] none t
 top:Top h t
 val:∀k,Tr.val h t k=V k
 wt:Tr.wt h t<=2*N
theorem Lvl.root {V:Key->Option Key} {N h:Nat} {f:Key} {t:Ac h} (a:Lvl V N h [(f,t)]):Acr V N h t:=by
 obtain ⟨e,m,d,b,c⟩:=a.chain;obtain rfl:[]=f:=Option.some.inj e;obtain rfl:m=none:=c;refine ⟨b.1,b.2,fun k=> a.val k,?_⟩;have:=a.wt;rw [Dr,Ot] at this;exact this
theorem Acr.idle {V:Key->Option Key} {N h:Nat} {f:Key} {t:Ac h} (a:Acr V N (h+1) (brT [(f,t)] [])):Acr V N h t:=by
 obtain ⟨e,m,d,b,c⟩:=a.wf.1;obtain rfl:[]=f:=Option.some.inj e;obtain rfl:m=none:=c;refine ⟨b.1,b.2,fun k=> a.val k,?_⟩;have:=a.wt;rw [Jt,Dr,Ot] at this;have this:2*0+(Tr.wt h t+0)+(1 - 1+(2 - 1))<=2*N:=this;omega
end Go.Proofs.YtolgpnaoaodepaaGreat.Tr
namespace Go.Proofs.YtolgpnaoaodepaaGreat
open Go.RowKit
namespace Pg
theorem Xx:∀(c:List Nat) (d:List (List UInt8)) (s:Nat) (k:List UInt8),c.length=d.length->Ci (c++[s]) (d++[k])=Ci c d++Sw s k
 | [],[],s,k,_=> by simp [Ci]
 | a::c,b::d,s,k,h=> by
  rw [List.cons_append,List.cons_append,Ci,Xx c d s k (by simpa using h),Ci,List.append_assoc]
 | [],b::d,_,_,h=> by simp at h
 | a::c,[],_,_,h=> by simp at h
theorem Ak0 {n:Nat} (h:0 < n):many n=many (n - 4)+1:=by unfold many;omega
theorem Amf (k v:List UInt8) (r:List (List UInt8×List UInt8)):Aib ((k,v)::r)=Sw (base ((k,v)::r)).length k:=rfl
end Pg
theorem Ak1 (r:List (ByteArray×ByteArray)) (d:ByteArray) (m:List UInt8) (q:List (List UInt8×List UInt8)) (h:plain r=(d.data.toList,m)::q) (n:Nat) (o:n=min r.length 4) (a:List UInt8) (g:Pg.base (plain r)=a):
  Pg.entries (Pg.many r.length) (plain r)=Pg.Sw a.length d.data.toList++Pg.entries (Pg.many (r.drop n).length) (plain (r.drop n))/\Pg.Ki (Pg.many r.length) (plain r)=a++Pg.Ki (Pg.many (r.drop n).length) (plain (r.drop n))/\Pg.many r.length=Pg.many (r.drop n).length+1:=by
 have c:(plain r).length=r.length:=by simp [plain]
 have i:0 < r.length:=by rw [<-c,h];simp
 have b:plain r≠[]:=by rw [h];simp
 have f:r.drop n=r.drop 4:=by
  by_cases l:r.length<=4
  ·rw [List.drop_eq_nil_of_le (show r.length<=n by omega),List.drop_eq_nil_of_le l]
  ·rw [show n=4 by omega]
 have j:Pg.many r.length=Pg.many (r.drop n).length+1:=by rw [f,List.length_drop];exact Pg.Ak0 i
 have k:Pg.Aib (plain r)=Pg.Sw a.length d.data.toList:=by rw [<-g,h,Pg.Amf]
 rw [j,Acg _ _ b,Agm _ _ b,<-Agk,<-f,k,g];exact ⟨rfl,rfl,rfl⟩
theorem Ah7 {w:World} {b c a:Nat} {r:List (ByteArray×ByteArray)} (d:Hb w b c r) (f:b < w.heap.size) (g:r.length<=a) (i:a<=9223372036854775807) (n:Nat):Eu w (.slice (some ⟨b,c+n*2,none⟩) (r.length - n) (a - n)) (r.drop n):=by
 refine .inr ⟨b,c+n*2,a - n,by rw [List.length_drop],by rw [List.length_drop];omega,by omega,f,?_⟩;have:=d.part n r.length;rw [List.take_of_length_le (by rw [List.length_drop];omega)] at this;exact this
theorem Aep {w:World} {b c a:Nat} {r:List (ByteArray×ByteArray)} (d:Hb w b c r) (i:b < w.heap.size) (f:r.length<=a) (g:a<=9223372036854775807) (n:Nat):Eu w (.slice (if a=n then some ⟨b,c,none⟩ else some ⟨b,c+n*2,none⟩) (r.length - n) (a - n)) (r.drop n):=by
 by_cases h:a=n
 ·rw [if_pos h,show r.length - n=0 by omega];exact .inl ⟨_,_,rfl,List.drop_eq_nil_of_le (by omega)⟩
 ·rw [if_neg h];exact Ah7 d i f g n
theorem Uu (a:List ByteArray) (f:ByteArray):lists (a++[f])=lists a++[f.data.toList]:=by simp [lists]
set_option maxHeartbeats 4000000 in
set_option maxRecDepth 20000 in
theorem Aac (v:Value) (l:List (ByteArray×ByteArray)) (w:World) (hv:Eu w v l) (hl:l.length<=16) (c8:∀x∈l,x.1.size<=12/\x.2.size<=16):
  Calls Tryz.prog 129 #[v] w fun r w'=> r= .returned (.string ⟨(Pg.Sp (plain l)).toArray⟩)/\Below w.heap.size w w':=by
 have HV:=hid hv;have c9:=hid c8;clear hv c8;have a3:=hid (Ab8 w.heap.size w w (Below.refl _ w) (Nat.le_refl _));go_enter Tryz.func129,Tryz.ntmps129;go_wp2_with fail
 go_loopw [0,4] (fun x s wr=>∃(r:List (ByteArray×ByteArray)) (body:ByteArray) (c:List Nat) (d:List ByteArray) (vs vf:Value),Eu w x r/\s= .string body/\LHd w.heap.size w.heap.size w wr c d vs vf/\r.length<=16/\(∀y∈r,y.1.size<=12/\y.2.size<=16)/\c.length=d.length/\(∀f∈d,f.size<=12)/\c.length+Pg.many r.length=Pg.many l.length/\body.size<=c.length*1000/\Pg.Ci c (lists d)++Pg.entries (Pg.many r.length) (plain r)=Pg.entries (Pg.many l.length) (plain l)/\body.data.toList++Pg.Ki (Pg.many r.length) (plain r)=Pg.Ki (Pg.many l.length) (plain l)) (fun x _ _=> match x with | .slice _ n _=> n | _=> 0)
 case atStart=> exact ⟨l,⟨#[]⟩,[],[],_,_,HV.out,rfl,a3.out,hl,c9.out,rfl,by simp,by simp,by decide,by simp [Pg.Ci],by simp⟩
 case round=>
  clear a3;obtain ⟨r,body,c,d,vs,vf,Z,rfl,g,f7,b3,b4,b5,H,f0,m,o⟩:=hrel;have a5:=hid g;have L:=hid b3;have t:=hid b4;have V:=hid b5;have F:=hid H;have a7:=hid m;have a8:=hid o;have j:=hid g.bel;have f3:=g.lt;have f8:Pg.many l.length<=4:=by unfold Pg.many;omega
  have f4:c.length<=4:=by omega
  obtain ⟨d0,d1,z0,z1⟩:=g.cells;obtain ⟨sa,sc,rfl⟩:=Ab g.szs;obtain ⟨fa,fc,rfl⟩:=g.fst.shape;clear g b3 b4 b5 H m o;obtain ⟨xa,xc,rfl⟩:=Z.shape;by_cases i:0 < r.length
  ·obtain ⟨b,B,g9,f1,a0,I,J,M⟩:=Z.resolve_left (by rintro ⟨_,_,_,rfl⟩;simp at i);injection f1 with hve1 hve2 hve3;subst hve1 hve3;have d2:=hid M;obtain ⟨n,hn⟩:∃n:Nat,n=min r.length 4:=⟨_,rfl⟩;have f9:min (r.length:Int) 4=(n:Int):=(by omega);have d3:n<=r.length/\n<=4/\0 < n:=(by omega);have HN:=hid hn;have W:Hid (Pg.Bg [98] (Pg.Bx (plain (r.take n)))=Pg.base (plain r)):=by
    show _=_;unfold Pg.base;rw [Agl,hn];by_cases h4:r.length<=4
    ·rw [List.take_of_length_le (show (plain r).length<=min r.length 4 by simp [plain];omega),List.take_of_length_le (show (plain r).length<=4 by simp [plain];omega)]
    ·rw [show min r.length 4=4 by omega]
   have g0:=Pg.Lm (plain (r.take n)) (Ali (fun x hx=> L.out x (List.mem_of_mem_take hx)));have f5:(plain (r.take n)).length<=4:=(by simp [plain];omega);have d4:Hid (Eu wr (.slice (some ⟨b,B,none⟩) n xc) (r.take n)):=by
    refine .inr ⟨b,B,xc,by rw [List.length_take,Nat.min_eq_left d3.1],by rw [List.length_take];omega,I,by omega,?_⟩;have:=(M.below j.out J).part 0 n;simpa using this
   have A:=(M.below j.out J) 0 i;have d5:Hid (∃q,plain r=((r[0]'i).1.data.toList,(r[0]'i).2.data.toList)::q):=by
    cases r with
    | nil=> simp at i
    | cons y ys=> exact ⟨plain ys,rfl⟩
   have N:=(L.out _ (List.getElem_mem i)).1;generalize r[0]'i=y at*;obtain ⟨R,vb⟩:=y;simp only [Nat.zero_mul,Nat.add_zero] at A N;obtain ⟨A,-⟩:=A;have d6:Hid (w.cell? ⟨b,B,none⟩=some (.string R)):=((j.out.cell (p:=⟨b,B,none⟩) J).symm.trans A);clear hn M Z;have g1:(0:Int)<=(n:Int):=(by omega);have g2:(n:Int)<=(xc:Int):=(by omega);go_wp2_with fail;refine (Adw _ (r.take n) _ d4.out (by rw [List.length_take];omega) (fun x hx=> by have:=L.out x (List.mem_of_mem_take hx);omega)).mono ?_;rintro r2 w2 ⟨v2,rfl,c0,C⟩;have d7:=hid c0;have X:=hid C;have d8:=C.size;clear c0 C;go_wp2_with fail;refine (Lr wr.heap.size 98 v2 _ _ d7.out (by omega)).mono ?_;rintro r2 w3 ⟨rfl,c1⟩;have a9:=hid (X.out.trans (c1.mono d8));have b0:=Pg.Gu [98] (Pg.Bx (plain (r.take n))) (by omega);rw [W.out] at b0 ⊢;have a:=hid (a5.out.below a9.out);have O:=hid (a9.out.cell (p:=⟨b,B,none⟩) (show b < _ by omega));have c3:=O.out.trans A;obtain ⟨b6,b7,b8,b9⟩:=a.out.cells;have d9:=a.out.lt;clear c1 d0 d1 z0 z1 A O;have f6:(Pg.base (plain r)).length<=300:=(by simp at b0;omega);generalize U:Pg.base (plain r)=D at*;have b1:=hid U;clear U;have e2:=Ck D;go_wp2_with (first
    | (at_builtin;refine Iw w3 rfl (.tmp 19) (.tmp 22) 25 3 Tryz.underlying25 _ 1 8 My rfl (by decide) (by decide) rfl (w.heap.size+1) (.slice sa c.length sc) c.length (Bk c) rfl a.out.szs [.int .i64 (D.length:Int)] rfl (by intro u hu;simp at hu;subst hu;rfl) rfl (by omega) d9 ?_))
   intro v4 w4 a1 c2 S;obtain ⟨a4,c4,rfl⟩:=Ab a1;have HA:=hid (a.out.apN a1 c2 S);obtain ⟨e0,e1,y0,y1⟩:=a.out.mid HA.out.1;clear a1 c2 S b6 b7 b8 b9 c3;generalize c7:c.length+1=l4 at*;have g3:=hid c7;clear c7;go_wp2_with fail;have Y:=hid HA.out.2;clear HA e0 e1 y0 y1 a;generalize w4.setCell ⟨w.heap.size,0,none⟩ (.slice a4 l4 c4)=w5 at*;obtain ⟨d0,d1,z0,z1⟩:=Y.out.cells;have k5:=(Y.out.bel.cell (p:=⟨b,B,none⟩) J).trans d6.out;have G:=hid (Y.out.below (((Below.refl _ w5).alloc (Nat.le_refl _) (.cells #[.string R] 9)).drew));have e3:Hid (((w5.alloc (.cells #[.string R] 9)).drew).cell? ⟨w5.heap.size,0,none⟩=some (.string R)):=Adu w5 _ _;obtain ⟨-,h0,-,h1⟩:=G.out.cells;have b2:d.length<=4:=(by rw [<-t.out];omega);have g4:(0:Int) < (r.length:Int):=by omega
   go_region_law (refine Ach _ (by rfl) (.tmp 26) (.tmp 31) (by rfl) (w.heap.size+1) (.slice fa d.length fc) d (by simp [Act.eval]) G.out.fst R w5.heap.size (by simp [Act.eval]) e3.out (by omega) G.out.lt ?_;intro v6 w6 a2 c5 T;obtain ⟨a6,c6,rfl⟩:=a2.shape;generalize f2:(d++[R]).length=l6 at*;clear f2;have HB:=hid (G.out.apF a2 c5 T);obtain ⟨b6,b7,b8,b9⟩:=G.out.mid HB.out.1;clear a2 c5 T)
   all_goals
    have g5:(0:Int)<=(n:Int):=(by omega);have g6:(n:Int)<=(r.length:Int):=(by omega);have e1:∀w,(Op.stringOp .add body ⟨D.toArray⟩).run Tryz.prog w= .ok (.string (body++⟨D.toArray⟩)) w:=fun w=> run_string_add_sum w _ _ (by omega)
    go_wp2_with fail
    go_roundw
    case rel=>
     obtain ⟨q,hq⟩:=d5.out;obtain ⟨s1,s2,s3⟩:=Ak1 r R _ q hq n HN.out D b1.out;refine ⟨r.drop n,_,c++[D.length],d++[R],_,_,Aep d2.out J a0 I n,rfl,HB.out.2,by rw [List.length_drop];omega,fun z hz=> L.out z (List.mem_of_mem_drop hz),by rw [List.length_append,List.length_append,t.out];rfl,?_,?_,?_,?_,?_⟩
     ·intro f hf;rcases List.mem_append.1 hf with h | h
      ·exact V.out f h
      ·rw [List.mem_singleton.1 h];exact N
     ·have:=F.out;rw [List.length_append,<-this,s3];simp;omega
     ·rw [ByteArray.size_append',e2,List.length_append];simp;omega
     ·rw [Uu,Pg.Xx _ _ _ _ (by rw [t.out];simp [lists]),<-a7.out,s1,List.append_assoc]
     ·rw [<-a8.out,s2];simp
    case measure=> simp;omega
  ·have e4:r=[]:=List.length_eq_zero_iff.1 (by omega);subst e4;have e5:Hid (Pg.Ci c (lists d)=Pg.entries (Pg.many l.length) (plain l)):=by
    show _=_;rw [<-a7.out];simp [Pg.many,Pg.entries]
   have e6:Hid (body.data.toList=Pg.Ki (Pg.many l.length) (plain l)):=by
    show _=_;rw [<-a8.out];simp [Pg.many,Pg.Ki]
   have e7:Hid (c.length=Pg.many l.length):=by
    show _=_;rw [<-F.out];simp [Pg.many]
   have b2:d.length<=4:=(by rw [<-t.out];omega);have e8:=hid (a5.out.isLH (by omega) (by omega));go_wp2_with fail;refine (Pe _ c d _ e8.out t.out b2 V.out).mono ?_;rintro r2 w2 ⟨rfl,C⟩;have X:=hid (j.out.trans (C.mono (by omega)));have g7:(Pg.Fq c (lists d)).length<=200:=by
    have hh:=Pg.Sx c (lists d) (by rw [t.out];simp [lists]) (by intro k hk;simp only [lists,List.mem_map] at hk;obtain ⟨f,hf,rfl⟩:=hk;rw [len_size];exact V.out f hf);unfold Pg.Fq;rw [Pg.Lb];simp only [List.length_append,Pg.Cp,List.length_replicate,hh];simp;omega
   have e9:Hid (Pg.Fq c (lists d)++body.data.toList=Pg.Sp (plain l)):=by
    show _=_;unfold Pg.Fq Pg.Sp;rw [show (plain l).length=l.length by simp [plain],e5.out,e6.out,e7.out]
   generalize Pg.Fq c (lists d)=hw at*;have g8:=Ck hw;have e1:∀w,(Op.stringOp .add ⟨hw.toArray⟩ body).run Tryz.prog w= .ok (.string (⟨hw.toArray⟩++body)) w:=fun w=> run_string_add_sum w _ _ (by omega)
   clear C;go_wp2_with fail;go_ret;exact ⟨Aic (by rw [<-e9.out];simp),X.out⟩
theorem Fz {a b:Bool} (h:a=b):Ending.returned (.bool a)= .returned (.bool b):=by rw [h]
set_option maxHeartbeats 400000 in
theorem Tb (s:ByteArray) (w:World):Calls Tryz.prog 60 #[.string s] w fun r w'=> r= .returned (.bool (Pg.Ei s.size))/\w'=w:=by
 go_enter Tryz.func60,Tryz.ntmps60;by_cases a:1<=s.size
 ·have b:decide ((1:Int)<=(s.size:Int))=true:=by simp;omega
  go_wp2_with fail;go_ret;exact ⟨Fz (by unfold Pg.Ei;rw [decide_eq_true a];simp;omega),rfl⟩
 ·have b:decide ((1:Int)<=(s.size:Int))=false:=by simp;omega
  go_wp2_with fail;go_ret;exact ⟨Fz (by unfold Pg.Ei;rw [decide_eq_false a];rfl),rfl⟩
set_option maxHeartbeats 400000 in
theorem Uv (s:ByteArray) (w:World):Calls Tryz.prog 61 #[.string s] w fun r w'=> r= .returned (.bool (decide (s.size<=16)))/\w'=w:=by
 go_enter Tryz.func61,Tryz.ntmps61;go_wp2_with fail;go_ret;exact ⟨Fz (by simp;omega),rfl⟩
theorem Fe {f:FuncId} {args:Array Value} {w:World} {n:Nat} {v:Value} (h:Calls Tryz.prog f args (w.drewN n) fun e w'=> e= .returned v/\w'=w.drewN n):Calls Tryz.prog f args (w.drewN n) fun e a=> e= .returned v/\∃m,a=w.drewN m:=
 h.mono fun _ _ ⟨b,c⟩=> ⟨b,n,c⟩
set_option maxHeartbeats 1000000 in
set_option maxRecDepth 100000 in
theorem Rm (v:Value) (l:List (ByteArray×ByteArray)) (w:World) (T:Eu w v l) (hl:l.length<=1000000000):
  Calls Tryz.prog 195 #[v] w fun r w'=> r= .returned (.bool (Pg.Dl none (plain l)))/\Below w.heap.size w w':=by
 obtain ⟨va,vc,rfl⟩:=T.shape;have Y:=hid T;clear T;go_enter Tryz.func195,Tryz.ntmps195;go_wp2_with fail
 go_loopw [7] (fun i wr=>∃k:Nat,k<=l.length/\i= .int .i64 k/\Pg.Dl (Lo (plain l) k) (plain (l.drop k))=Pg.Dl none (plain l)/\Below w.heap.size w wr) (fun i _=> l.length - (intOf i).toNat)
 case atStart=> exact ⟨0,Nat.zero_le _,rfl,rfl,Below.refl _ _⟩
 case round=>
  obtain ⟨k,hk,rfl,D,j⟩:=hrel;have a:=hid D;have o:=hid j;have q:=j.size;clear D j;by_cases m:k < l.length
  ·obtain ⟨b,a4,a5,L,M,N,F,G⟩:=Y.out.resolve_left (by rintro ⟨_,_,_,rfl⟩;simp at m);injection L with hve1 hve2 hve3;subst hve1 hve3;have s:=hid G;clear G;obtain ⟨U,V⟩:=s.out.below o.out F k m;generalize R:l[k]'m=x at*;obtain ⟨c,n⟩:=x;simp only at U V;have H:Hid (plain (l.drop k)=(c.data.toList,n.data.toList)::plain (l.drop (k+1))):=by
    show _=_;rw [List.drop_eq_getElem_cons m,R];rfl
   have t:Hid (Lo (plain l) (k+1)=some c.data.toList):=by
    show _=_;unfold Lo plain;rw [if_neg (by omega),Nat.add_sub_cancel,List.getElem?_map,List.getElem?_eq_getElem m,R];rfl
   clear R;rw [H.out,Pg.Aok,len_size,len_size] at a;have Z:(0:Int)<=(k:Int):=(by omega);have a0:(k:Int) < (l.length:Int):=(by omega);have u:∀W,Calls Tryz.prog 60 #[.string c] W fun r w'=> r= .returned (.bool (Pg.Ei c.size))/\w'=W:=fun W=> Tb c W
   have z:∀W,Calls Tryz.prog 61 #[.string n] W fun r w'=> r= .returned (.bool (decide (n.size<=16)))/\w'=W:=fun W=> Uv n W
   have D0:=hid (show (wr.alloc (.cells #[.string c,.string n] 51)).cell? ⟨wr.heap.size,0,none⟩=some (.string c) by simp);have D1:=hid (show (wr.alloc (.cells #[.string c,.string n] 51)).cell? ⟨wr.heap.size,1,none⟩=some (.string n) by simp);have d:=hid (o.out.alloc q (.cells #[.string c,.string n] 51));generalize a6:Pg.Ei c.size=kk at*;generalize a7:decide (n.size<=16)=vv at*;go_wp2_with fail;generalize (wr.alloc (.cells #[.string c,.string n] 51))=w2 at*;generalize wr.heap.size=xb at*;have k0:=D0.out;have k1:=D1.out;clear U V
   cases kk
   ·have A:Hid (Pg.Dl none (plain l)=false):=by
     show _=_;rw [<-a.out];rfl
    go_quiet (first | exact Fe (u _) | exact Fe (z _));go_wp2_with fail;go_ret;exact ⟨by rw [A.out];rfl,Am d.out _⟩
   ·cases vv
    ·have A:Hid (Pg.Dl none (plain l)=false):=by
      show _=_;rw [<-a.out];rfl
     go_quiet (first | exact Fe (u _) | exact Fe (z _));go_wp2_with fail;go_ret;exact ⟨by rw [A.out];rfl,Am d.out _⟩
    ·by_cases p:k=0
     ·have I:Hid (Pg.Dl (Lo (plain l) (k+1)) (plain (l.drop (k+1)))=Pg.Dl none (plain l)):=by
       show _=_;rw [<-a.out,t.out,p];rfl
      have J:decide (0 < k)=false:=(by simp;omega);clear p;go_quiet (first | exact Fe (u _) | exact Fe (z _));go_wp2_with fail
      go_roundw
      case rel=> exact ⟨k+1,by omega,by go_num,I.out,Am d.out _⟩
      case measure=> simp [intOf];omega
     ·have J:decide (0 < k)=true:=(by simp;omega);have f:k - 1 < l.length:=(by omega);obtain ⟨e0,X⟩:=s.out.below d.out F (k - 1) f;have B:Hid (Lo (plain l) k=some (l[k - 1]'f).1.data.toList):=by
       show _=_;unfold Lo plain;rw [if_neg p,List.getElem?_map,List.getElem?_eq_getElem f];rfl
      generalize l[k - 1]'f=y at*;obtain ⟨O,yv⟩:=y;simp only at e0 X;have a1:IntKind.i64.wrap ((k:Int) - 1)=((k - 1:Nat):Int):=(by rw [IntWalk.i64_in _ ⟨by omega,by omega⟩];omega);have a2:((k - 1:Nat):Int) < (l.length:Int):=(by omega);have a3:Hid (k - 1 < l.length):=f;generalize S:k - 1=jp at*;clear S f X;by_cases g:O.data.toList < c.data.toList
      ·have I:Hid (Pg.Dl (Lo (plain l) (k+1)) (plain (l.drop (k+1)))=Pg.Dl none (plain l)):=by
        show _=_;rw [<-a.out,t.out,B.out];simp [Pg.Gv,g]
       have C:Op.bytesLess O.toList c.toList=true:=(by rw [Ah,Ah,Db];exact decide_eq_true g);clear g;go_quiet (first | exact Fe (u _) | exact Fe (z _));go_wp2_with fail
       go_roundw
       case rel=> exact ⟨k+1,by omega,by go_num,I.out,Am d.out _⟩
       case measure=> simp [intOf];omega
      ·have A:Hid (Pg.Dl none (plain l)=false):=by
        show _=_;rw [<-a.out,B.out];simp [Pg.Gv,g]
       have C:Op.bytesLess O.toList c.toList=false:=(by rw [Ah,Ah,Db];exact decide_eq_false g);clear g;go_quiet (first | exact Fe (u _) | exact Fe (z _));go_wp2_with fail;go_ret;exact ⟨by rw [A.out];rfl,Am d.out _⟩
  ·have HT:Hid (Pg.Dl none (plain l)=true):=by
    show _=_;rw [<-a.out,List.drop_eq_nil_of_le (by omega)];rfl
   go_wp2_with fail;go_ret;exact ⟨by rw [HT.out];rfl,o.out⟩
namespace Pg
theorem Aad (p:Option (List UInt8)) (k:List UInt8) (r:List (List UInt8)):Az (k::r) p=(Ei k.length&&Gv p k&&Az r (some k)):=rfl
end Pg
set_option maxHeartbeats 1000000 in
set_option maxRecDepth 100000 in
theorem Uw (v:Value) (l:List ByteArray) (w:World) (hv:Iv w v l.length (l.map .string)):
  Calls Tryz.prog 197 #[v] w fun r w'=> r= .returned (.bool (Pg.Az (lists l) none))/\Below w.heap.size w w':=by
 obtain ⟨va,vc,rfl,hl,o⟩:=hv;have R:=hid o;clear o;go_enter Tryz.func197,Tryz.ntmps197;go_wp2_with fail
 go_loopw [7] (fun i wr=>∃k:Nat,k<=l.length/\i= .int .i64 k/\Pg.Az (lists (l.drop k)) (Pu (lists l) k)=Pg.Az (lists l) none/\Below w.heap.size w wr) (fun i _=> l.length - (intOf i).toNat)
 case atStart=> exact ⟨0,Nat.zero_le _,rfl,rfl,Below.refl _ _⟩
 case round=>
  obtain ⟨k,hk,rfl,y,g⟩:=hrel;have c:=hid y;have a:=hid g;have O:=g.size;clear y g;by_cases m:k < l.length
  ·obtain ⟨b,a0,I,z,p⟩:=R.out.resolve_left (by omega);subst I;have c0:=Ab0 (pl:=l) p a.out z k m;have B:=hid (fun j hj=> Ab0 (pl:=l) p a.out z j hj);clear p;generalize L:l[k]'m=n at*;have C:Hid (lists (l.drop k)=n.data.toList::lists (l.drop (k+1))):=by
    show _=_;rw [List.drop_eq_getElem_cons m,L];rfl
   have s:Hid (Pu (lists l) (k+1)=some n.data.toList):=by
    show _=_;unfold Pu lists;rw [if_neg (by omega),Nat.add_sub_cancel,List.getElem?_map,List.getElem?_eq_getElem m,L];rfl
   clear L;rw [C.out,Pg.Aad,len_size] at c;have S:(0:Int)<=(k:Int):=(by omega);have T:(k:Int) < (l.length:Int):=(by omega);have A:∀W,Calls Tryz.prog 60 #[.string n] W fun r w'=> r= .returned (.bool (Pg.Ei n.size))/\w'=W:=fun W=> Tb n W
   generalize a1:Pg.Ei n.size=kk at*
   cases kk
   ·have D:Hid (Pg.Az (lists l) none=false):=by
     show _=_;rw [<-c.out];rfl
    go_wp2_with fail;refine (A _).mono ?_;rintro r J ⟨rfl,rfl⟩;go_wp2_with fail;go_ret;exact ⟨by rw [D.out];rfl,a.out⟩
   ·by_cases q:k=0
    ·have F:Hid (Pg.Az (lists (l.drop (k+1))) (Pu (lists l) (k+1))=Pg.Az (lists l) none):=by
      show _=_;rw [<-c.out,s.out,q];rfl
     have G:decide (0 < k)=false:=(by simp;omega);have H:¬0 < k:=(by omega);clear q;go_wp2_with fail;refine (A _).mono ?_;rintro r J ⟨rfl,rfl⟩;go_wp2_with fail
     go_roundw
     case rel=> exact ⟨k+1,by omega,by go_num,F.out,a.out⟩
     case measure=> simp [intOf];omega
    ·have G:decide (0 < k)=true:=(by simp;omega);have H:0 < k:=(by omega);have d:k - 1 < l.length:=(by omega);have e0:=B.out (k - 1) d;have t:Hid (Pu (lists l) k=some (l[k - 1]'d).data.toList):=by
      show _=_;unfold Pu lists;rw [if_neg q,List.getElem?_map,List.getElem?_eq_getElem d];rfl
     generalize l[k - 1]'d=N at*;have U:IntKind.i64.wrap ((k:Int) - 1)=((k - 1:Nat):Int):=(by rw [IntWalk.i64_in _ ⟨by omega,by omega⟩];omega);have V:(k:Int) - 1=((k - 1:Nat):Int):=(by omega);have X:((k - 1:Nat):Int) < (l.length:Int):=(by omega);have Y:Hid (k - 1 < l.length):=d;generalize M:k - 1=jp at*;clear M d;by_cases f:N.data.toList < n.data.toList
     ·have F:Hid (Pg.Az (lists (l.drop (k+1))) (Pu (lists l) (k+1))=Pg.Az (lists l) none):=by
       show _=_;rw [<-c.out,s.out,t.out];simp [Pg.Gv,f]
      have u:Op.bytesLess N.toList n.toList=true:=(by rw [Ah,Ah,Db];exact decide_eq_true f);clear f;go_wp2_with fail;refine (A _).mono ?_;rintro r J ⟨rfl,rfl⟩;go_wp2_with fail
      go_roundw
      case rel=> exact ⟨k+1,by omega,by go_num,F.out,a.out⟩
      case measure=> simp [intOf];omega
     ·have D:Hid (Pg.Az (lists l) none=false):=by
       show _=_;rw [<-c.out,t.out];simp [Pg.Gv,f]
      have u:Op.bytesLess N.toList n.toList=false:=(by rw [Ah,Ah,Db];exact decide_eq_false f);clear f;go_wp2_with fail;refine (A _).mono ?_;rintro r J ⟨rfl,rfl⟩;go_wp2_with fail;go_ret;exact ⟨by rw [D.out];rfl,a.out⟩
  ·have Z:Hid (Pg.Az (lists l) none=true):=by
    show _=_;rw [<-c.out,List.drop_eq_nil_of_le (by omega)];rfl
   go_wp2_with fail;go_ret;exact ⟨by rw [Z.out];rfl,a.out⟩
set_option maxHeartbeats 1000000 in
set_option maxRecDepth 100000 in
theorem Vs (v:Value) (l:List Int) (w:World) (C:Iv w v l.length (l.map (.int .i64))):
  Calls Tryz.prog 196 #[v] w fun r w'=> r= .returned (.bool (decide (1<=l.length)&&decide (l.length<=4)&&l.all Pg.Bv))/\Below w.heap.size w w':=by
 obtain ⟨F,vc,rfl,G,f⟩:=C;have t:=hid f;clear f;go_enter Tryz.func196,Tryz.ntmps196;by_cases I:l.length < 1
 ·go_wp2_with fail;go_ret;exact ⟨Fz (by rw [decide_eq_false (show ¬1<=l.length by omega)];rfl),Below.refl _ _⟩
 ·by_cases J:4 < l.length
  ·go_wp2_with fail;go_ret;exact ⟨Fz (by rw [decide_eq_false (show ¬l.length<=4 by omega)];simp),Below.refl _ _⟩
  ·have o:Hid ((decide (1<=l.length)&&decide (l.length<=4)&&l.all Pg.Bv)=l.all Pg.Bv):=by
    show _=_;rw [decide_eq_true (show 1<=l.length by omega),decide_eq_true (show l.length<=4 by omega)];rfl
   go_wp2_with fail
   go_loopw [15] (fun i wr=>∃k:Nat,k<=l.length/\i= .int .i64 k/\(l.drop k).all Pg.Bv=l.all Pg.Bv/\Below w.heap.size w wr) (fun i _=> l.length - (intOf i).toNat)
   case atStart=> exact ⟨0,Nat.zero_le _,rfl,rfl,Below.refl _ _⟩
   case round=>
    obtain ⟨k,H,rfl,m,g⟩:=hrel;have a:=hid m;have d:=hid g;clear m g;by_cases j:k < l.length
    ·obtain ⟨b,z,q,s,n⟩:=t.out.resolve_left (by omega);subst q;have D:=Aq4 (pl:=l) n d.out s k j;clear n;rw [List.drop_eq_getElem_cons j,List.all_cons] at a;generalize l[k]'j=c at*;by_cases A:c < 0
     ·have p:Hid (l.all Pg.Bv=false):=by
       show _=_;rw [<-a.out];unfold Pg.Bv;rw [decide_eq_false (show ¬0<=c by omega)];rfl
      go_wp2_with fail;go_ret;exact ⟨by rw [o.out,p.out];rfl,d.out⟩
     ·by_cases B:2147483647 < c
      ·have p:Hid (l.all Pg.Bv=false):=by
        show _=_;rw [<-a.out];unfold Pg.Bv;rw [decide_eq_false (show ¬c<=2147483647 by omega)];simp
       go_wp2_with fail;go_ret;exact ⟨by rw [o.out,p.out];rfl,d.out⟩
      ·have u:Hid ((l.drop (k+1)).all Pg.Bv=l.all Pg.Bv):=by
        show _=_;rw [<-a.out];unfold Pg.Bv;rw [decide_eq_true (show 0<=c by omega),decide_eq_true (show c<=2147483647 by omega)];simp
       go_wp2_with fail
       go_roundw
       case rel=> exact ⟨k+1,by omega,by go_num,u.out,d.out⟩
       case measure=> simp [intOf];omega
    ·have y:Hid (l.all Pg.Bv=true):=by
      show _=_;rw [<-a.out,List.drop_eq_nil_of_le (by omega)];rfl
     go_wp2_with fail;go_ret;exact ⟨by rw [o.out,y.out];rfl,d.out⟩
end Go.Proofs.YtolgpnaoaodepaaGreat
