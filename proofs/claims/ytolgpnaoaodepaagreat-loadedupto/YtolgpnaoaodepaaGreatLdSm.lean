import Derived.Test.YtolgpnaoaodepaaGreatLdOm
namespace Go.Proofs.YtolgpnaoaodepaaGreat
open Go.RowKit
set_option maxHeartbeats 400000 in
theorem Ai1 (v:Value) (b:List Bool) (w:World) (h:w.ownsRow 0 4 1 v b.length (b.map .bool)) (I:b.length<=1000000000):
  Calls Tryz.prog 137 #[v,.bool false] w fun r w'=> Below w.heap.size w w'/\((r= .returned (.int .i64 (-1))/\false∉b)\/∃i:Nat,r= .returned (.int .i64 (i:Nat))/\i<=1000000000/\false∈b):=by
 have H:=hid h;obtain ⟨a,c,rfl⟩:=Ab h;clear h;go_enter Tryz.func137,Tryz.ntmps137;go_wp2_with fail
 go_loopw [8] (fun m wr=>∃i:Nat,m= .int .i64 (i:Nat)/\i<=b.length/\false∉b.take i/\Below w.heap.size w wr) (fun m _=> b.length - (intOf m).toNat)
 case atStart=> exact ⟨0,rfl,Nat.zero_le _,by simp,Below.refl _ _⟩
 case round=>
  obtain ⟨i,rfl,C,o,s⟩:=hrel;have n:=hid o;have f:=hid s;clear o s;by_cases d:i < b.length
  ·obtain ⟨g,D,e,F,G,t,-⟩:=Aj0 H.out i d;simp only [Value.slice.injEq] at e;obtain ⟨rfl,-,rfl⟩:=e;have u:=(f.out.cell (p:=⟨g,i,none⟩) G).trans t;have j:Hid (b.take (i+1)=b.take i++[b[i]'d]):=by
    show _=_;rw [List.take_add_one,List.getElem?_eq_getElem d];rfl
   have y:=hid (List.getElem_mem d);have A:(0:Int)<=(i:Int):=(by omega);have B:(i:Int) < (b.length:Int):=(by omega);clear t;generalize b[i]'d=x at*
   cases x with
   | false=>
    go_wp2_with fail;go_ret;exact ⟨f.out,.inr ⟨i,rfl,by omega,y.out⟩⟩
   | true=>
    have k:Hid (false∉b.take (i+1)):=fun z=> by
     rw [j.out] at z;rcases List.mem_append.1 z with q | q
     ·exact n.out q
     ·simp at q
    go_wp2_with fail;exact ⟨⟨i+1,by go_num,by omega,k.out,f.out⟩,by simp [intOf];omega⟩
  ·have l:Hid (false∉b):=fun z=> by
    have:=n.out;rw [List.take_of_length_le (by omega)] at this;exact this z
   go_wp2_with fail;go_ret;exact ⟨f.out,.inl ⟨rfl,l.out⟩⟩
set_option maxHeartbeats 400000 in
theorem Aan (v:Value) (b:List Bool) (w:World) (h:w.ownsRow 0 4 1 v b.length (b.map .bool)) (l:b.length<=1000000000):
  Calls Tryz.prog 74 #[v,.bool false] w fun r w'=> Below w.heap.size w w'/\((r= .returned (.bool false)/\false∉b)\/(r= .returned (.bool true)/\false∈b)):=by
 have k:=hid (Ai1 v b w h l);obtain ⟨a,c,rfl⟩:=Ab h;clear h;go_enter Tryz.func74,Tryz.ntmps74;go_wp2_with fail;refine k.out.mono ?_;rintro r m ⟨f,⟨rfl,d⟩ | ⟨i,rfl,hi,d⟩⟩
 ·have g:=hid f;have j:=hid d;clear f d;go_wp2_with fail;go_ret;exact ⟨g.out,.inl ⟨rfl,j.out⟩⟩
 ·have g:=hid f;have j:=hid d;clear f d;have h0:(0:Int)<=(i:Int):=by omega
  go_wp2_with fail;go_ret;exact ⟨g.out,.inr ⟨rfl,j.out⟩⟩
theorem Akr:(Tryz.prog.info? 4).map (fun i=> (i.zero,i.size,i.bytes))=some (some (.bool false),1,1):=by kernel_rfl
theorem Ar8 (w:World) {b:Array Oper} {rest:List Oper} {o:Oper} {a:Act} {Q:Exit->Act->World->Prop} (m:o.guard=none) (l c:Operand) (p:o.op=Op.makeSlice 150 l c) (n:Nat) (u:a.eval l= .int .i64 (n:Int)) (y:a.eval c= .int .i64 (n:Int)) (B:n<=1000000000)
  (h:∀w',w'.ownsRow w.heap.size 4 1 (.slice (some ⟨w.heap.size,0,none⟩) n n) n ((Ld.Ic n []).map .bool)->Below w.heap.size w w'->wpList Tryz.prog b Q rest (a.put o.dst (.slice (some ⟨w.heap.size,0,none⟩) n n)) w'):wpList Tryz.prog b Q (o::rest) a w:=by
 obtain ⟨i,hi,d,f,g⟩:=info_parts Akr;refine wpList_make_full w m l c 150 p w.heap.size 4 i (.bool false) 1 Tryz.underlying150 hi d f .i64 .i64 (n:Int) (n:Int) n u y rfl rfl (by rw [g];omega) (by unfold maxLen;omega) (Nat.le_refl _) ?_;intro w' r s;refine h w' ?_ ((Below.refl _ w).grown s (Nat.le_refl _) (fun k t=> by cases t));have e:∀xs q:List Value,xs=q->w'.ownsRow w.heap.size 4 1 (.slice (some ⟨w.heap.size,0,none⟩) n n) n xs->w'.ownsRow w.heap.size 4 1 (.slice (some ⟨w.heap.size,0,none⟩) n n) n q:=fun _ _ e h=> e▸h
 refine e _ _ ?_ r;rw [Nat.mul_one];apply List.ext_getElem
 ·simp [madeCells,Ld.Ic]
 ·intro j z A;simp [madeCells,Ld.Ic,Value.cells,Nat.mod_one]
set_option maxHeartbeats 400000 in
theorem Aks (w:World):
  Calls Tryz.prog 31 #[] w fun r w'=> r= .returned (.pointer (some ⟨w.heap.size+1,0,none⟩))/\TB w' (w.heap.size+1) w.heap.size/\An w' w.heap.size (.slice none 0 0) (.slice none 0 0) (.slice none 0 0)/\Below w.heap.size w w':=by
 have c:=heap_alloc_new w (.cells #[.slice none 0 0,.slice none 0 0,.slice none 0 0] 123);have d:Below w.heap.size w (w.alloc (.cells #[.slice none 0 0,.slice none 0 0,.slice none 0 0] 123)):=(Below.refl _ w).alloc (Nat.le_refl _) _;have f:(w.alloc (.cells #[.slice none 0 0,.slice none 0 0,.slice none 0 0] 123)).heap.size=w.heap.size+1:=by simp
 have j:Hid (TB ((w.alloc (.cells #[.slice none 0 0,.slice none 0 0,.slice none 0 0] 123)).alloc (.cells #[.pointer (some ⟨w.heap.size,0,none⟩)] 125)) (w.heap.size+1) w.heap.size/\An ((w.alloc (.cells #[.slice none 0 0,.slice none 0 0,.slice none 0 0] 123)).alloc (.cells #[.pointer (some ⟨w.heap.size,0,none⟩)] 125)) w.heap.size (.slice none 0 0) (.slice none 0 0) (.slice none 0 0)/\Below w.heap.size w ((w.alloc (.cells #[.slice none 0 0,.slice none 0 0,.slice none 0 0] 123)).alloc (.cells #[.pointer (some ⟨w.heap.size,0,none⟩)] 125))):=by
  generalize w.alloc (.cells #[.slice none 0 0,.slice none 0 0,.slice none 0 0] 123)=b at*;have g:=heap_alloc_new b (.cells #[.pointer (some ⟨w.heap.size,0,none⟩)] 125);have i:Below b.heap.size b (b.alloc (.cells #[.pointer (some ⟨w.heap.size,0,none⟩)] 125)):=(Below.refl _ b).alloc (Nat.le_refl _) _;rw [f] at g;exact ⟨g,(i.block _ (by omega)).trans c,d.trans (i.mono (by omega))⟩
 clear c d f;go_enter Tryz.func31,Tryz.ntmps31;go_wp2_with fail;go_ret;exact ⟨rfl,j.out⟩
theorem LoM.start {w0:World} {K:List (Nat×Obj)} {j c:Value} {iml:List ByteArray} {v:Value} {p:Nat} {W:World} (z:LdM j c iml (Ld.Ic iml.length []) W) (A:Kb 0 W v [(0,p,⟨#[]⟩,⟨#[]⟩)]) (l:An W p (.slice none 0 0) (.slice none 0 0) (.slice none 0 0)) (k:(∀g,c.ownBlock=some g->w0.heap.size<=g)/\w0.heap.size<=p) (B:∀x∈K,x.1 < W.heap.size/\c.ownBlock≠some x.1/\x.1≠p/\W.heap[x.1]?=some x.2) (C:Below w0.heap.size w0 W):LoM w0 K j c iml [] v [(0,p,⟨#[]⟩,⟨#[]⟩)] 0 p W:=by
 refine ⟨z,A,fun x d=> ?_,by simp,⟨k.1,fun x d=> ?_⟩,fun x d=> ?_,⟨List.nodup_nil,fun n l=> (by cases l)⟩,by simp,by simp,fun x d=> ?_,fun H f t u D=> ?_,⟨[],List.nodup_nil,fun g m=> (by cases m),fun h W' y Gs a b i _=> ?_⟩,C⟩
 ·rw [List.mem_singleton.1 d];exact l
 ·rw [List.mem_singleton.1 d];exact k.2
 ·rw [List.mem_singleton.1 d];exact Nat.zero_le _
 ·obtain ⟨o,q,r,s⟩:=B x d;exact ⟨o,q,by simpa using r,s⟩
 ·refine ⟨H,[f],rfl,⟨⟨u,t⟩,trivial⟩,?_⟩;rw [Ld.Ez];show (Ld.nums H f).Perm ([]++(Ld.nums H f++[]));rw [List.append_nil,List.nil_append]
 ·match y,Gs,a,b,i with
  | [f],[F],a,b,i=>
   refine ⟨h,f,F,rfl,a.1.2,a.1.1,?_,b.1.1 rfl,by simpa using i,fun g m=> .inr (by simpa using m)⟩;rw [Ld.Ez];show (Ld.nums h f).Perm ([]++(Ld.nums h f++[]));rw [List.append_nil,List.nil_append]
  | [],_,a,_,_=> exact a.elim
  | _::_::_,_,a,_,_=> exact a.2.elim
  | [_],[],_,b,_=> exact b.elim
  | [_],_::_::_,_,b,_=> exact b.2.elim
def loK (b p lb:Nat) (vim vre:Value):List (Nat×Obj):=[(b,.cells #[.pointer (some ⟨p,0,none⟩)] 125 (0,0)),(lb,.cells #[vim,vre] 152 (0,0))]
def LoQ (A:(H:Nat)->Ld.PT H->World->Nat->World->Prop) (iml:List ByteArray) (w:World) (r:Ending) (w':World):Prop:=
 Below w.heap.size w w'/\((r=Ae/\¬Ld.Sb (Ag iml))\/∃(H:Nat) (f:Ld.PT H) (W:World) (b b' p:Nat) (F:List Nat),r= .returned (.pointer (some ⟨b',0,none⟩))/\Ld.Co (Ag iml) H [] [] f/\Ld.num H f=0/\(Ld.nums H f).Nodup/\(∀n,n < iml.length->n∈Ld.nums H f)/\TB W b p/\Rep H W p (Ld.tr (Ag iml) H [] [] f) F/\F.Nodup/\b∉F/\(∀g∈b::F,w.heap.size<=g)/\Below w.heap.size w W/\((b'=b/\H < 64/\W=w')\/(64<=H/\A H f W b' w')))
theorem LoM.out {w:World} {K:List (Nat×Obj)} {b a:Value} {iml:List ByteArray} {rd:List Nat} {v:Value} {c:List TkM} {d p:Nat} {W W':World} (h:LoM w K b a iml rd v c d p W) (i:Mod (fun g=> a.ownBlock=some g\/g∈c.map (·.2.1)) W W'):Below w.heap.size w W':=
 h.bel.trans (i.below h.bel.size fun g z=> by
  rcases z with z | z
  ·exact h.low.1 g z
  ·obtain ⟨y,f,rfl⟩:=List.mem_map.1 z;exact h.low.2 y f)
set_option maxHeartbeats 1000000 in
set_option maxRecDepth 20000 in
theorem Ans (A:(H:Nat)->Ld.PT H->World->Nat->World->Prop) (c9:Value) (iml:List ByteArray) (w:World) (hv:Av 0 w c9 iml) (hl:iml.length<=40000000) (hA:∀(H:Nat) (f:Ld.PT H) (W:World) (b p:Nat) (F:List Nat),TB W b p->Rep H W p (Ld.tr (Ag iml) H [] [] f) F->F.Nodup->b∉F->Ld.Co (Ag iml) H [] [] f->(Ld.nums H f).Nodup->Ld.num H f=0->Calls Tryz.prog 75 #[.pointer (some ⟨b,0,none⟩)] W fun r w'=>∃b',r= .returned (.pointer (some ⟨b',0,none⟩))/\A H f W b' w'/\Below W.heap.size W w'):
  Calls Tryz.prog 42 #[c9] w (LoQ A iml w):=by
 obtain ⟨a,c,rfl⟩:=Ab hv;have HV:=hid hv;have d0:=hid hA;clear hv hA;go_enter Tryz.func42,Tryz.ntmps42;go_wp2_with (at_make;refine Ar8 w rfl (.tmp 9) (.tmp 9) rfl iml.length (by simp [Act.eval]) (by simp [Act.eval]) (by omega) ?_;intro u D N);have z1:w.heap.size < u.heap.size:=(World.ownsRow.lt D _ rfl).2;have G:Below u.heap.size u (u.alloc (.cells #[.slice a iml.length c,.slice (some ⟨w.heap.size,0,none⟩) iml.length iml.length] 152)):=(Below.refl _ u).alloc (Nat.le_refl _) _;have O:(u.alloc (.cells #[.slice a iml.length c,.slice (some ⟨w.heap.size,0,none⟩) iml.length iml.length] 152)).heap[u.heap.size]?=some (.cells #[.slice a iml.length c,.slice (some ⟨w.heap.size,0,none⟩) iml.length iml.length] 152 (0,0)):=heap_alloc_new _ _;have z2:u.heap.size < (u.alloc (.cells #[.slice a iml.length c,.slice (some ⟨w.heap.size,0,none⟩) iml.length iml.length] 152)).heap.size:=by simp
 generalize u.alloc (.cells #[.slice a iml.length c,.slice (some ⟨w.heap.size,0,none⟩) iml.length iml.length] 152)=w2 at*;refine (Aks w2).mono ?_;rintro r s ⟨rfl,i,a0,M⟩;have a1:=hid ((N.trans (G.mono N.size)).trans (M.mono (Nat.le_trans N.size G.size)));have b3:Hid (LdM (.slice a iml.length c) (.slice (some ⟨w.heap.size,0,none⟩) iml.length iml.length) iml (Ld.Ic iml.length []) s):=⟨Aa HV.out a1.out (Nat.le_refl _),by rw [Ld.Kc];exact Al (Aa (Aa D G (Nat.le_refl _)) M (Nat.le_refl _)) (Nat.zero_le _),Ld.Kc _ _⟩;have S:=hid ((M.block u.heap.size (by omega)).trans O);have b4:=hid i;have a2:=hid a0;have z3:w2.heap.size+1 < s.heap.size:=(Array.getElem?_eq_some_iff.1 i).1;have t0:s.cell? ⟨w2.heap.size+1,0,none⟩=some (.pointer (some ⟨w2.heap.size,0,none⟩)):=by unfold TB at i;simp [World.cell?,i]
 obtain ⟨b,J⟩:∃b,b=w2.heap.size+1:=⟨_,rfl⟩;obtain ⟨p,b1⟩:∃p,p=w2.heap.size:=⟨_,rfl⟩;obtain ⟨lb,b2⟩:∃lb,lb=u.heap.size:=⟨_,rfl⟩;rw [<-J,<-b1] at b4 t0;rw [<-b1] at a2;rw [<-b2] at S;rw [<-J] at z3;have d9:p < b:=by omega
 have e0:lb < p:=by omega
 have e1:w.heap.size < lb:=by omega
 clear i a0 N G M D O z1 z2;rw [<-J,<-b2];clear J b1 b2;have ba:Below s.heap.size s (s.alloc (.cells #[.int .i64 0,.pointer (some ⟨p,0,none⟩),.string ⟨#[]⟩,.string ⟨#[]⟩] 154)):=(Below.refl _ s).alloc (Nat.le_refl _) _;have d1:Hid (LoM w (loK b p lb (.slice a iml.length c) (.slice (some ⟨w.heap.size,0,none⟩) iml.length iml.length)) (.slice a iml.length c) (.slice (some ⟨w.heap.size,0,none⟩) iml.length iml.length) iml [] (.slice (some ⟨s.heap.size,0,none⟩) 1 1) [(0,p,⟨#[]⟩,⟨#[]⟩)] 0 p (s.alloc (.cells #[.int .i64 0,.pointer (some ⟨p,0,none⟩),.string ⟨#[]⟩,.string ⟨#[]⟩] 154))):=by
  refine LoM.start (b3.out.mod ba) ⟨rfl,.inr ⟨s.heap.size,1,#[.int .i64 0,.pointer (some ⟨p,0,none⟩),.string ⟨#[]⟩,.string ⟨#[]⟩],rfl,Nat.zero_le _,heap_alloc_new _ _,Nat.le_refl _,by unfold maxLen;omega,rfl,rfl⟩⟩ ((ba.block _ a2.out.lt).trans a2.out) ⟨fun g z=> Nat.le_of_eq (Option.some.inj z),by omega⟩ (fun x hx=> ?_) (a1.out.trans (ba.mono a1.out.size));have hs:=ba.size;rcases List.mem_cons.1 hx with rfl | hx
  ·exact ⟨Nat.lt_of_lt_of_le z3 hs,fun z=> by have:w.heap.size=b:=Option.some.inj z;omega,by show b≠p;omega,(ba.block b z3).trans b4.out⟩
  ·obtain rfl:=List.mem_singleton.1 hx;have b5:lb < s.heap.size:=(by omega);exact ⟨Nat.lt_of_lt_of_le b5 hs,fun z=> by have:w.heap.size=lb:=Option.some.inj z;omega,by show lb≠p;omega,(ba.block lb b5).trans S.out⟩
 clear ba;go_wp2_with fail;generalize s.alloc (.cells #[.int .i64 0,.pointer (some ⟨p,0,none⟩),.string ⟨#[]⟩,.string ⟨#[]⟩] 154)=w4 at*;have d2:Hid ((Ag iml).length=iml.length):=by show _=_;unfold Ag;rw [List.length_map]
 clear t0
 go_loopw [5,6] (fun v5 v6 wr=>∃(rd:List Nat) (d:Nat),v6= .int .i64 (d:Nat)/\d<=rd.length/\((∃L,LoM w (loK b p lb (.slice a iml.length c) (.slice (some ⟨w.heap.size,0,none⟩) iml.length iml.length)) (.slice a iml.length c) (.slice (some ⟨w.heap.size,0,none⟩) iml.length iml.length) iml rd v5 L d p wr)\/(Kb 0 wr v5 []/\LoD w (loK b p lb (.slice a iml.length c) (.slice (some ⟨w.heap.size,0,none⟩) iml.length iml.length)) (.slice a iml.length c) (.slice (some ⟨w.heap.size,0,none⟩) iml.length iml.length) iml rd d p wr))) (fun _ v6 _=> iml.length+1 - (intOf v6).toNat)
 case atStart=> exact ⟨[],0,rfl,Nat.zero_le _,.inl ⟨_,d1.out⟩⟩
 case round=>
  obtain ⟨rd,d,rfl,hd,⟨L,l⟩ | ⟨Y,Z⟩⟩:=hrel
  ·obtain ⟨a5,c5,rfl⟩:=Ab l.row;have d3:=Ld.Ie l.rdn.1 l.rdn.2;have e2:0 < L.length:=List.length_pos_iff.2 l.ne;have b6:L.length<=200000000:=(by have:=l.len;omega);obtain ⟨-,-,-,j⟩:=l.kept (lb,.cells #[.slice a iml.length c,.slice (some ⟨w.heap.size,0,none⟩) iml.length iml.length] 152 (0,0)) (by simp [loK]);simp only at j;have l0:wr.cell? ⟨lb,0,none⟩=some (.slice a iml.length c):=(by simp [World.cell?,j]);have l1:wr.cell? ⟨lb,1,none⟩=some (.slice (some ⟨w.heap.size,0,none⟩) iml.length iml.length):=(by simp [World.cell?,j]);have HM:=hid l;have d4:=hid (Aam _ _ _ iml rd L wr l.ld l.row l.nods l.dist l.nums b6);clear l j;go_wp2_with fail;refine d4.out.mono ?_;rintro r t ⟨hm,⟨rfl,c7⟩ | ⟨w6,e3,e4,Fs,v7,rfl,m,hu,R⟩⟩
   ·have HF:Hid (LoQ A iml w Ae t):=⟨HM.out.out hm,.inl ⟨rfl,HM.out.give c7⟩⟩;clear hm c7;unfold Ae at*;go_wp2_with fail;exact ⟨rfl,HF.out⟩
   ·have b7:d+1<=(rd++L.map (·.1)).length:=(by rw [List.length_append,List.length_map];omega);have HN:Hid ((∃d8,LoM w (loK b p lb (.slice a iml.length c) (.slice (some ⟨w.heap.size,0,none⟩) iml.length iml.length)) (.slice a iml.length c) (.slice (some ⟨w.heap.size,0,none⟩) iml.length iml.length) iml (rd++L.map (·.1)) v7 d8 (d+1) p t)\/(Kb 0 t v7 []/\LoD w (loK b p lb (.slice a iml.length c) (.slice (some ⟨w.heap.size,0,none⟩) iml.length iml.length)) (.slice a iml.length c) (.slice (some ⟨w.heap.size,0,none⟩) iml.length iml.length) iml (rd++L.map (·.1)) (d+1) p t)):=by
     rcases hu with hu | hu
     ·obtain ⟨h1,h2⟩:=HM.out.last m R hu;refine .inr ⟨?_,h1⟩;have:=R.row;rw [h2] at this;exact Al this (Nat.zero_le _)
     ·refine .inl ⟨_,HM.out.step m R fun n hn=> ?_⟩;have hl:=R.lev;obtain ⟨k,e⟩:=hl.pages n hn;rcases Ct iml k n e with q | q
      ·exact absurd q.1 (hu n hn)
      ·exact q.1
    clear hm m hu R l0 l1;go_wp2_with fail;exact ⟨⟨rd++L.map (·.1),d+1,by go_num,b7,HN.out⟩,by simp [intOf];omega⟩
  ·obtain ⟨a5,c5,rfl⟩:=Ab Y;have d3:=Ld.Ie Z.rdn.1 Z.rdn.2;obtain ⟨d7,-,j⟩:=Z.kept (lb,.cells #[.slice a iml.length c,.slice (some ⟨w.heap.size,0,none⟩) iml.length iml.length] 152 (0,0)) (by simp [loK]);obtain ⟨-,-,i⟩:=Z.kept (b,.cells #[.pointer (some ⟨p,0,none⟩)] 125 (0,0)) (by simp [loK]);simp only at j i d7;have l1:wr.cell? ⟨lb,1,none⟩=some (.slice (some ⟨w.heap.size,0,none⟩) iml.length iml.length):=(by simp [World.cell?,j]);have T:Hid (TB wr b p):=i;have d5:=hid (Aan _ _ wr Z.ld.re (by rw [Ld.Kc];omega));obtain ⟨H,f,F,he,c0,c1,c2,c3,c4,c6⟩:=Z.fin;have U:=hid Z;have a3:=hid c0;have a4:=hid c1;have I:=hid c2;have d6:=hid c3;have a6:=hid c4;have a7:=hid c6;have b8:Hid (false∈Ld.Ic iml.length rd↔∃n,n < iml.length/\n∉rd):=by
    constructor
    ·intro z;obtain ⟨n,hn,e⟩:=List.getElem_of_mem z;exact ⟨n,(Ld.We _ _ _).1 (by rw [List.getElem?_eq_getElem hn,e])⟩
    ·rintro ⟨n,h1,h2⟩;exact List.mem_of_getElem? ((Ld.We _ _ _).2 ⟨h1,h2⟩)
   clear Z j i c0 c1 c2 c3 c4 c6 Y;go_wp2_with fail;refine d5.out.mono ?_;rintro r t ⟨o,⟨rfl,C⟩ | ⟨rfl,C⟩⟩
   ·have y:=hid (U.out.bel.trans (o.mono U.out.bel.size));have V:Hid (∀n,n < iml.length->n∈Ld.nums H f):=fun n hn=> by
     refine I.out.mem_iff.2 (Classical.byContradiction fun q=> C (b8.out.2 ⟨n,hn,q⟩))
    have a8:Hid (TB t b p):=(o.block b (Array.getElem?_eq_some_iff.1 T.out).1).trans T.out;have a9:=hid (d6.out.keep (w':=t) fun g hg=> o.block g (a7.out g hg).1);have b0:Hid (b∉F):=fun z=> (a7.out b z).2.2.2 (by simp [loK])
    have X:Hid (∀g∈b::F,w.heap.size<=g):=fun g hg=> by
     rcases List.mem_cons.1 hg with q | q
     ·omega
     ·exact (a7.out g q).2.2.1
    clear o C;go_wp2_with fail;refine (Aw _).mono ?_;rintro r t ⟨rfl,rfl⟩;by_cases e5:64 < d
    ·have b9:(64:Int) < (d:Int):=(by omega);go_wp2_with fail;refine (d0.out H f t b p F a8.out a9.out a6.out b0.out a3.out (I.out.nodup_iff.2 U.out.rdn.1) a4.out).mono ?_;rintro r w6 ⟨b',rfl,c8,m⟩;have B:Hid (LoQ A iml w (.returned (.pointer (some ⟨b',0,none⟩))) w6):=⟨y.out.trans (m.mono y.out.size),.inr ⟨H,f,t,b,b',p,F,rfl,a3.out,a4.out,I.out.nodup_iff.2 U.out.rdn.1,V.out,a8.out,a9.out,a6.out,b0.out,X.out,y.out,.inr ⟨by omega,c8⟩⟩⟩;clear c8 m;go_wp2_with fail;go_ret;exact B.out
    ·have b9:¬(64:Int) < (d:Int):=(by omega);go_wp2_with fail;go_ret;exact ⟨y.out,.inr ⟨H,f,t,b,b,p,F,rfl,a3.out,a4.out,I.out.nodup_iff.2 U.out.rdn.1,V.out,a8.out,a9.out,a6.out,b0.out,X.out,y.out,.inl ⟨rfl,by omega,rfl⟩⟩⟩
   ·have B:Hid (LoQ A iml w Ae t):=by
     refine ⟨U.out.bel.trans (o.mono U.out.bel.size),.inl ⟨rfl,?_⟩⟩;rintro ⟨H',f',q1,q2,q3,q4⟩;obtain ⟨n,h1,h2⟩:=b8.out.1 C;exact h2 ((U.out.compl H' f' q1 q2 q3).mem_iff.1 (q4 n (by rw [d2.out];exact h1)))
    clear o C;go_wp2_with fail;refine (Ay _).mono ?_;rintro r w6 ⟨rfl,rfl⟩;unfold Ae at*;go_wp2_with fail;exact ⟨rfl,B.out⟩
end Go.Proofs.YtolgpnaoaodepaaGreat
namespace Go.Proofs.YtolgpnaoaodepaaGreat.Ld
open Go.Proofs.YtolgpnaoaodepaaGreat.Tr
theorem FF.each {α:Type} {R:Key->Key->α->Prop} {c:α->Nat}:∀{ts:List Tk} {b:List α},FF R c ts b->∀f∈b,∃lo hi,R lo hi f
 | t::ts,f::b,h,x,a=> by
  rcases List.mem_cons.1 a with rfl | a
  ·exact ⟨_,_,h.1.2⟩
  ·exact h.2.each x a
 | [],[],_,_,a=> by cases a
 | [],_::_,h,_,_=> h.elim
 | _::_,[],h,_,_=> h.elim
theorem Zo {x:It} (h:Alj x):Ew ((1:Int),x.1,x.2):=by
 unfold Ew Pg.Ax Pg.Bt;simp [h.1,h.2]
theorem Ai2 {P:List (Option Nd)} (i:Yu P):∀(h:Nat) (lo hi:Key) (f:PT h),Co P h lo hi f->∀c∈eff P h f,Ew c
 | 0,lo,hi,f,⟨nd,h1,h2,_⟩,c,a=> by
  rw [eff,Ht h1] at a;obtain ⟨x,j,rfl⟩:=List.mem_map.1 a;rcases i _ nd h1 with ⟨_,_,_,_,_,_,q⟩ | ⟨q,_⟩
  ·exact Zo (q x j)
  ·rw [h2] at q;exact absurd q (by decide)
 | h+1,lo,hi,(n,ks),⟨nd,h1,h2,_,h4⟩,c,a=> by
  rw [eff,Ht h1] at a;rcases List.mem_append.1 a with a | a
  ·obtain ⟨l,k,b⟩:=List.mem_flatten.1 a;obtain ⟨f,m,rfl⟩:=List.mem_map.1 k;obtain ⟨d,g,o⟩:=h4.each f m;exact Ai2 i h d g f o c b
  ·rcases i _ nd h1 with ⟨q,_⟩ | ⟨_,_,_,_,_,_,_,_,q⟩
   ·rw [h2] at q;exact absurd q (by decide)
   ·exact q c a
theorem Jv {α β:Type} (a:α->List β) (b:α->List Nat) (k:Nat):∀(l:List α),(∀x∈l,(a x).length<=k*(b x).length)->((l.map a).flatten).length<=k*((l.map b).flatten).length
 | [],_=> by simp
 | x::r,h=> by
  have d:=Jv a b k r fun y c=> h y (List.mem_cons_of_mem _ c)
  have f:=h x (List.mem_cons_self ..);simp only [List.map_cons,List.flatten_cons,List.length_append,Nat.mul_add];omega
theorem Add {P:List (Option Nd)} (c:Yu P):∀(h:Nat) (lo hi:Key) (f:PT h),Co P h lo hi f->(eff P h f).length<=16*(nums h f).length
 | 0,lo,hi,f,⟨nd,h1,h2,_⟩=> by
  rw [eff,Ht h1,List.length_map];rcases c _ nd h1 with ⟨_,_,_,_,q,_⟩ | ⟨q,_⟩
  ·show (its nd).length<=16*1;omega
  ·rw [h2] at q;exact absurd q (by decide)
 | h+1,lo,hi,(n,ks),⟨nd,h1,h2,_,h4⟩=> by
  rw [eff,Ht h1,List.length_append];have i:=Jv (eff P h) (nums h) 16 ks fun f g=> by
   obtain ⟨a,b,d⟩:=h4.each f g;exact Add c h a b f d
  have j:(chs nd).length<=8:=by
   rcases c _ nd h1 with ⟨q,_⟩ | ⟨_,_,_,_,_,_,_,q,_⟩
   ·rw [h2] at q;exact absurd q (by decide)
   ·exact q
  show _<=16*(n::(ks.map (nums h)).flatten).length;rw [List.length_cons];omega
theorem Sd (k:Key):∀(f:List Ch) (s:Option Key) (x:Key),(∀c∈f,Ew c)->(∀y,s=some y->y.length<=16/\Pg.Ei k.length=true)->Aj f k s=some x->x.length<=16/\Pg.Ei k.length=true
 | [],s,x,_,hs,h=> hs x h
 | c::f,s,x,hc,hs,h=> by
  rw [Dc] at h;refine Sd k f _ x (fun c g=> hc c (List.mem_cons_of_mem _ g)) (fun y b=> ?_) h;unfold one at b;by_cases e:c.2.1=k
  ·rw [if_pos e] at b;have d:=hc c (List.mem_cons_self ..);unfold Ew Pg.Ax Pg.Bt at d;simp only [Bool.and_eq_true,decide_eq_true_eq] at d;rw [<-e];refine ⟨?_,d.1.1⟩;unfold Di at b;by_cases i:c.1=2
   ·rw [if_pos i] at b;cases b
   ·rw [if_neg i] at b;by_cases j:c.1=3
    ·rw [if_pos j] at b;rw [<-Option.some.inj b];exact Wv _
    ·rw [if_neg j] at b;rw [<-Option.some.inj b];exact d.1.2
  ·rw [if_neg e] at b;exact hs y b
theorem Abz {P:List (Option Nd)} (c:Yu P):∀(h:Nat) (lo hi:Key) (f:PT h),Co P h lo hi f->h < (nums h f).length
 | 0,_,_,_,_=> Nat.zero_lt_one
 | h+1,lo,hi,(n,ks),⟨nd,h1,h2,_,h4⟩=> by
  have d:=h4.len;have j:=Rw (c _ nd h1) lo hi;have k:1<=(kds nd).length:=by
   rcases c _ nd h1 with ⟨q,_⟩ | ⟨_,_,q,_⟩
   ·rw [h2] at q;exact absurd q (by decide)
   ·exact q
  obtain ⟨f,g,rfl⟩:=List.exists_cons_of_ne_nil (l:=ks) (fun e=> by rw [e,List.length_nil] at d;omega);obtain ⟨a,b,i⟩:=h4.each f (List.mem_cons_self ..);have:=Abz c h a b f i;show h+1 < (n::((f::g).map (nums h)).flatten).length;rw [List.map_cons,List.flatten_cons,List.length_cons,List.length_append];omega
end Go.Proofs.YtolgpnaoaodepaaGreat.Ld
namespace Go.Proofs.YtolgpnaoaodepaaGreat
open Go.RowKit
theorem Afo {P:List (Option Ld.Nd)} (a:Ld.Yu P) {H:Nat} {f:Ld.PT H} (h:Ld.Co P H [] [] f) {N:Nat} (d:Tr.wt H (Ld.tr P H [] [] f)<=2*N):Tr.Acr (fun k=> Tr.Aj (Ld.eff P H f) k none) N H (Ld.tr P H [] [] f):=by
 obtain ⟨b,c⟩:=Ld.Aiw a H [] [] f h rfl (.inl rfl);exact ⟨b,c,fun k=> Ld.Ahl a k H [] [] f h ⟨List.not_lt_nil k,.inl rfl⟩ (.inl rfl),d⟩
theorem Vi {iml:List ByteArray} {H:Nat} {f:Ld.PT H} (h:Ld.Co (Ag iml) H [] [] f) {W:World} {b p:Nat} {F:List Nat} (a:TB W b p) (c:Rep H W p (Ld.tr (Ag iml) H [] [] f) F) (d:F.Nodup) (g:b∉F) {N:Nat} (i:Tr.wt H (Ld.tr (Ag iml) H [] [] f)<=2*N) (m:(Ld.nums H f).length<=2000000):Ek (fun k=> Tr.Aj (Ld.eff (Ag iml) H f) k none) N b F W:=
 ⟨H,p,_,by
  have j:=Ld.Abz (Ct iml) H [] [] f h;have l:=Tr.St Tr.Hf (Ld.Aiw (Ct iml) H [] [] f h rfl (.inl rfl)).1;omega,a,c,d,g,Afo (Ct iml) h i⟩
end Go.Proofs.YtolgpnaoaodepaaGreat
